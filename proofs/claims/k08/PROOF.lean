import PyProof.Rows.All
import Wide.All
import OpenK.AllK
import Wide.FinOn
import HandS.ForMost
import HandS.Exc
import HandS.TryOnly
import HandS.TryMany
import HandS.ExcInit
import HandS.ExcField
import HandS.ExcIs
import HandS.IsInst
import HandS.WordsExc
import HandS.OwnEq
import HandS.Flow
import HandS.Style
import HandS.Strs
import HandS.Conv
import HandS.SetKeys
import HandS.DictComp
import HandS.TupLe
import HandS.TupAny
import HandS.Defaults
import HandS.Wide
import HandS.EndBits
import HandS.SortInts
import HandS.Walk
import HandS.Rev
import HandS.Evl
import KE.KOpsOwn
import KE.KOwnIter
import HandS.List
import HandS.IterNext
import HandS.Zip0
import PyProof.TupleIter
import PyProof.FactsLen
import HandS.ExcCtx
import HandS.HotCalls
import KE.KExcIs
import HandS.SortKw
import HandS.Deep
import PySem.Challenge.RW_duehouse_k08_whole_one_entry
/-! DhBase -/
set_option Elab.async false
set_option linter.all false
set_option maxRecDepth 100000
set_option maxHeartbeats 4000000
namespace Dh
open PySem PySem.Spec L2

/-! ### own operators of an instance -/
section
variable {X : Cx} {CX : CXT} {k : Nat} {f C : Addr} {fd : FuncData} {ps : List Str} {sp : Sp} {E : XK}
def rOwn (C : Addr) (sp : Sp) (E : XK) : R2 := fun x y H Q => ∃ a dx fs, x = .ref a ∧ H a = some (.ins C dx fs) ∧ sp [x, y] H Q E
theorem cmpBack_of {pins : List (Addr × Obj)} {σ : L2.St} {Q : VK} {u : Value} {s : Shared} (h : EP X pins σ Q u s) : PySem.W.CmpBack (EP X pins σ Q) u s := by
  cases u with
  | notImplemented =>
    obtain ⟨v, H', _, r, _⟩ := h
    cases v
    · cases r
    · cases r
    · obtain ⟨_, e⟩ := r; cases e
    · obtain ⟨_, e⟩ := r; cases e
    · obtain ⟨_, e⟩ := r; cases e
    · obtain ⟨_, e⟩ := r; cases e
    · cases r
    · cases r
  | _ => exact h
theorem ip_own {op : Operator} (F : FnOk X.prog X.w X.K X.mg X.base CX k f fd ps sp) (hr : Room k X.A) (hc : PySem.W.selfFirst X.K C = true)
    (hs : PySem.W.findIn X.K (.ref C) (PySem.dunderI op.info.2) = some (some (.ref f))) (hf : PySem.W.isFn X.K (.ref f) = true) (hb : Binds X.K fd ps []) (hx : Passes CX X E) : PIp X op (rOwn C sp E) := by
  intro pins s σ H x y v u Q I rx ry h
  obtain ⟨a, dx, fs, rfl, ha, hsp⟩ := h
  obtain rfl : v = Value.ref a := rx
  obtain ⟨mA, J, _⟩ := ins_get I.hok ha
  obtain ⟨od, J, _⟩ := J.look
  obtain ⟨m, hF⟩ := I.fr
  refine PySem.W.ksp_inplace hF I.ok.mod.kin J hc hs hf ?_
  refine wpAny_mono (run_fn (us := [.ref a, u]) (ds := []) (dvs := []) F hr hb .nil hx I (.cons (show RelV (.ref a) (.ref a) from rfl) (.cons ry .nil)) (by simpa using hsp)) (fun u s' q => cmpBack_of q) fun _ _ e => e
end

/-! ### small operators -/
section
variable {X : Cx}
theorem op_mul_ib : OpR X (binaryOp .Mult) (fun x y H Q => ∃ i k, x = .int i ∧ y = .bl k ∧ Q (.int (i * (if k = true then 1 else 0))) H) := by
  intro pins s σ H x y v u Q I rx ry h
  obtain ⟨i, k, rfl, rfl, q⟩ := h
  obtain ⟨t, rfl⟩ := rx
  obtain rfl : u = Value.bool k := ry
  exact PySem.IntBool.mul_int_bool ⟨.int (i * (if k = true then 1 else 0)), H, I.tok _, ⟨_, rfl⟩, q⟩
end
end Dh
namespace Ob
open PySem PySem.SeqAt
open AutoSeq1 (wpAny_loadPart')
open MeetsSeq MeetsSeq2 MeetsSeq3 SeqRoads2
/-- t <= u of two tuples whose first items are told apart -/
theorem tuple_leFirst (l b : Addr) (items items2 : Array Value) (n n2 : Nat) (dd dd2 : Option Addr) (sl sl2 : Array (Option Value)) (r : Bool) (h1 : 0 < items.size) (h2 : 0 < items2.size) :
    Meets (Builtin.«tuple.__le__» ⟨[.ref l, .ref b], []⟩)
      (fun A R s => s.heap.get? l = some { cls := .type "tuple", dict := dd, data := .seq items n, slots := sl } ∧ s.heap.get? b = some { cls := .type "tuple", dict := dd2, data := .seq items2 n2, slots := sl2 } ∧
        EqAt A.in1 s items[0] items2[0] false ∧ RcOp .LtE A.in1 s items[0] items2[0] r ∧ R (.ok (.ret (.bool r))) s) :=
  .of_wp fun prog w A R s h => by
    obtain ⟨hp, g, d, tk, os⟩ := s; obtain ⟨hl, hb, he, hr, h⟩ := h
    have f2 := AutoSeq1.sub_tuple_tuple
    have hZ : (items.toList.zip items2.toList).length = min items.size items2.size := by simp
    have hlt : 0 < (items.toList.zip items2.toList).length := by rw [hZ]; omega
    wp_walk using wpAny_loadPart' hl, wpAny_loadPart' hb, wpAny_forIn_list _ (fun rest b s' => b.1 = none ∧ s' = ⟨hp, g, d, tk, os⟩ ∧ rest = (items.toList.zip items2.toList)) _
    case turn =>
      rintro ⟨y, x⟩ rest b s' ⟨hb', rfl, hz⟩
      have hz' : (y, x) :: rest = (items.toList.zip items2.toList).drop 0 := by rw [List.drop_zero]; exact hz
      rw [List.drop_eq_getElem_cons hlt] at hz'
      injection hz' with hyx hrest
      have hy : y = items[0] := by have := congrArg Prod.fst hyx; simpa using this
      have hx : x = items2[0] := by have := congrArg Prod.snd hyx; simpa using this
      subst hy hx
      refine wpAny_bind (he prog w _ _ ?_)
      have hri := hr prog w
      wp_walk using hri
      exact ⟨_, rfl, h⟩
    case fin =>
      rintro ⟨b1, b2⟩ s' ⟨hb', rfl, hz⟩
      rw [← hz] at hlt
      exact absurd hlt (by simp)
    case h =>
      exact ⟨rfl, rfl, rfl⟩
theorem RcOp.tuples_leF {A : Around} {s : Shared} {l b : Addr} {items items2 : Array Value} {r : Bool} (hl : s.heap.IsTuple l items) (hb : s.heap.IsTuple b items2) (hu : A.units < cLine) (h1 : 0 < items.size) (h2 : 0 < items2.size)
    (he : EqAt A.in1 s items[0] items2[0] false) (hr : RcOp .LtE A.in1 s items[0] items2[0] r) :
    RcOp .LtE A s (.ref l) (.ref b) r := fun prog w E Q h => by
  obtain ⟨⟨cls, dd, data, sl⟩, ho, hc, n, hd⟩ := id hl
  obtain ⟨⟨cls2, dd2, data2, sl2⟩, ho2, hc2, n2, hd2⟩ := id hb
  simp only at hc hd hc2 hd2
  subst hc hd hc2 hd2
  exact richCompare_meets_room (op := .LtE) ⟨_, ho, rfl⟩ ⟨_, ho2, rfl⟩ F.slot_tuple_le F.entry_tuple_le (F.args_tuple_le_2 _ _) (tuple_leFirst l b items items2 n n2 dd dd2 sl sl2 r h1 h2)
    ⟨ho, ho2, he, hr, ⟨(fun x => nomatch x), h⟩⟩ hu
end Ob
namespace Dh
open PySem PySem.Spec L2
/-- t <= u, their first items two different ints -/
def rLeF (K : PySem.W.Frag) : R2 := fun x y H Q => ∃ (a b : Addr) (i j : Int) (xs ys : List V), x = .ref a ∧ y = .ref b ∧ SqT K H a (.int i :: xs) ∧ SqT K H b (.int j :: ys) ∧ i ≠ j ∧ Q (.bl (decide (i ≤ j))) H
theorem op_leF {X : Cx} (hu : X.A.units < cLine) : OpR X (compareOp .LtE) (rLeF X.K) := by
  intro pins s σ H x y v u Q I rx ry h
  obtain ⟨a, b, i, j, xs, ys, rfl, rfl, ha, hb, ne, q⟩ := h
  obtain rfl : v = Value.ref a := rx
  obtain rfl : u = Value.ref b := ry
  obtain ⟨its, r1, p1, _⟩ := I.tuple ha
  obtain ⟨its2, r2, p2, _⟩ := I.tuple hb
  cases r1 with
  | cons q1 t1 =>
    cases r2 with
    | cons q2 t2 =>
      rename_i u1 us1 u2 us2
      obtain ⟨t, rfl⟩ := q1
      obtain ⟨t', rfl⟩ := q2
      have R := Ob.RcOp.tuples_leF (A := X.A) (s := s) (r := decide (i ≤ j)) p1 p2 hu (by simp) (by simp) (by
          have z : (i == j) = false := beq_eq_false_iff_ne.mpr ne
          have := SeqAt.EqAt.int_int (A := X.A.in1) (s := s) i t j t'
          rw [z] at this
          simpa using this) (by simpa using Ob.RcOp.le_int _ _ _ _)
      exact R X.prog X.w X.xe (EP X pins σ Q) ⟨.bl _, H, I, rfl, q⟩
end Dh
namespace Dh
open PySem PySem.Spec L2
/-! ### the calls of built-ins, by names -/
def rInt1 : List V → Hp → VK → Prop := fun xs H Q => (∃ i, xs = [.int i] ∧ Q (.int i) H) ∨ ∃ k, xs = [.bl k] ∧ Q (.int (if k then 1 else 0)) H
def rAbs : List V → Hp → VK → Prop := fun xs H Q => ∃ i, xs = [.int i] ∧ Q (.int (if i < 0 then -i else i)) H
def rLenQ (K : PySem.W.Frag) : List V → Hp → VK → Prop := fun xs H Q => ∃ p ys, xs = [.ref p] ∧ (SqL K H p ys ∨ SqT K H p ys) ∧ Q (.int ys.length) H
def rLenS : List V → Hp → VK → Prop := fun xs H Q => ∃ z, xs = [.str z] ∧ z.length ≤ sizeLine ∧ Q (.int z.length) H
def rLenD : List V → Hp → VK → Prop := fun xs H Q => ∃ a kvs, xs = [V.ref a] ∧ H a = some (.dK kvs) ∧ Q (.int kvs.length) H
def rListQ (K : PySem.W.Frag) : List V → Hp → VK → Prop := fun xs H Q => ∃ p ys, xs = [.ref p] ∧ (SqL K H p ys ∨ SqT K H p ys) ∧ ∀ l, H l = none → Q (.ref l) (upd H l (.lst ys))
def rTupQ (K : PySem.W.Frag) : List V → Hp → VK → Prop := fun xs H Q => ∃ p ys, xs = [.ref p] ∧ ((SqL K H p ys ∧ ∀ l, H l = none → Q (.ref l) (upd H l (.tup ys))) ∨ (SqT K H p ys ∧ Q (.ref p) H))
section
variable {X : Cx}
theorem cl_int : CallR X (.type "int") rInt1 := call_int1
theorem cl_abs : CallR X (.builtin "abs") rAbs := call_abs
theorem cl_len : CallR X (.builtin "len") (rLenQ X.K) := call_len_seq
theorem cl_lenS : CallR X (.builtin "len") rLenS := call_len_str
theorem cl_lenD : CallR X (.builtin "len") rLenD := call_lenD
theorem cl_list : CallR X (.type "list") (rListQ X.K) := call_list_of
theorem cl_tuple : CallR X (.type "tuple") (rTupQ X.K) := call_tuple_of
def rAddIB : R2 := fun x y H Q => ∃ i k, x = .int i ∧ y = .bl k ∧ Q (.int (i + PyProof.Rows.b2i k)) H
def rMulIB : R2 := fun x y H Q => ∃ i k, x = .int i ∧ y = .bl k ∧ Q (.int (i * (if k = true then 1 else 0))) H
theorem op_addIB : OpR X (binaryOp .Add) rAddIB := op_add_ib
theorem op_mulIB : OpR X (binaryOp .Mult) rMulIB := op_mul_ib
def rAddS : R2 := fun x y H Q => ∃ i j : Str, x = .str i ∧ y = .str j ∧ i.length + j.length ≤ sizeLine ∧ Q (.str (i.append j)) H
end
end Dh
namespace Dh
open PySem PySem.Spec L2
open _root_.Evl (Ex)
/-! ### numbers -/
theorem int_eq {i j : Int} : decide (V.int i = V.int j) = decide (i = j) := by simp
theorem str_eq {i j : Str} : decide (V.str i = V.str j) = decide (i = j) := by simp
theorem fmod_lt {a m : Int} (h : 0 < m) : 0 ≤ a.fmod m ∧ a.fmod m < m := by
  rw [Int.fmod_eq_emod_of_nonneg _ (Int.le_of_lt h)]
  exact ⟨Int.emod_nonneg _ (by omega), Int.emod_lt_of_pos _ h⟩
theorem cm_fmod {a m j : Int} (h0 : 0 < m) (h1 : m ≤ 18446744073709551616) : CMul (a.fmod m) j := by
  have := fmod_lt (a := a) h0
  exact Or.inl ⟨by omega, by omega⟩
theorem atI_lt {α : Type} {xs : List α} {i : Int} (h0 : 0 ≤ i) (h1 : i < xs.length) : ∃ v, atI xs i = some v ∧ xs[i.toNat]? = some v := by
  obtain ⟨j, rfl⟩ := Int.eq_ofNat_of_zero_le h0
  have hj : j < xs.length := by omega
  exact ⟨xs[j], atI_nat (by simp [hj]), by simp [hj]⟩
theorem atI_ints {ns : List Int} {i : Int} (h0 : 0 ≤ i) (h1 : i < ns.length) : ∃ z, atI (ns.map V.int) i = some (.int z) ∧ ns[i.toNat]? = some z := by
  obtain ⟨v, h, e⟩ := atI_lt (xs := ns.map V.int) h0 (by simpa using h1)
  rw [List.getElem?_map] at e
  cases q : ns[i.toNat]? with
  | none => rw [q] at e; cases e
  | some z => rw [q] at e; cases e; exact ⟨z, h, rfl⟩
theorem erase_perm {α : Type} : ∀ {l : List α} {n : Nat} {y : α}, l[n]? = some y → (y :: l.eraseIdx n).Perm l
  | [], _, _, h => by simp at h
  | a :: l, 0, y, h => by simp at h; subst h; simp
  | a :: l, n + 1, y, h => by
    have ih := erase_perm (l := l) (n := n) (y := y) (by simpa using h)
    rw [List.eraseIdx_cons_succ]
    exact (List.Perm.swap _ _ _).trans (ih.cons a)
/-! ### a reading, step by step -/
section
variable {σ : L2.St} {H : Hp} {Q : VK} {v : V} {ta tb te : TE} {r : R2} {D : Ends} {t u : TS} {K : PySem.W.Frag}
theorem i_var {i : Nat} (h : σ[i]? = some (some v)) (k : Q v H) : tVar i σ H Q := ⟨v, h, k⟩
theorem i_c (k : Q v H) : tC v σ H Q := k
theorem i_op (k : ta σ H fun x H1 => tb σ H1 fun y H2 => r x y H2 Q) : tOp r ta tb σ H Q := k
theorem i_un {q : V → Hp → VK → Prop} (k : ta σ H fun x H1 => q x H1 Q) : tUn q ta σ H Q := k
theorem i_cb {q : List V → Hp → VK → Prop} {a : TA} (k : a σ H fun vs H1 => q vs H1 Q) : tCB q a σ H Q := k
theorem i_nil {q : List V → Hp → Prop} (k : q [] H) : tNil σ H q := k
theorem i_cons {a : TA} {q : List V → Hp → Prop} (k : ta σ H fun x H1 => a σ H1 fun xs H2 => q (x :: xs) H2) : tCons ta a σ H q := k
theorem i_call {sp : Sp} {E : XK} {a : TA} (k : a σ H fun vs H1 => sp (vs ++ []) H1 Q E) : tCall sp [] E a σ H Q := k
theorem i_call' {sp : Sp} {E : XK} {vs : List V} (k : sp vs H Q E) : sp (vs ++ []) H Q E := by rw [List.append_nil]; exact k
theorem i_I0 {g : Int → Int → V} {i j : Int} (k : Q (g i j) H) : rI0 g (.int i) (.int j) H Q := ⟨i, j, rfl, rfl, k⟩
theorem i_I {C : Int → Int → Prop} {g : Int → Int → V} {i j : Int} (c : C i j) (k : Q (g i j) H) : rI C g (.int i) (.int j) H Q := ⟨i, j, rfl, rfl, c, k⟩
theorem i_eqI {i j : Int} (k : Q (.bl (decide (i = j))) H) : rEq (.int i) (.int j) H Q := ⟨rfl, by rw [int_eq]; exact k⟩
theorem i_neI {i j : Int} (k : Q (.bl (!decide (i = j))) H) : rNe (.int i) (.int j) H Q := ⟨rfl, by rw [int_eq]; exact k⟩
theorem i_eqS {i j : Str} (k : Q (.bl (decide (i = j))) H) : rEq (.str i) (.str j) H Q := ⟨rfl, by rw [str_eq]; exact k⟩
theorem i_neS {i j : Str} (k : Q (.bl (!decide (i = j))) H) : rNe (.str i) (.str j) H Q := ⟨rfl, by rw [str_eq]; exact k⟩
theorem i_eq {x y : V} (s : scal x y = true) (k : Q (.bl (decide (x = y))) H) : rEq x y H Q := ⟨s, k⟩
theorem i_ne {x y : V} (s : scal x y = true) (k : Q (.bl (!decide (x = y))) H) : rNe x y H Q := ⟨s, k⟩
theorem i_int1 {i : Int} (k : Q (.int i) H) : rInt1 [.int i] H Q := .inl ⟨i, rfl, k⟩
theorem i_abs {i : Int} (k : Q (.int (if i < 0 then -i else i)) H) : rAbs [.int i] H Q := ⟨i, rfl, k⟩
theorem i_addIB {i : Int} {c : Bool} (k : Q (.int (i + PyProof.Rows.b2i c)) H) : rAddIB (.int i) (.bl c) H Q := ⟨i, c, rfl, rfl, k⟩
theorem i_mulIB {i : Int} {c : Bool} (k : Q (.int (i * (if c = true then 1 else 0))) H) : rMulIB (.int i) (.bl c) H Q := ⟨i, c, rfl, rfl, k⟩
theorem i_listL {p : Addr} {xs : List V} (h : SqL K H p xs) (k : ∀ l, H l = none → Q (.ref l) (upd H l (.lst xs))) : rListQ K [.ref p] H Q := ⟨p, xs, rfl, .inl h, k⟩
theorem i_listT {p : Addr} {xs : List V} (h : SqT K H p xs) (k : ∀ l, H l = none → Q (.ref l) (upd H l (.lst xs))) : rListQ K [.ref p] H Q := ⟨p, xs, rfl, .inr h, k⟩
theorem i_tupL {p : Addr} {xs : List V} (h : SqL K H p xs) (k : ∀ l, H l = none → Q (.ref l) (upd H l (.tup xs))) : rTupQ K [.ref p] H Q := ⟨p, xs, rfl, .inl ⟨h, k⟩⟩
theorem i_lenD {p : Addr} {xs : List (Key × V)} (h : H p = some (.dK xs)) (k : Q (.int xs.length) H) : rLenD [.ref p] H Q := ⟨p, xs, rfl, h, k⟩
theorem i_ixL {p : Addr} {xs : List V} {i : Int} (h : SqL K H p xs) (a : atI xs i = some v) (k : Q v H) : rIxL K (.ref p) (.int i) H Q := ⟨p, xs, i, v, rfl, rfl, h, a, k⟩
theorem i_ixT {p : Addr} {xs : List V} {i : Int} (h : SqT K H p xs) (a : atI xs i = some v) (k : Q v H) : rIxT K (.ref p) (.int i) H Q := ⟨p, xs, i, v, rfl, rfl, h, a, k⟩
theorem i_lenL {p : Addr} {xs : List V} (h : SqL K H p xs) (k : Q (.int xs.length) H) : rLenQ K [.ref p] H Q := ⟨p, xs, rfl, .inl h, k⟩
theorem i_lenT {p : Addr} {xs : List V} (h : SqT K H p xs) (k : Q (.int xs.length) H) : rLenQ K [.ref p] H Q := ⟨p, xs, rfl, .inr h, k⟩
theorem i_lenS {z : Str} (h : z.length ≤ sizeLine) (k : Q (.int z.length) H) : rLenS [.str z] H Q := ⟨z, rfl, h, k⟩
theorem i_tup {a : TA} (k : a σ H fun xs H1 => xs.length ≤ sizeLine ∧ ∀ p, H1 p = none → Q (.ref p) (upd H1 p (.tup xs))) : tTup a σ H Q := k
theorem i_lst {a : TA} (k : a σ H fun xs H1 => xs.length ≤ sizeLine ∧ ∀ p, H1 p = none → Q (.ref p) (upd H1 p (.lst xs))) : tLst a σ H Q := k
theorem i_seq (k : t { D with nx := u D } σ H) : tSeq t u D σ H := k
theorem i_asg {i : Nat} (k : te σ H fun x H1 => D.nx (σ.set i (some x)) H1) : tAsg te (gName i) D σ H := k
theorem i_asgG {g : TG} (k : te σ H fun x H1 => g x σ H1 D.nx) : tAsg te g D σ H := k
theorem i_gname {i : Nat} {q : L2.St → Hp → Prop} (k : q (σ.set i (some v)) H) : gName i v σ H q := k
theorem i_gsub {to ti : TE} {s : TSet} {q : L2.St → Hp → Prop} (k : to σ H fun o H1 => ti σ H1 fun i H2 => s o i v H2 fun H3 => q σ H3) : gSub to ti s v σ H q := k
theorem i_setL {p : Addr} {xs : List V} {i : Int} {j : Nat} {q : Hp → Prop} (h : H p = some (.lst xs)) (a : ixN xs.length i = some j) (k : q (upd H p (.lst (xs.set j v)))) : rSetL (.ref p) (.int i) v H q := ⟨p, xs, i, j, rfl, rfl, h, a, k⟩
theorem i_ret (k : te σ H D.rt) : tRet te D σ H := k
theorem i_drop (k : te σ H fun _ H1 => D.nx σ H1) : tDrop te D σ H := k
theorem i_ifS {c : TT} (k : c σ H fun b H1 => if b = true then t D σ H1 else u D σ H1) : tIfS c t u D σ H := k
theorem i_next (k : D.nx σ H) : tNext D σ H := k
theorem i_test {q : Bool → Hp → Prop} (k : te σ H fun x H1 => ∃ b, x = .bl b ∧ q b H1) : tTest te σ H q := k
theorem i_B {q : Bool → Hp → Prop} (k : te σ H fun x H1 => ∃ b, x = .bl b ∧ q b H1) : tB te σ H q := k
theorem i_bl {b : Bool} {p : Bool → Prop} (k : p b) : ∃ b', V.bl b = .bl b' ∧ p b' := ⟨b, rfl, k⟩
theorem i_not {c : TT} {q : Bool → Hp → Prop} (k : c σ H fun b H1 => q (!b) H1) : tNot c σ H q := k
theorem i_and {c d : TT} {q : Bool → Hp → Prop} (k : c σ H fun b H1 => if b = true then d σ H1 q else q false H1) : tAnd c d σ H q := k
theorem i_or {c d : TT} {q : Bool → Hp → Prop} (k : c σ H fun b H1 => if b = true then q true H1 else d σ H1 q) : tOr c d σ H q := k
theorem i_app {l : Addr} {xs : List V} {y : V} (h : H l = some (.lst xs)) (z : xs.length < sizeLine) (k : Q .non (upd H l (.lst (xs ++ [y])))) : rAppend (.ref l) [y] H Q := ⟨l, xs, y, rfl, rfl, h, z, k⟩
theorem i_bm {T : String} {q : V → List V → Hp → VK → Prop} {a : TA} (k : te σ H fun x H1 => tyV K T x H1 ∧ a σ H1 fun xs H2 => q x xs H2 Q) : tBM K T q te a σ H Q := k
theorem i_sl {r : V → Option Int → Option Int → Hp → VK → Prop} {tl th : TO} (k : te σ H fun x H1 => tl σ H1 fun l H2 => th σ H2 fun u H3 => r x l u H3 Q) : tSl r te tl th σ H Q := k
theorem i_nopart {q : Option Int → Hp → Prop} (k : q none H) : tNoPart σ H q := k
theorem i_part {q : Option Int → Hp → Prop} (k : te σ H fun x H1 => ∃ i, x = .int i ∧ q (some i) H1) : tPart te σ H q := k
theorem i_isint {i : Int} {p : Int → Prop} (k : p i) : ∃ i', V.int i = .int i' ∧ p i' := ⟨i, rfl, k⟩
theorem i_slL {p : Addr} {xs : List V} {lo hi : Option Int} (h : SqL K H p xs) (k : ∀ q, H q = none → Q (.ref q) (upd H q (.lst (cutV xs lo hi)))) : rSlL K (.ref p) lo hi H Q := ⟨p, xs, rfl, h, k⟩
theorem i_slS {z : Str} {lo hi : Option Int} (h : z.length ≤ sizeLine) (k : Q (.str (cutS z lo hi)) H) : rSlS (.str z) lo hi H Q := ⟨z, rfl, h, k⟩
theorem i_gtup {n : Nat} {t : TGs} {p : Addr} {xs : List V} {q : L2.St → Hp → Prop} (h : SqT K H p xs) (l : xs.length = n) (k : t xs σ H q) : gTup K n t (.ref p) σ H q := ⟨p, xs, rfl, h, l, k⟩
theorem i_gcons {t : TG} {u : TGs} {r : List V} {q : L2.St → Hp → Prop} (k : t v σ H fun σ' H' => u r σ' H' q) : gCons t u (v :: r) σ H q := ⟨v, r, rfl, k⟩
theorem i_gnil {q : L2.St → Hp → Prop} (k : q σ H) : gNil [] σ H q := ⟨rfl, k⟩
theorem i_ty {l : Addr} {xs : List V} {p : Prop} (h : H l = some (.lst xs)) (k : p) : tyV K "list" (.ref l) H ∧ p := ⟨.inl ⟨rfl, _, .inl (.inl h)⟩, k⟩
theorem i_popN {l : Addr} {xs : List V} {i : Int} (h : H l = some (.lst xs)) (h0 : 0 ≤ i) (h1 : i < xs.length) (h2 : xs.length < 1000000000) (k : ∀ y, xs[i.toNat]? = some y → Q y (upd H l (.lst (xs.eraseIdx i.toNat)))) : rPopAt (.ref l) [.int i] H Q := by
  obtain ⟨j, rfl⟩ := Int.eq_ofNat_of_zero_le h0
  have hj : j < xs.length := by omega
  refine ⟨l, xs, _, j, xs[j], rfl, rfl, h, by omega, by omega, ?_, by simp [hj], k _ (by simp [hj])⟩
  simp [seqIndex?]
  omega
theorem i_bm0 {T : String} {q : V → List V → Hp → VK → Prop} (k : te σ H fun x H1 => tyV K T x H1 ∧ q x [] H1 Q) : tBM0 K T q te σ H Q := k
theorem ty_l {l : Addr} {xs : List V} (h : H l = some (.lst xs)) : tyV K "list" (.ref l) H := .inl ⟨rfl, _, .inl (.inl h)⟩
theorem iteD {c A B : Prop} [Decidable c] (h1 : c → A) (h2 : ¬ c → B) : if decide c = true then A else B := by
  by_cases h : c
  · rw [if_pos (decide_eq_true h)]; exact h1 h
  · rw [if_neg (by simp [h])]; exact h2 h
theorem iteB {c : Bool} {A B : Prop} (h1 : c = true → A) (h2 : c = false → B) : if c = true then A else B := by
  cases c with
  | true => exact iteT (h1 rfl)
  | false => exact iteF (h2 rfl)
theorem i_ifJ {c : TT} (b : Bool) (h : ∀ q : Bool → Hp → Prop, q b H → c σ H q) (k : if b = true then t D σ H else u D σ H) : tIfS c t u D σ H := h _ k
theorem and_q {b1 b2 : Bool} {q : Bool → Hp → Prop} {X : Prop} (hq : q (b1 && b2) H) (hx : q b2 H → X) : if b1 = true then X else q false H := by
  cases b1 with
  | true => exact iteT (hx hq)
  | false => exact iteF hq
theorem or_q {b1 b2 : Bool} {q : Bool → Hp → Prop} {X : Prop} (hq : q (b1 || b2) H) (hx : q b2 H → X) : if b1 = true then q true H else X := by
  cases b1 with
  | true => exact iteT hq
  | false => exact iteF (hx hq)
theorem iteNT {A B : Prop} (h : B) : if (!true) = true then A else B := iteF h
theorem iteNF {A B : Prop} (h : A) : if (!false) = true then A else B := iteT h
theorem notF {c : Prop} [Decidable c] (h : ¬ c) : (!decide c) = true := by simp [h]
theorem notT {c : Prop} [Decidable c] (h : c) : (!decide c) = false := by simp [h]
theorem iteN {c A B : Prop} [Decidable c] (h1 : ¬ c → A) (h2 : c → B) : if (!decide c) = true then A else B := by
  by_cases h : c
  · rw [if_neg (by simp [h])]; exact h2 h
  · rw [if_pos (by simp [h])]; exact h1 h
theorem iteT' {c : Bool} {A B : Prop} (h : c = true) (k : A) : if c = true then A else B := by rw [if_pos h]; exact k
theorem iteF' {c : Bool} {A B : Prop} (h : c = false) (k : B) : if c = true then A else B := by rw [h]; exact iteF k
theorem upd_old {p a : Addr} {o u' : HO} (n : H p = none) (h : H a = some o) : upd H p u' a = some o := by rw [upd_ne (ne_of_none h n)]; exact h
theorem upd_oth {p a : Addr} {o u' : HO} (n : a ≠ p) (h : H a = some o) : upd H p u' a = some o := by rw [upd_ne n]; exact h
theorem ex_at {F : Hp} {a : Addr} {o : HO} (e : Ex F H) (h : F a = some o) : H a = some o := e _ _ h
theorem ex_by {F : Hp} {a : Addr} {o : HO} (h : F a = some o) (e : Ex F H) : H a = some o := e _ _ h
theorem ex_mut {F : Hp} {p : Addr} {o : HO} (n : F p = none) (e : Ex F H) : Ex F (upd H p o) := e.mut n
theorem ex_new {F : Hp} {p : Addr} {o : HO} (n : H p = none) (e : Ex F H) : Ex F (upd H p o) := e.trans (Ex.new n)
theorem ex_both {F : Hp} {p : Addr} {o : HO} (e : Ex F H) : Ex (upd F p o) (upd H p o) := fun a u h => by
  by_cases q : a = p
  · subst q; rw [upd_same] at h ⊢; exact h
  · rw [upd_ne q] at h ⊢; exact e a u h
theorem ex_none {F : Hp} {a : Addr} (e : Ex F H) (h : H a = none) : F a = none := _root_.Evl.fresh_back e h
end
end Dh
namespace Dh
open PySem PySem.Spec L2
open _root_.Evl (Ex)
/-! ### loops and comprehensions, over whatever is walked -/
section
variable {σ : L2.St} {H : Hp} {Q : VK} {K : PySem.W.Frag} {D : Ends} {g : TG} {tb : TS} {te tl : TE} {ta : TA} {tt : TT}
def ForG (n : Nat) (G : Hp → Prop) (Y : Nat → Hp → V → Hp → Prop) (g : TG) (tb : TS) (D : Ends) (σ : L2.St) (H : Hp) : Prop :=
  ∃ Pv : Nat → L2.St → Hp → Prop, Pv 0 σ H ∧ (∀ i σ H, i ≤ n → Pv i σ H → G H) ∧
    (∀ i x σ H H', i < n → Pv i σ H → Y i H x H' → g x σ H' fun σ2 H2 => tb { D with nx := Pv (i + 1), ct := Pv (i + 1), bk := D.nx } σ2 H2) ∧ ∀ σ H, Pv n σ H → D.nx σ H
def LcG (n : Nat) (G : Hp → Prop) (Y : Nat → Hp → V → Hp → Prop) (g : TG) (tt : TT) (te : TE) (vs : List Nat) (σ : L2.St) (H1 : Hp) (Q : VK) : Prop :=
  ∀ Dl, H1 Dl = none → ∃ Pv : Nat → Hp → Prop, Pv 0 (upd H1 Dl (.lst [])) ∧ (∀ i H, i ≤ n → Pv i H → G H) ∧
    (∀ i x H H', i < n → Pv i H → Y i H x H' → g x (wipe σ vs) H' fun σ2 H2 => wipe σ2 vs = wipe σ vs ∧ tt σ2 H2 fun b H3 =>
      if b = true then te σ2 H3 fun y H4 => ∃ acc, H4 Dl = some (.lst acc) ∧ acc.length < sizeLine ∧ Pv (i + 1) (upd H4 Dl (.lst (acc ++ [y]))) else Pv (i + 1) H3) ∧ ∀ H, Pv n H → Q (.ref Dl) H
/-- the raw turn of a for over J from (σ, H1), of a comprehension -/
def RawF (J : It) (g : TG) (tb : TS) (D : Ends) (σ : L2.St) (H1 : Hp) : Prop := ∃ W : Nat → Nat → L2.St → Hp → Prop, (∃ m, W 0 m σ H1) ∧ ∀ i m σ H, W i m σ H →
  (J.stop i H ∧ D.nx σ H) ∨ (J.go i H ∧ ∃ N : L2.St → Hp → Prop, (∀ σ' H', N σ' H' → ∃ m', m' < m ∧ W (i + 1) m' σ' H') ∧ ∀ x H', J.yld i H x H' → g x σ H' fun σ2 H2 => tb { D with nx := N, ct := N, bk := D.nx } σ2 H2)
def RawC (J : It) (g : TG) (tt : TT) (te : TE) (vs : List Nat) (σ : L2.St) (H1 : Hp) (Q : VK) : Prop := ∀ D, H1 D = none → ∃ W : Nat → Nat → Hp → Prop, (∃ m, W 0 m (upd H1 D (.lst []))) ∧ ∀ i m H, W i m H →
  (J.stop i H ∧ Q (.ref D) H) ∨ (J.go i H ∧ ∃ Nx : Hp → Prop, (∀ H', Nx H' → ∃ m', m' < m ∧ W (i + 1) m' H') ∧ ∀ x H', J.yld i H x H' → g x (wipe σ vs) H' fun σ2 H2 => wipe σ2 vs = wipe σ vs ∧ tt σ2 H2 fun b H3 =>
    if b = true then te σ2 H3 fun y H4 => ∃ acc, H4 D = some (.lst acc) ∧ acc.length < sizeLine ∧ Nx (upd H4 D (.lst (acc ++ [y]))) else Nx H3)
def AtL (K : PySem.W.Frag) (R : It → Hp → Prop) (x : V) (H1 : Hp) : Prop := ∃ a, x = .ref a ∧ (∃ xs, SqL K H1 a xs) ∧ R (Itl K a) H1
def AtT (K : PySem.W.Frag) (R : It → Hp → Prop) (x : V) (H1 : Hp) : Prop := ∃ a, x = .ref a ∧ (∃ xs, SqT K H1 a xs) ∧ R (Itt K a) H1
def AtR1 (R : It → Hp → Prop) (vs : List V) (H1 : Hp) : Prop := ∃ j : Int, vs = [.int j] ∧ -(2 ^ 62) ≤ j ∧ j < 2 ^ 62 ∧ R (Itr 0 j.toNat) H1
def AtR2 (R : It → Hp → Prop) (vs : List V) (H1 : Hp) : Prop := ∃ i j : Int, vs = [.int i, .int j] ∧ (-(2 ^ 62) ≤ i ∧ i < 2 ^ 62 ∧ -(2 ^ 62) ≤ j ∧ j < 2 ^ 62) ∧ R (Itr i (j - i).toNat) H1
def AtE (K : PySem.W.Frag) (R : It → Hp → Prop) (vs : List V) (H1 : Hp) : Prop := ∃ a xs, vs = [.ref a] ∧ SqL K H1 a xs ∧ R (Ite K a) H1
def AtV (K : PySem.W.Frag) (R : It → Hp → Prop) (vs : List V) (H1 : Hp) : Prop := ∃ (a : Addr) (xs : List V), vs = [.ref a] ∧ SqL K H1 a xs ∧ R (Itv K a xs.length) H1
def AtS (R : It → Hp → Prop) (v : V) (H1 : Hp) : Prop := ∃ x, v = .str x ∧ R (Its x) H1
def AtK (R : It → Hp → Prop) (x : V) (H1 : Hp) : Prop := ∃ d o, x = .ref d ∧ ((∃ kvs, H1 d = some (.frz o (.dK kvs)) ∧ R (Itk d o kvs) H1) ∨ ∃ kvs, H1 d = some (.frz o (.dT kvs)) ∧ R (Itkt d o kvs) H1)
theorem i_forL (k : tl σ H (AtL K (RawF · g tb D σ ·))) : tFor (iList K tl) g tb D σ H := k
theorem i_forT (k : tl σ H (AtT K (RawF · g tb D σ ·))) : tFor (iTup K tl) g tb D σ H := k
theorem i_forR (k : ta σ H (AtR1 (RawF · g tb D σ ·))) : tFor (iRng1 ta) g tb D σ H := k
theorem i_forR2 (k : ta σ H (AtR2 (RawF · g tb D σ ·))) : tFor (iRng2 ta) g tb D σ H := k
theorem i_forE (k : ta σ H (AtE K (RawF · g tb D σ ·))) : tFor (iEnum K ta) g tb D σ H := k
theorem i_forV (k : ta σ H (AtV K (RawF · g tb D σ ·))) : tFor (iRev K ta) g tb D σ H := k
theorem i_forS (k : tl σ H (AtS (RawF · g tb D σ ·))) : tFor (iStr tl) g tb D σ H := k
theorem i_forK (k : tl σ H (AtK (RawF · g tb D σ ·))) : tFor (iKeys tl) g tb D σ H := k
theorem i_lcL {vs : List Nat} (k : tl σ H (AtL K (RawC · g tt te vs σ · Q))) : tLc (iList K tl) g tt te vs σ H Q := k
theorem i_lcT {vs : List Nat} (k : tl σ H (AtT K (RawC · g tt te vs σ · Q))) : tLc (iTup K tl) g tt te vs σ H Q := k
theorem i_lcR {vs : List Nat} (k : ta σ H (AtR1 (RawC · g tt te vs σ · Q))) : tLc (iRng1 ta) g tt te vs σ H Q := k
theorem i_lcR2 {vs : List Nat} (k : ta σ H (AtR2 (RawC · g tt te vs σ · Q))) : tLc (iRng2 ta) g tt te vs σ H Q := k
theorem i_lcS {vs : List Nat} (k : tl σ H (AtS (RawC · g tt te vs σ · Q))) : tLc (iStr tl) g tt te vs σ H Q := k
theorem i_lcK {vs : List Nat} (k : tl σ H (AtK (RawC · g tt te vs σ · Q))) : tLc (iKeys tl) g tt te vs σ H Q := k
theorem at_L {p : Addr} {xs : List V} {R : It → Hp → Prop} (h : SqL K H p xs) (k : R (Itl K p) H) : AtL K R (.ref p) H := ⟨p, rfl, ⟨xs, h⟩, k⟩
theorem raw_f {J : It} {n : Nat} {G : Hp → Prop} {Y : Nat → Hp → V → Hp → Prop} (w : Walk J n G Y) (k : ForG n G Y g tb D σ H) : RawF J g tb D σ H := by
  obtain ⟨Pv, p0, hG, ht, hd⟩ := k
  exact for_it w Pv p0 hG ht hd
theorem raw_c {J : It} {n : Nat} {G : Hp → Prop} {Y : Nat → Hp → V → Hp → Prop} {vs : List Nat} (w : Walk J n G Y) (k : LcG n G Y g tt te vs σ H Q) : RawC J g tt te vs σ H Q := fun Dl hD => by
  obtain ⟨Pv, p0, hG, ht, hd⟩ := k Dl hD
  exact lc_it w Pv p0 hG ht hd
theorem fl_L {p : Addr} {xs : List V} (h : SqL K H p xs) (k : ForG xs.length (fun H => SqL K H p xs) (YAt xs) g tb D σ H) : AtL K (RawF · g tb D σ ·) (.ref p) H := ⟨p, rfl, ⟨xs, h⟩, raw_f walk_list k⟩
theorem fl_T {p : Addr} {xs : List V} (h : SqT K H p xs) (k : ForG xs.length (fun H => SqT K H p xs) (YAt xs) g tb D σ H) : AtT K (RawF · g tb D σ ·) (.ref p) H := ⟨p, rfl, ⟨xs, h⟩, raw_f walk_tup k⟩
theorem fl_R {j : Int} (h0 : -(2 ^ 62) ≤ j) (h1 : j < 2 ^ 62) (k : ForG j.toNat (fun _ => True) (YFn fun i => .int (0 + i)) g tb D σ H) : AtR1 (RawF · g tb D σ ·) [.int j] H := ⟨j, rfl, h0, h1, raw_f walk_range k⟩
theorem fl_R2 {i j : Int} (h : -(2 ^ 62) ≤ i ∧ i < 2 ^ 62 ∧ -(2 ^ 62) ≤ j ∧ j < 2 ^ 62) (k : ForG (j - i).toNat (fun _ => True) (YFn fun x => .int (i + x)) g tb D σ H) : AtR2 (RawF · g tb D σ ·) [.int i, .int j] H := ⟨i, j, rfl, h, raw_f walk_range k⟩
theorem fl_E {p : Addr} {xs : List V} (h : SqL K H p xs) (k : ForG xs.length (fun H => SqL K H p xs) (YPair (fun i => some (.int (i : Nat))) (fun i => xs[i]?)) g tb D σ H) : AtE K (RawF · g tb D σ ·) [.ref p] H := ⟨p, xs, rfl, h, raw_f walk_enum k⟩
theorem fl_V {p : Addr} {xs : List V} (h : SqL K H p xs) (k : ForG xs.length (fun H => SqL K H p xs) (fun i H x H' => H' = H ∧ xs[xs.length - 1 - i]? = some x) g tb D σ H) : AtV K (RawF · g tb D σ ·) [.ref p] H := ⟨p, xs, rfl, h, raw_f walk_rev k⟩
theorem fl_S {z : Str} (k : ForG z.cps.size (fun _ => True) (fun i H v H' => H' = H ∧ ∃ c, z.cps[i]? = some c ∧ v = .str ⟨#[c]⟩) g tb D σ H) : AtS (RawF · g tb D σ ·) (.str z) H := ⟨z, rfl, raw_f walk_str k⟩
theorem fc_L {p : Addr} {xs : List V} {vs : List Nat} (h : SqL K H p xs) (k : LcG xs.length (fun H => SqL K H p xs) (YAt xs) g tt te vs σ H Q) : AtL K (RawC · g tt te vs σ · Q) (.ref p) H := ⟨p, rfl, ⟨xs, h⟩, raw_c walk_list k⟩
theorem fc_T {p : Addr} {xs : List V} {vs : List Nat} (h : SqT K H p xs) (k : LcG xs.length (fun H => SqT K H p xs) (YAt xs) g tt te vs σ H Q) : AtT K (RawC · g tt te vs σ · Q) (.ref p) H := ⟨p, rfl, ⟨xs, h⟩, raw_c walk_tup k⟩
theorem fc_R {j : Int} {vs : List Nat} (h0 : -(2 ^ 62) ≤ j) (h1 : j < 2 ^ 62) (k : LcG j.toNat (fun _ => True) (YFn fun i => .int (0 + i)) g tt te vs σ H Q) : AtR1 (RawC · g tt te vs σ · Q) [.int j] H := ⟨j, rfl, h0, h1, raw_c walk_range k⟩
theorem fc_R2 {i j : Int} {vs : List Nat} (h : -(2 ^ 62) ≤ i ∧ i < 2 ^ 62 ∧ -(2 ^ 62) ≤ j ∧ j < 2 ^ 62) (k : LcG (j - i).toNat (fun _ => True) (YFn fun x => .int (i + x)) g tt te vs σ H Q) : AtR2 (RawC · g tt te vs σ · Q) [.int i, .int j] H := ⟨i, j, rfl, h, raw_c walk_range k⟩
theorem fc_S {z : Str} {vs : List Nat} (k : LcG z.cps.size (fun _ => True) (fun i H v H' => H' = H ∧ ∃ c, z.cps[i]? = some c ∧ v = .str ⟨#[c]⟩) g tt te vs σ H Q) : AtS (RawC · g tt te vs σ · Q) (.str z) H := ⟨z, rfl, raw_c walk_str k⟩
theorem fc_K {d : Addr} {o : Obj} {kvs : List (Key × V)} {vs : List Nat} (h : H d = some (.frz o (.dK kvs))) (k : LcG kvs.length (fun H => H d = some (.frz o (.dK kvs))) (fun i H x H' => H' = H ∧ ∃ k v, kvs[i]? = some (k, v) ∧ x = kV k) g tt te vs σ H Q) : AtK (RawC · g tt te vs σ · Q) (.ref d) H := ⟨d, o, rfl, .inl ⟨kvs, h, raw_c walk_keys k⟩⟩
theorem map_range_getD (ns : List Int) : (List.range (ns.map V.int).length).map (fun i => V.int (ns.getD i 0)) = ns.map V.int := by
  apply List.ext_getElem?
  intro i
  simp only [List.getElem?_map, List.length_map]
  by_cases h : i < ns.length
  · simp [h]
  · simp [h]
theorem wipe1 (σ : L2.St) (j : Nat) : wipe σ [j] = σ.set j none := rfl
theorem wipe_set (σ : L2.St) (j : Nat) (v : Option V) : wipe ((wipe σ [j]).set j v) [j] = wipe σ [j] := by
  rw [wipe1, wipe1, List.set_set, List.set_set]
/-- a comprehension whose elements change nothing: its list is f 0, f 1, .. -/
theorem lc_pure {n j : Nat} {G : Hp → Prop} {Y : Nat → Hp → V → Hp → Prop} (f : Nat → V) (hn : n < sizeLine) (x : Nat → V) (hG : ∀ H', Ex H H' → G H') (hY : ∀ i H0 v H', i < n → Y i H0 v H' → H' = H0 ∧ v = x i)
    (he : ∀ i H' (Q' : VK), i < n → Ex H H' → Q' (f i) H' → te ((σ.set j none).set j (some (x i))) H' Q')
    (k : ∀ p, H p = none → Q (.ref p) (upd H p (.lst ((List.range n).map f)))) : LcG n G Y (gName j) tYes te [j] σ H Q := by
  intro Dl hD
  refine ⟨fun i H' => H' = upd H Dl (.lst ((List.range i).map f)), rfl, fun i H' _ e => ?_, fun i v H0 H' hi e y => ?_, fun H' e => ?_⟩
  · subst e; exact hG _ (Ex.new hD)
  · subst e
    obtain ⟨rfl, rfl⟩ := hY _ _ _ _ hi y
    refine ⟨wipe_set _ _ _, ?_⟩
    dsimp only [tYes]
    refine iteT (he i _ _ hi (Ex.new hD) ⟨_, upd_same, ?_, ?_⟩)
    · simp; omega
    · rw [upd_upd, List.range_succ, List.map_append]; rfl
  · subst e; exact k Dl hD
/-- a comprehension whose elements may change the heap: Pv by the turn, the list so far, the heap -/
def LcK (Dl : Addr) (Pv : Nat → List V → Hp → Prop) (i : Nat) (y : V) (H4 : Hp) : Prop := ∃ acc, H4 Dl = some (.lst acc) ∧ acc.length < sizeLine ∧ ∃ acc', upd H4 Dl (.lst (acc ++ [y])) Dl = some (.lst acc') ∧ Pv (i + 1) acc' (upd H4 Dl (.lst (acc ++ [y])))
theorem lcK {Dl : Addr} {Pv : Nat → List V → Hp → Prop} {i : Nat} {y : V} {acc : List V} (h : H Dl = some (.lst acc)) (l : acc.length < sizeLine) (p : Pv (i + 1) (acc ++ [y]) (upd H Dl (.lst (acc ++ [y])))) : LcK Dl Pv i y H := ⟨acc, h, l, _, upd_same, p⟩
theorem lc_eff {n j : Nat} {G : Hp → Prop} {Y : Nat → Hp → V → Hp → Prop} (k : ∀ Dl, H Dl = none → ∃ Pv : Nat → List V → Hp → Prop, Pv 0 [] (upd H Dl (.lst [])) ∧ (∀ i acc H', i ≤ n → Pv i acc H' → G H') ∧
    (∀ i x acc H1 H2, i < n → Pv i acc H1 → H1 Dl = some (.lst acc) → Y i H1 x H2 → te ((σ.set j none).set j (some x)) H2 (LcK Dl Pv i)) ∧
    ∀ acc H', Pv n acc H' → H' Dl = some (.lst acc) → Q (.ref Dl) H') : LcG n G Y (gName j) tYes te [j] σ H Q := by
  intro Dl hD
  obtain ⟨Pv, p0, hG, ht, hd⟩ := k Dl hD
  refine ⟨fun i H' => ∃ acc, H' Dl = some (.lst acc) ∧ Pv i acc H', ⟨[], upd_same, p0⟩, fun i H' hi ⟨acc, _, p⟩ => hG i acc H' hi p, fun i x H1 H2 hi ⟨acc, ha, p⟩ y => ⟨wipe_set _ _ _, ?_⟩, fun H' ⟨acc, ha, p⟩ => hd acc H' p ha⟩
  dsimp only [tYes]
  exact iteT (ht i x acc H1 H2 hi p ha y)
/-- .. with a test -/
theorem lc_pureIf {n j : Nat} {G : Hp → Prop} {Y : Nat → Hp → V → Hp → Prop} (f : Nat → V) (c : Nat → Bool) (hn : n < sizeLine) (x : Nat → V) (hG : ∀ H', Ex H H' → G H') (hY : ∀ i H0 v H', i < n → Y i H0 v H' → H' = H0 ∧ v = x i)
    (hc : ∀ i H' (Q' : Bool → Hp → Prop), i < n → Ex H H' → Q' (c i) H' → tt ((σ.set j none).set j (some (x i))) H' Q')
    (he : ∀ i H' (Q' : VK), i < n → c i = true → Ex H H' → Q' (f i) H' → te ((σ.set j none).set j (some (x i))) H' Q')
    (k : ∀ p, H p = none → Q (.ref p) (upd H p (.lst (((List.range n).filter c).map f)))) : LcG n G Y (gName j) tt te [j] σ H Q := by
  intro Dl hD
  have hl : ∀ i, ((List.range i).filter c).length ≤ i := fun i => by
    have := List.length_filter_le c (List.range i); simpa using this
  refine ⟨fun i H' => H' = upd H Dl (.lst (((List.range i).filter c).map f)), rfl, fun i H' _ e => ?_, fun i v H0 H' hi e y => ?_, fun H' e => ?_⟩
  · subst e; exact hG _ (Ex.new hD)
  · subst e
    obtain ⟨rfl, rfl⟩ := hY _ _ _ _ hi y
    refine ⟨wipe_set _ _ _, hc i _ _ hi (Ex.new hD) ?_⟩
    cases e : c i with
    | true =>
      refine iteT (he i _ _ hi e (Ex.new hD) ⟨_, upd_same, ?_, ?_⟩)
      · have := hl i; simp; omega
      · rw [upd_upd]; show _ = _
        rw [List.range_succ, List.filter_append, List.map_append]; simp [e]
    | false =>
      refine iteF ?_
      show _ = _
      rw [List.range_succ, List.filter_append]; simp [e]
  · subst e; exact k Dl hD
end
end Dh
namespace Dh
open PySem PySem.Spec L2
open _root_.Evl (Ex)
/-! ### texts; isinstance; all -/
def rInC : R2 := fun x y H Q => ∃ (c : Nat) (z : Str), x = .str ⟨#[c]⟩ ∧ y = .str z ∧ Q (.bl (decide (c ∈ z.cps.toList))) H
def rAddT : R2 := fun x y H Q => ∃ i j : Str, x = .str i ∧ y = .str j ∧ i.length + j.length ≤ sizeLine ∧ Q (.str (i ++ j)) H
def rJoin (K : PySem.W.Frag) : V → List V → Hp → VK → Prop := fun x xs H Q => ∃ a p, ∃ ys : List Str, x = .str a ∧ xs = [.ref p] ∧ (SqL K H p (ys.map V.str) ∨ SqT K H p (ys.map V.str)) ∧ (ys.map (·.length)).sum + ys.length * a.length ≤ 16777216 ∧ Q (.str (Txt.join a ys)) H
section
variable {X : Cx}
theorem op_inC : OpR X (compareOp .In) rInC := op_in_sign
theorem op_addT : OpR X (binaryOp .Add) rAddT := op_add_str
def tTru (K : PySem.W.Frag) (te : TE) : TT := fun σ H Q => te σ H fun x H' => ∃ k, TruV K x H' k ∧ Q k H'
theorem pt_tru {a : Expr} {ta : TE} (ha : PE X a ta) (he : ∀ whole, isTrue a X.env whole = (do let v ← whole; standAt a.pos; holding [v] (truthy v)) := by intro _; rfl) : PT X a (tTru X.K ta) := pt_truth ha he
theorem pe_joinL {o e : Expr} {to te : TE} {apos pos : Pos} (ho : PE X o to) (he : PE X e te) (hs : starEach [e] X.env = [(false, eval e X.env)] := by rfl) (hbase : attributeBase o "join" X.env (eval o X.env) = eval o X.env := by rfl) (hline : (apos.endLine == pos.line) = true := by rfl) :
    PE X (.Call (.Attribute o "join" apos) [e] [] pos) (tM1 (rJoin X.K) to te) := pe_join ho he hs hbase hline
end
section
variable {σ : L2.St} {H : Hp} {Q : VK} {v : V} {ta tb te : TE} {K : PySem.W.Frag}
theorem i_inC {c : Nat} {z : Str} (k : Q (.bl (decide (c ∈ z.cps.toList))) H) : rInC (.str ⟨#[c]⟩) (.str z) H Q := ⟨c, z, rfl, rfl, k⟩
theorem i_addT {i j : Str} (l : i.length + j.length ≤ sizeLine) (k : Q (.str (i ++ j)) H) : rAddT (.str i) (.str j) H Q := ⟨i, j, rfl, rfl, l, k⟩
theorem i_m1 {r : V → List V → Hp → VK → Prop} {to : TE} (k : to σ H fun x H1 => (∃ a, x = .str a) ∧ te σ H1 fun y H2 => r x [y] H2 Q) : tM1 r to te σ H Q := k
theorem i_isstr {a : Str} {p : Prop} (k : p) : (∃ a', V.str a = .str a') ∧ p := ⟨⟨a, rfl⟩, k⟩
theorem i_joinL {a : Str} {p : Addr} {ys : List Str} (h : SqL K H p (ys.map V.str)) (z : (ys.map (·.length)).sum + ys.length * a.length ≤ 16777216) (k : Q (.str (Txt.join a ys)) H) : rJoin K (.str a) [.ref p] H Q := ⟨a, p, ys, rfl, rfl, .inl h, z, k⟩
theorem i_all {p : Addr} {bs : List Bool} (h : SqL K H p (bs.map V.bl)) (k : Q (.bl (bs.all id)) H) : rAll K [.ref p] H Q := ⟨p, bs, rfl, h, k⟩
theorem is_int_int {i : Int} (k : Q (.bl true) H) : rIsi K [.int i, .ty "int"] H Q := ⟨_, _, _, _, true, rfl, .ty _, .base (.int i), kit_ty (by decide +kernel), k⟩
theorem is_int_bool {i : Int} (k : Q (.bl false) H) : rIsi K [.int i, .ty "bool"] H Q := ⟨_, _, _, _, false, rfl, .ty _, .base (.int i), kit_ty (by decide +kernel), k⟩
theorem is_str_str {i : Str} (k : Q (.bl true) H) : rIsi K [.str i, .ty "str"] H Q := ⟨_, _, _, _, true, rfl, .ty _, .base (.str i), kit_ty (by decide +kernel), k⟩
theorem is_tup_tup {a : Addr} {xs : List V} (h : H a = some (.tup xs)) (k : Q (.bl true) H) : rIsi K [.ref a, .ty "tuple"] H Q := ⟨_, _, _, _, true, rfl, .ty _, .base (.tup h), kit_ty (by decide +kernel), k⟩
theorem i_ixS {z : Str} {i : Int} {c : Nat} (l : z.length ≤ sizeLine) (h : atI z.cps.toList i = some c) (k : Q (.str ⟨#[c]⟩) H) : rIxS (.str z) (.int i) H Q := ⟨z, i, c, rfl, rfl, l, h, k⟩
theorem i_ifExp {t : TT} (k : t σ H fun c H1 => if c = true then ta σ H1 Q else tb σ H1 Q) : tIf t ta tb σ H Q := k
theorem i_andV (k : ta σ H fun x H1 => ∃ c, x = .bl c ∧ if c = true then tb σ H1 Q else Q (.bl false) H1) : tAndV ta tb σ H Q := k
theorem i_orV (k : ta σ H fun x H1 => ∃ c, x = .bl c ∧ if c = true then Q (.bl true) H1 else tb σ H1 Q) : tOrV ta tb σ H Q := k
theorem i_notV (k : ta σ H fun x H1 => ∃ c, x = .bl c ∧ Q (.bl (!c)) H1) : tNotV ta σ H Q := k
theorem i_chain {r r' : R2} {tc : TE} (k : ta σ H fun x H1 => tb σ H1 fun y H2 => r x y H2 fun z H3 => ∃ k, z = .bl k ∧ if k = true then tc σ H3 fun w' H4 => r' y w' H4 Q else Q (.bl false) H3) : tChain r r' ta tb tc σ H Q := k
theorem i_inL {neg : Bool} {x : V} {p : Addr} {xs : List V} (h : SqL K H p xs) (f : flatV x = true) (fs : xs.all flatV = true) (k : Q (.bl (if neg then !inV x xs else inV x xs)) H) : rIn K neg x (.ref p) H Q := ⟨p, xs, rfl, .inl h, f, fs, k⟩
theorem i_truT {q : Bool → Hp → Prop} (k : te σ H fun x H' => ∃ b, TruV K x H' b ∧ q b H') : tTru K te σ H q := k
theorem i_tru {q : Bool → Hp → Prop} {p : Addr} {xs : List V} (h : SqL K H p xs) (k : q (!xs.isEmpty) H) : ∃ b, TruV K (.ref p) H b ∧ q b H := ⟨_, .inl ⟨xs, h, rfl⟩, k⟩
theorem i_truL {p : Addr} {xs : List V} {r : Bool → Prop} (h : SqL K H p xs) (k : r (!xs.isEmpty)) : ∃ b, TruV K (.ref p) H b ∧ r b := ⟨_, .inl ⟨xs, h, rfl⟩, k⟩
theorem i_catL {a b : Addr} {xs ys : List V} (h : H a = some (.lst xs)) (h' : H b = some (.lst ys)) (l : xs.length + ys.length ≤ sizeLine) (k : ∀ p, H p = none → Q (.ref p) (upd H p (.lst (xs ++ ys)))) : rCat (.ref a) (.ref b) H Q := ⟨a, b, xs, ys, rfl, rfl, h, h', l, k⟩
theorem i_revL {p : Addr} {xs : List V} (k : te σ H fun x H1 => ∃ a xs, x = .ref a ∧ SqL K H1 a xs ∧ ∀ p, H1 p = none → Q (.ref p) (upd H1 p (.lst xs.reverse))) : tRevL K te σ H Q := k
theorem i_atLx {p : Addr} {xs : List V} {k : Addr → List V → Prop} (h : SqL K H p xs) (q : k p xs) : ∃ a xs, V.ref p = .ref a ∧ SqL K H a xs ∧ k a xs := ⟨p, xs, rfl, h, q⟩
end
end Dh
namespace Dh
open PySem PySem.Spec L2
open _root_.Evl (Ex)
/-- all but b is kept -/
def Kp (b : Addr) (H H' : Hp) : Prop := ∀ a o, a ≠ b → H a = some o → H' a = some o
theorem Kp.refl {b : Addr} {H : Hp} : Kp b H H := fun _ _ _ h => h
theorem Kp.trans {b : Addr} {H H1 H2 : Hp} (h : Kp b H H1) (k : Kp b H1 H2) : Kp b H H2 := fun a o n e => k a o n (h a o n e)
theorem Kp.of {b : Addr} {H H' : Hp} (e : Ex H H') : Kp b H H' := fun a o _ h => e a o h
theorem Kp.upd {b : Addr} {H : Hp} {o : HO} : Kp b H (upd H b o) := fun a u n e => by rw [upd_ne n]; exact e
theorem Kp.mut {b p : Addr} {H H' : Hp} {o : HO} (k : Kp b H H') (n : H p = none) : Kp b H (L2.upd H' p o) := fun a u ne e => by
  rw [upd_ne (ne_of_none e n)]; exact k a u ne e
theorem Kp.free {b p : Addr} {H H' : Hp} {o : HO} (k : Kp b H H') (hb : H' b = some o) (n : H' p = none) : H p = none := by
  cases q : H p with
  | none => rfl
  | some u =>
    by_cases e : p = b
    · subst e; rw [hb] at n; cases n
    · rw [k p u e q] at n; cases n
theorem Kp.also {b p : Addr} {H H' : Hp} {o : HO} (k : Kp b H H') (n : H p = none) (hp : H' p = some o) (ne : p ≠ b) : Kp b (L2.upd H p o) H' := fun a u na e => by
  by_cases q : a = p
  · subst q; rw [upd_same] at e; cases e; exact hp
  · rw [upd_ne q] at e; exact k a u na e
end Dh
/-! DhStr -/
set_option Elab.async false
set_option linter.all false
set_option maxRecDepth 100000
set_option maxHeartbeats 4000000
namespace Dh
open PySem PySem.Spec L2
/-! ### texts as lists of signs -/
abbrev Str.L (z : Str) : List Nat := z.cps.toList
theorem len_L (z : Str) : z.length = z.cps.toList.length := by show z.cps.size = _; simp
theorem app_L (a b : Str) : (a ++ b).cps.toList = a.cps.toList ++ b.cps.toList := by
  show (a.cps ++ b.cps).toList = _
  simp
theorem ext_L {a b : Str} (h : a.cps.toList = b.cps.toList) : a = b := by
  cases a; cases b
  simp at h
  subst h; rfl
theorem cut_to {z : Str} {k : Int} (h : 0 ≤ k) : (cutS z none (some k)).cps.toList = z.cps.toList.take k.toNat := by
  obtain ⟨n, rfl⟩ := Int.eq_ofNat_of_zero_le h
  show (((z.cps.toList.drop (HT.sIx z.length 0 none)).take (HT.sIx z.length z.length (some (n : Int)) - HT.sIx z.length 0 none)).toArray).toList = _
  rw [HT.sIx_none, HT.sIx_nat]
  simp [len_L, List.take_eq_take_iff]
theorem cut_from {z : Str} {k : Int} (h : 0 ≤ k) : (cutS z (some k) none).cps.toList = z.cps.toList.drop k.toNat := by
  obtain ⟨n, rfl⟩ := Int.eq_ofNat_of_zero_le h
  show (((z.cps.toList.drop (HT.sIx z.length 0 (some (n : Int)))).take (HT.sIx z.length z.length none - HT.sIx z.length 0 (some (n : Int)))).toArray).toList = _
  rw [HT.sIx_none, HT.sIx_nat]
  simp [len_L]
  by_cases q : n ≤ z.cps.size
  · rw [Nat.min_eq_left q, List.take_of_length_le (by simp)]
  · rw [Nat.min_eq_right (by omega)]
    rw [List.drop_eq_nil_of_le (by simp), List.drop_eq_nil_of_le (by simp; omega)]; simp
theorem join_L (ys : List Str) : (Txt.join "" ys).cps.toList = (ys.map fun y => y.cps.toList).flatten := by
  show (Builtin.Str.glued (PySem.Str.ofString "") ys).cps.toList = _
  rw [StrLaws.glued_eq_join]
  induction ys with
  | nil => rfl
  | cons a r ih =>
    cases r with
    | nil => simp [PySem.Str.join]
    | cons b r =>
      show (a ++ PySem.Str.ofString "" ++ PySem.Str.join (PySem.Str.ofString "") (b :: r)).cps.toList = _
      rw [app_L, app_L, ih]
      have : (PySem.Str.ofString "").cps.toList = [] := by decide +kernel
      rw [this]; simp
theorem not_in {α : Type} [DecidableEq α] : ∀ {l m : List α}, l.Nodup → m.length < l.length → ∃ x ∈ l, x ∉ m
  | [], m, _, h => by simp at h
  | a :: l, m, nd, h => by
    by_cases q : a ∈ m
    · have nd' := List.nodup_cons.mp nd
      obtain ⟨x, hx, hm⟩ := not_in (l := l) (m := m.erase a) nd'.2 (by
        have := List.length_erase_of_mem q
        have : 0 < m.length := List.length_pos_of_mem q
        simp at h; omega)
      refine ⟨x, List.mem_cons_of_mem _ hx, fun z => hm ?_⟩
      have ne : x ≠ a := fun e => nd'.1 (e ▸ hx)
      exact (List.mem_erase_of_ne ne).mpr z
    · exact ⟨a, List.mem_cons_self, q⟩
theorem inV_str {x : Str} {us : List Str} : inV (.str x) (us.map V.str) = decide (x ∈ us) := by
  unfold inV
  induction us with
  | nil => simp
  | cons a r ih =>
    rw [List.map_cons, List.any_cons, ih]
    show ((a == x) || _) = _
    by_cases q : a = x
    · subst q; simp
    · have : x ≠ a := fun e => q e.symm
      simp [q, this]
theorem inV_int {x : Int} {us : List Int} : inV (.int x) (us.map V.int) = decide (x ∈ us) := by
  unfold inV
  induction us with
  | nil => simp
  | cons a r ih =>
    rw [List.map_cons, List.any_cons, ih]
    show ((a == x) || _) = _
    by_cases q : a = x
    · subst q; simp
    · have : x ≠ a := fun e => q e.symm
      simp [q, this]
theorem flat_str {us : List Str} : (us.map V.str).all flatV = true := by simp [List.all_eq_true]; intro x _; rfl
theorem flat_int {us : List Int} : (us.map V.int).all flatV = true := by simp [List.all_eq_true]; intro x _; rfl
section
variable {H : Hp} {Q : VK} {K : PySem.W.Frag}
theorem i_inS {x : Str} {p : Addr} {us : List Str} (h : SqL K H p (us.map V.str)) (k : Q (.bl (decide (x ∈ us))) H) : rIn K false (.str x) (.ref p) H Q := by
  refine i_inL h rfl flat_str ?_
  rw [inV_str]; exact k
theorem i_niS {x : Str} {p : Addr} {us : List Str} (h : SqL K H p (us.map V.str)) (k : Q (.bl (!decide (x ∈ us))) H) : rIn K true (.str x) (.ref p) H Q := by
  refine i_inL h rfl flat_str ?_
  rw [inV_str]; exact k
theorem i_inI {x : Int} {p : Addr} {us : List Int} (h : SqL K H p (us.map V.int)) (k : Q (.bl (decide (x ∈ us))) H) : rIn K false (.int x) (.ref p) H Q := by
  refine i_inL h rfl flat_int ?_
  rw [inV_int]; exact k
theorem i_niI {x : Int} {p : Addr} {us : List Int} (h : SqL K H p (us.map V.int)) (k : Q (.bl (!decide (x ∈ us))) H) : rIn K true (.int x) (.ref p) H Q := by
  refine i_inL h rfl flat_int ?_
  rw [inV_int]; exact k
end
/-! ### names -/
def letters : List Nat := ("abcdefghijklmnopqrstuvwxyz" : Str).cps.toList
structure NameOk (s : Str) : Prop where
  lo : 1 ≤ s.length
  hi : s.length ≤ 8
  ls : ∀ c ∈ s.cps.toList, c ∈ letters
def tailOf (k : Nat) : Str := ⟨#[letters.getD (k / 26) 0]⟩ ++ ⟨#[letters.getD (k % 26) 0]⟩
def decOf (s : List Nat) : Nat := (s.getD 0 0 - 97) * 26 + (s.getD 1 0 - 97)
theorem lt_div : ∀ k : Nat, k < 676 → atI letters ((0 + (k : Int)).fdiv 26) = some (letters.getD (k / 26) 0) := by decide +kernel
theorem lt_mod : ∀ k : Nat, k < 676 → atI letters ((0 + (k : Int)).fmod 26) = some (letters.getD (k % 26) 0) := by decide +kernel
theorem dec_tail : ∀ k, k < 676 → decOf (tailOf k).cps.toList = k := by decide +kernel
theorem tail_ls : ∀ k, k < 676 → (tailOf k).cps.toList.length = 2 ∧ ∀ c ∈ (tailOf k).cps.toList, c ∈ letters := by decide +kernel
theorem cand_nd (t : Str) : ((List.range 676).map fun k => t ++ tailOf k).Nodup := by
  refine List.pairwise_map.mpr (List.Pairwise.imp_of_mem (R := (· ≠ ·)) (fun {a b} ha hb ne e => ne ?_) List.nodup_range)
  have ha := List.mem_range.mp ha
  have hb := List.mem_range.mp hb
  have := congrArg (fun s : Str => s.cps.toList) e
  simp only [app_L, List.append_cancel_left_eq] at this
  rw [← dec_tail a ha, ← dec_tail b hb, this]
theorem cand_free (t : Str) {us : List Str} (h : us.length < 676) : ∃ k, k < 676 ∧ t ++ tailOf k ∉ us := by
  obtain ⟨x, hx, hn⟩ := not_in (cand_nd t) (m := us) (by simpa using h)
  obtain ⟨k, hk, rfl⟩ := List.mem_map.mp hx
  exact ⟨k, List.mem_range.mp hk, hn⟩
end Dh
/-! OwnList -/
set_option Elab.async false
set_option linter.all false
set_option maxRecDepth 100000
set_option maxHeartbeats 4000000
/-! list(o), o's own __iter__ gives iter(tuple), its own __len__ a number -/
namespace L2
open PySem PySem.Spec PyProof.Rows
/-- at it an iterator over the tuple at l, the next place is i -/
def TiO (l it : Addr) (i : Nat) : HO := .ext fun h => h.IsTupleIter it l i
/-- there is something at it -/
def TiE (it : Addr) : HO := .ext fun h => ∃ o, h.get? it = some o
section
variable {X : Cx} {pins : List (Addr × Obj)} {σ : St} {H : Hp} {s : Shared} {l it m : Addr} {i : Nat}
theorem tiO_ok {P : Program} {w : World} {H : Hp} {h : Heap} (e : h.IsTupleIter it l i) : ObjOk P w H h it (TiO l it i) := ⟨e, (e.imp fun _ z => z.1), fun h1 h2 ⟨o, q, r⟩ k => ⟨o, k _ q, r⟩⟩
theorem tiE_ok {P : Program} {w : World} {H : Hp} {h : Heap} (e : ∃ o, h.get? it = some o) : ObjOk P w H h it (TiE it) := ⟨e, e, fun h1 h2 ⟨o, q⟩ k => ⟨o, k _ q⟩⟩
theorem tiO_get (I : Inv X pins σ H s) (e : H it = some (TiO l it i)) : s.heap.IsTupleIter it l i := (I.hok it _ e).1
/-- iter(l), l a tuple -/
def rIterT (K : PySem.W.Frag) : List V → Hp → VK → Prop := fun xs H Q => ∃ (l : Addr) (zs : List V), xs = [.ref l] ∧ SqT K H l zs ∧ ∀ it, H it = none → Q (.ref it) (upd H it (TiO l it 0))
theorem call_iterTup : CallR X (.builtin "iter") (rIterT X.K) := by
  intro pins s σ H xs us Q I r h
  obtain ⟨l, zs, rfl, hq, q⟩ := h
  obtain rfl := Vals.ref1 r
  obtain ⟨its, rv, pl, hz⟩ := I.tuple hq
  refine Calls.call_function_entry (by decide +kernel) (by decide +kernel) PySem.W.kdk_entry_iter (PySem.W.kdk_args_iter _) ?_
  unfold Builtin.«iter»
  refine wpAny_bind (m := someArgs "iter" 1 2 _) (wpAny_of_eq (a := [Value.ref l]) (by first | rfl | kernel_rfl!) ?_)
  show wpAny _ _ (pyIter (.ref l) >>= _) _ _ _
  refine wpAny_bind (wpAny_pyIter_tuple pl ?_)
  exact wpAny_pure ⟨_, rfl, ⟨.ref s.heap.objs.size, _, I.laid (t' := s.toks) (fun b u e => Heap.get?_push_of_some _ e) (Nat.le_refl _) (tiO_ok ⟨_, Heap.get?_push_size _ rfl, rfl, rfl⟩), rfl, q _ (I.hok.fresh (Nat.le_refl _))⟩⟩
end
section
variable {prog : Program} {w : World} {A : Around} {E : Value → Shared → Prop} {s : Shared} {it l a C f dx : Addr} {i : Nat} {K : PySem.W.Frag} {ox : Obj} {od : Option Obj}
/-- the end of a walk over a tuple: the iterator is still there -/
theorem next_tup_end {zs : Array Value} {Q : Option Value → Shared → Prop} (hh : A.handled = none) (hi : s.heap.IsTupleIter it l i) (hl : s.heap.IsTuple l zs) (hx : zs[i]? = none)
    (hQ : ∀ h', Heap.ExtBut it s.heap h' → (∃ o, h'.get? it = some o) → Q none { s with heap := h' }) : wpAny (model prog w) A (pyNext (.ref it)) Q E s := by
  obtain ⟨o1, q1, q2, q3⟩ := id hi
  obtain ⟨o2, r1, _, nn, r2⟩ := hl
  unfold pyNext
  refine wpAny_bind (wpAny_attempt (wpAny_callSpecial?_slot (name := Str.ofString "__next__") hi.typeIs F.slot_tuple_iterator_next (wpAny_call_entry F.slot_tuple_iterator_next hi.typeIs F.entry_tuple_iterator_next ?_ (F.args_tuple_iterator_next_1 _))))
  show wpAny _ _ (field (.ref it) 0 >>= _) _ _ s; refine wpAny_bind (wpAny_field q1 q3 (x := .ref l) rfl ?_)
  show wpAny _ _ (if (Value.ref l == Value.none) = true then _ else _) _ _ s; refine PySem.W.KFB.if_not rfl ?_
  show wpAny _ _ (field (.ref it) 1 >>= _) _ _ s; refine wpAny_bind (wpAny_field q1 q3 (x := .int i 0) rfl ?_)
  show wpAny _ _ (seqItems? (.ref l) >>= _) _ _ s; refine wpAny_bind (wpAny_seqItems r1 r2 ?_)
  simp only [Int.toNat_natCast, hx]; refine wpAny_bind (wpAny_rule (wpAny_bind (wpAny_setField q1 q3 (by simp) ?_)))
  show wpAny _ _ (newExc (.type "StopIteration") [] >>= _) _ _ _; refine wpAny_bind ?_
  simp only [newExc, newTuple]; refine wpAny_bind (wpAny_newObj_type ?_ (by size_fits))
  refine wpAny_bind (m := firstArgMember _ _) (wpAny_of_eq (a := Value.none) (by first | rfl | (simp only [firstArgMember]; rfl)) (wpAny_newObj_type ?_ (by size_fits)))
  simp only [raiseNew]; refine wpAny_bind (wpAny_handled ?_); first | rw [show A.in1.handled = none from hh] | rw [hh]
  refine wpAny_bind (wpAny_pure (wpAny_throw ?_)); refine wpAny_bind (wpAny_isInstance (T := "StopIteration") (b := true) ⟨_, Heap.get?_push_size _ rfl, rfl⟩ isSubtype_stop ?_)
  exact wpAny_pure (hQ _ (((Heap.SameBut.update ..).extBut.push _).push _) ⟨_, Heap.get?_push_of_some _ (Heap.get?_push_of_some _ (Heap.get?_update_self _ q1 (Obj.isFreed_of_fields (Obj.data_mapFields q3 _))))⟩)
theorem special_fn {name : Str} {args : List Value} {Q : Option Value → Shared → Prop} (Y : K.In s.heap) (J : PySem.W.InstAt s.heap a ox C od) (hf : PySem.W.findIn K (.ref C) name = some (some (.ref f))) (hn : PySem.W.isFn K (.ref f) = true)
    (hc : wpAny (model prog w) A (call (.ref f) (.ref a :: args)) (fun v s' => Q (some v) s') E s) : wpAny (model prog w) A (callSpecial? (.ref a) name args) Q E s := by
  unfold callSpecial? specialOf
  refine wpAny_bind (wpAny_bind (J.type.here ((PySem.W.looks_findIn Y hf).here (wpAny_holding (wpAny_bind ((PySem.W.bind_fn Y _ (beq_iff_eq.mp hn)).here ?_))))))
  first
    | exact wpAny_bind (wpAny_mono hc (fun v s' z => wpAny_pure z) fun _ _ z => z)
    | exact wpAny_pure (wpAny_bind (wpAny_mono hc (fun v s' z => wpAny_pure z) fun _ _ z => z))
theorem len_fn {Q : Value → Shared → Prop} (Y : K.In s.heap) (J : PySem.W.InstAt s.heap a ox C od) (hf : PySem.W.findIn K (.ref C) "__len__" = some (some (.ref f))) (hn : PySem.W.isFn K (.ref f) = true)
    (hc : wpAny (model prog w) A.in1 (call (.ref f) [.ref a]) (fun r s' => ∃ n u, r = .int n u ∧ 0 ≤ n ∧ n < 2 ^ 63 ∧ Q (.int n s'.toks) { s' with toks := s'.toks + 1 }) E s) : wpAny (model prog w) A (call (.builtin "len") [.ref a]) Q E s := by
  refine Calls.call_function_entry kind_len plain_len entry_len (args_len1 _) (by
    unfold Builtin.«len»
    refine wpAny_bind (m := oneArg "len" _) (wpAny_pure (wpAny_bind (m := callSpecial? (.ref a) (Str.ofString "__len__")) (special_fn Y J hf hn (wpAny_mono hc (fun r s' hr => ?_) fun _ _ y => y))))
    obtain ⟨n, u, rfl, h0, h1, hq⟩ := hr
    refine wpAny_bind (wpAny_holding (wpAny_pure (wpAny_bind (wpAny_letGo ?_))))
    show wpAny _ _ (if n < 0 then _ else _) _ _ _
    rw [if_neg (Int.not_lt.mpr h0)]
    show wpAny _ _ (if n ≥ 2 ^ 63 then _ else _) _ _ _
    rw [if_neg (Int.not_le.mpr h1)]
    exact wpAny_bind (wpAny_mkInt (wpAny_pure ⟨_, rfl, hq⟩)))
end
section
variable {X : Cx} {pins : List (Addr × Obj)} {σ : St} {H : Hp} {s : Shared} {l it a C fi fl dx : Addr} {A1 : Around} {n : Nat} {fs : List (Str × V)} {CI CL : CXT} {fdI fdL : FuncData} {psI psL : List Str} {spI spL : Sp}
abbrev noX : XK := fun _ _ _ => False
/-- nothing comes out that isn't wished for -/
def NoX (CF : CXT) : Prop := ∀ st H s e s', CF st H s noX e s' → False
theorem noX_cx {P : Program} {w : World} : NoX (CX P w) := fun _ _ _ _ _ ⟨_, _, _, _, _, _, _, _, _, _, _, _, z⟩ => z
/-- one of our defs is called with an own thing -/
theorem call_mine {CF : CXT} {f : Addr} {fd : FuncData} {ps : List Str} {sp : Sp} {Q : VK} {Ee : Value → Shared → Prop} (sb : Sub X n A1) (FF : FnOk X.prog X.w X.K X.mg X.base CF n f fd ps sp) (bF : Binds X.K fd ps []) (xF : NoX CF) (I : Inv X pins σ H s) (h : sp [.ref a] H Q noX) :
    wpAny (model X.prog X.w) A1 (call (.ref f) [.ref a]) (fun u s' => ∃ v H', Inv X pins σ H' s' ∧ RelV v u ∧ Q v H') Ee s := by
  have e0 : Env0 X.prog X.w X.K X.mg X.base A1 X.stack s H := by
    have e := I.env0
    exact ⟨by rw [sb.fr]; exact e.frames, e.mod, e.bs, e.bsz, e.funs, e.frf, e.hok, e.bare⟩
  have hl := FF.len _ _ _ _ h
  refine wpAny_call (codeAny_mono (FF.run A1 X.stack s H ⟨[.ref a], []⟩ [.ref a] [.ref a] Q noX sb.room e0 (by simpa using bF s [.ref a] I.kIn (by simpa using hl)) (.cons rfl .nil) h) fun r s' hq => ?_)
  cases r with
  | error e => exact (xF _ _ _ _ _ hq).elim
  | ok fl =>
    cases fl with
    | ret u => exact I.after hq
    | next => exact False.elim hq
    | brk => exact False.elim hq
    | cont => exact False.elim hq
theorem ext_loop {q : Addr} {zs : List V} {Rs : Result → Shared → Prop} (hc : A1.handled = none) (hz : zs.length ≤ sizeLine) (hqi : q ≠ it)
    (hd : ∀ H' s', Inv X pins σ (upd (upd H' it (TiE it)) q (.lst zs)) s' → H' = H → Rs (.ok (.ret .none)) s') (hT2 : ∀ H2, (∀ b, b ≠ it → b ≠ q → H2 b = H b) → SqT X.K H2 l zs) :
    ∀ (k i : Nat) (s : Shared), zs.length - i = k → i ≤ zs.length → Inv X pins σ (upd (upd H it (TiO l it i)) q (.lst (zs.take i))) s → codeAny (model X.prog X.w) A1 (.builtin "list.extend.loop" ⟨[.ref q, .ref it, .none], []⟩) Rs s := by
  intro k
  induction k with
  | zero =>
    intro i s hk hle I
    have hin : i = zs.length := by omega
    subst hin
    have hi := tiO_get I (by rw [upd_ne (fun z => hqi z.symm), upd_same])
    obtain ⟨its, rv, pl, hz'⟩ := I.tuple (hT2 _ fun b h1 h2 => by rw [upd_ne h2, upd_ne h1])
    refine codeAny_builtin PySem.F.entry_extend_loop ?_
    rw [Around.under_plainId PySem.F.plain_extend_loop _]
    show wpAny _ A1.in1 (pyNext (.ref it) >>= _) _ _ s
    refine wpAny_bind (next_tup_end (by exact hc) hi pl (by rw [List.getElem?_toArray]; exact rv.none_of (by simp)) fun h' he ho => wpAny_pure ?_)
    have mu : Mut ((upd (upd H it (TiO l it zs.length)) q (.lst (zs.take zs.length))) it) := by rw [upd_ne (fun z => hqi z.symm), upd_same]; exact True.intro
    have I2 := I.write (x := it) (e := it) (t' := s.toks) (o := TiE it) mu (.inl rfl) (fun b o nb z => he b o nb z) ho (tiE_ok ho)
    refine hd H _ ?_ rfl
    have e : upd (upd (upd H it (TiO l it zs.length)) q (.lst (zs.take zs.length))) it (TiE it) = upd (upd H it (TiE it)) q (.lst zs) := by
      rw [List.take_length]
      funext b
      by_cases h1 : b = it
      · subst h1; rw [upd_same, upd_ne (fun z => hqi z.symm), upd_same]
      · rw [upd_ne h1]
        by_cases h2 : b = q
        · subst h2; rw [upd_same, upd_same]
        · rw [upd_ne h2, upd_ne h2, upd_ne h1, upd_ne h1]
    rw [e] at I2
    exact I2
  | succ k ih =>
    intro i s hk hle I
    have hlt : i < zs.length := by omega
    have hi := tiO_get I (by rw [upd_ne (fun z => hqi z.symm), upd_same])
    obtain ⟨its, rv, pl, hz'⟩ := I.tuple (hT2 _ fun b h1 h2 => by rw [upd_ne h2, upd_ne h1])
    obtain ⟨u, hu, ru⟩ := rv.get (List.getElem?_eq_getElem hlt)
    refine codeAny_builtin PySem.F.entry_extend_loop ?_
    rw [Around.under_plainId PySem.F.plain_extend_loop _]
    show wpAny _ A1.in1 (pyNext (.ref it) >>= _) _ _ s
    refine wpAny_bind (wpAny_pyNext_tuple_item hi pl (by rw [List.getElem?_toArray]; exact hu) fun h' hi' sb => ?_)
    have mu : Mut ((upd (upd H it (TiO l it i)) q (.lst (zs.take i))) it) := by rw [upd_ne (fun z => hqi z.symm), upd_same]; exact True.intro
    have I2 := I.write (x := it) (e := it) (t' := s.toks) (o := TiO l it (i + 1)) mu (.inl rfl) (fun b o nb z => (sb.2 b nb).trans z) (hi'.imp fun _ z => z.1) (tiO_ok hi')
    have hq2 : (upd (upd (upd H it (TiO l it i)) q (.lst (zs.take i))) it (TiO l it (i + 1))) q = some (.lst (zs.take i)) := by rw [upd_ne hqi, upd_same]
    show wpAny _ A1.in1 (updateSeq q (·.push u) >>= _) _ _ _
    obtain ⟨z, its2, k2, r2, hl, e⟩ := I2.lstM hq2
    have hll : (zs.take i).length = i := by rw [List.length_take]; omega
    refine wpAny_bind (wpAny_updateSeq e rfl (wpAny_pure ⟨plainId_quiet PySem.F.plain_extend_loop _, ?_⟩) (by rw [List.size_toArray]; omega) (by show (its2.toArray.push u).size ≤ sizeLine + 1; rw [Array.size_push, List.size_toArray]; omega))
    have I3 := I2.lset (f := (·.push u)) (its' := its2 ++ [u]) (ys := zs.take i ++ [zs[i]]) (t' := s.toks) hq2 e (by simp) (r2.append (.cons ru .nil)) (by rw [List.length_append, List.length_singleton, hll]; omega)
    have e : upd (upd (upd (upd H it (TiO l it i)) q (.lst (zs.take i))) it (TiO l it (i + 1))) q (.lst (zs.take i ++ [zs[i]])) = upd (upd H it (TiO l it (i + 1))) q (.lst (zs.take (i + 1))) := by
      rw [show zs.take i ++ [zs[i]] = zs.take (i + 1) from (List.take_succ_eq_append_getElem hlt).symm]
      funext b
      by_cases h2 : b = q
      · subst h2; rw [upd_same, upd_same]
      · rw [upd_ne h2, upd_ne h2]
        by_cases h1 : b = it
        · subst h1; rw [upd_same, upd_same]
        · rw [upd_ne h1, upd_ne h2, upd_ne h1, upd_ne h1]
    rw [e] at I3
    exact ih (i + 1) _ (by omega) hlt I3
/-- a class whose __iter__ and __len__ are defs of its own -/
structure IlC (K : PySem.W.Frag) (C fi fl : Addr) : Prop where
  it : PySem.W.findIn K (.ref C) "__iter__" = some (some (.ref fi))
  itF : PySem.W.isFn K (.ref fi) = true
  ln : PySem.W.findIn K (.ref C) "__len__" = some (some (.ref fl))
  lnF : PySem.W.isFn K (.ref fl) = true
/-- iter(self.fld), self.fld a tuple -/
def spIt (K : PySem.W.Frag) (C : Addr) (fld : Str) : Sp := fun vs H Q _ => ∃ (a dx l : Addr) (fs : List (Str × V)) (zs : List V), vs = [.ref a] ∧ H a = some (.ins C dx fs) ∧ fs.lookup fld = some (.ref l) ∧ SqT K H l zs ∧ ∀ it, H it = none → Q (.ref it) (upd H it (TiO l it 0))
/-- len(self.fld) -/
def spLn (K : PySem.W.Frag) (C : Addr) (fld : Str) : Sp := fun vs H Q _ => ∃ (a dx l : Addr) (fs : List (Str × V)) (zs : List V), vs = [.ref a] ∧ H a = some (.ins C dx fs) ∧ fs.lookup fld = some (.ref l) ∧ SqT K H l zs ∧ Q (.int zs.length) H
def rListT (K : PySem.W.Frag) (C : Addr) (fld : Str) : List V → Hp → VK → Prop := fun xs H Q => ∃ (a dx l : Addr) (fs : List (Str × V)) (zs : List V), xs = [.ref a] ∧ H a = some (.ins C dx fs) ∧ fs.lookup fld = some (.ref l) ∧ SqT K H l zs ∧
  ∀ q it, H q = none → H it = none → q ≠ it → Q (.ref q) (upd (upd H it (TiE it)) q (.lst zs))
variable {fld : Str}
theorem hint_own {Q : Bool → Shared → Prop} {zs : List V} (sb : Sub X n A1.in1) (hc : IlC X.K C fi fl) (FL : FnOk X.prog X.w X.K X.mg X.base CL n fl fdL psL (spLn X.K C fld)) (bL : Binds X.K fdL psL []) (xL : NoX CL) (I : Inv X pins σ H s)
    (ha : H a = some (.ins C dx fs)) (hf : fs.lookup fld = some (.ref l)) (hq : SqT X.K H l zs) (hz : zs.length ≤ sizeLine) {Ee : Value → Shared → Prop} (h : ∀ s', Inv X pins σ H s' → Q (decide (zs.length ≠ 0)) s') : wpAny (model X.prog X.w) A1 (Builtin.List.listLengthHint (.ref a)) Q Ee s := by
  obtain ⟨mA, J, _⟩ := ins_get I.hok ha
  obtain ⟨od, J, _⟩ := J.look
  unfold Builtin.List.listLengthHint
  refine wpAny_bind (wpAny_bind (J.type.here ((PySem.W.looks_findIn I.kIn hc.ln).here ?_)))
  refine PySem.W.KFB.if_not rfl ?_
  refine PySem.W.KFB.if_so rfl ?_
  refine wpAny_bind (wpAny_rule (wpAny_bind (wpAny_attempt (len_fn I.kIn J hc.ln hc.lnF (wpAny_mono (call_mine (a := a) (Ee := fun _ _ => False) (Q := fun v H' => v = .int zs.length ∧ H' = H) sb FL bL xL I ⟨a, dx, l, fs, zs, rfl, ha, hf, hq, rfl, rfl⟩) (fun r s' hr => ?_) fun _ _ y => y.elim)))))
  obtain ⟨v, H', I', rv, rfl, rfl⟩ := hr
  obtain ⟨t, rfl⟩ := rv
  have hs : sizeLine = 16777216 := sizeLine_eq
  refine ⟨zs.length, t, rfl, by omega, by omega, ?_⟩
  show wpAny _ _ (if Builtin.List.listTooLong (zs.length : Int).toNat = true then _ else pure ((zs.length : Int) != 0)) _ _ _
  rw [if_neg (by rw [Int.toNat_natCast, notLongL hz]; exact Bool.false_ne_true)]
  refine wpAny_pure ?_
  have e : ((zs.length : Int) != 0) = decide (zs.length ≠ 0) := by
    by_cases z : zs.length = 0
    · rw [z]; rfl
    · rw [decide_eq_true z, bne_iff_ne]; omega
  rw [e]
  exact h _ (I'.tok _)
theorem upd_comm {p q : Addr} {o u : HO} (h : p ≠ q) : upd (upd H p o) q u = upd (upd H q u) p o := by
  funext b
  by_cases h1 : b = q
  · subst h1; rw [upd_same, upd_ne (fun z => h z.symm), upd_same]
  · rw [upd_ne h1]
    by_cases h2 : b = p
    · subst h2; rw [upd_same, upd_same]
    · rw [upd_ne h2, upd_ne h2, upd_ne h1]
theorem ext_own {q : Addr} {zs : List V} {Rs : Result → Shared → Prop} (sb : Sub X (n + 1) A1.in1) (hh : A1.handled = none) (hc : IlC X.K C fi fl) (FI : FnOk X.prog X.w X.K X.mg X.base CI n fi fdI psI (spIt X.K C fld)) (bI : Binds X.K fdI psI []) (xI : NoX CI)
    (FL : FnOk X.prog X.w X.K X.mg X.base CL n fl fdL psL (spLn X.K C fld)) (bL : Binds X.K fdL psL []) (xL : NoX CL) (I : Inv X pins σ (upd H q (.lst [])) s) (hq0 : H q = none)
    (ha : H a = some (.ins C dx fs)) (hf : fs.lookup fld = some (.ref l)) (ht : SqT X.K H l zs) (hz : zs.length ≤ sizeLine) (hd : ∀ it s', H it = none → it ≠ q → Inv X pins σ (upd (upd H it (TiE it)) q (.lst zs)) s' → Rs (.ok (.ret .none)) s') :
    wpAny (model X.prog X.w) A1.in1 (Builtin.List.listExtendWith (.ref q) (.ref a) .none)
      (fun fin s' => match fin with | .done f => Rs (.ok f) s' | .again c' => c'.quiet = true ∧ codeAny (model X.prog X.w) A1 c' Rs s') (fun e s' => Rs (.error e) s') s := by
  have hqa : a ≠ q := fun z => by rw [z, hq0] at ha; cases ha
  have hql : l ≠ q ∨ True := .inr trivial
  have ex1 : _root_.Evl.Ex H (upd H q (.lst [])) := fun b o h => by rw [upd_ne (fun z => by rw [z, hq0] at h; cases h)]; exact h
  have ha1 : (upd H q (.lst [])) a = some (.ins C dx fs) := ex1 _ _ ha
  obtain ⟨mA, J, _⟩ := ins_get I.hok ha1
  obtain ⟨od, J, _⟩ := J.look
  obtain ⟨m0, hF⟩ := I.fr
  unfold Builtin.List.listExtendWith
  refine wpAny_bind (J.type.here ?_)
  have h1 : Builtin.List.listSameRef (.ref q) (.ref a) = false := by simp [Builtin.List.listSameRef, hqa.symm]
  have h2 : (Value.ref C == Value.type "list") = false := rfl
  have h3 : (Value.ref C == Value.type "tuple") = false := rfl
  simp only [h1, h2, h3, Bool.or_false, Bool.false_eq_true, if_false]
  refine wpAny_bind (PySem.W.owit_iter hF I.ok.mod.kin J hc.it hc.itF (wpAny_mono (call_mine (a := a) (Ee := fun _ _ => False) (Q := fun v H' => ∃ it, v = .ref it ∧ (upd H q (.lst [])) it = none ∧ H' = upd (upd H q (.lst [])) it (TiO l it 0)) (Sub.mono sb (Nat.le_succ _)) FI bI xI I
    ⟨a, dx, l, fs, zs, rfl, ha1, hf, _root_.Evl.ex_t ex1 ht, fun it hit => ⟨it, rfl, hit, rfl⟩⟩) (fun u s' hu => ?_) fun _ _ y => y.elim))
  obtain ⟨v, H', I', rv, it, rfl, hit, rfl⟩ := hu
  cases rv
  have hiq : it ≠ q := fun z => by rw [z, upd_same] at hit; cases hit
  have hi0 : H it = none := by rw [upd_ne hiq] at hit; exact hit
  rw [upd_comm hiq.symm] at I'
  have gi := tiO_get I' (by rw [upd_ne hiq, upd_same])
  unfold PySem.W.OwitIt
  refine wpAny_specialOf gi.typeIs F.slot_tuple_iterator_next.lookup ?_
  have ex2 : _root_.Evl.Ex H (upd (upd H it (TiO l it 0)) q (.lst [])) := fun b o h => by
    rw [upd_ne (fun z => by rw [z, hq0] at h; cases h), upd_ne (fun z => by rw [z, hi0] at h; cases h)]; exact h
  refine wpAny_bind (wpAny_holding (hint_own (Sub.in1 sb) hc FL bL xL I' (ex2 _ _ ha) hf (_root_.Evl.ex_t ex2 ht) hz fun s2 I2 => ?_))
  have loop : ∀ s3, Inv X pins σ (upd (upd H it (TiO l it 0)) q (.lst [])) s3 → codeAny (model X.prog X.w) A1 (.builtin "list.extend.loop" ⟨[.ref q, .ref it, .none], []⟩) Rs s3 := fun s3 I3 =>
    ext_loop (l := l) hh hz hiq.symm (fun H' s' I' e => hd it s' hi0 hiq (by rw [← e]; exact I')) (fun H2 k => _root_.Evl.ex_t (fun b o h => by rw [k b (fun z => by rw [z, hi0] at h; cases h) (fun z => by rw [z, hq0] at h; cases h)]; exact h) ht) zs.length 0 s3 (by omega) (Nat.zero_le _) I3
  refine wpAny_ite_split (fun _ => ?_) (fun _ => wpAny_pure ⟨plainId_quiet PySem.F.plain_extend_loop _, loop _ I2⟩)
  obtain ⟨z, its, k, r3, hl3, e3⟩ := I2.lstM upd_same
  cases r3
  refine wpAny_bind (wpAny_rule (wpAny_bind ?_))
  show wpAny _ _ (updateSeq q (·.push .none) >>= fun _ => updateSeq q (·.pop)) _ _ _
  refine wpAny_bind (wpAny_updateSeq e3 rfl ?_)
  have I4 := I2.lset (f := (·.push Value.none)) (its' := [Value.none]) (ys := [.non]) (t' := s2.toks) upd_same e3 (by simp) (.cons rfl .nil) (by rw [List.length_singleton, sizeLine_eq]; decide)
  obtain ⟨z4, its4, k4, r4, hl4, e4⟩ := I4.lstM upd_same
  obtain ⟨u4, rfl, ru4⟩ := r4.one
  refine wpAny_updateSeq e4 rfl ?_ (by show 1 ≤ sizeLine; rw [sizeLine_eq]; decide) (by show 0 ≤ sizeLine + 1; exact Nat.zero_le _)
  refine wpAny_pure ⟨plainId_quiet PySem.F.plain_extend_loop _, loop _ ?_⟩
  have I5 := I4.lset (f := (·.pop)) (its := [u4]) (its' := []) (ys := []) (t' := s2.toks) upd_same e4 (by rfl) .nil (Nat.zero_le _)
  rw [upd_upd, upd_upd] at I5
  exact I5
/-- list(o) -/
theorem call_listT (hm : X.calm = true) (hc : IlC X.K C fi fl) (FI : FnOk X.prog X.w X.K X.mg X.base CI n fi fdI psI (spIt X.K C fld)) (bI : Binds X.K fdI psI []) (xI : NoX CI)
    (FL : FnOk X.prog X.w X.K X.mg X.base CL n fl fdL psL (spLn X.K C fld)) (bL : Binds X.K fdL psL []) (xL : NoX CL) (hr : Room (n + 3) X.A) : CallR X (.type "list") (rListT X.K C fld) := by
  intro pins s σ H xs us Q I rv h
  obtain ⟨a, dx, l, fs, zs, rfl, ha, hf, ht, hq⟩ := h
  obtain ⟨u, rfl, ru⟩ := rv.one
  cases ru
  have sb : Sub X (n + 1) X.A.in1.in1 := Sub.in1 (Sub.in1 (⟨hr, rfl⟩ : Sub X (n + 3) X.A))
  obtain ⟨_, _, _, hz⟩ := I.tuple ht
  refine callType_codes (Q₁ := fun obj s₁ => obj = .ref s.heap.objs.size ∧ s₁ = { s with heap := s.heap.push { cls := .type "list", data := .seq #[] } }) PySem.F.called_list (PySem.F.typeCall_list_1 _) PySem.F.entry_list_init (code_list_new _ ⟨rfl, rfl⟩) fun obj s₁ h₁ => ?_
  obtain ⟨rfl, rfl⟩ := h₁
  have hS : (s.heap.push { cls := .type "list", data := .seq #[] }).get? s.heap.objs.size = some { cls := .type "list", data := .seq #[] } := Heap.get?_push_size _ rfl
  have fr : H s.heap.objs.size = none := I.hok.fresh (Nat.le_refl _)
  refine ⟨⟨_, hS, rfl⟩, PySem.F.args_list_init_2 _ _, ?_⟩
  have I1 : Inv X pins σ (upd H s.heap.objs.size (.lst [])) { s with heap := s.heap.push { cls := .type "list", data := .seq #[] } } := I.lnew (its := []) (t' := s.toks) .nil (Nat.zero_le _)
  show wpAny _ _ (do let old ← Builtin.List.listItems (.ref s.heap.objs.size); Builtin.List.listUpdate (.ref s.heap.objs.size) (fun _ => #[]); letGo old.toList.reverse; Builtin.List.listExtendWith (.ref s.heap.objs.size) (.ref a) .none) _ _ _
  refine wpAny_bind (by
    unfold Builtin.List.listItems
    refine wpAny_bind (wpAny_seqItems hS rfl (wpAny_pure ?_))
    show wpAny _ _ (updateSeq s.heap.objs.size (fun _ => #[]) >>= fun _ => letGo (#[] : Array Value).toList.reverse >>= fun _ => Builtin.List.listExtendWith (.ref s.heap.objs.size) (.ref a) .none) _ _ _
    refine wpAny_bind (wpAny_updateSeq hS rfl ?_)
    have I2 := I1.lset (f := fun _ => #[]) (its := []) (its' := []) (ys := []) (t' := s.toks) upd_same hS rfl .nil (Nat.zero_le _)
    rw [upd_upd] at I2
    exact wpAny_bind (wpAny_letGo (ext_own (A1 := X.A.in1) (Rs := wants (fun r s₂ => r = .none ∧ EP X pins σ Q (.ref s.heap.objs.size) s₂) X.xe) sb (I.ok.hd hm) hc FI bI xI FL bL xL I2 fr ha hf ht hz
      fun it s' h1 h2 I' => ⟨rfl, .ref s.heap.objs.size, _, I', rfl, hq _ _ fr h1 h2.symm⟩)))
end
end L2
/-! K08Txt -/
set_option Elab.async false
set_option linter.all false
set_option maxRecDepth 100000
set_option maxHeartbeats 4000000
namespace Dh
open PySem PySem.Spec L2
def top (i : Nat) : Stmt := PySem.Challenge.pw_duehouse_k08_whole_one_entry.main.body.getD i (.Pass ⟨0, 0, 0, 0⟩)
abbrev s_BadNumber_XinitX : Stmt := inClass (top 3) 0
theorem sc_BadNumber_XinitX : FnScope ["self", "name"] ["self", "name"] (defScope s_BadNumber_XinitX) := ⟨rfl, rfl, rfl, by decide +kernel, rfl, by decide +kernel, by decide +kernel⟩
abbrev s_BadEntry_XinitX : Stmt := inClass (top 4) 0
theorem sc_BadEntry_XinitX : FnScope ["self", "entry"] ["self", "entry"] (defScope s_BadEntry_XinitX) := ⟨rfl, rfl, rfl, by decide +kernel, rfl, by decide +kernel, by decide +kernel⟩
abbrev s_Clash_XinitX : Stmt := inClass (top 5) 0
theorem sc_Clash_XinitX : FnScope ["self", "number"] ["self", "number"] (defScope s_Clash_XinitX) := ⟨rfl, rfl, rfl, by decide +kernel, rfl, by decide +kernel, by decide +kernel⟩
abbrev s_NoEntry_XinitX : Stmt := inClass (top 6) 0
theorem sc_NoEntry_XinitX : FnScope ["self", "number"] ["self", "number"] (defScope s_NoEntry_XinitX) := ⟨rfl, rfl, rfl, by decide +kernel, rfl, by decide +kernel, by decide +kernel⟩
abbrev s_is_number : Stmt := top 10
theorem sc_is_number : FnScope ["number", "low", "high"] ["number", "low", "high"] (defScope s_is_number) := ⟨rfl, rfl, rfl, by decide +kernel, rfl, by decide +kernel, by decide +kernel⟩
abbrev s_is_name : Stmt := top 11
theorem sc_is_name : FnScope ["name", "letter"] ["name"] (defScope s_is_name) := ⟨rfl, rfl, rfl, by decide +kernel, rfl, by decide +kernel, by decide +kernel⟩
abbrev s_check_number : Stmt := top 12
theorem sc_check_number : FnScope ["word", "number", "low", "high"] ["word", "number", "low", "high"] (defScope s_check_number) := ⟨rfl, rfl, rfl, by decide +kernel, rfl, by decide +kernel, by decide +kernel⟩
abbrev s_is_entry : Stmt := top 17
theorem sc_is_entry : FnScope ["entry"] ["entry"] (defScope s_is_entry) := ⟨rfl, rfl, rfl, by decide +kernel, rfl, by decide +kernel, by decide +kernel⟩
abbrev s_joined : Stmt := top 18
theorem sc_joined : FnScope ["entries", "entry", "table", "clashing", "number"] ["entries"] (defScope s_joined) := ⟨rfl, rfl, rfl, by decide +kernel, rfl, by decide +kernel, by decide +kernel⟩
abbrev s_standing : Stmt := top 19
theorem sc_standing : FnScope ["rows", "withdrawn", "entry"] ["rows"] (defScope s_standing) := ⟨rfl, rfl, rfl, by decide +kernel, rfl, by decide +kernel, by decide +kernel⟩
abbrev s_told_names : Stmt := top 20
theorem sc_told_names : FnScope ["rows", "stands", "form", "names", "entry"] ["rows", "stands", "form"] (defScope s_told_names) := ⟨rfl, rfl, rfl, by decide +kernel, rfl, by decide +kernel, by decide +kernel⟩
abbrev s_Sheet_XinitX : Stmt := inClass (top 21) 0
theorem sc_Sheet_XinitX : FnScope ["self", "entries", "rows", "stands"] ["self", "entries"] (defScope s_Sheet_XinitX) := ⟨rfl, rfl, rfl, by decide +kernel, rfl, by decide +kernel, by decide +kernel⟩
abbrev s_Sheet_XiterX : Stmt := inClass (top 21) 1
theorem sc_Sheet_XiterX : FnScope ["self"] ["self"] (defScope s_Sheet_XiterX) := ⟨rfl, rfl, rfl, by decide +kernel, rfl, by decide +kernel, by decide +kernel⟩
abbrev s_Sheet_XlenX : Stmt := inClass (top 21) 2
theorem sc_Sheet_XlenX : FnScope ["self"] ["self"] (defScope s_Sheet_XlenX) := ⟨rfl, rfl, rfl, by decide +kernel, rfl, by decide +kernel, by decide +kernel⟩
abbrev s_Sheet_XcontainsX : Stmt := inClass (top 21) 3
theorem sc_Sheet_XcontainsX : FnScope ["self", "entry"] ["self", "entry"] (defScope s_Sheet_XcontainsX) := ⟨rfl, rfl, rfl, by decide +kernel, rfl, by decide +kernel, by decide +kernel⟩
abbrev s_Sheet_XeqX : Stmt := inClass (top 21) 4
theorem sc_Sheet_XeqX : FnScope ["self", "other"] ["self", "other"] (defScope s_Sheet_XeqX) := ⟨rfl, rfl, rfl, by decide +kernel, rfl, by decide +kernel, by decide +kernel⟩
abbrev s_Sheet_XleX : Stmt := inClass (top 21) 5
theorem sc_Sheet_XleX : FnScope ["self", "other", "entry"] ["self", "other"] (defScope s_Sheet_XleX) := ⟨rfl, rfl, rfl, by decide +kernel, rfl, by decide +kernel, by decide +kernel⟩
abbrev s_Sheet_XorX : Stmt := inClass (top 21) 6
theorem sc_Sheet_XorX : FnScope ["self", "other"] ["self", "other"] (defScope s_Sheet_XorX) := ⟨rfl, rfl, rfl, by decide +kernel, rfl, by decide +kernel, by decide +kernel⟩
abbrev s_Sheet_XiorX : Stmt := inClass (top 21) 7
theorem sc_Sheet_XiorX : FnScope ["self", "other", "both"] ["self", "other"] (defScope s_Sheet_XiorX) := ⟨rfl, rfl, rfl, by decide +kernel, rfl, by decide +kernel, by decide +kernel⟩
abbrev s_Sheet_stands : Stmt := inClass (top 21) 8
theorem sc_Sheet_stands : FnScope ["self", "number"] ["self", "number"] (defScope s_Sheet_stands) := ⟨rfl, rfl, rfl, by decide +kernel, rfl, by decide +kernel, by decide +kernel⟩
abbrev s_Sheet_sign_of : Stmt := inClass (top 21) 10
theorem sc_Sheet_sign_of : FnScope ["self", "day"] ["self", "day"] (defScope s_Sheet_sign_of) := ⟨rfl, rfl, rfl, by decide +kernel, rfl, by decide +kernel, by decide +kernel⟩
abbrev s_Sheet_rule_of : Stmt := inClass (top 21) 11
theorem sc_Sheet_rule_of : FnScope ["self", "day"] ["self", "day"] (defScope s_Sheet_rule_of) := ⟨rfl, rfl, rfl, by decide +kernel, rfl, by decide +kernel, by decide +kernel⟩
abbrev s_Sheet_life_of : Stmt := inClass (top 21) 12
theorem sc_Sheet_life_of : FnScope ["self", "days", "plain", "day"] ["self", "days", "plain"] (defScope s_Sheet_life_of) := ⟨rfl, rfl, rfl, by decide +kernel, rfl, by decide +kernel, by decide +kernel⟩
abbrev s_Sheet_code_of : Stmt := inClass (top 21) 13
theorem sc_Sheet_code_of : FnScope ["self", "days", "first", "code", "rule", "day"] ["self", "days", "first"] (defScope s_Sheet_code_of) := ⟨rfl, rfl, rfl, by decide +kernel, rfl, by decide +kernel, by decide +kernel⟩
abbrev s_l_mixed : Stmt := top 23
theorem sc_l_mixed : FnScope ["_law_number", "_law_turn", "_law_low", "_law_high"] ["_law_number", "_law_turn"] (defScope s_l_mixed) := ⟨rfl, rfl, rfl, by decide +kernel, rfl, by decide +kernel, by decide +kernel⟩
abbrev s_l_bag : Stmt := top 24
theorem sc_l_bag : FnScope ["_law_script", "_law_numbers_here", "_law_cell", "_law_seed", "_law_at"] ["_law_script"] (defScope s_l_bag) := ⟨rfl, rfl, rfl, by decide +kernel, rfl, by decide +kernel, by decide +kernel⟩
abbrev s_l_pick : Stmt := top 25
theorem sc_l_pick : FnScope ["_law_bag_here", "_law_many", "_law_turn", "_law_cell", "_law_worth"] ["_law_bag_here", "_law_many"] (defScope s_l_pick) := ⟨rfl, rfl, rfl, by decide +kernel, rfl, by decide +kernel, by decide +kernel⟩
abbrev s_l_choice : Stmt := top 26
theorem sc_l_choice : FnScope ["_law_bag_here", "_law_things"] ["_law_bag_here", "_law_things"] (defScope s_l_choice) := ⟨rfl, rfl, rfl, by decide +kernel, rfl, by decide +kernel, by decide +kernel⟩
abbrev s_l_mingled : Stmt := top 27
theorem sc_l_mingled : FnScope ["_law_bag_here", "_law_things", "_law_left", "_law_out", "_law_step"] ["_law_bag_here", "_law_things"] (defScope s_l_mingled) := ⟨rfl, rfl, rfl, by decide +kernel, rfl, by decide +kernel, by decide +kernel⟩
abbrev s_l_new_name : Stmt := top 28
theorem sc_l_new_name : FnScope ["_law_bag_here", "_law_used", "_law_letters", "_law_told", "_law_step", "_law_near", "_law_at", "_law_tails", "_law_k", "_law_tail"] ["_law_bag_here", "_law_used"] (defScope s_l_new_name) := ⟨rfl, rfl, rfl, by decide +kernel, rfl, by decide +kernel, by decide +kernel⟩
abbrev s_l_standing : Stmt := top 29
theorem sc_l_standing : FnScope ["_law_read", "_law_by_number", "_law_entry", "_law_gone", "_law_out", "_law_number"] ["_law_read"] (defScope s_l_standing) := ⟨rfl, rfl, rfl, by decide +kernel, rfl, by decide +kernel, by decide +kernel⟩
abbrev s_l_tracks : Stmt := top 30
theorem sc_l_tracks : FnScope ["_law_read", "_law_days", "_law_come", "_law_sign_base", "_law_rule_base", "_law_standing_here", "_law_signs", "_law_day", "_law_ranks", "_law_points", "_law_at", "_law_entry", "_law_worth", "_law_names", "_law_name"] ["_law_read", "_law_days", "_law_come", "_law_sign_base", "_law_rule_base"] (defScope s_l_tracks) := ⟨rfl, rfl, rfl, by decide +kernel, rfl, by decide +kernel, by decide +kernel⟩
abbrev s_l_numbers : Stmt := top 31
theorem sc_l_numbers : FnScope ["_law_bag_here", "_law_many", "_law_number", "_law_gap", "_law_out", "_law_k"] ["_law_bag_here", "_law_many"] (defScope s_l_numbers) := ⟨rfl, rfl, rfl, by decide +kernel, rfl, by decide +kernel, by decide +kernel⟩
abbrev s_l_world : Stmt := top 32
theorem sc_l_world : FnScope ["_law_bag_here", "_law_signs", "_law_k", "_law_names", "_law_span", "_law_low", "_law_days", "_law_day", "_law_world_here"] ["_law_bag_here"] (defScope s_l_world) := ⟨rfl, rfl, rfl, by decide +kernel, rfl, by decide +kernel, by decide +kernel⟩
abbrev s_l_rows : Stmt := top 33
theorem sc_l_rows : FnScope ["_law_bag_here", "_law_world_here", "_law_numbers_here", "_law_out", "_law_at", "_law_number", "_law_way", "_law_day"] ["_law_bag_here", "_law_world_here", "_law_numbers_here"] (defScope s_l_rows) := ⟨rfl, rfl, rfl, by decide +kernel, rfl, by decide +kernel, by decide +kernel⟩
abbrev s_l_further : Stmt := top 34
theorem sc_l_further : FnScope ["_law_bag_here", "_law_world_here", "_law_entries", "_law_numbers_here", "_law_entry", "_law_highest", "_law_free", "_law_number", "_law_chosen", "_law_out", "_law_day", "_law_sign", "_law_name", "_law_other"] ["_law_bag_here", "_law_world_here", "_law_entries"] (defScope s_l_further) := ⟨rfl, rfl, rfl, by decide +kernel, rfl, by decide +kernel, by decide +kernel⟩
abbrev s_l_both : Stmt := top 35
theorem sc_l_both : FnScope ["_law_sheet", "_law_world_here"] ["_law_sheet", "_law_world_here"] (defScope s_l_both) := ⟨rfl, rfl, rfl, by decide +kernel, rfl, by decide +kernel, by decide +kernel⟩
abbrev s_l_one_change : Stmt := top 36
theorem sc_l_one_change : FnScope ["_law_before", "_law_behind", "_law_signs", "_law_day", "_law_days"] ["_law_before", "_law_behind"] (defScope s_l_one_change) := ⟨rfl, rfl, rfl, by decide +kernel, rfl, by decide +kernel, by decide +kernel⟩
abbrev s_l_days_tell : Stmt := top 37
theorem sc_l_days_tell : FnScope ["_law_sheet", "_law_world_here", "_law_due_here", "_law_day", "_law_sign", "_law_name"] ["_law_sheet", "_law_world_here", "_law_due_here"] (defScope s_l_days_tell) := ⟨rfl, rfl, rfl, by decide +kernel, rfl, by decide +kernel, by decide +kernel⟩
abbrev s_l_due : Stmt := top 38
theorem sc_l_due : FnScope ["_law_read", "_law_world_here", "_law_signs", "_law_names"] ["_law_read", "_law_world_here"] (defScope s_l_due) := ⟨rfl, rfl, rfl, by decide +kernel, rfl, by decide +kernel, by decide +kernel⟩
abbrev s_law : Stmt := top 39
theorem sc_law : FnScope ["_law_script", "_law_bag_here", "_law_world_here", "_law_entries", "_law_sheet", "_law_before", "_law_closing", "_law_entry", "_law_grown", "_law_due_here", "_law_behind", "_law_undone"] ["_law_script"] (defScope s_law) := ⟨rfl, rfl, rfl, by decide +kernel, rfl, by decide +kernel, by decide +kernel⟩
structure Ad where
  f_BadNumber_XinitX : Addr
  d_BadNumber_XinitX : FuncData
  f_is_number : Addr
  d_is_number : FuncData
  f_is_name : Addr
  d_is_name : FuncData
  f_check_number : Addr
  d_check_number : FuncData
  f_is_entry : Addr
  d_is_entry : FuncData
  f_joined : Addr
  d_joined : FuncData
  f_standing : Addr
  d_standing : FuncData
  f_told_names : Addr
  d_told_names : FuncData
  f_Sheet_XinitX : Addr
  d_Sheet_XinitX : FuncData
  f_Sheet_XiterX : Addr
  d_Sheet_XiterX : FuncData
  f_Sheet_XlenX : Addr
  d_Sheet_XlenX : FuncData
  f_Sheet_XorX : Addr
  d_Sheet_XorX : FuncData
  f_Sheet_sign_of : Addr
  d_Sheet_sign_of : FuncData
  f_Sheet_rule_of : Addr
  d_Sheet_rule_of : FuncData
  f_Sheet_life_of : Addr
  d_Sheet_life_of : FuncData
  f_Sheet_code_of : Addr
  d_Sheet_code_of : FuncData
  f_l_mixed : Addr
  d_l_mixed : FuncData
  f_l_bag : Addr
  d_l_bag : FuncData
  f_l_pick : Addr
  d_l_pick : FuncData
  f_l_choice : Addr
  d_l_choice : FuncData
  f_l_mingled : Addr
  d_l_mingled : FuncData
  f_l_new_name : Addr
  d_l_new_name : FuncData
  f_l_standing : Addr
  d_l_standing : FuncData
  f_l_tracks : Addr
  d_l_tracks : FuncData
  f_l_numbers : Addr
  d_l_numbers : FuncData
  f_l_world : Addr
  d_l_world : FuncData
  f_l_rows : Addr
  d_l_rows : FuncData
  f_l_further : Addr
  d_l_further : FuncData
  f_l_both : Addr
  d_l_both : FuncData
  f_l_one_change : Addr
  d_l_one_change : FuncData
  f_l_days_tell : Addr
  d_l_days_tell : FuncData
  f_l_due : Addr
  d_l_due : FuncData
  f_law : Addr
  d_law : FuncData
  C_BadNumber : Addr
  C_Sheet : Addr
  t_LAST_DAY : Tok
  t_LETTERS : Tok
  t_MOST_DAYS : Tok
  t_MOST_NUMBER : Tok
  t_NAME_LETTERS : Tok
  a_dfl : Addr
structure Txt (K : PySem.W.Frag) (mg : Str → Option Value) (A : Ad) : Prop where
  F_BadNumber_XinitX : Fun K "__init__" "BadNumber.__init__" s_BadNumber_XinitX A.f_BadNumber_XinitX A.d_BadNumber_XinitX
  bi_BadNumber_XinitX : Binds K A.d_BadNumber_XinitX ["self", "name"] []
  F_is_number : Fun K "is_number" "is_number" s_is_number A.f_is_number A.d_is_number
  bi_is_number : Binds K A.d_is_number ["number", "low", "high"] []
  g_is_number : mg "is_number" = some (.ref A.f_is_number)
  F_is_name : Fun K "is_name" "is_name" s_is_name A.f_is_name A.d_is_name
  bi_is_name : Binds K A.d_is_name ["name"] []
  g_is_name : mg "is_name" = some (.ref A.f_is_name)
  F_check_number : Fun K "check_number" "check_number" s_check_number A.f_check_number A.d_check_number
  bi_check_number : Binds K A.d_check_number ["word", "number", "low", "high"] []
  g_check_number : mg "check_number" = some (.ref A.f_check_number)
  F_is_entry : Fun K "is_entry" "is_entry" s_is_entry A.f_is_entry A.d_is_entry
  bi_is_entry : Binds K A.d_is_entry ["entry"] []
  g_is_entry : mg "is_entry" = some (.ref A.f_is_entry)
  F_joined : Fun K "joined" "joined" s_joined A.f_joined A.d_joined
  bi_joined : Binds K A.d_joined ["entries"] []
  g_joined : mg "joined" = some (.ref A.f_joined)
  F_standing : Fun K "standing" "standing" s_standing A.f_standing A.d_standing
  bi_standing : Binds K A.d_standing ["rows"] []
  g_standing : mg "standing" = some (.ref A.f_standing)
  F_told_names : Fun K "told_names" "told_names" s_told_names A.f_told_names A.d_told_names
  bi_told_names : Binds K A.d_told_names ["rows", "stands", "form"] []
  g_told_names : mg "told_names" = some (.ref A.f_told_names)
  F_Sheet_XinitX : FunD K "__init__" "Sheet.__init__" (defArgs s_Sheet_XinitX) (defBody s_Sheet_XinitX) (defScope s_Sheet_XinitX) [.ref A.a_dfl] [] A.f_Sheet_XinitX A.d_Sheet_XinitX
  bi_Sheet_XinitX : Binds K A.d_Sheet_XinitX ["self", "entries"] []
  F_Sheet_XiterX : Fun K "__iter__" "Sheet.__iter__" s_Sheet_XiterX A.f_Sheet_XiterX A.d_Sheet_XiterX
  bi_Sheet_XiterX : Binds K A.d_Sheet_XiterX ["self"] []
  F_Sheet_XlenX : Fun K "__len__" "Sheet.__len__" s_Sheet_XlenX A.f_Sheet_XlenX A.d_Sheet_XlenX
  bi_Sheet_XlenX : Binds K A.d_Sheet_XlenX ["self"] []
  F_Sheet_XorX : Fun K "__or__" "Sheet.__or__" s_Sheet_XorX A.f_Sheet_XorX A.d_Sheet_XorX
  bi_Sheet_XorX : Binds K A.d_Sheet_XorX ["self", "other"] []
  F_Sheet_sign_of : Fun K "sign_of" "Sheet.sign_of" s_Sheet_sign_of A.f_Sheet_sign_of A.d_Sheet_sign_of
  bi_Sheet_sign_of : Binds K A.d_Sheet_sign_of ["self", "day"] []
  F_Sheet_rule_of : Fun K "rule_of" "Sheet.rule_of" s_Sheet_rule_of A.f_Sheet_rule_of A.d_Sheet_rule_of
  bi_Sheet_rule_of : Binds K A.d_Sheet_rule_of ["self", "day"] []
  F_Sheet_life_of : Fun K "life_of" "Sheet.life_of" s_Sheet_life_of A.f_Sheet_life_of A.d_Sheet_life_of
  bi_Sheet_life_of : Binds K A.d_Sheet_life_of ["self", "days", "plain"] []
  F_Sheet_code_of : Fun K "code_of" "Sheet.code_of" s_Sheet_code_of A.f_Sheet_code_of A.d_Sheet_code_of
  bi_Sheet_code_of : Binds K A.d_Sheet_code_of ["self", "days", "first"] []
  F_l_mixed : Fun K "_law_mixed" "_law_mixed" s_l_mixed A.f_l_mixed A.d_l_mixed
  bi_l_mixed : Binds K A.d_l_mixed ["_law_number", "_law_turn"] []
  g_l_mixed : mg "_law_mixed" = some (.ref A.f_l_mixed)
  F_l_bag : Fun K "_law_bag" "_law_bag" s_l_bag A.f_l_bag A.d_l_bag
  bi_l_bag : Binds K A.d_l_bag ["_law_script"] []
  g_l_bag : mg "_law_bag" = some (.ref A.f_l_bag)
  F_l_pick : Fun K "_law_pick" "_law_pick" s_l_pick A.f_l_pick A.d_l_pick
  bi_l_pick : Binds K A.d_l_pick ["_law_bag_here", "_law_many"] []
  g_l_pick : mg "_law_pick" = some (.ref A.f_l_pick)
  F_l_choice : Fun K "_law_choice" "_law_choice" s_l_choice A.f_l_choice A.d_l_choice
  bi_l_choice : Binds K A.d_l_choice ["_law_bag_here", "_law_things"] []
  g_l_choice : mg "_law_choice" = some (.ref A.f_l_choice)
  F_l_mingled : Fun K "_law_mingled" "_law_mingled" s_l_mingled A.f_l_mingled A.d_l_mingled
  bi_l_mingled : Binds K A.d_l_mingled ["_law_bag_here", "_law_things"] []
  g_l_mingled : mg "_law_mingled" = some (.ref A.f_l_mingled)
  F_l_new_name : Fun K "_law_new_name" "_law_new_name" s_l_new_name A.f_l_new_name A.d_l_new_name
  bi_l_new_name : Binds K A.d_l_new_name ["_law_bag_here", "_law_used"] []
  g_l_new_name : mg "_law_new_name" = some (.ref A.f_l_new_name)
  F_l_standing : Fun K "_law_standing" "_law_standing" s_l_standing A.f_l_standing A.d_l_standing
  bi_l_standing : Binds K A.d_l_standing ["_law_read"] []
  g_l_standing : mg "_law_standing" = some (.ref A.f_l_standing)
  F_l_tracks : Fun K "_law_tracks" "_law_tracks" s_l_tracks A.f_l_tracks A.d_l_tracks
  bi_l_tracks : Binds K A.d_l_tracks ["_law_read", "_law_days", "_law_come", "_law_sign_base", "_law_rule_base"] []
  g_l_tracks : mg "_law_tracks" = some (.ref A.f_l_tracks)
  F_l_numbers : Fun K "_law_numbers" "_law_numbers" s_l_numbers A.f_l_numbers A.d_l_numbers
  bi_l_numbers : Binds K A.d_l_numbers ["_law_bag_here", "_law_many"] []
  g_l_numbers : mg "_law_numbers" = some (.ref A.f_l_numbers)
  F_l_world : Fun K "_law_world" "_law_world" s_l_world A.f_l_world A.d_l_world
  bi_l_world : Binds K A.d_l_world ["_law_bag_here"] []
  g_l_world : mg "_law_world" = some (.ref A.f_l_world)
  F_l_rows : Fun K "_law_rows" "_law_rows" s_l_rows A.f_l_rows A.d_l_rows
  bi_l_rows : Binds K A.d_l_rows ["_law_bag_here", "_law_world_here", "_law_numbers_here"] []
  g_l_rows : mg "_law_rows" = some (.ref A.f_l_rows)
  F_l_further : Fun K "_law_further" "_law_further" s_l_further A.f_l_further A.d_l_further
  bi_l_further : Binds K A.d_l_further ["_law_bag_here", "_law_world_here", "_law_entries"] []
  g_l_further : mg "_law_further" = some (.ref A.f_l_further)
  F_l_both : Fun K "_law_both" "_law_both" s_l_both A.f_l_both A.d_l_both
  bi_l_both : Binds K A.d_l_both ["_law_sheet", "_law_world_here"] []
  g_l_both : mg "_law_both" = some (.ref A.f_l_both)
  F_l_one_change : Fun K "_law_one_change" "_law_one_change" s_l_one_change A.f_l_one_change A.d_l_one_change
  bi_l_one_change : Binds K A.d_l_one_change ["_law_before", "_law_behind"] []
  g_l_one_change : mg "_law_one_change" = some (.ref A.f_l_one_change)
  F_l_days_tell : Fun K "_law_days_tell" "_law_days_tell" s_l_days_tell A.f_l_days_tell A.d_l_days_tell
  bi_l_days_tell : Binds K A.d_l_days_tell ["_law_sheet", "_law_world_here", "_law_due_here"] []
  g_l_days_tell : mg "_law_days_tell" = some (.ref A.f_l_days_tell)
  F_l_due : Fun K "_law_due" "_law_due" s_l_due A.f_l_due A.d_l_due
  bi_l_due : Binds K A.d_l_due ["_law_read", "_law_world_here"] []
  g_l_due : mg "_law_due" = some (.ref A.f_l_due)
  F_law : Fun K "law" "law" s_law A.f_law A.d_law
  bi_law : Binds K A.d_law ["_law_script"] []
  g_law : mg "law" = some (.ref A.f_law)
  g_BadNumber : mg "BadNumber" = some (.ref A.C_BadNumber)
  ox_BadNumber : OexC K A.C_BadNumber
  nx_BadNumber : PySem.W.findIn K (.ref A.C_BadNumber) "name" = some none
  ix_BadNumber : PySem.W.findIn K (.ref A.C_BadNumber) "__init__" = some (some (.ref A.f_BadNumber_XinitX))
  tx_BadNumber : PySem.W.typeIn K (.ref A.f_BadNumber_XinitX) = some (.type "function")
  g_Sheet : mg "Sheet" = some (.ref A.C_Sheet)
  cl_Sheet : Cls K A.C_Sheet
  na_Sheet__rows : NoAttr K A.C_Sheet "_rows"
  na_Sheet__standing : NoAttr K A.C_Sheet "_standing"
  na_Sheet__signs : NoAttr K A.C_Sheet "_signs"
  na_Sheet__rules : NoAttr K A.C_Sheet "_rules"
  m_Sheet_sign_of : Meth K A.C_Sheet "sign_of" A.f_Sheet_sign_of
  m_Sheet_rule_of : Meth K A.C_Sheet "rule_of" A.f_Sheet_rule_of
  m_Sheet_life_of : Meth K A.C_Sheet "life_of" A.f_Sheet_life_of
  m_Sheet_code_of : Meth K A.C_Sheet "code_of" A.f_Sheet_code_of
  mk_Sheet : Mk K A.C_Sheet A.f_Sheet_XinitX
  sf_Sheet : PySem.W.selfFirst K A.C_Sheet = true
  c_LAST_DAY : mg "LAST_DAY" = some (.int 59 A.t_LAST_DAY)
  c_LETTERS : mg "LETTERS" = some (.str "abcdefghijklmnopqrstuvwxyz" A.t_LETTERS)
  c_MOST_DAYS : mg "MOST_DAYS" = some (.int 60 A.t_MOST_DAYS)
  c_MOST_NUMBER : mg "MOST_NUMBER" = some (.int 999 A.t_MOST_NUMBER)
  c_NAME_LETTERS : mg "NAME_LETTERS" = some (.int 8 A.t_NAME_LETTERS)
  b_abs : mg "abs" = none
  b_all : mg "all" = none
  b_bool : mg "bool" = none
  b_enumerate : mg "enumerate" = none
  b_int : mg "int" = none
  b_isinstance : mg "isinstance" = none
  b_iter : mg "iter" = none
  b_len : mg "len" = none
  b_list : mg "list" = none
  b_range : mg "range" = none
  b_reversed : mg "reversed" = none
  b_sorted : mg "sorted" = none
  b_str : mg "str" = none
  b_tuple : mg "tuple" = none
  kc_Sheet : PySem.W.findIn K (.ref A.C_Sheet) "__class__" = some (some (.builtin "object.__class__"))
  kn_obj : PySem.W.specialIn K (.builtin "object.__class__") "__get__" = some (some (.builtin "getset_descriptor.__get__"))
  kt_obj : PySem.W.takesIn K (.builtin "object.__class__") = some true
  km_Sheet : PySem.W.mroIn K A.C_Sheet (.type "object") = some true
  il_Sheet : IlC K A.C_Sheet A.f_Sheet_XiterX A.f_Sheet_XlenX
  io_or_Sheet : PySem.W.findIn K (.ref A.C_Sheet) "__or__" = some (some (.ref A.f_Sheet_XorX))
  if_or_Sheet : PySem.W.isFn K (.ref A.f_Sheet_XorX) = true
end Dh
/-! K08Pre -/
set_option Elab.async false
set_option linter.all false
set_option maxRecDepth 100000
set_option maxHeartbeats 4000000
namespace Dh
open PySem PySem.Spec L2
open _root_.Evl (Ex)
local macro_rules | `(tactic| walk_at "ex") => `(tactic| first | assumption | ((with_reducible apply ex_mut); (focus assumption); walk_at "ex") | ((with_reducible apply ex_both); walk_at "ex") | ((with_reducible apply ex_new); (focus assumption); walk_at "ex"))
local macro_rules | `(tactic| walk_at "hp") => `(tactic| first | assumption | with_reducible exact upd_same | ((with_reducible apply upd_old); (focus assumption); walk_at "hp") | ((with_reducible apply upd_oth); (focus walk_at "neq"); walk_at "hp") | ((with_reducible apply ex_by); (focus assumption); walk_at "ex") | ((with_reducible apply ex_at); (focus assumption); walk_at "hp"))
local macro_rules | `(tactic| walk_at "neq") => `(tactic| first | assumption | (apply Ne.symm; assumption))
local macro_rules | `(tactic| walk_at "sq") => `(tactic| first | assumption | ((with_reducible apply SqL.of); walk_at "hp") | ((with_reducible apply SqT.of); walk_at "hp"))
local macro_rules | `(tactic| walk_at "side") => `(tactic| first | assumption | decide | exact cm_fmod (by decide) (by decide) | (show _ ≠ (0 : Int); decide) | (show _ ≠ (0 : Int); omega) | exact Or.inr ⟨by decide, by decide⟩ | exact Or.inl ⟨by decide, by decide⟩ | (show CDivN _ _; exact ⟨by decide, by decide⟩) | (show CDivN _ _; exact ⟨by omega, by omega⟩) | exact Or.inl ⟨by omega, by omega⟩ | exact Or.inr ⟨by omega, by omega⟩ | exact ⟨by decide, by decide, by decide⟩)
local macro_rules | `(tactic| walk_at "ix") => `(tactic| first | exact rfl | assumption | exact atI_nat (by assumption))
local macro_rules | `(tactic| walk_at "step0") => `(tactic| first
  | with_reducible refine i_seq ?_
  | with_reducible refine i_asg ?_
  | with_reducible refine i_op ?_
  | ((with_reducible refine' i_var ?hv ?_); (case hv => exact rfl))
  | with_reducible refine i_c ?_
  | with_reducible refine i_cons ?_
  | with_reducible refine i_nil ?_
  | with_reducible refine i_cb ?_
  | with_reducible refine i_call ?_
  | with_reducible refine i_call' ?_
  | with_reducible refine i_un ?_
  | with_reducible refine i_I0 ?_
  | ((with_reducible refine i_I ?hv ?_); (case hv => walk_at "side"))
  | with_reducible refine i_eqI ?_
  | with_reducible refine i_neI ?_
  | with_reducible refine i_eqS ?_
  | with_reducible refine i_neS ?_
  | ((with_reducible refine i_eq ?hv ?_); (case hv => exact rfl))
  | ((with_reducible refine i_ne ?hv ?_); (case hv => exact rfl))
  | with_reducible refine i_int1 ?_
  | with_reducible refine i_abs ?_
  | ((with_reducible refine' i_ixL ?hv ?hw ?_); (case hv => walk_at "sq"); (case hw => walk_at "ix"))
  | ((with_reducible refine' i_ixT ?hv ?hw ?_); (case hv => walk_at "sq"); (case hw => walk_at "ix"))
  | ((with_reducible refine' i_lenL ?hv ?_); (case hv => walk_at "sq"))
  | ((with_reducible refine' i_lenT ?hv ?_); (case hv => walk_at "sq"))
  | with_reducible refine i_addIB ?_
  | with_reducible refine i_mulIB ?_
  | ((with_reducible refine i_lenS ?hv ?_); (case hv => walk_at "side"))
  | with_reducible refine i_tup ?_
  | with_reducible refine i_lst ?_
  | with_reducible refine i_asgG ?_
  | with_reducible refine i_gname ?_
  | with_reducible refine i_gsub ?_
  | ((with_reducible refine' i_setL ?hv ?hw ?_); (case hv => walk_at "hp"); (case hw => exact rfl))
  | with_reducible refine i_ret ?_
  | with_reducible refine i_drop ?_
  | with_reducible refine i_next ?_
  | with_reducible refine i_test ?_
  | with_reducible refine i_B ?_
  | with_reducible refine i_bl ?_
  | with_reducible refine i_not ?_
  | with_reducible refine i_and ?_
  | with_reducible refine i_or ?_
  | ((with_reducible refine' i_app ?hv ?hw ?_); (case hv => walk_at "hp"); (case hw => walk_at "side"))
  | with_reducible refine iteT ?_
  | with_reducible refine iteF ?_
  | with_reducible refine iteNT ?_
  | with_reducible refine iteNF ?_
  | ((with_reducible refine iteT' ?hv ?_); (case hv => first | exact decide_eq_true (by assumption) | exact notF (by assumption) | exact decide_eq_true rfl | exact notF (by decide) | exact decide_eq_true (by decide) | exact decide_eq_true (by simp only [List.length_cons, List.length_nil]; decide)))
  | ((with_reducible refine iteF' ?hv ?_); (case hv => first | exact decide_eq_false (by assumption) | exact notT (by assumption) | exact notT rfl | exact decide_eq_false (by decide) | exact decide_eq_false (by simp only [List.length_cons, List.length_nil]; decide)))
  | with_reducible refine i_forL ?_
  | with_reducible refine i_forT ?_
  | with_reducible refine i_forR ?_
  | with_reducible refine i_forR2 ?_
  | with_reducible refine i_forE ?_
  | with_reducible refine i_forV ?_
  | with_reducible refine i_forS ?_
  | with_reducible refine i_forK ?_
  | with_reducible refine i_lcL ?_
  | with_reducible refine i_lcT ?_
  | with_reducible refine i_lcR ?_
  | with_reducible refine i_lcR2 ?_
  | with_reducible refine i_lcS ?_
  | with_reducible refine i_lcK ?_
  | ((with_reducible refine' fl_L ?hv ?_); (case hv => walk_at "sq"))
  | ((with_reducible refine' fl_T ?hv ?_); (case hv => walk_at "sq"))
  | ((with_reducible refine fl_R ?hv ?hw ?_); (case hv => (first | decide | omega)); (case hw => (first | decide | omega)))
  | ((with_reducible refine fl_R2 ?hv ?_); (case hv => (first | decide | (refine ⟨?_, ?_, ?_, ?_⟩ <;> omega))))
  | ((with_reducible refine' fl_E ?hv ?_); (case hv => walk_at "sq"))
  | ((with_reducible refine' fl_V ?hv ?_); (case hv => walk_at "sq"))
  | with_reducible refine fl_S ?_
  | ((with_reducible refine' fc_L ?hv ?_); (case hv => walk_at "sq"))
  | ((with_reducible refine' fc_T ?hv ?_); (case hv => walk_at "sq"))
  | ((with_reducible refine fc_R ?hv ?hw ?_); (case hv => (first | decide | omega)); (case hw => (first | decide | omega)))
  | with_reducible refine fc_S ?_
  | with_reducible refine i_sl ?_
  | with_reducible refine i_nopart ?_
  | with_reducible refine i_part ?_
  | with_reducible refine i_isint ?_
  | ((with_reducible refine' i_slL ?hv ?_); (case hv => walk_at "sq"))
  | ((with_reducible refine i_slS ?hv ?_); (case hv => walk_at "side"))
  | ((with_reducible refine' i_gtup ?hv ?hw ?_); (case hv => walk_at "sq"); (case hw => exact rfl))
  | with_reducible refine i_gcons ?_
  | with_reducible refine i_gnil ?_
  | ((with_reducible refine' i_listL ?hv ?_); (case hv => walk_at "sq"))
  | ((with_reducible refine' i_listT ?hv ?_); (case hv => walk_at "sq"))
  | ((with_reducible refine' i_tupL ?hv ?_); (case hv => walk_at "sq"))
  | ((with_reducible refine' i_lenD ?hv ?_); (case hv => walk_at "hp"))
  | ((with_reducible refine' i_ty ?hv ?_); (case hv => walk_at "hp"))
  | ((with_reducible refine And.intro ?hv ?_); (case hv => first | exact (by decide : (0 : Nat) ≤ sizeLine) | exact (by decide : (1 : Nat) ≤ sizeLine) | exact (by decide : (2 : Nat) ≤ sizeLine) | exact (by decide : (3 : Nat) ≤ sizeLine) | exact (by decide : (4 : Nat) ≤ sizeLine) | exact (by decide : (5 : Nat) ≤ sizeLine) | exact (by decide : (6 : Nat) ≤ sizeLine)))
  | with_reducible refine i_inC ?_
  | ((with_reducible refine i_addT ?hv ?_); (case hv => walk_at "side"))
  | with_reducible refine i_m1 ?_
  | with_reducible refine i_isstr ?_
  | with_reducible refine is_int_int ?_
  | with_reducible refine is_int_bool ?_
  | with_reducible refine is_str_str ?_
  | ((with_reducible refine' is_tup_tup ?hv ?_); (case hv => walk_at "hp"))
  | with_reducible refine i_ifExp ?_
  | with_reducible refine i_andV ?_
  | with_reducible refine i_orV ?_
  | with_reducible refine i_notV ?_
  | with_reducible refine i_chain ?_
  | ((with_reducible refine' i_inS ?hv ?_); (case hv => walk_at "sq"))
  | ((with_reducible refine' i_niS ?hv ?_); (case hv => walk_at "sq"))
  | ((with_reducible refine' i_inI ?hv ?_); (case hv => walk_at "sq"))
  | ((with_reducible refine' i_niI ?hv ?_); (case hv => walk_at "sq"))
  | with_reducible refine i_dnew ?_
  | with_reducible refine i_dput ?_
  | ((with_reducible refine' i_dputI ?hv ?hw ?_); (case hv => walk_at "hp"); (case hw => walk_at "side"))
  | with_reducible refine i_dget ?_
  | ((with_reducible refine' i_dgetI ?hv ?hw ?_); (case hv => walk_at "hp"); (case hw => assumption))
  | with_reducible refine i_dnotin ?_
  | with_reducible refine i_din ?_
  | ((with_reducible refine' i_dnotinI ?hv ?_); (case hv => walk_at "hp"))
  | with_reducible refine i_dsetd ?_
  | ((with_reducible refine' i_isd ?hv ?_); (case hv => walk_at "hp"))
  | with_reducible refine i_fld ?_
  | with_reducible refine i_sfld ?_
  | with_reducible refine i_dcT ?_
  | with_reducible refine i_dcL ?_
  | with_reducible refine i_truT ?_
  | ((with_reducible refine' i_truL ?hv ?_); (case hv => walk_at "sq"))
  | with_reducible refine i_revL ?_
  | ((with_reducible refine' i_atLx ?hv ?_); (case hv => walk_at "sq"))
  | with_reducible refine i_bm ?_
  | with_reducible refine i_bm0 ?_)
local macro_rules | `(tactic| walk_at "step") => `(tactic| first | walk_at "step0" | with_reducible refine i_ifS ?_)
local macro_rules | `(tactic| walk_at "goj") => `(tactic| repeat (first | walk_at "step0" | with_reducible refine i_ifS (c := tTest _) ?_ | with_reducible refine i_ifS (c := tB _) ?_))
local macro_rules | `(tactic| walk_at "tj") => `(tactic| (intro q hq; repeat (first | exact hq | walk_at "step" | (refine and_q hq (fun h => ?_); clear hq; rename_i hq) | (refine or_q hq (fun h => ?_); clear hq; rename_i hq))))
local macro_rules | `(tactic| walk_at "go") => `(tactic| repeat walk_at "step")

/-! ### heaps -/
def BgL (F : Hp) (l : List V) : Prop := ∃ (n : Addr) (ns : List Int) (i h t s : Int), l = [.ref n, .int i, .int h, .int t, .int s] ∧ F n = some (.lst (ns.map V.int)) ∧ 0 ≤ i ∧ 0 ≤ h
structure Bg (F H : Hp) (b : Addr) : Prop where
  fr : F b = none
  ex : ∃ l, H b = some (.lst l) ∧ BgL F l
def spMixed : Sp := fun vs H Q _ => ∃ x t : Int, vs = [.int x, .int t] ∧ ∀ r : Int, Q (.int r) H
def spPick : Sp := fun vs H Q _ => ∃ (b : Addr) (m : Int) (F : Hp), vs = [.ref b, .int m] ∧ 0 < m ∧ m < 1073741824 ∧ Ex F H ∧ Bg F H b ∧ ∀ (r : Int) (l : List V), 0 ≤ r → r < m → BgL F l → Q (.int r) (upd H b (.lst l))
section
variable {P : Program} {w : World} {K : PySem.W.Frag} {mg : Str → Option Value} {base : Heap} {A : Ad}
theorem ok_l_mixed (T : Txt K mg A) : FnOk P w K mg base CX0 1 A.f_l_mixed A.d_l_mixed ["_law_number", "_law_turn"] spMixed := by
  refine T.F_l_mixed.ok sc_l_mixed (fun vs H Q E h => ?_) (fun cdv Ar outer s H vs Q E hr h => ?_)
  · obtain ⟨x, t, rfl, _⟩ := h; rfl
  · obtain ⟨x, t, rfl, k⟩ := h
    refine ⟨_, (pss_cons (ps_set (i := 2) sc_l_mixed.nd rfl (Or.inl rfl) (pe_op op_modN (pe_callTy cl_int (by rfl) T.b_int (by decide +kernel) (pa_cons (pe_op op_add (pe_op op_mul (pe_op op_add (pv 0) pe_int) pe_int) (pe_op op_mul (pe_op op_add (pv 1) pe_int) pe_int)) pa_nil)) pe_int))
  (pss_cons (ps_set (i := 3) sc_l_mixed.nd rfl (Or.inl rfl) (pe_op op_modN (pe_callTy cl_int (by rfl) T.b_int (by decide +kernel) (pa_cons (pe_op op_add (pe_op op_add (pe_op op_mul (pv 2) (pv 2)) (pe_op op_mul (pv 2) pe_int)) (pe_op op_mul (pe_op op_add (pv 1) pe_int) pe_int)) pa_nil)) pe_int))
  (pss_one (ps_ret (pe_op op_modN (pe_callTy cl_int (by rfl) T.b_int (by decide +kernel) (pa_cons (pe_op op_add (pe_op op_add (pe_op op_fdivN (pv 3) pe_int) (pe_op op_mul (pv 3) pe_int)) (pv 1)) pa_nil)) pe_int))))), ?_⟩
    walk_at "go"
    exact k _
theorem ok_l_pick (T : Txt K mg A) : FnOk P w K mg base CX0 2 A.f_l_pick A.d_l_pick ["_law_bag_here", "_law_many"] spPick := by
  refine T.F_l_pick.ok sc_l_pick (fun vs H Q E h => ?_) (fun cdv Ar outer s H vs Q E hr h => ?_)
  · obtain ⟨b, m, F, rfl, _⟩ := h; rfl
  · obtain ⟨b, m, F, rfl, m0, m1, e, ⟨fr, l, hb, n, ns, i, hh, t, sd, rfl, hn, i0, h0⟩, k⟩ := h
    refine ⟨_, (pss_cons (ps_set (i := 2) sc_l_pick.nd rfl (Or.inl rfl) (pe_ix ix_list (pv 0) pe_int (fun _ _ => rfl)))
  (pss_cons (ps_asg (pe_op op_add (pv 2) pe_int) (pg_sub (pv 0) pe_int set_list))
  (pss_cons (ps_if (PW.pt (pw_and (pt_cmpR op_eq (pe_ix ix_list (pv 0) pe_int (fun _ _ => rfl)) pe_int (nomark _)) (pw_and1 (pt_cmpR op_lt (pe_ix ix_list (pv 0) pe_int (fun _ _ => rfl)) (pe_callB cl_len (by rfl) T.b_len (by decide +kernel) (pa_cons (pe_ix ix_list (pv 0) pe_int (fun _ _ => rfl)) pa_nil)) (nomark _))))) (pss_cons (ps_set (i := 3) sc_l_pick.nd rfl (Or.inl rfl) (pe_ix ix_list (pe_ix ix_list (pv 0) pe_int (fun _ _ => rfl)) (pe_ix ix_list (pv 0) pe_int (fun _ _ => rfl)) (fun _ _ => rfl)))
  (pss_cons (ps_asg (pe_op op_add (pe_ix ix_list (pv 0) pe_int (fun _ _ => rfl)) pe_int) (pg_sub (pv 0) pe_int set_list))
  (pss_cons (ps_if (pt_cmpR op_lt (pe_callB cl_abs (by rfl) T.b_abs (by decide +kernel) (pa_cons (pv 3) pa_nil)) (pe_op op_pow pe_int pe_int) (nomark _)) (pss_one (ps_ret (pe_op op_modN (pe_callTy cl_int (by rfl) T.b_int (by decide +kernel) (pa_cons (pe_call (ok_l_mixed T) (hr.mono (by decide)) rfl T.g_l_mixed T.F_l_mixed.kp T.bi_l_mixed .nil pass0 (pa_cons (pe_op op_addIB (pe_op op_mul pe_int (pe_callB cl_abs (by rfl) T.b_abs (by decide +kernel) (pa_cons (pv 3) pa_nil))) (pe_cmpR op_lt (pv 3) pe_int (nomark _))) (pa_cons (pv 2) pa_nil))) pa_nil)) (pv 1)))) pss_nil)
  (pss_one (ps_asg (pe_callB cl_abs (by rfl) T.b_abs (by decide +kernel) (pa_cons (pv 3) pa_nil)) (pg_sub (pv 0) pe_int set_list)))))) pss_nil)
  (pss_cons (ps_if (pt_cmpR op_eq (pe_ix ix_list (pv 0) pe_int (fun _ _ => rfl)) pe_int (nomark _)) (pss_one (ps_ret (pe_op op_modN (pe_callTy cl_int (by rfl) T.b_int (by decide +kernel) (pa_cons (pe_call (ok_l_mixed T) (hr.mono (by decide)) rfl T.g_l_mixed T.F_l_mixed.kp T.bi_l_mixed .nil pass0 (pa_cons (pe_ix ix_list (pv 0) pe_int (fun _ _ => rfl)) (pa_cons (pv 2) pa_nil))) pa_nil)) (pv 1)))) pss_nil)
  (pss_cons (ps_set (i := 4) sc_l_pick.nd rfl (Or.inl rfl) (pe_op op_modN (pe_callTy cl_int (by rfl) T.b_int (by decide +kernel) (pa_cons (pe_ix ix_list (pv 0) pe_int (fun _ _ => rfl)) pa_nil)) (pv 1)))
  (pss_cons (ps_asg (pe_op op_fdivN (pe_ix ix_list (pv 0) pe_int (fun _ _ => rfl)) (pv 1)) (pg_sub (pv 0) pe_int set_list))
  (pss_one (ps_ret (pv 4))))))))), ?_⟩
    dsimp only [cxOf, Cx.nox, Cx.wish]
    have fin : ∀ (z : Int) (l : List V), BgL F l → Q (.int (z.fmod m)) (upd H b (.lst l)) := fun z l hl => k _ l (fmod_lt m0).1 (fmod_lt m0).2 hl
    walk_at "go"
    refine iteD (fun c1 => ?_) (fun c1 => ?_)
    · walk_at "go"
      refine iteD (fun c2 => ?_) (fun c2 => ?_)
      · rw [List.length_map] at c2
        obtain ⟨z, hz, _⟩ := atI_ints i0 c2
        walk_at "go"
        refine iteD (fun c3 => ?_) (fun c3 => ?_)
        · walk_at "go"
          refine ⟨_, _, rfl, fun r => ?_⟩
          walk_at "go"
          rw [upd_upd]
          exact fin _ _ ⟨n, ns, i + 1, hh, t + 1, sd, rfl, hn, by omega, h0⟩
        · walk_at "go"
          rw [upd_upd, upd_upd]
          have a0 : 0 ≤ (if z < 0 then -z else z) := by split <;> omega
          generalize (if z < 0 then -z else z) = az at a0 c3 ⊢
          refine iteD (fun c4 => ?_) (fun c4 => ?_)
          · walk_at "go"
            refine ⟨_, _, rfl, fun r => ?_⟩
            walk_at "go"
            exact fin _ _ ⟨n, ns, i + 1, az, t + 1, sd, rfl, hn, by omega, a0⟩
          · walk_at "go"
            rw [upd_upd]
            exact fin _ _ ⟨n, ns, i + 1, az.fdiv m, t + 1, sd, rfl, hn, by omega, Int.fdiv_nonneg a0 (by omega)⟩
      · walk_at "go"
        refine ⟨_, _, rfl, fun r => ?_⟩
        walk_at "go"
        exact fin _ _ ⟨n, ns, i, hh, t + 1, sd, rfl, hn, i0, h0⟩
    · walk_at "go"
      rw [upd_upd]
      exact fin _ _ ⟨n, ns, i, hh.fdiv m, t + 1, sd, rfl, hn, i0, Int.fdiv_nonneg h0 (by omega)⟩
/-- law's bag: a new list [numbers, 0, 0, 0, seed] over a new list of the numbers -/
def spBag (K : PySem.W.Frag) : Sp := fun vs H Q _ => ∃ (a : Addr) (ns : List Int), vs = [.ref a] ∧ SqL K H a (ns.map V.int) ∧ ns.length ≤ 63 ∧ ∀ (b n : Addr) (sd : Int) (H' : Hp), Ex H H' → H b = none → H n = none → b ≠ n → H' n = some (.lst (ns.map V.int)) → H' b = some (.lst [.ref n, .int 0, .int 0, .int 0, .int sd]) → Q (.ref b) H'
theorem ok_l_bag (T : Txt K mg A) : FnOk P w K mg base CX0 1 A.f_l_bag A.d_l_bag ["_law_script"] (spBag K) := by
  refine T.F_l_bag.ok sc_l_bag (fun vs H Q E h => ?_) (fun cdv Ar outer s H vs Q E hr h => ?_)
  · obtain ⟨a, ns, rfl, _⟩ := h; rfl
  · obtain ⟨a, ns, rfl, hS, hl, k⟩ := h
    refine ⟨_, (pss_cons (ps_setLc (i := 1) (own := [("_law_cell", 2)]) (g := gName 2) (tt := tYes) rfl sc_l_bag.nd rfl rfl (sw_true rfl rfl rfl (by decide +kernel)) (pi_list (pv 0)) (blkOk_by (N := ["_law_script", "_law_numbers_here", "_law_cell", "_law_seed", "_law_at"]) (sc := defScope s_l_bag) (by decide +kernel)) (fun _ _ _ _ _ => (pg_name (i := 2) sc_l_bag.nd rfl (Or.inl rfl))) (fun _ _ _ _ _ => pts_nil) (fun _ _ _ _ _ => (pe_callTy cl_int (by rfl) T.b_int (by decide +kernel) (pa_cons (pv 2) pa_nil))))
  (pss_cons (ps_set (i := 3) sc_l_bag.nd rfl (Or.inl rfl) (pe_callB cl_len (by rfl) T.b_len (by decide +kernel) (pa_cons (pv 1) pa_nil)))
  (pss_cons (ps_for PassesOwn.never rfl (pi_enum (by rfl) T.b_enumerate (pa_cons (pe_slice sl_list (pv 1) po_none (po_some pe_int)) pa_nil)) (pg_tup (n := 2) rfl (pgs_cons (pg_name (i := 4) sc_l_bag.nd rfl (Or.inl rfl)) (pgs_cons (pg_name (i := 2) sc_l_bag.nd rfl (Or.inl rfl)) pgs_nil)) (by rfl))
   (pss_one (ps_set (i := 3) sc_l_bag.nd rfl (Or.inl rfl) (pe_op op_modN (pe_callTy cl_int (by rfl) T.b_int (by decide +kernel) (pa_cons (pe_op op_add (pe_op op_add (pe_op op_mul (pv 3) pe_int) (pe_op op_modN (pe_callTy cl_int (by rfl) T.b_int (by decide +kernel) (pa_cons (pe_callB cl_abs (by rfl) T.b_abs (by decide +kernel) (pa_cons (pv 2) pa_nil)) pa_nil)) pe_int)) (pe_op op_mulIB (pe_op op_add (pv 4) pe_int) (pe_cmpR op_lt (pv 2) pe_int (nomark _)))) pa_nil)) pe_int))))
  (pss_one (ps_ret (pe_lst (pa_cons (pv 1) (pa_cons pe_int (pa_cons pe_int (pa_cons pe_int (pa_cons (pv 3) pa_nil))))))))))), ?_⟩
    dsimp only [cxOf, Cx.nox, Cx.wish]
    walk_at "go"
    refine lc_pure (fun i => .int (ns.getD i 0)) (by simp; have : (63 : Nat) < sizeLine := by decide
                                                     omega) (fun i => .int (ns.getD i 0)) (fun H' e => _root_.Evl.ex_l e hS) (fun i H0 v H' hi y => ⟨y.1, ?_⟩) (fun i H' Q' hi e q => ?_) (fun n hn => ?_)
    · have := y.2; simp at hi this; simp [hi] at this ⊢; exact this.symm
    · walk_at "go"; exact q
    · rw [map_range_getD]
      walk_at "go"
      intro p hp
      walk_at "go"
      refine ⟨fun i σ H' => ∃ (c : Option V) (sd : Int) (t : Option V), σ = [some (.ref a), some (.ref n), c, some (.int sd), t] ∧ Ex (upd (upd H n (.lst (ns.map V.int))) p (.lst (cutV (ns.map V.int) none (some 63)))) H', ⟨none, _, none, rfl, Ex.refl _⟩, fun i σ H' hi ⟨c, sd, t, h1, e1⟩ => ?_, fun i x σ H1 H2 hi ⟨c, sd, t, h1, e1⟩ y => ?_, fun σ H' ⟨c, sd, t, h1, e1⟩ => ?_⟩
      · walk_at "sq"
      · obtain ⟨T', x', y', rfl, hT, rfl, h3, h4⟩ := y
        subst h1
        obtain rfl : V.int (i : Nat) = x' := Option.some.inj h3
        have h5 : ∃ z, y' = V.int z := by
          have h4' := List.mem_of_getElem? h4
          have h6 := List.mem_of_mem_drop (List.mem_of_mem_take h4')
          obtain ⟨z, _, e⟩ := List.mem_map.mp h6
          exact ⟨z, e.symm⟩
        obtain ⟨z, rfl⟩ := h5
        walk_at "go"
        exact ⟨_, _, _, rfl, e1.trans (Ex.new hT)⟩
      · subst h1
        walk_at "go"
        intro b hb
        have eH : Ex H H' := (Ex.new hn).trans ((Ex.new hp).trans e1)
        have hn' : H' n = some (.lst (ns.map V.int)) := e1 _ _ (upd_old hp upd_same)
        exact k b n sd _ (eH.trans (Ex.new hb)) (ex_none eH hb) hn (ne_of_none hn' hb).symm (upd_old hb hn') upd_same
/-- law's choice -/
def spChoice : Sp := fun vs H Q _ => ∃ (b t : Addr) (xs : List V) (F : Hp), vs = [.ref b, .ref t] ∧ Ex F H ∧ Bg F H b ∧ F t = some (.lst xs) ∧ 0 < xs.length ∧ xs.length < 1000000 ∧ ∀ (x : V) (l : List V), x ∈ xs → BgL F l → Q x (upd H b (.lst l))
theorem ok_l_choice (T : Txt K mg A) : FnOk P w K mg base CX0 3 A.f_l_choice A.d_l_choice ["_law_bag_here", "_law_things"] spChoice := by
  refine T.F_l_choice.ok sc_l_choice (fun vs H Q E h => ?_) (fun cdv Ar outer s H vs Q E hr h => ?_)
  · obtain ⟨b, t, xs, F, rfl, _⟩ := h; rfl
  · obtain ⟨b, t, xs, F, rfl, e, B, ht, h0, h1, k⟩ := h
    refine ⟨_, (pss_one (ps_ret (pe_ix ix_list (pv 1) (pe_call (ok_l_pick T) (hr.mono (by decide)) rfl T.g_l_pick T.F_l_pick.kp T.bi_l_pick .nil pass0 (pa_cons (pv 0) (pa_cons (pe_callB cl_len (by rfl) T.b_len (by decide +kernel) (pa_cons (pv 1) pa_nil)) pa_nil))) (fun _ _ => rfl)))), ?_⟩
    dsimp only [cxOf, Cx.nox, Cx.wish]
    walk_at "go"
    refine ⟨b, _, F, rfl, by omega, by omega, e, B, fun r l r0 r1 hl => ?_⟩
    obtain ⟨v, hv, hm⟩ := atI_lt (xs := xs) r0 r1
    have fr := B.fr
    walk_at "go"
    exact k v l (List.mem_of_getElem? hm) hl
/-- law's mingled: a new list, some order of the things -/
def spMingled : Sp := fun vs H Q _ => ∃ (b t : Addr) (xs : List V) (F : Hp), vs = [.ref b, .ref t] ∧ Ex F H ∧ Bg F H b ∧ F t = some (.lst xs) ∧ xs.length < 1000000 ∧
  ∀ (p : Addr) (ys : List V) (H' : Hp), ys.Perm xs → H p = none → H' p = some (.lst ys) → Ex F H' → Bg F H' b → Kp b H H' → Q (.ref p) H'
theorem ok_l_mingled (T : Txt K mg A) : FnOk P w K mg base CX0 3 A.f_l_mingled A.d_l_mingled ["_law_bag_here", "_law_things"] spMingled := by
  refine T.F_l_mingled.ok sc_l_mingled (fun vs H Q E h => ?_) (fun cdv Ar outer s H vs Q E hr h => ?_)
  · obtain ⟨b, t, xs, F, rfl, _⟩ := h; rfl
  · obtain ⟨b, t, xs, F, rfl, e, B, ht, h1, k⟩ := h
    refine ⟨_, (pss_cons (ps_set (i := 2) sc_l_mingled.nd rfl (Or.inl rfl) (pe_callTy cl_list (by rfl) T.b_list (by decide +kernel) (pa_cons (pv 1) pa_nil)))
  (pss_cons (ps_set (i := 3) sc_l_mingled.nd rfl (Or.inl rfl) (pe_lst pa_nil))
  (pss_cons (ps_for PassesOwn.never rfl (pi_range1 rfl T.b_range (pa_cons (pe_callB cl_len (by rfl) T.b_len (by decide +kernel) (pa_cons (pv 1) pa_nil)) pa_nil)) (pg_name (i := 4) sc_l_mingled.nd rfl (Or.inl rfl))
   (pss_one (ps_expr (pe_bm PySem.F.plainAttrs_list PySem.F.slot_list_append PySem.F.type_list_append mt_append (pv 3) (pa_cons (pe_bm PySem.F.plainAttrs_list PySem.F.slot_list_pop PySem.F.type_list_pop mt_popAt (pv 2) (pa_cons (pe_call (ok_l_pick T) (hr.mono (by decide)) rfl T.g_l_pick T.F_l_pick.kp T.bi_l_pick .nil pass0 (pa_cons (pv 0) (pa_cons (pe_callB cl_len (by rfl) T.b_len (by decide +kernel) (pa_cons (pv 2) pa_nil)) pa_nil))) pa_nil)) pa_nil)))))
  (pss_one (ps_ret (pv 3)))))), ?_⟩
    dsimp only [cxOf, Cx.nox, Cx.wish]
    walk_at "go"
    intro q hq
    walk_at "go"
    intro p hp
    have hbq : b ≠ q := by
      obtain ⟨l, hb, _⟩ := B.ex
      exact ne_of_none hb hq
    have hpq : q ≠ p := ne_of_none upd_same hp
    have hp0 : H p = none := by rw [upd_ne hpq.symm] at hp; exact hp
    have hbp : b ≠ p := by
      obtain ⟨l, hb, _⟩ := B.ex
      exact ne_of_none hb hp0
    walk_at "go"
    refine ⟨fun i σ H' => ∃ (ls os : List V) (v : Option V), σ = [some (.ref b), some (.ref t), some (.ref q), some (.ref p), v] ∧ Ex F H' ∧ Bg F H' b ∧ Kp b H H' ∧ H' q = some (.lst ls) ∧ H' p = some (.lst os) ∧ (ls ++ os).Perm xs ∧ ls.length + i = xs.length, ?_, fun i σ H' hi h => trivial, fun i x σ H1 H2 hi h y => ?_, fun σ H' h => ?_⟩
    · refine ⟨xs, [], none, rfl, by walk_at "ex", ⟨B.fr, ?_⟩, ?_, by walk_at "hp", upd_same, by simp, rfl⟩
      · obtain ⟨l, hb, hl⟩ := B.ex
        exact ⟨l, by walk_at "hp", hl⟩
      · exact (Kp.of (Ex.new hq)).trans (Kp.of (Ex.new hp))
    · obtain ⟨ls, os, v, rfl, e1, B1, k1, h2, h3, h4, h5⟩ := h
      obtain ⟨rfl, rfl⟩ := y
      walk_at "go"
      refine ⟨b, _, F, rfl, by simp at hi; omega, by omega, e1, B1, fun r l r0 r1 hl => ?_⟩
      have hq1 : q ≠ b := hbq.symm
      have hp1 : p ≠ b := hbp.symm
      walk_at "go"
      have hlen : ls.length + os.length = xs.length := by simpa using h4.length_eq
      have z : os.length < sizeLine := by rw [sizeLine_eq]; omega
      refine i_popN (by walk_at "hp") r0 r1 (by omega) fun y hy => ?_
      walk_at "go"
      have hr : r.toNat < ls.length := by omega
      have Fb := B.fr
      have Fq : F q = none := ex_none e hq
      have Fp : F p = none := ex_none e hp0
      refine ⟨ls.eraseIdx r.toNat, os ++ [y], _, rfl, by walk_at "ex", ⟨B1.fr, ⟨l, by walk_at "hp", hl⟩⟩, ?_, by walk_at "hp", upd_same, ?_, ?_⟩
      · exact ((k1.trans Kp.upd).mut hq).mut hp0
      · have p1 := erase_perm hy
        have p2 : (ls.eraseIdx r.toNat ++ (os ++ [y])).Perm ((y :: ls.eraseIdx r.toNat) ++ os) := by
          rw [← List.append_assoc]
          exact List.perm_append_comm.trans (by simp)
        exact p2.trans ((p1.append_right os).trans h4)
      · rw [List.length_eraseIdx_of_lt hr]; omega
    · obtain ⟨ls, os, v, rfl, e1, B1, k1, h2, h3, h4, h5⟩ := h
      walk_at "go"
      have hls : ls = [] := by
        have : ls.length = 0 := by rw [Int.toNat_natCast] at h5; omega
        exact List.eq_nil_of_length_eq_zero this
      subst hls
      exact k p os H' (by simpa using h4) hp0 h3 e1 B1 k1
end
end Dh
/-! K08B -/
set_option Elab.async false
set_option linter.all false
set_option maxRecDepth 100000
set_option maxHeartbeats 4000000
namespace Dh
open PySem PySem.Spec L2
open _root_.Evl (Ex)
local macro_rules | `(tactic| walk_at "ex") => `(tactic| first | assumption | ((with_reducible apply ex_mut); (focus assumption); walk_at "ex") | ((with_reducible apply ex_both); walk_at "ex") | ((with_reducible apply ex_new); (focus assumption); walk_at "ex"))
local macro_rules | `(tactic| walk_at "hp") => `(tactic| first | assumption | with_reducible exact upd_same | ((with_reducible apply upd_old); (focus assumption); walk_at "hp") | ((with_reducible apply upd_oth); (focus walk_at "neq"); walk_at "hp") | ((with_reducible apply ex_by); (focus assumption); walk_at "ex") | ((with_reducible apply ex_at); (focus assumption); walk_at "hp"))
local macro_rules | `(tactic| walk_at "neq") => `(tactic| first | assumption | (apply Ne.symm; assumption))
local macro_rules | `(tactic| walk_at "sq") => `(tactic| first | assumption | ((with_reducible apply SqL.of); walk_at "hp") | ((with_reducible apply SqT.of); walk_at "hp"))
local macro_rules | `(tactic| walk_at "side") => `(tactic| first | assumption | decide | exact cm_fmod (by decide) (by decide) | (show _ ≠ (0 : Int); decide) | (show _ ≠ (0 : Int); omega) | exact Or.inr ⟨by decide, by decide⟩ | exact Or.inl ⟨by decide, by decide⟩ | (show CDivN _ _; exact ⟨by decide, by decide⟩) | (show CDivN _ _; exact ⟨by omega, by omega⟩) | exact Or.inl ⟨by omega, by omega⟩ | exact Or.inr ⟨by omega, by omega⟩ | exact ⟨by decide, by decide, by decide⟩)
local macro_rules | `(tactic| walk_at "ix") => `(tactic| first | exact rfl | assumption | exact atI_nat (by assumption))
local macro_rules | `(tactic| walk_at "step0") => `(tactic| first
  | with_reducible refine i_seq ?_
  | with_reducible refine i_asg ?_
  | with_reducible refine i_op ?_
  | ((with_reducible refine' i_var ?hv ?_); (case hv => exact rfl))
  | with_reducible refine i_c ?_
  | with_reducible refine i_cons ?_
  | with_reducible refine i_nil ?_
  | with_reducible refine i_cb ?_
  | with_reducible refine i_call ?_
  | with_reducible refine i_call' ?_
  | with_reducible refine i_un ?_
  | with_reducible refine i_I0 ?_
  | ((with_reducible refine i_I ?hv ?_); (case hv => walk_at "side"))
  | with_reducible refine i_eqI ?_
  | with_reducible refine i_neI ?_
  | with_reducible refine i_eqS ?_
  | with_reducible refine i_neS ?_
  | ((with_reducible refine i_eq ?hv ?_); (case hv => exact rfl))
  | ((with_reducible refine i_ne ?hv ?_); (case hv => exact rfl))
  | with_reducible refine i_int1 ?_
  | with_reducible refine i_abs ?_
  | ((with_reducible refine' i_ixL ?hv ?hw ?_); (case hv => walk_at "sq"); (case hw => walk_at "ix"))
  | ((with_reducible refine' i_ixT ?hv ?hw ?_); (case hv => walk_at "sq"); (case hw => walk_at "ix"))
  | ((with_reducible refine' i_lenL ?hv ?_); (case hv => walk_at "sq"))
  | ((with_reducible refine' i_lenT ?hv ?_); (case hv => walk_at "sq"))
  | with_reducible refine i_addIB ?_
  | with_reducible refine i_mulIB ?_
  | ((with_reducible refine i_lenS ?hv ?_); (case hv => walk_at "side"))
  | with_reducible refine i_tup ?_
  | with_reducible refine i_lst ?_
  | with_reducible refine i_asgG ?_
  | with_reducible refine i_gname ?_
  | with_reducible refine i_gsub ?_
  | ((with_reducible refine' i_setL ?hv ?hw ?_); (case hv => walk_at "hp"); (case hw => exact rfl))
  | with_reducible refine i_ret ?_
  | with_reducible refine i_drop ?_
  | with_reducible refine i_next ?_
  | with_reducible refine i_test ?_
  | with_reducible refine i_B ?_
  | with_reducible refine i_bl ?_
  | with_reducible refine i_not ?_
  | with_reducible refine i_and ?_
  | with_reducible refine i_or ?_
  | ((with_reducible refine' i_app ?hv ?hw ?_); (case hv => walk_at "hp"); (case hw => walk_at "side"))
  | with_reducible refine iteT ?_
  | with_reducible refine iteF ?_
  | with_reducible refine iteNT ?_
  | with_reducible refine iteNF ?_
  | ((with_reducible refine iteT' ?hv ?_); (case hv => first | exact decide_eq_true (by assumption) | exact notF (by assumption) | exact decide_eq_true rfl | exact notF (by decide) | exact decide_eq_true (by decide) | exact decide_eq_true (by simp only [List.length_cons, List.length_nil]; decide)))
  | ((with_reducible refine iteF' ?hv ?_); (case hv => first | exact decide_eq_false (by assumption) | exact notT (by assumption) | exact notT rfl | exact decide_eq_false (by decide) | exact decide_eq_false (by simp only [List.length_cons, List.length_nil]; decide)))
  | with_reducible refine i_forL ?_
  | with_reducible refine i_forT ?_
  | with_reducible refine i_forR ?_
  | with_reducible refine i_forR2 ?_
  | with_reducible refine i_forE ?_
  | with_reducible refine i_forV ?_
  | with_reducible refine i_forS ?_
  | with_reducible refine i_forK ?_
  | with_reducible refine i_lcL ?_
  | with_reducible refine i_lcT ?_
  | with_reducible refine i_lcR ?_
  | with_reducible refine i_lcR2 ?_
  | with_reducible refine i_lcS ?_
  | with_reducible refine i_lcK ?_
  | ((with_reducible refine' fl_L ?hv ?_); (case hv => walk_at "sq"))
  | ((with_reducible refine' fl_T ?hv ?_); (case hv => walk_at "sq"))
  | ((with_reducible refine fl_R ?hv ?hw ?_); (case hv => (first | decide | omega)); (case hw => (first | decide | omega)))
  | ((with_reducible refine fl_R2 ?hv ?_); (case hv => (first | decide | (refine ⟨?_, ?_, ?_, ?_⟩ <;> omega))))
  | ((with_reducible refine' fl_E ?hv ?_); (case hv => walk_at "sq"))
  | ((with_reducible refine' fl_V ?hv ?_); (case hv => walk_at "sq"))
  | with_reducible refine fl_S ?_
  | ((with_reducible refine' fc_L ?hv ?_); (case hv => walk_at "sq"))
  | ((with_reducible refine' fc_T ?hv ?_); (case hv => walk_at "sq"))
  | ((with_reducible refine fc_R ?hv ?hw ?_); (case hv => (first | decide | omega)); (case hw => (first | decide | omega)))
  | with_reducible refine fc_S ?_
  | with_reducible refine i_sl ?_
  | with_reducible refine i_nopart ?_
  | with_reducible refine i_part ?_
  | with_reducible refine i_isint ?_
  | ((with_reducible refine' i_slL ?hv ?_); (case hv => walk_at "sq"))
  | ((with_reducible refine i_slS ?hv ?_); (case hv => walk_at "side"))
  | ((with_reducible refine' i_gtup ?hv ?hw ?_); (case hv => walk_at "sq"); (case hw => exact rfl))
  | with_reducible refine i_gcons ?_
  | with_reducible refine i_gnil ?_
  | ((with_reducible refine' i_listL ?hv ?_); (case hv => walk_at "sq"))
  | ((with_reducible refine' i_listT ?hv ?_); (case hv => walk_at "sq"))
  | ((with_reducible refine' i_tupL ?hv ?_); (case hv => walk_at "sq"))
  | ((with_reducible refine' i_lenD ?hv ?_); (case hv => walk_at "hp"))
  | ((with_reducible refine' i_ty ?hv ?_); (case hv => walk_at "hp"))
  | ((with_reducible refine And.intro ?hv ?_); (case hv => first | exact (by decide : (0 : Nat) ≤ sizeLine) | exact (by decide : (1 : Nat) ≤ sizeLine) | exact (by decide : (2 : Nat) ≤ sizeLine) | exact (by decide : (3 : Nat) ≤ sizeLine) | exact (by decide : (4 : Nat) ≤ sizeLine) | exact (by decide : (5 : Nat) ≤ sizeLine) | exact (by decide : (6 : Nat) ≤ sizeLine)))
  | with_reducible refine i_inC ?_
  | ((with_reducible refine i_addT ?hv ?_); (case hv => walk_at "side"))
  | with_reducible refine i_m1 ?_
  | with_reducible refine i_isstr ?_
  | with_reducible refine is_int_int ?_
  | with_reducible refine is_int_bool ?_
  | with_reducible refine is_str_str ?_
  | ((with_reducible refine' is_tup_tup ?hv ?_); (case hv => walk_at "hp"))
  | with_reducible refine i_ifExp ?_
  | with_reducible refine i_andV ?_
  | with_reducible refine i_orV ?_
  | with_reducible refine i_notV ?_
  | with_reducible refine i_chain ?_
  | ((with_reducible refine' i_inS ?hv ?_); (case hv => walk_at "sq"))
  | ((with_reducible refine' i_niS ?hv ?_); (case hv => walk_at "sq"))
  | ((with_reducible refine' i_inI ?hv ?_); (case hv => walk_at "sq"))
  | ((with_reducible refine' i_niI ?hv ?_); (case hv => walk_at "sq"))
  | with_reducible refine i_dnew ?_
  | with_reducible refine i_dput ?_
  | ((with_reducible refine' i_dputI ?hv ?hw ?_); (case hv => walk_at "hp"); (case hw => walk_at "side"))
  | with_reducible refine i_dget ?_
  | ((with_reducible refine' i_dgetI ?hv ?hw ?_); (case hv => walk_at "hp"); (case hw => assumption))
  | with_reducible refine i_dnotin ?_
  | with_reducible refine i_din ?_
  | ((with_reducible refine' i_dnotinI ?hv ?_); (case hv => walk_at "hp"))
  | with_reducible refine i_dsetd ?_
  | ((with_reducible refine' i_isd ?hv ?_); (case hv => walk_at "hp"))
  | with_reducible refine i_fld ?_
  | with_reducible refine i_sfld ?_
  | with_reducible refine i_dcT ?_
  | with_reducible refine i_dcL ?_
  | with_reducible refine i_truT ?_
  | ((with_reducible refine' i_truL ?hv ?_); (case hv => walk_at "sq"))
  | with_reducible refine i_revL ?_
  | ((with_reducible refine' i_atLx ?hv ?_); (case hv => walk_at "sq"))
  | with_reducible refine i_bm ?_
  | with_reducible refine i_bm0 ?_)
local macro_rules | `(tactic| walk_at "step") => `(tactic| first | walk_at "step0" | with_reducible refine i_ifS ?_)
local macro_rules | `(tactic| walk_at "goj") => `(tactic| repeat (first | walk_at "step0" | with_reducible refine i_ifS (c := tTest _) ?_ | with_reducible refine i_ifS (c := tB _) ?_))
local macro_rules | `(tactic| walk_at "tj") => `(tactic| (intro q hq; repeat (first | exact hq | walk_at "step" | (refine and_q hq (fun h => ?_); clear hq; rename_i hq) | (refine or_q hq (fun h => ?_); clear hq; rename_i hq))))
local macro_rules | `(tactic| walk_at "go") => `(tactic| repeat walk_at "step")

section
variable {P : Program} {w : World} {K : PySem.W.Frag} {mg : Str → Option Value} {base : Heap} {A : Ad}
def spNumber : Sp := fun vs H Q _ => ∃ n lo hi : Int, vs = [.int n, .int lo, .int hi] ∧ Q (.bl (decide (lo ≤ n) && decide (n ≤ hi))) H
theorem i_numT {n lo hi : Int} {H : Hp} {Q : VK} {E : XK} (h : lo ≤ n) (h' : n ≤ hi) (k : Q (.bl true) H) : spNumber [.int n, .int lo, .int hi] H Q E := ⟨n, lo, hi, rfl, by rw [decide_eq_true h, decide_eq_true h']; exact k⟩
theorem i_numF {n lo hi : Int} {H : Hp} {Q : VK} {E : XK} (h : ¬ (lo ≤ n ∧ n ≤ hi)) (k : Q (.bl false) H) : spNumber [.int n, .int lo, .int hi] H Q E := ⟨n, lo, hi, rfl, by
  have e : (decide (lo ≤ n) && decide (n ≤ hi)) = false := by simpa using h
  rw [e]; exact k⟩
theorem ok_is_number (T : Txt K mg A) : FnOk P w K mg base CX0 1 A.f_is_number A.d_is_number ["number", "low", "high"] spNumber := by
  refine T.F_is_number.ok sc_is_number (fun vs H Q E h => ?_) (fun cdv Ar outer s H vs Q E hr h => ?_)
  · obtain ⟨n, lo, hi, rfl, _⟩ := h; rfl
  · obtain ⟨n, lo, hi, rfl, k⟩ := h
    refine ⟨_, (pss_cons (ps_if (PW.pt (pw_or (pt_not (pt_val (pe_callB call_isi (by rfl) T.b_isinstance (by decide +kernel) (pa_cons (pv 0) (pa_cons (pe_bltn (v := .ty "int") (by rfl) T.b_int (by decide +kernel) rfl) pa_nil))))) (pw_or1 (pt_val (pe_callB call_isi (by rfl) T.b_isinstance (by decide +kernel) (pa_cons (pv 0) (pa_cons (pe_bltn (v := .ty "bool") (by rfl) T.b_bool (by decide +kernel) rfl) pa_nil))))))) (pss_one (ps_ret pe_bl)) pss_nil)
  (pss_one (ps_ret (pe_chain op_le op_le (pv 1) (pv 0) (pv 2))))), ?_⟩
    dsimp only [cxOf, Cx.nox, Cx.wish]
    walk_at "go"
    refine iteD (fun c => ?_) (fun c => ?_)
    · walk_at "go"
      rw [decide_eq_true c, Bool.true_and] at k
      exact k
    · rw [decide_eq_false c, Bool.false_and] at k
      exact k
def spName : Sp := fun vs H Q _ => ∃ x : Str, vs = [.str x] ∧ NameOk x ∧ ∀ H', Ex H H' → Q (.bl true) H'
theorem all_tab {n : Nat} {f : Nat → Bool} (h : ∀ i, i < n → f i = true) : ((List.range n).map f).all id = true := by
  simp only [List.all_map, List.all_eq_true, List.mem_range]
  exact fun i hi => h i hi
theorem ok_is_name (T : Txt K mg A) : FnOk P w K mg base CX0 2 A.f_is_name A.d_is_name ["name"] spName := by
  refine T.F_is_name.ok sc_is_name (fun vs H Q E h => ?_) (fun cdv Ar outer s H vs Q E hr h => ?_)
  · obtain ⟨x, rfl, _⟩ := h; rfl
  · obtain ⟨x, rfl, N, k⟩ := h
    have hz : x.length ≤ sizeLine := Nat.le_trans N.hi (by decide)
    refine ⟨_, (pss_cons (ps_if (PW.pt (pw_or (pt_not (pt_val (pe_callB call_isi (by rfl) T.b_isinstance (by decide +kernel) (pa_cons (pv 0) (pa_cons (pe_bltn (v := .ty "str") (by rfl) T.b_str (by decide +kernel) rfl) pa_nil))))) (pw_or1 (pt_not (pt_val (pe_call (ok_is_number T) (hr.mono (by decide)) rfl T.g_is_number T.F_is_number.kp T.bi_is_number .nil pass0 (pa_cons (pe_callB cl_lenS (by rfl) T.b_len (by decide +kernel) (pa_cons (pv 0) pa_nil)) (pa_cons pe_int (pa_cons (pe_glob (v := .int 8) rfl T.c_NAME_LETTERS ⟨_, rfl⟩) pa_nil))))))))) (pss_one (ps_ret pe_bl)) pss_nil)
  (pss_one (ps_ret (pe_callB (cr_all rfl) (by rfl) T.b_all (by decide +kernel) (pa_cons (pe_lc (own := [("letter", 1)]) (g := gName 1) (tt := tYes) rfl sc_is_name.nd (pi_str (pv 0)) (blkOk_by (N := ["name", "letter"]) (sc := defScope s_is_name) (by decide +kernel)) (fun _ _ _ _ _ => (pg_name (i := 1) sc_is_name.nd rfl (Or.inl rfl))) (fun _ _ _ _ _ => pts_nil) (fun _ _ _ _ _ => (pe_cmpR op_inC (pv 1) (pe_glob (v := .str "abcdefghijklmnopqrstuvwxyz") rfl T.c_LETTERS ⟨_, rfl⟩) rfl))) pa_nil))))), ?_⟩
    dsimp only [cxOf, Cx.nox, Cx.wish]
    walk_at "go"
    refine i_numT (by have := N.lo; omega) (by have := N.hi; omega) ?_
    walk_at "go"
    refine lc_pure (fun i => .bl (decide (x.cps.getD i 0 ∈ letters))) (Nat.lt_of_le_of_lt N.hi (by decide)) (fun i => .str ⟨#[x.cps.getD i 0]⟩) (fun _ _ => trivial) (fun i H0 v H' hi y => ?_) (fun i H' Q' hi e q => ?_) (fun n hn => ?_)
    · obtain ⟨rfl, c, h1, rfl⟩ := y
      exact ⟨rfl, by simp [Array.getD_eq_getD_getElem?, h1]⟩
    · walk_at "go"; exact q
    · walk_at "go"
      refine i_all (bs := (List.range x.cps.size).map fun i => decide (x.cps.getD i 0 ∈ letters)) ?_ ?_
      · rw [List.map_map]; exact SqL.of upd_same
      · rw [all_tab]
        · exact k _ (Ex.new hn)
        · intro i hi
          exact decide_eq_true (N.ls _ (by simp [Array.getD_eq_getD_getElem?, hi]))
/-! ### entries -/
inductive En where
  | sg (n d : Int) (x : Str) | rl (n d : Int) (x : Str) | vd (n o : Int)
def En.num : En → Int
  | .sg n _ _ => n | .rl n _ _ => n | .vd n _ => n
def En.vs : En → List V
  | .sg n d x => [.int n, .str "sign", .int d, .str x]
  | .rl n d x => [.int n, .str "rule", .int d, .str x]
  | .vd n o => [.int n, .str "void", .int o]
def En.Ok : En → Prop
  | .sg n d x => 1 ≤ n ∧ n ≤ 999 ∧ 0 ≤ d ∧ d ≤ 59 ∧ NameOk x
  | .rl n d x => 1 ≤ n ∧ n ≤ 999 ∧ 0 ≤ d ∧ d ≤ 59 ∧ NameOk x
  | .vd n o => 1 ≤ n ∧ n ≤ 999 ∧ 1 ≤ o ∧ o ≤ n - 1
def EnAt (F : Hp) (v : V) (e : En) : Prop := ∃ a, v = .ref a ∧ F a = some (.tup e.vs)
abbrev EsAt (F : Hp) (vs : List V) (es : List En) : Prop := Paired (EnAt F) vs es
theorem EnAt.ex {F F' : Hp} {v : V} {e : En} (x : Ex F F') (h : EnAt F v e) : EnAt F' v e := by
  obtain ⟨a, rfl, h⟩ := h
  exact ⟨a, rfl, x _ _ h⟩
def spEntry : Sp := fun vs H Q _ => ∃ (v : V) (e : En) (F : Hp), vs = [v] ∧ Ex F H ∧ EnAt F v e ∧ e.Ok ∧ ∀ H', Ex H H' → Q (.bl true) H'
theorem ok_is_entry (T : Txt K mg A) : FnOk P w K mg base CX0 3 A.f_is_entry A.d_is_entry ["entry"] spEntry := by
  refine T.F_is_entry.ok sc_is_entry (fun vs H Q E h => ?_) (fun cdv Ar outer s H vs Q E hr h => ?_)
  · obtain ⟨v, e, F, rfl, _⟩ := h; rfl
  · obtain ⟨v, e, F, rfl, x, ⟨a, rfl, ha⟩, O, k⟩ := h
    have hn : decide ((1 : Int) ≤ e.num) = true ∧ decide (e.num ≤ 999) = true := by
      cases e <;> exact ⟨decide_eq_true O.1, decide_eq_true O.2.1⟩
    have h0 := x _ _ ha
    refine ⟨_, (pss_cons (ps_if (PW.pt (pw_or (pt_not (pt_val (pe_callB call_isi (by rfl) T.b_isinstance (by decide +kernel) (pa_cons (pv 0) (pa_cons (pe_bltn (v := .ty "tuple") (by rfl) T.b_tuple (by decide +kernel) rfl) pa_nil))))) (pw_or1 (pt_cmpR op_lt (pe_callB cl_len (by rfl) T.b_len (by decide +kernel) (pa_cons (pv 0) pa_nil)) pe_int (nomark _))))) (pss_one (ps_ret pe_bl)) pss_nil)
  (pss_cons (ps_if (pt_not (pt_val (pe_call (ok_is_number T) (hr.mono (by decide)) rfl T.g_is_number T.F_is_number.kp T.bi_is_number .nil pass0 (pa_cons (pe_ix ix_tup (pv 0) pe_int (fun _ _ => rfl)) (pa_cons pe_int (pa_cons (pe_glob (v := .int 999) rfl T.c_MOST_NUMBER ⟨_, rfl⟩) pa_nil)))))) (pss_one (ps_ret pe_bl)) pss_nil)
  (pss_cons (ps_if (pt_cmpR op_eq (pe_ix ix_tup (pv 0) pe_int (fun _ _ => rfl)) pe_str (nomark _)) (pss_one (ps_ret (pe_and (pe_cmpR op_eq (pe_callB cl_len (by rfl) T.b_len (by decide +kernel) (pa_cons (pv 0) pa_nil)) pe_int (nomark _)) (pe_one (pe_call (ok_is_number T) (hr.mono (by decide)) rfl T.g_is_number T.F_is_number.kp T.bi_is_number .nil pass0 (pa_cons (pe_ix ix_tup (pv 0) pe_int (fun _ _ => rfl)) (pa_cons pe_int (pa_cons (pe_op op_sub (pe_ix ix_tup (pv 0) pe_int (fun _ _ => rfl)) pe_int) pa_nil)))))))) pss_nil)
  (pss_cons (ps_if (PW.pt (pw_and (pt_cmpR op_ne (pe_ix ix_tup (pv 0) pe_int (fun _ _ => rfl)) pe_str (nomark _)) (pw_and1 (pt_cmpR op_ne (pe_ix ix_tup (pv 0) pe_int (fun _ _ => rfl)) pe_str (nomark _))))) (pss_one (ps_ret pe_bl)) pss_nil)
  (pss_one (ps_ret (pe_and (pe_cmpR op_eq (pe_callB cl_len (by rfl) T.b_len (by decide +kernel) (pa_cons (pv 0) pa_nil)) pe_int (nomark _)) (pe_and (pe_call (ok_is_number T) (hr.mono (by decide)) rfl T.g_is_number T.F_is_number.kp T.bi_is_number .nil pass0 (pa_cons (pe_ix ix_tup (pv 0) pe_int (fun _ _ => rfl)) (pa_cons pe_int (pa_cons (pe_glob (v := .int 59) rfl T.c_LAST_DAY ⟨_, rfl⟩) pa_nil)))) (pe_one (pe_call (ok_is_name T) (hr.mono (by decide)) rfl T.g_is_name T.F_is_name.kp T.bi_is_name .nil pass0 (pa_cons (pe_ix ix_tup (pv 0) pe_int (fun _ _ => rfl)) pa_nil))))))))))), ?_⟩
    dsimp only [cxOf, Cx.nox, Cx.wish]
    cases e with
    | vd n o =>
      simp only [En.vs, En.num] at ha h0 hn
      walk_at "go"
      refine i_numT O.1 O.2.1 ?_
      walk_at "go"
      refine i_numT O.2.2.1 O.2.2.2 ?_
      exact k H (Ex.refl H)
    | sg n d y =>
      simp only [En.vs, En.num] at ha h0 hn
      walk_at "go"
      refine i_numT O.1 O.2.1 ?_
      walk_at "go"
      refine i_numT O.2.2.1 O.2.2.2.1 ?_
      walk_at "go"
      exact ⟨_, rfl, O.2.2.2.2, fun H' e => k H' e⟩
    | rl n d y =>
      simp only [En.vs, En.num] at ha h0 hn
      walk_at "go"
      refine i_numT O.1 O.2.1 ?_
      walk_at "go"
      refine i_numT O.2.2.1 O.2.2.2.1 ?_
      walk_at "go"
      exact ⟨_, rfl, O.2.2.2.2, fun H' e => k H' e⟩
end
end Dh
/-! K08C -/
set_option Elab.async false
set_option linter.all false
set_option maxRecDepth 100000
set_option maxHeartbeats 4000000
namespace Dh
open PySem PySem.Spec L2
open _root_.Evl (Ex)
local macro_rules | `(tactic| walk_at "ex") => `(tactic| first | assumption | ((with_reducible apply ex_mut); (focus assumption); walk_at "ex") | ((with_reducible apply ex_both); walk_at "ex") | ((with_reducible apply ex_new); (focus assumption); walk_at "ex"))
local macro_rules | `(tactic| walk_at "hp") => `(tactic| first | assumption | with_reducible exact upd_same | ((with_reducible apply upd_old); (focus assumption); walk_at "hp") | ((with_reducible apply upd_oth); (focus walk_at "neq"); walk_at "hp") | ((with_reducible apply ex_by); (focus assumption); walk_at "ex") | ((with_reducible apply ex_at); (focus assumption); walk_at "hp"))
local macro_rules | `(tactic| walk_at "neq") => `(tactic| first | assumption | (apply Ne.symm; assumption))
local macro_rules | `(tactic| walk_at "sq") => `(tactic| first | assumption | ((with_reducible apply SqL.of); walk_at "hp") | ((with_reducible apply SqT.of); walk_at "hp"))
local macro_rules | `(tactic| walk_at "side") => `(tactic| first | assumption | decide | exact cm_fmod (by decide) (by decide) | (show _ ≠ (0 : Int); decide) | (show _ ≠ (0 : Int); omega) | exact Or.inr ⟨by decide, by decide⟩ | exact Or.inl ⟨by decide, by decide⟩ | (show CDivN _ _; exact ⟨by decide, by decide⟩) | (show CDivN _ _; exact ⟨by omega, by omega⟩) | exact Or.inl ⟨by omega, by omega⟩ | exact Or.inr ⟨by omega, by omega⟩ | exact ⟨by decide, by decide, by decide⟩)
local macro_rules | `(tactic| walk_at "ix") => `(tactic| first | exact rfl | assumption | exact atI_nat (by assumption))
local macro_rules | `(tactic| walk_at "step0") => `(tactic| first
  | with_reducible refine i_seq ?_
  | with_reducible refine i_asg ?_
  | with_reducible refine i_op ?_
  | ((with_reducible refine' i_var ?hv ?_); (case hv => exact rfl))
  | with_reducible refine i_c ?_
  | with_reducible refine i_cons ?_
  | with_reducible refine i_nil ?_
  | with_reducible refine i_cb ?_
  | with_reducible refine i_call ?_
  | with_reducible refine i_call' ?_
  | with_reducible refine i_un ?_
  | with_reducible refine i_I0 ?_
  | ((with_reducible refine i_I ?hv ?_); (case hv => walk_at "side"))
  | with_reducible refine i_eqI ?_
  | with_reducible refine i_neI ?_
  | with_reducible refine i_eqS ?_
  | with_reducible refine i_neS ?_
  | ((with_reducible refine i_eq ?hv ?_); (case hv => exact rfl))
  | ((with_reducible refine i_ne ?hv ?_); (case hv => exact rfl))
  | with_reducible refine i_int1 ?_
  | with_reducible refine i_abs ?_
  | ((with_reducible refine' i_ixL ?hv ?hw ?_); (case hv => walk_at "sq"); (case hw => walk_at "ix"))
  | ((with_reducible refine' i_ixT ?hv ?hw ?_); (case hv => walk_at "sq"); (case hw => walk_at "ix"))
  | ((with_reducible refine' i_lenL ?hv ?_); (case hv => walk_at "sq"))
  | ((with_reducible refine' i_lenT ?hv ?_); (case hv => walk_at "sq"))
  | with_reducible refine i_addIB ?_
  | with_reducible refine i_mulIB ?_
  | ((with_reducible refine i_lenS ?hv ?_); (case hv => walk_at "side"))
  | with_reducible refine i_tup ?_
  | with_reducible refine i_lst ?_
  | with_reducible refine i_asgG ?_
  | with_reducible refine i_gname ?_
  | with_reducible refine i_gsub ?_
  | ((with_reducible refine' i_setL ?hv ?hw ?_); (case hv => walk_at "hp"); (case hw => exact rfl))
  | with_reducible refine i_ret ?_
  | with_reducible refine i_drop ?_
  | with_reducible refine i_next ?_
  | with_reducible refine i_test ?_
  | with_reducible refine i_B ?_
  | with_reducible refine i_bl ?_
  | with_reducible refine i_not ?_
  | with_reducible refine i_and ?_
  | with_reducible refine i_or ?_
  | ((with_reducible refine' i_app ?hv ?hw ?_); (case hv => walk_at "hp"); (case hw => walk_at "side"))
  | with_reducible refine iteT ?_
  | with_reducible refine iteF ?_
  | with_reducible refine iteNT ?_
  | with_reducible refine iteNF ?_
  | ((with_reducible refine iteT' ?hv ?_); (case hv => first | exact decide_eq_true (by assumption) | exact notF (by assumption) | exact decide_eq_true rfl | exact notF (by decide) | exact decide_eq_true (by decide) | exact decide_eq_true (by simp only [List.length_cons, List.length_nil]; decide)))
  | ((with_reducible refine iteF' ?hv ?_); (case hv => first | exact decide_eq_false (by assumption) | exact notT (by assumption) | exact notT rfl | exact decide_eq_false (by decide) | exact decide_eq_false (by simp only [List.length_cons, List.length_nil]; decide)))
  | with_reducible refine i_forL ?_
  | with_reducible refine i_forT ?_
  | with_reducible refine i_forR ?_
  | with_reducible refine i_forR2 ?_
  | with_reducible refine i_forE ?_
  | with_reducible refine i_forV ?_
  | with_reducible refine i_forS ?_
  | with_reducible refine i_forK ?_
  | with_reducible refine i_lcL ?_
  | with_reducible refine i_lcT ?_
  | with_reducible refine i_lcR ?_
  | with_reducible refine i_lcR2 ?_
  | with_reducible refine i_lcS ?_
  | with_reducible refine i_lcK ?_
  | ((with_reducible refine' fl_L ?hv ?_); (case hv => walk_at "sq"))
  | ((with_reducible refine' fl_T ?hv ?_); (case hv => walk_at "sq"))
  | ((with_reducible refine fl_R ?hv ?hw ?_); (case hv => (first | decide | omega)); (case hw => (first | decide | omega)))
  | ((with_reducible refine fl_R2 ?hv ?_); (case hv => (first | decide | (refine ⟨?_, ?_, ?_, ?_⟩ <;> omega))))
  | ((with_reducible refine' fl_E ?hv ?_); (case hv => walk_at "sq"))
  | ((with_reducible refine' fl_V ?hv ?_); (case hv => walk_at "sq"))
  | with_reducible refine fl_S ?_
  | ((with_reducible refine' fc_L ?hv ?_); (case hv => walk_at "sq"))
  | ((with_reducible refine' fc_T ?hv ?_); (case hv => walk_at "sq"))
  | ((with_reducible refine fc_R ?hv ?hw ?_); (case hv => (first | decide | omega)); (case hw => (first | decide | omega)))
  | with_reducible refine fc_S ?_
  | with_reducible refine i_sl ?_
  | with_reducible refine i_nopart ?_
  | with_reducible refine i_part ?_
  | with_reducible refine i_isint ?_
  | ((with_reducible refine' i_slL ?hv ?_); (case hv => walk_at "sq"))
  | ((with_reducible refine i_slS ?hv ?_); (case hv => walk_at "side"))
  | ((with_reducible refine' i_gtup ?hv ?hw ?_); (case hv => walk_at "sq"); (case hw => exact rfl))
  | with_reducible refine i_gcons ?_
  | with_reducible refine i_gnil ?_
  | ((with_reducible refine' i_listL ?hv ?_); (case hv => walk_at "sq"))
  | ((with_reducible refine' i_listT ?hv ?_); (case hv => walk_at "sq"))
  | ((with_reducible refine' i_tupL ?hv ?_); (case hv => walk_at "sq"))
  | ((with_reducible refine' i_lenD ?hv ?_); (case hv => walk_at "hp"))
  | ((with_reducible refine' i_ty ?hv ?_); (case hv => walk_at "hp"))
  | ((with_reducible refine And.intro ?hv ?_); (case hv => first | exact (by decide : (0 : Nat) ≤ sizeLine) | exact (by decide : (1 : Nat) ≤ sizeLine) | exact (by decide : (2 : Nat) ≤ sizeLine) | exact (by decide : (3 : Nat) ≤ sizeLine) | exact (by decide : (4 : Nat) ≤ sizeLine) | exact (by decide : (5 : Nat) ≤ sizeLine) | exact (by decide : (6 : Nat) ≤ sizeLine)))
  | with_reducible refine i_inC ?_
  | ((with_reducible refine i_addT ?hv ?_); (case hv => walk_at "side"))
  | with_reducible refine i_m1 ?_
  | with_reducible refine i_isstr ?_
  | with_reducible refine is_int_int ?_
  | with_reducible refine is_int_bool ?_
  | with_reducible refine is_str_str ?_
  | ((with_reducible refine' is_tup_tup ?hv ?_); (case hv => walk_at "hp"))
  | with_reducible refine i_ifExp ?_
  | with_reducible refine i_andV ?_
  | with_reducible refine i_orV ?_
  | with_reducible refine i_notV ?_
  | with_reducible refine i_chain ?_
  | ((with_reducible refine' i_inS ?hv ?_); (case hv => walk_at "sq"))
  | ((with_reducible refine' i_niS ?hv ?_); (case hv => walk_at "sq"))
  | ((with_reducible refine' i_inI ?hv ?_); (case hv => walk_at "sq"))
  | ((with_reducible refine' i_niI ?hv ?_); (case hv => walk_at "sq"))
  | with_reducible refine i_dnew ?_
  | with_reducible refine i_dput ?_
  | ((with_reducible refine' i_dputI ?hv ?hw ?_); (case hv => walk_at "hp"); (case hw => walk_at "side"))
  | with_reducible refine i_dget ?_
  | ((with_reducible refine' i_dgetI ?hv ?hw ?_); (case hv => walk_at "hp"); (case hw => assumption))
  | with_reducible refine i_dnotin ?_
  | with_reducible refine i_din ?_
  | ((with_reducible refine' i_dnotinI ?hv ?_); (case hv => walk_at "hp"))
  | with_reducible refine i_dsetd ?_
  | ((with_reducible refine' i_isd ?hv ?_); (case hv => walk_at "hp"))
  | with_reducible refine i_fld ?_
  | with_reducible refine i_sfld ?_
  | with_reducible refine i_dcT ?_
  | with_reducible refine i_dcL ?_
  | with_reducible refine i_truT ?_
  | ((with_reducible refine' i_truL ?hv ?_); (case hv => walk_at "sq"))
  | with_reducible refine i_revL ?_
  | ((with_reducible refine' i_atLx ?hv ?_); (case hv => walk_at "sq"))
  | with_reducible refine i_bm ?_
  | with_reducible refine i_bm0 ?_)
local macro_rules | `(tactic| walk_at "step") => `(tactic| first | walk_at "step0" | with_reducible refine i_ifS ?_)
local macro_rules | `(tactic| walk_at "goj") => `(tactic| repeat (first | walk_at "step0" | with_reducible refine i_ifS (c := tTest _) ?_ | with_reducible refine i_ifS (c := tB _) ?_))
local macro_rules | `(tactic| walk_at "tj") => `(tactic| (intro q hq; repeat (first | exact hq | walk_at "step" | (refine and_q hq (fun h => ?_); clear hq; rename_i hq) | (refine or_q hq (fun h => ?_); clear hq; rename_i hq))))
local macro_rules | `(tactic| walk_at "go") => `(tactic| repeat walk_at "step")

/-- behind H0: F stands frozen, the bag at b is one, all else of H0 is kept -/
structure Sb (F : Hp) (b : Addr) (H0 H : Hp) : Prop where
  ex : Ex F H
  bg : Bg F H b
  kp : Kp b H0 H
theorem Sb.ne {F H0 H : Hp} {b p : Addr} (S : Sb F b H0 H) (n : H p = none) : p ≠ b := by
  obtain ⟨l, hb, _⟩ := S.bg.ex
  exact (ne_of_none hb n).symm
theorem Sb.free {F H0 H : Hp} {b p : Addr} (S : Sb F b H0 H) (n : H p = none) : H0 p = none := by
  obtain ⟨l, hb, _⟩ := S.bg.ex
  exact S.kp.free hb n
theorem Sb.fr {F H0 H : Hp} {b p : Addr} (S : Sb F b H0 H) (n : H p = none) : F p = none := ex_none S.ex n
theorem Sb.start {F H : Hp} {b : Addr} (e : Ex F H) (B : Bg F H b) : Sb F b H H := ⟨e, B, Kp.refl⟩
theorem Sb.pick {F H0 H : Hp} {b : Addr} {l : List V} (S : Sb F b H0 H) (hl : BgL F l) : Sb F b H0 (upd H b (.lst l)) :=
  ⟨ex_mut S.bg.fr S.ex, ⟨S.bg.fr, l, upd_same, hl⟩, S.kp.trans Kp.upd⟩
theorem Sb.new {F H0 H : Hp} {b p : Addr} {o : HO} (S : Sb F b H0 H) (n : H p = none) : Sb F b H0 (upd H p o) := by
  obtain ⟨l, hb, hl⟩ := S.bg.ex
  exact ⟨ex_new n S.ex, ⟨S.bg.fr, l, upd_old n hb, hl⟩, S.kp.mut (S.free n)⟩
theorem Sb.mut {F H0 H : Hp} {b p : Addr} {o : HO} (S : Sb F b H0 H) (f : F p = none) (n : H0 p = none) (ne : p ≠ b) : Sb F b H0 (upd H p o) := by
  obtain ⟨l, hb, hl⟩ := S.bg.ex
  exact ⟨ex_mut f S.ex, ⟨S.bg.fr, l, upd_oth ne.symm hb, hl⟩, S.kp.mut n⟩
theorem i_pick {F H : Hp} {b : Addr} {m : Int} {Q : VK} {E : XK} (e : Ex F H) (B : Bg F H b) (h0 : 0 < m) (h1 : m < 1073741824) (k : ∀ (r : Int) (l : List V), 0 ≤ r → r < m → BgL F l → Q (.int r) (upd H b (.lst l))) : spPick [.ref b, .int m] H Q E := ⟨b, m, F, rfl, h0, h1, e, B, k⟩
theorem i_choice {F H : Hp} {b t : Addr} {xs : List V} {Q : VK} {E : XK} (e : Ex F H) (B : Bg F H b) (ht : F t = some (.lst xs)) (h0 : 0 < xs.length) (h1 : xs.length < 1000000) (k : ∀ (x : V) (l : List V), x ∈ xs → BgL F l → Q x (upd H b (.lst l))) : spChoice [.ref b, .ref t] H Q E := ⟨b, t, xs, F, rfl, e, B, ht, h0, h1, k⟩
section
variable {P : Program} {w : World} {K : PySem.W.Frag} {mg : Str → Option Value} {base : Heap} {A : Ad}
abbrev Asc (ns : List Int) : Prop := ns.Pairwise (· < ·)
def spNumbers : Sp := fun vs H Q _ => ∃ (b : Addr) (m : Int) (F : Hp), vs = [.ref b, .int m] ∧ 0 ≤ m ∧ m ≤ 36 ∧ Ex F H ∧ Bg F H b ∧
  ∀ (p : Addr) (ns : List Int) (H' : Hp), ns.length = m.toNat → Asc ns → (∀ n ∈ ns, 1 ≤ n ∧ n ≤ 998) → H p = none → H' p = some (.lst (ns.map V.int)) → Sb F b H H' → Q (.ref p) H'
end
end Dh
/-! K08D -/
set_option Elab.async false
set_option linter.all false
set_option maxRecDepth 100000
set_option maxHeartbeats 4000000
namespace Dh
open PySem PySem.Spec L2
open _root_.Evl (Ex)
local macro_rules | `(tactic| walk_at "ex") => `(tactic| first | assumption | ((with_reducible apply ex_mut); (focus assumption); walk_at "ex") | ((with_reducible apply ex_both); walk_at "ex") | ((with_reducible apply ex_new); (focus assumption); walk_at "ex"))
local macro_rules | `(tactic| walk_at "hp") => `(tactic| first | assumption | with_reducible exact upd_same | ((with_reducible apply upd_old); (focus assumption); walk_at "hp") | ((with_reducible apply upd_oth); (focus walk_at "neq"); walk_at "hp") | ((with_reducible apply ex_by); (focus assumption); walk_at "ex") | ((with_reducible apply ex_at); (focus assumption); walk_at "hp"))
local macro_rules | `(tactic| walk_at "neq") => `(tactic| first | assumption | (apply Ne.symm; assumption))
local macro_rules | `(tactic| walk_at "sq") => `(tactic| first | assumption | ((with_reducible apply SqL.of); walk_at "hp") | ((with_reducible apply SqT.of); walk_at "hp"))
local macro_rules | `(tactic| walk_at "side") => `(tactic| first | assumption | decide | exact cm_fmod (by decide) (by decide) | (show _ ≠ (0 : Int); decide) | (show _ ≠ (0 : Int); omega) | exact Or.inr ⟨by decide, by decide⟩ | exact Or.inl ⟨by decide, by decide⟩ | (show CDivN _ _; exact ⟨by decide, by decide⟩) | (show CDivN _ _; exact ⟨by omega, by omega⟩) | exact Or.inl ⟨by omega, by omega⟩ | exact Or.inr ⟨by omega, by omega⟩ | exact ⟨by decide, by decide, by decide⟩)
local macro_rules | `(tactic| walk_at "ix") => `(tactic| first | exact rfl | assumption | exact atI_nat (by assumption))
local macro_rules | `(tactic| walk_at "step0") => `(tactic| first
  | with_reducible refine i_seq ?_
  | with_reducible refine i_asg ?_
  | with_reducible refine i_op ?_
  | ((with_reducible refine' i_var ?hv ?_); (case hv => exact rfl))
  | with_reducible refine i_c ?_
  | with_reducible refine i_cons ?_
  | with_reducible refine i_nil ?_
  | with_reducible refine i_cb ?_
  | with_reducible refine i_call ?_
  | with_reducible refine i_call' ?_
  | with_reducible refine i_un ?_
  | with_reducible refine i_I0 ?_
  | ((with_reducible refine i_I ?hv ?_); (case hv => walk_at "side"))
  | with_reducible refine i_eqI ?_
  | with_reducible refine i_neI ?_
  | with_reducible refine i_eqS ?_
  | with_reducible refine i_neS ?_
  | ((with_reducible refine i_eq ?hv ?_); (case hv => exact rfl))
  | ((with_reducible refine i_ne ?hv ?_); (case hv => exact rfl))
  | with_reducible refine i_int1 ?_
  | with_reducible refine i_abs ?_
  | ((with_reducible refine' i_ixL ?hv ?hw ?_); (case hv => walk_at "sq"); (case hw => walk_at "ix"))
  | ((with_reducible refine' i_ixT ?hv ?hw ?_); (case hv => walk_at "sq"); (case hw => walk_at "ix"))
  | ((with_reducible refine' i_lenL ?hv ?_); (case hv => walk_at "sq"))
  | ((with_reducible refine' i_lenT ?hv ?_); (case hv => walk_at "sq"))
  | with_reducible refine i_addIB ?_
  | with_reducible refine i_mulIB ?_
  | ((with_reducible refine i_lenS ?hv ?_); (case hv => walk_at "side"))
  | with_reducible refine i_tup ?_
  | with_reducible refine i_lst ?_
  | with_reducible refine i_asgG ?_
  | with_reducible refine i_gname ?_
  | with_reducible refine i_gsub ?_
  | ((with_reducible refine' i_setL ?hv ?hw ?_); (case hv => walk_at "hp"); (case hw => exact rfl))
  | with_reducible refine i_ret ?_
  | with_reducible refine i_drop ?_
  | with_reducible refine i_next ?_
  | with_reducible refine i_test ?_
  | with_reducible refine i_B ?_
  | with_reducible refine i_bl ?_
  | with_reducible refine i_not ?_
  | with_reducible refine i_and ?_
  | with_reducible refine i_or ?_
  | ((with_reducible refine' i_app ?hv ?hw ?_); (case hv => walk_at "hp"); (case hw => walk_at "side"))
  | with_reducible refine iteT ?_
  | with_reducible refine iteF ?_
  | with_reducible refine iteNT ?_
  | with_reducible refine iteNF ?_
  | ((with_reducible refine iteT' ?hv ?_); (case hv => first | exact decide_eq_true (by assumption) | exact notF (by assumption) | exact decide_eq_true rfl | exact notF (by decide) | exact decide_eq_true (by decide) | exact decide_eq_true (by simp only [List.length_cons, List.length_nil]; decide)))
  | ((with_reducible refine iteF' ?hv ?_); (case hv => first | exact decide_eq_false (by assumption) | exact notT (by assumption) | exact notT rfl | exact decide_eq_false (by decide) | exact decide_eq_false (by simp only [List.length_cons, List.length_nil]; decide)))
  | with_reducible refine i_forL ?_
  | with_reducible refine i_forT ?_
  | with_reducible refine i_forR ?_
  | with_reducible refine i_forR2 ?_
  | with_reducible refine i_forE ?_
  | with_reducible refine i_forV ?_
  | with_reducible refine i_forS ?_
  | with_reducible refine i_forK ?_
  | with_reducible refine i_lcL ?_
  | with_reducible refine i_lcT ?_
  | with_reducible refine i_lcR ?_
  | with_reducible refine i_lcR2 ?_
  | with_reducible refine i_lcS ?_
  | with_reducible refine i_lcK ?_
  | ((with_reducible refine' fl_L ?hv ?_); (case hv => walk_at "sq"))
  | ((with_reducible refine' fl_T ?hv ?_); (case hv => walk_at "sq"))
  | ((with_reducible refine fl_R ?hv ?hw ?_); (case hv => (first | decide | omega)); (case hw => (first | decide | omega)))
  | ((with_reducible refine fl_R2 ?hv ?_); (case hv => (first | decide | (refine ⟨?_, ?_, ?_, ?_⟩ <;> omega))))
  | ((with_reducible refine' fl_E ?hv ?_); (case hv => walk_at "sq"))
  | ((with_reducible refine' fl_V ?hv ?_); (case hv => walk_at "sq"))
  | with_reducible refine fl_S ?_
  | ((with_reducible refine' fc_L ?hv ?_); (case hv => walk_at "sq"))
  | ((with_reducible refine' fc_T ?hv ?_); (case hv => walk_at "sq"))
  | ((with_reducible refine fc_R ?hv ?hw ?_); (case hv => (first | decide | omega)); (case hw => (first | decide | omega)))
  | with_reducible refine fc_S ?_
  | with_reducible refine i_sl ?_
  | with_reducible refine i_nopart ?_
  | with_reducible refine i_part ?_
  | with_reducible refine i_isint ?_
  | ((with_reducible refine' i_slL ?hv ?_); (case hv => walk_at "sq"))
  | ((with_reducible refine i_slS ?hv ?_); (case hv => walk_at "side"))
  | ((with_reducible refine' i_gtup ?hv ?hw ?_); (case hv => walk_at "sq"); (case hw => exact rfl))
  | with_reducible refine i_gcons ?_
  | with_reducible refine i_gnil ?_
  | ((with_reducible refine' i_listL ?hv ?_); (case hv => walk_at "sq"))
  | ((with_reducible refine' i_listT ?hv ?_); (case hv => walk_at "sq"))
  | ((with_reducible refine' i_tupL ?hv ?_); (case hv => walk_at "sq"))
  | ((with_reducible refine' i_lenD ?hv ?_); (case hv => walk_at "hp"))
  | ((with_reducible refine' i_ty ?hv ?_); (case hv => walk_at "hp"))
  | ((with_reducible refine And.intro ?hv ?_); (case hv => first | exact (by decide : (0 : Nat) ≤ sizeLine) | exact (by decide : (1 : Nat) ≤ sizeLine) | exact (by decide : (2 : Nat) ≤ sizeLine) | exact (by decide : (3 : Nat) ≤ sizeLine) | exact (by decide : (4 : Nat) ≤ sizeLine) | exact (by decide : (5 : Nat) ≤ sizeLine) | exact (by decide : (6 : Nat) ≤ sizeLine)))
  | with_reducible refine i_inC ?_
  | ((with_reducible refine i_addT ?hv ?_); (case hv => walk_at "side"))
  | with_reducible refine i_m1 ?_
  | with_reducible refine i_isstr ?_
  | with_reducible refine is_int_int ?_
  | with_reducible refine is_int_bool ?_
  | with_reducible refine is_str_str ?_
  | ((with_reducible refine' is_tup_tup ?hv ?_); (case hv => walk_at "hp"))
  | with_reducible refine i_ifExp ?_
  | with_reducible refine i_andV ?_
  | with_reducible refine i_orV ?_
  | with_reducible refine i_notV ?_
  | with_reducible refine i_chain ?_
  | ((with_reducible refine' i_inS ?hv ?_); (case hv => walk_at "sq"))
  | ((with_reducible refine' i_niS ?hv ?_); (case hv => walk_at "sq"))
  | ((with_reducible refine' i_inI ?hv ?_); (case hv => walk_at "sq"))
  | ((with_reducible refine' i_niI ?hv ?_); (case hv => walk_at "sq"))
  | with_reducible refine i_dnew ?_
  | with_reducible refine i_dput ?_
  | ((with_reducible refine' i_dputI ?hv ?hw ?_); (case hv => walk_at "hp"); (case hw => walk_at "side"))
  | with_reducible refine i_dget ?_
  | ((with_reducible refine' i_dgetI ?hv ?hw ?_); (case hv => walk_at "hp"); (case hw => assumption))
  | with_reducible refine i_dnotin ?_
  | with_reducible refine i_din ?_
  | ((with_reducible refine' i_dnotinI ?hv ?_); (case hv => walk_at "hp"))
  | with_reducible refine i_dsetd ?_
  | ((with_reducible refine' i_isd ?hv ?_); (case hv => walk_at "hp"))
  | with_reducible refine i_fld ?_
  | with_reducible refine i_sfld ?_
  | with_reducible refine i_dcT ?_
  | with_reducible refine i_dcL ?_
  | with_reducible refine i_truT ?_
  | ((with_reducible refine' i_truL ?hv ?_); (case hv => walk_at "sq"))
  | with_reducible refine i_revL ?_
  | ((with_reducible refine' i_atLx ?hv ?_); (case hv => walk_at "sq"))
  | with_reducible refine i_bm ?_
  | with_reducible refine i_bm0 ?_)
local macro_rules | `(tactic| walk_at "step") => `(tactic| first | walk_at "step0" | with_reducible refine i_ifS ?_)
local macro_rules | `(tactic| walk_at "goj") => `(tactic| repeat (first | walk_at "step0" | with_reducible refine i_ifS (c := tTest _) ?_ | with_reducible refine i_ifS (c := tB _) ?_))
local macro_rules | `(tactic| walk_at "tj") => `(tactic| (intro q hq; repeat (first | exact hq | walk_at "step" | (refine and_q hq (fun h => ?_); clear hq; rename_i hq) | (refine or_q hq (fun h => ?_); clear hq; rename_i hq))))
local macro_rules | `(tactic| walk_at "go") => `(tactic| repeat walk_at "step")

theorem BgL.ex {F F' : Hp} {l : List V} (x : Ex F F') (h : BgL F l) : BgL F' l := by
  obtain ⟨n, ns, i, hh, t, s, e, hn, r⟩ := h
  exact ⟨n, ns, i, hh, t, s, e, x _ _ hn, r⟩
theorem Sb.frz {F H0 H : Hp} {b p : Addr} {o : HO} (S : Sb F b H0 H) (n : H p = none) : Sb (upd F p o) b H0 (upd H p o) := by
  obtain ⟨l, hb, hl⟩ := S.bg.ex
  have ne := S.ne n
  exact ⟨ex_both S.ex, ⟨by rw [upd_ne ne.symm]; exact S.bg.fr, l, upd_old n hb, hl.ex (Ex.new (S.fr n))⟩, S.kp.mut (S.free n)⟩
/-- what stands already is frozen -/
theorem Sb.fix {F H0 H : Hp} {b p : Addr} {o : HO} (S : Sb F b H0 H) (h : H p = some o) (f : F p = none) (ne : p ≠ b) : Sb (upd F p o) b H0 H := by
  obtain ⟨l, hb, hl⟩ := S.bg.ex
  refine ⟨fun a u e => ?_, ⟨by rw [upd_ne ne.symm]; exact S.bg.fr, l, hb, hl.ex (Ex.new f)⟩, S.kp⟩
  by_cases q : a = p
  · subst q; rw [upd_same] at e; cases e; exact h
  · rw [upd_ne q] at e; exact S.ex a u e
theorem EsAt.ex {F F' : Hp} {vs : List V} {es : List En} (x : Ex F F') (h : EsAt F vs es) : EsAt F' vs es := L2.Paired.mapP h fun _ _ z => z.ex x
theorem paired_snoc {α β : Type} {R : α → β → Prop} : ∀ {xs : List α} {ys : List β} {x : α} {y : β}, Paired R xs ys → R x y → Paired R (xs ++ [x]) (ys ++ [y])
  | _, _, _, _, .nil, h => .cons h .nil
  | _, _, _, _, .cons r t, h => .cons r (paired_snoc t h)
theorem asc_lt {ns : List Int} (h : Asc ns) {i j : Nat} {a c : Int} (ha : ns[i]? = some a) (hc : ns[j]? = some c) (l : i < j) : a < c := by
  obtain ⟨hi, rfl⟩ := List.getElem?_eq_some_iff.mp ha
  obtain ⟨hj, rfl⟩ := List.getElem?_eq_some_iff.mp hc
  exact List.pairwise_iff_getElem.mp h i j hi hj l
end Dh
/-! K08E -/
set_option Elab.async false
set_option linter.all false
set_option maxRecDepth 100000
set_option maxHeartbeats 4000000
namespace Dh
open PySem PySem.Spec L2
open _root_.Evl (Ex)
local macro_rules | `(tactic| walk_at "ex") => `(tactic| first | assumption | ((with_reducible apply ex_mut); (focus assumption); walk_at "ex") | ((with_reducible apply ex_both); walk_at "ex") | ((with_reducible apply ex_new); (focus assumption); walk_at "ex"))
local macro_rules | `(tactic| walk_at "hp") => `(tactic| first | assumption | with_reducible exact upd_same | ((with_reducible apply upd_old); (focus assumption); walk_at "hp") | ((with_reducible apply upd_oth); (focus walk_at "neq"); walk_at "hp") | ((with_reducible apply ex_by); (focus assumption); walk_at "ex") | ((with_reducible apply ex_at); (focus assumption); walk_at "hp"))
local macro_rules | `(tactic| walk_at "neq") => `(tactic| first | assumption | (apply Ne.symm; assumption))
local macro_rules | `(tactic| walk_at "sq") => `(tactic| first | assumption | ((with_reducible apply SqL.of); walk_at "hp") | ((with_reducible apply SqT.of); walk_at "hp"))
local macro_rules | `(tactic| walk_at "side") => `(tactic| first | assumption | decide | exact cm_fmod (by decide) (by decide) | (show _ ≠ (0 : Int); decide) | (show _ ≠ (0 : Int); omega) | exact Or.inr ⟨by decide, by decide⟩ | exact Or.inl ⟨by decide, by decide⟩ | (show CDivN _ _; exact ⟨by decide, by decide⟩) | (show CDivN _ _; exact ⟨by omega, by omega⟩) | exact Or.inl ⟨by omega, by omega⟩ | exact Or.inr ⟨by omega, by omega⟩ | exact ⟨by decide, by decide, by decide⟩)
local macro_rules | `(tactic| walk_at "ix") => `(tactic| first | exact rfl | assumption | exact atI_nat (by assumption))
local macro_rules | `(tactic| walk_at "step0") => `(tactic| first
  | with_reducible refine i_seq ?_
  | with_reducible refine i_asg ?_
  | with_reducible refine i_op ?_
  | ((with_reducible refine' i_var ?hv ?_); (case hv => exact rfl))
  | with_reducible refine i_c ?_
  | with_reducible refine i_cons ?_
  | with_reducible refine i_nil ?_
  | with_reducible refine i_cb ?_
  | with_reducible refine i_call ?_
  | with_reducible refine i_call' ?_
  | with_reducible refine i_un ?_
  | with_reducible refine i_I0 ?_
  | ((with_reducible refine i_I ?hv ?_); (case hv => walk_at "side"))
  | with_reducible refine i_eqI ?_
  | with_reducible refine i_neI ?_
  | with_reducible refine i_eqS ?_
  | with_reducible refine i_neS ?_
  | ((with_reducible refine i_eq ?hv ?_); (case hv => exact rfl))
  | ((with_reducible refine i_ne ?hv ?_); (case hv => exact rfl))
  | with_reducible refine i_int1 ?_
  | with_reducible refine i_abs ?_
  | ((with_reducible refine' i_ixL ?hv ?hw ?_); (case hv => walk_at "sq"); (case hw => walk_at "ix"))
  | ((with_reducible refine' i_ixT ?hv ?hw ?_); (case hv => walk_at "sq"); (case hw => walk_at "ix"))
  | ((with_reducible refine' i_lenL ?hv ?_); (case hv => walk_at "sq"))
  | ((with_reducible refine' i_lenT ?hv ?_); (case hv => walk_at "sq"))
  | with_reducible refine i_addIB ?_
  | with_reducible refine i_mulIB ?_
  | ((with_reducible refine i_lenS ?hv ?_); (case hv => walk_at "side"))
  | with_reducible refine i_tup ?_
  | with_reducible refine i_lst ?_
  | with_reducible refine i_asgG ?_
  | with_reducible refine i_gname ?_
  | with_reducible refine i_gsub ?_
  | ((with_reducible refine' i_setL ?hv ?hw ?_); (case hv => walk_at "hp"); (case hw => exact rfl))
  | with_reducible refine i_ret ?_
  | with_reducible refine i_drop ?_
  | with_reducible refine i_next ?_
  | with_reducible refine i_test ?_
  | with_reducible refine i_B ?_
  | with_reducible refine i_bl ?_
  | with_reducible refine i_not ?_
  | with_reducible refine i_and ?_
  | with_reducible refine i_or ?_
  | ((with_reducible refine' i_app ?hv ?hw ?_); (case hv => walk_at "hp"); (case hw => walk_at "side"))
  | with_reducible refine iteT ?_
  | with_reducible refine iteF ?_
  | with_reducible refine iteNT ?_
  | with_reducible refine iteNF ?_
  | ((with_reducible refine iteT' ?hv ?_); (case hv => first | exact decide_eq_true (by assumption) | exact notF (by assumption) | exact decide_eq_true rfl | exact notF (by decide) | exact decide_eq_true (by decide) | exact decide_eq_true (by simp only [List.length_cons, List.length_nil]; decide)))
  | ((with_reducible refine iteF' ?hv ?_); (case hv => first | exact decide_eq_false (by assumption) | exact notT (by assumption) | exact notT rfl | exact decide_eq_false (by decide) | exact decide_eq_false (by simp only [List.length_cons, List.length_nil]; decide)))
  | with_reducible refine i_forL ?_
  | with_reducible refine i_forT ?_
  | with_reducible refine i_forR ?_
  | with_reducible refine i_forR2 ?_
  | with_reducible refine i_forE ?_
  | with_reducible refine i_forV ?_
  | with_reducible refine i_forS ?_
  | with_reducible refine i_forK ?_
  | with_reducible refine i_lcL ?_
  | with_reducible refine i_lcT ?_
  | with_reducible refine i_lcR ?_
  | with_reducible refine i_lcR2 ?_
  | with_reducible refine i_lcS ?_
  | with_reducible refine i_lcK ?_
  | ((with_reducible refine' fl_L ?hv ?_); (case hv => walk_at "sq"))
  | ((with_reducible refine' fl_T ?hv ?_); (case hv => walk_at "sq"))
  | ((with_reducible refine fl_R ?hv ?hw ?_); (case hv => (first | decide | omega)); (case hw => (first | decide | omega)))
  | ((with_reducible refine fl_R2 ?hv ?_); (case hv => (first | decide | (refine ⟨?_, ?_, ?_, ?_⟩ <;> omega))))
  | ((with_reducible refine' fl_E ?hv ?_); (case hv => walk_at "sq"))
  | ((with_reducible refine' fl_V ?hv ?_); (case hv => walk_at "sq"))
  | with_reducible refine fl_S ?_
  | ((with_reducible refine' fc_L ?hv ?_); (case hv => walk_at "sq"))
  | ((with_reducible refine' fc_T ?hv ?_); (case hv => walk_at "sq"))
  | ((with_reducible refine fc_R ?hv ?hw ?_); (case hv => (first | decide | omega)); (case hw => (first | decide | omega)))
  | with_reducible refine fc_S ?_
  | with_reducible refine i_sl ?_
  | with_reducible refine i_nopart ?_
  | with_reducible refine i_part ?_
  | with_reducible refine i_isint ?_
  | ((with_reducible refine' i_slL ?hv ?_); (case hv => walk_at "sq"))
  | ((with_reducible refine i_slS ?hv ?_); (case hv => walk_at "side"))
  | ((with_reducible refine' i_gtup ?hv ?hw ?_); (case hv => walk_at "sq"); (case hw => exact rfl))
  | with_reducible refine i_gcons ?_
  | with_reducible refine i_gnil ?_
  | ((with_reducible refine' i_listL ?hv ?_); (case hv => walk_at "sq"))
  | ((with_reducible refine' i_listT ?hv ?_); (case hv => walk_at "sq"))
  | ((with_reducible refine' i_tupL ?hv ?_); (case hv => walk_at "sq"))
  | ((with_reducible refine' i_lenD ?hv ?_); (case hv => walk_at "hp"))
  | ((with_reducible refine' i_ty ?hv ?_); (case hv => walk_at "hp"))
  | ((with_reducible refine And.intro ?hv ?_); (case hv => first | exact (by decide : (0 : Nat) ≤ sizeLine) | exact (by decide : (1 : Nat) ≤ sizeLine) | exact (by decide : (2 : Nat) ≤ sizeLine) | exact (by decide : (3 : Nat) ≤ sizeLine) | exact (by decide : (4 : Nat) ≤ sizeLine) | exact (by decide : (5 : Nat) ≤ sizeLine) | exact (by decide : (6 : Nat) ≤ sizeLine)))
  | with_reducible refine i_inC ?_
  | ((with_reducible refine i_addT ?hv ?_); (case hv => walk_at "side"))
  | with_reducible refine i_m1 ?_
  | with_reducible refine i_isstr ?_
  | with_reducible refine is_int_int ?_
  | with_reducible refine is_int_bool ?_
  | with_reducible refine is_str_str ?_
  | ((with_reducible refine' is_tup_tup ?hv ?_); (case hv => walk_at "hp"))
  | with_reducible refine i_ifExp ?_
  | with_reducible refine i_andV ?_
  | with_reducible refine i_orV ?_
  | with_reducible refine i_notV ?_
  | with_reducible refine i_chain ?_
  | ((with_reducible refine' i_inS ?hv ?_); (case hv => walk_at "sq"))
  | ((with_reducible refine' i_niS ?hv ?_); (case hv => walk_at "sq"))
  | ((with_reducible refine' i_inI ?hv ?_); (case hv => walk_at "sq"))
  | ((with_reducible refine' i_niI ?hv ?_); (case hv => walk_at "sq"))
  | with_reducible refine i_dnew ?_
  | with_reducible refine i_dput ?_
  | ((with_reducible refine' i_dputI ?hv ?hw ?_); (case hv => walk_at "hp"); (case hw => walk_at "side"))
  | with_reducible refine i_dget ?_
  | ((with_reducible refine' i_dgetI ?hv ?hw ?_); (case hv => walk_at "hp"); (case hw => assumption))
  | with_reducible refine i_dnotin ?_
  | with_reducible refine i_din ?_
  | ((with_reducible refine' i_dnotinI ?hv ?_); (case hv => walk_at "hp"))
  | with_reducible refine i_dsetd ?_
  | ((with_reducible refine' i_isd ?hv ?_); (case hv => walk_at "hp"))
  | with_reducible refine i_fld ?_
  | with_reducible refine i_sfld ?_
  | with_reducible refine i_dcT ?_
  | with_reducible refine i_dcL ?_
  | with_reducible refine i_truT ?_
  | ((with_reducible refine' i_truL ?hv ?_); (case hv => walk_at "sq"))
  | with_reducible refine i_revL ?_
  | ((with_reducible refine' i_atLx ?hv ?_); (case hv => walk_at "sq"))
  | with_reducible refine i_bm ?_
  | with_reducible refine i_bm0 ?_)
local macro_rules | `(tactic| walk_at "step") => `(tactic| first | walk_at "step0" | with_reducible refine i_ifS ?_)
local macro_rules | `(tactic| walk_at "goj") => `(tactic| repeat (first | walk_at "step0" | with_reducible refine i_ifS (c := tTest _) ?_ | with_reducible refine i_ifS (c := tB _) ?_))
local macro_rules | `(tactic| walk_at "tj") => `(tactic| (intro q hq; repeat (first | exact hq | walk_at "step" | (refine and_q hq (fun h => ?_); clear hq; rename_i hq) | (refine or_q hq (fun h => ?_); clear hq; rename_i hq))))
local macro_rules | `(tactic| walk_at "go") => `(tactic| repeat walk_at "step")

theorem name_app {a : Str} {l : List Nat} (h : ∀ c ∈ a.cps.toList, c ∈ l) {b : Str} (h' : ∀ c ∈ b.cps.toList, c ∈ l) : ∀ c ∈ (a ++ b).cps.toList, c ∈ l := by
  intro c hc
  rw [app_L] at hc
  rcases List.mem_append.mp hc with q | q
  · exact h c q
  · exact h' c q
/-- H without what stands at u -/
def less (H : Hp) (u : Addr) : Hp := fun a => if a = u then none else H a
theorem less_same {H : Hp} {u : Addr} : less H u u = none := if_pos rfl
theorem less_ne {H : Hp} {u a : Addr} (n : a ≠ u) : less H u a = H a := if_neg n
theorem Sb.startL {F H : Hp} {b u : Addr} (e : Ex F H) (B : Bg F H b) : Sb F b (less H u) H := ⟨e, B, fun a o _ h => by
  by_cases q : a = u
  · subst q; rw [less_same] at h; cases h
  · rw [less_ne q] at h; exact h⟩
section
variable {P : Program} {w : World} {K : PySem.W.Frag} {mg : Str → Option Value} {base : Heap} {A : Ad}
def spNewName : Sp := fun vs H Q _ => ∃ (b u : Addr) (us : List Str) (F : Hp), vs = [.ref b, .ref u] ∧ Ex F H ∧ Bg F H b ∧ F u = none ∧ u ≠ b ∧ H u = some (.lst (us.map V.str)) ∧ us.length ≤ 600 ∧ (∀ x ∈ us, NameOk x) ∧
  ∀ (x : Str) (H' : Hp), NameOk x → x ∉ us → H' u = some (.lst ((us ++ [x]).map V.str)) → Sb F b (less H u) H' → Q (.str x) H'
theorem letter_at {r : Int} (r0 : 0 ≤ r) (r1 : r < 26) : ∃ c, atI ("abcdefghijklmnopqrstuvwxyz" : Str).cps.toList r = some c ∧ c ∈ letters := by
  obtain ⟨c, h, m⟩ := atI_lt (xs := ("abcdefghijklmnopqrstuvwxyz" : Str).cps.toList) r0 (by
    have : (("abcdefghijklmnopqrstuvwxyz" : Str).cps.toList).length = 26 := by decide +kernel
    rw [this]; omega)
  exact ⟨c, h, List.mem_of_getElem? m⟩
theorem letters_len : ("abcdefghijklmnopqrstuvwxyz" : Str).length ≤ sizeLine := by decide +kernel
theorem one_L (c : Nat) : (⟨#[c]⟩ : Str).cps.toList = [c] := rfl
theorem ok_l_new_name (T : Txt K mg A) : FnOk P w K mg base CX0 3 A.f_l_new_name A.d_l_new_name ["_law_bag_here", "_law_used"] spNewName := by
  refine T.F_l_new_name.ok sc_l_new_name (fun vs H Q E h => ?_) (fun cdv Ar outer s H vs Q E hr h => ?_)
  · obtain ⟨b, u, us, F, rfl, _⟩ := h; rfl
  · obtain ⟨b, u, us, F, rfl, e, B, Fu, ub, hu, us6, usN, k⟩ := h
    refine ⟨_, (pss_cons (ps_set (i := 2) sc_l_new_name.nd rfl (Or.inr rfl) pe_str)
  (pss_cons (ps_set (i := 3) sc_l_new_name.nd rfl (Or.inr rfl) (pe_joinL pe_str (pe_lc (own := [("_law_step", 4)]) (g := gName 4) (tt := tYes) rfl sc_l_new_name.nd (pi_range1 rfl T.b_range (pa_cons (pe_op op_add pe_int (pe_call (ok_l_pick T) (hr.mono (by decide)) rfl T.g_l_pick T.F_l_pick.kp T.bi_l_pick .nil pass0 (pa_cons (pv 0) (pa_cons pe_int pa_nil)))) pa_nil)) (blkOk_by (N := ["_law_bag_here", "_law_used", "_law_letters", "_law_told", "_law_step", "_law_near", "_law_at", "_law_tails", "_law_k", "_law_tail"]) (sc := defScope s_l_new_name) (by decide +kernel)) (fun _ _ _ _ _ => (pg_name (i := 4) sc_l_new_name.nd rfl (Or.inl rfl))) (fun _ _ _ _ _ => pts_nil) (fun _ _ _ _ _ => (pe_ix ix_str (pv 2) (pe_call (ok_l_pick T) (hr.mono (by decide)) rfl T.g_l_pick T.F_l_pick.kp T.bi_l_pick .nil pass0 (pa_cons (pv 0) (pa_cons pe_int pa_nil))) (fun _ _ => rfl))))))
  (_root_.Evl.pss_cut (ps_if (PW.pt (pw_and (pt_tru (pv 1)) (pw_and1 (pt_cmpR op_eq (pe_call (ok_l_pick T) (hr.mono (by decide)) rfl T.g_l_pick T.F_l_pick.kp T.bi_l_pick .nil pass0 (pa_cons (pv 0) (pa_cons pe_int pa_nil))) pe_int (nomark _))))) (pss_cons (ps_set (i := 5) sc_l_new_name.nd rfl (Or.inl rfl) (pe_slice sl_str (pe_ix ix_list (pv 1) (pe_call (ok_l_pick T) (hr.mono (by decide)) rfl T.g_l_pick T.F_l_pick.kp T.bi_l_pick .nil pass0 (pa_cons (pv 0) (pa_cons (pe_callB cl_len (by rfl) T.b_len (by decide +kernel) (pa_cons (pv 1) pa_nil)) pa_nil))) (fun _ _ => rfl)) po_none (po_some pe_int)))
  (pss_cons (ps_set (i := 6) sc_l_new_name.nd rfl (Or.inl rfl) (pe_call (ok_l_pick T) (hr.mono (by decide)) rfl T.g_l_pick T.F_l_pick.kp T.bi_l_pick .nil pass0 (pa_cons (pv 0) (pa_cons (pe_callB cl_lenS (by rfl) T.b_len (by decide +kernel) (pa_cons (pv 5) pa_nil)) pa_nil))))
  (pss_one (ps_set (i := 3) sc_l_new_name.nd rfl (Or.inr rfl) (pe_op op_addT (pe_op op_addT (pe_slice sl_str (pv 5) po_none (po_some (pv 6))) (pe_ix ix_str (pv 2) (pe_call (ok_l_pick T) (hr.mono (by decide)) rfl T.g_l_pick T.F_l_pick.kp T.bi_l_pick .nil pass0 (pa_cons (pv 0) (pa_cons pe_int pa_nil))) (fun _ _ => rfl))) (pe_slice sl_str (pv 5) (po_some (pe_op op_add (pv 6) pe_int)) po_none)))))) pss_nil)
  (_root_.Evl.pss_cut (ps_if (pt_cmpR op_in_seq (pv 3) (pv 1) rfl) (pss_cons (ps_setLc (i := 7) (own := [("_law_k", 8)]) (g := gName 8) (tt := tYes) rfl sc_l_new_name.nd rfl rfl (sw_true rfl rfl rfl (by decide +kernel)) (pi_range1 rfl T.b_range (pa_cons pe_int pa_nil)) (blkOk_by (N := ["_law_bag_here", "_law_used", "_law_letters", "_law_told", "_law_step", "_law_near", "_law_at", "_law_tails", "_law_k", "_law_tail"]) (sc := defScope s_l_new_name) (by decide +kernel)) (fun _ _ _ _ _ => (pg_name (i := 8) sc_l_new_name.nd rfl (Or.inl rfl))) (fun _ _ _ _ _ => pts_nil) (fun _ _ _ _ _ => (pe_op op_addT (pe_ix ix_str (pv 2) (pe_op op_fdivN (pv 8) pe_int) (fun _ _ => rfl)) (pe_ix ix_str (pv 2) (pe_op op_modN (pe_callTy cl_int (by rfl) T.b_int (by decide +kernel) (pa_cons (pv 8) pa_nil)) pe_int) (fun _ _ => rfl)))))
  (pss_one (ps_set (i := 3) sc_l_new_name.nd rfl (Or.inr rfl) (pe_ix ix_list (pe_lc (own := [("_law_tail", 9)]) (g := gName 9) rfl sc_l_new_name.nd (pi_list (pv 7)) (blkOk_by (N := ["_law_bag_here", "_law_used", "_law_letters", "_law_told", "_law_step", "_law_near", "_law_at", "_law_tails", "_law_k", "_law_tail"]) (sc := defScope s_l_new_name) (by decide +kernel)) (fun _ _ _ _ _ => (pg_name (i := 9) sc_l_new_name.nd rfl (Or.inl rfl))) (fun _ _ _ _ _ => pts_one (pt_cmpR (show OpR _ (compareOp .NotIn) (rIn K true) from op_notIn_seq) (pe_op op_addT (pe_slice sl_str (pv 3) po_none (po_some pe_int)) (pv 9)) (pv 1) rfl)) (fun _ _ _ _ _ => (pe_op op_addT (pe_slice sl_str (pv 3) po_none (po_some pe_int)) (pv 9)))) pe_int (fun _ _ => rfl))))) pss_nil)
  (pss_cons (ps_expr (pe_bm PySem.F.plainAttrs_list PySem.F.slot_list_append PySem.F.type_list_append mt_append (pv 1) (pa_cons (pv 3) pa_nil)))
  (pss_one (ps_ret (pv 3)))))))), ?_⟩
    dsimp only [cxOf, Cx.nox, Cx.wish]
    have S0 := Sb.startL (u := u) e B
    have hu0 : less H u u = none := less_same
    walk_at "go"
    refine i_pick S0.ex S0.bg (by decide) (by decide) fun r l r0 r1 hl => ?_
    have S1 := S0.pick hl
    have hu1 := upd_oth (u' := .lst l) ub hu
    generalize upd H b (.lst l) = H1 at S1 hu1
    walk_at "go"
    refine lc_eff fun D hD => ⟨fun i acc H' => ∃ ys : List Str, acc = ys.map V.str ∧ Sb F b (less H u) H' ∧ H' u = some (.lst (us.map V.str)) ∧ ys.length = i ∧ ∀ y ∈ ys, ∃ c, c ∈ letters ∧ y = ⟨#[c]⟩, ?_, fun _ _ _ _ _ => trivial, fun i x acc H2 H3 hi h hacc y => ?_, fun acc H2 h hacc => ?_⟩
    · exact ⟨[], rfl, S1.new hD, upd_old hD hu1, rfl, by simp⟩
    · obtain ⟨ys, rfl, S, h2, h3, h4⟩ := h
      obtain ⟨rfl, rfl⟩ := y
      have Db := S1.ne hD
      have Du : D ≠ u := (ne_of_none hu1 hD).symm
      walk_at "go"
      refine i_pick S.ex S.bg (by decide) (by decide) fun r l r0 r1 hl => ?_
      have S' := S.pick hl
      obtain ⟨c, hc, lc⟩ := letter_at r0 r1
      refine i_ixS letters_len hc ?_
      have hi' : i < 7 := by omega
      refine lcK (upd_oth Db hacc) (by rw [List.length_map, sizeLine_eq]; omega) ⟨ys ++ [⟨#[c]⟩], by simp, S'.mut (S1.fr hD) (S1.free hD) Db, by walk_at "hp", by simp [h3], ?_⟩
      intro y hy
      rcases List.mem_append.mp hy with q | q
      · exact h4 y q
      · simp at q; exact ⟨c, lc, q⟩
    obtain ⟨ys, rfl, S, h2, h3, h4⟩ := h
    have j1 : ∀ (l : List Str), (∀ y ∈ l, ∃ c, c ∈ letters ∧ y = (⟨#[c]⟩ : Str)) → ((l.map fun y => y.cps.toList).flatten).length = l.length ∧ (l.map (·.length)).sum = l.length ∧ ∀ c ∈ (l.map fun y => y.cps.toList).flatten, c ∈ letters := by
      intro l
      induction l with
      | nil => simp
      | cons a r ih =>
        intro h
        obtain ⟨c, hc, rfl⟩ := h a List.mem_cons_self
        obtain ⟨i1, i2, i3⟩ := ih fun y hy => h y (List.mem_cons_of_mem _ hy)
        have : (⟨#[c]⟩ : Str).length = 1 := rfl
        refine ⟨by simp [i1, Nat.add_comm], by simp [i2, this, Nat.add_comm], ?_⟩
        intro d hd
        simp at hd
        rcases hd with rfl | ⟨y, hy, hd⟩
        · exact hc
        · exact i3 d (by simp; exact ⟨y, hy, hd⟩)
    obtain ⟨j1, j2, j3⟩ := j1 ys h4
    have e0 : (PySem.Str.ofString "").length = 0 := by decide +kernel
    refine i_joinL (SqL.of hacc) (by rw [j2, e0]; omega) ?_
    have T1 : 1 ≤ (Txt.join "" ys).length ∧ (Txt.join "" ys).length ≤ 6 ∧ ∀ c ∈ (Txt.join "" ys).cps.toList, c ∈ letters := by
      rw [len_L, join_L, j1]
      exact ⟨by omega, by omega, j3⟩
    generalize Txt.join "" ys = told at T1
    clear j1 j2 j3 h3 h4 hacc
    clear ys
    walk_at "go"
    refine ⟨fun σ' H' => ∃ (tl : Str) (o4 o5 o6 o7 o8 o9 : Option V), σ' = [some (.ref b), some (.ref u), some (.str "abcdefghijklmnopqrstuvwxyz"), some (.str tl), o4, o5, o6, o7, o8, o9] ∧ Sb F b (less H u) H' ∧ H' u = some (.lst (us.map V.str)) ∧ 1 ≤ tl.length ∧ tl.length ≤ 6 ∧ ∀ c ∈ tl.cps.toList, c ∈ letters, ?_, fun σ' H' h => ?_⟩
    · walk_at "go"
      refine iteB (fun c1 => ?_) (fun c1 => ?_)
      · walk_at "go"
        refine i_pick S.ex S.bg (by decide) (by decide) fun r l r0 r1 hl => ?_
        have S3 := S.pick hl
        have h3 := upd_oth (u' := .lst l) ub h2
        generalize upd H2 b (.lst l) = H3 at S3 h3
        walk_at "go"
        refine iteD (fun c2 => ?_) (fun c2 => ?_)
        · walk_at "go"
          have us0 : 0 < us.length := by
            cases us with
            | nil => simp at c1
            | cons a r => simp
          refine i_pick S3.ex S3.bg (by rw [List.length_map]; omega) (by rw [List.length_map]; omega) fun r l r0 r1 hl => ?_
          have S4 := S3.pick hl
          have h4 := upd_oth (u' := .lst l) ub h3
          generalize upd H3 b (.lst l) = H4 at S4 h4
          obtain ⟨z, hz, hm⟩ := atI_lt (xs := us.map V.str) r0 r1
          obtain ⟨nz, hnz, rfl⟩ := List.mem_map.mp (List.mem_of_getElem? hm)
          have NZ := usN nz hnz
          have lz : nz.length ≤ sizeLine := Nat.le_trans NZ.hi (by decide)
          walk_at "go"
          have N1 : (cutS nz none (some 6)).cps.toList = nz.cps.toList.take 6 := cut_to (by decide)
          have N2 : 1 ≤ (cutS nz none (some 6)).length ∧ (cutS nz none (some 6)).length ≤ 6 ∧ ∀ c ∈ (cutS nz none (some 6)).cps.toList, c ∈ letters := by
            have := NZ.lo
            rw [len_L] at this
            rw [len_L, N1, List.length_take]
            refine ⟨by omega, by omega, fun c hc => NZ.ls c (List.mem_of_mem_take hc)⟩
          clear N1
          generalize cutS nz none (some 6) = near at N2
          have ln : near.length ≤ sizeLine := Nat.le_trans N2.2.1 (by decide)
          walk_at "go"
          refine i_pick S4.ex S4.bg (by omega) (by omega) fun a l a0 a1 hl => ?_
          have S5 := S4.pick hl
          have h5 := upd_oth (u' := .lst l) ub h4
          generalize upd H4 b (.lst l) = H5 at S5 h5
          walk_at "go"
          refine i_pick S5.ex S5.bg (by decide) (by decide) fun r l r0 r1 hl => ?_
          have S6 := S5.pick hl
          have h6 := upd_oth (u' := .lst l) ub h5
          generalize upd H5 b (.lst l) = H6 at S6 h6
          obtain ⟨c, hc, lc⟩ := letter_at r0 r1
          refine i_ixS letters_len hc ?_
          have E1 : (cutS near none (some a)).cps.toList = near.cps.toList.take a.toNat := cut_to a0
          have E2 : (cutS near (some (a + 1)) none).cps.toList = near.cps.toList.drop (a + 1).toNat := cut_from (by omega)
          have L0 : near.length = near.cps.toList.length := len_L near
          have L1 : (cutS near none (some a)).length = a.toNat := by rw [len_L, E1, List.length_take]; omega
          have L2' : (cutS near (some (a + 1)) none).length = near.length - (a + 1).toNat := by rw [len_L, E2, List.length_drop, L0]
          have L3 : (⟨#[c]⟩ : Str).length = 1 := rfl
          have L4 : (cutS near none (some a) ++ ⟨#[c]⟩).length = a.toNat + 1 := by rw [len_L, app_L, List.length_append, ← len_L, L1]; rfl
          have sl : (6 : Nat) < sizeLine := by decide
          refine i_addT (by rw [L1, L3]; omega) ?_
          walk_at "go"
          refine i_addT (by rw [L4, L2']; omega) ?_
          walk_at "go"
          refine ⟨cutS near none (some a) ++ ⟨#[c]⟩ ++ cutS near (some (a + 1)) none, _, _, _, _, _, _, rfl, S6, h6, ?_, ?_, ?_⟩
          · rw [len_L, app_L, List.length_append, ← len_L, L4]; omega
          · rw [len_L, app_L, List.length_append, ← len_L, ← len_L, L4, L2']; omega
          · refine name_app (name_app ?_ ?_) ?_
            · intro d hd; rw [E1] at hd; exact N2.2.2 d (List.mem_of_mem_take hd)
            · intro d hd; rw [one_L] at hd; simp at hd; subst hd; exact lc
            · intro d hd; rw [E2] at hd; exact N2.2.2 d (List.mem_of_mem_drop hd)
        · walk_at "go"
          exact ⟨told, _, _, _, _, _, _, rfl, S3, h3, T1⟩
      · walk_at "go"
        exact ⟨told, _, _, _, _, _, _, rfl, S, h2, T1⟩
    · obtain ⟨tl, o4, o5, o6, o7, o8, o9, rfl, S, hu2, T2⟩ := h
      refine ⟨fun σ' H' => ∃ (x : Str) (o4 o5 o6 o7 o8 o9 : Option V), σ' = [some (.ref b), some (.ref u), some (.str "abcdefghijklmnopqrstuvwxyz"), some (.str x), o4, o5, o6, o7, o8, o9] ∧ Sb F b (less H u) H' ∧ H' u = some (.lst (us.map V.str)) ∧ NameOk x ∧ x ∉ us, ?_, fun σ' H' h => ?_⟩
      · walk_at "go"
        refine iteD (fun c1 => ?_) (fun c1 => ?_)
        · walk_at "go"
          refine lc_pure (fun k => .str (tailOf k)) (by decide) (fun k => .int (0 + (k : Int))) (fun _ _ => trivial) (fun i H0 v H' hi y => y) (fun i H' Q' hi e q => ?_) (fun p hp => ?_)
          · walk_at "go"
            refine i_ixS letters_len (lt_div i hi) ?_
            walk_at "go"
            refine i_ixS letters_len (lt_mod i hi) ?_
            refine i_addT (by show (2 : Nat) ≤ sizeLine; decide) ?_
            exact q
          have S3 := S.new (o := .lst ((List.range (676 : Int).toNat).map fun k => .str (tailOf k))) hp
          have h3 := upd_old (u' := .lst ((List.range (676 : Int).toNat).map fun k => .str (tailOf k))) hp hu2
          walk_at "go"
          have t6 : (cutS tl none (some 6)).cps.toList = tl.cps.toList.take 6 := cut_to (by decide)
          have t6l : (cutS tl none (some 6)).length ≤ 6 ∧ 1 ≤ (cutS tl none (some 6)).length ∧ ∀ c ∈ (cutS tl none (some 6)).cps.toList, c ∈ letters := by
            have := T2.1
            rw [len_L] at this
            rw [len_L, t6, List.length_take]
            exact ⟨by omega, by omega, fun c hc => T2.2.2 c (List.mem_of_mem_take hc)⟩
          have tlz : tl.length ≤ sizeLine := Nat.le_trans T2.2.1 (by decide)
          have tal : ∀ i, (tailOf i).length = 2 := fun i => by rw [tailOf, len_L, app_L]; rfl
          have sl : (8 : Nat) < sizeLine := by decide
          generalize hc6 : cutS tl none (some 6) = six at t6 t6l
          refine lc_pureIf (fun i => .str (six ++ tailOf i)) (fun i => !decide (six ++ tailOf i ∈ us)) (by simp; decide) (fun i => .str (tailOf i)) (fun H' e => ?_) (fun i H0 v H' hi y => ⟨y.1, ?_⟩) (fun i H' Q' hi e q => ?_) (fun i H' Q' hi ci e q => ?_) (fun p2 hp2 => ?_)
          · exact SqL.of (e _ _ upd_same)
          · have := y.2
            rw [List.length_map, List.length_range] at hi
            rw [List.getElem?_map, List.getElem?_range hi] at this
            exact (Option.some.inj this).symm
          · have e3 := e _ _ h3
            walk_at "go"
            rw [hc6]
            refine i_addT (by rw [tal]; omega) ?_
            walk_at "go"
            exact q
          · walk_at "go"
            rw [hc6]
            refine i_addT (by rw [tal]; omega) ?_
            exact q
          · obtain ⟨k0, hk0, hn0⟩ := cand_free six (us := us) (by omega)
            have hpos : 0 < (((List.range ((List.range (676 : Int).toNat).map fun k => V.str (tailOf k)).length).filter fun i => !decide (six ++ tailOf i ∈ us)).map fun i => V.str (six ++ tailOf i)).length := by
              rw [List.length_map]
              apply List.length_pos_of_mem (a := k0)
              rw [List.mem_filter]
              refine ⟨by simp; exact hk0, by simp [hn0]⟩
            obtain ⟨v, hv, hm⟩ := atI_lt (xs := ((List.range ((List.range (676 : Int).toNat).map fun k => V.str (tailOf k)).length).filter fun i => !decide (six ++ tailOf i ∈ us)).map fun i => V.str (six ++ tailOf i)) (i := 0) (by decide) (by omega)
            obtain ⟨k1, hk1, rfl⟩ := List.mem_map.mp (List.mem_of_getElem? hm)
            rw [List.mem_filter] at hk1
            have hk2 : k1 < 676 := by have := hk1.1; simp at this; exact this
            have hk3 : six ++ tailOf k1 ∉ us := by simpa using hk1.2
            have S4 := S3.new (o := .lst (((List.range ((List.range (676 : Int).toNat).map fun k => V.str (tailOf k)).length).filter fun i => !decide (six ++ tailOf i ∈ us)).map fun i => V.str (six ++ tailOf i))) hp2
            have h4 := upd_old (u' := .lst (((List.range ((List.range (676 : Int).toNat).map fun k => V.str (tailOf k)).length).filter fun i => !decide (six ++ tailOf i ∈ us)).map fun i => V.str (six ++ tailOf i))) hp2 h3
            walk_at "go"
            refine ⟨six ++ tailOf k1, _, _, _, _, _, _, rfl, S4, h4, ⟨?_, ?_, ?_⟩, hk3⟩
            · rw [len_L, app_L, List.length_append, ← len_L, ← len_L, tal]; omega
            · rw [len_L, app_L, List.length_append, ← len_L, ← len_L, tal]; omega
            · exact name_app t6l.2.2 (tail_ls k1 hk2).2
        · walk_at "go"
          exact ⟨tl, _, _, _, _, _, _, rfl, S, hu2, ⟨T2.1, by omega, T2.2.2⟩, c1⟩
      · obtain ⟨x, o4, o5, o6, o7, o8, o9, rfl, S, hu2, N, nin⟩ := h
        have zl : (us.map V.str).length < sizeLine := by rw [List.length_map, sizeLine_eq]; omega
        walk_at "go"
        refine k x _ N nin ?_ (S.mut Fu hu0 ub)
        rw [upd_same, List.map_append]; rfl
end
end Dh
/-! DhMore -/
set_option Elab.async false
set_option linter.all false
set_option maxRecDepth 100000
set_option maxHeartbeats 4000000
namespace Dh
open PySem PySem.Spec L2
open _root_.Evl (Ex)
/-! ### dicts, fields, locks -/
section
variable {σ : L2.St} {H : Hp} {Q : VK} {v : V} {ta tb te tl tk tv : TE} {t u : TS} {K : PySem.W.Frag} {D : Ends} {g : TG} {tt : TT}
theorem upd_lock {d p : Addr} {o u l : HO} (h : H d = some u) (ne : p ≠ d) : upd (upd (upd H d o) p l) d u = upd H p l := by
  funext a
  unfold upd
  by_cases q : a = d
  · subst q
    rw [if_pos rfl, if_neg (fun z => ne z.symm), h]
  · rw [if_neg q]
    by_cases q2 : a = p
    · rw [if_pos q2, if_pos q2]
    · rw [if_neg q2, if_neg q2, if_neg q]
theorem i_lock {d : Addr} {u : HO} {t : TE} (h : H d = some u) (m : Mut (some u)) (k : ∀ od, t σ (upd H d (.frz od u)) fun v H' => H' d = some (.frz od u) ∧ Q v (upd H' d u)) : tLockE t σ H Q := ⟨d, u, h, m, k⟩
theorem i_dnew (k : ∀ p, H p = none → Q (.ref p) (upd H p (.dK []))) : tDNewK σ H Q := k
theorem i_dput (k : tv σ H fun v H1 => ta σ H1 fun x H2 => tk σ H2 fun y H3 => ∃ a H4, x = .ref a ∧ DPut H3 a y v H4 ∧ D.nx σ H4) : sDPut ta tk tv D σ H := k
theorem i_dputI {p : Addr} {kvs : List (Key × V)} {n : Int} {r : Hp → Prop} (h : H p = some (.dK kvs)) (l : kvs.length < sizeLine) (k : r (upd H p (.dK (putK kvs (Sum.inl n) v)))) : ∃ a H4, V.ref p = .ref a ∧ DPut H a (.int n) v H4 ∧ r H4 := ⟨p, _, rfl, DPut.k (k := Sum.inl n) h l, k⟩
theorem i_dget (k : ta σ H fun x H1 => tk σ H1 fun y H2 => ∃ a v, x = .ref a ∧ DGet H2 a y (some v) ∧ Q v H2) : tDGet ta tk σ H Q := k
theorem i_dgetI {p : Addr} {kvs : List (Key × V)} {n : Int} {w : V} {r : V → Prop} (h : H p = some (.dK kvs)) (e : valV kvs (Sum.inl n) = some w) (k : r w) : ∃ a v, V.ref p = .ref a ∧ DGet H a (.int n) (some v) ∧ r v := ⟨p, w, rfl, by rw [← e]; exact DGet.k (k := Sum.inl n) h, k⟩
theorem i_dnotin (k : tk σ H fun y H1 => ta σ H1 fun x H2 => ∃ a o, x = .ref a ∧ DGet H2 a y o ∧ Q (.bl (!o.isSome)) H2) : tDNotIn tk ta σ H Q := k
theorem i_din (k : tk σ H fun y H1 => ta σ H1 fun x H2 => ∃ a o, x = .ref a ∧ DGet H2 a y o ∧ Q (.bl o.isSome) H2) : tDIn tk ta σ H Q := k
theorem i_dnotinI {p : Addr} {kvs : List (Key × V)} {n : Int} {r : Option V → Prop} (h : H p = some (.dK kvs)) (k : r (valV kvs (Sum.inl n))) : ∃ a o, V.ref p = .ref a ∧ DGet H a (.int n) o ∧ r o := ⟨p, _, rfl, DGet.k (k := Sum.inl n) h, k⟩
theorem putK_le {kvs : List (Key × V)} {k : Key} {x : V} : (putK kvs k x).length ≤ kvs.length + 1 := by
  unfold putK
  split <;> simp
theorem i_dsetd {tx : TE} (k : ta σ H fun x H1 => ∃ a, x = .ref a ∧ IsD H1 a ∧ tk σ H1 fun y H2 => tx σ H2 fun z H3 => ∃ (kvs : List (Key × V)) (k : Key), H3 a = some (.dK kvs) ∧ y = kV k ∧ kvs.length < sizeLine ∧ (∀ v, valV kvs k = some v → Q v H3) ∧ (valV kvs k = none → Q z (upd H3 a (.dK (putK kvs k z))))) : tDSetd ta tk tx σ H Q := k
theorem i_isd {p : Addr} {kvs : List (Key × V)} {r : Addr → Prop} (h : H p = some (.dK kvs)) (k : r p) : ∃ a, V.ref p = .ref a ∧ IsD H a ∧ r a := ⟨p, rfl, .inl ⟨kvs, Rd.of h⟩, k⟩
theorem i_fld {f : Str} (k : ta σ H fun x H1 => ∃ a C dx fs v, x = .ref a ∧ H1 a = some (.ins C dx fs) ∧ Cls K C ∧ NoAttr K C f ∧ fs.lookup f = some v ∧ Q v H1) : tFld K ta f σ H Q := k
theorem i_fldV {a C dx : Addr} {fs : List (Str × V)} {f : Str} (h : H a = some (.ins C dx fs)) (c : Cls K C) (n : NoAttr K C f) (l : fs.lookup f = some v) (k : Q v H) : ∃ a' C dx fs v, V.ref a = .ref a' ∧ H a' = some (.ins C dx fs) ∧ Cls K C ∧ NoAttr K C f ∧ fs.lookup f = some v ∧ Q v H := ⟨a, C, dx, fs, v, rfl, h, c, n, l, k⟩
theorem i_sfld {f : Str} (k : tv σ H fun y H1 => ta σ H1 fun x H2 => ∃ a C dx fs, x = .ref a ∧ H2 a = some (.ins C dx fs) ∧ Cls K C ∧ NoAttr K C f ∧ fs.length < 1000 ∧ D.nx σ (upd H2 a (.ins C dx (putF f y fs)))) : sFld K ta tv f D σ H := k
theorem i_sfldV {a C dx : Addr} {fs : List (Str × V)} {f : Str} {r : Hp → Prop} (h : H a = some (.ins C dx fs)) (c : Cls K C) (n : NoAttr K C f) (l : fs.length < 1000) (k : r (upd H a (.ins C dx (putF f v fs)))) : ∃ a' C dx fs, V.ref a = .ref a' ∧ H a' = some (.ins C dx fs) ∧ Cls K C ∧ NoAttr K C f ∧ fs.length < 1000 ∧ r (upd H a' (.ins C dx (putF f v fs))) := ⟨a, C, dx, fs, rfl, h, c, n, l, k⟩
/-! a dict comprehension -/
def RawD (J : It) (g : TG) (tt : TT) (tk tv : TE) (vs : List Nat) (σ : L2.St) (H1 : Hp) (Q : VK) : Prop := ∀ D, H1 D = none → ∃ W : Nat → Nat → Hp → Prop, (∃ m, W 0 m (upd H1 D (.dK []))) ∧ ∀ i m H, W i m H →
  (J.stop i H ∧ Q (.ref D) H) ∨ (J.go i H ∧ ∃ Nx : Hp → Prop, (∀ H', Nx H' → ∃ m', m' < m ∧ W (i + 1) m' H') ∧ ∀ x H', J.yld i H x H' → g x (wipe σ vs) H' fun σ2 H2 => wipe σ2 vs = wipe σ vs ∧ tt σ2 H2 fun b H3 =>
    if b = true then tk σ2 H3 fun y H4 => tv σ2 H4 fun z H5 => ∃ kvs k, y = kV k ∧ H5 D = some (.dK kvs) ∧ kvs.length < sizeLine ∧ Nx (upd H5 D (.dK (putK kvs k z))) else Nx H3)
theorem i_dcT {vs : List Nat} (k : tl σ H (AtT K (RawD · g tt tk tv vs σ · Q))) : tDc (iTup K tl) g tt tk tv vs σ H Q := k
theorem i_dcL {vs : List Nat} (k : tl σ H (AtL K (RawD · g tt tk tv vs σ · Q))) : tDc (iList K tl) g tt tk tv vs σ H Q := k
theorem valV_none_of {kvs : List (Key × V)} {k : Key} (h : ∀ p ∈ kvs, p.1 ≠ k) : valV kvs k = none := by
  induction kvs with
  | nil => rfl
  | cons a r ih =>
    rw [valV_neg (h a List.mem_cons_self)]
    exact ih fun p hp => h p (List.mem_cons_of_mem _ hp)
theorem dc_pure {J : It} {n j : Nat} {G : Hp → Prop} {Y : Nat → Hp → V → Hp → Prop} (w : Walk J n G Y) (kf : Nat → Key) (vf : Nat → V) (hn : n < sizeLine) (x : Nat → V) (hd : ∀ a b, a < b → b < n → kf a ≠ kf b) (hG : ∀ H', Ex H H' → G H') (hY : ∀ i H0 v H', i < n → Y i H0 v H' → H' = H0 ∧ v = x i)
    (hk : ∀ i H' (Q' : VK), i < n → Ex H H' → Q' (kV (kf i)) H' → tk ((σ.set j none).set j (some (x i))) H' Q')
    (hv : ∀ i H' (Q' : VK), i < n → Ex H H' → Q' (vf i) H' → tv ((σ.set j none).set j (some (x i))) H' Q')
    (k : ∀ p, H p = none → Q (.ref p) (upd H p (.dK ((List.range n).map fun i => (kf i, vf i))))) : RawD J (gName j) tYes tk tv [j] σ H Q := by
  intro Dl hD
  refine ⟨fun i m H' => m = n - i ∧ i ≤ n ∧ H' = upd H Dl (.dK ((List.range i).map fun i => (kf i, vf i))), ⟨n, by simp, Nat.zero_le _, rfl⟩, fun i m H' ⟨hm, hi, e⟩ => ?_⟩
  subst e
  by_cases hlt : i < n
  · refine .inr ⟨w.goes i _ hlt (hG _ (Ex.new hD)), fun H2 => H2 = upd H Dl (.dK ((List.range (i + 1)).map fun i => (kf i, vf i))), fun H2 e => ⟨n - (i + 1), by omega, rfl, by omega, e⟩, fun v H2 y => ?_⟩
    obtain ⟨rfl, rfl⟩ := hY _ _ _ _ hlt (w.yields i _ v H2 hlt (hG _ (Ex.new hD)) y)
    refine ⟨wipe_set _ _ _, ?_⟩
    dsimp only [tYes]
    refine iteT (hk i _ _ hlt (Ex.new hD) (hv i _ _ hlt (Ex.new hD) ⟨_, kf i, rfl, upd_same, by simp; omega, ?_⟩))
    show _ = _
    rw [upd_upd, putK_new _ (valV_none_of ?_), List.range_succ, List.map_append]; rfl
    intro p hp
    obtain ⟨a, ha, rfl⟩ := List.mem_map.mp hp
    exact hd a i (List.mem_range.mp ha) hlt
  · have e : i = n := by omega
    subst e
    exact .inl ⟨w.stops _ (hG _ (Ex.new hD)), k Dl hD⟩
theorem fd_T {p : Addr} {xs : List V} {vs : List Nat} (h : SqT K H p xs) (k : RawD (Itt K p) g tt tk tv vs σ H Q) : AtT K (RawD · g tt tk tv vs σ · Q) (.ref p) H := ⟨p, rfl, ⟨xs, h⟩, k⟩
end
/-! ### lists by pairs -/
theorem paired_map {α β : Type} {R : α → β → Prop} {g : β → α} : ∀ {es : List β}, (∀ e ∈ es, R (g e) e) → Paired R (es.map g) es
  | [], _ => .nil
  | e :: r, h => .cons (h e List.mem_cons_self) (paired_map fun x hx => h x (List.mem_cons_of_mem _ hx))
theorem paired_get {α β : Type} {R : α → β → Prop} : ∀ {xs : List α} {ys : List β} {i : Nat} {x : α}, Paired R xs ys → xs[i]? = some x → ∃ y, ys[i]? = some y ∧ R x y
  | _, _, _, _, .nil, e => by simp at e
  | _, _, 0, _, .cons r _, e => by simp at e; subst e; exact ⟨_, rfl, r⟩
  | _, _, i + 1, x, .cons _ t, e => by
    obtain ⟨u, h1, h2⟩ := paired_get (i := i) (x := x) t (by simpa using e)
    exact ⟨u, by simpa using h1, h2⟩
theorem paired_app {α β : Type} {R : α → β → Prop} : ∀ {xs xs' : List α} {ys ys' : List β}, Paired R xs ys → Paired R xs' ys' → Paired R (xs ++ xs') (ys ++ ys')
  | _, _, _, _, .nil, h => h
  | _, _, _, _, .cons r t, h => .cons r (paired_app t h)
theorem paired_rev {α β : Type} {R : α → β → Prop} : ∀ {xs : List α} {ys : List β}, Paired R xs ys → Paired R xs.reverse ys.reverse
  | _, _, .nil => .nil
  | _, _, .cons r t => by rw [List.reverse_cons, List.reverse_cons]; exact paired_app (paired_rev t) (.cons r .nil)
theorem paired_perm {α β : Type} {R : α → β → Prop} : ∀ {xs xs' : List α}, xs'.Perm xs → ∀ {ys : List β}, Paired R xs ys → ∃ ys', Paired R xs' ys' ∧ ys'.Perm ys := by
  intro xs xs' p
  induction p with
  | nil => intro ys h; cases h; exact ⟨[], .nil, .refl _⟩
  | cons x _ ih =>
    intro ys h
    cases h with
    | cons r t =>
      obtain ⟨ys', h1, h2⟩ := ih t
      exact ⟨_ :: ys', .cons r h1, h2.cons _⟩
  | swap x y l =>
    intro ys h
    cases h with
    | cons r t =>
      cases t with
      | cons r' t => exact ⟨_, .cons r' (.cons r t), .swap _ _ _⟩
  | trans _ _ ih1 ih2 =>
    intro ys h
    obtain ⟨y1, h1, p1⟩ := ih2 h
    obtain ⟨y2, h2, p2⟩ := ih1 h1
    exact ⟨y2, h2, p2.trans p1⟩
theorem perm_lift {α β : Type} {f : β → α} : ∀ {a b : List α}, a.Perm b → ∀ {es : List β}, b = es.map f → ∃ es' : List β, es'.Perm es ∧ a = es'.map f := by
  intro a b p
  induction p with
  | nil => intro es h; exact ⟨es, .refl _, h⟩
  | cons x _ ih =>
    intro es h
    cases es with
    | nil => simp at h
    | cons e r =>
      rw [List.map_cons] at h
      injection h with h1 h2
      obtain ⟨es', q1, q2⟩ := ih h2
      exact ⟨e :: es', q1.cons _, by rw [List.map_cons, h1, q2]⟩
  | swap x y l =>
    intro es h
    cases es with
    | nil => simp at h
    | cons e r =>
      cases r with
      | nil => simp at h
      | cons e2 r =>
        rw [List.map_cons, List.map_cons] at h
        injection h with h1 h2
        injection h2 with h2 h3
        exact ⟨e2 :: e :: r, .swap _ _ _, by rw [List.map_cons, List.map_cons, h1, h2, h3]⟩
  | trans _ _ ih1 ih2 =>
    intro es h
    obtain ⟨e1, p1, q1⟩ := ih2 h
    obtain ⟨e2, p2, q2⟩ := ih1 q1
    exact ⟨e2, p2.trans p1, q2⟩
theorem paired_mem {α β : Type} {R : α → β → Prop} : ∀ {xs : List α} {ys : List β} {x : α}, Paired R xs ys → x ∈ xs → ∃ y ∈ ys, R x y
  | _, _, _, .nil, h => by simp at h
  | _, _, _, .cons r t, h => by
    rcases List.mem_cons.mp h with rfl | h
    · exact ⟨_, List.mem_cons_self, r⟩
    · obtain ⟨y, hy, q⟩ := paired_mem t h
      exact ⟨y, List.mem_cons_of_mem _ hy, q⟩
/-- two strictly ascending lists with the same members are one -/
theorem asc_perm : ∀ {a b : List Int}, a.Pairwise (· < ·) → b.Pairwise (· < ·) → a.Perm b → a = b
  | [], b, _, _, p => by rw [p.symm.eq_nil]
  | x :: a, [], _, _, p => by simp at p
  | x :: a, y :: b, ha, hb, p => by
    have hx : x ∈ y :: b := p.subset List.mem_cons_self
    have hy : y ∈ x :: a := p.symm.subset List.mem_cons_self
    have ha' := List.pairwise_cons.mp ha
    have hb' := List.pairwise_cons.mp hb
    have e : x = y := by
      rcases List.mem_cons.mp hx with h | h
      · exact h
      · rcases List.mem_cons.mp hy with h2 | h2
        · exact h2.symm
        · have := hb'.1 x h; have := ha'.1 y h2; omega
    subst e
    rw [asc_perm ha'.2 hb'.2 (List.Perm.cons_inv p)]
end Dh
/-! K08F -/
set_option Elab.async false
set_option linter.all false
set_option maxRecDepth 100000
set_option maxHeartbeats 4000000
namespace Dh
open PySem PySem.Spec L2
open _root_.Evl (Ex)
local macro_rules | `(tactic| walk_at "ex") => `(tactic| first | assumption | ((with_reducible apply ex_mut); (focus assumption); walk_at "ex") | ((with_reducible apply ex_both); walk_at "ex") | ((with_reducible apply ex_new); (focus assumption); walk_at "ex"))
local macro_rules | `(tactic| walk_at "hp") => `(tactic| first | assumption | with_reducible exact upd_same | ((with_reducible apply upd_old); (focus assumption); walk_at "hp") | ((with_reducible apply upd_oth); (focus walk_at "neq"); walk_at "hp") | ((with_reducible apply ex_by); (focus assumption); walk_at "ex") | ((with_reducible apply ex_at); (focus assumption); walk_at "hp"))
local macro_rules | `(tactic| walk_at "neq") => `(tactic| first | assumption | (apply Ne.symm; assumption))
local macro_rules | `(tactic| walk_at "sq") => `(tactic| first | assumption | ((with_reducible apply SqL.of); walk_at "hp") | ((with_reducible apply SqT.of); walk_at "hp"))
local macro_rules | `(tactic| walk_at "side") => `(tactic| first | assumption | decide | exact cm_fmod (by decide) (by decide) | (show _ ≠ (0 : Int); decide) | (show _ ≠ (0 : Int); omega) | exact Or.inr ⟨by decide, by decide⟩ | exact Or.inl ⟨by decide, by decide⟩ | (show CDivN _ _; exact ⟨by decide, by decide⟩) | (show CDivN _ _; exact ⟨by omega, by omega⟩) | exact Or.inl ⟨by omega, by omega⟩ | exact Or.inr ⟨by omega, by omega⟩ | exact ⟨by decide, by decide, by decide⟩)
local macro_rules | `(tactic| walk_at "ix") => `(tactic| first | exact rfl | assumption | exact atI_nat (by assumption))
local macro_rules | `(tactic| walk_at "step0") => `(tactic| first
  | with_reducible refine i_seq ?_
  | with_reducible refine i_asg ?_
  | with_reducible refine i_op ?_
  | ((with_reducible refine' i_var ?hv ?_); (case hv => exact rfl))
  | with_reducible refine i_c ?_
  | with_reducible refine i_cons ?_
  | with_reducible refine i_nil ?_
  | with_reducible refine i_cb ?_
  | with_reducible refine i_call ?_
  | with_reducible refine i_call' ?_
  | with_reducible refine i_un ?_
  | with_reducible refine i_I0 ?_
  | ((with_reducible refine i_I ?hv ?_); (case hv => walk_at "side"))
  | with_reducible refine i_eqI ?_
  | with_reducible refine i_neI ?_
  | with_reducible refine i_eqS ?_
  | with_reducible refine i_neS ?_
  | ((with_reducible refine i_eq ?hv ?_); (case hv => exact rfl))
  | ((with_reducible refine i_ne ?hv ?_); (case hv => exact rfl))
  | with_reducible refine i_int1 ?_
  | with_reducible refine i_abs ?_
  | ((with_reducible refine' i_ixL ?hv ?hw ?_); (case hv => walk_at "sq"); (case hw => walk_at "ix"))
  | ((with_reducible refine' i_ixT ?hv ?hw ?_); (case hv => walk_at "sq"); (case hw => walk_at "ix"))
  | ((with_reducible refine' i_lenL ?hv ?_); (case hv => walk_at "sq"))
  | ((with_reducible refine' i_lenT ?hv ?_); (case hv => walk_at "sq"))
  | with_reducible refine i_addIB ?_
  | with_reducible refine i_mulIB ?_
  | ((with_reducible refine i_lenS ?hv ?_); (case hv => walk_at "side"))
  | with_reducible refine i_tup ?_
  | with_reducible refine i_lst ?_
  | with_reducible refine i_asgG ?_
  | with_reducible refine i_gname ?_
  | with_reducible refine i_gsub ?_
  | ((with_reducible refine' i_setL ?hv ?hw ?_); (case hv => walk_at "hp"); (case hw => exact rfl))
  | with_reducible refine i_ret ?_
  | with_reducible refine i_drop ?_
  | with_reducible refine i_next ?_
  | with_reducible refine i_test ?_
  | with_reducible refine i_B ?_
  | with_reducible refine i_bl ?_
  | with_reducible refine i_not ?_
  | with_reducible refine i_and ?_
  | with_reducible refine i_or ?_
  | ((with_reducible refine' i_app ?hv ?hw ?_); (case hv => walk_at "hp"); (case hw => walk_at "side"))
  | with_reducible refine iteT ?_
  | with_reducible refine iteF ?_
  | with_reducible refine iteNT ?_
  | with_reducible refine iteNF ?_
  | ((with_reducible refine iteT' ?hv ?_); (case hv => first | exact decide_eq_true (by assumption) | exact notF (by assumption) | exact decide_eq_true rfl | exact notF (by decide) | exact decide_eq_true (by decide) | exact decide_eq_true (by simp only [List.length_cons, List.length_nil]; decide)))
  | ((with_reducible refine iteF' ?hv ?_); (case hv => first | exact decide_eq_false (by assumption) | exact notT (by assumption) | exact notT rfl | exact decide_eq_false (by decide) | exact decide_eq_false (by simp only [List.length_cons, List.length_nil]; decide)))
  | with_reducible refine i_forL ?_
  | with_reducible refine i_forT ?_
  | with_reducible refine i_forR ?_
  | with_reducible refine i_forR2 ?_
  | with_reducible refine i_forE ?_
  | with_reducible refine i_forV ?_
  | with_reducible refine i_forS ?_
  | with_reducible refine i_forK ?_
  | with_reducible refine i_lcL ?_
  | with_reducible refine i_lcT ?_
  | with_reducible refine i_lcR ?_
  | with_reducible refine i_lcR2 ?_
  | with_reducible refine i_lcS ?_
  | with_reducible refine i_lcK ?_
  | ((with_reducible refine' fl_L ?hv ?_); (case hv => walk_at "sq"))
  | ((with_reducible refine' fl_T ?hv ?_); (case hv => walk_at "sq"))
  | ((with_reducible refine fl_R ?hv ?hw ?_); (case hv => (first | decide | omega)); (case hw => (first | decide | omega)))
  | ((with_reducible refine fl_R2 ?hv ?_); (case hv => (first | decide | (refine ⟨?_, ?_, ?_, ?_⟩ <;> omega))))
  | ((with_reducible refine' fl_E ?hv ?_); (case hv => walk_at "sq"))
  | ((with_reducible refine' fl_V ?hv ?_); (case hv => walk_at "sq"))
  | with_reducible refine fl_S ?_
  | ((with_reducible refine' fc_L ?hv ?_); (case hv => walk_at "sq"))
  | ((with_reducible refine' fc_T ?hv ?_); (case hv => walk_at "sq"))
  | ((with_reducible refine fc_R ?hv ?hw ?_); (case hv => (first | decide | omega)); (case hw => (first | decide | omega)))
  | with_reducible refine fc_S ?_
  | with_reducible refine i_sl ?_
  | with_reducible refine i_nopart ?_
  | with_reducible refine i_part ?_
  | with_reducible refine i_isint ?_
  | ((with_reducible refine' i_slL ?hv ?_); (case hv => walk_at "sq"))
  | ((with_reducible refine i_slS ?hv ?_); (case hv => walk_at "side"))
  | ((with_reducible refine' i_gtup ?hv ?hw ?_); (case hv => walk_at "sq"); (case hw => exact rfl))
  | with_reducible refine i_gcons ?_
  | with_reducible refine i_gnil ?_
  | ((with_reducible refine' i_listL ?hv ?_); (case hv => walk_at "sq"))
  | ((with_reducible refine' i_listT ?hv ?_); (case hv => walk_at "sq"))
  | ((with_reducible refine' i_tupL ?hv ?_); (case hv => walk_at "sq"))
  | ((with_reducible refine' i_lenD ?hv ?_); (case hv => walk_at "hp"))
  | ((with_reducible refine' i_ty ?hv ?_); (case hv => walk_at "hp"))
  | ((with_reducible refine And.intro ?hv ?_); (case hv => first | exact (by decide : (0 : Nat) ≤ sizeLine) | exact (by decide : (1 : Nat) ≤ sizeLine) | exact (by decide : (2 : Nat) ≤ sizeLine) | exact (by decide : (3 : Nat) ≤ sizeLine) | exact (by decide : (4 : Nat) ≤ sizeLine) | exact (by decide : (5 : Nat) ≤ sizeLine) | exact (by decide : (6 : Nat) ≤ sizeLine)))
  | with_reducible refine i_inC ?_
  | ((with_reducible refine i_addT ?hv ?_); (case hv => walk_at "side"))
  | with_reducible refine i_m1 ?_
  | with_reducible refine i_isstr ?_
  | with_reducible refine is_int_int ?_
  | with_reducible refine is_int_bool ?_
  | with_reducible refine is_str_str ?_
  | ((with_reducible refine' is_tup_tup ?hv ?_); (case hv => walk_at "hp"))
  | with_reducible refine i_ifExp ?_
  | with_reducible refine i_andV ?_
  | with_reducible refine i_orV ?_
  | with_reducible refine i_notV ?_
  | with_reducible refine i_chain ?_
  | ((with_reducible refine' i_inS ?hv ?_); (case hv => walk_at "sq"))
  | ((with_reducible refine' i_niS ?hv ?_); (case hv => walk_at "sq"))
  | ((with_reducible refine' i_inI ?hv ?_); (case hv => walk_at "sq"))
  | ((with_reducible refine' i_niI ?hv ?_); (case hv => walk_at "sq"))
  | with_reducible refine i_dnew ?_
  | with_reducible refine i_dput ?_
  | ((with_reducible refine' i_dputI ?hv ?hw ?_); (case hv => walk_at "hp"); (case hw => walk_at "side"))
  | with_reducible refine i_dget ?_
  | ((with_reducible refine' i_dgetI ?hv ?hw ?_); (case hv => walk_at "hp"); (case hw => assumption))
  | with_reducible refine i_dnotin ?_
  | with_reducible refine i_din ?_
  | ((with_reducible refine' i_dnotinI ?hv ?_); (case hv => walk_at "hp"))
  | with_reducible refine i_dsetd ?_
  | ((with_reducible refine' i_isd ?hv ?_); (case hv => walk_at "hp"))
  | with_reducible refine i_fld ?_
  | with_reducible refine i_sfld ?_
  | with_reducible refine i_dcT ?_
  | with_reducible refine i_dcL ?_
  | with_reducible refine i_truT ?_
  | ((with_reducible refine' i_truL ?hv ?_); (case hv => walk_at "sq"))
  | with_reducible refine i_revL ?_
  | ((with_reducible refine' i_atLx ?hv ?_); (case hv => walk_at "sq"))
  | with_reducible refine i_bm ?_
  | with_reducible refine i_bm0 ?_)
local macro_rules | `(tactic| walk_at "step") => `(tactic| first | walk_at "step0" | with_reducible refine i_ifS ?_)
local macro_rules | `(tactic| walk_at "goj") => `(tactic| repeat (first | walk_at "step0" | with_reducible refine i_ifS (c := tTest _) ?_ | with_reducible refine i_ifS (c := tB _) ?_))
local macro_rules | `(tactic| walk_at "tj") => `(tactic| (intro q hq; repeat (first | exact hq | walk_at "step" | (refine and_q hq (fun h => ?_); clear hq; rename_i hq) | (refine or_q hq (fun h => ?_); clear hq; rename_i hq))))
local macro_rules | `(tactic| walk_at "go") => `(tactic| repeat walk_at "step")

def kvOf (es : List En) (vs : List V) : List (Key × V) := (es.zip vs).map fun p => ((Sum.inl p.1.num : Key), p.2)
theorem kvOf_snoc {es : List En} {vs : List V} {e : En} {v : V} (h : es.length = vs.length) : kvOf (es ++ [e]) (vs ++ [v]) = kvOf es vs ++ [(Sum.inl e.num, v)] := by
  unfold kvOf
  rw [List.zip_append h, List.map_append]; rfl
theorem kvOf_len {es : List En} {vs : List V} (h : es.length = vs.length) : (kvOf es vs).length = es.length := by
  unfold kvOf; simp [h]
theorem kvOf_none {n : Int} : ∀ {es : List En} {vs : List V}, n ∉ es.map En.num → valV (kvOf es vs) (Sum.inl n : Key) = none
  | [], _, _ => rfl
  | _ :: _, [], _ => rfl
  | e :: es, v :: vs, h => by
    simp at h
    show valV ((Sum.inl e.num, v) :: kvOf es vs) (Sum.inl n) = none
    rw [valV_neg (by intro q; exact h.1 (Sum.inl.inj q).symm)]
    exact kvOf_none (by simp; exact h.2)
theorem kvOf_get {F : Hp} : ∀ {es : List En} {vs : List V}, EsAt F vs es → (es.map En.num).Nodup → ∀ e ∈ es, ∃ v ∈ vs, valV (kvOf es vs) (Sum.inl e.num : Key) = some v ∧ EnAt F v e
  | _, _, .nil, _, _, h => by simp at h
  | e0 :: es, v0 :: vs, .cons r t, nd, e, h => by
    rw [List.map_cons] at nd
    have nd' := List.nodup_cons.mp nd
    rcases List.mem_cons.mp h with rfl | h
    · exact ⟨v0, List.mem_cons_self, valV_pos rfl, r⟩
    · obtain ⟨v, hv, q, a⟩ := kvOf_get t nd'.2 e h
      refine ⟨v, List.mem_cons_of_mem _ hv, ?_, a⟩
      show valV ((Sum.inl e0.num, v0) :: kvOf es vs) (Sum.inl e.num) = some v
      rw [valV_neg ?_]
      · exact q
      · intro z
        exact nd'.1 ((Sum.inl.inj z) ▸ List.mem_map_of_mem h)
theorem paired_take {α β : Type} {R : α → β → Prop} : ∀ {xs : List α} {ys : List β} (n : Nat), Paired R xs ys → Paired R (xs.take n) (ys.take n)
  | _, _, 0, _ => .nil
  | _, _, _ + 1, .nil => .nil
  | _, _, n + 1, .cons r t => .cons r (paired_take n t)
/-- an entry as data -/
def En.dat : En → PyData
  | .sg n d x => .tuple [.int n, .str "sign", .int d, .str x]
  | .rl n d x => .tuple [.int n, .str "rule", .int d, .str x]
  | .vd n o => .tuple [.int n, .str "void", .int o]
theorem en_dp {K : PySem.W.Frag} {H : Hp} {a : Addr} {e : En} (h : SqT K H a e.vs) : Dp K H (.ref a) e.dat := by
  cases e with
  | sg n d x => exact .tup h (.cons (.int _) (.cons (.str _) (.cons (.int _) (.cons (.str _) .nil))))
  | rl n d x => exact .tup h (.cons (.int _) (.cons (.str _) (.cons (.int _) (.cons (.str _) .nil))))
  | vd n o => exact .tup h (.cons (.int _) (.cons (.str _) (.cons (.int _) .nil)))
theorem name_ok {x : Str} (h : NameOk x) : PyData.strOk x = true := by
  have l : ∀ c ∈ letters, c < 0x110000 := by decide +kernel
  unfold PyData.strOk
  rw [Array.all_eq_true]
  intro i hi
  exact decide_eq_true (l _ (h.ls _ (by simp)))
theorem en_shape {e : En} (o : e.Ok) : SeqAt.shaped e.dat = true := by
  have s1 : PyData.strOk "sign" = true := by decide +kernel
  have s2 : PyData.strOk "rule" = true := by decide +kernel
  have s3 : PyData.strOk "void" = true := by decide +kernel
  cases e with
  | sg n d x => simp [SeqAt.shaped, En.dat, PyData.canLay0, PyData.canLayAll0, s1, name_ok o.2.2.2.2, PyData.depth, PyData.depthAll]
  | rl n d x => simp [SeqAt.shaped, En.dat, PyData.canLay0, PyData.canLayAll0, s2, name_ok o.2.2.2.2, PyData.depth, PyData.depthAll]
  | vd n o => simp [SeqAt.shaped, En.dat, PyData.canLay0, PyData.canLayAll0, s3, PyData.depth, PyData.depthAll]
theorem en_eqv (e : En) : PyData.eqv e.dat e.dat = true := by cases e <;> simp [En.dat, PyData.eqv, PyData.eqvAll]
section
variable {P : Program} {w : World} {K : PySem.W.Frag} {mg : Str → Option Value} {base : Heap} {A : Ad}
theorem ne_self {e : En} {H : Hp} {Q : VK} {a : Addr} (o : e.Ok) (h : SqT K H a e.vs) (k : Q (.bl false) H) : rNeD K (.ref a) (.ref a) H Q :=
  ⟨_, _, en_dp h, en_dp h, en_shape o, en_shape o, by rw [en_eqv e]; exact k⟩
theorem asc_of {ns : List Int} (h : ns.Pairwise (· ≤ ·)) (nd : ns.Nodup) : Asc ns := by
  induction ns with
  | nil => exact .nil
  | cons a r ih =>
    have h' := List.pairwise_cons.mp h
    have n' := List.nodup_cons.mp nd
    refine List.pairwise_cons.mpr ⟨fun b hb => ?_, ih h'.2 n'.2⟩
    have := h'.1 b hb
    have : a ≠ b := fun e => n'.1 (e ▸ hb)
    omega
theorem en_at0 (e : En) : atI e.vs 0 = some (.int e.num) := by cases e <;> rfl
def spJoined (K : PySem.W.Frag) : Sp := fun vs H Q _ => ∃ (t : Addr) (ts : List V) (es : List En) (F : Hp), vs = [.ref t] ∧ (SqL K H t ts ∨ SqT K H t ts) ∧ Ex F H ∧ EsAt F ts es ∧ (∀ e ∈ es, e.Ok) ∧ (es.map En.num).Nodup ∧ es.length < 64 ∧
  ∀ (r : Addr) (ts' : List V) (es' : List En) (H' : Hp), Ex H H' → H r = none → H' r = some (.tup ts') → EsAt F ts' es' → es'.Perm es → Asc (es'.map En.num) → Q (.ref r) H'
theorem ok_joined (T : Txt K mg A) : FnOk P w K mg base CX0 4 A.f_joined A.d_joined ["entries"] (spJoined K) := by
  refine T.F_joined.ok sc_joined (fun vs H Q E h => ?_) (fun cdv Ar outer s H vs Q E hr h => ?_)
  · obtain ⟨t, ts, es, F, rfl, _⟩ := h; rfl
  · obtain ⟨t, ts, es, F, rfl, hs, x, EA, O, nd, l64, k⟩ := h
    have el := EA.length
    rcases hs with hs | hs
    refine ⟨_, (pss_cons (ps_for PassesOwn.never rfl (pi_list (pv 0)) (pg_name (i := 1) sc_joined.nd rfl (Or.inl rfl))
   (pss_one (ps_if (pt_not (pt_val (pe_call (ok_is_entry T) (hr.mono (by decide)) rfl T.g_is_entry T.F_is_entry.kp T.bi_is_entry .nil pass0 (pa_cons (pv 1) pa_nil)))) (pss_one ps_never) pss_nil)))
  (pss_cons (ps_set (i := 2) sc_joined.nd rfl (Or.inr rfl) pe_dnewK)
  (pss_cons (ps_set (i := 3) sc_joined.nd rfl (Or.inl rfl) (pe_lst pa_nil))
  (pss_cons (ps_for PassesOwn.never rfl (pi_list (pv 0)) (pg_name (i := 1) sc_joined.nd rfl (Or.inl rfl))
   (pss_one (ps_if (pt_cmpR (op_neD hr.units) (pe_dsetd (pv 2) (pe_ix ix_tup (pv 1) pe_int (fun _ _ => rfl)) (pv 1) ⟨by rfl, by rfl, by rfl, by rfl⟩) (pv 1) (nomark _)) (pss_one (ps_expr (pe_bm PySem.F.plainAttrs_list PySem.F.slot_list_append PySem.F.type_list_append mt_append (pv 3) (pa_cons (pe_ix ix_tup (pv 1) pe_int (fun _ _ => rfl)) pa_nil)))) pss_nil)))
  (pss_cons (ps_if (pt_cmpR op_gt (pe_callB cl_len (by rfl) T.b_len (by decide +kernel) (pa_cons (pv 3) pa_nil)) pe_int (nomark _)) (pss_one ps_never) pss_nil)
  (pss_one (ps_ret (pe_callTy cl_tuple (by rfl) T.b_tuple (by decide +kernel) (pa_cons (pe_lc (own := [("number", 4)]) (g := gName 4) (tt := tYes) rfl sc_joined.nd (pi_list (pe_callB cr_sorted (by rfl) T.b_sorted (by decide +kernel) (pa_cons (pe_lock (pe_lc (own := [("number", 4)]) (g := gName 4) (tt := tYes) rfl sc_joined.nd (pi_keys (pv 2)) (blkOk_by (N := ["entries", "entry", "table", "clashing", "number"]) (sc := defScope s_joined) (by decide +kernel)) (fun _ _ _ _ _ => (pg_name (i := 4) sc_joined.nd rfl (Or.inl rfl))) (fun _ _ _ _ _ => pts_nil) (fun _ _ _ _ _ => (pe_callTy cl_int (by rfl) T.b_int (by decide +kernel) (pa_cons (pv 4) pa_nil))))) pa_nil))) (blkOk_by (N := ["entries", "entry", "table", "clashing", "number"]) (sc := defScope s_joined) (by decide +kernel)) (fun _ _ _ _ _ => (pg_name (i := 4) sc_joined.nd rfl (Or.inl rfl))) (fun _ _ _ _ _ => pts_nil) (fun _ _ _ _ _ => (pe_dget (hu_of hr) (pv 2) (pv 4) (fun _ _ => rfl)))) pa_nil))))))))), ?_⟩
    rotate_left
    refine ⟨_, (pss_cons (ps_for PassesOwn.never rfl (pi_tup (pv 0)) (pg_name (i := 1) sc_joined.nd rfl (Or.inl rfl))
   (pss_one (ps_if (pt_not (pt_val (pe_call (ok_is_entry T) (hr.mono (by decide)) rfl T.g_is_entry T.F_is_entry.kp T.bi_is_entry .nil pass0 (pa_cons (pv 1) pa_nil)))) (pss_one ps_never) pss_nil)))
  (pss_cons (ps_set (i := 2) sc_joined.nd rfl (Or.inr rfl) pe_dnewK)
  (pss_cons (ps_set (i := 3) sc_joined.nd rfl (Or.inl rfl) (pe_lst pa_nil))
  (pss_cons (ps_for PassesOwn.never rfl (pi_tup (pv 0)) (pg_name (i := 1) sc_joined.nd rfl (Or.inl rfl))
   (pss_one (ps_if (pt_cmpR (op_neD hr.units) (pe_dsetd (pv 2) (pe_ix ix_tup (pv 1) pe_int (fun _ _ => rfl)) (pv 1) ⟨by rfl, by rfl, by rfl, by rfl⟩) (pv 1) (nomark _)) (pss_one (ps_expr (pe_bm PySem.F.plainAttrs_list PySem.F.slot_list_append PySem.F.type_list_append mt_append (pv 3) (pa_cons (pe_ix ix_tup (pv 1) pe_int (fun _ _ => rfl)) pa_nil)))) pss_nil)))
  (pss_cons (ps_if (pt_cmpR op_gt (pe_callB cl_len (by rfl) T.b_len (by decide +kernel) (pa_cons (pv 3) pa_nil)) pe_int (nomark _)) (pss_one ps_never) pss_nil)
  (pss_one (ps_ret (pe_callTy cl_tuple (by rfl) T.b_tuple (by decide +kernel) (pa_cons (pe_lc (own := [("number", 4)]) (g := gName 4) (tt := tYes) rfl sc_joined.nd (pi_list (pe_callB cr_sorted (by rfl) T.b_sorted (by decide +kernel) (pa_cons (pe_lock (pe_lc (own := [("number", 4)]) (g := gName 4) (tt := tYes) rfl sc_joined.nd (pi_keys (pv 2)) (blkOk_by (N := ["entries", "entry", "table", "clashing", "number"]) (sc := defScope s_joined) (by decide +kernel)) (fun _ _ _ _ _ => (pg_name (i := 4) sc_joined.nd rfl (Or.inl rfl))) (fun _ _ _ _ _ => pts_nil) (fun _ _ _ _ _ => (pe_callTy cl_int (by rfl) T.b_int (by decide +kernel) (pa_cons (pv 4) pa_nil))))) pa_nil))) (blkOk_by (N := ["entries", "entry", "table", "clashing", "number"]) (sc := defScope s_joined) (by decide +kernel)) (fun _ _ _ _ _ => (pg_name (i := 4) sc_joined.nd rfl (Or.inl rfl))) (fun _ _ _ _ _ => pts_nil) (fun _ _ _ _ _ => (pe_dget (hu_of hr) (pv 2) (pv 4) (fun _ _ => rfl)))) pa_nil))))))))), ?_⟩
    all_goals
      dsimp only [cxOf, Cx.nox, Cx.wish]
      walk_at "go"
      refine ⟨fun i σ H' => ∃ o : Option V, σ = [some (.ref t), o, none, none, none] ∧ Ex H H', ⟨none, rfl, Ex.refl H⟩, fun i σ H' hi ⟨o, h1, e1⟩ => (by first | exact _root_.Evl.ex_l e1 hs | exact _root_.Evl.ex_t e1 hs), fun i v σ H1 H2 hi ⟨o, h1, e1⟩ y => ?_, fun σ H1 ⟨o, h1, e1⟩ => ?_⟩
      · subst h1
        obtain ⟨rfl, hv⟩ := y
        obtain ⟨en, hen, ea⟩ := paired_get EA hv
        walk_at "go"
        refine ⟨v, en, F, rfl, x.trans e1, ea, O en (List.mem_of_getElem? hen), fun H3 e3 => ?_⟩
        walk_at "go"
        exact ⟨_, rfl, e1.trans e3⟩
      subst h1
      walk_at "go"
      intro d hd
      have e2 := e1.trans (Ex.new (o := .dK []) hd)
      walk_at "go"
      intro c hc
      have e3 := e2.trans (Ex.new (o := .lst []) hc)
      have hs3 := hs
      have dc : d ≠ c := ne_of_none upd_same hc
      have hd0 : H d = none := ex_none e1 hd
      have hc0 : H c = none := ex_none e2 hc
      have hdd : (upd (upd H1 d (.dK [])) c (.lst [])) d = some (.dK []) := upd_oth dc upd_same
      have hcc : (upd (upd H1 d (.dK [])) c (.lst [])) c = some (.lst []) := upd_same
      generalize upd (upd H1 d (.dK [])) c (.lst []) = H2 at e3 hdd hcc
      first | replace hs3 := _root_.Evl.ex_l e3 hs3 | replace hs3 := _root_.Evl.ex_t e3 hs3
      walk_at "go"
      refine ⟨fun i σ H' => ∃ o : Option V, σ = [some (.ref t), o, some (.ref d), some (.ref c), none] ∧ Ex H H' ∧ H' d = some (.dK (kvOf (es.take i) (ts.take i))) ∧ H' c = some (.lst []), ⟨o, rfl, e3, hdd, hcc⟩, fun i σ H' hi ⟨o, h1, e1, _, _⟩ => (by first | exact _root_.Evl.ex_l e1 hs | exact _root_.Evl.ex_t e1 hs), fun i v σ H1 H2 hi ⟨o, h1, e1, h2, h3⟩ y => ?_, fun σ H1 ⟨o, h1, e1, h2, h3⟩ => ?_⟩
      · subst h1
        obtain ⟨rfl, hv⟩ := y
        obtain ⟨en, hen, ea⟩ := paired_get EA hv
        obtain ⟨a, rfl, ha⟩ := id ea
        have h0 := en_at0 en
        have hT : SqT K H2 a en.vs := SqT.of (e1 _ _ (x _ _ ha))
        have le : (es.take i).length = (ts.take i).length := by rw [List.length_take, List.length_take]; omega
        walk_at "go"
        refine ⟨_, Sum.inl en.num, h2, rfl, by rw [kvOf_len le, List.length_take, sizeLine_eq]; omega, fun v' hv' => ?_, fun _ => ?_⟩
        · exfalso
          rw [kvOf_none] at hv'
          · cases hv'
          · intro hm
            rw [List.map_take] at hm
            obtain ⟨j, hj, ej⟩ := List.getElem_of_mem hm
            rw [List.length_take, List.length_map] at hj
            rw [List.getElem_take] at ej
            have hi' : i < (es.map En.num).length := by rw [List.length_map]; omega
            have e5 : (es.map En.num)[i] = en.num := by
              obtain ⟨hlt, e6⟩ := List.getElem?_eq_some_iff.mp hen
              rw [List.getElem_map, e6]
            have := (List.getElem_inj nd).mp (ej.trans e5.symm)
            omega
        · have hT' : SqT K (upd H2 d (.dK (putK (kvOf (es.take i) (ts.take i)) (Sum.inl en.num) (.ref a)))) a en.vs := SqT.of (upd_oth (ne_of (e1 _ _ (x _ _ ha)) h2 (by intro z; cases z)) (e1 _ _ (x _ _ ha)))
          walk_at "go"
          refine ne_self (O en (List.mem_of_getElem? hen)) hT' ?_
          walk_at "go"
          refine ⟨_, rfl, ex_mut hd0 e1, ?_, upd_oth dc.symm h3⟩
          rw [upd_same, putK_new _ (kvOf_none ?_), ← kvOf_snoc le, List.take_succ, List.take_succ, hen, hv]
          · rfl
          · intro hm
            rw [List.map_take] at hm
            obtain ⟨j, hj, ej⟩ := List.getElem_of_mem hm
            rw [List.length_take, List.length_map] at hj
            rw [List.getElem_take] at ej
            have hi' : i < (es.map En.num).length := by rw [List.length_map]; omega
            have e5 : (es.map En.num)[i] = en.num := by
              obtain ⟨hlt, e6⟩ := List.getElem?_eq_some_iff.mp hen
              rw [List.getElem_map, e6]
            have := (List.getElem_inj nd).mp (ej.trans e5.symm)
            omega
      subst h1
      rw [List.take_of_length_le (by omega), List.take_of_length_le (by omega)] at h2
      walk_at "go"
      refine i_lock h2 trivial fun od => ?_
      walk_at "go"
      have kn : (kvOf es ts).length = (es.map En.num).length := by rw [kvOf_len el.symm, List.length_map]
      have nl : (es.map En.num).length < 64 := by rw [List.length_map]; exact l64
      have kat : ∀ i, i < (kvOf es ts).length → ∃ v, (kvOf es ts)[i]? = some (Sum.inl ((es.map En.num).getD i 0), v) := fun i hi => by
        unfold kvOf at hi ⊢
        rw [List.length_map, List.length_zip] at hi
        have h1 : i < es.length := by omega
        have h2 : i < ts.length := by omega
        refine ⟨ts[i], ?_⟩
        have hz : (es.zip ts)[i]? = some (es[i], ts[i]) := List.getElem?_zip_eq_some.mpr ⟨List.getElem?_eq_getElem h1, List.getElem?_eq_getElem h2⟩
        rw [List.getElem?_map, hz]
        simp [h1]
      refine fc_K (kvs := kvOf es ts) upd_same ?_
      refine lc_pure (fun i => .int ((es.map En.num).getD i 0)) (by rw [kn, sizeLine_eq]; omega) (fun i => .int ((es.map En.num).getD i 0)) (fun H' e => e _ _ upd_same) (fun i H0 v H' hi y => ?_) (fun i H' Q' hi e q => ?_) (fun p hp => ?_)
      · obtain ⟨rfl, k0, v0, h5, rfl⟩ := y
        obtain ⟨v, h6⟩ := kat i hi
        rw [h6] at h5
        injection h5 with h5
        injection h5 with h5
        subst h5
        exact ⟨rfl, rfl⟩
      · walk_at "go"; exact q
      have pd : p ≠ d := (ne_of_none upd_same hp).symm
      have hp0 : H1 p = none := by rw [upd_ne pd] at hp; exact hp
      refine ⟨upd_oth pd.symm upd_same, ?_⟩
      rw [upd_lock h2 pd, kn, ← List.length_map (f := V.int), map_range_getD]
      walk_at "go"
      refine ⟨p, es.map En.num, rfl, SqL.of upd_same, nl, fun ns' p2 perm pw hp2 => ?_⟩
      have nd' : ns'.Nodup := perm.symm.nodup nd
      have asc := asc_of pw nd'
      obtain ⟨es', pe, rfl⟩ := perm_lift perm rfl
      have hd2 := upd_old (u' := .lst ((es'.map En.num).map V.int)) hp2 (upd_old (u' := .lst ((es.map En.num).map V.int)) hp0 h2)
      walk_at "go"
      have vof : ∀ e ∈ es', ∃ v, valV (kvOf es ts) (Sum.inl e.num : Key) = some v ∧ EnAt F v e := fun e he => by
        obtain ⟨v, _, h7, h8⟩ := kvOf_get EA nd e (pe.subset he)
        exact ⟨v, h7, h8⟩
      have sz : ((es'.map En.num).map V.int).length < sizeLine := by
        have := pe.length_eq
        rw [List.length_map, List.length_map, sizeLine_eq]; omega
      refine lc_pure (fun i => (valV (kvOf es ts) (Sum.inl ((es'.map En.num).getD i 0))).getD .non) sz (fun i => .int ((es'.map En.num).getD i 0)) (fun H' e => SqL.of (e _ _ upd_same)) (fun i H0 v H' hi y => ⟨y.1, ?_⟩) (fun i H' Q' hi e q => ?_) (fun p3 hp3 => ?_)
      · have := y.2
        rw [List.length_map] at hi
        rw [List.getElem?_map, List.getElem?_eq_getElem hi] at this
        have := (Option.some.inj this).symm
        rw [this, List.getD_eq_getElem?_getD, List.getElem?_eq_getElem hi]; rfl
      · have hd3 := e _ _ hd2
        rw [List.length_map, List.length_map] at hi
        obtain ⟨v, h7, _⟩ := vof es'[i] (List.getElem_mem hi)
        have h9 : (es'.map En.num).getD i 0 = es'[i].num := by simp [hi]
        have h8 : valV (kvOf es ts) (Sum.inl ((es'.map En.num).getD i 0) : Key) = some v := by rw [h9]; exact h7
        rw [h8] at q
        walk_at "go"
        exact q
      walk_at "go"
      intro r hr
      have e9 : Ex H (upd (upd H1 p (.lst ((es.map En.num).map V.int))) p2 (.lst ((es'.map En.num).map V.int))) := (e1.trans (Ex.new hp0)).trans (Ex.new hp2)
      have rnone : H r = none := ex_none (e9.trans (Ex.new hp3)) hr
      refine k r _ es' _ (e9.trans ((Ex.new hp3).trans (Ex.new hr))) rnone upd_same ?_ pe asc
      have : ∀ n, n = es'.length → (List.range n).map (fun i => (valV (kvOf es ts) (Sum.inl ((es'.map En.num).getD i 0) : Key)).getD .non) = es'.map fun e => (valV (kvOf es ts) (Sum.inl e.num : Key)).getD .non := fun n hn => by
        subst hn
        apply List.ext_getElem
        · simp
        · intro j h1 h2
          simp at h1
          simp [h1]
      rw [this _ (by simp)]
      refine paired_map fun e he => ?_
      obtain ⟨v, h7, h8⟩ := vof e he
      rw [h7]
      exact h8
end
end Dh
/-! K08G -/
set_option Elab.async false
set_option linter.all false
set_option maxRecDepth 100000
set_option maxHeartbeats 4000000
namespace Dh
open PySem PySem.Spec L2
open _root_.Evl (Ex)
local macro_rules | `(tactic| walk_at "ex") => `(tactic| first | assumption | ((with_reducible apply ex_mut); (focus assumption); walk_at "ex") | ((with_reducible apply ex_both); walk_at "ex") | ((with_reducible apply ex_new); (focus assumption); walk_at "ex"))
local macro_rules | `(tactic| walk_at "hp") => `(tactic| first | assumption | with_reducible exact upd_same | ((with_reducible apply upd_old); (focus assumption); walk_at "hp") | ((with_reducible apply upd_oth); (focus walk_at "neq"); walk_at "hp") | ((with_reducible apply ex_by); (focus assumption); walk_at "ex") | ((with_reducible apply ex_at); (focus assumption); walk_at "hp"))
local macro_rules | `(tactic| walk_at "neq") => `(tactic| first | assumption | (apply Ne.symm; assumption))
local macro_rules | `(tactic| walk_at "sq") => `(tactic| first | assumption | ((with_reducible apply SqL.of); walk_at "hp") | ((with_reducible apply SqT.of); walk_at "hp"))
local macro_rules | `(tactic| walk_at "side") => `(tactic| first | assumption | decide | exact cm_fmod (by decide) (by decide) | (show _ ≠ (0 : Int); decide) | (show _ ≠ (0 : Int); omega) | exact Or.inr ⟨by decide, by decide⟩ | exact Or.inl ⟨by decide, by decide⟩ | (show CDivN _ _; exact ⟨by decide, by decide⟩) | (show CDivN _ _; exact ⟨by omega, by omega⟩) | exact Or.inl ⟨by omega, by omega⟩ | exact Or.inr ⟨by omega, by omega⟩ | exact ⟨by decide, by decide, by decide⟩)
local macro_rules | `(tactic| walk_at "ix") => `(tactic| first | exact rfl | assumption | exact atI_nat (by assumption))
local macro_rules | `(tactic| walk_at "step0") => `(tactic| first
  | with_reducible refine i_seq ?_
  | with_reducible refine i_asg ?_
  | with_reducible refine i_op ?_
  | ((with_reducible refine' i_var ?hv ?_); (case hv => exact rfl))
  | with_reducible refine i_c ?_
  | with_reducible refine i_cons ?_
  | with_reducible refine i_nil ?_
  | with_reducible refine i_cb ?_
  | with_reducible refine i_call ?_
  | with_reducible refine i_call' ?_
  | with_reducible refine i_un ?_
  | with_reducible refine i_I0 ?_
  | ((with_reducible refine i_I ?hv ?_); (case hv => walk_at "side"))
  | with_reducible refine i_eqI ?_
  | with_reducible refine i_neI ?_
  | with_reducible refine i_eqS ?_
  | with_reducible refine i_neS ?_
  | ((with_reducible refine i_eq ?hv ?_); (case hv => exact rfl))
  | ((with_reducible refine i_ne ?hv ?_); (case hv => exact rfl))
  | with_reducible refine i_int1 ?_
  | with_reducible refine i_abs ?_
  | ((with_reducible refine' i_ixL ?hv ?hw ?_); (case hv => walk_at "sq"); (case hw => walk_at "ix"))
  | ((with_reducible refine' i_ixT ?hv ?hw ?_); (case hv => walk_at "sq"); (case hw => walk_at "ix"))
  | ((with_reducible refine' i_lenL ?hv ?_); (case hv => walk_at "sq"))
  | ((with_reducible refine' i_lenT ?hv ?_); (case hv => walk_at "sq"))
  | with_reducible refine i_addIB ?_
  | with_reducible refine i_mulIB ?_
  | ((with_reducible refine i_lenS ?hv ?_); (case hv => walk_at "side"))
  | with_reducible refine i_tup ?_
  | with_reducible refine i_lst ?_
  | with_reducible refine i_asgG ?_
  | with_reducible refine i_gname ?_
  | with_reducible refine i_gsub ?_
  | ((with_reducible refine' i_setL ?hv ?hw ?_); (case hv => walk_at "hp"); (case hw => exact rfl))
  | with_reducible refine i_ret ?_
  | with_reducible refine i_drop ?_
  | with_reducible refine i_next ?_
  | with_reducible refine i_test ?_
  | with_reducible refine i_B ?_
  | with_reducible refine i_bl ?_
  | with_reducible refine i_not ?_
  | with_reducible refine i_and ?_
  | with_reducible refine i_or ?_
  | ((with_reducible refine' i_app ?hv ?hw ?_); (case hv => walk_at "hp"); (case hw => walk_at "side"))
  | with_reducible refine iteT ?_
  | with_reducible refine iteF ?_
  | with_reducible refine iteNT ?_
  | with_reducible refine iteNF ?_
  | ((with_reducible refine iteT' ?hv ?_); (case hv => first | exact decide_eq_true (by assumption) | exact notF (by assumption) | exact decide_eq_true rfl | exact notF (by decide) | exact decide_eq_true (by decide) | exact decide_eq_true (by simp only [List.length_cons, List.length_nil]; decide)))
  | ((with_reducible refine iteF' ?hv ?_); (case hv => first | exact decide_eq_false (by assumption) | exact notT (by assumption) | exact notT rfl | exact decide_eq_false (by decide) | exact decide_eq_false (by simp only [List.length_cons, List.length_nil]; decide)))
  | with_reducible refine i_forL ?_
  | with_reducible refine i_forT ?_
  | with_reducible refine i_forR ?_
  | with_reducible refine i_forR2 ?_
  | with_reducible refine i_forE ?_
  | with_reducible refine i_forV ?_
  | with_reducible refine i_forS ?_
  | with_reducible refine i_forK ?_
  | with_reducible refine i_lcL ?_
  | with_reducible refine i_lcT ?_
  | with_reducible refine i_lcR ?_
  | with_reducible refine i_lcR2 ?_
  | with_reducible refine i_lcS ?_
  | with_reducible refine i_lcK ?_
  | ((with_reducible refine' fl_L ?hv ?_); (case hv => walk_at "sq"))
  | ((with_reducible refine' fl_T ?hv ?_); (case hv => walk_at "sq"))
  | ((with_reducible refine fl_R ?hv ?hw ?_); (case hv => (first | decide | omega)); (case hw => (first | decide | omega)))
  | ((with_reducible refine fl_R2 ?hv ?_); (case hv => (first | decide | (refine ⟨?_, ?_, ?_, ?_⟩ <;> omega))))
  | ((with_reducible refine' fl_E ?hv ?_); (case hv => walk_at "sq"))
  | ((with_reducible refine' fl_V ?hv ?_); (case hv => walk_at "sq"))
  | with_reducible refine fl_S ?_
  | ((with_reducible refine' fc_L ?hv ?_); (case hv => walk_at "sq"))
  | ((with_reducible refine' fc_T ?hv ?_); (case hv => walk_at "sq"))
  | ((with_reducible refine fc_R ?hv ?hw ?_); (case hv => (first | decide | omega)); (case hw => (first | decide | omega)))
  | with_reducible refine fc_S ?_
  | with_reducible refine i_sl ?_
  | with_reducible refine i_nopart ?_
  | with_reducible refine i_part ?_
  | with_reducible refine i_isint ?_
  | ((with_reducible refine' i_slL ?hv ?_); (case hv => walk_at "sq"))
  | ((with_reducible refine i_slS ?hv ?_); (case hv => walk_at "side"))
  | ((with_reducible refine' i_gtup ?hv ?hw ?_); (case hv => walk_at "sq"); (case hw => exact rfl))
  | with_reducible refine i_gcons ?_
  | with_reducible refine i_gnil ?_
  | ((with_reducible refine' i_listL ?hv ?_); (case hv => walk_at "sq"))
  | ((with_reducible refine' i_listT ?hv ?_); (case hv => walk_at "sq"))
  | ((with_reducible refine' i_tupL ?hv ?_); (case hv => walk_at "sq"))
  | ((with_reducible refine' i_lenD ?hv ?_); (case hv => walk_at "hp"))
  | ((with_reducible refine' i_ty ?hv ?_); (case hv => walk_at "hp"))
  | ((with_reducible refine And.intro ?hv ?_); (case hv => first | exact (by decide : (0 : Nat) ≤ sizeLine) | exact (by decide : (1 : Nat) ≤ sizeLine) | exact (by decide : (2 : Nat) ≤ sizeLine) | exact (by decide : (3 : Nat) ≤ sizeLine) | exact (by decide : (4 : Nat) ≤ sizeLine) | exact (by decide : (5 : Nat) ≤ sizeLine) | exact (by decide : (6 : Nat) ≤ sizeLine)))
  | with_reducible refine i_inC ?_
  | ((with_reducible refine i_addT ?hv ?_); (case hv => walk_at "side"))
  | with_reducible refine i_m1 ?_
  | with_reducible refine i_isstr ?_
  | with_reducible refine is_int_int ?_
  | with_reducible refine is_int_bool ?_
  | with_reducible refine is_str_str ?_
  | ((with_reducible refine' is_tup_tup ?hv ?_); (case hv => walk_at "hp"))
  | with_reducible refine i_ifExp ?_
  | with_reducible refine i_andV ?_
  | with_reducible refine i_orV ?_
  | with_reducible refine i_notV ?_
  | with_reducible refine i_chain ?_
  | ((with_reducible refine' i_inS ?hv ?_); (case hv => walk_at "sq"))
  | ((with_reducible refine' i_niS ?hv ?_); (case hv => walk_at "sq"))
  | ((with_reducible refine' i_inI ?hv ?_); (case hv => walk_at "sq"))
  | ((with_reducible refine' i_niI ?hv ?_); (case hv => walk_at "sq"))
  | with_reducible refine i_dnew ?_
  | with_reducible refine i_dput ?_
  | ((with_reducible refine' i_dputI ?hv ?hw ?_); (case hv => walk_at "hp"); (case hw => walk_at "side"))
  | with_reducible refine i_dget ?_
  | ((with_reducible refine' i_dgetI ?hv ?hw ?_); (case hv => walk_at "hp"); (case hw => assumption))
  | with_reducible refine i_dnotin ?_
  | with_reducible refine i_din ?_
  | ((with_reducible refine' i_dnotinI ?hv ?_); (case hv => walk_at "hp"))
  | with_reducible refine i_dsetd ?_
  | ((with_reducible refine' i_isd ?hv ?_); (case hv => walk_at "hp"))
  | with_reducible refine i_fld ?_
  | with_reducible refine i_sfld ?_
  | with_reducible refine i_dcT ?_
  | with_reducible refine i_dcL ?_
  | with_reducible refine i_truT ?_
  | ((with_reducible refine' i_truL ?hv ?_); (case hv => walk_at "sq"))
  | with_reducible refine i_revL ?_
  | ((with_reducible refine' i_atLx ?hv ?_); (case hv => walk_at "sq"))
  | with_reducible refine i_bm ?_
  | with_reducible refine i_bm0 ?_)
local macro_rules | `(tactic| walk_at "step") => `(tactic| first | walk_at "step0" | with_reducible refine i_ifS ?_)
local macro_rules | `(tactic| walk_at "goj") => `(tactic| repeat (first | walk_at "step0" | with_reducible refine i_ifS (c := tTest _) ?_ | with_reducible refine i_ifS (c := tB _) ?_))
local macro_rules | `(tactic| walk_at "tj") => `(tactic| (intro q hq; repeat (first | exact hq | walk_at "step" | (refine and_q hq (fun h => ?_); clear hq; rename_i hq) | (refine or_q hq (fun h => ?_); clear hq; rename_i hq))))
local macro_rules | `(tactic| walk_at "go") => `(tactic| repeat walk_at "step")

/-- what is withdrawn, the entries gone through as they lie -/
def wdStep (g : List Int) : En → List Int
  | .vd n o => if n ∈ g then g else o :: g
  | _ => g
def wdR (l : List En) : List Int := l.foldl wdStep []
/-- whether an entry of this number stands -/
def stB (es : List En) (n : Int) : Bool := !decide (n ∈ wdR es.reverse)
def stKv (es : List En) : List (Key × V) := es.map fun e => ((Sum.inl e.num : Key), V.bl (stB es e.num))
theorem wdR_snoc (l : List En) (e : En) : wdR (l ++ [e]) = wdStep (wdR l) e := by unfold wdR; rw [List.foldl_append]; rfl
theorem en_at1 (e : En) : ∃ y : Str, atI e.vs 1 = some (.str y) ∧ ((∃ n o, e = .vd n o ∧ y = "void") ∨ (∃ n d x, e = .sg n d x ∧ y = "sign") ∨ ∃ n d x, e = .rl n d x ∧ y = "rule") := by
  cases e with
  | vd n o => exact ⟨_, rfl, .inl ⟨n, o, rfl, rfl⟩⟩
  | sg n d x => exact ⟨_, rfl, .inr (.inl ⟨n, d, x, rfl, rfl⟩)⟩
  | rl n d x => exact ⟨_, rfl, .inr (.inr ⟨n, d, x, rfl, rfl⟩)⟩
section
variable {P : Program} {w : World} {K : PySem.W.Frag} {mg : Str → Option Value} {base : Heap} {A : Ad}
def spStanding (K : PySem.W.Frag) : Sp := fun vs H Q _ => ∃ (r : Addr) (ts : List V) (es : List En) (F : Hp), vs = [.ref r] ∧ SqT K H r ts ∧ Ex F H ∧ EsAt F ts es ∧ Asc (es.map En.num) ∧ es.length < 1000 ∧
  ∀ (d : Addr) (H' : Hp), Ex H H' → H d = none → H' d = some (.dK (stKv es)) → Q (.ref d) H'
theorem ok_standing (T : Txt K mg A) : FnOk P w K mg base CX0 1 A.f_standing A.d_standing ["rows"] (spStanding K) := by
  refine T.F_standing.ok sc_standing (fun vs H Q E h => ?_) (fun cdv Ar outer s H vs Q E hr h => ?_)
  · obtain ⟨t, ts, es, F, rfl, _⟩ := h; rfl
  · obtain ⟨r, ts, es, F, rfl, hs, x, EA, asc, l1, k⟩ := h
    have el := EA.length
    refine ⟨_, (pss_cons (ps_set (i := 1) sc_standing.nd rfl (Or.inr rfl) pe_dnewK)
  (pss_cons (ps_for PassesOwn.never rfl (pi_reversed (by rfl) T.b_reversed (pa_cons (pe_callTy cl_list (by rfl) T.b_list (by decide +kernel) (pa_cons (pv 0) pa_nil)) pa_nil)) (pg_name (i := 2) sc_standing.nd rfl (Or.inl rfl))
   (pss_one (ps_if (PW.pt (pw_and (pt_cmpR op_eq (pe_ix ix_tup (pv 2) pe_int (fun _ _ => rfl)) pe_str (nomark _)) (pw_and1 (pt_cmp (pc_dnotin (hu_of hr) (pe_ix ix_tup (pv 2) pe_int (fun _ _ => rfl)) (pv 1)))))) (pss_one (ps_dput (hu_of hr) (pv 1) (pe_ix ix_tup (pv 2) pe_int (fun _ _ => rfl)) pe_bl rfl)) pss_nil)))
  (pss_one (ps_ret (pe_dc (own := [("entry", 2)]) (g := gName 2) (tt := tYes) rfl sc_standing.nd (pi_tup (pv 0)) (blkOk_by (N := ["rows", "withdrawn", "entry"]) (sc := defScope s_standing) (by decide +kernel)) (fun _ _ _ _ _ => (pg_name (i := 2) sc_standing.nd rfl (Or.inl rfl))) (fun _ _ _ _ _ => pts_nil) (fun _ _ _ _ _ => (pe_ix (show IxR _ (rIxT K) from ix_tup) (pv 2) pe_int (fun _ _ => rfl))) (fun _ _ _ _ _ => (pe_cmp (pc_dnotin (hu_of hr) (pe_ix (show IxR _ (rIxT K) from ix_tup) (pv 2) pe_int (fun _ _ => rfl)) (pv 1)) rfl))))))), ?_⟩
    dsimp only [cxOf, Cx.nox, Cx.wish]
    walk_at "go"
    intro d hd
    have e1 : Ex H (upd H d (.dK [])) := Ex.new hd
    have hs1 := _root_.Evl.ex_t e1 hs
    have hd1 : (upd H d (.dK [])) d = some (.dK []) := upd_same
    generalize upd H d (.dK []) = H1 at e1 hs1 hd1
    walk_at "go"
    intro q hq
    have e2 := e1.trans (Ex.new (o := .lst ts) hq)
    have dq : d ≠ q := ne_of_none hd1 hq
    have hq0 : H q = none := ex_none e1 hq
    have hd2 := upd_oth (u' := .lst ts) dq hd1
    walk_at "go"
    have ER := paired_rev EA
    refine ⟨fun i σ H' => ∃ (o : Option V) (kvs : List (Key × V)), σ = [some (.ref r), some (.ref d), o] ∧ Ex H H' ∧ H' q = some (.lst ts) ∧ H' d = some (.dK kvs) ∧ kvs.length ≤ i ∧ ∀ n : Int, (valV kvs (Sum.inl n)).isSome = decide (n ∈ wdR (es.reverse.take i)), ?_, fun i σ H' hi h => ?_, fun i v σ H2 H3 hi h y => ?_, fun σ H' h => ?_⟩
    · exact ⟨none, [], rfl, e2, upd_same, hd2, Nat.le_refl _, fun n => by simp [valV_nil, wdR]⟩
    · obtain ⟨o, kvs, _, _, h2, _⟩ := h
      exact SqL.of h2
    · obtain ⟨o, kvs, rfl, e3, h2, h3, h4, h5⟩ := h
      obtain ⟨rfl, hv⟩ := y
      have hv' : ts.reverse[i]? = some v := by rw [List.getElem?_reverse hi]; exact hv
      obtain ⟨en, hen, a, rfl, ha⟩ := paired_get ER hv'
      have ht : wdR (es.reverse.take (i + 1)) = wdStep (wdR (es.reverse.take i)) en := by
        rw [List.take_succ, hen]; exact wdR_snoc _ _
      have hT : SqT K H3 a en.vs := SqT.of (e3 _ _ (x _ _ ha))
      have hz : kvs.length < sizeLine := by rw [sizeLine_eq]; omega
      have keep : wdStep (wdR (es.reverse.take i)) en = wdR (es.reverse.take i) → ∃ (o : Option V) (kvs : List (Key × V)), [some (V.ref r), some (.ref d), some (.ref a)] = [some (.ref r), some (.ref d), o] ∧ Ex H H3 ∧ H3 q = some (.lst ts) ∧ H3 d = some (.dK kvs) ∧ kvs.length ≤ i + 1 ∧ ∀ n : Int, (valV kvs (Sum.inl n)).isSome = decide (n ∈ wdR (es.reverse.take (i + 1))) := fun z => ⟨_, kvs, rfl, e3, h2, h3, by omega, fun n => by rw [ht, z]; exact h5 n⟩
      cases en with
      | vd n o =>
        have h0 : atI (En.vd n o).vs 0 = some (.int n) := rfl
        have h1 : atI (En.vd n o).vs 1 = some (.str "void") := rfl
        have h9 : atI (En.vd n o).vs 2 = some (.int o) := rfl
        walk_at "go"
        have h6 := h5 n
        refine iteB (fun c => ?_) (fun c => ?_)
        · have hn : n ∉ wdR (es.reverse.take i) := by
            intro z
            rw [h6, decide_eq_true z] at c
            cases c
          walk_at "go"
          refine ⟨_, _, rfl, ex_mut hd e3, upd_oth dq.symm h2, upd_same, ?_, fun m => ?_⟩
          · exact Nat.le_trans putK_le (by omega)
          · rw [valV_put, ht]
            show _ = decide (m ∈ if n ∈ wdR (es.reverse.take i) then _ else o :: wdR (es.reverse.take i))
            rw [if_neg hn]
            by_cases e : m = o
            · subst e; simp
            · rw [if_neg (by intro z; exact e (Sum.inl.inj z)), h5 m]
              simp [e]
        · have hn : n ∈ wdR (es.reverse.take i) := by
            by_cases z : n ∈ wdR (es.reverse.take i)
            · exact z
            · rw [h6, decide_eq_false z] at c; cases c
          walk_at "go"
          exact keep (if_pos hn)
      | sg n dd y =>
        have h1 : atI (En.sg n dd y).vs 1 = some (.str "sign") := rfl
        walk_at "go"
        exact keep rfl
      | rl n dd y =>
        have h1 : atI (En.rl n dd y).vs 1 = some (.str "rule") := rfl
        walk_at "go"
        exact keep rfl
    · obtain ⟨o, kvs, rfl, e3, h2, h3, h4, h5⟩ := h
      rw [List.take_of_length_le (by rw [List.length_reverse]; omega)] at h5
      have hs3 := _root_.Evl.ex_t e3 hs
      walk_at "go"
      have gi : ∀ i, i < ts.length → ∃ (a : Addr) (en : En), ts.getD i .non = .ref a ∧ (es.map En.num).getD i 0 = en.num ∧ F a = some (.tup en.vs) := fun i hi => by
        have hv : ts[i]? = some ts[i] := List.getElem?_eq_getElem hi
        obtain ⟨en, hen, a, ea, ha⟩ := paired_get EA hv
        refine ⟨a, en, ?_, ?_, ha⟩
        · rw [List.getD_eq_getElem?_getD, hv, ea]; rfl
        · rw [List.getD_eq_getElem?_getD, List.getElem?_map, hen]; rfl
      refine fd_T hs3 (dc_pure walk_tup (fun i => Sum.inl ((es.map En.num).getD i 0)) (fun i => .bl (stB es ((es.map En.num).getD i 0))) (by rw [sizeLine_eq]; omega) (fun i => ts.getD i .non) (fun a b l hb z => ?_) (fun H' e => _root_.Evl.ex_t e hs3) (fun i H0 v H' hi y => ⟨y.1, ?_⟩) (fun i H' Q' hi e q => ?_) (fun i H' Q' hi e q => ?_) (fun p hp => ?_))
      · have z' := Sum.inl.inj z
        have ha : (es.map En.num)[a]? = some ((es.map En.num).getD a 0) := by
          rw [List.getD_eq_getElem?_getD, List.getElem?_eq_getElem (by rw [List.length_map]; omega)]; rfl
        have hb' : (es.map En.num)[b]? = some ((es.map En.num).getD b 0) := by
          rw [List.getD_eq_getElem?_getD, List.getElem?_eq_getElem (by rw [List.length_map]; omega)]; rfl
        have := asc_lt asc ha hb' l
        omega
      · rw [List.getD_eq_getElem?_getD, y.2]; rfl
      · obtain ⟨a, en, g1, g2, ha⟩ := gi i hi
        rw [g1]
        have q' : Q' (.int en.num) H' := by rw [← g2]; exact q
        have hT : SqT K H' a en.vs := SqT.of (e _ _ (e3 _ _ (x _ _ ha)))
        have h0 := en_at0 en
        walk_at "go"
        exact q'
      · obtain ⟨a, en, g1, g2, ha⟩ := gi i hi
        rw [g1]
        have q' : Q' (.bl (!(valV kvs (Sum.inl en.num)).isSome)) H' := by
          rw [h5]; have q := q; rw [g2] at q; exact q
        have hT : SqT K H' a en.vs := SqT.of (e _ _ (e3 _ _ (x _ _ ha)))
        have h0 := en_at0 en
        have hd3 := e _ _ h3
        walk_at "go"
        exact q'
      · have e4 : Ex H H' := e3
        refine k p _ (e4.trans (Ex.new hp)) (ex_none e4 hp) ?_
        rw [upd_same]
        show some (HO.dK _) = some (HO.dK _)
        congr 2
        unfold stKv
        rw [el]
        apply List.ext_getElem
        · simp
        · intro j h1 h2
          simp at h1
          simp [h1]
end
end Dh
/-! K08H -/
set_option Elab.async false
set_option linter.all false
set_option maxRecDepth 100000
set_option maxHeartbeats 4000000
namespace Dh
open PySem PySem.Spec L2
open _root_.Evl (Ex)
local macro_rules | `(tactic| walk_at "ex") => `(tactic| first | assumption | ((with_reducible apply ex_mut); (focus assumption); walk_at "ex") | ((with_reducible apply ex_both); walk_at "ex") | ((with_reducible apply ex_new); (focus assumption); walk_at "ex"))
local macro_rules | `(tactic| walk_at "hp") => `(tactic| first | assumption | with_reducible exact upd_same | ((with_reducible apply upd_old); (focus assumption); walk_at "hp") | ((with_reducible apply upd_oth); (focus walk_at "neq"); walk_at "hp") | ((with_reducible apply ex_by); (focus assumption); walk_at "ex") | ((with_reducible apply ex_at); (focus assumption); walk_at "hp"))
local macro_rules | `(tactic| walk_at "neq") => `(tactic| first | assumption | (apply Ne.symm; assumption))
local macro_rules | `(tactic| walk_at "sq") => `(tactic| first | assumption | ((with_reducible apply SqL.of); walk_at "hp") | ((with_reducible apply SqT.of); walk_at "hp"))
local macro_rules | `(tactic| walk_at "side") => `(tactic| first | assumption | decide | exact cm_fmod (by decide) (by decide) | (show _ ≠ (0 : Int); decide) | (show _ ≠ (0 : Int); omega) | exact Or.inr ⟨by decide, by decide⟩ | exact Or.inl ⟨by decide, by decide⟩ | (show CDivN _ _; exact ⟨by decide, by decide⟩) | (show CDivN _ _; exact ⟨by omega, by omega⟩) | exact Or.inl ⟨by omega, by omega⟩ | exact Or.inr ⟨by omega, by omega⟩ | exact ⟨by decide, by decide, by decide⟩)
local macro_rules | `(tactic| walk_at "ix") => `(tactic| first | exact rfl | assumption | exact atI_nat (by assumption))
local macro_rules | `(tactic| walk_at "step0") => `(tactic| first
  | with_reducible refine i_seq ?_
  | with_reducible refine i_asg ?_
  | with_reducible refine i_op ?_
  | ((with_reducible refine' i_var ?hv ?_); (case hv => exact rfl))
  | with_reducible refine i_c ?_
  | with_reducible refine i_cons ?_
  | with_reducible refine i_nil ?_
  | with_reducible refine i_cb ?_
  | with_reducible refine i_call ?_
  | with_reducible refine i_call' ?_
  | with_reducible refine i_un ?_
  | with_reducible refine i_I0 ?_
  | ((with_reducible refine i_I ?hv ?_); (case hv => walk_at "side"))
  | with_reducible refine i_eqI ?_
  | with_reducible refine i_neI ?_
  | with_reducible refine i_eqS ?_
  | with_reducible refine i_neS ?_
  | ((with_reducible refine i_eq ?hv ?_); (case hv => exact rfl))
  | ((with_reducible refine i_ne ?hv ?_); (case hv => exact rfl))
  | with_reducible refine i_int1 ?_
  | with_reducible refine i_abs ?_
  | ((with_reducible refine' i_ixL ?hv ?hw ?_); (case hv => walk_at "sq"); (case hw => walk_at "ix"))
  | ((with_reducible refine' i_ixT ?hv ?hw ?_); (case hv => walk_at "sq"); (case hw => walk_at "ix"))
  | ((with_reducible refine' i_lenL ?hv ?_); (case hv => walk_at "sq"))
  | ((with_reducible refine' i_lenT ?hv ?_); (case hv => walk_at "sq"))
  | with_reducible refine i_addIB ?_
  | with_reducible refine i_mulIB ?_
  | ((with_reducible refine i_lenS ?hv ?_); (case hv => walk_at "side"))
  | with_reducible refine i_tup ?_
  | with_reducible refine i_lst ?_
  | with_reducible refine i_asgG ?_
  | with_reducible refine i_gname ?_
  | with_reducible refine i_gsub ?_
  | ((with_reducible refine' i_setL ?hv ?hw ?_); (case hv => walk_at "hp"); (case hw => exact rfl))
  | with_reducible refine i_ret ?_
  | with_reducible refine i_drop ?_
  | with_reducible refine i_next ?_
  | with_reducible refine i_test ?_
  | with_reducible refine i_B ?_
  | with_reducible refine i_bl ?_
  | with_reducible refine i_not ?_
  | with_reducible refine i_and ?_
  | with_reducible refine i_or ?_
  | ((with_reducible refine' i_app ?hv ?hw ?_); (case hv => walk_at "hp"); (case hw => walk_at "side"))
  | with_reducible refine iteT ?_
  | with_reducible refine iteF ?_
  | with_reducible refine iteNT ?_
  | with_reducible refine iteNF ?_
  | ((with_reducible refine iteT' ?hv ?_); (case hv => first | exact decide_eq_true (by assumption) | exact notF (by assumption) | exact decide_eq_true rfl | exact notF (by decide) | exact decide_eq_true (by decide) | exact decide_eq_true (by simp only [List.length_cons, List.length_nil]; decide)))
  | ((with_reducible refine iteF' ?hv ?_); (case hv => first | exact decide_eq_false (by assumption) | exact notT (by assumption) | exact notT rfl | exact decide_eq_false (by decide) | exact decide_eq_false (by simp only [List.length_cons, List.length_nil]; decide)))
  | with_reducible refine i_forL ?_
  | with_reducible refine i_forT ?_
  | with_reducible refine i_forR ?_
  | with_reducible refine i_forR2 ?_
  | with_reducible refine i_forE ?_
  | with_reducible refine i_forV ?_
  | with_reducible refine i_forS ?_
  | with_reducible refine i_forK ?_
  | with_reducible refine i_lcL ?_
  | with_reducible refine i_lcT ?_
  | with_reducible refine i_lcR ?_
  | with_reducible refine i_lcR2 ?_
  | with_reducible refine i_lcS ?_
  | with_reducible refine i_lcK ?_
  | ((with_reducible refine' fl_L ?hv ?_); (case hv => walk_at "sq"))
  | ((with_reducible refine' fl_T ?hv ?_); (case hv => walk_at "sq"))
  | ((with_reducible refine fl_R ?hv ?hw ?_); (case hv => (first | decide | omega)); (case hw => (first | decide | omega)))
  | ((with_reducible refine fl_R2 ?hv ?_); (case hv => (first | decide | (refine ⟨?_, ?_, ?_, ?_⟩ <;> omega))))
  | ((with_reducible refine' fl_E ?hv ?_); (case hv => walk_at "sq"))
  | ((with_reducible refine' fl_V ?hv ?_); (case hv => walk_at "sq"))
  | with_reducible refine fl_S ?_
  | ((with_reducible refine' fc_L ?hv ?_); (case hv => walk_at "sq"))
  | ((with_reducible refine' fc_T ?hv ?_); (case hv => walk_at "sq"))
  | ((with_reducible refine fc_R ?hv ?hw ?_); (case hv => (first | decide | omega)); (case hw => (first | decide | omega)))
  | with_reducible refine fc_S ?_
  | with_reducible refine i_sl ?_
  | with_reducible refine i_nopart ?_
  | with_reducible refine i_part ?_
  | with_reducible refine i_isint ?_
  | ((with_reducible refine' i_slL ?hv ?_); (case hv => walk_at "sq"))
  | ((with_reducible refine i_slS ?hv ?_); (case hv => walk_at "side"))
  | ((with_reducible refine' i_gtup ?hv ?hw ?_); (case hv => walk_at "sq"); (case hw => exact rfl))
  | with_reducible refine i_gcons ?_
  | with_reducible refine i_gnil ?_
  | ((with_reducible refine' i_listL ?hv ?_); (case hv => walk_at "sq"))
  | ((with_reducible refine' i_listT ?hv ?_); (case hv => walk_at "sq"))
  | ((with_reducible refine' i_tupL ?hv ?_); (case hv => walk_at "sq"))
  | ((with_reducible refine' i_lenD ?hv ?_); (case hv => walk_at "hp"))
  | ((with_reducible refine' i_ty ?hv ?_); (case hv => walk_at "hp"))
  | ((with_reducible refine And.intro ?hv ?_); (case hv => first | exact (by decide : (0 : Nat) ≤ sizeLine) | exact (by decide : (1 : Nat) ≤ sizeLine) | exact (by decide : (2 : Nat) ≤ sizeLine) | exact (by decide : (3 : Nat) ≤ sizeLine) | exact (by decide : (4 : Nat) ≤ sizeLine) | exact (by decide : (5 : Nat) ≤ sizeLine) | exact (by decide : (6 : Nat) ≤ sizeLine)))
  | with_reducible refine i_inC ?_
  | ((with_reducible refine i_addT ?hv ?_); (case hv => walk_at "side"))
  | with_reducible refine i_m1 ?_
  | with_reducible refine i_isstr ?_
  | with_reducible refine is_int_int ?_
  | with_reducible refine is_int_bool ?_
  | with_reducible refine is_str_str ?_
  | ((with_reducible refine' is_tup_tup ?hv ?_); (case hv => walk_at "hp"))
  | with_reducible refine i_ifExp ?_
  | with_reducible refine i_andV ?_
  | with_reducible refine i_orV ?_
  | with_reducible refine i_notV ?_
  | with_reducible refine i_chain ?_
  | ((with_reducible refine' i_inS ?hv ?_); (case hv => walk_at "sq"))
  | ((with_reducible refine' i_niS ?hv ?_); (case hv => walk_at "sq"))
  | ((with_reducible refine' i_inI ?hv ?_); (case hv => walk_at "sq"))
  | ((with_reducible refine' i_niI ?hv ?_); (case hv => walk_at "sq"))
  | with_reducible refine i_dnew ?_
  | with_reducible refine i_dput ?_
  | ((with_reducible refine' i_dputI ?hv ?hw ?_); (case hv => walk_at "hp"); (case hw => walk_at "side"))
  | with_reducible refine i_dget ?_
  | ((with_reducible refine' i_dgetI ?hv ?hw ?_); (case hv => walk_at "hp"); (case hw => assumption))
  | with_reducible refine i_dnotin ?_
  | with_reducible refine i_din ?_
  | ((with_reducible refine' i_dnotinI ?hv ?_); (case hv => walk_at "hp"))
  | with_reducible refine i_dsetd ?_
  | ((with_reducible refine' i_isd ?hv ?_); (case hv => walk_at "hp"))
  | with_reducible refine i_fld ?_
  | with_reducible refine i_sfld ?_
  | with_reducible refine i_dcT ?_
  | with_reducible refine i_dcL ?_
  | with_reducible refine i_truT ?_
  | ((with_reducible refine' i_truL ?hv ?_); (case hv => walk_at "sq"))
  | with_reducible refine i_revL ?_
  | ((with_reducible refine' i_atLx ?hv ?_); (case hv => walk_at "sq"))
  | with_reducible refine i_bm ?_
  | with_reducible refine i_bm0 ?_)
local macro_rules | `(tactic| walk_at "step") => `(tactic| first | walk_at "step0" | with_reducible refine i_ifS ?_)
local macro_rules | `(tactic| walk_at "goj") => `(tactic| repeat (first | walk_at "step0" | with_reducible refine i_ifS (c := tTest _) ?_ | with_reducible refine i_ifS (c := tB _) ?_))
local macro_rules | `(tactic| walk_at "tj") => `(tactic| (intro q hq; repeat (first | exact hq | walk_at "step" | (refine and_q hq (fun h => ?_); clear hq; rename_i hq) | (refine or_q hq (fun h => ?_); clear hq; rename_i hq))))
local macro_rules | `(tactic| walk_at "go") => `(tactic| repeat walk_at "step")

theorem stKv_val {es : List En} {n : Int} {g : Int → V} : valV (es.map fun e => ((Sum.inl e.num : Key), g e.num)) (Sum.inl n) = if n ∈ es.map En.num then some (g n) else none := by
  induction es with
  | nil => rfl
  | cons e r ih =>
    rw [List.map_cons]
    by_cases q : e.num = n
    · subst q
      rw [if_pos (by simp)]
      exact valV_pos rfl
    · rw [valV_neg (by intro z; exact q (Sum.inl.inj z)), ih]
      have : (n ∈ (e :: r).map En.num) ↔ (n ∈ r.map En.num) := by
        rw [List.map_cons, List.mem_cons]
        exact ⟨fun z => z.elim (fun z => absurd z.symm q) id, .inr⟩
      by_cases m : n ∈ r.map En.num
      · rw [if_pos m, if_pos (this.mpr m)]
      · rw [if_neg m, if_neg (fun z => m (this.mp z))]
theorem stKv_get {es : List En} {e : En} (h : e ∈ es) : valV (stKv es) (Sum.inl e.num) = some (.bl (stB es e.num)) := by
  unfold stKv
  rw [stKv_val (g := fun n => .bl (stB es n)), if_pos (List.mem_map_of_mem h)]
/-- the name that counts for a day, the entries gone through ascending -/
def nmStep (es0 : List En) (f : Str) (day : Int) (o : Option Str) : En → Option Str
  | .vd _ _ => o
  | .sg n d x => if f = "sign" ∧ stB es0 n = true ∧ d = day then some x else o
  | .rl n d x => if f = "rule" ∧ stB es0 n = true ∧ d = day then some x else o
def nmI (es : List En) (f : Str) (i : Nat) (day : Int) : Option Str := (es.take i).foldl (nmStep es f day) none
/-- what was told of a day -/
def toldN (es : List En) (f : Str) (day : Int) : Option Str := es.foldl (nmStep es f day) none
theorem nmI_succ {es : List En} {f : Str} {i : Nat} {e : En} (h : es[i]? = some e) (day : Int) : nmI es f (i + 1) day = nmStep es f day (nmI es f i day) e := by
  unfold nmI
  rw [List.take_succ, h, List.foldl_append]; rfl
section
variable {P : Program} {w : World} {K : PySem.W.Frag} {mg : Str → Option Value} {base : Heap} {A : Ad}
def spNames (K : PySem.W.Frag) : Sp := fun vs H Q _ => ∃ (r s : Addr) (y : Str) (ts : List V) (es : List En) (F : Hp), vs = [.ref r, .ref s, .str y] ∧ SqT K H r ts ∧ Ex F H ∧ EsAt F ts es ∧ H s = some (.dK (stKv es)) ∧ es.length < 1000 ∧ (y = "sign" ∨ y = "rule") ∧
  ∀ (d : Addr) (H' : Hp) (kvs : List (Key × V)), Ex H H' → H d = none → H' d = some (.dK kvs) → (∀ day : Int, valV kvs (Sum.inl day) = (toldN es y day).map V.str) → Q (.ref d) H'
theorem ok_told_names (T : Txt K mg A) : FnOk P w K mg base CX0 1 A.f_told_names A.d_told_names ["rows", "stands", "form"] (spNames K) := by
  refine T.F_told_names.ok sc_told_names (fun vs H Q E h => ?_) (fun cdv Ar outer s0 H vs Q E hr h => ?_)
  · obtain ⟨r, s, y, ts, es, F, rfl, _⟩ := h; rfl
  · obtain ⟨r, s, y, ts, es, F, rfl, hs, x, EA, hS, l1, hy, k⟩ := h
    have el := EA.length
    refine ⟨_, (pss_cons (ps_set (i := 3) sc_told_names.nd rfl (Or.inl rfl) pe_dnewK)
  (pss_cons (ps_for PassesOwn.never rfl (pi_tup (pv 0)) (pg_name (i := 4) sc_told_names.nd rfl (Or.inl rfl))
   (pss_one (ps_if (PW.pt (pw_and (pt_cmpR op_eq (pe_ix ix_tup (pv 4) pe_int (fun _ _ => rfl)) (pv 2) (nomark _)) (pw_and1 (pt_val (pe_dget (hu_of hr) (pv 1) (pe_ix ix_tup (pv 4) pe_int (fun _ _ => rfl)) (fun _ _ => rfl)))))) (pss_one (ps_dput (hu_of hr) (pv 3) (pe_ix ix_tup (pv 4) pe_int (fun _ _ => rfl)) (pe_ix ix_tup (pv 4) pe_int (fun _ _ => rfl)) rfl)) pss_nil)))
  (pss_one (ps_ret (pv 3))))), ?_⟩
    dsimp only [cxOf, Cx.nox, Cx.wish]
    walk_at "go"
    intro d hd
    have e1 : Ex H (upd H d (.dK [])) := Ex.new hd
    have hs1 := _root_.Evl.ex_t e1 hs
    have hd1 : (upd H d (.dK [])) d = some (.dK []) := upd_same
    generalize upd H d (.dK []) = H1 at e1 hs1 hd1
    walk_at "go"
    refine ⟨fun i σ H' => ∃ (o : Option V) (kvs : List (Key × V)), σ = [some (.ref r), some (.ref s), some (.str y), some (.ref d), o] ∧ Ex H H' ∧ H' d = some (.dK kvs) ∧ kvs.length ≤ i ∧ ∀ day : Int, valV kvs (Sum.inl day) = (nmI es y i day).map V.str, ?_, fun i σ H' hi h => ?_, fun i v σ H2 H3 hi h y' => ?_, fun σ H' h => ?_⟩
    · exact ⟨none, [], rfl, e1, hd1, Nat.le_refl _, fun day => rfl⟩
    · obtain ⟨o, kvs, _, h2, _⟩ := h
      exact _root_.Evl.ex_t h2 hs
    · obtain ⟨o, kvs, rfl, e3, h3, h4, h5⟩ := h
      obtain ⟨rfl, hv⟩ := y'
      obtain ⟨en, hen, a, rfl, ha⟩ := paired_get EA hv
      have hT : SqT K H3 a en.vs := SqT.of (e3 _ _ (x _ _ ha))
      have hz : kvs.length < sizeLine := by rw [sizeLine_eq]; omega
      have h0 := en_at0 en
      have hg := stKv_get (List.mem_of_getElem? hen)
      have hS3 := e3 _ _ hS
      have keep : (∀ day, nmStep es y day (nmI es y i day) en = nmI es y i day) → ∃ (o : Option V) (kvs : List (Key × V)), [some (V.ref r), some (.ref s), some (.str y), some (.ref d), some (.ref a)] = [some (V.ref r), some (.ref s), some (.str y), some (.ref d), o] ∧ Ex H H3 ∧ H3 d = some (.dK kvs) ∧ kvs.length ≤ i + 1 ∧ ∀ day : Int, valV kvs (Sum.inl day) = (nmI es y (i + 1) day).map V.str := fun z => ⟨_, kvs, rfl, e3, h3, by omega, fun day => by rw [nmI_succ hen, z day]; exact h5 day⟩
      rcases hy with rfl | rfl
      all_goals
        cases en with
        | vd n o =>
          have h1 : atI (En.vd n o).vs 1 = some (.str "void") := rfl
          walk_at "goj"
          with_reducible refine i_ifJ false ?_ ?_
          · intro q hq; walk_at "go"; exact hq
          walk_at "go"
          exact keep fun day => rfl
        | sg n dd z =>
          have h1 : atI (En.sg n dd z).vs 1 = some (.str "sign") := rfl
          have h2 : atI (En.sg n dd z).vs 2 = some (.int dd) := rfl
          have h3' : atI (En.sg n dd z).vs 3 = some (.str z) := rfl
          walk_at "goj"
          first
            | (with_reducible refine i_ifJ false ?_ ?_
               · intro q hq; walk_at "go"; exact hq
               walk_at "go"
               exact keep fun day => by unfold nmStep; dsimp only; exact if_neg fun z => absurd z.1 (by decide +kernel))
            | (with_reducible refine i_ifJ (stB es n) ?_ ?_
               · intro q hq; walk_at "go"; exact hq
               refine iteB (fun c => ?_) (fun c => ?_)
               · walk_at "go"
                 refine ⟨_, _, rfl, ex_mut hd e3, upd_same, Nat.le_trans putK_le (by omega), fun day => ?_⟩
                 rw [valV_put, nmI_succ hen]
                 unfold nmStep
                 dsimp only
                 by_cases q : dd = day
                 · subst q
                   rw [if_pos rfl, if_pos ⟨rfl, c, rfl⟩]; rfl
                 · rw [if_neg (fun z => q (Sum.inl.inj z).symm), if_neg (fun z => q z.2.2)]
                   exact h5 day
               · walk_at "go"
                 exact keep fun day => by unfold nmStep; dsimp only; exact if_neg fun z => by rw [c] at z; exact absurd z.2.1 (by decide))
        | rl n dd z =>
          have h1 : atI (En.rl n dd z).vs 1 = some (.str "rule") := rfl
          have h2 : atI (En.rl n dd z).vs 2 = some (.int dd) := rfl
          have h3' : atI (En.rl n dd z).vs 3 = some (.str z) := rfl
          walk_at "goj"
          first
            | (with_reducible refine i_ifJ false ?_ ?_
               · intro q hq; walk_at "go"; exact hq
               walk_at "go"
               exact keep fun day => by unfold nmStep; dsimp only; exact if_neg fun z => absurd z.1 (by decide +kernel))
            | (with_reducible refine i_ifJ (stB es n) ?_ ?_
               · intro q hq; walk_at "go"; exact hq
               refine iteB (fun c => ?_) (fun c => ?_)
               · walk_at "go"
                 refine ⟨_, _, rfl, ex_mut hd e3, upd_same, Nat.le_trans putK_le (by omega), fun day => ?_⟩
                 rw [valV_put, nmI_succ hen]
                 unfold nmStep
                 dsimp only
                 by_cases q : dd = day
                 · subst q
                   rw [if_pos rfl, if_pos ⟨rfl, c, rfl⟩]; rfl
                 · rw [if_neg (fun z => q (Sum.inl.inj z).symm), if_neg (fun z => q z.2.2)]
                   exact h5 day
               · walk_at "go"
                 exact keep fun day => by unfold nmStep; dsimp only; exact if_neg fun z => by rw [c] at z; exact absurd z.2.1 (by decide))
    · obtain ⟨o, kvs, rfl, e3, h3, h4, h5⟩ := h
      walk_at "go"
      refine k d H' kvs e3 (ex_none (Ex.refl H) hd) h3 fun day => (h5 day).trans ?_
      unfold nmI toldN
      rw [List.take_of_length_le (by omega)]
end
end Dh
/-! K08I -/
set_option Elab.async false
set_option linter.all false
set_option maxRecDepth 100000
set_option maxHeartbeats 4000000
namespace Dh
open PySem PySem.Spec L2
open _root_.Evl (Ex)
local macro_rules | `(tactic| walk_at "ex") => `(tactic| first | assumption | ((with_reducible apply ex_mut); (focus assumption); walk_at "ex") | ((with_reducible apply ex_both); walk_at "ex") | ((with_reducible apply ex_new); (focus assumption); walk_at "ex"))
local macro_rules | `(tactic| walk_at "hp") => `(tactic| first | assumption | with_reducible exact upd_same | ((with_reducible apply upd_old); (focus assumption); walk_at "hp") | ((with_reducible apply upd_oth); (focus walk_at "neq"); walk_at "hp") | ((with_reducible apply ex_by); (focus assumption); walk_at "ex") | ((with_reducible apply ex_at); (focus assumption); walk_at "hp"))
local macro_rules | `(tactic| walk_at "neq") => `(tactic| first | assumption | (apply Ne.symm; assumption))
local macro_rules | `(tactic| walk_at "sq") => `(tactic| first | assumption | ((with_reducible apply SqL.of); walk_at "hp") | ((with_reducible apply SqT.of); walk_at "hp"))
local macro_rules | `(tactic| walk_at "side") => `(tactic| first | assumption | decide | exact cm_fmod (by decide) (by decide) | (show _ ≠ (0 : Int); decide) | (show _ ≠ (0 : Int); omega) | exact Or.inr ⟨by decide, by decide⟩ | exact Or.inl ⟨by decide, by decide⟩ | (show CDivN _ _; exact ⟨by decide, by decide⟩) | (show CDivN _ _; exact ⟨by omega, by omega⟩) | exact Or.inl ⟨by omega, by omega⟩ | exact Or.inr ⟨by omega, by omega⟩ | exact ⟨by decide, by decide, by decide⟩)
local macro_rules | `(tactic| walk_at "ix") => `(tactic| first | exact rfl | assumption | exact atI_nat (by assumption))
local macro_rules | `(tactic| walk_at "step0") => `(tactic| first
  | with_reducible refine i_seq ?_
  | with_reducible refine i_asg ?_
  | with_reducible refine i_op ?_
  | ((with_reducible refine' i_var ?hv ?_); (case hv => exact rfl))
  | with_reducible refine i_c ?_
  | with_reducible refine i_cons ?_
  | with_reducible refine i_nil ?_
  | with_reducible refine i_cb ?_
  | with_reducible refine i_call ?_
  | with_reducible refine i_call' ?_
  | with_reducible refine i_un ?_
  | with_reducible refine i_I0 ?_
  | ((with_reducible refine i_I ?hv ?_); (case hv => walk_at "side"))
  | with_reducible refine i_eqI ?_
  | with_reducible refine i_neI ?_
  | with_reducible refine i_eqS ?_
  | with_reducible refine i_neS ?_
  | ((with_reducible refine i_eq ?hv ?_); (case hv => exact rfl))
  | ((with_reducible refine i_ne ?hv ?_); (case hv => exact rfl))
  | with_reducible refine i_int1 ?_
  | with_reducible refine i_abs ?_
  | ((with_reducible refine' i_ixL ?hv ?hw ?_); (case hv => walk_at "sq"); (case hw => walk_at "ix"))
  | ((with_reducible refine' i_ixT ?hv ?hw ?_); (case hv => walk_at "sq"); (case hw => walk_at "ix"))
  | ((with_reducible refine' i_lenL ?hv ?_); (case hv => walk_at "sq"))
  | ((with_reducible refine' i_lenT ?hv ?_); (case hv => walk_at "sq"))
  | with_reducible refine i_addIB ?_
  | with_reducible refine i_mulIB ?_
  | ((with_reducible refine i_lenS ?hv ?_); (case hv => walk_at "side"))
  | with_reducible refine i_tup ?_
  | with_reducible refine i_lst ?_
  | with_reducible refine i_asgG ?_
  | with_reducible refine i_gname ?_
  | with_reducible refine i_gsub ?_
  | ((with_reducible refine' i_setL ?hv ?hw ?_); (case hv => walk_at "hp"); (case hw => exact rfl))
  | with_reducible refine i_ret ?_
  | with_reducible refine i_drop ?_
  | with_reducible refine i_next ?_
  | with_reducible refine i_test ?_
  | with_reducible refine i_B ?_
  | with_reducible refine i_bl ?_
  | with_reducible refine i_not ?_
  | with_reducible refine i_and ?_
  | with_reducible refine i_or ?_
  | ((with_reducible refine' i_app ?hv ?hw ?_); (case hv => walk_at "hp"); (case hw => walk_at "side"))
  | with_reducible refine iteT ?_
  | with_reducible refine iteF ?_
  | with_reducible refine iteNT ?_
  | with_reducible refine iteNF ?_
  | ((with_reducible refine iteT' ?hv ?_); (case hv => first | exact decide_eq_true (by assumption) | exact notF (by assumption) | exact decide_eq_true rfl | exact notF (by decide) | exact decide_eq_true (by decide) | exact decide_eq_true (by simp only [List.length_cons, List.length_nil]; decide)))
  | ((with_reducible refine iteF' ?hv ?_); (case hv => first | exact decide_eq_false (by assumption) | exact notT (by assumption) | exact notT rfl | exact decide_eq_false (by decide) | exact decide_eq_false (by simp only [List.length_cons, List.length_nil]; decide)))
  | with_reducible refine i_forL ?_
  | with_reducible refine i_forT ?_
  | with_reducible refine i_forR ?_
  | with_reducible refine i_forR2 ?_
  | with_reducible refine i_forE ?_
  | with_reducible refine i_forV ?_
  | with_reducible refine i_forS ?_
  | with_reducible refine i_forK ?_
  | with_reducible refine i_lcL ?_
  | with_reducible refine i_lcT ?_
  | with_reducible refine i_lcR ?_
  | with_reducible refine i_lcR2 ?_
  | with_reducible refine i_lcS ?_
  | with_reducible refine i_lcK ?_
  | ((with_reducible refine' fl_L ?hv ?_); (case hv => walk_at "sq"))
  | ((with_reducible refine' fl_T ?hv ?_); (case hv => walk_at "sq"))
  | ((with_reducible refine fl_R ?hv ?hw ?_); (case hv => (first | decide | omega)); (case hw => (first | decide | omega)))
  | ((with_reducible refine fl_R2 ?hv ?_); (case hv => (first | decide | (refine ⟨?_, ?_, ?_, ?_⟩ <;> omega))))
  | ((with_reducible refine' fl_E ?hv ?_); (case hv => walk_at "sq"))
  | ((with_reducible refine' fl_V ?hv ?_); (case hv => walk_at "sq"))
  | with_reducible refine fl_S ?_
  | ((with_reducible refine' fc_L ?hv ?_); (case hv => walk_at "sq"))
  | ((with_reducible refine' fc_T ?hv ?_); (case hv => walk_at "sq"))
  | ((with_reducible refine fc_R ?hv ?hw ?_); (case hv => (first | decide | omega)); (case hw => (first | decide | omega)))
  | with_reducible refine fc_S ?_
  | with_reducible refine i_sl ?_
  | with_reducible refine i_nopart ?_
  | with_reducible refine i_part ?_
  | with_reducible refine i_isint ?_
  | ((with_reducible refine' i_slL ?hv ?_); (case hv => walk_at "sq"))
  | ((with_reducible refine i_slS ?hv ?_); (case hv => walk_at "side"))
  | ((with_reducible refine' i_gtup ?hv ?hw ?_); (case hv => walk_at "sq"); (case hw => exact rfl))
  | with_reducible refine i_gcons ?_
  | with_reducible refine i_gnil ?_
  | ((with_reducible refine' i_listL ?hv ?_); (case hv => walk_at "sq"))
  | ((with_reducible refine' i_listT ?hv ?_); (case hv => walk_at "sq"))
  | ((with_reducible refine' i_tupL ?hv ?_); (case hv => walk_at "sq"))
  | ((with_reducible refine' i_lenD ?hv ?_); (case hv => walk_at "hp"))
  | ((with_reducible refine' i_ty ?hv ?_); (case hv => walk_at "hp"))
  | ((with_reducible refine And.intro ?hv ?_); (case hv => first | exact (by decide : (0 : Nat) ≤ sizeLine) | exact (by decide : (1 : Nat) ≤ sizeLine) | exact (by decide : (2 : Nat) ≤ sizeLine) | exact (by decide : (3 : Nat) ≤ sizeLine) | exact (by decide : (4 : Nat) ≤ sizeLine) | exact (by decide : (5 : Nat) ≤ sizeLine) | exact (by decide : (6 : Nat) ≤ sizeLine)))
  | with_reducible refine i_inC ?_
  | ((with_reducible refine i_addT ?hv ?_); (case hv => walk_at "side"))
  | with_reducible refine i_m1 ?_
  | with_reducible refine i_isstr ?_
  | with_reducible refine is_int_int ?_
  | with_reducible refine is_int_bool ?_
  | with_reducible refine is_str_str ?_
  | ((with_reducible refine' is_tup_tup ?hv ?_); (case hv => walk_at "hp"))
  | with_reducible refine i_ifExp ?_
  | with_reducible refine i_andV ?_
  | with_reducible refine i_orV ?_
  | with_reducible refine i_notV ?_
  | with_reducible refine i_chain ?_
  | ((with_reducible refine' i_inS ?hv ?_); (case hv => walk_at "sq"))
  | ((with_reducible refine' i_niS ?hv ?_); (case hv => walk_at "sq"))
  | ((with_reducible refine' i_inI ?hv ?_); (case hv => walk_at "sq"))
  | ((with_reducible refine' i_niI ?hv ?_); (case hv => walk_at "sq"))
  | with_reducible refine i_dnew ?_
  | with_reducible refine i_dput ?_
  | ((with_reducible refine' i_dputI ?hv ?hw ?_); (case hv => walk_at "hp"); (case hw => walk_at "side"))
  | with_reducible refine i_dget ?_
  | ((with_reducible refine' i_dgetI ?hv ?hw ?_); (case hv => walk_at "hp"); (case hw => assumption))
  | with_reducible refine i_dnotin ?_
  | with_reducible refine i_din ?_
  | ((with_reducible refine' i_dnotinI ?hv ?_); (case hv => walk_at "hp"))
  | with_reducible refine i_dsetd ?_
  | ((with_reducible refine' i_isd ?hv ?_); (case hv => walk_at "hp"))
  | with_reducible refine i_fld ?_
  | with_reducible refine i_sfld ?_
  | with_reducible refine i_dcT ?_
  | with_reducible refine i_dcL ?_
  | with_reducible refine i_truT ?_
  | ((with_reducible refine' i_truL ?hv ?_); (case hv => walk_at "sq"))
  | with_reducible refine i_revL ?_
  | ((with_reducible refine' i_atLx ?hv ?_); (case hv => walk_at "sq"))
  | with_reducible refine i_bm ?_
  | with_reducible refine i_bm0 ?_)
local macro_rules | `(tactic| walk_at "step") => `(tactic| first | walk_at "step0" | with_reducible refine i_ifS ?_)
local macro_rules | `(tactic| walk_at "goj") => `(tactic| repeat (first | walk_at "step0" | with_reducible refine i_ifS (c := tTest _) ?_ | with_reducible refine i_ifS (c := tB _) ?_))
local macro_rules | `(tactic| walk_at "tj") => `(tactic| (intro q hq; repeat (first | exact hq | walk_at "step" | (refine and_q hq (fun h => ?_); clear hq; rename_i hq) | (refine or_q hq (fun h => ?_); clear hq; rename_i hq))))
local macro_rules | `(tactic| walk_at "go") => `(tactic| repeat walk_at "step")

def shF (r s d1 d2 : Addr) : List (Str × V) := putF "_rules" (.ref d2) (putF "_signs" (.ref d1) (putF "_standing" (.ref s) (putF "_rows" (.ref r) [])))
/-- H' is H but for p -/
theorem ex_less {H H' : Hp} {p : Addr} (e : Ex (less H p) H') {a : Addr} {o : HO} (h : H a = some o) (n : a ≠ p) : H' a = some o := e a o (by rw [less_ne n]; exact h)
section
variable {P : Program} {w : World} {K : PySem.W.Frag} {mg : Str → Option Value} {base : Heap} {A : Ad}
def spShInit (K : PySem.W.Frag) (C : Addr) : Sp := fun vs H Q _ => ∃ (p dx t : Addr) (ts : List V) (es : List En) (F : Hp), vs = [.ref p, .ref t] ∧ H p = some (.ins C dx []) ∧ F p = none ∧ (SqL K (less H p) t ts ∨ SqT K (less H p) t ts) ∧ Ex F H ∧ EsAt F ts es ∧ (∀ e ∈ es, e.Ok) ∧ (es.map En.num).Nodup ∧ es.length < 64 ∧
  ∀ (r s d1 d2 : Addr) (ts' : List V) (es' : List En) (kv1 kv2 : List (Key × V)) (H' : Hp), Ex (less H p) H' → H' p = some (.ins C dx (shF r s d1 d2)) → H r = none → H s = none → H d1 = none → H d2 = none → r ≠ s → H' r = some (.tup ts') → H' s = some (.dK (stKv es')) → H' d1 = some (.dK kv1) → H' d2 = some (.dK kv2) → EsAt F ts' es' → es'.Perm es → Asc (es'.map En.num) → (∀ day : Int, valV kv1 (Sum.inl day) = (toldN es' "sign" day).map V.str) → (∀ day : Int, valV kv2 (Sum.inl day) = (toldN es' "rule" day).map V.str) → Q .non H'
theorem ok_Sheet___init__ (T : Txt K mg A) : FnOk P w K mg base CX0 5 A.f_Sheet_XinitX A.d_Sheet_XinitX ["self", "entries"] (spShInit K A.C_Sheet) := by
  refine T.F_Sheet_XinitX.ok sc_Sheet_XinitX (fun vs H Q E h => ?_) (fun cdv Ar outer s0 H vs Q E hr h => ?_)
  · obtain ⟨p, dx, t, ts, es, F, rfl, _⟩ := h; rfl
  · obtain ⟨p, dx, t, ts, es, F, rfl, hp, fp, hs, x, EA, O, nd, l64, k⟩ := h
    have x0 : Ex (less H p) H := fun a o h => by
      by_cases q : a = p
      · subst q; rw [less_same] at h; cases h
      · rw [less_ne q] at h; exact h
    have hp0 : (less H p) p = none := less_same
    refine ⟨_, (pss_cons (ps_set (i := 2) sc_Sheet_XinitX.nd rfl (Or.inl rfl) (pe_call (ok_joined T) (hr.mono (by decide)) rfl T.g_joined T.F_joined.kp T.bi_joined .nil pass0 (pa_cons (pv 1) pa_nil)))
  (pss_cons (ps_set (i := 3) sc_Sheet_XinitX.nd rfl (Or.inl rfl) (pe_call (ok_standing T) (hr.mono (by decide)) rfl T.g_standing T.F_standing.kp T.bi_standing .nil pass0 (pa_cons (pv 2) pa_nil)))
  (pss_cons (ps_fld (pv 0) (pv 2) rfl)
  (pss_cons (ps_fld (pv 0) (pv 3) rfl)
  (pss_cons (ps_fld (pv 0) (pe_call (ok_told_names T) (hr.mono (by decide)) rfl T.g_told_names T.F_told_names.kp T.bi_told_names .nil pass0 (pa_cons (pv 2) (pa_cons (pv 3) (pa_cons pe_str pa_nil)))) rfl)
  (pss_one (ps_fld (pv 0) (pe_call (ok_told_names T) (hr.mono (by decide)) rfl T.g_told_names T.F_told_names.kp T.bi_told_names .nil pass0 (pa_cons (pv 2) (pa_cons (pv 3) (pa_cons pe_str pa_nil)))) rfl))))))), ?_⟩
    dsimp only [cxOf, Cx.nox, Cx.wish]
    walk_at "go"
    refine ⟨t, ts, es, F, rfl, hs.imp (_root_.Evl.ex_l x0) (_root_.Evl.ex_t x0), x, EA, O, nd, l64, fun r ts' es' H1 e1 hr0 hr1 EA' pe asc => ?_⟩
    have el' : es'.length < 1000 := by have := pe.length_eq; omega
    have x1 := x.trans e1
    walk_at "go"
    refine ⟨r, ts', es', F, rfl, SqT.of hr1, x1, EA', asc, el', fun s H2 e2 hs0 hs1 => ?_⟩
    have hp2 := e2 _ _ (e1 _ _ hp)
    have hr2 := e2 _ _ hr1
    have pr : p ≠ r := ne_of_none hp hr0
    have ps : p ≠ s := ne_of_none (e1 _ _ hp) hs0
    have rs : r ≠ s := ne_of_none hr1 hs0
    walk_at "go"
    refine i_sfldV hp2 T.cl_Sheet T.na_Sheet__rows (by decide) ?_
    walk_at "go"
    refine i_sfldV upd_same T.cl_Sheet T.na_Sheet__standing (by show 1 < 1000; decide) ?_
    rw [upd_upd]
    have e3 : Ex (less H p) (upd H2 p (.ins A.C_Sheet dx (putF "_standing" (.ref s) (putF "_rows" (.ref r) [])))) := ex_mut hp0 (x0.trans (e1.trans e2))
    have x3 : Ex F (upd H2 p (.ins A.C_Sheet dx (putF "_standing" (.ref s) (putF "_rows" (.ref r) [])))) := ex_mut fp (x1.trans e2)
    have hr3 := upd_oth (u' := .ins A.C_Sheet dx (putF "_standing" (.ref s) (putF "_rows" (.ref r) []))) pr.symm hr2
    have hs3 := upd_oth (u' := .ins A.C_Sheet dx (putF "_standing" (.ref s) (putF "_rows" (.ref r) []))) ps.symm hs1
    have hp3 : (upd H2 p (.ins A.C_Sheet dx (putF "_standing" (.ref s) (putF "_rows" (.ref r) [])))) p = _ := upd_same
    generalize upd H2 p (.ins A.C_Sheet dx (putF "_standing" (.ref s) (putF "_rows" (.ref r) []))) = H3 at e3 x3 hr3 hs3 hp3
    walk_at "go"
    refine ⟨r, s, "sign", ts', es', F, rfl, SqT.of hr3, x3, EA', hs3, el', .inl rfl, fun d1 H4 kv1 e4 h40 h41 nm1 => ?_⟩
    have hp4 := e4 _ _ hp3
    have p1 : p ≠ d1 := ne_of_none hp3 h40
    walk_at "go"
    refine i_sfldV hp4 T.cl_Sheet T.na_Sheet__signs (by show 2 < 1000; decide) ?_
    have e5 : Ex (less H p) (upd H4 p (.ins A.C_Sheet dx (putF "_signs" (.ref d1) (putF "_standing" (.ref s) (putF "_rows" (.ref r) []))))) := ex_mut hp0 (e3.trans e4)
    have x5 : Ex F (upd H4 p (.ins A.C_Sheet dx (putF "_signs" (.ref d1) (putF "_standing" (.ref s) (putF "_rows" (.ref r) []))))) := ex_mut fp (x3.trans e4)
    have hr5 := upd_oth (u' := .ins A.C_Sheet dx (putF "_signs" (.ref d1) (putF "_standing" (.ref s) (putF "_rows" (.ref r) [])))) pr.symm (e4 _ _ hr3)
    have hs5 := upd_oth (u' := .ins A.C_Sheet dx (putF "_signs" (.ref d1) (putF "_standing" (.ref s) (putF "_rows" (.ref r) [])))) ps.symm (e4 _ _ hs3)
    have h51 := upd_oth (u' := .ins A.C_Sheet dx (putF "_signs" (.ref d1) (putF "_standing" (.ref s) (putF "_rows" (.ref r) [])))) p1.symm h41
    have hp5 : (upd H4 p (.ins A.C_Sheet dx (putF "_signs" (.ref d1) (putF "_standing" (.ref s) (putF "_rows" (.ref r) []))))) p = _ := upd_same
    generalize upd H4 p (.ins A.C_Sheet dx (putF "_signs" (.ref d1) (putF "_standing" (.ref s) (putF "_rows" (.ref r) [])))) = H5 at e5 x5 hr5 hs5 hp5 h51
    walk_at "go"
    refine ⟨r, s, "rule", ts', es', F, rfl, SqT.of hr5, x5, EA', hs5, el', .inr rfl, fun d2 H6 kv2 e6 h60 h61 nm2 => ?_⟩
    have hp6 := e6 _ _ hp5
    have p2 : p ≠ d2 := ne_of_none hp5 h60
    walk_at "go"
    refine i_sfldV hp6 T.cl_Sheet T.na_Sheet__rules (by show 3 < 1000; decide) ?_
    have no : ∀ {H' : Hp} {a : Addr}, Ex (less H p) H' → H' a = none → p ≠ a → H a = none := fun {H' a} e n q => by
      have := ex_none e n
      rw [less_ne q.symm] at this
      exact this
    walk_at "go"
    exact k r s d1 d2 ts' es' kv1 kv2 _ (ex_mut hp0 (e5.trans e6)) upd_same hr0 (ex_none e1 hs0) (no e3 h40 p1) (no e5 h60 p2) rs (upd_oth pr.symm (e6 _ _ hr5)) (upd_oth ps.symm (e6 _ _ hs5)) (upd_oth p1.symm (e6 _ _ h51)) (upd_oth p2.symm h61) EA' pe asc nm1 nm2
end
end Dh
/-! DhExc -/
set_option Elab.async false
set_option linter.all false
set_option maxRecDepth 100000
set_option maxHeartbeats 4000000
/-! Own rules: an error with fields, raised out of a method, caught with a name, asked for its class and its field; a def called within the suite. -/
namespace Dh
open PySem PySem.Spec PyProof.Rows L2
section
variable {P : Program} {w : World} {K : PySem.W.Frag} {mg : Str → Option Value} {base : Heap}
/-- a def that may let out an error whose context is None -/
theorem okN {x qual : Str} {st : Stmt} {f : Addr} {fd : FuncData} {N ps : List Str} {k : Nat} {sp : Sp} (F : Fun K x qual st f fd) (S : FnScope N ps (defScope st)) (len : ∀ vs H Q E, sp vs H Q E → vs.length = ps.length)
    (body : ∀ (cdv : Value) (A : Around) (outer : List Env) (s : Shared) (H : Hp) (vs : List V) (Q : VK) (E : XK), Room k (A.deeper (envOfC qual (defScope st) s.heap.objs.size f cdv)) → sp vs H Q E →
      ∃ t, PSs (cxOf (L2N.CX P w) P w K mg base N qual (defScope st) f cdv A outer s H E) (defBody st) t ∧ t { nx := fun _ H' => Q .non H', rt := Q } (start N vs) H) : FnOk P w K mg base (L2N.CX P w) (k + 1) f fd ps sp := by
  obtain ⟨_, _, _, _, _, _, cdv, _, _, rfl, lk, hcd⟩ := F.ex
  exact fn_of lk hcd S len fun A outer s H vs Q E => body cdv A outer s H vs Q E
/-- a def called while an error is handled, lets nothing out -/
theorem okH {x qual : Str} {st : Stmt} {f : Addr} {fd : FuncData} {N ps : List Str} {k : Nat} {sp : Sp} (F : Fun K x qual st f fd) (S : FnScope N ps (defScope st)) (len : ∀ vs H Q E, sp vs H Q E → vs.length = ps.length)
    (body : ∀ (cdv : Value) (A : Around) (outer : List Env) (s : Shared) (H : Hp) (vs : List V) (Q : VK) (E : XK) (p : Addr × Obj), L2H.RoomH k (A.deeper (envOfC qual (defScope st) s.heap.objs.size f cdv)) → sp vs H Q E →
      ∃ t, PSs (L2H.cxH CX0 P w K mg base N qual (defScope st) f cdv A outer s H E p) (defBody st) t ∧ t { nx := fun _ H' => Q .non H', rt := Q } (start N vs) H) : L2H.FnH P w K mg base CX0 (k + 1) f fd ps sp := by
  obtain ⟨_, _, _, _, _, _, cdv, _, _, rfl, lk, hcd⟩ := F.ex
  exact L2H.fn_ofH lk hcd S len fun A outer s H vs Q E p _ => body cdv A outer s H vs Q E p
/-- out of nothing -/
theorem takesN {X : Cx} : L2N.Takes X (fun _ _ _ _ => False) := fun _ _ ⟨_, _, _, _, _, _, _, _, _, _, _, _, _, _, _, _, z⟩ => z.elim
theorem passH {X : Cx} {E : L2.St → XK} (σ : L2.St) : PassesAt CX0 X σ (E σ) := fun _ _ _ _ _ _ h => h.elim
end
section
variable {X : Cx} {CX : CXT} {k : Nat} {f C : Addr} {fd : FuncData} {ps : List Str} {sp : Sp} {E : L2.St → XK} {m : Str} {pos apos : Pos} {e o : Expr} {es : List Expr} {ta : TE} {t : TA}
/-- o.m(e, ..), the wish about errors may look at the slots -/
def tMethS (C : Addr) (m : Str) (sp : Sp) (E : L2.St → XK) (ta : TE) (t : TA) : TE := fun σ H Q => ta σ H fun x H1 => ∃ a dx fs, x = .ref a ∧ H1 a = some (.ins C dx fs) ∧ fs.lookup m = none ∧ t σ H1 fun vs H2 => sp (x :: vs) H2 Q (E σ)
theorem pe_methE {pl : Sem Bool} (he : PE X o ta) (c : Cls X.K C) (hm : Meth X.K C m f) (F : FnOk X.prog X.w X.K X.mg X.base CX k f fd ps sp) (hr : Room k X.A) (hb : Binds X.K fd ps []) (hx : ∀ σ, PassesAt CX X σ (E σ)) (ha : PA X (e :: es) t)
    (hst : starEach (e :: es) X.env = (false, eval e X.env) :: starEach es X.env := by rfl) (hpl : (backTo pos (starEach es X.env)).any (·.1) = false := by rfl)
    (ht : eval (.Call (.Attribute o m apos) (e :: es) [] pos) X.env = (do
      let ov ← eval o X.env
      standAt apos.atName
      let (f, first) ← holding [ov] (getMethod ov m pl)
      callWith pos f first (backTo pos (starEach (e :: es) X.env)) (backToKw pos (keywordEach [] X.env))) := by rfl) :
    PE X (.Call (.Attribute o m apos) (e :: es) [] pos) (tMethS C m sp E ta t) :=
  ⟨fun pins s σ H Q I h => PySem.W.methodCall_KW (pl := pl) (thn (he.run pins s σ H _ I h) fun u s1 ⟨x, H1, I1, rx, a, dx, fs, ex, ea, l, q⟩ => by
    subst ex
    cases (show u = Value.ref a from rx)
    exact getmeth_ok I1 ea c hm l (PySem.W.callWith_K (first := [.ref a]) (h₀ := X.base) I.ok.mod.kin hm.kp (thn (ha.run pos pins s1 σ H1 _ I1 q) fun us s2 ⟨vs, H2, I2, r, q2⟩ =>
      ⟨I2.kIn, run_fnS (us := .ref a :: us) (vs := .ref a :: vs) F hr hb (hx σ) I2 (.cons rfl r) q2⟩) hst hpl)) ht⟩
end
section
variable {X : Cx}
/-- isinstance(error, c), the caught error has its dict at dd -/
def rIsX (K : PySem.W.Frag) (D dd a : Addr) : List V → Hp → VK → Prop := fun xs H Q => ∃ (c : V) (cv : Value) (b : Bool) (fs : List (Str × V)), xs = [.ref a, c] ∧ (∀ u, RelV c u → u = cv) ∧ PySem.W.kitOne K (.ref D) cv = some b ∧ H dd = some (.xd fs) ∧ Q (.bl b) H
theorem call_isX {a D dd : Addr} {oe : Obj} {cls : Value} {d : Option Addr} {pn : List (Addr × Obj)} (C : ExcC X.K D) (hz : Zc cls d oe) (hf : ∃ vs, oe.data = .fields vs) : CallR (X.suite a ((a, oe) :: pn)) (.builtin "isinstance") (fun xs H Q => cls = .ref D ∧ d = some dd ∧ rIsX X.K D dd a xs H Q) := by
  intro pins s σ H xs us Q I r h
  obtain ⟨ec, ed, c, cv, b, fs, rfl, hcv, e, hx, q⟩ := h
  subst ec ed
  obtain ⟨u1, u2, rfl, r1, r2⟩ := vals2 r
  cases (show u1 = Value.ref a from r1)
  cases hcv _ r2
  obtain ⟨ha, _⟩ := I.pin (a, oe) (List.mem_append_left _ List.mem_cons_self)
  obtain ⟨vs, hd⟩ := hf
  have ho : ObjOk X.prog X.w H s.heap dd (.xd fs) := I.hok dd _ hx
  obtain ⟨mA, hns, _⟩ := ho
  obtain ⟨od, hod, _⟩ := lookIn_ns hns
  have J : PySem.W.InstAt s.heap a oe D (some od) := ⟨ha, hz.1, by unfold PySem.W.notCls; rw [hd] <;> rfl, by rw [hz.2]; exact hod⟩
  have hcl : (PySem.W.clsIn X.K D).isSome = true := by
    obtain ⟨cd, hc, _⟩ := PySem.W.any_some C.hd
    rw [hc]; rfl
  exact PySem.W.kia_one (PySem.W.kitx_exc hcl C.hg C.hk C.hs C.ha C.hn C.ht C.hm) I.kIn J e (fun z => nomatch z) fun tk => ⟨.bl b, H, I.kept (t' := tk) fun _ _ z => z, rfl, q⟩
end
/-- C(e, ..), C's own __init__ keeping sp; the error's context is None -/
theorem mkN {X : Cx} {CX : CXT} {x : Str} {C fI : Addr} {k : Nat} {fd : FuncData} {ps : List Str} {sp : Sp} {e : Expr} {es : List Expr} {ta : TA} {p pos : Pos} (T : OexC X.K C) (iC : PySem.W.findIn X.K (.ref C) "__init__" = some (some (.ref fI))) (tI : PySem.W.typeIn X.K (.ref fI) = some (.type "function"))
    (F1 : FnOk X.prog X.w X.K X.mg X.base CX k fI fd ps sp) (hr : Room (k + 1) X.A) (hb : Binds X.K fd ps []) (hx : Passes CX X (fun _ _ _ => False)) (hg : Gl X x) (hm : X.mg x = some (.ref C)) (ha : PA X (e :: es) ta)
    (hdb : (x == ("__debug__" : Str)) = false := by decide) (he : starEach (e :: es) X.env = (false, eval e X.env) :: starEach es X.env := by rfl) (hpl : (backTo pos (starEach es X.env)).any (·.1) = false := by rfl) :
    L2N.PMk X (.Call (.Name x p) (e :: es) [] pos) (tMkO C sp [] ta) := by
  intro pins s σ H Q I h
  obtain ⟨nm0, qn0, N0, bs0, bm, sn0, sub0, ab0, col0, dd0, k00, k01, k02, k03, k05, hC, hbm⟩ := T.cls
  refine wpAny_Call_Name_kw (ld_glob I hg hm ?_ hdb)
  refine PySem.W.callWith_K (h₀ := X.base) I.ok.mod.kin T.kC (thn (ha.run pos pins s σ H _ I h) fun us s1 hv => ?_) he hpl
  obtain ⟨vs, H1, I1, r1, hz, q1⟩ := hv
  refine ⟨I1.kIn, ?_⟩
  obtain ⟨hp, g, dr, tk, os⟩ := s1
  have sz : hp.objs.size ≤ hp.objs.size + 1 := Nat.le_succ _
  have kk : ∀ b o, hp.get? b = some o → ((hp.push (PySem.W.kdv_tup us)).push (PySem.HandSPX.excO C hp.objs.size)).get? b = some o := fun b o z => Heap.get?_push_of_some _ (Heap.get?_push_of_some _ z)
  have gg : ((hp.push (PySem.W.kdv_tup us)).push (PySem.HandSPX.excO C hp.objs.size)).get? (hp.objs.size + 1) = some (PySem.HandSPX.excO C hp.objs.size) := by heap_get
  have I2 : Inv X pins σ (upd H1 (hp.objs.size + 1) (exo (hp.objs.size + 1) C none)) ⟨((hp.push (PySem.W.kdv_tup us)).push (PySem.HandSPX.excO C hp.objs.size)), g, dr, tk, os⟩ := I1.laid kk sz (exo_ok gg)
  have hq := q1 (hp.objs.size + 1) (I1.hok.fresh sz)
  rw [List.append_nil] at hq
  have r2 : Vals (V.ref (hp.objs.size + 1) :: vs) (Value.ref (hp.objs.size + 1) :: us) := .cons rfl r1
  have hl : (Value.ref (hp.objs.size + 1) :: us ++ []).length = ps.length := by
    rw [List.append_nil, ← F1.len _ _ _ _ hq]
    exact r2.length.symm
  have b2 := hb ⟨((hp.push (PySem.W.kdv_tup us)).push (PySem.HandSPX.excO C hp.objs.size)), g, dr, tk, os⟩ (Value.ref (hp.objs.size + 1) :: us) I2.kIn hl
  rw [List.append_nil] at b2
  have hus : us.length ≤ sizeLine := by rw [← Paired.length r1, sizeLine_eq]; omega
  refine wpAny_call (PySem.HandSPX.call_own F.excBase_ValueError (fun Y => PySem.HandSPX.refsVE_contains Y bm hbm) (I1.kIn _ _ hC) (PySem.W.looks_findIn I1.kIn iC) (fun self => PySem.W.bind_fn I1.kIn self tI) hus
    (codeAny_mono (F1.run _ X.stack _ _ ⟨Value.ref (hp.objs.size + 1) :: us, []⟩ _ _ _ (fun _ _ _ => False) (hr.make C us []) (I2.env0.make C us []) b2 r2 hq) fun r s' hq' => ?_))
  match r, hq' with
  | .error er, hq' => exact hx pins σ _ _ er s' I2 hq'
  | .ok (.ret u), hq' =>
    obtain ⟨v, H2, os2, bare2, un2, hok2, rv, ev, d, fs, ea, ed, hd1, q2⟩ := hq'
    subst ev
    obtain ⟨h2, g2, d2, t2, os'⟩ := s'
    obtain ⟨t0, G, J, kG, ge, hoe, na⟩ := mk_end0 (d2 := d2) (t2 := t2) I1 sz kk un2 hok2 os2 bare2 ea ed hd1
    exact ⟨rv, hp.objs.size + 1, _, _, ⟨G, g2, d2, t2, os'⟩, _, .ref C, some d, rfl, J, kG, ge, hoe, ⟨rfl, rfl, fun vs hv => by cases hv; rfl⟩, rfl, rfl, na, rfl, bare2, raises_own T.exC T.tyC, q2⟩
def ddOf (d : Option Addr) : Addr := d.getD 0
theorem hotc {X : Cx} {a : Addr} {oe : Obj} {cls : Value} {d : Option Addr} {pn : List (Addr × Obj)} (hz : L2N.Zn cls d oe) (hf : ∃ vs, oe.data = .fields vs) : L2H.HotC (X.suite a ((a, oe) :: pn)) :=
  ⟨(a, oe), ⟨rfl, by obtain ⟨vs, h⟩ := hf; exact ⟨vs, h, hz.2.2 vs h⟩⟩, List.mem_cons_self⟩
theorem rh {k : Nat} {A : Around} {h : Option Value} (r : Room k A) : L2H.RoomH k (A.mark h) := ⟨r.dp, r.un⟩
theorem i_fldR {K : PySem.W.Frag} {H : Hp} {v : V} {a C dx : Addr} {fs : List (Str × V)} {f : Str} {r : V → Prop} (h : H a = some (.ins C dx fs)) (c : Cls K C) (n : NoAttr K C f) (l : fs.lookup f = some v) (k : r v) : ∃ a' C dx fs v, V.ref a = .ref a' ∧ H a' = some (.ins C dx fs) ∧ Cls K C ∧ NoAttr K C f ∧ fs.lookup f = some v ∧ r v := ⟨a, C, dx, fs, v, rfl, h, c, n, l, k⟩
end Dh
/-! K08L -/
set_option Elab.async false
set_option linter.all false
set_option maxRecDepth 100000
set_option maxHeartbeats 4000000
namespace Dh
open PySem PySem.Spec L2
open _root_.Evl (Ex)
local macro_rules | `(tactic| walk_at "ex") => `(tactic| first | assumption | ((with_reducible apply ex_mut); (focus assumption); walk_at "ex") | ((with_reducible apply ex_both); walk_at "ex") | ((with_reducible apply ex_new); (focus assumption); walk_at "ex"))
local macro_rules | `(tactic| walk_at "hp") => `(tactic| first | assumption | with_reducible exact upd_same | ((with_reducible apply upd_old); (focus assumption); walk_at "hp") | ((with_reducible apply upd_oth); (focus walk_at "neq"); walk_at "hp") | ((with_reducible apply ex_by); (focus assumption); walk_at "ex") | ((with_reducible apply ex_at); (focus assumption); walk_at "hp"))
local macro_rules | `(tactic| walk_at "neq") => `(tactic| first | assumption | (apply Ne.symm; assumption))
local macro_rules | `(tactic| walk_at "sq") => `(tactic| first | assumption | ((with_reducible apply SqL.of); walk_at "hp") | ((with_reducible apply SqT.of); walk_at "hp"))
local macro_rules | `(tactic| walk_at "side") => `(tactic| first | assumption | decide | exact cm_fmod (by decide) (by decide) | (show _ ≠ (0 : Int); decide) | (show _ ≠ (0 : Int); omega) | exact Or.inr ⟨by decide, by decide⟩ | exact Or.inl ⟨by decide, by decide⟩ | (show CDivN _ _; exact ⟨by decide, by decide⟩) | (show CDivN _ _; exact ⟨by omega, by omega⟩) | exact Or.inl ⟨by omega, by omega⟩ | exact Or.inr ⟨by omega, by omega⟩ | exact ⟨by decide, by decide, by decide⟩)
local macro_rules | `(tactic| walk_at "ix") => `(tactic| first | exact rfl | assumption | exact atI_nat (by assumption))
local macro_rules | `(tactic| walk_at "step0") => `(tactic| first
  | with_reducible refine i_seq ?_
  | with_reducible refine i_asg ?_
  | with_reducible refine i_op ?_
  | ((with_reducible refine' i_var ?hv ?_); (case hv => exact rfl))
  | with_reducible refine i_c ?_
  | with_reducible refine i_cons ?_
  | with_reducible refine i_nil ?_
  | with_reducible refine i_cb ?_
  | with_reducible refine i_call ?_
  | with_reducible refine i_call' ?_
  | with_reducible refine i_un ?_
  | with_reducible refine i_I0 ?_
  | ((with_reducible refine i_I ?hv ?_); (case hv => walk_at "side"))
  | with_reducible refine i_eqI ?_
  | with_reducible refine i_neI ?_
  | with_reducible refine i_eqS ?_
  | with_reducible refine i_neS ?_
  | ((with_reducible refine i_eq ?hv ?_); (case hv => exact rfl))
  | ((with_reducible refine i_ne ?hv ?_); (case hv => exact rfl))
  | with_reducible refine i_int1 ?_
  | with_reducible refine i_abs ?_
  | ((with_reducible refine' i_ixL ?hv ?hw ?_); (case hv => walk_at "sq"); (case hw => walk_at "ix"))
  | ((with_reducible refine' i_ixT ?hv ?hw ?_); (case hv => walk_at "sq"); (case hw => walk_at "ix"))
  | ((with_reducible refine' i_lenL ?hv ?_); (case hv => walk_at "sq"))
  | ((with_reducible refine' i_lenT ?hv ?_); (case hv => walk_at "sq"))
  | with_reducible refine i_addIB ?_
  | with_reducible refine i_mulIB ?_
  | ((with_reducible refine i_lenS ?hv ?_); (case hv => walk_at "side"))
  | with_reducible refine i_tup ?_
  | with_reducible refine i_lst ?_
  | with_reducible refine i_asgG ?_
  | with_reducible refine i_gname ?_
  | with_reducible refine i_gsub ?_
  | ((with_reducible refine' i_setL ?hv ?hw ?_); (case hv => walk_at "hp"); (case hw => exact rfl))
  | with_reducible refine i_ret ?_
  | with_reducible refine i_drop ?_
  | with_reducible refine i_next ?_
  | with_reducible refine i_test ?_
  | with_reducible refine i_B ?_
  | with_reducible refine i_bl ?_
  | with_reducible refine i_not ?_
  | with_reducible refine i_and ?_
  | with_reducible refine i_or ?_
  | ((with_reducible refine' i_app ?hv ?hw ?_); (case hv => walk_at "hp"); (case hw => walk_at "side"))
  | with_reducible refine iteT ?_
  | with_reducible refine iteF ?_
  | with_reducible refine iteNT ?_
  | with_reducible refine iteNF ?_
  | ((with_reducible refine iteT' ?hv ?_); (case hv => first | exact decide_eq_true (by assumption) | exact notF (by assumption) | exact decide_eq_true rfl | exact notF (by decide) | exact decide_eq_true (by decide) | exact decide_eq_true (by simp only [List.length_cons, List.length_nil]; decide)))
  | ((with_reducible refine iteF' ?hv ?_); (case hv => first | exact decide_eq_false (by assumption) | exact notT (by assumption) | exact notT rfl | exact decide_eq_false (by decide) | exact decide_eq_false (by simp only [List.length_cons, List.length_nil]; decide)))
  | with_reducible refine i_forL ?_
  | with_reducible refine i_forT ?_
  | with_reducible refine i_forR ?_
  | with_reducible refine i_forR2 ?_
  | with_reducible refine i_forE ?_
  | with_reducible refine i_forV ?_
  | with_reducible refine i_forS ?_
  | with_reducible refine i_forK ?_
  | with_reducible refine i_lcL ?_
  | with_reducible refine i_lcT ?_
  | with_reducible refine i_lcR ?_
  | with_reducible refine i_lcR2 ?_
  | with_reducible refine i_lcS ?_
  | with_reducible refine i_lcK ?_
  | ((with_reducible refine' fl_L ?hv ?_); (case hv => walk_at "sq"))
  | ((with_reducible refine' fl_T ?hv ?_); (case hv => walk_at "sq"))
  | ((with_reducible refine fl_R ?hv ?hw ?_); (case hv => (first | decide | omega)); (case hw => (first | decide | omega)))
  | ((with_reducible refine fl_R2 ?hv ?_); (case hv => (first | decide | (refine ⟨?_, ?_, ?_, ?_⟩ <;> omega))))
  | ((with_reducible refine' fl_E ?hv ?_); (case hv => walk_at "sq"))
  | ((with_reducible refine' fl_V ?hv ?_); (case hv => walk_at "sq"))
  | with_reducible refine fl_S ?_
  | ((with_reducible refine' fc_L ?hv ?_); (case hv => walk_at "sq"))
  | ((with_reducible refine' fc_T ?hv ?_); (case hv => walk_at "sq"))
  | ((with_reducible refine fc_R ?hv ?hw ?_); (case hv => (first | decide | omega)); (case hw => (first | decide | omega)))
  | with_reducible refine fc_S ?_
  | with_reducible refine i_sl ?_
  | with_reducible refine i_nopart ?_
  | with_reducible refine i_part ?_
  | with_reducible refine i_isint ?_
  | ((with_reducible refine' i_slL ?hv ?_); (case hv => walk_at "sq"))
  | ((with_reducible refine i_slS ?hv ?_); (case hv => walk_at "side"))
  | ((with_reducible refine' i_gtup ?hv ?hw ?_); (case hv => walk_at "sq"); (case hw => exact rfl))
  | with_reducible refine i_gcons ?_
  | with_reducible refine i_gnil ?_
  | ((with_reducible refine' i_listL ?hv ?_); (case hv => walk_at "sq"))
  | ((with_reducible refine' i_listT ?hv ?_); (case hv => walk_at "sq"))
  | ((with_reducible refine' i_tupL ?hv ?_); (case hv => walk_at "sq"))
  | ((with_reducible refine' i_lenD ?hv ?_); (case hv => walk_at "hp"))
  | ((with_reducible refine' i_ty ?hv ?_); (case hv => walk_at "hp"))
  | ((with_reducible refine And.intro ?hv ?_); (case hv => first | exact (by decide : (0 : Nat) ≤ sizeLine) | exact (by decide : (1 : Nat) ≤ sizeLine) | exact (by decide : (2 : Nat) ≤ sizeLine) | exact (by decide : (3 : Nat) ≤ sizeLine) | exact (by decide : (4 : Nat) ≤ sizeLine) | exact (by decide : (5 : Nat) ≤ sizeLine) | exact (by decide : (6 : Nat) ≤ sizeLine)))
  | with_reducible refine i_inC ?_
  | ((with_reducible refine i_addT ?hv ?_); (case hv => walk_at "side"))
  | with_reducible refine i_m1 ?_
  | with_reducible refine i_isstr ?_
  | with_reducible refine is_int_int ?_
  | with_reducible refine is_int_bool ?_
  | with_reducible refine is_str_str ?_
  | ((with_reducible refine' is_tup_tup ?hv ?_); (case hv => walk_at "hp"))
  | with_reducible refine i_ifExp ?_
  | with_reducible refine i_andV ?_
  | with_reducible refine i_orV ?_
  | with_reducible refine i_notV ?_
  | with_reducible refine i_chain ?_
  | ((with_reducible refine' i_inS ?hv ?_); (case hv => walk_at "sq"))
  | ((with_reducible refine' i_niS ?hv ?_); (case hv => walk_at "sq"))
  | ((with_reducible refine' i_inI ?hv ?_); (case hv => walk_at "sq"))
  | ((with_reducible refine' i_niI ?hv ?_); (case hv => walk_at "sq"))
  | with_reducible refine i_dnew ?_
  | with_reducible refine i_dput ?_
  | ((with_reducible refine' i_dputI ?hv ?hw ?_); (case hv => walk_at "hp"); (case hw => walk_at "side"))
  | with_reducible refine i_dget ?_
  | ((with_reducible refine' i_dgetI ?hv ?hw ?_); (case hv => walk_at "hp"); (case hw => assumption))
  | with_reducible refine i_dnotin ?_
  | with_reducible refine i_din ?_
  | ((with_reducible refine' i_dnotinI ?hv ?_); (case hv => walk_at "hp"))
  | with_reducible refine i_dsetd ?_
  | ((with_reducible refine' i_isd ?hv ?_); (case hv => walk_at "hp"))
  | with_reducible refine i_fld ?_
  | with_reducible refine i_sfld ?_
  | with_reducible refine i_dcT ?_
  | with_reducible refine i_dcL ?_
  | with_reducible refine i_truT ?_
  | ((with_reducible refine' i_truL ?hv ?_); (case hv => walk_at "sq"))
  | with_reducible refine i_revL ?_
  | ((with_reducible refine' i_atLx ?hv ?_); (case hv => walk_at "sq"))
  | with_reducible refine i_bm ?_
  | with_reducible refine i_bm0 ?_)
local macro_rules | `(tactic| walk_at "step") => `(tactic| first | walk_at "step0" | with_reducible refine i_ifS ?_)
local macro_rules | `(tactic| walk_at "goj") => `(tactic| repeat (first | walk_at "step0" | with_reducible refine i_ifS (c := tTest _) ?_ | with_reducible refine i_ifS (c := tB _) ?_))
local macro_rules | `(tactic| walk_at "tj") => `(tactic| (intro q hq; repeat (first | exact hq | walk_at "step" | (refine and_q hq (fun h => ?_); clear hq; rename_i hq) | (refine or_q hq (fun h => ?_); clear hq; rename_i hq))))
local macro_rules | `(tactic| walk_at "go") => `(tactic| repeat walk_at "step")

section
variable {P : Program} {w : World} {K : PySem.W.Frag} {mg : Str → Option Value} {base : Heap} {A : Ad}
theorem shF_r {r s d1 d2 : Addr} : (shF r s d1 d2).lookup ("_rows" : Str) = some (.ref r) := by
  unfold shF
  rw [lookup_putF, if_neg (by decide +kernel), lookup_putF, if_neg (by decide +kernel), lookup_putF, if_neg (by decide +kernel), lookup_putF, if_pos rfl]
theorem shF_s {r s d1 d2 : Addr} : (shF r s d1 d2).lookup ("_standing" : Str) = some (.ref s) := by
  unfold shF
  rw [lookup_putF, if_neg (by decide +kernel), lookup_putF, if_neg (by decide +kernel), lookup_putF, if_pos rfl]
theorem shF_1 {r s d1 d2 : Addr} : (shF r s d1 d2).lookup ("_signs" : Str) = some (.ref d1) := by
  unfold shF
  rw [lookup_putF, if_neg (by decide +kernel), lookup_putF, if_pos rfl]
theorem shF_2 {r s d1 d2 : Addr} : (shF r s d1 d2).lookup ("_rules" : Str) = some (.ref d2) := by
  unfold shF
  rw [lookup_putF, if_pos rfl]
theorem shF_eq {r s d1 d2 : Addr} : shF r s d1 d2 = ([("_rows", .ref r), ("_standing", .ref s), ("_signs", .ref d1), ("_rules", .ref d2)] : List (Str × V)) := by
  unfold shF
  simp only [putF]
  rw [if_neg (by decide +kernel)]
  simp only [putF]
  rw [if_neg (by decide +kernel), if_neg (by decide +kernel)]
  simp only [putF]
  rw [if_neg (by decide +kernel), if_neg (by decide +kernel), if_neg (by decide +kernel)]
theorem shP_r {r s d1 d2 r' : Addr} : putF "_rows" (.ref r') (shF r s d1 d2) = shF r' s d1 d2 := by
  rw [shF_eq, shF_eq]
  simp only [putF, if_true]
theorem shP_s {r s d1 d2 r' : Addr} : putF "_standing" (.ref r') (shF r s d1 d2) = shF r r' d1 d2 := by
  rw [shF_eq, shF_eq]
  simp only [putF, if_true]
  rw [if_neg (by decide +kernel)]
theorem shP_1 {r s d1 d2 r' : Addr} : putF "_signs" (.ref r') (shF r s d1 d2) = shF r s r' d2 := by
  rw [shF_eq, shF_eq]
  simp only [putF, if_true]
  rw [if_neg (by decide +kernel), if_neg (by decide +kernel)]
theorem shP_2 {r s d1 d2 r' : Addr} : putF "_rules" (.ref r') (shF r s d1 d2) = shF r s d1 r' := by
  rw [shF_eq, shF_eq]
  simp only [putF, if_true]
  rw [if_neg (by decide +kernel), if_neg (by decide +kernel), if_neg (by decide +kernel)]
theorem shF_len {r s d1 d2 : Addr} : (shF r s d1 d2).length < 1000 := by rw [shF_eq]; show 4 < 1000; decide
theorem i_catA {a b : Addr} {xs ys : List V} {H : Hp} {Q : VK} (ha : SqT K H a xs) (hb : SqT K H b ys) (hz : xs.length + ys.length ≤ sizeLine) (k : ∀ (t : Addr) (H1 : Hp), Ex H H1 → SqT K H1 t (xs ++ ys) → Q (.ref t) H1) : rCatA K (.ref a) (.ref b) H Q := by
  refine ⟨a, b, xs, ys, rfl, rfl, ha, hb, hz, fun e => ?_, fun _ e => ?_, fun _ _ p hp => k p _ (Ex.new hp) (SqT.of upd_same)⟩
  · subst e; exact k b H (Ex.refl H) hb
  · subst e; exact k a H (Ex.refl H) (by rw [List.append_nil]; exact ha)
theorem i_make {C : Addr} {sp : Sp} {dvs : List V} {E : XK} {t : TA} {σ : L2.St} {H : Hp} {Q : VK} (h : t σ H fun vs H1 => ∀ x dx, H1 x = none → H1 dx = none → dx ≠ x → sp (.ref x :: (vs ++ dvs)) (upd (upd H1 dx (.own x)) x (.ins C dx [])) (fun v H2 => v = .non ∧ Q (.ref x) H2) E) : tMake C sp dvs E t σ H Q := h
/-- a sheet as it stands: the object and its four parts -/
structure ShO (H : Hp) (C dx p r s d1 d2 : Addr) (ts : List V) (es : List En) : Prop where
  hp : H p = some (.ins C dx (shF r s d1 d2))
  hr : H r = some (.tup ts)
  hs : H s = some (.dK (stKv es))
  h1 : ∃ kv, H d1 = some (.dK kv) ∧ ∀ day : Int, valV kv (Sum.inl day) = (toldN es "sign" day).map V.str
  h2 : ∃ kv, H d2 = some (.dK kv) ∧ ∀ day : Int, valV kv (Sum.inl day) = (toldN es "rule" day).map V.str
theorem ShO.ex {H H' : Hp} {C dx p r s d1 d2 : Addr} {ts : List V} {es : List En} (e : Ex H H') (O : ShO H C dx p r s d1 d2 ts es) : ShO H' C dx p r s d1 d2 ts es := by
  obtain ⟨k1, a1, b1⟩ := O.h1
  obtain ⟨k2, a2, b2⟩ := O.h2
  exact ⟨e _ _ O.hp, e _ _ O.hr, e _ _ O.hs, ⟨k1, e _ _ a1, b1⟩, ⟨k2, e _ _ a2, b2⟩⟩
theorem i_mk {H1 F : Hp} {C t : Addr} {ts : List V} {es : List En} {R : Addr → Hp → Prop} {E : XK} (hs : SqL K H1 t ts ∨ SqT K H1 t ts) (x : Ex F H1) (EA : EsAt F ts es) (O : ∀ e ∈ es, e.Ok) (nd : (es.map En.num).Nodup) (l64 : es.length < 64)
    (k : ∀ (p dx r s d1 d2 : Addr) (ts' : List V) (es' : List En) (H2 : Hp), Ex H1 H2 → H1 p = none → ShO H2 C dx p r s d1 d2 ts' es' → H1 r = none → H1 s = none → H1 d1 = none → H1 d2 = none → p ≠ r → p ≠ s → p ≠ d1 → p ≠ d2 → EsAt F ts' es' → es'.Perm es → Asc (es'.map En.num) → R p H2) :
    ∀ p dx, H1 p = none → H1 dx = none → dx ≠ p → spShInit K C (.ref p :: ([.ref t] ++ [])) (upd (upd H1 dx (.own p)) p (.ins C dx [])) (fun v H2 => v = .non ∧ R p H2) E := by
  intro p dx hp hdx ne
  have e1 : Ex H1 (upd (upd H1 dx (.own p)) p (.ins C dx [])) := ex_mut hp (Ex.new hdx)
  have e2 : Ex H1 (less (upd (upd H1 dx (.own p)) p (.ins C dx [])) p) := fun a o h => by
    have q : a ≠ p := ne_of_none h hp
    rw [less_ne q]
    exact e1 a o h
  refine ⟨p, dx, t, ts, es, F, rfl, upd_same, ex_none x hp, hs.imp (_root_.Evl.ex_l e2) (_root_.Evl.ex_t e2), x.trans e1, EA, O, nd, l64, fun r s d1 d2 ts' es' kv1 kv2 H' e h1 hr hs' hd1 hd2 rs h2 h3 h4 h5 EA' pe asc nm1 nm2 => ⟨rfl, ?_⟩⟩
  exact k p dx r s d1 d2 ts' es' H' (e2.trans e) hp ⟨h1, h2, h3, ⟨kv1, h4, nm1⟩, ⟨kv2, h5, nm2⟩⟩ (ex_none e1 hr) (ex_none e1 hs') (ex_none e1 hd1) (ex_none e1 hd2) (ne_of_none upd_same hr) (ne_of_none upd_same hs') (ne_of_none upd_same hd1) (ne_of_none upd_same hd2) EA' pe asc
def spIor (K : PySem.W.Frag) (C : Addr) : Sp := fun vs H Q _ => ∃ (p q dx r s d1 d2 dx' r' s' d1' d2' : Addr) (ts ts' : List V) (es es' : List En) (F : Hp), vs = [.ref p, .ref q] ∧ p ≠ q ∧ F p = none ∧ Ex F H ∧
  H p = some (.ins C dx (shF r s d1 d2)) ∧ H r = some (.tup ts) ∧ EsAt F ts es ∧ H q = some (.ins C dx' (shF r' s' d1' d2')) ∧ H r' = some (.tup ts') ∧ EsAt F ts' es' ∧ (∀ e ∈ es ++ es', e.Ok) ∧ ((es ++ es').map En.num).Nodup ∧ (es ++ es').length < 64 ∧
  ∀ (r s d1 d2 : Addr) (ts2 : List V) (es2 : List En) (H' : Hp), Ex (less H p) H' → H r = none → H s = none → H d1 = none → H d2 = none → ShO H' C dx p r s d1 d2 ts2 es2 → EsAt F ts2 es2 → es2.Perm (es ++ es') → Asc (es2.map En.num) → Q (.ref p) H'
end
end Dh
/-! Mir -/
set_option Elab.async false
set_option linter.all false
set_option maxRecDepth 100000
set_option maxHeartbeats 4000000
namespace Mi
open PySem PySem.Spec L2 Dh
open _root_.Evl (Ex)
/-! ### what a value is worth -/
structure R (α : Type) where
  h : α → V → Hp → Prop
  ex : ∀ {a v F F'}, Ex F F' → h a v F → h a v F'
def rInt : R Int := ⟨fun i v _ => v = .int i, fun _ h => h⟩
def rBl : R Bool := ⟨fun i v _ => v = .bl i, fun _ h => h⟩
def rStr : R Str := ⟨fun i v _ => v = .str i, fun _ h => h⟩
def rNon : R Unit := ⟨fun _ v _ => v = .non, fun _ h => h⟩
def rAt (p : Addr) : R Unit := ⟨fun _ v _ => v = .ref p, fun _ h => h⟩
def All {α : Type} (r : R α) (F : Hp) : List α → List V → Prop := Paired fun a v => r.h a v F
theorem All.ex {α : Type} {r : R α} {F F' : Hp} (e : Ex F F') {xs : List α} {vs : List V} (h : All r F xs vs) : All r F' xs vs := Paired.mapP h fun _ _ q => r.ex e q
theorem All.len {α : Type} {r : R α} {F : Hp} {xs : List α} {vs : List V} (h : All r F xs vs) : vs.length = xs.length := (Paired.length h).symm
def rLst {α : Type} (r : R α) : R (List α) := ⟨fun xs v F => ∃ p vs, v = .ref p ∧ F p = some (.lst vs) ∧ All r F xs vs, fun e ⟨p, vs, h1, h2, h3⟩ => ⟨p, vs, h1, e _ _ h2, h3.ex e⟩⟩
def rTup (K : PySem.W.Frag) {α : Type} (r : R α) : R (List α) := ⟨fun xs v F => ∃ p vs, v = .ref p ∧ SqT K F p vs ∧ All r F xs vs, fun e ⟨p, vs, h1, h2, h3⟩ => ⟨p, vs, h1, _root_.Evl.ex_t e h2, h3.ex e⟩⟩
/-! ### what a cell is worth -/
structure C (α : Type) where
  h : α → HO → Hp → Prop
  ex : ∀ {a u F F'}, Ex F F' → h a u F → h a u F'
def cLst {α : Type} (r : R α) : C (List α) := ⟨fun xs u F => ∃ vs, u = .lst vs ∧ All r F xs vs, fun e ⟨vs, h1, h2⟩ => ⟨vs, h1, h2.ex e⟩⟩
def BgL (F : Hp) (l : List V) : Prop := ∃ (n : Addr) (ns : List Int) (i h t s : Int), l = [.ref n, .int i, .int h, .int t, .int s] ∧ F n = some (.lst (ns.map V.int)) ∧ 0 ≤ i ∧ 0 ≤ h
def cBag : C Unit := ⟨fun _ u F => ∃ l, u = .lst l ∧ BgL F l, fun e ⟨l, h1, ⟨n, ns, i, h, t, s, h2, h3, h4⟩⟩ => ⟨l, h1, n, ns, i, h, t, s, h2, e _ _ h3, h4⟩⟩
/-! ### slots -/
structure Sl where
  h : Option V → Hp → Hp → Prop
  ow : List Addr
  up : ∀ {o F H F' H'}, Ex F F' → (∀ p ∈ ow, ∀ u, H p = some u → H' p = some u) → h o F H → h o F' H'
  lv : ∀ {o F H}, h o F H → ∀ p ∈ ow, H p ≠ none
def any : Sl := ⟨fun _ _ _ => True, [], fun _ _ h => h, fun _ _ h => nomatch h⟩
def val {α : Type} (r : R α) (a : α) : Sl := ⟨fun o F _ => ∃ v, o = some v ∧ r.h a v F, [], fun e _ ⟨v, h1, h2⟩ => ⟨v, h1, r.ex e h2⟩, fun _ _ h => nomatch h⟩
def own {α : Type} (p : Addr) (c : C α) (a : α) : Sl := ⟨fun o F H => o = some (.ref p) ∧ ∃ u, H p = some u ∧ c.h a u F, [p],
  fun e k ⟨h1, u, h2, h3⟩ => ⟨h1, u, k p List.mem_cons_self u h2, c.ex e h3⟩, fun ⟨_, u, h, _⟩ q hq => by rw [List.mem_singleton.mp hq, h]; exact fun z => nomatch z⟩
def owns : List Sl → List Addr
  | [] => []
  | s :: g => s.ow ++ owns g
structure RI (α : Type) where
  h : α → List V → Hp → Prop
  ex : ∀ {a v F F'}, Ex F F' → h a v F → h a v F'
  n : Nat
  ln : ∀ {a v F}, h a v F → v.length = n
  sl : α → List Sl
  hs : ∀ {a v F H}, h a v F → Paired (fun s o => Sl.h s o F H) (sl a) (v.map some)
  no : ∀ {a}, owns (sl a) = []
def rNil : RI Unit := ⟨fun _ vs _ => vs = [], fun _ h => h, 0, fun h => by rw [h]; rfl, fun _ => [], fun h => by rw [h]; exact .nil, rfl⟩
def rOne {α : Type} (r : R α) : RI α := ⟨fun a vs F => ∃ v, vs = [v] ∧ r.h a v F, fun e ⟨v, h1, h2⟩ => ⟨v, h1, r.ex e h2⟩, 1, fun ⟨v, h1, _⟩ => by rw [h1]; rfl, fun a => [val r a], fun ⟨v, h1, h2⟩ => by
  rw [h1]; exact .cons ⟨v, rfl, h2⟩ .nil, rfl⟩
def rCons {α β : Type} (r : R α) (s : RI β) : RI (α × β) := ⟨fun a vs F => ∃ v ws, vs = v :: ws ∧ r.h a.1 v F ∧ s.h a.2 ws F, fun e ⟨v, ws, h1, h2, h3⟩ => ⟨v, ws, h1, r.ex e h2, s.ex e h3⟩, s.n + 1, fun ⟨v, ws, h1, _, h2⟩ => by
  rw [h1, List.length_cons, s.ln h2], fun a => val r a.1 :: s.sl a.2, fun ⟨v, ws, h1, h2, h3⟩ => by
  rw [h1]; exact .cons ⟨v, rfl, h2⟩ (s.hs h3), s.no⟩
def rTp (K : PySem.W.Frag) {α : Type} (s : RI α) : R α := ⟨fun a v F => ∃ p vs, v = .ref p ∧ SqT K F p vs ∧ s.h a vs F, fun e ⟨p, vs, h1, h2, h3⟩ => ⟨p, vs, h1, _root_.Evl.ex_t e h2, s.ex e h3⟩⟩
def rOpt {α : Type} (r : R α) : R (Option α) := ⟨fun o v F => match o with | none => v = .non | some a => r.h a v F ∧ v ≠ .non, fun {o _ _ _} e h => by
  cases o with
  | none => exact h
  | some a => exact ⟨r.ex e h.1, h.2⟩⟩
abbrev Holds (G : List Sl) (σ : L2.St) (F H : Hp) : Prop := Paired (fun s o => s.h o F H) G σ
structure Bs where
  F : Hp
  H : Hp
  M : List Addr
  ml : ∀ p ∈ M, H p ≠ none
structure Env (b : Bs) (G : List Sl) (σ : L2.St) (F H : Hp) : Prop where
  ff : Ex b.F F
  fh : Ex F H
  hh : ∀ a o, a ∉ b.M → b.H a = some o → H a = some o
  kp : ∀ a, b.H a ≠ none → H a ≠ none
  nf : ∀ a, b.F a = none → b.H a ≠ none → F a = none
  hold : Holds G σ F H
  nd : (owns G).Nodup
  on : ∀ p ∈ owns G, F p = none ∧ (p ∈ b.M ∨ b.H p = none)
/-- from a call to its end -/
structure After (F H : Hp) (M : List Addr) (F' H' : Hp) : Prop where
  ff : Ex F F'
  fh : Ex F' H'
  hh : ∀ a o, a ∉ M → H a = some o → H' a = some o
  kp : ∀ a, H a ≠ none → H' a ≠ none
  nf : ∀ a, F a = none → H a ≠ none → F' a = none
theorem Env.after {b : Bs} {G : List Sl} {σ : L2.St} {F H : Hp} (V : Env b G σ F H) : After b.F b.H b.M F H := ⟨V.ff, V.fh, V.hh, V.kp, V.nf⟩
theorem Holds.len {G : List Sl} {σ : L2.St} {F H : Hp} (h : Holds G σ F H) : G.length = σ.length := Paired.length h
theorem Holds.at_ {F H : Hp} : ∀ {G : List Sl} {σ : L2.St} {i : Nat} {s : Sl}, Holds G σ F H → G[i]? = some s → ∃ o, σ[i]? = some o ∧ s.h o F H
  | _, _, _, _, .nil, e => by simp at e
  | _, _, 0, _, .cons r _, e => by simp at e; subst e; exact ⟨_, rfl, r⟩
  | _, _, i + 1, s, .cons _ t, e => by
    obtain ⟨u, h1, h2⟩ := Holds.at_ (i := i) (s := s) t (by simpa using e)
    exact ⟨u, by simpa using h1, h2⟩
theorem mem_owns : ∀ {G : List Sl} {i : Nat} {s : Sl} {p : Addr}, G[i]? = some s → p ∈ s.ow → p ∈ owns G
  | [], _, _, _, e, _ => by simp at e
  | x :: g, 0, s, p, e, h => by simp at e; subst e; exact List.mem_append_left _ h
  | x :: g, i + 1, s, p, e, h => List.mem_append_right _ (mem_owns (i := i) (by simpa using e) h)
theorem Holds.live {F H : Hp} : ∀ {G : List Sl} {σ : L2.St}, Holds G σ F H → ∀ p ∈ owns G, H p ≠ none := by
  intro G σ h
  induction h with
  | nil => intro p h; nomatch h
  | cons r t ih => intro p hp; exact (List.mem_append.mp hp).elim (fun z => Sl.lv _ r p z) (ih p)
/-- nothing owned changes -/
theorem Holds.up {F H F' H' : Hp} (e : Ex F F') : ∀ {G : List Sl} {σ : L2.St}, (∀ p ∈ owns G, ∀ u, H p = some u → H' p = some u) → Holds G σ F H → Holds G σ F' H' := by
  intro G σ k h
  induction h with
  | nil => exact .nil
  | cons r t ih => exact .cons (Sl.up _ e (fun p hp => k p (List.mem_append_left _ hp)) r) (ih fun p hp => k p (List.mem_append_right _ hp))
/-- .. that leaves alone what is owned -/
theorem Env.step0 {b : Bs} {G : List Sl} {σ : L2.St} {F H F' H' : Hp} {M : List Addr} (V : Env b G σ F H) (A : After F H M F' H') (hm : ∀ p ∈ M, p ∈ owns G) {G' : List Sl} {σ' : L2.St} (ow : ∀ p ∈ owns G', p ∈ owns G) (nd : (owns G').Nodup) (hold : Holds G' σ' F' H') : Env b G' σ' F' H' where
  ff := V.ff.trans A.ff
  fh := A.fh
  hh := fun a o m h => A.hh a o (fun z => by
    rcases (V.on a (hm a z)).2 with q | q
    · exact m q
    · rw [h] at q; cases q) (V.hh a o m h)
  kp := fun a h => A.kp a (V.kp a h)
  nf := fun a h1 h2 => A.nf a (V.nf a h1 h2) (V.kp a h2)
  hold := hold
  nd := nd
  on := fun p hp => ⟨A.nf p (V.on p (ow p hp)).1 (V.hold.live p (ow p hp)), (V.on p (ow p hp)).2⟩
/-- a step that changes nothing owned: new things -/
theorem Env.step {b : Bs} {G : List Sl} {σ : L2.St} {F H F' H' : Hp} (V : Env b G σ F H) (A : After F H [] F' H') : Env b G σ F' H' :=
  V.step0 A (fun _ h => nomatch h) (fun _ h => h) V.nd (V.hold.up A.ff fun p _ u h => A.hh p u (by simp) h)
/-- a new frozen thing -/
theorem After.new {F H : Hp} {p : Addr} {o : HO} (e : Ex F H) (hp : H p = none) : After F H [] (upd F p o) (upd H p o) where
  ff := Ex.new (ex_none e hp)
  fh := ex_both e
  hh := fun a u _ h => by rw [upd_ne (ne_of_none h hp)]; exact h
  kp := fun a h => by
    by_cases q : a = p
    · subst q; exact absurd hp h
    · rw [upd_ne q]; exact h
  nf := fun a h1 h2 => by rw [upd_ne (fun q => h2 (by rw [q]; exact hp))]; exact h1
theorem After.refl {F H : Hp} (e : Ex F H) (M : List Addr) : After F H M F H := ⟨Ex.refl F, e, fun _ _ _ h => h, fun _ h => h, fun _ h _ => h⟩
theorem After.trans {F H F1 H1 F2 H2 : Hp} {M : List Addr} (a : After F H M F1 H1) (b : After F1 H1 M F2 H2) : After F H M F2 H2 :=
  ⟨a.ff.trans b.ff, b.fh, fun x o m h => b.hh x o m (a.hh x o m h), fun x h => b.kp x (a.kp x h), fun x h1 h2 => b.nf x (a.nf x h1 h2) (a.kp x h2)⟩
theorem After.mono {F H F1 H1 : Hp} {M M' : List Addr} (a : After F H M F1 H1) (h : ∀ p ∈ M, p ∈ M') : After F H M' F1 H1 := ⟨a.ff, a.fh, fun x o m q => a.hh x o (fun z => m (h x z)) q, a.kp, a.nf⟩
/-! ### readings and what they are worth -/
section
variable {K : PySem.W.Frag} {b : Bs} {G : List Sl} {α β γ δ : Type}
def E (b : Bs) (G : List Sl) (te : TE) (r : R α) (f : (α → Prop) → Prop) : Prop := ∀ ⦃σ : L2.St⦄ ⦃F H : Hp⦄ ⦃Q : VK⦄ (k : α → Prop), Env b G σ F H → f k →
  (∀ a v F' H', k a → After F H (owns G) F' H' → Env b G σ F' H' → r.h a v F' → Q v H') → te σ H Q
def Tt (b : Bs) (G : List Sl) (tt : TT) (f : (Bool → Prop) → Prop) : Prop := ∀ ⦃σ : L2.St⦄ ⦃F H : Hp⦄ ⦃Q : Bool → Hp → Prop⦄ (k : Bool → Prop), Env b G σ F H → f k →
  (∀ a F' H', k a → After F H (owns G) F' H' → Env b G σ F' H' → Q a H') → tt σ H Q
def Ar (b : Bs) (G : List Sl) (ta : TA) (s : RI α) (f : (α → Prop) → Prop) : Prop := ∀ ⦃σ : L2.St⦄ ⦃F H : Hp⦄ ⦃Q : List V → Hp → Prop⦄ (k : α → Prop), Env b G σ F H → f k →
  (∀ a vs F' H', k a → After F H (owns G) F' H' → Env b G σ F' H' → s.h a vs F' → Q vs H') → ta σ H Q
theorem e_var {i : Nat} {r : R α} {a : α} (h : G[i]? = some (val r a)) : E b G (tVar i) r (fun k => k a) := fun _ _ _ _ k V q w => by
  obtain ⟨o, h1, v, rfl, h2⟩ := V.hold.at_ h
  exact ⟨v, h1, w a v _ _ q (.refl V.fh _) V h2⟩
theorem e_own {i : Nat} {p : Addr} {c : C α} {a : α} (h : G[i]? = some (own p c a)) : E b G (tVar i) (rAt p) (fun k => k ()) := fun _ _ _ _ k V q w => by
  obtain ⟨o, h1, rfl, _⟩ := V.hold.at_ h
  exact ⟨.ref p, h1, w () _ _ _ q (.refl V.fh _) V rfl⟩
theorem e_int {i : Int} : E b G (tC (.int i)) rInt (fun k => k i) := fun _ _ _ _ k V q w => w i _ _ _ q (.refl V.fh _) V rfl
theorem e_bl {i : Bool} : E b G (tC (.bl i)) rBl (fun k => k i) := fun _ _ _ _ k V q w => w i _ _ _ q (.refl V.fh _) V rfl
theorem e_str {i : Str} : E b G (tC (.str i)) rStr (fun k => k i) := fun _ _ _ _ k V q w => w i _ _ _ q (.refl V.fh _) V rfl
theorem e_non : E b G (tC .non) rNon (fun k => k ()) := fun _ _ _ _ k V q w => w () _ _ _ q (.refl V.fh _) V rfl
theorem e_none {r : R α} : E b G (tC .non) (rOpt r) (fun k => k none) := fun _ _ _ _ k V q w => w none _ _ _ q (.refl V.fh _) V rfl
/-- a two-place operator -/
def Op2 (r2 : R2) (ra : R α) (rb : R β) (rc : R γ) (g : α → β → (γ → Prop) → Prop) : Prop := ∀ ⦃a : α⦄ ⦃c : β⦄ ⦃v w : V⦄ ⦃F H : Hp⦄ ⦃Q : VK⦄ (k : γ → Prop), ra.h a v F → rb.h c w F → Ex F H → g a c k →
  (∀ y z F' H', k y → After F H [] F' H' → rc.h y z F' → Q z H') → r2 v w H Q
theorem e_op {r2 : R2} {ta tb : TE} {ra : R α} {rb : R β} {rc : R γ} {fa : (α → Prop) → Prop} {fb : (β → Prop) → Prop} {g : α → β → (γ → Prop) → Prop} (o : Op2 r2 ra rb rc g) (ha : E b G ta ra fa) (hb : E b G tb rb fb) :
    E b G (tOp r2 ta tb) rc (fun k => fa fun x => fb fun y => g x y k) := fun _ _ _ _ k V q w =>
  ha _ V q fun x v F1 H1 q1 e1 V1 r1 => hb _ V1 q1 fun y u F2 H2 q2 e2 V2 r2 => o k (ra.ex e2.ff r1) r2 V2.fh q2 fun z t F3 H3 q3 A r3 => w z t F3 H3 q3 ((e1.trans e2).trans (A.mono fun _ h => nomatch h)) (V2.step A) r3
theorem o_I0 {g : Int → Int → Int} : Op2 (rI0 fun i j => .int (g i j)) rInt rInt rInt (fun x y k => k (g x y)) := fun _ _ _ _ _ _ _ k h1 h2 e q w => ⟨_, _, h1, h2, w _ _ _ _ q (After.refl e _) rfl⟩
theorem o_I0b {g : Int → Int → Bool} : Op2 (rI0 fun i j => .bl (g i j)) rInt rInt rBl (fun x y k => k (g x y)) := fun _ _ _ _ _ _ _ k h1 h2 e q w => ⟨_, _, h1, h2, w _ _ _ _ q (After.refl e _) rfl⟩
theorem o_I {c : Int → Int → Prop} {g : Int → Int → Int} : Op2 (rI c fun i j => .int (g i j)) rInt rInt rInt (fun x y k => c x y ∧ k (g x y)) := fun _ _ _ _ _ _ _ k h1 h2 e ⟨z, q⟩ w => ⟨_, _, h1, h2, z, w _ _ _ _ q (After.refl e _) rfl⟩
theorem o_eqI : Op2 rEq rInt rInt rBl (fun x y k => k (decide (x = y))) := fun _ _ _ _ _ _ _ k h1 h2 e q w => by
  cases h1; cases h2
  exact i_eqI (w _ _ _ _ q (After.refl e _) rfl)
theorem o_neI : Op2 rNe rInt rInt rBl (fun x y k => k (!decide (x = y))) := fun _ _ _ _ _ _ _ k h1 h2 e q w => by
  cases h1; cases h2
  exact i_neI (w _ _ _ _ q (After.refl e _) rfl)
theorem o_eqS : Op2 rEq rStr rStr rBl (fun x y k => k (decide (x = y))) := fun _ _ _ _ _ _ _ k h1 h2 e q w => by
  cases h1; cases h2
  exact i_eqS (w _ _ _ _ q (After.refl e _) rfl)
theorem o_neS : Op2 rNe rStr rStr rBl (fun x y k => k (!decide (x = y))) := fun _ _ _ _ _ _ _ k h1 h2 e q w => by
  cases h1; cases h2
  exact i_neS (w _ _ _ _ q (After.refl e _) rfl)
/-- an item -/
theorem All.get {r : R α} {F : Hp} {xs : List α} {vs : List V} {i : Nat} {a : α} (h : All r F xs vs) (e : xs[i]? = some a) : ∃ v, vs[i]? = some v ∧ r.h a v F := Dh.paired_get h e
theorem All.atI {r : R α} {F : Hp} {xs : List α} {vs : List V} {i : Int} {a : α} (h : All r F xs vs) (e : atI xs i = some a) : ∃ v, L2.atI vs i = some v ∧ r.h a v F := by
  unfold L2.atI at e ⊢
  rw [h.len]
  cases q : ixN xs.length i with
  | none => rw [q] at e; cases e
  | some j => rw [q] at e; exact h.get e
theorem o_ixL {r : R α} : Op2 (rIxL K) (rLst r) rInt r (fun xs i k => ∃ a, atI xs i = some a ∧ k a) := fun _ _ _ _ _ _ _ k h1 h2 e ⟨a, ha, q⟩ w => by
  obtain ⟨p, vs, rfl, hp, A⟩ := h1
  cases h2
  obtain ⟨v, hv, hr⟩ := A.atI ha
  exact ⟨p, vs, _, v, rfl, rfl, SqL.of (e _ _ hp), hv, w a v _ _ q (After.refl e _) hr⟩
theorem o_ixT {r : R α} : Op2 (rIxT K) (rTup K r) rInt r (fun xs i k => ∃ a, atI xs i = some a ∧ k a) := fun _ _ _ _ _ _ _ k h1 h2 e ⟨a, ha, q⟩ w => by
  obtain ⟨p, vs, rfl, hp, A⟩ := h1
  cases h2
  obtain ⟨v, hv, hr⟩ := A.atI ha
  exact ⟨p, vs, _, v, rfl, rfl, _root_.Evl.ex_t e hp, hv, w a v _ _ q (After.refl e _) hr⟩
end
/-! ### statements -/
structure Pd (τ β ρ : Type) where
  nx : τ → Prop
  ct : β → Prop
  bk : β → Prop
  rt : ρ → Prop
section
variable {K : PySem.W.Frag} {b : Bs} {G : List Sl} {α γ τ τ' β ρ : Type} {Gn : τ → List Sl} {Gl : β → List Sl} {ro : ρ → V → Hp → Hp → Prop}
def S (b : Bs) (G : List Sl) (t : TS) (Gn : τ → List Sl) (Gl : β → List Sl) (ro : ρ → V → Hp → Hp → Prop) (f : Pd τ β ρ → Prop) : Prop := ∀ ⦃σ : L2.St⦄ ⦃F H : Hp⦄ ⦃D : Ends⦄ (d : Pd τ β ρ), Env b G σ F H → f d →
  (∀ x σ' F' H', d.nx x → Ex F F' → Env b (Gn x) σ' F' H' → D.nx σ' H') → (∀ x σ' F' H', d.ct x → Ex F F' → Env b (Gl x) σ' F' H' → D.ct σ' H') → (∀ x σ' F' H', d.bk x → Ex F F' → Env b (Gl x) σ' F' H' → D.bk σ' H') →
  (∀ y v F' H', d.rt y → After b.F b.H b.M F' H' → ro y v F' H' → D.rt v H') → t D σ H
/-! slots set -/
theorem Holds.set {F H : Hp} {s : Sl} {o : Option V} (h : s.h o F H) : ∀ {G : List Sl} {σ : L2.St} {i : Nat}, Holds G σ F H → Holds (G.set i s) (σ.set i o) F H
  | _, _, _, .nil => .nil
  | _, _, 0, .cons _ t => .cons h t
  | _, _, i + 1, .cons r t => .cons r (Holds.set h t)
theorem Holds.of {F H : Hp} : ∀ {G : List Sl} {σ : L2.St}, G.length = σ.length → (∀ (i : Nat) (s : Sl) (o : Option V), G[i]? = some s → σ[i]? = some o → s.h o F H) → Holds G σ F H
  | [], [], _, _ => .nil
  | s :: g, o :: σ, l, h => .cons (h 0 s o rfl rfl) (Holds.of (by simpa using l) fun i s o h1 h2 => h (i + 1) s o (by simpa using h1) (by simpa using h2))
theorem owns_set {s : Sl} : ∀ {G : List Sl} {i : Nat}, s.ow = [] → (owns (G.set i s)).Sublist (owns G)
  | [], _, _ => List.Sublist.refl _
  | x :: g, 0, h => by
    show (s.ow ++ owns g).Sublist (x.ow ++ owns g)
    rw [h]; exact List.sublist_append_right _ _
  | x :: g, i + 1, h => List.Sublist.append_left (owns_set h) _
theorem owns_same {s t : Sl} : ∀ {G : List Sl} {i : Nat}, G[i]? = some s → t.ow = s.ow → owns (G.set i t) = owns G
  | [], _, h, _ => by simp at h
  | x :: g, 0, h, e => by
    simp at h; subst h
    show t.ow ++ owns g = _
    rw [e]; rfl
  | x :: g, i + 1, h, e => by
    show x.ow ++ owns (g.set i t) = x.ow ++ owns g
    rw [owns_same (by simpa using h) e]
theorem owns_disj : ∀ {G : List Sl} {i j : Nat} {s t : Sl} {p : Addr}, G[i]? = some s → G[j]? = some t → i ≠ j → (owns G).Nodup → p ∈ s.ow → p ∉ t.ow
  | [], _, _, _, _, _, h, _, _, _, _ => by simp at h
  | x :: g, 0, 0, _, _, _, _, _, n, _, _ => absurd rfl n
  | x :: g, 0, j + 1, s, t, p, h1, h2, n, nd, hp => fun z => by
    simp at h1; subst h1
    exact (List.nodup_append.mp nd).2.2 p hp p (mem_owns (i := j) (by simpa using h2) z) rfl
  | x :: g, i + 1, 0, s, t, p, h1, h2, n, nd, hp => fun z => by
    simp at h2; subst h2
    exact (List.nodup_append.mp nd).2.2 p z p (mem_owns (i := i) (by simpa using h1) hp) rfl
  | x :: g, i + 1, j + 1, s, t, p, h1, h2, n, nd, hp => owns_disj (i := i) (j := j) (by simpa using h1) (by simpa using h2) (by omega) (List.nodup_append.mp nd).2.1 hp
theorem owns_inv : ∀ {g : List Sl} {q : Addr}, q ∈ owns g → ∃ (j : Nat) (s : Sl), g[j]? = some s ∧ q ∈ s.ow
  | [], _, h => nomatch h
  | x :: g, q, h => by
    rcases List.mem_append.mp h with h | h
    · exact ⟨0, x, rfl, h⟩
    · obtain ⟨j, s, h1, h2⟩ := owns_inv h
      exact ⟨j + 1, s, by simpa using h1, h2⟩
/-- the slot i, that owns p alone, is changed -/
theorem Holds.mut {F H F' H' : Hp} {G : List Sl} {σ : L2.St} {i : Nat} {p : Addr} {s s' : Sl} {o : Option V} (h : Holds G σ F H) (nd : (owns G).Nodup) (hi : G[i]? = some s) (ho : σ[i]? = some o) (hs : p ∈ s.ow) (e : Ex F F') (k : ∀ q u, q ≠ p → H q = some u → H' q = some u) (h' : s'.h o F' H') : Holds (G.set i s') σ F' H' := by
  refine Holds.of (by rw [List.length_set]; exact h.len) fun j t o2 h1 h2 => ?_
  by_cases q : i = j
  · subst q
    have hl : i < G.length := (List.getElem?_eq_some_iff.mp hi).1
    rw [List.getElem?_set_self hl] at h1
    cases h1
    rw [ho] at h2; cases h2
    exact h'
  · rw [List.getElem?_set_ne q] at h1
    obtain ⟨o', h3, h4⟩ := h.at_ h1
    rw [h2] at h3; cases h3
    exact t.up e (fun a ha u hu => k a u (fun z => owns_disj hi h1 q nd hs (z ▸ ha)) hu) h4
theorem Env.set {σ : L2.St} {F H : Hp} {i : Nat} {s : Sl} {o : Option V} (V : Env b G σ F H) (h : s.h o F H) (ow : s.ow = []) : Env b (G.set i s) (σ.set i o) F H :=
  V.step0 (After.refl V.fh []) (fun _ z => nomatch z) (fun p hp => (owns_set ow).subset hp) (V.nd.sublist (owns_set ow)) (V.hold.set h)
/-- forgetting -/
inductive Sub : List Sl → List Sl → Prop
  | nil : Sub [] []
  | keep {s : Sl} {g g' : List Sl} : Sub g g' → Sub (s :: g) (s :: g')
  | drop {s : Sl} {g g' : List Sl} : Sub g g' → Sub (s :: g) (any :: g')
theorem Sub.refl : ∀ g : List Sl, Sub g g
  | [] => .nil
  | _ :: g => .keep (Sub.refl g)
theorem Sub.owns {g g' : List Sl} (h : Sub g g') : (owns g').Sublist (owns g) := by
  induction h with
  | nil => exact .refl _
  | keep _ ih => exact List.Sublist.append_left ih _
  | drop _ ih => exact ih.trans (List.sublist_append_right _ _)
theorem Sub.holds {g g' : List Sl} {F H : Hp} (h : Sub g g') : ∀ {σ : L2.St}, Holds g σ F H → Holds g' σ F H := by
  induction h with
  | nil => intro σ h; exact h
  | keep _ ih => intro σ h; cases h with | cons r t => exact .cons r (ih t)
  | drop _ ih => intro σ h; cases h with | cons r t => exact .cons trivial (ih t)
theorem Env.sub {σ : L2.St} {F H : Hp} {G' : List Sl} (V : Env b G σ F H) (h : Sub G G') : Env b G' σ F H :=
  V.step0 (After.refl V.fh []) (fun _ z => nomatch z) (fun p hp => h.owns.subset hp) (V.nd.sublist h.owns) (h.holds V.hold)
theorem s_seq {t u : TS} {Gm : τ' → List Sl} {f : Pd τ' β ρ → Prop} {g : τ' → Pd τ β ρ → Prop} (ht : S b G t Gm Gl ro f) (hu : ∀ x, S b (Gm x) u Gn Gl ro (g x)) : S b G (tSeq t u) Gn Gl ro (fun d => f ⟨fun x => g x d, d.ct, d.bk, d.rt⟩) :=
  fun _ _ _ _ d V q w1 w2 w3 w4 => ht _ V q (fun x σ' F' H' q' e V' => hu x d V' q' (fun y σ2 F2 H2 q2 e2 => w1 y σ2 F2 H2 q2 (e.trans e2)) (fun y σ2 F2 H2 q2 e2 => w2 y σ2 F2 H2 q2 (e.trans e2)) (fun y σ2 F2 H2 q2 e2 => w3 y σ2 F2 H2 q2 (e.trans e2)) w4) w2 w3 w4
theorem s_nil : S b G tNext (fun _ : Unit => G) Gl ro (fun d => d.nx ()) := fun _ _ _ _ d V q w1 _ _ _ => w1 () _ _ _ q (Ex.refl _) V
theorem s_ct {Gn : τ → List Sl} {x : β} (e : Sub G (Gl x)) (V0 : True := trivial) : S b G tCont Gn Gl ro (fun d => d.ct x) := fun _ _ _ _ d V q _ w2 _ _ => w2 x _ _ _ q (Ex.refl _) (V.sub e)
theorem s_bk {Gn : τ → List Sl} {x : β} (e : Sub G (Gl x)) : S b G tBreak Gn Gl ro (fun d => d.bk x) := fun _ _ _ _ d V q _ _ w3 _ => w3 x _ _ _ q (Ex.refl _) (V.sub e)
theorem s_if {c : TT} {t u : TS} {fc : (Bool → Prop) → Prop} {f g : Pd τ β ρ → Prop} (hc : Tt b G c fc) (ht : S b G t Gn Gl ro f) (hu : S b G u Gn Gl ro g) :
    S b G (tIfS c t u) Gn Gl ro (fun d => fc fun x => (x = true → f d) ∧ (x = false → g d)) := fun _ _ _ _ d V q w1 w2 w3 w4 => hc _ V q fun x F' H' q' e V' => by
  have z1 : ∀ x σ' F2 H2, d.nx x → Ex F' F2 → Env b (Gn x) σ' F2 H2 → _ := fun y σ2 F2 H2 q2 e2 => w1 y σ2 F2 H2 q2 (e.ff.trans e2)
  have z2 : ∀ x σ' F2 H2, d.ct x → Ex F' F2 → Env b (Gl x) σ' F2 H2 → _ := fun y σ2 F2 H2 q2 e2 => w2 y σ2 F2 H2 q2 (e.ff.trans e2)
  have z3 : ∀ x σ' F2 H2, d.bk x → Ex F' F2 → Env b (Gl x) σ' F2 H2 → _ := fun y σ2 F2 H2 q2 e2 => w3 y σ2 F2 H2 q2 (e.ff.trans e2)
  cases x with
  | true => exact iteT (ht d V' (q'.1 rfl) z1 z2 z3 w4)
  | false => exact iteF (hu d V' (q'.2 rfl) z1 z2 z3 w4)
theorem s_ret {te : TE} {r : R α} {f : (α → Prop) → Prop} {g : α → ρ} (h : E b G te r f) (hro : ∀ a v σ F H, Env b G σ F H → r.h a v F → ro (g a) v F H) : S b G (tRet te) Gn Gl ro (fun d => f fun a => d.rt (g a)) :=
  fun _ _ _ _ d V q _ _ _ w4 => h _ V q fun a v F' H' q' e V' r' => w4 (g a) v F' H' q' V'.after (hro a v _ F' H' V' r')
theorem s_retN {g : ρ} (hro : ∀ σ F H, Env b G σ F H → ro g .non F H) : S b G tRetN Gn Gl ro (fun d => d.rt g) := fun _ _ _ _ d V q _ _ _ w4 => w4 g .non _ _ q V.after (hro _ _ _ V)
theorem s_drop {te : TE} {r : R α} {f : (α → Prop) → Prop} (h : E b G te r f) : S b G (tDrop te) (fun _ : Unit => G) Gl ro (fun d => f fun _ => d.nx ()) :=
  fun _ _ _ _ d V q w1 _ _ _ => h _ V q fun a v F' H' q' e V' r' => w1 () _ F' H' q' e.ff V'
theorem s_asg {te : TE} {r : R α} {f : (α → Prop) → Prop} {i : Nat} (h : E b G te r f) : S b G (tAsg te (gName i)) (fun a : α => G.set i (val r a)) Gl ro (fun d => f d.nx) :=
  fun _ _ _ _ d V q w1 _ _ _ => h _ V q fun a v F' H' q' e V' r' => w1 a _ F' H' q' e.ff (V'.set ⟨v, rfl, r'⟩ rfl)
/-- x += e, ints -/
theorem s_augI {te : TE} {f : (Int → Prop) → Prop} {g : Int → Int → Int} {i : Nat} {n : Int} (hi : G[i]? = some (val rInt n)) (h : E b G te rInt f) : S b G (tAug i te (ipI g)) (fun a : Int => G.set i (val rInt a)) Gl ro (fun d => f fun m => d.nx (g n m)) :=
  fun _ _ _ _ d V q w1 _ _ _ => by
    obtain ⟨o, h1, v, rfl, rfl⟩ := V.hold.at_ hi
    exact ⟨_, h1, h _ V q fun a v F' H' q' e V' r' => ⟨n, a, rfl, r', w1 _ _ F' H' q' e.ff (V'.set ⟨_, rfl, rfl⟩ rfl)⟩⟩
theorem s_wk {t : TS} {Gm : τ' → List Sl} {f : Pd τ' β ρ → Prop} {g : τ' → τ} (h : S b G t Gm Gl ro f) (hs : ∀ x, Sub (Gm x) (Gn (g x))) : S b G t Gn Gl ro (fun d => f ⟨fun x => d.nx (g x), d.ct, d.bk, d.rt⟩) :=
  fun _ _ _ _ d V q w1 w2 w3 w4 => h _ V q (fun x σ' F' H' q' e V' => w1 (g x) σ' F' H' q' e (V'.sub (hs x))) w2 w3 w4
theorem s_pre {t : TS} {G' : List Sl} {f : Pd τ β ρ → Prop} (hs : Sub G G') (h : S b G' t Gn Gl ro f) : S b G t Gn Gl ro f := fun _ _ _ _ d V q w1 w2 w3 w4 => h d (V.sub hs) q w1 w2 w3 w4
theorem s_cq {t : TS} {f g : Pd τ β ρ → Prop} (h : S b G t Gn Gl ro f) (w : ∀ d, g d → f d) : S b G t Gn Gl ro g := fun _ _ _ _ d V q => h d V (w d q)
/-- a view: an own cell is frozen -/
theorem Env.frz {σ : L2.St} {F H : Hp} {i : Nat} {p : Addr} {c : C α} {a : α} {r : R α} (V : Env b G σ F H) (hi : G[i]? = some (own p c a)) (hm : p ∉ b.M) (hr : ∀ u F, c.h a u F → F p = some u → r.h a (.ref p) F) : ∃ F', Ex F F' ∧ Env b (G.set i (val r a)) σ F' H ∧ r.h a (.ref p) F' := by
  obtain ⟨o, h1, rfl, u, hu, hc⟩ := V.hold.at_ hi
  have hp : p ∈ owns G := mem_owns hi List.mem_cons_self
  have fp := (V.on p hp).1
  have bp : b.H p = none := (V.on p hp).2.resolve_left hm
  have e : Ex F (upd F p u) := Ex.new fp
  have hr' : r.h a (.ref p) (upd F p u) := hr u _ (c.ex e hc) upd_same
  refine ⟨upd F p u, e, ⟨V.ff.trans e, fun x o h => ?_, V.hh, V.kp, fun x h1 h2 => ?_, ?_, V.nd.sublist (owns_set rfl), fun q hq => ?_⟩, hr'⟩
  · by_cases z : x = p
    · subst z; rw [upd_same] at h; cases h; exact hu
    · rw [upd_ne z] at h; exact V.fh _ _ h
  · rw [upd_ne (fun z => h2 (by rw [z]; exact bp))]; exact V.nf x h1 h2
  · have hs : σ.set i (some (.ref p)) = σ := by
      apply List.ext_getElem?
      intro j
      by_cases z : i = j
      · subst z
        rw [List.getElem?_set_self (List.getElem?_eq_some_iff.mp h1).1, h1]
      · rw [List.getElem?_set_ne z]
    exact V.hold.mut V.nd hi h1 (List.mem_cons_self) e (fun _ _ _ h => h) ⟨_, rfl, hr'⟩
  · have hq' := (owns_set (s := val r a) rfl).subset hq
    have ne : q ≠ p := fun z => by
      subst z
      obtain ⟨j, s, h3, h4⟩ := owns_inv hq
      by_cases z : i = j
      · subst z
        rw [List.getElem?_set_self (List.getElem?_eq_some_iff.mp hi).1] at h3
        cases h3
        nomatch h4
      · rw [List.getElem?_set_ne z] at h3
        exact owns_disj hi h3 z V.nd List.mem_cons_self h4
    rw [upd_ne ne]
    exact V.on q hq'
theorem frz_lst {r : R α} {a : List α} : ∀ {p : Addr} (u : HO) (F : Hp), (cLst r).h a u F → F p = some u → (rLst r).h a (.ref p) F := fun u F ⟨vs, h1, h2⟩ h => ⟨_, vs, rfl, h1 ▸ h, h2⟩
theorem s_frz {t : TS} {i : Nat} {p : Addr} {c : C α} {a : α} {r : R α} {f : Pd τ β ρ → Prop} (hi : G[i]? = some (own p c a)) (hm : p ∉ b.M) (hr : ∀ u F, c.h a u F → F p = some u → r.h a (.ref p) F) (h : S b (G.set i (val r a)) t Gn Gl ro f) : S b G t Gn Gl ro f := fun _ _ _ _ d V q w1 w2 w3 w4 => by
  obtain ⟨F', e, V', _⟩ := V.frz hi hm hr
  exact h d V' q (fun y σ2 F2 H2 q2 e2 => w1 y σ2 F2 H2 q2 (e.trans e2)) (fun y σ2 F2 H2 q2 e2 => w2 y σ2 F2 H2 q2 (e.trans e2)) (fun y σ2 F2 H2 q2 e2 => w3 y σ2 F2 H2 q2 (e.trans e2)) w4
end
end Mi
/-! Mir2 -/
set_option Elab.async false
set_option linter.all false
set_option maxRecDepth 100000
set_option maxHeartbeats 4000000
namespace Mi
open PySem PySem.Spec L2 Dh
open _root_.Evl (Ex)
section
variable {K : PySem.W.Frag} {b : Bs} {G : List Sl} {α β γ δ τ τ' ρ ε : Type} {Gn : τ → List Sl} {Gl : ε → List Sl} {ro : ρ → V → Hp → Hp → Prop} {σ : L2.St} {F H F' H' : Hp}
/-! ### what is walked -/
theorem All.of_get {r : R α} {F : Hp} {xs : List α} {vs : List V} (A : All r F xs vs) {i : Nat} {v : V} (h : vs[i]? = some v) : ∃ a, xs[i]? = some a ∧ r.h a v F := by
  have hi := (List.getElem?_eq_some_iff.mp h).1
  rw [A.len] at hi
  obtain ⟨a, ha⟩ : ∃ a, xs[i]? = some a := ⟨xs[i], by simp [hi]⟩
  obtain ⟨v', h1, h2⟩ := A.get ha
  rw [h] at h1; cases h1
  exact ⟨a, ha, h2⟩

def WkOk (J : It) (F' : Hp) (r : R α) (xs : List α) : Prop := ∃ (Gs : Hp → Prop) (Y : Nat → Hp → V → Hp → Prop), Walk J xs.length Gs Y ∧ (∀ H2, Ex F' H2 → Gs H2) ∧
  ∀ i v F2 H2 H3, i < xs.length → Ex F' F2 → Ex F2 H2 → Y i H2 v H3 → ∃ a F3, xs[i]? = some a ∧ After F2 H2 [] F3 H3 ∧ r.h a v F3
theorem wkOk {J : It} {F' : Hp} {r : R α} {xs : List α} {n : Nat} {Gs : Hp → Prop} {Y : Nat → Hp → V → Hp → Prop} (hw : Walk J n Gs Y) (hn : n = xs.length) (hG : ∀ H2, Ex F' H2 → Gs H2) (hY : ∀ i v F2 H2 H3, i < n → Ex F' F2 → Ex F2 H2 → Y i H2 v H3 → ∃ a F3, xs[i]? = some a ∧ After F2 H2 [] F3 H3 ∧ r.h a v F3) : WkOk J F' r xs := by
  subst hn; exact ⟨Gs, Y, hw, hG, hY⟩
def Wk (b : Bs) (G : List Sl) (ti : TI) (r : R α) (f : (List α → Prop) → Prop) : Prop := ∀ ⦃σ : L2.St⦄ ⦃F H : Hp⦄ ⦃R : It → Hp → Prop⦄ (k : List α → Prop), Env b G σ F H → f k →
  (∀ xs J F' H', k xs → After F H (owns G) F' H' → Env b G σ F' H' → WkOk J F' r xs → R J H') → ti σ H R
theorem wk_list {tl : TE} {r : R α} {f : (List α → Prop) → Prop} (h : E b G tl (rLst r) f) : Wk b G (iList K tl) r f := fun _ _ _ _ k V q w => by
  refine h k V q ?_
  rintro xs v F1 H1 q1 A1 V1 ⟨p, vs, e, hp, A⟩
  subst e
  refine ⟨p, rfl, ⟨vs, SqL.of (V1.fh _ _ hp)⟩, w xs _ F1 H1 q1 A1 V1 (wkOk walk_list A.len (fun H2 e => SqL.of (e _ _ hp)) fun i v F2 H2 H3 hi e1 e2 ⟨y1, y2⟩ => ?_)⟩
  subst y1
  obtain ⟨a, ha, h2⟩ := A.of_get y2
  exact ⟨a, F2, ha, .refl e2 _, r.ex e1 h2⟩
theorem wk_tup {tl : TE} {r : R α} {f : (List α → Prop) → Prop} (h : E b G tl (rTup K r) f) : Wk b G (iTup K tl) r f := fun _ _ _ _ k V q w => by
  refine h k V q ?_
  rintro xs v F1 H1 q1 A1 V1 ⟨p, vs, e, hp, A⟩
  subst e
  refine ⟨p, rfl, ⟨vs, _root_.Evl.ex_t V1.fh hp⟩, w xs _ F1 H1 q1 A1 V1 (wkOk walk_tup A.len (fun H2 e => _root_.Evl.ex_t e hp) fun i v F2 H2 H3 hi e1 e2 ⟨y1, y2⟩ => ?_)⟩
  subst y1
  obtain ⟨a, ha, h2⟩ := A.of_get y2
  exact ⟨a, F2, ha, .refl e2 _, r.ex e1 h2⟩
/-- the numbers lo, lo + 1, .. -/
def rng (lo : Int) (n : Nat) : List Int := (List.range n).map fun i => lo + (i : Nat)
theorem rng_len {lo : Int} {n : Nat} : (rng lo n).length = n := by unfold rng; simp
theorem rng_get {lo : Int} {n i : Nat} (h : i < n) : (rng lo n)[i]? = some (lo + (i : Nat)) := by unfold rng; simp [h]
theorem rng_inv {lo a : Int} {n i : Nat} (h : (rng lo n)[i]? = some a) : i < n ∧ a = lo + (i : Nat) := by
  have hi : i < n := by
    have := (List.getElem?_eq_some_iff.mp h).1
    rw [rng_len] at this; exact this
  rw [rng_get hi] at h
  exact ⟨hi, (Option.some.inj h).symm⟩
theorem rng_mem {lo a : Int} {n : Nat} (h : a ∈ rng lo n) : lo ≤ a ∧ a < lo + n := by
  unfold rng at h
  obtain ⟨i, h1, h2⟩ := List.mem_map.mp h
  have := List.mem_range.mp h1
  omega
theorem wk_range1 {ta : TA} {f : (Int → Prop) → Prop} (h : Ar b G ta (rOne rInt) f) : Wk b G (iRng1 ta) rInt (fun k => f fun j => (-(2 ^ 62) ≤ j ∧ j < 2 ^ 62) ∧ k (rng 0 j.toNat)) := fun _ _ _ _ k V q w => by
  refine h _ V q ?_
  rintro j vs F1 H1 q1 A1 V1 ⟨v, e, hv⟩
  cases hv
  subst e
  refine ⟨j, rfl, q1.1.1, q1.1.2, w _ _ F1 H1 q1.2 A1 V1 (wkOk walk_range rng_len.symm (fun _ _ => trivial) fun i v F2 H2 H3 hi e1 e2 ⟨y1, y2⟩ => ?_)⟩
  subst y1
  exact ⟨_, F2, rng_get hi, .refl e2 _, y2⟩
theorem wk_range2 {ta : TA} {f : (Int × Int → Prop) → Prop} (h : Ar b G ta (rCons rInt (rOne rInt)) f) : Wk b G (iRng2 ta) rInt (fun k => f fun j => (-(2 ^ 62) ≤ j.1 ∧ j.1 < 2 ^ 62 ∧ -(2 ^ 62) ≤ j.2 ∧ j.2 < 2 ^ 62) ∧ k (rng j.1 (j.2 - j.1).toNat)) := fun _ _ _ _ k V q w => by
  refine h _ V q ?_
  rintro j vs F1 H1 q1 A1 V1 ⟨v, ws, e, hv, u, e2, hu⟩
  cases hv
  cases hu
  subst e2
  subst e
  refine ⟨j.1, j.2, rfl, q1.1, w _ _ F1 H1 q1.2 A1 V1 (wkOk walk_range rng_len.symm (fun _ _ => trivial) fun i v F2 H2 H3 hi e1 e2 ⟨y1, y2⟩ => ?_)⟩
  subst y1
  exact ⟨_, F2, rng_get hi, .refl e2 _, y2⟩
/-- pairs with their numbers -/
def enumL (xs : List α) : List (Int × α) := (rng 0 xs.length).zip xs
theorem enumL_len {xs : List α} : (enumL xs).length = xs.length := by unfold enumL; simp [rng_len]
theorem enumL_get {xs : List α} {i : Nat} {a : α} (h : xs[i]? = some a) : (enumL xs)[i]? = some ((i : Int), a) := by
  unfold enumL
  have hi := (List.getElem?_eq_some_iff.mp h).1
  rw [List.getElem?_zip_eq_some]
  exact ⟨by rw [rng_get hi]; simp, h⟩
theorem enumL_inv {xs : List α} {i : Nat} {p : Int × α} (h : (enumL xs)[i]? = some p) : p.1 = (i : Int) ∧ xs[i]? = some p.2 := by
  unfold enumL at h
  rw [List.getElem?_zip_eq_some] at h
  exact ⟨by have := (rng_inv h.1).2; omega, h.2⟩
theorem pair_new {ra : R α} {rb : R γ} {a : α} {c : γ} {x y : V} {F2 H2 : Hp} {T : Addr} (e : Ex F2 H2) (hT : H2 T = none) (h1 : ra.h a x F2) (h2 : rb.h c y F2) : After F2 H2 [] (upd F2 T (.tup [x, y])) (upd H2 T (.tup [x, y])) ∧ (rTp K (rCons ra (rOne rb))).h (a, c) (.ref T) (upd F2 T (.tup [x, y])) := by
  have A := After.new (o := .tup [x, y]) e hT
  exact ⟨A, T, [x, y], rfl, SqT.of upd_same, x, [y], rfl, ra.ex A.ff h1, y, rfl, rb.ex A.ff h2⟩
theorem wk_enum {ta : TA} {r : R α} {f : (List α → Prop) → Prop} (h : Ar b G ta (rOne (rLst r)) f) : Wk b G (iEnum K ta) (rTp K (rCons rInt (rOne r))) (fun k => f fun xs => k (enumL xs)) := fun _ _ _ _ k V q w => by
  refine h _ V q ?_
  rintro xs ws F1 H1 q1 A1 V1 ⟨v, e, p, vs, e2, hp, A⟩
  subst e2
  subst e
  refine ⟨p, vs, rfl, SqL.of (V1.fh _ _ hp), w _ _ F1 H1 q1 A1 V1 (wkOk walk_enum (A.len.trans enumL_len.symm) (fun H2 e => SqL.of (e _ _ hp)) fun i v F2 H2 H3 hi e1 e2 ⟨T, x, y, y1, y2, y3, y4, y5⟩ => ?_)⟩
  subst y1 y3
  cases y4
  obtain ⟨a, ha, hr⟩ := A.of_get y5
  obtain ⟨B, hB⟩ := pair_new (K := K) (ra := rInt) (rb := r) (a := (i : Int)) e2 y2 rfl (r.ex e1 hr)
  exact ⟨_, _, enumL_get ha, B, hB⟩
theorem wk_rev {ta : TA} {r : R α} {f : (List α → Prop) → Prop} (h : Ar b G ta (rOne (rLst r)) f) : Wk b G (iRev K ta) r (fun k => f fun xs => k xs.reverse) := fun _ _ _ _ k V q w => by
  refine h _ V q ?_
  rintro xs ws F1 H1 q1 A1 V1 ⟨v, e, p, vs, e2, hp, A⟩
  subst e2
  subst e
  refine ⟨p, vs, rfl, SqL.of (V1.fh _ _ hp), w _ _ F1 H1 q1 A1 V1 (wkOk walk_rev (A.len.trans List.length_reverse.symm) (fun H2 e => SqL.of (e _ _ hp)) fun i v F2 H2 H3 hi e1 e2 ⟨y1, y2⟩ => ?_)⟩
  subst y1
  rw [A.len] at hi
  obtain ⟨a, ha, hr⟩ := A.of_get y2
  refine ⟨a, F2, ?_, .refl e2 _, r.ex e1 hr⟩
  rw [List.getElem?_reverse hi, ← A.len]; exact ha
theorem wk_zip {ta : TA} {ra : R α} {rb : R γ} {f : (List α × List γ → Prop) → Prop} (h : Ar b G ta (rCons (rLst ra) (rOne (rLst rb))) f) : Wk b G (iZip K ta) (rTp K (rCons ra (rOne rb))) (fun k => f fun x => k (x.1.zip x.2)) := fun _ _ _ _ k V q w => by
  refine h _ V q ?_
  rintro x ws F1 H1 q1 A1 V1 ⟨v, ws', e, ⟨p, vs, e2, hp, A⟩, v', e3, p', vs', e4, hp', A'⟩
  subst e4 e3 e2
  subst e
  refine ⟨p, p', vs, vs', rfl, SqL.of (V1.fh _ _ hp), SqL.of (V1.fh _ _ hp'), w _ _ F1 H1 q1 A1 V1 (wkOk (walk_zip (by rw [A.len, A'.len])) List.length_zip.symm (fun H2 e => ⟨SqL.of (e _ _ hp), SqL.of (e _ _ hp')⟩) fun i v F2 H2 H3 hi e1 e2 ⟨T, x, y, y1, y2, y3, y4, y5⟩ => ?_)⟩
  subst y1 y3
  obtain ⟨a, ha, hr⟩ := A.of_get y4
  obtain ⟨a', ha', hr'⟩ := A'.of_get y5
  obtain ⟨B, hB⟩ := pair_new (K := K) (ra := ra) (rb := rb) e2 y2 (ra.ex e1 hr) (rb.ex e1 hr')
  exact ⟨_, _, by rw [List.getElem?_zip_eq_some]; exact ⟨ha, ha'⟩, B, hB⟩
/-- the letters of a text -/
def chrs (z : Str) : List Str := z.cps.toList.map fun c => ⟨#[c]⟩
theorem wk_str {te : TE} {f : (Str → Prop) → Prop} (h : E b G te rStr f) : Wk b G (iStr te) rStr (fun k => f fun z => k (chrs z)) := fun _ _ _ _ k V q w => by
  refine h _ V q ?_
  intro z v F1 H1 q1 A1 V1 e
  cases e
  refine ⟨z, rfl, w _ _ F1 H1 q1 A1 V1 (wkOk walk_str (by unfold chrs; rw [List.length_map, Array.length_toList]) (fun _ _ => trivial) fun i v F2 H2 H3 hi e1 e2 ⟨y1, c, y2, y3⟩ => ?_)⟩
  subst y1 y3
  refine ⟨_, F2, ?_, .refl e2 _, rfl⟩
  unfold chrs
  rw [List.getElem?_map, Array.getElem?_toList, y2]; rfl
/-! ### targets -/
def wipeG (G : List Sl) : List Nat → List Sl
  | [] => G
  | v :: vs => (wipeG G vs).set v any
theorem Env.wipe (V : Env b G σ F H) : ∀ vs : List Nat, Env b (wipeG G vs) (wipe σ vs) F H
  | [] => V
  | v :: vs => (Env.wipe V vs).set (s := any) trivial rfl
theorem Env.setV {r : R α} {a : α} {v : V} {i : Nat} (V : Env b G σ F H) (h : r.h a v F) : Env b (G.set i (val r a)) (σ.set i (some v)) F H := V.set ⟨v, rfl, h⟩ rfl
def UpOk (up : α → List Sl → List Sl) (vs : List Nat) : Prop := ∀ a G, (∀ p ∈ owns (up a G), p ∈ owns G) ∧ wipeG (up a G) vs = wipeG G vs
def Tg (g : TG) (r : R α) (up : α → List Sl → List Sl) (vs : List Nat) : Prop := UpOk up vs ∧ ∀ ⦃b : Bs⦄ ⦃G : List Sl⦄ ⦃σ : L2.St⦄ ⦃F H : Hp⦄ ⦃v : V⦄ ⦃a : α⦄ ⦃q : L2.St → Hp → Prop⦄, r.h a v F → Env b G σ F H →
  (∀ σ', Env b (up a G) σ' F H → wipe σ' vs = wipe σ vs → q σ' H) → g v σ H q
def TgI (g : TGs) (s : RI α) (up : α → List Sl → List Sl) (vs : List Nat) : Prop := UpOk up vs ∧ ∀ ⦃b : Bs⦄ ⦃G : List Sl⦄ ⦃σ : L2.St⦄ ⦃F H : Hp⦄ ⦃ws : List V⦄ ⦃a : α⦄ ⦃q : L2.St → Hp → Prop⦄, s.h a ws F → Env b G σ F H →
  (∀ σ', Env b (up a G) σ' F H → wipe σ' vs = wipe σ vs → q σ' H) → g ws σ H q
theorem wipe_one {i : Nat} {o : Option V} : wipe (σ.set i o) [i] = wipe σ [i] := by rw [wipe1, wipe1, List.set_set]
theorem wipeG_one {i : Nat} {s : Sl} {G : List Sl} : wipeG (G.set i s) [i] = wipeG G [i] := by
  show (G.set i s).set i any = G.set i any
  rw [List.set_set]
theorem up_one {i : Nat} {r : R α} : UpOk (fun a G => G.set i (val r a)) [i] := fun a G => ⟨fun p hp => (owns_set rfl).subset hp, wipeG_one⟩
theorem g_name {i : Nat} {r : R α} : Tg (gName i) r (fun a G => G.set i (val r a)) [i] := ⟨up_one, fun _ _ _ _ _ _ _ _ h V w => w _ (V.setV h) wipe_one⟩
theorem gi_one {i : Nat} {r : R α} : TgI (gCons (gName i) gNil) (rOne r) (fun a G => G.set i (val r a)) [i] := ⟨up_one, fun _ _ _ _ _ _ _ _ ⟨v, e, h⟩ V w => ⟨v, [], e, rfl, w _ (V.setV h) wipe_one⟩⟩
theorem wipe_set_ne {i : Nat} {o : Option V} : ∀ {vs : List Nat}, i ∉ vs → wipe (σ.set i o) vs = (wipe σ vs).set i o
  | [], _ => rfl
  | v :: vs, h => by
    show (wipe (σ.set i o) vs).set v none = ((wipe σ vs).set v none).set i o
    rw [wipe_set_ne (fun z => h (List.mem_cons_of_mem _ z)), List.set_comm _ _ (fun z => h (by rw [z]; exact List.mem_cons_self))]
theorem wipe_mem {i : Nat} {o : Option V} : ∀ {vs : List Nat}, i ∈ vs → wipe (σ.set i o) vs = wipe σ vs
  | v :: vs, h => by
    show (wipe (σ.set i o) vs).set v none = (wipe σ vs).set v none
    by_cases q : i ∈ vs
    · rw [wipe_mem q]
    · rcases List.mem_cons.mp h with e | e
      · subst e; rw [wipe_set_ne q, List.set_set]
      · exact absurd e q
theorem wipeG_set_ne {i : Nat} {o : Sl} : ∀ {vs : List Nat}, i ∉ vs → wipeG (G.set i o) vs = (wipeG G vs).set i o
  | [], _ => rfl
  | v :: vs, h => by
    show (wipeG (G.set i o) vs).set v any = ((wipeG G vs).set v any).set i o
    rw [wipeG_set_ne (fun z => h (List.mem_cons_of_mem _ z)), List.set_comm _ _ (fun z => h (by rw [z]; exact List.mem_cons_self))]
theorem wipeG_mem {i : Nat} {o : Sl} : ∀ {vs : List Nat}, i ∈ vs → wipeG (G.set i o) vs = wipeG G vs
  | v :: vs, h => by
    show (wipeG (G.set i o) vs).set v any = (wipeG G vs).set v any
    by_cases q : i ∈ vs
    · rw [wipeG_mem q]
    · rcases List.mem_cons.mp h with e | e
      · subst e; rw [wipeG_set_ne q, List.set_set]
      · exact absurd e q
theorem gi_cons {i : Nat} {r : R α} {u : TGs} {s : RI γ} {up : γ → List Sl → List Sl} {vs : List Nat} (h : TgI u s up vs) : TgI (gCons (gName i) u) (rCons r s) (fun a G => up a.2 (G.set i (val r a.1))) (i :: vs) := by
  refine ⟨fun a G => ⟨fun p hp => (owns_set rfl).subset ((h.1 _ _).1 p hp), ?_⟩, fun _ _ _ _ _ _ _ _ ⟨v, ws, e, h1, h2⟩ V w => ?_⟩
  · show (wipeG _ vs).set i any = (wipeG G vs).set i any
    rw [(h.1 _ _).2]
    by_cases q : i ∈ vs
    · rw [wipeG_mem q]
    · rw [wipeG_set_ne q, List.set_set]
  · refine ⟨v, ws, e, ?_⟩
    refine h.2 h2 (V.setV h1) fun σ' V' e' => w _ V' ?_
    show (wipe σ' vs).set i none = (wipe _ vs).set i none
    rw [e']
    by_cases q : i ∈ vs
    · rw [wipe_mem q]
    · rw [wipe_set_ne q, List.set_set]
theorem g_tup {n : Nat} {u : TGs} {s : RI α} {up : α → List Sl → List Sl} {vs : List Nat} (h : TgI u s up vs) (hn : s.n = n) : Tg (gTup K n u) (rTp K s) up vs := ⟨h.1, fun _ _ _ _ _ _ _ _ ⟨p, ws, e, h1, h2⟩ V w => ⟨p, ws, e, _root_.Evl.ex_t V.fh h1, (s.ln h2).trans hn, h.2 h2 V w⟩⟩
theorem s_asgT {te : TE} {r : R α} {f : (α → Prop) → Prop} {g : TG} {up : α → List Sl → List Sl} {vs : List Nat} (h : E b G te r f) (hg : Tg g r up vs) : S b G (tAsg te g) (fun a : α => up a G) Gl ro (fun d => f d.nx) :=
  fun _ _ _ _ d V q w1 _ _ _ => h _ V q fun a v F' H' q' e V' r' => hg.2 r' V' fun σ' V2 _ => w1 a _ F' H' q' e.ff V2
/-! ### loops -/
def forP (xs : List α) (x0 : τ) (B : α → τ → (τ → Prop) → Prop) (k : τ → Prop) : Prop := ∃ I : Nat → τ → Prop, I 0 x0 ∧ (∀ i a x, xs[i]? = some a → I i x → B a x (I (i + 1))) ∧ ∀ x, I xs.length x → k x
theorem s_for {wi : TI} {g : TG} {tb : TS} {r : R α} {up : α → List Sl → List Sl} {vs : List Nat} {fw : (List α → Prop) → Prop} {Gt : τ → List Sl} {x0 : τ} {fb : α → τ → Pd τ τ ρ → Prop} (hw : Wk b G wi r fw) (hg : Tg g r up vs) (h0 : Sub G (Gt x0))
    (hb : ∀ a x, S b (up a (Gt x)) tb Gt Gt ro (fb a x)) : S b G (tFor wi g tb) Gt Gl ro (fun d => fw fun xs => forP xs x0 (fun a x n => fb a x ⟨n, n, d.nx, d.rt⟩) d.nx) :=
  fun σ F H D d V q w1 _ _ w4 => hw _ V q fun xs J F1 H1 q1 A1 V1 ⟨Gs, Y, hW, hG, hY⟩ => by
    obtain ⟨I, i0, it, id⟩ := q1
    refine raw_f hW ⟨fun i σ2 H2 => ∃ x F2, I i x ∧ Ex F1 F2 ∧ Env b (Gt x) σ2 F2 H2, ⟨x0, F1, i0, Ex.refl _, V1.sub h0⟩, fun i σ2 H2 _ ⟨x, F2, _, e2, V2⟩ => hG _ (e2.trans V2.fh), fun i v σ2 H2 H3 hi ⟨x, F2, hx, e2, V2⟩ y => ?_, fun σ2 H2 ⟨x, F2, hx, e2, V2⟩ => w1 x _ F2 H2 (id x hx) (A1.ff.trans e2) V2⟩
    obtain ⟨a, F3, ha, A3, hr⟩ := hY i v F2 H2 H3 hi e2 V2.fh y
    refine hg.2 hr (V2.step A3) fun σ3 V3 _ => ?_
    have e3 := e2.trans A3.ff
    exact hb a x _ V3 (it i a x ha hx) (fun y σ' F' H' q' e' V' => ⟨y, F', q', e3.trans e', V'⟩) (fun y σ' F' H' q' e' V' => ⟨y, F', q', e3.trans e', V'⟩) (fun y σ' F' H' q' e' V' => w1 y σ' F' H' q' ((A1.ff.trans e3).trans e') V') w4
def whileP (x0 : τ) (C : τ → (Bool → Prop) → Prop) (B : τ → (τ → Prop) → Prop) (k : τ → Prop) : Prop := ∃ I : Nat → τ → Prop, (∃ n, I n x0) ∧ ∀ n x, I n x → C x fun c => (c = true → B x fun y => ∃ m, m < n ∧ I m y) ∧ (c = false → k x)
theorem s_while {c : TT} {tb : TS} {Gt : τ → List Sl} {x0 : τ} {fc : τ → (Bool → Prop) → Prop} {fb : τ → Pd τ τ ρ → Prop} (h0 : Sub G (Gt x0)) (hc : ∀ x, Tt b (Gt x) c (fc x)) (hb : ∀ x, S b (Gt x) tb Gt Gt ro (fb x)) :
    S b G (tWhile c tb) Gt Gl ro (fun d => whileP x0 fc (fun x n => fb x ⟨n, n, d.nx, d.rt⟩) d.nx) :=
  fun σ F H D d V ⟨I, ⟨n0, i0⟩, it⟩ w1 _ _ w4 => by
    refine ⟨fun m σ2 H2 => ∃ x F2, I m x ∧ Ex F F2 ∧ Env b (Gt x) σ2 F2 H2, ⟨n0, x0, F, i0, Ex.refl _, V.sub h0⟩, fun m σ2 H2 ⟨x, F2, hx, e2, V2⟩ => ?_⟩
    refine hc x _ V2 (it m x hx) fun z F3 H3 q3 A3 V3 => ?_
    have e3 := e2.trans A3.ff
    cases z with
    | true =>
      refine iteT ⟨fun σ4 H4 => ∃ m', m' < m ∧ ∃ x F2, I m' x ∧ Ex F F2 ∧ Env b (Gt x) σ4 F2 H4, fun σ4 H4 h => h, ?_⟩
      exact hb x _ V3 (q3.1 rfl) (fun y σ' F' H' ⟨m', h1, h2⟩ e' V' => ⟨m', h1, y, F', h2, e3.trans e', V'⟩) (fun y σ' F' H' ⟨m', h1, h2⟩ e' V' => ⟨m', h1, y, F', h2, e3.trans e', V'⟩) (fun y σ' F' H' q' e' V' => w1 y σ' F' H' q' (e3.trans e') V') w4
    | false => exact iteF (w1 x _ F3 H3 (q3.2 rfl) e3 V3)
/-! ### new lists -/
def EN (b : Bs) (G : List Sl) (te : TE) (r : R α) (f : (List α → Prop) → Prop) : Prop := ∀ ⦃σ : L2.St⦄ ⦃F H : Hp⦄ ⦃Q : VK⦄ (k : List α → Prop), Env b G σ F H → f k →
  (∀ xs p vs F' H', k xs → After F H (owns G) F' H' → Env b G σ F' H' → H p = none → F' p = none → H' p = some (.lst vs) → All r F' xs vs → Q (.ref p) H') → te σ H Q
theorem thaw {M : List Addr} {p : Addr} {u : HO} (V : Env b G σ F H) (A : After F H M F' H') (V' : Env b G σ F' H') (hp : H p = none) (fp : F' p = none) (h' : H' p = some u) : After F H M (upd F' p u) H' ∧ Env b G σ (upd F' p u) H' := by
  have e : Ex (upd F' p u) H' := fun x o h => by
    by_cases z : x = p
    · subst z; rw [upd_same] at h; cases h; exact h'
    · rw [upd_ne z] at h; exact A.fh _ _ h
  have n1 : ∀ x, H x ≠ none → x ≠ p := fun x h z => h (by rw [z]; exact hp)
  refine ⟨⟨A.ff.trans (Ex.new fp), e, A.hh, A.kp, fun x h1 h2 => by rw [upd_ne (n1 x h2)]; exact A.nf x h1 h2⟩, V'.ff.trans (Ex.new fp), e, V'.hh, V'.kp, fun x h1 h2 => ?_, ?_, V'.nd, fun q hq => ?_⟩
  · rw [upd_ne (n1 x (V.kp x h2))]; exact V'.nf x h1 h2
  · exact V'.hold.up (Ex.new fp) fun _ _ _ h => h
  · rw [upd_ne (n1 q (V.hold.live q hq))]; exact V'.on q hq
theorem e_new {te : TE} {r : R α} {f : (List α → Prop) → Prop} (h : EN b G te r f) : E b G te (rLst r) f := fun _ _ _ _ k V q w => h k V q fun xs p vs F' H' q' A V' h1 h2 h3 h4 => by
  obtain ⟨A2, V2⟩ := thaw V A V' h1 h2 h3
  exact w xs _ _ H' q' A2 V2 ⟨p, vs, rfl, upd_same, h4.ex (Ex.new h2)⟩
/-- laid anew -/
theorem After.fresh {F H : Hp} {p : Addr} {o : HO} (e : Ex F H) (hp : H p = none) (M : List Addr) : After F H M F (upd H p o) where
  ff := Ex.refl F
  fh := ex_mut (ex_none e hp) e
  hh := fun a u _ h => by rw [upd_ne (ne_of_none h hp)]; exact h
  kp := fun a h => by
    by_cases q : a = p
    · subst q; exact absurd hp h
    · rw [upd_ne q]; exact h
  nf := fun a h1 _ => h1
theorem en_lay {r : R α} {xs : List α} {vs : List V} {Q : VK} {k : List α → Prop} {F0 H0 : Hp} (A0 : After F0 H0 (owns G) F H) (V : Env b G σ F H) (q : k xs) (A : All r F xs vs)
    (w : ∀ xs p vs F' H', k xs → After F0 H0 (owns G) F' H' → Env b G σ F' H' → H0 p = none → F' p = none → H' p = some (.lst vs) → All r F' xs vs → Q (.ref p) H') {p : Addr} (hp : H p = none) : Q (.ref p) (upd H p (.lst vs)) := by
  have B := After.fresh (o := .lst vs) V.fh hp
  refine w xs p vs F _ q (A0.trans (B _)) (V.step (B _)) ?_ (ex_none V.fh hp) upd_same A
  cases e : H0 p with
  | none => rfl
  | some u => exact absurd hp (A0.kp p (by rw [e]; exact fun z => nomatch z))
/-- the items of a display -/
def ArL (b : Bs) (G : List Sl) (ta : TA) (r : R α) (n : Nat) (f : (List α → Prop) → Prop) : Prop := ∀ ⦃σ : L2.St⦄ ⦃F H : Hp⦄ ⦃Q : List V → Hp → Prop⦄ (k : List α → Prop), Env b G σ F H → f k →
  (∀ xs vs F' H', k xs → xs.length = n → After F H (owns G) F' H' → Env b G σ F' H' → All r F' xs vs → Q vs H') → ta σ H Q
theorem al_nil {r : R α} : ArL b G tNil r 0 (fun k => k []) := fun _ _ _ _ k V q w => w [] [] _ _ q rfl (.refl V.fh _) V .nil
theorem al_cons {te : TE} {ta : TA} {r : R α} {n : Nat} {f : (α → Prop) → Prop} {g : (List α → Prop) → Prop} (h : E b G te r f) (h2 : ArL b G ta r n g) : ArL b G (tCons te ta) r (n + 1) (fun k => f fun x => g fun xs => k (x :: xs)) :=
  fun _ _ _ _ k V q w => h _ V q fun x v F1 H1 q1 A1 V1 r1 => h2 _ V1 q1 fun xs vs F2 H2 q2 l A2 V2 r2 => w (x :: xs) (v :: vs) F2 H2 q2 (by rw [List.length_cons, l]) (A1.trans A2) V2 (.cons (r.ex A2.ff r1) r2)
theorem en_lst {ta : TA} {r : R α} {n : Nat} {f : (List α → Prop) → Prop} (h : ArL b G ta r n f) (hn : n ≤ sizeLine) : EN b G (tLst ta) r f := fun _ _ _ _ k V q w => h _ V q fun xs vs F1 H1 q1 l A1 V1 r1 => ⟨by rw [r1.len, l]; exact hn, fun p hp => en_lay A1 V1 q1 r1 w hp⟩
/-- arguments -/
theorem ar_nil : Ar b G tNil rNil (fun k => k ()) := fun _ _ _ _ k V q w => w () [] _ _ q (.refl V.fh _) V rfl
theorem ar_one {te : TE} {r : R α} {f : (α → Prop) → Prop} (h : E b G te r f) : Ar b G (tCons te tNil) (rOne r) f := fun _ _ _ _ k V q w => h _ V q fun x v F1 H1 q1 A1 V1 r1 => w x [v] F1 H1 q1 A1 V1 ⟨v, rfl, r1⟩
theorem ar_cons {te : TE} {ta : TA} {r : R α} {s : RI γ} {f : (α → Prop) → Prop} {g : (γ → Prop) → Prop} (h : E b G te r f) (h2 : Ar b G ta s g) : Ar b G (tCons te ta) (rCons r s) (fun k => f fun x => g fun y => k (x, y)) :=
  fun _ _ _ _ k V q w => h _ V q fun x v F1 H1 q1 A1 V1 r1 => h2 _ V1 q1 fun y vs F2 H2 q2 A2 V2 r2 => w (x, y) (v :: vs) F2 H2 q2 (A1.trans A2) V2 ⟨v, vs, rfl, r.ex A2.ff r1, r2⟩
theorem e_tup {ta : TA} {s : RI α} {f : (α → Prop) → Prop} (h : Ar b G ta s f) (hn : s.n ≤ sizeLine) : E b G (tTup ta) (rTp K s) f := fun _ _ _ _ k V q w => h _ V q fun x vs F1 H1 q1 A1 V1 r1 => ⟨by rw [s.ln r1]; exact hn, fun p hp => by
  have B := After.new (o := .tup vs) V1.fh hp
  exact w x _ _ _ q1 (A1.trans (B.mono fun _ h => nomatch h)) (V1.step B) ⟨p, vs, rfl, SqT.of upd_same, s.ex B.ff r1⟩⟩
theorem e_cast {te : TE} {r : R α} {r' : R γ} {f : (α → Prop) → Prop} {g : α → γ} (hg : ∀ a v F, r.h a v F → r'.h (g a) v F) (h : E b G te r f) : E b G te r' (fun k => f fun a => k (g a)) := fun _ _ _ _ k V q w => h _ V q fun a v F' H' q' A V' r1 => w (g a) v F' H' q' A V' (hg a v F' r1)
/-! comprehensions -/
def compP (xs : List α) (B : α → List β → (List β → Prop) → Prop) (k : List β → Prop) : Prop := ∃ I : Nat → List β → Prop, I 0 [] ∧ (∀ i a acc, xs[i]? = some a → I i acc → B a acc (I (i + 1))) ∧ ∀ acc, I xs.length acc → k acc
theorem wipeG_get {j : Nat} {s : Sl} : ∀ {vs : List Nat}, j ∈ vs → (wipeG G vs)[j]? = some s → s = any
  | v :: vs, h, e => by
    have e : ((wipeG G vs).set v any)[j]? = some s := e
    by_cases q : v = j
    · subst q
      have hl : v < (wipeG G vs).length := by
        have := (List.getElem?_eq_some_iff.mp e).1
        rw [List.length_set] at this; exact this
      rw [List.getElem?_set_self hl] at e
      exact (Option.some.inj e).symm
    · rw [List.getElem?_set_ne q] at e
      exact wipeG_get ((List.mem_cons.mp h).resolve_left (fun z => q z.symm)) e
theorem wipe_get_ne {j : Nat} : ∀ {vs : List Nat}, j ∉ vs → (wipe σ vs)[j]? = σ[j]?
  | [], _ => rfl
  | v :: vs, h => by
    show ((wipe σ vs).set v none)[j]? = _
    rw [List.getElem?_set_ne (fun z => h (by rw [z]; exact List.mem_cons_self)), wipe_get_ne (fun z => h (List.mem_cons_of_mem _ z))]
theorem Env.poke {p : Addr} {o : HO} (V : Env b G σ F H) (n : p ∉ owns G) (f : F p = none) (hb : b.H p = none) : Env b G σ F (upd H p o) where
  ff := V.ff
  fh := ex_mut f V.fh
  hh := fun a u m h => by rw [upd_ne (ne_of_none h hb)]; exact V.hh a u m h
  kp := fun a h => by
    by_cases q : a = p
    · subst q; exact absurd hb h
    · rw [upd_ne q]; exact V.kp a h
  nf := V.nf
  hold := V.hold.up (Ex.refl _) fun q hq u h => by
    have ne : q ≠ p := fun z => n (by rw [← z]; exact hq)
    rw [upd_ne ne]; exact h
  nd := V.nd
  on := V.on
theorem Env.unwipe {vs : List Nat} (V : Env b (wipeG G vs) (L2.wipe σ vs) F H) (hl : (wipeG G vs).length = σ.length) : Env b (wipeG G vs) σ F H :=
  V.step0 (.refl V.fh []) (fun _ z => nomatch z) (fun _ h => h) V.nd (Holds.of hl fun j s o h1 h2 => by
    by_cases q : j ∈ vs
    · rw [wipeG_get q h1]; exact trivial
    · obtain ⟨o', h3, h4⟩ := V.hold.at_ h1
      rw [wipe_get_ne q, h2] at h3
      cases h3; exact h4)
theorem en_cq {te : TE} {r : R α} {f g : (List α → Prop) → Prop} (h : EN b G te r f) (w : ∀ k, g k → f k) : EN b G te r g := fun _ _ _ _ k V q => h k V (w k q)
theorem e_cq {te : TE} {r : R α} {f g : (α → Prop) → Prop} (h : E b G te r f) (w : ∀ k, g k → f k) : E b G te r g := fun _ _ _ _ k V q => h k V (w k q)
theorem en_comp {wi : TI} {g : TG} {tt : TT} {te : TE} {vs : List Nat} {r : R α} {rb : R β} {up : α → List Sl → List Sl} {fw : (List α → Prop) → Prop} {ft : α → (Bool → Prop) → Prop} {fe : α → (β → Prop) → Prop}
    (hw : Wk b G wi r fw) (hg : Tg g r up vs) (hG : wipeG G vs = G) (ht : ∀ a, Tt b (up a G) tt (ft a)) (he : ∀ a, E b (up a G) te rb (fe a)) :
    EN b G (tLc wi g tt te vs) rb (fun k => fw fun xs => xs.length ≤ sizeLine ∧ compP xs (fun a acc n => ft a fun c => (c = true → fe a fun y => n (acc ++ [y])) ∧ (c = false → n acc)) k) :=
  fun σ F H Q k V q w => by
    refine hw _ V q ?_
    intro xs J F1 H1 q1 A1 V1 ⟨Gs, Y, hW, hGs, hY⟩ 
    obtain ⟨hl, I, i0, it, id⟩ := q1
    have hlen : G.length = σ.length := V.hold.len
    refine raw_c hW fun Dl hD => ?_
    have fD : F1 Dl = none := ex_none V1.fh hD
    have B0 := After.fresh (o := .lst []) V1.fh hD []
    refine ⟨fun i H2 => ∃ acc ws F2, I i acc ∧ acc.length ≤ i ∧ After F1 H1 (owns G) F2 H2 ∧ Env b G σ F2 H2 ∧ F2 Dl = none ∧ H2 Dl = some (.lst ws) ∧ All rb F2 acc ws, ⟨[], [], F1, i0, Nat.le_refl _, After.fresh V1.fh hD _, V1.step B0, fD, upd_same, .nil⟩, fun i H2 _ ⟨_, _, F2, _, _, A2, V2, _⟩ => hGs _ (A2.ff.trans V2.fh), fun i v H2 H3 hi ⟨acc, ws, F2, hacc, hle, A2, V2, fD2, hD2, hAl⟩ y => ?_, fun H2 ⟨acc, ws, F2, hacc, hle, A2, V2, fD2, hD2, hAl⟩ => ?_⟩
    · obtain ⟨a, F3, ha, A3, hr⟩ := hY i v F2 H2 H3 hi A2.ff V2.fh y
      have V3 := V2.step A3
      have hw3 := V3.wipe vs
      rw [hG] at hw3
      have fD3 : F3 Dl = none := A3.nf _ fD2 (by rw [hD2]; exact fun z => nomatch z)
      have hD3 : H3 Dl = some (.lst ws) := A3.hh _ _ (by simp) hD2
      refine hg.2 hr hw3 fun σ3 V4 ew => ?_
      have nD : Dl ∉ owns (up a G) := fun z => by
        have := V.hold.live Dl ((hg.1 a G).1 _ z)
        exact this (by
          cases e : H Dl with
          | none => rfl
          | some u => exact absurd hD (A1.kp Dl (by rw [e]; exact fun z => nomatch z)))
      have eqw : wipe (wipe σ vs) vs = wipe σ vs := by
        have : ∀ us : List Nat, (∀ x ∈ us, x ∈ vs) → wipe (wipe σ vs) us = wipe σ vs := by
          intro us
          induction us with
          | nil => intro _; rfl
          | cons x us ih =>
            intro hx
            show (wipe (wipe σ vs) us).set x none = _
            rw [ih fun z hz => hx z (List.mem_cons_of_mem _ hz)]
            have hx' := hx x List.mem_cons_self
            apply List.ext_getElem?
            intro j
            by_cases z : x = j
            · subst z
              have : ∀ ws : List Nat, x ∈ ws → (wipe σ ws)[x]? = none ∨ (wipe σ ws)[x]? = some none := by
                intro ws
                induction ws with
                | nil => intro h; nomatch h
                | cons y ws ih2 =>
                  intro h
                  show ((wipe σ ws).set y none)[x]? = none ∨ ((wipe σ ws).set y none)[x]? = some none
                  by_cases zz : y = x
                  · subst zz
                    by_cases hh : y < (wipe σ ws).length
                    · rw [List.getElem?_set_self hh]; exact .inr rfl
                    · exact .inl (by rw [List.getElem?_eq_none]; rw [List.length_set]; omega)
                  · rw [List.getElem?_set_ne zz]
                    exact ih2 ((List.mem_cons.mp h).resolve_left (fun z => zz z.symm))
              rcases this vs hx' with e | e
              · have hh : ¬ x < (wipe σ vs).length := fun hh => by rw [List.getElem?_eq_getElem hh] at e; cases e
                rw [e, List.getElem?_eq_none]; rw [List.length_set]; omega
              · rw [e, List.getElem?_set_self (List.getElem?_eq_some_iff.mp e).1]
            · rw [List.getElem?_set_ne z]
        exact this vs fun _ h => h
      have back : ∀ F5 H5, After F3 H3 (owns (up a G)) F5 H5 → Env b (up a G) σ3 F5 H5 → Env b G σ F5 H5 ∧ F5 Dl = none ∧ H5 Dl = some (.lst ws) ∧ After F1 H1 (owns G) F5 H5 := fun F5 H5 A5 V5 => by
        have W := V5.wipe vs
        rw [(hg.1 a G).2, hG, ew, eqw] at W
        rw [← hG] at W
        have W2 := W.unwipe (by rw [hG]; exact hlen)
        rw [hG] at W2
        exact ⟨W2, A5.nf _ fD3 (by rw [hD3]; exact fun z => nomatch z), A5.hh _ _ nD hD3, (A2.trans (A3.mono fun _ h => nomatch h)).trans (A5.mono fun p hp => (hg.1 a G).1 p hp)⟩
      refine ⟨ew.trans eqw, ?_⟩
      have hn : acc.length < sizeLine := by omega
      refine ht a _ V4 (it i a acc ha hacc) fun c F4 H4 q4 A4 V5 => ?_
      cases c with
      | true =>
        refine iteT (he a _ V5 (q4.1 rfl) fun y v5 F5 H5 q5 A5 V6 r5 => ?_)
        obtain ⟨W, f5, h5, B5⟩ := back F5 H5 (A4.trans A5) V6
        have hAl5 := hAl.ex (A3.ff.trans (A4.ff.trans A5.ff))
        have lw : ws.length = acc.length := hAl.len
        refine ⟨ws, h5, by omega, acc ++ [y], ws ++ [v5], F5, q5, by simp; omega, ?_, ?_, f5, upd_same, Dh.paired_app hAl5 (.cons r5 .nil)⟩
        all_goals have hD1 : H1 Dl = none := hD
        all_goals have n1 : ∀ {x : Addr}, H1 x ≠ none → x ≠ Dl := fun h z => h (by rw [z]; exact hD1)
        · exact ⟨B5.ff, ex_mut f5 B5.fh, fun x o hm hx => by rw [upd_ne (n1 (by rw [hx]; exact fun z => nomatch z))]; exact B5.hh x o hm hx, fun x hx => by rw [upd_ne (n1 hx)]; exact B5.kp x hx, B5.nf⟩
        · refine W.poke (fun z => ?_) f5 ?_
          · exact W.hold.live Dl z |> fun h => (V1.hold.live Dl z) hD
          · cases e : b.H Dl with
            | none => rfl
            | some u => exact absurd hD (V1.kp Dl (by rw [e]; exact fun z => nomatch z))
      | false =>
        obtain ⟨W, f5, h5, B5⟩ := back F4 H4 A4 V5
        exact iteF ⟨acc, ws, F4, q4.2 rfl, by omega, B5, W, f5, h5, hAl.ex (A3.ff.trans A4.ff)⟩
    · refine w acc Dl ws F2 H2 (id acc hacc) (A1.trans A2) V2 ?_ fD2 hD2 hAl
      cases e : H Dl with
      | none => rfl
      | some u => exact absurd hD (A1.kp Dl (by rw [e]; exact fun z => nomatch z))
end
end Mi
/-! Mir3 -/
set_option Elab.async false
set_option linter.all false
set_option maxRecDepth 100000
set_option maxHeartbeats 4000000
namespace Mi
open PySem PySem.Spec L2 Dh
open _root_.Evl (Ex)
section
variable {K : PySem.W.Frag} {b : Bs} {G : List Sl} {α β γ δ τ τ' ρ ε : Type} {Gn : τ → List Sl} {Gl : ε → List Sl} {ro : ρ → V → Hp → Hp → Prop} {σ : L2.St} {F H F' H' : Hp}
/-! ### tests -/
theorem t_test {te : TE} {f : (Bool → Prop) → Prop} (h : E b G te rBl f) : Tt b G (tTest te) f := fun _ _ _ _ k V q w => by
  refine h k V q ?_
  intro a v F' H' q' A V' r
  exact ⟨a, r, w a F' H' q' A V'⟩
theorem t_B {te : TE} {f : (Bool → Prop) → Prop} (h : E b G te rBl f) : Tt b G (tB te) f := fun _ _ _ _ k V q w => by
  refine h k V q ?_
  intro a v F' H' q' A V' r
  exact ⟨a, r, w a F' H' q' A V'⟩
theorem t_yes : Tt b G tYes (fun k => k true) := fun _ _ _ _ k V q w => w true _ _ q (.refl V.fh _) V
theorem t_not {t : TT} {f : (Bool → Prop) → Prop} (h : Tt b G t f) : Tt b G (tNot t) (fun k => f fun c => k (!c)) := fun _ _ _ _ k V q w => h _ V q fun a F' H' q' A V' => w _ F' H' q' A V'
theorem t_and {t u : TT} {f g : (Bool → Prop) → Prop} (h : Tt b G t f) (h2 : Tt b G u g) : Tt b G (tAnd t u) (fun k => f fun a => (a = true → g k) ∧ (a = false → k false)) := fun _ _ _ _ k V q w => h _ V q fun a F' H' q' A V' => by
  cases a with
  | true => exact iteT (h2 k V' (q'.1 rfl) fun c F2 H2 q2 A2 V2 => w c F2 H2 q2 (A.trans A2) V2)
  | false => exact iteF (w false F' H' (q'.2 rfl) A V')
theorem t_or {t u : TT} {f g : (Bool → Prop) → Prop} (h : Tt b G t f) (h2 : Tt b G u g) : Tt b G (tOr t u) (fun k => f fun a => (a = true → k true) ∧ (a = false → g k)) := fun _ _ _ _ k V q w => h _ V q fun a F' H' q' A V' => by
  cases a with
  | true => exact iteT (w true F' H' (q'.1 rfl) A V')
  | false => exact iteF (h2 k V' (q'.2 rfl) fun c F2 H2 q2 A2 V2 => w c F2 H2 q2 (A.trans A2) V2)
theorem t_cq {t : TT} {f g : (Bool → Prop) → Prop} (h : Tt b G t f) (w : ∀ k, g k → f k) : Tt b G t g := fun _ _ _ _ k V q => h k V (w k q)
/-- both plain -/
theorem t_andP {t u : TT} {f : (Bool → Prop) → Prop} {y : Bool} (h : Tt b G t f) (h2 : Tt b G u (fun k => k y)) : Tt b G (tAnd t u) (fun k => f fun a => k (a && y)) := fun _ _ _ _ k V q w => h _ V q fun a F' H' q' A V' => by
  cases a with
  | true => exact iteT (h2 k V' q' fun c F2 H2 q2 A2 V2 => w c F2 H2 q2 (A.trans A2) V2)
  | false => exact iteF (w false F' H' q' A V')
theorem t_orP {t u : TT} {f : (Bool → Prop) → Prop} {y : Bool} (h : Tt b G t f) (h2 : Tt b G u (fun k => k y)) : Tt b G (tOr t u) (fun k => f fun a => k (a || y)) := fun _ _ _ _ k V q w => h _ V q fun a F' H' q' A V' => by
  cases a with
  | true => exact iteT (w true F' H' q' A V')
  | false => exact iteF (h2 k V' q' fun c F2 H2 q2 A2 V2 => w c F2 H2 q2 (A.trans A2) V2)
theorem e_if {c : TT} {ta te : TE} {r : R α} {fc : (Bool → Prop) → Prop} {f g : (α → Prop) → Prop} (hc : Tt b G c fc) (h1 : E b G ta r f) (h2 : E b G te r g) : E b G (tIf c ta te) r (fun k => fc fun a => (a = true → f k) ∧ (a = false → g k)) := fun _ _ _ _ k V q w => by
  refine hc _ V q ?_
  intro a F' H' q' A V'
  cases a with
  | true => exact iteT (h1 k V' (q'.1 rfl) fun x v F2 H2 q2 A2 V2 => w x v F2 H2 q2 (A.trans A2) V2)
  | false => exact iteF (h2 k V' (q'.2 rfl) fun x v F2 H2 q2 A2 V2 => w x v F2 H2 q2 (A.trans A2) V2)
theorem e_andV {ta te : TE} {f g : (Bool → Prop) → Prop} (h1 : E b G ta rBl f) (h2 : E b G te rBl g) : E b G (tAndV ta te) rBl (fun k => f fun a => (a = true → g k) ∧ (a = false → k false)) := fun _ _ _ _ k V q w => by
  refine h1 _ V q ?_
  intro a v F' H' q' A V' r
  refine ⟨a, r, ?_⟩
  cases a with
  | true => exact iteT (h2 k V' (q'.1 rfl) fun x v F2 H2 q2 A2 V2 => w x v F2 H2 q2 (A.trans A2) V2)
  | false => exact iteF (w false _ F' H' (q'.2 rfl) A V' rfl)
theorem e_orV {ta te : TE} {f g : (Bool → Prop) → Prop} (h1 : E b G ta rBl f) (h2 : E b G te rBl g) : E b G (tOrV ta te) rBl (fun k => f fun a => (a = true → k true) ∧ (a = false → g k)) := fun _ _ _ _ k V q w => by
  refine h1 _ V q ?_
  intro a v F' H' q' A V' r
  refine ⟨a, r, ?_⟩
  cases a with
  | true => exact iteT (w true _ F' H' (q'.1 rfl) A V' rfl)
  | false => exact iteF (h2 k V' (q'.2 rfl) fun x v F2 H2 q2 A2 V2 => w x v F2 H2 q2 (A.trans A2) V2)
theorem e_notV {ta : TE} {f : (Bool → Prop) → Prop} (h : E b G ta rBl f) : E b G (tNotV ta) rBl (fun k => f fun a => k (!a)) := fun _ _ _ _ k V q w => by
  refine h _ V q ?_
  intro a v F' H' q' A V' r
  exact ⟨a, r, w _ _ F' H' q' A V' rfl⟩
theorem e_chain {r1 r2 : R2} {ta te tc : TE} {ra : R α} {rb : R β} {rc : R γ} {fa : (α → Prop) → Prop} {fb : (β → Prop) → Prop} {fc : (γ → Prop) → Prop} {g : α → β → (Bool → Prop) → Prop} {g2 : β → γ → (Bool → Prop) → Prop}
    (o1 : Op2 r1 ra rb rBl g) (o2 : Op2 r2 rb rc rBl g2) (ha : E b G ta ra fa) (hb : E b G te rb fb) (hc : E b G tc rc fc) :
    E b G (tChain r1 r2 ta te tc) rBl (fun k => fa fun x => fb fun y => g x y fun c => (c = true → fc fun z => g2 y z k) ∧ (c = false → k false)) := fun _ _ _ _ k V q w => by
  refine ha _ V q ?_
  intro x v F1 H1 q1 A1 V1 r1
  refine hb _ V1 q1 ?_
  intro y u F2 H2 q2 A2 V2 r2
  refine o1 _ (ra.ex A2.ff r1) r2 V2.fh q2 ?_
  intro c z F3 H3 q3 A3 r3
  refine ⟨c, r3, ?_⟩
  have A123 := (A1.trans A2).trans (A3.mono (M' := owns G) fun _ h => nomatch h)
  cases c with
  | true =>
    refine iteT (hc _ (V2.step A3) (q3.1 rfl) ?_)
    intro s t F4 H4 q4 A4 V4 r4
    exact o2 k (rb.ex (A3.ff.trans A4.ff) r2) r4 V4.fh q4 fun i j F5 H5 q5 A5 r5 => w i j F5 H5 q5 ((A123.trans A4).trans (A5.mono fun _ h => nomatch h)) (V4.step A5) r5
  | false => exact iteF (w false _ F3 H3 (q3.2 rfl) A123 (V2.step A3) rfl)
/-! ### lists that are read -/
def LV (b : Bs) (G : List Sl) (te : TE) (r : R α) (f : (List α → Prop) → Prop) : Prop := ∀ ⦃σ : L2.St⦄ ⦃F H : Hp⦄ ⦃Q : VK⦄ (k : List α → Prop), Env b G σ F H → f k →
  (∀ xs p F' H', k xs → After F H (owns G) F' H' → Env b G σ F' H' → (∀ F2 H2, Ex F' F2 → Env b G σ F2 H2 → ∃ vs, H2 p = some (.lst vs) ∧ All r F2 xs vs) → Q (.ref p) H') → te σ H Q
theorem lv_e {te : TE} {r : R α} {f : (List α → Prop) → Prop} (h : E b G te (rLst r) f) : LV b G te r f := fun _ _ _ _ k V q w => by
  refine h k V q ?_
  rintro xs v F1 H1 q1 A1 V1 ⟨p, vs, e, hp, A⟩
  subst e
  exact w xs p F1 H1 q1 A1 V1 fun F2 H2 e V2 => ⟨vs, V2.fh _ _ (e _ _ hp), A.ex e⟩
theorem lv_own {i : Nat} {p : Addr} {r : R α} {xs : List α} (h : G[i]? = some (own p (cLst r) xs)) : LV b G (tVar i) r (fun k => k xs) := fun σ F H Q k V q w => by
  obtain ⟨o, h1, rfl, _⟩ := V.hold.at_ h
  refine ⟨.ref p, h1, w xs p F H q (.refl V.fh _) V fun F2 H2 e V2 => ?_⟩
  obtain ⟨o, h1, _, u, h2, vs, rfl, h3⟩ := V2.hold.at_ h
  exact ⟨vs, h2, h3⟩
theorem e_lenL {te : TE} {r : R α} {f : (List α → Prop) → Prop} (h : LV b G te r f) : E b G (tCB (rLenQ K) (tCons te tNil)) rInt (fun k => f fun xs => k (xs.length : Int)) := fun _ _ _ _ k V q w => by
  refine h _ V q ?_
  intro xs p F1 H1 q1 A1 V1 z
  obtain ⟨vs, h1, h2⟩ := z F1 H1 (Ex.refl _) V1
  exact ⟨p, vs, rfl, .inl (SqL.of h1), w _ _ F1 H1 q1 A1 V1 (by rw [h2.len]; rfl)⟩
theorem e_lenT {te : TE} {r : R α} {f : (List α → Prop) → Prop} (h : E b G te (rTup K r) f) : E b G (tCB (rLenQ K) (tCons te tNil)) rInt (fun k => f fun xs => k (xs.length : Int)) := fun _ _ _ _ k V q w => by
  refine h _ V q ?_
  rintro xs v F1 H1 q1 A1 V1 ⟨p, vs, e, hp, A⟩
  subst e
  exact ⟨p, vs, rfl, .inr (_root_.Evl.ex_t V1.fh hp), w _ _ F1 H1 q1 A1 V1 (by rw [A.len]; rfl)⟩
theorem e_lenS {te : TE} {f : (Str → Prop) → Prop} (h : E b G te rStr f) : E b G (tCB rLenS (tCons te tNil)) rInt (fun k => f fun z => z.length ≤ sizeLine ∧ k (z.length : Int)) := fun _ _ _ _ k V q w => by
  refine h _ V q ?_
  rintro z v F1 H1 q1 A1 V1 e
  cases e
  exact ⟨z, rfl, q1.1, w _ _ F1 H1 q1.2 A1 V1 rfl⟩
theorem e_ixL {te ti : TE} {r : R α} {f : (List α → Prop) → Prop} {g : (Int → Prop) → Prop} (h : LV b G te r f) (hi : E b G ti rInt g) : E b G (tOp (rIxL K) te ti) r (fun k => f fun xs => g fun i => ∃ a, atI xs i = some a ∧ k a) := fun _ _ _ _ k V q w => by
  refine h _ V q ?_
  intro xs p F1 H1 q1 A1 V1 z
  refine hi _ V1 q1 ?_
  rintro i v F2 H2 ⟨a, ha, q2⟩ A2 V2 e
  cases e
  obtain ⟨vs, h1, h2⟩ := z F2 H2 A2.ff V2
  obtain ⟨v, hv, hr⟩ := h2.atI ha
  exact ⟨p, vs, i, v, rfl, rfl, SqL.of h1, hv, w a v F2 H2 q2 (A1.trans A2) V2 hr⟩
theorem t_truL {te : TE} {r : R α} {f : (List α → Prop) → Prop} (h : LV b G te r f) : Tt b G (tTru K te) (fun k => f fun xs => k (!xs.isEmpty)) := fun _ _ _ _ k V q w => by
  refine h _ V q ?_
  intro xs p F1 H1 q1 A1 V1 z
  obtain ⟨vs, h1, h2⟩ := z F1 H1 (Ex.refl _) V1
  refine ⟨!xs.isEmpty, .inl ⟨vs, SqL.of h1, ?_⟩, w _ F1 H1 q1 A1 V1⟩
  cases h2 <;> rfl
theorem e_notL {te : TE} {r : R α} {f : (List α → Prop) → Prop} (h : LV b G te r f) : E b G (tNotT K te) rBl (fun k => f fun xs => k xs.isEmpty) := fun _ _ _ _ k V q w => by
  refine h _ V q ?_
  intro xs p F1 H1 q1 A1 V1 z
  obtain ⟨vs, h1, h2⟩ := z F1 H1 (Ex.refl _) V1
  refine ⟨!xs.isEmpty, .inl ⟨vs, SqL.of h1, ?_⟩, w _ _ F1 H1 q1 A1 V1 ?_⟩
  · cases h2 <;> rfl
  · cases xs <;> rfl
def PO' (b : Bs) (G : List Sl) (t : TO) (f : (Option Int → Prop) → Prop) : Prop := ∀ ⦃σ : L2.St⦄ ⦃F H : Hp⦄ ⦃Q : Option Int → Hp → Prop⦄ (k : Option Int → Prop), Env b G σ F H → f k → (∀ a F' H', k a → After F H (owns G) F' H' → Env b G σ F' H' → Q a H') → t σ H Q
theorem po_no : PO' b G tNoPart (fun k => k none) := fun _ _ _ _ k V q w => w none _ _ q (.refl V.fh _) V
theorem po_at {te : TE} {f : (Int → Prop) → Prop} (h : E b G te rInt f) : PO' b G (tPart te) (fun k => f fun i => k (some i)) := fun _ _ _ _ k V q w => by
  refine h _ V q ?_
  intro i v F1 H1 q1 A1 V1 e
  exact ⟨i, e, w _ F1 H1 q1 A1 V1⟩
def cutL (xs : List α) (lo hi : Option Int) : List α := (xs.drop (HT.sIx xs.length 0 lo)).take (HT.sIx xs.length xs.length hi - HT.sIx xs.length 0 lo)
theorem All.drop {r : R α} {F : Hp} : ∀ {xs : List α} {vs : List V} (n : Nat), All r F xs vs → All r F (xs.drop n) (vs.drop n)
  | _, _, 0, h => h
  | _, _, _ + 1, .nil => .nil
  | _, _, n + 1, .cons _ t => All.drop n t
theorem All.take {r : R α} {F : Hp} : ∀ {xs : List α} {vs : List V} (n : Nat), All r F xs vs → All r F (xs.take n) (vs.take n)
  | _, _, 0, _ => .nil
  | _, _, _ + 1, .nil => .nil
  | _, _, n + 1, .cons h t => .cons h (All.take n t)
theorem All.cut {r : R α} {F : Hp} {xs : List α} {vs : List V} {lo hi : Option Int} (h : All r F xs vs) : All r F (cutL xs lo hi) (cutV vs lo hi) := by
  unfold cutL cutV
  rw [h.len]
  exact (h.drop _).take _
theorem en_slL {te : TE} {tl th : TO} {r : R α} {f : (List α → Prop) → Prop} {g g2 : (Option Int → Prop) → Prop} (h : LV b G te r f) (hl : PO' b G tl g) (hh : PO' b G th g2) : EN b G (tSl (rSlL K) te tl th) r (fun k => f fun xs => g fun lo => g2 fun hi => k (cutL xs lo hi)) := fun _ _ _ _ k V q w => by
  refine h _ V q ?_
  intro xs p F1 H1 q1 A1 V1 z
  refine hl _ V1 q1 ?_
  intro lo F2 H2 q2 A2 V2
  refine hh _ V2 q2 ?_
  intro hi F3 H3 q3 A3 V3
  obtain ⟨vs, h1, h2⟩ := z F3 H3 (A2.ff.trans A3.ff) V3
  exact ⟨p, vs, rfl, SqL.of h1, fun l hl => en_lay ((A1.trans A2).trans A3) V3 q3 h2.cut w hl⟩
theorem e_slS {te : TE} {tl th : TO} {f : (Str → Prop) → Prop} {g g2 : (Option Int → Prop) → Prop} (h : E b G te rStr f) (hl : PO' b G tl g) (hh : PO' b G th g2) : E b G (tSl rSlS te tl th) rStr (fun k => f fun z => g fun lo => g2 fun hi => z.length ≤ sizeLine ∧ k (cutS z lo hi)) := fun _ _ _ _ k V q w => by
  refine h _ V q ?_
  intro z v F1 H1 q1 A1 V1 e
  cases e
  refine hl _ V1 q1 ?_
  intro lo F2 H2 q2 A2 V2
  refine hh _ V2 q2 ?_
  intro hi F3 H3 q3 A3 V3
  exact ⟨z, rfl, q3.1, w _ _ F3 H3 q3.2 ((A1.trans A2).trans A3) V3 rfl⟩
theorem en_listL {te : TE} {r : R α} {f : (List α → Prop) → Prop} (h : LV b G te r f) : EN b G (tCB (rListQ K) (tCons te tNil)) r f := fun _ _ _ _ k V q w => by
  refine h _ V q ?_
  intro xs p F1 H1 q1 A1 V1 z
  obtain ⟨vs, h1, h2⟩ := z F1 H1 (Ex.refl _) V1
  exact ⟨p, vs, rfl, .inl (SqL.of h1), fun l hl => en_lay A1 V1 q1 h2 w hl⟩
theorem en_listT {te : TE} {r : R α} {f : (List α → Prop) → Prop} (h : E b G te (rTup K r) f) : EN b G (tCB (rListQ K) (tCons te tNil)) r f := fun _ _ _ _ k V q w => by
  refine h _ V q ?_
  rintro xs v F1 H1 q1 A1 V1 ⟨p, vs, e, hp, A⟩
  subst e
  exact ⟨p, vs, rfl, .inr (_root_.Evl.ex_t V1.fh hp), fun l hl => en_lay A1 V1 q1 A w hl⟩
theorem e_tupL {te : TE} {r : R α} {f : (List α → Prop) → Prop} (h : LV b G te r f) : E b G (tCB (rTupQ K) (tCons te tNil)) (rTup K r) f := fun _ _ _ _ k V q w => by
  refine h _ V q ?_
  intro xs p F1 H1 q1 A1 V1 z
  obtain ⟨vs, h1, h2⟩ := z F1 H1 (Ex.refl _) V1
  refine ⟨p, vs, rfl, .inl ⟨SqL.of h1, fun l hl => ?_⟩⟩
  have B := After.new (o := .tup vs) V1.fh hl
  exact w xs _ _ _ q1 (A1.trans (B.mono fun _ h => nomatch h)) (V1.step B) ⟨l, vs, rfl, SqT.of upd_same, h2.ex B.ff⟩
theorem en_cat {ta te : TE} {r : R α} {f g : (List α → Prop) → Prop} (h : LV b G ta r f) (h2 : LV b G te r g) : EN b G (tOp rCat ta te) r (fun k => f fun xs => g fun ys => xs.length + ys.length ≤ sizeLine ∧ k (xs ++ ys)) := fun _ _ _ _ k V q w => by
  refine h _ V q ?_
  intro xs p F1 H1 q1 A1 V1 z
  refine h2 _ V1 q1 ?_
  intro ys p2 F2 H2 q2 A2 V2 z2
  obtain ⟨vs, k1, k2⟩ := z F2 H2 A2.ff V2
  obtain ⟨us, k3, k4⟩ := z2 F2 H2 (Ex.refl _) V2
  exact ⟨p, p2, vs, us, rfl, rfl, k1, k3, by rw [k2.len, k4.len]; exact q2.1, fun l hl => en_lay (A1.trans A2) V2 q2.2 (Dh.paired_app k2 k4) w hl⟩
theorem e_catT {ta te : TE} {r : R α} {f g : (List α → Prop) → Prop} (h : E b G ta (rTup K r) f) (h2 : E b G te (rTup K r) g) : E b G (tOp (rCatA K) ta te) (rTup K r) (fun k => f fun xs => g fun ys => xs.length + ys.length ≤ sizeLine ∧ k (xs ++ ys)) := fun _ _ _ _ k V q w => by
  refine h _ V q ?_
  rintro xs v F1 H1 q1 A1 V1 ⟨p, vs, e, hp, A⟩
  subst e
  refine h2 _ V1 q1 ?_
  rintro ys v F2 H2 q2 A2 V2 ⟨p', vs', e, hp', A'⟩
  subst e
  have hp2 := _root_.Evl.ex_t V2.fh (_root_.Evl.ex_t A2.ff hp)
  refine ⟨p, p', vs, vs', rfl, rfl, hp2, _root_.Evl.ex_t V2.fh hp', by rw [A.len, A'.len]; exact q2.1, fun e => ?_, fun _ e => ?_, fun _ _ t ht => ?_⟩
  · subst e
    cases A
    exact w _ _ F2 H2 q2.2 (A1.trans A2) V2 ⟨p', vs', rfl, hp', A'⟩
  · subst e
    cases A'
    refine w _ _ F2 H2 q2.2 (A1.trans A2) V2 ?_
    rw [List.append_nil]
    exact ⟨p, vs, rfl, _root_.Evl.ex_t A2.ff hp, A.ex A2.ff⟩
  · have B := After.new (o := .tup (vs ++ vs')) V2.fh ht
    exact w _ _ _ _ q2.2 ((A1.trans A2).trans (B.mono fun _ h => nomatch h)) (V2.step B) ⟨t, _, rfl, SqT.of upd_same, All.ex B.ff (Dh.paired_app (A.ex A2.ff) A')⟩
/-- values without parts -/
structure Flat [DecidableEq α] (r : R α) : Prop where
  fl : ∀ {a v F}, r.h a v F → flatV v = true
  eq : ∀ {a v F c u F'}, r.h a v F → r.h c u F' → eqV v u = decide (a = c)
theorem flat_int : Flat rInt := ⟨fun h => by cases h; rfl, fun h1 h2 => by
  cases h1; cases h2
  show ((_ : Int) == _) = _
  rw [Bool.beq_eq_decide_eq]⟩
theorem flat_str : Flat rStr := ⟨fun h => by cases h; rfl, fun h1 h2 => by
  cases h1; cases h2
  show ((_ : Str) == _) = _
  rw [Bool.beq_eq_decide_eq]⟩
theorem All.flat [DecidableEq α] {r : R α} (fl : Flat r) {F : Hp} {xs : List α} {vs : List V} (h : All r F xs vs) : vs.all flatV = true := by
  induction h with
  | nil => rfl
  | cons r t ih => rw [List.all_cons, fl.fl r, ih]; rfl
theorem All.inV [DecidableEq α] {r : R α} (fl : Flat r) {F F' : Hp} {xs : List α} {vs : List V} {a : α} {v : V} (h : All r F xs vs) (ha : r.h a v F') : L2.inV v vs = decide (a ∈ xs) := by
  induction h with
  | nil => simp [L2.inV]
  | cons r t ih =>
    unfold L2.inV at ih ⊢
    rw [List.any_cons, ih, fl.eq r ha]
    simp only [List.mem_cons, Bool.decide_or]
    congr 1
    exact decide_eq_decide.mpr ⟨fun h => h.symm, fun h => h.symm⟩
theorem e_inL [DecidableEq α] {neg : Bool} {tx te : TE} {r : R α} {f : (α → Prop) → Prop} {g : (List α → Prop) → Prop} (fl : Flat r) (hx : E b G tx r f) (h : LV b G te r g) : E b G (tOp (rIn K neg) tx te) rBl (fun k => f fun x => g fun xs => k (if neg then !decide (x ∈ xs) else decide (x ∈ xs))) := fun _ _ _ _ k V q w => by
  refine hx _ V q ?_
  intro x v F1 H1 q1 A1 V1 r1
  refine h _ V1 q1 ?_
  intro xs p F2 H2 q2 A2 V2 z
  obtain ⟨vs, k1, k2⟩ := z F2 H2 (Ex.refl _) V2
  refine ⟨p, vs, rfl, .inl (SqL.of k1), fl.fl r1, k2.flat fl, w _ _ F2 H2 q2 (A1.trans A2) V2 ?_⟩
  rw [k2.inV fl r1]; rfl
/-- a list grows -/
theorem s_app {i : Nat} {p : Addr} {te : TE} {r : R α} {xs : List α} {f : (α → Prop) → Prop} (hi : G[i]? = some (own p (cLst r) xs)) (h : E b G te r f) :
    S b G (tDrop (tBM K "list" rAppend (tVar i) (tCons te tNil))) (fun x : α => G.set i (own p (cLst r) (xs ++ [x]))) Gl ro (fun d => f fun x => xs.length < sizeLine ∧ d.nx x) := fun σ F H D d V q w1 _ _ _ => by
  obtain ⟨o, h1, rfl, u, h2, vs, rfl, h3⟩ := V.hold.at_ hi
  refine ⟨.ref p, h1, ty_l h2, ?_⟩
  refine h _ V q ?_
  intro x v F1 H1 q1 A1 V1 r1
  obtain ⟨o, h1', e, u, h2, vs, rfl, h3⟩ := V1.hold.at_ hi
  rw [h1] at h1'; cases h1'
  refine ⟨p, vs, v, rfl, rfl, h2, by rw [h3.len]; exact q1.1, w1 x _ F1 _ q1.2 A1.ff ?_⟩
  have hp : p ∈ owns G := mem_owns hi List.mem_cons_self
  refine V1.step0 (M := [p]) ⟨Ex.refl _, ex_mut (V1.on p hp).1 V1.fh, fun x o hm hx => by rw [upd_ne (fun z => hm (by rw [z]; exact List.mem_cons_self))]; exact hx, fun x hx => ?_, fun _ h _ => h⟩ (fun q hq => by rw [List.mem_singleton.mp hq]; exact hp) (fun q hq => ?_) ?_ ?_
  · by_cases z : x = p
    · subst z; rw [upd_same]; exact fun z => nomatch z
    · rw [upd_ne z]; exact hx
  · have e : owns (G.set i (own p (cLst r) (xs ++ [x]))) = owns G := owns_same hi rfl
    rw [← e]; exact hq
  · have e : owns (G.set i (own p (cLst r) (xs ++ [x]))) = owns G := owns_same hi rfl
    show (owns (G.set i (own p (cLst r) (xs ++ [x])))).Nodup
    rw [e]; exact V1.nd
  · exact V1.hold.mut V1.nd hi h1 List.mem_cons_self (Ex.refl _) (fun q u ne hq => by rw [upd_ne ne]; exact hq) ⟨rfl, _, upd_same, _, rfl, Dh.paired_app h3 (.cons r1 .nil)⟩
/-- x = a new list -/
theorem owns_setN {s : Sl} {p : Addr} (hs : s.ow = [p]) : ∀ {G : List Sl} {i : Nat}, p ∉ owns G → (owns G).Nodup → (∀ q ∈ owns (G.set i s), q = p ∨ q ∈ owns G) ∧ (owns (G.set i s)).Nodup
  | [], _, _, nd => ⟨fun q h => .inr h, nd⟩
  | x :: g, 0, h, nd => by
    show (∀ q ∈ s.ow ++ owns g, _) ∧ (s.ow ++ owns g).Nodup
    rw [hs]
    refine ⟨fun q hq => ?_, ?_⟩
    · rcases List.mem_append.mp hq with z | z
      · exact .inl (List.mem_singleton.mp z)
      · exact .inr (List.mem_append_right _ z)
    · exact List.nodup_cons.mpr ⟨fun z => h (List.mem_append_right _ z), (List.nodup_append.mp nd).2.1⟩
  | x :: g, i + 1, h, nd => by
    obtain ⟨n1, n2, n3⟩ := List.nodup_append.mp nd
    obtain ⟨h1, h2⟩ := owns_setN hs (G := g) (i := i) (fun z => h (List.mem_append_right _ z)) n2
    refine ⟨fun q hq => ?_, List.nodup_append.mpr ⟨n1, h2, fun a ha c hc e => ?_⟩⟩
    · rcases List.mem_append.mp hq with z | z
      · exact .inr (List.mem_append_left _ z)
      · exact (h1 q z).imp id (List.mem_append_right _)
    · subst e
      rcases h1 a hc with z | z
      · subst z; exact h (List.mem_append_left _ ha)
      · exact n3 a ha a z rfl
theorem s_new {te : TE} {r : R α} {i : Nat} {f : (List α → Prop) → Prop} {g : List α → Pd τ ε ρ → Prop} {t : TS} (h : EN b G te r f) (ht : ∀ p xs, p ∉ b.M → S b (G.set i (own p (cLst r) xs)) t Gn Gl ro (g xs)) :
    S b G (tSeq (tAsg te (gName i)) t) Gn Gl ro (fun d => f fun xs => g xs d) := fun σ F H D d V q w1 w2 w3 w4 => by
  refine h _ V q ?_
  intro xs p vs F1 H1 q1 A1 V1 hp fp hp1 hA
  have hb : b.H p = none := by
    cases e : b.H p with
    | none => rfl
    | some u => exact absurd hp (V.kp p (by rw [e]; exact fun z => nomatch z))
  have nO : p ∉ owns G := fun z => V.hold.live p z hp
  have nM : p ∉ b.M := fun z => b.ml p z hb
  have e1 := A1.ff
  refine ht p xs nM d ?_ q1 (fun y σ2 F2 H2 q2 e2 => w1 y σ2 F2 H2 q2 (e1.trans e2)) (fun y σ2 F2 H2 q2 e2 => w2 y σ2 F2 H2 q2 (e1.trans e2)) (fun y σ2 F2 H2 q2 e2 => w3 y σ2 F2 H2 q2 (e1.trans e2)) w4
  obtain ⟨o1, o2⟩ := owns_setN (s := own p (cLst r) xs) (G := G) (i := i) rfl nO V1.nd
  refine ⟨V1.ff, V1.fh, V1.hh, V1.kp, V1.nf, V1.hold.set (s := own p (cLst r) xs) (show _ ∧ _ from ⟨rfl, _, hp1, vs, rfl, hA⟩), o2, fun q hq => ?_⟩
  rcases o1 q hq with z | z
  · subst z; exact ⟨fp, .inr hb⟩
  · exact V1.on q z
end
end Mi
/-! Mir4 -/
set_option Elab.async false
set_option linter.all false
set_option maxRecDepth 100000
set_option maxHeartbeats 4000000
namespace Mi
open PySem PySem.Spec L2 Dh
open _root_.Evl (Ex)
/-! ### promises of defs -/
section
variable {K : PySem.W.Frag} {b : Bs} {G : List Sl} {α β γ δ τ τ' ρ ε : Type} {Gn : τ → List Sl} {Gl : ε → List Sl} {ro : ρ → V → Hp → Hp → Prop} {σ : L2.St} {F H F' H' : Hp}
def spP (s : RI α) (r : R β) (g : α → (β → Prop) → Prop) : Sp := fun vs H Q _ => ∃ (x : α) (F : Hp) (k : β → Prop), Ex F H ∧ s.h x vs F ∧ g x k ∧ ∀ y v F' H', k y → After F H [] F' H' → r.h y v F' → Q v H'
def BgAt (F H : Hp) (p : Addr) : Prop := ∃ l, H p = some (.lst l) ∧ BgL F l
def spB (s : RI α) (r : R β) (g : α → (β → Prop) → Prop) : Sp := fun vs H Q _ => ∃ (p : Addr) (ws : List V) (x : α) (F : Hp) (k : β → Prop), vs = .ref p :: ws ∧ F p = none ∧ BgAt F H p ∧ Ex F H ∧ s.h x ws F ∧ g x k ∧
  ∀ y v F' H', k y → After F H [p] F' H' → BgAt F' H' p → r.h y v F' → Q v H'
theorem e_call {s : RI α} {r : R β} {g : α → (β → Prop) → Prop} {Ek : XK} {ta : TA} {f : (α → Prop) → Prop} (h : Ar b G ta s f) : E b G (tCall (spP s r g) [] Ek ta) r (fun k => f fun x => g x k) := fun _ _ _ _ k V q w => by
  refine h _ V q ?_
  intro x vs F1 H1 q1 A1 V1 r1
  show spP s r g (vs ++ []) H1 _ _
  rw [List.append_nil]
  exact ⟨x, F1, k, V1.fh, r1, q1, fun y v F2 H2 q2 A2 r2 => w y v F2 H2 q2 (A1.trans (A2.mono fun _ h => nomatch h)) (V1.step A2) r2⟩
theorem set_self {G : List Sl} {i : Nat} {s : Sl} (h : G[i]? = some s) : G.set i s = G := by
  apply List.ext_getElem?
  intro j
  by_cases z : i = j
  · subst z; rw [List.getElem?_set_self (List.getElem?_eq_some_iff.mp h).1, h]
  · rw [List.getElem?_set_ne z]
theorem Env.bag {i : Nat} {p : Addr} (V : Env b G σ F H) (hi : G[i]? = some (own p cBag ())) (A : After F H [p] F' H') (B : BgAt F' H' p) : Env b G σ F' H' := by
  obtain ⟨o, h1, rfl, _⟩ := V.hold.at_ hi
  have hp : p ∈ owns G := mem_owns hi List.mem_cons_self
  obtain ⟨l, h2, h3⟩ := B
  have hh : Holds G σ F' H' := by
    have := V.hold.mut (s' := own p cBag ()) V.nd hi h1 List.mem_cons_self A.ff (fun q u ne hq => A.hh q u (fun z => ne (List.mem_singleton.mp z)) hq) (show _ ∧ _ from ⟨rfl, _, h2, l, rfl, h3⟩)
    rw [set_self hi] at this; exact this
  exact V.step0 A (fun q hq => by rw [List.mem_singleton.mp hq]; exact hp) (fun _ h => h) V.nd hh
theorem Env.bagAt {i : Nat} {p : Addr} (V : Env b G σ F H) (hi : G[i]? = some (own p cBag ())) : F p = none ∧ BgAt F H p := by
  obtain ⟨o, h1, _, u, h2, l, rfl, h3⟩ := V.hold.at_ hi
  exact ⟨(V.on p (mem_owns hi List.mem_cons_self)).1, l, h2, h3⟩
theorem e_callB {i : Nat} {p : Addr} {s : RI α} {r : R β} {g : α → (β → Prop) → Prop} {Ek : XK} {ta : TA} {f : (α → Prop) → Prop} (hi : G[i]? = some (own p cBag ())) (h : Ar b G ta s f) :
    E b G (tCall (spB s r g) [] Ek (tCons (tVar i) ta)) r (fun k => f fun x => g x k) := fun σ F H Q k V q w => by
  obtain ⟨o, h1, rfl, _⟩ := V.hold.at_ hi
  refine ⟨.ref p, h1, ?_⟩
  refine h _ V q ?_
  intro x vs F1 H1 q1 A1 V1 r1
  show spB s r g ((.ref p :: vs) ++ []) H1 _ _
  rw [List.append_nil]
  obtain ⟨f1, B1⟩ := V1.bagAt hi
  have hp : p ∈ owns G := mem_owns hi List.mem_cons_self
  exact ⟨p, vs, x, F1, k, rfl, f1, B1, V1.fh, r1, q1, fun y v F2 H2 q2 A2 B2 r2 => w y v F2 H2 q2 (A1.trans (A2.mono fun q hq => by rw [List.mem_singleton.mp hq]; exact hp)) (V1.bag hi A2 B2) r2⟩
/-! ### into a def -/
theorem owns_app : ∀ {g g' : List Sl}, owns (g ++ g') = owns g ++ owns g'
  | [], _ => rfl
  | s :: g, g' => by
    show s.ow ++ owns (g ++ g') = (s.ow ++ owns g) ++ owns g'
    rw [owns_app, List.append_assoc]
theorem owns_any : ∀ {m : Nat}, owns (List.replicate m any) = []
  | 0 => rfl
  | m + 1 => by
    show [] ++ owns (List.replicate m any) = []
    rw [owns_any]; rfl
theorem holds_any {F H : Hp} : ∀ {m : Nat}, Holds (List.replicate m any) (List.replicate m none) F H
  | 0 => .nil
  | _ + 1 => .cons trivial holds_any
theorem paired_app' {α β : Type} {R : α → β → Prop} : ∀ {xs : List α} {ys : List β} {xs' : List α} {ys' : List β}, Paired R xs ys → Paired R xs' ys' → Paired R (xs ++ xs') (ys ++ ys')
  | _, _, _, _, .nil, h => h
  | _, _, _, _, .cons r t, h => .cons r (paired_app' t h)
theorem S.go {t : TS} {f : Pd τ ε ρ → Prop} (h : S b G t Gn Gl ro f) (σ : L2.St) (F H : Hp) (D : Ends) (d : Pd τ ε ρ) (V : Env b G σ F H) (q : f d) (w1 : ∀ x σ' F' H', d.nx x → Ex F F' → Env b (Gn x) σ' F' H' → D.nx σ' H')
  (w2 : ∀ x σ' F' H', d.ct x → Ex F F' → Env b (Gl x) σ' F' H' → D.ct σ' H') (w3 : ∀ x σ' F' H', d.bk x → Ex F F' → Env b (Gl x) σ' F' H' → D.bk σ' H') (w4 : ∀ y v F' H', d.rt y → After b.F b.H b.M F' H' → ro y v F' H' → D.rt v H') : t D σ H := h d V q w1 w2 w3 w4
theorem run_P {s : RI α} {r : R β} {g : α → (β → Prop) → Prop} {N : List Str} {m : Nat} {t : TS} {vs : List V} {Q : VK} {Ek : XK} {Gn : Bs → α → τ → List Sl} {f : α → Pd τ Unit β → Prop} (h : spP s r g vs H Q Ek) (hN : N.length = s.n + m)
    (hS : ∀ b x, b.M = [] → S b (s.sl x ++ List.replicate m any) t (Gn b x) (fun _ : Unit => []) (fun y v F _ => r.h y v F) (f x)) (hg : ∀ x k, g x k → f x ⟨fun _ => False, fun _ => False, fun _ => False, k⟩) :
    t { nx := fun _ H' => Q .non H', rt := Q } (L2.start N vs) H := by
  obtain ⟨x, F, k, e, hs, q, w⟩ := h
  have hl := s.ln hs
  refine S.go (hS ⟨F, H, [], fun _ h => nomatch h⟩ x rfl) (L2.start N vs) F H _ ⟨fun _ => False, fun _ => False, fun _ => False, k⟩ ?_ (hg x k q) (fun _ _ _ _ h => h.elim) (fun _ _ _ _ h => h.elim) (fun _ _ _ _ h => h.elim) (fun y v F' H' hk A hr => w y v F' H' hk A hr)
  have ow : owns (s.sl x ++ List.replicate m any) = [] := by rw [owns_app, s.no, owns_any]; rfl
  refine ⟨Ex.refl _, e, fun _ _ _ h => h, fun _ h => h, fun _ h _ => h, ?_, by rw [ow]; exact List.nodup_nil, fun p hp => by rw [ow] at hp; nomatch hp⟩
  unfold L2.start
  have : N.length - vs.length = m := by omega
  rw [this]
  exact paired_app' (s.hs hs) holds_any
theorem run_B {s : RI α} {r : R β} {g : α → (β → Prop) → Prop} {N : List Str} {m : Nat} {t : TS} {vs : List V} {Q : VK} {Ek : XK} {Gn : Bs → Addr → α → τ → List Sl} {f : α → Pd τ Unit β → Prop} (h : spB s r g vs H Q Ek) (hN : N.length = s.n + 1 + m)
    (hS : ∀ b p x, b.M = [p] → S b (own p cBag () :: (s.sl x ++ List.replicate m any)) t (Gn b p x) (fun _ : Unit => []) (fun y v F H => BgAt F H p ∧ r.h y v F) (f x)) (hg : ∀ x k, g x k → f x ⟨fun _ => False, fun _ => False, fun _ => False, k⟩) :
    t { nx := fun _ H' => Q .non H', rt := Q } (L2.start N vs) H := by
  obtain ⟨p, ws, x, F, k, rfl, fp, ⟨l, hb, hbl⟩, e, hs, q, w⟩ := h
  have hl := s.ln hs
  refine S.go (hS ⟨F, H, [p], fun q hq => by rw [List.mem_singleton.mp hq, hb]; exact fun z => nomatch z⟩ p x rfl) (L2.start N (.ref p :: ws)) F H _ ⟨fun _ => False, fun _ => False, fun _ => False, k⟩ ?_ (hg x k q) (fun _ _ _ _ h => h.elim) (fun _ _ _ _ h => h.elim) (fun _ _ _ _ h => h.elim) (fun y v F' H' hk A (hr : BgAt F' H' p ∧ r.h y v F') => w y v F' H' hk A hr.1 hr.2)
  have ow : owns (own p cBag () :: (s.sl x ++ List.replicate m any)) = [p] := by
    show [p] ++ owns _ = _
    rw [owns_app, s.no, owns_any]; rfl
  refine ⟨Ex.refl _, e, fun _ _ _ h => h, fun _ h => h, fun _ h _ => h, ?_, by rw [ow]; simp, fun q hq => ?_⟩
  · unfold L2.start
    have : N.length - (V.ref p :: ws).length = m := by rw [List.length_cons]; omega
    rw [this]
    exact .cons (show _ ∧ _ from ⟨rfl, _, hb, l, rfl, hbl⟩) (paired_app' (s.hs hs) holds_any)
  · rw [ow] at hq
    cases List.mem_singleton.mp hq
    exact ⟨fp, .inl List.mem_cons_self⟩
theorem s_retB {te : TE} {r : R α} {f : (α → Prop) → Prop} {i : Nat} {p : Addr} (hi : G[i]? = some (own p cBag ())) (h : E b G te r f) : S b G (tRet te) Gn Gl (fun y v F H => BgAt F H p ∧ r.h y v F) (fun d => f d.rt) :=
  s_ret (g := fun a => a) h fun a v σ F H V hr => ⟨(V.bagAt hi).2, hr⟩
theorem s_retP {te : TE} {r : R α} {f : (α → Prop) → Prop} (h : E b G te r f) : S b G (tRet te) Gn Gl (fun y v F _ => r.h y v F) (fun d => f d.rt) := s_ret (g := fun a => a) h fun a v σ F H V hr => hr
/-! ### None or a thing -/
def NN (r : R α) : Prop := ∀ {a v F}, r.h a v F → v ≠ .non
theorem nn_int : NN rInt := fun h => by cases h; exact fun z => nomatch z
theorem nn_str : NN rStr := fun h => by cases h; exact fun z => nomatch z
theorem nn_bl : NN rBl := fun h => by cases h; exact fun z => nomatch z
theorem nn_tp {s : RI α} : NN (rTp K s) := fun ⟨p, vs, h, _⟩ => by rw [h]; exact fun z => nomatch z
theorem nn_lst {r : R α} : NN (rLst r) := fun ⟨p, vs, h, _⟩ => by rw [h]; exact fun z => nomatch z
theorem e_some {te : TE} {r : R α} {f : (α → Prop) → Prop} (n : NN r) (h : E b G te r f) : E b G te (rOpt r) (fun k => f fun a => k (some a)) := e_cast (r' := rOpt r) (g := some) (fun a v F h => ⟨h, n h⟩) h
/-- x is None -/
theorem o_isN {r : R α} : Op2 (fun x y H Q => y = .non ∧ Q (.bl (decide (x = .non))) H) (rOpt r) rNon rBl (fun x _ k => k x.isNone) := fun a c v w F H Q k h1 h2 e q z => by
  refine ⟨h2, z _ _ _ _ q (.refl e _) ?_⟩
  cases a with
  | none => cases h1; rfl
  | some a =>
    show V.bl (decide (v = .non)) = V.bl false
    rw [decide_eq_false h1.2]
theorem o_notN {r : R α} : Op2 (fun x y H Q => y = .non ∧ Q (.bl (!decide (x = .non))) H) (rOpt r) rNon rBl (fun x _ k => k x.isSome) := fun a c v w F H Q k h1 h2 e q z => by
  refine ⟨h2, z _ _ _ _ q (.refl e _) ?_⟩
  cases a with
  | none => cases h1; rfl
  | some a =>
    show V.bl (!decide (v = .non)) = V.bl true
    rw [decide_eq_false h1.2]; rfl
/-- the thing itself, where it is one -/
theorem e_get {te : TE} {r : R α} {f : (Option α → Prop) → Prop} (h : E b G te (rOpt r) f) : E b G te r (fun k => f fun o => ∃ a, o = some a ∧ k a) := fun _ _ _ _ k V q w => h _ V q fun o v F1 H1 ⟨a, e, q1⟩ A1 V1 hr => by
  subst e
  exact w a v F1 H1 q1 A1 V1 hr.1
/-! ### small calls -/
theorem e_int1 {te : TE} {f : (Int → Prop) → Prop} (h : E b G te rInt f) : E b G (tCB rInt1 (tCons te tNil)) rInt f := fun _ _ _ _ k V q w => by
  refine h k V q ?_
  intro i v F1 H1 q1 A1 V1 e
  cases e
  exact i_int1 (w i _ F1 H1 q1 A1 V1 rfl)
theorem e_abs {te : TE} {f : (Int → Prop) → Prop} (h : E b G te rInt f) : E b G (tCB rAbs (tCons te tNil)) rInt (fun k => f fun i => k (if i < 0 then -i else i)) := fun _ _ _ _ k V q w => by
  refine h _ V q ?_
  intro i v F1 H1 q1 A1 V1 e
  cases e
  exact i_abs (w _ _ F1 H1 q1 A1 V1 rfl)
theorem map_int {F : Hp} : ∀ {xs : List Int} {vs : List V}, All rInt F xs vs → vs = xs.map V.int
  | _, _, .nil => rfl
  | _, _, .cons h t => by rw [List.map_cons, ← map_int t, ← show _ = V.int _ from h]
theorem all_int {F : Hp} : ∀ {xs : List Int}, All rInt F xs (xs.map V.int)
  | [] => .nil
  | _ :: _ => .cons rfl all_int
theorem map_str {F : Hp} : ∀ {xs : List Str} {vs : List V}, All rStr F xs vs → vs = xs.map V.str
  | _, _, .nil => rfl
  | _, _, .cons h t => by rw [List.map_cons, ← map_str t, ← show _ = V.str _ from h]
theorem all_str {F : Hp} : ∀ {xs : List Str}, All rStr F xs (xs.map V.str)
  | [] => .nil
  | _ :: _ => .cons rfl all_str
theorem en_sortI {te : TE} {f : (List Int → Prop) → Prop} (h : LV b G te rInt f) : EN b G (tCB (rSortedI K) (tCons te tNil)) rInt (fun k => f fun ns => ∀ ms : List Int, ms.Perm ns → ms.Pairwise (· ≤ ·) → k ms) := fun _ _ _ _ k V q w => by
  refine h _ V q ?_
  intro xs p F1 H1 q1 A1 V1 z
  obtain ⟨vs, h1, h2⟩ := z F1 H1 (Ex.refl _) V1
  cases map_int h2
  exact ⟨p, xs, rfl, SqL.of h1, fun ms l hp hs hl => en_lay A1 V1 (q1 ms hp hs) all_int w hl⟩
theorem en_sortR {te : TE} {c : Bool} {f : (List Int → Prop) → Prop} {tk : TA} (h : LV b G te rInt f) (hk : ∀ {σ H} {q : List V → Hp → Prop}, q [.bl c] H → tk σ H q) : EN b G (tCKw (rSortedKw K c [.bl c]) (tCons te tNil) tk) rInt (fun k => f fun ns => ∀ ms : List Int, ms.Perm ns → OrdB c ms → k ms) := fun _ _ _ _ k V q w => by
  refine h _ V q ?_
  intro xs p F1 H1 q1 A1 V1 z
  obtain ⟨vs, h1, h2⟩ := z F1 H1 (Ex.refl _) V1
  cases map_int h2
  exact hk ⟨p, xs, rfl, rfl, SqL.of h1, fun ms l hp hs hl => en_lay A1 V1 (q1 ms hp hs) all_int w hl⟩
/-! ### texts -/
theorem o_addT : Op2 rAddT rStr rStr rStr (fun x y k => x.length + y.length ≤ sizeLine ∧ k (x ++ y)) := fun _ _ _ _ _ _ _ k h1 h2 e q w => by
  cases h1; cases h2
  exact i_addT q.1 (w _ _ _ _ q.2 (.refl e _) rfl)
theorem o_ixS : Op2 rIxS rStr rInt rStr (fun z i k => z.length ≤ sizeLine ∧ ∃ c, atI z.cps.toList i = some c ∧ k ⟨#[c]⟩) := fun _ _ _ _ _ _ _ k h1 h2 e ⟨l, c, hc, q⟩ w => by
  cases h1; cases h2
  exact i_ixS l hc (w _ _ _ _ q (.refl e _) rfl)
/-! ### dicts -/
def dGet {κ : Type} [DecidableEq κ] (kvs : List (κ × α)) (k : κ) : Option α := (kvs.find? fun kv => decide (kv.1 = k)).map (·.2)
def dPut {κ : Type} [DecidableEq κ] (kvs : List (κ × α)) (k : κ) (v : α) : List (κ × α) := if (kvs.any fun kv => decide (kv.1 = k)) = true then kvs.map (fun kv => if kv.1 = k then (kv.1, v) else kv) else kvs ++ [(k, v)]
def KV' {κ : Type} (ke : κ → Key) (r : R α) (F : Hp) : List (κ × α) → List (Key × V) → Prop := Paired fun p q => q.1 = ke p.1 ∧ r.h p.2 q.2 F
theorem KV'.ex {κ : Type} {ke : κ → Key} {r : R α} (e : Ex F F') {ps : List (κ × α)} {kvs : List (Key × V)} (h : KV' ke r F ps kvs) : KV' ke r F' ps kvs := Paired.mapP h fun _ _ q => ⟨q.1, r.ex e q.2⟩
def cDct {κ : Type} (ke : κ → Key) (r : R α) : C (List (κ × α)) := ⟨fun ps u F => ∃ kvs, u = .dK kvs ∧ KV' ke r F ps kvs, fun e ⟨kvs, h1, h2⟩ => ⟨kvs, h1, h2.ex e⟩⟩
def rDct {κ : Type} (ke : κ → Key) (r : R α) : R (List (κ × α)) := ⟨fun ps v F => ∃ p kvs, v = .ref p ∧ F p = some (.dK kvs) ∧ KV' ke r F ps kvs, fun e ⟨p, kvs, h1, h2, h3⟩ => ⟨p, kvs, h1, e _ _ h2, h3.ex e⟩⟩
theorem KV'.get {κ : Type} [DecidableEq κ] {ke : κ → Key} (inj : ∀ a c, ke a = ke c → a = c) {r : R α} {k : κ} {ps : List (κ × α)} {kvs : List (Key × V)} (h : KV' ke r F ps kvs) : (dGet ps k = none ∧ valV kvs (ke k) = none) ∨ ∃ a v, dGet ps k = some a ∧ valV kvs (ke k) = some v ∧ r.h a v F := by
  induction h with
  | nil => exact .inl ⟨rfl, rfl⟩
  | @cons p q ps qs hpq t ih =>
    by_cases z : p.1 = k
    · refine .inr ⟨p.2, q.2, ?_, ?_, hpq.2⟩
      · simp [dGet, List.find?_cons, z]
      · exact valV_pos (by rw [hpq.1, z])
    · have z2 : ¬ q.1 = ke k := fun e => z (inj _ _ (hpq.1.symm.trans e))
      have e1 : dGet (p :: ps) k = dGet ps k := by simp [dGet, List.find?_cons, z]
      rw [e1, valV_neg z2]
      exact ih
theorem KV'.any {κ : Type} [DecidableEq κ] {ke : κ → Key} (inj : ∀ a c, ke a = ke c → a = c) {r : R α} {k : κ} {ps : List (κ × α)} {kvs : List (Key × V)} (h : KV' ke r F ps kvs) : (kvs.any fun kv => decide (kv.1 = ke k)) = ps.any fun kv => decide (kv.1 = k) := by
  induction h with
  | nil => rfl
  | @cons p q ps qs hpq t ih =>
    rw [List.any_cons, List.any_cons, ih, hpq.1]
    congr 1
    exact decide_eq_decide.mpr ⟨fun e => inj _ _ e, fun e => by rw [e]⟩
theorem KV'.put {κ : Type} [DecidableEq κ] {ke : κ → Key} (inj : ∀ a c, ke a = ke c → a = c) {r : R α} {k : κ} {a : α} {v : V} {ps : List (κ × α)} {kvs : List (Key × V)} (h : KV' ke r F ps kvs) (hr : r.h a v F) : KV' ke r F (dPut ps k a) (putK kvs (ke k) v) := by
  unfold dPut putK
  rw [h.any inj]
  by_cases z : (ps.any fun kv => decide (kv.1 = k)) = true
  · rw [if_pos z, if_pos z]
    clear z
    induction h with
    | nil => exact .nil
    | @cons p q ps qs hpq t ih =>
      refine .cons ?_ ih
      by_cases e : p.1 = k
      · show (if q.1 = ke k then (q.1, v) else q).1 = ke (if p.1 = k then (p.1, a) else p).1 ∧ r.h (if p.1 = k then (p.1, a) else p).2 (if q.1 = ke k then (q.1, v) else q).2 F
        rw [if_pos e, if_pos (by rw [hpq.1, e])]; exact ⟨hpq.1, hr⟩
      · show (if q.1 = ke k then (q.1, v) else q).1 = ke (if p.1 = k then (p.1, a) else p).1 ∧ r.h (if p.1 = k then (p.1, a) else p).2 (if q.1 = ke k then (q.1, v) else q).2 F
        rw [if_neg e, if_neg (fun x => e (inj _ _ (hpq.1.symm.trans x)))]; exact hpq
  · rw [if_neg z, if_neg z]
    exact Dh.paired_app h (.cons ⟨rfl, hr⟩ .nil)
theorem inl_inj : ∀ a c : Int, (Sum.inl a : Key) = Sum.inl c → a = c := fun _ _ h => Sum.inl.inj h
theorem inr_inj : ∀ a c : Str, (Sum.inr a : Key) = Sum.inr c → a = c := fun _ _ h => Sum.inr.inj h
/-- a dict that is read: frozen or own -/
def DV {κ : Type} (b : Bs) (G : List Sl) (te : TE) (ke : κ → Key) (r : R α) (f : (List (κ × α) → Prop) → Prop) : Prop := ∀ ⦃σ : L2.St⦄ ⦃F H : Hp⦄ ⦃Q : VK⦄ (k : List (κ × α) → Prop), Env b G σ F H → f k →
  (∀ xs p F' H', k xs → After F H (owns G) F' H' → Env b G σ F' H' → (∀ F2 H2, Ex F' F2 → Env b G σ F2 H2 → ∃ kvs, H2 p = some (.dK kvs) ∧ KV' ke r F2 xs kvs) → Q (.ref p) H') → te σ H Q
section
variable {κ : Type} {ke : κ → Key}
theorem dv_e {te : TE} {r : R α} {f : (List (κ × α) → Prop) → Prop} (h : E b G te (rDct ke r) f) : DV b G te ke r f := fun _ _ _ _ k V q w => by
  refine h k V q ?_
  rintro xs v F1 H1 q1 A1 V1 ⟨p, vs, e, hp, A⟩
  subst e
  exact w xs p F1 H1 q1 A1 V1 fun F2 H2 e V2 => ⟨vs, V2.fh _ _ (e _ _ hp), A.ex e⟩
theorem dv_own {i : Nat} {p : Addr} {r : R α} {xs : List (κ × α)} (h : G[i]? = some (own p (cDct ke r) xs)) : DV b G (tVar i) ke r (fun k => k xs) := fun σ F H Q k V q w => by
  obtain ⟨o, h1, rfl, _⟩ := V.hold.at_ h
  refine ⟨.ref p, h1, w xs p F H q (.refl V.fh _) V fun F2 H2 e V2 => ?_⟩
  obtain ⟨o, h1, _, u, h2, vs, rfl, h3⟩ := V2.hold.at_ h
  exact ⟨vs, h2, h3⟩
end
/-- how a key is told: ints, texts -/
structure KeyR {κ : Type} (ke : κ → Key) (rk : R κ) : Prop where
  inj : ∀ a c, ke a = ke c → a = c
  kv : ∀ {a v F}, rk.h a v F → v = kV (ke a)
theorem kr_int : KeyR (Sum.inl : Int → Key) rInt := ⟨inl_inj, fun h => h⟩
theorem kr_str : KeyR (Sum.inr : Str → Key) rStr := ⟨inr_inj, fun h => h⟩
section
variable {κ : Type} [DecidableEq κ] {ke : κ → Key} {rk : R κ}
theorem e_dget {td tk : TE} {r : R α} {f : (List (κ × α) → Prop) → Prop} {g : (κ → Prop) → Prop} (R : KeyR ke rk) (hd : DV b G td ke r f) (hk : E b G tk rk g) : E b G (tDGet td tk) r (fun k => f fun d => g fun x => ∃ a, dGet d x = some a ∧ k a) := fun _ _ _ _ k V q w => by
  refine hd _ V q ?_
  intro ps p F1 H1 q1 A1 V1 z
  refine hk _ V1 q1 ?_
  rintro x v F2 H2 ⟨a, ha, q2⟩ A2 V2 e
  cases R.kv e
  obtain ⟨kvs, h1, h2⟩ := z F2 H2 A2.ff V2
  rcases h2.get R.inj (k := x) with ⟨e1, _⟩ | ⟨a', u, e1, e2, hr⟩
  · rw [ha] at e1; cases e1
  · rw [ha] at e1; cases e1
    exact ⟨p, u, rfl, by rw [← e2]; exact DGet.k h1, w a u F2 H2 q2 (A1.trans A2) V2 hr⟩
theorem e_din {td tk : TE} {r : R α} {f : (List (κ × α) → Prop) → Prop} {g : (κ → Prop) → Prop} (R : KeyR ke rk) (hk : E b G tk rk g) (hd : DV b G td ke r f) : E b G (tDIn tk td) rBl (fun k => g fun x => f fun d => k (dGet d x).isSome) := fun _ _ _ _ k V q w => by
  refine hk _ V q ?_
  rintro x v F1 H1 q1 A1 V1 e
  cases R.kv e
  refine hd _ V1 q1 ?_
  intro ps p F2 H2 q2 A2 V2 z
  obtain ⟨kvs, h1, h2⟩ := z F2 H2 (Ex.refl _) V2
  refine ⟨p, _, rfl, DGet.k h1, w _ _ F2 H2 q2 (A1.trans A2) V2 ?_⟩
  rcases h2.get R.inj (k := x) with ⟨e1, e2⟩ | ⟨a', u, e1, e2, hr⟩
  · rw [e1, e2]; rfl
  · rw [e1, e2]; rfl
theorem e_dnotin {td tk : TE} {r : R α} {f : (List (κ × α) → Prop) → Prop} {g : (κ → Prop) → Prop} (R : KeyR ke rk) (hk : E b G tk rk g) (hd : DV b G td ke r f) : E b G (tDNotIn tk td) rBl (fun k => g fun x => f fun d => k (!(dGet d x).isSome)) := fun _ _ _ _ k V q w => by
  refine hk _ V q ?_
  rintro x v F1 H1 q1 A1 V1 e
  cases R.kv e
  refine hd _ V1 q1 ?_
  intro ps p F2 H2 q2 A2 V2 z
  obtain ⟨kvs, h1, h2⟩ := z F2 H2 (Ex.refl _) V2
  refine ⟨p, _, rfl, DGet.k h1, w _ _ F2 H2 q2 (A1.trans A2) V2 ?_⟩
  rcases h2.get R.inj (k := x) with ⟨e1, e2⟩ | ⟨a', u, e1, e2, hr⟩
  · rw [e1, e2]; rfl
  · rw [e1, e2]; rfl
theorem e_dget1 {td tk : TE} {r : R α} {f : (List (κ × α) → Prop) → Prop} {g : (κ → Prop) → Prop} (R : KeyR ke rk) (n : NN r) (hd : DV b G td ke r f) (hk : E b G tk rk g) : E b G (tDGet1 td tk) (rOpt r) (fun k => f fun d => g fun x => k (dGet d x)) := fun _ _ _ _ k V q w => by
  refine hd _ V q ?_
  intro ps p F1 H1 q1 A1 V1 z
  obtain ⟨kvs, h1, h2⟩ := z F1 H1 (Ex.refl _) V1
  refine ⟨p, rfl, .inl ⟨kvs, Rd.of h1⟩, ?_⟩
  refine hk _ V1 q1 ?_
  rintro x v F2 H2 q2 A2 V2 e
  cases R.kv e
  obtain ⟨kvs, h1, h2⟩ := z F2 H2 A2.ff V2
  refine ⟨_, DGet.k h1, w _ _ F2 H2 q2 (A1.trans A2) V2 ?_⟩
  rcases h2.get R.inj (k := x) with ⟨e1, e2⟩ | ⟨a', u, e1, e2, hr⟩
  · rw [e1, e2]; rfl
  · rw [e1, e2]; exact ⟨hr, n hr⟩
/-- a cell is changed -/
theorem Env.cell {c c' : C γ} {i : Nat} {p : Addr} {a a' : γ} {u : HO} (V : Env b G σ F H) (hi : G[i]? = some (own p c a)) (h' : c'.h a' u F) : Env b (G.set i (own p c' a')) σ F (upd H p u) := by
  obtain ⟨o, h1, rfl, _⟩ := V.hold.at_ hi
  have hp : p ∈ owns G := mem_owns hi List.mem_cons_self
  have e : owns (G.set i (own p c' a')) = owns G := owns_same hi rfl
  refine V.step0 (M := [p]) ⟨Ex.refl _, ex_mut (V.on p hp).1 V.fh, fun x o hm hx => by rw [upd_ne (fun z => hm (by rw [z]; exact List.mem_cons_self))]; exact hx, fun x hx => ?_, fun _ h _ => h⟩ (fun q hq => by rw [List.mem_singleton.mp hq]; exact hp) (fun q hq => by rw [← e]; exact hq) (by rw [e]; exact V.nd) ?_
  · by_cases z : x = p
    · subst z; rw [upd_same]; exact fun z => nomatch z
    · rw [upd_ne z]; exact hx
  · exact V.hold.mut V.nd hi h1 List.mem_cons_self (Ex.refl _) (fun q u ne hq => by rw [upd_ne ne]; exact hq) (show _ ∧ _ from ⟨rfl, _, upd_same, h'⟩)
/-- d[k] = v -/
theorem s_dput {i : Nat} {p : Addr} {tv tk : TE} {r : R α} {xs : List (κ × α)} {f : (α → Prop) → Prop} {g : (κ → Prop) → Prop} (R : KeyR ke rk) (hi : G[i]? = some (own p (cDct ke r) xs)) (hv : E b G tv r f) (hk : E b G tk rk g) :
    S b G (sDPut (tVar i) tk tv) (fun y : κ × α => G.set i (own p (cDct ke r) (dPut xs y.1 y.2))) Gl ro (fun d => f fun a => g fun x => xs.length < sizeLine ∧ d.nx (x, a)) := fun σ F H D d V q w1 _ _ _ => by
  refine hv _ V q ?_
  intro a v F1 H1 q1 A1 V1 r1
  obtain ⟨o, h1, rfl, _⟩ := V1.hold.at_ hi
  refine ⟨.ref p, h1, ?_⟩
  refine hk _ V1 q1 ?_
  intro x y F2 H2 q2 A2 V2 e
  cases R.kv e
  obtain ⟨_, _, _, u, h2, kvs, rfl, h3⟩ := V2.hold.at_ hi
  have hl : kvs.length = xs.length := (Paired.length h3).symm
  refine ⟨p, _, rfl, DPut.k (k := ke x) h2 (by rw [hl]; exact q2.1), w1 (x, a) _ F2 _ q2.2 (A1.ff.trans A2.ff) ?_⟩
  exact V2.cell hi ⟨_, rfl, h3.put R.inj (r.ex A2.ff r1)⟩
end
/-- a new own cell -/
def ENc (b : Bs) (G : List Sl) (te : TE) (c : C γ) (f : (γ → Prop) → Prop) : Prop := ∀ ⦃σ : L2.St⦄ ⦃F H : Hp⦄ ⦃Q : VK⦄ (k : γ → Prop), Env b G σ F H → f k →
  (∀ a p u F' H', k a → After F H (owns G) F' H' → Env b G σ F' H' → H p = none → F' p = none → H' p = some u → c.h a u F' → Q (.ref p) H') → te σ H Q
theorem enc_lst {te : TE} {r : R α} {f : (List α → Prop) → Prop} (h : EN b G te r f) : ENc b G te (cLst r) f := fun _ _ _ _ k V q w => h k V q fun xs p vs F' H' q' A V' h1 h2 h3 h4 => w xs p _ F' H' q' A V' h1 h2 h3 ⟨vs, rfl, h4⟩
theorem enc_dct {κ : Type} {ke : κ → Key} {r : R α} : ENc b G tDNewK (cDct ke r) (fun k => k []) := fun σ F H Q k V q w p hp => by
  have B := After.fresh (o := .dK []) V.fh hp
  exact w [] p _ F _ q (B _) (V.step (B _)) hp (ex_none V.fh hp) upd_same ⟨[], rfl, .nil⟩
theorem s_newc {te : TE} {c : C γ} {i : Nat} {f : (γ → Prop) → Prop} {g : γ → Pd τ ε ρ → Prop} {t : TS} (h : ENc b G te c f) (ht : ∀ p a, p ∉ b.M → S b (G.set i (own p c a)) t Gn Gl ro (g a)) :
    S b G (tSeq (tAsg te (gName i)) t) Gn Gl ro (fun d => f fun a => g a d) := fun σ F H D d V q w1 w2 w3 w4 => by
  refine h _ V q ?_
  intro a p u F1 H1 q1 A1 V1 hp fp hp1 hA
  have hb : b.H p = none := by
    cases e : b.H p with
    | none => rfl
    | some u => exact absurd hp (V.kp p (by rw [e]; exact fun z => nomatch z))
  have nO : p ∉ owns G := fun z => V.hold.live p z hp
  have nM : p ∉ b.M := fun z => b.ml p z hb
  have e1 := A1.ff
  refine ht p a nM d ?_ q1 (fun y σ2 F2 H2 q2 e2 => w1 y σ2 F2 H2 q2 (e1.trans e2)) (fun y σ2 F2 H2 q2 e2 => w2 y σ2 F2 H2 q2 (e1.trans e2)) (fun y σ2 F2 H2 q2 e2 => w3 y σ2 F2 H2 q2 (e1.trans e2)) w4
  obtain ⟨o1, o2⟩ := owns_setN (s := own p c a) (G := G) (i := i) rfl nO V1.nd
  refine ⟨V1.ff, V1.fh, V1.hh, V1.kp, V1.nf, V1.hold.set (s := own p c a) (show _ ∧ _ from ⟨rfl, _, hp1, hA⟩), o2, fun q hq => ?_⟩
  rcases o1 q hq with z | z
  · subst z; exact ⟨fp, .inr hb⟩
  · exact V1.on q z
theorem frz_dct {κ : Type} {ke : κ → Key} {r : R α} {a : List (κ × α)} : ∀ {p : Addr} (u : HO) (F : Hp), (cDct ke r).h a u F → F p = some u → (rDct ke r).h a (.ref p) F := fun u F ⟨vs, h1, h2⟩ h => ⟨_, vs, rfl, h1 ▸ h, h2⟩
end
end Mi
/-! Mir5 -/
set_option Elab.async false
set_option linter.all false
set_option maxRecDepth 100000
set_option maxHeartbeats 4000000
namespace Mi
open PySem PySem.Spec L2 Dh
open _root_.Evl (Ex)
section
variable {K : PySem.W.Frag} {b : Bs} {G : List Sl} {α β γ δ τ τ' ρ ε : Type} {Gn : τ → List Sl} {Gl : ε → List Sl} {ro : ρ → V → Hp → Hp → Prop} {σ : L2.St} {F H F' H' : Hp}
theorem spP_len {s : RI α} {r : R β} {g : α → (β → Prop) → Prop} {vs : List V} {Q : VK} {Ek : XK} (h : spP s r g vs H Q Ek) : vs.length = s.n := by
  obtain ⟨x, F, k, _, hs, _⟩ := h; exact s.ln hs
theorem spB_len {s : RI α} {r : R β} {g : α → (β → Prop) → Prop} {vs : List V} {Q : VK} {Ek : XK} (h : spB s r g vs H Q Ek) : vs.length = s.n + 1 := by
  obtain ⟨p, ws, x, F, k, rfl, _, _, _, hs, _⟩ := h; rw [List.length_cons, s.ln hs]
/-- a comprehension of plain values -/
theorem compP_map {xs : List α} {g : α → β} {k : List β → Prop} (q : k (xs.map g)) : compP xs (fun a acc n => (true = true → n (acc ++ [g a])) ∧ (true = false → n acc)) k := by
  refine ⟨fun i acc => acc = (xs.take i).map g, by simp, fun i a acc h e => ⟨fun _ => ?_, fun z => by cases z⟩, fun acc e => ?_⟩
  · show _ = _
    rw [e, List.take_add_one, h, List.map_append]; rfl
  · have e : acc = (xs.take xs.length).map g := e
    rw [e, List.take_length]; exact q
theorem compP_filter {xs : List α} {c : α → Bool} {g : α → β} {k : List β → Prop} (q : k ((xs.filter c).map g)) : compP xs (fun a acc n => (c a = true → n (acc ++ [g a])) ∧ (c a = false → n acc)) k := by
  refine ⟨fun i acc => acc = ((xs.take i).filter c).map g, by simp, fun i a acc h e => ⟨fun z => ?_, fun z => ?_⟩, fun acc e => ?_⟩
  · show _ = _
    rw [e, List.take_add_one, h, List.filter_append, List.map_append]; simp [z]
  · show _ = _
    rw [e, List.take_add_one, h, List.filter_append, List.map_append]; simp [z]
  · have e : acc = ((xs.take xs.length).filter c).map g := e
    rw [e, List.take_length]; exact q
theorem en_compM {wi : TI} {g : TG} {tt : TT} {te : TE} {vs : List Nat} {r : R α} {rb : R β} {up : α → List Sl → List Sl} {fw : (List α → Prop) → Prop} {y : α → β}
    (hw : Wk b G wi r fw) (hg : Tg g r up vs) (hG : wipeG G vs = G) (ht : ∀ a, Tt b (up a G) tt (fun k => k true)) (he : ∀ a, E b (up a G) te rb (fun k => k (y a))) :
    EN b G (tLc wi g tt te vs) rb (fun k => fw fun xs => xs.length ≤ sizeLine ∧ k (xs.map y)) := fun σ F H Q k V q w =>
  en_comp (fw := fun k2 => fw (fun xs => xs.length ≤ sizeLine ∧ k (xs.map y)) ∧ ∀ xs, (xs.length ≤ sizeLine ∧ k (xs.map y)) → k2 xs) (fun σ F H R k2 V q w => hw _ V q.1 fun xs J F' H' q' A V' W => w xs J F' H' (q.2 xs q') A V' W) hg hG ht he k V ⟨q, fun xs h => ⟨h.1, compP_map h.2⟩⟩ w
theorem en_compF {wi : TI} {g : TG} {tt : TT} {te : TE} {vs : List Nat} {r : R α} {rb : R β} {up : α → List Sl → List Sl} {fw : (List α → Prop) → Prop} {c : α → Bool} {y : α → β}
    (hw : Wk b G wi r fw) (hg : Tg g r up vs) (hG : wipeG G vs = G) (ht : ∀ a, Tt b (up a G) tt (fun k => k (c a))) (he : ∀ a, E b (up a G) te rb (fun k => k (y a))) :
    EN b G (tLc wi g tt te vs) rb (fun k => fw fun xs => xs.length ≤ sizeLine ∧ k ((xs.filter c).map y)) := fun σ F H Q k V q w =>
  en_comp (fw := fun k2 => fw (fun xs => xs.length ≤ sizeLine ∧ k ((xs.filter c).map y)) ∧ ∀ xs, (xs.length ≤ sizeLine ∧ k ((xs.filter c).map y)) → k2 xs) (fun σ F H R k2 V q w => hw _ V q.1 fun xs J F' H' q' A V' W => w xs J F' H' (q.2 xs q') A V' W) hg hG ht he k V ⟨q, fun xs h => ⟨h.1, compP_filter h.2⟩⟩ w
/-! short ways -/
theorem e_andVP {ta te : TE} {f : (Bool → Prop) → Prop} {y : Bool} (h1 : E b G ta rBl f) (h2 : E b G te rBl (fun k => k y)) : E b G (tAndV ta te) rBl (fun k => f fun a => k (a && y)) := fun _ _ _ _ k V q w => by
  refine h1 _ V q ?_
  intro a v F' H' q' A V' r
  refine ⟨a, r, ?_⟩
  cases a with
  | true => exact iteT (h2 k V' q' fun x v F2 H2 q2 A2 V2 => w x v F2 H2 q2 (A.trans A2) V2)
  | false => exact iteF (w false _ F' H' q' A V' rfl)
theorem e_orVP {ta te : TE} {f : (Bool → Prop) → Prop} {y : Bool} (h1 : E b G ta rBl f) (h2 : E b G te rBl (fun k => k y)) : E b G (tOrV ta te) rBl (fun k => f fun a => k (a || y)) := fun _ _ _ _ k V q w => by
  refine h1 _ V q ?_
  intro a v F' H' q' A V' r
  refine ⟨a, r, ?_⟩
  cases a with
  | true => exact iteT (w true _ F' H' q' A V' rfl)
  | false => exact iteF (h2 k V' q' fun x v F2 H2 q2 A2 V2 => w x v F2 H2 q2 (A.trans A2) V2)
theorem e_inLP [DecidableEq α] {tx te : TE} {r : R α} {f : (α → Prop) → Prop} {g : (List α → Prop) → Prop} (fl : Flat r) (hx : E b G tx r f) (h : LV b G te r g) : E b G (tOp (rIn K false) tx te) rBl (fun k => f fun x => g fun xs => k (decide (x ∈ xs))) := e_inL fl hx h
theorem e_inLN [DecidableEq α] {tx te : TE} {r : R α} {f : (α → Prop) → Prop} {g : (List α → Prop) → Prop} (fl : Flat r) (hx : E b G tx r f) (h : LV b G te r g) : E b G (tOp (rIn K true) tx te) rBl (fun k => f fun x => g fun xs => k (!decide (x ∈ xs))) := e_inL fl hx h
theorem e_isN {ta : TE} {r : R α} {f : (Option α → Prop) → Prop} (h : E b G ta (rOpt r) f) : E b G (tOp (fun x y H Q => y = .non ∧ Q (.bl (decide (x = .non))) H) ta (tC .non)) rBl (fun k => f fun x => k x.isNone) := e_op o_isN h e_non
theorem e_notN {ta : TE} {r : R α} {f : (Option α → Prop) → Prop} (h : E b G ta (rOpt r) f) : E b G (tOp (fun x y H Q => y = .non ∧ Q (.bl (!decide (x = .non))) H) ta (tC .non)) rBl (fun k => f fun x => k x.isSome) := e_op o_notN h e_non
theorem e_neg {ta : TE} {f : (Int → Prop) → Prop} (h : E b G ta rInt f) : E b G (tUn (rU fun i => .int (-i)) ta) rInt (fun k => f fun x => k (-x)) := fun _ _ _ _ k V q w => by
  refine h _ V q ?_
  intro a v F' H' q' A V' r
  cases r
  exact ⟨a, rfl, w _ _ F' H' q' A V' rfl⟩
theorem e_chainP {g1 g2 : Int → Int → Bool} {ta te tc : TE} {x y z : Int} (ha : E b G ta rInt (fun k => k x)) (hb : E b G te rInt (fun k => k y)) (hc : E b G tc rInt (fun k => k z)) :
    E b G (tChain (rI0 fun i j => .bl (g1 i j)) (rI0 fun i j => .bl (g2 i j)) ta te tc) rBl (fun k => k (g1 x y && g2 y z)) := e_cq (e_chain o_I0b o_I0b ha hb hc) fun k q => by
  show (g1 x y = true → k (g2 y z)) ∧ (g1 x y = false → k false)
  refine ⟨fun h => ?_, fun h => ?_⟩
  · rw [h] at q; exact q
  · rw [h] at q; exact q
/-! items of tuples -/
theorem rcons_at {r : R α} {s : RI γ} {a : α × γ} {vs : List V} (h : (rCons r s).h a vs F) : ∃ v ws, vs = v :: ws ∧ r.h a.1 v F ∧ s.h a.2 ws F := h
theorem e_itm {te : TE} {s : RI α} {rr : R β} {f : (α → Prop) → Prop} {g : α → β} {n : Nat} (h : E b G te (rTp K s) f) (hg : ∀ a vs F, s.h a vs F → ∃ v, vs[n]? = some v ∧ rr.h (g a) v F) : E b G (tOp (rIxT K) te (tC (.int (n : Nat)))) rr (fun k => f fun a => k (g a)) := fun _ _ _ _ k V q w => by
  refine h _ V q ?_
  rintro a v F' H' q' A V' ⟨p, vs, e, hp, hs⟩
  subst e
  obtain ⟨v, h1, h2⟩ := hg a vs F' hs
  exact ⟨p, vs, _, v, rfl, rfl, _root_.Evl.ex_t V'.fh hp, atI_nat h1, w _ v F' H' q' A V' h2⟩
section
variable {te : TE} {r0 : R α} {r1 : R β} {r2 : R γ} {r3 : R δ}
theorem e_it2_0 {f : (α × β → Prop) → Prop} (h : E b G te (rTp K (rCons r0 (rOne r1))) f) : E b G (tOp (rIxT K) te (tC (.int 0))) r0 (fun k => f fun a => k a.1) := e_itm (n := 0) h (fun a vs F ⟨v, ws, e, h1, h2⟩ => ⟨v, by rw [e]; rfl, h1⟩)
theorem e_it2_1 {f : (α × β → Prop) → Prop} (h : E b G te (rTp K (rCons r0 (rOne r1))) f) : E b G (tOp (rIxT K) te (tC (.int 1))) r1 (fun k => f fun a => k a.2) := e_itm (n := 1) h (fun a vs F ⟨v, ws, e, h1, u, e2, h2⟩ => ⟨u, by rw [e, e2]; rfl, h2⟩)
theorem e_it3_0 {f : (α × β × γ → Prop) → Prop} (h : E b G te (rTp K (rCons r0 (rCons r1 (rOne r2)))) f) : E b G (tOp (rIxT K) te (tC (.int 0))) r0 (fun k => f fun a => k a.1) := e_itm (n := 0) h (fun a vs F ⟨v, ws, e, h1, h2⟩ => ⟨v, by rw [e]; rfl, h1⟩)
theorem e_it3_1 {f : (α × β × γ → Prop) → Prop} (h : E b G te (rTp K (rCons r0 (rCons r1 (rOne r2)))) f) : E b G (tOp (rIxT K) te (tC (.int 1))) r1 (fun k => f fun a => k a.2.1) := e_itm (n := 1) h (fun a vs F ⟨v, ws, e, h1, u, us, e2, h2, _⟩ => ⟨u, by rw [e, e2]; rfl, h2⟩)
theorem e_it3_2 {f : (α × β × γ → Prop) → Prop} (h : E b G te (rTp K (rCons r0 (rCons r1 (rOne r2)))) f) : E b G (tOp (rIxT K) te (tC (.int 2))) r2 (fun k => f fun a => k a.2.2) := e_itm (n := 2) h (fun a vs F ⟨v, ws, e, h1, u, us, e2, h2, t, e3, h3⟩ => ⟨t, by rw [e, e2, e3]; rfl, h3⟩)
theorem e_it4_0 {f : (α × β × γ × δ → Prop) → Prop} (h : E b G te (rTp K (rCons r0 (rCons r1 (rCons r2 (rOne r3))))) f) : E b G (tOp (rIxT K) te (tC (.int 0))) r0 (fun k => f fun a => k a.1) := e_itm (n := 0) h (fun a vs F ⟨v, ws, e, h1, h2⟩ => ⟨v, by rw [e]; rfl, h1⟩)
theorem e_it4_1 {f : (α × β × γ × δ → Prop) → Prop} (h : E b G te (rTp K (rCons r0 (rCons r1 (rCons r2 (rOne r3))))) f) : E b G (tOp (rIxT K) te (tC (.int 1))) r1 (fun k => f fun a => k a.2.1) := e_itm (n := 1) h (fun a vs F ⟨v, ws, e, h1, u, us, e2, h2, _⟩ => ⟨u, by rw [e, e2]; rfl, h2⟩)
theorem e_it4_2 {f : (α × β × γ × δ → Prop) → Prop} (h : E b G te (rTp K (rCons r0 (rCons r1 (rCons r2 (rOne r3))))) f) : E b G (tOp (rIxT K) te (tC (.int 2))) r2 (fun k => f fun a => k a.2.2.1) := e_itm (n := 2) h (fun a vs F ⟨v, ws, e, h1, u, us, e2, h2, t, ts, e3, h3, _⟩ => ⟨t, by rw [e, e2, e3]; rfl, h3⟩)
theorem e_it4_3 {f : (α × β × γ × δ → Prop) → Prop} (h : E b G te (rTp K (rCons r0 (rCons r1 (rCons r2 (rOne r3))))) f) : E b G (tOp (rIxT K) te (tC (.int 3))) r3 (fun k => f fun a => k a.2.2.2) := e_itm (n := 3) h (fun a vs F ⟨v, ws, e, h1, u, us, e2, h2, t, ts, e3, h3, s, e4, h4⟩ => ⟨s, by rw [e, e2, e3, e4]; rfl, h4⟩)
end
/-- a written text in a tuple -/
def rLit (z : Str) : R Unit := ⟨fun _ v _ => v = .str z, fun _ h => h⟩
theorem e_lit {z : Str} : E b G (tC (.str z)) (rLit z) (fun k => k ()) := fun _ _ _ _ k V q w => w () _ _ _ q (.refl V.fh _) V rfl
end
end Mi
/-! K08Ma -/
set_option Elab.async false
set_option linter.all false
set_option maxRecDepth 100000
set_option maxHeartbeats 4000000
namespace Mi
open PySem PySem.Spec L2 Dh
open _root_.Evl (Ex)
/-! ### entries -/
def rEn : R En := ⟨fun e v F => EnAt F v e, fun e h => h.ex e⟩
theorem nn_en : NN rEn := fun ⟨p, h, _⟩ => by rw [h]; exact fun z => nomatch z
def _root_.Dh.En.form : En → Str | .sg _ _ _ => "sign" | .rl _ _ _ => "rule" | .vd _ _ => "void"
def _root_.Dh.En.two : En → Int | .sg _ d _ => d | .rl _ d _ => d | .vd _ o => o
def _root_.Dh.En.name? : En → Option Str | .sg _ _ x => some x | .rl _ _ x => some x | .vd _ _ => none
section
variable {K : PySem.W.Frag} {b : Bs} {G : List Sl} {te ta tb tc : TE} {f : (En → Prop) → Prop} {α : Type}
theorem e_enAt {n : Nat} {r : R α} {g : En → (α → Prop) → Prop} (h : E b G te rEn f) (hg : ∀ e k F, g e k → ∃ v a, (En.vs e)[n]? = some v ∧ r.h a v F ∧ k a) : E b G (tOp (rIxT K) te (tC (.int (n : Nat)))) r (fun k => f fun a => g a k) := fun _ _ _ _ k V q w => by
  refine h _ V q ?_
  rintro e v F' H' q' A V' ⟨p, rfl, hp⟩
  obtain ⟨v, a, h1, h2, h3⟩ := hg e k F' q'
  exact ⟨p, _, _, v, rfl, rfl, SqT.of (V'.fh _ _ hp), atI_nat h1, w a v F' H' h3 A V' h2⟩
theorem e_en0 (h : E b G te rEn f) : E b G (tOp (rIxT K) te (tC (.int 0))) rInt (fun k => f fun a => k a.num) := e_enAt (n := 0) h fun e k F q => by cases e <;> exact ⟨_, _, rfl, rfl, q⟩
theorem e_en1 (h : E b G te rEn f) : E b G (tOp (rIxT K) te (tC (.int 1))) rStr (fun k => f fun a => k a.form) := e_enAt (n := 1) h fun e k F q => by cases e <;> exact ⟨_, _, rfl, rfl, q⟩
theorem e_en2 (h : E b G te rEn f) : E b G (tOp (rIxT K) te (tC (.int 2))) rInt (fun k => f fun a => k a.two) := e_enAt (n := 2) h fun e k F q => by cases e <;> exact ⟨_, _, rfl, rfl, q⟩
theorem e_en3 (h : E b G te rEn f) : E b G (tOp (rIxT K) te (tC (.int 3))) rStr (fun k => f fun a => ∃ x, a.name? = some x ∧ k x) := e_enAt (n := 3) h fun e k F ⟨x, hx, q⟩ => by cases e <;> cases hx <;> exact ⟨_, _, rfl, rfl, q⟩
def rTpF {α : Type} (s : RI α) : R α := ⟨fun a v F => ∃ p vs, v = .ref p ∧ F p = some (.tup vs) ∧ s.h a vs F, fun e ⟨p, vs, h1, h2, h3⟩ => ⟨p, vs, h1, e _ _ h2, s.ex e h3⟩⟩
theorem e_tupF {ta : TA} {s : RI α} {f : (α → Prop) → Prop} (h : Ar b G ta s f) (hn : s.n ≤ sizeLine) : E b G (tTup ta) (rTpF s) f := fun _ _ _ _ k V q w => h _ V q fun x vs F1 H1 q1 A1 V1 r1 => ⟨by rw [s.ln r1]; exact hn, fun p hp => by
  have B := After.new (o := .tup vs) V1.fh hp
  exact w x _ _ _ q1 (A1.trans (B.mono fun _ h => nomatch h)) (V1.step B) ⟨p, vs, rfl, upd_same, s.ex B.ff r1⟩⟩
theorem e_vd {fa fc : (Int → Prop) → Prop} (h1 : E b G ta rInt fa) (h2 : E b G tc rInt fc) : E b G (tTup (tCons ta (tCons (tC (.str "void")) (tCons tc tNil)))) rEn (fun k => fa fun n => fc fun o => k (.vd n o)) :=
  e_cast (r := rTpF (rCons rInt (rCons (rLit "void") (rOne rInt)))) (r' := rEn) (g := fun x => En.vd x.1 x.2.2) (fun a v F ⟨p, vs, e, hp, v1, w1, e1, r1, v2, w2, e2, r2, v3, e3, r3⟩ => by
    cases r1; cases r2; cases r3; subst e3; subst e2; subst e1; exact ⟨p, e, hp⟩) (e_tupF (ar_cons h1 (ar_cons e_lit (ar_one h2))) (by show 3 ≤ sizeLine; decide))
theorem e_sg {fa fc : (Int → Prop) → Prop} {fs : (Str → Prop) → Prop} {td : TE} (h1 : E b G ta rInt fa) (h2 : E b G tc rInt fc) (h3 : E b G td rStr fs) : E b G (tTup (tCons ta (tCons (tC (.str "sign")) (tCons tc (tCons td tNil))))) rEn (fun k => fa fun n => fc fun o => fs fun x => k (.sg n o x)) :=
  e_cast (r := rTpF (rCons rInt (rCons (rLit "sign") (rCons rInt (rOne rStr))))) (r' := rEn) (g := fun x => En.sg x.1 x.2.2.1 x.2.2.2) (fun a v F ⟨p, vs, e, hp, v1, w1, e1, r1, v2, w2, e2, r2, v3, w3, e3, r3, v4, e4, r4⟩ => by
    cases r1; cases r2; cases r3; cases r4; subst e4; subst e3; subst e2; subst e1; exact ⟨p, e, hp⟩) (e_tupF (ar_cons h1 (ar_cons e_lit (ar_cons h2 (ar_one h3)))) (by show 4 ≤ sizeLine; decide))
theorem e_rl {fa fc : (Int → Prop) → Prop} {fs : (Str → Prop) → Prop} {td : TE} (h1 : E b G ta rInt fa) (h2 : E b G tc rInt fc) (h3 : E b G td rStr fs) : E b G (tTup (tCons ta (tCons (tC (.str "rule")) (tCons tc (tCons td tNil))))) rEn (fun k => fa fun n => fc fun o => fs fun x => k (.rl n o x)) :=
  e_cast (r := rTpF (rCons rInt (rCons (rLit "rule") (rCons rInt (rOne rStr))))) (r' := rEn) (g := fun x => En.rl x.1 x.2.2.1 x.2.2.2) (fun a v F ⟨p, vs, e, hp, v1, w1, e1, r1, v2, w2, e2, r2, v3, w3, e3, r3, v4, e4, r4⟩ => by
    cases r1; cases r2; cases r3; cases r4; subst e4; subst e3; subst e2; subst e1; exact ⟨p, e, hp⟩) (e_tupF (ar_cons h1 (ar_cons e_lit (ar_cons h2 (ar_one h3)))) (by show 4 ≤ sizeLine; decide))
end
/-! ### the prelude -/
section
variable {P : Program} {w : World} {K : PySem.W.Frag} {mg : Str → Option Value} {base : Heap} {A : Ad} {α : Type}
def W_l_pick (m : Int) (k : Int → Prop) : Prop := 0 < m ∧ m < 1073741824 ∧ ∀ r, 0 ≤ r → r < m → k r
theorem After.bag {F H : Hp} {b : Addr} {l l' : List V} (e : Ex F H) (fb : F b = none) (hb : H b = some (.lst l)) : After F H [b] F (upd H b (.lst l')) :=
  ⟨Ex.refl _, ex_mut fb e, fun x o hm hx => by rw [upd_ne (fun z => hm (by rw [z]; exact List.mem_cons_self))]; exact hx, fun x hx => by
    by_cases z : x = b
    · subst z; rw [upd_same]; exact fun z => nomatch z
    · rw [upd_ne z]; exact hx, fun _ h _ => h⟩
theorem okM_l_pick (T : Txt K mg A) : FnOk P w K mg base CX0 2 A.f_l_pick A.d_l_pick ["_law_bag_here", "_law_many"] (spB (rOne rInt) rInt (fun x k => W_l_pick x k)) := (ok_l_pick T).imp fun vs H Q E h => by
  obtain ⟨b, ws, m, F, k, rfl, fb, ⟨l, hb, hl⟩, e, ⟨v, rfl, rfl⟩, ⟨m0, m1, q⟩, w⟩ := h
  exact ⟨b, m, F, rfl, m0, m1, e, ⟨fb, l, hb, hl⟩, fun r l' r0 r1 hl' => w r _ F _ (q r r0 r1) (After.bag e fb hb) ⟨l', upd_same, hl'⟩ rfl⟩
def W_l_choice (xs : List α) (k : α → Prop) : Prop := 0 < xs.length ∧ xs.length < 1000000 ∧ ∀ x ∈ xs, k x
theorem All.mem {r : R α} {F : Hp} {xs : List α} {vs : List V} (h : All r F xs vs) {v : V} (m : v ∈ vs) : ∃ a ∈ xs, r.h a v F := by
  obtain ⟨i, hi, e⟩ := List.mem_iff_getElem.mp m
  obtain ⟨a, h1, h2⟩ := h.of_get (i := i) (v := v) (by rw [List.getElem?_eq_getElem hi, e])
  exact ⟨a, List.mem_of_getElem? h1, h2⟩
theorem okM_l_choice {r : R α} (T : Txt K mg A) : FnOk P w K mg base CX0 3 A.f_l_choice A.d_l_choice ["_law_bag_here", "_law_things"] (spB (rOne (rLst r)) r (fun x k => W_l_choice x k)) := (ok_l_choice T).imp fun vs H Q E h => by
  obtain ⟨b, ws, xs, F, k, rfl, fb, ⟨l, hb, hl⟩, e, ⟨v, rfl, t, us, rfl, ht, hA⟩, ⟨m0, m1, q⟩, w⟩ := h
  refine ⟨b, t, us, F, rfl, e, ⟨fb, l, hb, hl⟩, ht, by rw [hA.len]; exact m0, by rw [hA.len]; exact m1, fun v l' hv hl' => ?_⟩
  obtain ⟨a, ha, hr⟩ := hA.mem hv
  exact w a v F _ (q a ha) (After.bag e fb hb) ⟨l', upd_same, hl'⟩ hr
theorem flip_paired {β γ : Type} {R : β → γ → Prop} {xs : List β} {ys : List γ} (h : Paired R xs ys) : Paired (fun y x => R x y) ys xs := by
  induction h with
  | nil => exact .nil
  | cons r _ ih => exact .cons r ih
def W_l_mingled (xs : List α) (k : List α → Prop) : Prop := xs.length < 1000000 ∧ ∀ ys : List α, ys.Perm xs → k ys
theorem okM_l_mingled {r : R α} (T : Txt K mg A) : FnOk P w K mg base CX0 3 A.f_l_mingled A.d_l_mingled ["_law_bag_here", "_law_things"] (spB (rOne (rLst r)) (rLst r) (fun x k => W_l_mingled x k)) := (ok_l_mingled T).imp fun vs H Q E h => by
  obtain ⟨b, ws, xs, F, k, rfl, fb, ⟨l, hb, hl⟩, e, ⟨v, rfl, t, us, rfl, ht, hA⟩, ⟨m1, q⟩, w⟩ := h
  refine ⟨b, t, us, F, rfl, e, ⟨fb, l, hb, hl⟩, ht, by rw [hA.len]; exact m1, fun p zs H' pe hp hp' e' B' kp => ?_⟩
  obtain ⟨ys, h1, py⟩ := Dh.paired_perm pe (flip_paired hA)
  have hy : All r F ys zs := flip_paired h1
  have fp : F p = none := ex_none e hp
  refine w ys _ (upd F p (.lst zs)) H' (q ys py) ⟨Ex.new fp, fun x o h => ?_, fun x o m h => kp x o (fun z => m (by rw [z]; exact List.mem_cons_self)) h, fun x h => ?_, fun x h1 h2 => by rw [upd_ne (fun z => h2 (by rw [z]; exact hp))]; exact h1⟩ ?_ ⟨p, zs, rfl, upd_same, hy.ex (Ex.new fp)⟩
  · by_cases z : x = p
    · subst z; rw [upd_same] at h; cases h; exact hp'
    · rw [upd_ne z] at h; exact e' _ _ h
  · by_cases z : x = b
    · subst z
      obtain ⟨l, h1, _⟩ := B'.ex
      rw [h1]; exact fun z => nomatch z
    · cases q : H x with
      | none => exact absurd q h
      | some u => rw [kp x u z q]; exact fun z => nomatch z
  · obtain ⟨l, h1, h2⟩ := B'.ex
    obtain ⟨_, h3, h4⟩ := cBag.ex (a := ()) (u := .lst l) (Ex.new (p := p) (o := .lst zs) fp) ⟨l, rfl, h2⟩
    cases h3
    exact ⟨l, h1, h4⟩
end
end Mi
/-! MirOrd -/
set_option Elab.async false
set_option linter.all false
set_option maxRecDepth 100000
set_option maxHeartbeats 4000000
namespace Dh
open PySem PySem.Spec PyProof.Rows L2
def rGtT (K : PySem.W.Frag) : R2 := fun x y H Q => ∃ (a b : Addr) (ns ms : List Int), x = .ref a ∧ y = .ref b ∧ SqT K H a (ns.map V.int) ∧ SqT K H b (ms.map V.int) ∧
  Q (.bl (Ob.lexAt (fun j => decide (ns.getD j 0 = ms.getD j 0)) (fun j => decide (ns.getD j 0 > ms.getD j 0)) (decide (ns.length > ms.length)) 0 (min ns.length ms.length))) H
theorem num_at {its : List Value} : ∀ {ns : List Int} {j : Nat}, Vals (ns.map V.int) its → j < its.toArray.size → ∃ t, its.toArray[j]? = some (.int (ns.getD j 0) t) := fun {ns j} h hj => by
  have hj' : j < its.length := by simpa using hj
  have hl : its.length = ns.length := by rw [← Paired.length h, List.length_map]
  have hn : j < ns.length := by omega
  obtain ⟨v, h1, h2⟩ := Dh.paired_get (i := j) (x := V.int ns[j]) h (by simp [hn])
  obtain ⟨t, rfl⟩ := h2
  exact ⟨t, by simp [h1, hn]⟩
theorem op_gtT {X : Cx} (room : X.A.units < cLine) : OpR X (compareOp .Gt) (rGtT X.K) := fun pins s σ H x y v u Q J e1 e2 ⟨a, c, ns, ms, xa, yc, ta, tc, q⟩ => by
  subst xa yc
  cases e1; cases e2
  obtain ⟨is1, va, at1, _⟩ := J.tuple ta
  obtain ⟨is2, vc, at2, _⟩ := J.tuple tc
  have l1 : is1.toArray.size = ns.length := by rw [List.size_toArray, ← Paired.length va, List.length_map]
  have l2 : is2.toArray.size = ms.length := by rw [List.size_toArray, ← Paired.length vc, List.length_map]
  have get1 : ∀ j (hj : j < is1.toArray.size), ∃ t, is1.toArray[j] = .int (ns.getD j 0) t := fun j hj => by
    obtain ⟨t, ht⟩ := num_at va hj
    exact ⟨t, Option.some.inj ((Array.getElem?_eq_getElem hj).symm.trans ht)⟩
  have get2 : ∀ j (hj : j < is2.toArray.size), ∃ t, is2.toArray[j] = .int (ms.getD j 0) t := fun j hj => by
    obtain ⟨t, ht⟩ := num_at vc hj
    exact ⟨t, Option.some.inj ((Array.getElem?_eq_getElem hj).symm.trans ht)⟩
  have big := Ob.RcOp.tuples_gt (A := X.A) (s := s) (e := fun j => decide (ns.getD j 0 = ms.getD j 0)) (r := fun j => decide (ns.getD j 0 > ms.getD j 0)) at1 at2 room
    (fun j j1 j2 => by
      obtain ⟨t, ht⟩ := get1 j j1
      obtain ⟨t', ht'⟩ := get2 j j2
      rw [ht, ht', ← Bool.beq_eq_decide_eq]
      exact SeqAt.EqAt.int_int _ _ _ _)
    (fun j j1 j2 _ => by
      obtain ⟨t, ht⟩ := get1 j j1
      obtain ⟨t', ht'⟩ := get2 j j2
      rw [ht, ht']
      exact Ob.RcOp.gt_int _ _ _ _)
  rw [l1, l2] at big
  exact (show wpAny (model X.prog X.w) X.A (compareOp .Gt (.ref a) (.ref c)) (EP X pins σ Q) X.xe s from big X.prog X.w X.xe (EP X pins σ Q) ⟨.bl _, H, J, rfl, q⟩)
end Dh
namespace Mi
open PySem PySem.Spec L2 Dh
open _root_.Evl (Ex)
def pLt (a c : Int × Int) : Prop := a.1 < c.1 ∨ (a.1 = c.1 ∧ a.2 < c.2)
instance (a c : Int × Int) : Decidable (pLt a c) := by unfold pLt; infer_instance
theorem pair_ints {K : PySem.W.Frag} {x : Int × Int} {v : V} {F : Hp} (h : (rTp K (rCons rInt (rOne rInt))).h x v F) : ∃ p, v = .ref p ∧ SqT K F p ([x.1, x.2].map V.int) := by
  obtain ⟨p, vs, e, hp, v1, ws, e1, r1, v2, e2, r2⟩ := h
  cases r1; cases r2; subst e2; subst e1
  exact ⟨p, e, hp⟩
theorem o_pairGt {K : PySem.W.Frag} : Op2 (rGtT K) (rTp K (rCons rInt (rOne rInt))) (rTp K (rCons rInt (rOne rInt))) rBl (fun x y k => k (decide (pLt y x))) := fun a c v w F H Q k h1 h2 e q w' => by
  obtain ⟨p, rfl, g1⟩ := pair_ints h1
  obtain ⟨p', rfl, g2⟩ := pair_ints h2
  refine ⟨p, p', _, _, rfl, rfl, _root_.Evl.ex_t e g1, _root_.Evl.ex_t e g2, w' (decide (pLt c a)) _ _ _ q (After.refl e _) ?_⟩
  show V.bl _ = V.bl _
  congr 1
  unfold pLt
  by_cases z : a.1 = c.1
  · by_cases z2 : a.2 = c.2
    · simp [Ob.lexAt, z, z2]
    · simp [Ob.lexAt, z, z2]
  · have : c.1 ≠ a.1 := fun x => z x.symm
    simp [Ob.lexAt, z, this]
end Mi
/-! Mir6 -/
set_option Elab.async false
set_option linter.all false
set_option maxRecDepth 100000
set_option maxHeartbeats 4000000
namespace Mi
open PySem PySem.Spec L2 Dh
open _root_.Evl (Ex)
section
variable {K : PySem.W.Frag} {b : Bs} {G : List Sl} {α β γ δ τ τ' ρ ε : Type} {Gn : τ → List Sl} {Gl : ε → List Sl} {ro : ρ → V → Hp → Hp → Prop} {σ : L2.St} {F H F' H' : Hp}
/-! ### an own thing as the first parameter, as it was behind the call -/
def CAt (c : C γ) (y : γ) (F H : Hp) (p : Addr) : Prop := ∃ u, H p = some u ∧ c.h y u F
def spR (c : C γ) (s : RI α) (r : R β) (g : γ → α → (β → Prop) → Prop) : Sp := fun vs H Q _ => ∃ (p : Addr) (ws : List V) (y : γ) (x : α) (F : Hp) (k : β → Prop), vs = .ref p :: ws ∧ F p = none ∧ CAt c y F H p ∧ Ex F H ∧ s.h x ws F ∧ g y x k ∧
  ∀ z v F' H', k z → After F H [p] F' H' → CAt c y F' H' p → r.h z v F' → Q v H'
theorem spR_len {c : C γ} {s : RI α} {r : R β} {g : γ → α → (β → Prop) → Prop} {vs : List V} {Q : VK} {Ek : XK} (h : spR c s r g vs H Q Ek) : vs.length = s.n + 1 := by
  obtain ⟨p, ws, y, x, F, k, rfl, _, _, _, hs, _⟩ := h; rw [List.length_cons, s.ln hs]
theorem Env.cAt {c : C γ} {y : γ} {i : Nat} {p : Addr} (V : Env b G σ F H) (hi : G[i]? = some (own p c y)) : F p = none ∧ CAt c y F H p := by
  obtain ⟨o, h1, _, u, h2, h3⟩ := V.hold.at_ hi
  exact ⟨(V.on p (mem_owns hi List.mem_cons_self)).1, u, h2, h3⟩
theorem Env.cNew {c : C γ} {c' : C δ} {y : γ} {y' : δ} {i : Nat} {p : Addr} (V : Env b G σ F H) (hi : G[i]? = some (own p c y)) (A : After F H [p] F' H') (B : CAt c' y' F' H' p) : Env b (G.set i (own p c' y')) σ F' H' := by
  obtain ⟨o, h1, rfl, _⟩ := V.hold.at_ hi
  have hp : p ∈ owns G := mem_owns hi List.mem_cons_self
  obtain ⟨u, h2, h3⟩ := B
  have e : owns (G.set i (own p c' y')) = owns G := owns_same hi rfl
  exact V.step0 A (fun q hq => by rw [List.mem_singleton.mp hq]; exact hp) (fun q hq => by rw [← e]; exact hq) (by rw [e]; exact V.nd)
    (V.hold.mut V.nd hi h1 List.mem_cons_self A.ff (fun q u ne hq => A.hh q u (fun z => ne (List.mem_singleton.mp z)) hq) (show _ ∧ _ from ⟨rfl, _, h2, h3⟩))
theorem e_callR {c : C γ} {y : γ} {i : Nat} {p : Addr} {s : RI α} {r : R β} {g : γ → α → (β → Prop) → Prop} {Ek : XK} {ta : TA} {f : (α → Prop) → Prop} (hi : G[i]? = some (own p c y)) (h : Ar b G ta s f) :
    E b G (tCall (spR c s r g) [] Ek (tCons (tVar i) ta)) r (fun k => f fun x => g y x k) := fun σ F H Q k V q w => by
  obtain ⟨o, h1, rfl, _⟩ := V.hold.at_ hi
  refine ⟨.ref p, h1, ?_⟩
  refine h _ V q ?_
  intro x vs F1 H1 q1 A1 V1 r1
  show spR c s r g ((.ref p :: vs) ++ []) H1 _ _
  rw [List.append_nil]
  obtain ⟨f1, B1⟩ := V1.cAt hi
  have hp : p ∈ owns G := mem_owns hi List.mem_cons_self
  refine ⟨p, vs, y, x, F1, k, rfl, f1, B1, V1.fh, r1, q1, fun z v F2 H2 q2 A2 B2 r2 => w z v F2 H2 q2 (A1.trans (A2.mono fun q hq => by rw [List.mem_singleton.mp hq]; exact hp)) ?_ r2⟩
  have := V1.cNew hi A2 B2
  rw [set_self hi] at this; exact this
/-- o.m(..), nothing changed -/
theorem e_methR {c : C γ} {y : γ} {i : Nat} {p Cl : Addr} {m : Str} {s : RI α} {r : R β} {g : γ → α → (β → Prop) → Prop} {Ek : XK} {ta : TA} {f : (α → Prop) → Prop} (hi : G[i]? = some (own p c y)) (hc : ∀ y u F, c.h y u F → ∃ dx fs, u = .ins Cl dx fs ∧ fs.lookup m = none) (h : Ar b G ta s f) :
    E b G (tMeth Cl m (spR c s r g) [] Ek (tVar i) ta) r (fun k => f fun x => g y x k) := fun σ F H Q k V q w => by
  obtain ⟨o, h1, rfl, u, hu, hcu⟩ := V.hold.at_ hi
  obtain ⟨dx, fs, rfl, hl⟩ := hc _ _ _ hcu
  refine ⟨.ref p, h1, p, dx, fs, rfl, hu, hl, ?_⟩
  refine h _ V q ?_
  intro x vs F1 H1 q1 A1 V1 r1
  show spR c s r g (.ref p :: (vs ++ [])) H1 _ _
  rw [List.append_nil]
  obtain ⟨f1, B1⟩ := V1.cAt hi
  have hp : p ∈ owns G := mem_owns hi List.mem_cons_self
  refine ⟨p, vs, y, x, F1, k, rfl, f1, B1, V1.fh, r1, q1, fun z v F2 H2 q2 A2 B2 r2 => w z v F2 H2 q2 (A1.trans (A2.mono fun q hq => by rw [List.mem_singleton.mp hq]; exact hp)) ?_ r2⟩
  have := V1.cNew hi A2 B2
  rw [set_self hi] at this; exact this
theorem run_R {c : C γ} {s : RI α} {r : R β} {g : γ → α → (β → Prop) → Prop} {N : List Str} {m : Nat} {t : TS} {vs : List V} {Q : VK} {Ek : XK} {Gn : Bs → Addr → γ → α → τ → List Sl} {f : γ → α → Pd τ Unit β → Prop} (h : spR c s r g vs H Q Ek) (hN : N.length = s.n + 1 + m)
    (hS : ∀ b p y x, b.M = [p] → S b (own p c y :: (s.sl x ++ List.replicate m any)) t (Gn b p y x) (fun _ : Unit => []) (fun z v F H => CAt c y F H p ∧ r.h z v F) (f y x)) (hg : ∀ y x k, g y x k → f y x ⟨fun _ => False, fun _ => False, fun _ => False, k⟩) :
    t { nx := fun _ H' => Q .non H', rt := Q } (L2.start N vs) H := by
  obtain ⟨p, ws, y, x, F, k, rfl, fp, ⟨u, hb, hbl⟩, e, hs, q, w⟩ := h
  have hl := s.ln hs
  refine S.go (hS ⟨F, H, [p], fun q hq => by rw [List.mem_singleton.mp hq, hb]; exact fun z => nomatch z⟩ p y x rfl) (L2.start N (.ref p :: ws)) F H _ ⟨fun _ => False, fun _ => False, fun _ => False, k⟩ ?_ (hg y x k q) (fun _ _ _ _ h => h.elim) (fun _ _ _ _ h => h.elim) (fun _ _ _ _ h => h.elim) (fun z v F' H' hk A (hr : CAt c y F' H' p ∧ r.h z v F') => w z v F' H' hk A hr.1 hr.2)
  have ow : owns (own p c y :: (s.sl x ++ List.replicate m any)) = [p] := by
    show [p] ++ owns _ = _
    rw [owns_app, s.no, owns_any]; rfl
  refine ⟨Ex.refl _, e, fun _ _ _ h => h, fun _ h => h, fun _ h _ => h, ?_, by rw [ow]; simp, fun q hq => ?_⟩
  · unfold L2.start
    have : N.length - (V.ref p :: ws).length = m := by rw [List.length_cons]; omega
    rw [this]
    exact .cons (show _ ∧ _ from ⟨rfl, _, hb, hbl⟩) (paired_app' (s.hs hs) holds_any)
  · rw [ow] at hq
    cases List.mem_singleton.mp hq
    exact ⟨fp, .inl List.mem_cons_self⟩
theorem s_retR {te : TE} {r : R α} {f : (α → Prop) → Prop} {i : Nat} {p : Addr} {c : C γ} {y : γ} (hi : G[i]? = some (own p c y)) (h : E b G te r f) : S b G (tRet te) Gn Gl (fun z v F H => CAt c y F H p ∧ r.h z v F) (fun d => f d.rt) :=
  s_ret (g := fun a => a) h fun a v σ F H V hr => ⟨(V.cAt hi).2, hr⟩
/-! ### a bag and an own list -/
def spBL (rl : R γ) (r : R β) (g : List γ → (β × List γ → Prop) → Prop) : Sp := fun vs H Q _ => ∃ (p q : Addr) (us : List γ) (F : Hp) (k : β × List γ → Prop), vs = [.ref p, .ref q] ∧ p ≠ q ∧ F p = none ∧ F q = none ∧ BgAt F H p ∧ CAt (cLst rl) us F H q ∧ Ex F H ∧ g us k ∧
  ∀ y v F' H', k y → After F H [p, q] F' H' → BgAt F' H' p → CAt (cLst rl) y.2 F' H' q → r.h y.1 v F' → Q v H'
theorem s_dropBL {rl : R γ} {r : R β} {g : List γ → (β × List γ → Prop) → Prop} {Ek : XK} {i j : Nat} {p q : Addr} {us : List γ} (hi : G[i]? = some (own p cBag ())) (hj : G[j]? = some (own q (cLst rl) us)) (ij : i ≠ j) :
    S b G (tDrop (tCall (spBL rl r g) [] Ek (tCons (tVar i) (tCons (tVar j) tNil)))) (fun y : β × List γ => G.set j (own q (cLst rl) y.2)) Gl ro (fun d => g us d.nx) := fun σ F H D d V hq w1 _ _ _ => by
  obtain ⟨o, h1, rfl, _⟩ := V.hold.at_ hi
  obtain ⟨o, h2, rfl, _⟩ := V.hold.at_ hj
  obtain ⟨fp, Bp⟩ := V.bagAt hi
  obtain ⟨fq, Bq⟩ := V.cAt hj
  have pq : p ≠ q := fun z => owns_disj hi hj ij V.nd List.mem_cons_self (by rw [z]; exact List.mem_cons_self)
  refine ⟨.ref p, h1, .ref q, h2, ?_⟩
  refine ⟨p, q, us, F, d.nx, rfl, pq, fp, fq, Bp, Bq, V.fh, hq, fun y v F2 H2 k2 A B1 B2 _ => w1 y _ F2 H2 k2 A.ff ?_⟩
  have hp := mem_owns hi List.mem_cons_self
  have hq' := mem_owns hj List.mem_cons_self
  have e : owns (G.set j (own q (cLst rl) y.2)) = owns G := owns_same hj rfl
  obtain ⟨l, b1, b2⟩ := B1
  obtain ⟨u, c1, c2⟩ := B2
  refine V.step0 A (fun x hx => ?_) (fun x hx => by rw [← e]; exact hx) (by rw [e]; exact V.nd) (Holds.of (by rw [List.length_set]; exact V.hold.len) fun m t o m1 m2 => ?_)
  · rcases List.mem_cons.mp hx with z | z
    · rw [z]; exact hp
    · rw [List.mem_singleton.mp z]; exact hq'
  · by_cases z : j = m
    · subst z
      rw [List.getElem?_set_self (List.getElem?_eq_some_iff.mp hj).1] at m1
      cases m1
      rw [h2] at m2; cases m2
      exact ⟨rfl, u, c1, c2⟩
    · rw [List.getElem?_set_ne z] at m1
      by_cases z2 : i = m
      · subst z2
        rw [hi] at m1; cases m1
        rw [h1] at m2; cases m2
        exact ⟨rfl, _, b1, l, rfl, b2⟩
      · obtain ⟨o', h3, h4⟩ := V.hold.at_ m1
        rw [m2] at h3; cases h3
        refine t.up A.ff (fun x hx u hu => A.hh x u (fun zz => ?_) hu) h4
        rcases List.mem_cons.mp zz with e1 | e1
        · exact owns_disj hi m1 z2 V.nd List.mem_cons_self (e1 ▸ hx)
        · rw [List.mem_singleton.mp e1] at hx
          exact owns_disj hj m1 z V.nd List.mem_cons_self hx
/-! ### records: dicts with written keys -/
structure RK (α : Type) where
  h : α → List (Key × V) → Hp → Prop
  ex : ∀ {a v F F'}, Ex F F' → h a v F → h a v F'
  ks : List Str
  kk : ∀ {a v F}, h a v F → v.map (·.1) = ks.map Sum.inr
def kOne (n : Str) (r : R α) : RK α := ⟨fun a kvs F => ∃ v, kvs = [(.inr n, v)] ∧ r.h a v F, fun e ⟨v, h1, h2⟩ => ⟨v, h1, r.ex e h2⟩, [n], fun ⟨v, h, _⟩ => by rw [h]; rfl⟩
def kCons (n : Str) (r : R α) (s : RK β) : RK (α × β) := ⟨fun a kvs F => ∃ v ws, kvs = (.inr n, v) :: ws ∧ r.h a.1 v F ∧ s.h a.2 ws F, fun e ⟨v, ws, h1, h2, h3⟩ => ⟨v, ws, h1, r.ex e h2, s.ex e h3⟩, n :: s.ks, fun ⟨v, ws, h, _, h2⟩ => by rw [h, List.map_cons, s.kk h2]; rfl⟩
def rRec (s : RK α) : R α := ⟨fun a v F => ∃ p kvs, v = .ref p ∧ F p = some (.dK kvs) ∧ s.h a kvs F, fun e ⟨p, kvs, h1, h2, h3⟩ => ⟨p, kvs, h1, e _ _ h2, s.ex e h3⟩⟩
def RkAt (s : RK α) (n : Str) (r : R β) (g : α → β) : Prop := ∀ a kvs F, s.h a kvs F → ∃ v, valV kvs (Sum.inr n : Key) = some v ∧ r.h (g a) v F
theorem rk_one {n : Str} {r : R α} : RkAt (kOne n r) n r (fun a => a) := fun a kvs F ⟨v, e, h⟩ => ⟨v, by rw [e]; exact valV_pos rfl, h⟩
theorem rk_hd {n : Str} {r : R α} {s : RK β} : RkAt (kCons n r s) n r (fun a => a.1) := fun a kvs F ⟨v, ws, e, h, _⟩ => ⟨v, by rw [e]; exact valV_pos rfl, h⟩
theorem rk_tl {n m : Str} {r : R α} {s : RK β} {rr : R γ} {g : β → γ} (ne : (n == m) = false) (h : RkAt s m rr g) : RkAt (kCons n r s) m rr (fun a => g a.2) := fun a kvs F ⟨v, ws, e, _, h2⟩ => by
  obtain ⟨u, h3, h4⟩ := h a.2 ws F h2
  refine ⟨u, ?_, h4⟩
  rw [e, valV_neg (fun z => ?_)]
  · exact h3
  · have z : (Sum.inr n : Key) = Sum.inr m := z
    rw [Sum.inr.inj z, beq_self_eq_true] at ne; cases ne
theorem e_rec {s : RK α} {n : Str} {r : R β} {g : α → β} {te : TE} {f : (α → Prop) → Prop} (h : E b G te (rRec s) f) (hn : RkAt s n r g) : E b G (tDGet te (tC (.str n))) r (fun k => f fun a => k (g a)) := fun _ _ _ _ k V q w => by
  refine h _ V q ?_
  rintro a v F1 H1 q1 A1 V1 ⟨p, kvs, rfl, hp, hs⟩
  obtain ⟨u, h1, h2⟩ := hn a kvs F1 hs
  exact ⟨p, u, rfl, by rw [← h1]; exact DGet.k (k := Sum.inr n) (V1.fh _ _ hp), w _ u F1 H1 q1 A1 V1 h2⟩
/-- the pairs of a display -/
def Prs (b : Bs) (G : List Sl) (ts : List (TE × TE)) (s : RK α) (f : (α → Prop) → Prop) : Prop := ∀ ⦃σ : L2.St⦄ ⦃F H : Hp⦄ ⦃Q : List (V × V) → Hp → Prop⦄ (k : α → Prop), Env b G σ F H → f k →
  (∀ a ps F' H', k a → After F H (owns G) F' H' → Env b G σ F' H' → (∃ kvs : List (Key × V), ps = kvs.map (fun kv => (kV kv.1, kv.2)) ∧ s.h a kvs F') → Q ps H') → tPairs ts σ H Q
theorem prs_one {n : Str} {r : R α} {te : TE} {f : (α → Prop) → Prop} (h : E b G te r f) : Prs b G [(tC (.str n), te)] (kOne n r) f := fun _ _ _ _ k V q w => by
  refine h _ V q ?_
  intro a v F1 H1 q1 A1 V1 r1
  exact w a _ F1 H1 q1 A1 V1 ⟨[(.inr n, v)], rfl, v, rfl, r1⟩
theorem prs_cons {n : Str} {r : R α} {s : RK β} {te : TE} {ts : List (TE × TE)} {f : (α → Prop) → Prop} {g : (β → Prop) → Prop} (h : E b G te r f) (h2 : Prs b G ts s g) : Prs b G ((tC (.str n), te) :: ts) (kCons n r s) (fun k => f fun x => g fun y => k (x, y)) := fun _ _ _ _ k V q w => by
  refine h _ V q ?_
  intro a v F1 H1 q1 A1 V1 r1
  refine h2 _ V1 q1 ?_
  rintro y ps F2 H2 q2 A2 V2 ⟨kvs, rfl, hs⟩
  exact w (a, y) _ F2 H2 q2 (A1.trans A2) V2 ⟨(.inr n, v) :: kvs, rfl, v, kvs, rfl, r.ex A2.ff r1, hs⟩
theorem merge_new : ∀ {more kvs : List (Key × V)}, (more.map (·.1)).Nodup → (∀ p ∈ more, ∀ q ∈ kvs, p.1 ≠ q.1) → mergeK kvs more = kvs ++ more
  | [], kvs, _, _ => by unfold mergeK; simp
  | p :: more, kvs, nd, h => by
    have nd' := List.nodup_cons.mp (by simpa using nd : (p.1 :: more.map (·.1)).Nodup)
    show mergeK (putK kvs p.1 p.2) more = _
    have e : putK kvs p.1 p.2 = kvs ++ [p] := by
      unfold putK
      rw [if_neg]
      intro z
      obtain ⟨q, hq, e⟩ := List.any_eq_true.mp z
      exact h p List.mem_cons_self q hq (of_decide_eq_true e).symm
    rw [e, merge_new nd'.2 fun a ha q hq => ?_, List.append_assoc]
    · rfl
    · rcases List.mem_append.mp hq with z | z
      · exact h a (List.mem_cons_of_mem _ ha) q z
      · rw [List.mem_singleton.mp z]
        intro e
        exact nd'.1 (e ▸ List.mem_map_of_mem (f := (·.1)) ha)
theorem nodup_inr : ∀ {l : List Str}, l.Nodup → (l.map (Sum.inr : Str → Key)).Nodup
  | [], _ => List.nodup_nil
  | x :: l, h => by
    have h' := List.nodup_cons.mp h
    rw [List.map_cons]
    refine List.nodup_cons.mpr ⟨fun z => ?_, nodup_inr h'.2⟩
    obtain ⟨y, hy, e⟩ := List.mem_map.mp z
    rw [Sum.inr.inj e] at hy
    exact h'.1 hy
theorem e_disp {s : RK α} {ts : List (TE × TE)} {f : (α → Prop) → Prop} (h : Prs b G ts s f) (nd : s.ks.Nodup) (l : s.ks.length ≤ 15) : E b G (tDisp ts) (rRec s) f := fun σ F H Q k V q w p hp => by
  have B := After.fresh (o := .dK []) V.fh hp []
  have V1 := V.step B
  have nO : p ∉ owns G := fun z => V.hold.live p z hp
  have fp : F p = none := ex_none V.fh hp
  refine h _ V1 q ?_
  rintro a ps F2 H2 q2 A2 V2 ⟨kvs, rfl, hs⟩
  have hp2 : H2 p = some (.dK []) := A2.hh p _ nO upd_same
  have fp2 : F2 p = none := A2.nf p fp (by rw [upd_same]; exact fun z => nomatch z)
  have hb : b.H p = none := by
    cases e : b.H p with
    | none => rfl
    | some u => exact absurd hp (V.kp p (by rw [e]; exact fun z => nomatch z))
  have V3 : Env b G σ F2 (upd H2 p (.dK kvs)) := V2.poke nO fp2 hb
  have A3 : After F H (owns G) F2 (upd H2 p (.dK kvs)) := by
    have A' := (B.mono (M' := owns G) fun _ h => nomatch h).trans A2
    have n1 : ∀ {x : Addr}, H x ≠ none → x ≠ p := fun h z => h (by rw [z]; exact hp)
    exact ⟨A'.ff, ex_mut fp2 A'.fh, fun x o hm hx => by rw [upd_ne (n1 (by rw [hx]; exact fun z => nomatch z))]; exact A'.hh x o hm hx, fun x hx => by rw [upd_ne (n1 hx)]; exact A'.kp x hx, A'.nf⟩
  have e : mergeK [] kvs = kvs := by
    rw [merge_new (by rw [s.kk hs]; exact nodup_inr nd) (fun _ _ q hq => absurd hq (by simp))]; rfl
  have ln : kvs.length ≤ 15 := by
    have := congrArg List.length (s.kk hs)
    rw [List.length_map, List.length_map] at this
    omega
  refine ⟨hp2, kvs, rfl, ln, ?_⟩
  rw [e]
  obtain ⟨A4, V4⟩ := thaw V A3 V3 hp fp2 upd_same
  exact w a _ _ _ q2 A4 V4 ⟨p, kvs, rfl, upd_same, s.ex (Ex.new fp2) hs⟩
/-! ### a list of own lists -/
abbrev LLs (r : R α) (F H : Hp) : List Addr → List (List α) → Prop := Paired fun q xs => ∃ vs, H q = some (.lst vs) ∧ All r F xs vs
theorem LLs.up {r : R α} {F H F' H' : Hp} (e : Ex F F') {qs : List Addr} {xss : List (List α)} (h : LLs r F H qs xss) : (∀ q ∈ qs, ∀ u, H q = some u → H' q = some u) → LLs r F' H' qs xss := by
  induction h with
  | nil => intro _; exact .nil
  | cons r t ih =>
    intro k
    obtain ⟨vs, h4, h5⟩ := r
    exact .cons ⟨vs, k _ List.mem_cons_self _ h4, h5.ex e⟩ (ih fun q hq => k q (List.mem_cons_of_mem _ hq))
theorem LLs.lv {r : R α} {F H : Hp} {qs : List Addr} {xss : List (List α)} (h : LLs r F H qs xss) : ∀ q ∈ qs, H q ≠ none := by
  induction h with
  | nil => intro q hq; nomatch hq
  | cons r t ih =>
    intro q hq
    rcases List.mem_cons.mp hq with e | e
    · obtain ⟨vs, h4, _⟩ := r
      rw [e, h4]; exact fun z => nomatch z
    · exact ih q e
def ownL (p : Addr) (qs : List Addr) (r : R α) (xss : List (List α)) : Sl where
  h := fun o F H => o = some (.ref p) ∧ H p = some (.lst (qs.map V.ref)) ∧ LLs r F H qs xss
  ow := p :: qs
  up := fun e k ⟨h1, h2, h3⟩ => ⟨h1, k p List.mem_cons_self _ h2, h3.up e fun q hq => k q (List.mem_cons_of_mem _ hq)⟩
  lv := fun ⟨_, h2, h3⟩ q hq => by
    rcases List.mem_cons.mp hq with z | z
    · rw [z, h2]; exact fun z => nomatch z
    · exact h3.lv q z
end
end Mi
/-! Mir7 -/
set_option Elab.async false
set_option linter.all false
set_option maxRecDepth 100000
set_option maxHeartbeats 4000000
namespace Mi
open PySem PySem.Spec L2 Dh
open _root_.Evl (Ex)
section
variable {K : PySem.W.Frag} {b : Bs} {G : List Sl} {α β γ δ τ τ' ρ ε : Type} {Gn : τ → List Sl} {Gl : ε → List Sl} {ro : ρ → V → Hp → Hp → Prop} {σ : L2.St} {F H F' H' : Hp}
/-- a view: all that a slot owns is frozen -/
def fz (F H : Hp) (ow : List Addr) : Hp := fun a => if a ∈ ow then H a else F a
theorem fz_in {ow : List Addr} {a : Addr} (h : a ∈ ow) : fz F H ow a = H a := if_pos h
theorem fz_out {ow : List Addr} {a : Addr} (h : a ∉ ow) : fz F H ow a = F a := if_neg h
theorem Env.frzS {i : Nat} {s s' : Sl} (V : Env b G σ F H) (hi : G[i]? = some s) (hm : ∀ p ∈ s.ow, p ∉ b.M) (h0 : s'.ow = []) (hs : ∀ o, s.h o F H → Ex F (fz F H s.ow) → s'.h o (fz F H s.ow) H) : Ex F (fz F H s.ow) ∧ Env b (G.set i s') σ (fz F H s.ow) H := by
  have own : ∀ p ∈ s.ow, F p = none ∧ b.H p = none := fun p hp => ⟨(V.on p (mem_owns hi hp)).1, (V.on p (mem_owns hi hp)).2.resolve_left (hm p hp)⟩
  have e : Ex F (fz F H s.ow) := fun a o h => by
    by_cases z : a ∈ s.ow
    · rw [(own a z).1] at h; cases h
    · rw [fz_out z]; exact h
  refine ⟨e, V.ff.trans e, fun a o h => ?_, V.hh, V.kp, fun a h1 h2 => ?_, ?_, V.nd.sublist (owns_set h0), fun q hq => ?_⟩
  · by_cases z : a ∈ s.ow
    · rw [fz_in z] at h; exact h
    · rw [fz_out z] at h; exact V.fh _ _ h
  · rw [fz_out (fun z => h2 (own a z).2)]; exact V.nf a h1 h2
  · refine Holds.of (by rw [List.length_set]; exact V.hold.len) fun j t o h1 h2 => ?_
    by_cases z : i = j
    · subst z
      rw [List.getElem?_set_self (List.getElem?_eq_some_iff.mp hi).1] at h1
      cases h1
      obtain ⟨o', h3, h4⟩ := V.hold.at_ hi
      rw [h2] at h3; cases h3
      exact hs o h4 e
    · rw [List.getElem?_set_ne z] at h1
      obtain ⟨o', h3, h4⟩ := V.hold.at_ h1
      rw [h2] at h3; cases h3
      exact t.up e (fun _ _ _ h => h) h4
  · have hq' := (owns_set (s := s') h0).subset hq
    rw [fz_out fun z => ?_]
    · exact V.on q hq'
    · obtain ⟨j, t, h3, h4⟩ := owns_inv hq
      by_cases zz : i = j
      · subst zz
        rw [List.getElem?_set_self (List.getElem?_eq_some_iff.mp hi).1] at h3
        cases h3
        rw [h0] at h4; nomatch h4
      · rw [List.getElem?_set_ne zz] at h3
        exact owns_disj hi h3 zz V.nd z h4
theorem LLs.frz {r : R α} {ow : List Addr} {qs : List Addr} {xss : List (List α)} (h : LLs r F H qs xss) (e : Ex F (fz F H ow)) : (∀ q ∈ qs, q ∈ ow) → All (rLst r) (fz F H ow) xss (qs.map V.ref) := by
  induction h with
  | nil => intro _; exact .nil
  | @cons q xs qs xss r t ih =>
    intro k
    obtain ⟨vs, h4, h5⟩ := r
    exact .cons ⟨q, vs, rfl, by rw [fz_in (k _ List.mem_cons_self)]; exact h4, h5.ex e⟩ (ih fun q hq => k q (List.mem_cons_of_mem _ hq))
theorem s_frzLL {t : TS} {i : Nat} {p : Addr} {qs : List Addr} {xss : List (List α)} {r : R α} {f : Pd τ ε ρ → Prop} (hi : G[i]? = some (ownL p qs r xss)) (hm : ∀ q ∈ p :: qs, q ∉ b.M) (h : S b (G.set i (val (rLst (rLst r)) xss)) t Gn Gl ro f) : S b G t Gn Gl ro f := fun _ _ _ _ d V q w1 w2 w3 w4 => by
  obtain ⟨e, V'⟩ := V.frzS (s' := val (rLst (rLst r)) xss) hi hm rfl (fun o ⟨h1, h2, h3⟩ e => ⟨.ref p, h1, p, _, rfl, (fz_in (ow := p :: qs) List.mem_cons_self).trans h2, h3.frz e fun q hq => List.mem_cons_of_mem _ hq⟩)
  exact h d V' q (fun y σ2 F2 H2 q2 e2 => w1 y σ2 F2 H2 q2 (e.trans e2)) (fun y σ2 F2 H2 q2 e2 => w2 y σ2 F2 H2 q2 (e.trans e2)) (fun y σ2 F2 H2 q2 e2 => w3 y σ2 F2 H2 q2 (e.trans e2)) w4
theorem LLs.get {r : R α} {qs : List Addr} {xss : List (List α)} (h : LLs r F H qs xss) {n : Nat} {xs : List α} (e : xss[n]? = some xs) : ∃ q vs, qs[n]? = some q ∧ H q = some (.lst vs) ∧ All r F xs vs := by
  induction h generalizing n with
  | nil => simp at e
  | cons r t ih =>
    cases n with
    | zero =>
      simp at e; subst e
      obtain ⟨vs, h1, h2⟩ := r
      exact ⟨_, vs, rfl, h1, h2⟩
    | succ n =>
      obtain ⟨q, vs, h1, h2, h3⟩ := ih (n := n) (by simpa using e)
      exact ⟨q, vs, by simpa using h1, h2, h3⟩
theorem LLs.set {r : R α} {qs : List Addr} {xss : List (List α)} (h : LLs r F H qs xss) (nd : qs.Nodup) {n : Nat} {q : Addr} {vs : List V} {xs : List α} (hq : qs[n]? = some q) (A : All r F xs vs) : LLs r F (upd H q (.lst vs)) qs (xss.set n xs) := by
  induction h generalizing n with
  | nil => exact .nil
  | @cons q0 xs0 qs xss r t ih =>
    have nd' := List.nodup_cons.mp nd
    cases n with
    | zero =>
      simp at hq; subst hq
      exact .cons ⟨vs, upd_same, A⟩ (LLs.up (Ex.refl _) t fun a ha u hu => by
        have ne : a ≠ q0 := fun z => nd'.1 (by rw [← z]; exact ha)
        rw [upd_ne ne]; exact hu)
    | succ n =>
      have hq : qs[n]? = some q := by simpa using hq
      obtain ⟨ws, h1, h2⟩ := r
      have ne : q0 ≠ q := fun z => nd'.1 (by rw [z]; exact List.mem_of_getElem? hq)
      exact .cons ⟨ws, by rw [upd_ne ne]; exact h1, h2⟩ (ih nd'.2 hq)
theorem owns_nd : ∀ {G : List Sl} {i : Nat} {s : Sl}, G[i]? = some s → (owns G).Nodup → s.ow.Nodup
  | [], _, _, e, _ => by simp at e
  | x :: g, 0, s, e, h => by simp at e; subst e; exact (List.nodup_append.mp h).1
  | x :: g, i + 1, s, e, h => owns_nd (i := i) (by simpa using e) (List.nodup_append.mp h).2.1
/-- xss[j].append(e) -/
theorem s_appLL {i : Nat} {p : Addr} {qs : List Addr} {tj te : TE} {r : R α} {xss : List (List α)} {f : (Int → Prop) → Prop} {g : (α → Prop) → Prop} (hi : G[i]? = some (ownL p qs r xss)) (hj : E b G tj rInt f) (h : E b G te r g) :
    S b G (tDrop (tBM K "list" rAppend (tOp (rIxL K) (tVar i) tj) (tCons te tNil))) (fun y : Nat × List α => G.set i (ownL p qs r (xss.set y.1 y.2))) Gl ro (fun d => f fun j => ∃ n xs, ixN xss.length j = some n ∧ xss[n]? = some xs ∧ g fun a => xs.length < sizeLine ∧ d.nx (n, xs ++ [a])) := fun σ F H D d V q w1 _ _ _ => by
  obtain ⟨o, h1, rfl, _⟩ := V.hold.at_ hi
  refine ⟨.ref p, h1, ?_⟩
  refine hj _ V q ?_
  rintro j v F1 H1 ⟨n, xs, hn, hxs, q1⟩ A1 V1 e
  cases e
  obtain ⟨o, h1', e, h2, h3⟩ := V1.hold.at_ hi
  obtain ⟨qa, vs, k1, k2, k3⟩ := h3.get hxs
  have ln : qs.length = xss.length := Paired.length h3
  refine ⟨p, _, j, .ref qa, rfl, rfl, SqL.of h2, ?_, ty_l k2, ?_⟩
  · unfold atI
    rw [List.length_map, ln, hn]
    show (qs.map L2.V.ref)[n]? = _
    rw [List.getElem?_map, k1]; rfl
  · refine h _ V1 q1 ?_
    intro x v F2 H2 q2 A2 V2 r2
    obtain ⟨o, h1'', e, h2, h3⟩ := V2.hold.at_ hi
    rw [h1] at h1''; cases h1''
    obtain ⟨qb, vs, k1', k2, k3⟩ := h3.get hxs
    rw [k1] at k1'; cases k1'
    have hqa : qa ∈ qs := List.mem_of_getElem? k1
    have hO : ∀ x ∈ p :: qs, x ∈ owns G := fun x hx => mem_owns hi hx
    have ndl : (p :: qs).Nodup := owns_nd hi V2.nd
    have nd' := List.nodup_cons.mp ndl
    refine ⟨qa, vs, v, rfl, rfl, k2, by rw [k3.len]; exact q2.1, w1 (n, xs ++ [x]) _ F2 _ q2.2 (A1.ff.trans A2.ff) ?_⟩
    have e : owns (G.set i (ownL p qs r (xss.set n (xs ++ [x])))) = owns G := owns_same hi rfl
    refine V2.step0 (M := [qa]) ⟨Ex.refl _, ex_mut (V2.on qa (hO qa (List.mem_cons_of_mem _ hqa))).1 V2.fh, fun x o hm hx => by rw [upd_ne (fun z => hm (by rw [z]; exact List.mem_cons_self))]; exact hx, fun x hx => ?_, fun _ h _ => h⟩ (fun z hz => by rw [List.mem_singleton.mp hz]; exact hO qa (List.mem_cons_of_mem _ hqa)) (fun z hz => by rw [← e]; exact hz) (by show (owns (G.set i (ownL p qs r (xss.set n (xs ++ [x]))))).Nodup; rw [e]; exact V2.nd) ?_
    · by_cases z : x = qa
      · subst z; rw [upd_same]; exact fun z => nomatch z
      · rw [upd_ne z]; exact hx
    · refine Holds.of (by rw [List.length_set]; exact V2.hold.len) fun m t o m1 m2 => ?_
      by_cases z : i = m
      · subst z
        rw [List.getElem?_set_self (List.getElem?_eq_some_iff.mp hi).1] at m1
        cases m1
        rw [h1] at m2; cases m2
        exact ⟨rfl, by
          have ne : p ≠ qa := fun z => nd'.1 (by rw [z]; exact hqa)
          rw [upd_ne ne]; exact h2, h3.set nd'.2 k1 (Dh.paired_app k3 (.cons r2 .nil))⟩
      · rw [List.getElem?_set_ne z] at m1
        obtain ⟨o', m3, m4⟩ := V2.hold.at_ m1
        rw [m2] at m3; cases m3
        exact t.up (Ex.refl _) (fun a ha u hu => by
          have ne : a ≠ qa := fun zz => owns_disj hi m1 z V2.nd (List.mem_cons_of_mem _ hqa) (by rw [← zz]; exact ha)
          rw [upd_ne ne]; exact hu) m4
/-- [[] for k in range(n)] -/
theorem owns_setL {s : Sl} : ∀ {G : List Sl} {i : Nat}, (∀ q ∈ s.ow, q ∉ owns G) → s.ow.Nodup → (owns G).Nodup → (∀ q ∈ owns (G.set i s), q ∈ s.ow ∨ q ∈ owns G) ∧ (owns (G.set i s)).Nodup
  | [], _, h, _, nd => ⟨fun q h => .inr h, nd⟩
  | x :: g, 0, h, ns, nd => by
    show (∀ q ∈ s.ow ++ owns g, _) ∧ (s.ow ++ owns g).Nodup
    refine ⟨fun q hq => (List.mem_append.mp hq).imp id (List.mem_append_right _), List.nodup_append.mpr ⟨ns, (List.nodup_append.mp nd).2.1, fun a ha c hc e => ?_⟩⟩
    subst e; exact h a ha (List.mem_append_right _ hc)
  | x :: g, i + 1, h, ns, nd => by
    obtain ⟨n1, n2, n3⟩ := List.nodup_append.mp nd
    obtain ⟨h1, h2⟩ := owns_setL (G := g) (i := i) (fun q hq z => h q hq (List.mem_append_right _ z)) ns n2
    refine ⟨fun q hq => ?_, List.nodup_append.mpr ⟨n1, h2, fun a ha c hc e => ?_⟩⟩
    · rcases List.mem_append.mp hq with z | z
      · exact .inr (List.mem_append_left _ z)
      · exact (h1 q z).imp id (List.mem_append_right _)
    · subst e
      rcases h1 a hc with z | z
      · exact h a z (List.mem_append_left _ ha)
      · exact n3 a ha a z rfl
theorem s_newLL {ta : TA} {i j : Nat} {r : R α} {f : (Int → Prop) → Prop} {g : Int → Pd τ ε ρ → Prop} {t : TS} (h : Ar b G ta (rOne rInt) f) (ht : ∀ (p : Addr) (qs : List Addr) n, (∀ q ∈ p :: qs, q ∉ b.M) → S b (G.set i (ownL p qs r (List.replicate n.toNat []))) t Gn Gl ro (g n)) :
    S b G (tSeq (tAsg (tLc (iRng1 ta) (gName j) tYes (tLst tNil) [j]) (gName i)) t) Gn Gl ro (fun d => f fun n => (-(2 ^ 62) ≤ n ∧ n < 2 ^ 62) ∧ n.toNat ≤ sizeLine ∧ g n d) := fun σ F H D d V q w1 w2 w3 w4 => by
  refine h _ V q ?_
  rintro n vs F1 H1 ⟨hb, hl, q1⟩ A1 V1 ⟨v, e, hv⟩
  cases hv
  subst e
  refine ⟨n, rfl, hb.1, hb.2, ?_⟩
  show RawC (Itr 0 n.toNat) (gName j) tYes (tLst tNil) [j] σ H1 (fun x H2 => t D (σ.set i (some x)) H2)
  refine raw_c walk_range fun Dl hD => ?_
  have hD0 : upd H1 Dl (.lst []) Dl = some (.lst []) := upd_same
  refine ⟨fun i H2 => ∃ qs : List Addr, qs.length = i ∧ H2 Dl = some (.lst (qs.map L2.V.ref)) ∧ (∀ q ∈ qs, H2 q = some (.lst []) ∧ H1 q = none) ∧ (Dl :: qs).Nodup ∧ (∀ a o, H1 a = some o → H2 a = some o), ⟨[], rfl, upd_same, fun q hq => absurd hq (by simp), by simp, fun a o ha => by rw [upd_ne (ne_of_none ha hD)]; exact ha⟩, fun _ _ _ _ => trivial, fun i x H2 H3 hi ⟨qs, l, h1, h2, nd, h3⟩ y => ?_, fun H2 ⟨qs, l, h1, h2, nd, h3⟩ => ?_⟩
  · obtain ⟨rfl, rfl⟩ := y
    refine ⟨wipe_set _ _ _, ?_⟩
    dsimp only [tYes]
    refine iteT ?_
    refine ⟨Nat.zero_le sizeLine, fun q hq => ?_⟩
    have ne : ∀ a ∈ Dl :: qs, a ≠ q := fun a ha z => by
      subst z
      rcases List.mem_cons.mp ha with e | e
      · rw [← e] at h1; rw [h1] at hq; cases hq
      · rw [(h2 a e).1] at hq; cases hq
    have nD := ne Dl List.mem_cons_self
    refine ⟨qs.map L2.V.ref, by rw [upd_ne nD]; exact h1, by rw [List.length_map]; omega, qs ++ [q], by simp [l], by rw [upd_same]; simp, fun a ha => ?_, ?_, fun a o ha => ?_⟩
    · rcases List.mem_append.mp ha with e | e
      · have n1 : a ≠ Dl := fun z => (List.nodup_cons.mp nd).1 (by rw [← z]; exact e)
        rw [upd_ne n1, upd_ne (ne a (List.mem_cons_of_mem _ e))]
        exact h2 a e
      · have e : a = q := List.mem_singleton.mp e
        rw [e, upd_ne nD.symm, upd_same]
        refine ⟨rfl, ?_⟩
        cases z : H1 q with
        | none => rfl
        | some u => rw [h3 q u z] at hq; cases hq
    · have : (Dl :: (qs ++ [q])) = (Dl :: qs) ++ [q] := rfl
      rw [this]
      exact List.nodup_append.mpr ⟨nd, by simp, fun a ha c hc z => ne a ha (by rw [z, List.mem_singleton.mp hc])⟩
    · have n1 : a ≠ Dl := ne_of_none ha hD
      have n2 : a ≠ q := fun z => by rw [z] at ha; rw [h3 q o ha] at hq; cases hq
      rw [upd_ne n1, upd_ne n2]; exact h3 a o ha
  · have lq : qs.length = n.toNat := l
    have new : ∀ q ∈ Dl :: qs, H1 q = none := fun q hq => by
      rcases List.mem_cons.mp hq with e | e
      · rw [e]; exact hD
      · exact (h2 q e).2
    have hbn : ∀ q ∈ Dl :: qs, b.H q = none := fun q hq => by
      cases e : b.H q with
      | none => rfl
      | some u => exact absurd (new q hq) (V1.kp q (by rw [e]; exact fun z => nomatch z))
    have nO : ∀ q ∈ Dl :: qs, q ∉ owns G := fun q hq z => V1.hold.live q z (new q hq)
    have nM : ∀ q ∈ Dl :: qs, q ∉ b.M := fun q hq z => b.ml q z (hbn q hq)
    have A2 : After F1 H1 [] F1 H2 := ⟨Ex.refl _, fun a o ha => h3 a o (V1.fh a o ha), fun a o _ ha => h3 a o ha, fun a ha => by
      cases z : H1 a with
      | none => exact absurd z ha
      | some u => rw [h3 a u z]; exact (fun z => nomatch z), fun _ h _ => h⟩
    have V2 := V1.step A2
    have e1 := A1.ff
    refine ht Dl qs n nM d ?_ q1 (fun y σ2 F2 H2 q2 e2 => w1 y σ2 F2 H2 q2 (e1.trans e2)) (fun y σ2 F2 H2 q2 e2 => w2 y σ2 F2 H2 q2 (e1.trans e2)) (fun y σ2 F2 H2 q2 e2 => w3 y σ2 F2 H2 q2 (e1.trans e2)) w4
    have LL : LLs r F1 H2 qs (List.replicate n.toNat []) := by
      rw [← lq]
      have k : ∀ q ∈ qs, H2 q = some (.lst []) := fun q hq => (h2 q hq).1
      clear lq l h1 h2 nd new hbn nO nM
      induction qs with
      | nil => exact .nil
      | cons q qs ih => exact .cons ⟨[], k q List.mem_cons_self, .nil⟩ (ih fun a ha => k a (List.mem_cons_of_mem _ ha))
    obtain ⟨o1, o2⟩ := owns_setL (s := ownL Dl qs r (List.replicate n.toNat [])) (G := G) (i := i) nO nd V2.nd
    refine ⟨V2.ff, V2.fh, V2.hh, V2.kp, V2.nf, V2.hold.set (s := ownL Dl qs r _) ⟨rfl, h1, LL⟩, o2, fun q hq => ?_⟩
    rcases o1 q hq with z | z
    · exact ⟨ex_none V1.fh (new q z), .inr (hbn q z)⟩
    · exact V2.on q z
end
end Mi
/-! Mir8 -/
set_option Elab.async false
set_option linter.all false
set_option maxRecDepth 100000
set_option maxHeartbeats 4000000
/-! == and in of data of any depth -/
namespace Mi
open PySem PySem.Spec L2 Dh
open _root_.Evl (Ex)
mutual
theorem dp_ex {K : PySem.W.Frag} {H H' : Hp} (e : Ex H H') : ∀ {v : V} {d : PyData}, Dp K H v d → Dp K H' v d
  | _, _, .non => .non
  | _, _, .bl b => .bl b
  | _, _, .int i => .int i
  | _, _, .str x => .str x
  | _, _, .lst h t => .lst (_root_.Evl.ex_l e h) (dpa_ex e t)
  | _, _, .tup h t => .tup (_root_.Evl.ex_t e h) (dpa_ex e t)
theorem dpa_ex {K : PySem.W.Frag} {H H' : Hp} (e : Ex H H') : ∀ {vs : List V} {ds : List PyData}, DpAll K H vs ds → DpAll K H' vs ds
  | _, _, .nil => .nil
  | _, _, .cons h t => .cons (dp_ex e h) (dpa_ex e t)
end
/-- the data behind a value -/
structure Da (K : PySem.W.Frag) {α : Type} [DecidableEq α] (r : R α) where
  dat : α → PyData
  ok : α → Prop
  n : Nat
  dp : ∀ {a v F}, r.h a v F → Dp K F v (dat a)
  can : ∀ {a}, ok a → (dat a).canLay0 = true
  dep : ∀ a, (dat a).depth ≤ n
  eq : ∀ a c, PyData.eqv (dat a) (dat c) = decide (a = c)
structure DaI (K : PySem.W.Frag) {α : Type} [DecidableEq α] (s : RI α) where
  dat : α → List PyData
  ok : α → Prop
  n : Nat
  dp : ∀ {a vs F}, s.h a vs F → DpAll K F vs (dat a)
  can : ∀ {a}, ok a → PyData.canLayAll0 (dat a) = true
  dep : ∀ a, PyData.depthAll (dat a) ≤ n
  eq : ∀ a c, PyData.eqvAll (dat a) (dat c) = decide (a = c)
section
variable {K : PySem.W.Frag} {α β : Type} [DecidableEq α] [DecidableEq β]
def daInt : Da K rInt := ⟨.int, fun _ => True, 0, fun h => by cases h; exact .int _, fun _ => rfl, fun _ => Nat.le_refl _, fun a c => by show ((a : Int) == c) = _; rw [Bool.beq_eq_decide_eq]⟩
def daBl : Da K rBl := ⟨.bool, fun _ => True, 0, fun h => by cases h; exact .bl _, fun _ => rfl, fun _ => Nat.le_refl _, fun a c => by cases a <;> cases c <;> rfl⟩
def daStr : Da K rStr := ⟨.str, fun x => PyData.strOk x = true, 0, fun h => by cases h; exact .str _, fun h => h, fun _ => Nat.le_refl _, fun a c => by show ((a : Str) == c) = _; rw [Bool.beq_eq_decide_eq]⟩
def daLit {z : Str} (hz : PyData.strOk z = true) : Da K (rLit z) := ⟨fun _ => .str z, fun _ => True, 0, fun h => by cases h; exact .str _, fun _ => hz, fun _ => Nat.le_refl _, fun a c => by
  show ((z : Str) == z) = _
  rw [beq_self_eq_true, decide_eq_true rfl]⟩
theorem dall {r : R α} (d : Da K r) {F : Hp} {xs : List α} {vs : List V} (h : All r F xs vs) : DpAll K F vs (xs.map d.dat) := by
  induction h with
  | nil => exact .nil
  | cons r t ih => exact .cons (d.dp r) ih
theorem eqall {r : R α} (d : Da K r) : ∀ xs ys : List α, PyData.eqvAll (xs.map d.dat) (ys.map d.dat) = decide (xs = ys)
  | [], [] => rfl
  | [], _ :: _ => rfl
  | _ :: _, [] => rfl
  | x :: xs, y :: ys => by
    show (PyData.eqv (d.dat x) (d.dat y) && PyData.eqvAll (xs.map d.dat) (ys.map d.dat)) = _
    rw [d.eq, eqall d xs ys]
    by_cases h : x = y
    · by_cases h2 : xs = ys
      · simp [h, h2]
      · simp [h, h2]
    · simp [h]
theorem canall {r : R α} (d : Da K r) : ∀ {xs : List α}, (∀ x ∈ xs, d.ok x) → PyData.canLayAll0 (xs.map d.dat) = true
  | [], _ => rfl
  | x :: xs, h => by
    show (PyData.canLay0 (d.dat x) && PyData.canLayAll0 (xs.map d.dat)) = true
    rw [d.can (h x List.mem_cons_self), canall d fun y hy => h y (List.mem_cons_of_mem _ hy)]; rfl
theorem depall {r : R α} (d : Da K r) : ∀ {xs : List α}, PyData.depthAll (xs.map d.dat) ≤ d.n
  | [] => Nat.zero_le _
  | x :: xs => by
    show max (PyData.depth (d.dat x)) (PyData.depthAll (xs.map d.dat)) ≤ d.n
    have := d.dep x
    have := depall d (xs := xs)
    omega
def daLst {r : R α} (d : Da K r) : Da K (rLst r) := ⟨fun xs => .list (xs.map d.dat), fun xs => ∀ x ∈ xs, d.ok x, d.n + 1, fun ⟨p, vs, e, h1, h2⟩ => by subst e; exact .lst (SqL.of h1) (dall d h2),
  fun h => canall d h, fun xs => by show PyData.depthAll (xs.map d.dat) + 1 ≤ _; have := depall d (xs := xs); omega, fun a c => eqall d a c⟩
def daTup {r : R α} (d : Da K r) : Da K (rTup K r) := ⟨fun xs => .tuple (xs.map d.dat), fun xs => ∀ x ∈ xs, d.ok x, d.n + 1, fun ⟨p, vs, e, h1, h2⟩ => by subst e; exact .tup h1 (dall d h2),
  fun h => canall d h, fun xs => by show PyData.depthAll (xs.map d.dat) + 1 ≤ _; have := depall d (xs := xs); omega, fun a c => eqall d a c⟩
def daOne {r : R α} (d : Da K r) : DaI K (rOne r) := ⟨fun a => [d.dat a], d.ok, d.n, fun ⟨v, e, h⟩ => by subst e; exact .cons (d.dp h) .nil, fun h => by
  show (PyData.canLay0 (d.dat _) && true) = true
  rw [d.can h]; rfl, fun a => by show max (PyData.depth (d.dat a)) 0 ≤ _; have := d.dep a; omega, fun a c => by
  show (PyData.eqv (d.dat a) (d.dat c) && true) = _
  rw [d.eq, Bool.and_true]⟩
def daCons {r : R α} {s : RI β} (d : Da K r) (t : DaI K s) : DaI K (rCons r s) := ⟨fun a => d.dat a.1 :: t.dat a.2, fun a => d.ok a.1 ∧ t.ok a.2, max d.n t.n, fun ⟨v, ws, e, h1, h2⟩ => by subst e; exact .cons (d.dp h1) (t.dp h2), fun h => by
  show (PyData.canLay0 (d.dat _) && PyData.canLayAll0 (t.dat _)) = true
  rw [d.can h.1, t.can h.2]; rfl, fun a => by
  show max (PyData.depth (d.dat a.1)) (PyData.depthAll (t.dat a.2)) ≤ _
  have := d.dep a.1; have := t.dep a.2; omega, fun a c => by
  show (PyData.eqv (d.dat a.1) (d.dat c.1) && PyData.eqvAll (t.dat a.2) (t.dat c.2)) = _
  rw [d.eq, t.eq]
  by_cases h1 : a.1 = c.1
  · by_cases h2 : a.2 = c.2
    · have : a = c := Prod.ext h1 h2
      simp [h1, h2, this]
    · have : a ≠ c := fun z => h2 (by rw [z])
      simp [h2, this]
  · have : a ≠ c := fun z => h1 (by rw [z])
    simp [h1, this]⟩
def daTp {s : RI α} (t : DaI K s) : Da K (rTp K s) := ⟨fun a => .tuple (t.dat a), t.ok, t.n + 1, fun ⟨p, vs, e, h1, h2⟩ => by subst e; exact .tup h1 (t.dp h2), fun h => t.can h, fun a => by
  show PyData.depthAll (t.dat a) + 1 ≤ _
  have := t.dep a; omega, fun a c => t.eq a c⟩
theorem Da.shaped {r : R α} (d : Da K r) (hn : d.n ≤ 64) {a : α} (h : d.ok a) : SeqAt.shaped (d.dat a) = true := by
  unfold SeqAt.shaped
  rw [d.can h, decide_eq_true (by have := d.dep a; omega)]; rfl
theorem o_eqD {r : R α} (d : Da K r) (hn : d.n ≤ 64) : Op2 (rEqD K) r r rBl (fun x y k => d.ok x ∧ d.ok y ∧ k (decide (x = y))) := fun a c v w F H Q k h1 h2 e ⟨o1, o2, q⟩ w' =>
  ⟨_, _, dp_ex e (d.dp h1), dp_ex e (d.dp h2), d.shaped hn o1, d.shaped hn o2, w' _ _ _ _ q (.refl e _) (by rw [d.eq]; rfl)⟩
theorem o_neD {r : R α} (d : Da K r) (hn : d.n ≤ 64) : Op2 (rNeD K) r r rBl (fun x y k => d.ok x ∧ d.ok y ∧ k (!decide (x = y))) := fun a c v w F H Q k h1 h2 e ⟨o1, o2, q⟩ w' =>
  ⟨_, _, dp_ex e (d.dp h1), dp_ex e (d.dp h2), d.shaped hn o1, d.shaped hn o2, w' _ _ _ _ q (.refl e _) (by rw [d.eq]; rfl)⟩
theorem any_dat {r : R α} (d : Da K r) {a : α} : ∀ xs : List α, ((xs.map d.dat).any fun z => PyData.eqv z (d.dat a)) = decide (a ∈ xs)
  | [] => rfl
  | x :: xs => by
    rw [List.map_cons, List.any_cons, any_dat d xs, d.eq]
    simp only [List.mem_cons, Bool.decide_or]
    congr 1
    exact decide_eq_decide.mpr ⟨fun h => h.symm, fun h => h.symm⟩
theorem o_inD {r : R α} (d : Da K r) (hn : d.n ≤ 63) : Op2 (rInD K) r (rLst r) rBl (fun x y k => d.ok x ∧ (∀ z ∈ y, d.ok z) ∧ k (decide (x ∈ y))) := fun a c v w F H Q k h1 h2 e ⟨o1, o2, q⟩ w' =>
  ⟨_, _, dp_ex e (d.dp h1), dp_ex e ((daLst d).dp h2), d.shaped (by omega) o1, (daLst d).shaped (by show d.n + 1 ≤ 64; omega) o2, w' _ _ _ _ q (.refl e _) (by rw [any_dat]; rfl)⟩
theorem o_notInD {r : R α} (d : Da K r) (hn : d.n ≤ 63) : Op2 (rNotInD K) r (rLst r) rBl (fun x y k => d.ok x ∧ (∀ z ∈ y, d.ok z) ∧ k (!decide (x ∈ y))) := fun a c v w F H Q k h1 h2 e ⟨o1, o2, q⟩ w' =>
  ⟨_, _, dp_ex e (d.dp h1), dp_ex e ((daLst d).dp h2), d.shaped (by omega) o1, (daLst d).shaped (by show d.n + 1 ≤ 64; omega) o2, w' _ _ _ _ q (.refl e _) (by rw [any_dat]; rfl)⟩
end
end Mi
/-! Mir9 -/
set_option Elab.async false
set_option linter.all false
set_option maxRecDepth 100000
set_option maxHeartbeats 4000000
/-! raise and try -/
namespace Mi
open PySem PySem.Spec L2 Dh
open _root_.Evl (Ex)
theorem un65 {A : Around} {k : Nat} (hr : Room k A) : A.units + 65 < cLine := by have := hr.un; omega
/-! ### errors -/
structure Xp (ε : Type) where
  h : ε → Value → Option Addr → Hp → Prop
  ex : ∀ {e cls d F F'}, Ex F F' → h e cls d F → h e cls d F'
section
variable {K : PySem.W.Frag} {b : Bs} {G Gx : List Sl} {α β γ δ τ τ' ρ ε ε' θ : Type} {Gn : τ → List Sl} {Gs : τ' → List Sl} {Gl : θ → List Sl} {ro : ρ → V → Hp → Hp → Prop} {σ : L2.St} {F H F' H' : Hp}
/-- an own class with one field -/
def x1 (C : Addr) (n : Str) (r : R α) : Xp α := ⟨fun a cls d F => cls = .ref C ∧ ∃ dd v, d = some dd ∧ F dd = some (.xd [(n, v)]) ∧ r.h a v F, fun e ⟨h1, dd, v, h2, h3, h4⟩ => ⟨h1, dd, v, h2, e _ _ h3, r.ex e h4⟩⟩
def xOr (x : Xp ε) (y : Xp δ) : Xp (ε ⊕ δ) := ⟨fun e cls d F => match e with | .inl a => x.h a cls d F | .inr c => y.h c cls d F, fun {e _ _ _ _} q h => by
  cases e with
  | inl a => exact x.ex q h
  | inr c => exact y.ex q h⟩
def xNo : Xp Empty := ⟨fun e _ _ _ => e.elim, fun {e} _ _ => e.elim⟩
def XSub (x : Xp ε) (y : Xp δ) (j : ε → δ) : Prop := ∀ e cls d F, x.h e cls d F → y.h (j e) cls d F
theorem xs_id {x : Xp ε} : XSub x x (fun e => e) := fun _ _ _ _ h => h
theorem xs_l {x : Xp ε} {y : Xp δ} : XSub x (xOr x y) Sum.inl := fun _ _ _ _ h => h
theorem xs_r {x : Xp ε} {y : Xp δ} : XSub y (xOr x y) Sum.inr := fun _ _ _ _ h => h
theorem xs_tr {x : Xp ε} {y : Xp δ} {z : Xp γ} {j : ε → δ} {k : δ → γ} (h1 : XSub x y j) (h2 : XSub y z k) : XSub x z (fun e => k (j e)) := fun _ _ _ _ h => h2 _ _ _ _ (h1 _ _ _ _ h)
/-- which of them isinstance takes -/
def XIs (K : PySem.W.Frag) (x : Xp ε) (cv : Value) (is : ε → Bool) : Prop := ∀ e cls d F, x.h e cls d F → ∃ (D dd : Addr) (fs : List (Str × V)), ExcC K D ∧ cls = .ref D ∧ d = some dd ∧ F dd = some (.xd fs) ∧ PySem.W.kitOne K (.ref D) cv = some (is e)
theorem xi_1 {C : Addr} {n : Str} {r : R α} {cv : Value} {t : Bool} (X : ExcC K C) (h : PySem.W.kitOne K (.ref C) cv = some t) : XIs K (x1 C n r) cv (fun _ => t) := fun _ _ _ _ ⟨h1, dd, v, h2, h3, _⟩ => ⟨C, dd, _, X, h1, h2, h3, h⟩
theorem xi_or {x : Xp ε} {y : Xp δ} {cv : Value} {i : ε → Bool} {j : δ → Bool} (h1 : XIs K x cv i) (h2 : XIs K y cv j) : XIs K (xOr x y) cv (Sum.elim i j) := fun e cls d F h => by
  cases e with
  | inl a => exact h1 a cls d F h
  | inr c => exact h2 c cls d F h
/-- which of them a clause catches -/
def XCa (K : PySem.W.Frag) (x : Xp ε) (c : Value) (is : ε → Bool) : Prop := ∀ e cls d F, x.h e cls d F → PySem.W.exmOne K cls c = some (is e)
theorem xc_1 {C : Addr} {n : Str} {r : R α} {c : Value} {t : Bool} (h : PySem.W.exmOne K (.ref C) c = some t) : XCa K (x1 C n r) c (fun _ => t) := fun _ _ _ _ ⟨h1, _⟩ => by rw [h1]; exact h
theorem xc_or {x : Xp ε} {y : Xp δ} {c : Value} {i : ε → Bool} {j : δ → Bool} (h1 : XCa K x c i) (h2 : XCa K y c j) : XCa K (xOr x y) c (Sum.elim i j) := fun e cls d F h => by
  cases e with
  | inl a => exact h1 a cls d F h
  | inr e => exact h2 e cls d F h
/-- their field n, where they have it -/
def XFd (K : PySem.W.Frag) (x : Xp ε) (n : Str) (r : R β) (g : ε → Option β) : Prop := ∀ e cls d F y, x.h e cls d F → g e = some y → ∃ (D dd : Addr) (fs : List (Str × V)) (v : V), XfC K D ∧ PySem.W.findIn K (.ref D) n = some none ∧ cls = .ref D ∧ d = some dd ∧ F dd = some (.xd fs) ∧ fs.lookup n = some v ∧ r.h y v F
theorem xf_1 {C : Addr} {n : Str} {r : R α} (X : XfC K C) (h : PySem.W.findIn K (.ref C) n = some none) : XFd K (x1 C n r) n r some := fun e cls d F y ⟨h1, dd, v, h2, h3, h4⟩ q => by
  cases q
  exact ⟨C, dd, _, v, X, h, h1, h2, h3, by rw [List.lookup_cons, beq_self_eq_true], h4⟩
theorem xf_no {x : Xp ε} {n : Str} {r : R β} : XFd K x n r (fun _ => none) := fun e cls d F y _ q => by cases q
theorem xf_or {x : Xp ε} {y : Xp δ} {n : Str} {r : R β} {i : ε → Option β} {j : δ → Option β} (h1 : XFd K x n r i) (h2 : XFd K y n r j) : XFd K (xOr x y) n r (Sum.elim i j) := fun e cls d F z h q => by
  cases e with
  | inl a => exact h1 a cls d F z h q
  | inr c => exact h2 c cls d F z h q
/-! ### promises of defs that may let errors out -/
def spX (s : RI α) (r : R β) (x : Xp ε) (g : α → (β → Prop) → (ε → Prop) → Prop) : Sp := fun vs H Q E => ∃ (a : α) (F : Hp) (k : β → Prop) (kx : ε → Prop), Ex F H ∧ s.h a vs F ∧ g a k kx ∧
  (∀ y v F' H', k y → After F H [] F' H' → r.h y v F' → Q v H') ∧ (∀ e cls d F' H', kx e → After F H [] F' H' → x.h e cls d F' → E cls d H')
def spRX (c : C γ) (s : RI α) (r : R β) (x : Xp ε) (g : γ → α → (β → Prop) → (ε → Prop) → Prop) : Sp := fun vs H Q E => ∃ (p : Addr) (ws : List V) (y : γ) (a : α) (F : Hp) (k : β → Prop) (kx : ε → Prop), vs = .ref p :: ws ∧ F p = none ∧ CAt c y F H p ∧ Ex F H ∧ s.h a ws F ∧ g y a k kx ∧
  (∀ z v F' H', k z → After F H [p] F' H' → CAt c y F' H' p → r.h z v F' → Q v H') ∧ (∀ e cls d F' H', kx e → After F H [p] F' H' → CAt c y F' H' p → x.h e cls d F' → E cls d H')
theorem spX_len {s : RI α} {r : R β} {x : Xp ε} {g : α → (β → Prop) → (ε → Prop) → Prop} {vs : List V} {Q : VK} {Ek : XK} (h : spX s r x g vs H Q Ek) : vs.length = s.n := by
  obtain ⟨a, F, k, kx, _, hs, _⟩ := h; exact s.ln hs
theorem spRX_len {c : C γ} {s : RI α} {r : R β} {x : Xp ε} {g : γ → α → (β → Prop) → (ε → Prop) → Prop} {vs : List V} {Q : VK} {Ek : XK} (h : spRX c s r x g vs H Q Ek) : vs.length = s.n + 1 := by
  obtain ⟨p, ws, y, a, F, k, kx, rfl, _, _, _, hs, _⟩ := h; rw [List.length_cons, s.ln hs]
/-- what the place around takes of errors -/
def Out (b : Bs) (gx : List Sl → Prop) (x : Xp ε) (kx : ε → Prop) (W : WX) : Prop := ∀ ⦃G : List Sl⦄ ⦃e : ε⦄ ⦃cls : Value⦄ ⦃d : Option Addr⦄ ⦃σ : L2.St⦄ ⦃F H : Hp⦄, gx G → kx e → Env b G σ F H → x.h e cls d F → W cls d σ H
theorem out_no {gx : List Sl → Prop} {x : Xp ε} {W : WX} : Out b gx x (fun _ => False) W := fun _ _ _ _ _ _ _ _ h => h.elim
variable {gx : List Sl → Prop} {x : Xp ε} {kx : ε → Prop} {W : WX} {x' : Xp ε'} {j : ε' → ε}
theorem e_callX {s : RI α} {r : R β} {g : α → (β → Prop) → (ε' → Prop) → Prop} {ta : TA} {f : (α → Prop) → Prop} (O : Out b gx x kx W) (hg : gx G) (hj : XSub x' x j) (h : Ar b G ta s f) :
    E b G (tCallS (spX s r x' g) (WE W) ta) r (fun k => f fun a => g a k fun e => kx (j e)) := fun σ F H Q k V q w => by
  refine h _ V q ?_
  intro a vs F1 H1 q1 A1 V1 r1
  exact ⟨a, F1, k, fun e => kx (j e), V1.fh, r1, q1, fun y v F2 H2 q2 A2 r2 => w y v F2 H2 q2 (A1.trans (A2.mono fun _ h => nomatch h)) (V1.step A2) r2, fun e cls d F2 H2 q2 A2 hx => O hg q2 (V1.step A2) (hj _ _ _ _ hx)⟩
theorem e_callX0 {s : RI α} {r : R β} {g : α → (β → Prop) → (ε' → Prop) → Prop} {Ek : XK} {ta : TA} {f : (α → Prop) → Prop} (h : Ar b G ta s f) :
    E b G (tCall (spX s r x' g) [] Ek ta) r (fun k => f fun a => g a k fun _ => False) := fun σ F H Q k V q w => by
  refine h _ V q ?_
  intro a vs F1 H1 q1 A1 V1 r1
  show spX s r x' g (vs ++ []) H1 _ _
  rw [List.append_nil]
  exact ⟨a, F1, k, fun _ => False, V1.fh, r1, q1, fun y v F2 H2 q2 A2 r2 => w y v F2 H2 q2 (A1.trans (A2.mono fun _ h => nomatch h)) (V1.step A2) r2, fun e cls d F2 H2 q2 => q2.elim⟩
theorem Env.back {c : C γ} {y : γ} {i : Nat} {p : Addr} (V : Env b G σ F H) (hi : G[i]? = some (own p c y)) (A : After F H [p] F' H') (B : CAt c y F' H' p) : Env b G σ F' H' := by
  have := V.cNew hi A B
  rw [set_self hi] at this; exact this
theorem e_methX {c : C γ} {y : γ} {i : Nat} {p Cl : Addr} {m : Str} {s : RI α} {r : R β} {g : γ → α → (β → Prop) → (ε' → Prop) → Prop} {ta : TA} {f : (α → Prop) → Prop} (O : Out b gx x kx W) (hg : gx G) (hj : XSub x' x j) (hi : G[i]? = some (own p c y))
    (hc : ∀ y u F, c.h y u F → ∃ dx fs, u = .ins Cl dx fs ∧ fs.lookup m = none) (h : Ar b G ta s f) :
    E b G (tMethS Cl m (spRX c s r x' g) (WE W) (tVar i) ta) r (fun k => f fun a => g y a k fun e => kx (j e)) := fun σ F H Q k V q w => by
  obtain ⟨o, h1, rfl, u, hu, hcu⟩ := V.hold.at_ hi
  obtain ⟨dx, fs, rfl, hl⟩ := hc _ _ _ hcu
  refine ⟨.ref p, h1, p, dx, fs, rfl, hu, hl, ?_⟩
  refine h _ V q ?_
  intro a vs F1 H1 q1 A1 V1 r1
  obtain ⟨f1, B1⟩ := V1.cAt hi
  have hp : p ∈ owns G := mem_owns hi List.mem_cons_self
  exact ⟨p, vs, y, a, F1, k, fun e => kx (j e), rfl, f1, B1, V1.fh, r1, q1, fun z v F2 H2 q2 A2 B2 r2 => w z v F2 H2 q2 (A1.trans (A2.mono fun q hq => by rw [List.mem_singleton.mp hq]; exact hp)) (V1.back hi A2 B2) r2,
    fun e cls d F2 H2 q2 A2 B2 hx => O hg q2 (V1.back hi A2 B2) (hj _ _ _ _ hx)⟩
theorem e_methX0 {c : C γ} {y : γ} {i : Nat} {p Cl : Addr} {m : Str} {s : RI α} {r : R β} {g : γ → α → (β → Prop) → (ε' → Prop) → Prop} {Ek : XK} {ta : TA} {f : (α → Prop) → Prop} (hi : G[i]? = some (own p c y))
    (hc : ∀ y u F, c.h y u F → ∃ dx fs, u = .ins Cl dx fs ∧ fs.lookup m = none) (h : Ar b G ta s f) :
    E b G (tMeth Cl m (spRX c s r x' g) [] Ek (tVar i) ta) r (fun k => f fun a => g y a k fun _ => False) := fun σ F H Q k V q w => by
  obtain ⟨o, h1, rfl, u, hu, hcu⟩ := V.hold.at_ hi
  obtain ⟨dx, fs, rfl, hl⟩ := hc _ _ _ hcu
  refine ⟨.ref p, h1, p, dx, fs, rfl, hu, hl, ?_⟩
  refine h _ V q ?_
  intro a vs F1 H1 q1 A1 V1 r1
  show spRX c s r x' g (.ref p :: (vs ++ [])) H1 _ _
  rw [List.append_nil]
  obtain ⟨f1, B1⟩ := V1.cAt hi
  have hp : p ∈ owns G := mem_owns hi List.mem_cons_self
  exact ⟨p, vs, y, a, F1, k, fun _ => False, rfl, f1, B1, V1.fh, r1, q1, fun z v F2 H2 q2 A2 B2 r2 => w z v F2 H2 q2 (A1.trans (A2.mono fun q hq => by rw [List.mem_singleton.mp hq]; exact hp)) (V1.back hi A2 B2) r2,
    fun e cls d F2 H2 q2 => q2.elim⟩
theorem s_retNP : S b G tRetN Gn Gl (fun (y : Unit) v F _ => rNon.h y v F) (fun d => d.rt ()) := s_retN (g := ()) fun _ _ _ _ => rfl
theorem flat_bl : Flat rBl := ⟨fun h => by cases h; rfl, fun {a v F c u F'} h1 h2 => by
  cases h1; cases h2
  cases a <;> cases c <;> rfl⟩
/-! ### raise -/
/-- C's __init__: self.n = the argument -/
def spE (C : Addr) (n : Str) : Sp := fun vs H Q _ => ∃ (a : Addr) (v : V), vs = [.ref a, v] ∧ H a = some (exo a C none) ∧ ∀ d, H d = none → d ≠ a → Q .non (upd (upd H d (exd d [(n, v)])) a (exo a C (some d)))
def tRaise (t : L2.St → Hp → XK → Prop) (W : WX) : TS := fun _ σ H => t σ H fun cls d H' => W cls d σ H'
theorem ps_raiseT {X : Cx} {W : WX} {e : Expr} {t : L2.St → Hp → XK → Prop} {pos : Pos} (hc : X.calm = true) (tk : L2N.Takes X W) (he : L2N.PMk X e t) : PS X (.Raise (some e) none pos) (tRaise t W) := L2N.ps_raise hc tk he
theorem s_raise {te : TE} {r : R α} {f : (α → Prop) → Prop} {C : Addr} {n : Str} {i : α → ε} (O : Out b gx x kx W) (hg : gx G) (hj : XSub (x1 C n r) x i) (h : E b G te r f) :
    S b G (tRaise (tMkO C (spE C n) [] (tCons te tNil)) W) Gn Gl ro (fun _ => f fun a => kx (i a)) := fun σ F H D d V q _ _ _ _ => by
  refine h _ V q ?_
  intro y v F1 H1 q1 A1 V1 r1
  refine ⟨(by show 1 ≤ 1000; decide), fun a ha => ⟨a, v, rfl, upd_same, fun dx hd da => ⟨rfl, dx, [(n, v)], upd_same, upd_oth da upd_same, ?_, ?_⟩⟩⟩
  · rw [upd_ne da] at hd; exact hd
  · rw [upd_ne da] at hd
    have e1 : Ex F1 (upd F1 dx (.xd [(n, v)])) := Ex.new (ex_none V1.fh hd)
    refine O hg q1 (V1.step ⟨e1, fun z o hz => ?_, fun z o _ hz => ?_, fun z hz => ?_, fun z h1 h2 => ?_⟩) (hj _ _ _ _ ⟨rfl, dx, v, rfl, upd_same, r.ex e1 r1⟩)
    · by_cases zd : z = dx
      · subst zd; rw [upd_same] at hz ⊢; exact hz
      · rw [upd_ne zd] at hz ⊢
        have hz' := V1.fh _ _ hz
        have za : z ≠ a := ne_of_none hz' ha
        rw [del_ne za, upd_ne za, upd_ne zd, upd_ne za]; exact hz'
    · have zd : z ≠ dx := ne_of_none hz hd
      have za : z ≠ a := ne_of_none hz ha
      rw [upd_ne zd, del_ne za, upd_ne za, upd_ne zd, upd_ne za]; exact hz
    · have zd : z ≠ dx := fun t => hz (by rw [t]; exact hd)
      have za : z ≠ a := fun t => hz (by rw [t]; exact ha)
      rw [upd_ne zd, del_ne za, upd_ne za, upd_ne zd, upd_ne za]; exact hz
    · have zd : z ≠ dx := fun t => h2 (by rw [t]; exact hd)
      rw [upd_ne zd]; exact h1
/-! ### try -/
/-- the caught error in its slot -/
def rErr (x : Xp ε) (a : Addr) (cls : Value) (d : Option Addr) : R ε := ⟨fun e v F => v = .ref a ∧ x.h e cls d F, fun q ⟨h1, h2⟩ => ⟨h1, x.ex q h2⟩⟩
def Bs.at_ (b : Bs) (F : Hp) : Bs := ⟨F, b.H, b.M, b.ml⟩
theorem Env.reb (V : Env b G σ F H) : Env (b.at_ F) G σ F H := ⟨Ex.refl F, V.fh, V.hh, V.kp, fun a h _ => h, V.hold, V.nd, V.on⟩
theorem After.unb {F0 : Hp} (V : Env b G σ F H) (A : After F b.H b.M F' H') : After b.F b.H b.M F' H' := ⟨V.ff.trans A.ff, A.fh, A.hh, A.kp, fun a h1 h2 => A.nf a (V.nf a h1 h2) h2⟩
theorem Env.unb {G' : List Sl} {σ' : L2.St} (V : Env b G σ F H) (V' : Env (b.at_ F) G' σ' F' H') : Env b G' σ' F' H' := ⟨V.ff.trans V'.ff, V'.fh, V'.hh, V'.kp, fun a h1 h2 => V'.nf a (V.nf a h1 h2) h2, V'.hold, V'.nd, V'.on⟩
def tTry (K : PySem.W.Frag) (c : Value) (i : Nat) (tb : WX → TS) (ts : Addr → Value → Option Addr → TS) (Wout : WX) : TS := fun D σ H => tb (wAs K c i ts Wout D) D σ H
theorem ps_tryT {X : Cx} {x n : Str} {c : Value} {i : Nat} {body suite : List Stmt} {b₀ : Stmt} {np pos pos' : Pos} {tb : WX → TS} {ts : Addr → Value → Option Addr → TS} {Wout : WX} (hs : X.stack = X.env :: X.outer) (hf : X.env.frame = some X.env.locals) (hN : X.N.Nodup) (hi : X.N[i]? = some n) (hln : X.env.kindOf n = some .local) (hc : Names X x c) (tk : L2N.Takes X Wout)
    (hb : ∀ (W : WX) (pn : List (Addr × Obj)) (xe : Value → Shared → Prop), L2N.Takes (X.tr pn xe) W → PassesOwn (model X.prog X.w) X.A X.env xe → PSs (X.tr pn xe) body (tb W))
    (hsu : ∀ (a : Addr) (oe : Obj) (cls : Value) (d : Option Addr) (pn : List (Addr × Obj)), L2N.Zn cls d oe → (∃ vs, oe.data = .fields vs) → PSs (X.suite a ((a, oe) :: pn)) (b₀ :: suite) (ts a cls d)) :
    PS X (.Try body [.ExceptHandler (some (.Name x np)) (some n) (b₀ :: suite) pos'] [] [] pos) (tTry X.K c i tb ts Wout) := L2N.ps_try_as hs hf hN hi hln hc tk hb hsu
theorem s_try {tb : WX → TS} {ts : Addr → Value → Option Addr → TS} {c : Value} {i : Nat} {is : ε → Bool} {fb : (ε → Prop) → Pd τ θ ρ → Prop} {fs : ε → Pd τ' θ ρ → Prop} {x0 : Xp δ} {k0 : δ → Prop} {Wout : WX} {j0 : ε → δ} {jn : τ' → τ}
    (hb : ∀ b' : Bs, b'.M = b.M → ∀ (W : WX) (kx : ε → Prop), Out b' (fun G' => Sub G' Gx) x kx W → S b' G (tb W) Gn Gl ro (fb kx)) (hm : XCa K x c is)
    (hs : ∀ e a cls d, is e = true → S b (Gx.set i (val (rErr x a cls d) e)) (ts a cls d) Gs Gl ro (fs e)) (hw : ∀ y, Sub ((Gs y).set i any) (Gn (jn y))) (hl : ∀ y, Sub ((Gl y).set i any) (Gl y))
    (O : Out b gx x0 k0 Wout) (hg : gx Gx) (hj : ∀ e, is e = false → ∀ cls d F, x.h e cls d F → x0.h (j0 e) cls d F) :
    S b G (tTry K c i tb ts Wout) Gn Gl ro (fun d => fb (fun e => (is e = true → fs e ⟨fun y => d.nx (jn y), d.ct, d.bk, d.rt⟩) ∧ (is e = false → k0 (j0 e))) d) := fun σ F H D d V q w1 w2 w3 w4 => by
  have hO : Out (b.at_ F) (fun G' => Sub G' Gx) x (fun e => (is e = true → fs e ⟨fun y => d.nx (jn y), d.ct, d.bk, d.rt⟩) ∧ (is e = false → k0 (j0 e))) (wAs K c i ts Wout D) := fun G' e cls dd σ' F1 H1 hsub ke V1 hx => by
    have V2 : Env b Gx σ' F1 H1 := (V.unb V1).sub hsub
    have e1 : Ex F F1 := V1.ff
    refine ⟨is e, hm e cls dd F1 hx, fun hi a ha => ?_, fun hi => O hg (ke.2 hi) V2 (hj e hi cls dd F1 hx)⟩
    refine hs e a cls dd hi ⟨fun y => d.nx (jn y), d.ct, d.bk, d.rt⟩ (V2.set (s := val (rErr x a cls dd) e) (o := some (.ref a)) ⟨_, rfl, rfl, hx⟩ rfl) (ke.1 hi) ?_ ?_ ?_ w4
    · exact fun y σ2 F2 H2 q2 e2 V3 => w1 (jn y) _ F2 H2 q2 (e1.trans e2) ((V3.set (i := i) (s := any) (o := none) trivial rfl).sub (hw y))
    · exact fun y σ2 F2 H2 q2 e2 V3 => w2 y _ F2 H2 q2 (e1.trans e2) ((V3.set (i := i) (s := any) (o := none) trivial rfl).sub (hl y))
    · exact fun y σ2 F2 H2 q2 e2 V3 => w3 y _ F2 H2 q2 (e1.trans e2) ((V3.set (i := i) (s := any) (o := none) trivial rfl).sub (hl y))
  exact hb (b.at_ F) rfl _ _ hO d V.reb q (fun y σ2 F2 H2 q2 e2 V3 => w1 y σ2 F2 H2 q2 e2 (V.unb V3)) (fun y σ2 F2 H2 q2 e2 V3 => w2 y σ2 F2 H2 q2 e2 (V.unb V3)) (fun y σ2 F2 H2 q2 e2 V3 => w3 y σ2 F2 H2 q2 e2 (V.unb V3)) (fun y v F2 H2 q2 A r => w4 y v F2 H2 q2 (A.unb (F0 := F) V) r)
/-! ### asked of the error -/
def rIsG (K : PySem.W.Frag) (cls : Value) (d : Option Addr) (a : Addr) : List V → Hp → VK → Prop := fun xs H Q => ∃ (D dd : Addr) (c : V) (cv : Value) (t : Bool) (fs : List (Str × V)), ExcC K D ∧ cls = .ref D ∧ d = some dd ∧ xs = [.ref a, c] ∧ (∀ u, RelV c u → u = cv) ∧ PySem.W.kitOne K (.ref D) cv = some t ∧ H dd = some (.xd fs) ∧ Q (.bl t) H
theorem call_isG {X : Cx} {a : Addr} {oe : Obj} {cls : Value} {d : Option Addr} {pn : List (Addr × Obj)} (hz : Zc cls d oe) (hf : ∃ vs, oe.data = .fields vs) : CallR (X.suite a ((a, oe) :: pn)) (.builtin "isinstance") (rIsG X.K cls d a) := by
  intro pins s σ H xs us Q I r h
  obtain ⟨D, dd, c, cv, t, fs, hC, ec, ed, e1, e2, e3, e4, q⟩ := h
  exact call_isX (dd := dd) hC hz hf pins s σ H xs us Q I r ⟨ec, ed, c, cv, t, fs, e1, e2, e3, e4, q⟩
theorem e_isx {te : TE} {f : (ε → Prop) → Prop} {a : Addr} {cls : Value} {d : Option Addr} {c : V} {cv : Value} {is : ε → Bool} (hX : XIs K x cv is) (hc : ∀ u, RelV c u → u = cv) (h : E b G te (rErr x a cls d) f) :
    E b G (tCB (rIsG K cls d a) (tCons te (tCons (tC c) tNil))) rBl (fun k => f fun e => k (is e)) := fun σ F H Q k V q w => by
  refine h _ V q ?_
  intro e v F1 H1 q1 A1 V1 ⟨hv, hx⟩
  subst hv
  obtain ⟨D, dd, fs, h1, h2, h3, h4, h5⟩ := hX e cls d F1 hx
  exact ⟨D, dd, c, cv, is e, fs, h1, h2, h3, rfl, hc, h5, V1.fh _ _ h4, w _ _ F1 H1 q1 A1 V1 rfl⟩
def tXfG (K : PySem.W.Frag) (a : Addr) (cls : Value) (d : Option Addr) (n : Str) (te : TE) : TE := fun σ H Q => te σ H fun u H1 => u = .ref a ∧ ∃ (D dd : Addr) (fs : List (Str × V)) (v : V), XfC K D ∧ PySem.W.findIn K (.ref D) n = some none ∧ cls = .ref D ∧ d = some dd ∧ H1 dd = some (.xd fs) ∧ fs.lookup n = some v ∧ Q v H1
theorem pe_xfG {X : Cx} {a : Addr} {oe : Obj} {cls : Value} {d : Option Addr} {pn : List (Addr × Obj)} {e : Expr} {te : TE} {pos : Pos} {n : Str}
    (hz : Zc cls d oe) (hf : ∃ vs, oe.data = .fields vs) (he : PE (X.suite a ((a, oe) :: pn)) e te) (hb : attributeBase e n X.env (eval e X.env) = eval e X.env := by rfl) :
    PE (X.suite a ((a, oe) :: pn)) (.Attribute e n pos) (tXfG X.K a cls d n te) := by
  refine ⟨fun pins s σ H Q I h => ?_⟩
  refine attr_of hb (thn (he.run pins s σ H _ I h) fun u s1 hh => ?_)
  obtain ⟨x, H1, I1, rx, ex, D, dd, fs, v, T, hno, ec, ed, ea, l, q⟩ := hh
  subst ex
  obtain rfl : u = Value.ref a := rx
  subst ec
  subst ed
  obtain ⟨ha, _⟩ := I1.pin (a, oe) (List.mem_append_left _ List.mem_cons_self)
  obtain ⟨vs, hd⟩ := hf
  have hx : ObjOk X.prog X.w H1 s1.heap dd (.xd fs) := I1.hok dd _ ea
  obtain ⟨mA, hns, hr⟩ := hx
  obtain ⟨od, ho, hl⟩ := lookIn_ns hns
  obtain ⟨u, hu, ru⟩ := RelO.some_of (v := v) (o := mA n) (by rw [← l]; exact hr n)
  have J : PySem.W.InstAt s1.heap a oe D (some od) := ⟨ha, hz.1, by unfold PySem.W.notCls; rw [hd] <;> rfl, by rw [hz.2]; exact ho⟩
  exact HandSPX.exc_get I1.kIn J T.ga T.gg T.exC (PySem.W.findObj_own T.hdC hno rfl (by rw [hl, hu])) (handed_of ru) ⟨v, H1, I1.tok _, ru, q⟩
theorem e_xf {te : TE} {f : (ε → Prop) → Prop} {a : Addr} {cls : Value} {d : Option Addr} {n : Str} {r : R β} {g : ε → Option β} (hX : XFd K x n r g) (h : E b G te (rErr x a cls d) f) :
    E b G (tXfG K a cls d n te) r (fun k => f fun e => ∃ y, g e = some y ∧ k y) := fun σ F H Q k V q w => by
  refine h _ V q ?_
  intro e v F1 H1 ⟨y, q0, q1⟩ A1 V1 ⟨hv, hx⟩
  subst hv
  obtain ⟨D, dd, fs, v, h1, h2, h3, h4, h5, h6, h7⟩ := hX e cls d F1 y hx q0
  exact ⟨rfl, D, dd, fs, v, h1, h2, h3, h4, V1.fh _ _ h5, h6, w y v F1 H1 q1 A1 V1 h7⟩
/-- such an expression's own rule is asked -/
theorem passN {X : Cx} : Passes (L2N.CX X.prog X.w) X (fun _ _ _ => False) := fun _ _ _ _ _ _ _ ⟨_, _, _, _, _, _, _, _, _, _, _, _, z⟩ => z.elim
/-! ### into a def that may let errors out -/
theorem run_X {s : RI α} {r : R β} {g : α → (β → Prop) → (ε → Prop) → Prop} {N : List Str} {m : Nat} {t : TS} {vs : List V} {Q : VK} {Ek : XK} {Gn : Bs → α → τ → List Sl} {f : α → (ε → Prop) → Pd τ Unit β → Prop} (h : spX s r x g vs H Q Ek) (hN : N.length = s.n + m)
    (hS : ∀ b a kx, b.M = [] → Out b (fun _ => True) x kx (fun cls d _ H => Ek cls d H) → S b (s.sl a ++ List.replicate m any) t (Gn b a) (fun _ : Unit => []) (fun y v F _ => r.h y v F) (f a kx)) (hg : ∀ a k kx, g a k kx → f a kx ⟨fun _ => False, fun _ => False, fun _ => False, k⟩) :
    t { nx := fun _ H' => Q .non H', rt := Q } (L2.start N vs) H := by
  obtain ⟨a, F, k, kx, e, hs, q, w, wx⟩ := h
  have hl := s.ln hs
  refine S.go (hS ⟨F, H, [], fun _ h => nomatch h⟩ a kx rfl (fun G e cls d σ F' H' _ q' V' hx => wx e cls d F' H' q' V'.after hx)) (L2.start N vs) F H _ ⟨fun _ => False, fun _ => False, fun _ => False, k⟩ ?_ (hg a k kx q) (fun _ _ _ _ h => h.elim) (fun _ _ _ _ h => h.elim) (fun _ _ _ _ h => h.elim) (fun y v F' H' hk A hr => w y v F' H' hk A hr)
  have ow : owns (s.sl a ++ List.replicate m any) = [] := by rw [owns_app, s.no, owns_any]; rfl
  refine ⟨Ex.refl _, e, fun _ _ _ h => h, fun _ h => h, fun _ h _ => h, ?_, by rw [ow]; exact List.nodup_nil, fun p hp => by rw [ow] at hp; nomatch hp⟩
  unfold L2.start
  have : N.length - vs.length = m := by omega
  rw [this]
  exact paired_app' (s.hs hs) holds_any
theorem run_XN {s : RI α} {g : α → (Unit → Prop) → (ε → Prop) → Prop} {N : List Str} {m : Nat} {t : TS} {vs : List V} {Q : VK} {Ek : XK} {Gn : Bs → α → τ → List Sl} {f : α → (ε → Prop) → Pd τ Unit Unit → Prop} (h : spX s rNon x g vs H Q Ek) (hN : N.length = s.n + m)
    (hS : ∀ b a kx, b.M = [] → Out b (fun _ => True) x kx (fun cls d _ H => Ek cls d H) → S b (s.sl a ++ List.replicate m any) t (Gn b a) (fun _ : Unit => []) (fun y v F _ => rNon.h y v F) (f a kx)) (hg : ∀ a k kx, g a k kx → f a kx ⟨fun _ => k (), fun _ => False, fun _ => False, k⟩) :
    t { nx := fun _ H' => Q .non H', rt := Q } (L2.start N vs) H := by
  obtain ⟨a, F, k, kx, e, hs, q, w, wx⟩ := h
  have hl := s.ln hs
  refine S.go (hS ⟨F, H, [], fun _ h => nomatch h⟩ a kx rfl (fun G e cls d σ F' H' _ q' V' hx => wx e cls d F' H' q' V'.after hx)) (L2.start N vs) F H _ ⟨fun _ => k (), fun _ => False, fun _ => False, k⟩ ?_ (hg a k kx q) (fun _ σ' F' H' hk _ V' => w () .non F' H' hk V'.after rfl) (fun _ _ _ _ h => h.elim) (fun _ _ _ _ h => h.elim) (fun y v F' H' hk A hr => w y v F' H' hk A hr)
  have ow : owns (s.sl a ++ List.replicate m any) = [] := by rw [owns_app, s.no, owns_any]; rfl
  refine ⟨Ex.refl _, e, fun _ _ _ h => h, fun _ h => h, fun _ h _ => h, ?_, by rw [ow]; exact List.nodup_nil, fun p hp => by rw [ow] at hp; nomatch hp⟩
  unfold L2.start
  have : N.length - vs.length = m := by omega
  rw [this]
  exact paired_app' (s.hs hs) holds_any
theorem run_RX {c : C γ} {s : RI α} {r : R β} {g : γ → α → (β → Prop) → (ε → Prop) → Prop} {N : List Str} {m : Nat} {t : TS} {vs : List V} {Q : VK} {Ek : XK} {Gn : Bs → Addr → γ → α → τ → List Sl} {f : γ → α → (ε → Prop) → Pd τ Unit β → Prop} (h : spRX c s r x g vs H Q Ek) (hN : N.length = s.n + 1 + m)
    (hS : ∀ b p y a kx, b.M = [p] → Out b (fun G => G[0]? = some (own p c y)) x kx (fun cls d _ H => Ek cls d H) → S b (own p c y :: (s.sl a ++ List.replicate m any)) t (Gn b p y a) (fun _ : Unit => []) (fun z v F H => CAt c y F H p ∧ r.h z v F) (f y a kx)) (hg : ∀ y a k kx, g y a k kx → f y a kx ⟨fun _ => False, fun _ => False, fun _ => False, k⟩) :
    t { nx := fun _ H' => Q .non H', rt := Q } (L2.start N vs) H := by
  obtain ⟨p, ws, y, a, F, k, kx, rfl, fp, ⟨u, hb, hbl⟩, e, hs, q, w, wx⟩ := h
  have hl := s.ln hs
  refine S.go (hS ⟨F, H, [p], fun q hq => by rw [List.mem_singleton.mp hq, hb]; exact fun z => nomatch z⟩ p y a kx rfl (fun G e cls d σ F' H' hi q' V' hx => wx e cls d F' H' q' V'.after (V'.cAt hi).2 hx)) (L2.start N (.ref p :: ws)) F H _ ⟨fun _ => False, fun _ => False, fun _ => False, k⟩ ?_ (hg y a k kx q) (fun _ _ _ _ h => h.elim) (fun _ _ _ _ h => h.elim) (fun _ _ _ _ h => h.elim) (fun z v F' H' hk A (hr : CAt c y F' H' p ∧ r.h z v F') => w z v F' H' hk A hr.1 hr.2)
  have ow : owns (own p c y :: (s.sl a ++ List.replicate m any)) = [p] := by
    show [p] ++ owns _ = _
    rw [owns_app, s.no, owns_any]; rfl
  refine ⟨Ex.refl _, e, fun _ _ _ h => h, fun _ h => h, fun _ h _ => h, ?_, by rw [ow]; simp, fun q hq => ?_⟩
  · unfold L2.start
    have : N.length - (V.ref p :: ws).length = m := by rw [List.length_cons]; omega
    rw [this]
    exact .cons (show _ ∧ _ from ⟨rfl, _, hb, hbl⟩) (paired_app' (s.hs hs) holds_any)
  · rw [ow] at hq
    cases List.mem_singleton.mp hq
    exact ⟨fp, .inl List.mem_cons_self⟩
theorem All.set {r : R α} {F : Hp} {a : α} {v : V} (h : r.h a v F) : ∀ {xs : List α} {vs : List V} {j : Nat}, All r F xs vs → All r F (xs.set j a) (vs.set j v)
  | _, _, _, .nil => .nil
  | _, _, 0, .cons _ t => .cons h t
  | _, _, j + 1, .cons q t => .cons q (All.set h t)
/-- xs[n] = a -/
theorem s_setL {i : Nat} {p : Addr} {te ti : TE} {r : R α} {xs : List α} {f : (α → Prop) → Prop} {g : (Int → Prop) → Prop} (hi : G[i]? = some (own p (cLst r) xs)) (h : E b G te r f) (h2 : E b G ti rInt g) :
    S b G (tAsg te (gSub (tVar i) ti rSetL)) (fun y : Nat × α => G.set i (own p (cLst r) (xs.set y.1 y.2))) Gl ro (fun d => f fun x => g fun n => ∃ j, ixN xs.length n = some j ∧ d.nx (j, x)) := fun σ F H D d V q w1 _ _ _ => by
  refine h _ V q ?_
  intro a v F1 H1 q1 A1 V1 r1
  obtain ⟨o, k1, rfl, u, k2, vs, rfl, k3⟩ := V1.hold.at_ hi
  refine ⟨.ref p, k1, ?_⟩
  refine h2 _ V1 q1 ?_
  rintro n w F2 H2 ⟨j, hj, q2⟩ A2 V2 e
  cases e
  obtain ⟨o, k1', e, u, k2, vs, rfl, k3⟩ := V2.hold.at_ hi
  refine ⟨p, vs, n, j, rfl, rfl, k2, by rw [k3.len]; exact hj, w1 (j, a) _ F2 _ q2 (A1.ff.trans A2.ff) (V2.cell hi ⟨_, rfl, All.set (r.ex A2.ff r1) k3⟩)⟩
/-! ### isinstance of what is known -/
structure Ty1 (K : PySem.W.Frag) (r : R α) (t : String) : Prop where
  of : ∀ {a : α} {v : V} {F H : Hp}, r.h a v F → Ex F H → TyX K H v (.type t)
theorem ty_int : Ty1 K rInt "int" := ⟨fun h _ => by cases h; exact .base (.int _)⟩
theorem ty_str : Ty1 K rStr "str" := ⟨fun h _ => by cases h; exact .base (.str _)⟩
theorem ty_bl : Ty1 K rBl "bool" := ⟨fun h _ => by cases h; exact .base (.bl _)⟩
theorem ty_lst {r : R α} : Ty1 K (rLst r) "list" := ⟨fun ⟨p, vs, h1, h2, _⟩ e => by subst h1; exact .base (.lst (e _ _ h2))⟩
theorem ty_sqt {p : Addr} {vs : List V} (h : SqT K F p vs) (e : Ex F H) : TyX K H (.ref p) (.type "tuple") := by
  rcases _root_.Evl.ex_t e h with (h | ⟨o, h⟩) | ⟨o, its, n, h1, h2, _⟩
  · exact .base (.tup h)
  · exact .fTuple h
  · exact .kTuple h1 h2
theorem ty_tup {r : R α} : Ty1 K (rTup K r) "tuple" := ⟨fun ⟨p, vs, h1, h2, _⟩ e => by subst h1; exact ty_sqt h2 e⟩
theorem ty_tp {s : RI α} : Ty1 K (rTp K s) "tuple" := ⟨fun ⟨p, vs, h1, h2, _⟩ e => by subst h1; exact ty_sqt h2 e⟩
theorem e_isi {te : TE} {r : R α} {f : (α → Prop) → Prop} {t c : String} {res : Bool} (T : Ty1 K r t) (hk : kitB t c = some res) (h : E b G te r f) : E b G (tCB (rIsi K) (tCons te (tCons (tC (.ty c)) tNil))) rBl (fun k => f fun _ => k res) := fun _ _ _ _ k V q w => by
  refine h _ V q ?_
  intro x v F1 H1 q1 A1 V1 r1
  exact ⟨_, _, _, _, res, rfl, .ty _, T.of r1 V1.fh, kit_ty hk, w _ _ F1 H1 q1 A1 V1 rfl⟩
end
end Mi
/-! K08Mo -/
set_option Elab.async false
set_option linter.all false
set_option maxRecDepth 100000
set_option maxHeartbeats 4000000
namespace Mi
open PySem PySem.Spec L2 Dh
open _root_.Evl (Ex)
/-! ### sheets -/
def ShPt (F : Hp) (dx r s d1 d2 : Addr) (ts : List V) (es : List En) : Prop := F r = some (.tup ts) ∧ F s = some (.dK (stKv es)) ∧ (∃ kv, F d1 = some (.dK kv) ∧ ∀ day : Int, valV kv (Sum.inl day) = (toldN es "sign" day).map V.str) ∧
  (∃ kv, F d2 = some (.dK kv) ∧ ∀ day : Int, valV kv (Sum.inl day) = (toldN es "rule" day).map V.str) ∧ EsAt F ts es
theorem ShPt.ex {F F' : Hp} {dx r s d1 d2 : Addr} {ts : List V} {es : List En} (e : Ex F F') (h : ShPt F dx r s d1 d2 ts es) : ShPt F' dx r s d1 d2 ts es := by
  obtain ⟨h1, h2, ⟨k1, a1, b1⟩, ⟨k2, a2, b2⟩, h5⟩ := h
  exact ⟨e _ _ h1, e _ _ h2, ⟨k1, e _ _ a1, b1⟩, ⟨k2, e _ _ a2, b2⟩, Paired.mapP h5 fun _ _ q => q.ex e⟩
def cSh (Cl : Addr) : C (List En) := ⟨fun es u F => ∃ dx r s d1 d2 ts, u = .ins Cl dx (shF r s d1 d2) ∧ ShPt F dx r s d1 d2 ts es, fun e ⟨dx, r, s, d1, d2, ts, h1, h2⟩ => ⟨dx, r, s, d1, d2, ts, h1, h2.ex e⟩⟩
def ShPre (es : List En) : Prop := (∀ e ∈ es, e.Ok) ∧ (es.map En.num).Nodup ∧ es.length < 64
section
variable {K : PySem.W.Frag} {b : Bs} {G : List Sl} {α β γ δ τ τ' ρ ε : Type} {Gn : τ → List Sl} {Gl : ε → List Sl} {ro : ρ → V → Hp → Hp → Prop} {σ : L2.St} {F H F' H' : Hp}
theorem es_of {F : Hp} {es : List En} {vs : List V} (h : All rEn F es vs) : EsAt F vs es := flip_paired h
theorem of_es {F : Hp} {es : List En} {vs : List V} (h : EsAt F vs es) : All rEn F es vs := flip_paired h
/-- what is new is frozen, but for p -/
def nz (F H H2 : Hp) (p : Addr) : Hp := fun a => if a = p then none else match H a with | none => H2 a | some _ => F a
theorem nz_new {H2 : Hp} {p a : Addr} (n : a ≠ p) (h : H a = none) : nz F H H2 p a = H2 a := by unfold nz; rw [if_neg n, h]
theorem nz_old {H2 : Hp} {p a : Addr} {o : HO} (n : a ≠ p) (h : H a = some o) : nz F H H2 p a = F a := by unfold nz; rw [if_neg n, h]
theorem nz_p {H2 : Hp} {p : Addr} : nz F H H2 p p = none := if_pos rfl
theorem nz_ex {H2 : Hp} {p : Addr} (e : Ex F H) (fp : F p = none) : Ex F (nz F H H2 p) := fun a o h => by
  have n : a ≠ p := fun z => by rw [z, fp] at h; cases h
  rw [nz_old n (e a o h)]; exact h
theorem nz_fh {H2 : Hp} {p : Addr} (e : Ex F H) (k : ∀ a o, a ≠ p → H a = some o → H2 a = some o) : Ex (nz F H H2 p) H2 := fun a o h => by
  by_cases n : a = p
  · subst n; rw [nz_p] at h; cases h
  · cases z : H a with
    | none => rw [nz_new n z] at h; exact h
    | some u =>
      rw [nz_old n z] at h
      have := e a o h
      rw [z] at this; cases this
      exact k a o n z
theorem enc_sheet {Cl : Addr} {te : TE} {Ek : XK} {f : (List En → Prop) → Prop} (h : LV b G te rEn f) : ENc b G (tMake Cl (spShInit K Cl) [] Ek (tCons te tNil)) (cSh Cl) (fun k => f fun es => ShPre es ∧ ∀ es' : List En, es'.Perm es → Asc (es'.map En.num) → k es') := fun σ F H Q k V q w => by
  refine h _ V q ?_
  rintro es t F1 H1 ⟨⟨O, nd, l64⟩, q1⟩ A1 V1 z
  obtain ⟨vs, h1, h2⟩ := z F1 H1 (Ex.refl _) V1
  refine i_mk (K := K) (.inl (SqL.of h1)) V1.fh (es_of h2) O nd l64 fun p dx r s d1 d2 ts es' H2 e12 hp SO hr hs hd1 hd2 pr ps pd1 pd2 EA pe asc => ?_
  have fp : F1 p = none := ex_none V1.fh hp
  have A2 : After F1 H1 [] (nz F1 H1 H2 p) H2 := ⟨nz_ex V1.fh fp, nz_fh V1.fh fun a o _ h => e12 a o h, fun a o _ h => e12 a o h, fun a h => by
    cases z : H1 a with
    | none => exact absurd z h
    | some u => rw [e12 a u z]; exact (fun z => nomatch z), fun a ha h => by
    by_cases n : a = p
    · rw [n]; exact nz_p
    · cases z : H1 a with
      | none => exact absurd z h
      | some u => rw [nz_old n z]; exact ha⟩
  have p0 : H p = none := by
    cases e : H p with
    | none => rfl
    | some u => exact absurd hp (A1.kp p (by rw [e]; exact fun z => nomatch z))
  obtain ⟨k1, a1, b1⟩ := SO.h1
  obtain ⟨k2, a2, b2⟩ := SO.h2
  refine w es' p _ (nz F1 H1 H2 p) H2 (q1 es' pe asc) (A1.trans (A2.mono fun _ h => nomatch h)) (V1.step A2) p0 nz_p SO.hp ⟨dx, r, s, d1, d2, ts, rfl, ?_⟩
  exact ⟨(nz_new pr.symm hr).trans SO.hr, (nz_new ps.symm hs).trans SO.hs, ⟨k1, (nz_new pd1.symm hd1).trans a1, b1⟩, ⟨k2, (nz_new pd2.symm hd2).trans a2, b2⟩, Paired.mapP EA fun _ _ q => q.ex (nz_ex V1.fh fp)⟩
theorem sh_of {Cl dx r s d1 d2 p : Addr} {ts : List V} {es : List En} (e : Ex F H) (hp : H p = some (.ins Cl dx (shF r s d1 d2))) (h : ShPt F dx r s d1 d2 ts es) : ShO H Cl dx p r s d1 d2 ts es := by
  obtain ⟨h1, h2, ⟨k1, a1, b1⟩, ⟨k2, a2, b2⟩, h5⟩ := h
  exact ⟨hp, e _ _ h1, e _ _ h2, ⟨k1, e _ _ a1, b1⟩, ⟨k2, e _ _ a2, b2⟩⟩
/-- s |= Sheet(..) -/
theorem s_augSh {Cl : Addr} {te : TE} {Ek : XK} {i : Nat} {p : Addr} {es : List En} {f : (List En → Prop) → Prop} (hi : G[i]? = some (own p (cSh Cl) es)) (h : ENc b G te (cSh Cl) f) :
    S b G (tAug i te (rOwn Cl (spIor K Cl) Ek)) (fun y : List En => G.set i (own p (cSh Cl) y)) Gl ro (fun d => f fun es' => ShPre (es ++ es') ∧ ∀ es2 : List En, es2.Perm (es ++ es') → Asc (es2.map En.num) → d.nx es2) := fun σ F H D d V q w1 _ _ _ => by
  obtain ⟨o, h1, rfl, u0, hu0, hc0⟩ := V.hold.at_ hi
  refine ⟨.ref p, h1, ?_⟩
  refine h _ V q ?_
  rintro es' y u F1 H1 ⟨⟨O, nd, l64⟩, q1⟩ A1 V1 hy fy hy1 ⟨dx', r', s', d1', d2', ts', rfl, P'⟩
  obtain ⟨o, h1', e, u, hu, dx, r, s, d1, d2, ts, rfl, P⟩ := V1.hold.at_ hi
  have fp := (V1.on p (mem_owns hi List.mem_cons_self)).1
  have py : p ≠ y := fun z => by rw [z, hy] at hu0; cases hu0
  have e1 := A1.ff
  refine ⟨p, dx, _, rfl, hu, ?_⟩
  refine ⟨p, y, dx, r, s, d1, d2, dx', r', s', d1', d2', ts, ts', es, es', F1, rfl, py, fp, V1.fh, hu, V1.fh _ _ P.1, P.2.2.2.2, hy1, V1.fh _ _ P'.1, P'.2.2.2.2, O, nd, l64, fun r2 s2 d12 d22 ts2 es2 H2 e2 hr hs hd1 hd2 SO EA pe asc => ?_⟩
  have k : ∀ a o, a ≠ p → H1 a = some o → H2 a = some o := fun a o n h => ex_less e2 h n
  have ne : ∀ {a : Addr}, H1 a = none → a ≠ p := fun h z => by rw [z, hu] at h; cases h
  have A2 : After F1 H1 [p] (nz F1 H1 H2 p) H2 := ⟨nz_ex V1.fh fp, nz_fh V1.fh k, fun a o m h => k a o (fun z => m (by rw [z]; exact List.mem_cons_self)) h, fun a h => by
    by_cases n : a = p
    · rw [n, SO.hp]; exact (fun z => nomatch z)
    · cases z : H1 a with
      | none => exact absurd z h
      | some u => rw [k a u n z]; exact (fun z => nomatch z), fun a ha h => by
    by_cases n : a = p
    · rw [n]; exact nz_p
    · cases z : H1 a with
      | none => exact absurd z h
      | some u => rw [nz_old n z]; exact ha⟩
  obtain ⟨k1, a1, b1⟩ := SO.h1
  obtain ⟨k2, a2, b2⟩ := SO.h2
  have ss : σ.set i (some (.ref p)) = σ := by
    apply List.ext_getElem?
    intro j
    by_cases z : i = j
    · subst z; rw [List.getElem?_set_self (List.getElem?_eq_some_iff.mp h1).1, h1]
    · rw [List.getElem?_set_ne z]
  show D.nx (σ.set i (some (L2.V.ref p))) H2
  rw [ss]
  refine w1 es2 σ (nz F1 H1 H2 p) H2 (q1 es2 pe asc) (e1.trans A2.ff) (V1.cNew hi A2 ⟨_, SO.hp, dx, r2, s2, d12, d22, ts2, rfl, ?_⟩)
  exact ⟨(nz_new (ne hr) hr).trans SO.hr, (nz_new (ne hs) hs).trans SO.hs, ⟨k1, (nz_new (ne hd1) hd1).trans a1, b1⟩, ⟨k2, (nz_new (ne hd2) hd2).trans a2, b2⟩, Paired.mapP EA fun _ _ q => q.ex (nz_ex V1.fh fp)⟩
theorem sh_ins {Cl : Addr} {m : Str} (hm : ∀ r s d1 d2, (shF r s d1 d2).lookup m = none) : ∀ y u F, (cSh Cl).h y u F → ∃ dx fs, u = .ins Cl dx fs ∧ fs.lookup m = none := fun y u F ⟨dx, r, s, d1, d2, ts, h, _⟩ => ⟨dx, _, h, hm r s d1 d2⟩
theorem shF_no {m : Str} (h1 : (m == ("_rows" : Str)) = false) (h2 : (m == ("_standing" : Str)) = false) (h3 : (m == ("_signs" : Str)) = false) (h4 : (m == ("_rules" : Str)) = false) : ∀ r s d1 d2, (shF r s d1 d2).lookup m = none := fun r s d1 d2 => by
  rw [shF_eq]
  simp only [List.lookup, h1, h2, h3, h4]
end
/-! ### fields of a sheet: told names by day -/
section
variable {K : PySem.W.Frag} {b : Bs} {G : List Sl} {α β γ δ τ τ' ρ ε : Type} {σ : L2.St} {F H F' H' : Hp}
instance decEn : DecidableEq Dh.En
  | .sg a b c, .sg d e f => if h : a = d ∧ b = e ∧ c = f then isTrue (by obtain ⟨rfl, rfl, rfl⟩ := h; rfl) else isFalse fun z => by cases z; exact h ⟨rfl, rfl, rfl⟩
  | .rl a b c, .rl d e f => if h : a = d ∧ b = e ∧ c = f then isTrue (by obtain ⟨rfl, rfl, rfl⟩ := h; rfl) else isFalse fun z => by cases z; exact h ⟨rfl, rfl, rfl⟩
  | .vd a b, .vd d e => if h : a = d ∧ b = e then isTrue (by obtain ⟨rfl, rfl⟩ := h; rfl) else isFalse fun z => by cases z; exact h ⟨rfl, rfl⟩
  | .sg .., .rl .. => isFalse fun z => by cases z
  | .sg .., .vd .. => isFalse fun z => by cases z
  | .rl .., .sg .. => isFalse fun z => by cases z
  | .rl .., .vd .. => isFalse fun z => by cases z
  | .vd .., .sg .. => isFalse fun z => by cases z
  | .vd .., .rl .. => isFalse fun z => by cases z
def enDat : En → PyData
  | .sg n d x => .tuple [.int n, .str "sign", .int d, .str x]
  | .rl n d x => .tuple [.int n, .str "rule", .int d, .str x]
  | .vd n o => .tuple [.int n, .str "void", .int o]
def EnStr (e : En) : Prop := ∀ x, e.name? = some x → PyData.strOk x = true
def daEn : Da K rEn := ⟨enDat, EnStr, 1, fun {e v F} ⟨p, h1, h2⟩ => by
    subst h1
    cases e with
    | sg n d x => exact .tup (SqT.of h2) (.cons (.int _) (.cons (.str _) (.cons (.int _) (.cons (.str _) .nil))))
    | rl n d x => exact .tup (SqT.of h2) (.cons (.int _) (.cons (.str _) (.cons (.int _) (.cons (.str _) .nil))))
    | vd n d => exact .tup (SqT.of h2) (.cons (.int _) (.cons (.str _) (.cons (.int _) .nil))), fun {e} h => by
    cases e with
    | sg n d x => have := h x rfl; show (true && (_ && (true && (PyData.strOk x && true)))) = true; rw [this]; decide +kernel
    | rl n d x => have := h x rfl; show (true && (_ && (true && (PyData.strOk x && true)))) = true; rw [this]; decide +kernel
    | vd n d => show (true && (_ && (true && true))) = true; decide +kernel, fun e => by cases e <;> exact Nat.le_refl _, fun a c => by
    cases a <;> cases c <;> simp [enDat, PyData.eqv, PyData.eqvAll] <;> first | done | (intro _ h; exact absurd h (by decide +kernel)) | simp only [Bool.beq_eq_decide_eq]⟩
def rFn : R (Int → Option Str) := ⟨fun f v F => ∃ d kv, v = .ref d ∧ F d = some (.dK kv) ∧ ∀ n : Int, valV kv (Sum.inl n) = (f n).map V.str, fun e ⟨d, kv, h1, h2, h3⟩ => ⟨d, kv, h1, e _ _ h2, h3⟩⟩
theorem e_fSigns {i : Nat} {p Cl : Addr} {y : List En} (hc : Cls K Cl) (hn : NoAttr K Cl "_signs") (hi : G[i]? = some (own p (cSh Cl) y)) : E b G (tFld K (tVar i) "_signs") rFn (fun k => k fun n => toldN y "sign" n) := fun σ F H Q k V q w => by
  obtain ⟨o, h1, rfl, u, hu, dx, r, s, d1, d2, ts, rfl, _, _, ⟨kv, hd, hv⟩, _⟩ := V.hold.at_ hi
  exact ⟨.ref p, h1, p, Cl, dx, _, _, rfl, hu, hc, hn, shF_1, w _ _ F H q (.refl V.fh _) V ⟨d1, kv, rfl, hd, hv⟩⟩
theorem e_fRules {i : Nat} {p Cl : Addr} {y : List En} (hc : Cls K Cl) (hn : NoAttr K Cl "_rules") (hi : G[i]? = some (own p (cSh Cl) y)) : E b G (tFld K (tVar i) "_rules") rFn (fun k => k fun n => toldN y "rule" n) := fun σ F H Q k V q w => by
  obtain ⟨o, h1, rfl, u, hu, dx, r, s, d1, d2, ts, rfl, _, _, _, ⟨kv, hd, hv⟩, _⟩ := V.hold.at_ hi
  exact ⟨.ref p, h1, p, Cl, dx, _, _, rfl, hu, hc, hn, shF_2, w _ _ F H q (.refl V.fh _) V ⟨d2, kv, rfl, hd, hv⟩⟩
theorem e_dget2F {td tk tx : TE} {f : ((Int → Option Str) → Prop) → Prop} {g : (Int → Prop) → Prop} {h : (Str → Prop) → Prop} (hd : E b G td rFn f) (hk : E b G tk rInt g) (hx : E b G tx rStr h) : E b G (tDGet2 td tk tx) rStr (fun k => f fun d => g fun n => h fun z => k ((d n).getD z)) := fun σ F H Q k V q w => by
  refine hd _ V q ?_
  rintro fn v F1 H1 q1 A1 V1 ⟨d, kv, rfl, h1, h2⟩
  refine ⟨d, rfl, .inl ⟨kv, Rd.of (V1.fh _ _ h1)⟩, ?_⟩
  refine hk _ V1 q1 ?_
  rintro n v F2 H2 q2 A2 V2 e
  cases e
  refine hx _ V2 q2 ?_
  rintro z v F3 H3 q3 A3 V3 e
  cases e
  refine ⟨_, DGet.k (k := Sum.inl n) (V3.fh _ _ (A3.ff _ _ (A2.ff _ _ h1))), w _ _ F3 H3 q3 ((A1.trans A2).trans A3) V3 ?_⟩
  rw [h2 n]
  cases fn n <;> rfl
/-! ### numbers that may be True or False -/
def rIB : R (Int ⊕ Bool) := ⟨fun a v _ => v = Sum.elim V.int V.bl a, fun _ h => h⟩
theorem e_ibI {te : TE} {f : (Int → Prop) → Prop} (h : E b G te rInt f) : E b G te rIB (fun k => f fun n => k (.inl n)) := e_cast (r' := rIB) (g := Sum.inl) (fun _ _ _ h => h) h
theorem e_ibB {te : TE} {f : (Bool → Prop) → Prop} (h : E b G te rBl f) : E b G te rIB (fun k => f fun n => k (.inr n)) := e_cast (r' := rIB) (g := Sum.inr) (fun _ _ _ h => h) h
theorem e_ibGet {te : TE} {f : ((Int ⊕ Bool) → Prop) → Prop} (h : E b G te rIB f) : E b G te rInt (fun k => f fun a => ∃ n, a = .inl n ∧ k n) := fun σ F H Q k V q w => h _ V q fun a v F' H' ⟨n, e, q'⟩ A V' hr => by
  subst e
  exact w n v F' H' q' A V' hr
end
end Mi
/-! K08N -/
set_option Elab.async false
set_option linter.all false
set_option maxRecDepth 100000
set_option maxHeartbeats 4000000
namespace Dh
open PySem PySem.Spec L2
open _root_.Evl (Ex)
local macro_rules | `(tactic| walk_at "ex") => `(tactic| first | assumption | ((with_reducible apply ex_mut); (focus assumption); walk_at "ex") | ((with_reducible apply ex_both); walk_at "ex") | ((with_reducible apply ex_new); (focus assumption); walk_at "ex"))
local macro_rules | `(tactic| walk_at "hp") => `(tactic| first | assumption | with_reducible exact upd_same | ((with_reducible apply upd_old); (focus assumption); walk_at "hp") | ((with_reducible apply upd_oth); (focus walk_at "neq"); walk_at "hp") | ((with_reducible apply ex_by); (focus assumption); walk_at "ex") | ((with_reducible apply ex_at); (focus assumption); walk_at "hp"))
local macro_rules | `(tactic| walk_at "neq") => `(tactic| first | assumption | (apply Ne.symm; assumption))
local macro_rules | `(tactic| walk_at "sq") => `(tactic| first | assumption | ((with_reducible apply SqL.of); walk_at "hp") | ((with_reducible apply SqT.of); walk_at "hp"))
local macro_rules | `(tactic| walk_at "side") => `(tactic| first | assumption | decide | exact cm_fmod (by decide) (by decide) | (show _ ≠ (0 : Int); decide) | (show _ ≠ (0 : Int); omega) | exact Or.inr ⟨by decide, by decide⟩ | exact Or.inl ⟨by decide, by decide⟩ | (show CDivN _ _; exact ⟨by decide, by decide⟩) | (show CDivN _ _; exact ⟨by omega, by omega⟩) | exact Or.inl ⟨by omega, by omega⟩ | exact Or.inr ⟨by omega, by omega⟩ | exact ⟨by decide, by decide, by decide⟩)
local macro_rules | `(tactic| walk_at "ix") => `(tactic| first | exact rfl | assumption | exact atI_nat (by assumption))
local macro_rules | `(tactic| walk_at "step0") => `(tactic| first
  | with_reducible refine i_seq ?_
  | with_reducible refine i_asg ?_
  | with_reducible refine i_op ?_
  | ((with_reducible refine' i_var ?hv ?_); (case hv => exact rfl))
  | with_reducible refine i_c ?_
  | with_reducible refine i_cons ?_
  | with_reducible refine i_nil ?_
  | with_reducible refine i_cb ?_
  | with_reducible refine i_call ?_
  | with_reducible refine i_call' ?_
  | with_reducible refine i_un ?_
  | with_reducible refine i_I0 ?_
  | ((with_reducible refine i_I ?hv ?_); (case hv => walk_at "side"))
  | with_reducible refine i_eqI ?_
  | with_reducible refine i_neI ?_
  | with_reducible refine i_eqS ?_
  | with_reducible refine i_neS ?_
  | ((with_reducible refine i_eq ?hv ?_); (case hv => exact rfl))
  | ((with_reducible refine i_ne ?hv ?_); (case hv => exact rfl))
  | with_reducible refine i_int1 ?_
  | with_reducible refine i_abs ?_
  | ((with_reducible refine' i_ixL ?hv ?hw ?_); (case hv => walk_at "sq"); (case hw => walk_at "ix"))
  | ((with_reducible refine' i_ixT ?hv ?hw ?_); (case hv => walk_at "sq"); (case hw => walk_at "ix"))
  | ((with_reducible refine' i_lenL ?hv ?_); (case hv => walk_at "sq"))
  | ((with_reducible refine' i_lenT ?hv ?_); (case hv => walk_at "sq"))
  | with_reducible refine i_addIB ?_
  | with_reducible refine i_mulIB ?_
  | ((with_reducible refine i_lenS ?hv ?_); (case hv => walk_at "side"))
  | with_reducible refine i_tup ?_
  | with_reducible refine i_lst ?_
  | with_reducible refine i_asgG ?_
  | with_reducible refine i_gname ?_
  | with_reducible refine i_gsub ?_
  | ((with_reducible refine' i_setL ?hv ?hw ?_); (case hv => walk_at "hp"); (case hw => exact rfl))
  | with_reducible refine i_ret ?_
  | with_reducible refine i_drop ?_
  | with_reducible refine i_next ?_
  | with_reducible refine i_test ?_
  | with_reducible refine i_B ?_
  | with_reducible refine i_bl ?_
  | with_reducible refine i_not ?_
  | with_reducible refine i_and ?_
  | with_reducible refine i_or ?_
  | ((with_reducible refine' i_app ?hv ?hw ?_); (case hv => walk_at "hp"); (case hw => walk_at "side"))
  | with_reducible refine iteT ?_
  | with_reducible refine iteF ?_
  | with_reducible refine iteNT ?_
  | with_reducible refine iteNF ?_
  | ((with_reducible refine iteT' ?hv ?_); (case hv => first | exact decide_eq_true (by assumption) | exact notF (by assumption) | exact decide_eq_true rfl | exact notF (by decide) | exact decide_eq_true (by decide) | exact decide_eq_true (by simp only [List.length_cons, List.length_nil]; decide)))
  | ((with_reducible refine iteF' ?hv ?_); (case hv => first | exact decide_eq_false (by assumption) | exact notT (by assumption) | exact notT rfl | exact decide_eq_false (by decide) | exact decide_eq_false (by simp only [List.length_cons, List.length_nil]; decide)))
  | with_reducible refine i_forL ?_
  | with_reducible refine i_forT ?_
  | with_reducible refine i_forR ?_
  | with_reducible refine i_forR2 ?_
  | with_reducible refine i_forE ?_
  | with_reducible refine i_forV ?_
  | with_reducible refine i_forS ?_
  | with_reducible refine i_forK ?_
  | with_reducible refine i_lcL ?_
  | with_reducible refine i_lcT ?_
  | with_reducible refine i_lcR ?_
  | with_reducible refine i_lcR2 ?_
  | with_reducible refine i_lcS ?_
  | with_reducible refine i_lcK ?_
  | ((with_reducible refine' fl_L ?hv ?_); (case hv => walk_at "sq"))
  | ((with_reducible refine' fl_T ?hv ?_); (case hv => walk_at "sq"))
  | ((with_reducible refine fl_R ?hv ?hw ?_); (case hv => (first | decide | omega)); (case hw => (first | decide | omega)))
  | ((with_reducible refine fl_R2 ?hv ?_); (case hv => (first | decide | (refine ⟨?_, ?_, ?_, ?_⟩ <;> omega))))
  | ((with_reducible refine' fl_E ?hv ?_); (case hv => walk_at "sq"))
  | ((with_reducible refine' fl_V ?hv ?_); (case hv => walk_at "sq"))
  | with_reducible refine fl_S ?_
  | ((with_reducible refine' fc_L ?hv ?_); (case hv => walk_at "sq"))
  | ((with_reducible refine' fc_T ?hv ?_); (case hv => walk_at "sq"))
  | ((with_reducible refine fc_R ?hv ?hw ?_); (case hv => (first | decide | omega)); (case hw => (first | decide | omega)))
  | with_reducible refine fc_S ?_
  | with_reducible refine i_sl ?_
  | with_reducible refine i_nopart ?_
  | with_reducible refine i_part ?_
  | with_reducible refine i_isint ?_
  | ((with_reducible refine' i_slL ?hv ?_); (case hv => walk_at "sq"))
  | ((with_reducible refine i_slS ?hv ?_); (case hv => walk_at "side"))
  | ((with_reducible refine' i_gtup ?hv ?hw ?_); (case hv => walk_at "sq"); (case hw => exact rfl))
  | with_reducible refine i_gcons ?_
  | with_reducible refine i_gnil ?_
  | ((with_reducible refine' i_listL ?hv ?_); (case hv => walk_at "sq"))
  | ((with_reducible refine' i_listT ?hv ?_); (case hv => walk_at "sq"))
  | ((with_reducible refine' i_tupL ?hv ?_); (case hv => walk_at "sq"))
  | ((with_reducible refine' i_lenD ?hv ?_); (case hv => walk_at "hp"))
  | ((with_reducible refine' i_ty ?hv ?_); (case hv => walk_at "hp"))
  | ((with_reducible refine And.intro ?hv ?_); (case hv => first | exact (by decide : (0 : Nat) ≤ sizeLine) | exact (by decide : (1 : Nat) ≤ sizeLine) | exact (by decide : (2 : Nat) ≤ sizeLine) | exact (by decide : (3 : Nat) ≤ sizeLine) | exact (by decide : (4 : Nat) ≤ sizeLine) | exact (by decide : (5 : Nat) ≤ sizeLine) | exact (by decide : (6 : Nat) ≤ sizeLine)))
  | with_reducible refine i_inC ?_
  | ((with_reducible refine i_addT ?hv ?_); (case hv => walk_at "side"))
  | with_reducible refine i_m1 ?_
  | with_reducible refine i_isstr ?_
  | with_reducible refine is_int_int ?_
  | with_reducible refine is_int_bool ?_
  | with_reducible refine is_str_str ?_
  | ((with_reducible refine' is_tup_tup ?hv ?_); (case hv => walk_at "hp"))
  | with_reducible refine i_ifExp ?_
  | with_reducible refine i_andV ?_
  | with_reducible refine i_orV ?_
  | with_reducible refine i_notV ?_
  | with_reducible refine i_chain ?_
  | ((with_reducible refine' i_inS ?hv ?_); (case hv => walk_at "sq"))
  | ((with_reducible refine' i_niS ?hv ?_); (case hv => walk_at "sq"))
  | ((with_reducible refine' i_inI ?hv ?_); (case hv => walk_at "sq"))
  | ((with_reducible refine' i_niI ?hv ?_); (case hv => walk_at "sq"))
  | with_reducible refine i_dnew ?_
  | with_reducible refine i_dput ?_
  | ((with_reducible refine' i_dputI ?hv ?hw ?_); (case hv => walk_at "hp"); (case hw => walk_at "side"))
  | with_reducible refine i_dget ?_
  | ((with_reducible refine' i_dgetI ?hv ?hw ?_); (case hv => walk_at "hp"); (case hw => assumption))
  | with_reducible refine i_dnotin ?_
  | with_reducible refine i_din ?_
  | ((with_reducible refine' i_dnotinI ?hv ?_); (case hv => walk_at "hp"))
  | with_reducible refine i_dsetd ?_
  | ((with_reducible refine' i_isd ?hv ?_); (case hv => walk_at "hp"))
  | with_reducible refine i_fld ?_
  | with_reducible refine i_sfld ?_
  | with_reducible refine i_dcT ?_
  | with_reducible refine i_dcL ?_
  | with_reducible refine i_truT ?_
  | ((with_reducible refine' i_truL ?hv ?_); (case hv => walk_at "sq"))
  | with_reducible refine i_revL ?_
  | ((with_reducible refine' i_atLx ?hv ?_); (case hv => walk_at "sq"))
  | with_reducible refine i_bm ?_
  | with_reducible refine i_bm0 ?_)
local macro_rules | `(tactic| walk_at "step") => `(tactic| first | walk_at "step0" | with_reducible refine i_ifS ?_)
local macro_rules | `(tactic| walk_at "goj") => `(tactic| repeat (first | walk_at "step0" | with_reducible refine i_ifS (c := tTest _) ?_ | with_reducible refine i_ifS (c := tB _) ?_))
local macro_rules | `(tactic| walk_at "tj") => `(tactic| (intro q hq; repeat (first | exact hq | walk_at "step" | (refine and_q hq (fun h => ?_); clear hq; rename_i hq) | (refine or_q hq (fun h => ?_); clear hq; rename_i hq))))
local macro_rules | `(tactic| walk_at "go") => `(tactic| repeat walk_at "step")

section
variable {P : Program} {w : World} {K : PySem.W.Frag} {mg : Str → Option Value} {base : Heap} {A : Ad}
def spNumberB : Sp := fun vs H Q _ => ∃ (t : Bool) (lo hi : Int), vs = [.bl t, .int lo, .int hi] ∧ Q (.bl false) H
theorem ok_is_numberB (T : Txt K mg A) : FnOk P w K mg base CX0 1 A.f_is_number A.d_is_number ["number", "low", "high"] spNumberB := by
  refine T.F_is_number.ok sc_is_number (fun vs H Q E h => ?_) (fun cdv Ar outer s H vs Q E hr h => ?_)
  · obtain ⟨n, lo, hi, rfl, _⟩ := h; rfl
  · obtain ⟨n, lo, hi, rfl, k⟩ := h
    refine ⟨_, (pss_cons (ps_if (PW.pt (pw_or (pt_not (pt_val (pe_callB call_isi (by rfl) T.b_isinstance (by decide +kernel) (pa_cons (pv 0) (pa_cons (pe_bltn (v := .ty "int") (by rfl) T.b_int (by decide +kernel) rfl) pa_nil))))) (pw_or1 (pt_val (pe_callB call_isi (by rfl) T.b_isinstance (by decide +kernel) (pa_cons (pv 0) (pa_cons (pe_bltn (v := .ty "bool") (by rfl) T.b_bool (by decide +kernel) rfl) pa_nil))))))) (pss_one (ps_ret pe_bl)) pss_nil)
  (pss_one (ps_ret (pe_chain op_le op_le (pv 1) (pv 0) (pv 2))))), ?_⟩
    dsimp only [cxOf, Cx.nox, Cx.wish]
    walk_at "go"
    refine ⟨_, _, _, _, true, rfl, .ty _, .base (.bl n), kit_ty (by decide +kernel), ?_⟩
    walk_at "go"
    refine ⟨_, _, _, _, true, rfl, .ty _, .base (.bl n), kit_ty (by decide +kernel), ?_⟩
    walk_at "go"
    exact k
theorem ok_or {CX : CXT} {k : Nat} {f : Addr} {fd : FuncData} {ps : List Str} {sp sp' : Sp} (a : FnOk P w K mg base CX k f fd ps sp) (b : FnOk P w K mg base CX k f fd ps sp') : FnOk P w K mg base CX k f fd ps (fun vs H Q E => sp vs H Q E ∨ sp' vs H Q E) :=
  ⟨fun vs H Q E h => h.elim (a.len vs H Q E) (b.len vs H Q E), fun A outer s H cs us vs Q E hr he hb hv h => h.elim (a.run A outer s H cs us vs Q E hr he hb hv) (b.run A outer s H cs us vs Q E hr he hb hv)⟩
end
end Dh
/-! K08Mp -/
set_option Elab.async false
set_option linter.all false
set_option maxRecDepth 100000
set_option maxHeartbeats 4000000
namespace Mi
open PySem PySem.Spec L2 Dh
open _root_.Evl (Ex)
section
variable {K : PySem.W.Frag} {b : Bs} {G : List Sl} {α β γ δ τ τ' ρ ε : Type} {Gn : τ → List Sl} {Gl : ε → List Sl} {ro : ρ → V → Hp → Hp → Prop} {σ : L2.St} {F H F' H' : Hp}
/-- isinstance(x, str), x a text or None -/
theorem e_isStr {te : TE} {f : (Option Str → Prop) → Prop} (h : E b G te (rOpt rStr) f) : E b G (tCB (rIsi K) (tCons te (tCons (tC (.ty "str")) tNil))) rBl (fun k => f fun x => k x.isSome) := fun _ _ _ _ k V q w => by
  refine h _ V q ?_
  intro x v F1 H1 q1 A1 V1 r
  cases x with
  | none =>
    cases r
    exact ⟨_, _, _, _, false, rfl, .ty _, .base .non, kit_ty (by decide +kernel), w _ _ F1 H1 q1 A1 V1 rfl⟩
  | some x =>
    cases r.1
    exact ⟨_, _, _, _, true, rfl, .ty _, .base (.str x), kit_ty (by decide +kernel), w _ _ F1 H1 q1 A1 V1 rfl⟩
def spLaw (K : PySem.W.Frag) : Sp := fun vs H Q _ => ∃ (a : Addr) (ns : List Int), vs = [.ref a] ∧ SqL K H a (ns.map V.int) ∧ ns.length ≤ 63 ∧ ∀ H', Q (.bl true) H'
theorem run_law {n j : Nat} {N : List Str} {t : TS} {vs : List V} {Q : VK} {Ek Ek' : XK} {Gn : Bs → Addr → τ → List Sl} {f : Pd τ Unit Bool → Prop} (h : spLaw K vs H Q Ek) (hN : N.length = n) (h0 : 0 < n) (hj : j < n)
    (hS : ∀ b p, b.M = [] → S b ((List.replicate n any).set j (own p cBag ())) t (Gn b p) (fun _ : Unit => []) (fun y v F _ => rBl.h y v F) f) (hf : f ⟨fun _ => False, fun _ => False, fun _ => False, fun r => r = true⟩) :
    tSeq (tAsg (tCall (spBag K) [] Ek' (tCons (tVar 0) tNil)) (gName j)) t { nx := fun _ H' => Q .non H', rt := Q } (L2.start N vs) H := by
  obtain ⟨a, ns, rfl, hs, hl, k⟩ := h
  have s0 : (L2.start N [V.ref a])[0]? = some (some (.ref a)) := by
    unfold L2.start
    simp
  refine ⟨.ref a, s0, ?_⟩
  refine ⟨a, ns, rfl, hs, hl, fun b n' sd H1 e hb hn bn hn' hb' => ?_⟩
  have F0 : ∀ x, x ≠ n' → upd (fun _ => none) n' (.lst (ns.map V.int)) x = none := fun x h => by rw [upd_ne h]
  have eF : Ex (upd (fun _ => none) n' (.lst (ns.map V.int))) H1 := fun x o h => by
    by_cases z : x = n'
    · subst z; rw [upd_same] at h; cases h; exact hn'
    · rw [F0 x z] at h; cases h
  refine S.go (hS ⟨fun _ => none, H, [], fun _ h => nomatch h⟩ b rfl) ((L2.start N [V.ref a]).set j (some (.ref b))) (upd (fun _ => none) n' (.lst (ns.map V.int))) H1 _ ⟨fun _ => False, fun _ => False, fun _ => False, fun r => r = true⟩ ?_ hf (fun _ _ _ _ h => h.elim) (fun _ _ _ _ h => h.elim) (fun _ _ _ _ h => h.elim) (fun y v F' H' hk _ (hr : v = .bl y) => by
    rw [hr, show y = true from hk]; exact k H')
  have hG : owns (List.replicate n any) = [] := owns_any
  have ow := owns_setN (s := own b cBag ()) (p := b) rfl (G := List.replicate n any) (i := j) (by rw [hG]; simp) (by rw [hG]; simp)
  refine ⟨fun _ _ h => (nomatch h), eF, fun x o _ h => e x o h, fun x h => ?_, fun x _ h => F0 x fun z => h (by rw [z]; exact hn), ?_, ow.2, fun q hq => ?_⟩
  · cases z : H x with
    | none => exact absurd z h
    | some u => rw [e x u z]; exact fun z => nomatch z
  · have hl2 : (L2.start N [V.ref a]).length = n := by unfold L2.start; simp; omega
    have : Holds (List.replicate n any) (L2.start N [V.ref a]) (upd (fun _ => none) n' (.lst (ns.map V.int))) H1 := Holds.of (by rw [List.length_replicate, hl2]) fun i s o h1 h2 => by
      rw [List.getElem?_replicate] at h1
      split at h1
      · cases h1; exact trivial
      · cases h1
    exact this.set (s := own b cBag ()) ⟨rfl, _, hb', _, rfl, n', ns, 0, 0, 0, sd, rfl, by rw [upd_same], by decide, by decide⟩
  · rcases ow.1 q hq with z | z
    · subst z; exact ⟨F0 q bn, .inr hb⟩
    · rw [hG] at z; nomatch z
end
section
variable {P : Program} {w : World} {K : PySem.W.Frag} {mg : Str → Option Value} {base : Heap} {A : Ad}
theorem okM_l_bag (T : Txt K mg A) : FnOk P w K mg base CX0 1 A.f_l_bag A.d_l_bag ["_law_script"] (spBag K) := ok_l_bag T
def W_l_new_name (us : List Str) (k : Str × List Str → Prop) : Prop := us.length ≤ 600 ∧ (∀ x ∈ us, NameOk x) ∧ ∀ x, NameOk x → x ∉ us → k (x, us ++ [x])
theorem okM_l_new_name (T : Txt K mg A) : FnOk P w K mg base CX0 3 A.f_l_new_name A.d_l_new_name ["_law_bag_here", "_law_used"] (spBL rStr rStr W_l_new_name) := (ok_l_new_name T).imp fun vs H Q E h => by
  obtain ⟨p, q, us, F, k, rfl, pq, fp, fq, ⟨l, hb, hl⟩, ⟨u, hu, ws, rfl, hA⟩, e, ⟨l6, ok, hk⟩, w⟩ := h
  cases map_str hA
  refine ⟨p, q, us, F, rfl, e, ⟨fp, l, hb, hl⟩, fq, pq.symm, hu, l6, ok, fun x H' hx hn hu' S => ?_⟩
  refine w (x, us ++ [x]) _ F H' (hk x hx hn) ⟨Ex.refl _, S.ex, fun a o m ha => ?_, fun a ha => ?_, fun _ h _ => h⟩ ?_ ⟨_, hu', _, rfl, all_str⟩ rfl
  · have n1 : a ≠ p := fun z => m (by rw [z]; exact List.mem_cons_self)
    have n2 : a ≠ q := fun z => m (by rw [z]; exact List.mem_cons_of_mem _ List.mem_cons_self)
    exact S.kp a o n1 (by rw [less_ne n2]; exact ha)
  · by_cases n1 : a = p
    · obtain ⟨l', h1, _⟩ := S.bg.ex
      rw [n1, h1]; exact fun z => nomatch z
    · by_cases n2 : a = q
      · rw [n2, hu']; exact fun z => nomatch z
      · cases z : H a with
        | none => exact absurd z ha
        | some u => rw [S.kp a u n1 (by rw [less_ne n2]; exact z)]; exact fun z => nomatch z
  · obtain ⟨l', h1, h2⟩ := S.bg.ex
    exact ⟨l', h1, h2⟩
def inIB (n : Int ⊕ Bool) (lo hi : Int) : Bool := match n with | .inl i => decide (lo ≤ i) && decide (i ≤ hi) | .inr _ => false
def W_is_number (n : Int ⊕ Bool) (lo hi : Int) (k : Bool → Prop) : Prop := k (inIB n lo hi)
theorem okM_is_number (T : Txt K mg A) : FnOk P w K mg base CX0 1 A.f_is_number A.d_is_number ["number", "low", "high"] (spP (rCons rIB (rCons rInt (rOne rInt))) rBl (fun x k => W_is_number x.1 x.2.1 x.2.2 k)) := (ok_or (ok_is_number T) (ok_is_numberB T)).imp fun vs H Q E h => by
  obtain ⟨⟨n, lo, hi⟩, F, k, e, ⟨v1, w1, rfl, h1, v2, w2, rfl, h2, v3, rfl, h3⟩, q, w⟩ := h
  cases h1; cases h2; cases h3
  cases n with
  | inl i => exact .inl ⟨i, lo, hi, rfl, w _ _ F H q (.refl e _) rfl⟩
  | inr t => exact .inr ⟨t, lo, hi, rfl, w _ _ F H q (.refl e _) rfl⟩
end
end Mi
/-! K08Li -/
set_option Elab.async false
set_option linter.all false
set_option maxRecDepth 100000
set_option maxHeartbeats 4000000
namespace Mi
open PySem PySem.Spec L2 Dh
open _root_.Evl (Ex)
section
variable {K : PySem.W.Frag} {b : Bs} {G : List Sl} {σ : L2.St} {F H F' H' : Hp}
/-- list(sheet) -/
theorem en_listSh {i : Nat} {p Cl : Addr} {y : List En} (hi : G[i]? = some (own p (cSh Cl) y)) : EN b G (tCB (rListT K Cl "_rows") (tCons (tVar i) tNil)) rEn (fun k => k y) := fun σ F H Q k V q w => by
  obtain ⟨o, h1, rfl, u, hu, dx, r, s, d1, d2, ts, rfl, h2, _, _, _, h3⟩ := V.hold.at_ hi
  refine ⟨.ref p, h1, ?_⟩
  refine ⟨p, dx, r, _, ts, rfl, hu, shF_r, SqT.of (V.fh _ _ h2), fun q it hq hit ne => ?_⟩
  have A1 := After.fresh (o := TiE it) V.fh hit (owns G)
  have V1 := V.step (After.fresh (o := TiE it) V.fh hit [])
  have hq1 : upd H it (TiE it) q = none := by rw [upd_ne ne]; exact hq
  exact en_lay A1 V1 (k := k) ‹_› (of_es h3) w hq1
end
section
variable {P : Program} {w : World} {K : PySem.W.Frag} {mg : Str → Option Value} {base : Heap} {A : Ad}
theorem okM_Sheet_iter (T : Txt K mg A) : FnOk P w K mg base CX0 1 A.f_Sheet_XiterX A.d_Sheet_XiterX ["self"] (spIt K A.C_Sheet "_rows") := by
  refine T.F_Sheet_XiterX.ok sc_Sheet_XiterX (fun vs H Q E h => ?_) (fun cdv Ar outer s H vs Q E hr h => ?_)
  · obtain ⟨a, _, _, _, _, rfl, _⟩ := h; rfl
  · obtain ⟨a, dx, l, fs, zs, rfl, ha, hf, hl, k⟩ := h
    refine ⟨_, (pss_one (ps_ret (pe_callB call_iterTup (by rfl) T.b_iter (by decide +kernel) (pa_cons (pe_fld (pv 0) rfl) pa_nil)))), ?_⟩
    exact ⟨.ref a, rfl, a, _, dx, fs, _, rfl, ha, T.cl_Sheet, T.na_Sheet__rows, hf, l, zs, rfl, hl, k⟩
theorem okM_Sheet_len (T : Txt K mg A) : FnOk P w K mg base CX0 1 A.f_Sheet_XlenX A.d_Sheet_XlenX ["self"] (spLn K A.C_Sheet "_rows") := by
  refine T.F_Sheet_XlenX.ok sc_Sheet_XlenX (fun vs H Q E h => ?_) (fun cdv Ar outer s H vs Q E hr h => ?_)
  · obtain ⟨a, _, _, _, _, rfl, _⟩ := h; rfl
  · obtain ⟨a, dx, l, fs, zs, rfl, ha, hf, hl, k⟩ := h
    refine ⟨_, (pss_one (ps_ret (pe_callB cl_len (by rfl) T.b_len (by decide +kernel) (pa_cons (pe_fld (pv 0) rfl) pa_nil)))), ?_⟩
    exact ⟨.ref a, rfl, a, _, dx, fs, _, rfl, ha, T.cl_Sheet, T.na_Sheet__rows, hf, l, zs, rfl, .inr hl, k⟩
theorem noX0 : NoX CX0 := fun _ _ _ _ _ h => h.elim
end
end Mi
/-! K08S -/
set_option Elab.async false
set_option linter.all false
set_option maxRecDepth 100000
set_option maxHeartbeats 4000000
namespace Dh
open PySem PySem.Spec L2
open _root_.Evl (Ex)
local macro_rules | `(tactic| walk_at "ex") => `(tactic| first | assumption | ((with_reducible apply ex_mut); (focus assumption); walk_at "ex") | ((with_reducible apply ex_both); walk_at "ex") | ((with_reducible apply ex_new); (focus assumption); walk_at "ex"))
local macro_rules | `(tactic| walk_at "hp") => `(tactic| first | assumption | with_reducible exact upd_same | ((with_reducible apply upd_old); (focus assumption); walk_at "hp") | ((with_reducible apply upd_oth); (focus walk_at "neq"); walk_at "hp") | ((with_reducible apply ex_by); (focus assumption); walk_at "ex") | ((with_reducible apply ex_at); (focus assumption); walk_at "hp"))
local macro_rules | `(tactic| walk_at "neq") => `(tactic| first | assumption | (apply Ne.symm; assumption))
local macro_rules | `(tactic| walk_at "sq") => `(tactic| first | assumption | ((with_reducible apply SqL.of); walk_at "hp") | ((with_reducible apply SqT.of); walk_at "hp"))
local macro_rules | `(tactic| walk_at "side") => `(tactic| first | assumption | decide | exact cm_fmod (by decide) (by decide) | (show _ ≠ (0 : Int); decide) | (show _ ≠ (0 : Int); omega) | exact Or.inr ⟨by decide, by decide⟩ | exact Or.inl ⟨by decide, by decide⟩ | (show CDivN _ _; exact ⟨by decide, by decide⟩) | (show CDivN _ _; exact ⟨by omega, by omega⟩) | exact Or.inl ⟨by omega, by omega⟩ | exact Or.inr ⟨by omega, by omega⟩ | exact ⟨by decide, by decide, by decide⟩)
local macro_rules | `(tactic| walk_at "ix") => `(tactic| first | exact rfl | assumption | exact atI_nat (by assumption))
local macro_rules | `(tactic| walk_at "step0") => `(tactic| first
  | with_reducible refine i_seq ?_
  | with_reducible refine i_asg ?_
  | with_reducible refine i_op ?_
  | ((with_reducible refine' i_var ?hv ?_); (case hv => exact rfl))
  | with_reducible refine i_c ?_
  | with_reducible refine i_cons ?_
  | with_reducible refine i_nil ?_
  | with_reducible refine i_cb ?_
  | with_reducible refine i_call ?_
  | with_reducible refine i_call' ?_
  | with_reducible refine i_un ?_
  | with_reducible refine i_I0 ?_
  | ((with_reducible refine i_I ?hv ?_); (case hv => walk_at "side"))
  | with_reducible refine i_eqI ?_
  | with_reducible refine i_neI ?_
  | with_reducible refine i_eqS ?_
  | with_reducible refine i_neS ?_
  | ((with_reducible refine i_eq ?hv ?_); (case hv => exact rfl))
  | ((with_reducible refine i_ne ?hv ?_); (case hv => exact rfl))
  | with_reducible refine i_int1 ?_
  | with_reducible refine i_abs ?_
  | ((with_reducible refine' i_ixL ?hv ?hw ?_); (case hv => walk_at "sq"); (case hw => walk_at "ix"))
  | ((with_reducible refine' i_ixT ?hv ?hw ?_); (case hv => walk_at "sq"); (case hw => walk_at "ix"))
  | ((with_reducible refine' i_lenL ?hv ?_); (case hv => walk_at "sq"))
  | ((with_reducible refine' i_lenT ?hv ?_); (case hv => walk_at "sq"))
  | with_reducible refine i_addIB ?_
  | with_reducible refine i_mulIB ?_
  | ((with_reducible refine i_lenS ?hv ?_); (case hv => walk_at "side"))
  | with_reducible refine i_tup ?_
  | with_reducible refine i_lst ?_
  | with_reducible refine i_asgG ?_
  | with_reducible refine i_gname ?_
  | with_reducible refine i_gsub ?_
  | ((with_reducible refine' i_setL ?hv ?hw ?_); (case hv => walk_at "hp"); (case hw => exact rfl))
  | with_reducible refine i_ret ?_
  | with_reducible refine i_drop ?_
  | with_reducible refine i_next ?_
  | with_reducible refine i_test ?_
  | with_reducible refine i_B ?_
  | with_reducible refine i_bl ?_
  | with_reducible refine i_not ?_
  | with_reducible refine i_and ?_
  | with_reducible refine i_or ?_
  | ((with_reducible refine' i_app ?hv ?hw ?_); (case hv => walk_at "hp"); (case hw => walk_at "side"))
  | with_reducible refine iteT ?_
  | with_reducible refine iteF ?_
  | with_reducible refine iteNT ?_
  | with_reducible refine iteNF ?_
  | ((with_reducible refine iteT' ?hv ?_); (case hv => first | exact decide_eq_true (by assumption) | exact notF (by assumption) | exact decide_eq_true rfl | exact notF (by decide) | exact decide_eq_true (by decide) | exact decide_eq_true (by simp only [List.length_cons, List.length_nil]; decide)))
  | ((with_reducible refine iteF' ?hv ?_); (case hv => first | exact decide_eq_false (by assumption) | exact notT (by assumption) | exact notT rfl | exact decide_eq_false (by decide) | exact decide_eq_false (by simp only [List.length_cons, List.length_nil]; decide)))
  | with_reducible refine i_forL ?_
  | with_reducible refine i_forT ?_
  | with_reducible refine i_forR ?_
  | with_reducible refine i_forR2 ?_
  | with_reducible refine i_forE ?_
  | with_reducible refine i_forV ?_
  | with_reducible refine i_forS ?_
  | with_reducible refine i_forK ?_
  | with_reducible refine i_lcL ?_
  | with_reducible refine i_lcT ?_
  | with_reducible refine i_lcR ?_
  | with_reducible refine i_lcR2 ?_
  | with_reducible refine i_lcS ?_
  | with_reducible refine i_lcK ?_
  | ((with_reducible refine' fl_L ?hv ?_); (case hv => walk_at "sq"))
  | ((with_reducible refine' fl_T ?hv ?_); (case hv => walk_at "sq"))
  | ((with_reducible refine fl_R ?hv ?hw ?_); (case hv => (first | decide | omega)); (case hw => (first | decide | omega)))
  | ((with_reducible refine fl_R2 ?hv ?_); (case hv => (first | decide | (refine ⟨?_, ?_, ?_, ?_⟩ <;> omega))))
  | ((with_reducible refine' fl_E ?hv ?_); (case hv => walk_at "sq"))
  | ((with_reducible refine' fl_V ?hv ?_); (case hv => walk_at "sq"))
  | with_reducible refine fl_S ?_
  | ((with_reducible refine' fc_L ?hv ?_); (case hv => walk_at "sq"))
  | ((with_reducible refine' fc_T ?hv ?_); (case hv => walk_at "sq"))
  | ((with_reducible refine fc_R ?hv ?hw ?_); (case hv => (first | decide | omega)); (case hw => (first | decide | omega)))
  | with_reducible refine fc_S ?_
  | with_reducible refine i_sl ?_
  | with_reducible refine i_nopart ?_
  | with_reducible refine i_part ?_
  | with_reducible refine i_isint ?_
  | ((with_reducible refine' i_slL ?hv ?_); (case hv => walk_at "sq"))
  | ((with_reducible refine i_slS ?hv ?_); (case hv => walk_at "side"))
  | ((with_reducible refine' i_gtup ?hv ?hw ?_); (case hv => walk_at "sq"); (case hw => exact rfl))
  | with_reducible refine i_gcons ?_
  | with_reducible refine i_gnil ?_
  | ((with_reducible refine' i_listL ?hv ?_); (case hv => walk_at "sq"))
  | ((with_reducible refine' i_listT ?hv ?_); (case hv => walk_at "sq"))
  | ((with_reducible refine' i_tupL ?hv ?_); (case hv => walk_at "sq"))
  | ((with_reducible refine' i_lenD ?hv ?_); (case hv => walk_at "hp"))
  | ((with_reducible refine' i_ty ?hv ?_); (case hv => walk_at "hp"))
  | ((with_reducible refine And.intro ?hv ?_); (case hv => first | exact (by decide : (0 : Nat) ≤ sizeLine) | exact (by decide : (1 : Nat) ≤ sizeLine) | exact (by decide : (2 : Nat) ≤ sizeLine) | exact (by decide : (3 : Nat) ≤ sizeLine) | exact (by decide : (4 : Nat) ≤ sizeLine) | exact (by decide : (5 : Nat) ≤ sizeLine) | exact (by decide : (6 : Nat) ≤ sizeLine)))
  | with_reducible refine i_inC ?_
  | ((with_reducible refine i_addT ?hv ?_); (case hv => walk_at "side"))
  | with_reducible refine i_m1 ?_
  | with_reducible refine i_isstr ?_
  | with_reducible refine is_int_int ?_
  | with_reducible refine is_int_bool ?_
  | with_reducible refine is_str_str ?_
  | ((with_reducible refine' is_tup_tup ?hv ?_); (case hv => walk_at "hp"))
  | with_reducible refine i_ifExp ?_
  | with_reducible refine i_andV ?_
  | with_reducible refine i_orV ?_
  | with_reducible refine i_notV ?_
  | with_reducible refine i_chain ?_
  | ((with_reducible refine' i_inS ?hv ?_); (case hv => walk_at "sq"))
  | ((with_reducible refine' i_niS ?hv ?_); (case hv => walk_at "sq"))
  | ((with_reducible refine' i_inI ?hv ?_); (case hv => walk_at "sq"))
  | ((with_reducible refine' i_niI ?hv ?_); (case hv => walk_at "sq"))
  | with_reducible refine i_dnew ?_
  | with_reducible refine i_dput ?_
  | ((with_reducible refine' i_dputI ?hv ?hw ?_); (case hv => walk_at "hp"); (case hw => walk_at "side"))
  | with_reducible refine i_dget ?_
  | ((with_reducible refine' i_dgetI ?hv ?hw ?_); (case hv => walk_at "hp"); (case hw => assumption))
  | with_reducible refine i_dnotin ?_
  | with_reducible refine i_din ?_
  | ((with_reducible refine' i_dnotinI ?hv ?_); (case hv => walk_at "hp"))
  | with_reducible refine i_dsetd ?_
  | ((with_reducible refine' i_isd ?hv ?_); (case hv => walk_at "hp"))
  | with_reducible refine i_fld ?_
  | with_reducible refine i_sfld ?_
  | with_reducible refine i_dcT ?_
  | with_reducible refine i_dcL ?_
  | with_reducible refine i_truT ?_
  | ((with_reducible refine' i_truL ?hv ?_); (case hv => walk_at "sq"))
  | with_reducible refine i_revL ?_
  | ((with_reducible refine' i_atLx ?hv ?_); (case hv => walk_at "sq"))
  | with_reducible refine i_bm ?_
  | with_reducible refine i_bm0 ?_)
local macro_rules | `(tactic| walk_at "step") => `(tactic| first | walk_at "step0" | with_reducible refine i_ifS ?_)
local macro_rules | `(tactic| walk_at "goj") => `(tactic| repeat (first | walk_at "step0" | with_reducible refine i_ifS (c := tTest _) ?_ | with_reducible refine i_ifS (c := tB _) ?_))
local macro_rules | `(tactic| walk_at "tj") => `(tactic| (intro q hq; repeat (first | exact hq | walk_at "step" | (refine and_q hq (fun h => ?_); clear hq; rename_i hq) | (refine or_q hq (fun h => ?_); clear hq; rename_i hq))))
local macro_rules | `(tactic| walk_at "go") => `(tactic| repeat walk_at "step")

def vOf (o : Option Str) : V := (o.map V.str).getD .non
/-- the rule of a day: the last one told for it or ahead of it -/
def ruleN (es : List En) : Nat → Option Str
  | 0 => toldN es "rule" 0
  | n + 1 => match toldN es "rule" ((n + 1 : Nat) : Int) with
    | some x => some x
    | none => ruleN es n
section
variable {P : Program} {w : World} {K : PySem.W.Frag} {mg : Str → Option Value} {base : Heap} {A : Ad}
theorem i_get1 {td ty : TE} {σ : L2.St} {H : Hp} {Q : VK} (k : td σ H fun x H1 => ∃ a, x = .ref a ∧ IsD H1 a ∧ ty σ H1 fun y H2 => ∃ o, DGet H2 a y o ∧ Q (o.getD .non) H2) : tDGet1 td ty σ H Q := k
def spSignOf (C : Addr) : Sp := fun vs H Q _ => ∃ (p : Addr) (n : Int) (dx r s d1 d2 : Addr) (ts : List V) (es : List En), vs = [.ref p, .int n] ∧ ShO H C dx p r s d1 d2 ts es ∧ Q (vOf (toldN es "sign" n)) H
theorem ok_Sheet_sign_of (T : Txt K mg A) : FnOk P w K mg base CX0 1 A.f_Sheet_sign_of A.d_Sheet_sign_of ["self", "day"] (spSignOf A.C_Sheet) := by
  refine T.F_Sheet_sign_of.ok sc_Sheet_sign_of (fun vs H Q E h => ?_) (fun cdv Ar outer s0 H vs Q E hr h => ?_)
  · obtain ⟨p, n, dx, r, s, d1, d2, ts, es, rfl, _⟩ := h; rfl
  · obtain ⟨p, n, dx, r, s, d1, d2, ts, es, rfl, O, k⟩ := h
    obtain ⟨kv, h1, nm⟩ := O.h1
    refine ⟨_, (pss_one (ps_ret (pe_dget1 (hu_of hr) (pe_fld (pv 0) rfl) (pv 1) ⟨by rfl, by rfl, by rfl, by rfl⟩))), ?_⟩
    dsimp only [cxOf, Cx.nox, Cx.wish]
    walk_at "go"
    refine i_get1 ?_
    walk_at "go"
    refine i_fldR O.hp T.cl_Sheet T.na_Sheet__signs shF_1 ?_
    refine ⟨d1, rfl, .inl ⟨kv, Rd.of h1⟩, ?_⟩
    walk_at "go"
    refine ⟨_, DGet.k (k := Sum.inl n) h1, ?_⟩
    rw [nm n]
    exact k
def spRuleOf (C : Addr) : Sp := fun vs H Q _ => ∃ (p : Addr) (n : Nat) (dx r s d1 d2 : Addr) (ts : List V) (es : List En), vs = [.ref p, .int (n : Nat)] ∧ ShO H C dx p r s d1 d2 ts es ∧ Q (vOf (ruleN es n)) H
theorem ok_Sheet_rule_of (T : Txt K mg A) : FnOk P w K mg base CX0 1 A.f_Sheet_rule_of A.d_Sheet_rule_of ["self", "day"] (spRuleOf A.C_Sheet) := by
  refine T.F_Sheet_rule_of.ok sc_Sheet_rule_of (fun vs H Q E h => ?_) (fun cdv Ar outer s0 H vs Q E hr h => ?_)
  · obtain ⟨p, n, dx, r, s, d1, d2, ts, es, rfl, _⟩ := h; rfl
  · obtain ⟨p, n, dx, r, s, d1, d2, ts, es, rfl, O, k⟩ := h
    obtain ⟨kv, h1, nm⟩ := O.h2
    refine ⟨_, (pss_cons (ps_while PassesOwn.never (PW.pt (pw_and (pt_cmpR op_gt (pv 1) pe_int (nomark _)) (pw_and1 (pt_cmp (pc_dnotin (hu_of hr) (pv 1) (pe_fld (pv 0) rfl)))))) (pss_one (ps_set (i := 1) sc_Sheet_rule_of.nd rfl (Or.inl rfl) (pe_op op_sub (pv 1) pe_int))))
  (pss_one (ps_ret (pe_dget1 (hu_of hr) (pe_fld (pv 0) rfl) (pv 1) ⟨by rfl, by rfl, by rfl, by rfl⟩)))), ?_⟩
    dsimp only [cxOf, Cx.nox, Cx.wish]
    walk_at "go"
    refine ⟨fun m σ H' => ∃ j : Nat, m = j ∧ σ = [some (.ref p), some (.int (j : Nat))] ∧ H' = H ∧ ruleN es j = ruleN es n, ⟨n, n, rfl, rfl, rfl, rfl⟩, fun m σ H' h => ?_⟩
    obtain ⟨j, rfl, rfl, rfl, hj⟩ := h
    have fin : valV kv (Sum.inl ((m : Nat) : Int)) = (ruleN es m).map V.str → (tDGet1 (tFld K (tVar 0) "_rules") (tVar 1)) [some (V.ref p), some (.int (m : Nat))] H' Q := fun e => by
      refine i_get1 ?_
      walk_at "go"
      refine i_fldR O.hp T.cl_Sheet T.na_Sheet__rules shF_2 ?_
      refine ⟨d2, rfl, .inl ⟨kv, Rd.of h1⟩, ?_⟩
      walk_at "go"
      refine ⟨_, DGet.k (k := Sum.inl ((m : Nat) : Int)) h1, ?_⟩
      rw [e, hj]
      exact k
    walk_at "go"
    refine iteD (fun c => ?_) (fun c => ?_)
    · walk_at "go"
      refine i_fldR O.hp T.cl_Sheet T.na_Sheet__rules shF_2 ?_
      walk_at "go"
      rw [nm]
      obtain ⟨q, rfl⟩ : ∃ q, m = q + 1 := ⟨m - 1, by omega⟩
      have hq : ruleN es (q + 1) = match toldN es "rule" ((q + 1 : Nat) : Int) with | some x => some x | none => ruleN es q := rfl
      cases ht : toldN es "rule" ((q + 1 : Nat) : Int) with
      | some x =>
        rw [ht] at hq
        dsimp only [Option.map, Option.isSome]
        walk_at "go"
        exact fin (by rw [nm, hq, ht])
      | none =>
        rw [ht] at hq
        dsimp only [Option.map, Option.isSome]
        walk_at "go"
        refine ⟨fun σ' H2 => σ' = [some (.ref p), some (.int (q : Nat))] ∧ H2 = H', fun σ' H2 h => ?_, ?_⟩
        · obtain ⟨rfl, rfl⟩ := h
          exact ⟨q, by omega, q, rfl, rfl, rfl, by rw [← hj, hq]⟩
        · walk_at "go"
          refine ⟨?_, rfl⟩
          show [some (V.ref p), some (.int (((q + 1 : Nat) : Int) - 1))] = _
          have : ((q + 1 : Nat) : Int) - 1 = (q : Nat) := by omega
          rw [this]
    · walk_at "go"
      refine fin ?_
      have : m = 0 := by omega
      subst this
      exact nm 0
end
end Dh
/-! Mir10 -/
set_option Elab.async false
set_option linter.all false
set_option maxRecDepth 100000
set_option maxHeartbeats 4000000
/-! records that grow; an operator of two things of one own class -/
namespace Mi
open PySem PySem.Spec L2 Dh
open _root_.Evl (Ex)
section
variable {K : PySem.W.Frag} {b : Bs} {G : List Sl} {α β γ δ τ ρ ε : Type} {Gn : τ → List Sl} {Gl : ε → List Sl} {ro : ρ → V → Hp → Hp → Prop} {σ : L2.St} {F H F' H' : Hp}
def cRec (s : RK α) : C α := ⟨fun a u F => ∃ kvs, u = .dK kvs ∧ s.h a kvs F, fun e ⟨kvs, h1, h2⟩ => ⟨kvs, h1, s.ex e h2⟩⟩
theorem frz_rec {s : RK α} {a : α} : ∀ {p : Addr} (u : HO) (F : Hp), (cRec s).h a u F → F p = some u → (rRec s).h a (.ref p) F := fun u F ⟨kvs, h1, h2⟩ h => ⟨_, kvs, rfl, h1 ▸ h, h2⟩
/-- s with n behind it is s' -/
def Sn (s : RK α) (s' : RK δ) (n : Str) (r : R γ) (g : α → γ → δ) : Prop := n ∉ s.ks ∧ s.ks.length < 15 ∧ ∀ a x kvs v F, s.h a kvs F → r.h x v F → s'.h (g a x) (kvs ++ [(Sum.inr n, v)]) F
theorem sn_one {m n : Str} {q : R α} {r : R γ} (ne : (n == m) = false) : Sn (kOne m q) (kCons m q (kOne n r)) n r (fun a x => (a, x)) :=
  ⟨fun z => (by rw [List.mem_singleton.mp z, beq_self_eq_true] at ne; cases ne), (by show 1 < 15; decide), fun a x kvs v F ⟨w, e, h⟩ hr => ⟨w, [(Sum.inr n, v)], by rw [e]; rfl, h, v, rfl, hr⟩⟩
theorem sn_cons {m n : Str} {q : R β} {s : RK α} {s' : RK δ} {r : R γ} {g : α → γ → δ} (ne : (n == m) = false) (h : Sn s s' n r g) (hl : s.ks.length < 14) : Sn (kCons m q s) (kCons m q s') n r (fun a x => (a.1, g a.2 x)) :=
  ⟨fun z => (List.mem_cons.mp z).elim (fun z => by rw [z, beq_self_eq_true] at ne; cases ne) h.1, (by show s.ks.length + 1 < 15; omega), fun a x kvs v F ⟨w, ws, e, h1, h2⟩ hr => ⟨w, ws ++ [(Sum.inr n, v)], by rw [e]; rfl, h1, h.2.2 _ _ _ _ _ h2 hr⟩⟩
theorem Env.cellT {c : C γ} {c' : C δ} {i : Nat} {p : Addr} {a : γ} {a' : δ} {u : HO} (V : Env b G σ F H) (hi : G[i]? = some (own p c a)) (h' : c'.h a' u F) : Env b (G.set i (own p c' a')) σ F (upd H p u) :=
  V.cNew hi ⟨Ex.refl _, ex_mut (V.on p (mem_owns hi List.mem_cons_self)).1 V.fh, fun x o hm hx => by rw [upd_ne (fun z => hm (by rw [z]; exact List.mem_cons_self))]; exact hx, fun x hx => by
    by_cases z : x = p
    · subst z; rw [upd_same]; exact fun z => nomatch z
    · rw [upd_ne z]; exact hx, fun _ h _ => h⟩ ⟨u, upd_same, h'⟩
/-- xs.extend(ys) -/
theorem s_ext {i : Nat} {p : Addr} {te : TE} {r : R α} {xs : List α} {f : (List α → Prop) → Prop} (hi : G[i]? = some (own p (cLst r) xs)) (h : E b G te (rLst r) f) :
    S b G (tDrop (tBM K "list" rExtend (tVar i) (tCons te tNil))) (fun ys : List α => G.set i (own p (cLst r) (xs ++ ys))) Gl ro (fun d => f fun ys => xs.length + ys.length ≤ sizeLine ∧ d.nx ys) := fun σ F H D d V q w1 _ _ _ => by
  obtain ⟨o, h1, rfl, u, h2, vs, rfl, h3⟩ := V.hold.at_ hi
  refine ⟨.ref p, h1, ty_l h2, ?_⟩
  refine h _ V q ?_
  rintro ys v F1 H1 q1 A1 V1 ⟨y, ws, rfl, hy, r1⟩
  obtain ⟨o, h1', e, u, h2, vs, rfl, h3⟩ := V1.hold.at_ hi
  rw [h1] at h1'; cases h1'
  refine ⟨p, y, vs, ws, rfl, rfl, h2, V1.fh _ _ hy, by rw [h3.len, r1.len]; exact q1.1, w1 ys _ F1 _ q1.2 A1.ff ?_⟩
  exact V1.cellT hi ⟨_, rfl, Dh.paired_app h3 r1⟩
/-- d[..] = e, a new written key -/
theorem s_rput {i : Nat} {p : Addr} {tv : TE} {s : RK α} {s' : RK δ} {n : Str} {r : R γ} {g : α → γ → δ} {a : α} {f : (γ → Prop) → Prop} (S1 : Sn s s' n r g) (hi : G[i]? = some (own p (cRec s) a)) (hv : E b G tv r f) :
    S b G (sDPut (tVar i) (tC (.str n)) tv) (fun y : γ => G.set i (own p (cRec s') (g a y))) Gl ro (fun d => f d.nx) := fun σ F H D d V q w1 _ _ _ => by
  refine hv _ V q ?_
  intro x v F1 H1 q1 A1 V1 r1
  obtain ⟨o, h1, rfl, u, h2, kvs, rfl, h3⟩ := V1.hold.at_ hi
  refine ⟨.ref p, h1, p, _, rfl, DPut.k (k := Sum.inr n) h2 ?_, w1 x _ F1 _ q1 A1.ff (V1.cellT hi ⟨_, rfl, ?_⟩)⟩
  · have := congrArg List.length (s.kk h3)
    rw [List.length_map, List.length_map] at this
    have := S1.2.1
    exact Nat.lt_of_lt_of_le (show kvs.length < 15 by omega) (by decide)
  · unfold putK
    rw [if_neg]
    · exact S1.2.2 _ _ _ _ _ h3 r1
    · intro z
      obtain ⟨y, hy, e⟩ := List.any_eq_true.mp z
      have hk := s.kk h3
      have : y.1 ∈ kvs.map (·.1) := List.mem_map_of_mem hy
      rw [hk] at this
      obtain ⟨m, hm, e2⟩ := List.mem_map.mp this
      rw [of_decide_eq_true e] at e2
      cases e2
      exact S1.1 hm
theorem enc_disp {s : RK α} {ts : List (TE × TE)} {f : (α → Prop) → Prop} (h : Prs b G ts s f) (nd : s.ks.Nodup) (l : s.ks.length ≤ 15) : ENc b G (tDisp ts) (cRec s) f := fun σ F H Q k V q w p hp => by
  have B := After.fresh (o := .dK []) V.fh hp []
  have V1 := V.step B
  have nO : p ∉ owns G := fun z => V.hold.live p z hp
  have fp : F p = none := ex_none V.fh hp
  refine h _ V1 q ?_
  rintro a ps F2 H2 q2 A2 V2 ⟨kvs, rfl, hs⟩
  have hp2 : H2 p = some (.dK []) := A2.hh p _ nO upd_same
  have fp2 : F2 p = none := A2.nf p fp (by rw [upd_same]; exact fun z => nomatch z)
  have hb : b.H p = none := by
    cases e : b.H p with
    | none => rfl
    | some u => exact absurd hp (V.kp p (by rw [e]; exact fun z => nomatch z))
  have V3 : Env b G σ F2 (upd H2 p (.dK kvs)) := V2.poke nO fp2 hb
  have A3 : After F H (owns G) F2 (upd H2 p (.dK kvs)) := by
    have A' := (B.mono (M' := owns G) fun _ h => nomatch h).trans A2
    have n1 : ∀ {x : Addr}, H x ≠ none → x ≠ p := fun h z => h (by rw [z]; exact hp)
    exact ⟨A'.ff, ex_mut fp2 A'.fh, fun x o hm hx => by rw [upd_ne (n1 (by rw [hx]; exact fun z => nomatch z))]; exact A'.hh x o hm hx, fun x hx => by rw [upd_ne (n1 hx)]; exact A'.kp x hx, A'.nf⟩
  have e : mergeK [] kvs = kvs := by
    rw [merge_new (by rw [s.kk hs]; exact nodup_inr nd) (fun _ _ q hq => absurd hq (by simp))]; rfl
  have ln : kvs.length ≤ 15 := by
    have := congrArg List.length (s.kk hs)
    rw [List.length_map, List.length_map] at this
    omega
  refine ⟨hp2, kvs, rfl, ln, ?_⟩
  rw [e]
  exact w a p _ F2 _ q2 A3 V3 hp fp2 upd_same ⟨kvs, rfl, hs⟩
end
end Mi
namespace Dh
open PySem PySem.Spec L2
section
variable {prog : Program} {w : World} {A : Around} {E : Value → Shared → Prop} {s : Shared} {K : PySem.W.Frag} {x y C L f : Addr} {h₀ : Heap} {m : Str → Option Value} {ox oy : Obj} {od odd : Option Obj}
/-- a op b, both of one own class that has the operator -/
theorem bin_same {op : Operator} {Q : Value → Shared → Prop} (Fr0 : PyProof.Rows.Fr h₀ L s.heap m) (X₀ : K.In h₀) (I : PySem.W.InstAt s.heap x ox C od) (J : PySem.W.InstAt s.heap y oy C odd) (hc : PySem.W.selfFirst K C = true)
    (hs : PySem.W.findIn K (.ref C) (PySem.dunder op.info.2) = some (some (.ref f))) (hf : PySem.W.isFn K (.ref f) = true)
    (h : wpAny (model prog w) A (call (.ref f) [.ref x, .ref y]) (PySem.W.CmpBack Q) E s) : wpAny (model prog w) A (binaryOp op (.ref x) (.ref y)) Q E s := by
  have X := X₀.keeps Fr0.keep
  obtain ⟨cd, rest, hcd, hm⟩ := PySem.W.ksp_first hc
  rcases hi : op.info with ⟨sym, nm'⟩
  rw [hi] at hs
  dsimp only at hs
  have one := PySem.W.ksp_try X I hs hf h
  obtain ⟨hh, g, d, tt, os⟩ := s
  have L1 : PySem.W.Looks (model prog w) hh (typeOf (.ref x)) (.ref C) := I.type
  have L2 : PySem.W.Looks (model prog w) hh (typeOf (.ref y)) (.ref C) := J.type
  have L3 : PySem.W.Looks (model prog w) hh (fillsNumberSlot (.ref C) nm') true := PySem.W.fills_K X hcd hm hs
  simp only [binaryOp, hi]
  refine wpAny_holding (wpAny_bind ?_)
  unfold binaryOp1
  refine wpAny_bind (L1.at (wpAny_bind (L2.at (wpAny_bind (L3.at ?_)))))
  simp only [beq_self_eq_true, if_true]
  ksp_lk
  refine wpAny_mono one (fun r s' hr' => ?_) fun _ _ e => e
  obtain ⟨v, rfl, hq⟩ := hr'
  ksp_lk
  exact hq
end
section
variable {X : Cx} {CX : CXT} {k : Nat} {f C : Addr} {fd : FuncData} {ps : List Str} {sp : Sp} {E : XK}
def rOwnS (C : Addr) (sp : Sp) (E : XK) : R2 := fun x y H Q => ∃ a dx fs c dy gs, x = .ref a ∧ y = .ref c ∧ H a = some (.ins C dx fs) ∧ H c = some (.ins C dy gs) ∧ sp [x, y] H Q E
theorem op_ownS {op : Operator} (F : FnOk X.prog X.w X.K X.mg X.base CX k f fd ps sp) (hr : Room k X.A) (hc : PySem.W.selfFirst X.K C = true)
    (hs : PySem.W.findIn X.K (.ref C) (PySem.dunder op.info.2) = some (some (.ref f))) (hf : PySem.W.isFn X.K (.ref f) = true) (hb : Binds X.K fd ps []) (hx : Passes CX X E) : OpR X (binaryOp op) (rOwnS C sp E) := by
  intro pins s σ H x y v u Q I rx ry h
  obtain ⟨a, dx, fs, c, dy, gs, rfl, rfl, ha, hy, hsp⟩ := h
  obtain rfl : v = Value.ref a := rx
  obtain rfl : u = Value.ref c := ry
  obtain ⟨mA, J, _⟩ := ins_get I.hok ha
  obtain ⟨od, J, _⟩ := J.look
  obtain ⟨mB, J2, _⟩ := ins_get I.hok hy
  obtain ⟨od2, J2, _⟩ := J2.look
  obtain ⟨m, hF⟩ := I.fr
  refine bin_same hF I.ok.mod.kin J J2 hc hs hf ?_
  refine wpAny_mono (run_fn (us := [.ref a, .ref c]) (ds := []) (dvs := []) F hr hb .nil hx I (.cons (show RelV (.ref a) (.ref a) from rfl) (.cons (show RelV (.ref c) (.ref c) from rfl) .nil)) (by simpa using hsp)) (fun u s' q => cmpBack_of q) fun _ _ e => e
end
end Dh
/-! K08Or -/
set_option Elab.async false
set_option linter.all false
set_option maxRecDepth 100000
set_option maxHeartbeats 4000000
namespace Dh
open PySem PySem.Spec L2
open _root_.Evl (Ex)
local macro_rules | `(tactic| walk_at "ex") => `(tactic| first | assumption | ((with_reducible apply ex_mut); (focus assumption); walk_at "ex") | ((with_reducible apply ex_both); walk_at "ex") | ((with_reducible apply ex_new); (focus assumption); walk_at "ex"))
local macro_rules | `(tactic| walk_at "hp") => `(tactic| first | assumption | with_reducible exact upd_same | ((with_reducible apply upd_old); (focus assumption); walk_at "hp") | ((with_reducible apply upd_oth); (focus walk_at "neq"); walk_at "hp") | ((with_reducible apply ex_by); (focus assumption); walk_at "ex") | ((with_reducible apply ex_at); (focus assumption); walk_at "hp"))
local macro_rules | `(tactic| walk_at "neq") => `(tactic| first | assumption | (apply Ne.symm; assumption))
local macro_rules | `(tactic| walk_at "sq") => `(tactic| first | assumption | ((with_reducible apply SqL.of); walk_at "hp") | ((with_reducible apply SqT.of); walk_at "hp"))
local macro_rules | `(tactic| walk_at "side") => `(tactic| first | assumption | decide | exact cm_fmod (by decide) (by decide) | (show _ ≠ (0 : Int); decide) | (show _ ≠ (0 : Int); omega) | exact Or.inr ⟨by decide, by decide⟩ | exact Or.inl ⟨by decide, by decide⟩ | (show CDivN _ _; exact ⟨by decide, by decide⟩) | (show CDivN _ _; exact ⟨by omega, by omega⟩) | exact Or.inl ⟨by omega, by omega⟩ | exact Or.inr ⟨by omega, by omega⟩ | exact ⟨by decide, by decide, by decide⟩)
local macro_rules | `(tactic| walk_at "ix") => `(tactic| first | exact rfl | assumption | exact atI_nat (by assumption))
local macro_rules | `(tactic| walk_at "step0") => `(tactic| first
  | with_reducible refine i_seq ?_
  | with_reducible refine i_asg ?_
  | with_reducible refine i_op ?_
  | ((with_reducible refine' i_var ?hv ?_); (case hv => exact rfl))
  | with_reducible refine i_c ?_
  | with_reducible refine i_cons ?_
  | with_reducible refine i_nil ?_
  | with_reducible refine i_cb ?_
  | with_reducible refine i_call ?_
  | with_reducible refine i_call' ?_
  | with_reducible refine i_un ?_
  | with_reducible refine i_I0 ?_
  | ((with_reducible refine i_I ?hv ?_); (case hv => walk_at "side"))
  | with_reducible refine i_eqI ?_
  | with_reducible refine i_neI ?_
  | with_reducible refine i_eqS ?_
  | with_reducible refine i_neS ?_
  | ((with_reducible refine i_eq ?hv ?_); (case hv => exact rfl))
  | ((with_reducible refine i_ne ?hv ?_); (case hv => exact rfl))
  | with_reducible refine i_int1 ?_
  | with_reducible refine i_abs ?_
  | ((with_reducible refine' i_ixL ?hv ?hw ?_); (case hv => walk_at "sq"); (case hw => walk_at "ix"))
  | ((with_reducible refine' i_ixT ?hv ?hw ?_); (case hv => walk_at "sq"); (case hw => walk_at "ix"))
  | ((with_reducible refine' i_lenL ?hv ?_); (case hv => walk_at "sq"))
  | ((with_reducible refine' i_lenT ?hv ?_); (case hv => walk_at "sq"))
  | with_reducible refine i_addIB ?_
  | with_reducible refine i_mulIB ?_
  | ((with_reducible refine i_lenS ?hv ?_); (case hv => walk_at "side"))
  | with_reducible refine i_tup ?_
  | with_reducible refine i_lst ?_
  | with_reducible refine i_asgG ?_
  | with_reducible refine i_gname ?_
  | with_reducible refine i_gsub ?_
  | ((with_reducible refine' i_setL ?hv ?hw ?_); (case hv => walk_at "hp"); (case hw => exact rfl))
  | with_reducible refine i_ret ?_
  | with_reducible refine i_drop ?_
  | with_reducible refine i_next ?_
  | with_reducible refine i_test ?_
  | with_reducible refine i_B ?_
  | with_reducible refine i_bl ?_
  | with_reducible refine i_not ?_
  | with_reducible refine i_and ?_
  | with_reducible refine i_or ?_
  | ((with_reducible refine' i_app ?hv ?hw ?_); (case hv => walk_at "hp"); (case hw => walk_at "side"))
  | with_reducible refine iteT ?_
  | with_reducible refine iteF ?_
  | with_reducible refine iteNT ?_
  | with_reducible refine iteNF ?_
  | ((with_reducible refine iteT' ?hv ?_); (case hv => first | exact decide_eq_true (by assumption) | exact notF (by assumption) | exact decide_eq_true rfl | exact notF (by decide) | exact decide_eq_true (by decide) | exact decide_eq_true (by simp only [List.length_cons, List.length_nil]; decide)))
  | ((with_reducible refine iteF' ?hv ?_); (case hv => first | exact decide_eq_false (by assumption) | exact notT (by assumption) | exact notT rfl | exact decide_eq_false (by decide) | exact decide_eq_false (by simp only [List.length_cons, List.length_nil]; decide)))
  | with_reducible refine i_forL ?_
  | with_reducible refine i_forT ?_
  | with_reducible refine i_forR ?_
  | with_reducible refine i_forR2 ?_
  | with_reducible refine i_forE ?_
  | with_reducible refine i_forV ?_
  | with_reducible refine i_forS ?_
  | with_reducible refine i_forK ?_
  | with_reducible refine i_lcL ?_
  | with_reducible refine i_lcT ?_
  | with_reducible refine i_lcR ?_
  | with_reducible refine i_lcR2 ?_
  | with_reducible refine i_lcS ?_
  | with_reducible refine i_lcK ?_
  | ((with_reducible refine' fl_L ?hv ?_); (case hv => walk_at "sq"))
  | ((with_reducible refine' fl_T ?hv ?_); (case hv => walk_at "sq"))
  | ((with_reducible refine fl_R ?hv ?hw ?_); (case hv => (first | decide | omega)); (case hw => (first | decide | omega)))
  | ((with_reducible refine fl_R2 ?hv ?_); (case hv => (first | decide | (refine ⟨?_, ?_, ?_, ?_⟩ <;> omega))))
  | ((with_reducible refine' fl_E ?hv ?_); (case hv => walk_at "sq"))
  | ((with_reducible refine' fl_V ?hv ?_); (case hv => walk_at "sq"))
  | with_reducible refine fl_S ?_
  | ((with_reducible refine' fc_L ?hv ?_); (case hv => walk_at "sq"))
  | ((with_reducible refine' fc_T ?hv ?_); (case hv => walk_at "sq"))
  | ((with_reducible refine fc_R ?hv ?hw ?_); (case hv => (first | decide | omega)); (case hw => (first | decide | omega)))
  | with_reducible refine fc_S ?_
  | with_reducible refine i_sl ?_
  | with_reducible refine i_nopart ?_
  | with_reducible refine i_part ?_
  | with_reducible refine i_isint ?_
  | ((with_reducible refine' i_slL ?hv ?_); (case hv => walk_at "sq"))
  | ((with_reducible refine i_slS ?hv ?_); (case hv => walk_at "side"))
  | ((with_reducible refine' i_gtup ?hv ?hw ?_); (case hv => walk_at "sq"); (case hw => exact rfl))
  | with_reducible refine i_gcons ?_
  | with_reducible refine i_gnil ?_
  | ((with_reducible refine' i_listL ?hv ?_); (case hv => walk_at "sq"))
  | ((with_reducible refine' i_listT ?hv ?_); (case hv => walk_at "sq"))
  | ((with_reducible refine' i_tupL ?hv ?_); (case hv => walk_at "sq"))
  | ((with_reducible refine' i_lenD ?hv ?_); (case hv => walk_at "hp"))
  | ((with_reducible refine' i_ty ?hv ?_); (case hv => walk_at "hp"))
  | ((with_reducible refine And.intro ?hv ?_); (case hv => first | exact (by decide : (0 : Nat) ≤ sizeLine) | exact (by decide : (1 : Nat) ≤ sizeLine) | exact (by decide : (2 : Nat) ≤ sizeLine) | exact (by decide : (3 : Nat) ≤ sizeLine) | exact (by decide : (4 : Nat) ≤ sizeLine) | exact (by decide : (5 : Nat) ≤ sizeLine) | exact (by decide : (6 : Nat) ≤ sizeLine)))
  | with_reducible refine i_inC ?_
  | ((with_reducible refine i_addT ?hv ?_); (case hv => walk_at "side"))
  | with_reducible refine i_m1 ?_
  | with_reducible refine i_isstr ?_
  | with_reducible refine is_int_int ?_
  | with_reducible refine is_int_bool ?_
  | with_reducible refine is_str_str ?_
  | ((with_reducible refine' is_tup_tup ?hv ?_); (case hv => walk_at "hp"))
  | with_reducible refine i_ifExp ?_
  | with_reducible refine i_andV ?_
  | with_reducible refine i_orV ?_
  | with_reducible refine i_notV ?_
  | with_reducible refine i_chain ?_
  | ((with_reducible refine' i_inS ?hv ?_); (case hv => walk_at "sq"))
  | ((with_reducible refine' i_niS ?hv ?_); (case hv => walk_at "sq"))
  | ((with_reducible refine' i_inI ?hv ?_); (case hv => walk_at "sq"))
  | ((with_reducible refine' i_niI ?hv ?_); (case hv => walk_at "sq"))
  | with_reducible refine i_dnew ?_
  | with_reducible refine i_dput ?_
  | ((with_reducible refine' i_dputI ?hv ?hw ?_); (case hv => walk_at "hp"); (case hw => walk_at "side"))
  | with_reducible refine i_dget ?_
  | ((with_reducible refine' i_dgetI ?hv ?hw ?_); (case hv => walk_at "hp"); (case hw => assumption))
  | with_reducible refine i_dnotin ?_
  | with_reducible refine i_din ?_
  | ((with_reducible refine' i_dnotinI ?hv ?_); (case hv => walk_at "hp"))
  | with_reducible refine i_dsetd ?_
  | ((with_reducible refine' i_isd ?hv ?_); (case hv => walk_at "hp"))
  | with_reducible refine i_fld ?_
  | with_reducible refine i_sfld ?_
  | with_reducible refine i_dcT ?_
  | with_reducible refine i_dcL ?_
  | with_reducible refine i_truT ?_
  | ((with_reducible refine' i_truL ?hv ?_); (case hv => walk_at "sq"))
  | with_reducible refine i_revL ?_
  | ((with_reducible refine' i_atLx ?hv ?_); (case hv => walk_at "sq"))
  | with_reducible refine i_bm ?_
  | with_reducible refine i_bm0 ?_)
local macro_rules | `(tactic| walk_at "step") => `(tactic| first | walk_at "step0" | with_reducible refine i_ifS ?_)
local macro_rules | `(tactic| walk_at "goj") => `(tactic| repeat (first | walk_at "step0" | with_reducible refine i_ifS (c := tTest _) ?_ | with_reducible refine i_ifS (c := tB _) ?_))
local macro_rules | `(tactic| walk_at "tj") => `(tactic| (intro q hq; repeat (first | exact hq | walk_at "step" | (refine and_q hq (fun h => ?_); clear hq; rename_i hq) | (refine or_q hq (fun h => ?_); clear hq; rename_i hq))))
local macro_rules | `(tactic| walk_at "go") => `(tactic| repeat walk_at "step")

section
variable {P : Program} {w : World} {K : PySem.W.Frag} {mg : Str → Option Value} {base : Heap} {A : Ad}
def spOr (K : PySem.W.Frag) (C : Addr) : Sp := fun vs H Q _ => ∃ (p q dx r s d1 d2 dx' r' s' d1' d2' : Addr) (ts ts' : List V) (es es' : List En) (F : Hp), vs = [.ref p, .ref q] ∧ Ex F H ∧
  H p = some (.ins C dx (shF r s d1 d2)) ∧ H r = some (.tup ts) ∧ EsAt F ts es ∧ H q = some (.ins C dx' (shF r' s' d1' d2')) ∧ H r' = some (.tup ts') ∧ EsAt F ts' es' ∧ (∀ e ∈ es ++ es', e.Ok) ∧ ((es ++ es').map En.num).Nodup ∧ (es ++ es').length < 64 ∧
  ∀ (y dy r s d1 d2 : Addr) (ts2 : List V) (es2 : List En) (H' : Hp), Ex H H' → H y = none → ShO H' C dy y r s d1 d2 ts2 es2 → H r = none → H s = none → H d1 = none → H d2 = none → y ≠ r → y ≠ s → y ≠ d1 → y ≠ d2 → EsAt F ts2 es2 → es2.Perm (es ++ es') → Asc (es2.map En.num) → Q (.ref y) H'
theorem ok_Sheet___or__ (T : Txt K mg A) : FnOk P w K mg base CX0 7 A.f_Sheet_XorX A.d_Sheet_XorX ["self", "other"] (spOr K A.C_Sheet) := by
  refine T.F_Sheet_XorX.ok sc_Sheet_XorX (fun vs H Q E h => ?_) (fun cdv Ar outer s0 H vs Q E hr h => ?_)
  · obtain ⟨p, q, dx, r, s, d1, d2, dx', r', s', d1', d2', ts, ts', es, es', F, rfl, _⟩ := h; rfl
  · obtain ⟨p, q, dx, r, s, d1, d2, dx', r', s', d1', d2', ts, ts', es, es', F, rfl, x, hp, hr1, EA, hq, hr2, EA', O, nd, l64, k⟩ := h
    have el := EA.length
    have el' := EA'.length
    refine ⟨_, (pss_cons (ps_if (pt_not (pt_val (pe_callB call_isi (by rfl) T.b_isinstance (by decide +kernel) (pa_cons (pv 1) (pa_cons (pe_glob (v := .ref A.C_Sheet) rfl T.g_Sheet rfl) pa_nil))))) (pss_one ps_never) pss_nil)
  (pss_one (ps_ret (pe_make T.mk_Sheet (ok_Sheet___init__ T) (hr.mono (by decide)) rfl T.g_Sheet T.bi_Sheet_XinitX .nil pass0 (pa_cons (pe_op op_catA (pe_fld (pv 0) rfl) (pe_fld (pv 1) rfl)) pa_nil))))), ?_⟩
    dsimp only [cxOf, Cx.nox, Cx.wish]
    walk_at "go"
    refine ⟨.ref q, .ref A.C_Sheet, .ref A.C_Sheet, .ref A.C_Sheet, true, rfl, .own _, .base (.ins hq T.cl_Sheet T.kc_Sheet T.kn_obj T.kt_obj T.km_Sheet), ?_, ?_⟩
    · unfold PySem.W.kitOne
      rw [if_pos (by simp)]
    walk_at "go"
    refine i_make ?_
    walk_at "go"
    refine i_fldR hp T.cl_Sheet T.na_Sheet__rows shF_r ?_
    walk_at "go"
    refine i_fldR hq T.cl_Sheet T.na_Sheet__rows shF_r ?_
    walk_at "go"
    refine i_catA (SqT.of hr1) (SqT.of hr2) (by rw [List.length_append] at l64; rw [sizeLine_eq]; omega) fun t H1 e1 ht => ?_
    walk_at "go"
    refine i_mk (.inr ht) (x.trans e1) (paired_app EA EA') O nd l64 fun y dy r2 s2 d12 d22 ts2 es2 H2 e2 hy0 OO hr20 hs20 hd120 hd220 yr ys yd1 yd2 EA2 pe asc => ?_
    exact k y dy r2 s2 d12 d22 ts2 es2 H2 (e1.trans e2) (ex_none e1 hy0) OO (ex_none e1 hr20) (ex_none e1 hs20) (ex_none e1 hd120) (ex_none e1 hd220) yr ys yd1 yd2 EA2 pe asc
end
end Dh
namespace Mi
open PySem PySem.Spec L2 Dh
open _root_.Evl (Ex)
section
variable {K : PySem.W.Frag} {b : Bs} {G : List Sl} {σ : L2.St} {F H F' H' : Hp}
/-- s | Sheet(..) -/
theorem enc_or {Cl : Addr} {te : TE} {Ek : XK} {i : Nat} {p : Addr} {es : List En} {f : (List En → Prop) → Prop} (hi : G[i]? = some (own p (cSh Cl) es)) (h : ENc b G te (cSh Cl) f) :
    ENc b G (tOp (rOwnS Cl (spOr K Cl) Ek) (tVar i) te) (cSh Cl) (fun k => f fun es' => ShPre (es ++ es') ∧ ∀ es2 : List En, es2.Perm (es ++ es') → Asc (es2.map En.num) → k es2) := fun σ F H Q k V q w => by
  obtain ⟨o, h1, rfl, u0, hu0, hc0⟩ := V.hold.at_ hi
  refine ⟨.ref p, h1, ?_⟩
  refine h _ V q ?_
  rintro es' y u F1 H1 ⟨⟨O, nd, l64⟩, q1⟩ A1 V1 hy fy hy1 ⟨dx', r', s', d1', d2', ts', rfl, P'⟩
  obtain ⟨o, h1', e, u, hu, dx, r, s, d1, d2, ts, rfl, P⟩ := V1.hold.at_ hi
  refine ⟨p, dx, _, y, dx', _, rfl, rfl, hu, hy1, ?_⟩
  refine ⟨p, y, dx, r, s, d1, d2, dx', r', s', d1', d2', ts, ts', es, es', F1, rfl, V1.fh, hu, V1.fh _ _ P.1, P.2.2.2.2, hy1, V1.fh _ _ P'.1, P'.2.2.2.2, O, nd, l64, fun z dz r2 s2 d12 d22 ts2 es2 H2 e12 hp SO hr hs hd1 hd2 pr ps pd1 pd2 EA pe asc => ?_⟩
  have fp : F1 z = none := ex_none V1.fh hp
  have A2 : After F1 H1 [] (nz F1 H1 H2 z) H2 := ⟨nz_ex V1.fh fp, nz_fh V1.fh fun a o _ h => e12 a o h, fun a o _ h => e12 a o h, fun a h => by
    cases z : H1 a with
    | none => exact absurd z h
    | some u => rw [e12 a u z]; exact (fun z => nomatch z), fun a ha h => by
    by_cases n : a = z
    · rw [n]; exact nz_p
    · cases z : H1 a with
      | none => exact absurd z h
      | some u => rw [nz_old n z]; exact ha⟩
  have p0 : H z = none := by
    cases e : H z with
    | none => rfl
    | some u => exact absurd hp (A1.kp z (by rw [e]; exact fun z => nomatch z))
  obtain ⟨k1, a1, b1⟩ := SO.h1
  obtain ⟨k2, a2, b2⟩ := SO.h2
  refine w es2 z _ (nz F1 H1 H2 z) H2 (q1 es2 pe asc) (A1.trans (A2.mono fun _ h => nomatch h)) (V1.step A2) p0 nz_p SO.hp ⟨dz, r2, s2, d12, d22, ts2, rfl, ?_⟩
  exact ⟨(nz_new pr.symm hr).trans SO.hr, (nz_new ps.symm hs).trans SO.hs, ⟨k1, (nz_new pd1.symm hd1).trans a1, b1⟩, ⟨k2, (nz_new pd2.symm hd2).trans a2, b2⟩, Paired.mapP EA fun _ _ q => q.ex (nz_ex V1.fh fp)⟩
end
section
variable {P : Program} {w : World} {K : PySem.W.Frag} {mg : Str → Option Value} {base : Heap} {A : Ad}
theorem rel_opt {o : Option Str} {F : Hp} : (rOpt rStr).h o (vOf o) F := by
  cases o with
  | none => rfl
  | some x => exact ⟨rfl, fun z => nomatch z⟩
theorem okM_Sheet_sign_of (T : Txt K mg A) : FnOk P w K mg base CX0 1 A.f_Sheet_sign_of A.d_Sheet_sign_of ["self", "day"] (spR (cSh A.C_Sheet) (rOne rInt) (rOpt rStr) (fun es n k => k (toldN es "sign" n))) := (ok_Sheet_sign_of T).imp fun vs H Q E h => by
  obtain ⟨p, ws, es, n, F, k, rfl, fp, ⟨u, hu, dx, r, s, d1, d2, ts, rfl, P⟩, e, ⟨v, rfl, rfl⟩, q, w⟩ := h
  exact ⟨p, n, dx, r, s, d1, d2, ts, es, rfl, sh_of e hu P, w _ _ F H q (.refl e _) ⟨_, hu, dx, r, s, d1, d2, ts, rfl, P⟩ rel_opt⟩
theorem okM_Sheet_rule_of (T : Txt K mg A) : FnOk P w K mg base CX0 1 A.f_Sheet_rule_of A.d_Sheet_rule_of ["self", "day"] (spR (cSh A.C_Sheet) (rOne rInt) (rOpt rStr) (fun es n k => 0 ≤ n ∧ k (ruleN es n.toNat))) := (ok_Sheet_rule_of T).imp fun vs H Q E h => by
  obtain ⟨p, ws, es, n, F, k, rfl, fp, ⟨u, hu, dx, r, s, d1, d2, ts, rfl, P⟩, e, ⟨v, rfl, rfl⟩, ⟨n0, q⟩, w⟩ := h
  obtain ⟨m, rfl⟩ := Int.eq_ofNat_of_zero_le n0
  exact ⟨p, m, dx, r, s, d1, d2, ts, es, rfl, sh_of e hu P, w _ _ F H q (.refl e _) ⟨_, hu, dx, r, s, d1, d2, ts, rfl, P⟩ rel_opt⟩
end
end Mi
/-! K08Mb -/
set_option Elab.async false
set_option linter.all false
set_option maxRecDepth 100000
set_option maxHeartbeats 4000000
namespace Mi
open PySem PySem.Spec L2 Dh
open _root_.Evl (Ex)
section
variable {P : Program} {w : World} {K : PySem.W.Frag} {mg : Str → Option Value} {base : Heap} {A : Ad}
theorem okE_BadNumber (T : Txt K mg A) : FnOk P w K mg base CX0 1 A.f_BadNumber_XinitX A.d_BadNumber_XinitX ["self", "name"] (spE A.C_BadNumber "name") := by
  refine T.F_BadNumber_XinitX.ok sc_BadNumber_XinitX (fun vs H Q E h => ?_) (fun cdv Ar outer s0 H vs Q E hr h => ?_)
  · obtain ⟨a, v, rfl, _⟩ := h; rfl
  · obtain ⟨a, v, rfl, ha, k⟩ := h
    refine ⟨_, (pss_one (ps_ost (pv 0) (pv 1) rfl)), ?_⟩
    dsimp only [cxOf, Cx.nox, Cx.wish]
    exact ⟨_, rfl, _, rfl, a, A.C_BadNumber, rfl, T.ox_BadNumber, T.nx_BadNumber, .inl ⟨ha, fun dx n0 ne => k dx n0 ne⟩⟩
def W_check_number (word0 : Str) (number0 : (Int ⊕ Bool)) (low0 : Int) (high0 : Int) (k : Unit → Prop) (kx : Str → Prop) : Prop :=
  (fun (n3 : Unit → Prop) => W_is_number number0 low0 high0 fun v4 => ((!v4) = true → kx word0) ∧ ((!v4) = false → n3 ())) fun x1 => k ()
theorem okM_check_number (T : Txt K mg A) : FnOk P w K mg base (L2N.CX P w) 3 A.f_check_number A.d_check_number ["word", "number", "low", "high"] (spX (rCons rStr (rCons rIB (rCons rInt (rOne rInt)))) rNon (x1 A.C_BadNumber "name" rStr) (fun x k kx => W_check_number x.1 x.2.1 x.2.2.1 x.2.2.2 k kx)) := by
  refine okN T.F_check_number sc_check_number (fun vs H Q E h => spX_len h) (fun cdv Ar outer s0 H vs Q E hr h => ?_)
  refine ⟨_, (pss_one (ps_if (pt_not (pt_val (pe_call (okM_is_number T) (hr.mono (by decide)) rfl T.g_is_number T.F_is_number.kp T.bi_is_number .nil pass0 (pa_cons (pv 1) (pa_cons (pv 2) (pa_cons (pv 3) pa_nil)))))) (pss_one (ps_raiseT rfl (L2N.takes_of rfl rfl rfl rfl) (mkN T.ox_BadNumber T.ix_BadNumber T.tx_BadNumber (okE_BadNumber T) (hr.mono (by decide)) T.bi_BadNumber_XinitX pass0 rfl T.g_BadNumber (pa_cons (pv 0) pa_nil)))) pss_nil)), ?_⟩
  try dsimp only [cxOf, Cx.nox, Cx.wish]
  exact run_XN (m := 0) (τ := Unit) h rfl (fun b x kx hM O => s_cq (Gn := fun _ : Unit => [any, any, any, any])
    (s_wk (G := [val rStr x.1, val rIB x.2.1, val rInt x.2.2.1, val rInt x.2.2.2]) (g := fun (x1 : Unit) => ()) (s_if (Gn := (fun x1 : Unit => [val rStr x.1, val rIB x.2.1, val rInt x.2.2.1, val rInt x.2.2.2])) (t_not (t_B (e_call (ar_cons (e_var (i := 1) rfl) (ar_cons (e_var (i := 2) rfl) (ar_one (e_var (i := 3) rfl)))))))
  (s_raise (i := fun e => e) O trivial xs_id (e_var (i := 0) rfl))
  (s_wk (G := [val rStr x.1, val rIB x.2.1, val rInt x.2.2.1, val rInt x.2.2.2]) (g := fun _ => ()) s_nil (fun _ => (Sub.keep (Sub.keep (Sub.keep (Sub.keep Sub.nil))))))) (fun (x1 : Unit) => (Sub.drop (Sub.drop (Sub.drop (Sub.drop Sub.nil)))))) (fun d h => h)) (fun x k kx h => by
    unfold W_check_number at h
    dsimp only at h ⊢
    exact h)
def W_Sheet_life_of (y : (List En)) (days0 : (Int ⊕ Bool)) (plain0 : Str) (k : (List Str) → Prop) (kx : Str → Prop) : Prop :=
  W_check_number ("days" : Str) days0 (0 : Int) (60 : Int) (fun v3 => ∃ v2, days0 = .inl v2 ∧ (-(2 ^ 62) ≤ v2 ∧ v2 < 2 ^ 62) ∧ (rng 0 v2.toNat).length ≤ sizeLine ∧ k ((rng 0 v2.toNat).map fun (a1 : Int) => (((fun n => toldN y "sign" n) a1).getD plain0))) (fun e4 => kx e4)
theorem okM_Sheet_life_of (T : Txt K mg A) : FnOk P w K mg base (L2N.CX P w) 4 A.f_Sheet_life_of A.d_Sheet_life_of ["self", "days", "plain"] (spRX (cSh A.C_Sheet) (rCons rIB (rOne rStr)) (rTup K rStr) (x1 A.C_BadNumber "name" rStr) (fun y x k kx => W_Sheet_life_of y x.1 x.2 k kx)) := by
  refine okN T.F_Sheet_life_of sc_Sheet_life_of (fun vs H Q E h => spRX_len h) (fun cdv Ar outer s0 H vs Q E hr h => ?_)
  refine ⟨_, (pss_cons (ps_expr (pe_callS (okM_check_number T) (hr.mono (by decide)) rfl T.g_check_number T.F_check_number.kp T.bi_check_number (fun σ => L2N.passAt (L2N.takes_of rfl rfl rfl rfl) σ) (pa_cons pe_str (pa_cons (pv 1) (pa_cons pe_int (pa_cons (pe_glob (v := .int 60) rfl T.c_MOST_DAYS ⟨_, rfl⟩) pa_nil))))))
  (pss_one (ps_ret (pe_callTy cl_tuple (by rfl) T.b_tuple (by decide +kernel) (pa_cons (pe_lc (own := [("day", 3)]) (g := gName 3) (tt := tYes) rfl sc_Sheet_life_of.nd (pi_range1 rfl T.b_range (pa_cons (pv 1) pa_nil)) (blkOk_by (N := ["self", "days", "plain", "day"]) (sc := defScope s_Sheet_life_of) (by decide +kernel)) (fun _ _ _ _ _ => (pg_name (i := 3) sc_Sheet_life_of.nd rfl (Or.inl rfl))) (fun _ _ _ _ _ => pts_nil) (fun _ _ _ _ _ => (pe_dget2 (hu_of hr) (show PE _ _ (tFld K _ _) from (pe_fld (pv 0) rfl)) (pv 3) (pv 2) ⟨by rfl, by rfl, by rfl, by rfl⟩))) pa_nil))))), ?_⟩
  try dsimp only [cxOf, Cx.nox, Cx.wish]
  exact run_RX (m := 1) (τ := Unit) h rfl (fun b p y x kx hM O => s_cq (Gn := fun _ : Unit => [])
    (s_seq (s_drop (e_callX O rfl (j := fun e => e) xs_id (ar_cons e_str (ar_cons (e_var (i := 1) rfl) (ar_cons e_int (ar_one e_int)))))) fun _ =>
  (s_retR (i := 0) (y := y) rfl (e_tupL (lv_e (e_new (en_compM (wk_range1 (ar_one (e_ibGet (e_var (i := 1) rfl)))) g_name rfl (fun a1 => t_yes) (fun a1 => (e_dget2F (e_fSigns (i := 0) T.cl_Sheet T.na_Sheet__signs rfl) (e_var (i := 3) rfl) (e_var (i := 2) rfl))))))))) (fun d h => h)) (fun y x k kx h => by
    unfold W_Sheet_life_of at h
    dsimp only at h ⊢
    exact h)
def W_Sheet_code_of (y : (List En)) (days0 : (Int ⊕ Bool)) (first0 : Str) (k : (List Str) → Prop) (kx : Str → Prop) : Prop :=
  W_check_number ("days" : Str) days0 (0 : Int) (60 : Int) (fun v12 => let code1 : (List Str) := ([] : List Str); let rule4 : Str := first0; ∃ v11, days0 = .inl v11 ∧ (-(2 ^ 62) ≤ v11 ∧ v11 < 2 ^ 62) ∧ forP (rng 0 v11.toNat) (rule4, code1) (fun (a8 : Int) (x5 : Str × (List Str)) (n6 : (Str × (List Str)) → Prop) => let rule9 : Str := (((fun n => toldN y "rule" n) a8).getD x5.1); x5.2.length < sizeLine ∧ let y10 : Str := rule9; n6 (rule9, (x5.2 ++ [y10]))) fun x5 => k x5.2) (fun e13 => kx e13)
theorem okM_Sheet_code_of (T : Txt K mg A) : FnOk P w K mg base (L2N.CX P w) 4 A.f_Sheet_code_of A.d_Sheet_code_of ["self", "days", "first"] (spRX (cSh A.C_Sheet) (rCons rIB (rOne rStr)) (rTup K rStr) (x1 A.C_BadNumber "name" rStr) (fun y x k kx => W_Sheet_code_of y x.1 x.2 k kx)) := by
  refine okN T.F_Sheet_code_of sc_Sheet_code_of (fun vs H Q E h => spRX_len h) (fun cdv Ar outer s0 H vs Q E hr h => ?_)
  refine ⟨_, (pss_cons (ps_expr (pe_callS (okM_check_number T) (hr.mono (by decide)) rfl T.g_check_number T.F_check_number.kp T.bi_check_number (fun σ => L2N.passAt (L2N.takes_of rfl rfl rfl rfl) σ) (pa_cons pe_str (pa_cons (pv 1) (pa_cons pe_int (pa_cons (pe_glob (v := .int 60) rfl T.c_MOST_DAYS ⟨_, rfl⟩) pa_nil))))))
  (pss_cons (ps_set (i := 3) sc_Sheet_code_of.nd rfl (Or.inl rfl) (pe_lst pa_nil))
  (pss_cons (ps_set (i := 4) sc_Sheet_code_of.nd rfl (Or.inl rfl) (pv 2))
  (pss_cons (ps_for (passes_of rfl) rfl (pi_range1 rfl T.b_range (pa_cons (pv 1) pa_nil)) (pg_name (i := 5) sc_Sheet_code_of.nd rfl (Or.inl rfl))
   (pss_cons (ps_set (i := 4) sc_Sheet_code_of.nd rfl (Or.inl rfl) (pe_dget2 (hu_of hr) (pe_fld (pv 0) rfl) (pv 5) (pv 4) ⟨by rfl, by rfl, by rfl, by rfl⟩))
  (pss_one (ps_expr (pe_bm PySem.F.plainAttrs_list PySem.F.slot_list_append PySem.F.type_list_append mt_append (pv 3) (pa_cons (pv 4) pa_nil))))))
  (pss_one (ps_ret (pe_callTy cl_tuple (by rfl) T.b_tuple (by decide +kernel) (pa_cons (pv 3) pa_nil)))))))), ?_⟩
  try dsimp only [cxOf, Cx.nox, Cx.wish]
  exact run_RX (m := 3) (τ := Unit) h rfl (fun b p y x kx hM O => s_cq (Gn := fun _ : Unit => [])
    (s_seq (s_drop (e_callX O rfl (j := fun e => e) xs_id (ar_cons e_str (ar_cons (e_var (i := 1) rfl) (ar_cons e_int (ar_one e_int)))))) fun _ =>
  (s_newc (i := 3) (enc_lst (en_lst al_nil (by decide))) fun p2 code1 hm3 =>
  (s_seq (s_asg (i := 4) (e_var (i := 2) rfl)) fun rule4 =>
  (s_seq (s_for (Gt := (fun x5 : Str × (List Str) => [own p (cSh A.C_Sheet) y, val rIB x.1, val rStr x.2, own p2 (cLst rStr) x5.2, val rStr x5.1, any])) (x0 := (rule4, code1)) (wk_range1 (ar_one (e_ibGet (e_var (i := 1) rfl)))) g_name (Sub.keep (Sub.keep (Sub.keep (Sub.keep (Sub.keep (Sub.keep Sub.nil)))))) (fun a8 x5 =>
  (s_seq (s_asg (i := 4) (e_dget2F (e_fRules (i := 0) T.cl_Sheet T.na_Sheet__rules rfl) (e_var (i := 5) rfl) (e_var (i := 4) rfl))) fun rule9 =>
  (s_wk (G := [own p (cSh A.C_Sheet) y, val rIB x.1, val rStr x.2, own p2 (cLst rStr) x5.2, val rStr rule9, val rInt a8]) (g := fun (y10 : Str) => (rule9, (x5.2 ++ [y10]))) (s_app (i := 3) rfl (e_var (i := 4) rfl)) (fun (y10 : Str) => (Sub.keep (Sub.keep (Sub.keep (Sub.keep (Sub.keep (Sub.drop Sub.nil))))))))))) fun x5 =>
  (s_retR (i := 0) (y := y) rfl (e_tupL (lv_own (i := 3) rfl))))))) (fun d h => h)) (fun y x k kx h => by
    unfold W_Sheet_code_of at h
    dsimp only at h ⊢
    exact h)
def W_l_standing (read0 : (List En)) (k : (List En) → Prop) : Prop :=
  let bynumber1 : (List (Int × En)) := []; forP read0 bynumber1 (fun (a7 : En) (x4 : (List (Int × En))) (n5 : (List (Int × En)) → Prop) => x4.length < sizeLine ∧ let y8 : Int × En := (a7.num, a7); n5 (dPut x4 y8.1 y8.2)) fun x4 => let gone9 : (List (Int × Bool)) := []; let out12 : (List En) := ([] : List En); read0.length ≤ sizeLine ∧ ∀ v19 : List Int, v19.Perm (read0.map fun (a18 : En) => a18.num) → OrdB true v19 → forP v19 (gone9, out12) (fun (a20 : Int) (x15 : (List (Int × Bool)) × (List En)) (n16 : ((List (Int × Bool)) × (List En)) → Prop) => ∃ v30, dGet x4 a20 = some v30 ∧ let entry21 : En := v30; (fun (n24 : ((List (Int × Bool)) × (List En)) → Prop) => (((!(dGet x15.1 a20).isSome) && (decide (entry21.form = ("void" : Str)))) = true → x15.1.length < sizeLine ∧ let y25 : Int × Bool := (entry21.two, true); n24 ((dPut x15.1 y25.1 y25.2), x15.2)) ∧ (((!(dGet x15.1 a20).isSome) && (decide (entry21.form = ("void" : Str)))) = false → (fun (n28 : (List En) → Prop) => ((!(dGet x15.1 a20).isSome) = true → x15.2.length < sizeLine ∧ let y29 : En := entry21; n28 (x15.2 ++ [y29])) ∧ ((!(dGet x15.1 a20).isSome) = false → n28 x15.2)) fun x26 => n24 (x15.1, x26))) fun x22 => n16 (x22.1, x22.2)) fun x15 => k x15.2
theorem okM_l_standing (T : Txt K mg A) : FnOk P w K mg base CX0 1 A.f_l_standing A.d_l_standing ["_law_read"] (spP (rOne (rLst rEn)) (rLst rEn) (fun x k => W_l_standing x k)) := by
  refine T.F_l_standing.ok sc_l_standing (fun vs H Q E h => spP_len h) (fun cdv Ar outer s0 H vs Q E hr h => ?_)
  refine ⟨_, (pss_cons (ps_set (i := 1) sc_l_standing.nd rfl (Or.inl rfl) pe_dnewK)
  (pss_cons (ps_for PassesOwn.never rfl (pi_list (pv 0)) (pg_name (i := 2) sc_l_standing.nd rfl (Or.inl rfl))
   (pss_one (ps_dput (hu_of hr) (pv 1) (pe_ix ix_tup (pv 2) pe_int (fun _ _ => rfl)) (pv 2) rfl)))
  (pss_cons (ps_set (i := 3) sc_l_standing.nd rfl (Or.inl rfl) pe_dnewK)
  (pss_cons (ps_set (i := 4) sc_l_standing.nd rfl (Or.inl rfl) (pe_lst pa_nil))
  (pss_cons (ps_for PassesOwn.never rfl (pi_list (pe_callBK (cr_sortedRev (b := true)) (by rfl) T.b_sorted (by decide +kernel) (pa_cons (pe_lc (own := [("_law_entry", 2)]) (g := gName 2) (tt := tYes) rfl sc_l_standing.nd (pi_list (pv 0)) (blkOk_by (N := ["_law_read", "_law_by_number", "_law_entry", "_law_gone", "_law_out", "_law_number"]) (sc := defScope s_l_standing) (by decide +kernel)) (fun _ _ _ _ _ => (pg_name (i := 2) sc_l_standing.nd rfl (Or.inl rfl))) (fun _ _ _ _ _ => pts_nil) (fun _ _ _ _ _ => (pe_callTy cl_int (by rfl) T.b_int (by decide +kernel) (pa_cons (pe_ix (show IxR _ (rIxT K) from ix_tup) (pv 2) pe_int (fun _ _ => rfl)) pa_nil)))) pa_nil) (pk_cons pe_bl pk_nil))) (pg_name (i := 5) sc_l_standing.nd rfl (Or.inl rfl))
   (pss_cons (ps_set (i := 2) sc_l_standing.nd rfl (Or.inl rfl) (pe_dget (hu_of hr) (pv 1) (pv 5) (fun _ _ => rfl)))
  (pss_one (ps_if (PW.pt (pw_and (pt_cmp (pc_dnotin (hu_of hr) (pv 5) (pv 3))) (pw_and1 (pt_cmpR op_eq (pe_ix ix_tup (pv 2) pe_int (fun _ _ => rfl)) pe_str (nomark _))))) (pss_one (ps_dput (hu_of hr) (pv 3) (pe_ix ix_tup (pv 2) pe_int (fun _ _ => rfl)) pe_bl rfl)) (pss_one (ps_if (pt_cmp (pc_dnotin (hu_of hr) (pv 5) (pv 3))) (pss_one (ps_expr (pe_bm PySem.F.plainAttrs_list PySem.F.slot_list_append PySem.F.type_list_append mt_append (pv 4) (pa_cons (pv 2) pa_nil)))) pss_nil))))))
  (pss_one (ps_ret (pv 4)))))))), ?_⟩
  try dsimp only [cxOf, Cx.nox, Cx.wish]
  exact run_P (m := 5) (τ := Unit) h rfl (fun b x hM => s_cq (Gn := fun _ : Unit => [])
    (s_newc (i := 1) (enc_dct (ke := (Sum.inl : Int → Key)) (r := rEn)) fun p2 bynumber1 hm3 =>
  (s_seq (s_for (Gt := (fun x4 : (List (Int × En)) => [val (rLst rEn) x, own p2 (cDct (Sum.inl : Int → Key) rEn) x4, any, any, any, any])) (x0 := bynumber1) (wk_list (e_var (i := 0) rfl)) g_name (Sub.keep (Sub.keep (Sub.keep (Sub.keep (Sub.keep (Sub.keep Sub.nil)))))) (fun a7 x4 =>
  (s_wk (G := [val (rLst rEn) x, own p2 (cDct (Sum.inl : Int → Key) rEn) x4, val rEn a7, any, any, any]) (g := fun (y8 : Int × En) => (dPut x4 y8.1 y8.2)) (s_dput (i := 1) kr_int rfl (e_var (i := 2) rfl) (e_en0 (e_var (i := 2) rfl))) (fun (y8 : Int × En) => (Sub.keep (Sub.keep (Sub.drop (Sub.keep (Sub.keep (Sub.keep Sub.nil)))))))))) fun x4 =>
  (s_newc (i := 3) (enc_dct (ke := (Sum.inl : Int → Key)) (r := rBl)) fun p10 gone9 hm11 =>
  (s_newc (i := 4) (enc_lst (en_lst al_nil (by decide))) fun p13 out12 hm14 =>
  (s_seq (s_for (Gt := (fun x15 : (List (Int × Bool)) × (List En) => [val (rLst rEn) x, own p2 (cDct (Sum.inl : Int → Key) rEn) x4, any, own p10 (cDct (Sum.inl : Int → Key) rBl) x15.1, own p13 (cLst rEn) x15.2, any])) (x0 := (gone9, out12)) (wk_list (e_new (en_sortR (lv_e (e_new (en_compM (wk_list (e_var (i := 0) rfl)) g_name rfl (fun a18 => t_yes) (fun a18 => (e_int1 (e_en0 (e_var (i := 2) rfl))))))) (by intro σ H q h; exact h)))) g_name (Sub.keep (Sub.keep (Sub.keep (Sub.keep (Sub.keep (Sub.keep Sub.nil)))))) (fun a20 x15 =>
  (s_seq (s_asg (i := 2) (e_dget kr_int (dv_own (i := 1) rfl) (e_var (i := 5) rfl))) fun entry21 =>
  (s_wk (G := [val (rLst rEn) x, own p2 (cDct (Sum.inl : Int → Key) rEn) x4, val rEn entry21, own p10 (cDct (Sum.inl : Int → Key) rBl) x15.1, own p13 (cLst rEn) x15.2, val rInt a20]) (g := fun (x22 : (List (Int × Bool)) × (List En)) => (x22.1, x22.2)) (s_if (Gn := (fun x22 : (List (Int × Bool)) × (List En) => [val (rLst rEn) x, own p2 (cDct (Sum.inl : Int → Key) rEn) x4, val rEn entry21, own p10 (cDct (Sum.inl : Int → Key) rBl) x22.1, own p13 (cLst rEn) x22.2, val rInt a20])) (t_andP (t_test (e_dnotin kr_int (e_var (i := 5) rfl) (dv_own (i := 3) rfl))) (t_test (e_op o_eqS (e_en1 (e_var (i := 2) rfl)) e_str)))
  (s_wk (G := [val (rLst rEn) x, own p2 (cDct (Sum.inl : Int → Key) rEn) x4, val rEn entry21, own p10 (cDct (Sum.inl : Int → Key) rBl) x15.1, own p13 (cLst rEn) x15.2, val rInt a20]) (g := fun (y25 : Int × Bool) => ((dPut x15.1 y25.1 y25.2), x15.2)) (s_dput (i := 3) kr_int rfl e_bl (e_en2 (e_var (i := 2) rfl))) (fun (y25 : Int × Bool) => (Sub.keep (Sub.keep (Sub.keep (Sub.keep (Sub.keep (Sub.keep Sub.nil))))))))
  (s_wk (G := [val (rLst rEn) x, own p2 (cDct (Sum.inl : Int → Key) rEn) x4, val rEn entry21, own p10 (cDct (Sum.inl : Int → Key) rBl) x15.1, own p13 (cLst rEn) x15.2, val rInt a20]) (g := fun (x26 : (List En)) => (x15.1, x26)) (s_if (Gn := (fun x26 : (List En) => [val (rLst rEn) x, own p2 (cDct (Sum.inl : Int → Key) rEn) x4, val rEn entry21, own p10 (cDct (Sum.inl : Int → Key) rBl) x15.1, own p13 (cLst rEn) x26, val rInt a20])) (t_test (e_dnotin kr_int (e_var (i := 5) rfl) (dv_own (i := 3) rfl)))
  (s_wk (G := [val (rLst rEn) x, own p2 (cDct (Sum.inl : Int → Key) rEn) x4, val rEn entry21, own p10 (cDct (Sum.inl : Int → Key) rBl) x15.1, own p13 (cLst rEn) x15.2, val rInt a20]) (g := fun (y29 : En) => (x15.2 ++ [y29])) (s_app (i := 4) rfl (e_var (i := 2) rfl)) (fun (y29 : En) => (Sub.keep (Sub.keep (Sub.keep (Sub.keep (Sub.keep (Sub.keep Sub.nil))))))))
  (s_wk (G := [val (rLst rEn) x, own p2 (cDct (Sum.inl : Int → Key) rEn) x4, val rEn entry21, own p10 (cDct (Sum.inl : Int → Key) rBl) x15.1, own p13 (cLst rEn) x15.2, val rInt a20]) (g := fun _ => x15.2) s_nil (fun _ => (Sub.keep (Sub.keep (Sub.keep (Sub.keep (Sub.keep (Sub.keep Sub.nil))))))))) (fun (x26 : (List En)) => (Sub.keep (Sub.keep (Sub.keep (Sub.keep (Sub.keep (Sub.keep Sub.nil))))))))) (fun (x22 : (List (Int × Bool)) × (List En)) => (Sub.keep (Sub.keep (Sub.drop (Sub.keep (Sub.keep (Sub.drop Sub.nil))))))))))) fun x15 =>
  (s_frz (i := 4) (r := (rLst rEn)) rfl hm14 frz_lst (s_retP (e_var (i := 4) rfl)))))))) (fun d h => h)) (fun x k h => by
    unfold W_l_standing at h
    dsimp only at h ⊢
    exact h)
def W_l_tracks (read0 : (List En)) (days0 : Int) (come0 : Bool) (signbase0 : Str) (rulebase0 : Str) (k : ((List Str) × (List Str)) → Prop) : Prop :=
  W_l_standing read0 fun v59 => let standing1 : (List En) := v59; (-(2 ^ 62) ≤ days0 ∧ days0 < 2 ^ 62) ∧ (rng 0 days0.toNat).length ≤ sizeLine ∧ let signs2 : (List Str) := ((rng 0 days0.toNat).map fun (a3 : Int) => signbase0); (-(2 ^ 62) ≤ days0 ∧ days0 < 2 ^ 62) ∧ (rng 0 days0.toNat).length ≤ sizeLine ∧ let ranks6 : (List Int) := ((rng 0 days0.toNat).map fun (a7 : Int) => (-(1 : Int))); let points10 : (List (Int × (Int × Str))) := []; forP (enumL read0) (signs2, ranks6, points10) (fun (a16 : (Int × En)) (x13 : (List Str) × (List Int) × (List (Int × (Int × Str)))) (n14 : ((List Str) × (List Int) × (List (Int × (Int × Str)))) → Prop) => (fun (k43 : Int → Prop) => (come0 = true → k43 a16.1) ∧ (come0 = false → k43 a16.2.num)) fun v44 => let worth17 : Int := v44; (fun (n20 : Unit → Prop) => (EnStr a16.2) ∧ (∀ z42 ∈ standing1, EnStr z42) ∧ (((!decide (a16.2 ∈ standing1)) || (decide (a16.2.two ≥ days0))) = true → n14 (x13.1, x13.2.1, x13.2.2)) ∧ (((!decide (a16.2 ∈ standing1)) || (decide (a16.2.two ≥ days0))) = false → n20 ())) fun x18 => (fun (n23 : ((List Str) × (List Int) × (List (Int × (Int × Str)))) → Prop) => (fun (k39 : Bool → Prop) => ((decide (a16.2.form = ("sign" : Str))) = true → ∃ v41, atI x13.2.1 a16.2.two = some v41 ∧ k39 (decide (worth17 > v41))) ∧ ((decide (a16.2.form = ("sign" : Str))) = false → k39 false)) fun c40 => (c40 = true → ∃ v28, a16.2.name? = some v28 ∧ ∃ j27, ixN x13.1.length a16.2.two = some j27 ∧ let y24 : Nat × Str := (j27, v28); ∃ j26, ixN x13.2.1.length a16.2.two = some j26 ∧ let y25 : Nat × Int := (j26, worth17); n23 ((x13.1.set y24.1 y24.2), (x13.2.1.set y25.1 y25.2), x13.2.2)) ∧ (c40 = false → (fun (n31 : (List (Int × (Int × Str))) → Prop) => (fun (k34 : Bool → Prop) => ((decide (a16.2.form = ("rule" : Str))) = true → (fun (k36 : Bool → Prop) => ((!(dGet x13.2.2 a16.2.two).isSome) = true → k36 true) ∧ ((!(dGet x13.2.2 a16.2.two).isSome) = false → ∃ v38, dGet x13.2.2 a16.2.two = some v38 ∧ k36 (decide (worth17 > v38.1)))) fun c37 => k34 c37) ∧ ((decide (a16.2.form = ("rule" : Str))) = false → k34 false)) fun c35 => (c35 = true → ∃ v33, a16.2.name? = some v33 ∧ x13.2.2.length < sizeLine ∧ let y32 : Int × (Int × Str) := (a16.2.two, (worth17, v33)); n31 (dPut x13.2.2 y32.1 y32.2)) ∧ (c35 = false → n31 x13.2.2)) fun x29 => n23 (x13.1, x13.2.1, x29))) fun x21 => n14 (x21.1, x21.2.1, x21.2.2)) fun x13 => let names45 : (List Str) := ([] : List Str); let name48 : Str := rulebase0; (-(2 ^ 62) ≤ days0 ∧ days0 < 2 ^ 62) ∧ forP (rng 0 days0.toNat) (name48, names45) (fun (a52 : Int) (x49 : Str × (List Str)) (n50 : (Str × (List Str)) → Prop) => (fun (n55 : Str → Prop) => ((dGet x13.2.2 a52).isSome = true → ∃ v57, dGet x13.2.2 a52 = some v57 ∧ let name56 : Str := v57.2; n55 name56) ∧ ((dGet x13.2.2 a52).isSome = false → n55 x49.1)) fun x53 => x49.2.length < sizeLine ∧ let y58 : Str := x53; n50 (x53, (x49.2 ++ [y58]))) fun x49 => k (x13.1, x49.2)
theorem okM_l_tracks (T : Txt K mg A) : FnOk P w K mg base CX0 2 A.f_l_tracks A.d_l_tracks ["_law_read", "_law_days", "_law_come", "_law_sign_base", "_law_rule_base"] (spP (rCons (rLst rEn) (rCons rInt (rCons rBl (rCons rStr (rOne rStr))))) (rTp K (rCons (rLst rStr) (rOne (rLst rStr)))) (fun x k => W_l_tracks x.1 x.2.1 x.2.2.1 x.2.2.2.1 x.2.2.2.2 k)) := by
  refine T.F_l_tracks.ok sc_l_tracks (fun vs H Q E h => spP_len h) (fun cdv Ar outer s0 H vs Q E hr h => ?_)
  refine ⟨_, (pss_cons (ps_set (i := 5) sc_l_tracks.nd rfl (Or.inl rfl) (pe_call (okM_l_standing T) (hr.mono (by decide)) rfl T.g_l_standing T.F_l_standing.kp T.bi_l_standing .nil pass0 (pa_cons (pv 0) pa_nil)))
  (pss_cons (ps_setLc (i := 6) (own := [("_law_day", 7)]) (g := gName 7) (tt := tYes) rfl sc_l_tracks.nd rfl rfl (sw_true rfl rfl rfl (by decide +kernel)) (pi_range1 rfl T.b_range (pa_cons (pv 1) pa_nil)) (blkOk_by (N := ["_law_read", "_law_days", "_law_come", "_law_sign_base", "_law_rule_base", "_law_standing_here", "_law_signs", "_law_day", "_law_ranks", "_law_points", "_law_at", "_law_entry", "_law_worth", "_law_names", "_law_name"]) (sc := defScope s_l_tracks) (by decide +kernel)) (fun _ _ _ _ _ => (pg_name (i := 7) sc_l_tracks.nd rfl (Or.inl rfl))) (fun _ _ _ _ _ => pts_nil) (fun _ _ _ _ _ => (pv 3)))
  (pss_cons (ps_setLc (i := 8) (own := [("_law_day", 7)]) (g := gName 7) (tt := tYes) rfl sc_l_tracks.nd rfl rfl (sw_true rfl rfl rfl (by decide +kernel)) (pi_range1 rfl T.b_range (pa_cons (pv 1) pa_nil)) (blkOk_by (N := ["_law_read", "_law_days", "_law_come", "_law_sign_base", "_law_rule_base", "_law_standing_here", "_law_signs", "_law_day", "_law_ranks", "_law_points", "_law_at", "_law_entry", "_law_worth", "_law_names", "_law_name"]) (sc := defScope s_l_tracks) (by decide +kernel)) (fun _ _ _ _ _ => (pg_name (i := 7) sc_l_tracks.nd rfl (Or.inl rfl))) (fun _ _ _ _ _ => pts_nil) (fun _ _ _ _ _ => (pe_un un_neg pe_int)))
  (pss_cons (ps_set (i := 9) sc_l_tracks.nd rfl (Or.inl rfl) pe_dnewK)
  (pss_cons (ps_for PassesOwn.never rfl (pi_enum (by rfl) T.b_enumerate (pa_cons (pv 0) pa_nil)) (pg_tup (n := 2) rfl (pgs_cons (pg_name (i := 10) sc_l_tracks.nd rfl (Or.inl rfl)) (pgs_cons (pg_name (i := 11) sc_l_tracks.nd rfl (Or.inl rfl)) pgs_nil)) (by rfl))
   (pss_cons (ps_set (i := 12) sc_l_tracks.nd rfl (Or.inl rfl) (pe_ifExp (pt_val (pv 2)) (pv 10) (pe_ix ix_tup (pv 11) pe_int (fun _ _ => rfl))))
  (pss_cons (ps_if (PW.pt (pw_or (pt_cmpR (show OpR _ (compareOp .NotIn) (rNotInD K) from op_notInD (un65 hr)) (pv 11) (pv 5) rfl) (pw_or1 (pt_cmpR op_ge (pe_ix ix_tup (pv 11) pe_int (fun _ _ => rfl)) (pv 1) (nomark _))))) (pss_one ps_continue) pss_nil)
  (pss_one (ps_if (PW.pt (pw_and (pt_cmpR op_eq (pe_ix ix_tup (pv 11) pe_int (fun _ _ => rfl)) pe_str (nomark _)) (pw_and1 (pt_cmpR op_gt (pv 12) (pe_ix ix_list (pv 8) (pe_ix ix_tup (pv 11) pe_int (fun _ _ => rfl)) (fun _ _ => rfl)) (nomark _))))) (pss_cons (ps_asg (pe_ix ix_tup (pv 11) pe_int (fun _ _ => rfl)) (pg_sub (pv 6) (pe_ix ix_tup (pv 11) pe_int (fun _ _ => rfl)) set_list))
  (pss_one (ps_asg (pv 12) (pg_sub (pv 8) (pe_ix ix_tup (pv 11) pe_int (fun _ _ => rfl)) set_list)))) (pss_one (ps_if (PW.pt (pw_and (pt_cmpR op_eq (pe_ix ix_tup (pv 11) pe_int (fun _ _ => rfl)) pe_str (nomark _)) (pw_and1 (PW.pt (pw_or (pt_cmp (pc_dnotin (hu_of hr) (pe_ix ix_tup (pv 11) pe_int (fun _ _ => rfl)) (pv 9))) (pw_or1 (pt_cmpR op_gt (pv 12) (pe_ix ix_tup (pe_dget (hu_of hr) (pv 9) (pe_ix ix_tup (pv 11) pe_int (fun _ _ => rfl)) (fun _ _ => rfl)) pe_int (fun _ _ => rfl)) (nomark _)))))))) (pss_one (ps_dput (hu_of hr) (pv 9) (pe_ix ix_tup (pv 11) pe_int (fun _ _ => rfl)) (pe_tup (pa_cons (pv 12) (pa_cons (pe_ix ix_tup (pv 11) pe_int (fun _ _ => rfl)) pa_nil))) rfl)) pss_nil)))))))
  (pss_cons (ps_set (i := 13) sc_l_tracks.nd rfl (Or.inl rfl) (pe_lst pa_nil))
  (pss_cons (ps_set (i := 14) sc_l_tracks.nd rfl (Or.inl rfl) (pv 4))
  (pss_cons (ps_for PassesOwn.never rfl (pi_range1 rfl T.b_range (pa_cons (pv 1) pa_nil)) (pg_name (i := 7) sc_l_tracks.nd rfl (Or.inl rfl))
   (pss_cons (ps_if (pt_cmp (pc_din (hu_of hr) (pv 7) (pv 9))) (pss_one (ps_set (i := 14) sc_l_tracks.nd rfl (Or.inl rfl) (pe_ix ix_tup (pe_dget (hu_of hr) (pv 9) (pv 7) (fun _ _ => rfl)) pe_int (fun _ _ => rfl)))) pss_nil)
  (pss_one (ps_expr (pe_bm PySem.F.plainAttrs_list PySem.F.slot_list_append PySem.F.type_list_append mt_append (pv 13) (pa_cons (pv 14) pa_nil))))))
  (pss_one (ps_ret (pe_tup (pa_cons (pv 6) (pa_cons (pv 13) pa_nil))))))))))))), ?_⟩
  try dsimp only [cxOf, Cx.nox, Cx.wish]
  exact run_P (m := 10) (τ := Unit) h rfl (fun b x hM => s_cq (Gn := fun _ : Unit => [])
    (s_seq (s_asg (i := 5) (e_call (ar_one (e_var (i := 0) rfl)))) fun standing1 =>
  (s_newc (i := 6) (enc_lst (en_compM (wk_range1 (ar_one (e_var (i := 1) rfl))) g_name rfl (fun a3 => t_yes) (fun a3 => (e_var (i := 3) rfl)))) fun p4 signs2 hm5 =>
  (s_newc (i := 8) (enc_lst (en_compM (wk_range1 (ar_one (e_var (i := 1) rfl))) g_name rfl (fun a7 => t_yes) (fun a7 => (e_neg e_int)))) fun p8 ranks6 hm9 =>
  (s_newc (i := 9) (enc_dct (ke := (Sum.inl : Int → Key)) (r := (rTp K (rCons rInt (rOne rStr))))) fun p11 points10 hm12 =>
  (s_seq (s_for (Gt := (fun x13 : (List Str) × (List Int) × (List (Int × (Int × Str))) => [val (rLst rEn) x.1, val rInt x.2.1, val rBl x.2.2.1, val rStr x.2.2.2.1, val rStr x.2.2.2.2, val (rLst rEn) standing1, own p4 (cLst rStr) x13.1, any, own p8 (cLst rInt) x13.2.1, own p11 (cDct (Sum.inl : Int → Key) (rTp K (rCons rInt (rOne rStr)))) x13.2.2, any, any, any, any, any])) (x0 := (signs2, ranks6, points10)) (wk_enum (ar_one (e_var (i := 0) rfl))) (g_tup (gi_cons gi_one) rfl) (Sub.keep (Sub.keep (Sub.keep (Sub.keep (Sub.keep (Sub.keep (Sub.keep (Sub.keep (Sub.keep (Sub.keep (Sub.keep (Sub.keep (Sub.keep (Sub.keep (Sub.keep Sub.nil))))))))))))))) (fun a16 x13 =>
  (s_seq (s_asg (i := 12) (e_if (t_B (e_var (i := 2) rfl)) (e_var (i := 10) rfl) (e_en0 (e_var (i := 11) rfl)))) fun worth17 =>
  (s_seq (s_if (Gn := (fun x18 : Unit => [val (rLst rEn) x.1, val rInt x.2.1, val rBl x.2.2.1, val rStr x.2.2.2.1, val rStr x.2.2.2.2, val (rLst rEn) standing1, own p4 (cLst rStr) x13.1, any, own p8 (cLst rInt) x13.2.1, own p11 (cDct (Sum.inl : Int → Key) (rTp K (rCons rInt (rOne rStr)))) x13.2.2, val rInt a16.1, val rEn a16.2, val rInt worth17, any, any])) (t_orP (t_test (e_op (o_notInD daEn (Nat.le_of_ble_eq_true rfl)) (e_var (i := 11) rfl) (e_var (i := 5) rfl))) (t_test (e_op o_I0b (e_en2 (e_var (i := 11) rfl)) (e_var (i := 1) rfl))))
  (s_ct (x := (x13.1, x13.2.1, x13.2.2)) (Sub.keep (Sub.keep (Sub.keep (Sub.keep (Sub.keep (Sub.keep (Sub.keep (Sub.keep (Sub.keep (Sub.keep (Sub.drop (Sub.drop (Sub.drop (Sub.keep (Sub.keep Sub.nil))))))))))))))))
  (s_wk (G := [val (rLst rEn) x.1, val rInt x.2.1, val rBl x.2.2.1, val rStr x.2.2.2.1, val rStr x.2.2.2.2, val (rLst rEn) standing1, own p4 (cLst rStr) x13.1, any, own p8 (cLst rInt) x13.2.1, own p11 (cDct (Sum.inl : Int → Key) (rTp K (rCons rInt (rOne rStr)))) x13.2.2, val rInt a16.1, val rEn a16.2, val rInt worth17, any, any]) (g := fun _ => ()) s_nil (fun _ => (Sub.keep (Sub.keep (Sub.keep (Sub.keep (Sub.keep (Sub.keep (Sub.keep (Sub.keep (Sub.keep (Sub.keep (Sub.keep (Sub.keep (Sub.keep (Sub.keep (Sub.keep Sub.nil)))))))))))))))))) fun x18 =>
  (s_wk (G := [val (rLst rEn) x.1, val rInt x.2.1, val rBl x.2.2.1, val rStr x.2.2.2.1, val rStr x.2.2.2.2, val (rLst rEn) standing1, own p4 (cLst rStr) x13.1, any, own p8 (cLst rInt) x13.2.1, own p11 (cDct (Sum.inl : Int → Key) (rTp K (rCons rInt (rOne rStr)))) x13.2.2, val rInt a16.1, val rEn a16.2, val rInt worth17, any, any]) (g := fun (x21 : (List Str) × (List Int) × (List (Int × (Int × Str)))) => (x21.1, x21.2.1, x21.2.2)) (s_if (Gn := (fun x21 : (List Str) × (List Int) × (List (Int × (Int × Str))) => [val (rLst rEn) x.1, val rInt x.2.1, val rBl x.2.2.1, val rStr x.2.2.2.1, val rStr x.2.2.2.2, val (rLst rEn) standing1, own p4 (cLst rStr) x21.1, any, own p8 (cLst rInt) x21.2.1, own p11 (cDct (Sum.inl : Int → Key) (rTp K (rCons rInt (rOne rStr)))) x21.2.2, val rInt a16.1, val rEn a16.2, val rInt worth17, any, any])) (t_and (t_test (e_op o_eqS (e_en1 (e_var (i := 11) rfl)) e_str)) (t_test (e_op o_I0b (e_var (i := 12) rfl) (e_ixL (lv_own (i := 8) rfl) (e_en2 (e_var (i := 11) rfl))))))
  (s_seq (s_setL (i := 6) rfl (e_en3 (e_var (i := 11) rfl)) (e_en2 (e_var (i := 11) rfl))) fun y24 =>
  (s_wk (G := [val (rLst rEn) x.1, val rInt x.2.1, val rBl x.2.2.1, val rStr x.2.2.2.1, val rStr x.2.2.2.2, val (rLst rEn) standing1, own p4 (cLst rStr) (x13.1.set y24.1 y24.2), any, own p8 (cLst rInt) x13.2.1, own p11 (cDct (Sum.inl : Int → Key) (rTp K (rCons rInt (rOne rStr)))) x13.2.2, val rInt a16.1, val rEn a16.2, val rInt worth17, any, any]) (g := fun (y25 : Nat × Int) => ((x13.1.set y24.1 y24.2), (x13.2.1.set y25.1 y25.2), x13.2.2)) (s_setL (i := 8) rfl (e_var (i := 12) rfl) (e_en2 (e_var (i := 11) rfl))) (fun (y25 : Nat × Int) => (Sub.keep (Sub.keep (Sub.keep (Sub.keep (Sub.keep (Sub.keep (Sub.keep (Sub.keep (Sub.keep (Sub.keep (Sub.keep (Sub.keep (Sub.keep (Sub.keep (Sub.keep Sub.nil))))))))))))))))))
  (s_wk (G := [val (rLst rEn) x.1, val rInt x.2.1, val rBl x.2.2.1, val rStr x.2.2.2.1, val rStr x.2.2.2.2, val (rLst rEn) standing1, own p4 (cLst rStr) x13.1, any, own p8 (cLst rInt) x13.2.1, own p11 (cDct (Sum.inl : Int → Key) (rTp K (rCons rInt (rOne rStr)))) x13.2.2, val rInt a16.1, val rEn a16.2, val rInt worth17, any, any]) (g := fun (x29 : (List (Int × (Int × Str)))) => (x13.1, x13.2.1, x29)) (s_if (Gn := (fun x29 : (List (Int × (Int × Str))) => [val (rLst rEn) x.1, val rInt x.2.1, val rBl x.2.2.1, val rStr x.2.2.2.1, val rStr x.2.2.2.2, val (rLst rEn) standing1, own p4 (cLst rStr) x13.1, any, own p8 (cLst rInt) x13.2.1, own p11 (cDct (Sum.inl : Int → Key) (rTp K (rCons rInt (rOne rStr)))) x29, val rInt a16.1, val rEn a16.2, val rInt worth17, any, any])) (t_and (t_test (e_op o_eqS (e_en1 (e_var (i := 11) rfl)) e_str)) (t_or (t_test (e_dnotin kr_int (e_en2 (e_var (i := 11) rfl)) (dv_own (i := 9) rfl))) (t_test (e_op o_I0b (e_var (i := 12) rfl) (e_it2_0 (e_dget kr_int (dv_own (i := 9) rfl) (e_en2 (e_var (i := 11) rfl))))))))
  (s_wk (G := [val (rLst rEn) x.1, val rInt x.2.1, val rBl x.2.2.1, val rStr x.2.2.2.1, val rStr x.2.2.2.2, val (rLst rEn) standing1, own p4 (cLst rStr) x13.1, any, own p8 (cLst rInt) x13.2.1, own p11 (cDct (Sum.inl : Int → Key) (rTp K (rCons rInt (rOne rStr)))) x13.2.2, val rInt a16.1, val rEn a16.2, val rInt worth17, any, any]) (g := fun (y32 : Int × (Int × Str)) => (dPut x13.2.2 y32.1 y32.2)) (s_dput (i := 9) kr_int rfl (e_tup (ar_cons (e_var (i := 12) rfl) (ar_one (e_en3 (e_var (i := 11) rfl)))) (Nat.le_of_ble_eq_true rfl)) (e_en2 (e_var (i := 11) rfl))) (fun (y32 : Int × (Int × Str)) => (Sub.keep (Sub.keep (Sub.keep (Sub.keep (Sub.keep (Sub.keep (Sub.keep (Sub.keep (Sub.keep (Sub.keep (Sub.keep (Sub.keep (Sub.keep (Sub.keep (Sub.keep Sub.nil)))))))))))))))))
  (s_wk (G := [val (rLst rEn) x.1, val rInt x.2.1, val rBl x.2.2.1, val rStr x.2.2.2.1, val rStr x.2.2.2.2, val (rLst rEn) standing1, own p4 (cLst rStr) x13.1, any, own p8 (cLst rInt) x13.2.1, own p11 (cDct (Sum.inl : Int → Key) (rTp K (rCons rInt (rOne rStr)))) x13.2.2, val rInt a16.1, val rEn a16.2, val rInt worth17, any, any]) (g := fun _ => x13.2.2) s_nil (fun _ => (Sub.keep (Sub.keep (Sub.keep (Sub.keep (Sub.keep (Sub.keep (Sub.keep (Sub.keep (Sub.keep (Sub.keep (Sub.keep (Sub.keep (Sub.keep (Sub.keep (Sub.keep Sub.nil)))))))))))))))))) (fun (x29 : (List (Int × (Int × Str)))) => (Sub.keep (Sub.keep (Sub.keep (Sub.keep (Sub.keep (Sub.keep (Sub.keep (Sub.keep (Sub.keep (Sub.keep (Sub.keep (Sub.keep (Sub.keep (Sub.keep (Sub.keep Sub.nil)))))))))))))))))) (fun (x21 : (List Str) × (List Int) × (List (Int × (Int × Str)))) => (Sub.keep (Sub.keep (Sub.keep (Sub.keep (Sub.keep (Sub.keep (Sub.keep (Sub.keep (Sub.keep (Sub.keep (Sub.drop (Sub.drop (Sub.drop (Sub.keep (Sub.keep Sub.nil))))))))))))))))))))) fun x13 =>
  (s_newc (i := 13) (enc_lst (en_lst al_nil (by decide))) fun p46 names45 hm47 =>
  (s_seq (s_asg (i := 14) (e_var (i := 4) rfl)) fun name48 =>
  (s_seq (s_for (Gt := (fun x49 : Str × (List Str) => [val (rLst rEn) x.1, val rInt x.2.1, val rBl x.2.2.1, val rStr x.2.2.2.1, val rStr x.2.2.2.2, val (rLst rEn) standing1, own p4 (cLst rStr) x13.1, any, own p8 (cLst rInt) x13.2.1, own p11 (cDct (Sum.inl : Int → Key) (rTp K (rCons rInt (rOne rStr)))) x13.2.2, any, any, any, own p46 (cLst rStr) x49.2, val rStr x49.1])) (x0 := (name48, names45)) (wk_range1 (ar_one (e_var (i := 1) rfl))) g_name (Sub.keep (Sub.keep (Sub.keep (Sub.keep (Sub.keep (Sub.keep (Sub.keep (Sub.keep (Sub.keep (Sub.keep (Sub.keep (Sub.keep (Sub.keep (Sub.keep (Sub.keep Sub.nil))))))))))))))) (fun a52 x49 =>
  (s_seq (s_if (Gn := (fun x53 : Str => [val (rLst rEn) x.1, val rInt x.2.1, val rBl x.2.2.1, val rStr x.2.2.2.1, val rStr x.2.2.2.2, val (rLst rEn) standing1, own p4 (cLst rStr) x13.1, val rInt a52, own p8 (cLst rInt) x13.2.1, own p11 (cDct (Sum.inl : Int → Key) (rTp K (rCons rInt (rOne rStr)))) x13.2.2, any, any, any, own p46 (cLst rStr) x49.2, val rStr x53])) (t_test (e_din kr_int (e_var (i := 7) rfl) (dv_own (i := 9) rfl)))
  (s_wk (G := [val (rLst rEn) x.1, val rInt x.2.1, val rBl x.2.2.1, val rStr x.2.2.2.1, val rStr x.2.2.2.2, val (rLst rEn) standing1, own p4 (cLst rStr) x13.1, val rInt a52, own p8 (cLst rInt) x13.2.1, own p11 (cDct (Sum.inl : Int → Key) (rTp K (rCons rInt (rOne rStr)))) x13.2.2, any, any, any, own p46 (cLst rStr) x49.2, val rStr x49.1]) (g := fun (name56 : Str) => name56) (s_asg (i := 14) (e_it2_1 (e_dget kr_int (dv_own (i := 9) rfl) (e_var (i := 7) rfl)))) (fun (name56 : Str) => (Sub.keep (Sub.keep (Sub.keep (Sub.keep (Sub.keep (Sub.keep (Sub.keep (Sub.keep (Sub.keep (Sub.keep (Sub.keep (Sub.keep (Sub.keep (Sub.keep (Sub.keep Sub.nil)))))))))))))))))
  (s_wk (G := [val (rLst rEn) x.1, val rInt x.2.1, val rBl x.2.2.1, val rStr x.2.2.2.1, val rStr x.2.2.2.2, val (rLst rEn) standing1, own p4 (cLst rStr) x13.1, val rInt a52, own p8 (cLst rInt) x13.2.1, own p11 (cDct (Sum.inl : Int → Key) (rTp K (rCons rInt (rOne rStr)))) x13.2.2, any, any, any, own p46 (cLst rStr) x49.2, val rStr x49.1]) (g := fun _ => x49.1) s_nil (fun _ => (Sub.keep (Sub.keep (Sub.keep (Sub.keep (Sub.keep (Sub.keep (Sub.keep (Sub.keep (Sub.keep (Sub.keep (Sub.keep (Sub.keep (Sub.keep (Sub.keep (Sub.keep Sub.nil)))))))))))))))))) fun x53 =>
  (s_wk (G := [val (rLst rEn) x.1, val rInt x.2.1, val rBl x.2.2.1, val rStr x.2.2.2.1, val rStr x.2.2.2.2, val (rLst rEn) standing1, own p4 (cLst rStr) x13.1, val rInt a52, own p8 (cLst rInt) x13.2.1, own p11 (cDct (Sum.inl : Int → Key) (rTp K (rCons rInt (rOne rStr)))) x13.2.2, any, any, any, own p46 (cLst rStr) x49.2, val rStr x53]) (g := fun (y58 : Str) => (x53, (x49.2 ++ [y58]))) (s_app (i := 13) rfl (e_var (i := 14) rfl)) (fun (y58 : Str) => (Sub.keep (Sub.keep (Sub.keep (Sub.keep (Sub.keep (Sub.keep (Sub.keep (Sub.drop (Sub.keep (Sub.keep (Sub.keep (Sub.keep (Sub.keep (Sub.keep (Sub.keep Sub.nil)))))))))))))))))))) fun x49 =>
  (s_frz (i := 6) (r := (rLst rStr)) rfl hm5 frz_lst (s_frz (i := 13) (r := (rLst rStr)) rfl hm47 frz_lst (s_retP (e_tup (ar_cons (e_var (i := 6) rfl) (ar_one (e_var (i := 13) rfl))) (Nat.le_of_ble_eq_true rfl))))))))))))) (fun d h => h)) (fun x k h => by
    unfold W_l_tracks at h
    dsimp only at h ⊢
    exact h)
def W_l_numbers (many0 : Int) (k : (List Int) → Prop) : Prop :=
  W_l_pick (6 : Int) fun v16 => ∃ v15, atI ([(0 : Int), (0 : Int), (0 : Int), (7 : Int), (95 : Int), (600 : Int)] : List Int) v16 = some v15 ∧ let number1 : Int := v15; W_l_pick (4 : Int) fun v14 => ∃ v13, atI ([(1 : Int), (2 : Int), (2 : Int), (5 : Int)] : List Int) v14 = some v13 ∧ let gap2 : Int := v13; let out3 : (List Int) := ([] : List Int); (-(2 ^ 62) ≤ many0 ∧ many0 < 2 ^ 62) ∧ forP (rng 0 many0.toNat) (number1, out3) (fun (a9 : Int) (x6 : Int × (List Int)) (n7 : (Int × (List Int)) → Prop) => W_l_pick gap2 fun v12 => let number10 : Int := ((x6.1 + (1 : Int)) + v12); x6.2.length < sizeLine ∧ let y11 : Int := number10; n7 (number10, (x6.2 ++ [y11]))) fun x6 => k x6.2
theorem okM_l_numbers (T : Txt K mg A) : FnOk P w K mg base CX0 3 A.f_l_numbers A.d_l_numbers ["_law_bag_here", "_law_many"] (spB (rOne rInt) (rLst rInt) (fun x k => W_l_numbers x k)) := by
  refine T.F_l_numbers.ok sc_l_numbers (fun vs H Q E h => spB_len h) (fun cdv Ar outer s0 H vs Q E hr h => ?_)
  refine ⟨_, (pss_cons (ps_set (i := 2) sc_l_numbers.nd rfl (Or.inl rfl) (pe_ix ix_list (pe_lst (pa_cons pe_int (pa_cons pe_int (pa_cons pe_int (pa_cons pe_int (pa_cons pe_int (pa_cons pe_int pa_nil))))))) (pe_call (okM_l_pick T) (hr.mono (by decide)) rfl T.g_l_pick T.F_l_pick.kp T.bi_l_pick .nil pass0 (pa_cons (pv 0) (pa_cons pe_int pa_nil))) (fun _ _ => rfl)))
  (pss_cons (ps_set (i := 3) sc_l_numbers.nd rfl (Or.inl rfl) (pe_ix ix_list (pe_lst (pa_cons pe_int (pa_cons pe_int (pa_cons pe_int (pa_cons pe_int pa_nil))))) (pe_call (okM_l_pick T) (hr.mono (by decide)) rfl T.g_l_pick T.F_l_pick.kp T.bi_l_pick .nil pass0 (pa_cons (pv 0) (pa_cons pe_int pa_nil))) (fun _ _ => rfl)))
  (pss_cons (ps_set (i := 4) sc_l_numbers.nd rfl (Or.inl rfl) (pe_lst pa_nil))
  (pss_cons (ps_for PassesOwn.never rfl (pi_range1 rfl T.b_range (pa_cons (pv 1) pa_nil)) (pg_name (i := 5) sc_l_numbers.nd rfl (Or.inl rfl))
   (pss_cons (ps_set (i := 2) sc_l_numbers.nd rfl (Or.inl rfl) (pe_op op_add (pe_op op_add (pv 2) pe_int) (pe_call (okM_l_pick T) (hr.mono (by decide)) rfl T.g_l_pick T.F_l_pick.kp T.bi_l_pick .nil pass0 (pa_cons (pv 0) (pa_cons (pv 3) pa_nil)))))
  (pss_one (ps_expr (pe_bm PySem.F.plainAttrs_list PySem.F.slot_list_append PySem.F.type_list_append mt_append (pv 4) (pa_cons (pv 2) pa_nil))))))
  (pss_one (ps_ret (pv 4))))))), ?_⟩
  try dsimp only [cxOf, Cx.nox, Cx.wish]
  exact run_B (m := 4) (τ := Unit) h rfl (fun b p x hM => s_cq (Gn := fun _ : Unit => [])
    (s_seq (s_asg (i := 2) (e_ixL (lv_e (e_new (en_lst (al_cons e_int (al_cons e_int (al_cons e_int (al_cons e_int (al_cons e_int (al_cons e_int al_nil)))))) (by decide)))) (e_callB (i := 0) rfl (ar_one e_int)))) fun number1 =>
  (s_seq (s_asg (i := 3) (e_ixL (lv_e (e_new (en_lst (al_cons e_int (al_cons e_int (al_cons e_int (al_cons e_int al_nil)))) (by decide)))) (e_callB (i := 0) rfl (ar_one e_int)))) fun gap2 =>
  (s_newc (i := 4) (enc_lst (en_lst al_nil (by decide))) fun p4 out3 hm5 =>
  (s_seq (s_for (Gt := (fun x6 : Int × (List Int) => [own p cBag (), val rInt x, val rInt x6.1, val rInt gap2, own p4 (cLst rInt) x6.2, any])) (x0 := (number1, out3)) (wk_range1 (ar_one (e_var (i := 1) rfl))) g_name (Sub.keep (Sub.keep (Sub.keep (Sub.keep (Sub.keep (Sub.keep Sub.nil)))))) (fun a9 x6 =>
  (s_seq (s_asg (i := 2) (e_op o_I0 (e_op o_I0 (e_var (i := 2) rfl) e_int) (e_callB (i := 0) rfl (ar_one (e_var (i := 3) rfl))))) fun number10 =>
  (s_wk (G := [own p cBag (), val rInt x, val rInt number10, val rInt gap2, own p4 (cLst rInt) x6.2, val rInt a9]) (g := fun (y11 : Int) => (number10, (x6.2 ++ [y11]))) (s_app (i := 4) rfl (e_var (i := 2) rfl)) (fun (y11 : Int) => (Sub.keep (Sub.keep (Sub.keep (Sub.keep (Sub.keep (Sub.drop Sub.nil))))))))))) fun x6 =>
  (s_frz (i := 4) (r := (rLst rInt)) rfl hm5 frz_lst (s_retB (i := 0) rfl (e_var (i := 4) rfl))))))) (fun d h => h)) (fun x k h => by
    unfold W_l_numbers at h
    dsimp only at h ⊢
    exact h)
def W_l_world  (k : ((List Str) × (List Str) × (List Int) × Str × Str) → Prop) : Prop :=
  let signs1 : (List Str) := ([] : List Str); W_l_pick (2 : Int) fun v33 => (-(2 ^ 62) ≤ ((1 : Int) + v33) ∧ ((1 : Int) + v33) < 2 ^ 62) ∧ forP (rng 0 ((1 : Int) + v33).toNat) signs1 (fun (a7 : Int) (x4 : (List Str)) (n5 : (List Str) → Prop) => W_l_new_name x4 fun y8 => n5 y8.2) fun x4 => let names9 : (List Str) := ([] : List Str); W_l_pick (3 : Int) fun v32 => (-(2 ^ 62) ≤ ((1 : Int) + v32) ∧ ((1 : Int) + v32) < 2 ^ 62) ∧ forP (rng 0 ((1 : Int) + v32).toNat) names9 (fun (a15 : Int) (x12 : (List Str)) (n13 : (List Str) → Prop) => W_l_new_name x12 fun y16 => n13 y16.2) fun x12 => W_l_pick (4 : Int) fun v31 => let span17 : Int := ((1 : Int) + v31); W_l_pick ((61 : Int) - span17) fun v29 => W_l_pick (3 : Int) fun v30 => ∃ v28, atI ([(0 : Int), ((60 : Int) - span17), v29] : List Int) v30 = some v28 ∧ let low18 : Int := v28; (-(2 ^ 62) ≤ low18 ∧ low18 < 2 ^ 62 ∧ -(2 ^ 62) ≤ ((low18 + span17) + (1 : Int)) ∧ ((low18 + span17) + (1 : Int)) < 2 ^ 62) ∧ (rng low18 (((low18 + span17) + (1 : Int)) - low18).toNat).length ≤ sizeLine ∧ let days19 : (List Int) := (((rng low18 (((low18 + span17) + (1 : Int)) - low18).toNat).filter fun (a20 : Int) => (decide (a20 < (60 : Int)))).map fun (a20 : Int) => a20); let world21 : ((List Str) × (List Str) × (List Int)) := (x4, x12, days19); x4.length + ([("ordinary" : Str)] : List Str).length ≤ sizeLine ∧ W_l_choice (x4 ++ ([("ordinary" : Str)] : List Str)) fun v27 => let y24 : Str := v27; x12.length + ([("ordinary" : Str)] : List Str).length ≤ sizeLine ∧ W_l_choice (x12 ++ ([("ordinary" : Str)] : List Str)) fun v26 => let y25 : Str := v26; k ((world21.1, world21.2.1, world21.2.2, y24).1, (world21.1, world21.2.1, world21.2.2, y24).2.1, (world21.1, world21.2.1, world21.2.2, y24).2.2.1, (world21.1, world21.2.1, world21.2.2, y24).2.2.2, y25)
theorem okM_l_world (T : Txt K mg A) : FnOk P w K mg base CX0 4 A.f_l_world A.d_l_world ["_law_bag_here"] (spB rNil (rRec (kCons "signs" (rLst rStr) (kCons "rules" (rLst rStr) (kCons "days" (rLst rInt) (kCons "sign" rStr (kOne "name" rStr)))))) (fun _ k => W_l_world k)) := by
  refine T.F_l_world.ok sc_l_world (fun vs H Q E h => spB_len h) (fun cdv Ar outer s0 H vs Q E hr h => ?_)
  refine ⟨_, (pss_cons (ps_set (i := 1) sc_l_world.nd rfl (Or.inl rfl) (pe_lst pa_nil))
  (pss_cons (ps_for PassesOwn.never rfl (pi_range1 rfl T.b_range (pa_cons (pe_op op_add pe_int (pe_call (okM_l_pick T) (hr.mono (by decide)) rfl T.g_l_pick T.F_l_pick.kp T.bi_l_pick .nil pass0 (pa_cons (pv 0) (pa_cons pe_int pa_nil)))) pa_nil)) (pg_name (i := 2) sc_l_world.nd rfl (Or.inl rfl))
   (pss_one (ps_expr (pe_call (okM_l_new_name T) (hr.mono (by decide)) rfl T.g_l_new_name T.F_l_new_name.kp T.bi_l_new_name .nil pass0 (pa_cons (pv 0) (pa_cons (pv 1) pa_nil))))))
  (pss_cons (ps_set (i := 3) sc_l_world.nd rfl (Or.inl rfl) (pe_lst pa_nil))
  (pss_cons (ps_for PassesOwn.never rfl (pi_range1 rfl T.b_range (pa_cons (pe_op op_add pe_int (pe_call (okM_l_pick T) (hr.mono (by decide)) rfl T.g_l_pick T.F_l_pick.kp T.bi_l_pick .nil pass0 (pa_cons (pv 0) (pa_cons pe_int pa_nil)))) pa_nil)) (pg_name (i := 2) sc_l_world.nd rfl (Or.inl rfl))
   (pss_one (ps_expr (pe_call (okM_l_new_name T) (hr.mono (by decide)) rfl T.g_l_new_name T.F_l_new_name.kp T.bi_l_new_name .nil pass0 (pa_cons (pv 0) (pa_cons (pv 3) pa_nil))))))
  (pss_cons (ps_set (i := 4) sc_l_world.nd rfl (Or.inl rfl) (pe_op op_add pe_int (pe_call (okM_l_pick T) (hr.mono (by decide)) rfl T.g_l_pick T.F_l_pick.kp T.bi_l_pick .nil pass0 (pa_cons (pv 0) (pa_cons pe_int pa_nil)))))
  (pss_cons (ps_set (i := 5) sc_l_world.nd rfl (Or.inl rfl) (pe_ix ix_list (pe_lst (pa_cons pe_int (pa_cons (pe_op op_sub pe_int (pv 4)) (pa_cons (pe_call (okM_l_pick T) (hr.mono (by decide)) rfl T.g_l_pick T.F_l_pick.kp T.bi_l_pick .nil pass0 (pa_cons (pv 0) (pa_cons (pe_op op_sub pe_int (pv 4)) pa_nil))) pa_nil)))) (pe_call (okM_l_pick T) (hr.mono (by decide)) rfl T.g_l_pick T.F_l_pick.kp T.bi_l_pick .nil pass0 (pa_cons (pv 0) (pa_cons pe_int pa_nil))) (fun _ _ => rfl)))
  (pss_cons (ps_setLc (i := 6) (own := [("_law_day", 7)]) (g := gName 7) rfl sc_l_world.nd rfl rfl (sw_true rfl rfl rfl (by decide +kernel)) (pi_range2 rfl T.b_range (pa_cons (pv 5) (pa_cons (pe_op op_add (pe_op op_add (pv 5) (pv 4)) pe_int) pa_nil))) (blkOk_by (N := ["_law_bag_here", "_law_signs", "_law_k", "_law_names", "_law_span", "_law_low", "_law_days", "_law_day", "_law_world_here"]) (sc := defScope s_l_world) (by decide +kernel)) (fun _ _ _ _ _ => (pg_name (i := 7) sc_l_world.nd rfl (Or.inl rfl))) (fun _ _ _ _ _ => pts_one (pt_cmpR op_lt (pv 7) pe_int (nomark _))) (fun _ _ _ _ _ => (pv 7)))
  (pss_cons (ps_set (i := 8) sc_l_world.nd rfl (Or.inl rfl) (pe_disp (pps_cons pe_str (pv 1) (pps_cons pe_str (pv 3) (pps_cons pe_str (pv 6) pps_nil))) (by rfl) (by rfl) (by simp) (by decide)))
  (pss_cons (ps_dput (hu_of hr) (pv 8) pe_str (pe_call (okM_l_choice (r := rStr) T) (hr.mono (by decide)) rfl T.g_l_choice T.F_l_choice.kp T.bi_l_choice .nil pass0 (pa_cons (pv 0) (pa_cons (pe_op op_cat (pv 1) (pe_lst (pa_cons pe_str pa_nil))) pa_nil))) rfl)
  (pss_cons (ps_dput (hu_of hr) (pv 8) pe_str (pe_call (okM_l_choice (r := rStr) T) (hr.mono (by decide)) rfl T.g_l_choice T.F_l_choice.kp T.bi_l_choice .nil pass0 (pa_cons (pv 0) (pa_cons (pe_op op_cat (pv 3) (pe_lst (pa_cons pe_str pa_nil))) pa_nil))) rfl)
  (pss_one (ps_ret (pv 8))))))))))))), ?_⟩
  try dsimp only [cxOf, Cx.nox, Cx.wish]
  exact run_B (m := 8) (τ := Unit) h rfl (fun b p x hM => s_cq (Gn := fun _ : Unit => [])
    (s_newc (i := 1) (enc_lst (en_lst al_nil (by decide))) fun p2 signs1 hm3 =>
  (s_seq (s_for (Gt := (fun x4 : (List Str) => [own p cBag (), own p2 (cLst rStr) x4, any, any, any, any, any, any, any])) (x0 := signs1) (wk_range1 (ar_one (e_op o_I0 e_int (e_callB (i := 0) rfl (ar_one e_int))))) g_name (Sub.keep (Sub.keep (Sub.keep (Sub.keep (Sub.keep (Sub.keep (Sub.keep (Sub.keep (Sub.keep Sub.nil))))))))) (fun a7 x4 =>
  (s_wk (G := [own p cBag (), own p2 (cLst rStr) x4, val rInt a7, any, any, any, any, any, any]) (g := fun (y8 : Str × List Str) => y8.2) (s_dropBL (i := 0) (j := 1) rfl rfl (by decide)) (fun (y8 : Str × List Str) => (Sub.keep (Sub.keep (Sub.drop (Sub.keep (Sub.keep (Sub.keep (Sub.keep (Sub.keep (Sub.keep Sub.nil))))))))))))) fun x4 =>
  (s_newc (i := 3) (enc_lst (en_lst al_nil (by decide))) fun p10 names9 hm11 =>
  (s_seq (s_for (Gt := (fun x12 : (List Str) => [own p cBag (), own p2 (cLst rStr) x4, any, own p10 (cLst rStr) x12, any, any, any, any, any])) (x0 := names9) (wk_range1 (ar_one (e_op o_I0 e_int (e_callB (i := 0) rfl (ar_one e_int))))) g_name (Sub.keep (Sub.keep (Sub.keep (Sub.keep (Sub.keep (Sub.keep (Sub.keep (Sub.keep (Sub.keep Sub.nil))))))))) (fun a15 x12 =>
  (s_wk (G := [own p cBag (), own p2 (cLst rStr) x4, val rInt a15, own p10 (cLst rStr) x12, any, any, any, any, any]) (g := fun (y16 : Str × List Str) => y16.2) (s_dropBL (i := 0) (j := 3) rfl rfl (by decide)) (fun (y16 : Str × List Str) => (Sub.keep (Sub.keep (Sub.drop (Sub.keep (Sub.keep (Sub.keep (Sub.keep (Sub.keep (Sub.keep Sub.nil))))))))))))) fun x12 =>
  (s_seq (s_asg (i := 4) (e_op o_I0 e_int (e_callB (i := 0) rfl (ar_one e_int)))) fun span17 =>
  (s_seq (s_asg (i := 5) (e_ixL (lv_e (e_new (en_lst (al_cons e_int (al_cons (e_op o_I0 e_int (e_var (i := 4) rfl)) (al_cons (e_callB (i := 0) rfl (ar_one (e_op o_I0 e_int (e_var (i := 4) rfl)))) al_nil))) (by decide)))) (e_callB (i := 0) rfl (ar_one e_int)))) fun low18 =>
  (s_seq (s_asg (i := 6) (e_new (en_compF (wk_range2 (ar_cons (e_var (i := 5) rfl) (ar_one (e_op o_I0 (e_op o_I0 (e_var (i := 5) rfl) (e_var (i := 4) rfl)) e_int)))) g_name rfl (fun a20 => (t_test (e_op o_I0b (e_var (i := 7) rfl) e_int))) (fun a20 => (e_var (i := 7) rfl))))) fun days19 =>
  (s_frz (i := 1) (r := (rLst rStr)) rfl hm3 frz_lst (s_frz (i := 3) (r := (rLst rStr)) rfl hm11 frz_lst (s_newc (i := 8) (enc_disp (prs_cons (e_var (i := 1) rfl) (prs_cons (e_var (i := 3) rfl) (prs_one (e_var (i := 6) rfl)))) (by decide +kernel) (by decide)) fun p22 world21 hm23 =>
  (s_seq (s_rput (i := 8) (sn_cons (by decide +kernel) (sn_cons (by decide +kernel) (sn_one (by decide +kernel)) (by decide)) (by decide)) rfl (e_callB (i := 0) rfl (ar_one (e_new (en_cat (lv_e (e_var (i := 1) rfl)) (lv_e (e_new (en_lst (al_cons e_str al_nil) (by decide))))))))) fun y24 =>
  (s_seq (s_rput (i := 8) (sn_cons (by decide +kernel) (sn_cons (by decide +kernel) (sn_cons (by decide +kernel) (sn_one (by decide +kernel)) (by decide)) (by decide)) (by decide)) rfl (e_callB (i := 0) rfl (ar_one (e_new (en_cat (lv_e (e_var (i := 3) rfl)) (lv_e (e_new (en_lst (al_cons e_str al_nil) (by decide))))))))) fun y25 =>
  (s_frz (i := 8) (r := (rRec (kCons "signs" (rLst rStr) (kCons "rules" (rLst rStr) (kCons "days" (rLst rInt) (kCons "sign" rStr (kOne "name" rStr))))))) rfl hm23 frz_rec (s_retB (i := 0) rfl (e_var (i := 8) rfl))))))))))))))) (fun d h => h)) (fun x k h => by
    unfold W_l_world at h
    dsimp only at h ⊢
    exact h)
def W_l_rows (world0 : ((List Str) × (List Str) × (List Int) × Str × Str)) (numbers0 : (List Int)) (k : (List En) → Prop) : Prop :=
  let out1 : (List En) := ([] : List En); forP (enumL numbers0) out1 (fun (a7 : (Int × Int)) (x4 : (List En)) (n5 : (List En) → Prop) => W_l_pick (10 : Int) fun v34 => let way8 : Int := v34; W_l_choice world0.2.2.1 fun v33 => let day9 : Int := v33; (fun (n12 : (List En) → Prop) => (((decide (way8 = (0 : Int))) && (decide (a7.1 > (0 : Int)))) = true → ∃ v14, atI numbers0 (a7.1 - (1 : Int)) = some v14 ∧ x4.length < sizeLine ∧ let y13 : En := (En.vd a7.2 v14); n12 (x4 ++ [y13])) ∧ (((decide (way8 = (0 : Int))) && (decide (a7.1 > (0 : Int)))) = false → (fun (n17 : (List En) → Prop) => (((decide (way8 < (3 : Int))) && (decide (a7.1 > (0 : Int)))) = true → W_l_pick a7.1 fun v20 => ∃ v19, atI numbers0 v20 = some v19 ∧ x4.length < sizeLine ∧ let y18 : En := (En.vd a7.2 v19); n17 (x4 ++ [y18])) ∧ (((decide (way8 < (3 : Int))) && (decide (a7.1 > (0 : Int)))) = false → (fun (n23 : (List En) → Prop) => (((decide (way8 = (3 : Int))) && (decide (a7.2 > (1 : Int)))) = true → W_l_pick (a7.2 - (1 : Int)) fun v25 => x4.length < sizeLine ∧ let y24 : En := (En.vd a7.2 ((1 : Int) + v25)); n23 (x4 ++ [y24])) ∧ (((decide (way8 = (3 : Int))) && (decide (a7.2 > (1 : Int)))) = false → (fun (n28 : (List En) → Prop) => ((decide (way8 < (6 : Int))) = true → W_l_choice world0.1 fun v30 => x4.length < sizeLine ∧ let y29 : En := (En.sg a7.2 day9 v30); n28 (x4 ++ [y29])) ∧ ((decide (way8 < (6 : Int))) = false → W_l_choice world0.2.1 fun v32 => x4.length < sizeLine ∧ let y31 : En := (En.rl a7.2 day9 v32); n28 (x4 ++ [y31]))) fun x26 => n23 x26)) fun x21 => n17 x21)) fun x15 => n12 x15)) fun x10 => n5 x10) fun x4 => k x4
theorem okM_l_rows (T : Txt K mg A) : FnOk P w K mg base CX0 4 A.f_l_rows A.d_l_rows ["_law_bag_here", "_law_world_here", "_law_numbers_here"] (spB (rCons (rRec (kCons "signs" (rLst rStr) (kCons "rules" (rLst rStr) (kCons "days" (rLst rInt) (kCons "sign" rStr (kOne "name" rStr)))))) (rOne (rLst rInt))) (rLst rEn) (fun x k => W_l_rows x.1 x.2 k)) := by
  refine T.F_l_rows.ok sc_l_rows (fun vs H Q E h => spB_len h) (fun cdv Ar outer s0 H vs Q E hr h => ?_)
  refine ⟨_, (pss_cons (ps_set (i := 3) sc_l_rows.nd rfl (Or.inl rfl) (pe_lst pa_nil))
  (pss_cons (ps_for PassesOwn.never rfl (pi_enum (by rfl) T.b_enumerate (pa_cons (pv 2) pa_nil)) (pg_tup (n := 2) rfl (pgs_cons (pg_name (i := 4) sc_l_rows.nd rfl (Or.inl rfl)) (pgs_cons (pg_name (i := 5) sc_l_rows.nd rfl (Or.inl rfl)) pgs_nil)) (by rfl))
   (pss_cons (ps_set (i := 6) sc_l_rows.nd rfl (Or.inl rfl) (pe_call (okM_l_pick T) (hr.mono (by decide)) rfl T.g_l_pick T.F_l_pick.kp T.bi_l_pick .nil pass0 (pa_cons (pv 0) (pa_cons pe_int pa_nil))))
  (pss_cons (ps_set (i := 7) sc_l_rows.nd rfl (Or.inl rfl) (pe_call (okM_l_choice (r := rInt) T) (hr.mono (by decide)) rfl T.g_l_choice T.F_l_choice.kp T.bi_l_choice .nil pass0 (pa_cons (pv 0) (pa_cons (pe_dget (hu_of hr) (pv 1) pe_str (fun _ _ => rfl)) pa_nil))))
  (pss_one (ps_if (PW.pt (pw_and (pt_cmpR op_eq (pv 6) pe_int (nomark _)) (pw_and1 (pt_cmpR op_gt (pv 4) pe_int (nomark _))))) (pss_one (ps_expr (pe_bm PySem.F.plainAttrs_list PySem.F.slot_list_append PySem.F.type_list_append mt_append (pv 3) (pa_cons (pe_tup (pa_cons (pv 5) (pa_cons pe_str (pa_cons (pe_ix ix_list (pv 2) (pe_op op_sub (pv 4) pe_int) (fun _ _ => rfl)) pa_nil)))) pa_nil)))) (pss_one (ps_if (PW.pt (pw_and (pt_cmpR op_lt (pv 6) pe_int (nomark _)) (pw_and1 (pt_cmpR op_gt (pv 4) pe_int (nomark _))))) (pss_one (ps_expr (pe_bm PySem.F.plainAttrs_list PySem.F.slot_list_append PySem.F.type_list_append mt_append (pv 3) (pa_cons (pe_tup (pa_cons (pv 5) (pa_cons pe_str (pa_cons (pe_ix ix_list (pv 2) (pe_call (okM_l_pick T) (hr.mono (by decide)) rfl T.g_l_pick T.F_l_pick.kp T.bi_l_pick .nil pass0 (pa_cons (pv 0) (pa_cons (pv 4) pa_nil))) (fun _ _ => rfl)) pa_nil)))) pa_nil)))) (pss_one (ps_if (PW.pt (pw_and (pt_cmpR op_eq (pv 6) pe_int (nomark _)) (pw_and1 (pt_cmpR op_gt (pv 5) pe_int (nomark _))))) (pss_one (ps_expr (pe_bm PySem.F.plainAttrs_list PySem.F.slot_list_append PySem.F.type_list_append mt_append (pv 3) (pa_cons (pe_tup (pa_cons (pv 5) (pa_cons pe_str (pa_cons (pe_op op_add pe_int (pe_call (okM_l_pick T) (hr.mono (by decide)) rfl T.g_l_pick T.F_l_pick.kp T.bi_l_pick .nil pass0 (pa_cons (pv 0) (pa_cons (pe_op op_sub (pv 5) pe_int) pa_nil)))) pa_nil)))) pa_nil)))) (pss_one (ps_if (pt_cmpR op_lt (pv 6) pe_int (nomark _)) (pss_one (ps_expr (pe_bm PySem.F.plainAttrs_list PySem.F.slot_list_append PySem.F.type_list_append mt_append (pv 3) (pa_cons (pe_tup (pa_cons (pv 5) (pa_cons pe_str (pa_cons (pv 7) (pa_cons (pe_call (okM_l_choice (r := rStr) T) (hr.mono (by decide)) rfl T.g_l_choice T.F_l_choice.kp T.bi_l_choice .nil pass0 (pa_cons (pv 0) (pa_cons (pe_dget (hu_of hr) (pv 1) pe_str (fun _ _ => rfl)) pa_nil))) pa_nil))))) pa_nil)))) (pss_one (ps_expr (pe_bm PySem.F.plainAttrs_list PySem.F.slot_list_append PySem.F.type_list_append mt_append (pv 3) (pa_cons (pe_tup (pa_cons (pv 5) (pa_cons pe_str (pa_cons (pv 7) (pa_cons (pe_call (okM_l_choice (r := rStr) T) (hr.mono (by decide)) rfl T.g_l_choice T.F_l_choice.kp T.bi_l_choice .nil pass0 (pa_cons (pv 0) (pa_cons (pe_dget (hu_of hr) (pv 1) pe_str (fun _ _ => rfl)) pa_nil))) pa_nil))))) pa_nil)))))))))))))))
  (pss_one (ps_ret (pv 3))))), ?_⟩
  try dsimp only [cxOf, Cx.nox, Cx.wish]
  exact run_B (m := 5) (τ := Unit) h rfl (fun b p x hM => s_cq (Gn := fun _ : Unit => [])
    (s_newc (i := 3) (enc_lst (en_lst al_nil (by decide))) fun p2 out1 hm3 =>
  (s_seq (s_for (Gt := (fun x4 : (List En) => [own p cBag (), val (rRec (kCons "signs" (rLst rStr) (kCons "rules" (rLst rStr) (kCons "days" (rLst rInt) (kCons "sign" rStr (kOne "name" rStr)))))) x.1, val (rLst rInt) x.2, own p2 (cLst rEn) x4, any, any, any, any])) (x0 := out1) (wk_enum (ar_one (e_var (i := 2) rfl))) (g_tup (gi_cons gi_one) rfl) (Sub.keep (Sub.keep (Sub.keep (Sub.keep (Sub.keep (Sub.keep (Sub.keep (Sub.keep Sub.nil)))))))) (fun a7 x4 =>
  (s_seq (s_asg (i := 6) (e_callB (i := 0) rfl (ar_one e_int))) fun way8 =>
  (s_seq (s_asg (i := 7) (e_callB (i := 0) rfl (ar_one (e_rec (e_var (i := 1) rfl) (rk_tl (by decide +kernel) (rk_tl (by decide +kernel) rk_hd)))))) fun day9 =>
  (s_wk (G := [own p cBag (), val (rRec (kCons "signs" (rLst rStr) (kCons "rules" (rLst rStr) (kCons "days" (rLst rInt) (kCons "sign" rStr (kOne "name" rStr)))))) x.1, val (rLst rInt) x.2, own p2 (cLst rEn) x4, val rInt a7.1, val rInt a7.2, val rInt way8, val rInt day9]) (g := fun (x10 : (List En)) => x10) (s_if (Gn := (fun x10 : (List En) => [own p cBag (), val (rRec (kCons "signs" (rLst rStr) (kCons "rules" (rLst rStr) (kCons "days" (rLst rInt) (kCons "sign" rStr (kOne "name" rStr)))))) x.1, val (rLst rInt) x.2, own p2 (cLst rEn) x10, val rInt a7.1, val rInt a7.2, val rInt way8, val rInt day9])) (t_andP (t_test (e_op o_eqI (e_var (i := 6) rfl) e_int)) (t_test (e_op o_I0b (e_var (i := 4) rfl) e_int)))
  (s_wk (G := [own p cBag (), val (rRec (kCons "signs" (rLst rStr) (kCons "rules" (rLst rStr) (kCons "days" (rLst rInt) (kCons "sign" rStr (kOne "name" rStr)))))) x.1, val (rLst rInt) x.2, own p2 (cLst rEn) x4, val rInt a7.1, val rInt a7.2, val rInt way8, val rInt day9]) (g := fun (y13 : En) => (x4 ++ [y13])) (s_app (i := 3) rfl (e_vd (e_var (i := 5) rfl) (e_ixL (lv_e (e_var (i := 2) rfl)) (e_op o_I0 (e_var (i := 4) rfl) e_int)))) (fun (y13 : En) => (Sub.keep (Sub.keep (Sub.keep (Sub.keep (Sub.keep (Sub.keep (Sub.keep (Sub.keep Sub.nil))))))))))
  (s_wk (G := [own p cBag (), val (rRec (kCons "signs" (rLst rStr) (kCons "rules" (rLst rStr) (kCons "days" (rLst rInt) (kCons "sign" rStr (kOne "name" rStr)))))) x.1, val (rLst rInt) x.2, own p2 (cLst rEn) x4, val rInt a7.1, val rInt a7.2, val rInt way8, val rInt day9]) (g := fun (x15 : (List En)) => x15) (s_if (Gn := (fun x15 : (List En) => [own p cBag (), val (rRec (kCons "signs" (rLst rStr) (kCons "rules" (rLst rStr) (kCons "days" (rLst rInt) (kCons "sign" rStr (kOne "name" rStr)))))) x.1, val (rLst rInt) x.2, own p2 (cLst rEn) x15, val rInt a7.1, val rInt a7.2, val rInt way8, val rInt day9])) (t_andP (t_test (e_op o_I0b (e_var (i := 6) rfl) e_int)) (t_test (e_op o_I0b (e_var (i := 4) rfl) e_int)))
  (s_wk (G := [own p cBag (), val (rRec (kCons "signs" (rLst rStr) (kCons "rules" (rLst rStr) (kCons "days" (rLst rInt) (kCons "sign" rStr (kOne "name" rStr)))))) x.1, val (rLst rInt) x.2, own p2 (cLst rEn) x4, val rInt a7.1, val rInt a7.2, val rInt way8, val rInt day9]) (g := fun (y18 : En) => (x4 ++ [y18])) (s_app (i := 3) rfl (e_vd (e_var (i := 5) rfl) (e_ixL (lv_e (e_var (i := 2) rfl)) (e_callB (i := 0) rfl (ar_one (e_var (i := 4) rfl)))))) (fun (y18 : En) => (Sub.keep (Sub.keep (Sub.keep (Sub.keep (Sub.keep (Sub.keep (Sub.keep (Sub.keep Sub.nil))))))))))
  (s_wk (G := [own p cBag (), val (rRec (kCons "signs" (rLst rStr) (kCons "rules" (rLst rStr) (kCons "days" (rLst rInt) (kCons "sign" rStr (kOne "name" rStr)))))) x.1, val (rLst rInt) x.2, own p2 (cLst rEn) x4, val rInt a7.1, val rInt a7.2, val rInt way8, val rInt day9]) (g := fun (x21 : (List En)) => x21) (s_if (Gn := (fun x21 : (List En) => [own p cBag (), val (rRec (kCons "signs" (rLst rStr) (kCons "rules" (rLst rStr) (kCons "days" (rLst rInt) (kCons "sign" rStr (kOne "name" rStr)))))) x.1, val (rLst rInt) x.2, own p2 (cLst rEn) x21, val rInt a7.1, val rInt a7.2, val rInt way8, val rInt day9])) (t_andP (t_test (e_op o_eqI (e_var (i := 6) rfl) e_int)) (t_test (e_op o_I0b (e_var (i := 5) rfl) e_int)))
  (s_wk (G := [own p cBag (), val (rRec (kCons "signs" (rLst rStr) (kCons "rules" (rLst rStr) (kCons "days" (rLst rInt) (kCons "sign" rStr (kOne "name" rStr)))))) x.1, val (rLst rInt) x.2, own p2 (cLst rEn) x4, val rInt a7.1, val rInt a7.2, val rInt way8, val rInt day9]) (g := fun (y24 : En) => (x4 ++ [y24])) (s_app (i := 3) rfl (e_vd (e_var (i := 5) rfl) (e_op o_I0 e_int (e_callB (i := 0) rfl (ar_one (e_op o_I0 (e_var (i := 5) rfl) e_int)))))) (fun (y24 : En) => (Sub.keep (Sub.keep (Sub.keep (Sub.keep (Sub.keep (Sub.keep (Sub.keep (Sub.keep Sub.nil))))))))))
  (s_wk (G := [own p cBag (), val (rRec (kCons "signs" (rLst rStr) (kCons "rules" (rLst rStr) (kCons "days" (rLst rInt) (kCons "sign" rStr (kOne "name" rStr)))))) x.1, val (rLst rInt) x.2, own p2 (cLst rEn) x4, val rInt a7.1, val rInt a7.2, val rInt way8, val rInt day9]) (g := fun (x26 : (List En)) => x26) (s_if (Gn := (fun x26 : (List En) => [own p cBag (), val (rRec (kCons "signs" (rLst rStr) (kCons "rules" (rLst rStr) (kCons "days" (rLst rInt) (kCons "sign" rStr (kOne "name" rStr)))))) x.1, val (rLst rInt) x.2, own p2 (cLst rEn) x26, val rInt a7.1, val rInt a7.2, val rInt way8, val rInt day9])) (t_test (e_op o_I0b (e_var (i := 6) rfl) e_int))
  (s_wk (G := [own p cBag (), val (rRec (kCons "signs" (rLst rStr) (kCons "rules" (rLst rStr) (kCons "days" (rLst rInt) (kCons "sign" rStr (kOne "name" rStr)))))) x.1, val (rLst rInt) x.2, own p2 (cLst rEn) x4, val rInt a7.1, val rInt a7.2, val rInt way8, val rInt day9]) (g := fun (y29 : En) => (x4 ++ [y29])) (s_app (i := 3) rfl (e_sg (e_var (i := 5) rfl) (e_var (i := 7) rfl) (e_callB (i := 0) rfl (ar_one (e_rec (e_var (i := 1) rfl) rk_hd))))) (fun (y29 : En) => (Sub.keep (Sub.keep (Sub.keep (Sub.keep (Sub.keep (Sub.keep (Sub.keep (Sub.keep Sub.nil))))))))))
  (s_wk (G := [own p cBag (), val (rRec (kCons "signs" (rLst rStr) (kCons "rules" (rLst rStr) (kCons "days" (rLst rInt) (kCons "sign" rStr (kOne "name" rStr)))))) x.1, val (rLst rInt) x.2, own p2 (cLst rEn) x4, val rInt a7.1, val rInt a7.2, val rInt way8, val rInt day9]) (g := fun (y31 : En) => (x4 ++ [y31])) (s_app (i := 3) rfl (e_rl (e_var (i := 5) rfl) (e_var (i := 7) rfl) (e_callB (i := 0) rfl (ar_one (e_rec (e_var (i := 1) rfl) (rk_tl (by decide +kernel) rk_hd)))))) (fun (y31 : En) => (Sub.keep (Sub.keep (Sub.keep (Sub.keep (Sub.keep (Sub.keep (Sub.keep (Sub.keep Sub.nil))))))))))) (fun (x26 : (List En)) => (Sub.keep (Sub.keep (Sub.keep (Sub.keep (Sub.keep (Sub.keep (Sub.keep (Sub.keep Sub.nil))))))))))) (fun (x21 : (List En)) => (Sub.keep (Sub.keep (Sub.keep (Sub.keep (Sub.keep (Sub.keep (Sub.keep (Sub.keep Sub.nil))))))))))) (fun (x15 : (List En)) => (Sub.keep (Sub.keep (Sub.keep (Sub.keep (Sub.keep (Sub.keep (Sub.keep (Sub.keep Sub.nil))))))))))) (fun (x10 : (List En)) => (Sub.keep (Sub.keep (Sub.keep (Sub.keep (Sub.drop (Sub.drop (Sub.drop (Sub.drop Sub.nil)))))))))))))) fun x4 =>
  (s_frz (i := 3) (r := (rLst rEn)) rfl hm3 frz_lst (s_retB (i := 0) rfl (e_var (i := 3) rfl))))) (fun d h => h)) (fun x k h => by
    unfold W_l_rows at h
    dsimp only at h ⊢
    exact h)
def W_l_further (world0 : ((List Str) × (List Str) × (List Int) × Str × Str)) (entries0 : (List En)) (k : (List En) → Prop) : Prop :=
  entries0.length ≤ sizeLine ∧ let numbers1 : (List Int) := (entries0.map fun (a2 : En) => a2.num); (fun (k37 : Int → Prop) => ((!numbers1.isEmpty) = true → ∃ v39, atI numbers1 (-(1 : Int)) = some v39 ∧ k37 v39) ∧ ((!numbers1.isEmpty) = false → k37 (0 : Int))) fun v38 => let highest3 : Int := v38; (-(2 ^ 62) ≤ (1 : Int) ∧ (1 : Int) < 2 ^ 62 ∧ -(2 ^ 62) ≤ highest3 ∧ highest3 < 2 ^ 62) ∧ (rng (1 : Int) (highest3 - (1 : Int)).toNat).length ≤ sizeLine ∧ let free4 : (List Int) := (((rng (1 : Int) (highest3 - (1 : Int)).toNat).filter fun (a5 : Int) => (!decide (a5 ∈ numbers1))).map fun (a5 : Int) => a5); W_l_pick (3 : Int) fun v36 => let chosen6 : (List Int) := ([((highest3 + (1 : Int)) + v36)] : List Int); (fun (n11 : (List Int) → Prop) => ((!free4.isEmpty) = true → W_l_choice free4 fun v13 => chosen6.length < sizeLine ∧ let y12 : Int := v13; n11 (chosen6 ++ [y12])) ∧ ((!free4.isEmpty) = false → n11 chosen6)) fun x9 => let out14 : (List En) := ([] : List En); forP x9 out14 (fun (a20 : Int) (x17 : (List En)) (n18 : (List En) → Prop) => forP world0.2.2.1 x17 (fun (a24 : Int) (x21 : (List En)) (n22 : (List En) → Prop) => world0.1.length ≤ sizeLine ∧ x21.length + (world0.1.map fun (a25 : Str) => (En.sg a20 a24 a25)).length ≤ sizeLine ∧ let y26 : (List En) := (world0.1.map fun (a25 : Str) => (En.sg a20 a24 a25)); world0.2.1.length ≤ sizeLine ∧ (x21 ++ y26).length + (world0.2.1.map fun (a27 : Str) => (En.rl a20 a24 a27)).length ≤ sizeLine ∧ let y28 : (List En) := (world0.2.1.map fun (a27 : Str) => (En.rl a20 a24 a27)); n22 ((x21 ++ y26) ++ y28)) fun x21 => numbers1.length ≤ sizeLine ∧ x21.length + ((numbers1.filter fun (a29 : Int) => (decide (a29 < a20))).map fun (a29 : Int) => (En.vd a20 a29)).length ≤ sizeLine ∧ let y30 : (List En) := ((numbers1.filter fun (a29 : Int) => (decide (a29 < a20))).map fun (a29 : Int) => (En.vd a20 a29)); (fun (n33 : (List En) → Prop) => ((decide (a20 > (1 : Int))) = true → W_l_pick (a20 - (1 : Int)) fun v35 => (x21 ++ y30).length < sizeLine ∧ let y34 : En := (En.vd a20 ((1 : Int) + v35)); n33 ((x21 ++ y30) ++ [y34])) ∧ ((decide (a20 > (1 : Int))) = false → n33 (x21 ++ y30))) fun x31 => n18 x31) fun x17 => k x17
theorem okM_l_further (T : Txt K mg A) : FnOk P w K mg base CX0 4 A.f_l_further A.d_l_further ["_law_bag_here", "_law_world_here", "_law_entries"] (spB (rCons (rRec (kCons "signs" (rLst rStr) (kCons "rules" (rLst rStr) (kCons "days" (rLst rInt) (kCons "sign" rStr (kOne "name" rStr)))))) (rOne (rLst rEn))) (rLst rEn) (fun x k => W_l_further x.1 x.2 k)) := by
  refine T.F_l_further.ok sc_l_further (fun vs H Q E h => spB_len h) (fun cdv Ar outer s0 H vs Q E hr h => ?_)
  refine ⟨_, (pss_cons (ps_set (i := 3) sc_l_further.nd rfl (Or.inr rfl) (pe_lc (own := [("_law_entry", 4)]) (g := gName 4) (tt := tYes) rfl sc_l_further.nd (pi_list (pv 2)) (blkOk_by (N := ["_law_bag_here", "_law_world_here", "_law_entries", "_law_numbers_here", "_law_entry", "_law_highest", "_law_free", "_law_number", "_law_chosen", "_law_out", "_law_day", "_law_sign", "_law_name", "_law_other"]) (sc := defScope s_l_further) (by decide +kernel)) (fun _ _ _ _ _ => (pg_name (i := 4) sc_l_further.nd rfl (Or.inl rfl))) (fun _ _ _ _ _ => pts_nil) (fun _ _ _ _ _ => (pe_ix (show IxR _ (rIxT K) from ix_tup) (pv 4) pe_int (fun _ _ => rfl)))))
  (pss_cons (ps_set (i := 5) sc_l_further.nd rfl (Or.inl rfl) (pe_ifExp (pt_tru (pv 3)) (pe_ix ix_list (pv 3) (pe_un un_neg pe_int) (fun _ _ => rfl)) pe_int))
  (pss_cons (ps_setLc (i := 6) (own := [("_law_number", 7)]) (g := gName 7) rfl sc_l_further.nd rfl rfl (sw_true rfl rfl rfl (by decide +kernel)) (pi_range2 rfl T.b_range (pa_cons pe_int (pa_cons (pv 5) pa_nil))) (blkOk_by (N := ["_law_bag_here", "_law_world_here", "_law_entries", "_law_numbers_here", "_law_entry", "_law_highest", "_law_free", "_law_number", "_law_chosen", "_law_out", "_law_day", "_law_sign", "_law_name", "_law_other"]) (sc := defScope s_l_further) (by decide +kernel)) (fun _ _ _ _ _ => (pg_name (i := 7) sc_l_further.nd rfl (Or.inl rfl))) (fun _ _ _ _ _ => pts_one (pt_cmpR (show OpR _ (compareOp .NotIn) (rIn K true) from op_notIn_seq) (pv 7) (pv 3) rfl)) (fun _ _ _ _ _ => (pv 7)))
  (pss_cons (ps_set (i := 8) sc_l_further.nd rfl (Or.inl rfl) (pe_lst (pa_cons (pe_op op_add (pe_op op_add (pv 5) pe_int) (pe_call (okM_l_pick T) (hr.mono (by decide)) rfl T.g_l_pick T.F_l_pick.kp T.bi_l_pick .nil pass0 (pa_cons (pv 0) (pa_cons pe_int pa_nil)))) pa_nil)))
  (pss_cons (ps_if (pt_tru (pv 6)) (pss_one (ps_expr (pe_bm PySem.F.plainAttrs_list PySem.F.slot_list_append PySem.F.type_list_append mt_append (pv 8) (pa_cons (pe_call (okM_l_choice (r := rInt) T) (hr.mono (by decide)) rfl T.g_l_choice T.F_l_choice.kp T.bi_l_choice .nil pass0 (pa_cons (pv 0) (pa_cons (pv 6) pa_nil))) pa_nil)))) pss_nil)
  (pss_cons (ps_set (i := 9) sc_l_further.nd rfl (Or.inl rfl) (pe_lst pa_nil))
  (pss_cons (ps_for PassesOwn.never rfl (pi_list (pv 8)) (pg_name (i := 7) sc_l_further.nd rfl (Or.inr rfl))
   (pss_cons (ps_for PassesOwn.never rfl (pi_list (pe_dget (hu_of hr) (pv 1) pe_str (fun _ _ => rfl))) (pg_name (i := 10) sc_l_further.nd rfl (Or.inr rfl))
   (pss_cons (ps_expr (pe_bm PySem.F.plainAttrs_list PySem.F.slot_list_extend PySem.F.type_list_extend mt_extend (pv 9) (pa_cons (pe_lc (own := [("_law_sign", 11)]) (g := gName 11) (tt := tYes) rfl sc_l_further.nd (pi_list (pe_dget (hu_of hr) (pv 1) pe_str (fun _ _ => rfl))) (blkOk_by (N := ["_law_bag_here", "_law_world_here", "_law_entries", "_law_numbers_here", "_law_entry", "_law_highest", "_law_free", "_law_number", "_law_chosen", "_law_out", "_law_day", "_law_sign", "_law_name", "_law_other"]) (sc := defScope s_l_further) (by decide +kernel)) (fun _ _ _ _ _ => (pg_name (i := 11) sc_l_further.nd rfl (Or.inl rfl))) (fun _ _ _ _ _ => pts_nil) (fun _ _ _ _ _ => (pe_tup (pa_cons (pv 7) (pa_cons pe_str (pa_cons (pv 10) (pa_cons (pv 11) pa_nil))))))) pa_nil)))
  (pss_one (ps_expr (pe_bm PySem.F.plainAttrs_list PySem.F.slot_list_extend PySem.F.type_list_extend mt_extend (pv 9) (pa_cons (pe_lc (own := [("_law_name", 12)]) (g := gName 12) (tt := tYes) rfl sc_l_further.nd (pi_list (pe_dget (hu_of hr) (pv 1) pe_str (fun _ _ => rfl))) (blkOk_by (N := ["_law_bag_here", "_law_world_here", "_law_entries", "_law_numbers_here", "_law_entry", "_law_highest", "_law_free", "_law_number", "_law_chosen", "_law_out", "_law_day", "_law_sign", "_law_name", "_law_other"]) (sc := defScope s_l_further) (by decide +kernel)) (fun _ _ _ _ _ => (pg_name (i := 12) sc_l_further.nd rfl (Or.inl rfl))) (fun _ _ _ _ _ => pts_nil) (fun _ _ _ _ _ => (pe_tup (pa_cons (pv 7) (pa_cons pe_str (pa_cons (pv 10) (pa_cons (pv 12) pa_nil))))))) pa_nil))))))
  (pss_cons (ps_expr (pe_bm PySem.F.plainAttrs_list PySem.F.slot_list_extend PySem.F.type_list_extend mt_extend (pv 9) (pa_cons (pe_lc (own := [("_law_other", 13)]) (g := gName 13) rfl sc_l_further.nd (pi_list (pv 3)) (blkOk_by (N := ["_law_bag_here", "_law_world_here", "_law_entries", "_law_numbers_here", "_law_entry", "_law_highest", "_law_free", "_law_number", "_law_chosen", "_law_out", "_law_day", "_law_sign", "_law_name", "_law_other"]) (sc := defScope s_l_further) (by decide +kernel)) (fun _ _ _ _ _ => (pg_name (i := 13) sc_l_further.nd rfl (Or.inl rfl))) (fun _ _ _ _ _ => pts_one (pt_cmpR op_lt (pv 13) (pv 7) (nomark _))) (fun _ _ _ _ _ => (pe_tup (pa_cons (pv 7) (pa_cons pe_str (pa_cons (pv 13) pa_nil)))))) pa_nil)))
  (pss_one (ps_if (pt_cmpR op_gt (pv 7) pe_int (nomark _)) (pss_one (ps_expr (pe_bm PySem.F.plainAttrs_list PySem.F.slot_list_append PySem.F.type_list_append mt_append (pv 9) (pa_cons (pe_tup (pa_cons (pv 7) (pa_cons pe_str (pa_cons (pe_op op_add pe_int (pe_call (okM_l_pick T) (hr.mono (by decide)) rfl T.g_l_pick T.F_l_pick.kp T.bi_l_pick .nil pass0 (pa_cons (pv 0) (pa_cons (pe_op op_sub (pv 7) pe_int) pa_nil)))) pa_nil)))) pa_nil)))) pss_nil)))))
  (pss_one (ps_ret (pv 9)))))))))), ?_⟩
  try dsimp only [cxOf, Cx.nox, Cx.wish]
  exact run_B (m := 11) (τ := Unit) h rfl (fun b p x hM => s_cq (Gn := fun _ : Unit => [])
    (s_seq (s_asg (i := 3) (e_new (en_compM (wk_list (e_var (i := 2) rfl)) g_name rfl (fun a2 => t_yes) (fun a2 => (e_en0 (e_var (i := 4) rfl)))))) fun numbers1 =>
  (s_seq (s_asg (i := 5) (e_if (t_truL (lv_e (e_var (i := 3) rfl))) (e_ixL (lv_e (e_var (i := 3) rfl)) (e_neg e_int)) e_int)) fun highest3 =>
  (s_seq (s_asg (i := 6) (e_new (en_compF (wk_range2 (ar_cons e_int (ar_one (e_var (i := 5) rfl)))) g_name rfl (fun a5 => (t_test (e_inLN flat_int (e_var (i := 7) rfl) (lv_e (e_var (i := 3) rfl))))) (fun a5 => (e_var (i := 7) rfl))))) fun free4 =>
  (s_newc (i := 8) (enc_lst (en_lst (al_cons (e_op o_I0 (e_op o_I0 (e_var (i := 5) rfl) e_int) (e_callB (i := 0) rfl (ar_one e_int))) al_nil) (by decide))) fun p7 chosen6 hm8 =>
  (s_seq (s_if (Gn := (fun x9 : (List Int) => [own p cBag (), val (rRec (kCons "signs" (rLst rStr) (kCons "rules" (rLst rStr) (kCons "days" (rLst rInt) (kCons "sign" rStr (kOne "name" rStr)))))) x.1, val (rLst rEn) x.2, val (rLst rInt) numbers1, any, val rInt highest3, val (rLst rInt) free4, any, own p7 (cLst rInt) x9, any, any, any, any, any])) (t_truL (lv_e (e_var (i := 6) rfl)))
  (s_wk (G := [own p cBag (), val (rRec (kCons "signs" (rLst rStr) (kCons "rules" (rLst rStr) (kCons "days" (rLst rInt) (kCons "sign" rStr (kOne "name" rStr)))))) x.1, val (rLst rEn) x.2, val (rLst rInt) numbers1, any, val rInt highest3, val (rLst rInt) free4, any, own p7 (cLst rInt) chosen6, any, any, any, any, any]) (g := fun (y12 : Int) => (chosen6 ++ [y12])) (s_app (i := 8) rfl (e_callB (i := 0) rfl (ar_one (e_var (i := 6) rfl)))) (fun (y12 : Int) => (Sub.keep (Sub.keep (Sub.keep (Sub.keep (Sub.keep (Sub.keep (Sub.keep (Sub.keep (Sub.keep (Sub.keep (Sub.keep (Sub.keep (Sub.keep (Sub.keep Sub.nil))))))))))))))))
  (s_wk (G := [own p cBag (), val (rRec (kCons "signs" (rLst rStr) (kCons "rules" (rLst rStr) (kCons "days" (rLst rInt) (kCons "sign" rStr (kOne "name" rStr)))))) x.1, val (rLst rEn) x.2, val (rLst rInt) numbers1, any, val rInt highest3, val (rLst rInt) free4, any, own p7 (cLst rInt) chosen6, any, any, any, any, any]) (g := fun _ => chosen6) s_nil (fun _ => (Sub.keep (Sub.keep (Sub.keep (Sub.keep (Sub.keep (Sub.keep (Sub.keep (Sub.keep (Sub.keep (Sub.keep (Sub.keep (Sub.keep (Sub.keep (Sub.keep Sub.nil))))))))))))))))) fun x9 =>
  (s_newc (i := 9) (enc_lst (en_lst al_nil (by decide))) fun p15 out14 hm16 =>
  (s_frz (i := 8) (r := (rLst rInt)) rfl hm8 frz_lst (s_seq (s_for (Gt := (fun x17 : (List En) => [own p cBag (), val (rRec (kCons "signs" (rLst rStr) (kCons "rules" (rLst rStr) (kCons "days" (rLst rInt) (kCons "sign" rStr (kOne "name" rStr)))))) x.1, val (rLst rEn) x.2, val (rLst rInt) numbers1, any, val rInt highest3, val (rLst rInt) free4, any, val (rLst rInt) x9, own p15 (cLst rEn) x17, any, any, any, any])) (x0 := out14) (wk_list (e_var (i := 8) rfl)) g_name (Sub.keep (Sub.keep (Sub.keep (Sub.keep (Sub.keep (Sub.keep (Sub.keep (Sub.keep (Sub.keep (Sub.keep (Sub.keep (Sub.keep (Sub.keep (Sub.keep Sub.nil)))))))))))))) (fun a20 x17 =>
  (s_seq (s_for (Gt := (fun x21 : (List En) => [own p cBag (), val (rRec (kCons "signs" (rLst rStr) (kCons "rules" (rLst rStr) (kCons "days" (rLst rInt) (kCons "sign" rStr (kOne "name" rStr)))))) x.1, val (rLst rEn) x.2, val (rLst rInt) numbers1, any, val rInt highest3, val (rLst rInt) free4, val rInt a20, val (rLst rInt) x9, own p15 (cLst rEn) x21, any, any, any, any])) (x0 := x17) (wk_list (e_rec (e_var (i := 1) rfl) (rk_tl (by decide +kernel) (rk_tl (by decide +kernel) rk_hd)))) g_name (Sub.keep (Sub.keep (Sub.keep (Sub.keep (Sub.keep (Sub.keep (Sub.keep (Sub.keep (Sub.keep (Sub.keep (Sub.keep (Sub.keep (Sub.keep (Sub.keep Sub.nil)))))))))))))) (fun a24 x21 =>
  (s_seq (s_ext (i := 9) rfl (e_new (en_compM (wk_list (e_rec (e_var (i := 1) rfl) rk_hd)) g_name rfl (fun a25 => t_yes) (fun a25 => (e_sg (e_var (i := 7) rfl) (e_var (i := 10) rfl) (e_var (i := 11) rfl)))))) fun y26 =>
  (s_wk (G := [own p cBag (), val (rRec (kCons "signs" (rLst rStr) (kCons "rules" (rLst rStr) (kCons "days" (rLst rInt) (kCons "sign" rStr (kOne "name" rStr)))))) x.1, val (rLst rEn) x.2, val (rLst rInt) numbers1, any, val rInt highest3, val (rLst rInt) free4, val rInt a20, val (rLst rInt) x9, own p15 (cLst rEn) (x21 ++ y26), val rInt a24, any, any, any]) (g := fun (y28 : (List En)) => ((x21 ++ y26) ++ y28)) (s_ext (i := 9) rfl (e_new (en_compM (wk_list (e_rec (e_var (i := 1) rfl) (rk_tl (by decide +kernel) rk_hd))) g_name rfl (fun a27 => t_yes) (fun a27 => (e_rl (e_var (i := 7) rfl) (e_var (i := 10) rfl) (e_var (i := 12) rfl)))))) (fun (y28 : (List En)) => (Sub.keep (Sub.keep (Sub.keep (Sub.keep (Sub.keep (Sub.keep (Sub.keep (Sub.keep (Sub.keep (Sub.keep (Sub.drop (Sub.keep (Sub.keep (Sub.keep Sub.nil))))))))))))))))))) fun x21 =>
  (s_seq (s_ext (i := 9) rfl (e_new (en_compF (wk_list (e_var (i := 3) rfl)) g_name rfl (fun a29 => (t_test (e_op o_I0b (e_var (i := 13) rfl) (e_var (i := 7) rfl)))) (fun a29 => (e_vd (e_var (i := 7) rfl) (e_var (i := 13) rfl)))))) fun y30 =>
  (s_wk (G := [own p cBag (), val (rRec (kCons "signs" (rLst rStr) (kCons "rules" (rLst rStr) (kCons "days" (rLst rInt) (kCons "sign" rStr (kOne "name" rStr)))))) x.1, val (rLst rEn) x.2, val (rLst rInt) numbers1, any, val rInt highest3, val (rLst rInt) free4, val rInt a20, val (rLst rInt) x9, own p15 (cLst rEn) (x21 ++ y30), any, any, any, any]) (g := fun (x31 : (List En)) => x31) (s_if (Gn := (fun x31 : (List En) => [own p cBag (), val (rRec (kCons "signs" (rLst rStr) (kCons "rules" (rLst rStr) (kCons "days" (rLst rInt) (kCons "sign" rStr (kOne "name" rStr)))))) x.1, val (rLst rEn) x.2, val (rLst rInt) numbers1, any, val rInt highest3, val (rLst rInt) free4, val rInt a20, val (rLst rInt) x9, own p15 (cLst rEn) x31, any, any, any, any])) (t_test (e_op o_I0b (e_var (i := 7) rfl) e_int))
  (s_wk (G := [own p cBag (), val (rRec (kCons "signs" (rLst rStr) (kCons "rules" (rLst rStr) (kCons "days" (rLst rInt) (kCons "sign" rStr (kOne "name" rStr)))))) x.1, val (rLst rEn) x.2, val (rLst rInt) numbers1, any, val rInt highest3, val (rLst rInt) free4, val rInt a20, val (rLst rInt) x9, own p15 (cLst rEn) (x21 ++ y30), any, any, any, any]) (g := fun (y34 : En) => ((x21 ++ y30) ++ [y34])) (s_app (i := 9) rfl (e_vd (e_var (i := 7) rfl) (e_op o_I0 e_int (e_callB (i := 0) rfl (ar_one (e_op o_I0 (e_var (i := 7) rfl) e_int)))))) (fun (y34 : En) => (Sub.keep (Sub.keep (Sub.keep (Sub.keep (Sub.keep (Sub.keep (Sub.keep (Sub.keep (Sub.keep (Sub.keep (Sub.keep (Sub.keep (Sub.keep (Sub.keep Sub.nil))))))))))))))))
  (s_wk (G := [own p cBag (), val (rRec (kCons "signs" (rLst rStr) (kCons "rules" (rLst rStr) (kCons "days" (rLst rInt) (kCons "sign" rStr (kOne "name" rStr)))))) x.1, val (rLst rEn) x.2, val (rLst rInt) numbers1, any, val rInt highest3, val (rLst rInt) free4, val rInt a20, val (rLst rInt) x9, own p15 (cLst rEn) (x21 ++ y30), any, any, any, any]) (g := fun _ => (x21 ++ y30)) s_nil (fun _ => (Sub.keep (Sub.keep (Sub.keep (Sub.keep (Sub.keep (Sub.keep (Sub.keep (Sub.keep (Sub.keep (Sub.keep (Sub.keep (Sub.keep (Sub.keep (Sub.keep Sub.nil))))))))))))))))) (fun (x31 : (List En)) => (Sub.keep (Sub.keep (Sub.keep (Sub.keep (Sub.keep (Sub.keep (Sub.keep (Sub.drop (Sub.keep (Sub.keep (Sub.keep (Sub.keep (Sub.keep (Sub.keep Sub.nil)))))))))))))))))))) fun x17 =>
  (s_frz (i := 9) (r := (rLst rEn)) rfl hm16 frz_lst (s_retB (i := 0) rfl (e_var (i := 9) rfl))))))))))) (fun d h => h)) (fun x k h => by
    unfold W_l_further at h
    dsimp only at h ⊢
    exact h)
def W_l_both (y : (List En)) (world0 : ((List Str) × (List Str) × (List Int) × Str × Str)) (k : ((List Str) × (List Str)) → Prop) : Prop :=
  W_Sheet_life_of y (.inl (60 : Int)) world0.2.2.2.1 (fun v1 => W_Sheet_code_of y (.inl (60 : Int)) world0.2.2.2.2 (fun v2 => k (v1, v2)) (fun _ => False)) (fun _ => False)
theorem okM_l_both (T : Txt K mg A) : FnOk P w K mg base CX0 5 A.f_l_both A.d_l_both ["_law_sheet", "_law_world_here"] (spR (cSh A.C_Sheet) (rOne (rRec (kCons "signs" (rLst rStr) (kCons "rules" (rLst rStr) (kCons "days" (rLst rInt) (kCons "sign" rStr (kOne "name" rStr))))))) (rTp K (rCons (rTup K rStr) (rOne (rTup K rStr)))) (fun y x k => W_l_both y x k)) := by
  refine T.F_l_both.ok sc_l_both (fun vs H Q E h => spR_len h) (fun cdv Ar outer s0 H vs Q E hr h => ?_)
  refine ⟨_, (pss_one (ps_ret (pe_tup (pa_cons (pe_meth (pv 0) T.cl_Sheet T.m_Sheet_life_of (okM_Sheet_life_of T) (hr.mono (by decide)) T.bi_Sheet_life_of .nil passN (pa_cons pe_int (pa_cons (pe_dget (hu_of hr) (pv 1) pe_str (fun _ _ => rfl)) pa_nil))) (pa_cons (pe_meth (pv 0) T.cl_Sheet T.m_Sheet_code_of (okM_Sheet_code_of T) (hr.mono (by decide)) T.bi_Sheet_code_of .nil passN (pa_cons pe_int (pa_cons (pe_dget (hu_of hr) (pv 1) pe_str (fun _ _ => rfl)) pa_nil))) pa_nil))))), ?_⟩
  try dsimp only [cxOf, Cx.nox, Cx.wish]
  exact run_R (m := 0) (τ := Unit) h rfl (fun b p y x hM => s_cq (Gn := fun _ : Unit => [])
    (s_retR (i := 0) (y := y) rfl (e_tup (ar_cons (e_methX0 (i := 0)  rfl (sh_ins (shF_no (by decide +kernel) (by decide +kernel) (by decide +kernel) (by decide +kernel))) (ar_cons (e_ibI e_int) (ar_one (e_rec (e_var (i := 1) rfl) (rk_tl (by decide +kernel) (rk_tl (by decide +kernel) (rk_tl (by decide +kernel) rk_hd))))))) (ar_one (e_methX0 (i := 0)  rfl (sh_ins (shF_no (by decide +kernel) (by decide +kernel) (by decide +kernel) (by decide +kernel))) (ar_cons (e_ibI e_int) (ar_one (e_rec (e_var (i := 1) rfl) (rk_tl (by decide +kernel) (rk_tl (by decide +kernel) (rk_tl (by decide +kernel) (rk_tl (by decide +kernel) rk_one)))))))))) (Nat.le_of_ble_eq_true rfl))) (fun d h => h)) (fun y x k h => by
    unfold W_l_both at h
    dsimp only at h ⊢
    exact h)
def W_l_one_change (before0 : ((List Str) × (List Str))) (behind0 : ((List Str) × (List Str))) (k : Bool → Prop) : Prop :=
  (-(2 ^ 62) ≤ (60 : Int) ∧ (60 : Int) < 2 ^ 62) ∧ (rng 0 (60 : Int).toNat).length ≤ sizeLine ∧ compP (rng 0 (60 : Int).toNat) (fun (a2 : Int) (acc35 : List Int) (n36 : List Int → Prop) => ∃ v38, atI before0.1 a2 = some v38 ∧ ∃ v39, atI behind0.1 a2 = some v39 ∧ ((!decide (v38 = v39)) = true → n36 (acc35 ++ [a2])) ∧ ((!decide (v38 = v39)) = false → n36 acc35)) fun v37 => let signs1 : (List Int) := v37; (-(2 ^ 62) ≤ (60 : Int) ∧ (60 : Int) < 2 ^ 62) ∧ (rng 0 (60 : Int).toNat).length ≤ sizeLine ∧ compP (rng 0 (60 : Int).toNat) (fun (a4 : Int) (acc30 : List Int) (n31 : List Int → Prop) => ∃ v33, atI before0.2 a4 = some v33 ∧ ∃ v34, atI behind0.2 a4 = some v34 ∧ ((!decide (v33 = v34)) = true → n31 (acc30 ++ [a4])) ∧ ((!decide (v33 = v34)) = false → n31 acc30)) fun v32 => let days3 : (List Int) := v32; (fun (n7 : Unit → Prop) => ((!(!days3.isEmpty)) = true → k (decide ((signs1.length : Int) ≤ (1 : Int)))) ∧ ((!(!days3.isEmpty)) = false → n7 ())) fun x5 => (fun (n10 : Unit → Prop) => (fun (k26 : Bool → Prop) => ((!signs1.isEmpty) = true → k26 true) ∧ ((!signs1.isEmpty) = false → ∃ v28, atI days3 (-(1 : Int)) = some v28 ∧ ∃ v29, atI days3 (0 : Int) = some v29 ∧ k26 (!decide ((days3.length : Int) = ((v28 + (1 : Int)) - v29))))) fun c27 => (c27 = true → k false) ∧ (c27 = false → n10 ())) fun x8 => forP days3 () (fun (a14 : Int) (x11 : Unit) (n12 : Unit → Prop) => (fun (n17 : Unit → Prop) => (fun (k18 : Bool → Prop) => ∃ v20, atI before0.2 a14 = some v20 ∧ ∃ v22, atI days3 (0 : Int) = some v22 ∧ ∃ v21, atI before0.2 v22 = some v21 ∧ ((!decide (v20 = v21)) = true → k18 true) ∧ ((!decide (v20 = v21)) = false → ∃ v23, atI behind0.2 a14 = some v23 ∧ ∃ v25, atI days3 (0 : Int) = some v25 ∧ ∃ v24, atI behind0.2 v25 = some v24 ∧ k18 (!decide (v23 = v24)))) fun c19 => (c19 = true → k false) ∧ (c19 = false → n17 ())) fun x15 => n12 ()) fun x11 => k true
theorem okM_l_one_change (T : Txt K mg A) : FnOk P w K mg base CX0 1 A.f_l_one_change A.d_l_one_change ["_law_before", "_law_behind"] (spP (rCons (rTp K (rCons (rTup K rStr) (rOne (rTup K rStr)))) (rOne (rTp K (rCons (rTup K rStr) (rOne (rTup K rStr)))))) rBl (fun x k => W_l_one_change x.1 x.2 k)) := by
  refine T.F_l_one_change.ok sc_l_one_change (fun vs H Q E h => spP_len h) (fun cdv Ar outer s0 H vs Q E hr h => ?_)
  refine ⟨_, (pss_cons (ps_setLc (i := 2) (own := [("_law_day", 3)]) (g := gName 3) rfl sc_l_one_change.nd rfl rfl (sw_true rfl rfl rfl (by decide +kernel)) (pi_range1 rfl T.b_range (pa_cons pe_int pa_nil)) (blkOk_by (N := ["_law_before", "_law_behind", "_law_signs", "_law_day", "_law_days"]) (sc := defScope s_l_one_change) (by decide +kernel)) (fun _ _ _ _ _ => (pg_name (i := 3) sc_l_one_change.nd rfl (Or.inl rfl))) (fun _ _ _ _ _ => pts_one (pt_cmpR op_ne (pe_ix (show IxR _ (rIxT K) from ix_tup) (pe_ix (show IxR _ (rIxT K) from ix_tup) (pv 0) pe_int (fun _ _ => rfl)) (pv 3) (fun _ _ => rfl)) (pe_ix (show IxR _ (rIxT K) from ix_tup) (pe_ix (show IxR _ (rIxT K) from ix_tup) (pv 1) pe_int (fun _ _ => rfl)) (pv 3) (fun _ _ => rfl)) (nomark _))) (fun _ _ _ _ _ => (pv 3)))
  (pss_cons (ps_setLc (i := 4) (own := [("_law_day", 3)]) (g := gName 3) rfl sc_l_one_change.nd rfl rfl (sw_true rfl rfl rfl (by decide +kernel)) (pi_range1 rfl T.b_range (pa_cons pe_int pa_nil)) (blkOk_by (N := ["_law_before", "_law_behind", "_law_signs", "_law_day", "_law_days"]) (sc := defScope s_l_one_change) (by decide +kernel)) (fun _ _ _ _ _ => (pg_name (i := 3) sc_l_one_change.nd rfl (Or.inl rfl))) (fun _ _ _ _ _ => pts_one (pt_cmpR op_ne (pe_ix (show IxR _ (rIxT K) from ix_tup) (pe_ix (show IxR _ (rIxT K) from ix_tup) (pv 0) pe_int (fun _ _ => rfl)) (pv 3) (fun _ _ => rfl)) (pe_ix (show IxR _ (rIxT K) from ix_tup) (pe_ix (show IxR _ (rIxT K) from ix_tup) (pv 1) pe_int (fun _ _ => rfl)) (pv 3) (fun _ _ => rfl)) (nomark _))) (fun _ _ _ _ _ => (pv 3)))
  (pss_cons (ps_if (pt_not (pt_tru (pv 4))) (pss_one (ps_ret (pe_cmpR op_le (pe_callB cl_len (by rfl) T.b_len (by decide +kernel) (pa_cons (pv 2) pa_nil)) pe_int (nomark _)))) pss_nil)
  (pss_cons (ps_if (PW.pt (pw_or (pt_tru (pv 2)) (pw_or1 (pt_cmpR op_ne (pe_callB cl_len (by rfl) T.b_len (by decide +kernel) (pa_cons (pv 4) pa_nil)) (pe_op op_sub (pe_op op_add (pe_ix ix_list (pv 4) (pe_un un_neg pe_int) (fun _ _ => rfl)) pe_int) (pe_ix ix_list (pv 4) pe_int (fun _ _ => rfl))) (nomark _))))) (pss_one (ps_ret pe_bl)) pss_nil)
  (pss_cons (ps_for PassesOwn.never rfl (pi_list (pv 4)) (pg_name (i := 3) sc_l_one_change.nd rfl (Or.inl rfl))
   (pss_one (ps_if (PW.pt (pw_or (pt_cmpR op_ne (pe_ix ix_tup (pe_ix ix_tup (pv 0) pe_int (fun _ _ => rfl)) (pv 3) (fun _ _ => rfl)) (pe_ix ix_tup (pe_ix ix_tup (pv 0) pe_int (fun _ _ => rfl)) (pe_ix ix_list (pv 4) pe_int (fun _ _ => rfl)) (fun _ _ => rfl)) (nomark _)) (pw_or1 (pt_cmpR op_ne (pe_ix ix_tup (pe_ix ix_tup (pv 1) pe_int (fun _ _ => rfl)) (pv 3) (fun _ _ => rfl)) (pe_ix ix_tup (pe_ix ix_tup (pv 1) pe_int (fun _ _ => rfl)) (pe_ix ix_list (pv 4) pe_int (fun _ _ => rfl)) (fun _ _ => rfl)) (nomark _))))) (pss_one (ps_ret pe_bl)) pss_nil)))
  (pss_one (ps_ret pe_bl))))))), ?_⟩
  try dsimp only [cxOf, Cx.nox, Cx.wish]
  exact run_P (m := 3) (τ := Unit) h rfl (fun b x hM => s_cq (Gn := fun _ : Unit => [])
    (s_seq (s_asg (i := 2) (e_new (en_comp (wk_range1 (ar_one e_int)) g_name rfl (fun a2 => (t_test (e_op o_neS (e_op o_ixT (e_it2_0 (e_var (i := 0) rfl)) (e_var (i := 3) rfl)) (e_op o_ixT (e_it2_0 (e_var (i := 1) rfl)) (e_var (i := 3) rfl))))) (fun a2 => (e_var (i := 3) rfl))))) fun signs1 =>
  (s_seq (s_asg (i := 4) (e_new (en_comp (wk_range1 (ar_one e_int)) g_name rfl (fun a4 => (t_test (e_op o_neS (e_op o_ixT (e_it2_1 (e_var (i := 0) rfl)) (e_var (i := 3) rfl)) (e_op o_ixT (e_it2_1 (e_var (i := 1) rfl)) (e_var (i := 3) rfl))))) (fun a4 => (e_var (i := 3) rfl))))) fun days3 =>
  (s_seq (s_if (Gn := (fun x5 : Unit => [val (rTp K (rCons (rTup K rStr) (rOne (rTup K rStr)))) x.1, val (rTp K (rCons (rTup K rStr) (rOne (rTup K rStr)))) x.2, val (rLst rInt) signs1, any, val (rLst rInt) days3])) (t_not (t_truL (lv_e (e_var (i := 4) rfl))))
  (s_retP (e_op o_I0b (e_lenL (lv_e (e_var (i := 2) rfl))) e_int))
  (s_wk (G := [val (rTp K (rCons (rTup K rStr) (rOne (rTup K rStr)))) x.1, val (rTp K (rCons (rTup K rStr) (rOne (rTup K rStr)))) x.2, val (rLst rInt) signs1, any, val (rLst rInt) days3]) (g := fun _ => ()) s_nil (fun _ => (Sub.keep (Sub.keep (Sub.keep (Sub.keep (Sub.keep Sub.nil)))))))) fun x5 =>
  (s_seq (s_if (Gn := (fun x8 : Unit => [val (rTp K (rCons (rTup K rStr) (rOne (rTup K rStr)))) x.1, val (rTp K (rCons (rTup K rStr) (rOne (rTup K rStr)))) x.2, val (rLst rInt) signs1, any, val (rLst rInt) days3])) (t_or (t_truL (lv_e (e_var (i := 2) rfl))) (t_test (e_op o_neI (e_lenL (lv_e (e_var (i := 4) rfl))) (e_op o_I0 (e_op o_I0 (e_ixL (lv_e (e_var (i := 4) rfl)) (e_neg e_int)) e_int) (e_ixL (lv_e (e_var (i := 4) rfl)) e_int)))))
  (s_retP e_bl)
  (s_wk (G := [val (rTp K (rCons (rTup K rStr) (rOne (rTup K rStr)))) x.1, val (rTp K (rCons (rTup K rStr) (rOne (rTup K rStr)))) x.2, val (rLst rInt) signs1, any, val (rLst rInt) days3]) (g := fun _ => ()) s_nil (fun _ => (Sub.keep (Sub.keep (Sub.keep (Sub.keep (Sub.keep Sub.nil)))))))) fun x8 =>
  (s_seq (s_for (Gt := (fun x11 : Unit => [val (rTp K (rCons (rTup K rStr) (rOne (rTup K rStr)))) x.1, val (rTp K (rCons (rTup K rStr) (rOne (rTup K rStr)))) x.2, val (rLst rInt) signs1, any, val (rLst rInt) days3])) (x0 := ()) (wk_list (e_var (i := 4) rfl)) g_name (Sub.keep (Sub.keep (Sub.keep (Sub.keep (Sub.keep Sub.nil))))) (fun a14 x11 =>
  (s_wk (G := [val (rTp K (rCons (rTup K rStr) (rOne (rTup K rStr)))) x.1, val (rTp K (rCons (rTup K rStr) (rOne (rTup K rStr)))) x.2, val (rLst rInt) signs1, val rInt a14, val (rLst rInt) days3]) (g := fun (x15 : Unit) => ()) (s_if (Gn := (fun x15 : Unit => [val (rTp K (rCons (rTup K rStr) (rOne (rTup K rStr)))) x.1, val (rTp K (rCons (rTup K rStr) (rOne (rTup K rStr)))) x.2, val (rLst rInt) signs1, val rInt a14, val (rLst rInt) days3])) (t_or (t_test (e_op o_neS (e_op o_ixT (e_it2_1 (e_var (i := 0) rfl)) (e_var (i := 3) rfl)) (e_op o_ixT (e_it2_1 (e_var (i := 0) rfl)) (e_ixL (lv_e (e_var (i := 4) rfl)) e_int)))) (t_test (e_op o_neS (e_op o_ixT (e_it2_1 (e_var (i := 1) rfl)) (e_var (i := 3) rfl)) (e_op o_ixT (e_it2_1 (e_var (i := 1) rfl)) (e_ixL (lv_e (e_var (i := 4) rfl)) e_int)))))
  (s_retP e_bl)
  (s_wk (G := [val (rTp K (rCons (rTup K rStr) (rOne (rTup K rStr)))) x.1, val (rTp K (rCons (rTup K rStr) (rOne (rTup K rStr)))) x.2, val (rLst rInt) signs1, val rInt a14, val (rLst rInt) days3]) (g := fun _ => ()) s_nil (fun _ => (Sub.keep (Sub.keep (Sub.keep (Sub.keep (Sub.keep Sub.nil)))))))) (fun (x15 : Unit) => (Sub.keep (Sub.keep (Sub.keep (Sub.drop (Sub.keep Sub.nil))))))))) fun x11 =>
  (s_retP e_bl)))))) (fun d h => h)) (fun x k h => by
    unfold W_l_one_change at h
    dsimp only at h ⊢
    exact h)
def W_l_days_tell (y : (List En)) (world0 : ((List Str) × (List Str) × (List Int) × Str × Str)) (due0 : ((List Str) × (List Str))) (k : Bool → Prop) : Prop :=
  world0.2.2.1.length + ([(59 : Int)] : List Int).length ≤ sizeLine ∧ forP (world0.2.2.1 ++ ([(59 : Int)] : List Int)) () (fun (a4 : Int) (x1 : Unit) (n2 : Unit → Prop) => let sign5 : (Option Str) := (toldN y "sign" a4); 0 ≤ a4 ∧ let name6 : (Option Str) := (ruleN y a4.toNat); (fun (n9 : Unit → Prop) => (fun (k17 : Str → Prop) => (sign5.isNone = true → k17 world0.2.2.2.1) ∧ (sign5.isNone = false → ∃ v19, sign5 = some v19 ∧ k17 v19)) fun v18 => ∃ v20, atI due0.1 a4 = some v20 ∧ ((!decide (v18 = v20)) = true → k false) ∧ ((!decide (v18 = v20)) = false → n9 ())) fun x7 => (fun (n12 : Unit → Prop) => (fun (k13 : Str → Prop) => (name6.isNone = true → k13 world0.2.2.2.2) ∧ (name6.isNone = false → ∃ v15, name6 = some v15 ∧ k13 v15)) fun v14 => ∃ v16, atI due0.2 a4 = some v16 ∧ ((!decide (v14 = v16)) = true → k false) ∧ ((!decide (v14 = v16)) = false → n12 ())) fun x10 => n2 ()) fun x1 => k true
theorem okM_l_days_tell (T : Txt K mg A) : FnOk P w K mg base CX0 2 A.f_l_days_tell A.d_l_days_tell ["_law_sheet", "_law_world_here", "_law_due_here"] (spR (cSh A.C_Sheet) (rCons (rRec (kCons "signs" (rLst rStr) (kCons "rules" (rLst rStr) (kCons "days" (rLst rInt) (kCons "sign" rStr (kOne "name" rStr)))))) (rOne (rTp K (rCons (rTup K rStr) (rOne (rTup K rStr)))))) rBl (fun y x k => W_l_days_tell y x.1 x.2 k)) := by
  refine T.F_l_days_tell.ok sc_l_days_tell (fun vs H Q E h => spR_len h) (fun cdv Ar outer s0 H vs Q E hr h => ?_)
  refine ⟨_, (pss_cons (ps_for PassesOwn.never rfl (pi_list (pe_op op_cat (pe_dget (hu_of hr) (pv 1) pe_str (fun _ _ => rfl)) (pe_lst (pa_cons pe_int pa_nil)))) (pg_name (i := 3) sc_l_days_tell.nd rfl (Or.inl rfl))
   (pss_cons (ps_set (i := 4) sc_l_days_tell.nd rfl (Or.inl rfl) (pe_meth (pv 0) T.cl_Sheet T.m_Sheet_sign_of (okM_Sheet_sign_of T) (hr.mono (by decide)) T.bi_Sheet_sign_of .nil pass0 (pa_cons (pv 3) pa_nil)))
  (pss_cons (ps_set (i := 5) sc_l_days_tell.nd rfl (Or.inl rfl) (pe_meth (pv 0) T.cl_Sheet T.m_Sheet_rule_of (okM_Sheet_rule_of T) (hr.mono (by decide)) T.bi_Sheet_rule_of .nil pass0 (pa_cons (pv 3) pa_nil)))
  (pss_cons (ps_if (pt_cmpR op_ne (pe_ifExp (pt_cmpR op_isN (pv 4) pe_non (nomark _)) (pe_dget (hu_of hr) (pv 1) pe_str (fun _ _ => rfl)) (pv 4)) (pe_ix ix_tup (pe_ix ix_tup (pv 2) pe_int (fun _ _ => rfl)) (pv 3) (fun _ _ => rfl)) (nomark _)) (pss_one (ps_ret pe_bl)) pss_nil)
  (pss_one (ps_if (pt_cmpR op_ne (pe_ifExp (pt_cmpR op_isN (pv 5) pe_non (nomark _)) (pe_dget (hu_of hr) (pv 1) pe_str (fun _ _ => rfl)) (pv 5)) (pe_ix ix_tup (pe_ix ix_tup (pv 2) pe_int (fun _ _ => rfl)) (pv 3) (fun _ _ => rfl)) (nomark _)) (pss_one (ps_ret pe_bl)) pss_nil))))))
  (pss_one (ps_ret pe_bl))), ?_⟩
  try dsimp only [cxOf, Cx.nox, Cx.wish]
  exact run_R (m := 3) (τ := Unit) h rfl (fun b p y x hM => s_cq (Gn := fun _ : Unit => [])
    (s_seq (s_for (Gt := (fun x1 : Unit => [own p (cSh A.C_Sheet) y, val (rRec (kCons "signs" (rLst rStr) (kCons "rules" (rLst rStr) (kCons "days" (rLst rInt) (kCons "sign" rStr (kOne "name" rStr)))))) x.1, val (rTp K (rCons (rTup K rStr) (rOne (rTup K rStr)))) x.2, any, any, any])) (x0 := ()) (wk_list (e_new (en_cat (lv_e (e_rec (e_var (i := 1) rfl) (rk_tl (by decide +kernel) (rk_tl (by decide +kernel) rk_hd)))) (lv_e (e_new (en_lst (al_cons e_int al_nil) (by decide))))))) g_name (Sub.keep (Sub.keep (Sub.keep (Sub.keep (Sub.keep (Sub.keep Sub.nil)))))) (fun a4 x1 =>
  (s_seq (s_asg (i := 4) (e_methR (i := 0) rfl (g := fun es (n : Int) k => k (toldN es "sign" n)) (sh_ins (shF_no (m := "sign_of") (by decide +kernel) (by decide +kernel) (by decide +kernel) (by decide +kernel))) (ar_one (e_var (i := 3) rfl)))) fun sign5 =>
  (s_seq (s_asg (i := 5) (e_methR (i := 0) rfl (g := fun es (n : Int) k => 0 ≤ n ∧ k (ruleN es n.toNat)) (sh_ins (shF_no (m := "rule_of") (by decide +kernel) (by decide +kernel) (by decide +kernel) (by decide +kernel))) (ar_one (e_var (i := 3) rfl)))) fun name6 =>
  (s_seq (s_if (Gn := (fun x7 : Unit => [own p (cSh A.C_Sheet) y, val (rRec (kCons "signs" (rLst rStr) (kCons "rules" (rLst rStr) (kCons "days" (rLst rInt) (kCons "sign" rStr (kOne "name" rStr)))))) x.1, val (rTp K (rCons (rTup K rStr) (rOne (rTup K rStr)))) x.2, val rInt a4, val (rOpt rStr) sign5, val (rOpt rStr) name6])) (t_test (e_op o_neS (e_if (t_test (e_isN (e_var (i := 4) rfl))) (e_rec (e_var (i := 1) rfl) (rk_tl (by decide +kernel) (rk_tl (by decide +kernel) (rk_tl (by decide +kernel) rk_hd)))) (e_get (e_var (i := 4) rfl))) (e_op o_ixT (e_it2_0 (e_var (i := 2) rfl)) (e_var (i := 3) rfl))))
  (s_retR (i := 0) (y := y) rfl e_bl)
  (s_wk (G := [own p (cSh A.C_Sheet) y, val (rRec (kCons "signs" (rLst rStr) (kCons "rules" (rLst rStr) (kCons "days" (rLst rInt) (kCons "sign" rStr (kOne "name" rStr)))))) x.1, val (rTp K (rCons (rTup K rStr) (rOne (rTup K rStr)))) x.2, val rInt a4, val (rOpt rStr) sign5, val (rOpt rStr) name6]) (g := fun _ => ()) s_nil (fun _ => (Sub.keep (Sub.keep (Sub.keep (Sub.keep (Sub.keep (Sub.keep Sub.nil))))))))) fun x7 =>
  (s_wk (G := [own p (cSh A.C_Sheet) y, val (rRec (kCons "signs" (rLst rStr) (kCons "rules" (rLst rStr) (kCons "days" (rLst rInt) (kCons "sign" rStr (kOne "name" rStr)))))) x.1, val (rTp K (rCons (rTup K rStr) (rOne (rTup K rStr)))) x.2, val rInt a4, val (rOpt rStr) sign5, val (rOpt rStr) name6]) (g := fun (x10 : Unit) => ()) (s_if (Gn := (fun x10 : Unit => [own p (cSh A.C_Sheet) y, val (rRec (kCons "signs" (rLst rStr) (kCons "rules" (rLst rStr) (kCons "days" (rLst rInt) (kCons "sign" rStr (kOne "name" rStr)))))) x.1, val (rTp K (rCons (rTup K rStr) (rOne (rTup K rStr)))) x.2, val rInt a4, val (rOpt rStr) sign5, val (rOpt rStr) name6])) (t_test (e_op o_neS (e_if (t_test (e_isN (e_var (i := 5) rfl))) (e_rec (e_var (i := 1) rfl) (rk_tl (by decide +kernel) (rk_tl (by decide +kernel) (rk_tl (by decide +kernel) (rk_tl (by decide +kernel) rk_one))))) (e_get (e_var (i := 5) rfl))) (e_op o_ixT (e_it2_1 (e_var (i := 2) rfl)) (e_var (i := 3) rfl))))
  (s_retR (i := 0) (y := y) rfl e_bl)
  (s_wk (G := [own p (cSh A.C_Sheet) y, val (rRec (kCons "signs" (rLst rStr) (kCons "rules" (rLst rStr) (kCons "days" (rLst rInt) (kCons "sign" rStr (kOne "name" rStr)))))) x.1, val (rTp K (rCons (rTup K rStr) (rOne (rTup K rStr)))) x.2, val rInt a4, val (rOpt rStr) sign5, val (rOpt rStr) name6]) (g := fun _ => ()) s_nil (fun _ => (Sub.keep (Sub.keep (Sub.keep (Sub.keep (Sub.keep (Sub.keep Sub.nil))))))))) (fun (x10 : Unit) => (Sub.keep (Sub.keep (Sub.keep (Sub.drop (Sub.drop (Sub.drop Sub.nil))))))))))))) fun x1 =>
  (s_retR (i := 0) (y := y) rfl e_bl)) (fun d h => h)) (fun y x k h => by
    unfold W_l_days_tell at h
    dsimp only at h ⊢
    exact h)
def W_l_due (read0 : (List En)) (world0 : ((List Str) × (List Str) × (List Int) × Str × Str)) (k : ((List Str) × (List Str)) → Prop) : Prop :=
  W_l_tracks read0 (60 : Int) false world0.2.2.2.1 world0.2.2.2.2 fun v2 => let t1 : ((List Str) × (List Str)) := v2; k (t1.1, t1.2)
theorem okM_l_due (T : Txt K mg A) : FnOk P w K mg base CX0 3 A.f_l_due A.d_l_due ["_law_read", "_law_world_here"] (spP (rCons (rLst rEn) (rOne (rRec (kCons "signs" (rLst rStr) (kCons "rules" (rLst rStr) (kCons "days" (rLst rInt) (kCons "sign" rStr (kOne "name" rStr)))))))) (rTp K (rCons (rTup K rStr) (rOne (rTup K rStr)))) (fun x k => W_l_due x.1 x.2 k)) := by
  refine T.F_l_due.ok sc_l_due (fun vs H Q E h => spP_len h) (fun cdv Ar outer s0 H vs Q E hr h => ?_)
  refine ⟨_, (pss_cons (ps_asg (pe_call (okM_l_tracks T) (hr.mono (by decide)) rfl T.g_l_tracks T.F_l_tracks.kp T.bi_l_tracks .nil pass0 (pa_cons (pv 0) (pa_cons pe_int (pa_cons pe_bl (pa_cons (pe_dget (hu_of hr) (pv 1) pe_str (fun _ _ => rfl)) (pa_cons (pe_dget (hu_of hr) (pv 1) pe_str (fun _ _ => rfl)) pa_nil)))))) (pg_tup (n := 2) rfl (pgs_cons (pg_name (i := 2) sc_l_due.nd rfl (Or.inl rfl)) (pgs_cons (pg_name (i := 3) sc_l_due.nd rfl (Or.inl rfl)) pgs_nil)) (by rfl)))
  (pss_one (ps_ret (pe_tup (pa_cons (pe_callTy cl_tuple (by rfl) T.b_tuple (by decide +kernel) (pa_cons (pv 2) pa_nil)) (pa_cons (pe_callTy cl_tuple (by rfl) T.b_tuple (by decide +kernel) (pa_cons (pv 3) pa_nil)) pa_nil)))))), ?_⟩
  try dsimp only [cxOf, Cx.nox, Cx.wish]
  exact run_P (m := 2) (τ := Unit) h rfl (fun b x hM => s_cq (Gn := fun _ : Unit => [])
    (s_seq (s_asgT (e_call (ar_cons (e_var (i := 0) rfl) (ar_cons e_int (ar_cons e_bl (ar_cons (e_rec (e_var (i := 1) rfl) (rk_tl (by decide +kernel) (rk_tl (by decide +kernel) (rk_tl (by decide +kernel) rk_hd)))) (ar_one (e_rec (e_var (i := 1) rfl) (rk_tl (by decide +kernel) (rk_tl (by decide +kernel) (rk_tl (by decide +kernel) (rk_tl (by decide +kernel) rk_one))))))))))) (g_tup (gi_cons gi_one) rfl)) fun t1 =>
  (s_retP (e_tup (ar_cons (e_tupL (lv_e (e_var (i := 2) rfl))) (ar_one (e_tupL (lv_e (e_var (i := 3) rfl))))) (Nat.le_of_ble_eq_true rfl)))) (fun d h => h)) (fun x k h => by
    unfold W_l_due at h
    dsimp only at h ⊢
    exact h)
def W_law (k : Bool → Prop) : Prop :=
  W_l_world  fun v75 => let world1 : ((List Str) × (List Str) × (List Int) × Str × Str) := v75; W_l_pick (9 : Int) fun v74 => W_l_numbers v74 fun v73 => W_l_rows world1 v73 fun v72 => let entries2 : (List En) := v72; W_l_mingled entries2 fun v71 => ShPre v71 ∧ ∀ es4 : List En, es4.Perm v71 → Asc (es4.map En.num) → let sheet3 : (List En) := es4; W_l_both sheet3 world1 fun v70 => let before7 : ((List Str) × (List Str)) := v70; (fun (n10 : Unit → Prop) => W_l_due entries2 world1 fun v65 => ((∀ z67 ∈ before7.1, PyData.strOk z67 = true) ∧ (∀ z66 ∈ before7.2, PyData.strOk z66 = true)) ∧ ((∀ z69 ∈ v65.1, PyData.strOk z69 = true) ∧ (∀ z68 ∈ v65.2, PyData.strOk z68 = true)) ∧ ((!decide (before7 = v65)) = true → k false) ∧ ((!decide (before7 = v65)) = false → n10 ())) fun x8 => (fun (k61 : Int → Prop) => ((!entries2.isEmpty) = true → ∃ v63, atI entries2 (-(1 : Int)) = some v63 ∧ k61 v63.num) ∧ ((!entries2.isEmpty) = false → k61 (0 : Int))) fun v62 => W_l_pick (9 : Int) fun v64 => let closing11 : Int := ((v62 + (4 : Int)) + v64); W_l_further world1 entries2 fun v60 => forP v60 () (fun (a15 : En) (x12 : Unit) (n13 : Unit → Prop) => ShPre ([a15] : List En) ∧ ∀ es17 : List En, es17.Perm ([a15] : List En) → Asc (es17.map En.num) → ShPre (sheet3 ++ es17) ∧ ∀ es18 : List En, es18.Perm (sheet3 ++ es17) → Asc (es18.map En.num) → let grown16 : (List En) := es18; entries2.length + ([a15] : List En).length ≤ sizeLine ∧ W_l_due (entries2 ++ ([a15] : List En)) world1 fun v50 => let due21 : ((List Str) × (List Str)) := v50; W_l_both grown16 world1 fun v49 => let behind22 : ((List Str) × (List Str)) := v49; (fun (n25 : Unit → Prop) => (fun (k39 : Bool → Prop) => ((∀ z46 ∈ behind22.1, PyData.strOk z46 = true) ∧ (∀ z45 ∈ behind22.2, PyData.strOk z45 = true)) ∧ ((∀ z48 ∈ due21.1, PyData.strOk z48 = true) ∧ (∀ z47 ∈ due21.2, PyData.strOk z47 = true)) ∧ ((!decide (behind22 = due21)) = true → k39 true) ∧ ((!decide (behind22 = due21)) = false → (fun (k41 : Bool → Prop) => W_l_one_change before7 behind22 fun v43 => ((!v43) = true → k41 true) ∧ ((!v43) = false → W_l_days_tell grown16 world1 due21 fun v44 => k41 (!v44))) fun c42 => k39 c42)) fun c40 => (c40 = true → k false) ∧ (c40 = false → n25 ())) fun x23 => ShPre ([(En.vd closing11 a15.num)] : List En) ∧ ∀ es27 : List En, es27.Perm ([(En.vd closing11 a15.num)] : List En) → Asc (es27.map En.num) → ShPre (grown16 ++ es27) ∧ ∀ es28 : List En, es28.Perm (grown16 ++ es27) → Asc (es28.map En.num) → let undone26 : (List En) := es28; (fun (n33 : Unit → Prop) => W_l_both undone26 world1 fun v34 => ((∀ z36 ∈ v34.1, PyData.strOk z36 = true) ∧ (∀ z35 ∈ v34.2, PyData.strOk z35 = true)) ∧ ((∀ z38 ∈ before7.1, PyData.strOk z38 = true) ∧ (∀ z37 ∈ before7.2, PyData.strOk z37 = true)) ∧ ((!decide (v34 = before7)) = true → k false) ∧ ((!decide (v34 = before7)) = false → n33 ())) fun x31 => n13 ()) fun x12 => (fun (k51 : Bool → Prop) => (∀ z58 ∈ sheet3, EnStr z58) ∧ (∀ z59 ∈ entries2, EnStr z59) ∧ ((decide (sheet3 = entries2)) = true → W_l_both sheet3 world1 fun v53 => ((∀ z55 ∈ v53.1, PyData.strOk z55 = true) ∧ (∀ z54 ∈ v53.2, PyData.strOk z54 = true)) ∧ ((∀ z57 ∈ before7.1, PyData.strOk z57 = true) ∧ (∀ z56 ∈ before7.2, PyData.strOk z56 = true)) ∧ k51 (decide (v53 = before7))) ∧ ((decide (sheet3 = entries2)) = false → k51 false)) fun c52 => k c52
theorem okM_law (T : Txt K mg A) (math : W_law (fun r => r = true)) : FnOk P w K mg base CX0 8 A.f_law A.d_law ["_law_script"] (spLaw K) := by
  refine T.F_law.ok sc_law (fun vs H Q E h => ?_) (fun cdv Ar outer s0 H vs Q E hr h => ?_)
  · obtain ⟨a, ns, rfl, _⟩ := h; rfl
  refine ⟨_, (pss_cons (ps_set (i := 1) sc_law.nd rfl (Or.inl rfl) (pe_call (okM_l_bag T) (hr.mono (by decide)) rfl T.g_l_bag T.F_l_bag.kp T.bi_l_bag .nil pass0 (pa_cons (pv 0) pa_nil)))
  (pss_cons (ps_set (i := 2) sc_law.nd rfl (Or.inl rfl) (pe_call (okM_l_world T) (hr.mono (by decide)) rfl T.g_l_world T.F_l_world.kp T.bi_l_world .nil pass0 (pa_cons (pv 1) pa_nil)))
  (pss_cons (ps_set (i := 3) sc_law.nd rfl (Or.inl rfl) (pe_call (okM_l_rows T) (hr.mono (by decide)) rfl T.g_l_rows T.F_l_rows.kp T.bi_l_rows .nil pass0 (pa_cons (pv 1) (pa_cons (pv 2) (pa_cons (pe_call (okM_l_numbers T) (hr.mono (by decide)) rfl T.g_l_numbers T.F_l_numbers.kp T.bi_l_numbers .nil pass0 (pa_cons (pv 1) (pa_cons (pe_call (okM_l_pick T) (hr.mono (by decide)) rfl T.g_l_pick T.F_l_pick.kp T.bi_l_pick .nil pass0 (pa_cons (pv 1) (pa_cons pe_int pa_nil))) pa_nil))) pa_nil)))))
  (pss_cons (ps_set (i := 4) sc_law.nd rfl (Or.inl rfl) (pe_make T.mk_Sheet (ok_Sheet___init__ T) (hr.mono (by decide)) rfl T.g_Sheet T.bi_Sheet_XinitX .nil pass0 (pa_cons (pe_call (okM_l_mingled (r := rEn) T) (hr.mono (by decide)) rfl T.g_l_mingled T.F_l_mingled.kp T.bi_l_mingled .nil pass0 (pa_cons (pv 1) (pa_cons (pv 3) pa_nil))) pa_nil)))
  (pss_cons (ps_set (i := 5) sc_law.nd rfl (Or.inl rfl) (pe_call (okM_l_both T) (hr.mono (by decide)) rfl T.g_l_both T.F_l_both.kp T.bi_l_both .nil pass0 (pa_cons (pv 4) (pa_cons (pv 2) pa_nil))))
  (pss_cons (ps_if (pt_cmpR (op_neD hr.units) (pv 5) (pe_call (okM_l_due T) (hr.mono (by decide)) rfl T.g_l_due T.F_l_due.kp T.bi_l_due .nil pass0 (pa_cons (pv 3) (pa_cons (pv 2) pa_nil))) (nomark _)) (pss_one (ps_ret pe_bl)) pss_nil)
  (pss_cons (ps_set (i := 6) sc_law.nd rfl (Or.inl rfl) (pe_op op_add (pe_op op_add (pe_ifExp (pt_tru (pv 3)) (pe_ix ix_tup (pe_ix ix_list (pv 3) (pe_un un_neg pe_int) (fun _ _ => rfl)) pe_int (fun _ _ => rfl)) pe_int) pe_int) (pe_call (okM_l_pick T) (hr.mono (by decide)) rfl T.g_l_pick T.F_l_pick.kp T.bi_l_pick .nil pass0 (pa_cons (pv 1) (pa_cons pe_int pa_nil)))))
  (pss_cons (ps_for PassesOwn.never rfl (pi_list (pe_call (okM_l_further T) (hr.mono (by decide)) rfl T.g_l_further T.F_l_further.kp T.bi_l_further .nil pass0 (pa_cons (pv 1) (pa_cons (pv 2) (pa_cons (pv 3) pa_nil))))) (pg_name (i := 7) sc_law.nd rfl (Or.inl rfl))
   (pss_cons (ps_set (i := 8) sc_law.nd rfl (Or.inl rfl) (pe_op (op_ownS (ok_Sheet___or__ T) (hr.mono (by decide)) T.sf_Sheet T.io_or_Sheet T.if_or_Sheet T.bi_Sheet_XorX pass0) (pv 4) (pe_make T.mk_Sheet (ok_Sheet___init__ T) (hr.mono (by decide)) rfl T.g_Sheet T.bi_Sheet_XinitX .nil pass0 (pa_cons (pe_lst (pa_cons (pv 7) pa_nil)) pa_nil))))
  (pss_cons (ps_set (i := 9) sc_law.nd rfl (Or.inl rfl) (pe_call (okM_l_due T) (hr.mono (by decide)) rfl T.g_l_due T.F_l_due.kp T.bi_l_due .nil pass0 (pa_cons (pe_op op_cat (pv 3) (pe_lst (pa_cons (pv 7) pa_nil))) (pa_cons (pv 2) pa_nil))))
  (pss_cons (ps_set (i := 10) sc_law.nd rfl (Or.inl rfl) (pe_call (okM_l_both T) (hr.mono (by decide)) rfl T.g_l_both T.F_l_both.kp T.bi_l_both .nil pass0 (pa_cons (pv 8) (pa_cons (pv 2) pa_nil))))
  (pss_cons (ps_if (PW.pt (pw_or (pt_cmpR (op_neD hr.units) (pv 10) (pv 9) (nomark _)) (pw_or (pt_not (pt_val (pe_call (okM_l_one_change T) (hr.mono (by decide)) rfl T.g_l_one_change T.F_l_one_change.kp T.bi_l_one_change .nil pass0 (pa_cons (pv 5) (pa_cons (pv 10) pa_nil))))) (pw_or1 (pt_not (pt_val (pe_call (okM_l_days_tell T) (hr.mono (by decide)) rfl T.g_l_days_tell T.F_l_days_tell.kp T.bi_l_days_tell .nil pass0 (pa_cons (pv 8) (pa_cons (pv 2) (pa_cons (pv 9) pa_nil)))))))))) (pss_one (ps_ret pe_bl)) pss_nil)
  (pss_cons (ps_set (i := 11) sc_law.nd rfl (Or.inl rfl) (pe_op (op_ownS (ok_Sheet___or__ T) (hr.mono (by decide)) T.sf_Sheet T.io_or_Sheet T.if_or_Sheet T.bi_Sheet_XorX pass0) (pv 8) (pe_make T.mk_Sheet (ok_Sheet___init__ T) (hr.mono (by decide)) rfl T.g_Sheet T.bi_Sheet_XinitX .nil pass0 (pa_cons (pe_lst (pa_cons (pe_tup (pa_cons (pv 6) (pa_cons pe_str (pa_cons (pe_ix ix_tup (pv 7) pe_int (fun _ _ => rfl)) pa_nil)))) pa_nil)) pa_nil))))
  (pss_one (ps_if (pt_cmpR (op_neD hr.units) (pe_call (okM_l_both T) (hr.mono (by decide)) rfl T.g_l_both T.F_l_both.kp T.bi_l_both .nil pass0 (pa_cons (pv 11) (pa_cons (pv 2) pa_nil))) (pv 5) (nomark _)) (pss_one (ps_ret pe_bl)) pss_nil))))))))
  (pss_one (ps_ret (pe_and (pe_cmpR (op_eqD hr.units) (pe_callTy (call_listT rfl T.il_Sheet (okM_Sheet_iter T) T.bi_Sheet_XiterX noX0 (okM_Sheet_len T) T.bi_Sheet_XlenX noX0 (hr.mono (by decide))) (by rfl) T.b_list (by decide +kernel) (pa_cons (pv 4) pa_nil)) (pv 3) (nomark _)) (pe_one (pe_cmpR (op_eqD hr.units) (pe_call (okM_l_both T) (hr.mono (by decide)) rfl T.g_l_both T.F_l_both.kp T.bi_l_both .nil pass0 (pa_cons (pv 4) (pa_cons (pv 2) pa_nil))) (pv 5) (nomark _)))))))))))))), ?_⟩
  try dsimp only [cxOf, Cx.nox, Cx.wish]
  exact run_law (n := 12) (j := 1) (τ := Unit) h rfl (by decide) (by decide) (fun b p hM => s_cq (Gn := fun _ : Unit => [])
    (s_seq (s_asg (i := 2) (e_callB (i := 1) rfl ar_nil)) fun world1 =>
  (s_seq (s_asg (i := 3) (e_callB (i := 1) rfl (ar_cons (e_var (i := 2) rfl) (ar_one (e_callB (i := 1) rfl (ar_one (e_callB (i := 1) rfl (ar_one e_int)))))))) fun entries2 =>
  (s_newc (i := 4) (enc_sheet (lv_e (e_callB (i := 1) rfl (ar_one (e_var (i := 3) rfl))))) fun p5 sheet3 hm6 =>
  (s_seq (s_asg (i := 5) (e_callR (i := 4) rfl (ar_one (e_var (i := 2) rfl)))) fun before7 =>
  (s_seq (s_if (Gn := (fun x8 : Unit => [any, own p cBag (), val (rRec (kCons "signs" (rLst rStr) (kCons "rules" (rLst rStr) (kCons "days" (rLst rInt) (kCons "sign" rStr (kOne "name" rStr)))))) world1, val (rLst rEn) entries2, own p5 (cSh A.C_Sheet) sheet3, val (rTp K (rCons (rTup K rStr) (rOne (rTup K rStr)))) before7, any, any, any, any, any, any])) (t_test (e_op (o_neD (daTp (daCons (daTup daStr) (daOne (daTup daStr)))) (Nat.le_of_ble_eq_true rfl)) (e_var (i := 5) rfl) (e_call (ar_cons (e_var (i := 3) rfl) (ar_one (e_var (i := 2) rfl))))))
  (s_retP e_bl)
  (s_wk (G := [any, own p cBag (), val (rRec (kCons "signs" (rLst rStr) (kCons "rules" (rLst rStr) (kCons "days" (rLst rInt) (kCons "sign" rStr (kOne "name" rStr)))))) world1, val (rLst rEn) entries2, own p5 (cSh A.C_Sheet) sheet3, val (rTp K (rCons (rTup K rStr) (rOne (rTup K rStr)))) before7, any, any, any, any, any, any]) (g := fun _ => ()) s_nil (fun _ => (Sub.keep (Sub.keep (Sub.keep (Sub.keep (Sub.keep (Sub.keep (Sub.keep (Sub.keep (Sub.keep (Sub.keep (Sub.keep (Sub.keep Sub.nil))))))))))))))) fun x8 =>
  (s_seq (s_asg (i := 6) (e_op o_I0 (e_op o_I0 (e_if (t_truL (lv_e (e_var (i := 3) rfl))) (e_en0 (e_ixL (lv_e (e_var (i := 3) rfl)) (e_neg e_int))) e_int) e_int) (e_callB (i := 1) rfl (ar_one e_int)))) fun closing11 =>
  (s_seq (s_for (Gt := (fun x12 : Unit => [any, own p cBag (), val (rRec (kCons "signs" (rLst rStr) (kCons "rules" (rLst rStr) (kCons "days" (rLst rInt) (kCons "sign" rStr (kOne "name" rStr)))))) world1, val (rLst rEn) entries2, own p5 (cSh A.C_Sheet) sheet3, val (rTp K (rCons (rTup K rStr) (rOne (rTup K rStr)))) before7, val rInt closing11, any, any, any, any, any])) (x0 := ()) (wk_list (e_callB (i := 1) rfl (ar_cons (e_var (i := 2) rfl) (ar_one (e_var (i := 3) rfl))))) g_name (Sub.keep (Sub.keep (Sub.keep (Sub.keep (Sub.keep (Sub.keep (Sub.keep (Sub.keep (Sub.keep (Sub.keep (Sub.keep (Sub.keep Sub.nil)))))))))))) (fun a15 x12 =>
  (s_newc (i := 8) (enc_or (i := 4) rfl (enc_sheet (lv_e (e_new (en_lst (al_cons (e_var (i := 7) rfl) al_nil) (by decide)))))) fun p19 grown16 hm20 =>
  (s_seq (s_asg (i := 9) (e_call (ar_cons (e_new (en_cat (lv_e (e_var (i := 3) rfl)) (lv_e (e_new (en_lst (al_cons (e_var (i := 7) rfl) al_nil) (by decide)))))) (ar_one (e_var (i := 2) rfl))))) fun due21 =>
  (s_seq (s_asg (i := 10) (e_callR (i := 8) rfl (ar_one (e_var (i := 2) rfl)))) fun behind22 =>
  (s_seq (s_if (Gn := (fun x23 : Unit => [any, own p cBag (), val (rRec (kCons "signs" (rLst rStr) (kCons "rules" (rLst rStr) (kCons "days" (rLst rInt) (kCons "sign" rStr (kOne "name" rStr)))))) world1, val (rLst rEn) entries2, own p5 (cSh A.C_Sheet) sheet3, val (rTp K (rCons (rTup K rStr) (rOne (rTup K rStr)))) before7, val rInt closing11, val rEn a15, own p19 (cSh A.C_Sheet) grown16, val (rTp K (rCons (rTup K rStr) (rOne (rTup K rStr)))) due21, val (rTp K (rCons (rTup K rStr) (rOne (rTup K rStr)))) behind22, any])) (t_or (t_test (e_op (o_neD (daTp (daCons (daTup daStr) (daOne (daTup daStr)))) (Nat.le_of_ble_eq_true rfl)) (e_var (i := 10) rfl) (e_var (i := 9) rfl))) (t_or (t_not (t_B (e_call (ar_cons (e_var (i := 5) rfl) (ar_one (e_var (i := 10) rfl)))))) (t_not (t_B (e_callR (i := 8) rfl (ar_cons (e_var (i := 2) rfl) (ar_one (e_var (i := 9) rfl))))))))
  (s_retP e_bl)
  (s_wk (G := [any, own p cBag (), val (rRec (kCons "signs" (rLst rStr) (kCons "rules" (rLst rStr) (kCons "days" (rLst rInt) (kCons "sign" rStr (kOne "name" rStr)))))) world1, val (rLst rEn) entries2, own p5 (cSh A.C_Sheet) sheet3, val (rTp K (rCons (rTup K rStr) (rOne (rTup K rStr)))) before7, val rInt closing11, val rEn a15, own p19 (cSh A.C_Sheet) grown16, val (rTp K (rCons (rTup K rStr) (rOne (rTup K rStr)))) due21, val (rTp K (rCons (rTup K rStr) (rOne (rTup K rStr)))) behind22, any]) (g := fun _ => ()) s_nil (fun _ => (Sub.keep (Sub.keep (Sub.keep (Sub.keep (Sub.keep (Sub.keep (Sub.keep (Sub.keep (Sub.keep (Sub.keep (Sub.keep (Sub.keep Sub.nil))))))))))))))) fun x23 =>
  (s_newc (i := 11) (enc_or (i := 8) rfl (enc_sheet (lv_e (e_new (en_lst (al_cons (e_vd (e_var (i := 6) rfl) (e_en0 (e_var (i := 7) rfl))) al_nil) (by decide)))))) fun p29 undone26 hm30 =>
  (s_wk (G := [any, own p cBag (), val (rRec (kCons "signs" (rLst rStr) (kCons "rules" (rLst rStr) (kCons "days" (rLst rInt) (kCons "sign" rStr (kOne "name" rStr)))))) world1, val (rLst rEn) entries2, own p5 (cSh A.C_Sheet) sheet3, val (rTp K (rCons (rTup K rStr) (rOne (rTup K rStr)))) before7, val rInt closing11, val rEn a15, own p19 (cSh A.C_Sheet) grown16, val (rTp K (rCons (rTup K rStr) (rOne (rTup K rStr)))) due21, val (rTp K (rCons (rTup K rStr) (rOne (rTup K rStr)))) behind22, own p29 (cSh A.C_Sheet) undone26]) (g := fun (x31 : Unit) => ()) (s_if (Gn := (fun x31 : Unit => [any, own p cBag (), val (rRec (kCons "signs" (rLst rStr) (kCons "rules" (rLst rStr) (kCons "days" (rLst rInt) (kCons "sign" rStr (kOne "name" rStr)))))) world1, val (rLst rEn) entries2, own p5 (cSh A.C_Sheet) sheet3, val (rTp K (rCons (rTup K rStr) (rOne (rTup K rStr)))) before7, val rInt closing11, val rEn a15, own p19 (cSh A.C_Sheet) grown16, val (rTp K (rCons (rTup K rStr) (rOne (rTup K rStr)))) due21, val (rTp K (rCons (rTup K rStr) (rOne (rTup K rStr)))) behind22, own p29 (cSh A.C_Sheet) undone26])) (t_test (e_op (o_neD (daTp (daCons (daTup daStr) (daOne (daTup daStr)))) (Nat.le_of_ble_eq_true rfl)) (e_callR (i := 11) rfl (ar_one (e_var (i := 2) rfl))) (e_var (i := 5) rfl)))
  (s_retP e_bl)
  (s_wk (G := [any, own p cBag (), val (rRec (kCons "signs" (rLst rStr) (kCons "rules" (rLst rStr) (kCons "days" (rLst rInt) (kCons "sign" rStr (kOne "name" rStr)))))) world1, val (rLst rEn) entries2, own p5 (cSh A.C_Sheet) sheet3, val (rTp K (rCons (rTup K rStr) (rOne (rTup K rStr)))) before7, val rInt closing11, val rEn a15, own p19 (cSh A.C_Sheet) grown16, val (rTp K (rCons (rTup K rStr) (rOne (rTup K rStr)))) due21, val (rTp K (rCons (rTup K rStr) (rOne (rTup K rStr)))) behind22, own p29 (cSh A.C_Sheet) undone26]) (g := fun _ => ()) s_nil (fun _ => (Sub.keep (Sub.keep (Sub.keep (Sub.keep (Sub.keep (Sub.keep (Sub.keep (Sub.keep (Sub.keep (Sub.keep (Sub.keep (Sub.keep Sub.nil))))))))))))))) (fun (x31 : Unit) => (Sub.keep (Sub.keep (Sub.keep (Sub.keep (Sub.keep (Sub.keep (Sub.keep (Sub.drop (Sub.drop (Sub.drop (Sub.drop (Sub.drop Sub.nil))))))))))))))))))))) fun x12 =>
  (s_retP (e_andV (e_op (o_eqD (daLst daEn) (Nat.le_of_ble_eq_true rfl)) (e_new (en_listSh (i := 4) rfl)) (e_var (i := 3) rfl)) (e_op (o_eqD (daTp (daCons (daTup daStr) (daOne (daTup daStr)))) (Nat.le_of_ble_eq_true rfl)) (e_callR (i := 4) rfl (ar_one (e_var (i := 2) rfl))) (e_var (i := 5) rfl))))))))))) (fun d h => h)) (by
    have h := math
    unfold W_law at h
    dsimp only at h ⊢
    exact h)
end
end Mi
/-! K08Math -/
set_option Elab.async false
set_option linter.all false
set_option maxRecDepth 100000
set_option maxHeartbeats 4000000
namespace Mi
open PySem PySem.Spec L2 Dh
theorem pick {m : Int} {k : Int → Prop} (m0 : 0 < m) (m1 : m < 1073741824) (q : ∀ r, 0 ≤ r → r < m → k r) : W_l_pick m k := ⟨m0, m1, q⟩
theorem sz {n : Nat} (h : n < 100000) : n < sizeLine := Nat.lt_of_lt_of_le h (by decide)
theorem szl {n : Nat} (h : n ≤ 100000) : n ≤ sizeLine := Nat.le_trans h (by decide)
theorem asc_app {ns : List Int} {m y : Int} (h : Asc ns) (l : ∀ n ∈ ns, n ≤ m) (hy : m < y) : Asc (ns ++ [y]) := by
  refine List.pairwise_append.mpr ⟨h, List.pairwise_singleton _ _, fun a ha c hc => ?_⟩
  rw [List.mem_singleton.mp hc]
  have := l a ha; omega
theorem wp_numbers {many : Int} {k : List Int → Prop} (h0 : 0 ≤ many) (h1 : many ≤ 8) (q : ∀ ns : List Int, (ns.length : Int) = many → Asc ns → (∀ n ∈ ns, 1 ≤ n ∧ n ≤ 640) → k ns) : W_l_numbers many k := by
  unfold W_l_numbers
  refine pick (by decide) (by decide) fun r r0 r1 => ?_
  obtain ⟨z, hz, mz⟩ := atI_lt (xs := ([0, 0, 0, 7, 95, 600] : List Int)) r0 r1
  refine ⟨z, hz, ?_⟩
  have hz2 : 0 ≤ z ∧ z ≤ 600 := by
    have := List.mem_of_getElem? mz
    simp at this; omega
  refine pick (by decide) (by decide) fun r' r0' r1' => ?_
  obtain ⟨g, hg, mg'⟩ := atI_lt (xs := ([1, 2, 2, 5] : List Int)) r0' r1'
  refine ⟨g, hg, ?_⟩
  have hg2 : 1 ≤ g ∧ g ≤ 5 := by
    have := List.mem_of_getElem? mg'
    simp at this; omega
  refine ⟨by omega, fun i x => (x.2.length : Int) = i ∧ Asc x.2 ∧ (∀ n ∈ x.2, 1 ≤ n ∧ n ≤ x.1 ∧ n ≤ 640) ∧ 0 ≤ x.1 ∧ x.1 ≤ 600 + 5 * i, ⟨rfl, List.Pairwise.nil, (fun n h => nomatch h), hz2.1, by show z ≤ 600 + 5 * ((0 : Nat) : Int); omega⟩, fun i a x ha ⟨hl, asc, hb, x0, x1⟩ => ?_, fun x ⟨hl, asc, hb, _⟩ => ?_⟩
  · have hi := (rng_inv ha).1
    refine pick (by omega) (by omega) fun v v0 v1 => ⟨sz (by omega), ?_, ?_, ?_, ?_, ?_⟩
    · simp; omega
    · exact asc_app asc (fun n hn => (hb n hn).2.1) (by omega)
    · intro n hn
      rcases List.mem_append.mp hn with h | h
      · have := hb n h
        refine ⟨this.1, ?_, this.2.2⟩
        show n ≤ x.1 + 1 + v
        omega
      · rw [List.mem_singleton.mp h]
        refine ⟨by omega, Int.le_refl _, by omega⟩
    · show 0 ≤ x.1 + 1 + v; omega
    · show x.1 + 1 + v ≤ 600 + 5 * ((i + 1 : Nat) : Int); omega
  · rw [rng_len] at hl
    exact q _ (by omega) asc fun n hn => ⟨(hb n hn).1, (hb n hn).2.2⟩
abbrev Wo := List Str × List Str × List Int × Str × Str
structure WOk (w : Wo) : Prop where
  s0 : 0 < w.1.length
  s1 : w.1.length ≤ 3
  sn : ∀ x ∈ w.1, NameOk x
  r0 : 0 < w.2.1.length
  r1 : w.2.1.length ≤ 3
  rn : ∀ x ∈ w.2.1, NameOk x
  d0 : 0 < w.2.2.1.length
  d1 : w.2.2.1.length ≤ 60
  dn : ∀ d ∈ w.2.2.1, 0 ≤ d ∧ d ≤ 59
  gn : NameOk w.2.2.2.1
  nn : NameOk w.2.2.2.2
theorem wp_names {n : Int} {k : List Str → Prop} (h0 : 0 ≤ n) (h1 : n ≤ 3) (q : ∀ us : List Str, (us.length : Int) = n → (∀ x ∈ us, NameOk x) → k us) :
    forP (rng 0 n.toNat) ([] : List Str) (fun (_ : Int) (x : List Str) (m : List Str → Prop) => W_l_new_name x fun y => m y.2) k := by
  refine ⟨fun i x => x.length = i ∧ ∀ u ∈ x, NameOk u, ⟨rfl, fun u h => nomatch h⟩, fun i a x ha ⟨hl, hn⟩ => ?_, fun x ⟨hl, hn⟩ => q x (by rw [rng_len] at hl; omega) hn⟩
  have hi := (rng_inv ha).1
  refine ⟨by omega, hn, fun u hu _ => ⟨by simp [hl], fun z hz => ?_⟩⟩
  rcases List.mem_append.mp hz with h | h
  · exact hn z h
  · rw [List.mem_singleton.mp h]; exact hu
theorem ord_ok : NameOk "ordinary" := ⟨by decide +kernel, by decide +kernel, by decide +kernel⟩
theorem ord_app {ss : List Str} (h : ∀ x ∈ ss, NameOk x) : ∀ x ∈ ss ++ (["ordinary"] : List Str), NameOk x := fun x hx => (List.mem_append.mp hx).elim (h x) fun z => by rw [List.mem_singleton.mp z]; exact ord_ok
end Mi
/-! K08Math2 -/
set_option Elab.async false
set_option linter.all false
set_option maxRecDepth 100000
set_option maxHeartbeats 4000000
namespace Dh
open PySem PySem.Spec L2
/-- what comes later withdraws no greater number -/
theorem wd_later {es : List En} (asc : Asc (es.map En.num)) (O : ∀ e ∈ es, e.Ok) {j : Nat} {e : En} (h : es.reverse[j]? = some e) : ∀ k, e.num ∈ wdR (es.reverse.take (j + k)) ↔ e.num ∈ wdR (es.reverse.take j)
  | 0 => Iff.rfl
  | k + 1 => by
    rw [← wd_later asc O h k]
    cases hf : es.reverse[j + k]? with
    | none =>
      have : es.reverse.take (j + (k + 1)) = es.reverse.take (j + k) := by
        have := List.getElem?_eq_none_iff.mp hf
        rw [List.take_of_length_le this, List.take_of_length_le (by omega)]
      rw [this]
    | some f =>
      have ht : wdR (es.reverse.take (j + (k + 1))) = wdStep (wdR (es.reverse.take (j + k))) f := by
        rw [← Nat.add_assoc, List.take_succ, hf]; exact wdR_snoc _ _
      rw [ht]
      have le : f.num ≤ e.num := by
        have l1 := (List.getElem?_eq_some_iff.mp hf).1
        rw [List.length_reverse] at l1
        have h1 : es[es.length - 1 - j]? = some e := by rw [← List.getElem?_reverse (by omega)]; exact h
        have h2 : es[es.length - 1 - (j + k)]? = some f := by rw [← List.getElem?_reverse (by omega)]; exact hf
        by_cases q : k = 0
        · subst q
          rw [Nat.add_zero] at h2
          rw [h1] at h2
          cases h2
          omega
        · have h3 : (es.map En.num)[es.length - 1 - j]? = some e.num := by rw [List.getElem?_map, h1]; rfl
          have h4 : (es.map En.num)[es.length - 1 - (j + k)]? = some f.num := by rw [List.getElem?_map, h2]; rfl
          have := asc_lt asc h4 h3 (by omega)
          omega
      have fO := O f (List.mem_reverse.mp (List.mem_of_getElem? hf))
      cases f with
      | vd n o =>
        have : o < n := by have := fO.2.2.2; omega
        have le' : n ≤ e.num := le
        show _ ∈ (if n ∈ wdR (es.reverse.take (j + k)) then _ else o :: wdR (es.reverse.take (j + k))) ↔ _
        split
        · exact Iff.rfl
        · rw [List.mem_cons]
          exact ⟨fun z => z.elim (fun z => by omega) id, .inr⟩
      | sg n d y => exact Iff.rfl
      | rl n d y => exact Iff.rfl
end Dh
namespace Mi
open PySem PySem.Spec L2 Dh
/-! ### what stands -/
theorem wd_full {es : List En} (asc : Asc (es.map En.num)) (O : ∀ e ∈ es, e.Ok) {j : Nat} {e : En} (h : es.reverse[j]? = some e) : e.num ∈ wdR es.reverse ↔ e.num ∈ wdR (es.reverse.take j) := by
  have := wd_later asc O h es.length
  rwa [List.take_of_length_le (by rw [List.length_reverse]; omega)] at this
theorem dget_put {κ α : Type} [DecidableEq κ] {d : List (κ × α)} {a c : κ} {v : α} : dGet (dPut d a v) c = if a = c then some v else dGet d c := by
  unfold dPut
  by_cases z : (d.any fun kv => decide (kv.1 = a)) = true
  · rw [if_pos z]
    induction d with
    | nil => simp at z
    | cons p d ih =>
      by_cases e : p.1 = a
      · by_cases q : a = c
        · simp [dGet, List.find?_cons, e, q]
        · have : ¬ p.1 = c := fun x => q (e.symm.trans x)
          rw [if_neg q]
          simp only [dGet, List.map_cons, List.find?_cons, e, if_true]
          simp only [q, decide_false, this]
          have hrest : ∀ l : List (κ × α), (List.find? (fun kv => decide (kv.1 = c)) (l.map fun kv => if kv.1 = a then (kv.1, v) else kv)).map (·.2) = (List.find? (fun kv => decide (kv.1 = c)) l).map (·.2) := by
            intro l
            induction l with
            | nil => rfl
            | cons x l ih2 =>
              rw [List.map_cons, List.find?_cons, List.find?_cons]
              by_cases xa : x.1 = a
              · have xc : ¬ x.1 = c := fun y => q (xa.symm.trans y)
                simp only [xa, if_true, q, decide_false]
                exact ih2
              · simp only [xa, if_false]
                by_cases xc : x.1 = c
                · simp [xc]
                · simp only [xc, decide_false]; exact ih2
          exact hrest d
      · have z' : (d.any fun kv => decide (kv.1 = a)) = true := by simpa [e] using z
        have ih := ih z'
        by_cases q : p.1 = c
        · have : ¬ a = c := fun x => e (q.trans x.symm)
          have ca : ¬ c = a := fun x => this x.symm
          simp [dGet, List.find?_cons, q, this, ca]
        · simp only [dGet, List.map_cons, List.find?_cons, e, if_false, q, decide_false] at ih ⊢
          exact ih
  · rw [if_neg z]
    have no : ∀ p ∈ d, ¬ p.1 = a := fun p hp e => z (List.any_eq_true.mpr ⟨p, hp, decide_eq_true e⟩)
    unfold dGet
    rw [List.find?_append]
    by_cases q : a = c
    · subst q
      rw [List.find?_eq_none.mpr (fun p hp => by simp [no p hp])]
      simp
    · rw [if_neg q]
      simp [q]
theorem dput_len {κ α : Type} [DecidableEq κ] {d : List (κ × α)} {a : κ} {v : α} : (dPut d a v).length ≤ d.length + 1 := by
  unfold dPut
  split
  · rw [List.length_map]; omega
  · simp
def Good (es out : List En) : Prop := ∀ e, e ∈ out ↔ e ∈ es ∧ e.form ≠ "void" ∧ stB es e.num = true
theorem wd_step {g : List Int} {e : En} (m : Int) : m ∈ wdStep g e ↔ m ∈ g ∨ (e.form = "void" ∧ e.num ∉ g ∧ m = e.two) := by
  have n1 : (("sign" : Str) = "void") = False := eq_false (by decide +kernel)
  have n2 : (("rule" : Str) = "void") = False := eq_false (by decide +kernel)
  cases e with
  | sg n d x => simp [wdStep, En.form, n1]
  | rl n d x => simp [wdStep, En.form, n2]
  | vd n o =>
    simp only [wdStep, En.form, En.num, En.two, true_and]
    by_cases h : n ∈ g
    · simp [h]
    · simp only [h, if_false, List.mem_cons, not_false_eq_true, true_and]
      exact or_comm
theorem rev_of {es read : List En} {ms : List Int} (p : es.Perm read) (asc : Asc (es.map En.num)) (hp : ms.Perm (read.map En.num)) (ho : OrdB true ms) : ms = es.reverse.map En.num := by
  have nd : (es.map En.num).Nodup := asc.imp fun h => by omega
  have h1 : ms.reverse.Perm (es.map En.num) := (List.reverse_perm ms).trans (hp.trans (p.map En.num).symm)
  have h2 : Asc ms.reverse := asc_of (by rw [List.pairwise_reverse]; exact ho) (h1.symm.nodup_iff.mp nd)
  have := asc_perm h2 asc h1
  rw [List.map_reverse, ← this, List.reverse_reverse]
theorem wp_standing {read es : List En} {k : List En → Prop} (p : es.Perm read) (asc : Asc (es.map En.num)) (O : ∀ e ∈ es, e.Ok) (l : read.length ≤ 1000) (q : ∀ out, Good es out → k out) : W_l_standing read k := by
  have nd : (es.map En.num).Nodup := asc.imp fun h => by omega
  have ndr : (read.map En.num).Nodup := (p.map En.num).nodup_iff.mp nd
  have inj : ∀ e ∈ read, ∀ f ∈ read, e.num = f.num → e = f := fun e he f hf h => by
    obtain ⟨i, hi, rfl⟩ := List.getElem_of_mem he
    obtain ⟨j, hj, rfl⟩ := List.getElem_of_mem hf
    have : i = j := (List.getElem_inj ndr (h₀ := by simpa using hi) (h₁ := by simpa using hj)).mp (by simpa using h)
    subst this; rfl
  unfold W_l_standing
  refine ⟨fun i x => (∀ e ∈ read.take i, dGet x e.num = some e) ∧ x.length ≤ i, ⟨fun e he => by simp at he, Nat.le_refl _⟩, fun i e x hx ⟨h1, h2⟩ => ?_, fun d ⟨h1, h2⟩ => ?_⟩
  · have hi := (List.getElem?_eq_some_iff.mp hx).1
    refine ⟨sz (by omega), fun f hf => ?_, Nat.le_trans dput_len (by omega)⟩
    show dGet (dPut x e.num e) f.num = some f
    rw [dget_put]
    rw [List.take_add_one, hx] at hf
    rcases List.mem_append.mp hf with h | h
    · by_cases z : e.num = f.num
      · rw [if_pos z, inj e (List.mem_of_getElem? hx) f (List.mem_of_mem_take h) z]
      · rw [if_neg z]; exact h1 f h
    · have : f = e := by simpa using h
      subst this; rw [if_pos rfl]
  · rw [List.take_length] at h1
    refine ⟨szl (by omega), fun ms hp ho => ?_⟩
    have hms := rev_of p asc hp ho
    subst hms
    have len : es.length = read.length := p.length_eq
    refine ⟨fun i x => (∀ m, (dGet x.1 m).isSome = true ↔ m ∈ wdR (es.reverse.take i)) ∧ x.1.length ≤ i ∧ x.2.length ≤ i ∧ ∀ e, e ∈ x.2 ↔ ∃ j, j < i ∧ es.reverse[j]? = some e ∧ e.form ≠ "void" ∧ e.num ∉ wdR (es.reverse.take j), ⟨fun m => by simp [dGet, wdR], Nat.le_refl _, Nat.le_refl _, fun e => ⟨(fun h => nomatch h), fun ⟨j, hj, _⟩ => by omega⟩⟩, fun i a x ha ⟨g1, g2, g3, g4⟩ => ?_, fun x ⟨g1, g2, g3, g4⟩ => q _ fun e => ?_⟩
    · rw [List.getElem?_map] at ha
      cases he : es.reverse[i]? with
      | none => rw [he] at ha; cases ha
      | some e =>
        rw [he] at ha
        cases ha
        have hi := (List.getElem?_eq_some_iff.mp he).1
        rw [List.length_reverse] at hi
        have mem : e ∈ read := p.subset (List.mem_reverse.mp (List.mem_of_getElem? he))
        have ht : wdR (es.reverse.take (i + 1)) = wdStep (wdR (es.reverse.take i)) e := by
          rw [List.take_add_one, he]; exact wdR_snoc _ _
        have old : ∀ f, (∃ j, j < i + 1 ∧ es.reverse[j]? = some f ∧ f.form ≠ "void" ∧ f.num ∉ wdR (es.reverse.take j)) ↔ f ∈ x.2 ∨ (f = e ∧ e.form ≠ "void" ∧ e.num ∉ wdR (es.reverse.take i)) := fun f => by
          rw [g4 f]
          constructor
          · rintro ⟨j, hj, h1, h2, h3⟩
            by_cases z : j = i
            · subst z; rw [he] at h1; cases h1; exact .inr ⟨rfl, h2, h3⟩
            · exact .inl ⟨j, by omega, h1, h2, h3⟩
          · rintro (⟨j, hj, h⟩ | ⟨rfl, h1, h2⟩)
            · exact ⟨j, by omega, h⟩
            · exact ⟨i, by omega, he, h1, h2⟩
        refine ⟨e, h1 e mem, fun c => ?_, fun c => ⟨fun c2 => ?_, fun c2 => ?_⟩⟩
        · rw [Bool.and_eq_true, decide_eq_true_eq, Bool.not_eq_true'] at c
          have nw : e.num ∉ wdR (es.reverse.take i) := fun z => by rw [(g1 _).mpr z] at c; cases c.1
          refine ⟨sz (by omega), fun m => ?_, Nat.le_trans dput_len (by omega), by show x.2.length ≤ i + 1; omega, fun f => ?_⟩
          · show (dGet (dPut x.1 e.two true) m).isSome = true ↔ _
            rw [dget_put, ht, wd_step]
            by_cases z : e.two = m
            · rw [if_pos z]; exact ⟨fun _ => .inr ⟨c.2, nw, z.symm⟩, fun _ => rfl⟩
            · rw [if_neg z, g1 m]
              exact ⟨.inl, fun h => h.elim id fun h => absurd h.2.2.symm z⟩
          · show f ∈ x.2 ↔ _
            rw [old f]
            exact ⟨.inl, fun h => h.elim id fun h => absurd c.2 h.2.1⟩
        · rw [Bool.not_eq_true'] at c2
          have nw : e.num ∉ wdR (es.reverse.take i) := fun z => by rw [(g1 _).mpr z] at c2; cases c2
          have nv : e.form ≠ "void" := fun z => by simp [c2, z] at c
          refine ⟨sz (by omega), fun m => ?_, by show x.1.length ≤ i + 1; omega, by simp; omega, fun f => ?_⟩
          · rw [ht, wd_step]
            exact (g1 m).trans ⟨.inl, fun h => h.elim id fun h => absurd h.1 nv⟩
          · show f ∈ x.2 ++ [e] ↔ _
            rw [old f, List.mem_append, List.mem_singleton]
            exact ⟨fun h => h.imp id fun h => ⟨h, nv, nw⟩, fun h => h.imp id fun h => h.1⟩
        · rw [Bool.not_eq_false'] at c2
          have iw : e.num ∈ wdR (es.reverse.take i) := (g1 _).mp c2
          refine ⟨fun m => ?_, by show x.1.length ≤ i + 1; omega, by show x.2.length ≤ i + 1; omega, fun f => ?_⟩
          · rw [ht, wd_step]
            exact (g1 m).trans ⟨.inl, fun h => h.elim id fun h => absurd iw h.2.1⟩
          · show f ∈ x.2 ↔ _
            rw [old f]
            exact ⟨.inl, fun h => h.elim id fun h => absurd iw h.2.2⟩
    · rw [List.length_map, List.length_reverse] at g4
      rw [g4 e]
      unfold stB
      constructor
      · rintro ⟨j, hj, h1, h2, h3⟩
        refine ⟨List.mem_reverse.mp (List.mem_of_getElem? h1), h2, ?_⟩
        rw [decide_eq_false (fun z => h3 ((wd_full asc O h1).mp z))]; rfl
      · rintro ⟨h1, h2, h3⟩
        obtain ⟨j, hj, ej⟩ := List.getElem_of_mem (List.mem_reverse.mpr h1)
        have h : es.reverse[j]? = some e := by rw [← ej]; exact List.getElem?_eq_getElem hj
        refine ⟨j, by rw [List.length_reverse] at hj; exact hj, h, h2, fun z => ?_⟩
        rw [decide_eq_true ((wd_full asc O h).mpr z)] at h3; cases h3
end Mi
/-! K08Math3 -/
set_option Elab.async false
set_option linter.all false
set_option maxRecDepth 100000
set_option maxHeartbeats 4000000
namespace Mi
open PySem PySem.Spec L2 Dh
theorem sr : ("sign" : Str) ≠ "rule" := by decide +kernel
theorem sv : ("sign" : Str) ≠ "void" := by decide +kernel
theorem rv : ("rule" : Str) ≠ "void" := by decide +kernel
def Mt (es : List En) (f : Str) (d : Int) (e : En) : Prop := e.form = f ∧ stB es e.num = true ∧ e.two = d
instance {es : List En} {f : Str} {d : Int} {e : En} : Decidable (Mt es f d e) := by unfold Mt; infer_instance
theorem nm_eq {es : List En} {f : Str} {d : Int} {o : Option Str} {e : En} (hf : f ≠ "void") : nmStep es f d o e = if Mt es f d e then e.name? else o := by
  cases e with
  | vd n x =>
    have : ¬ Mt es f d (.vd n x) := fun h => hf h.1.symm
    rw [if_neg this]; rfl
  | sg n dd x =>
    show (if f = "sign" ∧ stB es n = true ∧ dd = d then some x else o) = _
    by_cases z : f = "sign" ∧ stB es n = true ∧ dd = d
    · have : Mt es f d (.sg n dd x) := ⟨z.1.symm, z.2⟩
      rw [if_pos z, if_pos this]; rfl
    · have : ¬ Mt es f d (.sg n dd x) := fun h => z ⟨h.1.symm, h.2⟩
      rw [if_neg z, if_neg this]
  | rl n dd x =>
    show (if f = "rule" ∧ stB es n = true ∧ dd = d then some x else o) = _
    by_cases z : f = "rule" ∧ stB es n = true ∧ dd = d
    · have : Mt es f d (.rl n dd x) := ⟨z.1.symm, z.2⟩
      rw [if_pos z, if_pos this]; rfl
    · have : ¬ Mt es f d (.rl n dd x) := fun h => z ⟨h.1.symm, h.2⟩
      rw [if_neg z, if_neg this]
theorem fold_none {es : List En} {f : Str} {d : Int} (hf : f ≠ "void") : ∀ {l : List En} {o : Option Str}, (∀ e ∈ l, ¬ Mt es f d e) → l.foldl (nmStep es f d) o = o
  | [], _, _ => rfl
  | e :: l, o, h => by
    rw [List.foldl_cons, nm_eq hf, if_neg (h e List.mem_cons_self)]
    exact fold_none hf fun x hx => h x (List.mem_cons_of_mem _ hx)
theorem told_none {es : List En} {f : Str} {d : Int} (hf : f ≠ "void") (h : ∀ e ∈ es, ¬ Mt es f d e) : toldN es f d = none := fold_none hf h
theorem told_max {es : List En} {f : Str} {d : Int} (hf : f ≠ "void") (asc : Asc (es.map En.num)) {e : En} (he : e ∈ es) (hm : Mt es f d e) (h : ∀ x ∈ es, Mt es f d x → x.num ≤ e.num) : toldN es f d = e.name? := by
  obtain ⟨pre, post, rfl⟩ := List.append_of_mem he
  unfold toldN
  rw [List.foldl_append, List.foldl_cons, nm_eq hf, if_pos hm]
  refine fold_none hf fun x hx z => ?_
  rw [List.map_append, List.map_cons] at asc
  have := (List.pairwise_cons.mp (List.pairwise_append.mp asc).2.1).1 x.num (List.mem_map_of_mem hx)
  have := h x (List.mem_append_right _ (List.mem_cons_of_mem _ hx)) z
  omega
theorem name_some {e : En} (h : e.form ≠ "void") : ∃ x, e.name? = some x := by
  cases e with
  | sg n d x => exact ⟨x, rfl⟩
  | rl n d x => exact ⟨x, rfl⟩
  | vd n o => exact absurd rfl h
theorem mt_of {es out : List En} (g : Good es out) {f : Str} {d : Int} {e : En} : e ∈ out → e.form = f → e.two = d → Mt es f d e := fun h1 h2 h3 => ⟨h2, ((g e).mp h1).2.2, h3⟩
theorem of_mt {es out : List En} (g : Good es out) {f : Str} (hf : f ≠ "void") {d : Int} {e : En} (he : e ∈ es) (h : Mt es f d e) : e ∈ out := (g e).mpr ⟨he, by rw [h.1]; exact hf, h.2.1⟩
end Mi
/-! K08W -/
set_option Elab.async false
set_option linter.all false
set_option maxRecDepth 100000
set_option maxHeartbeats 4000000
/-! what one more entry changes: what stands -/
namespace Mi
open PySem PySem.Spec L2 Dh
abbrev Wd (es : List En) (m : Int) : Prop := m ∈ wdR es.reverse
abbrev Shp (es : List En) : Prop := Asc (es.map En.num) ∧ ∀ e ∈ es, e.Ok
theorem void_lt {e : En} (h : e.Ok) (hf : e.form = "void") : e.two < e.num ∧ 1 ≤ e.two ∧ e.num ≤ 999 := by
  cases e with
  | sg n d x => exact absurd (show ("sign" : Str) = "void" from hf) sv
  | rl n d x => exact absurd (show ("rule" : Str) = "void" from hf) rv
  | vd n o => exact ⟨by show o < n; have := h.2.2.2; omega, h.2.2.1, h.2.1⟩
theorem wd_fold : ∀ (k : Nat) (l : List En), l.length = k → ∀ m : Int, m ∈ wdR l ↔ ∃ (j : Nat) (x : En), l[j]? = some x ∧ x.form = "void" ∧ x.num ∉ wdR (l.take j) ∧ m = x.two
  | 0, l, hl, m => by
    rw [List.eq_nil_of_length_eq_zero hl]
    exact ⟨fun h => (nomatch h), fun ⟨j, x, h, _⟩ => by simp at h⟩
  | k + 1, l, hl, m => by
    rcases List.eq_nil_or_concat l with e | ⟨l, e, rfl⟩
    · subst e; cases hl
    rw [List.concat_eq_append] at hl ⊢
    rw [List.length_append, List.length_singleton] at hl
    rw [wdR_snoc, wd_step, wd_fold k l (by omega) m]
    constructor
    · rintro (⟨j, x, h1, h2, h3, h4⟩ | ⟨h2, h3, h4⟩)
      · have hj := (List.getElem?_eq_some_iff.mp h1).1
        refine ⟨j, x, by rw [List.getElem?_append_left hj]; exact h1, h2, ?_, h4⟩
        rw [List.take_append_of_le_length (by omega)]; exact h3
      · exact ⟨l.length, e, by simp, h2, by rw [List.take_left' rfl]; exact h3, h4⟩
    · rintro ⟨j, x, h1, h2, h3, h4⟩
      by_cases hj : j < l.length
      · rw [List.getElem?_append_left hj] at h1
        rw [List.take_append_of_le_length (by omega)] at h3
        exact .inl ⟨j, x, h1, h2, h3, h4⟩
      · have hl := (List.getElem?_eq_some_iff.mp h1).1
        rw [List.length_append, List.length_singleton] at hl
        obtain rfl : j = l.length := by omega
        simp at h1
        subst h1
        rw [List.take_left' rfl] at h3
        exact .inr ⟨h2, h3, h4⟩
/-- m is withdrawn just if a standing void entry names it -/
theorem wd_iff {es : List En} (S : Shp es) (m : Int) : Wd es m ↔ ∃ x ∈ es, x.form = "void" ∧ ¬ Wd es x.num ∧ m = x.two := by
  refine (wd_fold _ es.reverse rfl m).trans ⟨fun ⟨j, x, h1, h2, h3, h4⟩ => ⟨x, List.mem_reverse.mp (List.mem_of_getElem? h1), h2, fun z => h3 ((wd_full S.1 S.2 h1).mp z), h4⟩, fun ⟨x, h1, h2, h3, h4⟩ => ?_⟩
  obtain ⟨j, hj, e⟩ := List.mem_iff_getElem.mp (List.mem_reverse.mpr h1)
  have h5 : es.reverse[j]? = some x := by rw [← e]; exact List.getElem?_eq_getElem hj
  exact ⟨j, x, h5, h2, fun z => h3 ((wd_full S.1 S.2 h5).mpr z), h4⟩
theorem down {P : Int → Prop} (h : ∀ m, (∀ n, m < n → n ≤ 1000 → P n) → P m) : ∀ m, P m := by
  have : ∀ (k : Nat) (m : Int), 1000 - m < k → P m := by
    intro k
    induction k with
    | zero => intro m hm; exact h m fun n h1 h2 => by omega
    | succ k ih => intro m hm; exact h m fun n h1 h2 => ih n (by omega)
  exact fun m => this ((1000 - m).toNat + 1) m (by omega)
/-- g has the entries of es and others, of which none that stands names a number of N -/
theorem wd_same {es g : List En} {N : Int → Prop} (S : Shp es) (T : Shp g) (sub : ∀ x ∈ es, x ∈ g) (new : ∀ x ∈ g, x.form = "void" → ¬ Wd g x.num → N x.two → x ∈ es) (hN : ∀ x ∈ es, x.form = "void" → N x.num) : ∀ m, N m → (Wd es m ↔ Wd g m) :=
  down fun m ih hm => by
    rw [wd_iff S, wd_iff T]
    constructor
    · rintro ⟨x, h1, h2, h3, rfl⟩
      obtain ⟨l, _, u⟩ := void_lt (S.2 x h1) h2
      exact ⟨x, sub x h1, h2, fun z => h3 ((ih _ l (by omega) (hN x h1 h2)).mpr z), rfl⟩
    · rintro ⟨x, h1, h2, h3, rfl⟩
      have h1 := new x h1 h2 h3 hm
      obtain ⟨l, _, u⟩ := void_lt (S.2 x h1) h2
      exact ⟨x, h1, h2, fun z => h3 ((ih _ l (by omega) (hN x h1 h2)).mp z), rfl⟩
/-- the numbers that a further void entry may touch -/
inductive Ch (es : List En) (t : Int) : Int → Prop
  | top : Ch es t t
  | step {x : En} : x ∈ es → x.form = "void" → Ch es t x.num → Ch es t x.two
theorem Ch.le {es : List En} {t n : Int} (O : ∀ e ∈ es, e.Ok) (h : Ch es t n) : n ≤ t := by
  induction h with
  | top => exact Int.le_refl _
  | step h1 h2 _ ih => have := (void_lt (O _ h1) h2).1; omega
theorem flip_ch {es g : List En} {e : En} (S : Shp es) (T : Shp g) (he : e.form = "void") (mem : ∀ x, x ∈ g ↔ x ∈ es ∨ x = e) : ∀ m, ¬ (Wd es m ↔ Wd g m) → Ch es e.two m :=
  down fun m ih hm => by
    by_cases t : m = e.two
    · rw [t]; exact .top
    · refine Classical.byContradiction fun no => hm ?_
      have same : ∀ x ∈ es, x.form = "void" → m = x.two → (Wd es x.num ↔ Wd g x.num) := fun x h1 h2 h3 => Classical.byContradiction fun z => no (by
        obtain ⟨l, _, u⟩ := void_lt (S.2 x h1) h2
        rw [h3]; exact .step h1 h2 (ih _ (by omega) (by omega) z))
      rw [wd_iff S, wd_iff T]
      constructor
      · rintro ⟨x, h1, h2, h3, h4⟩
        exact ⟨x, (mem x).mpr (.inl h1), h2, fun z => h3 ((same x h1 h2 h4).mpr z), h4⟩
      · rintro ⟨x, h1, h2, h3, h4⟩
        rcases (mem x).mp h1 with h1 | rfl
        · exact ⟨x, h1, h2, fun z => h3 ((same x h1 h2 h4).mp z), h4⟩
        · exact absurd h4 t
theorem num_inj {es : List En} (h : Asc (es.map En.num)) {x y : En} (hx : x ∈ es) (hy : y ∈ es) (e : x.num = y.num) : x = y := by
  obtain ⟨i, hi, rfl⟩ := List.mem_iff_getElem.mp hx
  obtain ⟨j, hj, rfl⟩ := List.mem_iff_getElem.mp hy
  have h1 : (es.map En.num)[i]? = some es[i].num := by simp [hi]
  have h2 : (es.map En.num)[j]? = some es[j].num := by simp [hj]
  rcases Nat.lt_trichotomy i j with z | z | z
  · have := asc_lt h h1 h2 z; omega
  · subst z; rfl
  · have := asc_lt h h2 h1 z; omega
/-- of two touched numbers the greater one is a void entry's -/
theorem Ch.line {es : List En} {t : Int} (S : Shp es) : ∀ (k : Nat) {a c : Int}, (2000 - a) + (2000 - c) < k → a < c → c ≤ 1000 → Ch es t a → Ch es t c → ∃ y ∈ es, y.form = "void" ∧ y.num = c ∧ a ≤ y.two
  | 0, _, _, h, _, _, _, _ => by omega
  | k + 1, a, c, h, l, u, ha, hc => by
    cases ha with
    | top => have := hc.le S.2; omega
    | @step x h1 h2 h3 =>
      obtain ⟨lx, _, ux⟩ := void_lt (S.2 x h1) h2
      rcases Int.lt_trichotomy x.num c with z | z | z
      · obtain ⟨y, y1, y2, y3, y4⟩ := Ch.line S k (by omega) z u h3 hc
        exact ⟨y, y1, y2, y3, by omega⟩
      · exact ⟨x, h1, h2, z, Int.le_refl _⟩
      · obtain ⟨y, y1, y2, y3, y4⟩ := Ch.line S k (by omega) z (by omega) hc h3
        have := num_inj S.1 y1 h1 y3
        subst this
        omega
/-- with one more entry the standing of at most one entry that is no void entry changes -/
theorem one_flip {es g : List En} {e : En} (S : Shp es) (T : Shp g) (mem : ∀ x, x ∈ g ↔ x ∈ es ∨ x = e) (hn : ∀ x ∈ es, x.num ≠ e.num) :
    ∃ z : En, ∀ x, x ≠ z → x.form ≠ "void" → ((x ∈ es ∧ stB es x.num = true) ↔ (x ∈ g ∧ stB g x.num = true)) := by
  have st : ∀ {es : List En} {n : Int}, stB es n = true ↔ ¬ Wd es n := fun {es n} => by
    unfold stB
    rw [Bool.not_eq_true', decide_eq_false_iff_not]
  by_cases hv : e.form = "void" ∧ ¬ Wd g e.num
  · by_cases fl : ∃ z ∈ es, z.form ≠ "void" ∧ ¬ (Wd es z.num ↔ Wd g z.num)
    · obtain ⟨z, z1, z2, z3⟩ := fl
      refine ⟨z, fun x nx fx => ?_⟩
      have up : ∀ {x : En}, x ∈ es → x.num ≤ 1000 := fun {x} h => by
        have := S.2 x h
        cases x with
        | sg n d y => have := this.2.1; show n ≤ 1000; omega
        | rl n d y => have := this.2.1; show n ≤ 1000; omega
        | vd n o => have := this.2.1; show n ≤ 1000; omega
      have c : x ∈ es → (Wd es x.num ↔ Wd g x.num) := fun hx => Classical.byContradiction fun no => by
        have c1 := flip_ch S T hv.1 mem _ z3
        have c2 := flip_ch S T hv.1 mem _ no
        rcases Int.lt_trichotomy x.num z.num with l | l | l
        · obtain ⟨y, y1, y2, y3, _⟩ := Ch.line S ((2000 - x.num) + (2000 - z.num)).toNat.succ (by omega) l (up z1) c2 c1
          exact z2 (num_inj S.1 y1 z1 y3 ▸ y2)
        · exact nx (num_inj S.1 hx z1 l)
        · obtain ⟨y, y1, y2, y3, _⟩ := Ch.line S ((2000 - z.num) + (2000 - x.num)).toNat.succ (by omega) l (up hx) c1 c2
          exact fx (num_inj S.1 y1 hx y3 ▸ y2)
      rw [st, st, mem]
      constructor
      · rintro ⟨h1, h2⟩; exact ⟨.inl h1, fun q => h2 ((c h1).mpr q)⟩
      · rintro ⟨h1 | h1, h2⟩
        · exact ⟨h1, fun q => h2 ((c h1).mp q)⟩
        · subst h1; exact absurd hv.1 fx
    · refine ⟨e, fun x nx fx => ?_⟩
      have c : x ∈ es → (Wd es x.num ↔ Wd g x.num) := fun hx => Classical.byContradiction fun no => fl ⟨x, hx, fx, no⟩
      rw [st, st, mem]
      constructor
      · rintro ⟨h1, h2⟩; exact ⟨.inl h1, fun q => h2 ((c h1).mpr q)⟩
      · rintro ⟨h1 | h1, h2⟩
        · exact ⟨h1, fun q => h2 ((c h1).mp q)⟩
        · exact absurd h1 nx
  · have c : ∀ m, Wd es m ↔ Wd g m := fun m => wd_same (N := fun _ => True) S T (fun x hx => (mem x).mpr (.inl hx)) (fun x hx h2 h3 _ => by
      rcases (mem x).mp hx with h | rfl
      · exact h
      · exact absurd ⟨h2, h3⟩ hv) (fun _ _ _ => trivial) m trivial
    refine ⟨e, fun x nx fx => ?_⟩
    rw [st, st, mem, c]
    exact ⟨fun ⟨h1, h2⟩ => ⟨.inl h1, h2⟩, fun ⟨h1, h2⟩ => ⟨h1.resolve_right nx, h2⟩⟩
/-- withdrawn again, nothing has changed -/
theorem undone {es u : List En} {e c : En} (S : Shp es) (U : Shp u) (mem : ∀ x, x ∈ u ↔ x ∈ es ∨ x = e ∨ x = c) (hn : ∀ x ∈ es, x.num ≠ e.num) (hc : c.form = "void" ∧ c.two = e.num) (top : ∀ x ∈ u, x.num ≤ c.num) :
    ∀ x : En, x.form ≠ "void" → ((x ∈ es ∧ stB es x.num = true) ↔ (x ∈ u ∧ stB u x.num = true)) := fun x fx => by
  have st : ∀ {es : List En} {n : Int}, stB es n = true ↔ ¬ Wd es n := fun {es n} => by
    unfold stB
    rw [Bool.not_eq_true', decide_eq_false_iff_not]
  have hcu : c ∈ u := (mem c).mpr (.inr (.inr rfl))
  have c0 : ¬ Wd u c.num := fun h => by
    obtain ⟨y, y1, y2, _, y4⟩ := (wd_iff U _).mp h
    have := (void_lt (U.2 y y1) y2).1
    have := top y y1
    omega
  have e0 : Wd u e.num := (wd_iff U _).mpr ⟨c, hcu, hc.1, c0, hc.2.symm⟩
  have k : ∀ m, m ≠ e.num → (Wd es m ↔ Wd u m) := wd_same (N := fun m => m ≠ e.num) S U (fun x hx => (mem x).mpr (.inl hx)) (fun x hx h2 h3 h4 => by
    rcases (mem x).mp hx with h | rfl | rfl
    · exact h
    · exact absurd e0 h3
    · exact absurd hc.2 h4) (fun x hx _ => hn x hx)
  rw [st, st, mem]
  constructor
  · rintro ⟨h1, h2⟩; exact ⟨.inl h1, fun q => h2 ((k _ (hn x h1)).mpr q)⟩
  · rintro ⟨h1 | rfl | rfl, h2⟩
    · exact ⟨h1, fun q => h2 ((k _ (hn x h1)).mp q)⟩
    · exact absurd e0 h2
    · exact absurd hc.1 fx
/-- told alike -/
theorem told_same {es g : List En} {f : Str} {d : Int} (hf : f ≠ "void") (S : Shp es) (T : Shp g) (h : ∀ x : En, x.form = f → x.two = d → ((x ∈ es ∧ stB es x.num = true) ↔ (x ∈ g ∧ stB g x.num = true))) : toldN es f d = toldN g f d := by
  have best : ∀ {l : List En}, (∀ x ∈ l, x.Ok) → (∃ x ∈ l, Mt l f d x) → ∃ x ∈ l, Mt l f d x ∧ ∀ y ∈ l, Mt l f d y → y.num ≤ x.num := fun {l} O ⟨x, x1, x2⟩ => by
    have : ∀ k : Nat, (∀ y ∈ l, Mt l f d y → y.num < k) → (∃ y ∈ l, Mt l f d y) → ∃ x ∈ l, Mt l f d x ∧ ∀ y ∈ l, Mt l f d y → y.num ≤ x.num := by
      intro k
      induction k with
      | zero =>
        rintro h ⟨y, y1, y2⟩
        have := h y y1 y2
        have := O y y1
        cases y with
        | sg n _ _ => have := this.1; have : n < 0 := ‹_›; omega
        | rl n _ _ => have := this.1; have : n < 0 := ‹_›; omega
        | vd n _ => have := this.1; have : n < 0 := ‹_›; omega
      | succ k ih =>
        intro h ex
        by_cases q : ∃ y ∈ l, Mt l f d y ∧ y.num = k
        · obtain ⟨y, y1, y2, y3⟩ := q
          exact ⟨y, y1, y2, fun z z1 z2 => by have := h z z1 z2; omega⟩
        · exact ih (fun y y1 y2 => by
            have := h y y1 y2
            by_cases e : y.num = k
            · exact absurd ⟨y, y1, y2, e⟩ q
            · omega) ex
    exact this 1001 (fun y y1 y2 => by
      have := O y y1
      cases y with
      | sg n _ _ => have := this.2.1; show n < _; omega
      | rl n _ _ => have := this.2.1; show n < _; omega
      | vd n _ => have := this.2.1; show n < _; omega) ⟨x, x1, x2⟩
  have mt : ∀ x, (x ∈ es ∧ Mt es f d x) ↔ (x ∈ g ∧ Mt g f d x) := fun x => by
    unfold Mt
    constructor
    · rintro ⟨h1, h2, h3, h4⟩
      have := (h x h2 h4).mp ⟨h1, h3⟩
      exact ⟨this.1, h2, this.2, h4⟩
    · rintro ⟨h1, h2, h3, h4⟩
      have := (h x h2 h4).mpr ⟨h1, h3⟩
      exact ⟨this.1, h2, this.2, h4⟩
  by_cases q : ∃ x ∈ es, Mt es f d x
  · obtain ⟨x, x1, x2, x3⟩ := best S.2 q
    have := (mt x).mp ⟨x1, x2⟩
    rw [told_max hf S.1 x1 x2 x3, told_max hf T.1 this.1 this.2 fun y y1 y2 => by
      have := (mt y).mpr ⟨y1, y2⟩
      exact x3 y this.1 this.2]
  · rw [told_none hf fun e e1 e2 => q ⟨e, e1, e2⟩, told_none hf fun e e1 e2 => by
      have := (mt e).mpr ⟨e1, e2⟩
      exact q ⟨e, this.1, this.2⟩]
/-- with one more entry at most one place is told otherwise -/
theorem one_place {es g : List En} {e : En} (S : Shp es) (T : Shp g) (mem : ∀ x, x ∈ g ↔ x ∈ es ∨ x = e) (hn : ∀ x ∈ es, x.num ≠ e.num) :
    ∃ (f0 : Str) (d0 : Int), ∀ (f : Str) (d : Int), f ≠ "void" → ¬ (f = f0 ∧ d = d0) → toldN es f d = toldN g f d := by
  obtain ⟨z, hz⟩ := one_flip S T mem hn
  exact ⟨z.form, z.two, fun f d hf no => told_same hf S T fun x hx hd => hz x (fun q => no (by rw [← hx, ← hd, q]; exact ⟨rfl, rfl⟩)) (by rw [hx]; exact hf)⟩
end Mi
/-! K08Math5 -/
set_option Elab.async false
set_option linter.all false
set_option maxRecDepth 100000
set_option maxHeartbeats 4000000
namespace Mi
open PySem PySem.Spec L2 Dh
open _root_.Evl (Ex)
/-! ### the best of those with P -/
def Best (l : List En) (P : En → Prop) (o : Option En) : Prop := match o with | none => ∀ e ∈ l, ¬ P e | some e => e ∈ l ∧ P e ∧ ∀ f ∈ l, P f → f.num ≤ e.num
theorem best_nil {P : En → Prop} : Best [] P none := fun e h => nomatch h
theorem best_keep {l : List En} {P : En → Prop} {o : Option En} {e : En} (h : Best l P o) (k : P e → ∃ y, o = some y ∧ e.num ≤ y.num) : Best (l ++ [e]) P o := by
  cases o with
  | none =>
    intro f hf pf
    rcases List.mem_append.mp hf with m | m
    · exact h f m pf
    · cases List.mem_singleton.mp m
      obtain ⟨y, z, _⟩ := k pf
      cases z
  | some y =>
    refine ⟨List.mem_append_left _ h.1, h.2.1, fun f hf pf => ?_⟩
    rcases List.mem_append.mp hf with m | m
    · exact h.2.2 f m pf
    · cases List.mem_singleton.mp m
      obtain ⟨y', z, l⟩ := k pf
      cases z; exact l
theorem best_take {l : List En} {P : En → Prop} {o : Option En} {e : En} (h : Best l P o) (pe : P e) (k : ∀ y, o = some y → y.num < e.num) : Best (l ++ [e]) P (some e) := by
  refine ⟨List.mem_append_right _ List.mem_cons_self, pe, fun f hf pf => ?_⟩
  rcases List.mem_append.mp hf with m | m
  · cases o with
    | none => exact absurd pf (h f m)
    | some y =>
      have := h.2.2 f m pf
      have := k y rfl
      omega
  · cases List.mem_singleton.mp m; exact Int.le_refl _
theorem best_told {es read out : List En} {f : Str} {d : Int} {o : Option En} (hf : f ≠ "void") (p : es.Perm read) (asc : Asc (es.map En.num)) (g : Good es out) {P : En → Prop} (hP : ∀ e, P e ↔ e ∈ out ∧ e.form = f ∧ e.two = d) (h : Best read P o) : toldN es f d = o.bind En.name? := by
  cases o with
  | none => exact told_none hf fun e he m => h e (p.subset he) ((hP e).mpr ⟨of_mt g hf he m, m.1, m.2.2⟩)
  | some e =>
    obtain ⟨h1, h2, h3⟩ := h
    obtain ⟨q1, q2, q3⟩ := (hP e).mp h2
    exact told_max hf asc (p.symm.subset h1) (mt_of g q1 q2 q3) fun x hx m => h3 x (p.subset hx) ((hP x).mpr ⟨of_mt g hf hx m, m.1, m.2.2⟩)
/-! ### rows over days -/
theorem ixN_at {n : Nat} {i : Int} (h0 : 0 ≤ i) (h1 : i < n) : ixN n i = some i.toNat := by
  unfold ixN; rw [if_pos h0, if_pos h1]
theorem map_at {α : Type} {n : Nat} {f : Int → α} {d : Int} (h0 : 0 ≤ d) (h1 : d < n) : atI ((rng 0 n).map f) d = some (f d) := by
  unfold atI
  rw [List.length_map, rng_len, ixN_at h0 h1]
  show ((rng 0 n).map f)[d.toNat]? = _
  rw [List.getElem?_map, rng_get (by omega)]
  show some (f (0 + (d.toNat : Nat))) = _
  rw [Int.toNat_of_nonneg h0, Int.zero_add]
theorem map_set {α : Type} {n : Nat} {f : Int → α} {d : Int} {x : α} (h0 : 0 ≤ d) : ((rng 0 n).map f).set d.toNat x = (rng 0 n).map fun a => if a = d then x else f a := by
  apply List.ext_getElem?
  intro j
  by_cases h : j < n
  · rw [List.getElem?_set, List.getElem?_map, List.getElem?_map, rng_get h, List.length_map, rng_len]
    by_cases z : d.toNat = j
    · have : (0 : Int) + (j : Nat) = d := by omega
      rw [if_pos z, if_pos (by omega)]
      show some x = some (if (0 : Int) + (j : Nat) = d then x else f (0 + (j : Nat)))
      rw [if_pos this]
    · have : ¬ (0 : Int) + (j : Nat) = d := by omega
      rw [if_neg z]
      show some (f (0 + (j : Nat))) = some (if (0 : Int) + (j : Nat) = d then x else f (0 + (j : Nat)))
      rw [if_neg this]
  · rw [List.getElem?_eq_none (by rw [List.length_set, List.length_map, rng_len]; omega), List.getElem?_eq_none (by rw [List.length_map, rng_len]; omega)]
/-! ### names are texts that may be compared -/
theorem lt_ls : ∀ c ∈ letters, c < 1114112 := by decide +kernel
theorem name_strOk {x : Str} (h : NameOk x) : PyData.strOk x = true := by
  unfold PyData.strOk
  rw [Array.all_eq_true]
  intro i hi
  exact decide_eq_true (lt_ls _ (h.ls _ (by simp)))
theorem en_str {e : En} (h : e.Ok) : EnStr e := fun x hx => by
  cases e with
  | sg n d y => cases hx; exact name_strOk h.2.2.2.2
  | rl n d y => cases hx; exact name_strOk h.2.2.2.2
  | vd n o => cases hx
theorem two_ok {e : En} (h : e.Ok) (hf : e.form ≠ "void") : 0 ≤ e.two ∧ e.two ≤ 59 := by
  cases e with
  | sg n d y => exact ⟨h.2.2.1, h.2.2.2.1⟩
  | rl n d y => exact ⟨h.2.2.1, h.2.2.2.1⟩
  | vd n o => exact absurd rfl hf
/-! ### life and code by the sheet -/
def lifeN (es : List En) (s : Str) (n : Nat) : List Str := (rng 0 n).map fun a => (toldN es "sign" a).getD s
def codeS (es : List En) (x : Str × List Str) (a : Int) : Str × List Str := ((toldN es "rule" a).getD x.1, x.2 ++ [(toldN es "rule" a).getD x.1])
def codeN (es : List En) (r : Str) (n : Nat) : List Str := ((rng 0 n).foldl (codeS es) (r, [])).2
theorem fold_take {α β : Type} {f : β → α → β} {l : List α} {b : β} {i : Nat} {a : α} (h : l[i]? = some a) : (l.take (i + 1)).foldl f b = f ((l.take i).foldl f b) a := by
  rw [List.take_add_one, h, List.foldl_append]; rfl
theorem code_len {es : List En} {l : List Int} : ∀ {x : Str × List Str}, (l.foldl (codeS es) x).2.length = x.2.length + l.length := by
  induction l with
  | nil => intro x; rfl
  | cons a l ih =>
    intro x
    rw [List.foldl_cons, ih]
    show (x.2 ++ [_]).length + l.length = x.2.length + (l.length + 1)
    rw [List.length_append, List.length_singleton]; omega
theorem wp_life {es : List En} {n : Int} {s : Str} {k : List Str → Prop} {kx : Str → Prop} (h0 : 0 ≤ n) (h1 : n ≤ 60) (q : k (lifeN es s n.toNat)) : W_Sheet_life_of es (.inl n) s k kx := by
  have e : inIB (.inl n) 0 60 = true := by unfold inIB; simp; omega
  unfold W_Sheet_life_of W_check_number W_is_number
  rw [e]
  exact ⟨fun z => (nomatch z), fun _ => ⟨n, rfl, ⟨by omega, by omega⟩, by rw [rng_len]; exact szl (by omega), q⟩⟩
theorem wp_code {es : List En} {n : Int} {r : Str} {k : List Str → Prop} {kx : Str → Prop} (h0 : 0 ≤ n) (h1 : n ≤ 60) (q : k (codeN es r n.toNat)) : W_Sheet_code_of es (.inl n) r k kx := by
  have e : inIB (.inl n) 0 60 = true := by unfold inIB; simp; omega
  unfold W_Sheet_code_of W_check_number W_is_number
  rw [e]
  refine ⟨fun z => (nomatch z), fun _ => ⟨n, rfl, ⟨by omega, by omega⟩, fun i x => x = ((rng 0 n.toNat).take i).foldl (codeS es) (r, []), rfl, fun i a x ha hx => ?_, fun x hx => ?_⟩⟩
  · have hi := (rng_inv ha).1
    refine ⟨?_, ?_⟩
    · rw [show x = _ from hx, code_len, List.length_take]
      exact sz (by simp; omega)
    · show _ = ((rng 0 n.toNat).take (i + 1)).foldl (codeS es) (r, [])
      rw [fold_take ha, ← show x = _ from hx]; rfl
  · have hx : x = ((rng 0 n.toNat).take (rng 0 n.toNat).length).foldl (codeS es) (r, []) := hx
    rw [List.take_length] at hx
    show k x.2
    rw [hx]; exact q
theorem wp_lifeX {es : List En} {n : Int ⊕ Bool} {s : Str} {k : List Str → Prop} {kx : Str → Prop} (h : inIB n 0 60 = false) (q : kx "days") : W_Sheet_life_of es n s k kx := by
  unfold W_Sheet_life_of W_check_number W_is_number
  rw [h]
  exact ⟨fun _ => q, fun z => (nomatch z)⟩
theorem wp_codeX {es : List En} {n : Int ⊕ Bool} {s : Str} {k : List Str → Prop} {kx : Str → Prop} (h : inIB n 0 60 = false) (q : kx "days") : W_Sheet_code_of es n s k kx := by
  unfold W_Sheet_code_of W_check_number W_is_number
  rw [h]
  exact ⟨fun _ => q, fun z => (nomatch z)⟩
end Mi
/-! K08Math6 -/
set_option Elab.async false
set_option linter.all false
set_option maxRecDepth 100000
set_option maxHeartbeats 4000000
namespace Mi
open PySem PySem.Spec L2 Dh
open _root_.Evl (Ex)
def Pf (out : List En) (days : Int) (f : Str) (d : Int) (e : En) : Prop := (e ∈ out ∧ e.two < days) ∧ e.form = f ∧ e.two = d
def nmE (e : En) : Str := e.name?.getD ""
def sgV (s : Str) (o : Option En) : Str := match o with | none => s | some e => nmE e
def rkV (o : Option En) : Int := match o with | none => -1 | some e => e.num
structure Trk (read out : List En) (days : Int) (s : Str) (i : Nat) (x : List Str × List Int × List (Int × (Int × Str))) (bs br : Int → Option En) : Prop where
  h1 : ∀ d, Best (read.take i) (Pf out days "sign" d) (bs d)
  h2 : ∀ d, Best (read.take i) (Pf out days "rule" d) (br d)
  e1 : x.1 = (rng 0 days.toNat).map fun d => sgV s (bs d)
  e2 : x.2.1 = (rng 0 days.toNat).map fun d => rkV (bs d)
  e3 : ∀ d, dGet x.2.2 d = (br d).map fun e => (e.num, nmE e)
  e4 : x.2.2.length ≤ i
section
variable {read out : List En} {days : Int} {s : Str} {i : Nat} {x : List Str × List Int × List (Int × (Int × Str))} {bs br : Int → Option En} {e : En}
theorem tk1 (a : read[i]? = some e) : read.take (i + 1) = read.take i ++ [e] := by rw [List.take_add_one, a]; rfl
theorem Trk.keep (T : Trk read out days s i x bs br) (a : read[i]? = some e) (k1 : ∀ d, Pf out days "sign" d e → ∃ y, bs d = some y ∧ e.num ≤ y.num) (k2 : ∀ d, Pf out days "rule" d e → ∃ y, br d = some y ∧ e.num ≤ y.num) : Trk read out days s (i + 1) x bs br :=
  ⟨fun d => by rw [tk1 a]; exact best_keep (T.h1 d) (k1 d), fun d => by rw [tk1 a]; exact best_keep (T.h2 d) (k2 d), T.e1, T.e2, T.e3, by have := T.e4; omega⟩
theorem Trk.sign (T : Trk read out days s i x bs br) (a : read[i]? = some e) (m : e ∈ out) (l : e.two < days) (h0 : 0 ≤ e.two) (hf : e.form = "sign") (k : rkV (bs e.two) < e.num) :
    Trk read out days s (i + 1) (x.1.set e.two.toNat (nmE e), x.2.1.set e.two.toNat e.num, x.2.2) (fun d => if d = e.two then some e else bs d) br := by
  refine ⟨fun d => ?_, fun d => ?_, ?_, ?_, T.e3, by have := T.e4; show x.2.2.length ≤ i + 1; omega⟩
  · rw [tk1 a]
    by_cases z : d = e.two
    · rw [if_pos z]
      refine best_take (T.h1 d) ⟨⟨m, l⟩, hf, z.symm⟩ fun y hy => ?_
      rw [← z, hy] at k; exact k
    · rw [if_neg z]
      exact best_keep (T.h1 d) fun q => absurd q.2.2.symm z
  · rw [tk1 a]
    exact best_keep (T.h2 d) fun q => absurd (hf.symm.trans q.2.1) sr
  · show x.1.set e.two.toNat (nmE e) = _
    rw [T.e1, map_set h0]
    congr 1
    funext d
    by_cases z : d = e.two
    · rw [if_pos z, if_pos z]; rfl
    · rw [if_neg z, if_neg z]
  · show x.2.1.set e.two.toNat e.num = _
    rw [T.e2, map_set h0]
    congr 1
    funext d
    by_cases z : d = e.two
    · rw [if_pos z, if_pos z]; rfl
    · rw [if_neg z, if_neg z]
theorem Trk.rule (T : Trk read out days s i x bs br) (a : read[i]? = some e) (m : e ∈ out) (l : e.two < days) (hf : e.form = "rule") (k : ∀ y, br e.two = some y → y.num < e.num) :
    Trk read out days s (i + 1) (x.1, x.2.1, dPut x.2.2 e.two (e.num, nmE e)) bs (fun d => if d = e.two then some e else br d) := by
  refine ⟨fun d => ?_, fun d => ?_, T.e1, T.e2, fun d => ?_, ?_⟩
  · rw [tk1 a]
    exact best_keep (T.h1 d) fun q => absurd (q.2.1.symm.trans hf) sr
  · rw [tk1 a]
    by_cases z : d = e.two
    · rw [if_pos z]
      exact best_take (T.h2 d) ⟨⟨m, l⟩, hf, z.symm⟩ fun y hy => k y (by rw [← z]; exact hy)
    · rw [if_neg z]
      exact best_keep (T.h2 d) fun q => absurd q.2.2.symm z
  · rw [dget_put]
    by_cases z : d = e.two
    · rw [if_pos z.symm, if_pos z]; rfl
    · rw [if_neg (fun q => z q.symm), if_neg z]; exact T.e3 d
  · have := T.e4
    have := dput_len (d := x.2.2) (a := e.two) (v := (e.num, nmE e))
    show (dPut x.2.2 e.two (e.num, nmE e)).length ≤ i + 1
    omega
theorem toldE {es : List En} {o : Option En} {f : Str} {d : Int} (h : toldN es f d = o.bind En.name?) (hv : ∀ e, o = some e → e.form ≠ "void") : toldN es f d = o.map nmE := by
  rw [h]
  cases o with
  | none => rfl
  | some e =>
    obtain ⟨y, hy⟩ := name_some (hv e rfl)
    show e.name? = some (nmE e)
    unfold nmE
    rw [hy]; rfl
end
theorem wp_tracks {read es : List En} {days : Int} {s r : Str} {k : List Str × List Str → Prop} (p : es.Perm read) (asc : Asc (es.map En.num)) (O : ∀ e ∈ es, e.Ok) (l : read.length ≤ 1000) (d0 : 0 ≤ days) (d1 : days ≤ 60)
    (q : k (lifeN es s days.toNat, codeN es r days.toNat)) : W_l_tracks read days false s r k := by
  unfold W_l_tracks
  refine wp_standing p asc O l fun out g => ?_
  have rl : (rng 0 days.toNat).length ≤ sizeLine := by rw [rng_len]; exact szl (by omega)
  refine ⟨⟨by omega, by omega⟩, rl, ⟨by omega, by omega⟩, rl, fun i x => ∃ bs br, Trk read out days s i x bs br, ⟨fun _ => none, fun _ => none, fun d => best_nil, fun d => best_nil, rfl, rfl, fun d => rfl, Nat.le_refl _⟩, fun i a x ha ⟨bs, br, T⟩ => ?_, fun x ⟨bs, br, T⟩ => ?_⟩
  · obtain ⟨a1, a2⟩ := enumL_inv ha
    have hi := (List.getElem?_eq_some_iff.mp a2).1
    have mem : a.2 ∈ es := p.symm.subset (List.mem_of_getElem? a2)
    have ok := O _ mem
    have T4 := T.e4
    have sx : x.2.2.length < sizeLine := sz (by omega)
    refine ⟨fun z => (nomatch z), fun _ => ⟨en_str ok, fun z hz => en_str (O _ ((g z).mp hz).1), fun c => ?_, fun c => ?_⟩⟩
    · have no : ¬ (a.2 ∈ out ∧ a.2.two < days) := fun ⟨z1, z2⟩ => by
        simp [z1] at c; omega
      exact ⟨bs, br, T.keep a2 (fun d z => absurd z.1 no) (fun d z => absurd z.1 no)⟩
    · obtain ⟨m, lt⟩ : a.2 ∈ out ∧ a.2.two < days := by
        simp at c; exact ⟨c.1, by omega⟩
      refine ⟨fun c2 => ?_, fun c2 => ?_⟩
      · have hf : a.2.form = "sign" := of_decide_eq_true c2
        obtain ⟨t0, t1⟩ := two_ok ok (by rw [hf]; exact sv)
        have tn : a.2.two < (days.toNat : Nat) := by omega
        refine ⟨rkV (bs a.2.two), by rw [T.e2]; exact map_at t0 tn, fun c3 => ?_, fun c3 => ?_⟩
        · have c3 := of_decide_eq_true c3
          obtain ⟨y, hy⟩ := name_some (e := a.2) (by rw [hf]; exact sv)
          have ey : nmE a.2 = y := by unfold nmE; rw [hy]; rfl
          refine ⟨y, hy, a.2.two.toNat, by rw [T.e1, List.length_map, rng_len]; exact ixN_at t0 tn, a.2.two.toNat, by rw [T.e2, List.length_map, rng_len]; exact ixN_at t0 tn, ?_⟩
          rw [← ey]
          exact ⟨_, br, T.sign a2 m lt t0 hf c3⟩
        · have c3 := of_decide_eq_false c3
          refine ⟨fun c4 => absurd (hf.symm.trans (of_decide_eq_true c4)) sr, fun _ => ⟨fun z => (nomatch z), fun _ => ⟨bs, br, T.keep a2 (fun d z => ?_) fun d z => absurd (hf.symm.trans z.2.1) sr⟩⟩⟩
          rw [z.2.2] at c3
          cases hb : bs d with
          | none =>
            rw [hb] at c3
            have : (1 : Int) ≤ a.2.num := by
              cases h : a.2 with
              | sg n _ _ => rw [h] at ok; exact ok.1
              | rl n _ _ => rw [h] at ok; exact ok.1
              | vd n _ => rw [h] at ok; exact ok.1
            exact absurd (show a.2.num > (-1 : Int) by omega) c3
          | some y =>
            rw [hb] at c3
            exact ⟨y, rfl, Int.not_lt.mp c3⟩
      · have nf : a.2.form ≠ "sign" := of_decide_eq_false c2
        refine ⟨fun z => (nomatch z), fun _ => ⟨fun c4 => ?_, fun c4 => ⟨fun z => (nomatch z), fun _ => ⟨bs, br, T.keep a2 (fun d z => absurd z.2.1 nf) fun d z => absurd z.2.1 (of_decide_eq_false c4)⟩⟩⟩⟩
        have hf : a.2.form = "rule" := of_decide_eq_true c4
        obtain ⟨y, hy⟩ := name_some (e := a.2) (by rw [hf]; exact rv)
        have ey : nmE a.2 = y := by unfold nmE; rw [hy]; rfl
        have put : (∀ z, br a.2.two = some z → z.num < a.2.num) → ∃ bs br, Trk read out days s (i + 1) (x.1, x.2.1, dPut x.2.2 a.2.two (a.2.num, y)) bs br := fun h => by
          rw [← ey]
          exact ⟨bs, _, T.rule a2 m lt hf h⟩
        have e3 := T.e3 a.2.two
        refine ⟨fun c5 => ⟨fun _ => ⟨y, hy, sx, put fun z hz => ?_⟩, fun z => (nomatch z)⟩, fun c5 => ?_⟩
        · rw [hz] at e3; rw [e3] at c5; cases c5
        · cases hb : br a.2.two with
          | none => rw [hb] at e3; rw [e3] at c5; cases c5
          | some z =>
            rw [hb] at e3
            refine ⟨_, e3, fun c6 => ⟨y, hy, sx, put fun z' hz' => ?_⟩, fun c6 => ⟨bs, br, T.keep a2 (fun d z => absurd z.2.1 nf) fun d w => ⟨z, by rw [← w.2.2]; exact hb, Int.not_lt.mp (of_decide_eq_false c6)⟩⟩⟩
            rw [hb] at hz'; cases hz'
            exact of_decide_eq_true c6
  · have h1 := T.h1
    have h2 := T.h2
    have rd : read.take (enumL read).length = read := by rw [enumL_len, List.take_length]
    rw [rd] at h1 h2
    have P' : ∀ {f : Str} {d : Int}, d < days → ∀ e, Pf out days f d e ↔ e ∈ out ∧ e.form = f ∧ e.two = d := fun hd e => ⟨fun z => ⟨z.1.1, z.2⟩, fun z => ⟨⟨z.1, by rw [z.2.2]; exact hd⟩, z.2⟩⟩
    have tS : ∀ d, d < days → toldN es "sign" d = (bs d).map nmE := fun d hd => toldE (best_told sv p asc g (P' hd) (h1 d)) fun e he => by
      have := h1 d; rw [he] at this; rw [this.2.1.2.1]; exact sv
    have tR : ∀ d, d < days → toldN es "rule" d = (br d).map nmE := fun d hd => toldE (best_told rv p asc g (P' hd) (h2 d)) fun e he => by
      have := h2 d; rw [he] at this; rw [this.2.1.2.1]; exact rv
    have eL : x.1 = lifeN es s days.toNat := by
      rw [T.e1]
      unfold lifeN
      refine List.map_congr_left fun d hd => ?_
      obtain ⟨j, hj⟩ := List.mem_iff_getElem?.mp hd
      have := rng_inv hj
      rw [tS d (by omega)]
      cases bs d <;> rfl
    refine ⟨⟨by omega, by omega⟩, fun i y => y = ((rng 0 days.toNat).take i).foldl (codeS es) (r, []), rfl, fun i a y ha hy => ?_, fun y hy => ?_⟩
    · have hi := rng_inv ha
      have t := tR a (by omega)
      have e3 := T.e3 a
      have ln : y.2.length < sizeLine := by
        rw [show y = _ from hy, code_len, List.length_take]
        exact sz (by simp; omega)
      have nx : ∀ z : Str, z = (toldN es "rule" a).getD y.1 → (z, y.2 ++ [z]) = ((rng 0 days.toNat).take (i + 1)).foldl (codeS es) (r, []) := fun z hz => by
        rw [fold_take ha, ← show y = _ from hy, hz]; rfl
      refine ⟨fun c => ?_, fun c => ⟨ln, nx _ ?_⟩⟩
      · cases hb : br a with
        | none => rw [hb] at e3; rw [e3] at c; cases c
        | some z =>
          rw [hb] at e3 t
          refine ⟨_, e3, ln, nx _ ?_⟩
          rw [t]; rfl
      · cases hb : br a with
        | none => rw [t, hb]; rfl
        | some z => rw [hb] at e3; rw [e3] at c; cases c
    · have hy : y = ((rng 0 days.toNat).take (rng 0 days.toNat).length).foldl (codeS es) (r, []) := hy
      rw [List.take_length] at hy
      have : (x.1, y.2) = (lifeN es s days.toNat, codeN es r days.toNat) := by rw [eL, hy]; rfl
      show k (x.1, y.2)
      rw [this]; exact q
end Mi
/-! K08C1 -/
set_option Elab.async false
set_option linter.all false
set_option maxRecDepth 100000
set_option maxHeartbeats 4000000
/-! what one more entry changes: life and code -/
namespace Mi
open PySem PySem.Spec L2 Dh
def cv (es : List En) (r : Str) (i : Nat) : Str := (ruleN es i).getD r
def pv (es : List En) (r : Str) : Nat → Str
  | 0 => r
  | i + 1 => cv es r i
theorem cv_step {es : List En} {r : Str} : ∀ i : Nat, cv es r i = (toldN es "rule" (i : Nat)).getD (pv es r i)
  | 0 => rfl
  | i + 1 => by
    unfold cv
    have e : ruleN es (i + 1) = match toldN es "rule" ((i + 1 : Nat) : Int) with | some x => some x | none => ruleN es i := rfl
    rw [e]
    cases toldN es "rule" ((i + 1 : Nat) : Int) with
    | some x => rfl
    | none => rfl
theorem rng_snoc {n : Nat} : rng 0 (n + 1) = rng 0 n ++ [(n : Int)] := by
  unfold rng
  rw [List.range_succ, List.map_append]
  simp
theorem fold_code {es : List En} {r : Str} : ∀ n : Nat, (rng 0 n).foldl (codeS es) (r, []) = (pv es r n, (rng 0 n).map fun a => cv es r a.toNat)
  | 0 => rfl
  | n + 1 => by
    rw [rng_snoc, List.foldl_append, fold_code n, List.map_append]
    have e := cv_step (es := es) (r := r) n
    show ((toldN es "rule" (n : Int)).getD (pv es r n), _ ++ [(toldN es "rule" (n : Int)).getD (pv es r n)]) = _
    rw [← e]
    simp [pv]
theorem code_map {es : List En} {r : Str} {n : Nat} : codeN es r n = (rng 0 n).map fun a => cv es r a.toNat := by
  unfold codeN
  rw [fold_code]
theorem rng_add {a : Int} {m n : Nat} : rng a (m + n) = rng a m ++ rng (a + m) n := by
  unfold rng
  rw [List.range_add, List.map_append, List.map_map]
  congr 1
  apply List.map_congr_left
  intro i _
  show a + ((m + i : Nat) : Int) = a + m + i
  omega
theorem filter_rng {P : Int → Bool} {lo n N : Nat} (l : lo + n ≤ N) (h : ∀ i : Nat, i < N → (P i = true ↔ lo ≤ i ∧ i < lo + n)) : (rng 0 N).filter P = rng lo n := by
  have e : N = lo + (n + (N - lo - n)) := by omega
  have no : ∀ {a : Int} {m : Nat}, (∀ i, i < m → ∃ j : Nat, a + (i : Nat) = j ∧ j < N ∧ ¬ (lo ≤ j ∧ j < lo + n)) → (rng a m).filter P = [] := fun {a m} k => by
    rw [List.filter_eq_nil_iff]
    intro x hx
    unfold rng at hx
    obtain ⟨i, h1, rfl⟩ := List.mem_map.mp hx
    obtain ⟨j, e, h2, h3⟩ := k i (List.mem_range.mp h1)
    rw [e]
    exact fun z => h3 ((h j h2).mp z)
  have n1 := no (a := 0) (m := lo) fun i hi => ⟨i, by omega, by omega, by omega⟩
  have n2 := no (a := 0 + (lo : Nat) + (n : Nat)) (m := N - lo - n) fun i hi => ⟨lo + n + i, by omega, by omega, by omega⟩
  rw [e, rng_add, rng_add, List.filter_append, List.filter_append, n1, n2, List.nil_append, List.append_nil]
  rw [List.filter_eq_self.mpr]
  · simp
  · intro x hx
    unfold rng at hx
    obtain ⟨i, h1, rfl⟩ := List.mem_map.mp hx
    have h1 := List.mem_range.mp h1
    rw [show (0 : Int) + (lo : Nat) + (i : Nat) = ((lo + i : Nat) : Int) by omega]
    exact (h _ (by omega)).mpr ⟨by omega, by omega⟩
/-- the days whose rules differ are one stretch, each of the two rules is one on it -/
theorem stretch {es g : List En} {r : Str} {d0 : Int} (h : ∀ d : Int, d ≠ d0 → toldN es "rule" d = toldN g "rule" d) : ∀ N : Nat, ∃ lo n : Nat, lo + n ≤ N ∧ (∀ i, i < N → (cv es r i ≠ cv g r i ↔ lo ≤ i ∧ i < lo + n)) ∧
    (∀ i, lo ≤ i → i < lo + n → cv es r i = cv es r lo ∧ cv g r i = cv g r lo) ∧ (0 < n → (lo : Int) = d0)
  | 0 => ⟨0, 0, Nat.le_refl _, fun i hi => by omega, fun i _ _ => by omega, fun h => by omega⟩
  | N + 1 => by
    obtain ⟨lo, n, l, a, c, t⟩ := stretch h N
    have prev : pv es r N ≠ pv g r N → 0 < N ∧ lo + n = N ∧ 0 < n ∧ pv es r N = cv es r lo ∧ pv g r N = cv g r lo := fun ne => by
      cases N with
      | zero => exact absurd rfl ne
      | succ M =>
        have := (a M (by omega)).mp ne
        have q := c M this.1 this.2
        exact ⟨by omega, by omega, by omega, q.1, q.2⟩
    have keep : cv es r N = cv g r N → ∃ lo n : Nat, lo + n ≤ N + 1 ∧ (∀ i, i < N + 1 → (cv es r i ≠ cv g r i ↔ lo ≤ i ∧ i < lo + n)) ∧ (∀ i, lo ≤ i → i < lo + n → cv es r i = cv es r lo ∧ cv g r i = cv g r lo) ∧ (0 < n → (lo : Int) = d0) := fun e =>
      ⟨lo, n, by omega, fun i hi => by
        by_cases z : i < N
        · exact a i z
        · obtain rfl : i = N := by omega
          exact ⟨fun q => absurd e q, fun q => by omega⟩, c, t⟩
    have s1 := cv_step (es := es) (r := r) N
    have s2 := cv_step (es := g) (r := r) N
    by_cases e : cv es r N = cv g r N
    · exact keep e
    · by_cases q : toldN es "rule" (N : Nat) = toldN g "rule" (N : Nat)
      · cases z : toldN g "rule" (N : Nat) with
        | some x => rw [q, z] at s1; rw [z] at s2; exact absurd (s1.trans s2.symm) e
        | none =>
          rw [q, z] at s1; rw [z] at s2
          have s1 : cv es r N = pv es r N := s1
          have s2 : cv g r N = pv g r N := s2
          obtain ⟨p1, p2, p3, p4, p5⟩ := prev (by rw [← s1, ← s2]; exact e)
          refine ⟨lo, n + 1, by omega, fun i hi => ?_, fun i h1 h2 => ?_, fun _ => t p3⟩
          · by_cases z : i < N
            · rw [a i z]; omega
            · obtain rfl : i = N := by omega
              exact ⟨fun _ => by omega, fun _ => e⟩
          · by_cases z : i < N
            · exact c i h1 (by omega)
            · obtain rfl : i = N := by omega
              exact ⟨s1.trans p4, s2.trans p5⟩
      · have hd : (N : Int) = d0 := Classical.byContradiction fun z => q (h _ z)
        have n0 : n = 0 := by
          by_cases z : 0 < n
          · have := t z; omega
          · omega
        refine ⟨N, 1, by omega, fun i hi => ?_, fun i h1 h2 => ?_, fun _ => hd⟩
        · by_cases z : i < N
          · rw [a i z]; omega
          · obtain rfl : i = N := by omega
            exact ⟨fun _ => by omega, fun _ => e⟩
        · obtain rfl : i = N := by omega
          exact ⟨rfl, rfl⟩
theorem wp_diff {f g : Int → Str} {k : List Int → Prop} (q : k ((rng 0 60).filter fun a => !decide (f a = g a))) :
    compP (rng 0 (60 : Int).toNat) (fun (a : Int) (acc : List Int) (n : List Int → Prop) => ∃ v, atI ((rng 0 60).map f) a = some v ∧ ∃ w, atI ((rng 0 60).map g) a = some w ∧ ((!decide (v = w)) = true → n (acc ++ [a])) ∧ ((!decide (v = w)) = false → n acc)) k := by
  refine ⟨fun i acc => acc = ((rng 0 60).take i).filter fun a => !decide (f a = g a), rfl, fun i a acc ha e => ?_, fun acc e => ?_⟩
  · obtain ⟨hi, hr⟩ := rng_inv ha
    have hi : i < 60 := hi
    have ha' : (rng 0 60)[i]? = some a := ha
    have t : (rng 0 60).take (i + 1) = (rng 0 60).take i ++ [a] := by rw [List.take_add_one, ha']; rfl
    refine ⟨_, map_at (by omega) (by omega), _, map_at (by omega) (by omega), fun c => ?_, fun c => ?_⟩
    · show _ = _
      rw [t, List.filter_append, ← show acc = _ from e]
      simp only [List.filter_cons, c, if_true, List.filter_nil]
    · show _ = _
      rw [t, List.filter_append, ← show acc = _ from e]
      simp only [List.filter_cons, c, Bool.false_eq_true, if_false, List.filter_nil, List.append_nil]
  · have e : acc = ((rng 0 60).take (rng 0 60).length).filter _ := e
    rw [List.take_length] at e
    rw [e]; exact q
theorem filter_one {P : Int → Bool} {d : Int} : ∀ {l : List Int}, l.Nodup → (∀ a ∈ l, P a = true → a = d) → (l.filter P).length ≤ 1
  | [], _, _ => Nat.zero_le _
  | a :: l, nd, h => by
    have nd := List.nodup_cons.mp nd
    have ih := filter_one nd.2 fun x hx => h x (List.mem_cons_of_mem _ hx)
    rw [List.filter_cons]
    split
    · have e := h a List.mem_cons_self ‹_›
      have : l.filter P = [] := by
        rw [List.filter_eq_nil_iff]
        intro x hx hp
        have := h x (List.mem_cons_of_mem _ hx) hp
        rw [this, ← e] at hx
        exact nd.1 hx
      rw [this]; exact Nat.le_refl _
    · exact ih
theorem rng_nodup {n : Nat} : (rng 0 n).Nodup := by
  unfold rng
  refine List.Pairwise.map _ ?_ List.nodup_range
  intro a b h; omega
theorem wp_one_change {es g : List En} {s r : Str} {k : Bool → Prop} (h : ∃ (f0 : Str) (d0 : Int), ∀ (f : Str) (d : Int), f ≠ "void" → ¬ (f = f0 ∧ d = d0) → toldN es f d = toldN g f d) (q : k true) :
    W_l_one_change (lifeN es s 60, codeN es r 60) (lifeN g s 60, codeN g r 60) k := by
  obtain ⟨f0, d0, h⟩ := h
  have lr : (rng 0 (60 : Int).toNat).length ≤ sizeLine := by rw [rng_len]; exact szl (by decide)
  unfold W_l_one_change
  rw [code_map, code_map]
  unfold lifeN
  refine ⟨⟨by decide, by decide⟩, lr, wp_diff ⟨⟨by decide, by decide⟩, lr, wp_diff ?_⟩⟩
  have hr : ∃ d0 : Int, ∀ d : Int, d ≠ d0 → toldN es "rule" d = toldN g "rule" d := ⟨d0, fun d hd => h _ d rv fun z => hd z.2⟩
  obtain ⟨d1, hr⟩ := hr
  obtain ⟨lo, n, l, a, c, t⟩ := stretch (r := r) hr 60
  have e2 : (rng 0 60).filter (fun x => !decide (cv es r x.toNat = cv g r x.toNat)) = rng lo n := filter_rng l fun i hi => by
    rw [← a i hi, Bool.not_eq_true', decide_eq_false_iff_not]; simp
  dsimp only
  rw [e2]
  by_cases n0 : n = 0
  · subst n0
    refine ⟨fun _ => ?_, fun z => by simp [rng] at z⟩
    have : ((rng 0 60).filter fun x => !decide ((toldN es "sign" x).getD s = (toldN g "sign" x).getD s)).length ≤ 1 := filter_one (d := d0) rng_nodup fun x _ hp => by
      refine Classical.byContradiction fun z => ?_
      rw [h "sign" x sv fun y => z y.2] at hp
      simp at hp
    rw [decide_eq_true (by omega)]
    exact q
  · have e1 : (rng 0 60).filter (fun x => !decide ((toldN es "sign" x).getD s = (toldN g "sign" x).getD s)) = [] := by
      rw [List.filter_eq_nil_iff]
      intro x _ hp
      by_cases z : f0 = "sign"
      · have all : ∀ d : Int, toldN es "rule" d = toldN g "rule" d := fun d => h _ d rv fun y => sr (z.symm.trans y.1.symm)
        have := (a lo (by omega)).mpr ⟨Nat.le_refl _, by omega⟩
        have ev : ∀ i, ruleN es i = ruleN g i := by
          intro i
          induction i with
          | zero => exact all 0
          | succ i ih =>
            have e : ∀ es : List En, ruleN es (i + 1) = match toldN es "rule" ((i + 1 : Nat) : Int) with | some x => some x | none => ruleN es i := fun _ => rfl
            rw [e, e, all, ih]
        exact this (by unfold cv; rw [ev])
      · rw [h "sign" x sv fun y => z y.1.symm] at hp
        simp at hp
    have a0 : atI (rng (lo : Int) n) 0 = some (lo : Int) := by
      have := atI_nat (j := 0) (rng_get (lo := (lo : Int)) (n := n) (i := 0) (by omega))
      simpa using this
    have a1 : atI (rng (lo : Int) n) (-(1 : Int)) = some ((lo : Int) + n - 1) := by
      unfold L2.atI ixN
      rw [rng_len, if_neg (by decide), if_pos (by omega)]
      show (rng (lo : Int) n)[_]? = _
      rw [show (-1 + (n : Int)).toNat = n - 1 by omega, rng_get (by omega)]
      congr 1
      omega
    refine ⟨fun z => ?_, fun _ => ⟨fun z => ?_, fun _ => ⟨_, a1, _, a0, fun z => ?_, fun _ => ⟨fun _ _ => True, trivial, fun i x _ hx _ => ?_, fun _ _ => q⟩⟩⟩⟩
    · have : (rng (lo : Int) n).isEmpty = false := by
        cases e : rng (lo : Int) n with
        | nil => have := congrArg List.length e; rw [rng_len] at this; exact absurd this n0
        | cons _ _ => rfl
      rw [this] at z; exact absurd z (by decide)
    · rw [e1] at z; exact absurd z (by decide)
    · rw [rng_len] at z
      have : (n : Int) = (lo : Int) + n - 1 + 1 - lo := by omega
      rw [decide_eq_true this] at z; exact absurd z (by decide)
    · obtain ⟨hi, e⟩ := rng_inv hx
      have k1 : (lo : Int).toNat = lo := by omega
      have k2 : x.toNat = lo + i := by omega
      have cc := c (lo + i) (by omega) (by omega)
      refine ⟨_, map_at (by omega) (by omega), _, a0, _, map_at (by omega) (by omega), fun z => ?_, fun _ => ⟨_, map_at (by omega) (by omega), _, a0, _, map_at (by omega) (by omega), fun z => ?_, fun _ => trivial⟩⟩
      · rw [k1, k2, decide_eq_true cc.1] at z; exact absurd z (by decide)
      · rw [k1, k2, decide_eq_true cc.2] at z; exact absurd z (by decide)
end Mi
/-! K08Math7 -/
set_option Elab.async false
set_option linter.all false
set_option maxRecDepth 100000
set_option maxHeartbeats 4000000
namespace Mi
open PySem PySem.Spec L2 Dh
open _root_.Evl (Ex)
theorem name_ok {e : En} {y : Str} (h : e.Ok) (q : e.name? = some y) : NameOk y := by
  cases e with
  | sg n d z => cases q; exact h.2.2.2.2
  | rl n d z => cases q; exact h.2.2.2.2
  | vd n o => cases q
theorem told_name {es : List En} {f : Str} {d : Int} {x : Str} (hf : f ≠ "void") (O : ∀ e ∈ es, e.Ok) (h : toldN es f d = some x) : NameOk x := by
  have : ∀ {l : List En} {o : Option Str}, (∀ e ∈ l, e.Ok) → (∀ y, o = some y → NameOk y) → ∀ y, l.foldl (nmStep es f d) o = some y → NameOk y := by
    intro l
    induction l with
    | nil => intro o _ h y q; exact h y q
    | cons e l ih =>
      intro o ho h y q
      rw [List.foldl_cons, nm_eq hf] at q
      refine ih (fun z hz => ho z (List.mem_cons_of_mem _ hz)) (fun y hy => ?_) y q
      by_cases m : Mt es f d e
      · rw [if_pos m] at hy; exact name_ok (ho e List.mem_cons_self) hy
      · rw [if_neg m] at hy; exact h y hy
  exact this O (fun _ z => by cases z) x h
theorem life_ok {es : List En} {s : Str} {n : Nat} (O : ∀ e ∈ es, e.Ok) (hs : NameOk s) : ∀ z ∈ lifeN es s n, PyData.strOk z = true := fun z hz => by
  obtain ⟨d, _, rfl⟩ := List.mem_map.mp hz
  cases h : toldN es "sign" d with
  | none => exact name_strOk hs
  | some x => exact name_strOk (told_name sv O h)
theorem code_ok {es : List En} (O : ∀ e ∈ es, e.Ok) : ∀ {l : List Int} {x : Str × List Str}, NameOk x.1 → (∀ z ∈ x.2, NameOk z) → ∀ z ∈ (l.foldl (codeS es) x).2, NameOk z := by
  intro l
  induction l with
  | nil => intro x _ h; exact h
  | cons a l ih =>
    intro x h1 h2
    rw [List.foldl_cons]
    have hn : NameOk ((toldN es "rule" a).getD x.1) := by
      cases h : toldN es "rule" a with
      | none => exact h1
      | some y => exact told_name rv O h
    refine ih hn fun z hz => ?_
    rcases List.mem_append.mp hz with m | m
    · exact h2 z m
    · rw [List.mem_singleton.mp m]; exact hn
theorem codeN_ok {es : List En} {r : Str} {n : Nat} (O : ∀ e ∈ es, e.Ok) (hr : NameOk r) : ∀ z ∈ codeN es r n, PyData.strOk z = true := fun z hz => name_strOk (code_ok O hr (fun _ m => by cases m) z hz)
end Mi
/-! K08Math8 -/
set_option Elab.async false
set_option linter.all false
set_option maxRecDepth 100000
set_option maxHeartbeats 4000000
namespace Mi
open PySem PySem.Spec L2 Dh
theorem wp_world {k : Wo → Prop} (q : ∀ w, WOk w → k w) : W_l_world k := by
  unfold W_l_world
  refine pick (by decide) (by decide) fun r r0 r1 => ⟨by omega, wp_names (by omega) (by omega) fun ss s1 s2 => ?_⟩
  refine pick (by decide) (by decide) fun r' r0' r1' => ⟨by omega, wp_names (by omega) (by omega) fun rs t1 t2 => ?_⟩
  refine pick (by decide) (by decide) fun sp p0 p1 => pick (by omega) (by omega) fun v v0 v1 => pick (by decide) (by decide) fun j j0 j1 => ?_
  obtain ⟨low, hl, ml⟩ := atI_lt (xs := ([(0 : Int), ((60 : Int) - (1 + sp)), v] : List Int)) j0 j1
  have lo2 : 0 ≤ low ∧ low ≤ 60 - (1 + sp) := by
    have := List.mem_of_getElem? ml
    simp at this; omega
  refine ⟨low, hl, by omega, by rw [rng_len]; exact szl (by omega), szl (by simp; omega), ⟨by simp, by simp; omega, fun sg hs => ⟨szl (by simp; omega), ⟨by simp, by simp; omega, fun nm hn => ?_⟩⟩⟩⟩
  have mem : ∀ d, d ∈ ((rng low (low + (1 + sp) + 1 - low).toNat).filter fun (a : Int) => decide (a < 60)).map (fun (a : Int) => a) → 0 ≤ d ∧ d ≤ 59 := fun d hd => by
    obtain ⟨a, ha, rfl⟩ := List.mem_map.mp hd
    obtain ⟨h1, h2⟩ := List.mem_filter.mp ha
    have := rng_mem h1
    have := of_decide_eq_true h2
    omega
  refine q _ ⟨by show 0 < ss.length; omega, by show ss.length ≤ 3; omega, s2, by show 0 < rs.length; omega, by show rs.length ≤ 3; omega, t2, ?_, ?_, mem, ord_app s2 _ hs, ord_app t2 _ hn⟩
  · refine List.length_pos_of_mem (a := low) (List.mem_map.mpr ⟨low, List.mem_filter.mpr ⟨?_, decide_eq_true (by omega)⟩, rfl⟩)
    have := rng_get (lo := low) (n := (low + (1 + sp) + 1 - low).toNat) (i := 0) (by omega)
    have := List.mem_of_getElem? this
    simpa using this
  · show (List.map _ (List.filter _ _)).length ≤ 60
    rw [List.length_map]
    refine Nat.le_trans (List.length_filter_le _ _) ?_
    rw [rng_len]; omega
theorem wp_rows {w : Wo} {ns : List Int} {k : List En → Prop} (W : WOk w) (asc : Asc ns) (hn : ∀ n ∈ ns, 1 ≤ n ∧ n ≤ 640) (hl : ns.length ≤ 100) (q : ∀ es : List En, es.map En.num = ns → (∀ e ∈ es, e.Ok) → k es) : W_l_rows w ns k := by
  unfold W_l_rows
  refine ⟨fun i x => x.map En.num = ns.take i ∧ ∀ e ∈ x, e.Ok, ⟨rfl, fun e h => nomatch h⟩, fun i a x ha ⟨hx, ho⟩ => ?_, fun x ⟨hx, ho⟩ => q x (by rw [hx, enumL_len, List.take_length]) ho⟩
  obtain ⟨a1, a2⟩ := enumL_inv ha
  have hi := (List.getElem?_eq_some_iff.mp a2).1
  have lx : x.length = i := by
    have := congrArg List.length hx
    rw [List.length_map, List.length_take] at this
    omega
  have hN := hn _ (List.mem_of_getElem? a2)
  have fin : ∀ e : En, e.num = a.2 → e.Ok → (x ++ [e]).map En.num = ns.take (i + 1) ∧ ∀ f ∈ x ++ [e], f.Ok := fun e he eo => by
    refine ⟨?_, fun f hf => ?_⟩
    · rw [List.map_append, hx, List.take_add_one, a2]
      simp [he]
    · rcases List.mem_append.mp hf with h | h
      · exact ho f h
      · rw [List.mem_singleton.mp h]; exact eo
  have sx : x.length < sizeLine := sz (by omega)
  have W0 := W.s0; have W1 := W.s1; have W2 := W.r0; have W3 := W.r1; have W4 := W.d0; have W5 := W.d1
  refine pick (by decide) (by decide) fun way w0 w1 => ⟨by omega, by omega, fun d hd => ?_⟩
  obtain ⟨dd0, dd1⟩ := W.dn d hd
  refine ⟨fun c => ?_, fun _ => ⟨fun c => ?_, fun _ => ⟨fun c => ?_, fun _ => ⟨fun _ => ?_, fun _ => ?_⟩⟩⟩⟩
  · have c2 : a.1 > 0 := by simp at c; exact c.2
    obtain ⟨o, ho1, ho2⟩ := atI_lt (xs := ns) (i := a.1 - 1) (by omega) (by omega)
    have l := asc_lt asc ho2 a2 (by omega)
    have := hn _ (List.mem_of_getElem? ho2)
    exact ⟨o, ho1, sx, fin (.vd a.2 o) rfl ⟨by omega, by omega, by omega, by omega⟩⟩
  · have c2 : a.1 > 0 := by simp at c; exact c.2
    refine pick c2 (by omega) fun j j0 j1 => ?_
    obtain ⟨o, ho1, ho2⟩ := atI_lt (xs := ns) j0 (by omega)
    have l := asc_lt asc ho2 a2 (by omega)
    have := hn _ (List.mem_of_getElem? ho2)
    exact ⟨o, ho1, sx, fin (.vd a.2 o) rfl ⟨by omega, by omega, by omega, by omega⟩⟩
  · have c2 : a.2 > 1 := by simp at c; exact c.2
    exact pick (by omega) (by omega) fun j j0 j1 => ⟨sx, fin (.vd a.2 (1 + j)) rfl ⟨by omega, by omega, by omega, by omega⟩⟩
  · exact ⟨by omega, by omega, fun z hz => ⟨sx, fin (.sg a.2 _ z) rfl ⟨by omega, by omega, dd0, dd1, W.sn z hz⟩⟩⟩
  · exact ⟨by omega, by omega, fun z hz => ⟨sx, fin (.rl a.2 _ z) rfl ⟨by omega, by omega, dd0, dd1, W.rn z hz⟩⟩⟩
/-- the greatest number -/
def Top (ns : List Int) (t : Int) : Prop := (∀ n ∈ ns, n ≤ t) ∧ 0 ≤ t ∧ t ≤ 640 ∧ (ns = [] → t = 0) ∧ (ns ≠ [] → t ∈ ns)
theorem Top.eq {ns : List Int} {t u : Int} (h : Top ns t) (g : Top ns u) : t = u := by
  by_cases e : ns = []
  · rw [h.2.2.2.1 e, g.2.2.2.1 e]
  · have := g.1 t (h.2.2.2.2 e)
    have := h.1 u (g.2.2.2.2 e)
    omega
theorem last_top {ns : List Int} (asc : Asc ns) (hn : ∀ n ∈ ns, 1 ≤ n ∧ n ≤ 640) (h : ns ≠ []) : ∃ t, ns[ns.length - 1]? = some t ∧ Top ns t := by
  have l : 0 < ns.length := List.length_pos_iff.mpr h
  have e : ns[ns.length - 1]? = some ns[ns.length - 1] := List.getElem?_eq_getElem (by omega)
  have m := List.mem_of_getElem? e
  have b := hn _ m
  refine ⟨_, e, fun n hn' => ?_, by omega, by omega, fun z => absurd z h, fun _ => m⟩
  obtain ⟨j, hj, rfl⟩ := List.mem_iff_getElem.mp hn'
  by_cases q : j = ns.length - 1
  · subst q; exact Int.le_refl _
  · have := asc_lt asc (List.getElem?_eq_getElem hj) e (by omega)
    omega
theorem at_last {α : Type} {xs : List α} {a : α} (h : xs[xs.length - 1]? = some a) : atI xs (-(1 : Int)) = some a := by
  have l := (List.getElem?_eq_some_iff.mp h).1
  unfold L2.atI ixN
  rw [if_neg (by decide), if_pos (by omega)]
  show xs[_]? = _
  rw [show (-1 + (xs.length : Int)).toNat = xs.length - 1 by omega]
  exact h
theorem wp_top {ns : List Int} {k : Int → Prop} (asc : Asc ns) (hn : ∀ n ∈ ns, 1 ≤ n ∧ n ≤ 640) (q : ∀ t, Top ns t → k t) : ((!ns.isEmpty) = true → ∃ v, atI ns (-(1 : Int)) = some v ∧ k v) ∧ ((!ns.isEmpty) = false → k 0) := by
  refine ⟨fun c => ?_, fun c => ?_⟩
  · obtain ⟨t, h1, h2⟩ := last_top asc hn fun z => by rw [z] at c; exact absurd c (by decide)
    exact ⟨t, at_last h1, q t h2⟩
  · have e : ns = [] := by
      cases ns with
      | nil => rfl
      | cons _ _ => exact absurd c (by simp)
    exact q 0 ⟨fun n h => (by rw [e] at h; nomatch h), by decide, by decide, fun _ => rfl, fun z => absurd e z⟩
structure Fo (ns : List Int) (t : Int) (e : En) : Prop where
  ok : e.Ok
  ne : e.num ∉ ns
  le : e.num ≤ t + 3
theorem all_app {α : Type} {P : α → Prop} {xs ys : List α} (h : ∀ x ∈ xs, P x) (g : ∀ x ∈ ys, P x) : ∀ x ∈ xs ++ ys, P x := fun x hx => (List.mem_append.mp hx).elim (h x) (g x)
theorem wp_further {w : Wo} {es : List En} {k : List En → Prop} (W : WOk w) (asc : Asc (es.map En.num)) (hn : ∀ n ∈ es.map En.num, 1 ≤ n ∧ n ≤ 640) (hl : es.length ≤ 100) (q : ∀ (fs : List En) (t : Int), Top (es.map En.num) t → (∀ e ∈ fs, Fo (es.map En.num) t e) → k fs) : W_l_further w es k := by
  unfold W_l_further
  have hl2 : (es.map En.num).length ≤ 100 := by rw [List.length_map]; exact hl
  have W0 := W.s0; have W1 := W.s1; have W2 := W.r0; have W3 := W.r1; have W4 := W.d0; have W5 := W.d1
  refine ⟨szl (by omega), wp_top asc hn fun t T => ⟨⟨by decide, by decide, by have := T.2.1; omega, by have := T.2.2.1; omega⟩, by rw [rng_len]; exact szl (by have := T.2.2.1; omega), pick (by decide) (by decide) fun v v0 v1 => ?_⟩⟩
  have T1 := T.2.1; have T2 := T.2.2.1
  have main : ∀ cs : List Int, cs.length ≤ 2 → (∀ c ∈ cs, 1 ≤ c ∧ c ≤ t + 3 ∧ c ∉ es.map En.num) → forP cs ([] : List En) (fun (a20 : Int) (x17 : (List En)) (n18 : (List En) → Prop) => forP w.2.2.1 x17 (fun (a24 : Int) (x21 : (List En)) (n22 : (List En) → Prop) => w.1.length ≤ sizeLine ∧ x21.length + (w.1.map fun (a25 : Str) => (En.sg a20 a24 a25)).length ≤ sizeLine ∧ let y26 : (List En) := (w.1.map fun (a25 : Str) => (En.sg a20 a24 a25)); w.2.1.length ≤ sizeLine ∧ (x21 ++ y26).length + (w.2.1.map fun (a27 : Str) => (En.rl a20 a24 a27)).length ≤ sizeLine ∧ let y28 : (List En) := (w.2.1.map fun (a27 : Str) => (En.rl a20 a24 a27)); n22 ((x21 ++ y26) ++ y28)) fun x21 => (es.map En.num).length ≤ sizeLine ∧ x21.length + (((es.map En.num).filter fun (a29 : Int) => (decide (a29 < a20))).map fun (a29 : Int) => (En.vd a20 a29)).length ≤ sizeLine ∧ let y30 : (List En) := (((es.map En.num).filter fun (a29 : Int) => (decide (a29 < a20))).map fun (a29 : Int) => (En.vd a20 a29)); (fun (n33 : (List En) → Prop) => ((decide (a20 > (1 : Int))) = true → W_l_pick (a20 - (1 : Int)) fun v35 => (x21 ++ y30).length < sizeLine ∧ let y34 : En := (En.vd a20 ((1 : Int) + v35)); n33 ((x21 ++ y30) ++ [y34])) ∧ ((decide (a20 > (1 : Int))) = false → n33 (x21 ++ y30))) fun x31 => n18 x31) k := fun cs cl cP => by
    refine ⟨fun i x => x.length ≤ 1000 * i ∧ ∀ e ∈ x, Fo (es.map En.num) t e, ⟨Nat.zero_le _, fun e h => nomatch h⟩, fun i a x ha ⟨xl, xP⟩ => ?_, fun x ⟨_, xP⟩ => q x t T xP⟩
    have hi := (List.getElem?_eq_some_iff.mp ha).1
    obtain ⟨a0, a1, a2⟩ := cP a (List.mem_of_getElem? ha)
    refine ⟨fun j y => y.length ≤ 1000 * i + 6 * j ∧ ∀ e ∈ y, Fo (es.map En.num) t e, ⟨by omega, xP⟩, fun j d y hd ⟨yl, yP⟩ => ?_, fun y ⟨yl, yP⟩ => ?_⟩
    · have hj := (List.getElem?_eq_some_iff.mp hd).1
      obtain ⟨d0, d1⟩ := W.dn d (List.mem_of_getElem? hd)
      refine ⟨szl (by omega), szl (by rw [List.length_map]; omega), szl (by omega), szl (by rw [List.length_append, List.length_map, List.length_map]; omega), by rw [List.length_append, List.length_append, List.length_map, List.length_map]; omega, all_app (all_app yP fun e he => ?_) fun e he => ?_⟩
      · obtain ⟨z, hz, rfl⟩ := List.mem_map.mp he
        exact ⟨⟨a0, by omega, d0, d1, W.sn z hz⟩, a2, a1⟩
      · obtain ⟨z, hz, rfl⟩ := List.mem_map.mp he
        exact ⟨⟨a0, by omega, d0, d1, W.rn z hz⟩, a2, a1⟩
    · have fl : ((es.map En.num).filter fun (a29 : Int) => decide (a29 < a)).length ≤ 100 := Nat.le_trans (List.length_filter_le _ _) hl2
      have vP : ∀ e ∈ y ++ ((es.map En.num).filter fun (a29 : Int) => decide (a29 < a)).map (fun (a29 : Int) => En.vd a a29), Fo (es.map En.num) t e := all_app yP fun e he => by
        obtain ⟨z, hz, rfl⟩ := List.mem_map.mp he
        obtain ⟨h1, h2⟩ := List.mem_filter.mp hz
        have := hn z h1
        have := of_decide_eq_true h2
        exact ⟨⟨a0, by omega, by omega, by omega⟩, a2, a1⟩
      refine ⟨szl (by omega), szl (by rw [List.length_map]; omega), fun c => ?_, fun c => ⟨by rw [List.length_append, List.length_map]; omega, vP⟩⟩
      have c := of_decide_eq_true c
      refine pick (by omega) (by omega) fun u u0 u1 => ⟨sz (by rw [List.length_append, List.length_map]; omega), by rw [List.length_append, List.length_append, List.length_map]; simp; omega, all_app vP fun e he => ?_⟩
      rw [List.mem_singleton.mp he]
      exact ⟨⟨a0, by omega, by omega, by omega⟩, a2, a1⟩
  have top1 : 1 ≤ t + 1 + v ∧ t + 1 + v ≤ t + 3 ∧ t + 1 + v ∉ es.map En.num := ⟨by omega, by omega, fun z => by have := T.1 _ z; omega⟩
  refine ⟨fun c => ⟨?_, ?_, fun f hf => ⟨sz (by simp), main _ (by simp) fun c hc => ?_⟩⟩, fun c => main _ (by simp) fun c hc => by rw [List.mem_singleton.mp hc]; exact top1⟩
  · refine List.length_pos_iff.mpr fun z => ?_
    rw [z] at c; exact absurd c (by decide)
  · rw [List.length_map]
    refine Nat.lt_of_le_of_lt (List.length_filter_le _ _) ?_
    rw [rng_len]; omega
  · rcases List.mem_append.mp hc with h | h
    · rw [List.mem_singleton.mp h]; exact top1
    · rw [List.mem_singleton.mp h]
      obtain ⟨a, ha, rfl⟩ := List.mem_map.mp hf
      obtain ⟨h1, h2⟩ := List.mem_filter.mp ha
      have := rng_mem h1
      refine ⟨by omega, by omega, fun z => ?_⟩
      rw [decide_eq_true z] at h2; exact absurd h2 (by decide)
theorem wp_both {g : List En} {w : Wo} {k : List Str × List Str → Prop} (q : k (lifeN g w.2.2.2.1 60, codeN g w.2.2.2.2 60)) : W_l_both g w k := by
  unfold W_l_both
  exact wp_life (by decide) (by decide) (wp_code (by decide) (by decide) q)
theorem wp_due {g read : List En} {w : Wo} {k : List Str × List Str → Prop} (p : g.Perm read) (asc : Asc (g.map En.num)) (O : ∀ e ∈ g, e.Ok) (l : read.length ≤ 1000) (q : k (lifeN g w.2.2.2.1 60, codeN g w.2.2.2.2 60)) : W_l_due read w k := by
  unfold W_l_due
  exact wp_tracks p asc O l (by decide) (by decide) q
theorem wp_days_tell {g : List En} {w : Wo} {k : Bool → Prop} (W : WOk w) (q : k true) : W_l_days_tell g w (lifeN g w.2.2.2.1 60, codeN g w.2.2.2.2 60) k := by
  have W5 := W.d1
  unfold W_l_days_tell
  refine ⟨szl (by simp; omega), fun _ _ => True, trivial, fun i d _ hd _ => ?_, fun _ _ => q⟩
  have m : 0 ≤ d ∧ d ≤ 59 := (List.mem_append.mp (List.mem_of_getElem? hd)).elim (W.dn d) fun z => by rw [List.mem_singleton.mp z]; decide
  have s1 : atI (lifeN g w.2.2.2.1 60) d = some ((toldN g "sign" d).getD w.2.2.2.1) := map_at (by omega) (by omega)
  have s2 : atI (codeN g w.2.2.2.2 60) d = some ((ruleN g d.toNat).getD w.2.2.2.2) := by rw [code_map]; exact map_at (f := fun a => cv g w.2.2.2.2 a.toNat) (by omega) (by omega)
  have rule : (fun (k13 : Str → Prop) => ((ruleN g d.toNat).isNone = true → k13 w.2.2.2.2) ∧ ((ruleN g d.toNat).isNone = false → ∃ v15, ruleN g d.toNat = some v15 ∧ k13 v15)) fun v14 => ∃ v16, atI (codeN g w.2.2.2.2 60) d = some v16 ∧ ((!decide (v14 = v16)) = true → k false) ∧ ((!decide (v14 = v16)) = false → True) := by
    cases e : ruleN g d.toNat with
    | none =>
      rw [e] at s2
      exact ⟨fun _ => ⟨_, s2, fun z => by rw [show (none : Option Str).getD w.2.2.2.2 = w.2.2.2.2 from rfl, decide_eq_true rfl] at z; exact absurd z (by decide), fun _ => trivial⟩, fun z => (nomatch z)⟩
    | some x =>
      rw [e] at s2
      exact ⟨fun z => (nomatch z), fun _ => ⟨x, rfl, _, s2, fun z => by rw [show (some x).getD w.2.2.2.2 = x from rfl, decide_eq_true rfl] at z; exact absurd z (by decide), fun _ => trivial⟩⟩
  refine ⟨by omega, ?_⟩
  cases e : toldN g "sign" d with
  | none =>
    rw [e] at s1
    exact ⟨fun _ => ⟨_, s1, fun z => by rw [show (none : Option Str).getD w.2.2.2.1 = w.2.2.2.1 from rfl, decide_eq_true rfl] at z; exact absurd z (by decide), fun _ => rule⟩, fun z => (nomatch z)⟩
  | some x =>
    rw [e] at s1
    exact ⟨fun z => (nomatch z), fun _ => ⟨x, rfl, _, s1, fun z => by rw [show (some x).getD w.2.2.2.1 = x from rfl, decide_eq_true rfl] at z; exact absurd z (by decide), fun _ => rule⟩⟩
end Mi
/-! K08Math9 -/
set_option Elab.async false
set_option linter.all false
set_option maxRecDepth 100000
set_option maxHeartbeats 4000000
namespace Mi
open PySem PySem.Spec L2 Dh
theorem ShPre.perm {a c : List En} (p : a.Perm c) (h : ShPre c) : ShPre a := ⟨fun e he => h.1 e (p.subset he), (p.map En.num).nodup_iff.mpr h.2.1, by rw [p.length_eq]; exact h.2.2⟩
theorem ShPre.left {a c : List En} (h : ShPre (a ++ c)) : ShPre a := ⟨fun e he => h.1 e (List.mem_append_left _ he), by
  have := h.2.1
  rw [List.map_append] at this
  exact (List.nodup_append.mp this).1, by have := h.2.2; rw [List.length_append] at this; omega⟩
theorem ShPre.right {a c : List En} (h : ShPre (a ++ c)) : ShPre c := (h.perm List.perm_append_comm).left
theorem ShPre.of_asc {es : List En} {ns : List Int} (h : es.map En.num = ns) (asc : Asc ns) (o : ∀ e ∈ es, e.Ok) (l : es.length < 64) : ShPre es := ⟨o, by rw [h]; exact asc.imp fun h => by omega, l⟩
theorem wp_mingled {xs : List En} {k : List En → Prop} (l : xs.length < 1000000) (q : ∀ ys : List En, ys.Perm xs → k ys) : W_l_mingled xs k := ⟨l, q⟩
theorem asc_eq : ∀ {a c : List En}, Asc (a.map En.num) → Asc (c.map En.num) → a.Perm c → a = c
  | [], c, _, _, p => (List.Perm.nil_eq p)
  | x :: a, [], _, _, p => absurd p.length_eq (by simp)
  | x :: a, y :: c, h1, h2, p => by
    have h1' := List.pairwise_cons.mp h1
    have h2' := List.pairwise_cons.mp h2
    have e : x = y := by
      rcases List.mem_cons.mp (p.subset List.mem_cons_self) with z | z
      · exact z
      · rcases List.mem_cons.mp (p.symm.subset List.mem_cons_self) with u | u
        · exact u.symm
        · have := h2'.1 x.num (List.mem_map_of_mem z)
          have := h1'.1 y.num (List.mem_map_of_mem u)
          omega
    subst e
    rw [asc_eq h1'.2 h2'.2 (List.Perm.cons_inv p)]
theorem rule_same {es g : List En} (h : ∀ d : Int, toldN es "rule" d = toldN g "rule" d) : ∀ i, ruleN es i = ruleN g i
  | 0 => h 0
  | i + 1 => by
    have e : ∀ es : List En, ruleN es (i + 1) = match toldN es "rule" ((i + 1 : Nat) : Int) with | some x => some x | none => ruleN es i := fun _ => rfl
    rw [e, e, h, rule_same h i]
theorem life_same {es g : List En} {s r : Str} (h : ∀ (f : Str) (d : Int), f ≠ "void" → toldN es f d = toldN g f d) : lifeN es s 60 = lifeN g s 60 ∧ codeN es r 60 = codeN g r 60 := by
  constructor
  · unfold lifeN
    exact List.map_congr_left fun a _ => by rw [h _ _ sv]
  · rw [code_map, code_map]
    exact List.map_congr_left fun a _ => by unfold cv; rw [rule_same fun d => h _ d rv]
theorem pre_snoc {s : List En} {e : En} (h : ShPre s) (l : s.length < 60) (ok : e.Ok) (ne : ∀ x ∈ s, x.num ≠ e.num) : ShPre (s ++ [e]) := by
  refine ⟨fun x hx => (List.mem_append.mp hx).elim (h.1 x) fun z => by rw [List.mem_singleton.mp z]; exact ok, ?_, by simp; omega⟩
  rw [List.map_append]
  refine List.nodup_append.mpr ⟨h.2.1, by simp, fun a ha c hc => ?_⟩
  obtain ⟨x, hx, rfl⟩ := List.mem_map.mp ha
  have : c = e.num := by simpa using hc
  rw [this]; exact ne x hx
theorem law_rest {w : Wo} {s : List En} {t : Int} (W : WOk w) (le : s.length ≤ 8) (E : ShPre s) (ea : Asc (s.map En.num)) (eo : ∀ e ∈ s, e.Ok) (hn : ∀ n ∈ s.map En.num, 1 ≤ n ∧ n ≤ 640) (T : Top (s.map En.num) t) :
    W_l_pick (9 : Int) fun v64 => let closing11 : Int := ((t + (4 : Int)) + v64); W_l_further w s fun v60 => forP v60 () (fun (a15 : En) (x12 : Unit) (n13 : Unit → Prop) => ShPre ([a15] : List En) ∧ ∀ es17 : List En, es17.Perm ([a15] : List En) → Asc (es17.map En.num) → ShPre (s ++ es17) ∧ ∀ es18 : List En, es18.Perm (s ++ es17) → Asc (es18.map En.num) → let grown16 : (List En) := es18; s.length + ([a15] : List En).length ≤ sizeLine ∧ W_l_due (s ++ ([a15] : List En)) w fun v50 => let due21 : ((List Str) × (List Str)) := v50; W_l_both grown16 w fun v49 => let behind22 : ((List Str) × (List Str)) := v49; (fun (n25 : Unit → Prop) => (fun (k39 : Bool → Prop) => ((∀ z46 ∈ behind22.1, PyData.strOk z46 = true) ∧ (∀ z45 ∈ behind22.2, PyData.strOk z45 = true)) ∧ ((∀ z48 ∈ due21.1, PyData.strOk z48 = true) ∧ (∀ z47 ∈ due21.2, PyData.strOk z47 = true)) ∧ ((!decide (behind22 = due21)) = true → k39 true) ∧ ((!decide (behind22 = due21)) = false → (fun (k41 : Bool → Prop) => W_l_one_change ((lifeN s w.2.2.2.1 60, codeN s w.2.2.2.2 60) : List Str × List Str) behind22 fun v43 => ((!v43) = true → k41 true) ∧ ((!v43) = false → W_l_days_tell grown16 w due21 fun v44 => k41 (!v44))) fun c42 => k39 c42)) fun c40 => (c40 = true → (false = true)) ∧ (c40 = false → n25 ())) fun x23 => ShPre ([(En.vd closing11 a15.num)] : List En) ∧ ∀ es27 : List En, es27.Perm ([(En.vd closing11 a15.num)] : List En) → Asc (es27.map En.num) → ShPre (grown16 ++ es27) ∧ ∀ es28 : List En, es28.Perm (grown16 ++ es27) → Asc (es28.map En.num) → let undone26 : (List En) := es28; (fun (n33 : Unit → Prop) => W_l_both undone26 w fun v34 => ((∀ z36 ∈ v34.1, PyData.strOk z36 = true) ∧ (∀ z35 ∈ v34.2, PyData.strOk z35 = true)) ∧ ((∀ z38 ∈ ((lifeN s w.2.2.2.1 60, codeN s w.2.2.2.2 60) : List Str × List Str).1, PyData.strOk z38 = true) ∧ (∀ z37 ∈ ((lifeN s w.2.2.2.1 60, codeN s w.2.2.2.2 60) : List Str × List Str).2, PyData.strOk z37 = true)) ∧ ((!decide (v34 = ((lifeN s w.2.2.2.1 60, codeN s w.2.2.2.2 60) : List Str × List Str))) = true → (false = true)) ∧ ((!decide (v34 = ((lifeN s w.2.2.2.1 60, codeN s w.2.2.2.2 60) : List Str × List Str))) = false → n33 ())) fun x31 => n13 ()) fun x12 => (fun (k51 : Bool → Prop) => (∀ z58 ∈ s, EnStr z58) ∧ (∀ z59 ∈ s, EnStr z59) ∧ ((decide (s = s)) = true → W_l_both s w fun v53 => ((∀ z55 ∈ v53.1, PyData.strOk z55 = true) ∧ (∀ z54 ∈ v53.2, PyData.strOk z54 = true)) ∧ ((∀ z57 ∈ ((lifeN s w.2.2.2.1 60, codeN s w.2.2.2.2 60) : List Str × List Str).1, PyData.strOk z57 = true) ∧ (∀ z56 ∈ ((lifeN s w.2.2.2.1 60, codeN s w.2.2.2.2 60) : List Str × List Str).2, PyData.strOk z56 = true)) ∧ k51 (decide (v53 = ((lifeN s w.2.2.2.1 60, codeN s w.2.2.2.2 60) : List Str × List Str)))) ∧ ((decide (s = s)) = false → k51 false)) fun c52 => (c52 = true) := by
  have oks : ∀ {g : List En}, (∀ e ∈ g, e.Ok) → (∀ z ∈ lifeN g w.2.2.2.1 60, PyData.strOk z = true) ∧ ∀ z ∈ codeN g w.2.2.2.2 60, PyData.strOk z = true := fun O => ⟨life_ok O W.gn, codeN_ok O W.nn⟩
  refine pick (by decide) (by decide) fun v v0 v1 => wp_further W ea hn (by omega) fun fs t' T' F => ?_
  obtain rfl : t = t' := T.eq T'
  have T1 := T.2.1; have T2 := T.2.2.1
  refine ⟨fun _ _ => True, trivial, fun i e _ hx _ => ?_, fun _ _ => ⟨fun z hz => en_str (eo z hz), fun z hz => en_str (eo z hz), fun _ => wp_both ⟨oks eo, oks eo, decide_eq_true rfl⟩, fun z => by rw [decide_eq_true rfl] at z; exact absurd z (by decide)⟩⟩
  have f := F e (List.mem_of_getElem? hx)
  have ne : ∀ x ∈ s, x.num ≠ e.num := fun x hx z => f.ne (z ▸ List.mem_map_of_mem hx)
  have P1 : ShPre ([e] : List En) := ⟨fun x hx => by rw [List.mem_singleton.mp hx]; exact f.ok, by simp, by simp⟩
  refine ⟨P1, fun es17 p17 _ => ?_⟩
  obtain rfl := List.perm_singleton.mp p17
  have PG := pre_snoc E (by omega) f.ok ne
  refine ⟨PG, fun g pg ga => ⟨szl (by simp; omega), ?_⟩⟩
  have G : ShPre g := PG.perm pg
  have gl := pg.length_eq
  rw [List.length_append, List.length_singleton] at gl
  have gmem : ∀ x, x ∈ g ↔ x ∈ s ∨ x = e := fun x => by rw [pg.mem_iff]; simp
  refine wp_due pg ga G.1 (by simp; omega) (wp_both ⟨oks G.1, oks G.1, fun z => by rw [decide_eq_true rfl] at z; exact absurd z (by decide), fun _ => wp_one_change (one_place ⟨ea, eo⟩ ⟨ga, G.1⟩ gmem ne) ⟨fun z => (by cases z), fun _ => wp_days_tell W ⟨fun z => (by cases z), fun _ => ?_⟩⟩⟩)
  have cl : ∀ x ∈ g, x.num < t + 4 + v := fun x hx => by
    rcases (gmem x).mp hx with h | rfl
    · have := T.1 _ (List.mem_map_of_mem h); omega
    · have := f.le; omega
  have e1 : 1 ≤ e.num := by
    have := f.ok
    cases e with
    | sg n _ _ => exact this.1
    | rl n _ _ => exact this.1
    | vd n _ => exact this.1
  have cok : (En.vd (t + 4 + v) e.num).Ok := ⟨by omega, by omega, e1, by have := f.le; omega⟩
  have P2 : ShPre ([En.vd (t + 4 + v) e.num] : List En) := ⟨fun x hx => by rw [List.mem_singleton.mp hx]; exact cok, by simp, by simp⟩
  refine ⟨P2, fun es27 p27 _ => ?_⟩
  obtain rfl := List.perm_singleton.mp p27
  have PU := pre_snoc G (by omega) cok fun x hx z => by have := cl x hx; have z : x.num = t + 4 + v := z; omega
  refine ⟨PU, fun u pu ua => ?_⟩
  have U : ShPre u := PU.perm pu
  have umem : ∀ x, x ∈ u ↔ x ∈ s ∨ x = e ∨ x = En.vd (t + 4 + v) e.num := fun x => by rw [pu.mem_iff, List.mem_append, gmem, List.mem_singleton, or_assoc]
  have back := undone ⟨ea, eo⟩ ⟨ua, U.1⟩ umem ne ⟨rfl, rfl⟩ fun x hx => by
    rcases (umem x).mp hx with h | rfl | rfl
    · have := T.1 _ (List.mem_map_of_mem h); show x.num ≤ t + 4 + v; omega
    · have := f.le; show x.num ≤ t + 4 + v; omega
    · exact Int.le_refl _
  obtain ⟨l1, l2⟩ := life_same (s := w.2.2.2.1) (r := w.2.2.2.2) fun ff d hf => told_same hf ⟨ea, eo⟩ ⟨ua, U.1⟩ fun x hx _ => back x (by rw [hx]; exact hf)
  refine wp_both ⟨oks U.1, oks eo, fun z => ?_, fun _ => trivial⟩
  rw [← l1, ← l2, decide_eq_true rfl] at z; exact absurd z (by decide)
theorem law_math : W_law (fun r => r = true) := by
  unfold W_law
  refine wp_world fun w W => pick (by decide) (by decide) fun m m0 m1 => wp_numbers m0 (by omega) fun ns hl asc hn => wp_rows W asc hn (by omega) fun es he eo => ?_
  have le : es.length ≤ 8 := by have := congrArg List.length he; rw [List.length_map] at this; omega
  have E := ShPre.of_asc he asc eo (by omega)
  have ea : Asc (es.map En.num) := by rw [he]; exact asc
  have hn : ∀ n ∈ es.map En.num, 1 ≤ n ∧ n ≤ 640 := by rw [he]; exact hn
  refine wp_mingled (by omega) fun mg pm => ⟨E.perm pm, fun s ps sa => ?_⟩
  obtain rfl : s = es := asc_eq sa ea (ps.trans pm)
  have oks : ∀ {g : List En}, (∀ e ∈ g, e.Ok) → (∀ z ∈ lifeN g w.2.2.2.1 60, PyData.strOk z = true) ∧ ∀ z ∈ codeN g w.2.2.2.2 60, PyData.strOk z = true := fun O => ⟨life_ok O W.gn, codeN_ok O W.nn⟩
  refine wp_both (wp_due (List.Perm.refl _) ea eo (by omega) ⟨oks eo, oks eo, fun z => by rw [decide_eq_true rfl] at z; exact absurd z (by decide), fun _ => ⟨fun c => ?_, fun c => ?_⟩⟩)
  · have ne : s ≠ [] := fun z => by rw [z] at c; exact absurd c (by decide)
    obtain ⟨t, h1, h2⟩ := last_top ea hn fun z => ne (List.map_eq_nil_iff.mp z)
    rw [List.length_map, List.getElem?_map] at h1
    obtain ⟨e, h3, h4⟩ := Option.map_eq_some_iff.mp h1
    subst h4
    exact ⟨e, at_last h3, law_rest W le E ea eo hn h2⟩
  · have e : s = [] := by
      cases s with
      | nil => rfl
      | cons _ _ => exact absurd c (by simp)
    exact law_rest W le E ea eo hn ⟨fun n h => (by rw [e] at h; nomatch h), by decide, by decide, fun _ => rfl, fun z => absurd (by rw [e]; rfl) z⟩
end Mi
/-! K08Q -/
set_option Elab.async false
set_option linter.all false
set_option maxRecDepth 100000
set_option maxHeartbeats 4000000
namespace Dh
open PySem PySem.Spec L2
open _root_.Evl (Ex)
theorem all_mk {P : Program} {w : World} {K : PySem.W.Frag} {h : Heap} {mg : Str → Option Value} {fa : Addr} (X : K.In h) (G : h.Ns mainGlobals mg) (hfa : mg "law" = some (.ref fa))
  {f_BadNumber_XinitX f_is_number f_is_name f_check_number f_is_entry f_joined f_standing f_told_names f_Sheet_XinitX f_Sheet_XiterX f_Sheet_XlenX f_Sheet_XorX f_Sheet_sign_of f_Sheet_rule_of f_Sheet_life_of f_Sheet_code_of f_l_mixed f_l_bag f_l_pick f_l_choice f_l_mingled f_l_new_name f_l_standing f_l_tracks f_l_numbers f_l_world f_l_rows f_l_further f_l_both f_l_one_change f_l_days_tell f_l_due f_law C_BadNumber C_Sheet a_dfl : Addr}
  {od_BadNumber_XinitX an_BadNumber_XinitX : Option Addr} {sl_BadNumber_XinitX : Array (Option Value)} {oc_BadNumber_XinitX kV_BadNumber_XinitX dc_BadNumber_XinitX pm_BadNumber_XinitX cd_BadNumber_XinitX ct_BadNumber_XinitX : Value}
  {od_is_number an_is_number : Option Addr} {sl_is_number : Array (Option Value)} {oc_is_number kV_is_number dc_is_number pm_is_number cd_is_number ct_is_number : Value}
  {od_is_name an_is_name : Option Addr} {sl_is_name : Array (Option Value)} {oc_is_name kV_is_name dc_is_name pm_is_name cd_is_name ct_is_name : Value}
  {od_check_number an_check_number : Option Addr} {sl_check_number : Array (Option Value)} {oc_check_number kV_check_number dc_check_number pm_check_number cd_check_number ct_check_number : Value}
  {od_is_entry an_is_entry : Option Addr} {sl_is_entry : Array (Option Value)} {oc_is_entry kV_is_entry dc_is_entry pm_is_entry cd_is_entry ct_is_entry : Value}
  {od_joined an_joined : Option Addr} {sl_joined : Array (Option Value)} {oc_joined kV_joined dc_joined pm_joined cd_joined ct_joined : Value}
  {od_standing an_standing : Option Addr} {sl_standing : Array (Option Value)} {oc_standing kV_standing dc_standing pm_standing cd_standing ct_standing : Value}
  {od_told_names an_told_names : Option Addr} {sl_told_names : Array (Option Value)} {oc_told_names kV_told_names dc_told_names pm_told_names cd_told_names ct_told_names : Value}
  {od_Sheet_XinitX an_Sheet_XinitX : Option Addr} {sl_Sheet_XinitX : Array (Option Value)} {oc_Sheet_XinitX kV_Sheet_XinitX dc_Sheet_XinitX pm_Sheet_XinitX cd_Sheet_XinitX ct_Sheet_XinitX : Value}
  {T_Sheet_XinitX : Addr} {tc_Sheet_XinitX : Value} {td_Sheet_XinitX : Option Addr} {tn_Sheet_XinitX : Nat} {ts_Sheet_XinitX : Array (Option Value)}
  {od_Sheet_XiterX an_Sheet_XiterX : Option Addr} {sl_Sheet_XiterX : Array (Option Value)} {oc_Sheet_XiterX kV_Sheet_XiterX dc_Sheet_XiterX pm_Sheet_XiterX cd_Sheet_XiterX ct_Sheet_XiterX : Value}
  {od_Sheet_XlenX an_Sheet_XlenX : Option Addr} {sl_Sheet_XlenX : Array (Option Value)} {oc_Sheet_XlenX kV_Sheet_XlenX dc_Sheet_XlenX pm_Sheet_XlenX cd_Sheet_XlenX ct_Sheet_XlenX : Value}
  {od_Sheet_XorX an_Sheet_XorX : Option Addr} {sl_Sheet_XorX : Array (Option Value)} {oc_Sheet_XorX kV_Sheet_XorX dc_Sheet_XorX pm_Sheet_XorX cd_Sheet_XorX ct_Sheet_XorX : Value}
  {od_Sheet_sign_of an_Sheet_sign_of : Option Addr} {sl_Sheet_sign_of : Array (Option Value)} {oc_Sheet_sign_of kV_Sheet_sign_of dc_Sheet_sign_of pm_Sheet_sign_of cd_Sheet_sign_of ct_Sheet_sign_of : Value}
  {od_Sheet_rule_of an_Sheet_rule_of : Option Addr} {sl_Sheet_rule_of : Array (Option Value)} {oc_Sheet_rule_of kV_Sheet_rule_of dc_Sheet_rule_of pm_Sheet_rule_of cd_Sheet_rule_of ct_Sheet_rule_of : Value}
  {od_Sheet_life_of an_Sheet_life_of : Option Addr} {sl_Sheet_life_of : Array (Option Value)} {oc_Sheet_life_of kV_Sheet_life_of dc_Sheet_life_of pm_Sheet_life_of cd_Sheet_life_of ct_Sheet_life_of : Value}
  {od_Sheet_code_of an_Sheet_code_of : Option Addr} {sl_Sheet_code_of : Array (Option Value)} {oc_Sheet_code_of kV_Sheet_code_of dc_Sheet_code_of pm_Sheet_code_of cd_Sheet_code_of ct_Sheet_code_of : Value}
  {od_l_mixed an_l_mixed : Option Addr} {sl_l_mixed : Array (Option Value)} {oc_l_mixed kV_l_mixed dc_l_mixed pm_l_mixed cd_l_mixed ct_l_mixed : Value}
  {od_l_bag an_l_bag : Option Addr} {sl_l_bag : Array (Option Value)} {oc_l_bag kV_l_bag dc_l_bag pm_l_bag cd_l_bag ct_l_bag : Value}
  {od_l_pick an_l_pick : Option Addr} {sl_l_pick : Array (Option Value)} {oc_l_pick kV_l_pick dc_l_pick pm_l_pick cd_l_pick ct_l_pick : Value}
  {od_l_choice an_l_choice : Option Addr} {sl_l_choice : Array (Option Value)} {oc_l_choice kV_l_choice dc_l_choice pm_l_choice cd_l_choice ct_l_choice : Value}
  {od_l_mingled an_l_mingled : Option Addr} {sl_l_mingled : Array (Option Value)} {oc_l_mingled kV_l_mingled dc_l_mingled pm_l_mingled cd_l_mingled ct_l_mingled : Value}
  {od_l_new_name an_l_new_name : Option Addr} {sl_l_new_name : Array (Option Value)} {oc_l_new_name kV_l_new_name dc_l_new_name pm_l_new_name cd_l_new_name ct_l_new_name : Value}
  {od_l_standing an_l_standing : Option Addr} {sl_l_standing : Array (Option Value)} {oc_l_standing kV_l_standing dc_l_standing pm_l_standing cd_l_standing ct_l_standing : Value}
  {od_l_tracks an_l_tracks : Option Addr} {sl_l_tracks : Array (Option Value)} {oc_l_tracks kV_l_tracks dc_l_tracks pm_l_tracks cd_l_tracks ct_l_tracks : Value}
  {od_l_numbers an_l_numbers : Option Addr} {sl_l_numbers : Array (Option Value)} {oc_l_numbers kV_l_numbers dc_l_numbers pm_l_numbers cd_l_numbers ct_l_numbers : Value}
  {od_l_world an_l_world : Option Addr} {sl_l_world : Array (Option Value)} {oc_l_world kV_l_world dc_l_world pm_l_world cd_l_world ct_l_world : Value}
  {od_l_rows an_l_rows : Option Addr} {sl_l_rows : Array (Option Value)} {oc_l_rows kV_l_rows dc_l_rows pm_l_rows cd_l_rows ct_l_rows : Value}
  {od_l_further an_l_further : Option Addr} {sl_l_further : Array (Option Value)} {oc_l_further kV_l_further dc_l_further pm_l_further cd_l_further ct_l_further : Value}
  {od_l_both an_l_both : Option Addr} {sl_l_both : Array (Option Value)} {oc_l_both kV_l_both dc_l_both pm_l_both cd_l_both ct_l_both : Value}
  {od_l_one_change an_l_one_change : Option Addr} {sl_l_one_change : Array (Option Value)} {oc_l_one_change kV_l_one_change dc_l_one_change pm_l_one_change cd_l_one_change ct_l_one_change : Value}
  {od_l_days_tell an_l_days_tell : Option Addr} {sl_l_days_tell : Array (Option Value)} {oc_l_days_tell kV_l_days_tell dc_l_days_tell pm_l_days_tell cd_l_days_tell ct_l_days_tell : Value}
  {od_l_due an_l_due : Option Addr} {sl_l_due : Array (Option Value)} {oc_l_due kV_l_due dc_l_due pm_l_due cd_l_due ct_l_due : Value}
  {od_law an_law : Option Addr} {sl_law : Array (Option Value)} {oc_law kV_law dc_law pm_law cd_law ct_law : Value}
  {t_LAST_DAY : Tok}
  {t_LETTERS : Tok}
  {t_MOST_DAYS : Tok}
  {t_MOST_NUMBER : Tok}
  {t_NAME_LETTERS : Tok}
  {nm_BadNumber q_BadNumber : Str} {N_BadNumber : Addr} {bs_BadNumber bm_BadNumber : List Value} {sn_BadNumber : List Str} {sub_BadNumber : List Value} {ab_BadNumber : Bool} {col_BadNumber : Option Bool} {dd_BadNumber : Option Addr} {m0_BadNumber m1_BadNumber m2_BadNumber m3_BadNumber m5_BadNumber : Option Value}
  (a_BadNumber : PySem.W.nsIn K mainGlobals "BadNumber" = some (some (.ref C_BadNumber)))
  (a_Sheet : PySem.W.nsIn K mainGlobals "Sheet" = some (some (.ref C_Sheet)))
  (ix_BadNumber : PySem.W.findIn K (.ref C_BadNumber) "__init__" = some (some (.ref f_BadNumber_XinitX)))
  (fi_Sheet_sign_of : PySem.W.findIn K (.ref C_Sheet) "sign_of" = some (some (.ref f_Sheet_sign_of)))
  (fi_Sheet_rule_of : PySem.W.findIn K (.ref C_Sheet) "rule_of" = some (some (.ref f_Sheet_rule_of)))
  (fi_Sheet_life_of : PySem.W.findIn K (.ref C_Sheet) "life_of" = some (some (.ref f_Sheet_life_of)))
  (fi_Sheet_code_of : PySem.W.findIn K (.ref C_Sheet) "code_of" = some (some (.ref f_Sheet_code_of)))
  (fi_Sheet_XinitX : PySem.W.findIn K (.ref C_Sheet) "__init__" = some (some (.ref f_Sheet_XinitX)))
  (fi_Sheet_XiterX : PySem.W.findIn K (.ref C_Sheet) "__iter__" = some (some (.ref f_Sheet_XiterX)))
  (fi_Sheet_XlenX : PySem.W.findIn K (.ref C_Sheet) "__len__" = some (some (.ref f_Sheet_XlenX)))
  (io_or_Sheet : PySem.W.findIn K (.ref C_Sheet) "__or__" = some (some (.ref f_Sheet_XorX)))
  (a_is_number : PySem.W.nsIn K mainGlobals "is_number" = some (some (.ref f_is_number)))
  (a_is_name : PySem.W.nsIn K mainGlobals "is_name" = some (some (.ref f_is_name)))
  (a_check_number : PySem.W.nsIn K mainGlobals "check_number" = some (some (.ref f_check_number)))
  (a_is_entry : PySem.W.nsIn K mainGlobals "is_entry" = some (some (.ref f_is_entry)))
  (a_joined : PySem.W.nsIn K mainGlobals "joined" = some (some (.ref f_joined)))
  (a_standing : PySem.W.nsIn K mainGlobals "standing" = some (some (.ref f_standing)))
  (a_told_names : PySem.W.nsIn K mainGlobals "told_names" = some (some (.ref f_told_names)))
  (a_l_mixed : PySem.W.nsIn K mainGlobals "_law_mixed" = some (some (.ref f_l_mixed)))
  (a_l_bag : PySem.W.nsIn K mainGlobals "_law_bag" = some (some (.ref f_l_bag)))
  (a_l_pick : PySem.W.nsIn K mainGlobals "_law_pick" = some (some (.ref f_l_pick)))
  (a_l_choice : PySem.W.nsIn K mainGlobals "_law_choice" = some (some (.ref f_l_choice)))
  (a_l_mingled : PySem.W.nsIn K mainGlobals "_law_mingled" = some (some (.ref f_l_mingled)))
  (a_l_new_name : PySem.W.nsIn K mainGlobals "_law_new_name" = some (some (.ref f_l_new_name)))
  (a_l_standing : PySem.W.nsIn K mainGlobals "_law_standing" = some (some (.ref f_l_standing)))
  (a_l_tracks : PySem.W.nsIn K mainGlobals "_law_tracks" = some (some (.ref f_l_tracks)))
  (a_l_numbers : PySem.W.nsIn K mainGlobals "_law_numbers" = some (some (.ref f_l_numbers)))
  (a_l_world : PySem.W.nsIn K mainGlobals "_law_world" = some (some (.ref f_l_world)))
  (a_l_rows : PySem.W.nsIn K mainGlobals "_law_rows" = some (some (.ref f_l_rows)))
  (a_l_further : PySem.W.nsIn K mainGlobals "_law_further" = some (some (.ref f_l_further)))
  (a_l_both : PySem.W.nsIn K mainGlobals "_law_both" = some (some (.ref f_l_both)))
  (a_l_one_change : PySem.W.nsIn K mainGlobals "_law_one_change" = some (some (.ref f_l_one_change)))
  (a_l_days_tell : PySem.W.nsIn K mainGlobals "_law_days_tell" = some (some (.ref f_l_days_tell)))
  (a_l_due : PySem.W.nsIn K mainGlobals "_law_due" = some (some (.ref f_l_due)))
  (a_law : PySem.W.nsIn K mainGlobals "law" = some (some (.ref f_law)))
  (l_BadNumber_XinitX : K.lookup f_BadNumber_XinitX = some ⟨oc_BadNumber_XinitX, od_BadNumber_XinitX, .func (PySem.W.fnOf "__init__" "BadNumber.__init__" (defArgs s_BadNumber_XinitX) (defBody s_BadNumber_XinitX) (defScope s_BadNumber_XinitX) .none kV_BadNumber_XinitX dc_BadNumber_XinitX pm_BadNumber_XinitX an_BadNumber_XinitX cd_BadNumber_XinitX ct_BadNumber_XinitX), sl_BadNumber_XinitX⟩)
  (cI_BadNumber_XinitX : PySem.W.codeIn K cd_BadNumber_XinitX "BadNumber.__init__" = true)
  (k_BadNumber_XinitX : PySem.W.keepIn K (.ref f_BadNumber_XinitX) = true)
  (l_is_number : K.lookup f_is_number = some ⟨oc_is_number, od_is_number, .func (PySem.W.fnOf "is_number" "is_number" (defArgs s_is_number) (defBody s_is_number) (defScope s_is_number) .none kV_is_number dc_is_number pm_is_number an_is_number cd_is_number ct_is_number), sl_is_number⟩)
  (cI_is_number : PySem.W.codeIn K cd_is_number "is_number" = true)
  (k_is_number : PySem.W.keepIn K (.ref f_is_number) = true)
  (l_is_name : K.lookup f_is_name = some ⟨oc_is_name, od_is_name, .func (PySem.W.fnOf "is_name" "is_name" (defArgs s_is_name) (defBody s_is_name) (defScope s_is_name) .none kV_is_name dc_is_name pm_is_name an_is_name cd_is_name ct_is_name), sl_is_name⟩)
  (cI_is_name : PySem.W.codeIn K cd_is_name "is_name" = true)
  (k_is_name : PySem.W.keepIn K (.ref f_is_name) = true)
  (l_check_number : K.lookup f_check_number = some ⟨oc_check_number, od_check_number, .func (PySem.W.fnOf "check_number" "check_number" (defArgs s_check_number) (defBody s_check_number) (defScope s_check_number) .none kV_check_number dc_check_number pm_check_number an_check_number cd_check_number ct_check_number), sl_check_number⟩)
  (cI_check_number : PySem.W.codeIn K cd_check_number "check_number" = true)
  (k_check_number : PySem.W.keepIn K (.ref f_check_number) = true)
  (l_is_entry : K.lookup f_is_entry = some ⟨oc_is_entry, od_is_entry, .func (PySem.W.fnOf "is_entry" "is_entry" (defArgs s_is_entry) (defBody s_is_entry) (defScope s_is_entry) .none kV_is_entry dc_is_entry pm_is_entry an_is_entry cd_is_entry ct_is_entry), sl_is_entry⟩)
  (cI_is_entry : PySem.W.codeIn K cd_is_entry "is_entry" = true)
  (k_is_entry : PySem.W.keepIn K (.ref f_is_entry) = true)
  (l_joined : K.lookup f_joined = some ⟨oc_joined, od_joined, .func (PySem.W.fnOf "joined" "joined" (defArgs s_joined) (defBody s_joined) (defScope s_joined) .none kV_joined dc_joined pm_joined an_joined cd_joined ct_joined), sl_joined⟩)
  (cI_joined : PySem.W.codeIn K cd_joined "joined" = true)
  (k_joined : PySem.W.keepIn K (.ref f_joined) = true)
  (l_standing : K.lookup f_standing = some ⟨oc_standing, od_standing, .func (PySem.W.fnOf "standing" "standing" (defArgs s_standing) (defBody s_standing) (defScope s_standing) .none kV_standing dc_standing pm_standing an_standing cd_standing ct_standing), sl_standing⟩)
  (cI_standing : PySem.W.codeIn K cd_standing "standing" = true)
  (k_standing : PySem.W.keepIn K (.ref f_standing) = true)
  (l_told_names : K.lookup f_told_names = some ⟨oc_told_names, od_told_names, .func (PySem.W.fnOf "told_names" "told_names" (defArgs s_told_names) (defBody s_told_names) (defScope s_told_names) .none kV_told_names dc_told_names pm_told_names an_told_names cd_told_names ct_told_names), sl_told_names⟩)
  (cI_told_names : PySem.W.codeIn K cd_told_names "told_names" = true)
  (k_told_names : PySem.W.keepIn K (.ref f_told_names) = true)
  (l_Sheet_XinitX : K.lookup f_Sheet_XinitX = some ⟨oc_Sheet_XinitX, od_Sheet_XinitX, .func (PySem.W.fnOf "__init__" "Sheet.__init__" (defArgs s_Sheet_XinitX) (defBody s_Sheet_XinitX) (defScope s_Sheet_XinitX) (.ref T_Sheet_XinitX) kV_Sheet_XinitX dc_Sheet_XinitX pm_Sheet_XinitX an_Sheet_XinitX cd_Sheet_XinitX ct_Sheet_XinitX), sl_Sheet_XinitX⟩)
  (cI_Sheet_XinitX : PySem.W.codeIn K cd_Sheet_XinitX "Sheet.__init__" = true)
  (k_Sheet_XinitX : PySem.W.keepIn K (.ref f_Sheet_XinitX) = true)
  (lT_Sheet_XinitX : K.lookup T_Sheet_XinitX = some ⟨tc_Sheet_XinitX, td_Sheet_XinitX, .seq [Value.ref a_dfl].toArray tn_Sheet_XinitX, ts_Sheet_XinitX⟩)
  (l_Sheet_XiterX : K.lookup f_Sheet_XiterX = some ⟨oc_Sheet_XiterX, od_Sheet_XiterX, .func (PySem.W.fnOf "__iter__" "Sheet.__iter__" (defArgs s_Sheet_XiterX) (defBody s_Sheet_XiterX) (defScope s_Sheet_XiterX) .none kV_Sheet_XiterX dc_Sheet_XiterX pm_Sheet_XiterX an_Sheet_XiterX cd_Sheet_XiterX ct_Sheet_XiterX), sl_Sheet_XiterX⟩)
  (cI_Sheet_XiterX : PySem.W.codeIn K cd_Sheet_XiterX "Sheet.__iter__" = true)
  (k_Sheet_XiterX : PySem.W.keepIn K (.ref f_Sheet_XiterX) = true)
  (l_Sheet_XlenX : K.lookup f_Sheet_XlenX = some ⟨oc_Sheet_XlenX, od_Sheet_XlenX, .func (PySem.W.fnOf "__len__" "Sheet.__len__" (defArgs s_Sheet_XlenX) (defBody s_Sheet_XlenX) (defScope s_Sheet_XlenX) .none kV_Sheet_XlenX dc_Sheet_XlenX pm_Sheet_XlenX an_Sheet_XlenX cd_Sheet_XlenX ct_Sheet_XlenX), sl_Sheet_XlenX⟩)
  (cI_Sheet_XlenX : PySem.W.codeIn K cd_Sheet_XlenX "Sheet.__len__" = true)
  (k_Sheet_XlenX : PySem.W.keepIn K (.ref f_Sheet_XlenX) = true)
  (l_Sheet_XorX : K.lookup f_Sheet_XorX = some ⟨oc_Sheet_XorX, od_Sheet_XorX, .func (PySem.W.fnOf "__or__" "Sheet.__or__" (defArgs s_Sheet_XorX) (defBody s_Sheet_XorX) (defScope s_Sheet_XorX) .none kV_Sheet_XorX dc_Sheet_XorX pm_Sheet_XorX an_Sheet_XorX cd_Sheet_XorX ct_Sheet_XorX), sl_Sheet_XorX⟩)
  (cI_Sheet_XorX : PySem.W.codeIn K cd_Sheet_XorX "Sheet.__or__" = true)
  (k_Sheet_XorX : PySem.W.keepIn K (.ref f_Sheet_XorX) = true)
  (l_Sheet_sign_of : K.lookup f_Sheet_sign_of = some ⟨oc_Sheet_sign_of, od_Sheet_sign_of, .func (PySem.W.fnOf "sign_of" "Sheet.sign_of" (defArgs s_Sheet_sign_of) (defBody s_Sheet_sign_of) (defScope s_Sheet_sign_of) .none kV_Sheet_sign_of dc_Sheet_sign_of pm_Sheet_sign_of an_Sheet_sign_of cd_Sheet_sign_of ct_Sheet_sign_of), sl_Sheet_sign_of⟩)
  (cI_Sheet_sign_of : PySem.W.codeIn K cd_Sheet_sign_of "Sheet.sign_of" = true)
  (k_Sheet_sign_of : PySem.W.keepIn K (.ref f_Sheet_sign_of) = true)
  (l_Sheet_rule_of : K.lookup f_Sheet_rule_of = some ⟨oc_Sheet_rule_of, od_Sheet_rule_of, .func (PySem.W.fnOf "rule_of" "Sheet.rule_of" (defArgs s_Sheet_rule_of) (defBody s_Sheet_rule_of) (defScope s_Sheet_rule_of) .none kV_Sheet_rule_of dc_Sheet_rule_of pm_Sheet_rule_of an_Sheet_rule_of cd_Sheet_rule_of ct_Sheet_rule_of), sl_Sheet_rule_of⟩)
  (cI_Sheet_rule_of : PySem.W.codeIn K cd_Sheet_rule_of "Sheet.rule_of" = true)
  (k_Sheet_rule_of : PySem.W.keepIn K (.ref f_Sheet_rule_of) = true)
  (l_Sheet_life_of : K.lookup f_Sheet_life_of = some ⟨oc_Sheet_life_of, od_Sheet_life_of, .func (PySem.W.fnOf "life_of" "Sheet.life_of" (defArgs s_Sheet_life_of) (defBody s_Sheet_life_of) (defScope s_Sheet_life_of) .none kV_Sheet_life_of dc_Sheet_life_of pm_Sheet_life_of an_Sheet_life_of cd_Sheet_life_of ct_Sheet_life_of), sl_Sheet_life_of⟩)
  (cI_Sheet_life_of : PySem.W.codeIn K cd_Sheet_life_of "Sheet.life_of" = true)
  (k_Sheet_life_of : PySem.W.keepIn K (.ref f_Sheet_life_of) = true)
  (l_Sheet_code_of : K.lookup f_Sheet_code_of = some ⟨oc_Sheet_code_of, od_Sheet_code_of, .func (PySem.W.fnOf "code_of" "Sheet.code_of" (defArgs s_Sheet_code_of) (defBody s_Sheet_code_of) (defScope s_Sheet_code_of) .none kV_Sheet_code_of dc_Sheet_code_of pm_Sheet_code_of an_Sheet_code_of cd_Sheet_code_of ct_Sheet_code_of), sl_Sheet_code_of⟩)
  (cI_Sheet_code_of : PySem.W.codeIn K cd_Sheet_code_of "Sheet.code_of" = true)
  (k_Sheet_code_of : PySem.W.keepIn K (.ref f_Sheet_code_of) = true)
  (l_l_mixed : K.lookup f_l_mixed = some ⟨oc_l_mixed, od_l_mixed, .func (PySem.W.fnOf "_law_mixed" "_law_mixed" (defArgs s_l_mixed) (defBody s_l_mixed) (defScope s_l_mixed) .none kV_l_mixed dc_l_mixed pm_l_mixed an_l_mixed cd_l_mixed ct_l_mixed), sl_l_mixed⟩)
  (cI_l_mixed : PySem.W.codeIn K cd_l_mixed "_law_mixed" = true)
  (k_l_mixed : PySem.W.keepIn K (.ref f_l_mixed) = true)
  (l_l_bag : K.lookup f_l_bag = some ⟨oc_l_bag, od_l_bag, .func (PySem.W.fnOf "_law_bag" "_law_bag" (defArgs s_l_bag) (defBody s_l_bag) (defScope s_l_bag) .none kV_l_bag dc_l_bag pm_l_bag an_l_bag cd_l_bag ct_l_bag), sl_l_bag⟩)
  (cI_l_bag : PySem.W.codeIn K cd_l_bag "_law_bag" = true)
  (k_l_bag : PySem.W.keepIn K (.ref f_l_bag) = true)
  (l_l_pick : K.lookup f_l_pick = some ⟨oc_l_pick, od_l_pick, .func (PySem.W.fnOf "_law_pick" "_law_pick" (defArgs s_l_pick) (defBody s_l_pick) (defScope s_l_pick) .none kV_l_pick dc_l_pick pm_l_pick an_l_pick cd_l_pick ct_l_pick), sl_l_pick⟩)
  (cI_l_pick : PySem.W.codeIn K cd_l_pick "_law_pick" = true)
  (k_l_pick : PySem.W.keepIn K (.ref f_l_pick) = true)
  (l_l_choice : K.lookup f_l_choice = some ⟨oc_l_choice, od_l_choice, .func (PySem.W.fnOf "_law_choice" "_law_choice" (defArgs s_l_choice) (defBody s_l_choice) (defScope s_l_choice) .none kV_l_choice dc_l_choice pm_l_choice an_l_choice cd_l_choice ct_l_choice), sl_l_choice⟩)
  (cI_l_choice : PySem.W.codeIn K cd_l_choice "_law_choice" = true)
  (k_l_choice : PySem.W.keepIn K (.ref f_l_choice) = true)
  (l_l_mingled : K.lookup f_l_mingled = some ⟨oc_l_mingled, od_l_mingled, .func (PySem.W.fnOf "_law_mingled" "_law_mingled" (defArgs s_l_mingled) (defBody s_l_mingled) (defScope s_l_mingled) .none kV_l_mingled dc_l_mingled pm_l_mingled an_l_mingled cd_l_mingled ct_l_mingled), sl_l_mingled⟩)
  (cI_l_mingled : PySem.W.codeIn K cd_l_mingled "_law_mingled" = true)
  (k_l_mingled : PySem.W.keepIn K (.ref f_l_mingled) = true)
  (l_l_new_name : K.lookup f_l_new_name = some ⟨oc_l_new_name, od_l_new_name, .func (PySem.W.fnOf "_law_new_name" "_law_new_name" (defArgs s_l_new_name) (defBody s_l_new_name) (defScope s_l_new_name) .none kV_l_new_name dc_l_new_name pm_l_new_name an_l_new_name cd_l_new_name ct_l_new_name), sl_l_new_name⟩)
  (cI_l_new_name : PySem.W.codeIn K cd_l_new_name "_law_new_name" = true)
  (k_l_new_name : PySem.W.keepIn K (.ref f_l_new_name) = true)
  (l_l_standing : K.lookup f_l_standing = some ⟨oc_l_standing, od_l_standing, .func (PySem.W.fnOf "_law_standing" "_law_standing" (defArgs s_l_standing) (defBody s_l_standing) (defScope s_l_standing) .none kV_l_standing dc_l_standing pm_l_standing an_l_standing cd_l_standing ct_l_standing), sl_l_standing⟩)
  (cI_l_standing : PySem.W.codeIn K cd_l_standing "_law_standing" = true)
  (k_l_standing : PySem.W.keepIn K (.ref f_l_standing) = true)
  (l_l_tracks : K.lookup f_l_tracks = some ⟨oc_l_tracks, od_l_tracks, .func (PySem.W.fnOf "_law_tracks" "_law_tracks" (defArgs s_l_tracks) (defBody s_l_tracks) (defScope s_l_tracks) .none kV_l_tracks dc_l_tracks pm_l_tracks an_l_tracks cd_l_tracks ct_l_tracks), sl_l_tracks⟩)
  (cI_l_tracks : PySem.W.codeIn K cd_l_tracks "_law_tracks" = true)
  (k_l_tracks : PySem.W.keepIn K (.ref f_l_tracks) = true)
  (l_l_numbers : K.lookup f_l_numbers = some ⟨oc_l_numbers, od_l_numbers, .func (PySem.W.fnOf "_law_numbers" "_law_numbers" (defArgs s_l_numbers) (defBody s_l_numbers) (defScope s_l_numbers) .none kV_l_numbers dc_l_numbers pm_l_numbers an_l_numbers cd_l_numbers ct_l_numbers), sl_l_numbers⟩)
  (cI_l_numbers : PySem.W.codeIn K cd_l_numbers "_law_numbers" = true)
  (k_l_numbers : PySem.W.keepIn K (.ref f_l_numbers) = true)
  (l_l_world : K.lookup f_l_world = some ⟨oc_l_world, od_l_world, .func (PySem.W.fnOf "_law_world" "_law_world" (defArgs s_l_world) (defBody s_l_world) (defScope s_l_world) .none kV_l_world dc_l_world pm_l_world an_l_world cd_l_world ct_l_world), sl_l_world⟩)
  (cI_l_world : PySem.W.codeIn K cd_l_world "_law_world" = true)
  (k_l_world : PySem.W.keepIn K (.ref f_l_world) = true)
  (l_l_rows : K.lookup f_l_rows = some ⟨oc_l_rows, od_l_rows, .func (PySem.W.fnOf "_law_rows" "_law_rows" (defArgs s_l_rows) (defBody s_l_rows) (defScope s_l_rows) .none kV_l_rows dc_l_rows pm_l_rows an_l_rows cd_l_rows ct_l_rows), sl_l_rows⟩)
  (cI_l_rows : PySem.W.codeIn K cd_l_rows "_law_rows" = true)
  (k_l_rows : PySem.W.keepIn K (.ref f_l_rows) = true)
  (l_l_further : K.lookup f_l_further = some ⟨oc_l_further, od_l_further, .func (PySem.W.fnOf "_law_further" "_law_further" (defArgs s_l_further) (defBody s_l_further) (defScope s_l_further) .none kV_l_further dc_l_further pm_l_further an_l_further cd_l_further ct_l_further), sl_l_further⟩)
  (cI_l_further : PySem.W.codeIn K cd_l_further "_law_further" = true)
  (k_l_further : PySem.W.keepIn K (.ref f_l_further) = true)
  (l_l_both : K.lookup f_l_both = some ⟨oc_l_both, od_l_both, .func (PySem.W.fnOf "_law_both" "_law_both" (defArgs s_l_both) (defBody s_l_both) (defScope s_l_both) .none kV_l_both dc_l_both pm_l_both an_l_both cd_l_both ct_l_both), sl_l_both⟩)
  (cI_l_both : PySem.W.codeIn K cd_l_both "_law_both" = true)
  (k_l_both : PySem.W.keepIn K (.ref f_l_both) = true)
  (l_l_one_change : K.lookup f_l_one_change = some ⟨oc_l_one_change, od_l_one_change, .func (PySem.W.fnOf "_law_one_change" "_law_one_change" (defArgs s_l_one_change) (defBody s_l_one_change) (defScope s_l_one_change) .none kV_l_one_change dc_l_one_change pm_l_one_change an_l_one_change cd_l_one_change ct_l_one_change), sl_l_one_change⟩)
  (cI_l_one_change : PySem.W.codeIn K cd_l_one_change "_law_one_change" = true)
  (k_l_one_change : PySem.W.keepIn K (.ref f_l_one_change) = true)
  (l_l_days_tell : K.lookup f_l_days_tell = some ⟨oc_l_days_tell, od_l_days_tell, .func (PySem.W.fnOf "_law_days_tell" "_law_days_tell" (defArgs s_l_days_tell) (defBody s_l_days_tell) (defScope s_l_days_tell) .none kV_l_days_tell dc_l_days_tell pm_l_days_tell an_l_days_tell cd_l_days_tell ct_l_days_tell), sl_l_days_tell⟩)
  (cI_l_days_tell : PySem.W.codeIn K cd_l_days_tell "_law_days_tell" = true)
  (k_l_days_tell : PySem.W.keepIn K (.ref f_l_days_tell) = true)
  (l_l_due : K.lookup f_l_due = some ⟨oc_l_due, od_l_due, .func (PySem.W.fnOf "_law_due" "_law_due" (defArgs s_l_due) (defBody s_l_due) (defScope s_l_due) .none kV_l_due dc_l_due pm_l_due an_l_due cd_l_due ct_l_due), sl_l_due⟩)
  (cI_l_due : PySem.W.codeIn K cd_l_due "_law_due" = true)
  (k_l_due : PySem.W.keepIn K (.ref f_l_due) = true)
  (l_law : K.lookup f_law = some ⟨oc_law, od_law, .func (PySem.W.fnOf "law" "law" (defArgs s_law) (defBody s_law) (defScope s_law) .none kV_law dc_law pm_law an_law cd_law ct_law), sl_law⟩)
  (cI_law : PySem.W.codeIn K cd_law "law" = true)
  (k_law : PySem.W.keepIn K (.ref f_law) = true)
  (xL_BadNumber : K.lookup C_BadNumber = some (excClassObj nm_BadNumber q_BadNumber C_BadNumber N_BadNumber bs_BadNumber bm_BadNumber true sn_BadNumber sub_BadNumber ab_BadNumber col_BadNumber dd_BadNumber m0_BadNumber m1_BadNumber m2_BadNumber m3_BadNumber m5_BadNumber "ValueError.__new__"))
  (rx_BadNumber : PySem.HandSPX.refsVE bm_BadNumber = true)
  (sx_BadNumber : PySem.W.findIn K (.ref C_BadNumber) "__setattr__" = some (some (.builtin "object.__setattr__")))
  (eC_BadNumber : PySem.W.subIn K (.ref C_BadNumber) (.type "BaseException") = some true)
  (tC_BadNumber : PySem.W.typeIn K (.ref C_BadNumber) = some (.type "type"))
  (kE_BadNumber : PySem.W.keepIn K (.ref C_BadNumber) = true)
  (nx_BadNumber : PySem.W.findIn K (.ref C_BadNumber) "name" = some none)
  (tx_BadNumber : PySem.W.typeIn K (.ref f_BadNumber_XinitX) = some (.type "function"))
  (pg_Sheet : PySem.W.plainGet K C_Sheet Str.empty = true)
  (hd_Sheet : PySem.W.hasDictIn K C_Sheet = true)
  (po_Sheet : PySem.W.plainOver K C_Sheet = true)
  (sa_Sheet : PySem.W.findIn K (.ref C_Sheet) "__setattr__" = some (some (.builtin "object.__setattr__")))
  (na_Sheet__rows : PySem.W.findIn K (.ref C_Sheet) "_rows" = some none)
  (na_Sheet__standing : PySem.W.findIn K (.ref C_Sheet) "_standing" = some none)
  (na_Sheet__signs : PySem.W.findIn K (.ref C_Sheet) "_signs" = some none)
  (na_Sheet__rules : PySem.W.findIn K (.ref C_Sheet) "_rules" = some none)
  (i_Sheet_sign_of : PySem.W.isFn K (.ref f_Sheet_sign_of) = true)
  (i_Sheet_rule_of : PySem.W.isFn K (.ref f_Sheet_rule_of) = true)
  (i_Sheet_life_of : PySem.W.isFn K (.ref f_Sheet_life_of) = true)
  (i_Sheet_code_of : PySem.W.isFn K (.ref f_Sheet_code_of) = true)
  (ms_Sheet : PySem.W.makesIn K C_Sheet = true)
  (i_Sheet_XinitX : PySem.W.isFn K (.ref f_Sheet_XinitX) = true)
  (kC_Sheet : PySem.W.keepIn K (.ref C_Sheet) = true)
  (sf_Sheet : PySem.W.selfFirst K C_Sheet = true)
  (ac_LAST_DAY : PySem.W.nsIn K mainGlobals "LAST_DAY" = some (some (.int 59 t_LAST_DAY)))
  (ac_LETTERS : PySem.W.nsIn K mainGlobals "LETTERS" = some (some (.str "abcdefghijklmnopqrstuvwxyz" t_LETTERS)))
  (ac_MOST_DAYS : PySem.W.nsIn K mainGlobals "MOST_DAYS" = some (some (.int 60 t_MOST_DAYS)))
  (ac_MOST_NUMBER : PySem.W.nsIn K mainGlobals "MOST_NUMBER" = some (some (.int 999 t_MOST_NUMBER)))
  (ac_NAME_LETTERS : PySem.W.nsIn K mainGlobals "NAME_LETTERS" = some (some (.int 8 t_NAME_LETTERS)))
  (z_abs : PySem.W.nsIn K mainGlobals "abs" = some none)
  (z_all : PySem.W.nsIn K mainGlobals "all" = some none)
  (z_bool : PySem.W.nsIn K mainGlobals "bool" = some none)
  (z_enumerate : PySem.W.nsIn K mainGlobals "enumerate" = some none)
  (z_int : PySem.W.nsIn K mainGlobals "int" = some none)
  (z_isinstance : PySem.W.nsIn K mainGlobals "isinstance" = some none)
  (z_iter : PySem.W.nsIn K mainGlobals "iter" = some none)
  (z_len : PySem.W.nsIn K mainGlobals "len" = some none)
  (z_list : PySem.W.nsIn K mainGlobals "list" = some none)
  (z_range : PySem.W.nsIn K mainGlobals "range" = some none)
  (z_reversed : PySem.W.nsIn K mainGlobals "reversed" = some none)
  (z_sorted : PySem.W.nsIn K mainGlobals "sorted" = some none)
  (z_str : PySem.W.nsIn K mainGlobals "str" = some none)
  (z_tuple : PySem.W.nsIn K mainGlobals "tuple" = some none)
  (kc_Sheet : PySem.W.findIn K (.ref C_Sheet) "__class__" = some (some (.builtin "object.__class__")))
  (kn_obj : PySem.W.specialIn K (.builtin "object.__class__") "__get__" = some (some (.builtin "getset_descriptor.__get__")))
  (kt_obj : PySem.W.takesIn K (.builtin "object.__class__") = some true)
  (km_Sheet : PySem.W.mroIn K C_Sheet (.type "object") = some true)
  (i_Sheet_XiterX : PySem.W.isFn K (.ref f_Sheet_XiterX) = true)
  (i_Sheet_XlenX : PySem.W.isFn K (.ref f_Sheet_XlenX) = true)
  (if_or_Sheet : PySem.W.isFn K (.ref f_Sheet_XorX) = true) :
    ∃ fd : FuncData, (∀ (s : Shared) (v : Value), BindsTo s fd ⟨[v], []⟩ [("_law_script", v)]) ∧ ∀ base : Heap, K.In base → base.Ns mainGlobals mg → FnOk P w K mg base CX0 8 fa fd ["_law_script"] (Mi.spLaw K) := by
  have e := hfa.symm.trans (PySem.W.mg_of X G a_law)
  cases e
  have FS_Sheet_XinitX : FunD K "__init__" "Sheet.__init__" (defArgs s_Sheet_XinitX) (defBody s_Sheet_XinitX) (defScope s_Sheet_XinitX) [.ref a_dfl] [] f_Sheet_XinitX (PySem.W.fnOf "__init__" "Sheet.__init__" (defArgs s_Sheet_XinitX) (defBody s_Sheet_XinitX) (defScope s_Sheet_XinitX) (.ref T_Sheet_XinitX) kV_Sheet_XinitX dc_Sheet_XinitX pm_Sheet_XinitX an_Sheet_XinitX cd_Sheet_XinitX ct_Sheet_XinitX) :=
    ⟨⟨_, _, _, _, _, _, _, _, _, _, rfl, l_Sheet_XinitX, cI_Sheet_XinitX, .inr ⟨by simp, T_Sheet_XinitX, _, _, _, rfl, lT_Sheet_XinitX, rfl, .cons rfl .nil⟩, .inl rfl⟩, k_Sheet_XinitX⟩
  have bS_Sheet_XinitX : Binds K (PySem.W.fnOf "__init__" "Sheet.__init__" (defArgs s_Sheet_XinitX) (defBody s_Sheet_XinitX) (defScope s_Sheet_XinitX) (.ref T_Sheet_XinitX) kV_Sheet_XinitX dc_Sheet_XinitX pm_Sheet_XinitX an_Sheet_XinitX cd_Sheet_XinitX ct_Sheet_XinitX) ["self", "entries"] [] := by
    obtain ⟨ds, hv, hb⟩ := FS_Sheet_XinitX.binds1 (ps := ["self", "entries"]) 2 1 (by simp) rfl fun T kV doc pm an cdv ct us its hu hi => match us, hu, its, hi with | [_, _], _, [_], _ => ⟨_, rfl, rfl⟩
    cases hv
    exact hb
  let AA : Ad := { f_BadNumber_XinitX := f_BadNumber_XinitX, d_BadNumber_XinitX := (PySem.W.fnOf "__init__" "BadNumber.__init__" (defArgs s_BadNumber_XinitX) (defBody s_BadNumber_XinitX) (defScope s_BadNumber_XinitX) .none kV_BadNumber_XinitX dc_BadNumber_XinitX pm_BadNumber_XinitX an_BadNumber_XinitX cd_BadNumber_XinitX ct_BadNumber_XinitX), f_is_number := f_is_number, d_is_number := (PySem.W.fnOf "is_number" "is_number" (defArgs s_is_number) (defBody s_is_number) (defScope s_is_number) .none kV_is_number dc_is_number pm_is_number an_is_number cd_is_number ct_is_number), f_is_name := f_is_name, d_is_name := (PySem.W.fnOf "is_name" "is_name" (defArgs s_is_name) (defBody s_is_name) (defScope s_is_name) .none kV_is_name dc_is_name pm_is_name an_is_name cd_is_name ct_is_name), f_check_number := f_check_number, d_check_number := (PySem.W.fnOf "check_number" "check_number" (defArgs s_check_number) (defBody s_check_number) (defScope s_check_number) .none kV_check_number dc_check_number pm_check_number an_check_number cd_check_number ct_check_number), f_is_entry := f_is_entry, d_is_entry := (PySem.W.fnOf "is_entry" "is_entry" (defArgs s_is_entry) (defBody s_is_entry) (defScope s_is_entry) .none kV_is_entry dc_is_entry pm_is_entry an_is_entry cd_is_entry ct_is_entry), f_joined := f_joined, d_joined := (PySem.W.fnOf "joined" "joined" (defArgs s_joined) (defBody s_joined) (defScope s_joined) .none kV_joined dc_joined pm_joined an_joined cd_joined ct_joined), f_standing := f_standing, d_standing := (PySem.W.fnOf "standing" "standing" (defArgs s_standing) (defBody s_standing) (defScope s_standing) .none kV_standing dc_standing pm_standing an_standing cd_standing ct_standing), f_told_names := f_told_names, d_told_names := (PySem.W.fnOf "told_names" "told_names" (defArgs s_told_names) (defBody s_told_names) (defScope s_told_names) .none kV_told_names dc_told_names pm_told_names an_told_names cd_told_names ct_told_names), f_Sheet_XinitX := f_Sheet_XinitX, d_Sheet_XinitX := (PySem.W.fnOf "__init__" "Sheet.__init__" (defArgs s_Sheet_XinitX) (defBody s_Sheet_XinitX) (defScope s_Sheet_XinitX) (.ref T_Sheet_XinitX) kV_Sheet_XinitX dc_Sheet_XinitX pm_Sheet_XinitX an_Sheet_XinitX cd_Sheet_XinitX ct_Sheet_XinitX), f_Sheet_XiterX := f_Sheet_XiterX, d_Sheet_XiterX := (PySem.W.fnOf "__iter__" "Sheet.__iter__" (defArgs s_Sheet_XiterX) (defBody s_Sheet_XiterX) (defScope s_Sheet_XiterX) .none kV_Sheet_XiterX dc_Sheet_XiterX pm_Sheet_XiterX an_Sheet_XiterX cd_Sheet_XiterX ct_Sheet_XiterX), f_Sheet_XlenX := f_Sheet_XlenX, d_Sheet_XlenX := (PySem.W.fnOf "__len__" "Sheet.__len__" (defArgs s_Sheet_XlenX) (defBody s_Sheet_XlenX) (defScope s_Sheet_XlenX) .none kV_Sheet_XlenX dc_Sheet_XlenX pm_Sheet_XlenX an_Sheet_XlenX cd_Sheet_XlenX ct_Sheet_XlenX), f_Sheet_XorX := f_Sheet_XorX, d_Sheet_XorX := (PySem.W.fnOf "__or__" "Sheet.__or__" (defArgs s_Sheet_XorX) (defBody s_Sheet_XorX) (defScope s_Sheet_XorX) .none kV_Sheet_XorX dc_Sheet_XorX pm_Sheet_XorX an_Sheet_XorX cd_Sheet_XorX ct_Sheet_XorX), f_Sheet_sign_of := f_Sheet_sign_of, d_Sheet_sign_of := (PySem.W.fnOf "sign_of" "Sheet.sign_of" (defArgs s_Sheet_sign_of) (defBody s_Sheet_sign_of) (defScope s_Sheet_sign_of) .none kV_Sheet_sign_of dc_Sheet_sign_of pm_Sheet_sign_of an_Sheet_sign_of cd_Sheet_sign_of ct_Sheet_sign_of), f_Sheet_rule_of := f_Sheet_rule_of, d_Sheet_rule_of := (PySem.W.fnOf "rule_of" "Sheet.rule_of" (defArgs s_Sheet_rule_of) (defBody s_Sheet_rule_of) (defScope s_Sheet_rule_of) .none kV_Sheet_rule_of dc_Sheet_rule_of pm_Sheet_rule_of an_Sheet_rule_of cd_Sheet_rule_of ct_Sheet_rule_of), f_Sheet_life_of := f_Sheet_life_of, d_Sheet_life_of := (PySem.W.fnOf "life_of" "Sheet.life_of" (defArgs s_Sheet_life_of) (defBody s_Sheet_life_of) (defScope s_Sheet_life_of) .none kV_Sheet_life_of dc_Sheet_life_of pm_Sheet_life_of an_Sheet_life_of cd_Sheet_life_of ct_Sheet_life_of), f_Sheet_code_of := f_Sheet_code_of, d_Sheet_code_of := (PySem.W.fnOf "code_of" "Sheet.code_of" (defArgs s_Sheet_code_of) (defBody s_Sheet_code_of) (defScope s_Sheet_code_of) .none kV_Sheet_code_of dc_Sheet_code_of pm_Sheet_code_of an_Sheet_code_of cd_Sheet_code_of ct_Sheet_code_of), f_l_mixed := f_l_mixed, d_l_mixed := (PySem.W.fnOf "_law_mixed" "_law_mixed" (defArgs s_l_mixed) (defBody s_l_mixed) (defScope s_l_mixed) .none kV_l_mixed dc_l_mixed pm_l_mixed an_l_mixed cd_l_mixed ct_l_mixed), f_l_bag := f_l_bag, d_l_bag := (PySem.W.fnOf "_law_bag" "_law_bag" (defArgs s_l_bag) (defBody s_l_bag) (defScope s_l_bag) .none kV_l_bag dc_l_bag pm_l_bag an_l_bag cd_l_bag ct_l_bag), f_l_pick := f_l_pick, d_l_pick := (PySem.W.fnOf "_law_pick" "_law_pick" (defArgs s_l_pick) (defBody s_l_pick) (defScope s_l_pick) .none kV_l_pick dc_l_pick pm_l_pick an_l_pick cd_l_pick ct_l_pick), f_l_choice := f_l_choice, d_l_choice := (PySem.W.fnOf "_law_choice" "_law_choice" (defArgs s_l_choice) (defBody s_l_choice) (defScope s_l_choice) .none kV_l_choice dc_l_choice pm_l_choice an_l_choice cd_l_choice ct_l_choice), f_l_mingled := f_l_mingled, d_l_mingled := (PySem.W.fnOf "_law_mingled" "_law_mingled" (defArgs s_l_mingled) (defBody s_l_mingled) (defScope s_l_mingled) .none kV_l_mingled dc_l_mingled pm_l_mingled an_l_mingled cd_l_mingled ct_l_mingled), f_l_new_name := f_l_new_name, d_l_new_name := (PySem.W.fnOf "_law_new_name" "_law_new_name" (defArgs s_l_new_name) (defBody s_l_new_name) (defScope s_l_new_name) .none kV_l_new_name dc_l_new_name pm_l_new_name an_l_new_name cd_l_new_name ct_l_new_name), f_l_standing := f_l_standing, d_l_standing := (PySem.W.fnOf "_law_standing" "_law_standing" (defArgs s_l_standing) (defBody s_l_standing) (defScope s_l_standing) .none kV_l_standing dc_l_standing pm_l_standing an_l_standing cd_l_standing ct_l_standing), f_l_tracks := f_l_tracks, d_l_tracks := (PySem.W.fnOf "_law_tracks" "_law_tracks" (defArgs s_l_tracks) (defBody s_l_tracks) (defScope s_l_tracks) .none kV_l_tracks dc_l_tracks pm_l_tracks an_l_tracks cd_l_tracks ct_l_tracks), f_l_numbers := f_l_numbers, d_l_numbers := (PySem.W.fnOf "_law_numbers" "_law_numbers" (defArgs s_l_numbers) (defBody s_l_numbers) (defScope s_l_numbers) .none kV_l_numbers dc_l_numbers pm_l_numbers an_l_numbers cd_l_numbers ct_l_numbers), f_l_world := f_l_world, d_l_world := (PySem.W.fnOf "_law_world" "_law_world" (defArgs s_l_world) (defBody s_l_world) (defScope s_l_world) .none kV_l_world dc_l_world pm_l_world an_l_world cd_l_world ct_l_world), f_l_rows := f_l_rows, d_l_rows := (PySem.W.fnOf "_law_rows" "_law_rows" (defArgs s_l_rows) (defBody s_l_rows) (defScope s_l_rows) .none kV_l_rows dc_l_rows pm_l_rows an_l_rows cd_l_rows ct_l_rows), f_l_further := f_l_further, d_l_further := (PySem.W.fnOf "_law_further" "_law_further" (defArgs s_l_further) (defBody s_l_further) (defScope s_l_further) .none kV_l_further dc_l_further pm_l_further an_l_further cd_l_further ct_l_further), f_l_both := f_l_both, d_l_both := (PySem.W.fnOf "_law_both" "_law_both" (defArgs s_l_both) (defBody s_l_both) (defScope s_l_both) .none kV_l_both dc_l_both pm_l_both an_l_both cd_l_both ct_l_both), f_l_one_change := f_l_one_change, d_l_one_change := (PySem.W.fnOf "_law_one_change" "_law_one_change" (defArgs s_l_one_change) (defBody s_l_one_change) (defScope s_l_one_change) .none kV_l_one_change dc_l_one_change pm_l_one_change an_l_one_change cd_l_one_change ct_l_one_change), f_l_days_tell := f_l_days_tell, d_l_days_tell := (PySem.W.fnOf "_law_days_tell" "_law_days_tell" (defArgs s_l_days_tell) (defBody s_l_days_tell) (defScope s_l_days_tell) .none kV_l_days_tell dc_l_days_tell pm_l_days_tell an_l_days_tell cd_l_days_tell ct_l_days_tell), f_l_due := f_l_due, d_l_due := (PySem.W.fnOf "_law_due" "_law_due" (defArgs s_l_due) (defBody s_l_due) (defScope s_l_due) .none kV_l_due dc_l_due pm_l_due an_l_due cd_l_due ct_l_due), f_law := fa, d_law := (PySem.W.fnOf "law" "law" (defArgs s_law) (defBody s_law) (defScope s_law) .none kV_law dc_law pm_law an_law cd_law ct_law), C_BadNumber := C_BadNumber, C_Sheet := C_Sheet, t_LAST_DAY := t_LAST_DAY, t_LETTERS := t_LETTERS, t_MOST_DAYS := t_MOST_DAYS, t_MOST_NUMBER := t_MOST_NUMBER, t_NAME_LETTERS := t_NAME_LETTERS, a_dfl := a_dfl }
  have T : Txt K mg AA :=
    { F_BadNumber_XinitX := fun_mk (st := s_BadNumber_XinitX) l_BadNumber_XinitX cI_BadNumber_XinitX k_BadNumber_XinitX,
      bi_BadNumber_XinitX := (fun_mk (st := s_BadNumber_XinitX) l_BadNumber_XinitX cI_BadNumber_XinitX k_BadNumber_XinitX).binds (ps := ["self", "name"]) fun _ _ _ _ _ _ us hl => match us, hl with | [_, _], _ => rfl,
      F_is_number := fun_mk (st := s_is_number) l_is_number cI_is_number k_is_number,
      bi_is_number := (fun_mk (st := s_is_number) l_is_number cI_is_number k_is_number).binds (ps := ["number", "low", "high"]) fun _ _ _ _ _ _ us hl => match us, hl with | [_, _, _], _ => rfl,
      g_is_number := PySem.W.mg_of X G a_is_number,
      F_is_name := fun_mk (st := s_is_name) l_is_name cI_is_name k_is_name,
      bi_is_name := (fun_mk (st := s_is_name) l_is_name cI_is_name k_is_name).binds (ps := ["name"]) fun _ _ _ _ _ _ us hl => match us, hl with | [_], _ => rfl,
      g_is_name := PySem.W.mg_of X G a_is_name,
      F_check_number := fun_mk (st := s_check_number) l_check_number cI_check_number k_check_number,
      bi_check_number := (fun_mk (st := s_check_number) l_check_number cI_check_number k_check_number).binds (ps := ["word", "number", "low", "high"]) fun _ _ _ _ _ _ us hl => match us, hl with | [_, _, _, _], _ => rfl,
      g_check_number := PySem.W.mg_of X G a_check_number,
      F_is_entry := fun_mk (st := s_is_entry) l_is_entry cI_is_entry k_is_entry,
      bi_is_entry := (fun_mk (st := s_is_entry) l_is_entry cI_is_entry k_is_entry).binds (ps := ["entry"]) fun _ _ _ _ _ _ us hl => match us, hl with | [_], _ => rfl,
      g_is_entry := PySem.W.mg_of X G a_is_entry,
      F_joined := fun_mk (st := s_joined) l_joined cI_joined k_joined,
      bi_joined := (fun_mk (st := s_joined) l_joined cI_joined k_joined).binds (ps := ["entries"]) fun _ _ _ _ _ _ us hl => match us, hl with | [_], _ => rfl,
      g_joined := PySem.W.mg_of X G a_joined,
      F_standing := fun_mk (st := s_standing) l_standing cI_standing k_standing,
      bi_standing := (fun_mk (st := s_standing) l_standing cI_standing k_standing).binds (ps := ["rows"]) fun _ _ _ _ _ _ us hl => match us, hl with | [_], _ => rfl,
      g_standing := PySem.W.mg_of X G a_standing,
      F_told_names := fun_mk (st := s_told_names) l_told_names cI_told_names k_told_names,
      bi_told_names := (fun_mk (st := s_told_names) l_told_names cI_told_names k_told_names).binds (ps := ["rows", "stands", "form"]) fun _ _ _ _ _ _ us hl => match us, hl with | [_, _, _], _ => rfl,
      g_told_names := PySem.W.mg_of X G a_told_names,
      F_Sheet_XinitX := FS_Sheet_XinitX,
      bi_Sheet_XinitX := bS_Sheet_XinitX,
      F_Sheet_XiterX := fun_mk (st := s_Sheet_XiterX) l_Sheet_XiterX cI_Sheet_XiterX k_Sheet_XiterX,
      bi_Sheet_XiterX := (fun_mk (st := s_Sheet_XiterX) l_Sheet_XiterX cI_Sheet_XiterX k_Sheet_XiterX).binds (ps := ["self"]) fun _ _ _ _ _ _ us hl => match us, hl with | [_], _ => rfl,
      F_Sheet_XlenX := fun_mk (st := s_Sheet_XlenX) l_Sheet_XlenX cI_Sheet_XlenX k_Sheet_XlenX,
      bi_Sheet_XlenX := (fun_mk (st := s_Sheet_XlenX) l_Sheet_XlenX cI_Sheet_XlenX k_Sheet_XlenX).binds (ps := ["self"]) fun _ _ _ _ _ _ us hl => match us, hl with | [_], _ => rfl,
      F_Sheet_XorX := fun_mk (st := s_Sheet_XorX) l_Sheet_XorX cI_Sheet_XorX k_Sheet_XorX,
      bi_Sheet_XorX := (fun_mk (st := s_Sheet_XorX) l_Sheet_XorX cI_Sheet_XorX k_Sheet_XorX).binds (ps := ["self", "other"]) fun _ _ _ _ _ _ us hl => match us, hl with | [_, _], _ => rfl,
      F_Sheet_sign_of := fun_mk (st := s_Sheet_sign_of) l_Sheet_sign_of cI_Sheet_sign_of k_Sheet_sign_of,
      bi_Sheet_sign_of := (fun_mk (st := s_Sheet_sign_of) l_Sheet_sign_of cI_Sheet_sign_of k_Sheet_sign_of).binds (ps := ["self", "day"]) fun _ _ _ _ _ _ us hl => match us, hl with | [_, _], _ => rfl,
      F_Sheet_rule_of := fun_mk (st := s_Sheet_rule_of) l_Sheet_rule_of cI_Sheet_rule_of k_Sheet_rule_of,
      bi_Sheet_rule_of := (fun_mk (st := s_Sheet_rule_of) l_Sheet_rule_of cI_Sheet_rule_of k_Sheet_rule_of).binds (ps := ["self", "day"]) fun _ _ _ _ _ _ us hl => match us, hl with | [_, _], _ => rfl,
      F_Sheet_life_of := fun_mk (st := s_Sheet_life_of) l_Sheet_life_of cI_Sheet_life_of k_Sheet_life_of,
      bi_Sheet_life_of := (fun_mk (st := s_Sheet_life_of) l_Sheet_life_of cI_Sheet_life_of k_Sheet_life_of).binds (ps := ["self", "days", "plain"]) fun _ _ _ _ _ _ us hl => match us, hl with | [_, _, _], _ => rfl,
      F_Sheet_code_of := fun_mk (st := s_Sheet_code_of) l_Sheet_code_of cI_Sheet_code_of k_Sheet_code_of,
      bi_Sheet_code_of := (fun_mk (st := s_Sheet_code_of) l_Sheet_code_of cI_Sheet_code_of k_Sheet_code_of).binds (ps := ["self", "days", "first"]) fun _ _ _ _ _ _ us hl => match us, hl with | [_, _, _], _ => rfl,
      F_l_mixed := fun_mk (st := s_l_mixed) l_l_mixed cI_l_mixed k_l_mixed,
      bi_l_mixed := (fun_mk (st := s_l_mixed) l_l_mixed cI_l_mixed k_l_mixed).binds (ps := ["_law_number", "_law_turn"]) fun _ _ _ _ _ _ us hl => match us, hl with | [_, _], _ => rfl,
      g_l_mixed := PySem.W.mg_of X G a_l_mixed,
      F_l_bag := fun_mk (st := s_l_bag) l_l_bag cI_l_bag k_l_bag,
      bi_l_bag := (fun_mk (st := s_l_bag) l_l_bag cI_l_bag k_l_bag).binds (ps := ["_law_script"]) fun _ _ _ _ _ _ us hl => match us, hl with | [_], _ => rfl,
      g_l_bag := PySem.W.mg_of X G a_l_bag,
      F_l_pick := fun_mk (st := s_l_pick) l_l_pick cI_l_pick k_l_pick,
      bi_l_pick := (fun_mk (st := s_l_pick) l_l_pick cI_l_pick k_l_pick).binds (ps := ["_law_bag_here", "_law_many"]) fun _ _ _ _ _ _ us hl => match us, hl with | [_, _], _ => rfl,
      g_l_pick := PySem.W.mg_of X G a_l_pick,
      F_l_choice := fun_mk (st := s_l_choice) l_l_choice cI_l_choice k_l_choice,
      bi_l_choice := (fun_mk (st := s_l_choice) l_l_choice cI_l_choice k_l_choice).binds (ps := ["_law_bag_here", "_law_things"]) fun _ _ _ _ _ _ us hl => match us, hl with | [_, _], _ => rfl,
      g_l_choice := PySem.W.mg_of X G a_l_choice,
      F_l_mingled := fun_mk (st := s_l_mingled) l_l_mingled cI_l_mingled k_l_mingled,
      bi_l_mingled := (fun_mk (st := s_l_mingled) l_l_mingled cI_l_mingled k_l_mingled).binds (ps := ["_law_bag_here", "_law_things"]) fun _ _ _ _ _ _ us hl => match us, hl with | [_, _], _ => rfl,
      g_l_mingled := PySem.W.mg_of X G a_l_mingled,
      F_l_new_name := fun_mk (st := s_l_new_name) l_l_new_name cI_l_new_name k_l_new_name,
      bi_l_new_name := (fun_mk (st := s_l_new_name) l_l_new_name cI_l_new_name k_l_new_name).binds (ps := ["_law_bag_here", "_law_used"]) fun _ _ _ _ _ _ us hl => match us, hl with | [_, _], _ => rfl,
      g_l_new_name := PySem.W.mg_of X G a_l_new_name,
      F_l_standing := fun_mk (st := s_l_standing) l_l_standing cI_l_standing k_l_standing,
      bi_l_standing := (fun_mk (st := s_l_standing) l_l_standing cI_l_standing k_l_standing).binds (ps := ["_law_read"]) fun _ _ _ _ _ _ us hl => match us, hl with | [_], _ => rfl,
      g_l_standing := PySem.W.mg_of X G a_l_standing,
      F_l_tracks := fun_mk (st := s_l_tracks) l_l_tracks cI_l_tracks k_l_tracks,
      bi_l_tracks := (fun_mk (st := s_l_tracks) l_l_tracks cI_l_tracks k_l_tracks).binds (ps := ["_law_read", "_law_days", "_law_come", "_law_sign_base", "_law_rule_base"]) fun _ _ _ _ _ _ us hl => match us, hl with | [_, _, _, _, _], _ => rfl,
      g_l_tracks := PySem.W.mg_of X G a_l_tracks,
      F_l_numbers := fun_mk (st := s_l_numbers) l_l_numbers cI_l_numbers k_l_numbers,
      bi_l_numbers := (fun_mk (st := s_l_numbers) l_l_numbers cI_l_numbers k_l_numbers).binds (ps := ["_law_bag_here", "_law_many"]) fun _ _ _ _ _ _ us hl => match us, hl with | [_, _], _ => rfl,
      g_l_numbers := PySem.W.mg_of X G a_l_numbers,
      F_l_world := fun_mk (st := s_l_world) l_l_world cI_l_world k_l_world,
      bi_l_world := (fun_mk (st := s_l_world) l_l_world cI_l_world k_l_world).binds (ps := ["_law_bag_here"]) fun _ _ _ _ _ _ us hl => match us, hl with | [_], _ => rfl,
      g_l_world := PySem.W.mg_of X G a_l_world,
      F_l_rows := fun_mk (st := s_l_rows) l_l_rows cI_l_rows k_l_rows,
      bi_l_rows := (fun_mk (st := s_l_rows) l_l_rows cI_l_rows k_l_rows).binds (ps := ["_law_bag_here", "_law_world_here", "_law_numbers_here"]) fun _ _ _ _ _ _ us hl => match us, hl with | [_, _, _], _ => rfl,
      g_l_rows := PySem.W.mg_of X G a_l_rows,
      F_l_further := fun_mk (st := s_l_further) l_l_further cI_l_further k_l_further,
      bi_l_further := (fun_mk (st := s_l_further) l_l_further cI_l_further k_l_further).binds (ps := ["_law_bag_here", "_law_world_here", "_law_entries"]) fun _ _ _ _ _ _ us hl => match us, hl with | [_, _, _], _ => rfl,
      g_l_further := PySem.W.mg_of X G a_l_further,
      F_l_both := fun_mk (st := s_l_both) l_l_both cI_l_both k_l_both,
      bi_l_both := (fun_mk (st := s_l_both) l_l_both cI_l_both k_l_both).binds (ps := ["_law_sheet", "_law_world_here"]) fun _ _ _ _ _ _ us hl => match us, hl with | [_, _], _ => rfl,
      g_l_both := PySem.W.mg_of X G a_l_both,
      F_l_one_change := fun_mk (st := s_l_one_change) l_l_one_change cI_l_one_change k_l_one_change,
      bi_l_one_change := (fun_mk (st := s_l_one_change) l_l_one_change cI_l_one_change k_l_one_change).binds (ps := ["_law_before", "_law_behind"]) fun _ _ _ _ _ _ us hl => match us, hl with | [_, _], _ => rfl,
      g_l_one_change := PySem.W.mg_of X G a_l_one_change,
      F_l_days_tell := fun_mk (st := s_l_days_tell) l_l_days_tell cI_l_days_tell k_l_days_tell,
      bi_l_days_tell := (fun_mk (st := s_l_days_tell) l_l_days_tell cI_l_days_tell k_l_days_tell).binds (ps := ["_law_sheet", "_law_world_here", "_law_due_here"]) fun _ _ _ _ _ _ us hl => match us, hl with | [_, _, _], _ => rfl,
      g_l_days_tell := PySem.W.mg_of X G a_l_days_tell,
      F_l_due := fun_mk (st := s_l_due) l_l_due cI_l_due k_l_due,
      bi_l_due := (fun_mk (st := s_l_due) l_l_due cI_l_due k_l_due).binds (ps := ["_law_read", "_law_world_here"]) fun _ _ _ _ _ _ us hl => match us, hl with | [_, _], _ => rfl,
      g_l_due := PySem.W.mg_of X G a_l_due,
      F_law := fun_mk (st := s_law) l_law cI_law k_law,
      bi_law := (fun_mk (st := s_law) l_law cI_law k_law).binds (ps := ["_law_script"]) fun _ _ _ _ _ _ us hl => match us, hl with | [_], _ => rfl,
      g_law := PySem.W.mg_of X G a_law,
      g_BadNumber := PySem.W.mg_of X G a_BadNumber,
      ox_BadNumber := ⟨⟨nm_BadNumber, q_BadNumber, N_BadNumber, bs_BadNumber, bm_BadNumber, sn_BadNumber, sub_BadNumber, ab_BadNumber, col_BadNumber, dd_BadNumber, m0_BadNumber, m1_BadNumber, m2_BadNumber, m3_BadNumber, m5_BadNumber, xL_BadNumber, rx_BadNumber⟩, sx_BadNumber, eC_BadNumber, tC_BadNumber, kE_BadNumber⟩,
      nx_BadNumber := nx_BadNumber,
      ix_BadNumber := ix_BadNumber,
      tx_BadNumber := tx_BadNumber,
      g_Sheet := PySem.W.mg_of X G a_Sheet,
      cl_Sheet := ⟨pg_Sheet, hd_Sheet, po_Sheet, sa_Sheet⟩,
      na_Sheet__rows := na_Sheet__rows,
      na_Sheet__standing := na_Sheet__standing,
      na_Sheet__signs := na_Sheet__signs,
      na_Sheet__rules := na_Sheet__rules,
      m_Sheet_sign_of := ⟨fi_Sheet_sign_of, i_Sheet_sign_of, k_Sheet_sign_of⟩,
      m_Sheet_rule_of := ⟨fi_Sheet_rule_of, i_Sheet_rule_of, k_Sheet_rule_of⟩,
      m_Sheet_life_of := ⟨fi_Sheet_life_of, i_Sheet_life_of, k_Sheet_life_of⟩,
      m_Sheet_code_of := ⟨fi_Sheet_code_of, i_Sheet_code_of, k_Sheet_code_of⟩,
      mk_Sheet := ⟨ms_Sheet, fi_Sheet_XinitX, i_Sheet_XinitX, kC_Sheet⟩,
      sf_Sheet := sf_Sheet,
      c_LAST_DAY := PySem.W.mg_of X G ac_LAST_DAY,
      c_LETTERS := PySem.W.mg_of X G ac_LETTERS,
      c_MOST_DAYS := PySem.W.mg_of X G ac_MOST_DAYS,
      c_MOST_NUMBER := PySem.W.mg_of X G ac_MOST_NUMBER,
      c_NAME_LETTERS := PySem.W.mg_of X G ac_NAME_LETTERS,
      b_abs := PySem.W.mg_none_of X G z_abs,
      b_all := PySem.W.mg_none_of X G z_all,
      b_bool := PySem.W.mg_none_of X G z_bool,
      b_enumerate := PySem.W.mg_none_of X G z_enumerate,
      b_int := PySem.W.mg_none_of X G z_int,
      b_isinstance := PySem.W.mg_none_of X G z_isinstance,
      b_iter := PySem.W.mg_none_of X G z_iter,
      b_len := PySem.W.mg_none_of X G z_len,
      b_list := PySem.W.mg_none_of X G z_list,
      b_range := PySem.W.mg_none_of X G z_range,
      b_reversed := PySem.W.mg_none_of X G z_reversed,
      b_sorted := PySem.W.mg_none_of X G z_sorted,
      b_str := PySem.W.mg_none_of X G z_str,
      b_tuple := PySem.W.mg_none_of X G z_tuple,
      kc_Sheet := kc_Sheet,
      kn_obj := kn_obj,
      kt_obj := kt_obj,
      km_Sheet := km_Sheet,
      il_Sheet := ⟨fi_Sheet_XiterX, i_Sheet_XiterX, fi_Sheet_XlenX, i_Sheet_XlenX⟩,
      io_or_Sheet := io_or_Sheet,
      if_or_Sheet := if_or_Sheet }
  exact ⟨(PySem.W.fnOf "law" "law" (defArgs s_law) (defBody s_law) (defScope s_law) .none kV_law dc_law pm_law an_law cd_law ct_law), fun s v => .of_eq rfl, fun base _ _ => Mi.okM_law T Mi.law_math⟩
theorem walk {l : PySem.W.OpenLaw} {q : Program} {loose : List Str} {XP : (Str → Option Value) → Heap → Prop} {YP : World → Heap → Prop} {d : DefRec} {K : Params → PySem.W.Frag} (hn : l.most = some 63) (hdf : d.params.defaults = [])
    (hY : ∀ (w : World) (h : Heap), YP w h → (K w.params).In h)
    (F : ∀ (w : World) (mg : Str → Option Value) (fa : Addr) (h : Heap), (K w.params).In h → h.Ns mainGlobals mg → mg d.name = some (.ref fa) →
      ∃ fd : FuncData, (∀ (s : Shared) (u : Value), BindsTo s fd ⟨[u], []⟩ [("_law_script", u)]) ∧ ∀ base : Heap, (K w.params).In base → base.Ns mainGlobals mg → FnOk l.prog w (K w.params) mg base CX0 8 fa fd ["_law_script"] (Mi.spLaw (K w.params))) :
    PySem.W.WalkO q loose XP YP l.row.toRowW d [] (fun f vs => PySem.call f vs) :=
  L2.walk_of (n := 63) (k := 8) (x := "_law_script") (CX := fun _ => CX0) (sp := fun w => Mi.spLaw (K w.params)) hn (by decide) hdf ⟨rfl, by decide, by decide⟩ hY F (fun _ _ a ns hl _ hS => ⟨a, ns, rfl, hS, hl, fun _ => rfl⟩) fun _ _ _ _ _ z => z
end Dh
/-! K08Fin -/
open PySem PySem.W PyProof.Rows
set_option Elab.async false
set_option maxRecDepth 100000 in
set_option maxHeartbeats 0 in
theorem PySem.Challenge.cw_duehouse_k08_whole_one_entry_holds : PySem.Challenge.rw_duehouse_k08_whole_one_entry.Holds := by
  w_on; o_law; k_head; (case hw => w_witness2)
  k_fill
  refine Dh.walk (l := PySem.Challenge.rw_duehouse_k08_whole_one_entry) rfl rfl (fun w h Y => PySem.W.kIn_of Y) ?F
  case F =>
    intro w mg fa h KX G hmg
    refine' Dh.all_mk KX G hmg ?a_BadNumber ?a_Sheet ?ix_BadNumber ?fi_Sheet_sign_of ?fi_Sheet_rule_of ?fi_Sheet_life_of ?fi_Sheet_code_of ?fi_Sheet_XinitX ?fi_Sheet_XiterX ?fi_Sheet_XlenX ?io_or_Sheet ?a_is_number ?a_is_name ?a_check_number ?a_is_entry ?a_joined ?a_standing ?a_told_names ?a_l_mixed ?a_l_bag ?a_l_pick ?a_l_choice ?a_l_mingled ?a_l_new_name ?a_l_standing ?a_l_tracks ?a_l_numbers ?a_l_world ?a_l_rows ?a_l_further ?a_l_both ?a_l_one_change ?a_l_days_tell ?a_l_due ?a_law ?l_BadNumber_XinitX ?cI_BadNumber_XinitX ?k_BadNumber_XinitX ?l_is_number ?cI_is_number ?k_is_number ?l_is_name ?cI_is_name ?k_is_name ?l_check_number ?cI_check_number ?k_check_number ?l_is_entry ?cI_is_entry ?k_is_entry ?l_joined ?cI_joined ?k_joined ?l_standing ?cI_standing ?k_standing ?l_told_names ?cI_told_names ?k_told_names ?l_Sheet_XinitX ?cI_Sheet_XinitX ?k_Sheet_XinitX ?lT_Sheet_XinitX ?l_Sheet_XiterX ?cI_Sheet_XiterX ?k_Sheet_XiterX ?l_Sheet_XlenX ?cI_Sheet_XlenX ?k_Sheet_XlenX ?l_Sheet_XorX ?cI_Sheet_XorX ?k_Sheet_XorX ?l_Sheet_sign_of ?cI_Sheet_sign_of ?k_Sheet_sign_of ?l_Sheet_rule_of ?cI_Sheet_rule_of ?k_Sheet_rule_of ?l_Sheet_life_of ?cI_Sheet_life_of ?k_Sheet_life_of ?l_Sheet_code_of ?cI_Sheet_code_of ?k_Sheet_code_of ?l_l_mixed ?cI_l_mixed ?k_l_mixed ?l_l_bag ?cI_l_bag ?k_l_bag ?l_l_pick ?cI_l_pick ?k_l_pick ?l_l_choice ?cI_l_choice ?k_l_choice ?l_l_mingled ?cI_l_mingled ?k_l_mingled ?l_l_new_name ?cI_l_new_name ?k_l_new_name ?l_l_standing ?cI_l_standing ?k_l_standing ?l_l_tracks ?cI_l_tracks ?k_l_tracks ?l_l_numbers ?cI_l_numbers ?k_l_numbers ?l_l_world ?cI_l_world ?k_l_world ?l_l_rows ?cI_l_rows ?k_l_rows ?l_l_further ?cI_l_further ?k_l_further ?l_l_both ?cI_l_both ?k_l_both ?l_l_one_change ?cI_l_one_change ?k_l_one_change ?l_l_days_tell ?cI_l_days_tell ?k_l_days_tell ?l_l_due ?cI_l_due ?k_l_due ?l_law ?cI_law ?k_law ?xL_BadNumber ?rx_BadNumber ?sx_BadNumber ?eC_BadNumber ?tC_BadNumber ?kE_BadNumber ?nx_BadNumber ?tx_BadNumber ?pg_Sheet ?hd_Sheet ?po_Sheet ?sa_Sheet ?na_Sheet__rows ?na_Sheet__standing ?na_Sheet__signs ?na_Sheet__rules ?i_Sheet_sign_of ?i_Sheet_rule_of ?i_Sheet_life_of ?i_Sheet_code_of ?ms_Sheet ?i_Sheet_XinitX ?kC_Sheet ?sf_Sheet ?ac_LAST_DAY ?ac_LETTERS ?ac_MOST_DAYS ?ac_MOST_NUMBER ?ac_NAME_LETTERS ?z_abs ?z_all ?z_bool ?z_enumerate ?z_int ?z_isinstance ?z_iter ?z_len ?z_list ?z_range ?z_reversed ?z_sorted ?z_str ?z_tuple ?kc_Sheet ?kn_obj ?kt_obj ?km_Sheet ?i_Sheet_XiterX ?i_Sheet_XlenX ?if_or_Sheet
    (case a_BadNumber => (k_is))
    (case a_Sheet => (k_is))
    (case ix_BadNumber => (k_is))
    (case fi_Sheet_sign_of => (k_is))
    (case fi_Sheet_rule_of => (k_is))
    (case fi_Sheet_life_of => (k_is))
    (case fi_Sheet_code_of => (k_is))
    (case fi_Sheet_XinitX => (k_is))
    (case fi_Sheet_XiterX => (k_is))
    (case fi_Sheet_XlenX => (k_is))
    (case io_or_Sheet => (k_is))
    (case a_is_number => (k_is))
    (case a_is_name => (k_is))
    (case a_check_number => (k_is))
    (case a_is_entry => (k_is))
    (case a_joined => (k_is))
    (case a_standing => (k_is))
    (case a_told_names => (k_is))
    (case a_l_mixed => (k_is))
    (case a_l_bag => (k_is))
    (case a_l_pick => (k_is))
    (case a_l_choice => (k_is))
    (case a_l_mingled => (k_is))
    (case a_l_new_name => (k_is))
    (case a_l_standing => (k_is))
    (case a_l_tracks => (k_is))
    (case a_l_numbers => (k_is))
    (case a_l_world => (k_is))
    (case a_l_rows => (k_is))
    (case a_l_further => (k_is))
    (case a_l_both => (k_is))
    (case a_l_one_change => (k_is))
    (case a_l_days_tell => (k_is))
    (case a_l_due => (k_is))
    (case a_law => (k_is))
    (case l_BadNumber_XinitX => (k_is))
    (case cI_BadNumber_XinitX => (k_is))
    (case k_BadNumber_XinitX => (k_is))
    (case l_is_number => (k_is))
    (case cI_is_number => (k_is))
    (case k_is_number => (k_is))
    (case l_is_name => (k_is))
    (case cI_is_name => (k_is))
    (case k_is_name => (k_is))
    (case l_check_number => (k_is))
    (case cI_check_number => (k_is))
    (case k_check_number => (k_is))
    (case l_is_entry => (k_is))
    (case cI_is_entry => (k_is))
    (case k_is_entry => (k_is))
    (case l_joined => (k_is))
    (case cI_joined => (k_is))
    (case k_joined => (k_is))
    (case l_standing => (k_is))
    (case cI_standing => (k_is))
    (case k_standing => (k_is))
    (case l_told_names => (k_is))
    (case cI_told_names => (k_is))
    (case k_told_names => (k_is))
    (case l_Sheet_XinitX => (k_is))
    (case cI_Sheet_XinitX => (k_is))
    (case k_Sheet_XinitX => (k_is))
    (case lT_Sheet_XinitX => (k_is))
    (case l_Sheet_XiterX => (k_is))
    (case cI_Sheet_XiterX => (k_is))
    (case k_Sheet_XiterX => (k_is))
    (case l_Sheet_XlenX => (k_is))
    (case cI_Sheet_XlenX => (k_is))
    (case k_Sheet_XlenX => (k_is))
    (case l_Sheet_XorX => (k_is))
    (case cI_Sheet_XorX => (k_is))
    (case k_Sheet_XorX => (k_is))
    (case l_Sheet_sign_of => (k_is))
    (case cI_Sheet_sign_of => (k_is))
    (case k_Sheet_sign_of => (k_is))
    (case l_Sheet_rule_of => (k_is))
    (case cI_Sheet_rule_of => (k_is))
    (case k_Sheet_rule_of => (k_is))
    (case l_Sheet_life_of => (k_is))
    (case cI_Sheet_life_of => (k_is))
    (case k_Sheet_life_of => (k_is))
    (case l_Sheet_code_of => (k_is))
    (case cI_Sheet_code_of => (k_is))
    (case k_Sheet_code_of => (k_is))
    (case l_l_mixed => (k_is))
    (case cI_l_mixed => (k_is))
    (case k_l_mixed => (k_is))
    (case l_l_bag => (k_is))
    (case cI_l_bag => (k_is))
    (case k_l_bag => (k_is))
    (case l_l_pick => (k_is))
    (case cI_l_pick => (k_is))
    (case k_l_pick => (k_is))
    (case l_l_choice => (k_is))
    (case cI_l_choice => (k_is))
    (case k_l_choice => (k_is))
    (case l_l_mingled => (k_is))
    (case cI_l_mingled => (k_is))
    (case k_l_mingled => (k_is))
    (case l_l_new_name => (k_is))
    (case cI_l_new_name => (k_is))
    (case k_l_new_name => (k_is))
    (case l_l_standing => (k_is))
    (case cI_l_standing => (k_is))
    (case k_l_standing => (k_is))
    (case l_l_tracks => (k_is))
    (case cI_l_tracks => (k_is))
    (case k_l_tracks => (k_is))
    (case l_l_numbers => (k_is))
    (case cI_l_numbers => (k_is))
    (case k_l_numbers => (k_is))
    (case l_l_world => (k_is))
    (case cI_l_world => (k_is))
    (case k_l_world => (k_is))
    (case l_l_rows => (k_is))
    (case cI_l_rows => (k_is))
    (case k_l_rows => (k_is))
    (case l_l_further => (k_is))
    (case cI_l_further => (k_is))
    (case k_l_further => (k_is))
    (case l_l_both => (k_is))
    (case cI_l_both => (k_is))
    (case k_l_both => (k_is))
    (case l_l_one_change => (k_is))
    (case cI_l_one_change => (k_is))
    (case k_l_one_change => (k_is))
    (case l_l_days_tell => (k_is))
    (case cI_l_days_tell => (k_is))
    (case k_l_days_tell => (k_is))
    (case l_l_due => (k_is))
    (case cI_l_due => (k_is))
    (case k_l_due => (k_is))
    (case l_law => (k_is))
    (case cI_law => (k_is))
    (case k_law => (k_is))
    (case xL_BadNumber => (k_is))
    (case rx_BadNumber => (decide +kernel))
    (case sx_BadNumber => (k_is))
    (case eC_BadNumber => (k_is))
    (case tC_BadNumber => (k_is))
    (case kE_BadNumber => (k_is))
    (case nx_BadNumber => (k_is))
    (case tx_BadNumber => (k_is))
    (case pg_Sheet => (k_is))
    (case hd_Sheet => (k_is))
    (case po_Sheet => (k_is))
    (case sa_Sheet => (k_is))
    (case na_Sheet__rows => (k_is))
    (case na_Sheet__standing => (k_is))
    (case na_Sheet__signs => (k_is))
    (case na_Sheet__rules => (k_is))
    (case i_Sheet_sign_of => (k_is))
    (case i_Sheet_rule_of => (k_is))
    (case i_Sheet_life_of => (k_is))
    (case i_Sheet_code_of => (k_is))
    (case ms_Sheet => (k_is))
    (case i_Sheet_XinitX => (k_is))
    (case kC_Sheet => (k_is))
    (case sf_Sheet => (k_is))
    (case ac_LAST_DAY => (k_is))
    (case ac_LETTERS => (k_is))
    (case ac_MOST_DAYS => (k_is))
    (case ac_MOST_NUMBER => (k_is))
    (case ac_NAME_LETTERS => (k_is))
    (case z_abs => (k_is))
    (case z_all => (k_is))
    (case z_bool => (k_is))
    (case z_enumerate => (k_is))
    (case z_int => (k_is))
    (case z_isinstance => (k_is))
    (case z_iter => (k_is))
    (case z_len => (k_is))
    (case z_list => (k_is))
    (case z_range => (k_is))
    (case z_reversed => (k_is))
    (case z_sorted => (k_is))
    (case z_str => (k_is))
    (case z_tuple => (k_is))
    (case kc_Sheet => (k_is))
    (case kn_obj => (k_is))
    (case kt_obj => (k_is))
    (case km_Sheet => (k_is))
    (case i_Sheet_XiterX => (k_is))
    (case i_Sheet_XlenX => (k_is))
    (case if_or_Sheet => (k_is))
