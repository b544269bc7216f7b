import PyProof.Rows.All
import Wide.All
import OpenK.AllK
import Wide.FinOn
import HandS.ForMost
import HandS.Exc
import HandS.TryOnly
import HandS.TryMany
import HandS.ExcInit
import HandS.ExcField
import HandS.ExcIs
import HandS.IsInst
import HandS.WordsExc
import HandS.OwnEq
import HandS.Flow
import HandS.Style
import HandS.Strs
import HandS.Conv
import HandS.SetKeys
import HandS.DictComp
import HandS.TupLe
import HandS.TupAny
import HandS.Defaults
import HandS.Wide
import HandS.EndBits
import HandS.SortInts
import HandS.Walk
import HandS.Rev
import HandS.Evl
import KE.KOpsOwn
import HandS.ExcCtx
import HandS.HotCalls
import KE.KExcIs
import PySem.Challenge.RW_duehouse_k02_who_stands
/-! DhBase -/
set_option Elab.async false
set_option linter.all false
set_option maxRecDepth 100000
set_option maxHeartbeats 4000000
namespace Dh
open PySem PySem.Spec L2

/-! ### own operators of an instance -/
section
variable {X : Cx} {CX : CXT} {k : Nat} {f C : Addr} {fd : FuncData} {ps : List Str} {sp : Sp} {E : XK}
def rOwn (C : Addr) (sp : Sp) (E : XK) : R2 := fun x y H Q => ∃ a dx fs, x = .ref a ∧ H a = some (.ins C dx fs) ∧ sp [x, y] H Q E
theorem cmpBack_of {pins : List (Addr × Obj)} {σ : L2.St} {Q : VK} {u : Value} {s : Shared} (h : EP X pins σ Q u s) : PySem.W.CmpBack (EP X pins σ Q) u s := by
  cases u with
  | notImplemented =>
    obtain ⟨v, H', _, r, _⟩ := h
    cases v
    · cases r
    · cases r
    · obtain ⟨_, e⟩ := r; cases e
    · obtain ⟨_, e⟩ := r; cases e
    · obtain ⟨_, e⟩ := r; cases e
    · obtain ⟨_, e⟩ := r; cases e
    · cases r
    · cases r
  | _ => exact h
theorem ip_own {op : Operator} (F : FnOk X.prog X.w X.K X.mg X.base CX k f fd ps sp) (hr : Room k X.A) (hc : PySem.W.selfFirst X.K C = true)
    (hs : PySem.W.findIn X.K (.ref C) (PySem.dunderI op.info.2) = some (some (.ref f))) (hf : PySem.W.isFn X.K (.ref f) = true) (hb : Binds X.K fd ps []) (hx : Passes CX X E) : PIp X op (rOwn C sp E) := by
  intro pins s σ H x y v u Q I rx ry h
  obtain ⟨a, dx, fs, rfl, ha, hsp⟩ := h
  obtain rfl : v = Value.ref a := rx
  obtain ⟨mA, J, _⟩ := ins_get I.hok ha
  obtain ⟨od, J, _⟩ := J.look
  obtain ⟨m, hF⟩ := I.fr
  refine PySem.W.ksp_inplace hF I.ok.mod.kin J hc hs hf ?_
  refine wpAny_mono (run_fn (us := [.ref a, u]) (ds := []) (dvs := []) F hr hb .nil hx I (.cons (show RelV (.ref a) (.ref a) from rfl) (.cons ry .nil)) (by simpa using hsp)) (fun u s' q => cmpBack_of q) fun _ _ e => e
end

/-! ### small operators -/
section
variable {X : Cx}
theorem op_mul_ib : OpR X (binaryOp .Mult) (fun x y H Q => ∃ i k, x = .int i ∧ y = .bl k ∧ Q (.int (i * (if k = true then 1 else 0))) H) := by
  intro pins s σ H x y v u Q I rx ry h
  obtain ⟨i, k, rfl, rfl, q⟩ := h
  obtain ⟨t, rfl⟩ := rx
  obtain rfl : u = Value.bool k := ry
  exact PySem.IntBool.mul_int_bool ⟨.int (i * (if k = true then 1 else 0)), H, I.tok _, ⟨_, rfl⟩, q⟩
end
end Dh
namespace Ob
open PySem PySem.SeqAt
open AutoSeq1 (wpAny_loadPart')
open MeetsSeq MeetsSeq2 MeetsSeq3 SeqRoads2
/-- t <= u of two tuples whose first items are told apart -/
theorem tuple_leFirst (l b : Addr) (items items2 : Array Value) (n n2 : Nat) (dd dd2 : Option Addr) (sl sl2 : Array (Option Value)) (r : Bool) (h1 : 0 < items.size) (h2 : 0 < items2.size) :
    Meets (Builtin.«tuple.__le__» ⟨[.ref l, .ref b], []⟩)
      (fun A R s => s.heap.get? l = some { cls := .type "tuple", dict := dd, data := .seq items n, slots := sl } ∧ s.heap.get? b = some { cls := .type "tuple", dict := dd2, data := .seq items2 n2, slots := sl2 } ∧
        EqAt A.in1 s items[0] items2[0] false ∧ RcOp .LtE A.in1 s items[0] items2[0] r ∧ R (.ok (.ret (.bool r))) s) :=
  .of_wp fun prog w A R s h => by
    obtain ⟨hp, g, d, tk, os⟩ := s; obtain ⟨hl, hb, he, hr, h⟩ := h
    have f2 := AutoSeq1.sub_tuple_tuple
    have hZ : (items.toList.zip items2.toList).length = min items.size items2.size := by simp
    have hlt : 0 < (items.toList.zip items2.toList).length := by rw [hZ]; omega
    wp_walk using wpAny_loadPart' hl, wpAny_loadPart' hb, wpAny_forIn_list _ (fun rest b s' => b.1 = none ∧ s' = ⟨hp, g, d, tk, os⟩ ∧ rest = (items.toList.zip items2.toList)) _
    case turn =>
      rintro ⟨y, x⟩ rest b s' ⟨hb', rfl, hz⟩
      have hz' : (y, x) :: rest = (items.toList.zip items2.toList).drop 0 := by rw [List.drop_zero]; exact hz
      rw [List.drop_eq_getElem_cons hlt] at hz'
      injection hz' with hyx hrest
      have hy : y = items[0] := by have := congrArg Prod.fst hyx; simpa using this
      have hx : x = items2[0] := by have := congrArg Prod.snd hyx; simpa using this
      subst hy hx
      refine wpAny_bind (he prog w _ _ ?_)
      have hri := hr prog w
      wp_walk using hri
      exact ⟨_, rfl, h⟩
    case fin =>
      rintro ⟨b1, b2⟩ s' ⟨hb', rfl, hz⟩
      rw [← hz] at hlt
      exact absurd hlt (by simp)
    case h =>
      exact ⟨rfl, rfl, rfl⟩
theorem RcOp.tuples_leF {A : Around} {s : Shared} {l b : Addr} {items items2 : Array Value} {r : Bool} (hl : s.heap.IsTuple l items) (hb : s.heap.IsTuple b items2) (hu : A.units < cLine) (h1 : 0 < items.size) (h2 : 0 < items2.size)
    (he : EqAt A.in1 s items[0] items2[0] false) (hr : RcOp .LtE A.in1 s items[0] items2[0] r) :
    RcOp .LtE A s (.ref l) (.ref b) r := fun prog w E Q h => by
  obtain ⟨⟨cls, dd, data, sl⟩, ho, hc, n, hd⟩ := id hl
  obtain ⟨⟨cls2, dd2, data2, sl2⟩, ho2, hc2, n2, hd2⟩ := id hb
  simp only at hc hd hc2 hd2
  subst hc hd hc2 hd2
  exact richCompare_meets_room (op := .LtE) ⟨_, ho, rfl⟩ ⟨_, ho2, rfl⟩ F.slot_tuple_le F.entry_tuple_le (F.args_tuple_le_2 _ _) (tuple_leFirst l b items items2 n n2 dd dd2 sl sl2 r h1 h2)
    ⟨ho, ho2, he, hr, ⟨(fun x => nomatch x), h⟩⟩ hu
end Ob
namespace Dh
open PySem PySem.Spec L2
/-- t <= u, their first items two different ints -/
def rLeF (K : PySem.W.Frag) : R2 := fun x y H Q => ∃ (a b : Addr) (i j : Int) (xs ys : List V), x = .ref a ∧ y = .ref b ∧ SqT K H a (.int i :: xs) ∧ SqT K H b (.int j :: ys) ∧ i ≠ j ∧ Q (.bl (decide (i ≤ j))) H
theorem op_leF {X : Cx} (hu : X.A.units < cLine) : OpR X (compareOp .LtE) (rLeF X.K) := by
  intro pins s σ H x y v u Q I rx ry h
  obtain ⟨a, b, i, j, xs, ys, rfl, rfl, ha, hb, ne, q⟩ := h
  obtain rfl : v = Value.ref a := rx
  obtain rfl : u = Value.ref b := ry
  obtain ⟨its, r1, p1, _⟩ := I.tuple ha
  obtain ⟨its2, r2, p2, _⟩ := I.tuple hb
  cases r1 with
  | cons q1 t1 =>
    cases r2 with
    | cons q2 t2 =>
      rename_i u1 us1 u2 us2
      obtain ⟨t, rfl⟩ := q1
      obtain ⟨t', rfl⟩ := q2
      have R := Ob.RcOp.tuples_leF (A := X.A) (s := s) (r := decide (i ≤ j)) p1 p2 hu (by simp) (by simp) (by
          have z : (i == j) = false := beq_eq_false_iff_ne.mpr ne
          have := SeqAt.EqAt.int_int (A := X.A.in1) (s := s) i t j t'
          rw [z] at this
          simpa using this) (by simpa using Ob.RcOp.le_int _ _ _ _)
      exact R X.prog X.w X.xe (EP X pins σ Q) ⟨.bl _, H, I, rfl, q⟩
end Dh
namespace Dh
open PySem PySem.Spec L2
/-! ### the calls of built-ins, by names -/
def rInt1 : List V → Hp → VK → Prop := fun xs H Q => (∃ i, xs = [.int i] ∧ Q (.int i) H) ∨ ∃ k, xs = [.bl k] ∧ Q (.int (if k then 1 else 0)) H
def rAbs : List V → Hp → VK → Prop := fun xs H Q => ∃ i, xs = [.int i] ∧ Q (.int (if i < 0 then -i else i)) H
def rLenQ (K : PySem.W.Frag) : List V → Hp → VK → Prop := fun xs H Q => ∃ p ys, xs = [.ref p] ∧ (SqL K H p ys ∨ SqT K H p ys) ∧ Q (.int ys.length) H
def rLenS : List V → Hp → VK → Prop := fun xs H Q => ∃ z, xs = [.str z] ∧ z.length ≤ sizeLine ∧ Q (.int z.length) H
def rLenD : List V → Hp → VK → Prop := fun xs H Q => ∃ a kvs, xs = [V.ref a] ∧ H a = some (.dK kvs) ∧ Q (.int kvs.length) H
def rListQ (K : PySem.W.Frag) : List V → Hp → VK → Prop := fun xs H Q => ∃ p ys, xs = [.ref p] ∧ (SqL K H p ys ∨ SqT K H p ys) ∧ ∀ l, H l = none → Q (.ref l) (upd H l (.lst ys))
def rTupQ (K : PySem.W.Frag) : List V → Hp → VK → Prop := fun xs H Q => ∃ p ys, xs = [.ref p] ∧ ((SqL K H p ys ∧ ∀ l, H l = none → Q (.ref l) (upd H l (.tup ys))) ∨ (SqT K H p ys ∧ Q (.ref p) H))
section
variable {X : Cx}
theorem cl_int : CallR X (.type "int") rInt1 := call_int1
theorem cl_abs : CallR X (.builtin "abs") rAbs := call_abs
theorem cl_len : CallR X (.builtin "len") (rLenQ X.K) := call_len_seq
theorem cl_lenS : CallR X (.builtin "len") rLenS := call_len_str
theorem cl_lenD : CallR X (.builtin "len") rLenD := call_lenD
theorem cl_list : CallR X (.type "list") (rListQ X.K) := call_list_of
theorem cl_tuple : CallR X (.type "tuple") (rTupQ X.K) := call_tuple_of
def rAddIB : R2 := fun x y H Q => ∃ i k, x = .int i ∧ y = .bl k ∧ Q (.int (i + PyProof.Rows.b2i k)) H
def rMulIB : R2 := fun x y H Q => ∃ i k, x = .int i ∧ y = .bl k ∧ Q (.int (i * (if k = true then 1 else 0))) H
theorem op_addIB : OpR X (binaryOp .Add) rAddIB := op_add_ib
theorem op_mulIB : OpR X (binaryOp .Mult) rMulIB := op_mul_ib
def rAddS : R2 := fun x y H Q => ∃ i j : Str, x = .str i ∧ y = .str j ∧ i.length + j.length ≤ sizeLine ∧ Q (.str (i.append j)) H
end
end Dh
namespace Dh
open PySem PySem.Spec L2
open _root_.Evl (Ex)
/-! ### numbers -/
theorem int_eq {i j : Int} : decide (V.int i = V.int j) = decide (i = j) := by simp
theorem str_eq {i j : Str} : decide (V.str i = V.str j) = decide (i = j) := by simp
theorem fmod_lt {a m : Int} (h : 0 < m) : 0 ≤ a.fmod m ∧ a.fmod m < m := by
  rw [Int.fmod_eq_emod_of_nonneg _ (Int.le_of_lt h)]
  exact ⟨Int.emod_nonneg _ (by omega), Int.emod_lt_of_pos _ h⟩
theorem cm_fmod {a m j : Int} (h0 : 0 < m) (h1 : m ≤ 18446744073709551616) : CMul (a.fmod m) j := by
  have := fmod_lt (a := a) h0
  exact Or.inl ⟨by omega, by omega⟩
theorem atI_lt {α : Type} {xs : List α} {i : Int} (h0 : 0 ≤ i) (h1 : i < xs.length) : ∃ v, atI xs i = some v ∧ xs[i.toNat]? = some v := by
  obtain ⟨j, rfl⟩ := Int.eq_ofNat_of_zero_le h0
  have hj : j < xs.length := by omega
  exact ⟨xs[j], atI_nat (by simp [hj]), by simp [hj]⟩
theorem atI_ints {ns : List Int} {i : Int} (h0 : 0 ≤ i) (h1 : i < ns.length) : ∃ z, atI (ns.map V.int) i = some (.int z) ∧ ns[i.toNat]? = some z := by
  obtain ⟨v, h, e⟩ := atI_lt (xs := ns.map V.int) h0 (by simpa using h1)
  rw [List.getElem?_map] at e
  cases q : ns[i.toNat]? with
  | none => rw [q] at e; cases e
  | some z => rw [q] at e; cases e; exact ⟨z, h, rfl⟩
theorem erase_perm {α : Type} : ∀ {l : List α} {n : Nat} {y : α}, l[n]? = some y → (y :: l.eraseIdx n).Perm l
  | [], _, _, h => by simp at h
  | a :: l, 0, y, h => by simp at h; subst h; simp
  | a :: l, n + 1, y, h => by
    have ih := erase_perm (l := l) (n := n) (y := y) (by simpa using h)
    rw [List.eraseIdx_cons_succ]
    exact (List.Perm.swap _ _ _).trans (ih.cons a)
/-! ### a reading, step by step -/
section
variable {σ : L2.St} {H : Hp} {Q : VK} {v : V} {ta tb te : TE} {r : R2} {D : Ends} {t u : TS} {K : PySem.W.Frag}
theorem i_var {i : Nat} (h : σ[i]? = some (some v)) (k : Q v H) : tVar i σ H Q := ⟨v, h, k⟩
theorem i_c (k : Q v H) : tC v σ H Q := k
theorem i_op (k : ta σ H fun x H1 => tb σ H1 fun y H2 => r x y H2 Q) : tOp r ta tb σ H Q := k
theorem i_un {q : V → Hp → VK → Prop} (k : ta σ H fun x H1 => q x H1 Q) : tUn q ta σ H Q := k
theorem i_cb {q : List V → Hp → VK → Prop} {a : TA} (k : a σ H fun vs H1 => q vs H1 Q) : tCB q a σ H Q := k
theorem i_nil {q : List V → Hp → Prop} (k : q [] H) : tNil σ H q := k
theorem i_cons {a : TA} {q : List V → Hp → Prop} (k : ta σ H fun x H1 => a σ H1 fun xs H2 => q (x :: xs) H2) : tCons ta a σ H q := k
theorem i_call {sp : Sp} {E : XK} {a : TA} (k : a σ H fun vs H1 => sp (vs ++ []) H1 Q E) : tCall sp [] E a σ H Q := k
theorem i_call' {sp : Sp} {E : XK} {vs : List V} (k : sp vs H Q E) : sp (vs ++ []) H Q E := by rw [List.append_nil]; exact k
theorem i_I0 {g : Int → Int → V} {i j : Int} (k : Q (g i j) H) : rI0 g (.int i) (.int j) H Q := ⟨i, j, rfl, rfl, k⟩
theorem i_I {C : Int → Int → Prop} {g : Int → Int → V} {i j : Int} (c : C i j) (k : Q (g i j) H) : rI C g (.int i) (.int j) H Q := ⟨i, j, rfl, rfl, c, k⟩
theorem i_eqI {i j : Int} (k : Q (.bl (decide (i = j))) H) : rEq (.int i) (.int j) H Q := ⟨rfl, by rw [int_eq]; exact k⟩
theorem i_neI {i j : Int} (k : Q (.bl (!decide (i = j))) H) : rNe (.int i) (.int j) H Q := ⟨rfl, by rw [int_eq]; exact k⟩
theorem i_eqS {i j : Str} (k : Q (.bl (decide (i = j))) H) : rEq (.str i) (.str j) H Q := ⟨rfl, by rw [str_eq]; exact k⟩
theorem i_neS {i j : Str} (k : Q (.bl (!decide (i = j))) H) : rNe (.str i) (.str j) H Q := ⟨rfl, by rw [str_eq]; exact k⟩
theorem i_eq {x y : V} (s : scal x y = true) (k : Q (.bl (decide (x = y))) H) : rEq x y H Q := ⟨s, k⟩
theorem i_ne {x y : V} (s : scal x y = true) (k : Q (.bl (!decide (x = y))) H) : rNe x y H Q := ⟨s, k⟩
theorem i_int1 {i : Int} (k : Q (.int i) H) : rInt1 [.int i] H Q := .inl ⟨i, rfl, k⟩
theorem i_abs {i : Int} (k : Q (.int (if i < 0 then -i else i)) H) : rAbs [.int i] H Q := ⟨i, rfl, k⟩
theorem i_addIB {i : Int} {c : Bool} (k : Q (.int (i + PyProof.Rows.b2i c)) H) : rAddIB (.int i) (.bl c) H Q := ⟨i, c, rfl, rfl, k⟩
theorem i_mulIB {i : Int} {c : Bool} (k : Q (.int (i * (if c = true then 1 else 0))) H) : rMulIB (.int i) (.bl c) H Q := ⟨i, c, rfl, rfl, k⟩
theorem i_listL {p : Addr} {xs : List V} (h : SqL K H p xs) (k : ∀ l, H l = none → Q (.ref l) (upd H l (.lst xs))) : rListQ K [.ref p] H Q := ⟨p, xs, rfl, .inl h, k⟩
theorem i_listT {p : Addr} {xs : List V} (h : SqT K H p xs) (k : ∀ l, H l = none → Q (.ref l) (upd H l (.lst xs))) : rListQ K [.ref p] H Q := ⟨p, xs, rfl, .inr h, k⟩
theorem i_tupL {p : Addr} {xs : List V} (h : SqL K H p xs) (k : ∀ l, H l = none → Q (.ref l) (upd H l (.tup xs))) : rTupQ K [.ref p] H Q := ⟨p, xs, rfl, .inl ⟨h, k⟩⟩
theorem i_lenD {p : Addr} {xs : List (Key × V)} (h : H p = some (.dK xs)) (k : Q (.int xs.length) H) : rLenD [.ref p] H Q := ⟨p, xs, rfl, h, k⟩
theorem i_ixL {p : Addr} {xs : List V} {i : Int} (h : SqL K H p xs) (a : atI xs i = some v) (k : Q v H) : rIxL K (.ref p) (.int i) H Q := ⟨p, xs, i, v, rfl, rfl, h, a, k⟩
theorem i_ixT {p : Addr} {xs : List V} {i : Int} (h : SqT K H p xs) (a : atI xs i = some v) (k : Q v H) : rIxT K (.ref p) (.int i) H Q := ⟨p, xs, i, v, rfl, rfl, h, a, k⟩
theorem i_lenL {p : Addr} {xs : List V} (h : SqL K H p xs) (k : Q (.int xs.length) H) : rLenQ K [.ref p] H Q := ⟨p, xs, rfl, .inl h, k⟩
theorem i_lenT {p : Addr} {xs : List V} (h : SqT K H p xs) (k : Q (.int xs.length) H) : rLenQ K [.ref p] H Q := ⟨p, xs, rfl, .inr h, k⟩
theorem i_lenS {z : Str} (h : z.length ≤ sizeLine) (k : Q (.int z.length) H) : rLenS [.str z] H Q := ⟨z, rfl, h, k⟩
theorem i_tup {a : TA} (k : a σ H fun xs H1 => xs.length ≤ sizeLine ∧ ∀ p, H1 p = none → Q (.ref p) (upd H1 p (.tup xs))) : tTup a σ H Q := k
theorem i_lst {a : TA} (k : a σ H fun xs H1 => xs.length ≤ sizeLine ∧ ∀ p, H1 p = none → Q (.ref p) (upd H1 p (.lst xs))) : tLst a σ H Q := k
theorem i_seq (k : t { D with nx := u D } σ H) : tSeq t u D σ H := k
theorem i_asg {i : Nat} (k : te σ H fun x H1 => D.nx (σ.set i (some x)) H1) : tAsg te (gName i) D σ H := k
theorem i_asgG {g : TG} (k : te σ H fun x H1 => g x σ H1 D.nx) : tAsg te g D σ H := k
theorem i_gname {i : Nat} {q : L2.St → Hp → Prop} (k : q (σ.set i (some v)) H) : gName i v σ H q := k
theorem i_gsub {to ti : TE} {s : TSet} {q : L2.St → Hp → Prop} (k : to σ H fun o H1 => ti σ H1 fun i H2 => s o i v H2 fun H3 => q σ H3) : gSub to ti s v σ H q := k
theorem i_setL {p : Addr} {xs : List V} {i : Int} {j : Nat} {q : Hp → Prop} (h : H p = some (.lst xs)) (a : ixN xs.length i = some j) (k : q (upd H p (.lst (xs.set j v)))) : rSetL (.ref p) (.int i) v H q := ⟨p, xs, i, j, rfl, rfl, h, a, k⟩
theorem i_ret (k : te σ H D.rt) : tRet te D σ H := k
theorem i_drop (k : te σ H fun _ H1 => D.nx σ H1) : tDrop te D σ H := k
theorem i_ifS {c : TT} (k : c σ H fun b H1 => if b = true then t D σ H1 else u D σ H1) : tIfS c t u D σ H := k
theorem i_next (k : D.nx σ H) : tNext D σ H := k
theorem i_test {q : Bool → Hp → Prop} (k : te σ H fun x H1 => ∃ b, x = .bl b ∧ q b H1) : tTest te σ H q := k
theorem i_B {q : Bool → Hp → Prop} (k : te σ H fun x H1 => ∃ b, x = .bl b ∧ q b H1) : tB te σ H q := k
theorem i_bl {b : Bool} {p : Bool → Prop} (k : p b) : ∃ b', V.bl b = .bl b' ∧ p b' := ⟨b, rfl, k⟩
theorem i_not {c : TT} {q : Bool → Hp → Prop} (k : c σ H fun b H1 => q (!b) H1) : tNot c σ H q := k
theorem i_and {c d : TT} {q : Bool → Hp → Prop} (k : c σ H fun b H1 => if b = true then d σ H1 q else q false H1) : tAnd c d σ H q := k
theorem i_or {c d : TT} {q : Bool → Hp → Prop} (k : c σ H fun b H1 => if b = true then q true H1 else d σ H1 q) : tOr c d σ H q := k
theorem i_app {l : Addr} {xs : List V} {y : V} (h : H l = some (.lst xs)) (z : xs.length < sizeLine) (k : Q .non (upd H l (.lst (xs ++ [y])))) : rAppend (.ref l) [y] H Q := ⟨l, xs, y, rfl, rfl, h, z, k⟩
theorem i_bm {T : String} {q : V → List V → Hp → VK → Prop} {a : TA} (k : te σ H fun x H1 => tyV K T x H1 ∧ a σ H1 fun xs H2 => q x xs H2 Q) : tBM K T q te a σ H Q := k
theorem i_sl {r : V → Option Int → Option Int → Hp → VK → Prop} {tl th : TO} (k : te σ H fun x H1 => tl σ H1 fun l H2 => th σ H2 fun u H3 => r x l u H3 Q) : tSl r te tl th σ H Q := k
theorem i_nopart {q : Option Int → Hp → Prop} (k : q none H) : tNoPart σ H q := k
theorem i_part {q : Option Int → Hp → Prop} (k : te σ H fun x H1 => ∃ i, x = .int i ∧ q (some i) H1) : tPart te σ H q := k
theorem i_isint {i : Int} {p : Int → Prop} (k : p i) : ∃ i', V.int i = .int i' ∧ p i' := ⟨i, rfl, k⟩
theorem i_slL {p : Addr} {xs : List V} {lo hi : Option Int} (h : SqL K H p xs) (k : ∀ q, H q = none → Q (.ref q) (upd H q (.lst (cutV xs lo hi)))) : rSlL K (.ref p) lo hi H Q := ⟨p, xs, rfl, h, k⟩
theorem i_slS {z : Str} {lo hi : Option Int} (h : z.length ≤ sizeLine) (k : Q (.str (cutS z lo hi)) H) : rSlS (.str z) lo hi H Q := ⟨z, rfl, h, k⟩
theorem i_gtup {n : Nat} {t : TGs} {p : Addr} {xs : List V} {q : L2.St → Hp → Prop} (h : SqT K H p xs) (l : xs.length = n) (k : t xs σ H q) : gTup K n t (.ref p) σ H q := ⟨p, xs, rfl, h, l, k⟩
theorem i_gcons {t : TG} {u : TGs} {r : List V} {q : L2.St → Hp → Prop} (k : t v σ H fun σ' H' => u r σ' H' q) : gCons t u (v :: r) σ H q := ⟨v, r, rfl, k⟩
theorem i_gnil {q : L2.St → Hp → Prop} (k : q σ H) : gNil [] σ H q := ⟨rfl, k⟩
theorem i_ty {l : Addr} {xs : List V} {p : Prop} (h : H l = some (.lst xs)) (k : p) : tyV K "list" (.ref l) H ∧ p := ⟨.inl ⟨rfl, _, .inl (.inl h)⟩, k⟩
theorem i_popN {l : Addr} {xs : List V} {i : Int} (h : H l = some (.lst xs)) (h0 : 0 ≤ i) (h1 : i < xs.length) (h2 : xs.length < 1000000000) (k : ∀ y, xs[i.toNat]? = some y → Q y (upd H l (.lst (xs.eraseIdx i.toNat)))) : rPopAt (.ref l) [.int i] H Q := by
  obtain ⟨j, rfl⟩ := Int.eq_ofNat_of_zero_le h0
  have hj : j < xs.length := by omega
  refine ⟨l, xs, _, j, xs[j], rfl, rfl, h, by omega, by omega, ?_, by simp [hj], k _ (by simp [hj])⟩
  simp [seqIndex?]
  omega
theorem i_bm0 {T : String} {q : V → List V → Hp → VK → Prop} (k : te σ H fun x H1 => tyV K T x H1 ∧ q x [] H1 Q) : tBM0 K T q te σ H Q := k
theorem ty_l {l : Addr} {xs : List V} (h : H l = some (.lst xs)) : tyV K "list" (.ref l) H := .inl ⟨rfl, _, .inl (.inl h)⟩
theorem iteD {c A B : Prop} [Decidable c] (h1 : c → A) (h2 : ¬ c → B) : if decide c = true then A else B := by
  by_cases h : c
  · rw [if_pos (decide_eq_true h)]; exact h1 h
  · rw [if_neg (by simp [h])]; exact h2 h
theorem iteB {c : Bool} {A B : Prop} (h1 : c = true → A) (h2 : c = false → B) : if c = true then A else B := by
  cases c with
  | true => exact iteT (h1 rfl)
  | false => exact iteF (h2 rfl)
theorem i_ifJ {c : TT} (b : Bool) (h : ∀ q : Bool → Hp → Prop, q b H → c σ H q) (k : if b = true then t D σ H else u D σ H) : tIfS c t u D σ H := h _ k
theorem and_q {b1 b2 : Bool} {q : Bool → Hp → Prop} {X : Prop} (hq : q (b1 && b2) H) (hx : q b2 H → X) : if b1 = true then X else q false H := by
  cases b1 with
  | true => exact iteT (hx hq)
  | false => exact iteF hq
theorem or_q {b1 b2 : Bool} {q : Bool → Hp → Prop} {X : Prop} (hq : q (b1 || b2) H) (hx : q b2 H → X) : if b1 = true then q true H else X := by
  cases b1 with
  | true => exact iteT hq
  | false => exact iteF (hx hq)
theorem iteNT {A B : Prop} (h : B) : if (!true) = true then A else B := iteF h
theorem iteNF {A B : Prop} (h : A) : if (!false) = true then A else B := iteT h
theorem notF {c : Prop} [Decidable c] (h : ¬ c) : (!decide c) = true := by simp [h]
theorem notT {c : Prop} [Decidable c] (h : c) : (!decide c) = false := by simp [h]
theorem iteN {c A B : Prop} [Decidable c] (h1 : ¬ c → A) (h2 : c → B) : if (!decide c) = true then A else B := by
  by_cases h : c
  · rw [if_neg (by simp [h])]; exact h2 h
  · rw [if_pos (by simp [h])]; exact h1 h
theorem iteT' {c : Bool} {A B : Prop} (h : c = true) (k : A) : if c = true then A else B := by rw [if_pos h]; exact k
theorem iteF' {c : Bool} {A B : Prop} (h : c = false) (k : B) : if c = true then A else B := by rw [h]; exact iteF k
theorem upd_old {p a : Addr} {o u' : HO} (n : H p = none) (h : H a = some o) : upd H p u' a = some o := by rw [upd_ne (ne_of_none h n)]; exact h
theorem upd_oth {p a : Addr} {o u' : HO} (n : a ≠ p) (h : H a = some o) : upd H p u' a = some o := by rw [upd_ne n]; exact h
theorem ex_at {F : Hp} {a : Addr} {o : HO} (e : Ex F H) (h : F a = some o) : H a = some o := e _ _ h
theorem ex_by {F : Hp} {a : Addr} {o : HO} (h : F a = some o) (e : Ex F H) : H a = some o := e _ _ h
theorem ex_mut {F : Hp} {p : Addr} {o : HO} (n : F p = none) (e : Ex F H) : Ex F (upd H p o) := e.mut n
theorem ex_new {F : Hp} {p : Addr} {o : HO} (n : H p = none) (e : Ex F H) : Ex F (upd H p o) := e.trans (Ex.new n)
theorem ex_both {F : Hp} {p : Addr} {o : HO} (e : Ex F H) : Ex (upd F p o) (upd H p o) := fun a u h => by
  by_cases q : a = p
  · subst q; rw [upd_same] at h ⊢; exact h
  · rw [upd_ne q] at h ⊢; exact e a u h
theorem ex_none {F : Hp} {a : Addr} (e : Ex F H) (h : H a = none) : F a = none := _root_.Evl.fresh_back e h
end
end Dh
namespace Dh
open PySem PySem.Spec L2
open _root_.Evl (Ex)
/-! ### loops and comprehensions, over whatever is walked -/
section
variable {σ : L2.St} {H : Hp} {Q : VK} {K : PySem.W.Frag} {D : Ends} {g : TG} {tb : TS} {te tl : TE} {ta : TA} {tt : TT}
def ForG (n : Nat) (G : Hp → Prop) (Y : Nat → Hp → V → Hp → Prop) (g : TG) (tb : TS) (D : Ends) (σ : L2.St) (H : Hp) : Prop :=
  ∃ Pv : Nat → L2.St → Hp → Prop, Pv 0 σ H ∧ (∀ i σ H, i ≤ n → Pv i σ H → G H) ∧
    (∀ i x σ H H', i < n → Pv i σ H → Y i H x H' → g x σ H' fun σ2 H2 => tb { D with nx := Pv (i + 1), ct := Pv (i + 1), bk := D.nx } σ2 H2) ∧ ∀ σ H, Pv n σ H → D.nx σ H
def LcG (n : Nat) (G : Hp → Prop) (Y : Nat → Hp → V → Hp → Prop) (g : TG) (tt : TT) (te : TE) (vs : List Nat) (σ : L2.St) (H1 : Hp) (Q : VK) : Prop :=
  ∀ Dl, H1 Dl = none → ∃ Pv : Nat → Hp → Prop, Pv 0 (upd H1 Dl (.lst [])) ∧ (∀ i H, i ≤ n → Pv i H → G H) ∧
    (∀ i x H H', i < n → Pv i H → Y i H x H' → g x (wipe σ vs) H' fun σ2 H2 => wipe σ2 vs = wipe σ vs ∧ tt σ2 H2 fun b H3 =>
      if b = true then te σ2 H3 fun y H4 => ∃ acc, H4 Dl = some (.lst acc) ∧ acc.length < sizeLine ∧ Pv (i + 1) (upd H4 Dl (.lst (acc ++ [y]))) else Pv (i + 1) H3) ∧ ∀ H, Pv n H → Q (.ref Dl) H
/-- the raw turn of a for over J from (σ, H1), of a comprehension -/
def RawF (J : It) (g : TG) (tb : TS) (D : Ends) (σ : L2.St) (H1 : Hp) : Prop := ∃ W : Nat → Nat → L2.St → Hp → Prop, (∃ m, W 0 m σ H1) ∧ ∀ i m σ H, W i m σ H →
  (J.stop i H ∧ D.nx σ H) ∨ (J.go i H ∧ ∃ N : L2.St → Hp → Prop, (∀ σ' H', N σ' H' → ∃ m', m' < m ∧ W (i + 1) m' σ' H') ∧ ∀ x H', J.yld i H x H' → g x σ H' fun σ2 H2 => tb { D with nx := N, ct := N, bk := D.nx } σ2 H2)
def RawC (J : It) (g : TG) (tt : TT) (te : TE) (vs : List Nat) (σ : L2.St) (H1 : Hp) (Q : VK) : Prop := ∀ D, H1 D = none → ∃ W : Nat → Nat → Hp → Prop, (∃ m, W 0 m (upd H1 D (.lst []))) ∧ ∀ i m H, W i m H →
  (J.stop i H ∧ Q (.ref D) H) ∨ (J.go i H ∧ ∃ Nx : Hp → Prop, (∀ H', Nx H' → ∃ m', m' < m ∧ W (i + 1) m' H') ∧ ∀ x H', J.yld i H x H' → g x (wipe σ vs) H' fun σ2 H2 => wipe σ2 vs = wipe σ vs ∧ tt σ2 H2 fun b H3 =>
    if b = true then te σ2 H3 fun y H4 => ∃ acc, H4 D = some (.lst acc) ∧ acc.length < sizeLine ∧ Nx (upd H4 D (.lst (acc ++ [y]))) else Nx H3)
def AtL (K : PySem.W.Frag) (R : It → Hp → Prop) (x : V) (H1 : Hp) : Prop := ∃ a, x = .ref a ∧ (∃ xs, SqL K H1 a xs) ∧ R (Itl K a) H1
def AtT (K : PySem.W.Frag) (R : It → Hp → Prop) (x : V) (H1 : Hp) : Prop := ∃ a, x = .ref a ∧ (∃ xs, SqT K H1 a xs) ∧ R (Itt K a) H1
def AtR1 (R : It → Hp → Prop) (vs : List V) (H1 : Hp) : Prop := ∃ j : Int, vs = [.int j] ∧ -(2 ^ 62) ≤ j ∧ j < 2 ^ 62 ∧ R (Itr 0 j.toNat) H1
def AtR2 (R : It → Hp → Prop) (vs : List V) (H1 : Hp) : Prop := ∃ i j : Int, vs = [.int i, .int j] ∧ (-(2 ^ 62) ≤ i ∧ i < 2 ^ 62 ∧ -(2 ^ 62) ≤ j ∧ j < 2 ^ 62) ∧ R (Itr i (j - i).toNat) H1
def AtE (K : PySem.W.Frag) (R : It → Hp → Prop) (vs : List V) (H1 : Hp) : Prop := ∃ a xs, vs = [.ref a] ∧ SqL K H1 a xs ∧ R (Ite K a) H1
def AtV (K : PySem.W.Frag) (R : It → Hp → Prop) (vs : List V) (H1 : Hp) : Prop := ∃ (a : Addr) (xs : List V), vs = [.ref a] ∧ SqL K H1 a xs ∧ R (Itv K a xs.length) H1
def AtS (R : It → Hp → Prop) (v : V) (H1 : Hp) : Prop := ∃ x, v = .str x ∧ R (Its x) H1
def AtK (R : It → Hp → Prop) (x : V) (H1 : Hp) : Prop := ∃ d o, x = .ref d ∧ ((∃ kvs, H1 d = some (.frz o (.dK kvs)) ∧ R (Itk d o kvs) H1) ∨ ∃ kvs, H1 d = some (.frz o (.dT kvs)) ∧ R (Itkt d o kvs) H1)
theorem i_forL (k : tl σ H (AtL K (RawF · g tb D σ ·))) : tFor (iList K tl) g tb D σ H := k
theorem i_forT (k : tl σ H (AtT K (RawF · g tb D σ ·))) : tFor (iTup K tl) g tb D σ H := k
theorem i_forR (k : ta σ H (AtR1 (RawF · g tb D σ ·))) : tFor (iRng1 ta) g tb D σ H := k
theorem i_forR2 (k : ta σ H (AtR2 (RawF · g tb D σ ·))) : tFor (iRng2 ta) g tb D σ H := k
theorem i_forE (k : ta σ H (AtE K (RawF · g tb D σ ·))) : tFor (iEnum K ta) g tb D σ H := k
theorem i_forV (k : ta σ H (AtV K (RawF · g tb D σ ·))) : tFor (iRev K ta) g tb D σ H := k
theorem i_forS (k : tl σ H (AtS (RawF · g tb D σ ·))) : tFor (iStr tl) g tb D σ H := k
theorem i_forK (k : tl σ H (AtK (RawF · g tb D σ ·))) : tFor (iKeys tl) g tb D σ H := k
theorem i_lcL {vs : List Nat} (k : tl σ H (AtL K (RawC · g tt te vs σ · Q))) : tLc (iList K tl) g tt te vs σ H Q := k
theorem i_lcT {vs : List Nat} (k : tl σ H (AtT K (RawC · g tt te vs σ · Q))) : tLc (iTup K tl) g tt te vs σ H Q := k
theorem i_lcR {vs : List Nat} (k : ta σ H (AtR1 (RawC · g tt te vs σ · Q))) : tLc (iRng1 ta) g tt te vs σ H Q := k
theorem i_lcR2 {vs : List Nat} (k : ta σ H (AtR2 (RawC · g tt te vs σ · Q))) : tLc (iRng2 ta) g tt te vs σ H Q := k
theorem i_lcS {vs : List Nat} (k : tl σ H (AtS (RawC · g tt te vs σ · Q))) : tLc (iStr tl) g tt te vs σ H Q := k
theorem i_lcK {vs : List Nat} (k : tl σ H (AtK (RawC · g tt te vs σ · Q))) : tLc (iKeys tl) g tt te vs σ H Q := k
theorem at_L {p : Addr} {xs : List V} {R : It → Hp → Prop} (h : SqL K H p xs) (k : R (Itl K p) H) : AtL K R (.ref p) H := ⟨p, rfl, ⟨xs, h⟩, k⟩
theorem raw_f {J : It} {n : Nat} {G : Hp → Prop} {Y : Nat → Hp → V → Hp → Prop} (w : Walk J n G Y) (k : ForG n G Y g tb D σ H) : RawF J g tb D σ H := by
  obtain ⟨Pv, p0, hG, ht, hd⟩ := k
  exact for_it w Pv p0 hG ht hd
theorem raw_c {J : It} {n : Nat} {G : Hp → Prop} {Y : Nat → Hp → V → Hp → Prop} {vs : List Nat} (w : Walk J n G Y) (k : LcG n G Y g tt te vs σ H Q) : RawC J g tt te vs σ H Q := fun Dl hD => by
  obtain ⟨Pv, p0, hG, ht, hd⟩ := k Dl hD
  exact lc_it w Pv p0 hG ht hd
theorem fl_L {p : Addr} {xs : List V} (h : SqL K H p xs) (k : ForG xs.length (fun H => SqL K H p xs) (YAt xs) g tb D σ H) : AtL K (RawF · g tb D σ ·) (.ref p) H := ⟨p, rfl, ⟨xs, h⟩, raw_f walk_list k⟩
theorem fl_T {p : Addr} {xs : List V} (h : SqT K H p xs) (k : ForG xs.length (fun H => SqT K H p xs) (YAt xs) g tb D σ H) : AtT K (RawF · g tb D σ ·) (.ref p) H := ⟨p, rfl, ⟨xs, h⟩, raw_f walk_tup k⟩
theorem fl_R {j : Int} (h0 : -(2 ^ 62) ≤ j) (h1 : j < 2 ^ 62) (k : ForG j.toNat (fun _ => True) (YFn fun i => .int (0 + i)) g tb D σ H) : AtR1 (RawF · g tb D σ ·) [.int j] H := ⟨j, rfl, h0, h1, raw_f walk_range k⟩
theorem fl_R2 {i j : Int} (h : -(2 ^ 62) ≤ i ∧ i < 2 ^ 62 ∧ -(2 ^ 62) ≤ j ∧ j < 2 ^ 62) (k : ForG (j - i).toNat (fun _ => True) (YFn fun x => .int (i + x)) g tb D σ H) : AtR2 (RawF · g tb D σ ·) [.int i, .int j] H := ⟨i, j, rfl, h, raw_f walk_range k⟩
theorem fl_E {p : Addr} {xs : List V} (h : SqL K H p xs) (k : ForG xs.length (fun H => SqL K H p xs) (YPair (fun i => some (.int (i : Nat))) (fun i => xs[i]?)) g tb D σ H) : AtE K (RawF · g tb D σ ·) [.ref p] H := ⟨p, xs, rfl, h, raw_f walk_enum k⟩
theorem fl_V {p : Addr} {xs : List V} (h : SqL K H p xs) (k : ForG xs.length (fun H => SqL K H p xs) (fun i H x H' => H' = H ∧ xs[xs.length - 1 - i]? = some x) g tb D σ H) : AtV K (RawF · g tb D σ ·) [.ref p] H := ⟨p, xs, rfl, h, raw_f walk_rev k⟩
theorem fl_S {z : Str} (k : ForG z.cps.size (fun _ => True) (fun i H v H' => H' = H ∧ ∃ c, z.cps[i]? = some c ∧ v = .str ⟨#[c]⟩) g tb D σ H) : AtS (RawF · g tb D σ ·) (.str z) H := ⟨z, rfl, raw_f walk_str k⟩
theorem fc_L {p : Addr} {xs : List V} {vs : List Nat} (h : SqL K H p xs) (k : LcG xs.length (fun H => SqL K H p xs) (YAt xs) g tt te vs σ H Q) : AtL K (RawC · g tt te vs σ · Q) (.ref p) H := ⟨p, rfl, ⟨xs, h⟩, raw_c walk_list k⟩
theorem fc_T {p : Addr} {xs : List V} {vs : List Nat} (h : SqT K H p xs) (k : LcG xs.length (fun H => SqT K H p xs) (YAt xs) g tt te vs σ H Q) : AtT K (RawC · g tt te vs σ · Q) (.ref p) H := ⟨p, rfl, ⟨xs, h⟩, raw_c walk_tup k⟩
theorem fc_R {j : Int} {vs : List Nat} (h0 : -(2 ^ 62) ≤ j) (h1 : j < 2 ^ 62) (k : LcG j.toNat (fun _ => True) (YFn fun i => .int (0 + i)) g tt te vs σ H Q) : AtR1 (RawC · g tt te vs σ · Q) [.int j] H := ⟨j, rfl, h0, h1, raw_c walk_range k⟩
theorem fc_R2 {i j : Int} {vs : List Nat} (h : -(2 ^ 62) ≤ i ∧ i < 2 ^ 62 ∧ -(2 ^ 62) ≤ j ∧ j < 2 ^ 62) (k : LcG (j - i).toNat (fun _ => True) (YFn fun x => .int (i + x)) g tt te vs σ H Q) : AtR2 (RawC · g tt te vs σ · Q) [.int i, .int j] H := ⟨i, j, rfl, h, raw_c walk_range k⟩
theorem fc_S {z : Str} {vs : List Nat} (k : LcG z.cps.size (fun _ => True) (fun i H v H' => H' = H ∧ ∃ c, z.cps[i]? = some c ∧ v = .str ⟨#[c]⟩) g tt te vs σ H Q) : AtS (RawC · g tt te vs σ · Q) (.str z) H := ⟨z, rfl, raw_c walk_str k⟩
theorem fc_K {d : Addr} {o : Obj} {kvs : List (Key × V)} {vs : List Nat} (h : H d = some (.frz o (.dK kvs))) (k : LcG kvs.length (fun H => H d = some (.frz o (.dK kvs))) (fun i H x H' => H' = H ∧ ∃ k v, kvs[i]? = some (k, v) ∧ x = kV k) g tt te vs σ H Q) : AtK (RawC · g tt te vs σ · Q) (.ref d) H := ⟨d, o, rfl, .inl ⟨kvs, h, raw_c walk_keys k⟩⟩
theorem map_range_getD (ns : List Int) : (List.range (ns.map V.int).length).map (fun i => V.int (ns.getD i 0)) = ns.map V.int := by
  apply List.ext_getElem?
  intro i
  simp only [List.getElem?_map, List.length_map]
  by_cases h : i < ns.length
  · simp [h]
  · simp [h]
theorem wipe1 (σ : L2.St) (j : Nat) : wipe σ [j] = σ.set j none := rfl
theorem wipe_set (σ : L2.St) (j : Nat) (v : Option V) : wipe ((wipe σ [j]).set j v) [j] = wipe σ [j] := by
  rw [wipe1, wipe1, List.set_set, List.set_set]
/-- a comprehension whose elements change nothing: its list is f 0, f 1, .. -/
theorem lc_pure {n j : Nat} {G : Hp → Prop} {Y : Nat → Hp → V → Hp → Prop} (f : Nat → V) (hn : n < sizeLine) (x : Nat → V) (hG : ∀ H', Ex H H' → G H') (hY : ∀ i H0 v H', i < n → Y i H0 v H' → H' = H0 ∧ v = x i)
    (he : ∀ i H' (Q' : VK), i < n → Ex H H' → Q' (f i) H' → te ((σ.set j none).set j (some (x i))) H' Q')
    (k : ∀ p, H p = none → Q (.ref p) (upd H p (.lst ((List.range n).map f)))) : LcG n G Y (gName j) tYes te [j] σ H Q := by
  intro Dl hD
  refine ⟨fun i H' => H' = upd H Dl (.lst ((List.range i).map f)), rfl, fun i H' _ e => ?_, fun i v H0 H' hi e y => ?_, fun H' e => ?_⟩
  · subst e; exact hG _ (Ex.new hD)
  · subst e
    obtain ⟨rfl, rfl⟩ := hY _ _ _ _ hi y
    refine ⟨wipe_set _ _ _, ?_⟩
    dsimp only [tYes]
    refine iteT (he i _ _ hi (Ex.new hD) ⟨_, upd_same, ?_, ?_⟩)
    · simp; omega
    · rw [upd_upd, List.range_succ, List.map_append]; rfl
  · subst e; exact k Dl hD
/-- a comprehension whose elements may change the heap: Pv by the turn, the list so far, the heap -/
def LcK (Dl : Addr) (Pv : Nat → List V → Hp → Prop) (i : Nat) (y : V) (H4 : Hp) : Prop := ∃ acc, H4 Dl = some (.lst acc) ∧ acc.length < sizeLine ∧ ∃ acc', upd H4 Dl (.lst (acc ++ [y])) Dl = some (.lst acc') ∧ Pv (i + 1) acc' (upd H4 Dl (.lst (acc ++ [y])))
theorem lcK {Dl : Addr} {Pv : Nat → List V → Hp → Prop} {i : Nat} {y : V} {acc : List V} (h : H Dl = some (.lst acc)) (l : acc.length < sizeLine) (p : Pv (i + 1) (acc ++ [y]) (upd H Dl (.lst (acc ++ [y])))) : LcK Dl Pv i y H := ⟨acc, h, l, _, upd_same, p⟩
theorem lc_eff {n j : Nat} {G : Hp → Prop} {Y : Nat → Hp → V → Hp → Prop} (k : ∀ Dl, H Dl = none → ∃ Pv : Nat → List V → Hp → Prop, Pv 0 [] (upd H Dl (.lst [])) ∧ (∀ i acc H', i ≤ n → Pv i acc H' → G H') ∧
    (∀ i x acc H1 H2, i < n → Pv i acc H1 → H1 Dl = some (.lst acc) → Y i H1 x H2 → te ((σ.set j none).set j (some x)) H2 (LcK Dl Pv i)) ∧
    ∀ acc H', Pv n acc H' → H' Dl = some (.lst acc) → Q (.ref Dl) H') : LcG n G Y (gName j) tYes te [j] σ H Q := by
  intro Dl hD
  obtain ⟨Pv, p0, hG, ht, hd⟩ := k Dl hD
  refine ⟨fun i H' => ∃ acc, H' Dl = some (.lst acc) ∧ Pv i acc H', ⟨[], upd_same, p0⟩, fun i H' hi ⟨acc, _, p⟩ => hG i acc H' hi p, fun i x H1 H2 hi ⟨acc, ha, p⟩ y => ⟨wipe_set _ _ _, ?_⟩, fun H' ⟨acc, ha, p⟩ => hd acc H' p ha⟩
  dsimp only [tYes]
  exact iteT (ht i x acc H1 H2 hi p ha y)
/-- .. with a test -/
theorem lc_pureIf {n j : Nat} {G : Hp → Prop} {Y : Nat → Hp → V → Hp → Prop} (f : Nat → V) (c : Nat → Bool) (hn : n < sizeLine) (x : Nat → V) (hG : ∀ H', Ex H H' → G H') (hY : ∀ i H0 v H', i < n → Y i H0 v H' → H' = H0 ∧ v = x i)
    (hc : ∀ i H' (Q' : Bool → Hp → Prop), i < n → Ex H H' → Q' (c i) H' → tt ((σ.set j none).set j (some (x i))) H' Q')
    (he : ∀ i H' (Q' : VK), i < n → c i = true → Ex H H' → Q' (f i) H' → te ((σ.set j none).set j (some (x i))) H' Q')
    (k : ∀ p, H p = none → Q (.ref p) (upd H p (.lst (((List.range n).filter c).map f)))) : LcG n G Y (gName j) tt te [j] σ H Q := by
  intro Dl hD
  have hl : ∀ i, ((List.range i).filter c).length ≤ i := fun i => by
    have := List.length_filter_le c (List.range i); simpa using this
  refine ⟨fun i H' => H' = upd H Dl (.lst (((List.range i).filter c).map f)), rfl, fun i H' _ e => ?_, fun i v H0 H' hi e y => ?_, fun H' e => ?_⟩
  · subst e; exact hG _ (Ex.new hD)
  · subst e
    obtain ⟨rfl, rfl⟩ := hY _ _ _ _ hi y
    refine ⟨wipe_set _ _ _, hc i _ _ hi (Ex.new hD) ?_⟩
    cases e : c i with
    | true =>
      refine iteT (he i _ _ hi e (Ex.new hD) ⟨_, upd_same, ?_, ?_⟩)
      · have := hl i; simp; omega
      · rw [upd_upd]; show _ = _
        rw [List.range_succ, List.filter_append, List.map_append]; simp [e]
    | false =>
      refine iteF ?_
      show _ = _
      rw [List.range_succ, List.filter_append]; simp [e]
  · subst e; exact k Dl hD
end
end Dh
namespace Dh
open PySem PySem.Spec L2
open _root_.Evl (Ex)
/-! ### texts; isinstance; all -/
def rInC : R2 := fun x y H Q => ∃ (c : Nat) (z : Str), x = .str ⟨#[c]⟩ ∧ y = .str z ∧ Q (.bl (decide (c ∈ z.cps.toList))) H
def rAddT : R2 := fun x y H Q => ∃ i j : Str, x = .str i ∧ y = .str j ∧ i.length + j.length ≤ sizeLine ∧ Q (.str (i ++ j)) H
def rJoin (K : PySem.W.Frag) : V → List V → Hp → VK → Prop := fun x xs H Q => ∃ a p, ∃ ys : List Str, x = .str a ∧ xs = [.ref p] ∧ (SqL K H p (ys.map V.str) ∨ SqT K H p (ys.map V.str)) ∧ (ys.map (·.length)).sum + ys.length * a.length ≤ 16777216 ∧ Q (.str (Txt.join a ys)) H
section
variable {X : Cx}
theorem op_inC : OpR X (compareOp .In) rInC := op_in_sign
theorem op_addT : OpR X (binaryOp .Add) rAddT := op_add_str
def tTru (K : PySem.W.Frag) (te : TE) : TT := fun σ H Q => te σ H fun x H' => ∃ k, TruV K x H' k ∧ Q k H'
theorem pt_tru {a : Expr} {ta : TE} (ha : PE X a ta) (he : ∀ whole, isTrue a X.env whole = (do let v ← whole; standAt a.pos; holding [v] (truthy v)) := by intro _; rfl) : PT X a (tTru X.K ta) := pt_truth ha he
theorem pe_joinL {o e : Expr} {to te : TE} {apos pos : Pos} (ho : PE X o to) (he : PE X e te) (hs : starEach [e] X.env = [(false, eval e X.env)] := by rfl) (hbase : attributeBase o "join" X.env (eval o X.env) = eval o X.env := by rfl) (hline : (apos.endLine == pos.line) = true := by rfl) :
    PE X (.Call (.Attribute o "join" apos) [e] [] pos) (tM1 (rJoin X.K) to te) := pe_join ho he hs hbase hline
end
section
variable {σ : L2.St} {H : Hp} {Q : VK} {v : V} {ta tb te : TE} {K : PySem.W.Frag}
theorem i_inC {c : Nat} {z : Str} (k : Q (.bl (decide (c ∈ z.cps.toList))) H) : rInC (.str ⟨#[c]⟩) (.str z) H Q := ⟨c, z, rfl, rfl, k⟩
theorem i_addT {i j : Str} (l : i.length + j.length ≤ sizeLine) (k : Q (.str (i ++ j)) H) : rAddT (.str i) (.str j) H Q := ⟨i, j, rfl, rfl, l, k⟩
theorem i_m1 {r : V → List V → Hp → VK → Prop} {to : TE} (k : to σ H fun x H1 => (∃ a, x = .str a) ∧ te σ H1 fun y H2 => r x [y] H2 Q) : tM1 r to te σ H Q := k
theorem i_isstr {a : Str} {p : Prop} (k : p) : (∃ a', V.str a = .str a') ∧ p := ⟨⟨a, rfl⟩, k⟩
theorem i_joinL {a : Str} {p : Addr} {ys : List Str} (h : SqL K H p (ys.map V.str)) (z : (ys.map (·.length)).sum + ys.length * a.length ≤ 16777216) (k : Q (.str (Txt.join a ys)) H) : rJoin K (.str a) [.ref p] H Q := ⟨a, p, ys, rfl, rfl, .inl h, z, k⟩
theorem i_all {p : Addr} {bs : List Bool} (h : SqL K H p (bs.map V.bl)) (k : Q (.bl (bs.all id)) H) : rAll K [.ref p] H Q := ⟨p, bs, rfl, h, k⟩
theorem is_int_int {i : Int} (k : Q (.bl true) H) : rIsi K [.int i, .ty "int"] H Q := ⟨_, _, _, _, true, rfl, .ty _, .base (.int i), kit_ty (by decide +kernel), k⟩
theorem is_int_bool {i : Int} (k : Q (.bl false) H) : rIsi K [.int i, .ty "bool"] H Q := ⟨_, _, _, _, false, rfl, .ty _, .base (.int i), kit_ty (by decide +kernel), k⟩
theorem is_str_str {i : Str} (k : Q (.bl true) H) : rIsi K [.str i, .ty "str"] H Q := ⟨_, _, _, _, true, rfl, .ty _, .base (.str i), kit_ty (by decide +kernel), k⟩
theorem is_tup_tup {a : Addr} {xs : List V} (h : H a = some (.tup xs)) (k : Q (.bl true) H) : rIsi K [.ref a, .ty "tuple"] H Q := ⟨_, _, _, _, true, rfl, .ty _, .base (.tup h), kit_ty (by decide +kernel), k⟩
theorem i_ixS {z : Str} {i : Int} {c : Nat} (l : z.length ≤ sizeLine) (h : atI z.cps.toList i = some c) (k : Q (.str ⟨#[c]⟩) H) : rIxS (.str z) (.int i) H Q := ⟨z, i, c, rfl, rfl, l, h, k⟩
theorem i_ifExp {t : TT} (k : t σ H fun c H1 => if c = true then ta σ H1 Q else tb σ H1 Q) : tIf t ta tb σ H Q := k
theorem i_andV (k : ta σ H fun x H1 => ∃ c, x = .bl c ∧ if c = true then tb σ H1 Q else Q (.bl false) H1) : tAndV ta tb σ H Q := k
theorem i_orV (k : ta σ H fun x H1 => ∃ c, x = .bl c ∧ if c = true then Q (.bl true) H1 else tb σ H1 Q) : tOrV ta tb σ H Q := k
theorem i_notV (k : ta σ H fun x H1 => ∃ c, x = .bl c ∧ Q (.bl (!c)) H1) : tNotV ta σ H Q := k
theorem i_chain {r r' : R2} {tc : TE} (k : ta σ H fun x H1 => tb σ H1 fun y H2 => r x y H2 fun z H3 => ∃ k, z = .bl k ∧ if k = true then tc σ H3 fun w' H4 => r' y w' H4 Q else Q (.bl false) H3) : tChain r r' ta tb tc σ H Q := k
theorem i_inL {neg : Bool} {x : V} {p : Addr} {xs : List V} (h : SqL K H p xs) (f : flatV x = true) (fs : xs.all flatV = true) (k : Q (.bl (if neg then !inV x xs else inV x xs)) H) : rIn K neg x (.ref p) H Q := ⟨p, xs, rfl, .inl h, f, fs, k⟩
theorem i_truT {q : Bool → Hp → Prop} (k : te σ H fun x H' => ∃ b, TruV K x H' b ∧ q b H') : tTru K te σ H q := k
theorem i_tru {q : Bool → Hp → Prop} {p : Addr} {xs : List V} (h : SqL K H p xs) (k : q (!xs.isEmpty) H) : ∃ b, TruV K (.ref p) H b ∧ q b H := ⟨_, .inl ⟨xs, h, rfl⟩, k⟩
theorem i_truL {p : Addr} {xs : List V} {r : Bool → Prop} (h : SqL K H p xs) (k : r (!xs.isEmpty)) : ∃ b, TruV K (.ref p) H b ∧ r b := ⟨_, .inl ⟨xs, h, rfl⟩, k⟩
theorem i_catL {a b : Addr} {xs ys : List V} (h : H a = some (.lst xs)) (h' : H b = some (.lst ys)) (l : xs.length + ys.length ≤ sizeLine) (k : ∀ p, H p = none → Q (.ref p) (upd H p (.lst (xs ++ ys)))) : rCat (.ref a) (.ref b) H Q := ⟨a, b, xs, ys, rfl, rfl, h, h', l, k⟩
theorem i_revL {p : Addr} {xs : List V} (k : te σ H fun x H1 => ∃ a xs, x = .ref a ∧ SqL K H1 a xs ∧ ∀ p, H1 p = none → Q (.ref p) (upd H1 p (.lst xs.reverse))) : tRevL K te σ H Q := k
theorem i_atLx {p : Addr} {xs : List V} {k : Addr → List V → Prop} (h : SqL K H p xs) (q : k p xs) : ∃ a xs, V.ref p = .ref a ∧ SqL K H a xs ∧ k a xs := ⟨p, xs, rfl, h, q⟩
end
end Dh
namespace Dh
open PySem PySem.Spec L2
open _root_.Evl (Ex)
/-- all but b is kept -/
def Kp (b : Addr) (H H' : Hp) : Prop := ∀ a o, a ≠ b → H a = some o → H' a = some o
theorem Kp.refl {b : Addr} {H : Hp} : Kp b H H := fun _ _ _ h => h
theorem Kp.trans {b : Addr} {H H1 H2 : Hp} (h : Kp b H H1) (k : Kp b H1 H2) : Kp b H H2 := fun a o n e => k a o n (h a o n e)
theorem Kp.of {b : Addr} {H H' : Hp} (e : Ex H H') : Kp b H H' := fun a o _ h => e a o h
theorem Kp.upd {b : Addr} {H : Hp} {o : HO} : Kp b H (upd H b o) := fun a u n e => by rw [upd_ne n]; exact e
theorem Kp.mut {b p : Addr} {H H' : Hp} {o : HO} (k : Kp b H H') (n : H p = none) : Kp b H (L2.upd H' p o) := fun a u ne e => by
  rw [upd_ne (ne_of_none e n)]; exact k a u ne e
theorem Kp.free {b p : Addr} {H H' : Hp} {o : HO} (k : Kp b H H') (hb : H' b = some o) (n : H' p = none) : H p = none := by
  cases q : H p with
  | none => rfl
  | some u =>
    by_cases e : p = b
    · subst e; rw [hb] at n; cases n
    · rw [k p u e q] at n; cases n
theorem Kp.also {b p : Addr} {H H' : Hp} {o : HO} (k : Kp b H H') (n : H p = none) (hp : H' p = some o) (ne : p ≠ b) : Kp b (L2.upd H p o) H' := fun a u na e => by
  by_cases q : a = p
  · subst q; rw [upd_same] at e; cases e; exact hp
  · rw [upd_ne q] at e; exact k a u na e
end Dh
/-! DhStr -/
set_option Elab.async false
set_option linter.all false
set_option maxRecDepth 100000
set_option maxHeartbeats 4000000
namespace Dh
open PySem PySem.Spec L2
/-! ### texts as lists of signs -/
abbrev Str.L (z : Str) : List Nat := z.cps.toList
theorem len_L (z : Str) : z.length = z.cps.toList.length := by show z.cps.size = _; simp
theorem app_L (a b : Str) : (a ++ b).cps.toList = a.cps.toList ++ b.cps.toList := by
  show (a.cps ++ b.cps).toList = _
  simp
theorem ext_L {a b : Str} (h : a.cps.toList = b.cps.toList) : a = b := by
  cases a; cases b
  simp at h
  subst h; rfl
theorem cut_to {z : Str} {k : Int} (h : 0 ≤ k) : (cutS z none (some k)).cps.toList = z.cps.toList.take k.toNat := by
  obtain ⟨n, rfl⟩ := Int.eq_ofNat_of_zero_le h
  show (((z.cps.toList.drop (HT.sIx z.length 0 none)).take (HT.sIx z.length z.length (some (n : Int)) - HT.sIx z.length 0 none)).toArray).toList = _
  rw [HT.sIx_none, HT.sIx_nat]
  simp [len_L, List.take_eq_take_iff]
theorem cut_from {z : Str} {k : Int} (h : 0 ≤ k) : (cutS z (some k) none).cps.toList = z.cps.toList.drop k.toNat := by
  obtain ⟨n, rfl⟩ := Int.eq_ofNat_of_zero_le h
  show (((z.cps.toList.drop (HT.sIx z.length 0 (some (n : Int)))).take (HT.sIx z.length z.length none - HT.sIx z.length 0 (some (n : Int)))).toArray).toList = _
  rw [HT.sIx_none, HT.sIx_nat]
  simp [len_L]
  by_cases q : n ≤ z.cps.size
  · rw [Nat.min_eq_left q, List.take_of_length_le (by simp)]
  · rw [Nat.min_eq_right (by omega)]
    rw [List.drop_eq_nil_of_le (by simp), List.drop_eq_nil_of_le (by simp; omega)]; simp
theorem join_L (ys : List Str) : (Txt.join "" ys).cps.toList = (ys.map fun y => y.cps.toList).flatten := by
  show (Builtin.Str.glued (PySem.Str.ofString "") ys).cps.toList = _
  rw [StrLaws.glued_eq_join]
  induction ys with
  | nil => rfl
  | cons a r ih =>
    cases r with
    | nil => simp [PySem.Str.join]
    | cons b r =>
      show (a ++ PySem.Str.ofString "" ++ PySem.Str.join (PySem.Str.ofString "") (b :: r)).cps.toList = _
      rw [app_L, app_L, ih]
      have : (PySem.Str.ofString "").cps.toList = [] := by decide +kernel
      rw [this]; simp
theorem not_in {α : Type} [DecidableEq α] : ∀ {l m : List α}, l.Nodup → m.length < l.length → ∃ x ∈ l, x ∉ m
  | [], m, _, h => by simp at h
  | a :: l, m, nd, h => by
    by_cases q : a ∈ m
    · have nd' := List.nodup_cons.mp nd
      obtain ⟨x, hx, hm⟩ := not_in (l := l) (m := m.erase a) nd'.2 (by
        have := List.length_erase_of_mem q
        have : 0 < m.length := List.length_pos_of_mem q
        simp at h; omega)
      refine ⟨x, List.mem_cons_of_mem _ hx, fun z => hm ?_⟩
      have ne : x ≠ a := fun e => nd'.1 (e ▸ hx)
      exact (List.mem_erase_of_ne ne).mpr z
    · exact ⟨a, List.mem_cons_self, q⟩
theorem inV_str {x : Str} {us : List Str} : inV (.str x) (us.map V.str) = decide (x ∈ us) := by
  unfold inV
  induction us with
  | nil => simp
  | cons a r ih =>
    rw [List.map_cons, List.any_cons, ih]
    show ((a == x) || _) = _
    by_cases q : a = x
    · subst q; simp
    · have : x ≠ a := fun e => q e.symm
      simp [q, this]
theorem inV_int {x : Int} {us : List Int} : inV (.int x) (us.map V.int) = decide (x ∈ us) := by
  unfold inV
  induction us with
  | nil => simp
  | cons a r ih =>
    rw [List.map_cons, List.any_cons, ih]
    show ((a == x) || _) = _
    by_cases q : a = x
    · subst q; simp
    · have : x ≠ a := fun e => q e.symm
      simp [q, this]
theorem flat_str {us : List Str} : (us.map V.str).all flatV = true := by simp [List.all_eq_true]; intro x _; rfl
theorem flat_int {us : List Int} : (us.map V.int).all flatV = true := by simp [List.all_eq_true]; intro x _; rfl
section
variable {H : Hp} {Q : VK} {K : PySem.W.Frag}
theorem i_inS {x : Str} {p : Addr} {us : List Str} (h : SqL K H p (us.map V.str)) (k : Q (.bl (decide (x ∈ us))) H) : rIn K false (.str x) (.ref p) H Q := by
  refine i_inL h rfl flat_str ?_
  rw [inV_str]; exact k
theorem i_niS {x : Str} {p : Addr} {us : List Str} (h : SqL K H p (us.map V.str)) (k : Q (.bl (!decide (x ∈ us))) H) : rIn K true (.str x) (.ref p) H Q := by
  refine i_inL h rfl flat_str ?_
  rw [inV_str]; exact k
theorem i_inI {x : Int} {p : Addr} {us : List Int} (h : SqL K H p (us.map V.int)) (k : Q (.bl (decide (x ∈ us))) H) : rIn K false (.int x) (.ref p) H Q := by
  refine i_inL h rfl flat_int ?_
  rw [inV_int]; exact k
theorem i_niI {x : Int} {p : Addr} {us : List Int} (h : SqL K H p (us.map V.int)) (k : Q (.bl (!decide (x ∈ us))) H) : rIn K true (.int x) (.ref p) H Q := by
  refine i_inL h rfl flat_int ?_
  rw [inV_int]; exact k
end
/-! ### names -/
def letters : List Nat := ("abcdefghijklmnopqrstuvwxyz" : Str).cps.toList
structure NameOk (s : Str) : Prop where
  lo : 1 ≤ s.length
  hi : s.length ≤ 8
  ls : ∀ c ∈ s.cps.toList, c ∈ letters
def tailOf (k : Nat) : Str := ⟨#[letters.getD (k / 26) 0]⟩ ++ ⟨#[letters.getD (k % 26) 0]⟩
def decOf (s : List Nat) : Nat := (s.getD 0 0 - 97) * 26 + (s.getD 1 0 - 97)
theorem lt_div : ∀ k : Nat, k < 676 → atI letters ((0 + (k : Int)).fdiv 26) = some (letters.getD (k / 26) 0) := by decide +kernel
theorem lt_mod : ∀ k : Nat, k < 676 → atI letters ((0 + (k : Int)).fmod 26) = some (letters.getD (k % 26) 0) := by decide +kernel
theorem dec_tail : ∀ k, k < 676 → decOf (tailOf k).cps.toList = k := by decide +kernel
theorem tail_ls : ∀ k, k < 676 → (tailOf k).cps.toList.length = 2 ∧ ∀ c ∈ (tailOf k).cps.toList, c ∈ letters := by decide +kernel
theorem cand_nd (t : Str) : ((List.range 676).map fun k => t ++ tailOf k).Nodup := by
  refine List.pairwise_map.mpr (List.Pairwise.imp_of_mem (R := (· ≠ ·)) (fun {a b} ha hb ne e => ne ?_) List.nodup_range)
  have ha := List.mem_range.mp ha
  have hb := List.mem_range.mp hb
  have := congrArg (fun s : Str => s.cps.toList) e
  simp only [app_L, List.append_cancel_left_eq] at this
  rw [← dec_tail a ha, ← dec_tail b hb, this]
theorem cand_free (t : Str) {us : List Str} (h : us.length < 676) : ∃ k, k < 676 ∧ t ++ tailOf k ∉ us := by
  obtain ⟨x, hx, hn⟩ := not_in (cand_nd t) (m := us) (by simpa using h)
  obtain ⟨k, hk, rfl⟩ := List.mem_map.mp hx
  exact ⟨k, List.mem_range.mp hk, hn⟩
end Dh
/-! DhMore -/
set_option Elab.async false
set_option linter.all false
set_option maxRecDepth 100000
set_option maxHeartbeats 4000000
namespace Dh
open PySem PySem.Spec L2
open _root_.Evl (Ex)
/-! ### dicts, fields, locks -/
section
variable {σ : L2.St} {H : Hp} {Q : VK} {v : V} {ta tb te tl tk tv : TE} {t u : TS} {K : PySem.W.Frag} {D : Ends} {g : TG} {tt : TT}
theorem upd_lock {d p : Addr} {o u l : HO} (h : H d = some u) (ne : p ≠ d) : upd (upd (upd H d o) p l) d u = upd H p l := by
  funext a
  unfold upd
  by_cases q : a = d
  · subst q
    rw [if_pos rfl, if_neg (fun z => ne z.symm), h]
  · rw [if_neg q]
    by_cases q2 : a = p
    · rw [if_pos q2, if_pos q2]
    · rw [if_neg q2, if_neg q2, if_neg q]
theorem i_lock {d : Addr} {u : HO} {t : TE} (h : H d = some u) (m : Mut (some u)) (k : ∀ od, t σ (upd H d (.frz od u)) fun v H' => H' d = some (.frz od u) ∧ Q v (upd H' d u)) : tLockE t σ H Q := ⟨d, u, h, m, k⟩
theorem i_dnew (k : ∀ p, H p = none → Q (.ref p) (upd H p (.dK []))) : tDNewK σ H Q := k
theorem i_dput (k : tv σ H fun v H1 => ta σ H1 fun x H2 => tk σ H2 fun y H3 => ∃ a H4, x = .ref a ∧ DPut H3 a y v H4 ∧ D.nx σ H4) : sDPut ta tk tv D σ H := k
theorem i_dputI {p : Addr} {kvs : List (Key × V)} {n : Int} {r : Hp → Prop} (h : H p = some (.dK kvs)) (l : kvs.length < sizeLine) (k : r (upd H p (.dK (putK kvs (Sum.inl n) v)))) : ∃ a H4, V.ref p = .ref a ∧ DPut H a (.int n) v H4 ∧ r H4 := ⟨p, _, rfl, DPut.k (k := Sum.inl n) h l, k⟩
theorem i_dget (k : ta σ H fun x H1 => tk σ H1 fun y H2 => ∃ a v, x = .ref a ∧ DGet H2 a y (some v) ∧ Q v H2) : tDGet ta tk σ H Q := k
theorem i_dgetI {p : Addr} {kvs : List (Key × V)} {n : Int} {w : V} {r : V → Prop} (h : H p = some (.dK kvs)) (e : valV kvs (Sum.inl n) = some w) (k : r w) : ∃ a v, V.ref p = .ref a ∧ DGet H a (.int n) (some v) ∧ r v := ⟨p, w, rfl, by rw [← e]; exact DGet.k (k := Sum.inl n) h, k⟩
theorem i_dnotin (k : tk σ H fun y H1 => ta σ H1 fun x H2 => ∃ a o, x = .ref a ∧ DGet H2 a y o ∧ Q (.bl (!o.isSome)) H2) : tDNotIn tk ta σ H Q := k
theorem i_din (k : tk σ H fun y H1 => ta σ H1 fun x H2 => ∃ a o, x = .ref a ∧ DGet H2 a y o ∧ Q (.bl o.isSome) H2) : tDIn tk ta σ H Q := k
theorem i_dnotinI {p : Addr} {kvs : List (Key × V)} {n : Int} {r : Option V → Prop} (h : H p = some (.dK kvs)) (k : r (valV kvs (Sum.inl n))) : ∃ a o, V.ref p = .ref a ∧ DGet H a (.int n) o ∧ r o := ⟨p, _, rfl, DGet.k (k := Sum.inl n) h, k⟩
theorem putK_le {kvs : List (Key × V)} {k : Key} {x : V} : (putK kvs k x).length ≤ kvs.length + 1 := by
  unfold putK
  split <;> simp
theorem i_dsetd {tx : TE} (k : ta σ H fun x H1 => ∃ a, x = .ref a ∧ IsD H1 a ∧ tk σ H1 fun y H2 => tx σ H2 fun z H3 => ∃ (kvs : List (Key × V)) (k : Key), H3 a = some (.dK kvs) ∧ y = kV k ∧ kvs.length < sizeLine ∧ (∀ v, valV kvs k = some v → Q v H3) ∧ (valV kvs k = none → Q z (upd H3 a (.dK (putK kvs k z))))) : tDSetd ta tk tx σ H Q := k
theorem i_isd {p : Addr} {kvs : List (Key × V)} {r : Addr → Prop} (h : H p = some (.dK kvs)) (k : r p) : ∃ a, V.ref p = .ref a ∧ IsD H a ∧ r a := ⟨p, rfl, .inl ⟨kvs, Rd.of h⟩, k⟩
theorem i_fld {f : Str} (k : ta σ H fun x H1 => ∃ a C dx fs v, x = .ref a ∧ H1 a = some (.ins C dx fs) ∧ Cls K C ∧ NoAttr K C f ∧ fs.lookup f = some v ∧ Q v H1) : tFld K ta f σ H Q := k
theorem i_fldV {a C dx : Addr} {fs : List (Str × V)} {f : Str} (h : H a = some (.ins C dx fs)) (c : Cls K C) (n : NoAttr K C f) (l : fs.lookup f = some v) (k : Q v H) : ∃ a' C dx fs v, V.ref a = .ref a' ∧ H a' = some (.ins C dx fs) ∧ Cls K C ∧ NoAttr K C f ∧ fs.lookup f = some v ∧ Q v H := ⟨a, C, dx, fs, v, rfl, h, c, n, l, k⟩
theorem i_sfld {f : Str} (k : tv σ H fun y H1 => ta σ H1 fun x H2 => ∃ a C dx fs, x = .ref a ∧ H2 a = some (.ins C dx fs) ∧ Cls K C ∧ NoAttr K C f ∧ fs.length < 1000 ∧ D.nx σ (upd H2 a (.ins C dx (putF f y fs)))) : sFld K ta tv f D σ H := k
theorem i_sfldV {a C dx : Addr} {fs : List (Str × V)} {f : Str} {r : Hp → Prop} (h : H a = some (.ins C dx fs)) (c : Cls K C) (n : NoAttr K C f) (l : fs.length < 1000) (k : r (upd H a (.ins C dx (putF f v fs)))) : ∃ a' C dx fs, V.ref a = .ref a' ∧ H a' = some (.ins C dx fs) ∧ Cls K C ∧ NoAttr K C f ∧ fs.length < 1000 ∧ r (upd H a' (.ins C dx (putF f v fs))) := ⟨a, C, dx, fs, rfl, h, c, n, l, k⟩
/-! a dict comprehension -/
def RawD (J : It) (g : TG) (tt : TT) (tk tv : TE) (vs : List Nat) (σ : L2.St) (H1 : Hp) (Q : VK) : Prop := ∀ D, H1 D = none → ∃ W : Nat → Nat → Hp → Prop, (∃ m, W 0 m (upd H1 D (.dK []))) ∧ ∀ i m H, W i m H →
  (J.stop i H ∧ Q (.ref D) H) ∨ (J.go i H ∧ ∃ Nx : Hp → Prop, (∀ H', Nx H' → ∃ m', m' < m ∧ W (i + 1) m' H') ∧ ∀ x H', J.yld i H x H' → g x (wipe σ vs) H' fun σ2 H2 => wipe σ2 vs = wipe σ vs ∧ tt σ2 H2 fun b H3 =>
    if b = true then tk σ2 H3 fun y H4 => tv σ2 H4 fun z H5 => ∃ kvs k, y = kV k ∧ H5 D = some (.dK kvs) ∧ kvs.length < sizeLine ∧ Nx (upd H5 D (.dK (putK kvs k z))) else Nx H3)
theorem i_dcT {vs : List Nat} (k : tl σ H (AtT K (RawD · g tt tk tv vs σ · Q))) : tDc (iTup K tl) g tt tk tv vs σ H Q := k
theorem i_dcL {vs : List Nat} (k : tl σ H (AtL K (RawD · g tt tk tv vs σ · Q))) : tDc (iList K tl) g tt tk tv vs σ H Q := k
theorem valV_none_of {kvs : List (Key × V)} {k : Key} (h : ∀ p ∈ kvs, p.1 ≠ k) : valV kvs k = none := by
  induction kvs with
  | nil => rfl
  | cons a r ih =>
    rw [valV_neg (h a List.mem_cons_self)]
    exact ih fun p hp => h p (List.mem_cons_of_mem _ hp)
theorem dc_pure {J : It} {n j : Nat} {G : Hp → Prop} {Y : Nat → Hp → V → Hp → Prop} (w : Walk J n G Y) (kf : Nat → Key) (vf : Nat → V) (hn : n < sizeLine) (x : Nat → V) (hd : ∀ a b, a < b → b < n → kf a ≠ kf b) (hG : ∀ H', Ex H H' → G H') (hY : ∀ i H0 v H', i < n → Y i H0 v H' → H' = H0 ∧ v = x i)
    (hk : ∀ i H' (Q' : VK), i < n → Ex H H' → Q' (kV (kf i)) H' → tk ((σ.set j none).set j (some (x i))) H' Q')
    (hv : ∀ i H' (Q' : VK), i < n → Ex H H' → Q' (vf i) H' → tv ((σ.set j none).set j (some (x i))) H' Q')
    (k : ∀ p, H p = none → Q (.ref p) (upd H p (.dK ((List.range n).map fun i => (kf i, vf i))))) : RawD J (gName j) tYes tk tv [j] σ H Q := by
  intro Dl hD
  refine ⟨fun i m H' => m = n - i ∧ i ≤ n ∧ H' = upd H Dl (.dK ((List.range i).map fun i => (kf i, vf i))), ⟨n, by simp, Nat.zero_le _, rfl⟩, fun i m H' ⟨hm, hi, e⟩ => ?_⟩
  subst e
  by_cases hlt : i < n
  · refine .inr ⟨w.goes i _ hlt (hG _ (Ex.new hD)), fun H2 => H2 = upd H Dl (.dK ((List.range (i + 1)).map fun i => (kf i, vf i))), fun H2 e => ⟨n - (i + 1), by omega, rfl, by omega, e⟩, fun v H2 y => ?_⟩
    obtain ⟨rfl, rfl⟩ := hY _ _ _ _ hlt (w.yields i _ v H2 hlt (hG _ (Ex.new hD)) y)
    refine ⟨wipe_set _ _ _, ?_⟩
    dsimp only [tYes]
    refine iteT (hk i _ _ hlt (Ex.new hD) (hv i _ _ hlt (Ex.new hD) ⟨_, kf i, rfl, upd_same, by simp; omega, ?_⟩))
    show _ = _
    rw [upd_upd, putK_new _ (valV_none_of ?_), List.range_succ, List.map_append]; rfl
    intro p hp
    obtain ⟨a, ha, rfl⟩ := List.mem_map.mp hp
    exact hd a i (List.mem_range.mp ha) hlt
  · have e : i = n := by omega
    subst e
    exact .inl ⟨w.stops _ (hG _ (Ex.new hD)), k Dl hD⟩
theorem fd_T {p : Addr} {xs : List V} {vs : List Nat} (h : SqT K H p xs) (k : RawD (Itt K p) g tt tk tv vs σ H Q) : AtT K (RawD · g tt tk tv vs σ · Q) (.ref p) H := ⟨p, rfl, ⟨xs, h⟩, k⟩
end
/-! ### lists by pairs -/
theorem paired_map {α β : Type} {R : α → β → Prop} {g : β → α} : ∀ {es : List β}, (∀ e ∈ es, R (g e) e) → Paired R (es.map g) es
  | [], _ => .nil
  | e :: r, h => .cons (h e List.mem_cons_self) (paired_map fun x hx => h x (List.mem_cons_of_mem _ hx))
theorem paired_get {α β : Type} {R : α → β → Prop} : ∀ {xs : List α} {ys : List β} {i : Nat} {x : α}, Paired R xs ys → xs[i]? = some x → ∃ y, ys[i]? = some y ∧ R x y
  | _, _, _, _, .nil, e => by simp at e
  | _, _, 0, _, .cons r _, e => by simp at e; subst e; exact ⟨_, rfl, r⟩
  | _, _, i + 1, x, .cons _ t, e => by
    obtain ⟨u, h1, h2⟩ := paired_get (i := i) (x := x) t (by simpa using e)
    exact ⟨u, by simpa using h1, h2⟩
theorem paired_app {α β : Type} {R : α → β → Prop} : ∀ {xs xs' : List α} {ys ys' : List β}, Paired R xs ys → Paired R xs' ys' → Paired R (xs ++ xs') (ys ++ ys')
  | _, _, _, _, .nil, h => h
  | _, _, _, _, .cons r t, h => .cons r (paired_app t h)
theorem paired_rev {α β : Type} {R : α → β → Prop} : ∀ {xs : List α} {ys : List β}, Paired R xs ys → Paired R xs.reverse ys.reverse
  | _, _, .nil => .nil
  | _, _, .cons r t => by rw [List.reverse_cons, List.reverse_cons]; exact paired_app (paired_rev t) (.cons r .nil)
theorem paired_perm {α β : Type} {R : α → β → Prop} : ∀ {xs xs' : List α}, xs'.Perm xs → ∀ {ys : List β}, Paired R xs ys → ∃ ys', Paired R xs' ys' ∧ ys'.Perm ys := by
  intro xs xs' p
  induction p with
  | nil => intro ys h; cases h; exact ⟨[], .nil, .refl _⟩
  | cons x _ ih =>
    intro ys h
    cases h with
    | cons r t =>
      obtain ⟨ys', h1, h2⟩ := ih t
      exact ⟨_ :: ys', .cons r h1, h2.cons _⟩
  | swap x y l =>
    intro ys h
    cases h with
    | cons r t =>
      cases t with
      | cons r' t => exact ⟨_, .cons r' (.cons r t), .swap _ _ _⟩
  | trans _ _ ih1 ih2 =>
    intro ys h
    obtain ⟨y1, h1, p1⟩ := ih2 h
    obtain ⟨y2, h2, p2⟩ := ih1 h1
    exact ⟨y2, h2, p2.trans p1⟩
theorem perm_lift {α β : Type} {f : β → α} : ∀ {a b : List α}, a.Perm b → ∀ {es : List β}, b = es.map f → ∃ es' : List β, es'.Perm es ∧ a = es'.map f := by
  intro a b p
  induction p with
  | nil => intro es h; exact ⟨es, .refl _, h⟩
  | cons x _ ih =>
    intro es h
    cases es with
    | nil => simp at h
    | cons e r =>
      rw [List.map_cons] at h
      injection h with h1 h2
      obtain ⟨es', q1, q2⟩ := ih h2
      exact ⟨e :: es', q1.cons _, by rw [List.map_cons, h1, q2]⟩
  | swap x y l =>
    intro es h
    cases es with
    | nil => simp at h
    | cons e r =>
      cases r with
      | nil => simp at h
      | cons e2 r =>
        rw [List.map_cons, List.map_cons] at h
        injection h with h1 h2
        injection h2 with h2 h3
        exact ⟨e2 :: e :: r, .swap _ _ _, by rw [List.map_cons, List.map_cons, h1, h2, h3]⟩
  | trans _ _ ih1 ih2 =>
    intro es h
    obtain ⟨e1, p1, q1⟩ := ih2 h
    obtain ⟨e2, p2, q2⟩ := ih1 q1
    exact ⟨e2, p2.trans p1, q2⟩
theorem paired_mem {α β : Type} {R : α → β → Prop} : ∀ {xs : List α} {ys : List β} {x : α}, Paired R xs ys → x ∈ xs → ∃ y ∈ ys, R x y
  | _, _, _, .nil, h => by simp at h
  | _, _, _, .cons r t, h => by
    rcases List.mem_cons.mp h with rfl | h
    · exact ⟨_, List.mem_cons_self, r⟩
    · obtain ⟨y, hy, q⟩ := paired_mem t h
      exact ⟨y, List.mem_cons_of_mem _ hy, q⟩
/-- two strictly ascending lists with the same members are one -/
theorem asc_perm : ∀ {a b : List Int}, a.Pairwise (· < ·) → b.Pairwise (· < ·) → a.Perm b → a = b
  | [], b, _, _, p => by rw [p.symm.eq_nil]
  | x :: a, [], _, _, p => by simp at p
  | x :: a, y :: b, ha, hb, p => by
    have hx : x ∈ y :: b := p.subset List.mem_cons_self
    have hy : y ∈ x :: a := p.symm.subset List.mem_cons_self
    have ha' := List.pairwise_cons.mp ha
    have hb' := List.pairwise_cons.mp hb
    have e : x = y := by
      rcases List.mem_cons.mp hx with h | h
      · exact h
      · rcases List.mem_cons.mp hy with h2 | h2
        · exact h2.symm
        · have := hb'.1 x h; have := ha'.1 y h2; omega
    subst e
    rw [asc_perm ha'.2 hb'.2 (List.Perm.cons_inv p)]
end Dh
/-! DhExc -/
set_option Elab.async false
set_option linter.all false
set_option maxRecDepth 100000
set_option maxHeartbeats 4000000
/-! Own rules: an error with fields, raised out of a method, caught with a name, asked for its class and its field; a def called within the suite. -/
namespace Dh
open PySem PySem.Spec PyProof.Rows L2
section
variable {P : Program} {w : World} {K : PySem.W.Frag} {mg : Str → Option Value} {base : Heap}
/-- a def that may let out an error whose context is None -/
theorem okN {x qual : Str} {st : Stmt} {f : Addr} {fd : FuncData} {N ps : List Str} {k : Nat} {sp : Sp} (F : Fun K x qual st f fd) (S : FnScope N ps (defScope st)) (len : ∀ vs H Q E, sp vs H Q E → vs.length = ps.length)
    (body : ∀ (cdv : Value) (A : Around) (outer : List Env) (s : Shared) (H : Hp) (vs : List V) (Q : VK) (E : XK), Room k (A.deeper (envOfC qual (defScope st) s.heap.objs.size f cdv)) → sp vs H Q E →
      ∃ t, PSs (cxOf (L2N.CX P w) P w K mg base N qual (defScope st) f cdv A outer s H E) (defBody st) t ∧ t { nx := fun _ H' => Q .non H', rt := Q } (start N vs) H) : FnOk P w K mg base (L2N.CX P w) (k + 1) f fd ps sp := by
  obtain ⟨_, _, _, _, _, _, cdv, _, _, rfl, lk, hcd⟩ := F.ex
  exact fn_of lk hcd S len fun A outer s H vs Q E => body cdv A outer s H vs Q E
/-- a def called while an error is handled, lets nothing out -/
theorem okH {x qual : Str} {st : Stmt} {f : Addr} {fd : FuncData} {N ps : List Str} {k : Nat} {sp : Sp} (F : Fun K x qual st f fd) (S : FnScope N ps (defScope st)) (len : ∀ vs H Q E, sp vs H Q E → vs.length = ps.length)
    (body : ∀ (cdv : Value) (A : Around) (outer : List Env) (s : Shared) (H : Hp) (vs : List V) (Q : VK) (E : XK) (p : Addr × Obj), L2H.RoomH k (A.deeper (envOfC qual (defScope st) s.heap.objs.size f cdv)) → sp vs H Q E →
      ∃ t, PSs (L2H.cxH CX0 P w K mg base N qual (defScope st) f cdv A outer s H E p) (defBody st) t ∧ t { nx := fun _ H' => Q .non H', rt := Q } (start N vs) H) : L2H.FnH P w K mg base CX0 (k + 1) f fd ps sp := by
  obtain ⟨_, _, _, _, _, _, cdv, _, _, rfl, lk, hcd⟩ := F.ex
  exact L2H.fn_ofH lk hcd S len fun A outer s H vs Q E p _ => body cdv A outer s H vs Q E p
/-- out of nothing -/
theorem takesN {X : Cx} : L2N.Takes X (fun _ _ _ _ => False) := fun _ _ ⟨_, _, _, _, _, _, _, _, _, _, _, _, _, _, _, _, z⟩ => z.elim
theorem passH {X : Cx} {E : L2.St → XK} (σ : L2.St) : PassesAt CX0 X σ (E σ) := fun _ _ _ _ _ _ h => h.elim
end
section
variable {X : Cx} {CX : CXT} {k : Nat} {f C : Addr} {fd : FuncData} {ps : List Str} {sp : Sp} {E : L2.St → XK} {m : Str} {pos apos : Pos} {e o : Expr} {es : List Expr} {ta : TE} {t : TA}
/-- o.m(e, ..), the wish about errors may look at the slots -/
def tMethS (C : Addr) (m : Str) (sp : Sp) (E : L2.St → XK) (ta : TE) (t : TA) : TE := fun σ H Q => ta σ H fun x H1 => ∃ a dx fs, x = .ref a ∧ H1 a = some (.ins C dx fs) ∧ fs.lookup m = none ∧ t σ H1 fun vs H2 => sp (x :: vs) H2 Q (E σ)
theorem pe_methE {pl : Sem Bool} (he : PE X o ta) (c : Cls X.K C) (hm : Meth X.K C m f) (F : FnOk X.prog X.w X.K X.mg X.base CX k f fd ps sp) (hr : Room k X.A) (hb : Binds X.K fd ps []) (hx : ∀ σ, PassesAt CX X σ (E σ)) (ha : PA X (e :: es) t)
    (hst : starEach (e :: es) X.env = (false, eval e X.env) :: starEach es X.env := by rfl) (hpl : (backTo pos (starEach es X.env)).any (·.1) = false := by rfl)
    (ht : eval (.Call (.Attribute o m apos) (e :: es) [] pos) X.env = (do
      let ov ← eval o X.env
      standAt apos.atName
      let (f, first) ← holding [ov] (getMethod ov m pl)
      callWith pos f first (backTo pos (starEach (e :: es) X.env)) (backToKw pos (keywordEach [] X.env))) := by rfl) :
    PE X (.Call (.Attribute o m apos) (e :: es) [] pos) (tMethS C m sp E ta t) :=
  ⟨fun pins s σ H Q I h => PySem.W.methodCall_KW (pl := pl) (thn (he.run pins s σ H _ I h) fun u s1 ⟨x, H1, I1, rx, a, dx, fs, ex, ea, l, q⟩ => by
    subst ex
    cases (show u = Value.ref a from rx)
    exact getmeth_ok I1 ea c hm l (PySem.W.callWith_K (first := [.ref a]) (h₀ := X.base) I.ok.mod.kin hm.kp (thn (ha.run pos pins s1 σ H1 _ I1 q) fun us s2 ⟨vs, H2, I2, r, q2⟩ =>
      ⟨I2.kIn, run_fnS (us := .ref a :: us) (vs := .ref a :: vs) F hr hb (hx σ) I2 (.cons rfl r) q2⟩) hst hpl)) ht⟩
end
section
variable {X : Cx}
/-- isinstance(error, c), the caught error has its dict at dd -/
def rIsX (K : PySem.W.Frag) (D dd a : Addr) : List V → Hp → VK → Prop := fun xs H Q => ∃ (c : V) (cv : Value) (b : Bool) (fs : List (Str × V)), xs = [.ref a, c] ∧ (∀ u, RelV c u → u = cv) ∧ PySem.W.kitOne K (.ref D) cv = some b ∧ H dd = some (.xd fs) ∧ Q (.bl b) H
theorem call_isX {a D dd : Addr} {oe : Obj} {cls : Value} {d : Option Addr} {pn : List (Addr × Obj)} (C : ExcC X.K D) (hz : Zc cls d oe) (hf : ∃ vs, oe.data = .fields vs) : CallR (X.suite a ((a, oe) :: pn)) (.builtin "isinstance") (fun xs H Q => cls = .ref D ∧ d = some dd ∧ rIsX X.K D dd a xs H Q) := by
  intro pins s σ H xs us Q I r h
  obtain ⟨ec, ed, c, cv, b, fs, rfl, hcv, e, hx, q⟩ := h
  subst ec ed
  obtain ⟨u1, u2, rfl, r1, r2⟩ := vals2 r
  cases (show u1 = Value.ref a from r1)
  cases hcv _ r2
  obtain ⟨ha, _⟩ := I.pin (a, oe) (List.mem_append_left _ List.mem_cons_self)
  obtain ⟨vs, hd⟩ := hf
  have ho : ObjOk X.prog X.w H s.heap dd (.xd fs) := I.hok dd _ hx
  obtain ⟨mA, hns, _⟩ := ho
  obtain ⟨od, hod, _⟩ := lookIn_ns hns
  have J : PySem.W.InstAt s.heap a oe D (some od) := ⟨ha, hz.1, by unfold PySem.W.notCls; rw [hd] <;> rfl, by rw [hz.2]; exact hod⟩
  have hcl : (PySem.W.clsIn X.K D).isSome = true := by
    obtain ⟨cd, hc, _⟩ := PySem.W.any_some C.hd
    rw [hc]; rfl
  exact PySem.W.kia_one (PySem.W.kitx_exc hcl C.hg C.hk C.hs C.ha C.hn C.ht C.hm) I.kIn J e (fun z => nomatch z) fun tk => ⟨.bl b, H, I.kept (t' := tk) fun _ _ z => z, rfl, q⟩
end
/-- C(e, ..), C's own __init__ keeping sp; the error's context is None -/
theorem mkN {X : Cx} {CX : CXT} {x : Str} {C fI : Addr} {k : Nat} {fd : FuncData} {ps : List Str} {sp : Sp} {e : Expr} {es : List Expr} {ta : TA} {p pos : Pos} (T : OexC X.K C) (iC : PySem.W.findIn X.K (.ref C) "__init__" = some (some (.ref fI))) (tI : PySem.W.typeIn X.K (.ref fI) = some (.type "function"))
    (F1 : FnOk X.prog X.w X.K X.mg X.base CX k fI fd ps sp) (hr : Room (k + 1) X.A) (hb : Binds X.K fd ps []) (hx : Passes CX X (fun _ _ _ => False)) (hg : Gl X x) (hm : X.mg x = some (.ref C)) (ha : PA X (e :: es) ta)
    (hdb : (x == ("__debug__" : Str)) = false := by decide) (he : starEach (e :: es) X.env = (false, eval e X.env) :: starEach es X.env := by rfl) (hpl : (backTo pos (starEach es X.env)).any (·.1) = false := by rfl) :
    L2N.PMk X (.Call (.Name x p) (e :: es) [] pos) (tMkO C sp [] ta) := by
  intro pins s σ H Q I h
  obtain ⟨nm0, qn0, N0, bs0, bm, sn0, sub0, ab0, col0, dd0, k00, k01, k02, k03, k05, hC, hbm⟩ := T.cls
  refine wpAny_Call_Name_kw (ld_glob I hg hm ?_ hdb)
  refine PySem.W.callWith_K (h₀ := X.base) I.ok.mod.kin T.kC (thn (ha.run pos pins s σ H _ I h) fun us s1 hv => ?_) he hpl
  obtain ⟨vs, H1, I1, r1, hz, q1⟩ := hv
  refine ⟨I1.kIn, ?_⟩
  obtain ⟨hp, g, dr, tk, os⟩ := s1
  have sz : hp.objs.size ≤ hp.objs.size + 1 := Nat.le_succ _
  have kk : ∀ b o, hp.get? b = some o → ((hp.push (PySem.W.kdv_tup us)).push (PySem.HandSPX.excO C hp.objs.size)).get? b = some o := fun b o z => Heap.get?_push_of_some _ (Heap.get?_push_of_some _ z)
  have gg : ((hp.push (PySem.W.kdv_tup us)).push (PySem.HandSPX.excO C hp.objs.size)).get? (hp.objs.size + 1) = some (PySem.HandSPX.excO C hp.objs.size) := by heap_get
  have I2 : Inv X pins σ (upd H1 (hp.objs.size + 1) (exo (hp.objs.size + 1) C none)) ⟨((hp.push (PySem.W.kdv_tup us)).push (PySem.HandSPX.excO C hp.objs.size)), g, dr, tk, os⟩ := I1.laid kk sz (exo_ok gg)
  have hq := q1 (hp.objs.size + 1) (I1.hok.fresh sz)
  rw [List.append_nil] at hq
  have r2 : Vals (V.ref (hp.objs.size + 1) :: vs) (Value.ref (hp.objs.size + 1) :: us) := .cons rfl r1
  have hl : (Value.ref (hp.objs.size + 1) :: us ++ []).length = ps.length := by
    rw [List.append_nil, ← F1.len _ _ _ _ hq]
    exact r2.length.symm
  have b2 := hb ⟨((hp.push (PySem.W.kdv_tup us)).push (PySem.HandSPX.excO C hp.objs.size)), g, dr, tk, os⟩ (Value.ref (hp.objs.size + 1) :: us) I2.kIn hl
  rw [List.append_nil] at b2
  have hus : us.length ≤ sizeLine := by rw [← Paired.length r1, sizeLine_eq]; omega
  refine wpAny_call (PySem.HandSPX.call_own F.excBase_ValueError (fun Y => PySem.HandSPX.refsVE_contains Y bm hbm) (I1.kIn _ _ hC) (PySem.W.looks_findIn I1.kIn iC) (fun self => PySem.W.bind_fn I1.kIn self tI) hus
    (codeAny_mono (F1.run _ X.stack _ _ ⟨Value.ref (hp.objs.size + 1) :: us, []⟩ _ _ _ (fun _ _ _ => False) (hr.make C us []) (I2.env0.make C us []) b2 r2 hq) fun r s' hq' => ?_))
  match r, hq' with
  | .error er, hq' => exact hx pins σ _ _ er s' I2 hq'
  | .ok (.ret u), hq' =>
    obtain ⟨v, H2, os2, bare2, un2, hok2, rv, ev, d, fs, ea, ed, hd1, q2⟩ := hq'
    subst ev
    obtain ⟨h2, g2, d2, t2, os'⟩ := s'
    obtain ⟨t0, G, J, kG, ge, hoe, na⟩ := mk_end0 (d2 := d2) (t2 := t2) I1 sz kk un2 hok2 os2 bare2 ea ed hd1
    exact ⟨rv, hp.objs.size + 1, _, _, ⟨G, g2, d2, t2, os'⟩, _, .ref C, some d, rfl, J, kG, ge, hoe, ⟨rfl, rfl, fun vs hv => by cases hv; rfl⟩, rfl, rfl, na, rfl, bare2, raises_own T.exC T.tyC, q2⟩
def ddOf (d : Option Addr) : Addr := d.getD 0
theorem hotc {X : Cx} {a : Addr} {oe : Obj} {cls : Value} {d : Option Addr} {pn : List (Addr × Obj)} (hz : L2N.Zn cls d oe) (hf : ∃ vs, oe.data = .fields vs) : L2H.HotC (X.suite a ((a, oe) :: pn)) :=
  ⟨(a, oe), ⟨rfl, by obtain ⟨vs, h⟩ := hf; exact ⟨vs, h, hz.2.2 vs h⟩⟩, List.mem_cons_self⟩
theorem rh {k : Nat} {A : Around} {h : Option Value} (r : Room k A) : L2H.RoomH k (A.mark h) := ⟨r.dp, r.un⟩
theorem i_fldR {K : PySem.W.Frag} {H : Hp} {v : V} {a C dx : Addr} {fs : List (Str × V)} {f : Str} {r : V → Prop} (h : H a = some (.ins C dx fs)) (c : Cls K C) (n : NoAttr K C f) (l : fs.lookup f = some v) (k : r v) : ∃ a' C dx fs v, V.ref a = .ref a' ∧ H a' = some (.ins C dx fs) ∧ Cls K C ∧ NoAttr K C f ∧ fs.lookup f = some v ∧ r v := ⟨a, C, dx, fs, v, rfl, h, c, n, l, k⟩
end Dh
/-! K02Txt -/
set_option Elab.async false
set_option linter.all false
set_option maxRecDepth 100000
set_option maxHeartbeats 4000000
namespace Dh
open PySem PySem.Spec L2
def top (i : Nat) : Stmt := PySem.Challenge.pw_duehouse_k02_who_stands.main.body.getD i (.Pass ⟨0, 0, 0, 0⟩)
abbrev s_BadNumber_XinitX : Stmt := inClass (top 3) 0
theorem sc_BadNumber_XinitX : FnScope ["self", "name"] ["self", "name"] (defScope s_BadNumber_XinitX) := ⟨rfl, rfl, rfl, by decide +kernel, rfl, by decide +kernel, by decide +kernel⟩
abbrev s_BadEntry_XinitX : Stmt := inClass (top 4) 0
theorem sc_BadEntry_XinitX : FnScope ["self", "entry"] ["self", "entry"] (defScope s_BadEntry_XinitX) := ⟨rfl, rfl, rfl, by decide +kernel, rfl, by decide +kernel, by decide +kernel⟩
abbrev s_Clash_XinitX : Stmt := inClass (top 5) 0
theorem sc_Clash_XinitX : FnScope ["self", "number"] ["self", "number"] (defScope s_Clash_XinitX) := ⟨rfl, rfl, rfl, by decide +kernel, rfl, by decide +kernel, by decide +kernel⟩
abbrev s_NoEntry_XinitX : Stmt := inClass (top 6) 0
theorem sc_NoEntry_XinitX : FnScope ["self", "number"] ["self", "number"] (defScope s_NoEntry_XinitX) := ⟨rfl, rfl, rfl, by decide +kernel, rfl, by decide +kernel, by decide +kernel⟩
abbrev s_is_number : Stmt := top 10
theorem sc_is_number : FnScope ["number", "low", "high"] ["number", "low", "high"] (defScope s_is_number) := ⟨rfl, rfl, rfl, by decide +kernel, rfl, by decide +kernel, by decide +kernel⟩
abbrev s_is_name : Stmt := top 11
theorem sc_is_name : FnScope ["name", "letter"] ["name"] (defScope s_is_name) := ⟨rfl, rfl, rfl, by decide +kernel, rfl, by decide +kernel, by decide +kernel⟩
abbrev s_is_entry : Stmt := top 15
theorem sc_is_entry : FnScope ["entry"] ["entry"] (defScope s_is_entry) := ⟨rfl, rfl, rfl, by decide +kernel, rfl, by decide +kernel, by decide +kernel⟩
abbrev s_joined : Stmt := top 16
theorem sc_joined : FnScope ["entries", "entry", "table", "clashing", "number"] ["entries"] (defScope s_joined) := ⟨rfl, rfl, rfl, by decide +kernel, rfl, by decide +kernel, by decide +kernel⟩
abbrev s_standing : Stmt := top 17
theorem sc_standing : FnScope ["rows", "withdrawn", "entry"] ["rows"] (defScope s_standing) := ⟨rfl, rfl, rfl, by decide +kernel, rfl, by decide +kernel, by decide +kernel⟩
abbrev s_told_names : Stmt := top 18
theorem sc_told_names : FnScope ["rows", "stands", "form", "names", "entry"] ["rows", "stands", "form"] (defScope s_told_names) := ⟨rfl, rfl, rfl, by decide +kernel, rfl, by decide +kernel, by decide +kernel⟩
abbrev s_Sheet_XinitX : Stmt := inClass (top 19) 0
theorem sc_Sheet_XinitX : FnScope ["self", "entries", "rows", "stands"] ["self", "entries"] (defScope s_Sheet_XinitX) := ⟨rfl, rfl, rfl, by decide +kernel, rfl, by decide +kernel, by decide +kernel⟩
abbrev s_Sheet_XiorX : Stmt := inClass (top 19) 7
theorem sc_Sheet_XiorX : FnScope ["self", "other", "both"] ["self", "other"] (defScope s_Sheet_XiorX) := ⟨rfl, rfl, rfl, by decide +kernel, rfl, by decide +kernel, by decide +kernel⟩
abbrev s_Sheet_stands : Stmt := inClass (top 19) 8
theorem sc_Sheet_stands : FnScope ["self", "number"] ["self", "number"] (defScope s_Sheet_stands) := ⟨rfl, rfl, rfl, by decide +kernel, rfl, by decide +kernel, by decide +kernel⟩
abbrev s_l_mixed : Stmt := top 21
theorem sc_l_mixed : FnScope ["_law_number_here", "_law_turn", "_law_low", "_law_high"] ["_law_number_here", "_law_turn"] (defScope s_l_mixed) := ⟨rfl, rfl, rfl, by decide +kernel, rfl, by decide +kernel, by decide +kernel⟩
abbrev s_l_bag : Stmt := top 22
theorem sc_l_bag : FnScope ["_law_script", "_law_numbers_here", "_law_cell", "_law_seed", "_law_at"] ["_law_script"] (defScope s_l_bag) := ⟨rfl, rfl, rfl, by decide +kernel, rfl, by decide +kernel, by decide +kernel⟩
abbrev s_l_pick : Stmt := top 23
theorem sc_l_pick : FnScope ["_law_bag_here", "_law_many", "_law_turn", "_law_cell", "_law_worth"] ["_law_bag_here", "_law_many"] (defScope s_l_pick) := ⟨rfl, rfl, rfl, by decide +kernel, rfl, by decide +kernel, by decide +kernel⟩
abbrev s_l_choice : Stmt := top 24
theorem sc_l_choice : FnScope ["_law_bag_here", "_law_things"] ["_law_bag_here", "_law_things"] (defScope s_l_choice) := ⟨rfl, rfl, rfl, by decide +kernel, rfl, by decide +kernel, by decide +kernel⟩
abbrev s_l_mingled : Stmt := top 25
theorem sc_l_mingled : FnScope ["_law_bag_here", "_law_things", "_law_left", "_law_out", "_law_step"] ["_law_bag_here", "_law_things"] (defScope s_l_mingled) := ⟨rfl, rfl, rfl, by decide +kernel, rfl, by decide +kernel, by decide +kernel⟩
abbrev s_l_sorted : Stmt := top 26
theorem sc_l_sorted : FnScope ["_law_things", "_law_out", "_law_thing", "_law_at"] ["_law_things"] (defScope s_l_sorted) := ⟨rfl, rfl, rfl, by decide +kernel, rfl, by decide +kernel, by decide +kernel⟩
abbrev s_l_number : Stmt := top 27
theorem sc_l_number : FnScope ["_law_thing"] ["_law_thing"] (defScope s_l_number) := ⟨rfl, rfl, rfl, by decide +kernel, rfl, by decide +kernel, by decide +kernel⟩
abbrev s_l_new_name : Stmt := top 28
theorem sc_l_new_name : FnScope ["_law_bag_here", "_law_used", "_law_letters", "_law_told_here", "_law_step", "_law_near", "_law_at", "_law_tails", "_law_k", "_law_tail"] ["_law_bag_here", "_law_used"] (defScope s_l_new_name) := ⟨rfl, rfl, rfl, by decide +kernel, rfl, by decide +kernel, by decide +kernel⟩
abbrev s_l_numbers : Stmt := top 29
theorem sc_l_numbers : FnScope ["_law_bag_here", "_law_many", "_law_number_here", "_law_gap", "_law_out", "_law_k"] ["_law_bag_here", "_law_many"] (defScope s_l_numbers) := ⟨rfl, rfl, rfl, by decide +kernel, rfl, by decide +kernel, by decide +kernel⟩
abbrev s_l_rows : Stmt := top 30
theorem sc_l_rows : FnScope ["_law_bag_here", "_law_numbers_here", "_law_names", "_law_deep", "_law_out", "_law_at", "_law_number_here", "_law_way"] ["_law_bag_here", "_law_numbers_here", "_law_names"] (defScope s_l_rows) := ⟨rfl, rfl, rfl, by decide +kernel, rfl, by decide +kernel, by decide +kernel⟩
abbrev s_l_stood : Stmt := top 31
theorem sc_l_stood : FnScope ["_law_read", "_law_gone", "_law_out", "_law_entry"] ["_law_read"] (defScope s_l_stood) := ⟨rfl, rfl, rfl, by decide +kernel, rfl, by decide +kernel, by decide +kernel⟩
abbrev s_l_told : Stmt := top 32
theorem sc_l_told : FnScope ["_law_sheet", "_law_number_here", "_law_told_here", "error", "_law_sisters"] ["_law_sheet", "_law_number_here"] (defScope s_l_told) := ⟨rfl, rfl, rfl, by decide +kernel, rfl, by decide +kernel, by decide +kernel⟩
abbrev s_l_due : Stmt := top 33
theorem sc_l_due : FnScope ["_law_read", "_law_stood_here", "_law_number_here", "_law_entry"] ["_law_read", "_law_stood_here", "_law_number_here"] (defScope s_l_due) := ⟨rfl, rfl, rfl, by decide +kernel, rfl, by decide +kernel, by decide +kernel⟩
abbrev s_l_asked : Stmt := top 34
theorem sc_l_asked : FnScope ["_law_numbers_here", "_law_out", "_law_number_here"] ["_law_numbers_here"] (defScope s_l_asked) := ⟨rfl, rfl, rfl, by decide +kernel, rfl, by decide +kernel, by decide +kernel⟩
abbrev s_law : Stmt := top 35
theorem sc_law : FnScope ["_law_script", "_law_bag_here", "_law_names", "_law_k", "_law_many", "_law_numbers_here", "_law_entries", "_law_second", "_law_count", "_law_groups", "_law_entry", "_law_other", "_law_other_stood", "_law_sheet", "_law_read", "_law_stood_here", "_law_number_here"] ["_law_script"] (defScope s_law) := ⟨rfl, rfl, rfl, by decide +kernel, rfl, by decide +kernel, by decide +kernel⟩
structure Ad where
  f_NoEntry_XinitX : Addr
  d_NoEntry_XinitX : FuncData
  f_is_number : Addr
  d_is_number : FuncData
  f_is_name : Addr
  d_is_name : FuncData
  f_is_entry : Addr
  d_is_entry : FuncData
  f_joined : Addr
  d_joined : FuncData
  f_standing : Addr
  d_standing : FuncData
  f_told_names : Addr
  d_told_names : FuncData
  f_Sheet_XinitX : Addr
  d_Sheet_XinitX : FuncData
  f_Sheet_XiorX : Addr
  d_Sheet_XiorX : FuncData
  f_Sheet_stands : Addr
  d_Sheet_stands : FuncData
  f_l_mixed : Addr
  d_l_mixed : FuncData
  f_l_bag : Addr
  d_l_bag : FuncData
  f_l_pick : Addr
  d_l_pick : FuncData
  f_l_choice : Addr
  d_l_choice : FuncData
  f_l_mingled : Addr
  d_l_mingled : FuncData
  f_l_sorted : Addr
  d_l_sorted : FuncData
  f_l_number : Addr
  d_l_number : FuncData
  f_l_new_name : Addr
  d_l_new_name : FuncData
  f_l_numbers : Addr
  d_l_numbers : FuncData
  f_l_rows : Addr
  d_l_rows : FuncData
  f_l_stood : Addr
  d_l_stood : FuncData
  f_l_told : Addr
  d_l_told : FuncData
  f_l_due : Addr
  d_l_due : FuncData
  f_l_asked : Addr
  d_l_asked : FuncData
  f_law : Addr
  d_law : FuncData
  C_DueError : Addr
  C_BadNumber : Addr
  C_BadEntry : Addr
  C_Clash : Addr
  C_NoEntry : Addr
  C_Sheet : Addr
  t_LAST_DAY : Tok
  t_LETTERS : Tok
  t_MOST_NUMBER : Tok
  t_NAME_LETTERS : Tok
  a_dfl : Addr
structure Txt (K : PySem.W.Frag) (mg : Str → Option Value) (A : Ad) : Prop where
  F_NoEntry_XinitX : Fun K "__init__" "NoEntry.__init__" s_NoEntry_XinitX A.f_NoEntry_XinitX A.d_NoEntry_XinitX
  bi_NoEntry_XinitX : Binds K A.d_NoEntry_XinitX ["self", "number"] []
  F_is_number : Fun K "is_number" "is_number" s_is_number A.f_is_number A.d_is_number
  bi_is_number : Binds K A.d_is_number ["number", "low", "high"] []
  g_is_number : mg "is_number" = some (.ref A.f_is_number)
  F_is_name : Fun K "is_name" "is_name" s_is_name A.f_is_name A.d_is_name
  bi_is_name : Binds K A.d_is_name ["name"] []
  g_is_name : mg "is_name" = some (.ref A.f_is_name)
  F_is_entry : Fun K "is_entry" "is_entry" s_is_entry A.f_is_entry A.d_is_entry
  bi_is_entry : Binds K A.d_is_entry ["entry"] []
  g_is_entry : mg "is_entry" = some (.ref A.f_is_entry)
  F_joined : Fun K "joined" "joined" s_joined A.f_joined A.d_joined
  bi_joined : Binds K A.d_joined ["entries"] []
  g_joined : mg "joined" = some (.ref A.f_joined)
  F_standing : Fun K "standing" "standing" s_standing A.f_standing A.d_standing
  bi_standing : Binds K A.d_standing ["rows"] []
  g_standing : mg "standing" = some (.ref A.f_standing)
  F_told_names : Fun K "told_names" "told_names" s_told_names A.f_told_names A.d_told_names
  bi_told_names : Binds K A.d_told_names ["rows", "stands", "form"] []
  g_told_names : mg "told_names" = some (.ref A.f_told_names)
  F_Sheet_XinitX : FunD K "__init__" "Sheet.__init__" (defArgs s_Sheet_XinitX) (defBody s_Sheet_XinitX) (defScope s_Sheet_XinitX) [.ref A.a_dfl] [] A.f_Sheet_XinitX A.d_Sheet_XinitX
  bi_Sheet_XinitX : Binds K A.d_Sheet_XinitX ["self", "entries"] []
  F_Sheet_XiorX : Fun K "__ior__" "Sheet.__ior__" s_Sheet_XiorX A.f_Sheet_XiorX A.d_Sheet_XiorX
  bi_Sheet_XiorX : Binds K A.d_Sheet_XiorX ["self", "other"] []
  F_Sheet_stands : Fun K "stands" "Sheet.stands" s_Sheet_stands A.f_Sheet_stands A.d_Sheet_stands
  bi_Sheet_stands : Binds K A.d_Sheet_stands ["self", "number"] []
  F_l_mixed : Fun K "_law_mixed" "_law_mixed" s_l_mixed A.f_l_mixed A.d_l_mixed
  bi_l_mixed : Binds K A.d_l_mixed ["_law_number_here", "_law_turn"] []
  g_l_mixed : mg "_law_mixed" = some (.ref A.f_l_mixed)
  F_l_bag : Fun K "_law_bag" "_law_bag" s_l_bag A.f_l_bag A.d_l_bag
  bi_l_bag : Binds K A.d_l_bag ["_law_script"] []
  g_l_bag : mg "_law_bag" = some (.ref A.f_l_bag)
  F_l_pick : Fun K "_law_pick" "_law_pick" s_l_pick A.f_l_pick A.d_l_pick
  bi_l_pick : Binds K A.d_l_pick ["_law_bag_here", "_law_many"] []
  g_l_pick : mg "_law_pick" = some (.ref A.f_l_pick)
  F_l_choice : Fun K "_law_choice" "_law_choice" s_l_choice A.f_l_choice A.d_l_choice
  bi_l_choice : Binds K A.d_l_choice ["_law_bag_here", "_law_things"] []
  g_l_choice : mg "_law_choice" = some (.ref A.f_l_choice)
  F_l_mingled : Fun K "_law_mingled" "_law_mingled" s_l_mingled A.f_l_mingled A.d_l_mingled
  bi_l_mingled : Binds K A.d_l_mingled ["_law_bag_here", "_law_things"] []
  g_l_mingled : mg "_law_mingled" = some (.ref A.f_l_mingled)
  F_l_sorted : Fun K "_law_sorted" "_law_sorted" s_l_sorted A.f_l_sorted A.d_l_sorted
  bi_l_sorted : Binds K A.d_l_sorted ["_law_things"] []
  g_l_sorted : mg "_law_sorted" = some (.ref A.f_l_sorted)
  F_l_number : Fun K "_law_number" "_law_number" s_l_number A.f_l_number A.d_l_number
  bi_l_number : Binds K A.d_l_number ["_law_thing"] []
  g_l_number : mg "_law_number" = some (.ref A.f_l_number)
  F_l_new_name : Fun K "_law_new_name" "_law_new_name" s_l_new_name A.f_l_new_name A.d_l_new_name
  bi_l_new_name : Binds K A.d_l_new_name ["_law_bag_here", "_law_used"] []
  g_l_new_name : mg "_law_new_name" = some (.ref A.f_l_new_name)
  F_l_numbers : Fun K "_law_numbers" "_law_numbers" s_l_numbers A.f_l_numbers A.d_l_numbers
  bi_l_numbers : Binds K A.d_l_numbers ["_law_bag_here", "_law_many"] []
  g_l_numbers : mg "_law_numbers" = some (.ref A.f_l_numbers)
  F_l_rows : Fun K "_law_rows" "_law_rows" s_l_rows A.f_l_rows A.d_l_rows
  bi_l_rows : Binds K A.d_l_rows ["_law_bag_here", "_law_numbers_here", "_law_names"] []
  g_l_rows : mg "_law_rows" = some (.ref A.f_l_rows)
  F_l_stood : Fun K "_law_stood" "_law_stood" s_l_stood A.f_l_stood A.d_l_stood
  bi_l_stood : Binds K A.d_l_stood ["_law_read"] []
  g_l_stood : mg "_law_stood" = some (.ref A.f_l_stood)
  F_l_told : Fun K "_law_told" "_law_told" s_l_told A.f_l_told A.d_l_told
  bi_l_told : Binds K A.d_l_told ["_law_sheet", "_law_number_here"] []
  g_l_told : mg "_law_told" = some (.ref A.f_l_told)
  F_l_due : Fun K "_law_due" "_law_due" s_l_due A.f_l_due A.d_l_due
  bi_l_due : Binds K A.d_l_due ["_law_read", "_law_stood_here", "_law_number_here"] []
  g_l_due : mg "_law_due" = some (.ref A.f_l_due)
  F_l_asked : Fun K "_law_asked" "_law_asked" s_l_asked A.f_l_asked A.d_l_asked
  bi_l_asked : Binds K A.d_l_asked ["_law_numbers_here"] []
  g_l_asked : mg "_law_asked" = some (.ref A.f_l_asked)
  F_law : Fun K "law" "law" s_law A.f_law A.d_law
  bi_law : Binds K A.d_law ["_law_script"] []
  g_law : mg "law" = some (.ref A.f_law)
  g_DueError : mg "DueError" = some (.ref A.C_DueError)
  xf_DueError : XfC K A.C_DueError
  g_BadNumber : mg "BadNumber" = some (.ref A.C_BadNumber)
  g_BadEntry : mg "BadEntry" = some (.ref A.C_BadEntry)
  g_Clash : mg "Clash" = some (.ref A.C_Clash)
  g_NoEntry : mg "NoEntry" = some (.ref A.C_NoEntry)
  ox_NoEntry : OexC K A.C_NoEntry
  xf_NoEntry : XfC K A.C_NoEntry
  nx_NoEntry : PySem.W.findIn K (.ref A.C_NoEntry) "number" = some none
  ix_NoEntry : PySem.W.findIn K (.ref A.C_NoEntry) "__init__" = some (some (.ref A.f_NoEntry_XinitX))
  tx_NoEntry : PySem.W.typeIn K (.ref A.f_NoEntry_XinitX) = some (.type "function")
  g_Sheet : mg "Sheet" = some (.ref A.C_Sheet)
  cl_Sheet : Cls K A.C_Sheet
  na_Sheet__rows : NoAttr K A.C_Sheet "_rows"
  na_Sheet__standing : NoAttr K A.C_Sheet "_standing"
  na_Sheet__signs : NoAttr K A.C_Sheet "_signs"
  na_Sheet__rules : NoAttr K A.C_Sheet "_rules"
  m_Sheet_stands : Meth K A.C_Sheet "stands" A.f_Sheet_stands
  mk_Sheet : Mk K A.C_Sheet A.f_Sheet_XinitX
  sf_Sheet : PySem.W.selfFirst K A.C_Sheet = true
  c_LAST_DAY : mg "LAST_DAY" = some (.int 59 A.t_LAST_DAY)
  c_LETTERS : mg "LETTERS" = some (.str "abcdefghijklmnopqrstuvwxyz" A.t_LETTERS)
  c_MOST_NUMBER : mg "MOST_NUMBER" = some (.int 999 A.t_MOST_NUMBER)
  c_NAME_LETTERS : mg "NAME_LETTERS" = some (.int 8 A.t_NAME_LETTERS)
  b_ValueError : mg "ValueError" = none
  b_abs : mg "abs" = none
  b_all : mg "all" = none
  b_bool : mg "bool" = none
  b_enumerate : mg "enumerate" = none
  b_int : mg "int" = none
  b_isinstance : mg "isinstance" = none
  b_len : mg "len" = none
  b_list : mg "list" = none
  b_range : mg "range" = none
  b_reversed : mg "reversed" = none
  b_sorted : mg "sorted" = none
  b_str : mg "str" = none
  b_tuple : mg "tuple" = none
  kc_Sheet : PySem.W.findIn K (.ref A.C_Sheet) "__class__" = some (some (.builtin "object.__class__"))
  kn_obj : PySem.W.specialIn K (.builtin "object.__class__") "__get__" = some (some (.builtin "getset_descriptor.__get__"))
  kt_obj : PySem.W.takesIn K (.builtin "object.__class__") = some true
  km_Sheet : PySem.W.mroIn K A.C_Sheet (.type "object") = some true
  ec_NoEntry : ExcC K A.C_NoEntry
  su_NoEntry : PySem.W.subIn K (.ref A.C_NoEntry) (.ref A.C_DueError) = some true
  kb_BadEntry : PySem.W.kitOne K (.ref A.C_NoEntry) (.ref A.C_BadEntry) = some false
  kb_BadNumber : PySem.W.kitOne K (.ref A.C_NoEntry) (.ref A.C_BadNumber) = some false
  kb_Clash : PySem.W.kitOne K (.ref A.C_NoEntry) (.ref A.C_Clash) = some false
  kb_ValueError : PySem.W.kitOne K (.ref A.C_NoEntry) (.type "ValueError") = some true
  kb_NoEntry : PySem.W.kitOne K (.ref A.C_NoEntry) (.ref A.C_NoEntry) = some true
  io_Sheet : PySem.W.findIn K (.ref A.C_Sheet) "__ior__" = some (some (.ref A.f_Sheet_XiorX))
  if_Sheet : PySem.W.isFn K (.ref A.f_Sheet_XiorX) = true
  ty_DueError : PySem.W.typeIn K (.ref A.C_DueError) = some (.type "type")
end Dh
/-! K02Pre -/
set_option Elab.async false
set_option linter.all false
set_option maxRecDepth 100000
set_option maxHeartbeats 4000000
namespace Dh
open PySem PySem.Spec L2
open _root_.Evl (Ex)
local macro_rules | `(tactic| walk_at "ex") => `(tactic| first | assumption | ((with_reducible apply ex_mut); (focus assumption); walk_at "ex") | ((with_reducible apply ex_both); walk_at "ex") | ((with_reducible apply ex_new); (focus assumption); walk_at "ex"))
local macro_rules | `(tactic| walk_at "hp") => `(tactic| first | assumption | with_reducible exact upd_same | ((with_reducible apply upd_old); (focus assumption); walk_at "hp") | ((with_reducible apply upd_oth); (focus walk_at "neq"); walk_at "hp") | ((with_reducible apply ex_by); (focus assumption); walk_at "ex") | ((with_reducible apply ex_at); (focus assumption); walk_at "hp"))
local macro_rules | `(tactic| walk_at "neq") => `(tactic| first | assumption | (apply Ne.symm; assumption))
local macro_rules | `(tactic| walk_at "sq") => `(tactic| first | assumption | ((with_reducible apply SqL.of); walk_at "hp") | ((with_reducible apply SqT.of); walk_at "hp"))
local macro_rules | `(tactic| walk_at "side") => `(tactic| first | assumption | decide | exact cm_fmod (by decide) (by decide) | (show _ ≠ (0 : Int); decide) | (show _ ≠ (0 : Int); omega) | exact Or.inr ⟨by decide, by decide⟩ | exact Or.inl ⟨by decide, by decide⟩ | (show CDivN _ _; exact ⟨by decide, by decide⟩) | (show CDivN _ _; exact ⟨by omega, by omega⟩) | exact Or.inl ⟨by omega, by omega⟩ | exact Or.inr ⟨by omega, by omega⟩ | exact ⟨by decide, by decide, by decide⟩)
local macro_rules | `(tactic| walk_at "ix") => `(tactic| first | exact rfl | assumption | exact atI_nat (by assumption))
local macro_rules | `(tactic| walk_at "step0") => `(tactic| first
  | with_reducible refine i_seq ?_
  | with_reducible refine i_asg ?_
  | with_reducible refine i_op ?_
  | ((with_reducible refine' i_var ?hv ?_); (case hv => exact rfl))
  | with_reducible refine i_c ?_
  | with_reducible refine i_cons ?_
  | with_reducible refine i_nil ?_
  | with_reducible refine i_cb ?_
  | with_reducible refine i_call ?_
  | with_reducible refine i_call' ?_
  | with_reducible refine i_un ?_
  | with_reducible refine i_I0 ?_
  | ((with_reducible refine i_I ?hv ?_); (case hv => walk_at "side"))
  | with_reducible refine i_eqI ?_
  | with_reducible refine i_neI ?_
  | with_reducible refine i_eqS ?_
  | with_reducible refine i_neS ?_
  | ((with_reducible refine i_eq ?hv ?_); (case hv => exact rfl))
  | ((with_reducible refine i_ne ?hv ?_); (case hv => exact rfl))
  | with_reducible refine i_int1 ?_
  | with_reducible refine i_abs ?_
  | ((with_reducible refine' i_ixL ?hv ?hw ?_); (case hv => walk_at "sq"); (case hw => walk_at "ix"))
  | ((with_reducible refine' i_ixT ?hv ?hw ?_); (case hv => walk_at "sq"); (case hw => walk_at "ix"))
  | ((with_reducible refine' i_lenL ?hv ?_); (case hv => walk_at "sq"))
  | ((with_reducible refine' i_lenT ?hv ?_); (case hv => walk_at "sq"))
  | with_reducible refine i_addIB ?_
  | with_reducible refine i_mulIB ?_
  | ((with_reducible refine i_lenS ?hv ?_); (case hv => walk_at "side"))
  | with_reducible refine i_tup ?_
  | with_reducible refine i_lst ?_
  | with_reducible refine i_asgG ?_
  | with_reducible refine i_gname ?_
  | with_reducible refine i_gsub ?_
  | ((with_reducible refine' i_setL ?hv ?hw ?_); (case hv => walk_at "hp"); (case hw => exact rfl))
  | with_reducible refine i_ret ?_
  | with_reducible refine i_drop ?_
  | with_reducible refine i_next ?_
  | with_reducible refine i_test ?_
  | with_reducible refine i_B ?_
  | with_reducible refine i_bl ?_
  | with_reducible refine i_not ?_
  | with_reducible refine i_and ?_
  | with_reducible refine i_or ?_
  | ((with_reducible refine' i_app ?hv ?hw ?_); (case hv => walk_at "hp"); (case hw => walk_at "side"))
  | with_reducible refine iteT ?_
  | with_reducible refine iteF ?_
  | with_reducible refine iteNT ?_
  | with_reducible refine iteNF ?_
  | ((with_reducible refine iteT' ?hv ?_); (case hv => first | exact decide_eq_true (by assumption) | exact notF (by assumption) | exact decide_eq_true rfl | exact notF (by decide) | exact decide_eq_true (by decide) | exact decide_eq_true (by simp only [List.length_cons, List.length_nil]; decide)))
  | ((with_reducible refine iteF' ?hv ?_); (case hv => first | exact decide_eq_false (by assumption) | exact notT (by assumption) | exact notT rfl | exact decide_eq_false (by decide) | exact decide_eq_false (by simp only [List.length_cons, List.length_nil]; decide)))
  | with_reducible refine i_forL ?_
  | with_reducible refine i_forT ?_
  | with_reducible refine i_forR ?_
  | with_reducible refine i_forR2 ?_
  | with_reducible refine i_forE ?_
  | with_reducible refine i_forV ?_
  | with_reducible refine i_forS ?_
  | with_reducible refine i_forK ?_
  | with_reducible refine i_lcL ?_
  | with_reducible refine i_lcT ?_
  | with_reducible refine i_lcR ?_
  | with_reducible refine i_lcR2 ?_
  | with_reducible refine i_lcS ?_
  | with_reducible refine i_lcK ?_
  | ((with_reducible refine' fl_L ?hv ?_); (case hv => walk_at "sq"))
  | ((with_reducible refine' fl_T ?hv ?_); (case hv => walk_at "sq"))
  | ((with_reducible refine fl_R ?hv ?hw ?_); (case hv => (first | decide | omega)); (case hw => (first | decide | omega)))
  | ((with_reducible refine fl_R2 ?hv ?_); (case hv => (first | decide | (refine ⟨?_, ?_, ?_, ?_⟩ <;> omega))))
  | ((with_reducible refine' fl_E ?hv ?_); (case hv => walk_at "sq"))
  | ((with_reducible refine' fl_V ?hv ?_); (case hv => walk_at "sq"))
  | with_reducible refine fl_S ?_
  | ((with_reducible refine' fc_L ?hv ?_); (case hv => walk_at "sq"))
  | ((with_reducible refine' fc_T ?hv ?_); (case hv => walk_at "sq"))
  | ((with_reducible refine fc_R ?hv ?hw ?_); (case hv => (first | decide | omega)); (case hw => (first | decide | omega)))
  | with_reducible refine fc_S ?_
  | with_reducible refine i_sl ?_
  | with_reducible refine i_nopart ?_
  | with_reducible refine i_part ?_
  | with_reducible refine i_isint ?_
  | ((with_reducible refine' i_slL ?hv ?_); (case hv => walk_at "sq"))
  | ((with_reducible refine i_slS ?hv ?_); (case hv => walk_at "side"))
  | ((with_reducible refine' i_gtup ?hv ?hw ?_); (case hv => walk_at "sq"); (case hw => exact rfl))
  | with_reducible refine i_gcons ?_
  | with_reducible refine i_gnil ?_
  | ((with_reducible refine' i_listL ?hv ?_); (case hv => walk_at "sq"))
  | ((with_reducible refine' i_listT ?hv ?_); (case hv => walk_at "sq"))
  | ((with_reducible refine' i_tupL ?hv ?_); (case hv => walk_at "sq"))
  | ((with_reducible refine' i_lenD ?hv ?_); (case hv => walk_at "hp"))
  | ((with_reducible refine' i_ty ?hv ?_); (case hv => walk_at "hp"))
  | ((with_reducible refine And.intro ?hv ?_); (case hv => first | exact (by decide : (0 : Nat) ≤ sizeLine) | exact (by decide : (1 : Nat) ≤ sizeLine) | exact (by decide : (2 : Nat) ≤ sizeLine) | exact (by decide : (3 : Nat) ≤ sizeLine) | exact (by decide : (4 : Nat) ≤ sizeLine) | exact (by decide : (5 : Nat) ≤ sizeLine) | exact (by decide : (6 : Nat) ≤ sizeLine)))
  | with_reducible refine i_inC ?_
  | ((with_reducible refine i_addT ?hv ?_); (case hv => walk_at "side"))
  | with_reducible refine i_m1 ?_
  | with_reducible refine i_isstr ?_
  | with_reducible refine is_int_int ?_
  | with_reducible refine is_int_bool ?_
  | with_reducible refine is_str_str ?_
  | ((with_reducible refine' is_tup_tup ?hv ?_); (case hv => walk_at "hp"))
  | with_reducible refine i_ifExp ?_
  | with_reducible refine i_andV ?_
  | with_reducible refine i_orV ?_
  | with_reducible refine i_notV ?_
  | with_reducible refine i_chain ?_
  | ((with_reducible refine' i_inS ?hv ?_); (case hv => walk_at "sq"))
  | ((with_reducible refine' i_niS ?hv ?_); (case hv => walk_at "sq"))
  | ((with_reducible refine' i_inI ?hv ?_); (case hv => walk_at "sq"))
  | ((with_reducible refine' i_niI ?hv ?_); (case hv => walk_at "sq"))
  | with_reducible refine i_dnew ?_
  | with_reducible refine i_dput ?_
  | ((with_reducible refine' i_dputI ?hv ?hw ?_); (case hv => walk_at "hp"); (case hw => walk_at "side"))
  | with_reducible refine i_dget ?_
  | ((with_reducible refine' i_dgetI ?hv ?hw ?_); (case hv => walk_at "hp"); (case hw => assumption))
  | with_reducible refine i_dnotin ?_
  | with_reducible refine i_din ?_
  | ((with_reducible refine' i_dnotinI ?hv ?_); (case hv => walk_at "hp"))
  | with_reducible refine i_dsetd ?_
  | ((with_reducible refine' i_isd ?hv ?_); (case hv => walk_at "hp"))
  | with_reducible refine i_fld ?_
  | with_reducible refine i_sfld ?_
  | with_reducible refine i_dcT ?_
  | with_reducible refine i_dcL ?_
  | with_reducible refine i_truT ?_
  | ((with_reducible refine' i_truL ?hv ?_); (case hv => walk_at "sq"))
  | with_reducible refine i_revL ?_
  | ((with_reducible refine' i_atLx ?hv ?_); (case hv => walk_at "sq"))
  | with_reducible refine i_bm ?_
  | with_reducible refine i_bm0 ?_)
local macro_rules | `(tactic| walk_at "step") => `(tactic| first | walk_at "step0" | with_reducible refine i_ifS ?_)
local macro_rules | `(tactic| walk_at "goj") => `(tactic| repeat (first | walk_at "step0" | with_reducible refine i_ifS (c := tTest _) ?_ | with_reducible refine i_ifS (c := tB _) ?_))
local macro_rules | `(tactic| walk_at "tj") => `(tactic| (intro q hq; repeat (first | exact hq | walk_at "step" | (refine and_q hq (fun h => ?_); clear hq; rename_i hq) | (refine or_q hq (fun h => ?_); clear hq; rename_i hq))))
local macro_rules | `(tactic| walk_at "go") => `(tactic| repeat walk_at "step")

/-! ### heaps -/
def BgL (F : Hp) (l : List V) : Prop := ∃ (n : Addr) (ns : List Int) (i h t s : Int), l = [.ref n, .int i, .int h, .int t, .int s] ∧ F n = some (.lst (ns.map V.int)) ∧ 0 ≤ i ∧ 0 ≤ h
structure Bg (F H : Hp) (b : Addr) : Prop where
  fr : F b = none
  ex : ∃ l, H b = some (.lst l) ∧ BgL F l
def spMixed : Sp := fun vs H Q _ => ∃ x t : Int, vs = [.int x, .int t] ∧ ∀ r : Int, Q (.int r) H
def spPick : Sp := fun vs H Q _ => ∃ (b : Addr) (m : Int) (F : Hp), vs = [.ref b, .int m] ∧ 0 < m ∧ m < 1073741824 ∧ Ex F H ∧ Bg F H b ∧ ∀ (r : Int) (l : List V), 0 ≤ r → r < m → BgL F l → Q (.int r) (upd H b (.lst l))
section
variable {P : Program} {w : World} {K : PySem.W.Frag} {mg : Str → Option Value} {base : Heap} {A : Ad}
theorem ok_l_mixed (T : Txt K mg A) : FnOk P w K mg base CX0 1 A.f_l_mixed A.d_l_mixed ["_law_number_here", "_law_turn"] spMixed := by
  refine T.F_l_mixed.ok sc_l_mixed (fun vs H Q E h => ?_) (fun cdv Ar outer s H vs Q E hr h => ?_)
  · obtain ⟨x, t, rfl, _⟩ := h; rfl
  · obtain ⟨x, t, rfl, k⟩ := h
    refine ⟨_, (pss_cons (ps_set (i := 2) sc_l_mixed.nd rfl (Or.inl rfl) (pe_op op_modN (pe_callTy cl_int (by rfl) T.b_int (by decide +kernel) (pa_cons (pe_op op_add (pe_op op_mul (pe_op op_add (pv 0) pe_int) pe_int) (pe_op op_mul (pe_op op_add (pv 1) pe_int) pe_int)) pa_nil)) pe_int))
  (pss_cons (ps_set (i := 3) sc_l_mixed.nd rfl (Or.inl rfl) (pe_op op_modN (pe_callTy cl_int (by rfl) T.b_int (by decide +kernel) (pa_cons (pe_op op_add (pe_op op_add (pe_op op_mul (pv 2) (pv 2)) (pe_op op_mul (pv 2) pe_int)) (pe_op op_mul (pe_op op_add (pv 1) pe_int) pe_int)) pa_nil)) pe_int))
  (pss_one (ps_ret (pe_op op_modN (pe_callTy cl_int (by rfl) T.b_int (by decide +kernel) (pa_cons (pe_op op_add (pe_op op_add (pe_op op_fdivN (pv 3) pe_int) (pe_op op_mul (pv 3) pe_int)) (pv 1)) pa_nil)) pe_int))))), ?_⟩
    walk_at "go"
    exact k _
theorem ok_l_pick (T : Txt K mg A) : FnOk P w K mg base CX0 2 A.f_l_pick A.d_l_pick ["_law_bag_here", "_law_many"] spPick := by
  refine T.F_l_pick.ok sc_l_pick (fun vs H Q E h => ?_) (fun cdv Ar outer s H vs Q E hr h => ?_)
  · obtain ⟨b, m, F, rfl, _⟩ := h; rfl
  · obtain ⟨b, m, F, rfl, m0, m1, e, ⟨fr, l, hb, n, ns, i, hh, t, sd, rfl, hn, i0, h0⟩, k⟩ := h
    refine ⟨_, (pss_cons (ps_set (i := 2) sc_l_pick.nd rfl (Or.inl rfl) (pe_ix ix_list (pv 0) pe_int (fun _ _ => rfl)))
  (pss_cons (ps_asg (pe_op op_add (pv 2) pe_int) (pg_sub (pv 0) pe_int set_list))
  (pss_cons (ps_if (PW.pt (pw_and (pt_cmpR op_eq (pe_ix ix_list (pv 0) pe_int (fun _ _ => rfl)) pe_int (nomark _)) (pw_and1 (pt_cmpR op_lt (pe_ix ix_list (pv 0) pe_int (fun _ _ => rfl)) (pe_callB cl_len (by rfl) T.b_len (by decide +kernel) (pa_cons (pe_ix ix_list (pv 0) pe_int (fun _ _ => rfl)) pa_nil)) (nomark _))))) (pss_cons (ps_set (i := 3) sc_l_pick.nd rfl (Or.inl rfl) (pe_ix ix_list (pe_ix ix_list (pv 0) pe_int (fun _ _ => rfl)) (pe_ix ix_list (pv 0) pe_int (fun _ _ => rfl)) (fun _ _ => rfl)))
  (pss_cons (ps_asg (pe_op op_add (pe_ix ix_list (pv 0) pe_int (fun _ _ => rfl)) pe_int) (pg_sub (pv 0) pe_int set_list))
  (pss_cons (ps_if (pt_cmpR op_lt (pe_callB cl_abs (by rfl) T.b_abs (by decide +kernel) (pa_cons (pv 3) pa_nil)) (pe_op op_pow pe_int pe_int) (nomark _)) (pss_one (ps_ret (pe_op op_modN (pe_callTy cl_int (by rfl) T.b_int (by decide +kernel) (pa_cons (pe_call (ok_l_mixed T) (hr.mono (by decide)) rfl T.g_l_mixed T.F_l_mixed.kp T.bi_l_mixed .nil pass0 (pa_cons (pe_op op_addIB (pe_op op_mul pe_int (pe_callB cl_abs (by rfl) T.b_abs (by decide +kernel) (pa_cons (pv 3) pa_nil))) (pe_cmpR op_lt (pv 3) pe_int (nomark _))) (pa_cons (pv 2) pa_nil))) pa_nil)) (pv 1)))) pss_nil)
  (pss_one (ps_asg (pe_callB cl_abs (by rfl) T.b_abs (by decide +kernel) (pa_cons (pv 3) pa_nil)) (pg_sub (pv 0) pe_int set_list)))))) pss_nil)
  (pss_cons (ps_if (pt_cmpR op_eq (pe_ix ix_list (pv 0) pe_int (fun _ _ => rfl)) pe_int (nomark _)) (pss_one (ps_ret (pe_op op_modN (pe_callTy cl_int (by rfl) T.b_int (by decide +kernel) (pa_cons (pe_call (ok_l_mixed T) (hr.mono (by decide)) rfl T.g_l_mixed T.F_l_mixed.kp T.bi_l_mixed .nil pass0 (pa_cons (pe_ix ix_list (pv 0) pe_int (fun _ _ => rfl)) (pa_cons (pv 2) pa_nil))) pa_nil)) (pv 1)))) pss_nil)
  (pss_cons (ps_set (i := 4) sc_l_pick.nd rfl (Or.inl rfl) (pe_op op_modN (pe_callTy cl_int (by rfl) T.b_int (by decide +kernel) (pa_cons (pe_ix ix_list (pv 0) pe_int (fun _ _ => rfl)) pa_nil)) (pv 1)))
  (pss_cons (ps_asg (pe_op op_fdivN (pe_ix ix_list (pv 0) pe_int (fun _ _ => rfl)) (pv 1)) (pg_sub (pv 0) pe_int set_list))
  (pss_one (ps_ret (pv 4))))))))), ?_⟩
    dsimp only [cxOf, Cx.nox, Cx.wish]
    have fin : ∀ (z : Int) (l : List V), BgL F l → Q (.int (z.fmod m)) (upd H b (.lst l)) := fun z l hl => k _ l (fmod_lt m0).1 (fmod_lt m0).2 hl
    walk_at "go"
    refine iteD (fun c1 => ?_) (fun c1 => ?_)
    · walk_at "go"
      refine iteD (fun c2 => ?_) (fun c2 => ?_)
      · rw [List.length_map] at c2
        obtain ⟨z, hz, _⟩ := atI_ints i0 c2
        walk_at "go"
        refine iteD (fun c3 => ?_) (fun c3 => ?_)
        · walk_at "go"
          refine ⟨_, _, rfl, fun r => ?_⟩
          walk_at "go"
          rw [upd_upd]
          exact fin _ _ ⟨n, ns, i + 1, hh, t + 1, sd, rfl, hn, by omega, h0⟩
        · walk_at "go"
          rw [upd_upd, upd_upd]
          have a0 : 0 ≤ (if z < 0 then -z else z) := by split <;> omega
          generalize (if z < 0 then -z else z) = az at a0 c3 ⊢
          refine iteD (fun c4 => ?_) (fun c4 => ?_)
          · walk_at "go"
            refine ⟨_, _, rfl, fun r => ?_⟩
            walk_at "go"
            exact fin _ _ ⟨n, ns, i + 1, az, t + 1, sd, rfl, hn, by omega, a0⟩
          · walk_at "go"
            rw [upd_upd]
            exact fin _ _ ⟨n, ns, i + 1, az.fdiv m, t + 1, sd, rfl, hn, by omega, Int.fdiv_nonneg a0 (by omega)⟩
      · walk_at "go"
        refine ⟨_, _, rfl, fun r => ?_⟩
        walk_at "go"
        exact fin _ _ ⟨n, ns, i, hh, t + 1, sd, rfl, hn, i0, h0⟩
    · walk_at "go"
      rw [upd_upd]
      exact fin _ _ ⟨n, ns, i, hh.fdiv m, t + 1, sd, rfl, hn, i0, Int.fdiv_nonneg h0 (by omega)⟩
/-- law's bag: a new list [numbers, 0, 0, 0, seed] over a new list of the numbers -/
def spBag (K : PySem.W.Frag) : Sp := fun vs H Q _ => ∃ (a : Addr) (ns : List Int), vs = [.ref a] ∧ SqL K H a (ns.map V.int) ∧ ns.length ≤ 63 ∧ ∀ (b n : Addr) (sd : Int) (H' : Hp), Ex H H' → H b = none → H n = none → b ≠ n → H' n = some (.lst (ns.map V.int)) → H' b = some (.lst [.ref n, .int 0, .int 0, .int 0, .int sd]) → Q (.ref b) H'
theorem ok_l_bag (T : Txt K mg A) : FnOk P w K mg base CX0 1 A.f_l_bag A.d_l_bag ["_law_script"] (spBag K) := by
  refine T.F_l_bag.ok sc_l_bag (fun vs H Q E h => ?_) (fun cdv Ar outer s H vs Q E hr h => ?_)
  · obtain ⟨a, ns, rfl, _⟩ := h; rfl
  · obtain ⟨a, ns, rfl, hS, hl, k⟩ := h
    refine ⟨_, (pss_cons (ps_setLc (i := 1) (own := [("_law_cell", 2)]) (g := gName 2) (tt := tYes) rfl sc_l_bag.nd rfl rfl (sw_true rfl rfl rfl (by decide +kernel)) (pi_list (pv 0)) (blkOk_by (N := ["_law_script", "_law_numbers_here", "_law_cell", "_law_seed", "_law_at"]) (sc := defScope s_l_bag) (by decide +kernel)) (fun _ _ _ _ _ => (pg_name (i := 2) sc_l_bag.nd rfl (Or.inl rfl))) (fun _ _ _ _ _ => pts_nil) (fun _ _ _ _ _ => (pe_callTy cl_int (by rfl) T.b_int (by decide +kernel) (pa_cons (pv 2) pa_nil))))
  (pss_cons (ps_set (i := 3) sc_l_bag.nd rfl (Or.inl rfl) (pe_callB cl_len (by rfl) T.b_len (by decide +kernel) (pa_cons (pv 1) pa_nil)))
  (pss_cons (ps_for PassesOwn.never rfl (pi_enum (by rfl) T.b_enumerate (pa_cons (pe_slice sl_list (pv 1) po_none (po_some pe_int)) pa_nil)) (pg_tup (n := 2) rfl (pgs_cons (pg_name (i := 4) sc_l_bag.nd rfl (Or.inl rfl)) (pgs_cons (pg_name (i := 2) sc_l_bag.nd rfl (Or.inl rfl)) pgs_nil)) (by rfl))
   (pss_one (ps_set (i := 3) sc_l_bag.nd rfl (Or.inl rfl) (pe_op op_modN (pe_callTy cl_int (by rfl) T.b_int (by decide +kernel) (pa_cons (pe_op op_add (pe_op op_add (pe_op op_mul (pv 3) pe_int) (pe_op op_modN (pe_callTy cl_int (by rfl) T.b_int (by decide +kernel) (pa_cons (pe_callB cl_abs (by rfl) T.b_abs (by decide +kernel) (pa_cons (pv 2) pa_nil)) pa_nil)) pe_int)) (pe_op op_mulIB (pe_op op_add (pv 4) pe_int) (pe_cmpR op_lt (pv 2) pe_int (nomark _)))) pa_nil)) pe_int))))
  (pss_one (ps_ret (pe_lst (pa_cons (pv 1) (pa_cons pe_int (pa_cons pe_int (pa_cons pe_int (pa_cons (pv 3) pa_nil))))))))))), ?_⟩
    dsimp only [cxOf, Cx.nox, Cx.wish]
    walk_at "go"
    refine lc_pure (fun i => .int (ns.getD i 0)) (by simp; have : (63 : Nat) < sizeLine := by decide
                                                     omega) (fun i => .int (ns.getD i 0)) (fun H' e => _root_.Evl.ex_l e hS) (fun i H0 v H' hi y => ⟨y.1, ?_⟩) (fun i H' Q' hi e q => ?_) (fun n hn => ?_)
    · have := y.2; simp at hi this; simp [hi] at this ⊢; exact this.symm
    · walk_at "go"; exact q
    · rw [map_range_getD]
      walk_at "go"
      intro p hp
      walk_at "go"
      refine ⟨fun i σ H' => ∃ (c : Option V) (sd : Int) (t : Option V), σ = [some (.ref a), some (.ref n), c, some (.int sd), t] ∧ Ex (upd (upd H n (.lst (ns.map V.int))) p (.lst (cutV (ns.map V.int) none (some 63)))) H', ⟨none, _, none, rfl, Ex.refl _⟩, fun i σ H' hi ⟨c, sd, t, h1, e1⟩ => ?_, fun i x σ H1 H2 hi ⟨c, sd, t, h1, e1⟩ y => ?_, fun σ H' ⟨c, sd, t, h1, e1⟩ => ?_⟩
      · walk_at "sq"
      · obtain ⟨T', x', y', rfl, hT, rfl, h3, h4⟩ := y
        subst h1
        obtain rfl : V.int (i : Nat) = x' := Option.some.inj h3
        have h5 : ∃ z, y' = V.int z := by
          have h4' := List.mem_of_getElem? h4
          have h6 := List.mem_of_mem_drop (List.mem_of_mem_take h4')
          obtain ⟨z, _, e⟩ := List.mem_map.mp h6
          exact ⟨z, e.symm⟩
        obtain ⟨z, rfl⟩ := h5
        walk_at "go"
        exact ⟨_, _, _, rfl, e1.trans (Ex.new hT)⟩
      · subst h1
        walk_at "go"
        intro b hb
        have eH : Ex H H' := (Ex.new hn).trans ((Ex.new hp).trans e1)
        have hn' : H' n = some (.lst (ns.map V.int)) := e1 _ _ (upd_old hp upd_same)
        exact k b n sd _ (eH.trans (Ex.new hb)) (ex_none eH hb) hn (ne_of_none hn' hb).symm (upd_old hb hn') upd_same
/-- law's choice -/
def spChoice : Sp := fun vs H Q _ => ∃ (b t : Addr) (xs : List V) (F : Hp), vs = [.ref b, .ref t] ∧ Ex F H ∧ Bg F H b ∧ F t = some (.lst xs) ∧ 0 < xs.length ∧ xs.length < 1000000 ∧ ∀ (x : V) (l : List V), x ∈ xs → BgL F l → Q x (upd H b (.lst l))
theorem ok_l_choice (T : Txt K mg A) : FnOk P w K mg base CX0 3 A.f_l_choice A.d_l_choice ["_law_bag_here", "_law_things"] spChoice := by
  refine T.F_l_choice.ok sc_l_choice (fun vs H Q E h => ?_) (fun cdv Ar outer s H vs Q E hr h => ?_)
  · obtain ⟨b, t, xs, F, rfl, _⟩ := h; rfl
  · obtain ⟨b, t, xs, F, rfl, e, B, ht, h0, h1, k⟩ := h
    refine ⟨_, (pss_one (ps_ret (pe_ix ix_list (pv 1) (pe_call (ok_l_pick T) (hr.mono (by decide)) rfl T.g_l_pick T.F_l_pick.kp T.bi_l_pick .nil pass0 (pa_cons (pv 0) (pa_cons (pe_callB cl_len (by rfl) T.b_len (by decide +kernel) (pa_cons (pv 1) pa_nil)) pa_nil))) (fun _ _ => rfl)))), ?_⟩
    dsimp only [cxOf, Cx.nox, Cx.wish]
    walk_at "go"
    refine ⟨b, _, F, rfl, by omega, by omega, e, B, fun r l r0 r1 hl => ?_⟩
    obtain ⟨v, hv, hm⟩ := atI_lt (xs := xs) r0 r1
    have fr := B.fr
    walk_at "go"
    exact k v l (List.mem_of_getElem? hm) hl
/-- law's mingled: a new list, some order of the things -/
def spMingled : Sp := fun vs H Q _ => ∃ (b t : Addr) (xs : List V) (F : Hp), vs = [.ref b, .ref t] ∧ Ex F H ∧ Bg F H b ∧ F t = some (.lst xs) ∧ xs.length < 1000000 ∧
  ∀ (p : Addr) (ys : List V) (H' : Hp), ys.Perm xs → H p = none → H' p = some (.lst ys) → Ex F H' → Bg F H' b → Kp b H H' → Q (.ref p) H'
theorem ok_l_mingled (T : Txt K mg A) : FnOk P w K mg base CX0 3 A.f_l_mingled A.d_l_mingled ["_law_bag_here", "_law_things"] spMingled := by
  refine T.F_l_mingled.ok sc_l_mingled (fun vs H Q E h => ?_) (fun cdv Ar outer s H vs Q E hr h => ?_)
  · obtain ⟨b, t, xs, F, rfl, _⟩ := h; rfl
  · obtain ⟨b, t, xs, F, rfl, e, B, ht, h1, k⟩ := h
    refine ⟨_, (pss_cons (ps_set (i := 2) sc_l_mingled.nd rfl (Or.inl rfl) (pe_callTy cl_list (by rfl) T.b_list (by decide +kernel) (pa_cons (pv 1) pa_nil)))
  (pss_cons (ps_set (i := 3) sc_l_mingled.nd rfl (Or.inl rfl) (pe_lst pa_nil))
  (pss_cons (ps_for PassesOwn.never rfl (pi_range1 rfl T.b_range (pa_cons (pe_callB cl_len (by rfl) T.b_len (by decide +kernel) (pa_cons (pv 1) pa_nil)) pa_nil)) (pg_name (i := 4) sc_l_mingled.nd rfl (Or.inl rfl))
   (pss_one (ps_expr (pe_bm PySem.F.plainAttrs_list PySem.F.slot_list_append PySem.F.type_list_append mt_append (pv 3) (pa_cons (pe_bm PySem.F.plainAttrs_list PySem.F.slot_list_pop PySem.F.type_list_pop mt_popAt (pv 2) (pa_cons (pe_call (ok_l_pick T) (hr.mono (by decide)) rfl T.g_l_pick T.F_l_pick.kp T.bi_l_pick .nil pass0 (pa_cons (pv 0) (pa_cons (pe_callB cl_len (by rfl) T.b_len (by decide +kernel) (pa_cons (pv 2) pa_nil)) pa_nil))) pa_nil)) pa_nil)))))
  (pss_one (ps_ret (pv 3)))))), ?_⟩
    dsimp only [cxOf, Cx.nox, Cx.wish]
    walk_at "go"
    intro q hq
    walk_at "go"
    intro p hp
    have hbq : b ≠ q := by
      obtain ⟨l, hb, _⟩ := B.ex
      exact ne_of_none hb hq
    have hpq : q ≠ p := ne_of_none upd_same hp
    have hp0 : H p = none := by rw [upd_ne hpq.symm] at hp; exact hp
    have hbp : b ≠ p := by
      obtain ⟨l, hb, _⟩ := B.ex
      exact ne_of_none hb hp0
    walk_at "go"
    refine ⟨fun i σ H' => ∃ (ls os : List V) (v : Option V), σ = [some (.ref b), some (.ref t), some (.ref q), some (.ref p), v] ∧ Ex F H' ∧ Bg F H' b ∧ Kp b H H' ∧ H' q = some (.lst ls) ∧ H' p = some (.lst os) ∧ (ls ++ os).Perm xs ∧ ls.length + i = xs.length, ?_, fun i σ H' hi h => trivial, fun i x σ H1 H2 hi h y => ?_, fun σ H' h => ?_⟩
    · refine ⟨xs, [], none, rfl, by walk_at "ex", ⟨B.fr, ?_⟩, ?_, by walk_at "hp", upd_same, by simp, rfl⟩
      · obtain ⟨l, hb, hl⟩ := B.ex
        exact ⟨l, by walk_at "hp", hl⟩
      · exact (Kp.of (Ex.new hq)).trans (Kp.of (Ex.new hp))
    · obtain ⟨ls, os, v, rfl, e1, B1, k1, h2, h3, h4, h5⟩ := h
      obtain ⟨rfl, rfl⟩ := y
      walk_at "go"
      refine ⟨b, _, F, rfl, by simp at hi; omega, by omega, e1, B1, fun r l r0 r1 hl => ?_⟩
      have hq1 : q ≠ b := hbq.symm
      have hp1 : p ≠ b := hbp.symm
      walk_at "go"
      have hlen : ls.length + os.length = xs.length := by simpa using h4.length_eq
      have z : os.length < sizeLine := by rw [sizeLine_eq]; omega
      refine i_popN (by walk_at "hp") r0 r1 (by omega) fun y hy => ?_
      walk_at "go"
      have hr : r.toNat < ls.length := by omega
      have Fb := B.fr
      have Fq : F q = none := ex_none e hq
      have Fp : F p = none := ex_none e hp0
      refine ⟨ls.eraseIdx r.toNat, os ++ [y], _, rfl, by walk_at "ex", ⟨B1.fr, ⟨l, by walk_at "hp", hl⟩⟩, ?_, by walk_at "hp", upd_same, ?_, ?_⟩
      · exact ((k1.trans Kp.upd).mut hq).mut hp0
      · have p1 := erase_perm hy
        have p2 : (ls.eraseIdx r.toNat ++ (os ++ [y])).Perm ((y :: ls.eraseIdx r.toNat) ++ os) := by
          rw [← List.append_assoc]
          exact List.perm_append_comm.trans (by simp)
        exact p2.trans ((p1.append_right os).trans h4)
      · rw [List.length_eraseIdx_of_lt hr]; omega
    · obtain ⟨ls, os, v, rfl, e1, B1, k1, h2, h3, h4, h5⟩ := h
      walk_at "go"
      have hls : ls = [] := by
        have : ls.length = 0 := by rw [Int.toNat_natCast] at h5; omega
        exact List.eq_nil_of_length_eq_zero this
      subst hls
      exact k p os H' (by simpa using h4) hp0 h3 e1 B1 k1
end
end Dh
/-! K02B -/
set_option Elab.async false
set_option linter.all false
set_option maxRecDepth 100000
set_option maxHeartbeats 4000000
namespace Dh
open PySem PySem.Spec L2
open _root_.Evl (Ex)
local macro_rules | `(tactic| walk_at "ex") => `(tactic| first | assumption | ((with_reducible apply ex_mut); (focus assumption); walk_at "ex") | ((with_reducible apply ex_both); walk_at "ex") | ((with_reducible apply ex_new); (focus assumption); walk_at "ex"))
local macro_rules | `(tactic| walk_at "hp") => `(tactic| first | assumption | with_reducible exact upd_same | ((with_reducible apply upd_old); (focus assumption); walk_at "hp") | ((with_reducible apply upd_oth); (focus walk_at "neq"); walk_at "hp") | ((with_reducible apply ex_by); (focus assumption); walk_at "ex") | ((with_reducible apply ex_at); (focus assumption); walk_at "hp"))
local macro_rules | `(tactic| walk_at "neq") => `(tactic| first | assumption | (apply Ne.symm; assumption))
local macro_rules | `(tactic| walk_at "sq") => `(tactic| first | assumption | ((with_reducible apply SqL.of); walk_at "hp") | ((with_reducible apply SqT.of); walk_at "hp"))
local macro_rules | `(tactic| walk_at "side") => `(tactic| first | assumption | decide | exact cm_fmod (by decide) (by decide) | (show _ ≠ (0 : Int); decide) | (show _ ≠ (0 : Int); omega) | exact Or.inr ⟨by decide, by decide⟩ | exact Or.inl ⟨by decide, by decide⟩ | (show CDivN _ _; exact ⟨by decide, by decide⟩) | (show CDivN _ _; exact ⟨by omega, by omega⟩) | exact Or.inl ⟨by omega, by omega⟩ | exact Or.inr ⟨by omega, by omega⟩ | exact ⟨by decide, by decide, by decide⟩)
local macro_rules | `(tactic| walk_at "ix") => `(tactic| first | exact rfl | assumption | exact atI_nat (by assumption))
local macro_rules | `(tactic| walk_at "step0") => `(tactic| first
  | with_reducible refine i_seq ?_
  | with_reducible refine i_asg ?_
  | with_reducible refine i_op ?_
  | ((with_reducible refine' i_var ?hv ?_); (case hv => exact rfl))
  | with_reducible refine i_c ?_
  | with_reducible refine i_cons ?_
  | with_reducible refine i_nil ?_
  | with_reducible refine i_cb ?_
  | with_reducible refine i_call ?_
  | with_reducible refine i_call' ?_
  | with_reducible refine i_un ?_
  | with_reducible refine i_I0 ?_
  | ((with_reducible refine i_I ?hv ?_); (case hv => walk_at "side"))
  | with_reducible refine i_eqI ?_
  | with_reducible refine i_neI ?_
  | with_reducible refine i_eqS ?_
  | with_reducible refine i_neS ?_
  | ((with_reducible refine i_eq ?hv ?_); (case hv => exact rfl))
  | ((with_reducible refine i_ne ?hv ?_); (case hv => exact rfl))
  | with_reducible refine i_int1 ?_
  | with_reducible refine i_abs ?_
  | ((with_reducible refine' i_ixL ?hv ?hw ?_); (case hv => walk_at "sq"); (case hw => walk_at "ix"))
  | ((with_reducible refine' i_ixT ?hv ?hw ?_); (case hv => walk_at "sq"); (case hw => walk_at "ix"))
  | ((with_reducible refine' i_lenL ?hv ?_); (case hv => walk_at "sq"))
  | ((with_reducible refine' i_lenT ?hv ?_); (case hv => walk_at "sq"))
  | with_reducible refine i_addIB ?_
  | with_reducible refine i_mulIB ?_
  | ((with_reducible refine i_lenS ?hv ?_); (case hv => walk_at "side"))
  | with_reducible refine i_tup ?_
  | with_reducible refine i_lst ?_
  | with_reducible refine i_asgG ?_
  | with_reducible refine i_gname ?_
  | with_reducible refine i_gsub ?_
  | ((with_reducible refine' i_setL ?hv ?hw ?_); (case hv => walk_at "hp"); (case hw => exact rfl))
  | with_reducible refine i_ret ?_
  | with_reducible refine i_drop ?_
  | with_reducible refine i_next ?_
  | with_reducible refine i_test ?_
  | with_reducible refine i_B ?_
  | with_reducible refine i_bl ?_
  | with_reducible refine i_not ?_
  | with_reducible refine i_and ?_
  | with_reducible refine i_or ?_
  | ((with_reducible refine' i_app ?hv ?hw ?_); (case hv => walk_at "hp"); (case hw => walk_at "side"))
  | with_reducible refine iteT ?_
  | with_reducible refine iteF ?_
  | with_reducible refine iteNT ?_
  | with_reducible refine iteNF ?_
  | ((with_reducible refine iteT' ?hv ?_); (case hv => first | exact decide_eq_true (by assumption) | exact notF (by assumption) | exact decide_eq_true rfl | exact notF (by decide) | exact decide_eq_true (by decide) | exact decide_eq_true (by simp only [List.length_cons, List.length_nil]; decide)))
  | ((with_reducible refine iteF' ?hv ?_); (case hv => first | exact decide_eq_false (by assumption) | exact notT (by assumption) | exact notT rfl | exact decide_eq_false (by decide) | exact decide_eq_false (by simp only [List.length_cons, List.length_nil]; decide)))
  | with_reducible refine i_forL ?_
  | with_reducible refine i_forT ?_
  | with_reducible refine i_forR ?_
  | with_reducible refine i_forR2 ?_
  | with_reducible refine i_forE ?_
  | with_reducible refine i_forV ?_
  | with_reducible refine i_forS ?_
  | with_reducible refine i_forK ?_
  | with_reducible refine i_lcL ?_
  | with_reducible refine i_lcT ?_
  | with_reducible refine i_lcR ?_
  | with_reducible refine i_lcR2 ?_
  | with_reducible refine i_lcS ?_
  | with_reducible refine i_lcK ?_
  | ((with_reducible refine' fl_L ?hv ?_); (case hv => walk_at "sq"))
  | ((with_reducible refine' fl_T ?hv ?_); (case hv => walk_at "sq"))
  | ((with_reducible refine fl_R ?hv ?hw ?_); (case hv => (first | decide | omega)); (case hw => (first | decide | omega)))
  | ((with_reducible refine fl_R2 ?hv ?_); (case hv => (first | decide | (refine ⟨?_, ?_, ?_, ?_⟩ <;> omega))))
  | ((with_reducible refine' fl_E ?hv ?_); (case hv => walk_at "sq"))
  | ((with_reducible refine' fl_V ?hv ?_); (case hv => walk_at "sq"))
  | with_reducible refine fl_S ?_
  | ((with_reducible refine' fc_L ?hv ?_); (case hv => walk_at "sq"))
  | ((with_reducible refine' fc_T ?hv ?_); (case hv => walk_at "sq"))
  | ((with_reducible refine fc_R ?hv ?hw ?_); (case hv => (first | decide | omega)); (case hw => (first | decide | omega)))
  | with_reducible refine fc_S ?_
  | with_reducible refine i_sl ?_
  | with_reducible refine i_nopart ?_
  | with_reducible refine i_part ?_
  | with_reducible refine i_isint ?_
  | ((with_reducible refine' i_slL ?hv ?_); (case hv => walk_at "sq"))
  | ((with_reducible refine i_slS ?hv ?_); (case hv => walk_at "side"))
  | ((with_reducible refine' i_gtup ?hv ?hw ?_); (case hv => walk_at "sq"); (case hw => exact rfl))
  | with_reducible refine i_gcons ?_
  | with_reducible refine i_gnil ?_
  | ((with_reducible refine' i_listL ?hv ?_); (case hv => walk_at "sq"))
  | ((with_reducible refine' i_listT ?hv ?_); (case hv => walk_at "sq"))
  | ((with_reducible refine' i_tupL ?hv ?_); (case hv => walk_at "sq"))
  | ((with_reducible refine' i_lenD ?hv ?_); (case hv => walk_at "hp"))
  | ((with_reducible refine' i_ty ?hv ?_); (case hv => walk_at "hp"))
  | ((with_reducible refine And.intro ?hv ?_); (case hv => first | exact (by decide : (0 : Nat) ≤ sizeLine) | exact (by decide : (1 : Nat) ≤ sizeLine) | exact (by decide : (2 : Nat) ≤ sizeLine) | exact (by decide : (3 : Nat) ≤ sizeLine) | exact (by decide : (4 : Nat) ≤ sizeLine) | exact (by decide : (5 : Nat) ≤ sizeLine) | exact (by decide : (6 : Nat) ≤ sizeLine)))
  | with_reducible refine i_inC ?_
  | ((with_reducible refine i_addT ?hv ?_); (case hv => walk_at "side"))
  | with_reducible refine i_m1 ?_
  | with_reducible refine i_isstr ?_
  | with_reducible refine is_int_int ?_
  | with_reducible refine is_int_bool ?_
  | with_reducible refine is_str_str ?_
  | ((with_reducible refine' is_tup_tup ?hv ?_); (case hv => walk_at "hp"))
  | with_reducible refine i_ifExp ?_
  | with_reducible refine i_andV ?_
  | with_reducible refine i_orV ?_
  | with_reducible refine i_notV ?_
  | with_reducible refine i_chain ?_
  | ((with_reducible refine' i_inS ?hv ?_); (case hv => walk_at "sq"))
  | ((with_reducible refine' i_niS ?hv ?_); (case hv => walk_at "sq"))
  | ((with_reducible refine' i_inI ?hv ?_); (case hv => walk_at "sq"))
  | ((with_reducible refine' i_niI ?hv ?_); (case hv => walk_at "sq"))
  | with_reducible refine i_dnew ?_
  | with_reducible refine i_dput ?_
  | ((with_reducible refine' i_dputI ?hv ?hw ?_); (case hv => walk_at "hp"); (case hw => walk_at "side"))
  | with_reducible refine i_dget ?_
  | ((with_reducible refine' i_dgetI ?hv ?hw ?_); (case hv => walk_at "hp"); (case hw => assumption))
  | with_reducible refine i_dnotin ?_
  | with_reducible refine i_din ?_
  | ((with_reducible refine' i_dnotinI ?hv ?_); (case hv => walk_at "hp"))
  | with_reducible refine i_dsetd ?_
  | ((with_reducible refine' i_isd ?hv ?_); (case hv => walk_at "hp"))
  | with_reducible refine i_fld ?_
  | with_reducible refine i_sfld ?_
  | with_reducible refine i_dcT ?_
  | with_reducible refine i_dcL ?_
  | with_reducible refine i_truT ?_
  | ((with_reducible refine' i_truL ?hv ?_); (case hv => walk_at "sq"))
  | with_reducible refine i_revL ?_
  | ((with_reducible refine' i_atLx ?hv ?_); (case hv => walk_at "sq"))
  | with_reducible refine i_bm ?_
  | with_reducible refine i_bm0 ?_)
local macro_rules | `(tactic| walk_at "step") => `(tactic| first | walk_at "step0" | with_reducible refine i_ifS ?_)
local macro_rules | `(tactic| walk_at "goj") => `(tactic| repeat (first | walk_at "step0" | with_reducible refine i_ifS (c := tTest _) ?_ | with_reducible refine i_ifS (c := tB _) ?_))
local macro_rules | `(tactic| walk_at "tj") => `(tactic| (intro q hq; repeat (first | exact hq | walk_at "step" | (refine and_q hq (fun h => ?_); clear hq; rename_i hq) | (refine or_q hq (fun h => ?_); clear hq; rename_i hq))))
local macro_rules | `(tactic| walk_at "go") => `(tactic| repeat walk_at "step")

section
variable {P : Program} {w : World} {K : PySem.W.Frag} {mg : Str → Option Value} {base : Heap} {A : Ad}
def spNumber : Sp := fun vs H Q _ => ∃ n lo hi : Int, vs = [.int n, .int lo, .int hi] ∧ Q (.bl (decide (lo ≤ n) && decide (n ≤ hi))) H
theorem i_numT {n lo hi : Int} {H : Hp} {Q : VK} {E : XK} (h : lo ≤ n) (h' : n ≤ hi) (k : Q (.bl true) H) : spNumber [.int n, .int lo, .int hi] H Q E := ⟨n, lo, hi, rfl, by rw [decide_eq_true h, decide_eq_true h']; exact k⟩
theorem i_numF {n lo hi : Int} {H : Hp} {Q : VK} {E : XK} (h : ¬ (lo ≤ n ∧ n ≤ hi)) (k : Q (.bl false) H) : spNumber [.int n, .int lo, .int hi] H Q E := ⟨n, lo, hi, rfl, by
  have e : (decide (lo ≤ n) && decide (n ≤ hi)) = false := by simpa using h
  rw [e]; exact k⟩
theorem ok_is_number (T : Txt K mg A) : FnOk P w K mg base CX0 1 A.f_is_number A.d_is_number ["number", "low", "high"] spNumber := by
  refine T.F_is_number.ok sc_is_number (fun vs H Q E h => ?_) (fun cdv Ar outer s H vs Q E hr h => ?_)
  · obtain ⟨n, lo, hi, rfl, _⟩ := h; rfl
  · obtain ⟨n, lo, hi, rfl, k⟩ := h
    refine ⟨_, (pss_cons (ps_if (PW.pt (pw_or (pt_not (pt_val (pe_callB call_isi (by rfl) T.b_isinstance (by decide +kernel) (pa_cons (pv 0) (pa_cons (pe_bltn (v := .ty "int") (by rfl) T.b_int (by decide +kernel) rfl) pa_nil))))) (pw_or1 (pt_val (pe_callB call_isi (by rfl) T.b_isinstance (by decide +kernel) (pa_cons (pv 0) (pa_cons (pe_bltn (v := .ty "bool") (by rfl) T.b_bool (by decide +kernel) rfl) pa_nil))))))) (pss_one (ps_ret pe_bl)) pss_nil)
  (pss_one (ps_ret (pe_chain op_le op_le (pv 1) (pv 0) (pv 2))))), ?_⟩
    dsimp only [cxOf, Cx.nox, Cx.wish]
    walk_at "go"
    refine iteD (fun c => ?_) (fun c => ?_)
    · walk_at "go"
      rw [decide_eq_true c, Bool.true_and] at k
      exact k
    · rw [decide_eq_false c, Bool.false_and] at k
      exact k
def spName : Sp := fun vs H Q _ => ∃ x : Str, vs = [.str x] ∧ NameOk x ∧ ∀ H', Ex H H' → Q (.bl true) H'
theorem all_tab {n : Nat} {f : Nat → Bool} (h : ∀ i, i < n → f i = true) : ((List.range n).map f).all id = true := by
  simp only [List.all_map, List.all_eq_true, List.mem_range]
  exact fun i hi => h i hi
theorem ok_is_name (T : Txt K mg A) : FnOk P w K mg base CX0 2 A.f_is_name A.d_is_name ["name"] spName := by
  refine T.F_is_name.ok sc_is_name (fun vs H Q E h => ?_) (fun cdv Ar outer s H vs Q E hr h => ?_)
  · obtain ⟨x, rfl, _⟩ := h; rfl
  · obtain ⟨x, rfl, N, k⟩ := h
    have hz : x.length ≤ sizeLine := Nat.le_trans N.hi (by decide)
    refine ⟨_, (pss_cons (ps_if (PW.pt (pw_or (pt_not (pt_val (pe_callB call_isi (by rfl) T.b_isinstance (by decide +kernel) (pa_cons (pv 0) (pa_cons (pe_bltn (v := .ty "str") (by rfl) T.b_str (by decide +kernel) rfl) pa_nil))))) (pw_or1 (pt_not (pt_val (pe_call (ok_is_number T) (hr.mono (by decide)) rfl T.g_is_number T.F_is_number.kp T.bi_is_number .nil pass0 (pa_cons (pe_callB cl_lenS (by rfl) T.b_len (by decide +kernel) (pa_cons (pv 0) pa_nil)) (pa_cons pe_int (pa_cons (pe_glob (v := .int 8) rfl T.c_NAME_LETTERS ⟨_, rfl⟩) pa_nil))))))))) (pss_one (ps_ret pe_bl)) pss_nil)
  (pss_one (ps_ret (pe_callB (cr_all rfl) (by rfl) T.b_all (by decide +kernel) (pa_cons (pe_lc (own := [("letter", 1)]) (g := gName 1) (tt := tYes) rfl sc_is_name.nd (pi_str (pv 0)) (blkOk_by (N := ["name", "letter"]) (sc := defScope s_is_name) (by decide +kernel)) (fun _ _ _ _ _ => (pg_name (i := 1) sc_is_name.nd rfl (Or.inl rfl))) (fun _ _ _ _ _ => pts_nil) (fun _ _ _ _ _ => (pe_cmpR op_inC (pv 1) (pe_glob (v := .str "abcdefghijklmnopqrstuvwxyz") rfl T.c_LETTERS ⟨_, rfl⟩) rfl))) pa_nil))))), ?_⟩
    dsimp only [cxOf, Cx.nox, Cx.wish]
    walk_at "go"
    refine i_numT (by have := N.lo; omega) (by have := N.hi; omega) ?_
    walk_at "go"
    refine lc_pure (fun i => .bl (decide (x.cps.getD i 0 ∈ letters))) (Nat.lt_of_le_of_lt N.hi (by decide)) (fun i => .str ⟨#[x.cps.getD i 0]⟩) (fun _ _ => trivial) (fun i H0 v H' hi y => ?_) (fun i H' Q' hi e q => ?_) (fun n hn => ?_)
    · obtain ⟨rfl, c, h1, rfl⟩ := y
      exact ⟨rfl, by simp [Array.getD_eq_getD_getElem?, h1]⟩
    · walk_at "go"; exact q
    · walk_at "go"
      refine i_all (bs := (List.range x.cps.size).map fun i => decide (x.cps.getD i 0 ∈ letters)) ?_ ?_
      · rw [List.map_map]; exact SqL.of upd_same
      · rw [all_tab]
        · exact k _ (Ex.new hn)
        · intro i hi
          exact decide_eq_true (N.ls _ (by simp [Array.getD_eq_getD_getElem?, hi]))
/-! ### entries -/
inductive En where
  | sg (n d : Int) (x : Str) | rl (n d : Int) (x : Str) | vd (n o : Int)
def En.num : En → Int
  | .sg n _ _ => n | .rl n _ _ => n | .vd n _ => n
def En.vs : En → List V
  | .sg n d x => [.int n, .str "sign", .int d, .str x]
  | .rl n d x => [.int n, .str "rule", .int d, .str x]
  | .vd n o => [.int n, .str "void", .int o]
def En.Ok : En → Prop
  | .sg n d x => 1 ≤ n ∧ n ≤ 999 ∧ 0 ≤ d ∧ d ≤ 59 ∧ NameOk x
  | .rl n d x => 1 ≤ n ∧ n ≤ 999 ∧ 0 ≤ d ∧ d ≤ 59 ∧ NameOk x
  | .vd n o => 1 ≤ n ∧ n ≤ 999 ∧ 1 ≤ o ∧ o ≤ n - 1
def EnAt (F : Hp) (v : V) (e : En) : Prop := ∃ a, v = .ref a ∧ F a = some (.tup e.vs)
abbrev EsAt (F : Hp) (vs : List V) (es : List En) : Prop := Paired (EnAt F) vs es
theorem EnAt.ex {F F' : Hp} {v : V} {e : En} (x : Ex F F') (h : EnAt F v e) : EnAt F' v e := by
  obtain ⟨a, rfl, h⟩ := h
  exact ⟨a, rfl, x _ _ h⟩
def spEntry : Sp := fun vs H Q _ => ∃ (v : V) (e : En) (F : Hp), vs = [v] ∧ Ex F H ∧ EnAt F v e ∧ e.Ok ∧ ∀ H', Ex H H' → Q (.bl true) H'
theorem ok_is_entry (T : Txt K mg A) : FnOk P w K mg base CX0 3 A.f_is_entry A.d_is_entry ["entry"] spEntry := by
  refine T.F_is_entry.ok sc_is_entry (fun vs H Q E h => ?_) (fun cdv Ar outer s H vs Q E hr h => ?_)
  · obtain ⟨v, e, F, rfl, _⟩ := h; rfl
  · obtain ⟨v, e, F, rfl, x, ⟨a, rfl, ha⟩, O, k⟩ := h
    have hn : decide ((1 : Int) ≤ e.num) = true ∧ decide (e.num ≤ 999) = true := by
      cases e <;> exact ⟨decide_eq_true O.1, decide_eq_true O.2.1⟩
    have h0 := x _ _ ha
    refine ⟨_, (pss_cons (ps_if (PW.pt (pw_or (pt_not (pt_val (pe_callB call_isi (by rfl) T.b_isinstance (by decide +kernel) (pa_cons (pv 0) (pa_cons (pe_bltn (v := .ty "tuple") (by rfl) T.b_tuple (by decide +kernel) rfl) pa_nil))))) (pw_or1 (pt_cmpR op_lt (pe_callB cl_len (by rfl) T.b_len (by decide +kernel) (pa_cons (pv 0) pa_nil)) pe_int (nomark _))))) (pss_one (ps_ret pe_bl)) pss_nil)
  (pss_cons (ps_if (pt_not (pt_val (pe_call (ok_is_number T) (hr.mono (by decide)) rfl T.g_is_number T.F_is_number.kp T.bi_is_number .nil pass0 (pa_cons (pe_ix ix_tup (pv 0) pe_int (fun _ _ => rfl)) (pa_cons pe_int (pa_cons (pe_glob (v := .int 999) rfl T.c_MOST_NUMBER ⟨_, rfl⟩) pa_nil)))))) (pss_one (ps_ret pe_bl)) pss_nil)
  (pss_cons (ps_if (pt_cmpR op_eq (pe_ix ix_tup (pv 0) pe_int (fun _ _ => rfl)) pe_str (nomark _)) (pss_one (ps_ret (pe_and (pe_cmpR op_eq (pe_callB cl_len (by rfl) T.b_len (by decide +kernel) (pa_cons (pv 0) pa_nil)) pe_int (nomark _)) (pe_one (pe_call (ok_is_number T) (hr.mono (by decide)) rfl T.g_is_number T.F_is_number.kp T.bi_is_number .nil pass0 (pa_cons (pe_ix ix_tup (pv 0) pe_int (fun _ _ => rfl)) (pa_cons pe_int (pa_cons (pe_op op_sub (pe_ix ix_tup (pv 0) pe_int (fun _ _ => rfl)) pe_int) pa_nil)))))))) pss_nil)
  (pss_cons (ps_if (PW.pt (pw_and (pt_cmpR op_ne (pe_ix ix_tup (pv 0) pe_int (fun _ _ => rfl)) pe_str (nomark _)) (pw_and1 (pt_cmpR op_ne (pe_ix ix_tup (pv 0) pe_int (fun _ _ => rfl)) pe_str (nomark _))))) (pss_one (ps_ret pe_bl)) pss_nil)
  (pss_one (ps_ret (pe_and (pe_cmpR op_eq (pe_callB cl_len (by rfl) T.b_len (by decide +kernel) (pa_cons (pv 0) pa_nil)) pe_int (nomark _)) (pe_and (pe_call (ok_is_number T) (hr.mono (by decide)) rfl T.g_is_number T.F_is_number.kp T.bi_is_number .nil pass0 (pa_cons (pe_ix ix_tup (pv 0) pe_int (fun _ _ => rfl)) (pa_cons pe_int (pa_cons (pe_glob (v := .int 59) rfl T.c_LAST_DAY ⟨_, rfl⟩) pa_nil)))) (pe_one (pe_call (ok_is_name T) (hr.mono (by decide)) rfl T.g_is_name T.F_is_name.kp T.bi_is_name .nil pass0 (pa_cons (pe_ix ix_tup (pv 0) pe_int (fun _ _ => rfl)) pa_nil))))))))))), ?_⟩
    dsimp only [cxOf, Cx.nox, Cx.wish]
    cases e with
    | vd n o =>
      simp only [En.vs, En.num] at ha h0 hn
      walk_at "go"
      refine i_numT O.1 O.2.1 ?_
      walk_at "go"
      refine i_numT O.2.2.1 O.2.2.2 ?_
      exact k H (Ex.refl H)
    | sg n d y =>
      simp only [En.vs, En.num] at ha h0 hn
      walk_at "go"
      refine i_numT O.1 O.2.1 ?_
      walk_at "go"
      refine i_numT O.2.2.1 O.2.2.2.1 ?_
      walk_at "go"
      exact ⟨_, rfl, O.2.2.2.2, fun H' e => k H' e⟩
    | rl n d y =>
      simp only [En.vs, En.num] at ha h0 hn
      walk_at "go"
      refine i_numT O.1 O.2.1 ?_
      walk_at "go"
      refine i_numT O.2.2.1 O.2.2.2.1 ?_
      walk_at "go"
      exact ⟨_, rfl, O.2.2.2.2, fun H' e => k H' e⟩
end
end Dh
/-! K02C -/
set_option Elab.async false
set_option linter.all false
set_option maxRecDepth 100000
set_option maxHeartbeats 4000000
namespace Dh
open PySem PySem.Spec L2
open _root_.Evl (Ex)
local macro_rules | `(tactic| walk_at "ex") => `(tactic| first | assumption | ((with_reducible apply ex_mut); (focus assumption); walk_at "ex") | ((with_reducible apply ex_both); walk_at "ex") | ((with_reducible apply ex_new); (focus assumption); walk_at "ex"))
local macro_rules | `(tactic| walk_at "hp") => `(tactic| first | assumption | with_reducible exact upd_same | ((with_reducible apply upd_old); (focus assumption); walk_at "hp") | ((with_reducible apply upd_oth); (focus walk_at "neq"); walk_at "hp") | ((with_reducible apply ex_by); (focus assumption); walk_at "ex") | ((with_reducible apply ex_at); (focus assumption); walk_at "hp"))
local macro_rules | `(tactic| walk_at "neq") => `(tactic| first | assumption | (apply Ne.symm; assumption))
local macro_rules | `(tactic| walk_at "sq") => `(tactic| first | assumption | ((with_reducible apply SqL.of); walk_at "hp") | ((with_reducible apply SqT.of); walk_at "hp"))
local macro_rules | `(tactic| walk_at "side") => `(tactic| first | assumption | decide | exact cm_fmod (by decide) (by decide) | (show _ ≠ (0 : Int); decide) | (show _ ≠ (0 : Int); omega) | exact Or.inr ⟨by decide, by decide⟩ | exact Or.inl ⟨by decide, by decide⟩ | (show CDivN _ _; exact ⟨by decide, by decide⟩) | (show CDivN _ _; exact ⟨by omega, by omega⟩) | exact Or.inl ⟨by omega, by omega⟩ | exact Or.inr ⟨by omega, by omega⟩ | exact ⟨by decide, by decide, by decide⟩)
local macro_rules | `(tactic| walk_at "ix") => `(tactic| first | exact rfl | assumption | exact atI_nat (by assumption))
local macro_rules | `(tactic| walk_at "step0") => `(tactic| first
  | with_reducible refine i_seq ?_
  | with_reducible refine i_asg ?_
  | with_reducible refine i_op ?_
  | ((with_reducible refine' i_var ?hv ?_); (case hv => exact rfl))
  | with_reducible refine i_c ?_
  | with_reducible refine i_cons ?_
  | with_reducible refine i_nil ?_
  | with_reducible refine i_cb ?_
  | with_reducible refine i_call ?_
  | with_reducible refine i_call' ?_
  | with_reducible refine i_un ?_
  | with_reducible refine i_I0 ?_
  | ((with_reducible refine i_I ?hv ?_); (case hv => walk_at "side"))
  | with_reducible refine i_eqI ?_
  | with_reducible refine i_neI ?_
  | with_reducible refine i_eqS ?_
  | with_reducible refine i_neS ?_
  | ((with_reducible refine i_eq ?hv ?_); (case hv => exact rfl))
  | ((with_reducible refine i_ne ?hv ?_); (case hv => exact rfl))
  | with_reducible refine i_int1 ?_
  | with_reducible refine i_abs ?_
  | ((with_reducible refine' i_ixL ?hv ?hw ?_); (case hv => walk_at "sq"); (case hw => walk_at "ix"))
  | ((with_reducible refine' i_ixT ?hv ?hw ?_); (case hv => walk_at "sq"); (case hw => walk_at "ix"))
  | ((with_reducible refine' i_lenL ?hv ?_); (case hv => walk_at "sq"))
  | ((with_reducible refine' i_lenT ?hv ?_); (case hv => walk_at "sq"))
  | with_reducible refine i_addIB ?_
  | with_reducible refine i_mulIB ?_
  | ((with_reducible refine i_lenS ?hv ?_); (case hv => walk_at "side"))
  | with_reducible refine i_tup ?_
  | with_reducible refine i_lst ?_
  | with_reducible refine i_asgG ?_
  | with_reducible refine i_gname ?_
  | with_reducible refine i_gsub ?_
  | ((with_reducible refine' i_setL ?hv ?hw ?_); (case hv => walk_at "hp"); (case hw => exact rfl))
  | with_reducible refine i_ret ?_
  | with_reducible refine i_drop ?_
  | with_reducible refine i_next ?_
  | with_reducible refine i_test ?_
  | with_reducible refine i_B ?_
  | with_reducible refine i_bl ?_
  | with_reducible refine i_not ?_
  | with_reducible refine i_and ?_
  | with_reducible refine i_or ?_
  | ((with_reducible refine' i_app ?hv ?hw ?_); (case hv => walk_at "hp"); (case hw => walk_at "side"))
  | with_reducible refine iteT ?_
  | with_reducible refine iteF ?_
  | with_reducible refine iteNT ?_
  | with_reducible refine iteNF ?_
  | ((with_reducible refine iteT' ?hv ?_); (case hv => first | exact decide_eq_true (by assumption) | exact notF (by assumption) | exact decide_eq_true rfl | exact notF (by decide) | exact decide_eq_true (by decide) | exact decide_eq_true (by simp only [List.length_cons, List.length_nil]; decide)))
  | ((with_reducible refine iteF' ?hv ?_); (case hv => first | exact decide_eq_false (by assumption) | exact notT (by assumption) | exact notT rfl | exact decide_eq_false (by decide) | exact decide_eq_false (by simp only [List.length_cons, List.length_nil]; decide)))
  | with_reducible refine i_forL ?_
  | with_reducible refine i_forT ?_
  | with_reducible refine i_forR ?_
  | with_reducible refine i_forR2 ?_
  | with_reducible refine i_forE ?_
  | with_reducible refine i_forV ?_
  | with_reducible refine i_forS ?_
  | with_reducible refine i_forK ?_
  | with_reducible refine i_lcL ?_
  | with_reducible refine i_lcT ?_
  | with_reducible refine i_lcR ?_
  | with_reducible refine i_lcR2 ?_
  | with_reducible refine i_lcS ?_
  | with_reducible refine i_lcK ?_
  | ((with_reducible refine' fl_L ?hv ?_); (case hv => walk_at "sq"))
  | ((with_reducible refine' fl_T ?hv ?_); (case hv => walk_at "sq"))
  | ((with_reducible refine fl_R ?hv ?hw ?_); (case hv => (first | decide | omega)); (case hw => (first | decide | omega)))
  | ((with_reducible refine fl_R2 ?hv ?_); (case hv => (first | decide | (refine ⟨?_, ?_, ?_, ?_⟩ <;> omega))))
  | ((with_reducible refine' fl_E ?hv ?_); (case hv => walk_at "sq"))
  | ((with_reducible refine' fl_V ?hv ?_); (case hv => walk_at "sq"))
  | with_reducible refine fl_S ?_
  | ((with_reducible refine' fc_L ?hv ?_); (case hv => walk_at "sq"))
  | ((with_reducible refine' fc_T ?hv ?_); (case hv => walk_at "sq"))
  | ((with_reducible refine fc_R ?hv ?hw ?_); (case hv => (first | decide | omega)); (case hw => (first | decide | omega)))
  | with_reducible refine fc_S ?_
  | with_reducible refine i_sl ?_
  | with_reducible refine i_nopart ?_
  | with_reducible refine i_part ?_
  | with_reducible refine i_isint ?_
  | ((with_reducible refine' i_slL ?hv ?_); (case hv => walk_at "sq"))
  | ((with_reducible refine i_slS ?hv ?_); (case hv => walk_at "side"))
  | ((with_reducible refine' i_gtup ?hv ?hw ?_); (case hv => walk_at "sq"); (case hw => exact rfl))
  | with_reducible refine i_gcons ?_
  | with_reducible refine i_gnil ?_
  | ((with_reducible refine' i_listL ?hv ?_); (case hv => walk_at "sq"))
  | ((with_reducible refine' i_listT ?hv ?_); (case hv => walk_at "sq"))
  | ((with_reducible refine' i_tupL ?hv ?_); (case hv => walk_at "sq"))
  | ((with_reducible refine' i_lenD ?hv ?_); (case hv => walk_at "hp"))
  | ((with_reducible refine' i_ty ?hv ?_); (case hv => walk_at "hp"))
  | ((with_reducible refine And.intro ?hv ?_); (case hv => first | exact (by decide : (0 : Nat) ≤ sizeLine) | exact (by decide : (1 : Nat) ≤ sizeLine) | exact (by decide : (2 : Nat) ≤ sizeLine) | exact (by decide : (3 : Nat) ≤ sizeLine) | exact (by decide : (4 : Nat) ≤ sizeLine) | exact (by decide : (5 : Nat) ≤ sizeLine) | exact (by decide : (6 : Nat) ≤ sizeLine)))
  | with_reducible refine i_inC ?_
  | ((with_reducible refine i_addT ?hv ?_); (case hv => walk_at "side"))
  | with_reducible refine i_m1 ?_
  | with_reducible refine i_isstr ?_
  | with_reducible refine is_int_int ?_
  | with_reducible refine is_int_bool ?_
  | with_reducible refine is_str_str ?_
  | ((with_reducible refine' is_tup_tup ?hv ?_); (case hv => walk_at "hp"))
  | with_reducible refine i_ifExp ?_
  | with_reducible refine i_andV ?_
  | with_reducible refine i_orV ?_
  | with_reducible refine i_notV ?_
  | with_reducible refine i_chain ?_
  | ((with_reducible refine' i_inS ?hv ?_); (case hv => walk_at "sq"))
  | ((with_reducible refine' i_niS ?hv ?_); (case hv => walk_at "sq"))
  | ((with_reducible refine' i_inI ?hv ?_); (case hv => walk_at "sq"))
  | ((with_reducible refine' i_niI ?hv ?_); (case hv => walk_at "sq"))
  | with_reducible refine i_dnew ?_
  | with_reducible refine i_dput ?_
  | ((with_reducible refine' i_dputI ?hv ?hw ?_); (case hv => walk_at "hp"); (case hw => walk_at "side"))
  | with_reducible refine i_dget ?_
  | ((with_reducible refine' i_dgetI ?hv ?hw ?_); (case hv => walk_at "hp"); (case hw => assumption))
  | with_reducible refine i_dnotin ?_
  | with_reducible refine i_din ?_
  | ((with_reducible refine' i_dnotinI ?hv ?_); (case hv => walk_at "hp"))
  | with_reducible refine i_dsetd ?_
  | ((with_reducible refine' i_isd ?hv ?_); (case hv => walk_at "hp"))
  | with_reducible refine i_fld ?_
  | with_reducible refine i_sfld ?_
  | with_reducible refine i_dcT ?_
  | with_reducible refine i_dcL ?_
  | with_reducible refine i_truT ?_
  | ((with_reducible refine' i_truL ?hv ?_); (case hv => walk_at "sq"))
  | with_reducible refine i_revL ?_
  | ((with_reducible refine' i_atLx ?hv ?_); (case hv => walk_at "sq"))
  | with_reducible refine i_bm ?_
  | with_reducible refine i_bm0 ?_)
local macro_rules | `(tactic| walk_at "step") => `(tactic| first | walk_at "step0" | with_reducible refine i_ifS ?_)
local macro_rules | `(tactic| walk_at "goj") => `(tactic| repeat (first | walk_at "step0" | with_reducible refine i_ifS (c := tTest _) ?_ | with_reducible refine i_ifS (c := tB _) ?_))
local macro_rules | `(tactic| walk_at "tj") => `(tactic| (intro q hq; repeat (first | exact hq | walk_at "step" | (refine and_q hq (fun h => ?_); clear hq; rename_i hq) | (refine or_q hq (fun h => ?_); clear hq; rename_i hq))))
local macro_rules | `(tactic| walk_at "go") => `(tactic| repeat walk_at "step")

/-- behind H0: F stands frozen, the bag at b is one, all else of H0 is kept -/
structure Sb (F : Hp) (b : Addr) (H0 H : Hp) : Prop where
  ex : Ex F H
  bg : Bg F H b
  kp : Kp b H0 H
theorem Sb.ne {F H0 H : Hp} {b p : Addr} (S : Sb F b H0 H) (n : H p = none) : p ≠ b := by
  obtain ⟨l, hb, _⟩ := S.bg.ex
  exact (ne_of_none hb n).symm
theorem Sb.free {F H0 H : Hp} {b p : Addr} (S : Sb F b H0 H) (n : H p = none) : H0 p = none := by
  obtain ⟨l, hb, _⟩ := S.bg.ex
  exact S.kp.free hb n
theorem Sb.fr {F H0 H : Hp} {b p : Addr} (S : Sb F b H0 H) (n : H p = none) : F p = none := ex_none S.ex n
theorem Sb.start {F H : Hp} {b : Addr} (e : Ex F H) (B : Bg F H b) : Sb F b H H := ⟨e, B, Kp.refl⟩
theorem Sb.pick {F H0 H : Hp} {b : Addr} {l : List V} (S : Sb F b H0 H) (hl : BgL F l) : Sb F b H0 (upd H b (.lst l)) :=
  ⟨ex_mut S.bg.fr S.ex, ⟨S.bg.fr, l, upd_same, hl⟩, S.kp.trans Kp.upd⟩
theorem Sb.new {F H0 H : Hp} {b p : Addr} {o : HO} (S : Sb F b H0 H) (n : H p = none) : Sb F b H0 (upd H p o) := by
  obtain ⟨l, hb, hl⟩ := S.bg.ex
  exact ⟨ex_new n S.ex, ⟨S.bg.fr, l, upd_old n hb, hl⟩, S.kp.mut (S.free n)⟩
theorem Sb.mut {F H0 H : Hp} {b p : Addr} {o : HO} (S : Sb F b H0 H) (f : F p = none) (n : H0 p = none) (ne : p ≠ b) : Sb F b H0 (upd H p o) := by
  obtain ⟨l, hb, hl⟩ := S.bg.ex
  exact ⟨ex_mut f S.ex, ⟨S.bg.fr, l, upd_oth ne.symm hb, hl⟩, S.kp.mut n⟩
theorem i_pick {F H : Hp} {b : Addr} {m : Int} {Q : VK} {E : XK} (e : Ex F H) (B : Bg F H b) (h0 : 0 < m) (h1 : m < 1073741824) (k : ∀ (r : Int) (l : List V), 0 ≤ r → r < m → BgL F l → Q (.int r) (upd H b (.lst l))) : spPick [.ref b, .int m] H Q E := ⟨b, m, F, rfl, h0, h1, e, B, k⟩
theorem i_choice {F H : Hp} {b t : Addr} {xs : List V} {Q : VK} {E : XK} (e : Ex F H) (B : Bg F H b) (ht : F t = some (.lst xs)) (h0 : 0 < xs.length) (h1 : xs.length < 1000000) (k : ∀ (x : V) (l : List V), x ∈ xs → BgL F l → Q x (upd H b (.lst l))) : spChoice [.ref b, .ref t] H Q E := ⟨b, t, xs, F, rfl, e, B, ht, h0, h1, k⟩
section
variable {P : Program} {w : World} {K : PySem.W.Frag} {mg : Str → Option Value} {base : Heap} {A : Ad}
abbrev Asc (ns : List Int) : Prop := ns.Pairwise (· < ·)
def spNumbers : Sp := fun vs H Q _ => ∃ (b : Addr) (m : Int) (F : Hp), vs = [.ref b, .int m] ∧ 0 ≤ m ∧ m ≤ 60 ∧ Ex F H ∧ Bg F H b ∧
  ∀ (p : Addr) (ns : List Int) (H' : Hp), ns.length = m.toNat → Asc ns → (∀ n ∈ ns, 1 ≤ n ∧ n ≤ 998) → H p = none → H' p = some (.lst (ns.map V.int)) → Sb F b H H' → Q (.ref p) H'
theorem ok_l_numbers (T : Txt K mg A) : FnOk P w K mg base CX0 3 A.f_l_numbers A.d_l_numbers ["_law_bag_here", "_law_many"] spNumbers := by
  refine T.F_l_numbers.ok sc_l_numbers (fun vs H Q E h => ?_) (fun cdv Ar outer s H vs Q E hr h => ?_)
  · obtain ⟨b, m, F, rfl, _⟩ := h; rfl
  · obtain ⟨b, m, F, rfl, m0, m1, e, B, k⟩ := h
    refine ⟨_, (pss_cons (ps_set (i := 2) sc_l_numbers.nd rfl (Or.inl rfl) (pe_ix ix_list (pe_lst (pa_cons pe_int (pa_cons pe_int (pa_cons pe_int (pa_cons pe_int (pa_cons pe_int (pa_cons pe_int pa_nil))))))) (pe_call (ok_l_pick T) (hr.mono (by decide)) rfl T.g_l_pick T.F_l_pick.kp T.bi_l_pick .nil pass0 (pa_cons (pv 0) (pa_cons pe_int pa_nil))) (fun _ _ => rfl)))
  (pss_cons (ps_set (i := 3) sc_l_numbers.nd rfl (Or.inl rfl) (pe_ix ix_list (pe_lst (pa_cons pe_int (pa_cons pe_int (pa_cons pe_int (pa_cons pe_int pa_nil))))) (pe_call (ok_l_pick T) (hr.mono (by decide)) rfl T.g_l_pick T.F_l_pick.kp T.bi_l_pick .nil pass0 (pa_cons (pv 0) (pa_cons pe_int pa_nil))) (fun _ _ => rfl)))
  (pss_cons (ps_set (i := 4) sc_l_numbers.nd rfl (Or.inl rfl) (pe_lst pa_nil))
  (pss_cons (ps_for PassesOwn.never rfl (pi_range1 rfl T.b_range (pa_cons (pv 1) pa_nil)) (pg_name (i := 5) sc_l_numbers.nd rfl (Or.inl rfl))
   (pss_cons (ps_set (i := 2) sc_l_numbers.nd rfl (Or.inl rfl) (pe_op op_add (pe_op op_add (pv 2) pe_int) (pe_call (ok_l_pick T) (hr.mono (by decide)) rfl T.g_l_pick T.F_l_pick.kp T.bi_l_pick .nil pass0 (pa_cons (pv 0) (pa_cons (pv 3) pa_nil)))))
  (pss_one (ps_expr (pe_bm PySem.F.plainAttrs_list PySem.F.slot_list_append PySem.F.type_list_append mt_append (pv 4) (pa_cons (pv 2) pa_nil))))))
  (pss_one (ps_ret (pv 4))))))), ?_⟩
    dsimp only [cxOf, Cx.nox, Cx.wish]
    have S0 := Sb.start e B
    walk_at "go"
    intro q hq
    have S1 := S0.new (o := .lst [.int 0, .int 0, .int 0, .int 7, .int 95, .int 600]) hq
    have qb := S0.ne hq
    walk_at "go"
    refine i_pick S1.ex S1.bg (by decide) (by decide) fun r l r0 r1 hl => ?_
    obtain ⟨v, hv, hm⟩ := atI_lt (xs := [V.int 0, .int 0, .int 0, .int 7, .int 95, .int 600]) r0 r1
    have hz : ∃ z, v = .int z ∧ 0 ≤ z ∧ z ≤ 600 := by
      have := List.mem_of_getElem? hm
      simp at this
      rcases this with h | h | h | h <;> exact ⟨_, h, by decide, by decide⟩
    obtain ⟨z, rfl, z0, z1⟩ := hz
    have S2 := S1.pick hl
    walk_at "go"
    intro q2 hq2
    have S3 := S2.new (o := .lst [.int 1, .int 1, .int 2, .int 4]) hq2
    have qb2 := S2.ne hq2
    walk_at "go"
    refine i_pick S3.ex S3.bg (by decide) (by decide) fun r' l' r0' r1' hl' => ?_
    obtain ⟨v, hv, hm⟩ := atI_lt (xs := [V.int 1, .int 1, .int 2, .int 4]) r0' r1'
    have hg : ∃ g, v = .int g ∧ 1 ≤ g ∧ g ≤ 4 := by
      have := List.mem_of_getElem? hm
      simp at this
      rcases this with h | h | h <;> exact ⟨_, h, by decide, by decide⟩
    obtain ⟨g, rfl, g0, g1⟩ := hg
    have S4 := S3.pick hl'
    walk_at "go"
    intro p hp
    have S5 := S4.new (o := .lst []) hp
    have pb := S4.ne hp
    have hp0 := S4.free hp
    have Fp := S4.fr hp
    walk_at "go"
    refine ⟨fun i σ H' => ∃ (z : Int) (ns : List Int) (v : Option V), σ = [some (.ref b), some (.int m), some (.int z), some (.int g), some (.ref p), v] ∧ Sb F b H H' ∧ H' p = some (.lst (ns.map V.int)) ∧ ns.length = i ∧ 0 ≤ z ∧ z ≤ 600 + 4 * i ∧ Asc ns ∧ (∀ n ∈ ns, 1 ≤ n ∧ n ≤ 998) ∧ ∀ n ∈ ns, n ≤ z, ?_, fun i σ H' hi h => trivial, fun i x σ H1 H2 hi h y => ?_, fun σ H' h => ?_⟩
    · exact ⟨z, [], none, rfl, S5, upd_same, rfl, z0, by omega, List.Pairwise.nil, by simp, by simp⟩
    · obtain ⟨z, ns, v, rfl, S, h2, h3, h4, h5, h6, h7, h8⟩ := h
      obtain ⟨rfl, rfl⟩ := y
      walk_at "go"
      refine i_pick S.ex S.bg (by omega) (by omega) fun r l r0 r1 hl => ?_
      have S' := S.pick hl
      have zl : (ns.map V.int).length < sizeLine := by rw [sizeLine_eq, List.length_map]; omega
      walk_at "go"
      refine ⟨z + 1 + r, ns ++ [z + 1 + r], _, rfl, S'.mut Fp hp0 pb, ?_, by simp; omega, by omega, by omega, ?_, ?_, ?_⟩
      · rw [List.map_append]; exact upd_same
      · refine List.pairwise_append.mpr ⟨h6, by simp, fun a ha c hc => ?_⟩
        have := h8 a ha
        simp at hc; omega
      · intro n hn
        rcases List.mem_append.mp hn with h | h
        · exact h7 n h
        · simp at h; omega
      · intro n hn
        rcases List.mem_append.mp hn with h | h
        · have := h8 n h; omega
        · simp at h; omega
    · obtain ⟨z, ns, v, rfl, S, h2, h3, h4, h5, h6, h7, h8⟩ := h
      walk_at "go"
      exact k p ns H' h3 h6 h7 hp0 h2 S
end
end Dh
/-! K02D -/
set_option Elab.async false
set_option linter.all false
set_option maxRecDepth 100000
set_option maxHeartbeats 4000000
namespace Dh
open PySem PySem.Spec L2
open _root_.Evl (Ex)
local macro_rules | `(tactic| walk_at "ex") => `(tactic| first | assumption | ((with_reducible apply ex_mut); (focus assumption); walk_at "ex") | ((with_reducible apply ex_both); walk_at "ex") | ((with_reducible apply ex_new); (focus assumption); walk_at "ex"))
local macro_rules | `(tactic| walk_at "hp") => `(tactic| first | assumption | with_reducible exact upd_same | ((with_reducible apply upd_old); (focus assumption); walk_at "hp") | ((with_reducible apply upd_oth); (focus walk_at "neq"); walk_at "hp") | ((with_reducible apply ex_by); (focus assumption); walk_at "ex") | ((with_reducible apply ex_at); (focus assumption); walk_at "hp"))
local macro_rules | `(tactic| walk_at "neq") => `(tactic| first | assumption | (apply Ne.symm; assumption))
local macro_rules | `(tactic| walk_at "sq") => `(tactic| first | assumption | ((with_reducible apply SqL.of); walk_at "hp") | ((with_reducible apply SqT.of); walk_at "hp"))
local macro_rules | `(tactic| walk_at "side") => `(tactic| first | assumption | decide | exact cm_fmod (by decide) (by decide) | (show _ ≠ (0 : Int); decide) | (show _ ≠ (0 : Int); omega) | exact Or.inr ⟨by decide, by decide⟩ | exact Or.inl ⟨by decide, by decide⟩ | (show CDivN _ _; exact ⟨by decide, by decide⟩) | (show CDivN _ _; exact ⟨by omega, by omega⟩) | exact Or.inl ⟨by omega, by omega⟩ | exact Or.inr ⟨by omega, by omega⟩ | exact ⟨by decide, by decide, by decide⟩)
local macro_rules | `(tactic| walk_at "ix") => `(tactic| first | exact rfl | assumption | exact atI_nat (by assumption))
local macro_rules | `(tactic| walk_at "step0") => `(tactic| first
  | with_reducible refine i_seq ?_
  | with_reducible refine i_asg ?_
  | with_reducible refine i_op ?_
  | ((with_reducible refine' i_var ?hv ?_); (case hv => exact rfl))
  | with_reducible refine i_c ?_
  | with_reducible refine i_cons ?_
  | with_reducible refine i_nil ?_
  | with_reducible refine i_cb ?_
  | with_reducible refine i_call ?_
  | with_reducible refine i_call' ?_
  | with_reducible refine i_un ?_
  | with_reducible refine i_I0 ?_
  | ((with_reducible refine i_I ?hv ?_); (case hv => walk_at "side"))
  | with_reducible refine i_eqI ?_
  | with_reducible refine i_neI ?_
  | with_reducible refine i_eqS ?_
  | with_reducible refine i_neS ?_
  | ((with_reducible refine i_eq ?hv ?_); (case hv => exact rfl))
  | ((with_reducible refine i_ne ?hv ?_); (case hv => exact rfl))
  | with_reducible refine i_int1 ?_
  | with_reducible refine i_abs ?_
  | ((with_reducible refine' i_ixL ?hv ?hw ?_); (case hv => walk_at "sq"); (case hw => walk_at "ix"))
  | ((with_reducible refine' i_ixT ?hv ?hw ?_); (case hv => walk_at "sq"); (case hw => walk_at "ix"))
  | ((with_reducible refine' i_lenL ?hv ?_); (case hv => walk_at "sq"))
  | ((with_reducible refine' i_lenT ?hv ?_); (case hv => walk_at "sq"))
  | with_reducible refine i_addIB ?_
  | with_reducible refine i_mulIB ?_
  | ((with_reducible refine i_lenS ?hv ?_); (case hv => walk_at "side"))
  | with_reducible refine i_tup ?_
  | with_reducible refine i_lst ?_
  | with_reducible refine i_asgG ?_
  | with_reducible refine i_gname ?_
  | with_reducible refine i_gsub ?_
  | ((with_reducible refine' i_setL ?hv ?hw ?_); (case hv => walk_at "hp"); (case hw => exact rfl))
  | with_reducible refine i_ret ?_
  | with_reducible refine i_drop ?_
  | with_reducible refine i_next ?_
  | with_reducible refine i_test ?_
  | with_reducible refine i_B ?_
  | with_reducible refine i_bl ?_
  | with_reducible refine i_not ?_
  | with_reducible refine i_and ?_
  | with_reducible refine i_or ?_
  | ((with_reducible refine' i_app ?hv ?hw ?_); (case hv => walk_at "hp"); (case hw => walk_at "side"))
  | with_reducible refine iteT ?_
  | with_reducible refine iteF ?_
  | with_reducible refine iteNT ?_
  | with_reducible refine iteNF ?_
  | ((with_reducible refine iteT' ?hv ?_); (case hv => first | exact decide_eq_true (by assumption) | exact notF (by assumption) | exact decide_eq_true rfl | exact notF (by decide) | exact decide_eq_true (by decide) | exact decide_eq_true (by simp only [List.length_cons, List.length_nil]; decide)))
  | ((with_reducible refine iteF' ?hv ?_); (case hv => first | exact decide_eq_false (by assumption) | exact notT (by assumption) | exact notT rfl | exact decide_eq_false (by decide) | exact decide_eq_false (by simp only [List.length_cons, List.length_nil]; decide)))
  | with_reducible refine i_forL ?_
  | with_reducible refine i_forT ?_
  | with_reducible refine i_forR ?_
  | with_reducible refine i_forR2 ?_
  | with_reducible refine i_forE ?_
  | with_reducible refine i_forV ?_
  | with_reducible refine i_forS ?_
  | with_reducible refine i_forK ?_
  | with_reducible refine i_lcL ?_
  | with_reducible refine i_lcT ?_
  | with_reducible refine i_lcR ?_
  | with_reducible refine i_lcR2 ?_
  | with_reducible refine i_lcS ?_
  | with_reducible refine i_lcK ?_
  | ((with_reducible refine' fl_L ?hv ?_); (case hv => walk_at "sq"))
  | ((with_reducible refine' fl_T ?hv ?_); (case hv => walk_at "sq"))
  | ((with_reducible refine fl_R ?hv ?hw ?_); (case hv => (first | decide | omega)); (case hw => (first | decide | omega)))
  | ((with_reducible refine fl_R2 ?hv ?_); (case hv => (first | decide | (refine ⟨?_, ?_, ?_, ?_⟩ <;> omega))))
  | ((with_reducible refine' fl_E ?hv ?_); (case hv => walk_at "sq"))
  | ((with_reducible refine' fl_V ?hv ?_); (case hv => walk_at "sq"))
  | with_reducible refine fl_S ?_
  | ((with_reducible refine' fc_L ?hv ?_); (case hv => walk_at "sq"))
  | ((with_reducible refine' fc_T ?hv ?_); (case hv => walk_at "sq"))
  | ((with_reducible refine fc_R ?hv ?hw ?_); (case hv => (first | decide | omega)); (case hw => (first | decide | omega)))
  | with_reducible refine fc_S ?_
  | with_reducible refine i_sl ?_
  | with_reducible refine i_nopart ?_
  | with_reducible refine i_part ?_
  | with_reducible refine i_isint ?_
  | ((with_reducible refine' i_slL ?hv ?_); (case hv => walk_at "sq"))
  | ((with_reducible refine i_slS ?hv ?_); (case hv => walk_at "side"))
  | ((with_reducible refine' i_gtup ?hv ?hw ?_); (case hv => walk_at "sq"); (case hw => exact rfl))
  | with_reducible refine i_gcons ?_
  | with_reducible refine i_gnil ?_
  | ((with_reducible refine' i_listL ?hv ?_); (case hv => walk_at "sq"))
  | ((with_reducible refine' i_listT ?hv ?_); (case hv => walk_at "sq"))
  | ((with_reducible refine' i_tupL ?hv ?_); (case hv => walk_at "sq"))
  | ((with_reducible refine' i_lenD ?hv ?_); (case hv => walk_at "hp"))
  | ((with_reducible refine' i_ty ?hv ?_); (case hv => walk_at "hp"))
  | ((with_reducible refine And.intro ?hv ?_); (case hv => first | exact (by decide : (0 : Nat) ≤ sizeLine) | exact (by decide : (1 : Nat) ≤ sizeLine) | exact (by decide : (2 : Nat) ≤ sizeLine) | exact (by decide : (3 : Nat) ≤ sizeLine) | exact (by decide : (4 : Nat) ≤ sizeLine) | exact (by decide : (5 : Nat) ≤ sizeLine) | exact (by decide : (6 : Nat) ≤ sizeLine)))
  | with_reducible refine i_inC ?_
  | ((with_reducible refine i_addT ?hv ?_); (case hv => walk_at "side"))
  | with_reducible refine i_m1 ?_
  | with_reducible refine i_isstr ?_
  | with_reducible refine is_int_int ?_
  | with_reducible refine is_int_bool ?_
  | with_reducible refine is_str_str ?_
  | ((with_reducible refine' is_tup_tup ?hv ?_); (case hv => walk_at "hp"))
  | with_reducible refine i_ifExp ?_
  | with_reducible refine i_andV ?_
  | with_reducible refine i_orV ?_
  | with_reducible refine i_notV ?_
  | with_reducible refine i_chain ?_
  | ((with_reducible refine' i_inS ?hv ?_); (case hv => walk_at "sq"))
  | ((with_reducible refine' i_niS ?hv ?_); (case hv => walk_at "sq"))
  | ((with_reducible refine' i_inI ?hv ?_); (case hv => walk_at "sq"))
  | ((with_reducible refine' i_niI ?hv ?_); (case hv => walk_at "sq"))
  | with_reducible refine i_dnew ?_
  | with_reducible refine i_dput ?_
  | ((with_reducible refine' i_dputI ?hv ?hw ?_); (case hv => walk_at "hp"); (case hw => walk_at "side"))
  | with_reducible refine i_dget ?_
  | ((with_reducible refine' i_dgetI ?hv ?hw ?_); (case hv => walk_at "hp"); (case hw => assumption))
  | with_reducible refine i_dnotin ?_
  | with_reducible refine i_din ?_
  | ((with_reducible refine' i_dnotinI ?hv ?_); (case hv => walk_at "hp"))
  | with_reducible refine i_dsetd ?_
  | ((with_reducible refine' i_isd ?hv ?_); (case hv => walk_at "hp"))
  | with_reducible refine i_fld ?_
  | with_reducible refine i_sfld ?_
  | with_reducible refine i_dcT ?_
  | with_reducible refine i_dcL ?_
  | with_reducible refine i_truT ?_
  | ((with_reducible refine' i_truL ?hv ?_); (case hv => walk_at "sq"))
  | with_reducible refine i_revL ?_
  | ((with_reducible refine' i_atLx ?hv ?_); (case hv => walk_at "sq"))
  | with_reducible refine i_bm ?_
  | with_reducible refine i_bm0 ?_)
local macro_rules | `(tactic| walk_at "step") => `(tactic| first | walk_at "step0" | with_reducible refine i_ifS ?_)
local macro_rules | `(tactic| walk_at "goj") => `(tactic| repeat (first | walk_at "step0" | with_reducible refine i_ifS (c := tTest _) ?_ | with_reducible refine i_ifS (c := tB _) ?_))
local macro_rules | `(tactic| walk_at "tj") => `(tactic| (intro q hq; repeat (first | exact hq | walk_at "step" | (refine and_q hq (fun h => ?_); clear hq; rename_i hq) | (refine or_q hq (fun h => ?_); clear hq; rename_i hq))))
local macro_rules | `(tactic| walk_at "go") => `(tactic| repeat walk_at "step")

theorem BgL.ex {F F' : Hp} {l : List V} (x : Ex F F') (h : BgL F l) : BgL F' l := by
  obtain ⟨n, ns, i, hh, t, s, e, hn, r⟩ := h
  exact ⟨n, ns, i, hh, t, s, e, x _ _ hn, r⟩
theorem Sb.frz {F H0 H : Hp} {b p : Addr} {o : HO} (S : Sb F b H0 H) (n : H p = none) : Sb (upd F p o) b H0 (upd H p o) := by
  obtain ⟨l, hb, hl⟩ := S.bg.ex
  have ne := S.ne n
  exact ⟨ex_both S.ex, ⟨by rw [upd_ne ne.symm]; exact S.bg.fr, l, upd_old n hb, hl.ex (Ex.new (S.fr n))⟩, S.kp.mut (S.free n)⟩
/-- what stands already is frozen -/
theorem Sb.fix {F H0 H : Hp} {b p : Addr} {o : HO} (S : Sb F b H0 H) (h : H p = some o) (f : F p = none) (ne : p ≠ b) : Sb (upd F p o) b H0 H := by
  obtain ⟨l, hb, hl⟩ := S.bg.ex
  refine ⟨fun a u e => ?_, ⟨by rw [upd_ne ne.symm]; exact S.bg.fr, l, hb, hl.ex (Ex.new f)⟩, S.kp⟩
  by_cases q : a = p
  · subst q; rw [upd_same] at e; cases e; exact h
  · rw [upd_ne q] at e; exact S.ex a u e
theorem EsAt.ex {F F' : Hp} {vs : List V} {es : List En} (x : Ex F F') (h : EsAt F vs es) : EsAt F' vs es := L2.Paired.mapP h fun _ _ z => z.ex x
theorem paired_snoc {α β : Type} {R : α → β → Prop} : ∀ {xs : List α} {ys : List β} {x : α} {y : β}, Paired R xs ys → R x y → Paired R (xs ++ [x]) (ys ++ [y])
  | _, _, _, _, .nil, h => .cons h .nil
  | _, _, _, _, .cons r t, h => .cons r (paired_snoc t h)
section
variable {P : Program} {w : World} {K : PySem.W.Frag} {mg : Str → Option Value} {base : Heap} {A : Ad}
def spRows : Sp := fun vs H Q _ => ∃ (b nu nm : Addr) (ns : List Int) (xs : List Str) (F : Hp), vs = [.ref b, .ref nu, .ref nm] ∧ Ex F H ∧ Bg F H b ∧ F nu = some (.lst (ns.map V.int)) ∧ F nm = some (.lst (xs.map V.str)) ∧ 0 < xs.length ∧ xs.length < 1000 ∧ (∀ x ∈ xs, NameOk x) ∧ Asc ns ∧ (∀ n ∈ ns, 1 ≤ n ∧ n ≤ 998) ∧ ns.length ≤ 1000 ∧
  ∀ (p : Addr) (ts : List V) (es : List En) (F' H' : Hp), Ex F F' → H p = none → F' p = none → H' p = some (.lst ts) → Sb F' b H H' → EsAt F' ts es → es.map En.num = ns → (∀ e ∈ es, e.Ok) → Q (.ref p) H'
structure RowsI (F H : Hp) (b p : Addr) (ns : List Int) (i : Nat) (H' : Hp) : Prop where
  ex : ∃ (F1 : Hp) (ts : List V) (es : List En), Ex F F1 ∧ Sb F1 b H H' ∧ F1 p = none ∧ H' p = some (.lst ts) ∧ EsAt F1 ts es ∧ es.map En.num = ns.take i ∧ ∀ e ∈ es, e.Ok
theorem RowsI.more {F H H' F1 : Hp} {b p t : Addr} {ns : List Int} {i : Nat} {n : Int} {ts : List V} {es : List En} {e : En} (x : Ex F F1) (S : Sb F1 b H H') (fp : F1 p = none) (hp0 : H p = none) (pb : p ≠ b) (h : H' p = some (.lst ts)) (E : EsAt F1 ts es) (m : es.map En.num = ns.take i) (O : ∀ e ∈ es, e.Ok)
    (hn : ns[i]? = some n) (ht : H' t = none) (en : e.num = n) (eo : e.Ok) : RowsI F H b p ns (i + 1) (upd (upd H' t (.tup e.vs)) p (.lst (ts ++ [.ref t]))) := by
  have tp : p ≠ t := ne_of_none h ht
  have S' := S.frz (o := .tup e.vs) ht
  have x' : Ex F1 (upd F1 t (.tup e.vs)) := Ex.new (S.fr ht)
  refine ⟨_, ts ++ [.ref t], es ++ [e], x.trans x', S'.mut (by rw [upd_ne tp]; exact fp) hp0 pb, by rw [upd_ne tp]; exact fp, upd_same, paired_snoc (E.ex x') ⟨t, rfl, upd_same⟩, ?_, ?_⟩
  · rw [List.map_append, m, List.take_succ, hn, ← en]; rfl
  · intro e' he'
    rcases List.mem_append.mp he' with h | h
    · exact O _ h
    · simp at h; subst h; exact eo
theorem asc_lt {ns : List Int} (h : Asc ns) {i j : Nat} {a c : Int} (ha : ns[i]? = some a) (hc : ns[j]? = some c) (l : i < j) : a < c := by
  obtain ⟨hi, rfl⟩ := List.getElem?_eq_some_iff.mp ha
  obtain ⟨hj, rfl⟩ := List.getElem?_eq_some_iff.mp hc
  exact List.pairwise_iff_getElem.mp h i j hi hj l
theorem ok_l_rows (T : Txt K mg A) : FnOk P w K mg base CX0 4 A.f_l_rows A.d_l_rows ["_law_bag_here", "_law_numbers_here", "_law_names"] spRows := by
  refine T.F_l_rows.ok sc_l_rows (fun vs H Q E h => ?_) (fun cdv Ar outer s H vs Q E hr h => ?_)
  · obtain ⟨b, nu, nm, ns, xs, F, rfl, _⟩ := h; rfl
  · obtain ⟨b, nu, nm, ns, xs, F, rfl, e, B, hnu, hnm, x0, x1, xN, asc, rng, n1, k⟩ := h
    refine ⟨_, (pss_cons (ps_set (i := 3) sc_l_rows.nd rfl (Or.inl rfl) (pe_cmpR op_eq (pe_call (ok_l_pick T) (hr.mono (by decide)) rfl T.g_l_pick T.F_l_pick.kp T.bi_l_pick .nil pass0 (pa_cons (pv 0) (pa_cons pe_int pa_nil))) pe_int (nomark _)))
  (pss_cons (ps_set (i := 4) sc_l_rows.nd rfl (Or.inl rfl) (pe_lst pa_nil))
  (pss_cons (ps_for PassesOwn.never rfl (pi_enum (by rfl) T.b_enumerate (pa_cons (pv 1) pa_nil)) (pg_tup (n := 2) rfl (pgs_cons (pg_name (i := 5) sc_l_rows.nd rfl (Or.inl rfl)) (pgs_cons (pg_name (i := 6) sc_l_rows.nd rfl (Or.inl rfl)) pgs_nil)) (by rfl))
   (pss_cons (ps_set (i := 7) sc_l_rows.nd rfl (Or.inl rfl) (pe_call (ok_l_pick T) (hr.mono (by decide)) rfl T.g_l_pick T.F_l_pick.kp T.bi_l_pick .nil pass0 (pa_cons (pv 0) (pa_cons pe_int pa_nil))))
  (pss_one (ps_if (PW.pt (pw_and (pt_val (pv 3)) (pw_and (pt_cmpR op_gt (pv 5) pe_int (nomark _)) (pw_and1 (pt_cmpR op_lt (pv 7) pe_int (nomark _)))))) (pss_one (ps_expr (pe_bm PySem.F.plainAttrs_list PySem.F.slot_list_append PySem.F.type_list_append mt_append (pv 4) (pa_cons (pe_tup (pa_cons (pv 6) (pa_cons pe_str (pa_cons (pe_ix ix_list (pv 1) (pe_op op_sub (pv 5) pe_int) (fun _ _ => rfl)) pa_nil)))) pa_nil)))) (pss_one (ps_if (PW.pt (pw_and (pt_cmpR op_lt (pv 7) pe_int (nomark _)) (pw_and1 (pt_cmpR op_gt (pv 5) pe_int (nomark _))))) (pss_one (ps_expr (pe_bm PySem.F.plainAttrs_list PySem.F.slot_list_append PySem.F.type_list_append mt_append (pv 4) (pa_cons (pe_tup (pa_cons (pv 6) (pa_cons pe_str (pa_cons (pe_ix ix_list (pv 1) (pe_call (ok_l_pick T) (hr.mono (by decide)) rfl T.g_l_pick T.F_l_pick.kp T.bi_l_pick .nil pass0 (pa_cons (pv 0) (pa_cons (pv 5) pa_nil))) (fun _ _ => rfl)) pa_nil)))) pa_nil)))) (pss_one (ps_if (PW.pt (pw_and (pt_cmpR op_eq (pv 7) pe_int (nomark _)) (pw_and1 (pt_cmpR op_gt (pv 6) pe_int (nomark _))))) (pss_one (ps_expr (pe_bm PySem.F.plainAttrs_list PySem.F.slot_list_append PySem.F.type_list_append mt_append (pv 4) (pa_cons (pe_tup (pa_cons (pv 6) (pa_cons pe_str (pa_cons (pe_op op_add pe_int (pe_call (ok_l_pick T) (hr.mono (by decide)) rfl T.g_l_pick T.F_l_pick.kp T.bi_l_pick .nil pass0 (pa_cons (pv 0) (pa_cons (pe_op op_sub (pv 6) pe_int) pa_nil)))) pa_nil)))) pa_nil)))) (pss_one (ps_if (pt_cmpR op_lt (pv 7) pe_int (nomark _)) (pss_one (ps_expr (pe_bm PySem.F.plainAttrs_list PySem.F.slot_list_append PySem.F.type_list_append mt_append (pv 4) (pa_cons (pe_tup (pa_cons (pv 6) (pa_cons pe_str (pa_cons (pe_call (ok_l_pick T) (hr.mono (by decide)) rfl T.g_l_pick T.F_l_pick.kp T.bi_l_pick .nil pass0 (pa_cons (pv 0) (pa_cons pe_int pa_nil))) (pa_cons (pe_call (ok_l_choice T) (hr.mono (by decide)) rfl T.g_l_choice T.F_l_choice.kp T.bi_l_choice .nil pass0 (pa_cons (pv 0) (pa_cons (pv 2) pa_nil))) pa_nil))))) pa_nil)))) (pss_one (ps_expr (pe_bm PySem.F.plainAttrs_list PySem.F.slot_list_append PySem.F.type_list_append mt_append (pv 4) (pa_cons (pe_tup (pa_cons (pv 6) (pa_cons pe_str (pa_cons (pe_call (ok_l_pick T) (hr.mono (by decide)) rfl T.g_l_pick T.F_l_pick.kp T.bi_l_pick .nil pass0 (pa_cons (pv 0) (pa_cons pe_int pa_nil))) (pa_cons (pe_call (ok_l_choice T) (hr.mono (by decide)) rfl T.g_l_choice T.F_l_choice.kp T.bi_l_choice .nil pass0 (pa_cons (pv 0) (pa_cons (pv 2) pa_nil))) pa_nil))))) pa_nil))))))))))))))
  (pss_one (ps_ret (pv 4)))))), ?_⟩
    dsimp only [cxOf, Cx.nox, Cx.wish]
    have S0 := Sb.start e B
    walk_at "go"
    refine i_pick S0.ex S0.bg (by decide) (by decide) fun r l r0 r1 hl => ?_
    have S1 := S0.pick hl
    walk_at "go"
    generalize decide (r = 0) = deep
    intro p hp
    have S2 := S1.new (o := .lst []) hp
    have pb := S1.ne hp
    have hp0 := S1.free hp
    have Fp := S1.fr hp
    have x2 := S2.ex
    walk_at "go"
    refine ⟨fun i σ H' => ∃ (u1 u2 u3 : Option V), σ = [some (.ref b), some (.ref nu), some (.ref nm), some (.bl deep), some (.ref p), u1, u2, u3] ∧ RowsI F H b p ns i H', ?_, fun i σ H' hi ⟨u1, u2, u3, h, R⟩ => ?_, fun i x σ H1 H2 hi h y => ?_, fun σ H' h => ?_⟩
    · exact ⟨none, none, none, rfl, ⟨F, [], [], Ex.refl F, S2, Fp, upd_same, .nil, rfl, by simp⟩⟩
    · obtain ⟨F1, ts, es, x, S, _⟩ := R.ex
      exact SqL.of (S.ex _ _ (x _ _ hnu))
    · obtain ⟨u1, u2, u3, rfl, R⟩ := h
      obtain ⟨F1, ts, es, x, S, fp, hts, E, m, O⟩ := R.ex
      obtain ⟨T', x', y', rfl, hT, rfl, h3, h4⟩ := y
      obtain rfl : V.int (i : Nat) = x' := Option.some.inj h3
      rw [List.length_map] at hi
      have hn : ns[i]? = some ns[i] := by simp [hi]
      generalize ns[i] = n at hn
      have h4' : y' = V.int n := by
        have : (ns.map V.int)[i]? = some y' := h4
        rw [List.getElem?_map, hn] at this
        exact (Option.some.inj this).symm
      subst h4'
      have rn := rng n (List.mem_of_getElem? hn)
      have tsl : ts.length < sizeLine := by
        have := E.length; have := congrArg List.length m
        rw [List.length_map, List.length_take] at this
        rw [sizeLine_eq]; omega
      have S' := S.new (o := .tup [.int (i : Nat), .int n]) hT
      have hts' := upd_old (u' := .tup [.int (i : Nat), .int n]) hT hts
      have hnu1 : F1 nu = some (.lst (ns.map V.int)) := x _ _ hnu
      have hnm1 : F1 nm = some (.lst (xs.map V.str)) := x _ _ hnm
      walk_at "go"
      refine i_pick S'.ex S'.bg (by decide) (by decide) fun wy l w0 w1 hl => ?_
      have S3 := S'.pick hl
      have hts3 : (upd (upd H1 T' (.tup [.int (i : Nat), .int n])) b (.lst l)) p = some (.lst ts) := upd_oth pb hts'
      generalize upd (upd H1 T' (.tup [.int (i : Nat), .int n])) b (.lst l) = H3 at S3 hts3
      have x3 := S3.ex
      have more : ∀ (e : En) (t : Addr) (H4 : Hp) (u : Option V), Sb F1 b H H4 → H4 p = some (.lst ts) → H4 t = none → e.num = n → e.Ok →
          ∃ (u1 u2 u3 : Option V), [some (V.ref b), some (.ref nu), some (.ref nm), some (.bl deep), some (.ref p), some (.int (i : Nat)), some (.int n), some (.int wy)] = [some (V.ref b), some (.ref nu), some (.ref nm), some (.bl deep), some (.ref p), u1, u2, u3] ∧ RowsI F H b p ns (i + 1) (upd (upd H4 t (.tup e.vs)) p (.lst (ts ++ [.ref t]))) :=
        fun e t H4 u S4 h4 ht en eo => ⟨_, _, _, rfl, .more x S4 fp hp0 pb h4 E m O hn ht en eo⟩
      walk_at "goj"
      with_reducible refine i_ifJ (deep && (decide ((0 : Int) < (i : Nat)) && decide (wy < 5))) ?_ ?_
      · intro q hq; walk_at "go"; refine and_q hq fun hq => ?_; walk_at "go"; refine and_q hq fun hq => ?_; walk_at "go"; exact hq
      refine iteB (fun c1 => ?_) (fun c1 => ?_)
      · simp only [Bool.and_eq_true, decide_eq_true_eq] at c1
        obtain ⟨_, c1, _⟩ := c1
        obtain ⟨o, ho, ho'⟩ := atI_ints (ns := ns) (i := (i : Int) - 1) (by omega) (by omega)
        have lo : o < n := asc_lt asc ho' hn (by omega)
        have o1 := rng o (List.mem_of_getElem? ho')
        walk_at "go"
        intro t ht
        walk_at "go"
        exact more (.vd n o) t H3 none S3 hts3 ht rfl ⟨rn.1, by omega, o1.1, by omega⟩
      walk_at "goj"
      with_reducible refine i_ifJ (decide (wy < 2) && decide ((0 : Int) < (i : Nat))) ?_ ?_
      · intro q hq; walk_at "go"; refine and_q hq fun hq => ?_; walk_at "go"; exact hq
      refine iteB (fun c2 => ?_) (fun c2 => ?_)
      · simp only [Bool.and_eq_true, decide_eq_true_eq] at c2
        walk_at "go"
        refine i_pick S3.ex S3.bg (by omega) (by omega) fun r l r0 r1 hl => ?_
        obtain ⟨o, ho, ho'⟩ := atI_ints (ns := ns) (i := r) (by omega) (by omega)
        have lo : o < n := asc_lt asc ho' hn (by omega)
        have o1 := rng o (List.mem_of_getElem? ho')
        have S4 := S3.pick hl
        have hts4 := upd_oth (u' := .lst l) pb hts3
        have x4 := S4.ex
        walk_at "go"
        intro t ht
        walk_at "go"
        exact more (.vd n o) t _ none S4 hts4 ht rfl ⟨rn.1, by omega, o1.1, by omega⟩
      walk_at "goj"
      with_reducible refine i_ifJ (decide (wy = 2) && decide ((1 : Int) < n)) ?_ ?_
      · intro q hq; walk_at "go"; refine and_q hq fun hq => ?_; walk_at "go"; exact hq
      refine iteB (fun c3 => ?_) (fun c3 => ?_)
      · simp only [Bool.and_eq_true, decide_eq_true_eq] at c3
        walk_at "go"
        refine i_pick S3.ex S3.bg (by omega) (by omega) fun r l r0 r1 hl => ?_
        have S4 := S3.pick hl
        have hts4 := upd_oth (u' := .lst l) pb hts3
        walk_at "go"
        intro t ht
        walk_at "go"
        exact more (.vd n (1 + r)) t _ none S4 hts4 ht rfl ⟨rn.1, by omega, by omega, by omega⟩
      have two : ∀ (d : Int) (y : V), 0 ≤ d → d < 60 → y ∈ xs.map V.str → ∃ z, y = .str z ∧ 0 ≤ d ∧ d ≤ 59 ∧ NameOk z := fun d y d0 d1 hy => by
        obtain ⟨z, hz, rfl⟩ := List.mem_map.mp hy
        exact ⟨z, rfl, d0, by omega, xN z hz⟩
      walk_at "go"
      refine iteD (fun c4 => ?_) (fun c4 => ?_)
      all_goals
        walk_at "go"
        refine i_pick S3.ex S3.bg (by omega) (by omega) fun d l r0 r1 hl => ?_
        have S4 := S3.pick hl
        have hts4 := upd_oth (u' := .lst l) pb hts3
        walk_at "go"
        refine i_choice S4.ex S4.bg hnm1 (by simpa using x0) (by rw [List.length_map]; omega) fun y l' hy hl' => ?_
        obtain ⟨z, rfl, d0, d1, zN⟩ := two d y r0 r1 hy
        have S5 := S4.pick hl'
        have hts5 := upd_oth (u' := .lst l') pb hts4
        walk_at "go"
        intro t ht
        walk_at "go"
        first
          | exact more (.rl n d z) t _ none S5 hts5 ht rfl ⟨rn.1, by omega, d0, d1, zN⟩
          | exact more (.sg n d z) t _ none S5 hts5 ht rfl ⟨rn.1, by omega, d0, d1, zN⟩
    · obtain ⟨u1, u2, u3, rfl, R⟩ := h
      obtain ⟨F1, ts, es, x, S, fp, hts, E, m, O⟩ := R.ex
      walk_at "go"
      refine k p ts es F1 H' x hp0 fp hts S E ?_ O
      rw [m, List.length_map, List.take_length]
end
end Dh
/-! K02E -/
set_option Elab.async false
set_option linter.all false
set_option maxRecDepth 100000
set_option maxHeartbeats 4000000
namespace Dh
open PySem PySem.Spec L2
open _root_.Evl (Ex)
local macro_rules | `(tactic| walk_at "ex") => `(tactic| first | assumption | ((with_reducible apply ex_mut); (focus assumption); walk_at "ex") | ((with_reducible apply ex_both); walk_at "ex") | ((with_reducible apply ex_new); (focus assumption); walk_at "ex"))
local macro_rules | `(tactic| walk_at "hp") => `(tactic| first | assumption | with_reducible exact upd_same | ((with_reducible apply upd_old); (focus assumption); walk_at "hp") | ((with_reducible apply upd_oth); (focus walk_at "neq"); walk_at "hp") | ((with_reducible apply ex_by); (focus assumption); walk_at "ex") | ((with_reducible apply ex_at); (focus assumption); walk_at "hp"))
local macro_rules | `(tactic| walk_at "neq") => `(tactic| first | assumption | (apply Ne.symm; assumption))
local macro_rules | `(tactic| walk_at "sq") => `(tactic| first | assumption | ((with_reducible apply SqL.of); walk_at "hp") | ((with_reducible apply SqT.of); walk_at "hp"))
local macro_rules | `(tactic| walk_at "side") => `(tactic| first | assumption | decide | exact cm_fmod (by decide) (by decide) | (show _ ≠ (0 : Int); decide) | (show _ ≠ (0 : Int); omega) | exact Or.inr ⟨by decide, by decide⟩ | exact Or.inl ⟨by decide, by decide⟩ | (show CDivN _ _; exact ⟨by decide, by decide⟩) | (show CDivN _ _; exact ⟨by omega, by omega⟩) | exact Or.inl ⟨by omega, by omega⟩ | exact Or.inr ⟨by omega, by omega⟩ | exact ⟨by decide, by decide, by decide⟩)
local macro_rules | `(tactic| walk_at "ix") => `(tactic| first | exact rfl | assumption | exact atI_nat (by assumption))
local macro_rules | `(tactic| walk_at "step0") => `(tactic| first
  | with_reducible refine i_seq ?_
  | with_reducible refine i_asg ?_
  | with_reducible refine i_op ?_
  | ((with_reducible refine' i_var ?hv ?_); (case hv => exact rfl))
  | with_reducible refine i_c ?_
  | with_reducible refine i_cons ?_
  | with_reducible refine i_nil ?_
  | with_reducible refine i_cb ?_
  | with_reducible refine i_call ?_
  | with_reducible refine i_call' ?_
  | with_reducible refine i_un ?_
  | with_reducible refine i_I0 ?_
  | ((with_reducible refine i_I ?hv ?_); (case hv => walk_at "side"))
  | with_reducible refine i_eqI ?_
  | with_reducible refine i_neI ?_
  | with_reducible refine i_eqS ?_
  | with_reducible refine i_neS ?_
  | ((with_reducible refine i_eq ?hv ?_); (case hv => exact rfl))
  | ((with_reducible refine i_ne ?hv ?_); (case hv => exact rfl))
  | with_reducible refine i_int1 ?_
  | with_reducible refine i_abs ?_
  | ((with_reducible refine' i_ixL ?hv ?hw ?_); (case hv => walk_at "sq"); (case hw => walk_at "ix"))
  | ((with_reducible refine' i_ixT ?hv ?hw ?_); (case hv => walk_at "sq"); (case hw => walk_at "ix"))
  | ((with_reducible refine' i_lenL ?hv ?_); (case hv => walk_at "sq"))
  | ((with_reducible refine' i_lenT ?hv ?_); (case hv => walk_at "sq"))
  | with_reducible refine i_addIB ?_
  | with_reducible refine i_mulIB ?_
  | ((with_reducible refine i_lenS ?hv ?_); (case hv => walk_at "side"))
  | with_reducible refine i_tup ?_
  | with_reducible refine i_lst ?_
  | with_reducible refine i_asgG ?_
  | with_reducible refine i_gname ?_
  | with_reducible refine i_gsub ?_
  | ((with_reducible refine' i_setL ?hv ?hw ?_); (case hv => walk_at "hp"); (case hw => exact rfl))
  | with_reducible refine i_ret ?_
  | with_reducible refine i_drop ?_
  | with_reducible refine i_next ?_
  | with_reducible refine i_test ?_
  | with_reducible refine i_B ?_
  | with_reducible refine i_bl ?_
  | with_reducible refine i_not ?_
  | with_reducible refine i_and ?_
  | with_reducible refine i_or ?_
  | ((with_reducible refine' i_app ?hv ?hw ?_); (case hv => walk_at "hp"); (case hw => walk_at "side"))
  | with_reducible refine iteT ?_
  | with_reducible refine iteF ?_
  | with_reducible refine iteNT ?_
  | with_reducible refine iteNF ?_
  | ((with_reducible refine iteT' ?hv ?_); (case hv => first | exact decide_eq_true (by assumption) | exact notF (by assumption) | exact decide_eq_true rfl | exact notF (by decide) | exact decide_eq_true (by decide) | exact decide_eq_true (by simp only [List.length_cons, List.length_nil]; decide)))
  | ((with_reducible refine iteF' ?hv ?_); (case hv => first | exact decide_eq_false (by assumption) | exact notT (by assumption) | exact notT rfl | exact decide_eq_false (by decide) | exact decide_eq_false (by simp only [List.length_cons, List.length_nil]; decide)))
  | with_reducible refine i_forL ?_
  | with_reducible refine i_forT ?_
  | with_reducible refine i_forR ?_
  | with_reducible refine i_forR2 ?_
  | with_reducible refine i_forE ?_
  | with_reducible refine i_forV ?_
  | with_reducible refine i_forS ?_
  | with_reducible refine i_forK ?_
  | with_reducible refine i_lcL ?_
  | with_reducible refine i_lcT ?_
  | with_reducible refine i_lcR ?_
  | with_reducible refine i_lcR2 ?_
  | with_reducible refine i_lcS ?_
  | with_reducible refine i_lcK ?_
  | ((with_reducible refine' fl_L ?hv ?_); (case hv => walk_at "sq"))
  | ((with_reducible refine' fl_T ?hv ?_); (case hv => walk_at "sq"))
  | ((with_reducible refine fl_R ?hv ?hw ?_); (case hv => (first | decide | omega)); (case hw => (first | decide | omega)))
  | ((with_reducible refine fl_R2 ?hv ?_); (case hv => (first | decide | (refine ⟨?_, ?_, ?_, ?_⟩ <;> omega))))
  | ((with_reducible refine' fl_E ?hv ?_); (case hv => walk_at "sq"))
  | ((with_reducible refine' fl_V ?hv ?_); (case hv => walk_at "sq"))
  | with_reducible refine fl_S ?_
  | ((with_reducible refine' fc_L ?hv ?_); (case hv => walk_at "sq"))
  | ((with_reducible refine' fc_T ?hv ?_); (case hv => walk_at "sq"))
  | ((with_reducible refine fc_R ?hv ?hw ?_); (case hv => (first | decide | omega)); (case hw => (first | decide | omega)))
  | with_reducible refine fc_S ?_
  | with_reducible refine i_sl ?_
  | with_reducible refine i_nopart ?_
  | with_reducible refine i_part ?_
  | with_reducible refine i_isint ?_
  | ((with_reducible refine' i_slL ?hv ?_); (case hv => walk_at "sq"))
  | ((with_reducible refine i_slS ?hv ?_); (case hv => walk_at "side"))
  | ((with_reducible refine' i_gtup ?hv ?hw ?_); (case hv => walk_at "sq"); (case hw => exact rfl))
  | with_reducible refine i_gcons ?_
  | with_reducible refine i_gnil ?_
  | ((with_reducible refine' i_listL ?hv ?_); (case hv => walk_at "sq"))
  | ((with_reducible refine' i_listT ?hv ?_); (case hv => walk_at "sq"))
  | ((with_reducible refine' i_tupL ?hv ?_); (case hv => walk_at "sq"))
  | ((with_reducible refine' i_lenD ?hv ?_); (case hv => walk_at "hp"))
  | ((with_reducible refine' i_ty ?hv ?_); (case hv => walk_at "hp"))
  | ((with_reducible refine And.intro ?hv ?_); (case hv => first | exact (by decide : (0 : Nat) ≤ sizeLine) | exact (by decide : (1 : Nat) ≤ sizeLine) | exact (by decide : (2 : Nat) ≤ sizeLine) | exact (by decide : (3 : Nat) ≤ sizeLine) | exact (by decide : (4 : Nat) ≤ sizeLine) | exact (by decide : (5 : Nat) ≤ sizeLine) | exact (by decide : (6 : Nat) ≤ sizeLine)))
  | with_reducible refine i_inC ?_
  | ((with_reducible refine i_addT ?hv ?_); (case hv => walk_at "side"))
  | with_reducible refine i_m1 ?_
  | with_reducible refine i_isstr ?_
  | with_reducible refine is_int_int ?_
  | with_reducible refine is_int_bool ?_
  | with_reducible refine is_str_str ?_
  | ((with_reducible refine' is_tup_tup ?hv ?_); (case hv => walk_at "hp"))
  | with_reducible refine i_ifExp ?_
  | with_reducible refine i_andV ?_
  | with_reducible refine i_orV ?_
  | with_reducible refine i_notV ?_
  | with_reducible refine i_chain ?_
  | ((with_reducible refine' i_inS ?hv ?_); (case hv => walk_at "sq"))
  | ((with_reducible refine' i_niS ?hv ?_); (case hv => walk_at "sq"))
  | ((with_reducible refine' i_inI ?hv ?_); (case hv => walk_at "sq"))
  | ((with_reducible refine' i_niI ?hv ?_); (case hv => walk_at "sq"))
  | with_reducible refine i_dnew ?_
  | with_reducible refine i_dput ?_
  | ((with_reducible refine' i_dputI ?hv ?hw ?_); (case hv => walk_at "hp"); (case hw => walk_at "side"))
  | with_reducible refine i_dget ?_
  | ((with_reducible refine' i_dgetI ?hv ?hw ?_); (case hv => walk_at "hp"); (case hw => assumption))
  | with_reducible refine i_dnotin ?_
  | with_reducible refine i_din ?_
  | ((with_reducible refine' i_dnotinI ?hv ?_); (case hv => walk_at "hp"))
  | with_reducible refine i_dsetd ?_
  | ((with_reducible refine' i_isd ?hv ?_); (case hv => walk_at "hp"))
  | with_reducible refine i_fld ?_
  | with_reducible refine i_sfld ?_
  | with_reducible refine i_dcT ?_
  | with_reducible refine i_dcL ?_
  | with_reducible refine i_truT ?_
  | ((with_reducible refine' i_truL ?hv ?_); (case hv => walk_at "sq"))
  | with_reducible refine i_revL ?_
  | ((with_reducible refine' i_atLx ?hv ?_); (case hv => walk_at "sq"))
  | with_reducible refine i_bm ?_
  | with_reducible refine i_bm0 ?_)
local macro_rules | `(tactic| walk_at "step") => `(tactic| first | walk_at "step0" | with_reducible refine i_ifS ?_)
local macro_rules | `(tactic| walk_at "goj") => `(tactic| repeat (first | walk_at "step0" | with_reducible refine i_ifS (c := tTest _) ?_ | with_reducible refine i_ifS (c := tB _) ?_))
local macro_rules | `(tactic| walk_at "tj") => `(tactic| (intro q hq; repeat (first | exact hq | walk_at "step" | (refine and_q hq (fun h => ?_); clear hq; rename_i hq) | (refine or_q hq (fun h => ?_); clear hq; rename_i hq))))
local macro_rules | `(tactic| walk_at "go") => `(tactic| repeat walk_at "step")

theorem name_app {a : Str} {l : List Nat} (h : ∀ c ∈ a.cps.toList, c ∈ l) {b : Str} (h' : ∀ c ∈ b.cps.toList, c ∈ l) : ∀ c ∈ (a ++ b).cps.toList, c ∈ l := by
  intro c hc
  rw [app_L] at hc
  rcases List.mem_append.mp hc with q | q
  · exact h c q
  · exact h' c q
/-- H without what stands at u -/
def less (H : Hp) (u : Addr) : Hp := fun a => if a = u then none else H a
theorem less_same {H : Hp} {u : Addr} : less H u u = none := if_pos rfl
theorem less_ne {H : Hp} {u a : Addr} (n : a ≠ u) : less H u a = H a := if_neg n
theorem Sb.startL {F H : Hp} {b u : Addr} (e : Ex F H) (B : Bg F H b) : Sb F b (less H u) H := ⟨e, B, fun a o _ h => by
  by_cases q : a = u
  · subst q; rw [less_same] at h; cases h
  · rw [less_ne q] at h; exact h⟩
section
variable {P : Program} {w : World} {K : PySem.W.Frag} {mg : Str → Option Value} {base : Heap} {A : Ad}
def spNewName : Sp := fun vs H Q _ => ∃ (b u : Addr) (us : List Str) (F : Hp), vs = [.ref b, .ref u] ∧ Ex F H ∧ Bg F H b ∧ F u = none ∧ u ≠ b ∧ H u = some (.lst (us.map V.str)) ∧ us.length ≤ 600 ∧ (∀ x ∈ us, NameOk x) ∧
  ∀ (x : Str) (H' : Hp), NameOk x → x ∉ us → H' u = some (.lst ((us ++ [x]).map V.str)) → Sb F b (less H u) H' → Q (.str x) H'
theorem letter_at {r : Int} (r0 : 0 ≤ r) (r1 : r < 26) : ∃ c, atI ("abcdefghijklmnopqrstuvwxyz" : Str).cps.toList r = some c ∧ c ∈ letters := by
  obtain ⟨c, h, m⟩ := atI_lt (xs := ("abcdefghijklmnopqrstuvwxyz" : Str).cps.toList) r0 (by
    have : (("abcdefghijklmnopqrstuvwxyz" : Str).cps.toList).length = 26 := by decide +kernel
    rw [this]; omega)
  exact ⟨c, h, List.mem_of_getElem? m⟩
theorem letters_len : ("abcdefghijklmnopqrstuvwxyz" : Str).length ≤ sizeLine := by decide +kernel
theorem one_L (c : Nat) : (⟨#[c]⟩ : Str).cps.toList = [c] := rfl
theorem ok_l_new_name (T : Txt K mg A) : FnOk P w K mg base CX0 3 A.f_l_new_name A.d_l_new_name ["_law_bag_here", "_law_used"] spNewName := by
  refine T.F_l_new_name.ok sc_l_new_name (fun vs H Q E h => ?_) (fun cdv Ar outer s H vs Q E hr h => ?_)
  · obtain ⟨b, u, us, F, rfl, _⟩ := h; rfl
  · obtain ⟨b, u, us, F, rfl, e, B, Fu, ub, hu, us6, usN, k⟩ := h
    refine ⟨_, (pss_cons (ps_set (i := 2) sc_l_new_name.nd rfl (Or.inr rfl) pe_str)
  (pss_cons (ps_set (i := 3) sc_l_new_name.nd rfl (Or.inr rfl) (pe_joinL pe_str (pe_lc (own := [("_law_step", 4)]) (g := gName 4) (tt := tYes) rfl sc_l_new_name.nd (pi_range1 rfl T.b_range (pa_cons (pe_op op_add pe_int (pe_call (ok_l_pick T) (hr.mono (by decide)) rfl T.g_l_pick T.F_l_pick.kp T.bi_l_pick .nil pass0 (pa_cons (pv 0) (pa_cons pe_int pa_nil)))) pa_nil)) (blkOk_by (N := ["_law_bag_here", "_law_used", "_law_letters", "_law_told_here", "_law_step", "_law_near", "_law_at", "_law_tails", "_law_k", "_law_tail"]) (sc := defScope s_l_new_name) (by decide +kernel)) (fun _ _ _ _ _ => (pg_name (i := 4) sc_l_new_name.nd rfl (Or.inl rfl))) (fun _ _ _ _ _ => pts_nil) (fun _ _ _ _ _ => (pe_ix ix_str (pv 2) (pe_call (ok_l_pick T) (hr.mono (by decide)) rfl T.g_l_pick T.F_l_pick.kp T.bi_l_pick .nil pass0 (pa_cons (pv 0) (pa_cons pe_int pa_nil))) (fun _ _ => rfl))))))
  (_root_.Evl.pss_cut (ps_if (PW.pt (pw_and (pt_tru (pv 1)) (pw_and1 (pt_cmpR op_eq (pe_call (ok_l_pick T) (hr.mono (by decide)) rfl T.g_l_pick T.F_l_pick.kp T.bi_l_pick .nil pass0 (pa_cons (pv 0) (pa_cons pe_int pa_nil))) pe_int (nomark _))))) (pss_cons (ps_set (i := 5) sc_l_new_name.nd rfl (Or.inl rfl) (pe_slice sl_str (pe_ix ix_list (pv 1) (pe_call (ok_l_pick T) (hr.mono (by decide)) rfl T.g_l_pick T.F_l_pick.kp T.bi_l_pick .nil pass0 (pa_cons (pv 0) (pa_cons (pe_callB cl_len (by rfl) T.b_len (by decide +kernel) (pa_cons (pv 1) pa_nil)) pa_nil))) (fun _ _ => rfl)) po_none (po_some pe_int)))
  (pss_cons (ps_set (i := 6) sc_l_new_name.nd rfl (Or.inl rfl) (pe_call (ok_l_pick T) (hr.mono (by decide)) rfl T.g_l_pick T.F_l_pick.kp T.bi_l_pick .nil pass0 (pa_cons (pv 0) (pa_cons (pe_callB cl_lenS (by rfl) T.b_len (by decide +kernel) (pa_cons (pv 5) pa_nil)) pa_nil))))
  (pss_one (ps_set (i := 3) sc_l_new_name.nd rfl (Or.inr rfl) (pe_op op_addT (pe_op op_addT (pe_slice sl_str (pv 5) po_none (po_some (pv 6))) (pe_ix ix_str (pv 2) (pe_call (ok_l_pick T) (hr.mono (by decide)) rfl T.g_l_pick T.F_l_pick.kp T.bi_l_pick .nil pass0 (pa_cons (pv 0) (pa_cons pe_int pa_nil))) (fun _ _ => rfl))) (pe_slice sl_str (pv 5) (po_some (pe_op op_add (pv 6) pe_int)) po_none)))))) pss_nil)
  (_root_.Evl.pss_cut (ps_if (pt_cmpR op_in_seq (pv 3) (pv 1) rfl) (pss_cons (ps_setLc (i := 7) (own := [("_law_k", 8)]) (g := gName 8) (tt := tYes) rfl sc_l_new_name.nd rfl rfl (sw_true rfl rfl rfl (by decide +kernel)) (pi_range1 rfl T.b_range (pa_cons pe_int pa_nil)) (blkOk_by (N := ["_law_bag_here", "_law_used", "_law_letters", "_law_told_here", "_law_step", "_law_near", "_law_at", "_law_tails", "_law_k", "_law_tail"]) (sc := defScope s_l_new_name) (by decide +kernel)) (fun _ _ _ _ _ => (pg_name (i := 8) sc_l_new_name.nd rfl (Or.inl rfl))) (fun _ _ _ _ _ => pts_nil) (fun _ _ _ _ _ => (pe_op op_addT (pe_ix ix_str (pv 2) (pe_op op_fdivN (pv 8) pe_int) (fun _ _ => rfl)) (pe_ix ix_str (pv 2) (pe_op op_modN (pe_callTy cl_int (by rfl) T.b_int (by decide +kernel) (pa_cons (pv 8) pa_nil)) pe_int) (fun _ _ => rfl)))))
  (pss_one (ps_set (i := 3) sc_l_new_name.nd rfl (Or.inr rfl) (pe_ix ix_list (pe_lc (own := [("_law_tail", 9)]) (g := gName 9) rfl sc_l_new_name.nd (pi_list (pv 7)) (blkOk_by (N := ["_law_bag_here", "_law_used", "_law_letters", "_law_told_here", "_law_step", "_law_near", "_law_at", "_law_tails", "_law_k", "_law_tail"]) (sc := defScope s_l_new_name) (by decide +kernel)) (fun _ _ _ _ _ => (pg_name (i := 9) sc_l_new_name.nd rfl (Or.inl rfl))) (fun _ _ _ _ _ => pts_one (pt_cmpR (show OpR _ (compareOp .NotIn) (rIn K true) from op_notIn_seq) (pe_op op_addT (pe_slice sl_str (pv 3) po_none (po_some pe_int)) (pv 9)) (pv 1) rfl)) (fun _ _ _ _ _ => (pe_op op_addT (pe_slice sl_str (pv 3) po_none (po_some pe_int)) (pv 9)))) pe_int (fun _ _ => rfl))))) pss_nil)
  (pss_cons (ps_expr (pe_bm PySem.F.plainAttrs_list PySem.F.slot_list_append PySem.F.type_list_append mt_append (pv 1) (pa_cons (pv 3) pa_nil)))
  (pss_one (ps_ret (pv 3)))))))), ?_⟩
    dsimp only [cxOf, Cx.nox, Cx.wish]
    have S0 := Sb.startL (u := u) e B
    have hu0 : less H u u = none := less_same
    walk_at "go"
    refine i_pick S0.ex S0.bg (by decide) (by decide) fun r l r0 r1 hl => ?_
    have S1 := S0.pick hl
    have hu1 := upd_oth (u' := .lst l) ub hu
    generalize upd H b (.lst l) = H1 at S1 hu1
    walk_at "go"
    refine lc_eff fun D hD => ⟨fun i acc H' => ∃ ys : List Str, acc = ys.map V.str ∧ Sb F b (less H u) H' ∧ H' u = some (.lst (us.map V.str)) ∧ ys.length = i ∧ ∀ y ∈ ys, ∃ c, c ∈ letters ∧ y = ⟨#[c]⟩, ?_, fun _ _ _ _ _ => trivial, fun i x acc H2 H3 hi h hacc y => ?_, fun acc H2 h hacc => ?_⟩
    · exact ⟨[], rfl, S1.new hD, upd_old hD hu1, rfl, by simp⟩
    · obtain ⟨ys, rfl, S, h2, h3, h4⟩ := h
      obtain ⟨rfl, rfl⟩ := y
      have Db := S1.ne hD
      have Du : D ≠ u := (ne_of_none hu1 hD).symm
      walk_at "go"
      refine i_pick S.ex S.bg (by decide) (by decide) fun r l r0 r1 hl => ?_
      have S' := S.pick hl
      obtain ⟨c, hc, lc⟩ := letter_at r0 r1
      refine i_ixS letters_len hc ?_
      have hi' : i < 7 := by omega
      refine lcK (upd_oth Db hacc) (by rw [List.length_map, sizeLine_eq]; omega) ⟨ys ++ [⟨#[c]⟩], by simp, S'.mut (S1.fr hD) (S1.free hD) Db, by walk_at "hp", by simp [h3], ?_⟩
      intro y hy
      rcases List.mem_append.mp hy with q | q
      · exact h4 y q
      · simp at q; exact ⟨c, lc, q⟩
    obtain ⟨ys, rfl, S, h2, h3, h4⟩ := h
    have j1 : ∀ (l : List Str), (∀ y ∈ l, ∃ c, c ∈ letters ∧ y = (⟨#[c]⟩ : Str)) → ((l.map fun y => y.cps.toList).flatten).length = l.length ∧ (l.map (·.length)).sum = l.length ∧ ∀ c ∈ (l.map fun y => y.cps.toList).flatten, c ∈ letters := by
      intro l
      induction l with
      | nil => simp
      | cons a r ih =>
        intro h
        obtain ⟨c, hc, rfl⟩ := h a List.mem_cons_self
        obtain ⟨i1, i2, i3⟩ := ih fun y hy => h y (List.mem_cons_of_mem _ hy)
        have : (⟨#[c]⟩ : Str).length = 1 := rfl
        refine ⟨by simp [i1, Nat.add_comm], by simp [i2, this, Nat.add_comm], ?_⟩
        intro d hd
        simp at hd
        rcases hd with rfl | ⟨y, hy, hd⟩
        · exact hc
        · exact i3 d (by simp; exact ⟨y, hy, hd⟩)
    obtain ⟨j1, j2, j3⟩ := j1 ys h4
    have e0 : (PySem.Str.ofString "").length = 0 := by decide +kernel
    refine i_joinL (SqL.of hacc) (by rw [j2, e0]; omega) ?_
    have T1 : 1 ≤ (Txt.join "" ys).length ∧ (Txt.join "" ys).length ≤ 6 ∧ ∀ c ∈ (Txt.join "" ys).cps.toList, c ∈ letters := by
      rw [len_L, join_L, j1]
      exact ⟨by omega, by omega, j3⟩
    generalize Txt.join "" ys = told at T1
    clear j1 j2 j3 h3 h4 hacc
    clear ys
    walk_at "go"
    refine ⟨fun σ' H' => ∃ (tl : Str) (o4 o5 o6 o7 o8 o9 : Option V), σ' = [some (.ref b), some (.ref u), some (.str "abcdefghijklmnopqrstuvwxyz"), some (.str tl), o4, o5, o6, o7, o8, o9] ∧ Sb F b (less H u) H' ∧ H' u = some (.lst (us.map V.str)) ∧ 1 ≤ tl.length ∧ tl.length ≤ 6 ∧ ∀ c ∈ tl.cps.toList, c ∈ letters, ?_, fun σ' H' h => ?_⟩
    · walk_at "go"
      refine iteB (fun c1 => ?_) (fun c1 => ?_)
      · walk_at "go"
        refine i_pick S.ex S.bg (by decide) (by decide) fun r l r0 r1 hl => ?_
        have S3 := S.pick hl
        have h3 := upd_oth (u' := .lst l) ub h2
        generalize upd H2 b (.lst l) = H3 at S3 h3
        walk_at "go"
        refine iteD (fun c2 => ?_) (fun c2 => ?_)
        · walk_at "go"
          have us0 : 0 < us.length := by
            cases us with
            | nil => simp at c1
            | cons a r => simp
          refine i_pick S3.ex S3.bg (by rw [List.length_map]; omega) (by rw [List.length_map]; omega) fun r l r0 r1 hl => ?_
          have S4 := S3.pick hl
          have h4 := upd_oth (u' := .lst l) ub h3
          generalize upd H3 b (.lst l) = H4 at S4 h4
          obtain ⟨z, hz, hm⟩ := atI_lt (xs := us.map V.str) r0 r1
          obtain ⟨nz, hnz, rfl⟩ := List.mem_map.mp (List.mem_of_getElem? hm)
          have NZ := usN nz hnz
          have lz : nz.length ≤ sizeLine := Nat.le_trans NZ.hi (by decide)
          walk_at "go"
          have N1 : (cutS nz none (some 6)).cps.toList = nz.cps.toList.take 6 := cut_to (by decide)
          have N2 : 1 ≤ (cutS nz none (some 6)).length ∧ (cutS nz none (some 6)).length ≤ 6 ∧ ∀ c ∈ (cutS nz none (some 6)).cps.toList, c ∈ letters := by
            have := NZ.lo
            rw [len_L] at this
            rw [len_L, N1, List.length_take]
            refine ⟨by omega, by omega, fun c hc => NZ.ls c (List.mem_of_mem_take hc)⟩
          clear N1
          generalize cutS nz none (some 6) = near at N2
          have ln : near.length ≤ sizeLine := Nat.le_trans N2.2.1 (by decide)
          walk_at "go"
          refine i_pick S4.ex S4.bg (by omega) (by omega) fun a l a0 a1 hl => ?_
          have S5 := S4.pick hl
          have h5 := upd_oth (u' := .lst l) ub h4
          generalize upd H4 b (.lst l) = H5 at S5 h5
          walk_at "go"
          refine i_pick S5.ex S5.bg (by decide) (by decide) fun r l r0 r1 hl => ?_
          have S6 := S5.pick hl
          have h6 := upd_oth (u' := .lst l) ub h5
          generalize upd H5 b (.lst l) = H6 at S6 h6
          obtain ⟨c, hc, lc⟩ := letter_at r0 r1
          refine i_ixS letters_len hc ?_
          have E1 : (cutS near none (some a)).cps.toList = near.cps.toList.take a.toNat := cut_to a0
          have E2 : (cutS near (some (a + 1)) none).cps.toList = near.cps.toList.drop (a + 1).toNat := cut_from (by omega)
          have L0 : near.length = near.cps.toList.length := len_L near
          have L1 : (cutS near none (some a)).length = a.toNat := by rw [len_L, E1, List.length_take]; omega
          have L2' : (cutS near (some (a + 1)) none).length = near.length - (a + 1).toNat := by rw [len_L, E2, List.length_drop, L0]
          have L3 : (⟨#[c]⟩ : Str).length = 1 := rfl
          have L4 : (cutS near none (some a) ++ ⟨#[c]⟩).length = a.toNat + 1 := by rw [len_L, app_L, List.length_append, ← len_L, L1]; rfl
          have sl : (6 : Nat) < sizeLine := by decide
          refine i_addT (by rw [L1, L3]; omega) ?_
          walk_at "go"
          refine i_addT (by rw [L4, L2']; omega) ?_
          walk_at "go"
          refine ⟨cutS near none (some a) ++ ⟨#[c]⟩ ++ cutS near (some (a + 1)) none, _, _, _, _, _, _, rfl, S6, h6, ?_, ?_, ?_⟩
          · rw [len_L, app_L, List.length_append, ← len_L, L4]; omega
          · rw [len_L, app_L, List.length_append, ← len_L, ← len_L, L4, L2']; omega
          · refine name_app (name_app ?_ ?_) ?_
            · intro d hd; rw [E1] at hd; exact N2.2.2 d (List.mem_of_mem_take hd)
            · intro d hd; rw [one_L] at hd; simp at hd; subst hd; exact lc
            · intro d hd; rw [E2] at hd; exact N2.2.2 d (List.mem_of_mem_drop hd)
        · walk_at "go"
          exact ⟨told, _, _, _, _, _, _, rfl, S3, h3, T1⟩
      · walk_at "go"
        exact ⟨told, _, _, _, _, _, _, rfl, S, h2, T1⟩
    · obtain ⟨tl, o4, o5, o6, o7, o8, o9, rfl, S, hu2, T2⟩ := h
      refine ⟨fun σ' H' => ∃ (x : Str) (o4 o5 o6 o7 o8 o9 : Option V), σ' = [some (.ref b), some (.ref u), some (.str "abcdefghijklmnopqrstuvwxyz"), some (.str x), o4, o5, o6, o7, o8, o9] ∧ Sb F b (less H u) H' ∧ H' u = some (.lst (us.map V.str)) ∧ NameOk x ∧ x ∉ us, ?_, fun σ' H' h => ?_⟩
      · walk_at "go"
        refine iteD (fun c1 => ?_) (fun c1 => ?_)
        · walk_at "go"
          refine lc_pure (fun k => .str (tailOf k)) (by decide) (fun k => .int (0 + (k : Int))) (fun _ _ => trivial) (fun i H0 v H' hi y => y) (fun i H' Q' hi e q => ?_) (fun p hp => ?_)
          · walk_at "go"
            refine i_ixS letters_len (lt_div i hi) ?_
            walk_at "go"
            refine i_ixS letters_len (lt_mod i hi) ?_
            refine i_addT (by show (2 : Nat) ≤ sizeLine; decide) ?_
            exact q
          have S3 := S.new (o := .lst ((List.range (676 : Int).toNat).map fun k => .str (tailOf k))) hp
          have h3 := upd_old (u' := .lst ((List.range (676 : Int).toNat).map fun k => .str (tailOf k))) hp hu2
          walk_at "go"
          have t6 : (cutS tl none (some 6)).cps.toList = tl.cps.toList.take 6 := cut_to (by decide)
          have t6l : (cutS tl none (some 6)).length ≤ 6 ∧ 1 ≤ (cutS tl none (some 6)).length ∧ ∀ c ∈ (cutS tl none (some 6)).cps.toList, c ∈ letters := by
            have := T2.1
            rw [len_L] at this
            rw [len_L, t6, List.length_take]
            exact ⟨by omega, by omega, fun c hc => T2.2.2 c (List.mem_of_mem_take hc)⟩
          have tlz : tl.length ≤ sizeLine := Nat.le_trans T2.2.1 (by decide)
          have tal : ∀ i, (tailOf i).length = 2 := fun i => by rw [tailOf, len_L, app_L]; rfl
          have sl : (8 : Nat) < sizeLine := by decide
          generalize hc6 : cutS tl none (some 6) = six at t6 t6l
          refine lc_pureIf (fun i => .str (six ++ tailOf i)) (fun i => !decide (six ++ tailOf i ∈ us)) (by simp; decide) (fun i => .str (tailOf i)) (fun H' e => ?_) (fun i H0 v H' hi y => ⟨y.1, ?_⟩) (fun i H' Q' hi e q => ?_) (fun i H' Q' hi ci e q => ?_) (fun p2 hp2 => ?_)
          · exact SqL.of (e _ _ upd_same)
          · have := y.2
            rw [List.length_map, List.length_range] at hi
            rw [List.getElem?_map, List.getElem?_range hi] at this
            exact (Option.some.inj this).symm
          · have e3 := e _ _ h3
            walk_at "go"
            rw [hc6]
            refine i_addT (by rw [tal]; omega) ?_
            walk_at "go"
            exact q
          · walk_at "go"
            rw [hc6]
            refine i_addT (by rw [tal]; omega) ?_
            exact q
          · obtain ⟨k0, hk0, hn0⟩ := cand_free six (us := us) (by omega)
            have hpos : 0 < (((List.range ((List.range (676 : Int).toNat).map fun k => V.str (tailOf k)).length).filter fun i => !decide (six ++ tailOf i ∈ us)).map fun i => V.str (six ++ tailOf i)).length := by
              rw [List.length_map]
              apply List.length_pos_of_mem (a := k0)
              rw [List.mem_filter]
              refine ⟨by simp; exact hk0, by simp [hn0]⟩
            obtain ⟨v, hv, hm⟩ := atI_lt (xs := ((List.range ((List.range (676 : Int).toNat).map fun k => V.str (tailOf k)).length).filter fun i => !decide (six ++ tailOf i ∈ us)).map fun i => V.str (six ++ tailOf i)) (i := 0) (by decide) (by omega)
            obtain ⟨k1, hk1, rfl⟩ := List.mem_map.mp (List.mem_of_getElem? hm)
            rw [List.mem_filter] at hk1
            have hk2 : k1 < 676 := by have := hk1.1; simp at this; exact this
            have hk3 : six ++ tailOf k1 ∉ us := by simpa using hk1.2
            have S4 := S3.new (o := .lst (((List.range ((List.range (676 : Int).toNat).map fun k => V.str (tailOf k)).length).filter fun i => !decide (six ++ tailOf i ∈ us)).map fun i => V.str (six ++ tailOf i))) hp2
            have h4 := upd_old (u' := .lst (((List.range ((List.range (676 : Int).toNat).map fun k => V.str (tailOf k)).length).filter fun i => !decide (six ++ tailOf i ∈ us)).map fun i => V.str (six ++ tailOf i))) hp2 h3
            walk_at "go"
            refine ⟨six ++ tailOf k1, _, _, _, _, _, _, rfl, S4, h4, ⟨?_, ?_, ?_⟩, hk3⟩
            · rw [len_L, app_L, List.length_append, ← len_L, ← len_L, tal]; omega
            · rw [len_L, app_L, List.length_append, ← len_L, ← len_L, tal]; omega
            · exact name_app t6l.2.2 (tail_ls k1 hk2).2
        · walk_at "go"
          exact ⟨tl, _, _, _, _, _, _, rfl, S, hu2, ⟨T2.1, by omega, T2.2.2⟩, c1⟩
      · obtain ⟨x, o4, o5, o6, o7, o8, o9, rfl, S, hu2, N, nin⟩ := h
        have zl : (us.map V.str).length < sizeLine := by rw [List.length_map, sizeLine_eq]; omega
        walk_at "go"
        refine k x _ N nin ?_ (S.mut Fu hu0 ub)
        rw [upd_same, List.map_append]; rfl
end
end Dh
/-! K02F -/
set_option Elab.async false
set_option linter.all false
set_option maxRecDepth 100000
set_option maxHeartbeats 4000000
namespace Dh
open PySem PySem.Spec L2
open _root_.Evl (Ex)
local macro_rules | `(tactic| walk_at "ex") => `(tactic| first | assumption | ((with_reducible apply ex_mut); (focus assumption); walk_at "ex") | ((with_reducible apply ex_both); walk_at "ex") | ((with_reducible apply ex_new); (focus assumption); walk_at "ex"))
local macro_rules | `(tactic| walk_at "hp") => `(tactic| first | assumption | with_reducible exact upd_same | ((with_reducible apply upd_old); (focus assumption); walk_at "hp") | ((with_reducible apply upd_oth); (focus walk_at "neq"); walk_at "hp") | ((with_reducible apply ex_by); (focus assumption); walk_at "ex") | ((with_reducible apply ex_at); (focus assumption); walk_at "hp"))
local macro_rules | `(tactic| walk_at "neq") => `(tactic| first | assumption | (apply Ne.symm; assumption))
local macro_rules | `(tactic| walk_at "sq") => `(tactic| first | assumption | ((with_reducible apply SqL.of); walk_at "hp") | ((with_reducible apply SqT.of); walk_at "hp"))
local macro_rules | `(tactic| walk_at "side") => `(tactic| first | assumption | decide | exact cm_fmod (by decide) (by decide) | (show _ ≠ (0 : Int); decide) | (show _ ≠ (0 : Int); omega) | exact Or.inr ⟨by decide, by decide⟩ | exact Or.inl ⟨by decide, by decide⟩ | (show CDivN _ _; exact ⟨by decide, by decide⟩) | (show CDivN _ _; exact ⟨by omega, by omega⟩) | exact Or.inl ⟨by omega, by omega⟩ | exact Or.inr ⟨by omega, by omega⟩ | exact ⟨by decide, by decide, by decide⟩)
local macro_rules | `(tactic| walk_at "ix") => `(tactic| first | exact rfl | assumption | exact atI_nat (by assumption))
local macro_rules | `(tactic| walk_at "step0") => `(tactic| first
  | with_reducible refine i_seq ?_
  | with_reducible refine i_asg ?_
  | with_reducible refine i_op ?_
  | ((with_reducible refine' i_var ?hv ?_); (case hv => exact rfl))
  | with_reducible refine i_c ?_
  | with_reducible refine i_cons ?_
  | with_reducible refine i_nil ?_
  | with_reducible refine i_cb ?_
  | with_reducible refine i_call ?_
  | with_reducible refine i_call' ?_
  | with_reducible refine i_un ?_
  | with_reducible refine i_I0 ?_
  | ((with_reducible refine i_I ?hv ?_); (case hv => walk_at "side"))
  | with_reducible refine i_eqI ?_
  | with_reducible refine i_neI ?_
  | with_reducible refine i_eqS ?_
  | with_reducible refine i_neS ?_
  | ((with_reducible refine i_eq ?hv ?_); (case hv => exact rfl))
  | ((with_reducible refine i_ne ?hv ?_); (case hv => exact rfl))
  | with_reducible refine i_int1 ?_
  | with_reducible refine i_abs ?_
  | ((with_reducible refine' i_ixL ?hv ?hw ?_); (case hv => walk_at "sq"); (case hw => walk_at "ix"))
  | ((with_reducible refine' i_ixT ?hv ?hw ?_); (case hv => walk_at "sq"); (case hw => walk_at "ix"))
  | ((with_reducible refine' i_lenL ?hv ?_); (case hv => walk_at "sq"))
  | ((with_reducible refine' i_lenT ?hv ?_); (case hv => walk_at "sq"))
  | with_reducible refine i_addIB ?_
  | with_reducible refine i_mulIB ?_
  | ((with_reducible refine i_lenS ?hv ?_); (case hv => walk_at "side"))
  | with_reducible refine i_tup ?_
  | with_reducible refine i_lst ?_
  | with_reducible refine i_asgG ?_
  | with_reducible refine i_gname ?_
  | with_reducible refine i_gsub ?_
  | ((with_reducible refine' i_setL ?hv ?hw ?_); (case hv => walk_at "hp"); (case hw => exact rfl))
  | with_reducible refine i_ret ?_
  | with_reducible refine i_drop ?_
  | with_reducible refine i_next ?_
  | with_reducible refine i_test ?_
  | with_reducible refine i_B ?_
  | with_reducible refine i_bl ?_
  | with_reducible refine i_not ?_
  | with_reducible refine i_and ?_
  | with_reducible refine i_or ?_
  | ((with_reducible refine' i_app ?hv ?hw ?_); (case hv => walk_at "hp"); (case hw => walk_at "side"))
  | with_reducible refine iteT ?_
  | with_reducible refine iteF ?_
  | with_reducible refine iteNT ?_
  | with_reducible refine iteNF ?_
  | ((with_reducible refine iteT' ?hv ?_); (case hv => first | exact decide_eq_true (by assumption) | exact notF (by assumption) | exact decide_eq_true rfl | exact notF (by decide) | exact decide_eq_true (by decide) | exact decide_eq_true (by simp only [List.length_cons, List.length_nil]; decide)))
  | ((with_reducible refine iteF' ?hv ?_); (case hv => first | exact decide_eq_false (by assumption) | exact notT (by assumption) | exact notT rfl | exact decide_eq_false (by decide) | exact decide_eq_false (by simp only [List.length_cons, List.length_nil]; decide)))
  | with_reducible refine i_forL ?_
  | with_reducible refine i_forT ?_
  | with_reducible refine i_forR ?_
  | with_reducible refine i_forR2 ?_
  | with_reducible refine i_forE ?_
  | with_reducible refine i_forV ?_
  | with_reducible refine i_forS ?_
  | with_reducible refine i_forK ?_
  | with_reducible refine i_lcL ?_
  | with_reducible refine i_lcT ?_
  | with_reducible refine i_lcR ?_
  | with_reducible refine i_lcR2 ?_
  | with_reducible refine i_lcS ?_
  | with_reducible refine i_lcK ?_
  | ((with_reducible refine' fl_L ?hv ?_); (case hv => walk_at "sq"))
  | ((with_reducible refine' fl_T ?hv ?_); (case hv => walk_at "sq"))
  | ((with_reducible refine fl_R ?hv ?hw ?_); (case hv => (first | decide | omega)); (case hw => (first | decide | omega)))
  | ((with_reducible refine fl_R2 ?hv ?_); (case hv => (first | decide | (refine ⟨?_, ?_, ?_, ?_⟩ <;> omega))))
  | ((with_reducible refine' fl_E ?hv ?_); (case hv => walk_at "sq"))
  | ((with_reducible refine' fl_V ?hv ?_); (case hv => walk_at "sq"))
  | with_reducible refine fl_S ?_
  | ((with_reducible refine' fc_L ?hv ?_); (case hv => walk_at "sq"))
  | ((with_reducible refine' fc_T ?hv ?_); (case hv => walk_at "sq"))
  | ((with_reducible refine fc_R ?hv ?hw ?_); (case hv => (first | decide | omega)); (case hw => (first | decide | omega)))
  | with_reducible refine fc_S ?_
  | with_reducible refine i_sl ?_
  | with_reducible refine i_nopart ?_
  | with_reducible refine i_part ?_
  | with_reducible refine i_isint ?_
  | ((with_reducible refine' i_slL ?hv ?_); (case hv => walk_at "sq"))
  | ((with_reducible refine i_slS ?hv ?_); (case hv => walk_at "side"))
  | ((with_reducible refine' i_gtup ?hv ?hw ?_); (case hv => walk_at "sq"); (case hw => exact rfl))
  | with_reducible refine i_gcons ?_
  | with_reducible refine i_gnil ?_
  | ((with_reducible refine' i_listL ?hv ?_); (case hv => walk_at "sq"))
  | ((with_reducible refine' i_listT ?hv ?_); (case hv => walk_at "sq"))
  | ((with_reducible refine' i_tupL ?hv ?_); (case hv => walk_at "sq"))
  | ((with_reducible refine' i_lenD ?hv ?_); (case hv => walk_at "hp"))
  | ((with_reducible refine' i_ty ?hv ?_); (case hv => walk_at "hp"))
  | ((with_reducible refine And.intro ?hv ?_); (case hv => first | exact (by decide : (0 : Nat) ≤ sizeLine) | exact (by decide : (1 : Nat) ≤ sizeLine) | exact (by decide : (2 : Nat) ≤ sizeLine) | exact (by decide : (3 : Nat) ≤ sizeLine) | exact (by decide : (4 : Nat) ≤ sizeLine) | exact (by decide : (5 : Nat) ≤ sizeLine) | exact (by decide : (6 : Nat) ≤ sizeLine)))
  | with_reducible refine i_inC ?_
  | ((with_reducible refine i_addT ?hv ?_); (case hv => walk_at "side"))
  | with_reducible refine i_m1 ?_
  | with_reducible refine i_isstr ?_
  | with_reducible refine is_int_int ?_
  | with_reducible refine is_int_bool ?_
  | with_reducible refine is_str_str ?_
  | ((with_reducible refine' is_tup_tup ?hv ?_); (case hv => walk_at "hp"))
  | with_reducible refine i_ifExp ?_
  | with_reducible refine i_andV ?_
  | with_reducible refine i_orV ?_
  | with_reducible refine i_notV ?_
  | with_reducible refine i_chain ?_
  | ((with_reducible refine' i_inS ?hv ?_); (case hv => walk_at "sq"))
  | ((with_reducible refine' i_niS ?hv ?_); (case hv => walk_at "sq"))
  | ((with_reducible refine' i_inI ?hv ?_); (case hv => walk_at "sq"))
  | ((with_reducible refine' i_niI ?hv ?_); (case hv => walk_at "sq"))
  | with_reducible refine i_dnew ?_
  | with_reducible refine i_dput ?_
  | ((with_reducible refine' i_dputI ?hv ?hw ?_); (case hv => walk_at "hp"); (case hw => walk_at "side"))
  | with_reducible refine i_dget ?_
  | ((with_reducible refine' i_dgetI ?hv ?hw ?_); (case hv => walk_at "hp"); (case hw => assumption))
  | with_reducible refine i_dnotin ?_
  | with_reducible refine i_din ?_
  | ((with_reducible refine' i_dnotinI ?hv ?_); (case hv => walk_at "hp"))
  | with_reducible refine i_dsetd ?_
  | ((with_reducible refine' i_isd ?hv ?_); (case hv => walk_at "hp"))
  | with_reducible refine i_fld ?_
  | with_reducible refine i_sfld ?_
  | with_reducible refine i_dcT ?_
  | with_reducible refine i_dcL ?_
  | with_reducible refine i_truT ?_
  | ((with_reducible refine' i_truL ?hv ?_); (case hv => walk_at "sq"))
  | with_reducible refine i_revL ?_
  | ((with_reducible refine' i_atLx ?hv ?_); (case hv => walk_at "sq"))
  | with_reducible refine i_bm ?_
  | with_reducible refine i_bm0 ?_)
local macro_rules | `(tactic| walk_at "step") => `(tactic| first | walk_at "step0" | with_reducible refine i_ifS ?_)
local macro_rules | `(tactic| walk_at "goj") => `(tactic| repeat (first | walk_at "step0" | with_reducible refine i_ifS (c := tTest _) ?_ | with_reducible refine i_ifS (c := tB _) ?_))
local macro_rules | `(tactic| walk_at "tj") => `(tactic| (intro q hq; repeat (first | exact hq | walk_at "step" | (refine and_q hq (fun h => ?_); clear hq; rename_i hq) | (refine or_q hq (fun h => ?_); clear hq; rename_i hq))))
local macro_rules | `(tactic| walk_at "go") => `(tactic| repeat walk_at "step")

def kvOf (es : List En) (vs : List V) : List (Key × V) := (es.zip vs).map fun p => ((Sum.inl p.1.num : Key), p.2)
theorem kvOf_snoc {es : List En} {vs : List V} {e : En} {v : V} (h : es.length = vs.length) : kvOf (es ++ [e]) (vs ++ [v]) = kvOf es vs ++ [(Sum.inl e.num, v)] := by
  unfold kvOf
  rw [List.zip_append h, List.map_append]; rfl
theorem kvOf_len {es : List En} {vs : List V} (h : es.length = vs.length) : (kvOf es vs).length = es.length := by
  unfold kvOf; simp [h]
theorem kvOf_none {n : Int} : ∀ {es : List En} {vs : List V}, n ∉ es.map En.num → valV (kvOf es vs) (Sum.inl n : Key) = none
  | [], _, _ => rfl
  | _ :: _, [], _ => rfl
  | e :: es, v :: vs, h => by
    simp at h
    show valV ((Sum.inl e.num, v) :: kvOf es vs) (Sum.inl n) = none
    rw [valV_neg (by intro q; exact h.1 (Sum.inl.inj q).symm)]
    exact kvOf_none (by simp; exact h.2)
theorem kvOf_get {F : Hp} : ∀ {es : List En} {vs : List V}, EsAt F vs es → (es.map En.num).Nodup → ∀ e ∈ es, ∃ v ∈ vs, valV (kvOf es vs) (Sum.inl e.num : Key) = some v ∧ EnAt F v e
  | _, _, .nil, _, _, h => by simp at h
  | e0 :: es, v0 :: vs, .cons r t, nd, e, h => by
    rw [List.map_cons] at nd
    have nd' := List.nodup_cons.mp nd
    rcases List.mem_cons.mp h with rfl | h
    · exact ⟨v0, List.mem_cons_self, valV_pos rfl, r⟩
    · obtain ⟨v, hv, q, a⟩ := kvOf_get t nd'.2 e h
      refine ⟨v, List.mem_cons_of_mem _ hv, ?_, a⟩
      show valV ((Sum.inl e0.num, v0) :: kvOf es vs) (Sum.inl e.num) = some v
      rw [valV_neg ?_]
      · exact q
      · intro z
        exact nd'.1 ((Sum.inl.inj z) ▸ List.mem_map_of_mem h)
theorem paired_take {α β : Type} {R : α → β → Prop} : ∀ {xs : List α} {ys : List β} (n : Nat), Paired R xs ys → Paired R (xs.take n) (ys.take n)
  | _, _, 0, _ => .nil
  | _, _, _ + 1, .nil => .nil
  | _, _, n + 1, .cons r t => .cons r (paired_take n t)
/-- an entry as data -/
def En.dat : En → PyData
  | .sg n d x => .tuple [.int n, .str "sign", .int d, .str x]
  | .rl n d x => .tuple [.int n, .str "rule", .int d, .str x]
  | .vd n o => .tuple [.int n, .str "void", .int o]
theorem en_dp {K : PySem.W.Frag} {H : Hp} {a : Addr} {e : En} (h : SqT K H a e.vs) : Dp K H (.ref a) e.dat := by
  cases e with
  | sg n d x => exact .tup h (.cons (.int _) (.cons (.str _) (.cons (.int _) (.cons (.str _) .nil))))
  | rl n d x => exact .tup h (.cons (.int _) (.cons (.str _) (.cons (.int _) (.cons (.str _) .nil))))
  | vd n o => exact .tup h (.cons (.int _) (.cons (.str _) (.cons (.int _) .nil)))
theorem name_ok {x : Str} (h : NameOk x) : PyData.strOk x = true := by
  have l : ∀ c ∈ letters, c < 0x110000 := by decide +kernel
  unfold PyData.strOk
  rw [Array.all_eq_true]
  intro i hi
  exact decide_eq_true (l _ (h.ls _ (by simp)))
theorem en_shape {e : En} (o : e.Ok) : SeqAt.shaped e.dat = true := by
  have s1 : PyData.strOk "sign" = true := by decide +kernel
  have s2 : PyData.strOk "rule" = true := by decide +kernel
  have s3 : PyData.strOk "void" = true := by decide +kernel
  cases e with
  | sg n d x => simp [SeqAt.shaped, En.dat, PyData.canLay0, PyData.canLayAll0, s1, name_ok o.2.2.2.2, PyData.depth, PyData.depthAll]
  | rl n d x => simp [SeqAt.shaped, En.dat, PyData.canLay0, PyData.canLayAll0, s2, name_ok o.2.2.2.2, PyData.depth, PyData.depthAll]
  | vd n o => simp [SeqAt.shaped, En.dat, PyData.canLay0, PyData.canLayAll0, s3, PyData.depth, PyData.depthAll]
theorem en_eqv (e : En) : PyData.eqv e.dat e.dat = true := by cases e <;> simp [En.dat, PyData.eqv, PyData.eqvAll]
section
variable {P : Program} {w : World} {K : PySem.W.Frag} {mg : Str → Option Value} {base : Heap} {A : Ad}
theorem ne_self {e : En} {H : Hp} {Q : VK} {a : Addr} (o : e.Ok) (h : SqT K H a e.vs) (k : Q (.bl false) H) : rNeD K (.ref a) (.ref a) H Q :=
  ⟨_, _, en_dp h, en_dp h, en_shape o, en_shape o, by rw [en_eqv e]; exact k⟩
theorem asc_of {ns : List Int} (h : ns.Pairwise (· ≤ ·)) (nd : ns.Nodup) : Asc ns := by
  induction ns with
  | nil => exact .nil
  | cons a r ih =>
    have h' := List.pairwise_cons.mp h
    have n' := List.nodup_cons.mp nd
    refine List.pairwise_cons.mpr ⟨fun b hb => ?_, ih h'.2 n'.2⟩
    have := h'.1 b hb
    have : a ≠ b := fun e => n'.1 (e ▸ hb)
    omega
theorem en_at0 (e : En) : atI e.vs 0 = some (.int e.num) := by cases e <;> rfl
def spJoined (K : PySem.W.Frag) : Sp := fun vs H Q _ => ∃ (t : Addr) (ts : List V) (es : List En) (F : Hp), vs = [.ref t] ∧ (SqL K H t ts ∨ SqT K H t ts) ∧ Ex F H ∧ EsAt F ts es ∧ (∀ e ∈ es, e.Ok) ∧ (es.map En.num).Nodup ∧ es.length < 64 ∧
  ∀ (r : Addr) (ts' : List V) (es' : List En) (H' : Hp), Ex H H' → H r = none → H' r = some (.tup ts') → EsAt F ts' es' → es'.Perm es → Asc (es'.map En.num) → Q (.ref r) H'
theorem ok_joined (T : Txt K mg A) : FnOk P w K mg base CX0 4 A.f_joined A.d_joined ["entries"] (spJoined K) := by
  refine T.F_joined.ok sc_joined (fun vs H Q E h => ?_) (fun cdv Ar outer s H vs Q E hr h => ?_)
  · obtain ⟨t, ts, es, F, rfl, _⟩ := h; rfl
  · obtain ⟨t, ts, es, F, rfl, hs, x, EA, O, nd, l64, k⟩ := h
    have el := EA.length
    rcases hs with hs | hs
    refine ⟨_, (pss_cons (ps_for PassesOwn.never rfl (pi_list (pv 0)) (pg_name (i := 1) sc_joined.nd rfl (Or.inl rfl))
   (pss_one (ps_if (pt_not (pt_val (pe_call (ok_is_entry T) (hr.mono (by decide)) rfl T.g_is_entry T.F_is_entry.kp T.bi_is_entry .nil pass0 (pa_cons (pv 1) pa_nil)))) (pss_one ps_never) pss_nil)))
  (pss_cons (ps_set (i := 2) sc_joined.nd rfl (Or.inr rfl) pe_dnewK)
  (pss_cons (ps_set (i := 3) sc_joined.nd rfl (Or.inl rfl) (pe_lst pa_nil))
  (pss_cons (ps_for PassesOwn.never rfl (pi_list (pv 0)) (pg_name (i := 1) sc_joined.nd rfl (Or.inl rfl))
   (pss_one (ps_if (pt_cmpR (op_neD hr.units) (pe_dsetd (pv 2) (pe_ix ix_tup (pv 1) pe_int (fun _ _ => rfl)) (pv 1) ⟨by rfl, by rfl, by rfl, by rfl⟩) (pv 1) (nomark _)) (pss_one (ps_expr (pe_bm PySem.F.plainAttrs_list PySem.F.slot_list_append PySem.F.type_list_append mt_append (pv 3) (pa_cons (pe_ix ix_tup (pv 1) pe_int (fun _ _ => rfl)) pa_nil)))) pss_nil)))
  (pss_cons (ps_if (pt_cmpR op_gt (pe_callB cl_len (by rfl) T.b_len (by decide +kernel) (pa_cons (pv 3) pa_nil)) pe_int (nomark _)) (pss_one ps_never) pss_nil)
  (pss_one (ps_ret (pe_callTy cl_tuple (by rfl) T.b_tuple (by decide +kernel) (pa_cons (pe_lc (own := [("number", 4)]) (g := gName 4) (tt := tYes) rfl sc_joined.nd (pi_list (pe_callB cr_sorted (by rfl) T.b_sorted (by decide +kernel) (pa_cons (pe_lock (pe_lc (own := [("number", 4)]) (g := gName 4) (tt := tYes) rfl sc_joined.nd (pi_keys (pv 2)) (blkOk_by (N := ["entries", "entry", "table", "clashing", "number"]) (sc := defScope s_joined) (by decide +kernel)) (fun _ _ _ _ _ => (pg_name (i := 4) sc_joined.nd rfl (Or.inl rfl))) (fun _ _ _ _ _ => pts_nil) (fun _ _ _ _ _ => (pe_callTy cl_int (by rfl) T.b_int (by decide +kernel) (pa_cons (pv 4) pa_nil))))) pa_nil))) (blkOk_by (N := ["entries", "entry", "table", "clashing", "number"]) (sc := defScope s_joined) (by decide +kernel)) (fun _ _ _ _ _ => (pg_name (i := 4) sc_joined.nd rfl (Or.inl rfl))) (fun _ _ _ _ _ => pts_nil) (fun _ _ _ _ _ => (pe_dget (hu_of hr) (pv 2) (pv 4) (fun _ _ => rfl)))) pa_nil))))))))), ?_⟩
    rotate_left
    refine ⟨_, (pss_cons (ps_for PassesOwn.never rfl (pi_tup (pv 0)) (pg_name (i := 1) sc_joined.nd rfl (Or.inl rfl))
   (pss_one (ps_if (pt_not (pt_val (pe_call (ok_is_entry T) (hr.mono (by decide)) rfl T.g_is_entry T.F_is_entry.kp T.bi_is_entry .nil pass0 (pa_cons (pv 1) pa_nil)))) (pss_one ps_never) pss_nil)))
  (pss_cons (ps_set (i := 2) sc_joined.nd rfl (Or.inr rfl) pe_dnewK)
  (pss_cons (ps_set (i := 3) sc_joined.nd rfl (Or.inl rfl) (pe_lst pa_nil))
  (pss_cons (ps_for PassesOwn.never rfl (pi_tup (pv 0)) (pg_name (i := 1) sc_joined.nd rfl (Or.inl rfl))
   (pss_one (ps_if (pt_cmpR (op_neD hr.units) (pe_dsetd (pv 2) (pe_ix ix_tup (pv 1) pe_int (fun _ _ => rfl)) (pv 1) ⟨by rfl, by rfl, by rfl, by rfl⟩) (pv 1) (nomark _)) (pss_one (ps_expr (pe_bm PySem.F.plainAttrs_list PySem.F.slot_list_append PySem.F.type_list_append mt_append (pv 3) (pa_cons (pe_ix ix_tup (pv 1) pe_int (fun _ _ => rfl)) pa_nil)))) pss_nil)))
  (pss_cons (ps_if (pt_cmpR op_gt (pe_callB cl_len (by rfl) T.b_len (by decide +kernel) (pa_cons (pv 3) pa_nil)) pe_int (nomark _)) (pss_one ps_never) pss_nil)
  (pss_one (ps_ret (pe_callTy cl_tuple (by rfl) T.b_tuple (by decide +kernel) (pa_cons (pe_lc (own := [("number", 4)]) (g := gName 4) (tt := tYes) rfl sc_joined.nd (pi_list (pe_callB cr_sorted (by rfl) T.b_sorted (by decide +kernel) (pa_cons (pe_lock (pe_lc (own := [("number", 4)]) (g := gName 4) (tt := tYes) rfl sc_joined.nd (pi_keys (pv 2)) (blkOk_by (N := ["entries", "entry", "table", "clashing", "number"]) (sc := defScope s_joined) (by decide +kernel)) (fun _ _ _ _ _ => (pg_name (i := 4) sc_joined.nd rfl (Or.inl rfl))) (fun _ _ _ _ _ => pts_nil) (fun _ _ _ _ _ => (pe_callTy cl_int (by rfl) T.b_int (by decide +kernel) (pa_cons (pv 4) pa_nil))))) pa_nil))) (blkOk_by (N := ["entries", "entry", "table", "clashing", "number"]) (sc := defScope s_joined) (by decide +kernel)) (fun _ _ _ _ _ => (pg_name (i := 4) sc_joined.nd rfl (Or.inl rfl))) (fun _ _ _ _ _ => pts_nil) (fun _ _ _ _ _ => (pe_dget (hu_of hr) (pv 2) (pv 4) (fun _ _ => rfl)))) pa_nil))))))))), ?_⟩
    all_goals
      dsimp only [cxOf, Cx.nox, Cx.wish]
      walk_at "go"
      refine ⟨fun i σ H' => ∃ o : Option V, σ = [some (.ref t), o, none, none, none] ∧ Ex H H', ⟨none, rfl, Ex.refl H⟩, fun i σ H' hi ⟨o, h1, e1⟩ => (by first | exact _root_.Evl.ex_l e1 hs | exact _root_.Evl.ex_t e1 hs), fun i v σ H1 H2 hi ⟨o, h1, e1⟩ y => ?_, fun σ H1 ⟨o, h1, e1⟩ => ?_⟩
      · subst h1
        obtain ⟨rfl, hv⟩ := y
        obtain ⟨en, hen, ea⟩ := paired_get EA hv
        walk_at "go"
        refine ⟨v, en, F, rfl, x.trans e1, ea, O en (List.mem_of_getElem? hen), fun H3 e3 => ?_⟩
        walk_at "go"
        exact ⟨_, rfl, e1.trans e3⟩
      subst h1
      walk_at "go"
      intro d hd
      have e2 := e1.trans (Ex.new (o := .dK []) hd)
      walk_at "go"
      intro c hc
      have e3 := e2.trans (Ex.new (o := .lst []) hc)
      have hs3 := hs
      have dc : d ≠ c := ne_of_none upd_same hc
      have hd0 : H d = none := ex_none e1 hd
      have hc0 : H c = none := ex_none e2 hc
      have hdd : (upd (upd H1 d (.dK [])) c (.lst [])) d = some (.dK []) := upd_oth dc upd_same
      have hcc : (upd (upd H1 d (.dK [])) c (.lst [])) c = some (.lst []) := upd_same
      generalize upd (upd H1 d (.dK [])) c (.lst []) = H2 at e3 hdd hcc
      first | replace hs3 := _root_.Evl.ex_l e3 hs3 | replace hs3 := _root_.Evl.ex_t e3 hs3
      walk_at "go"
      refine ⟨fun i σ H' => ∃ o : Option V, σ = [some (.ref t), o, some (.ref d), some (.ref c), none] ∧ Ex H H' ∧ H' d = some (.dK (kvOf (es.take i) (ts.take i))) ∧ H' c = some (.lst []), ⟨o, rfl, e3, hdd, hcc⟩, fun i σ H' hi ⟨o, h1, e1, _, _⟩ => (by first | exact _root_.Evl.ex_l e1 hs | exact _root_.Evl.ex_t e1 hs), fun i v σ H1 H2 hi ⟨o, h1, e1, h2, h3⟩ y => ?_, fun σ H1 ⟨o, h1, e1, h2, h3⟩ => ?_⟩
      · subst h1
        obtain ⟨rfl, hv⟩ := y
        obtain ⟨en, hen, ea⟩ := paired_get EA hv
        obtain ⟨a, rfl, ha⟩ := id ea
        have h0 := en_at0 en
        have hT : SqT K H2 a en.vs := SqT.of (e1 _ _ (x _ _ ha))
        have le : (es.take i).length = (ts.take i).length := by rw [List.length_take, List.length_take]; omega
        walk_at "go"
        refine ⟨_, Sum.inl en.num, h2, rfl, by rw [kvOf_len le, List.length_take, sizeLine_eq]; omega, fun v' hv' => ?_, fun _ => ?_⟩
        · exfalso
          rw [kvOf_none] at hv'
          · cases hv'
          · intro hm
            rw [List.map_take] at hm
            obtain ⟨j, hj, ej⟩ := List.getElem_of_mem hm
            rw [List.length_take, List.length_map] at hj
            rw [List.getElem_take] at ej
            have hi' : i < (es.map En.num).length := by rw [List.length_map]; omega
            have e5 : (es.map En.num)[i] = en.num := by
              obtain ⟨hlt, e6⟩ := List.getElem?_eq_some_iff.mp hen
              rw [List.getElem_map, e6]
            have := (List.getElem_inj nd).mp (ej.trans e5.symm)
            omega
        · have hT' : SqT K (upd H2 d (.dK (putK (kvOf (es.take i) (ts.take i)) (Sum.inl en.num) (.ref a)))) a en.vs := SqT.of (upd_oth (ne_of (e1 _ _ (x _ _ ha)) h2 (by intro z; cases z)) (e1 _ _ (x _ _ ha)))
          walk_at "go"
          refine ne_self (O en (List.mem_of_getElem? hen)) hT' ?_
          walk_at "go"
          refine ⟨_, rfl, ex_mut hd0 e1, ?_, upd_oth dc.symm h3⟩
          rw [upd_same, putK_new _ (kvOf_none ?_), ← kvOf_snoc le, List.take_succ, List.take_succ, hen, hv]
          · rfl
          · intro hm
            rw [List.map_take] at hm
            obtain ⟨j, hj, ej⟩ := List.getElem_of_mem hm
            rw [List.length_take, List.length_map] at hj
            rw [List.getElem_take] at ej
            have hi' : i < (es.map En.num).length := by rw [List.length_map]; omega
            have e5 : (es.map En.num)[i] = en.num := by
              obtain ⟨hlt, e6⟩ := List.getElem?_eq_some_iff.mp hen
              rw [List.getElem_map, e6]
            have := (List.getElem_inj nd).mp (ej.trans e5.symm)
            omega
      subst h1
      rw [List.take_of_length_le (by omega), List.take_of_length_le (by omega)] at h2
      walk_at "go"
      refine i_lock h2 trivial fun od => ?_
      walk_at "go"
      have kn : (kvOf es ts).length = (es.map En.num).length := by rw [kvOf_len el.symm, List.length_map]
      have nl : (es.map En.num).length < 64 := by rw [List.length_map]; exact l64
      have kat : ∀ i, i < (kvOf es ts).length → ∃ v, (kvOf es ts)[i]? = some (Sum.inl ((es.map En.num).getD i 0), v) := fun i hi => by
        unfold kvOf at hi ⊢
        rw [List.length_map, List.length_zip] at hi
        have h1 : i < es.length := by omega
        have h2 : i < ts.length := by omega
        refine ⟨ts[i], ?_⟩
        have hz : (es.zip ts)[i]? = some (es[i], ts[i]) := List.getElem?_zip_eq_some.mpr ⟨List.getElem?_eq_getElem h1, List.getElem?_eq_getElem h2⟩
        rw [List.getElem?_map, hz]
        simp [h1]
      refine fc_K (kvs := kvOf es ts) upd_same ?_
      refine lc_pure (fun i => .int ((es.map En.num).getD i 0)) (by rw [kn, sizeLine_eq]; omega) (fun i => .int ((es.map En.num).getD i 0)) (fun H' e => e _ _ upd_same) (fun i H0 v H' hi y => ?_) (fun i H' Q' hi e q => ?_) (fun p hp => ?_)
      · obtain ⟨rfl, k0, v0, h5, rfl⟩ := y
        obtain ⟨v, h6⟩ := kat i hi
        rw [h6] at h5
        injection h5 with h5
        injection h5 with h5
        subst h5
        exact ⟨rfl, rfl⟩
      · walk_at "go"; exact q
      have pd : p ≠ d := (ne_of_none upd_same hp).symm
      have hp0 : H1 p = none := by rw [upd_ne pd] at hp; exact hp
      refine ⟨upd_oth pd.symm upd_same, ?_⟩
      rw [upd_lock h2 pd, kn, ← List.length_map (f := V.int), map_range_getD]
      walk_at "go"
      refine ⟨p, es.map En.num, rfl, SqL.of upd_same, nl, fun ns' p2 perm pw hp2 => ?_⟩
      have nd' : ns'.Nodup := perm.symm.nodup nd
      have asc := asc_of pw nd'
      obtain ⟨es', pe, rfl⟩ := perm_lift perm rfl
      have hd2 := upd_old (u' := .lst ((es'.map En.num).map V.int)) hp2 (upd_old (u' := .lst ((es.map En.num).map V.int)) hp0 h2)
      walk_at "go"
      have vof : ∀ e ∈ es', ∃ v, valV (kvOf es ts) (Sum.inl e.num : Key) = some v ∧ EnAt F v e := fun e he => by
        obtain ⟨v, _, h7, h8⟩ := kvOf_get EA nd e (pe.subset he)
        exact ⟨v, h7, h8⟩
      have sz : ((es'.map En.num).map V.int).length < sizeLine := by
        have := pe.length_eq
        rw [List.length_map, List.length_map, sizeLine_eq]; omega
      refine lc_pure (fun i => (valV (kvOf es ts) (Sum.inl ((es'.map En.num).getD i 0))).getD .non) sz (fun i => .int ((es'.map En.num).getD i 0)) (fun H' e => SqL.of (e _ _ upd_same)) (fun i H0 v H' hi y => ⟨y.1, ?_⟩) (fun i H' Q' hi e q => ?_) (fun p3 hp3 => ?_)
      · have := y.2
        rw [List.length_map] at hi
        rw [List.getElem?_map, List.getElem?_eq_getElem hi] at this
        have := (Option.some.inj this).symm
        rw [this, List.getD_eq_getElem?_getD, List.getElem?_eq_getElem hi]; rfl
      · have hd3 := e _ _ hd2
        rw [List.length_map, List.length_map] at hi
        obtain ⟨v, h7, _⟩ := vof es'[i] (List.getElem_mem hi)
        have h9 : (es'.map En.num).getD i 0 = es'[i].num := by simp [hi]
        have h8 : valV (kvOf es ts) (Sum.inl ((es'.map En.num).getD i 0) : Key) = some v := by rw [h9]; exact h7
        rw [h8] at q
        walk_at "go"
        exact q
      walk_at "go"
      intro r hr
      have e9 : Ex H (upd (upd H1 p (.lst ((es.map En.num).map V.int))) p2 (.lst ((es'.map En.num).map V.int))) := (e1.trans (Ex.new hp0)).trans (Ex.new hp2)
      have rnone : H r = none := ex_none (e9.trans (Ex.new hp3)) hr
      refine k r _ es' _ (e9.trans ((Ex.new hp3).trans (Ex.new hr))) rnone upd_same ?_ pe asc
      have : ∀ n, n = es'.length → (List.range n).map (fun i => (valV (kvOf es ts) (Sum.inl ((es'.map En.num).getD i 0) : Key)).getD .non) = es'.map fun e => (valV (kvOf es ts) (Sum.inl e.num : Key)).getD .non := fun n hn => by
        subst hn
        apply List.ext_getElem
        · simp
        · intro j h1 h2
          simp at h1
          simp [h1]
      rw [this _ (by simp)]
      refine paired_map fun e he => ?_
      obtain ⟨v, h7, h8⟩ := vof e he
      rw [h7]
      exact h8
end
end Dh
/-! K02G -/
set_option Elab.async false
set_option linter.all false
set_option maxRecDepth 100000
set_option maxHeartbeats 4000000
namespace Dh
open PySem PySem.Spec L2
open _root_.Evl (Ex)
local macro_rules | `(tactic| walk_at "ex") => `(tactic| first | assumption | ((with_reducible apply ex_mut); (focus assumption); walk_at "ex") | ((with_reducible apply ex_both); walk_at "ex") | ((with_reducible apply ex_new); (focus assumption); walk_at "ex"))
local macro_rules | `(tactic| walk_at "hp") => `(tactic| first | assumption | with_reducible exact upd_same | ((with_reducible apply upd_old); (focus assumption); walk_at "hp") | ((with_reducible apply upd_oth); (focus walk_at "neq"); walk_at "hp") | ((with_reducible apply ex_by); (focus assumption); walk_at "ex") | ((with_reducible apply ex_at); (focus assumption); walk_at "hp"))
local macro_rules | `(tactic| walk_at "neq") => `(tactic| first | assumption | (apply Ne.symm; assumption))
local macro_rules | `(tactic| walk_at "sq") => `(tactic| first | assumption | ((with_reducible apply SqL.of); walk_at "hp") | ((with_reducible apply SqT.of); walk_at "hp"))
local macro_rules | `(tactic| walk_at "side") => `(tactic| first | assumption | decide | exact cm_fmod (by decide) (by decide) | (show _ ≠ (0 : Int); decide) | (show _ ≠ (0 : Int); omega) | exact Or.inr ⟨by decide, by decide⟩ | exact Or.inl ⟨by decide, by decide⟩ | (show CDivN _ _; exact ⟨by decide, by decide⟩) | (show CDivN _ _; exact ⟨by omega, by omega⟩) | exact Or.inl ⟨by omega, by omega⟩ | exact Or.inr ⟨by omega, by omega⟩ | exact ⟨by decide, by decide, by decide⟩)
local macro_rules | `(tactic| walk_at "ix") => `(tactic| first | exact rfl | assumption | exact atI_nat (by assumption))
local macro_rules | `(tactic| walk_at "step0") => `(tactic| first
  | with_reducible refine i_seq ?_
  | with_reducible refine i_asg ?_
  | with_reducible refine i_op ?_
  | ((with_reducible refine' i_var ?hv ?_); (case hv => exact rfl))
  | with_reducible refine i_c ?_
  | with_reducible refine i_cons ?_
  | with_reducible refine i_nil ?_
  | with_reducible refine i_cb ?_
  | with_reducible refine i_call ?_
  | with_reducible refine i_call' ?_
  | with_reducible refine i_un ?_
  | with_reducible refine i_I0 ?_
  | ((with_reducible refine i_I ?hv ?_); (case hv => walk_at "side"))
  | with_reducible refine i_eqI ?_
  | with_reducible refine i_neI ?_
  | with_reducible refine i_eqS ?_
  | with_reducible refine i_neS ?_
  | ((with_reducible refine i_eq ?hv ?_); (case hv => exact rfl))
  | ((with_reducible refine i_ne ?hv ?_); (case hv => exact rfl))
  | with_reducible refine i_int1 ?_
  | with_reducible refine i_abs ?_
  | ((with_reducible refine' i_ixL ?hv ?hw ?_); (case hv => walk_at "sq"); (case hw => walk_at "ix"))
  | ((with_reducible refine' i_ixT ?hv ?hw ?_); (case hv => walk_at "sq"); (case hw => walk_at "ix"))
  | ((with_reducible refine' i_lenL ?hv ?_); (case hv => walk_at "sq"))
  | ((with_reducible refine' i_lenT ?hv ?_); (case hv => walk_at "sq"))
  | with_reducible refine i_addIB ?_
  | with_reducible refine i_mulIB ?_
  | ((with_reducible refine i_lenS ?hv ?_); (case hv => walk_at "side"))
  | with_reducible refine i_tup ?_
  | with_reducible refine i_lst ?_
  | with_reducible refine i_asgG ?_
  | with_reducible refine i_gname ?_
  | with_reducible refine i_gsub ?_
  | ((with_reducible refine' i_setL ?hv ?hw ?_); (case hv => walk_at "hp"); (case hw => exact rfl))
  | with_reducible refine i_ret ?_
  | with_reducible refine i_drop ?_
  | with_reducible refine i_next ?_
  | with_reducible refine i_test ?_
  | with_reducible refine i_B ?_
  | with_reducible refine i_bl ?_
  | with_reducible refine i_not ?_
  | with_reducible refine i_and ?_
  | with_reducible refine i_or ?_
  | ((with_reducible refine' i_app ?hv ?hw ?_); (case hv => walk_at "hp"); (case hw => walk_at "side"))
  | with_reducible refine iteT ?_
  | with_reducible refine iteF ?_
  | with_reducible refine iteNT ?_
  | with_reducible refine iteNF ?_
  | ((with_reducible refine iteT' ?hv ?_); (case hv => first | exact decide_eq_true (by assumption) | exact notF (by assumption) | exact decide_eq_true rfl | exact notF (by decide) | exact decide_eq_true (by decide) | exact decide_eq_true (by simp only [List.length_cons, List.length_nil]; decide)))
  | ((with_reducible refine iteF' ?hv ?_); (case hv => first | exact decide_eq_false (by assumption) | exact notT (by assumption) | exact notT rfl | exact decide_eq_false (by decide) | exact decide_eq_false (by simp only [List.length_cons, List.length_nil]; decide)))
  | with_reducible refine i_forL ?_
  | with_reducible refine i_forT ?_
  | with_reducible refine i_forR ?_
  | with_reducible refine i_forR2 ?_
  | with_reducible refine i_forE ?_
  | with_reducible refine i_forV ?_
  | with_reducible refine i_forS ?_
  | with_reducible refine i_forK ?_
  | with_reducible refine i_lcL ?_
  | with_reducible refine i_lcT ?_
  | with_reducible refine i_lcR ?_
  | with_reducible refine i_lcR2 ?_
  | with_reducible refine i_lcS ?_
  | with_reducible refine i_lcK ?_
  | ((with_reducible refine' fl_L ?hv ?_); (case hv => walk_at "sq"))
  | ((with_reducible refine' fl_T ?hv ?_); (case hv => walk_at "sq"))
  | ((with_reducible refine fl_R ?hv ?hw ?_); (case hv => (first | decide | omega)); (case hw => (first | decide | omega)))
  | ((with_reducible refine fl_R2 ?hv ?_); (case hv => (first | decide | (refine ⟨?_, ?_, ?_, ?_⟩ <;> omega))))
  | ((with_reducible refine' fl_E ?hv ?_); (case hv => walk_at "sq"))
  | ((with_reducible refine' fl_V ?hv ?_); (case hv => walk_at "sq"))
  | with_reducible refine fl_S ?_
  | ((with_reducible refine' fc_L ?hv ?_); (case hv => walk_at "sq"))
  | ((with_reducible refine' fc_T ?hv ?_); (case hv => walk_at "sq"))
  | ((with_reducible refine fc_R ?hv ?hw ?_); (case hv => (first | decide | omega)); (case hw => (first | decide | omega)))
  | with_reducible refine fc_S ?_
  | with_reducible refine i_sl ?_
  | with_reducible refine i_nopart ?_
  | with_reducible refine i_part ?_
  | with_reducible refine i_isint ?_
  | ((with_reducible refine' i_slL ?hv ?_); (case hv => walk_at "sq"))
  | ((with_reducible refine i_slS ?hv ?_); (case hv => walk_at "side"))
  | ((with_reducible refine' i_gtup ?hv ?hw ?_); (case hv => walk_at "sq"); (case hw => exact rfl))
  | with_reducible refine i_gcons ?_
  | with_reducible refine i_gnil ?_
  | ((with_reducible refine' i_listL ?hv ?_); (case hv => walk_at "sq"))
  | ((with_reducible refine' i_listT ?hv ?_); (case hv => walk_at "sq"))
  | ((with_reducible refine' i_tupL ?hv ?_); (case hv => walk_at "sq"))
  | ((with_reducible refine' i_lenD ?hv ?_); (case hv => walk_at "hp"))
  | ((with_reducible refine' i_ty ?hv ?_); (case hv => walk_at "hp"))
  | ((with_reducible refine And.intro ?hv ?_); (case hv => first | exact (by decide : (0 : Nat) ≤ sizeLine) | exact (by decide : (1 : Nat) ≤ sizeLine) | exact (by decide : (2 : Nat) ≤ sizeLine) | exact (by decide : (3 : Nat) ≤ sizeLine) | exact (by decide : (4 : Nat) ≤ sizeLine) | exact (by decide : (5 : Nat) ≤ sizeLine) | exact (by decide : (6 : Nat) ≤ sizeLine)))
  | with_reducible refine i_inC ?_
  | ((with_reducible refine i_addT ?hv ?_); (case hv => walk_at "side"))
  | with_reducible refine i_m1 ?_
  | with_reducible refine i_isstr ?_
  | with_reducible refine is_int_int ?_
  | with_reducible refine is_int_bool ?_
  | with_reducible refine is_str_str ?_
  | ((with_reducible refine' is_tup_tup ?hv ?_); (case hv => walk_at "hp"))
  | with_reducible refine i_ifExp ?_
  | with_reducible refine i_andV ?_
  | with_reducible refine i_orV ?_
  | with_reducible refine i_notV ?_
  | with_reducible refine i_chain ?_
  | ((with_reducible refine' i_inS ?hv ?_); (case hv => walk_at "sq"))
  | ((with_reducible refine' i_niS ?hv ?_); (case hv => walk_at "sq"))
  | ((with_reducible refine' i_inI ?hv ?_); (case hv => walk_at "sq"))
  | ((with_reducible refine' i_niI ?hv ?_); (case hv => walk_at "sq"))
  | with_reducible refine i_dnew ?_
  | with_reducible refine i_dput ?_
  | ((with_reducible refine' i_dputI ?hv ?hw ?_); (case hv => walk_at "hp"); (case hw => walk_at "side"))
  | with_reducible refine i_dget ?_
  | ((with_reducible refine' i_dgetI ?hv ?hw ?_); (case hv => walk_at "hp"); (case hw => assumption))
  | with_reducible refine i_dnotin ?_
  | with_reducible refine i_din ?_
  | ((with_reducible refine' i_dnotinI ?hv ?_); (case hv => walk_at "hp"))
  | with_reducible refine i_dsetd ?_
  | ((with_reducible refine' i_isd ?hv ?_); (case hv => walk_at "hp"))
  | with_reducible refine i_fld ?_
  | with_reducible refine i_sfld ?_
  | with_reducible refine i_dcT ?_
  | with_reducible refine i_dcL ?_
  | with_reducible refine i_truT ?_
  | ((with_reducible refine' i_truL ?hv ?_); (case hv => walk_at "sq"))
  | with_reducible refine i_revL ?_
  | ((with_reducible refine' i_atLx ?hv ?_); (case hv => walk_at "sq"))
  | with_reducible refine i_bm ?_
  | with_reducible refine i_bm0 ?_)
local macro_rules | `(tactic| walk_at "step") => `(tactic| first | walk_at "step0" | with_reducible refine i_ifS ?_)
local macro_rules | `(tactic| walk_at "goj") => `(tactic| repeat (first | walk_at "step0" | with_reducible refine i_ifS (c := tTest _) ?_ | with_reducible refine i_ifS (c := tB _) ?_))
local macro_rules | `(tactic| walk_at "tj") => `(tactic| (intro q hq; repeat (first | exact hq | walk_at "step" | (refine and_q hq (fun h => ?_); clear hq; rename_i hq) | (refine or_q hq (fun h => ?_); clear hq; rename_i hq))))
local macro_rules | `(tactic| walk_at "go") => `(tactic| repeat walk_at "step")

/-- what is withdrawn, the entries gone through as they lie -/
def wdStep (g : List Int) : En → List Int
  | .vd n o => if n ∈ g then g else o :: g
  | _ => g
def wdR (l : List En) : List Int := l.foldl wdStep []
/-- whether an entry of this number stands -/
def stB (es : List En) (n : Int) : Bool := !decide (n ∈ wdR es.reverse)
def stKv (es : List En) : List (Key × V) := es.map fun e => ((Sum.inl e.num : Key), V.bl (stB es e.num))
theorem wdR_snoc (l : List En) (e : En) : wdR (l ++ [e]) = wdStep (wdR l) e := by unfold wdR; rw [List.foldl_append]; rfl
theorem en_at1 (e : En) : ∃ y : Str, atI e.vs 1 = some (.str y) ∧ ((∃ n o, e = .vd n o ∧ y = "void") ∨ (∃ n d x, e = .sg n d x ∧ y = "sign") ∨ ∃ n d x, e = .rl n d x ∧ y = "rule") := by
  cases e with
  | vd n o => exact ⟨_, rfl, .inl ⟨n, o, rfl, rfl⟩⟩
  | sg n d x => exact ⟨_, rfl, .inr (.inl ⟨n, d, x, rfl, rfl⟩)⟩
  | rl n d x => exact ⟨_, rfl, .inr (.inr ⟨n, d, x, rfl, rfl⟩)⟩
section
variable {P : Program} {w : World} {K : PySem.W.Frag} {mg : Str → Option Value} {base : Heap} {A : Ad}
def spStanding (K : PySem.W.Frag) : Sp := fun vs H Q _ => ∃ (r : Addr) (ts : List V) (es : List En) (F : Hp), vs = [.ref r] ∧ SqT K H r ts ∧ Ex F H ∧ EsAt F ts es ∧ Asc (es.map En.num) ∧ es.length < 1000 ∧
  ∀ (d : Addr) (H' : Hp), Ex H H' → H d = none → H' d = some (.dK (stKv es)) → Q (.ref d) H'
theorem ok_standing (T : Txt K mg A) : FnOk P w K mg base CX0 1 A.f_standing A.d_standing ["rows"] (spStanding K) := by
  refine T.F_standing.ok sc_standing (fun vs H Q E h => ?_) (fun cdv Ar outer s H vs Q E hr h => ?_)
  · obtain ⟨t, ts, es, F, rfl, _⟩ := h; rfl
  · obtain ⟨r, ts, es, F, rfl, hs, x, EA, asc, l1, k⟩ := h
    have el := EA.length
    refine ⟨_, (pss_cons (ps_set (i := 1) sc_standing.nd rfl (Or.inr rfl) pe_dnewK)
  (pss_cons (ps_for PassesOwn.never rfl (pi_reversed (by rfl) T.b_reversed (pa_cons (pe_callTy cl_list (by rfl) T.b_list (by decide +kernel) (pa_cons (pv 0) pa_nil)) pa_nil)) (pg_name (i := 2) sc_standing.nd rfl (Or.inl rfl))
   (pss_one (ps_if (PW.pt (pw_and (pt_cmpR op_eq (pe_ix ix_tup (pv 2) pe_int (fun _ _ => rfl)) pe_str (nomark _)) (pw_and1 (pt_cmp (pc_dnotin (hu_of hr) (pe_ix ix_tup (pv 2) pe_int (fun _ _ => rfl)) (pv 1)))))) (pss_one (ps_dput (hu_of hr) (pv 1) (pe_ix ix_tup (pv 2) pe_int (fun _ _ => rfl)) pe_bl rfl)) pss_nil)))
  (pss_one (ps_ret (pe_dc (own := [("entry", 2)]) (g := gName 2) (tt := tYes) rfl sc_standing.nd (pi_tup (pv 0)) (blkOk_by (N := ["rows", "withdrawn", "entry"]) (sc := defScope s_standing) (by decide +kernel)) (fun _ _ _ _ _ => (pg_name (i := 2) sc_standing.nd rfl (Or.inl rfl))) (fun _ _ _ _ _ => pts_nil) (fun _ _ _ _ _ => (pe_ix (show IxR _ (rIxT K) from ix_tup) (pv 2) pe_int (fun _ _ => rfl))) (fun _ _ _ _ _ => (pe_cmp (pc_dnotin (hu_of hr) (pe_ix (show IxR _ (rIxT K) from ix_tup) (pv 2) pe_int (fun _ _ => rfl)) (pv 1)) rfl))))))), ?_⟩
    dsimp only [cxOf, Cx.nox, Cx.wish]
    walk_at "go"
    intro d hd
    have e1 : Ex H (upd H d (.dK [])) := Ex.new hd
    have hs1 := _root_.Evl.ex_t e1 hs
    have hd1 : (upd H d (.dK [])) d = some (.dK []) := upd_same
    generalize upd H d (.dK []) = H1 at e1 hs1 hd1
    walk_at "go"
    intro q hq
    have e2 := e1.trans (Ex.new (o := .lst ts) hq)
    have dq : d ≠ q := ne_of_none hd1 hq
    have hq0 : H q = none := ex_none e1 hq
    have hd2 := upd_oth (u' := .lst ts) dq hd1
    walk_at "go"
    have ER := paired_rev EA
    refine ⟨fun i σ H' => ∃ (o : Option V) (kvs : List (Key × V)), σ = [some (.ref r), some (.ref d), o] ∧ Ex H H' ∧ H' q = some (.lst ts) ∧ H' d = some (.dK kvs) ∧ kvs.length ≤ i ∧ ∀ n : Int, (valV kvs (Sum.inl n)).isSome = decide (n ∈ wdR (es.reverse.take i)), ?_, fun i σ H' hi h => ?_, fun i v σ H2 H3 hi h y => ?_, fun σ H' h => ?_⟩
    · exact ⟨none, [], rfl, e2, upd_same, hd2, Nat.le_refl _, fun n => by simp [valV_nil, wdR]⟩
    · obtain ⟨o, kvs, _, _, h2, _⟩ := h
      exact SqL.of h2
    · obtain ⟨o, kvs, rfl, e3, h2, h3, h4, h5⟩ := h
      obtain ⟨rfl, hv⟩ := y
      have hv' : ts.reverse[i]? = some v := by rw [List.getElem?_reverse hi]; exact hv
      obtain ⟨en, hen, a, rfl, ha⟩ := paired_get ER hv'
      have ht : wdR (es.reverse.take (i + 1)) = wdStep (wdR (es.reverse.take i)) en := by
        rw [List.take_succ, hen]; exact wdR_snoc _ _
      have hT : SqT K H3 a en.vs := SqT.of (e3 _ _ (x _ _ ha))
      have hz : kvs.length < sizeLine := by rw [sizeLine_eq]; omega
      have keep : wdStep (wdR (es.reverse.take i)) en = wdR (es.reverse.take i) → ∃ (o : Option V) (kvs : List (Key × V)), [some (V.ref r), some (.ref d), some (.ref a)] = [some (.ref r), some (.ref d), o] ∧ Ex H H3 ∧ H3 q = some (.lst ts) ∧ H3 d = some (.dK kvs) ∧ kvs.length ≤ i + 1 ∧ ∀ n : Int, (valV kvs (Sum.inl n)).isSome = decide (n ∈ wdR (es.reverse.take (i + 1))) := fun z => ⟨_, kvs, rfl, e3, h2, h3, by omega, fun n => by rw [ht, z]; exact h5 n⟩
      cases en with
      | vd n o =>
        have h0 : atI (En.vd n o).vs 0 = some (.int n) := rfl
        have h1 : atI (En.vd n o).vs 1 = some (.str "void") := rfl
        have h9 : atI (En.vd n o).vs 2 = some (.int o) := rfl
        walk_at "go"
        have h6 := h5 n
        refine iteB (fun c => ?_) (fun c => ?_)
        · have hn : n ∉ wdR (es.reverse.take i) := by
            intro z
            rw [h6, decide_eq_true z] at c
            cases c
          walk_at "go"
          refine ⟨_, _, rfl, ex_mut hd e3, upd_oth dq.symm h2, upd_same, ?_, fun m => ?_⟩
          · exact Nat.le_trans putK_le (by omega)
          · rw [valV_put, ht]
            show _ = decide (m ∈ if n ∈ wdR (es.reverse.take i) then _ else o :: wdR (es.reverse.take i))
            rw [if_neg hn]
            by_cases e : m = o
            · subst e; simp
            · rw [if_neg (by intro z; exact e (Sum.inl.inj z)), h5 m]
              simp [e]
        · have hn : n ∈ wdR (es.reverse.take i) := by
            by_cases z : n ∈ wdR (es.reverse.take i)
            · exact z
            · rw [h6, decide_eq_false z] at c; cases c
          walk_at "go"
          exact keep (if_pos hn)
      | sg n dd y =>
        have h1 : atI (En.sg n dd y).vs 1 = some (.str "sign") := rfl
        walk_at "go"
        exact keep rfl
      | rl n dd y =>
        have h1 : atI (En.rl n dd y).vs 1 = some (.str "rule") := rfl
        walk_at "go"
        exact keep rfl
    · obtain ⟨o, kvs, rfl, e3, h2, h3, h4, h5⟩ := h
      rw [List.take_of_length_le (by rw [List.length_reverse]; omega)] at h5
      have hs3 := _root_.Evl.ex_t e3 hs
      walk_at "go"
      have gi : ∀ i, i < ts.length → ∃ (a : Addr) (en : En), ts.getD i .non = .ref a ∧ (es.map En.num).getD i 0 = en.num ∧ F a = some (.tup en.vs) := fun i hi => by
        have hv : ts[i]? = some ts[i] := List.getElem?_eq_getElem hi
        obtain ⟨en, hen, a, ea, ha⟩ := paired_get EA hv
        refine ⟨a, en, ?_, ?_, ha⟩
        · rw [List.getD_eq_getElem?_getD, hv, ea]; rfl
        · rw [List.getD_eq_getElem?_getD, List.getElem?_map, hen]; rfl
      refine fd_T hs3 (dc_pure walk_tup (fun i => Sum.inl ((es.map En.num).getD i 0)) (fun i => .bl (stB es ((es.map En.num).getD i 0))) (by rw [sizeLine_eq]; omega) (fun i => ts.getD i .non) (fun a b l hb z => ?_) (fun H' e => _root_.Evl.ex_t e hs3) (fun i H0 v H' hi y => ⟨y.1, ?_⟩) (fun i H' Q' hi e q => ?_) (fun i H' Q' hi e q => ?_) (fun p hp => ?_))
      · have z' := Sum.inl.inj z
        have ha : (es.map En.num)[a]? = some ((es.map En.num).getD a 0) := by
          rw [List.getD_eq_getElem?_getD, List.getElem?_eq_getElem (by rw [List.length_map]; omega)]; rfl
        have hb' : (es.map En.num)[b]? = some ((es.map En.num).getD b 0) := by
          rw [List.getD_eq_getElem?_getD, List.getElem?_eq_getElem (by rw [List.length_map]; omega)]; rfl
        have := asc_lt asc ha hb' l
        omega
      · rw [List.getD_eq_getElem?_getD, y.2]; rfl
      · obtain ⟨a, en, g1, g2, ha⟩ := gi i hi
        rw [g1]
        have q' : Q' (.int en.num) H' := by rw [← g2]; exact q
        have hT : SqT K H' a en.vs := SqT.of (e _ _ (e3 _ _ (x _ _ ha)))
        have h0 := en_at0 en
        walk_at "go"
        exact q'
      · obtain ⟨a, en, g1, g2, ha⟩ := gi i hi
        rw [g1]
        have q' : Q' (.bl (!(valV kvs (Sum.inl en.num)).isSome)) H' := by
          rw [h5]; have q := q; rw [g2] at q; exact q
        have hT : SqT K H' a en.vs := SqT.of (e _ _ (e3 _ _ (x _ _ ha)))
        have h0 := en_at0 en
        have hd3 := e _ _ h3
        walk_at "go"
        exact q'
      · have e4 : Ex H H' := e3
        refine k p _ (e4.trans (Ex.new hp)) (ex_none e4 hp) ?_
        rw [upd_same]
        show some (HO.dK _) = some (HO.dK _)
        congr 2
        unfold stKv
        rw [el]
        apply List.ext_getElem
        · simp
        · intro j h1 h2
          simp at h1
          simp [h1]
end
end Dh
/-! K02H -/
set_option Elab.async false
set_option linter.all false
set_option maxRecDepth 100000
set_option maxHeartbeats 4000000
namespace Dh
open PySem PySem.Spec L2
open _root_.Evl (Ex)
local macro_rules | `(tactic| walk_at "ex") => `(tactic| first | assumption | ((with_reducible apply ex_mut); (focus assumption); walk_at "ex") | ((with_reducible apply ex_both); walk_at "ex") | ((with_reducible apply ex_new); (focus assumption); walk_at "ex"))
local macro_rules | `(tactic| walk_at "hp") => `(tactic| first | assumption | with_reducible exact upd_same | ((with_reducible apply upd_old); (focus assumption); walk_at "hp") | ((with_reducible apply upd_oth); (focus walk_at "neq"); walk_at "hp") | ((with_reducible apply ex_by); (focus assumption); walk_at "ex") | ((with_reducible apply ex_at); (focus assumption); walk_at "hp"))
local macro_rules | `(tactic| walk_at "neq") => `(tactic| first | assumption | (apply Ne.symm; assumption))
local macro_rules | `(tactic| walk_at "sq") => `(tactic| first | assumption | ((with_reducible apply SqL.of); walk_at "hp") | ((with_reducible apply SqT.of); walk_at "hp"))
local macro_rules | `(tactic| walk_at "side") => `(tactic| first | assumption | decide | exact cm_fmod (by decide) (by decide) | (show _ ≠ (0 : Int); decide) | (show _ ≠ (0 : Int); omega) | exact Or.inr ⟨by decide, by decide⟩ | exact Or.inl ⟨by decide, by decide⟩ | (show CDivN _ _; exact ⟨by decide, by decide⟩) | (show CDivN _ _; exact ⟨by omega, by omega⟩) | exact Or.inl ⟨by omega, by omega⟩ | exact Or.inr ⟨by omega, by omega⟩ | exact ⟨by decide, by decide, by decide⟩)
local macro_rules | `(tactic| walk_at "ix") => `(tactic| first | exact rfl | assumption | exact atI_nat (by assumption))
local macro_rules | `(tactic| walk_at "step0") => `(tactic| first
  | with_reducible refine i_seq ?_
  | with_reducible refine i_asg ?_
  | with_reducible refine i_op ?_
  | ((with_reducible refine' i_var ?hv ?_); (case hv => exact rfl))
  | with_reducible refine i_c ?_
  | with_reducible refine i_cons ?_
  | with_reducible refine i_nil ?_
  | with_reducible refine i_cb ?_
  | with_reducible refine i_call ?_
  | with_reducible refine i_call' ?_
  | with_reducible refine i_un ?_
  | with_reducible refine i_I0 ?_
  | ((with_reducible refine i_I ?hv ?_); (case hv => walk_at "side"))
  | with_reducible refine i_eqI ?_
  | with_reducible refine i_neI ?_
  | with_reducible refine i_eqS ?_
  | with_reducible refine i_neS ?_
  | ((with_reducible refine i_eq ?hv ?_); (case hv => exact rfl))
  | ((with_reducible refine i_ne ?hv ?_); (case hv => exact rfl))
  | with_reducible refine i_int1 ?_
  | with_reducible refine i_abs ?_
  | ((with_reducible refine' i_ixL ?hv ?hw ?_); (case hv => walk_at "sq"); (case hw => walk_at "ix"))
  | ((with_reducible refine' i_ixT ?hv ?hw ?_); (case hv => walk_at "sq"); (case hw => walk_at "ix"))
  | ((with_reducible refine' i_lenL ?hv ?_); (case hv => walk_at "sq"))
  | ((with_reducible refine' i_lenT ?hv ?_); (case hv => walk_at "sq"))
  | with_reducible refine i_addIB ?_
  | with_reducible refine i_mulIB ?_
  | ((with_reducible refine i_lenS ?hv ?_); (case hv => walk_at "side"))
  | with_reducible refine i_tup ?_
  | with_reducible refine i_lst ?_
  | with_reducible refine i_asgG ?_
  | with_reducible refine i_gname ?_
  | with_reducible refine i_gsub ?_
  | ((with_reducible refine' i_setL ?hv ?hw ?_); (case hv => walk_at "hp"); (case hw => exact rfl))
  | with_reducible refine i_ret ?_
  | with_reducible refine i_drop ?_
  | with_reducible refine i_next ?_
  | with_reducible refine i_test ?_
  | with_reducible refine i_B ?_
  | with_reducible refine i_bl ?_
  | with_reducible refine i_not ?_
  | with_reducible refine i_and ?_
  | with_reducible refine i_or ?_
  | ((with_reducible refine' i_app ?hv ?hw ?_); (case hv => walk_at "hp"); (case hw => walk_at "side"))
  | with_reducible refine iteT ?_
  | with_reducible refine iteF ?_
  | with_reducible refine iteNT ?_
  | with_reducible refine iteNF ?_
  | ((with_reducible refine iteT' ?hv ?_); (case hv => first | exact decide_eq_true (by assumption) | exact notF (by assumption) | exact decide_eq_true rfl | exact notF (by decide) | exact decide_eq_true (by decide) | exact decide_eq_true (by simp only [List.length_cons, List.length_nil]; decide)))
  | ((with_reducible refine iteF' ?hv ?_); (case hv => first | exact decide_eq_false (by assumption) | exact notT (by assumption) | exact notT rfl | exact decide_eq_false (by decide) | exact decide_eq_false (by simp only [List.length_cons, List.length_nil]; decide)))
  | with_reducible refine i_forL ?_
  | with_reducible refine i_forT ?_
  | with_reducible refine i_forR ?_
  | with_reducible refine i_forR2 ?_
  | with_reducible refine i_forE ?_
  | with_reducible refine i_forV ?_
  | with_reducible refine i_forS ?_
  | with_reducible refine i_forK ?_
  | with_reducible refine i_lcL ?_
  | with_reducible refine i_lcT ?_
  | with_reducible refine i_lcR ?_
  | with_reducible refine i_lcR2 ?_
  | with_reducible refine i_lcS ?_
  | with_reducible refine i_lcK ?_
  | ((with_reducible refine' fl_L ?hv ?_); (case hv => walk_at "sq"))
  | ((with_reducible refine' fl_T ?hv ?_); (case hv => walk_at "sq"))
  | ((with_reducible refine fl_R ?hv ?hw ?_); (case hv => (first | decide | omega)); (case hw => (first | decide | omega)))
  | ((with_reducible refine fl_R2 ?hv ?_); (case hv => (first | decide | (refine ⟨?_, ?_, ?_, ?_⟩ <;> omega))))
  | ((with_reducible refine' fl_E ?hv ?_); (case hv => walk_at "sq"))
  | ((with_reducible refine' fl_V ?hv ?_); (case hv => walk_at "sq"))
  | with_reducible refine fl_S ?_
  | ((with_reducible refine' fc_L ?hv ?_); (case hv => walk_at "sq"))
  | ((with_reducible refine' fc_T ?hv ?_); (case hv => walk_at "sq"))
  | ((with_reducible refine fc_R ?hv ?hw ?_); (case hv => (first | decide | omega)); (case hw => (first | decide | omega)))
  | with_reducible refine fc_S ?_
  | with_reducible refine i_sl ?_
  | with_reducible refine i_nopart ?_
  | with_reducible refine i_part ?_
  | with_reducible refine i_isint ?_
  | ((with_reducible refine' i_slL ?hv ?_); (case hv => walk_at "sq"))
  | ((with_reducible refine i_slS ?hv ?_); (case hv => walk_at "side"))
  | ((with_reducible refine' i_gtup ?hv ?hw ?_); (case hv => walk_at "sq"); (case hw => exact rfl))
  | with_reducible refine i_gcons ?_
  | with_reducible refine i_gnil ?_
  | ((with_reducible refine' i_listL ?hv ?_); (case hv => walk_at "sq"))
  | ((with_reducible refine' i_listT ?hv ?_); (case hv => walk_at "sq"))
  | ((with_reducible refine' i_tupL ?hv ?_); (case hv => walk_at "sq"))
  | ((with_reducible refine' i_lenD ?hv ?_); (case hv => walk_at "hp"))
  | ((with_reducible refine' i_ty ?hv ?_); (case hv => walk_at "hp"))
  | ((with_reducible refine And.intro ?hv ?_); (case hv => first | exact (by decide : (0 : Nat) ≤ sizeLine) | exact (by decide : (1 : Nat) ≤ sizeLine) | exact (by decide : (2 : Nat) ≤ sizeLine) | exact (by decide : (3 : Nat) ≤ sizeLine) | exact (by decide : (4 : Nat) ≤ sizeLine) | exact (by decide : (5 : Nat) ≤ sizeLine) | exact (by decide : (6 : Nat) ≤ sizeLine)))
  | with_reducible refine i_inC ?_
  | ((with_reducible refine i_addT ?hv ?_); (case hv => walk_at "side"))
  | with_reducible refine i_m1 ?_
  | with_reducible refine i_isstr ?_
  | with_reducible refine is_int_int ?_
  | with_reducible refine is_int_bool ?_
  | with_reducible refine is_str_str ?_
  | ((with_reducible refine' is_tup_tup ?hv ?_); (case hv => walk_at "hp"))
  | with_reducible refine i_ifExp ?_
  | with_reducible refine i_andV ?_
  | with_reducible refine i_orV ?_
  | with_reducible refine i_notV ?_
  | with_reducible refine i_chain ?_
  | ((with_reducible refine' i_inS ?hv ?_); (case hv => walk_at "sq"))
  | ((with_reducible refine' i_niS ?hv ?_); (case hv => walk_at "sq"))
  | ((with_reducible refine' i_inI ?hv ?_); (case hv => walk_at "sq"))
  | ((with_reducible refine' i_niI ?hv ?_); (case hv => walk_at "sq"))
  | with_reducible refine i_dnew ?_
  | with_reducible refine i_dput ?_
  | ((with_reducible refine' i_dputI ?hv ?hw ?_); (case hv => walk_at "hp"); (case hw => walk_at "side"))
  | with_reducible refine i_dget ?_
  | ((with_reducible refine' i_dgetI ?hv ?hw ?_); (case hv => walk_at "hp"); (case hw => assumption))
  | with_reducible refine i_dnotin ?_
  | with_reducible refine i_din ?_
  | ((with_reducible refine' i_dnotinI ?hv ?_); (case hv => walk_at "hp"))
  | with_reducible refine i_dsetd ?_
  | ((with_reducible refine' i_isd ?hv ?_); (case hv => walk_at "hp"))
  | with_reducible refine i_fld ?_
  | with_reducible refine i_sfld ?_
  | with_reducible refine i_dcT ?_
  | with_reducible refine i_dcL ?_
  | with_reducible refine i_truT ?_
  | ((with_reducible refine' i_truL ?hv ?_); (case hv => walk_at "sq"))
  | with_reducible refine i_revL ?_
  | ((with_reducible refine' i_atLx ?hv ?_); (case hv => walk_at "sq"))
  | with_reducible refine i_bm ?_
  | with_reducible refine i_bm0 ?_)
local macro_rules | `(tactic| walk_at "step") => `(tactic| first | walk_at "step0" | with_reducible refine i_ifS ?_)
local macro_rules | `(tactic| walk_at "goj") => `(tactic| repeat (first | walk_at "step0" | with_reducible refine i_ifS (c := tTest _) ?_ | with_reducible refine i_ifS (c := tB _) ?_))
local macro_rules | `(tactic| walk_at "tj") => `(tactic| (intro q hq; repeat (first | exact hq | walk_at "step" | (refine and_q hq (fun h => ?_); clear hq; rename_i hq) | (refine or_q hq (fun h => ?_); clear hq; rename_i hq))))
local macro_rules | `(tactic| walk_at "go") => `(tactic| repeat walk_at "step")

theorem stKv_val {es : List En} {n : Int} {g : Int → V} : valV (es.map fun e => ((Sum.inl e.num : Key), g e.num)) (Sum.inl n) = if n ∈ es.map En.num then some (g n) else none := by
  induction es with
  | nil => rfl
  | cons e r ih =>
    rw [List.map_cons]
    by_cases q : e.num = n
    · subst q
      rw [if_pos (by simp)]
      exact valV_pos rfl
    · rw [valV_neg (by intro z; exact q (Sum.inl.inj z)), ih]
      have : (n ∈ (e :: r).map En.num) ↔ (n ∈ r.map En.num) := by
        rw [List.map_cons, List.mem_cons]
        exact ⟨fun z => z.elim (fun z => absurd z.symm q) id, .inr⟩
      by_cases m : n ∈ r.map En.num
      · rw [if_pos m, if_pos (this.mpr m)]
      · rw [if_neg m, if_neg (fun z => m (this.mp z))]
theorem stKv_get {es : List En} {e : En} (h : e ∈ es) : valV (stKv es) (Sum.inl e.num) = some (.bl (stB es e.num)) := by
  unfold stKv
  rw [stKv_val (g := fun n => .bl (stB es n)), if_pos (List.mem_map_of_mem h)]
section
variable {P : Program} {w : World} {K : PySem.W.Frag} {mg : Str → Option Value} {base : Heap} {A : Ad}
def spNames (K : PySem.W.Frag) : Sp := fun vs H Q _ => ∃ (r s : Addr) (y : Str) (ts : List V) (es : List En) (F : Hp), vs = [.ref r, .ref s, .str y] ∧ SqT K H r ts ∧ Ex F H ∧ EsAt F ts es ∧ H s = some (.dK (stKv es)) ∧ es.length < 1000 ∧ (y = "sign" ∨ y = "rule") ∧
  ∀ (d : Addr) (H' : Hp) (kvs : List (Key × V)), Ex H H' → H d = none → H' d = some (.dK kvs) → Q (.ref d) H'
theorem ok_told_names (T : Txt K mg A) : FnOk P w K mg base CX0 1 A.f_told_names A.d_told_names ["rows", "stands", "form"] (spNames K) := by
  refine T.F_told_names.ok sc_told_names (fun vs H Q E h => ?_) (fun cdv Ar outer s0 H vs Q E hr h => ?_)
  · obtain ⟨r, s, y, ts, es, F, rfl, _⟩ := h; rfl
  · obtain ⟨r, s, y, ts, es, F, rfl, hs, x, EA, hS, l1, hy, k⟩ := h
    have el := EA.length
    refine ⟨_, (pss_cons (ps_set (i := 3) sc_told_names.nd rfl (Or.inl rfl) pe_dnewK)
  (pss_cons (ps_for PassesOwn.never rfl (pi_tup (pv 0)) (pg_name (i := 4) sc_told_names.nd rfl (Or.inl rfl))
   (pss_one (ps_if (PW.pt (pw_and (pt_cmpR op_eq (pe_ix ix_tup (pv 4) pe_int (fun _ _ => rfl)) (pv 2) (nomark _)) (pw_and1 (pt_val (pe_dget (hu_of hr) (pv 1) (pe_ix ix_tup (pv 4) pe_int (fun _ _ => rfl)) (fun _ _ => rfl)))))) (pss_one (ps_dput (hu_of hr) (pv 3) (pe_ix ix_tup (pv 4) pe_int (fun _ _ => rfl)) (pe_ix ix_tup (pv 4) pe_int (fun _ _ => rfl)) rfl)) pss_nil)))
  (pss_one (ps_ret (pv 3))))), ?_⟩
    dsimp only [cxOf, Cx.nox, Cx.wish]
    walk_at "go"
    intro d hd
    have e1 : Ex H (upd H d (.dK [])) := Ex.new hd
    have hs1 := _root_.Evl.ex_t e1 hs
    have hd1 : (upd H d (.dK [])) d = some (.dK []) := upd_same
    generalize upd H d (.dK []) = H1 at e1 hs1 hd1
    walk_at "go"
    refine ⟨fun i σ H' => ∃ (o : Option V) (kvs : List (Key × V)), σ = [some (.ref r), some (.ref s), some (.str y), some (.ref d), o] ∧ Ex H H' ∧ H' d = some (.dK kvs) ∧ kvs.length ≤ i, ?_, fun i σ H' hi h => ?_, fun i v σ H2 H3 hi h y' => ?_, fun σ H' h => ?_⟩
    · exact ⟨none, [], rfl, e1, hd1, Nat.le_refl _⟩
    · obtain ⟨o, kvs, _, h2, _⟩ := h
      exact _root_.Evl.ex_t h2 hs
    · obtain ⟨o, kvs, rfl, e3, h3, h4⟩ := h
      obtain ⟨rfl, hv⟩ := y'
      obtain ⟨en, hen, a, rfl, ha⟩ := paired_get EA hv
      have hT : SqT K H3 a en.vs := SqT.of (e3 _ _ (x _ _ ha))
      have hz : kvs.length < sizeLine := by rw [sizeLine_eq]; omega
      have h0 := en_at0 en
      have hg := stKv_get (List.mem_of_getElem? hen)
      have hS3 := e3 _ _ hS
      have keep : ∃ (o : Option V) (kvs : List (Key × V)), [some (V.ref r), some (.ref s), some (.str y), some (.ref d), some (.ref a)] = [some (V.ref r), some (.ref s), some (.str y), some (.ref d), o] ∧ Ex H H3 ∧ H3 d = some (.dK kvs) ∧ kvs.length ≤ i + 1 := ⟨_, kvs, rfl, e3, h3, by omega⟩
      rcases hy with rfl | rfl
      all_goals
        cases en with
        | vd n o =>
          have h1 : atI (En.vd n o).vs 1 = some (.str "void") := rfl
          walk_at "goj"
          with_reducible refine i_ifJ false ?_ ?_
          · intro q hq; walk_at "go"; exact hq
          walk_at "go"
          exact keep
        | sg n dd z =>
          have h1 : atI (En.sg n dd z).vs 1 = some (.str "sign") := rfl
          have h2 : atI (En.sg n dd z).vs 2 = some (.int dd) := rfl
          have h3' : atI (En.sg n dd z).vs 3 = some (.str z) := rfl
          walk_at "goj"
          first
            | (with_reducible refine i_ifJ false ?_ ?_
               · intro q hq; walk_at "go"; exact hq
               walk_at "go"
               exact keep)
            | (with_reducible refine i_ifJ (stB es n) ?_ ?_
               · intro q hq; walk_at "go"; exact hq
               refine iteB (fun c => ?_) (fun c => ?_)
               · walk_at "go"
                 exact ⟨_, _, rfl, ex_mut hd e3, upd_same, Nat.le_trans putK_le (by omega)⟩
               · walk_at "go"
                 exact keep)
        | rl n dd z =>
          have h1 : atI (En.rl n dd z).vs 1 = some (.str "rule") := rfl
          have h2 : atI (En.rl n dd z).vs 2 = some (.int dd) := rfl
          have h3' : atI (En.rl n dd z).vs 3 = some (.str z) := rfl
          walk_at "goj"
          first
            | (with_reducible refine i_ifJ false ?_ ?_
               · intro q hq; walk_at "go"; exact hq
               walk_at "go"
               exact keep)
            | (with_reducible refine i_ifJ (stB es n) ?_ ?_
               · intro q hq; walk_at "go"; exact hq
               refine iteB (fun c => ?_) (fun c => ?_)
               · walk_at "go"
                 exact ⟨_, _, rfl, ex_mut hd e3, upd_same, Nat.le_trans putK_le (by omega)⟩
               · walk_at "go"
                 exact keep)
    · obtain ⟨o, kvs, rfl, e3, h3, h4⟩ := h
      walk_at "go"
      exact k d H' kvs e3 (ex_none (Ex.refl H) hd) h3
end
end Dh
/-! K02I -/
set_option Elab.async false
set_option linter.all false
set_option maxRecDepth 100000
set_option maxHeartbeats 4000000
namespace Dh
open PySem PySem.Spec L2
open _root_.Evl (Ex)
local macro_rules | `(tactic| walk_at "ex") => `(tactic| first | assumption | ((with_reducible apply ex_mut); (focus assumption); walk_at "ex") | ((with_reducible apply ex_both); walk_at "ex") | ((with_reducible apply ex_new); (focus assumption); walk_at "ex"))
local macro_rules | `(tactic| walk_at "hp") => `(tactic| first | assumption | with_reducible exact upd_same | ((with_reducible apply upd_old); (focus assumption); walk_at "hp") | ((with_reducible apply upd_oth); (focus walk_at "neq"); walk_at "hp") | ((with_reducible apply ex_by); (focus assumption); walk_at "ex") | ((with_reducible apply ex_at); (focus assumption); walk_at "hp"))
local macro_rules | `(tactic| walk_at "neq") => `(tactic| first | assumption | (apply Ne.symm; assumption))
local macro_rules | `(tactic| walk_at "sq") => `(tactic| first | assumption | ((with_reducible apply SqL.of); walk_at "hp") | ((with_reducible apply SqT.of); walk_at "hp"))
local macro_rules | `(tactic| walk_at "side") => `(tactic| first | assumption | decide | exact cm_fmod (by decide) (by decide) | (show _ ≠ (0 : Int); decide) | (show _ ≠ (0 : Int); omega) | exact Or.inr ⟨by decide, by decide⟩ | exact Or.inl ⟨by decide, by decide⟩ | (show CDivN _ _; exact ⟨by decide, by decide⟩) | (show CDivN _ _; exact ⟨by omega, by omega⟩) | exact Or.inl ⟨by omega, by omega⟩ | exact Or.inr ⟨by omega, by omega⟩ | exact ⟨by decide, by decide, by decide⟩)
local macro_rules | `(tactic| walk_at "ix") => `(tactic| first | exact rfl | assumption | exact atI_nat (by assumption))
local macro_rules | `(tactic| walk_at "step0") => `(tactic| first
  | with_reducible refine i_seq ?_
  | with_reducible refine i_asg ?_
  | with_reducible refine i_op ?_
  | ((with_reducible refine' i_var ?hv ?_); (case hv => exact rfl))
  | with_reducible refine i_c ?_
  | with_reducible refine i_cons ?_
  | with_reducible refine i_nil ?_
  | with_reducible refine i_cb ?_
  | with_reducible refine i_call ?_
  | with_reducible refine i_call' ?_
  | with_reducible refine i_un ?_
  | with_reducible refine i_I0 ?_
  | ((with_reducible refine i_I ?hv ?_); (case hv => walk_at "side"))
  | with_reducible refine i_eqI ?_
  | with_reducible refine i_neI ?_
  | with_reducible refine i_eqS ?_
  | with_reducible refine i_neS ?_
  | ((with_reducible refine i_eq ?hv ?_); (case hv => exact rfl))
  | ((with_reducible refine i_ne ?hv ?_); (case hv => exact rfl))
  | with_reducible refine i_int1 ?_
  | with_reducible refine i_abs ?_
  | ((with_reducible refine' i_ixL ?hv ?hw ?_); (case hv => walk_at "sq"); (case hw => walk_at "ix"))
  | ((with_reducible refine' i_ixT ?hv ?hw ?_); (case hv => walk_at "sq"); (case hw => walk_at "ix"))
  | ((with_reducible refine' i_lenL ?hv ?_); (case hv => walk_at "sq"))
  | ((with_reducible refine' i_lenT ?hv ?_); (case hv => walk_at "sq"))
  | with_reducible refine i_addIB ?_
  | with_reducible refine i_mulIB ?_
  | ((with_reducible refine i_lenS ?hv ?_); (case hv => walk_at "side"))
  | with_reducible refine i_tup ?_
  | with_reducible refine i_lst ?_
  | with_reducible refine i_asgG ?_
  | with_reducible refine i_gname ?_
  | with_reducible refine i_gsub ?_
  | ((with_reducible refine' i_setL ?hv ?hw ?_); (case hv => walk_at "hp"); (case hw => exact rfl))
  | with_reducible refine i_ret ?_
  | with_reducible refine i_drop ?_
  | with_reducible refine i_next ?_
  | with_reducible refine i_test ?_
  | with_reducible refine i_B ?_
  | with_reducible refine i_bl ?_
  | with_reducible refine i_not ?_
  | with_reducible refine i_and ?_
  | with_reducible refine i_or ?_
  | ((with_reducible refine' i_app ?hv ?hw ?_); (case hv => walk_at "hp"); (case hw => walk_at "side"))
  | with_reducible refine iteT ?_
  | with_reducible refine iteF ?_
  | with_reducible refine iteNT ?_
  | with_reducible refine iteNF ?_
  | ((with_reducible refine iteT' ?hv ?_); (case hv => first | exact decide_eq_true (by assumption) | exact notF (by assumption) | exact decide_eq_true rfl | exact notF (by decide) | exact decide_eq_true (by decide) | exact decide_eq_true (by simp only [List.length_cons, List.length_nil]; decide)))
  | ((with_reducible refine iteF' ?hv ?_); (case hv => first | exact decide_eq_false (by assumption) | exact notT (by assumption) | exact notT rfl | exact decide_eq_false (by decide) | exact decide_eq_false (by simp only [List.length_cons, List.length_nil]; decide)))
  | with_reducible refine i_forL ?_
  | with_reducible refine i_forT ?_
  | with_reducible refine i_forR ?_
  | with_reducible refine i_forR2 ?_
  | with_reducible refine i_forE ?_
  | with_reducible refine i_forV ?_
  | with_reducible refine i_forS ?_
  | with_reducible refine i_forK ?_
  | with_reducible refine i_lcL ?_
  | with_reducible refine i_lcT ?_
  | with_reducible refine i_lcR ?_
  | with_reducible refine i_lcR2 ?_
  | with_reducible refine i_lcS ?_
  | with_reducible refine i_lcK ?_
  | ((with_reducible refine' fl_L ?hv ?_); (case hv => walk_at "sq"))
  | ((with_reducible refine' fl_T ?hv ?_); (case hv => walk_at "sq"))
  | ((with_reducible refine fl_R ?hv ?hw ?_); (case hv => (first | decide | omega)); (case hw => (first | decide | omega)))
  | ((with_reducible refine fl_R2 ?hv ?_); (case hv => (first | decide | (refine ⟨?_, ?_, ?_, ?_⟩ <;> omega))))
  | ((with_reducible refine' fl_E ?hv ?_); (case hv => walk_at "sq"))
  | ((with_reducible refine' fl_V ?hv ?_); (case hv => walk_at "sq"))
  | with_reducible refine fl_S ?_
  | ((with_reducible refine' fc_L ?hv ?_); (case hv => walk_at "sq"))
  | ((with_reducible refine' fc_T ?hv ?_); (case hv => walk_at "sq"))
  | ((with_reducible refine fc_R ?hv ?hw ?_); (case hv => (first | decide | omega)); (case hw => (first | decide | omega)))
  | with_reducible refine fc_S ?_
  | with_reducible refine i_sl ?_
  | with_reducible refine i_nopart ?_
  | with_reducible refine i_part ?_
  | with_reducible refine i_isint ?_
  | ((with_reducible refine' i_slL ?hv ?_); (case hv => walk_at "sq"))
  | ((with_reducible refine i_slS ?hv ?_); (case hv => walk_at "side"))
  | ((with_reducible refine' i_gtup ?hv ?hw ?_); (case hv => walk_at "sq"); (case hw => exact rfl))
  | with_reducible refine i_gcons ?_
  | with_reducible refine i_gnil ?_
  | ((with_reducible refine' i_listL ?hv ?_); (case hv => walk_at "sq"))
  | ((with_reducible refine' i_listT ?hv ?_); (case hv => walk_at "sq"))
  | ((with_reducible refine' i_tupL ?hv ?_); (case hv => walk_at "sq"))
  | ((with_reducible refine' i_lenD ?hv ?_); (case hv => walk_at "hp"))
  | ((with_reducible refine' i_ty ?hv ?_); (case hv => walk_at "hp"))
  | ((with_reducible refine And.intro ?hv ?_); (case hv => first | exact (by decide : (0 : Nat) ≤ sizeLine) | exact (by decide : (1 : Nat) ≤ sizeLine) | exact (by decide : (2 : Nat) ≤ sizeLine) | exact (by decide : (3 : Nat) ≤ sizeLine) | exact (by decide : (4 : Nat) ≤ sizeLine) | exact (by decide : (5 : Nat) ≤ sizeLine) | exact (by decide : (6 : Nat) ≤ sizeLine)))
  | with_reducible refine i_inC ?_
  | ((with_reducible refine i_addT ?hv ?_); (case hv => walk_at "side"))
  | with_reducible refine i_m1 ?_
  | with_reducible refine i_isstr ?_
  | with_reducible refine is_int_int ?_
  | with_reducible refine is_int_bool ?_
  | with_reducible refine is_str_str ?_
  | ((with_reducible refine' is_tup_tup ?hv ?_); (case hv => walk_at "hp"))
  | with_reducible refine i_ifExp ?_
  | with_reducible refine i_andV ?_
  | with_reducible refine i_orV ?_
  | with_reducible refine i_notV ?_
  | with_reducible refine i_chain ?_
  | ((with_reducible refine' i_inS ?hv ?_); (case hv => walk_at "sq"))
  | ((with_reducible refine' i_niS ?hv ?_); (case hv => walk_at "sq"))
  | ((with_reducible refine' i_inI ?hv ?_); (case hv => walk_at "sq"))
  | ((with_reducible refine' i_niI ?hv ?_); (case hv => walk_at "sq"))
  | with_reducible refine i_dnew ?_
  | with_reducible refine i_dput ?_
  | ((with_reducible refine' i_dputI ?hv ?hw ?_); (case hv => walk_at "hp"); (case hw => walk_at "side"))
  | with_reducible refine i_dget ?_
  | ((with_reducible refine' i_dgetI ?hv ?hw ?_); (case hv => walk_at "hp"); (case hw => assumption))
  | with_reducible refine i_dnotin ?_
  | with_reducible refine i_din ?_
  | ((with_reducible refine' i_dnotinI ?hv ?_); (case hv => walk_at "hp"))
  | with_reducible refine i_dsetd ?_
  | ((with_reducible refine' i_isd ?hv ?_); (case hv => walk_at "hp"))
  | with_reducible refine i_fld ?_
  | with_reducible refine i_sfld ?_
  | with_reducible refine i_dcT ?_
  | with_reducible refine i_dcL ?_
  | with_reducible refine i_truT ?_
  | ((with_reducible refine' i_truL ?hv ?_); (case hv => walk_at "sq"))
  | with_reducible refine i_revL ?_
  | ((with_reducible refine' i_atLx ?hv ?_); (case hv => walk_at "sq"))
  | with_reducible refine i_bm ?_
  | with_reducible refine i_bm0 ?_)
local macro_rules | `(tactic| walk_at "step") => `(tactic| first | walk_at "step0" | with_reducible refine i_ifS ?_)
local macro_rules | `(tactic| walk_at "goj") => `(tactic| repeat (first | walk_at "step0" | with_reducible refine i_ifS (c := tTest _) ?_ | with_reducible refine i_ifS (c := tB _) ?_))
local macro_rules | `(tactic| walk_at "tj") => `(tactic| (intro q hq; repeat (first | exact hq | walk_at "step" | (refine and_q hq (fun h => ?_); clear hq; rename_i hq) | (refine or_q hq (fun h => ?_); clear hq; rename_i hq))))
local macro_rules | `(tactic| walk_at "go") => `(tactic| repeat walk_at "step")

def shF (r s d1 d2 : Addr) : List (Str × V) := putF "_rules" (.ref d2) (putF "_signs" (.ref d1) (putF "_standing" (.ref s) (putF "_rows" (.ref r) [])))
/-- H' is H but for p -/
theorem ex_less {H H' : Hp} {p : Addr} (e : Ex (less H p) H') {a : Addr} {o : HO} (h : H a = some o) (n : a ≠ p) : H' a = some o := e a o (by rw [less_ne n]; exact h)
section
variable {P : Program} {w : World} {K : PySem.W.Frag} {mg : Str → Option Value} {base : Heap} {A : Ad}
def spShInit (K : PySem.W.Frag) (C : Addr) : Sp := fun vs H Q _ => ∃ (p dx t : Addr) (ts : List V) (es : List En) (F : Hp), vs = [.ref p, .ref t] ∧ H p = some (.ins C dx []) ∧ F p = none ∧ (SqL K (less H p) t ts ∨ SqT K (less H p) t ts) ∧ Ex F H ∧ EsAt F ts es ∧ (∀ e ∈ es, e.Ok) ∧ (es.map En.num).Nodup ∧ es.length < 64 ∧
  ∀ (r s d1 d2 : Addr) (ts' : List V) (es' : List En) (kv1 kv2 : List (Key × V)) (H' : Hp), Ex (less H p) H' → H' p = some (.ins C dx (shF r s d1 d2)) → H r = none → H s = none → H d1 = none → H d2 = none → r ≠ s → H' r = some (.tup ts') → H' s = some (.dK (stKv es')) → H' d1 = some (.dK kv1) → H' d2 = some (.dK kv2) → EsAt F ts' es' → es'.Perm es → Asc (es'.map En.num) → Q .non H'
theorem ok_Sheet___init__ (T : Txt K mg A) : FnOk P w K mg base CX0 5 A.f_Sheet_XinitX A.d_Sheet_XinitX ["self", "entries"] (spShInit K A.C_Sheet) := by
  refine T.F_Sheet_XinitX.ok sc_Sheet_XinitX (fun vs H Q E h => ?_) (fun cdv Ar outer s0 H vs Q E hr h => ?_)
  · obtain ⟨p, dx, t, ts, es, F, rfl, _⟩ := h; rfl
  · obtain ⟨p, dx, t, ts, es, F, rfl, hp, fp, hs, x, EA, O, nd, l64, k⟩ := h
    have x0 : Ex (less H p) H := fun a o h => by
      by_cases q : a = p
      · subst q; rw [less_same] at h; cases h
      · rw [less_ne q] at h; exact h
    have hp0 : (less H p) p = none := less_same
    refine ⟨_, (pss_cons (ps_set (i := 2) sc_Sheet_XinitX.nd rfl (Or.inl rfl) (pe_call (ok_joined T) (hr.mono (by decide)) rfl T.g_joined T.F_joined.kp T.bi_joined .nil pass0 (pa_cons (pv 1) pa_nil)))
  (pss_cons (ps_set (i := 3) sc_Sheet_XinitX.nd rfl (Or.inl rfl) (pe_call (ok_standing T) (hr.mono (by decide)) rfl T.g_standing T.F_standing.kp T.bi_standing .nil pass0 (pa_cons (pv 2) pa_nil)))
  (pss_cons (ps_fld (pv 0) (pv 2) rfl)
  (pss_cons (ps_fld (pv 0) (pv 3) rfl)
  (pss_cons (ps_fld (pv 0) (pe_call (ok_told_names T) (hr.mono (by decide)) rfl T.g_told_names T.F_told_names.kp T.bi_told_names .nil pass0 (pa_cons (pv 2) (pa_cons (pv 3) (pa_cons pe_str pa_nil)))) rfl)
  (pss_one (ps_fld (pv 0) (pe_call (ok_told_names T) (hr.mono (by decide)) rfl T.g_told_names T.F_told_names.kp T.bi_told_names .nil pass0 (pa_cons (pv 2) (pa_cons (pv 3) (pa_cons pe_str pa_nil)))) rfl))))))), ?_⟩
    dsimp only [cxOf, Cx.nox, Cx.wish]
    walk_at "go"
    refine ⟨t, ts, es, F, rfl, hs.imp (_root_.Evl.ex_l x0) (_root_.Evl.ex_t x0), x, EA, O, nd, l64, fun r ts' es' H1 e1 hr0 hr1 EA' pe asc => ?_⟩
    have el' : es'.length < 1000 := by have := pe.length_eq; omega
    have x1 := x.trans e1
    walk_at "go"
    refine ⟨r, ts', es', F, rfl, SqT.of hr1, x1, EA', asc, el', fun s H2 e2 hs0 hs1 => ?_⟩
    have hp2 := e2 _ _ (e1 _ _ hp)
    have hr2 := e2 _ _ hr1
    have pr : p ≠ r := ne_of_none hp hr0
    have ps : p ≠ s := ne_of_none (e1 _ _ hp) hs0
    have rs : r ≠ s := ne_of_none hr1 hs0
    walk_at "go"
    refine i_sfldV hp2 T.cl_Sheet T.na_Sheet__rows (by decide) ?_
    walk_at "go"
    refine i_sfldV upd_same T.cl_Sheet T.na_Sheet__standing (by show 1 < 1000; decide) ?_
    rw [upd_upd]
    have e3 : Ex (less H p) (upd H2 p (.ins A.C_Sheet dx (putF "_standing" (.ref s) (putF "_rows" (.ref r) [])))) := ex_mut hp0 (x0.trans (e1.trans e2))
    have x3 : Ex F (upd H2 p (.ins A.C_Sheet dx (putF "_standing" (.ref s) (putF "_rows" (.ref r) [])))) := ex_mut fp (x1.trans e2)
    have hr3 := upd_oth (u' := .ins A.C_Sheet dx (putF "_standing" (.ref s) (putF "_rows" (.ref r) []))) pr.symm hr2
    have hs3 := upd_oth (u' := .ins A.C_Sheet dx (putF "_standing" (.ref s) (putF "_rows" (.ref r) []))) ps.symm hs1
    have hp3 : (upd H2 p (.ins A.C_Sheet dx (putF "_standing" (.ref s) (putF "_rows" (.ref r) [])))) p = _ := upd_same
    generalize upd H2 p (.ins A.C_Sheet dx (putF "_standing" (.ref s) (putF "_rows" (.ref r) []))) = H3 at e3 x3 hr3 hs3 hp3
    walk_at "go"
    refine ⟨r, s, "sign", ts', es', F, rfl, SqT.of hr3, x3, EA', hs3, el', .inl rfl, fun d1 H4 kv1 e4 h40 h41 => ?_⟩
    have hp4 := e4 _ _ hp3
    have p1 : p ≠ d1 := ne_of_none hp3 h40
    walk_at "go"
    refine i_sfldV hp4 T.cl_Sheet T.na_Sheet__signs (by show 2 < 1000; decide) ?_
    have e5 : Ex (less H p) (upd H4 p (.ins A.C_Sheet dx (putF "_signs" (.ref d1) (putF "_standing" (.ref s) (putF "_rows" (.ref r) []))))) := ex_mut hp0 (e3.trans e4)
    have x5 : Ex F (upd H4 p (.ins A.C_Sheet dx (putF "_signs" (.ref d1) (putF "_standing" (.ref s) (putF "_rows" (.ref r) []))))) := ex_mut fp (x3.trans e4)
    have hr5 := upd_oth (u' := .ins A.C_Sheet dx (putF "_signs" (.ref d1) (putF "_standing" (.ref s) (putF "_rows" (.ref r) [])))) pr.symm (e4 _ _ hr3)
    have hs5 := upd_oth (u' := .ins A.C_Sheet dx (putF "_signs" (.ref d1) (putF "_standing" (.ref s) (putF "_rows" (.ref r) [])))) ps.symm (e4 _ _ hs3)
    have h51 := upd_oth (u' := .ins A.C_Sheet dx (putF "_signs" (.ref d1) (putF "_standing" (.ref s) (putF "_rows" (.ref r) [])))) p1.symm h41
    have hp5 : (upd H4 p (.ins A.C_Sheet dx (putF "_signs" (.ref d1) (putF "_standing" (.ref s) (putF "_rows" (.ref r) []))))) p = _ := upd_same
    generalize upd H4 p (.ins A.C_Sheet dx (putF "_signs" (.ref d1) (putF "_standing" (.ref s) (putF "_rows" (.ref r) [])))) = H5 at e5 x5 hr5 hs5 hp5 h51
    walk_at "go"
    refine ⟨r, s, "rule", ts', es', F, rfl, SqT.of hr5, x5, EA', hs5, el', .inr rfl, fun d2 H6 kv2 e6 h60 h61 => ?_⟩
    have hp6 := e6 _ _ hp5
    have p2 : p ≠ d2 := ne_of_none hp5 h60
    walk_at "go"
    refine i_sfldV hp6 T.cl_Sheet T.na_Sheet__rules (by show 3 < 1000; decide) ?_
    have no : ∀ {H' : Hp} {a : Addr}, Ex (less H p) H' → H' a = none → p ≠ a → H a = none := fun {H' a} e n q => by
      have := ex_none e n
      rw [less_ne q.symm] at this
      exact this
    walk_at "go"
    exact k r s d1 d2 ts' es' kv1 kv2 _ (ex_mut hp0 (e5.trans e6)) upd_same hr0 (ex_none e1 hs0) (no e3 h40 p1) (no e5 h60 p2) rs (upd_oth pr.symm (e6 _ _ hr5)) (upd_oth ps.symm (e6 _ _ hs5)) (upd_oth p1.symm (e6 _ _ h51)) (upd_oth p2.symm h61) EA' pe asc
end
end Dh
/-! K02J -/
set_option Elab.async false
set_option linter.all false
set_option maxRecDepth 100000
set_option maxHeartbeats 4000000
namespace Dh
open PySem PySem.Spec L2
open _root_.Evl (Ex)
local macro_rules | `(tactic| walk_at "ex") => `(tactic| first | assumption | ((with_reducible apply ex_mut); (focus assumption); walk_at "ex") | ((with_reducible apply ex_both); walk_at "ex") | ((with_reducible apply ex_new); (focus assumption); walk_at "ex"))
local macro_rules | `(tactic| walk_at "hp") => `(tactic| first | assumption | with_reducible exact upd_same | ((with_reducible apply upd_old); (focus assumption); walk_at "hp") | ((with_reducible apply upd_oth); (focus walk_at "neq"); walk_at "hp") | ((with_reducible apply ex_by); (focus assumption); walk_at "ex") | ((with_reducible apply ex_at); (focus assumption); walk_at "hp"))
local macro_rules | `(tactic| walk_at "neq") => `(tactic| first | assumption | (apply Ne.symm; assumption))
local macro_rules | `(tactic| walk_at "sq") => `(tactic| first | assumption | ((with_reducible apply SqL.of); walk_at "hp") | ((with_reducible apply SqT.of); walk_at "hp"))
local macro_rules | `(tactic| walk_at "side") => `(tactic| first | assumption | decide | exact cm_fmod (by decide) (by decide) | (show _ ≠ (0 : Int); decide) | (show _ ≠ (0 : Int); omega) | exact Or.inr ⟨by decide, by decide⟩ | exact Or.inl ⟨by decide, by decide⟩ | (show CDivN _ _; exact ⟨by decide, by decide⟩) | (show CDivN _ _; exact ⟨by omega, by omega⟩) | exact Or.inl ⟨by omega, by omega⟩ | exact Or.inr ⟨by omega, by omega⟩ | exact ⟨by decide, by decide, by decide⟩)
local macro_rules | `(tactic| walk_at "ix") => `(tactic| first | exact rfl | assumption | exact atI_nat (by assumption))
local macro_rules | `(tactic| walk_at "step0") => `(tactic| first
  | with_reducible refine i_seq ?_
  | with_reducible refine i_asg ?_
  | with_reducible refine i_op ?_
  | ((with_reducible refine' i_var ?hv ?_); (case hv => exact rfl))
  | with_reducible refine i_c ?_
  | with_reducible refine i_cons ?_
  | with_reducible refine i_nil ?_
  | with_reducible refine i_cb ?_
  | with_reducible refine i_call ?_
  | with_reducible refine i_call' ?_
  | with_reducible refine i_un ?_
  | with_reducible refine i_I0 ?_
  | ((with_reducible refine i_I ?hv ?_); (case hv => walk_at "side"))
  | with_reducible refine i_eqI ?_
  | with_reducible refine i_neI ?_
  | with_reducible refine i_eqS ?_
  | with_reducible refine i_neS ?_
  | ((with_reducible refine i_eq ?hv ?_); (case hv => exact rfl))
  | ((with_reducible refine i_ne ?hv ?_); (case hv => exact rfl))
  | with_reducible refine i_int1 ?_
  | with_reducible refine i_abs ?_
  | ((with_reducible refine' i_ixL ?hv ?hw ?_); (case hv => walk_at "sq"); (case hw => walk_at "ix"))
  | ((with_reducible refine' i_ixT ?hv ?hw ?_); (case hv => walk_at "sq"); (case hw => walk_at "ix"))
  | ((with_reducible refine' i_lenL ?hv ?_); (case hv => walk_at "sq"))
  | ((with_reducible refine' i_lenT ?hv ?_); (case hv => walk_at "sq"))
  | with_reducible refine i_addIB ?_
  | with_reducible refine i_mulIB ?_
  | ((with_reducible refine i_lenS ?hv ?_); (case hv => walk_at "side"))
  | with_reducible refine i_tup ?_
  | with_reducible refine i_lst ?_
  | with_reducible refine i_asgG ?_
  | with_reducible refine i_gname ?_
  | with_reducible refine i_gsub ?_
  | ((with_reducible refine' i_setL ?hv ?hw ?_); (case hv => walk_at "hp"); (case hw => exact rfl))
  | with_reducible refine i_ret ?_
  | with_reducible refine i_drop ?_
  | with_reducible refine i_next ?_
  | with_reducible refine i_test ?_
  | with_reducible refine i_B ?_
  | with_reducible refine i_bl ?_
  | with_reducible refine i_not ?_
  | with_reducible refine i_and ?_
  | with_reducible refine i_or ?_
  | ((with_reducible refine' i_app ?hv ?hw ?_); (case hv => walk_at "hp"); (case hw => walk_at "side"))
  | with_reducible refine iteT ?_
  | with_reducible refine iteF ?_
  | with_reducible refine iteNT ?_
  | with_reducible refine iteNF ?_
  | ((with_reducible refine iteT' ?hv ?_); (case hv => first | exact decide_eq_true (by assumption) | exact notF (by assumption) | exact decide_eq_true rfl | exact notF (by decide) | exact decide_eq_true (by decide) | exact decide_eq_true (by simp only [List.length_cons, List.length_nil]; decide)))
  | ((with_reducible refine iteF' ?hv ?_); (case hv => first | exact decide_eq_false (by assumption) | exact notT (by assumption) | exact notT rfl | exact decide_eq_false (by decide) | exact decide_eq_false (by simp only [List.length_cons, List.length_nil]; decide)))
  | with_reducible refine i_forL ?_
  | with_reducible refine i_forT ?_
  | with_reducible refine i_forR ?_
  | with_reducible refine i_forR2 ?_
  | with_reducible refine i_forE ?_
  | with_reducible refine i_forV ?_
  | with_reducible refine i_forS ?_
  | with_reducible refine i_forK ?_
  | with_reducible refine i_lcL ?_
  | with_reducible refine i_lcT ?_
  | with_reducible refine i_lcR ?_
  | with_reducible refine i_lcR2 ?_
  | with_reducible refine i_lcS ?_
  | with_reducible refine i_lcK ?_
  | ((with_reducible refine' fl_L ?hv ?_); (case hv => walk_at "sq"))
  | ((with_reducible refine' fl_T ?hv ?_); (case hv => walk_at "sq"))
  | ((with_reducible refine fl_R ?hv ?hw ?_); (case hv => (first | decide | omega)); (case hw => (first | decide | omega)))
  | ((with_reducible refine fl_R2 ?hv ?_); (case hv => (first | decide | (refine ⟨?_, ?_, ?_, ?_⟩ <;> omega))))
  | ((with_reducible refine' fl_E ?hv ?_); (case hv => walk_at "sq"))
  | ((with_reducible refine' fl_V ?hv ?_); (case hv => walk_at "sq"))
  | with_reducible refine fl_S ?_
  | ((with_reducible refine' fc_L ?hv ?_); (case hv => walk_at "sq"))
  | ((with_reducible refine' fc_T ?hv ?_); (case hv => walk_at "sq"))
  | ((with_reducible refine fc_R ?hv ?hw ?_); (case hv => (first | decide | omega)); (case hw => (first | decide | omega)))
  | with_reducible refine fc_S ?_
  | with_reducible refine i_sl ?_
  | with_reducible refine i_nopart ?_
  | with_reducible refine i_part ?_
  | with_reducible refine i_isint ?_
  | ((with_reducible refine' i_slL ?hv ?_); (case hv => walk_at "sq"))
  | ((with_reducible refine i_slS ?hv ?_); (case hv => walk_at "side"))
  | ((with_reducible refine' i_gtup ?hv ?hw ?_); (case hv => walk_at "sq"); (case hw => exact rfl))
  | with_reducible refine i_gcons ?_
  | with_reducible refine i_gnil ?_
  | ((with_reducible refine' i_listL ?hv ?_); (case hv => walk_at "sq"))
  | ((with_reducible refine' i_listT ?hv ?_); (case hv => walk_at "sq"))
  | ((with_reducible refine' i_tupL ?hv ?_); (case hv => walk_at "sq"))
  | ((with_reducible refine' i_lenD ?hv ?_); (case hv => walk_at "hp"))
  | ((with_reducible refine' i_ty ?hv ?_); (case hv => walk_at "hp"))
  | ((with_reducible refine And.intro ?hv ?_); (case hv => first | exact (by decide : (0 : Nat) ≤ sizeLine) | exact (by decide : (1 : Nat) ≤ sizeLine) | exact (by decide : (2 : Nat) ≤ sizeLine) | exact (by decide : (3 : Nat) ≤ sizeLine) | exact (by decide : (4 : Nat) ≤ sizeLine) | exact (by decide : (5 : Nat) ≤ sizeLine) | exact (by decide : (6 : Nat) ≤ sizeLine)))
  | with_reducible refine i_inC ?_
  | ((with_reducible refine i_addT ?hv ?_); (case hv => walk_at "side"))
  | with_reducible refine i_m1 ?_
  | with_reducible refine i_isstr ?_
  | with_reducible refine is_int_int ?_
  | with_reducible refine is_int_bool ?_
  | with_reducible refine is_str_str ?_
  | ((with_reducible refine' is_tup_tup ?hv ?_); (case hv => walk_at "hp"))
  | with_reducible refine i_ifExp ?_
  | with_reducible refine i_andV ?_
  | with_reducible refine i_orV ?_
  | with_reducible refine i_notV ?_
  | with_reducible refine i_chain ?_
  | ((with_reducible refine' i_inS ?hv ?_); (case hv => walk_at "sq"))
  | ((with_reducible refine' i_niS ?hv ?_); (case hv => walk_at "sq"))
  | ((with_reducible refine' i_inI ?hv ?_); (case hv => walk_at "sq"))
  | ((with_reducible refine' i_niI ?hv ?_); (case hv => walk_at "sq"))
  | with_reducible refine i_dnew ?_
  | with_reducible refine i_dput ?_
  | ((with_reducible refine' i_dputI ?hv ?hw ?_); (case hv => walk_at "hp"); (case hw => walk_at "side"))
  | with_reducible refine i_dget ?_
  | ((with_reducible refine' i_dgetI ?hv ?hw ?_); (case hv => walk_at "hp"); (case hw => assumption))
  | with_reducible refine i_dnotin ?_
  | with_reducible refine i_din ?_
  | ((with_reducible refine' i_dnotinI ?hv ?_); (case hv => walk_at "hp"))
  | with_reducible refine i_dsetd ?_
  | ((with_reducible refine' i_isd ?hv ?_); (case hv => walk_at "hp"))
  | with_reducible refine i_fld ?_
  | with_reducible refine i_sfld ?_
  | with_reducible refine i_dcT ?_
  | with_reducible refine i_dcL ?_
  | with_reducible refine i_truT ?_
  | ((with_reducible refine' i_truL ?hv ?_); (case hv => walk_at "sq"))
  | with_reducible refine i_revL ?_
  | ((with_reducible refine' i_atLx ?hv ?_); (case hv => walk_at "sq"))
  | with_reducible refine i_bm ?_
  | with_reducible refine i_bm0 ?_)
local macro_rules | `(tactic| walk_at "step") => `(tactic| first | walk_at "step0" | with_reducible refine i_ifS ?_)
local macro_rules | `(tactic| walk_at "goj") => `(tactic| repeat (first | walk_at "step0" | with_reducible refine i_ifS (c := tTest _) ?_ | with_reducible refine i_ifS (c := tB _) ?_))
local macro_rules | `(tactic| walk_at "tj") => `(tactic| (intro q hq; repeat (first | exact hq | walk_at "step" | (refine and_q hq (fun h => ?_); clear hq; rename_i hq) | (refine or_q hq (fun h => ?_); clear hq; rename_i hq))))
local macro_rules | `(tactic| walk_at "go") => `(tactic| repeat walk_at "step")

section
variable {P : Program} {w : World} {K : PySem.W.Frag} {mg : Str → Option Value} {base : Heap} {A : Ad}
theorem shF_r {r s d1 d2 : Addr} : (shF r s d1 d2).lookup ("_rows" : Str) = some (.ref r) := by
  unfold shF
  rw [lookup_putF, if_neg (by decide +kernel), lookup_putF, if_neg (by decide +kernel), lookup_putF, if_neg (by decide +kernel), lookup_putF, if_pos rfl]
theorem shF_s {r s d1 d2 : Addr} : (shF r s d1 d2).lookup ("_standing" : Str) = some (.ref s) := by
  unfold shF
  rw [lookup_putF, if_neg (by decide +kernel), lookup_putF, if_neg (by decide +kernel), lookup_putF, if_pos rfl]
theorem shF_1 {r s d1 d2 : Addr} : (shF r s d1 d2).lookup ("_signs" : Str) = some (.ref d1) := by
  unfold shF
  rw [lookup_putF, if_neg (by decide +kernel), lookup_putF, if_pos rfl]
theorem shF_2 {r s d1 d2 : Addr} : (shF r s d1 d2).lookup ("_rules" : Str) = some (.ref d2) := by
  unfold shF
  rw [lookup_putF, if_pos rfl]
def spNoE (C : Addr) : Sp := fun vs H Q _ => ∃ (a : Addr) (n : Int), vs = [.ref a, .int n] ∧ H a = some (exo a C none) ∧ ∀ d, H d = none → d ≠ a → Q .non (upd (upd H d (exd d [("number", .int n)])) a (exo a C (some d)))
theorem ok_NoEntry___init__ (T : Txt K mg A) : FnOk P w K mg base CX0 1 A.f_NoEntry_XinitX A.d_NoEntry_XinitX ["self", "number"] (spNoE A.C_NoEntry) := by
  refine T.F_NoEntry_XinitX.ok sc_NoEntry_XinitX (fun vs H Q E h => ?_) (fun cdv Ar outer s0 H vs Q E hr h => ?_)
  · obtain ⟨a, n, rfl, _⟩ := h; rfl
  · obtain ⟨a, n, rfl, ha, k⟩ := h
    refine ⟨_, (pss_one (ps_ost (pv 0) (pv 1) rfl)), ?_⟩
    dsimp only [cxOf, Cx.nox, Cx.wish]
    exact ⟨_, rfl, _, rfl, a, A.C_NoEntry, rfl, T.ox_NoEntry, T.nx_NoEntry, .inl ⟨ha, fun dx n0 ne => k dx n0 ne⟩⟩
def spStands (C D : Addr) : Sp := fun vs H Q E => ∃ (p : Addr) (n : Int) (dx r s d1 d2 : Addr) (es : List En), vs = [.ref p, .int n] ∧ H p = some (.ins C dx (shF r s d1 d2)) ∧ H s = some (.dK (stKv es)) ∧ 1 ≤ n ∧ n ≤ 999 ∧ (n ∈ es.map En.num → Q (.bl (stB es n)) H) ∧
  (n ∉ es.map En.num → ∀ (d : Addr) (H' : Hp), Ex H H' → H d = none → H' d = some (.xd [("number", .int n)]) → E (.ref D) (some d) H')
theorem ok_Sheet_stands (T : Txt K mg A) : FnOk P w K mg base (L2N.CX P w) 3 A.f_Sheet_stands A.d_Sheet_stands ["self", "number"] (spStands A.C_Sheet A.C_NoEntry) := by
  refine okN T.F_Sheet_stands sc_Sheet_stands (fun vs H Q E h => ?_) (fun cdv Ar outer s0 H vs Q E hr h => ?_)
  · obtain ⟨p, n, dx, r, s, d1, d2, es, rfl, _⟩ := h; rfl
  · obtain ⟨p, n, dx, r, s, d1, d2, es, rfl, hp, hs, n1, n9, k1, k2⟩ := h
    refine ⟨_, (pss_cons (ps_if (PW.pt (pw_or (pt_not (pt_val (pe_call (ok_is_number T) (hr.mono (by decide)) rfl T.g_is_number T.F_is_number.kp T.bi_is_number .nil pass0 (pa_cons (pv 1) (pa_cons pe_int (pa_cons (pe_glob (v := .int 999) rfl T.c_MOST_NUMBER ⟨_, rfl⟩) pa_nil)))))) (pw_or1 (pt_cmp (pc_dnotin (hu_of hr) (pv 1) (pe_fld (pv 0) rfl)))))) (pss_one (L2N.ps_raise rfl (L2N.takes_of rfl rfl rfl rfl) (mkN T.ox_NoEntry T.ix_NoEntry T.tx_NoEntry (ok_NoEntry___init__ T) (hr.mono (by decide)) T.bi_NoEntry_XinitX pass0 rfl T.g_NoEntry (pa_cons (pv 1) pa_nil)))) pss_nil)
  (pss_one (ps_ret (pe_dget (hu_of hr) (pe_fld (pv 0) rfl) (pv 1) (fun _ _ => rfl))))), ?_⟩
    dsimp only [cxOf, Cx.nox, Cx.wish]
    walk_at "go"
    refine i_numT n1 n9 ?_
    walk_at "go"
    refine i_fldR hp T.cl_Sheet T.na_Sheet__standing shF_s ?_
    walk_at "go"
    by_cases m : n ∈ es.map En.num
    · have hv : valV (stKv es) (Sum.inl n) = some (.bl (stB es n)) := by
        unfold stKv
        rw [stKv_val (g := fun n => .bl (stB es n)), if_pos m]
      rw [hv]
      dsimp only [Option.isSome]
      walk_at "go"
      refine i_fldR hp T.cl_Sheet T.na_Sheet__standing shF_s ?_
      walk_at "go"
      exact k1 m
    · have hv : valV (stKv es) (Sum.inl n) = none := by
        unfold stKv
        rw [stKv_val (g := fun n => .bl (stB es n)), if_neg m]
      rw [hv]
      dsimp only [Option.isSome]
      walk_at "go"
      refine ⟨_, rfl, (by show 1 ≤ 1000; decide), fun a ha => ⟨a, n, rfl, upd_same, fun d hd da => ⟨rfl, d, [("number", .int n)], upd_same, upd_oth da upd_same, ?_, ?_⟩⟩⟩
      · rw [upd_ne da] at hd; exact hd
      · rw [upd_ne da] at hd
        refine k2 m d _ (fun b o hb => ?_) hd upd_same
        have bd : b ≠ d := ne_of_none hb hd
        have ba : b ≠ a := ne_of_none hb ha
        rw [upd_ne bd, del_ne ba, upd_ne ba, upd_ne bd, upd_ne ba]
        exact hb
end
end Dh
/-! K02K -/
set_option Elab.async false
set_option linter.all false
set_option maxRecDepth 100000
set_option maxHeartbeats 4000000
namespace Dh
open PySem PySem.Spec L2
open _root_.Evl (Ex)
local macro_rules | `(tactic| walk_at "ex") => `(tactic| first | assumption | ((with_reducible apply ex_mut); (focus assumption); walk_at "ex") | ((with_reducible apply ex_both); walk_at "ex") | ((with_reducible apply ex_new); (focus assumption); walk_at "ex"))
local macro_rules | `(tactic| walk_at "hp") => `(tactic| first | assumption | with_reducible exact upd_same | ((with_reducible apply upd_old); (focus assumption); walk_at "hp") | ((with_reducible apply upd_oth); (focus walk_at "neq"); walk_at "hp") | ((with_reducible apply ex_by); (focus assumption); walk_at "ex") | ((with_reducible apply ex_at); (focus assumption); walk_at "hp"))
local macro_rules | `(tactic| walk_at "neq") => `(tactic| first | assumption | (apply Ne.symm; assumption))
local macro_rules | `(tactic| walk_at "sq") => `(tactic| first | assumption | ((with_reducible apply SqL.of); walk_at "hp") | ((with_reducible apply SqT.of); walk_at "hp"))
local macro_rules | `(tactic| walk_at "side") => `(tactic| first | assumption | decide | exact cm_fmod (by decide) (by decide) | (show _ ≠ (0 : Int); decide) | (show _ ≠ (0 : Int); omega) | exact Or.inr ⟨by decide, by decide⟩ | exact Or.inl ⟨by decide, by decide⟩ | (show CDivN _ _; exact ⟨by decide, by decide⟩) | (show CDivN _ _; exact ⟨by omega, by omega⟩) | exact Or.inl ⟨by omega, by omega⟩ | exact Or.inr ⟨by omega, by omega⟩ | exact ⟨by decide, by decide, by decide⟩)
local macro_rules | `(tactic| walk_at "ix") => `(tactic| first | exact rfl | assumption | exact atI_nat (by assumption))
local macro_rules | `(tactic| walk_at "step0") => `(tactic| first
  | with_reducible refine i_seq ?_
  | with_reducible refine i_asg ?_
  | with_reducible refine i_op ?_
  | ((with_reducible refine' i_var ?hv ?_); (case hv => exact rfl))
  | with_reducible refine i_c ?_
  | with_reducible refine i_cons ?_
  | with_reducible refine i_nil ?_
  | with_reducible refine i_cb ?_
  | with_reducible refine i_call ?_
  | with_reducible refine i_call' ?_
  | with_reducible refine i_un ?_
  | with_reducible refine i_I0 ?_
  | ((with_reducible refine i_I ?hv ?_); (case hv => walk_at "side"))
  | with_reducible refine i_eqI ?_
  | with_reducible refine i_neI ?_
  | with_reducible refine i_eqS ?_
  | with_reducible refine i_neS ?_
  | ((with_reducible refine i_eq ?hv ?_); (case hv => exact rfl))
  | ((with_reducible refine i_ne ?hv ?_); (case hv => exact rfl))
  | with_reducible refine i_int1 ?_
  | with_reducible refine i_abs ?_
  | ((with_reducible refine' i_ixL ?hv ?hw ?_); (case hv => walk_at "sq"); (case hw => walk_at "ix"))
  | ((with_reducible refine' i_ixT ?hv ?hw ?_); (case hv => walk_at "sq"); (case hw => walk_at "ix"))
  | ((with_reducible refine' i_lenL ?hv ?_); (case hv => walk_at "sq"))
  | ((with_reducible refine' i_lenT ?hv ?_); (case hv => walk_at "sq"))
  | with_reducible refine i_addIB ?_
  | with_reducible refine i_mulIB ?_
  | ((with_reducible refine i_lenS ?hv ?_); (case hv => walk_at "side"))
  | with_reducible refine i_tup ?_
  | with_reducible refine i_lst ?_
  | with_reducible refine i_asgG ?_
  | with_reducible refine i_gname ?_
  | with_reducible refine i_gsub ?_
  | ((with_reducible refine' i_setL ?hv ?hw ?_); (case hv => walk_at "hp"); (case hw => exact rfl))
  | with_reducible refine i_ret ?_
  | with_reducible refine i_drop ?_
  | with_reducible refine i_next ?_
  | with_reducible refine i_test ?_
  | with_reducible refine i_B ?_
  | with_reducible refine i_bl ?_
  | with_reducible refine i_not ?_
  | with_reducible refine i_and ?_
  | with_reducible refine i_or ?_
  | ((with_reducible refine' i_app ?hv ?hw ?_); (case hv => walk_at "hp"); (case hw => walk_at "side"))
  | with_reducible refine iteT ?_
  | with_reducible refine iteF ?_
  | with_reducible refine iteNT ?_
  | with_reducible refine iteNF ?_
  | ((with_reducible refine iteT' ?hv ?_); (case hv => first | exact decide_eq_true (by assumption) | exact notF (by assumption) | exact decide_eq_true rfl | exact notF (by decide) | exact decide_eq_true (by decide) | exact decide_eq_true (by simp only [List.length_cons, List.length_nil]; decide)))
  | ((with_reducible refine iteF' ?hv ?_); (case hv => first | exact decide_eq_false (by assumption) | exact notT (by assumption) | exact notT rfl | exact decide_eq_false (by decide) | exact decide_eq_false (by simp only [List.length_cons, List.length_nil]; decide)))
  | with_reducible refine i_forL ?_
  | with_reducible refine i_forT ?_
  | with_reducible refine i_forR ?_
  | with_reducible refine i_forR2 ?_
  | with_reducible refine i_forE ?_
  | with_reducible refine i_forV ?_
  | with_reducible refine i_forS ?_
  | with_reducible refine i_forK ?_
  | with_reducible refine i_lcL ?_
  | with_reducible refine i_lcT ?_
  | with_reducible refine i_lcR ?_
  | with_reducible refine i_lcR2 ?_
  | with_reducible refine i_lcS ?_
  | with_reducible refine i_lcK ?_
  | ((with_reducible refine' fl_L ?hv ?_); (case hv => walk_at "sq"))
  | ((with_reducible refine' fl_T ?hv ?_); (case hv => walk_at "sq"))
  | ((with_reducible refine fl_R ?hv ?hw ?_); (case hv => (first | decide | omega)); (case hw => (first | decide | omega)))
  | ((with_reducible refine fl_R2 ?hv ?_); (case hv => (first | decide | (refine ⟨?_, ?_, ?_, ?_⟩ <;> omega))))
  | ((with_reducible refine' fl_E ?hv ?_); (case hv => walk_at "sq"))
  | ((with_reducible refine' fl_V ?hv ?_); (case hv => walk_at "sq"))
  | with_reducible refine fl_S ?_
  | ((with_reducible refine' fc_L ?hv ?_); (case hv => walk_at "sq"))
  | ((with_reducible refine' fc_T ?hv ?_); (case hv => walk_at "sq"))
  | ((with_reducible refine fc_R ?hv ?hw ?_); (case hv => (first | decide | omega)); (case hw => (first | decide | omega)))
  | with_reducible refine fc_S ?_
  | with_reducible refine i_sl ?_
  | with_reducible refine i_nopart ?_
  | with_reducible refine i_part ?_
  | with_reducible refine i_isint ?_
  | ((with_reducible refine' i_slL ?hv ?_); (case hv => walk_at "sq"))
  | ((with_reducible refine i_slS ?hv ?_); (case hv => walk_at "side"))
  | ((with_reducible refine' i_gtup ?hv ?hw ?_); (case hv => walk_at "sq"); (case hw => exact rfl))
  | with_reducible refine i_gcons ?_
  | with_reducible refine i_gnil ?_
  | ((with_reducible refine' i_listL ?hv ?_); (case hv => walk_at "sq"))
  | ((with_reducible refine' i_listT ?hv ?_); (case hv => walk_at "sq"))
  | ((with_reducible refine' i_tupL ?hv ?_); (case hv => walk_at "sq"))
  | ((with_reducible refine' i_lenD ?hv ?_); (case hv => walk_at "hp"))
  | ((with_reducible refine' i_ty ?hv ?_); (case hv => walk_at "hp"))
  | ((with_reducible refine And.intro ?hv ?_); (case hv => first | exact (by decide : (0 : Nat) ≤ sizeLine) | exact (by decide : (1 : Nat) ≤ sizeLine) | exact (by decide : (2 : Nat) ≤ sizeLine) | exact (by decide : (3 : Nat) ≤ sizeLine) | exact (by decide : (4 : Nat) ≤ sizeLine) | exact (by decide : (5 : Nat) ≤ sizeLine) | exact (by decide : (6 : Nat) ≤ sizeLine)))
  | with_reducible refine i_inC ?_
  | ((with_reducible refine i_addT ?hv ?_); (case hv => walk_at "side"))
  | with_reducible refine i_m1 ?_
  | with_reducible refine i_isstr ?_
  | with_reducible refine is_int_int ?_
  | with_reducible refine is_int_bool ?_
  | with_reducible refine is_str_str ?_
  | ((with_reducible refine' is_tup_tup ?hv ?_); (case hv => walk_at "hp"))
  | with_reducible refine i_ifExp ?_
  | with_reducible refine i_andV ?_
  | with_reducible refine i_orV ?_
  | with_reducible refine i_notV ?_
  | with_reducible refine i_chain ?_
  | ((with_reducible refine' i_inS ?hv ?_); (case hv => walk_at "sq"))
  | ((with_reducible refine' i_niS ?hv ?_); (case hv => walk_at "sq"))
  | ((with_reducible refine' i_inI ?hv ?_); (case hv => walk_at "sq"))
  | ((with_reducible refine' i_niI ?hv ?_); (case hv => walk_at "sq"))
  | with_reducible refine i_dnew ?_
  | with_reducible refine i_dput ?_
  | ((with_reducible refine' i_dputI ?hv ?hw ?_); (case hv => walk_at "hp"); (case hw => walk_at "side"))
  | with_reducible refine i_dget ?_
  | ((with_reducible refine' i_dgetI ?hv ?hw ?_); (case hv => walk_at "hp"); (case hw => assumption))
  | with_reducible refine i_dnotin ?_
  | with_reducible refine i_din ?_
  | ((with_reducible refine' i_dnotinI ?hv ?_); (case hv => walk_at "hp"))
  | with_reducible refine i_dsetd ?_
  | ((with_reducible refine' i_isd ?hv ?_); (case hv => walk_at "hp"))
  | with_reducible refine i_fld ?_
  | with_reducible refine i_sfld ?_
  | with_reducible refine i_dcT ?_
  | with_reducible refine i_dcL ?_
  | with_reducible refine i_truT ?_
  | ((with_reducible refine' i_truL ?hv ?_); (case hv => walk_at "sq"))
  | with_reducible refine i_revL ?_
  | ((with_reducible refine' i_atLx ?hv ?_); (case hv => walk_at "sq"))
  | with_reducible refine i_bm ?_
  | with_reducible refine i_bm0 ?_)
local macro_rules | `(tactic| walk_at "step") => `(tactic| first | walk_at "step0" | with_reducible refine i_ifS ?_)
local macro_rules | `(tactic| walk_at "goj") => `(tactic| repeat (first | walk_at "step0" | with_reducible refine i_ifS (c := tTest _) ?_ | with_reducible refine i_ifS (c := tB _) ?_))
local macro_rules | `(tactic| walk_at "tj") => `(tactic| (intro q hq; repeat (first | exact hq | walk_at "step" | (refine and_q hq (fun h => ?_); clear hq; rename_i hq) | (refine or_q hq (fun h => ?_); clear hq; rename_i hq))))
local macro_rules | `(tactic| walk_at "go") => `(tactic| repeat walk_at "step")

section
variable {P : Program} {w : World} {K : PySem.W.Frag} {mg : Str → Option Value} {base : Heap} {A : Ad}
def spNum : Sp := fun vs H Q _ => ∃ n : Int, vs = [.int n] ∧ Q (.bl true) H
theorem okh_l_number (T : Txt K mg A) : L2H.FnH P w K mg base CX0 1 A.f_l_number A.d_l_number ["_law_thing"] spNum := by
  refine okH T.F_l_number sc_l_number (fun vs H Q E h => ?_) (fun cdv Ar outer s0 H vs Q E pp hr h => ?_)
  · obtain ⟨n, rfl, _⟩ := h; rfl
  · obtain ⟨n, rfl, k⟩ := h
    refine ⟨_, (pss_one (ps_ret (pe_and (pe_callB call_isi (by rfl) T.b_isinstance (by decide +kernel) (pa_cons (pv 0) (pa_cons (pe_bltn (v := .ty "int") (by rfl) T.b_int (by decide +kernel) rfl) pa_nil))) (pe_one (pe_not (pe_callB call_isi (by rfl) T.b_isinstance (by decide +kernel) (pa_cons (pv 0) (pa_cons (pe_bltn (v := .ty "bool") (by rfl) T.b_bool (by decide +kernel) rfl) pa_nil)))))))), ?_⟩
    dsimp only [L2H.cxH, cxOf, Cx.nox, Cx.wish]
    walk_at "go"
    exact k
theorem shF_st {r s d1 d2 : Addr} : (shF r s d1 d2).lookup ("stands" : Str) = none := by
  unfold shF
  rw [lookup_putF, if_neg (by decide +kernel), lookup_putF, if_neg (by decide +kernel), lookup_putF, if_neg (by decide +kernel), lookup_putF, if_neg (by decide +kernel)]
  rfl
theorem i_isx {K : PySem.W.Frag} {H : Hp} {D dd a : Addr} {c : V} {cv : Value} {b : Bool} {fs : List (Str × V)} {Q : VK} (h : H dd = some (.xd fs)) (hb : PySem.W.kitOne K (.ref D) cv = some b) (hc : ∀ u, RelV c u → u = cv) (k : Q (.bl b) H) : Value.ref D = Value.ref D ∧ some dd = some (ddOf (some dd)) ∧ rIsX K D (ddOf (some dd)) a [.ref a, c] H Q :=
  ⟨rfl, rfl, c, cv, b, fs, rfl, hc, hb, h, k⟩
def toldS (es : List En) (n : Int) : Str := if n ∈ es.map En.num then (if stB es n then "stands" else "gone") else "none"
def spTold (C : Addr) : Sp := fun vs H Q _ => ∃ (p : Addr) (n : Int) (dx r s d1 d2 : Addr) (es : List En), vs = [.ref p, .int n] ∧ H p = some (.ins C dx (shF r s d1 d2)) ∧ H s = some (.dK (stKv es)) ∧ 1 ≤ n ∧ n ≤ 999 ∧ ∀ H', Ex H H' → Q (.str (toldS es n)) H'
theorem ok_l_told (T : Txt K mg A) : FnOk P w K mg base CX0 4 A.f_l_told A.d_l_told ["_law_sheet", "_law_number_here"] (spTold A.C_Sheet) := by
  refine T.F_l_told.ok sc_l_told (fun vs H Q E h => ?_) (fun cdv Ar outer s0 H vs Q E hr h => ?_)
  · obtain ⟨p, n, dx, r, s, d1, d2, es, rfl, _⟩ := h; rfl
  · obtain ⟨p, n, dx, r, s, d1, d2, es, rfl, hp, hs, n1, n9, k⟩ := h
    refine ⟨_, (pss_cons (L2N.ps_try_as (i := 3) rfl rfl sc_l_told.nd rfl rfl ⟨rfl, rfl, .inl T.g_DueError⟩ takesN (fun W pn xe tk po => (pss_one (ps_set (i := 2) sc_l_told.nd rfl (Or.inl rfl) (pe_methE (pv 0) T.cl_Sheet T.m_Sheet_stands (ok_Sheet_stands T) (hr.mono (by decide)) T.bi_Sheet_stands (fun σ => L2N.passAt tk σ) (pa_cons (pv 1) pa_nil)))))
   (fun a oe cls d pn hz hf => (pss_cons (ps_set (i := 4) sc_l_told.nd rfl (Or.inl rfl) (pe_lst (pa_cons (pe_callB (call_isX (dd := ddOf d) T.ec_NoEntry hz.zc hf) (by rfl) T.b_isinstance (by decide +kernel) (pa_cons (pv 3) (pa_cons (pe_glob (v := .ref A.C_BadEntry) rfl T.g_BadEntry rfl) pa_nil))) (pa_cons (pe_callB (call_isX (dd := ddOf d) T.ec_NoEntry hz.zc hf) (by rfl) T.b_isinstance (by decide +kernel) (pa_cons (pv 3) (pa_cons (pe_glob (v := .ref A.C_BadNumber) rfl T.g_BadNumber rfl) pa_nil))) (pa_cons (pe_callB (call_isX (dd := ddOf d) T.ec_NoEntry hz.zc hf) (by rfl) T.b_isinstance (by decide +kernel) (pa_cons (pv 3) (pa_cons (pe_glob (v := .ref A.C_Clash) rfl T.g_Clash rfl) pa_nil))) pa_nil)))))
  (pss_cons (ps_if (PW.pt (pw_or (pt_cmpR (show OpR _ (compareOp .In) (rIn K false) from op_in_seq) pe_bl (pv 4) rfl) (pw_or (pt_not (pt_val (pe_callB (call_isX (dd := ddOf d) T.ec_NoEntry hz.zc hf) (by rfl) T.b_isinstance (by decide +kernel) (pa_cons (pv 3) (pa_cons (pe_bltn (v := .ty "ValueError") (by rfl) T.b_ValueError (by decide +kernel) rfl) pa_nil))))) (pw_or1 (pt_not (pt_val (pe_callB (call_isX (dd := ddOf d) T.ec_NoEntry hz.zc hf) (by rfl) T.b_isinstance (by decide +kernel) (pa_cons (pv 3) (pa_cons (pe_glob (v := .ref A.C_NoEntry) rfl T.g_NoEntry rfl) pa_nil))))))))) (pss_one (ps_ret pe_str)) pss_nil)
  (pss_one (ps_ret (pe_ifExp (PW.pt (pw_and (pt_val (L2H.pe_callH (E := fun _ _ _ _ => False) (okh_l_number T) (rh (hr.mono (by decide))) (hotc hz hf) rfl T.g_l_number T.F_l_number.kp T.bi_l_number passH (pa_cons (pe_xf T.xf_NoEntry T.nx_NoEntry hz.zc hf (pv 3)) pa_nil))) (pw_and1 (pt_cmpR op_eq (pe_xf T.xf_NoEntry T.nx_NoEntry hz.zc hf (pv 3)) (pv 1) (nomark _))))) pe_str pe_str)))))))
  (pss_cons (ps_if (pt_cmpR op_isBl (pv 2) pe_bl (nomark _)) (pss_one (ps_ret pe_str)) pss_nil)
  (pss_one (ps_ret (pe_ifExp (pt_cmpR op_isBl (pv 2) pe_bl (nomark _)) pe_str pe_str))))), ?_⟩
    dsimp only [cxOf, Cx.nox, Cx.wish]
    walk_at "go"
    refine ⟨_, rfl, p, dx, _, rfl, hp, shF_st, _, rfl, p, n, dx, r, s, d1, d2, es, rfl, hp, hs, n1, n9, fun m => ?_, fun m d H' e h0 h1 => ?_⟩
    · have q := k H (Ex.refl H)
      unfold toldS at q
      rw [if_pos m] at q
      walk_at "go"
      cases hb : stB es n with
      | true =>
        rw [hb, if_pos rfl] at q
        refine ⟨true, true, rfl, rfl, ?_⟩
        walk_at "go"
        exact q
      | false =>
        rw [hb, if_neg (by decide)] at q
        refine ⟨false, true, rfl, rfl, ?_⟩
        walk_at "go"
        refine ⟨false, false, rfl, rfl, ?_⟩
        walk_at "go"
        exact q
    · have q := k
      unfold toldS at q
      rw [if_neg m] at q
      refine ⟨true, PySem.W.exm_ref T.xf_DueError.exC T.xf_DueError.hdC T.ty_DueError T.su_NoEntry, fun _ a ha => ?_, fun z => by cases z⟩
      walk_at "go"
      refine i_isx h1 T.kb_BadEntry (fun u h => h) ?_
      walk_at "go"
      refine i_isx h1 T.kb_BadNumber (fun u h => h) ?_
      walk_at "go"
      refine i_isx h1 T.kb_Clash (fun u h => h) ?_
      walk_at "go"
      intro ls hls
      have h2 := upd_old (u' := .lst [V.bl false, .bl false, .bl false]) hls h1
      have e2 : Ex H (upd H' ls (.lst [V.bl false, .bl false, .bl false])) := e.trans (Ex.new hls)
      walk_at "goj"
      with_reducible refine i_ifJ false ?_ ?_
      · intro q hq
        walk_at "go"
        refine ⟨ls, _, rfl, .inl (SqL.of upd_same), rfl, rfl, ?_⟩
        walk_at "go"
        have ei : inV (V.bl true) [V.bl false, V.bl false, V.bl false] = false := by decide
        rw [if_neg Bool.false_ne_true, ei]
        walk_at "go"
        refine i_isx h2 T.kb_ValueError (fun u h => h) ?_
        walk_at "go"
        refine i_isx h2 T.kb_NoEntry (fun u h => h) ?_
        walk_at "go"
        exact hq
      walk_at "go"
      refine ⟨_, rfl, rfl, rfl, d, _, _, rfl, h2, rfl, n, rfl, ?_⟩
      walk_at "go"
      refine ⟨_, rfl, rfl, rfl, d, _, _, rfl, h2, rfl, ?_⟩
      walk_at "go"
      exact q _ e2
end
end Dh
/-! K02L -/
set_option Elab.async false
set_option linter.all false
set_option maxRecDepth 100000
set_option maxHeartbeats 4000000
namespace Dh
open PySem PySem.Spec L2
open _root_.Evl (Ex)
local macro_rules | `(tactic| walk_at "ex") => `(tactic| first | assumption | ((with_reducible apply ex_mut); (focus assumption); walk_at "ex") | ((with_reducible apply ex_both); walk_at "ex") | ((with_reducible apply ex_new); (focus assumption); walk_at "ex"))
local macro_rules | `(tactic| walk_at "hp") => `(tactic| first | assumption | with_reducible exact upd_same | ((with_reducible apply upd_old); (focus assumption); walk_at "hp") | ((with_reducible apply upd_oth); (focus walk_at "neq"); walk_at "hp") | ((with_reducible apply ex_by); (focus assumption); walk_at "ex") | ((with_reducible apply ex_at); (focus assumption); walk_at "hp"))
local macro_rules | `(tactic| walk_at "neq") => `(tactic| first | assumption | (apply Ne.symm; assumption))
local macro_rules | `(tactic| walk_at "sq") => `(tactic| first | assumption | ((with_reducible apply SqL.of); walk_at "hp") | ((with_reducible apply SqT.of); walk_at "hp"))
local macro_rules | `(tactic| walk_at "side") => `(tactic| first | assumption | decide | exact cm_fmod (by decide) (by decide) | (show _ ≠ (0 : Int); decide) | (show _ ≠ (0 : Int); omega) | exact Or.inr ⟨by decide, by decide⟩ | exact Or.inl ⟨by decide, by decide⟩ | (show CDivN _ _; exact ⟨by decide, by decide⟩) | (show CDivN _ _; exact ⟨by omega, by omega⟩) | exact Or.inl ⟨by omega, by omega⟩ | exact Or.inr ⟨by omega, by omega⟩ | exact ⟨by decide, by decide, by decide⟩)
local macro_rules | `(tactic| walk_at "ix") => `(tactic| first | exact rfl | assumption | exact atI_nat (by assumption))
local macro_rules | `(tactic| walk_at "step0") => `(tactic| first
  | with_reducible refine i_seq ?_
  | with_reducible refine i_asg ?_
  | with_reducible refine i_op ?_
  | ((with_reducible refine' i_var ?hv ?_); (case hv => exact rfl))
  | with_reducible refine i_c ?_
  | with_reducible refine i_cons ?_
  | with_reducible refine i_nil ?_
  | with_reducible refine i_cb ?_
  | with_reducible refine i_call ?_
  | with_reducible refine i_call' ?_
  | with_reducible refine i_un ?_
  | with_reducible refine i_I0 ?_
  | ((with_reducible refine i_I ?hv ?_); (case hv => walk_at "side"))
  | with_reducible refine i_eqI ?_
  | with_reducible refine i_neI ?_
  | with_reducible refine i_eqS ?_
  | with_reducible refine i_neS ?_
  | ((with_reducible refine i_eq ?hv ?_); (case hv => exact rfl))
  | ((with_reducible refine i_ne ?hv ?_); (case hv => exact rfl))
  | with_reducible refine i_int1 ?_
  | with_reducible refine i_abs ?_
  | ((with_reducible refine' i_ixL ?hv ?hw ?_); (case hv => walk_at "sq"); (case hw => walk_at "ix"))
  | ((with_reducible refine' i_ixT ?hv ?hw ?_); (case hv => walk_at "sq"); (case hw => walk_at "ix"))
  | ((with_reducible refine' i_lenL ?hv ?_); (case hv => walk_at "sq"))
  | ((with_reducible refine' i_lenT ?hv ?_); (case hv => walk_at "sq"))
  | with_reducible refine i_addIB ?_
  | with_reducible refine i_mulIB ?_
  | ((with_reducible refine i_lenS ?hv ?_); (case hv => walk_at "side"))
  | with_reducible refine i_tup ?_
  | with_reducible refine i_lst ?_
  | with_reducible refine i_asgG ?_
  | with_reducible refine i_gname ?_
  | with_reducible refine i_gsub ?_
  | ((with_reducible refine' i_setL ?hv ?hw ?_); (case hv => walk_at "hp"); (case hw => exact rfl))
  | with_reducible refine i_ret ?_
  | with_reducible refine i_drop ?_
  | with_reducible refine i_next ?_
  | with_reducible refine i_test ?_
  | with_reducible refine i_B ?_
  | with_reducible refine i_bl ?_
  | with_reducible refine i_not ?_
  | with_reducible refine i_and ?_
  | with_reducible refine i_or ?_
  | ((with_reducible refine' i_app ?hv ?hw ?_); (case hv => walk_at "hp"); (case hw => walk_at "side"))
  | with_reducible refine iteT ?_
  | with_reducible refine iteF ?_
  | with_reducible refine iteNT ?_
  | with_reducible refine iteNF ?_
  | ((with_reducible refine iteT' ?hv ?_); (case hv => first | exact decide_eq_true (by assumption) | exact notF (by assumption) | exact decide_eq_true rfl | exact notF (by decide) | exact decide_eq_true (by decide) | exact decide_eq_true (by simp only [List.length_cons, List.length_nil]; decide)))
  | ((with_reducible refine iteF' ?hv ?_); (case hv => first | exact decide_eq_false (by assumption) | exact notT (by assumption) | exact notT rfl | exact decide_eq_false (by decide) | exact decide_eq_false (by simp only [List.length_cons, List.length_nil]; decide)))
  | with_reducible refine i_forL ?_
  | with_reducible refine i_forT ?_
  | with_reducible refine i_forR ?_
  | with_reducible refine i_forR2 ?_
  | with_reducible refine i_forE ?_
  | with_reducible refine i_forV ?_
  | with_reducible refine i_forS ?_
  | with_reducible refine i_forK ?_
  | with_reducible refine i_lcL ?_
  | with_reducible refine i_lcT ?_
  | with_reducible refine i_lcR ?_
  | with_reducible refine i_lcR2 ?_
  | with_reducible refine i_lcS ?_
  | with_reducible refine i_lcK ?_
  | ((with_reducible refine' fl_L ?hv ?_); (case hv => walk_at "sq"))
  | ((with_reducible refine' fl_T ?hv ?_); (case hv => walk_at "sq"))
  | ((with_reducible refine fl_R ?hv ?hw ?_); (case hv => (first | decide | omega)); (case hw => (first | decide | omega)))
  | ((with_reducible refine fl_R2 ?hv ?_); (case hv => (first | decide | (refine ⟨?_, ?_, ?_, ?_⟩ <;> omega))))
  | ((with_reducible refine' fl_E ?hv ?_); (case hv => walk_at "sq"))
  | ((with_reducible refine' fl_V ?hv ?_); (case hv => walk_at "sq"))
  | with_reducible refine fl_S ?_
  | ((with_reducible refine' fc_L ?hv ?_); (case hv => walk_at "sq"))
  | ((with_reducible refine' fc_T ?hv ?_); (case hv => walk_at "sq"))
  | ((with_reducible refine fc_R ?hv ?hw ?_); (case hv => (first | decide | omega)); (case hw => (first | decide | omega)))
  | with_reducible refine fc_S ?_
  | with_reducible refine i_sl ?_
  | with_reducible refine i_nopart ?_
  | with_reducible refine i_part ?_
  | with_reducible refine i_isint ?_
  | ((with_reducible refine' i_slL ?hv ?_); (case hv => walk_at "sq"))
  | ((with_reducible refine i_slS ?hv ?_); (case hv => walk_at "side"))
  | ((with_reducible refine' i_gtup ?hv ?hw ?_); (case hv => walk_at "sq"); (case hw => exact rfl))
  | with_reducible refine i_gcons ?_
  | with_reducible refine i_gnil ?_
  | ((with_reducible refine' i_listL ?hv ?_); (case hv => walk_at "sq"))
  | ((with_reducible refine' i_listT ?hv ?_); (case hv => walk_at "sq"))
  | ((with_reducible refine' i_tupL ?hv ?_); (case hv => walk_at "sq"))
  | ((with_reducible refine' i_lenD ?hv ?_); (case hv => walk_at "hp"))
  | ((with_reducible refine' i_ty ?hv ?_); (case hv => walk_at "hp"))
  | ((with_reducible refine And.intro ?hv ?_); (case hv => first | exact (by decide : (0 : Nat) ≤ sizeLine) | exact (by decide : (1 : Nat) ≤ sizeLine) | exact (by decide : (2 : Nat) ≤ sizeLine) | exact (by decide : (3 : Nat) ≤ sizeLine) | exact (by decide : (4 : Nat) ≤ sizeLine) | exact (by decide : (5 : Nat) ≤ sizeLine) | exact (by decide : (6 : Nat) ≤ sizeLine)))
  | with_reducible refine i_inC ?_
  | ((with_reducible refine i_addT ?hv ?_); (case hv => walk_at "side"))
  | with_reducible refine i_m1 ?_
  | with_reducible refine i_isstr ?_
  | with_reducible refine is_int_int ?_
  | with_reducible refine is_int_bool ?_
  | with_reducible refine is_str_str ?_
  | ((with_reducible refine' is_tup_tup ?hv ?_); (case hv => walk_at "hp"))
  | with_reducible refine i_ifExp ?_
  | with_reducible refine i_andV ?_
  | with_reducible refine i_orV ?_
  | with_reducible refine i_notV ?_
  | with_reducible refine i_chain ?_
  | ((with_reducible refine' i_inS ?hv ?_); (case hv => walk_at "sq"))
  | ((with_reducible refine' i_niS ?hv ?_); (case hv => walk_at "sq"))
  | ((with_reducible refine' i_inI ?hv ?_); (case hv => walk_at "sq"))
  | ((with_reducible refine' i_niI ?hv ?_); (case hv => walk_at "sq"))
  | with_reducible refine i_dnew ?_
  | with_reducible refine i_dput ?_
  | ((with_reducible refine' i_dputI ?hv ?hw ?_); (case hv => walk_at "hp"); (case hw => walk_at "side"))
  | with_reducible refine i_dget ?_
  | ((with_reducible refine' i_dgetI ?hv ?hw ?_); (case hv => walk_at "hp"); (case hw => assumption))
  | with_reducible refine i_dnotin ?_
  | with_reducible refine i_din ?_
  | ((with_reducible refine' i_dnotinI ?hv ?_); (case hv => walk_at "hp"))
  | with_reducible refine i_dsetd ?_
  | ((with_reducible refine' i_isd ?hv ?_); (case hv => walk_at "hp"))
  | with_reducible refine i_fld ?_
  | with_reducible refine i_sfld ?_
  | with_reducible refine i_dcT ?_
  | with_reducible refine i_dcL ?_
  | with_reducible refine i_truT ?_
  | ((with_reducible refine' i_truL ?hv ?_); (case hv => walk_at "sq"))
  | with_reducible refine i_revL ?_
  | ((with_reducible refine' i_atLx ?hv ?_); (case hv => walk_at "sq"))
  | with_reducible refine i_bm ?_
  | with_reducible refine i_bm0 ?_)
local macro_rules | `(tactic| walk_at "step") => `(tactic| first | walk_at "step0" | with_reducible refine i_ifS ?_)
local macro_rules | `(tactic| walk_at "goj") => `(tactic| repeat (first | walk_at "step0" | with_reducible refine i_ifS (c := tTest _) ?_ | with_reducible refine i_ifS (c := tB _) ?_))
local macro_rules | `(tactic| walk_at "tj") => `(tactic| (intro q hq; repeat (first | exact hq | walk_at "step" | (refine and_q hq (fun h => ?_); clear hq; rename_i hq) | (refine or_q hq (fun h => ?_); clear hq; rename_i hq))))
local macro_rules | `(tactic| walk_at "go") => `(tactic| repeat walk_at "step")

section
variable {P : Program} {w : World} {K : PySem.W.Frag} {mg : Str → Option Value} {base : Heap} {A : Ad}
theorem shF_eq {r s d1 d2 : Addr} : shF r s d1 d2 = ([("_rows", .ref r), ("_standing", .ref s), ("_signs", .ref d1), ("_rules", .ref d2)] : List (Str × V)) := by
  unfold shF
  simp only [putF]
  rw [if_neg (by decide +kernel)]
  simp only [putF]
  rw [if_neg (by decide +kernel), if_neg (by decide +kernel)]
  simp only [putF]
  rw [if_neg (by decide +kernel), if_neg (by decide +kernel), if_neg (by decide +kernel)]
theorem shP_r {r s d1 d2 r' : Addr} : putF "_rows" (.ref r') (shF r s d1 d2) = shF r' s d1 d2 := by
  rw [shF_eq, shF_eq]
  simp only [putF, if_true]
theorem shP_s {r s d1 d2 r' : Addr} : putF "_standing" (.ref r') (shF r s d1 d2) = shF r r' d1 d2 := by
  rw [shF_eq, shF_eq]
  simp only [putF, if_true]
  rw [if_neg (by decide +kernel)]
theorem shP_1 {r s d1 d2 r' : Addr} : putF "_signs" (.ref r') (shF r s d1 d2) = shF r s r' d2 := by
  rw [shF_eq, shF_eq]
  simp only [putF, if_true]
  rw [if_neg (by decide +kernel), if_neg (by decide +kernel)]
theorem shP_2 {r s d1 d2 r' : Addr} : putF "_rules" (.ref r') (shF r s d1 d2) = shF r s d1 r' := by
  rw [shF_eq, shF_eq]
  simp only [putF, if_true]
  rw [if_neg (by decide +kernel), if_neg (by decide +kernel), if_neg (by decide +kernel)]
theorem shF_len {r s d1 d2 : Addr} : (shF r s d1 d2).length < 1000 := by rw [shF_eq]; show 4 < 1000; decide
theorem i_catA {a b : Addr} {xs ys : List V} {H : Hp} {Q : VK} (ha : SqT K H a xs) (hb : SqT K H b ys) (hz : xs.length + ys.length ≤ sizeLine) (k : ∀ (t : Addr) (H1 : Hp), Ex H H1 → SqT K H1 t (xs ++ ys) → Q (.ref t) H1) : rCatA K (.ref a) (.ref b) H Q := by
  refine ⟨a, b, xs, ys, rfl, rfl, ha, hb, hz, fun e => ?_, fun _ e => ?_, fun _ _ p hp => k p _ (Ex.new hp) (SqT.of upd_same)⟩
  · subst e; exact k b H (Ex.refl H) hb
  · subst e; exact k a H (Ex.refl H) (by rw [List.append_nil]; exact ha)
theorem i_make {C : Addr} {sp : Sp} {dvs : List V} {E : XK} {t : TA} {σ : L2.St} {H : Hp} {Q : VK} (h : t σ H fun vs H1 => ∀ x dx, H1 x = none → H1 dx = none → dx ≠ x → sp (.ref x :: (vs ++ dvs)) (upd (upd H1 dx (.own x)) x (.ins C dx [])) (fun v H2 => v = .non ∧ Q (.ref x) H2) E) : tMake C sp dvs E t σ H Q := h
theorem i_mk {H1 F : Hp} {C t : Addr} {ts : List V} {es : List En} {R : Addr → Hp → Prop} {E : XK} (hs : SqL K H1 t ts ∨ SqT K H1 t ts) (x : Ex F H1) (EA : EsAt F ts es) (O : ∀ e ∈ es, e.Ok) (nd : (es.map En.num).Nodup) (l64 : es.length < 64)
    (k : ∀ (p dx r s d1 d2 : Addr) (ts' : List V) (es' : List En) (H2 : Hp), Ex H1 H2 → H1 p = none → H2 p = some (.ins C dx (shF r s d1 d2)) → H1 r = none → H1 s = none → p ≠ r → p ≠ s → r ≠ s → H2 r = some (.tup ts') → H2 s = some (.dK (stKv es')) → EsAt F ts' es' → es'.Perm es → Asc (es'.map En.num) → R p H2) :
    ∀ p dx, H1 p = none → H1 dx = none → dx ≠ p → spShInit K C (.ref p :: ([.ref t] ++ [])) (upd (upd H1 dx (.own p)) p (.ins C dx [])) (fun v H2 => v = .non ∧ R p H2) E := by
  intro p dx hp hdx ne
  have e1 : Ex H1 (upd (upd H1 dx (.own p)) p (.ins C dx [])) := ex_mut hp (Ex.new hdx)
  have e2 : Ex H1 (less (upd (upd H1 dx (.own p)) p (.ins C dx [])) p) := fun a o h => by
    have q : a ≠ p := ne_of_none h hp
    rw [less_ne q]
    exact e1 a o h
  refine ⟨p, dx, t, ts, es, F, rfl, upd_same, ex_none x hp, hs.imp (_root_.Evl.ex_l e2) (_root_.Evl.ex_t e2), x.trans e1, EA, O, nd, l64, fun r s d1 d2 ts' es' kv1 kv2 H' e h1 hr hs' _ _ rs h2 h3 _ _ EA' pe asc => ⟨rfl, ?_⟩⟩
  exact k p dx r s d1 d2 ts' es' H' (e2.trans e) hp h1 (ex_none e1 hr) (ex_none e1 hs') (ne_of_none upd_same hr) (ne_of_none upd_same hs') rs h2 h3 EA' pe asc
def spIor (K : PySem.W.Frag) (C : Addr) : Sp := fun vs H Q _ => ∃ (p q dx r s d1 d2 dx' r' s' d1' d2' : Addr) (ts ts' : List V) (es es' : List En) (F : Hp), vs = [.ref p, .ref q] ∧ p ≠ q ∧ F p = none ∧ Ex F H ∧
  H p = some (.ins C dx (shF r s d1 d2)) ∧ H r = some (.tup ts) ∧ EsAt F ts es ∧ H q = some (.ins C dx' (shF r' s' d1' d2')) ∧ H r' = some (.tup ts') ∧ EsAt F ts' es' ∧ (∀ e ∈ es ++ es', e.Ok) ∧ ((es ++ es').map En.num).Nodup ∧ (es ++ es').length < 64 ∧
  ∀ (r s d1 d2 : Addr) (ts2 : List V) (es2 : List En) (H' : Hp), Ex (less H p) H' → H' p = some (.ins C dx (shF r s d1 d2)) → H r = none → H s = none → r ≠ s → H' r = some (.tup ts2) → H' s = some (.dK (stKv es2)) → EsAt F ts2 es2 → es2.Perm (es ++ es') → Asc (es2.map En.num) → Q (.ref p) H'
theorem ok_Sheet___ior__ (T : Txt K mg A) : FnOk P w K mg base CX0 7 A.f_Sheet_XiorX A.d_Sheet_XiorX ["self", "other"] (spIor K A.C_Sheet) := by
  refine T.F_Sheet_XiorX.ok sc_Sheet_XiorX (fun vs H Q E h => ?_) (fun cdv Ar outer s0 H vs Q E hr h => ?_)
  · obtain ⟨p, q, dx, r, s, d1, d2, dx', r', s', d1', d2', ts, ts', es, es', F, rfl, _⟩ := h; rfl
  · obtain ⟨p, q, dx, r, s, d1, d2, dx', r', s', d1', d2', ts, ts', es, es', F, rfl, pq, fp, x, hp, hr1, EA, hq, hr2, EA', O, nd, l64, k⟩ := h
    have el := EA.length
    have el' := EA'.length
    refine ⟨_, (pss_cons (ps_if (pt_not (pt_val (pe_callB call_isi (by rfl) T.b_isinstance (by decide +kernel) (pa_cons (pv 1) (pa_cons (pe_glob (v := .ref A.C_Sheet) rfl T.g_Sheet rfl) pa_nil))))) (pss_one ps_never) pss_nil)
  (pss_cons (ps_set (i := 2) sc_Sheet_XiorX.nd rfl (Or.inl rfl) (pe_make T.mk_Sheet (ok_Sheet___init__ T) (hr.mono (by decide)) rfl T.g_Sheet T.bi_Sheet_XinitX .nil pass0 (pa_cons (pe_op op_catA (pe_fld (pv 0) rfl) (pe_fld (pv 1) rfl)) pa_nil)))
  (pss_cons (ps_fld (pv 0) (pe_fld (pv 2) rfl) rfl)
  (pss_cons (ps_fld (pv 0) (pe_fld (pv 2) rfl) rfl)
  (pss_cons (ps_fld (pv 0) (pe_fld (pv 2) rfl) rfl)
  (pss_cons (ps_fld (pv 0) (pe_fld (pv 2) rfl) rfl)
  (pss_one (ps_ret (pv 0))))))))), ?_⟩
    dsimp only [cxOf, Cx.nox, Cx.wish]
    walk_at "go"
    refine ⟨.ref q, .ref A.C_Sheet, .ref A.C_Sheet, .ref A.C_Sheet, true, rfl, .own _, .base (.ins hq T.cl_Sheet T.kc_Sheet T.kn_obj T.kt_obj T.km_Sheet), ?_, ?_⟩
    · unfold PySem.W.kitOne
      rw [if_pos (by simp)]
    walk_at "go"
    refine i_make ?_
    walk_at "go"
    refine i_fldR hp T.cl_Sheet T.na_Sheet__rows shF_r ?_
    walk_at "go"
    refine i_fldR hq T.cl_Sheet T.na_Sheet__rows shF_r ?_
    walk_at "go"
    refine i_catA (SqT.of hr1) (SqT.of hr2) (by rw [List.length_append] at l64; rw [sizeLine_eq]; omega) fun t H1 e1 ht => ?_
    walk_at "go"
    refine i_mk (.inr ht) (x.trans e1) (paired_app EA EA') O nd l64 fun y dy r2 s2 d12 d22 ts2 es2 H2 e2 hy0 hy hr20 hs20 yr ys rs hr22 hs22 EA2 pe asc => ?_
    have hp2 := e2 _ _ (e1 _ _ hp)
    have py : p ≠ y := ne_of_none (e1 _ _ hp) hy0
    have pr2 : p ≠ r2 := ne_of_none (e1 _ _ hp) hr20
    have ps2 : p ≠ s2 := ne_of_none (e1 _ _ hp) hs20
    have f1 : ∀ (u : HO) {v : Str} {z : V}, (shF r2 s2 d12 d22).lookup v = some z → (upd H2 p u) y = some (.ins A.C_Sheet dy (shF r2 s2 d12 d22)) := fun u _ _ _ => upd_oth py.symm hy
    walk_at "go"
    refine i_fldR hy T.cl_Sheet T.na_Sheet__rows shF_r ?_
    walk_at "go"
    refine i_sfldV hp2 T.cl_Sheet T.na_Sheet__rows shF_len ?_
    rw [shP_r]
    walk_at "go"
    refine i_fldR (upd_oth py.symm hy) T.cl_Sheet T.na_Sheet__standing shF_s ?_
    walk_at "go"
    refine i_sfldV upd_same T.cl_Sheet T.na_Sheet__standing shF_len ?_
    rw [shP_s, upd_upd]
    walk_at "go"
    refine i_fldR (upd_oth py.symm hy) T.cl_Sheet T.na_Sheet__signs shF_1 ?_
    walk_at "go"
    refine i_sfldV upd_same T.cl_Sheet T.na_Sheet__signs shF_len ?_
    rw [shP_1, upd_upd]
    walk_at "go"
    refine i_fldR (upd_oth py.symm hy) T.cl_Sheet T.na_Sheet__rules shF_2 ?_
    walk_at "go"
    refine i_sfldV upd_same T.cl_Sheet T.na_Sheet__rules shF_len ?_
    rw [shP_2, upd_upd]
    walk_at "go"
    have e3 : Ex (less H p) H2 := fun a o h => by
      by_cases q : a = p
      · subst q; rw [less_same] at h; cases h
      · rw [less_ne q] at h; exact e2 _ _ (e1 _ _ h)
    exact k r2 s2 d12 d22 ts2 es2 _ (ex_mut less_same e3) upd_same (ex_none e1 hr20) (ex_none e1 hs20) rs (upd_oth pr2.symm hr22) (upd_oth ps2.symm hs22) EA2 pe asc
end
end Dh
/-! K02M -/
set_option Elab.async false
set_option linter.all false
set_option maxRecDepth 100000
set_option maxHeartbeats 4000000
namespace Dh
open PySem PySem.Spec L2
open _root_.Evl (Ex)
local macro_rules | `(tactic| walk_at "ex") => `(tactic| first | assumption | ((with_reducible apply ex_mut); (focus assumption); walk_at "ex") | ((with_reducible apply ex_both); walk_at "ex") | ((with_reducible apply ex_new); (focus assumption); walk_at "ex"))
local macro_rules | `(tactic| walk_at "hp") => `(tactic| first | assumption | with_reducible exact upd_same | ((with_reducible apply upd_old); (focus assumption); walk_at "hp") | ((with_reducible apply upd_oth); (focus walk_at "neq"); walk_at "hp") | ((with_reducible apply ex_by); (focus assumption); walk_at "ex") | ((with_reducible apply ex_at); (focus assumption); walk_at "hp"))
local macro_rules | `(tactic| walk_at "neq") => `(tactic| first | assumption | (apply Ne.symm; assumption))
local macro_rules | `(tactic| walk_at "sq") => `(tactic| first | assumption | ((with_reducible apply SqL.of); walk_at "hp") | ((with_reducible apply SqT.of); walk_at "hp"))
local macro_rules | `(tactic| walk_at "side") => `(tactic| first | assumption | decide | exact cm_fmod (by decide) (by decide) | (show _ ≠ (0 : Int); decide) | (show _ ≠ (0 : Int); omega) | exact Or.inr ⟨by decide, by decide⟩ | exact Or.inl ⟨by decide, by decide⟩ | (show CDivN _ _; exact ⟨by decide, by decide⟩) | (show CDivN _ _; exact ⟨by omega, by omega⟩) | exact Or.inl ⟨by omega, by omega⟩ | exact Or.inr ⟨by omega, by omega⟩ | exact ⟨by decide, by decide, by decide⟩)
local macro_rules | `(tactic| walk_at "ix") => `(tactic| first | exact rfl | assumption | exact atI_nat (by assumption))
local macro_rules | `(tactic| walk_at "step0") => `(tactic| first
  | with_reducible refine i_seq ?_
  | with_reducible refine i_asg ?_
  | with_reducible refine i_op ?_
  | ((with_reducible refine' i_var ?hv ?_); (case hv => exact rfl))
  | with_reducible refine i_c ?_
  | with_reducible refine i_cons ?_
  | with_reducible refine i_nil ?_
  | with_reducible refine i_cb ?_
  | with_reducible refine i_call ?_
  | with_reducible refine i_call' ?_
  | with_reducible refine i_un ?_
  | with_reducible refine i_I0 ?_
  | ((with_reducible refine i_I ?hv ?_); (case hv => walk_at "side"))
  | with_reducible refine i_eqI ?_
  | with_reducible refine i_neI ?_
  | with_reducible refine i_eqS ?_
  | with_reducible refine i_neS ?_
  | ((with_reducible refine i_eq ?hv ?_); (case hv => exact rfl))
  | ((with_reducible refine i_ne ?hv ?_); (case hv => exact rfl))
  | with_reducible refine i_int1 ?_
  | with_reducible refine i_abs ?_
  | ((with_reducible refine' i_ixL ?hv ?hw ?_); (case hv => walk_at "sq"); (case hw => walk_at "ix"))
  | ((with_reducible refine' i_ixT ?hv ?hw ?_); (case hv => walk_at "sq"); (case hw => walk_at "ix"))
  | ((with_reducible refine' i_lenL ?hv ?_); (case hv => walk_at "sq"))
  | ((with_reducible refine' i_lenT ?hv ?_); (case hv => walk_at "sq"))
  | with_reducible refine i_addIB ?_
  | with_reducible refine i_mulIB ?_
  | ((with_reducible refine i_lenS ?hv ?_); (case hv => walk_at "side"))
  | with_reducible refine i_tup ?_
  | with_reducible refine i_lst ?_
  | with_reducible refine i_asgG ?_
  | with_reducible refine i_gname ?_
  | with_reducible refine i_gsub ?_
  | ((with_reducible refine' i_setL ?hv ?hw ?_); (case hv => walk_at "hp"); (case hw => exact rfl))
  | with_reducible refine i_ret ?_
  | with_reducible refine i_drop ?_
  | with_reducible refine i_next ?_
  | with_reducible refine i_test ?_
  | with_reducible refine i_B ?_
  | with_reducible refine i_bl ?_
  | with_reducible refine i_not ?_
  | with_reducible refine i_and ?_
  | with_reducible refine i_or ?_
  | ((with_reducible refine' i_app ?hv ?hw ?_); (case hv => walk_at "hp"); (case hw => walk_at "side"))
  | with_reducible refine iteT ?_
  | with_reducible refine iteF ?_
  | with_reducible refine iteNT ?_
  | with_reducible refine iteNF ?_
  | ((with_reducible refine iteT' ?hv ?_); (case hv => first | exact decide_eq_true (by assumption) | exact notF (by assumption) | exact decide_eq_true rfl | exact notF (by decide) | exact decide_eq_true (by decide) | exact decide_eq_true (by simp only [List.length_cons, List.length_nil]; decide)))
  | ((with_reducible refine iteF' ?hv ?_); (case hv => first | exact decide_eq_false (by assumption) | exact notT (by assumption) | exact notT rfl | exact decide_eq_false (by decide) | exact decide_eq_false (by simp only [List.length_cons, List.length_nil]; decide)))
  | with_reducible refine i_forL ?_
  | with_reducible refine i_forT ?_
  | with_reducible refine i_forR ?_
  | with_reducible refine i_forR2 ?_
  | with_reducible refine i_forE ?_
  | with_reducible refine i_forV ?_
  | with_reducible refine i_forS ?_
  | with_reducible refine i_forK ?_
  | with_reducible refine i_lcL ?_
  | with_reducible refine i_lcT ?_
  | with_reducible refine i_lcR ?_
  | with_reducible refine i_lcR2 ?_
  | with_reducible refine i_lcS ?_
  | with_reducible refine i_lcK ?_
  | ((with_reducible refine' fl_L ?hv ?_); (case hv => walk_at "sq"))
  | ((with_reducible refine' fl_T ?hv ?_); (case hv => walk_at "sq"))
  | ((with_reducible refine fl_R ?hv ?hw ?_); (case hv => (first | decide | omega)); (case hw => (first | decide | omega)))
  | ((with_reducible refine fl_R2 ?hv ?_); (case hv => (first | decide | (refine ⟨?_, ?_, ?_, ?_⟩ <;> omega))))
  | ((with_reducible refine' fl_E ?hv ?_); (case hv => walk_at "sq"))
  | ((with_reducible refine' fl_V ?hv ?_); (case hv => walk_at "sq"))
  | with_reducible refine fl_S ?_
  | ((with_reducible refine' fc_L ?hv ?_); (case hv => walk_at "sq"))
  | ((with_reducible refine' fc_T ?hv ?_); (case hv => walk_at "sq"))
  | ((with_reducible refine fc_R ?hv ?hw ?_); (case hv => (first | decide | omega)); (case hw => (first | decide | omega)))
  | with_reducible refine fc_S ?_
  | with_reducible refine i_sl ?_
  | with_reducible refine i_nopart ?_
  | with_reducible refine i_part ?_
  | with_reducible refine i_isint ?_
  | ((with_reducible refine' i_slL ?hv ?_); (case hv => walk_at "sq"))
  | ((with_reducible refine i_slS ?hv ?_); (case hv => walk_at "side"))
  | ((with_reducible refine' i_gtup ?hv ?hw ?_); (case hv => walk_at "sq"); (case hw => exact rfl))
  | with_reducible refine i_gcons ?_
  | with_reducible refine i_gnil ?_
  | ((with_reducible refine' i_listL ?hv ?_); (case hv => walk_at "sq"))
  | ((with_reducible refine' i_listT ?hv ?_); (case hv => walk_at "sq"))
  | ((with_reducible refine' i_tupL ?hv ?_); (case hv => walk_at "sq"))
  | ((with_reducible refine' i_lenD ?hv ?_); (case hv => walk_at "hp"))
  | ((with_reducible refine' i_ty ?hv ?_); (case hv => walk_at "hp"))
  | ((with_reducible refine And.intro ?hv ?_); (case hv => first | exact (by decide : (0 : Nat) ≤ sizeLine) | exact (by decide : (1 : Nat) ≤ sizeLine) | exact (by decide : (2 : Nat) ≤ sizeLine) | exact (by decide : (3 : Nat) ≤ sizeLine) | exact (by decide : (4 : Nat) ≤ sizeLine) | exact (by decide : (5 : Nat) ≤ sizeLine) | exact (by decide : (6 : Nat) ≤ sizeLine)))
  | with_reducible refine i_inC ?_
  | ((with_reducible refine i_addT ?hv ?_); (case hv => walk_at "side"))
  | with_reducible refine i_m1 ?_
  | with_reducible refine i_isstr ?_
  | with_reducible refine is_int_int ?_
  | with_reducible refine is_int_bool ?_
  | with_reducible refine is_str_str ?_
  | ((with_reducible refine' is_tup_tup ?hv ?_); (case hv => walk_at "hp"))
  | with_reducible refine i_ifExp ?_
  | with_reducible refine i_andV ?_
  | with_reducible refine i_orV ?_
  | with_reducible refine i_notV ?_
  | with_reducible refine i_chain ?_
  | ((with_reducible refine' i_inS ?hv ?_); (case hv => walk_at "sq"))
  | ((with_reducible refine' i_niS ?hv ?_); (case hv => walk_at "sq"))
  | ((with_reducible refine' i_inI ?hv ?_); (case hv => walk_at "sq"))
  | ((with_reducible refine' i_niI ?hv ?_); (case hv => walk_at "sq"))
  | with_reducible refine i_dnew ?_
  | with_reducible refine i_dput ?_
  | ((with_reducible refine' i_dputI ?hv ?hw ?_); (case hv => walk_at "hp"); (case hw => walk_at "side"))
  | with_reducible refine i_dget ?_
  | ((with_reducible refine' i_dgetI ?hv ?hw ?_); (case hv => walk_at "hp"); (case hw => assumption))
  | with_reducible refine i_dnotin ?_
  | with_reducible refine i_din ?_
  | ((with_reducible refine' i_dnotinI ?hv ?_); (case hv => walk_at "hp"))
  | with_reducible refine i_dsetd ?_
  | ((with_reducible refine' i_isd ?hv ?_); (case hv => walk_at "hp"))
  | with_reducible refine i_fld ?_
  | with_reducible refine i_sfld ?_
  | with_reducible refine i_dcT ?_
  | with_reducible refine i_dcL ?_
  | with_reducible refine i_truT ?_
  | ((with_reducible refine' i_truL ?hv ?_); (case hv => walk_at "sq"))
  | with_reducible refine i_revL ?_
  | ((with_reducible refine' i_atLx ?hv ?_); (case hv => walk_at "sq"))
  | with_reducible refine i_bm ?_
  | with_reducible refine i_bm0 ?_)
local macro_rules | `(tactic| walk_at "step") => `(tactic| first | walk_at "step0" | with_reducible refine i_ifS ?_)
local macro_rules | `(tactic| walk_at "goj") => `(tactic| repeat (first | walk_at "step0" | with_reducible refine i_ifS (c := tTest _) ?_ | with_reducible refine i_ifS (c := tB _) ?_))
local macro_rules | `(tactic| walk_at "tj") => `(tactic| (intro q hq; repeat (first | exact hq | walk_at "step" | (refine and_q hq (fun h => ?_); clear hq; rename_i hq) | (refine or_q hq (fun h => ?_); clear hq; rename_i hq))))
local macro_rules | `(tactic| walk_at "go") => `(tactic| repeat walk_at "step")

section
variable {P : Program} {w : World} {K : PySem.W.Frag} {mg : Str → Option Value} {base : Heap} {A : Ad}
theorem paired_drop' {α β : Type} {R : α → β → Prop} : ∀ (k : Nat) {xs : List α} {ys : List β}, Paired R xs ys → Paired R (xs.drop k) (ys.drop k)
  | 0, _, _, h => h
  | k + 1, _, _, h => by
    cases h with
    | nil => exact .nil
    | cons r t => exact paired_drop' k t
/-- the tail of an entry's items -/
def En.tl (e : En) : List V := e.vs.drop 1
theorem en_cons (e : En) : e.vs = .int e.num :: e.tl := by cases e <;> rfl
theorem i_le {K : PySem.W.Frag} {a b : Addr} {e f : En} {H : Hp} {Q : VK} (ha : H a = some (.tup e.vs)) (hb : H b = some (.tup f.vs)) (ne : e.num ≠ f.num) (k : Q (.bl (decide (e.num ≤ f.num))) H) : rLeF K (.ref a) (.ref b) H Q :=
  ⟨a, b, e.num, f.num, e.tl, f.tl, rfl, rfl, SqT.of (by rw [← en_cons]; exact ha), SqT.of (by rw [← en_cons]; exact hb), ne, k⟩
def spSorted (K : PySem.W.Frag) : Sp := fun vs H Q _ => ∃ (t : Addr) (ts : List V) (es : List En) (F : Hp), vs = [.ref t] ∧ SqL K H t ts ∧ Ex F H ∧ EsAt F ts es ∧ (es.map En.num).Nodup ∧ es.length < 1000 ∧
  ∀ (p : Addr) (ts' : List V) (es' : List En) (H' : Hp), Ex H H' → H p = none → H' p = some (.lst ts') → EsAt F ts' es' → es'.Perm es → Asc (es'.map En.num) → Q (.ref p) H'
theorem ok_l_sorted (T : Txt K mg A) : FnOk P w K mg base CX0 1 A.f_l_sorted A.d_l_sorted ["_law_things"] (spSorted K) := by
  refine T.F_l_sorted.ok sc_l_sorted (fun vs H Q E h => ?_) (fun cdv Ar outer s0 H vs Q E hr h => ?_)
  · obtain ⟨t, ts, es, F, rfl, _⟩ := h; rfl
  · obtain ⟨t, ts, es, F, rfl, hs, x, EA, nd, l1, k⟩ := h
    have el := EA.length
    refine ⟨_, (pss_cons (ps_set (i := 1) sc_l_sorted.nd rfl (Or.inl rfl) (pe_lst pa_nil))
  (pss_cons (ps_for PassesOwn.never rfl (pi_list (pv 0)) (pg_name (i := 2) sc_l_sorted.nd rfl (Or.inl rfl))
   (pss_cons (ps_set (i := 3) sc_l_sorted.nd rfl (Or.inl rfl) pe_int)
  (pss_cons (ps_while PassesOwn.never (PW.pt (pw_and (pt_cmpR op_lt (pv 3) (pe_callB cl_len (by rfl) T.b_len (by decide +kernel) (pa_cons (pv 1) pa_nil)) (nomark _)) (pw_and1 (pt_cmpR (op_leF (Nat.lt_of_le_of_lt (Nat.le_add_right _ 64) hr.units)) (pe_ix ix_list (pv 1) (pv 3) (fun _ _ => rfl)) (pv 2) (nomark _))))) (pss_one (ps_aug (i := 3) sc_l_sorted.nd rfl (Or.inl rfl) pe_int ip_add)))
  (pss_one (ps_expr (pe_bm PySem.F.plainAttrs_list PySem.F.slot_list_insert PySem.F.type_list_insert mt_insert (pv 1) (pa_cons (pv 3) (pa_cons (pv 2) pa_nil))))))))
  (pss_one (ps_ret (pv 1))))), ?_⟩
    dsimp only [cxOf, Cx.nox, Cx.wish]
    walk_at "go"
    intro p hp
    have hs1 := _root_.Evl.ex_l (Ex.new (o := .lst []) hp) hs
    walk_at "go"
    refine ⟨fun i σ H' => ∃ (o1 o2 : Option V) (ts' : List V) (es' : List En), σ = [some (.ref t), some (.ref p), o1, o2] ∧ Ex H H' ∧ H' p = some (.lst ts') ∧ EsAt F ts' es' ∧ es'.Perm (es.take i) ∧ Asc (es'.map En.num), ?_, fun i σ H' hi h => ?_, fun i v σ H2 H3 hi h y => ?_, fun σ H' h => ?_⟩
    · exact ⟨none, none, [], [], rfl, Ex.new hp, upd_same, .nil, .refl _, .nil⟩
    · obtain ⟨_, _, _, _, _, e, _⟩ := h
      exact _root_.Evl.ex_l e hs
    · obtain ⟨o1, o2, ts', es', rfl, e, hp', EA', pe, asc⟩ := h
      obtain ⟨rfl, hv⟩ := y
      obtain ⟨en, hen, a, rfl, ha⟩ := paired_get EA hv
      have el' := EA'.length
      have len : es'.length ≤ i := by have := pe.length_eq; rw [List.length_take] at this; omega
      have nin : ∀ f ∈ es', f.num ≠ en.num := fun f hf q => by
        have hf' := pe.subset hf
        obtain ⟨j, hj, ej⟩ := List.getElem_of_mem hf'
        rw [List.length_take] at hj
        rw [List.getElem_take] at ej
        have hi' : i < (es.map En.num).length := by rw [List.length_map]; omega
        have e5 : (es.map En.num)[i] = en.num := by
          obtain ⟨hlt, e6⟩ := List.getElem?_eq_some_iff.mp hen
          rw [List.getElem_map, e6]
        have e6 : (es.map En.num)[j]'(by rw [List.length_map]; omega) = f.num := by rw [List.getElem_map, ej]
        have := (List.getElem_inj nd).mp ((e6.trans q).trans e5.symm)
        omega
      have fin : ∀ kk : Nat, kk ≤ ts'.length → (∀ (j : Nat) (f : En), j < kk → es'[j]? = some f → f.num < en.num) → (∀ (j : Nat) (f : En), kk ≤ j → es'[j]? = some f → en.num < f.num) →
          ∃ (o1 o2 : Option V) (ts2 : List V) (es2 : List En), [some (V.ref t), some (.ref p), some (.ref a), some (.int (kk : Nat))] = [some (.ref t), some (.ref p), o1, o2] ∧ Ex H (upd H3 p (.lst (ts'.take kk ++ [.ref a] ++ ts'.drop kk))) ∧ (upd H3 p (.lst (ts'.take kk ++ [.ref a] ++ ts'.drop kk))) p = some (.lst ts2) ∧ EsAt F ts2 es2 ∧ es2.Perm (es.take (i + 1)) ∧ Asc (es2.map En.num) := fun kk hk lo hi2 => by
        refine ⟨_, _, _, es'.take kk ++ [en] ++ es'.drop kk, rfl, ex_mut hp e, upd_same, ?_, ?_, ?_⟩
        · exact paired_app (paired_app (paired_take _ EA') (.cons ⟨a, rfl, ha⟩ .nil)) (paired_drop' _ EA')
        · rw [List.take_succ, hen]
          refine List.Perm.trans ?_ (List.Perm.append_right _ pe)
          show (es'.take kk ++ [en] ++ es'.drop kk).Perm (es' ++ [en])
          rw [List.append_assoc]
          refine List.Perm.trans (List.Perm.append_left _ List.perm_append_comm) ?_
          rw [← List.append_assoc, List.take_append_drop]
        · rw [List.map_append, List.map_append]
          have q := asc
          unfold Asc at q ⊢
          rw [← List.take_append_drop kk es', List.map_append] at q
          rw [List.pairwise_append] at q ⊢
          obtain ⟨q1, q2, q3⟩ := q
          refine ⟨List.pairwise_append.mpr ⟨q1, List.pairwise_singleton _ _, fun x hx y hy => ?_⟩, q2, fun x hx y hy => ?_⟩
          · obtain ⟨f, hf, rfl⟩ := List.mem_map.mp hx
            obtain rfl := List.mem_singleton.mp hy
            obtain ⟨j, hj, ej⟩ := List.getElem_of_mem hf
            rw [List.length_take] at hj
            rw [List.getElem_take] at ej
            exact lo j f (by omega) (by rw [← ej]; exact List.getElem?_eq_getElem _)
          · obtain ⟨f, hf, rfl⟩ := List.mem_map.mp hy
            obtain ⟨j, hj, ej⟩ := List.getElem_of_mem hf
            rw [List.length_drop] at hj
            rw [List.getElem_drop] at ej
            have h7 : en.num < f.num := hi2 (kk + j) f (by omega) (by rw [← ej]; exact List.getElem?_eq_getElem _)
            rcases List.mem_append.mp hx with hx | hx
            · exact q3 x hx _ hy
            · obtain rfl := List.mem_singleton.mp hx
              exact h7
      have small : (ts'.length : Int) < 1000 := by omega
      walk_at "go"
      refine ⟨fun m σ H' => ∃ kk : Nat, σ = [some (.ref t), some (.ref p), some (.ref a), some (.int (kk : Nat))] ∧ H' = H3 ∧ kk ≤ ts'.length ∧ m = ts'.length - kk ∧ ∀ (j : Nat) (f : En), j < kk → es'[j]? = some f → f.num < en.num, ⟨_, 0, rfl, rfl, Nat.zero_le _, rfl, fun j f hj => by omega⟩, fun m σ H' h => ?_⟩
      obtain ⟨kk, rfl, rfl, hk, rfl, lo⟩ := h
      walk_at "go"
      refine iteD (fun c => ?_) (fun c => ?_)
      · have hlt : kk < ts'.length := by omega
        have hv2 : ts'[kk]? = some ts'[kk] := List.getElem?_eq_getElem hlt
        obtain ⟨f, hf, b, eb, hb⟩ := paired_get EA' hv2
        rw [eb] at hv2
        walk_at "go"
        refine i_le (e _ _ (x _ _ hb)) (e _ _ (x _ _ ha)) (nin f (List.mem_of_getElem? hf)) ⟨_, rfl, ?_⟩
        refine iteD (fun c2 => ?_) (fun c2 => ?_)
        · refine ⟨fun σ' H2 => σ' = [some (.ref t), some (.ref p), some (.ref a), some (.int ((kk + 1 : Nat) : Int))] ∧ H2 = H', fun σ' H2 h => ?_, ?_⟩
          · obtain ⟨rfl, rfl⟩ := h
            refine ⟨ts'.length - (kk + 1), by omega, kk + 1, rfl, rfl, hlt, rfl, fun j g hj hg => ?_⟩
            by_cases q : j = kk
            · subst q
              rw [hf] at hg
              cases hg
              have := nin f (List.mem_of_getElem? hf)
              omega
            · exact lo j g (by omega) hg
          · exact ⟨_, rfl, _, _, rfl, rfl, rfl, rfl⟩
        · have hi2 : ∀ (j : Nat) (g : En), kk ≤ j → es'[j]? = some g → en.num < g.num := fun j g hj hg => by
            have h8 : (es'.map En.num)[kk]? = some f.num := by rw [List.getElem?_map, hf]; rfl
            have h9 : (es'.map En.num)[j]? = some g.num := by rw [List.getElem?_map, hg]; rfl
            by_cases q : j = kk
            · subst q
              rw [hf] at hg
              cases hg
              omega
            · have := asc_lt asc h8 h9 (by omega)
              omega
          walk_at "go"
          exact ⟨p, _, _, _, rfl, rfl, hp', by rw [sizeLine_eq]; omega, by omega, by omega, fin kk hk lo hi2⟩
      · have hk2 : kk = ts'.length := by omega
        have hi2 : ∀ (j : Nat) (g : En), kk ≤ j → es'[j]? = some g → en.num < g.num := fun j g hj hg => by
          have := (List.getElem?_eq_some_iff.mp hg).1
          omega
        walk_at "go"
        exact ⟨p, _, _, _, rfl, rfl, hp', by rw [sizeLine_eq]; omega, by omega, by omega, fin kk hk lo hi2⟩
    · obtain ⟨o1, o2, ts', es', rfl, e, hp', EA', pe, asc⟩ := h
      rw [List.take_of_length_le (by omega)] at pe
      walk_at "go"
      exact k p ts' es' H' e hp hp' EA' pe asc
end
end Dh
/-! K02N -/
set_option Elab.async false
set_option linter.all false
set_option maxRecDepth 100000
set_option maxHeartbeats 4000000
namespace Dh
open PySem PySem.Spec L2
open _root_.Evl (Ex)
local macro_rules | `(tactic| walk_at "ex") => `(tactic| first | assumption | ((with_reducible apply ex_mut); (focus assumption); walk_at "ex") | ((with_reducible apply ex_both); walk_at "ex") | ((with_reducible apply ex_new); (focus assumption); walk_at "ex"))
local macro_rules | `(tactic| walk_at "hp") => `(tactic| first | assumption | with_reducible exact upd_same | ((with_reducible apply upd_old); (focus assumption); walk_at "hp") | ((with_reducible apply upd_oth); (focus walk_at "neq"); walk_at "hp") | ((with_reducible apply ex_by); (focus assumption); walk_at "ex") | ((with_reducible apply ex_at); (focus assumption); walk_at "hp"))
local macro_rules | `(tactic| walk_at "neq") => `(tactic| first | assumption | (apply Ne.symm; assumption))
local macro_rules | `(tactic| walk_at "sq") => `(tactic| first | assumption | ((with_reducible apply SqL.of); walk_at "hp") | ((with_reducible apply SqT.of); walk_at "hp"))
local macro_rules | `(tactic| walk_at "side") => `(tactic| first | assumption | decide | exact cm_fmod (by decide) (by decide) | (show _ ≠ (0 : Int); decide) | (show _ ≠ (0 : Int); omega) | exact Or.inr ⟨by decide, by decide⟩ | exact Or.inl ⟨by decide, by decide⟩ | (show CDivN _ _; exact ⟨by decide, by decide⟩) | (show CDivN _ _; exact ⟨by omega, by omega⟩) | exact Or.inl ⟨by omega, by omega⟩ | exact Or.inr ⟨by omega, by omega⟩ | exact ⟨by decide, by decide, by decide⟩)
local macro_rules | `(tactic| walk_at "ix") => `(tactic| first | exact rfl | assumption | exact atI_nat (by assumption))
local macro_rules | `(tactic| walk_at "step0") => `(tactic| first
  | with_reducible refine i_seq ?_
  | with_reducible refine i_asg ?_
  | with_reducible refine i_op ?_
  | ((with_reducible refine' i_var ?hv ?_); (case hv => exact rfl))
  | with_reducible refine i_c ?_
  | with_reducible refine i_cons ?_
  | with_reducible refine i_nil ?_
  | with_reducible refine i_cb ?_
  | with_reducible refine i_call ?_
  | with_reducible refine i_call' ?_
  | with_reducible refine i_un ?_
  | with_reducible refine i_I0 ?_
  | ((with_reducible refine i_I ?hv ?_); (case hv => walk_at "side"))
  | with_reducible refine i_eqI ?_
  | with_reducible refine i_neI ?_
  | with_reducible refine i_eqS ?_
  | with_reducible refine i_neS ?_
  | ((with_reducible refine i_eq ?hv ?_); (case hv => exact rfl))
  | ((with_reducible refine i_ne ?hv ?_); (case hv => exact rfl))
  | with_reducible refine i_int1 ?_
  | with_reducible refine i_abs ?_
  | ((with_reducible refine' i_ixL ?hv ?hw ?_); (case hv => walk_at "sq"); (case hw => walk_at "ix"))
  | ((with_reducible refine' i_ixT ?hv ?hw ?_); (case hv => walk_at "sq"); (case hw => walk_at "ix"))
  | ((with_reducible refine' i_lenL ?hv ?_); (case hv => walk_at "sq"))
  | ((with_reducible refine' i_lenT ?hv ?_); (case hv => walk_at "sq"))
  | with_reducible refine i_addIB ?_
  | with_reducible refine i_mulIB ?_
  | ((with_reducible refine i_lenS ?hv ?_); (case hv => walk_at "side"))
  | with_reducible refine i_tup ?_
  | with_reducible refine i_lst ?_
  | with_reducible refine i_asgG ?_
  | with_reducible refine i_gname ?_
  | with_reducible refine i_gsub ?_
  | ((with_reducible refine' i_setL ?hv ?hw ?_); (case hv => walk_at "hp"); (case hw => exact rfl))
  | with_reducible refine i_ret ?_
  | with_reducible refine i_drop ?_
  | with_reducible refine i_next ?_
  | with_reducible refine i_test ?_
  | with_reducible refine i_B ?_
  | with_reducible refine i_bl ?_
  | with_reducible refine i_not ?_
  | with_reducible refine i_and ?_
  | with_reducible refine i_or ?_
  | ((with_reducible refine' i_app ?hv ?hw ?_); (case hv => walk_at "hp"); (case hw => walk_at "side"))
  | with_reducible refine iteT ?_
  | with_reducible refine iteF ?_
  | with_reducible refine iteNT ?_
  | with_reducible refine iteNF ?_
  | ((with_reducible refine iteT' ?hv ?_); (case hv => first | exact decide_eq_true (by assumption) | exact notF (by assumption) | exact decide_eq_true rfl | exact notF (by decide) | exact decide_eq_true (by decide) | exact decide_eq_true (by simp only [List.length_cons, List.length_nil]; decide)))
  | ((with_reducible refine iteF' ?hv ?_); (case hv => first | exact decide_eq_false (by assumption) | exact notT (by assumption) | exact notT rfl | exact decide_eq_false (by decide) | exact decide_eq_false (by simp only [List.length_cons, List.length_nil]; decide)))
  | with_reducible refine i_forL ?_
  | with_reducible refine i_forT ?_
  | with_reducible refine i_forR ?_
  | with_reducible refine i_forR2 ?_
  | with_reducible refine i_forE ?_
  | with_reducible refine i_forV ?_
  | with_reducible refine i_forS ?_
  | with_reducible refine i_forK ?_
  | with_reducible refine i_lcL ?_
  | with_reducible refine i_lcT ?_
  | with_reducible refine i_lcR ?_
  | with_reducible refine i_lcR2 ?_
  | with_reducible refine i_lcS ?_
  | with_reducible refine i_lcK ?_
  | ((with_reducible refine' fl_L ?hv ?_); (case hv => walk_at "sq"))
  | ((with_reducible refine' fl_T ?hv ?_); (case hv => walk_at "sq"))
  | ((with_reducible refine fl_R ?hv ?hw ?_); (case hv => (first | decide | omega)); (case hw => (first | decide | omega)))
  | ((with_reducible refine fl_R2 ?hv ?_); (case hv => (first | decide | (refine ⟨?_, ?_, ?_, ?_⟩ <;> omega))))
  | ((with_reducible refine' fl_E ?hv ?_); (case hv => walk_at "sq"))
  | ((with_reducible refine' fl_V ?hv ?_); (case hv => walk_at "sq"))
  | with_reducible refine fl_S ?_
  | ((with_reducible refine' fc_L ?hv ?_); (case hv => walk_at "sq"))
  | ((with_reducible refine' fc_T ?hv ?_); (case hv => walk_at "sq"))
  | ((with_reducible refine fc_R ?hv ?hw ?_); (case hv => (first | decide | omega)); (case hw => (first | decide | omega)))
  | with_reducible refine fc_S ?_
  | with_reducible refine i_sl ?_
  | with_reducible refine i_nopart ?_
  | with_reducible refine i_part ?_
  | with_reducible refine i_isint ?_
  | ((with_reducible refine' i_slL ?hv ?_); (case hv => walk_at "sq"))
  | ((with_reducible refine i_slS ?hv ?_); (case hv => walk_at "side"))
  | ((with_reducible refine' i_gtup ?hv ?hw ?_); (case hv => walk_at "sq"); (case hw => exact rfl))
  | with_reducible refine i_gcons ?_
  | with_reducible refine i_gnil ?_
  | ((with_reducible refine' i_listL ?hv ?_); (case hv => walk_at "sq"))
  | ((with_reducible refine' i_listT ?hv ?_); (case hv => walk_at "sq"))
  | ((with_reducible refine' i_tupL ?hv ?_); (case hv => walk_at "sq"))
  | ((with_reducible refine' i_lenD ?hv ?_); (case hv => walk_at "hp"))
  | ((with_reducible refine' i_ty ?hv ?_); (case hv => walk_at "hp"))
  | ((with_reducible refine And.intro ?hv ?_); (case hv => first | exact (by decide : (0 : Nat) ≤ sizeLine) | exact (by decide : (1 : Nat) ≤ sizeLine) | exact (by decide : (2 : Nat) ≤ sizeLine) | exact (by decide : (3 : Nat) ≤ sizeLine) | exact (by decide : (4 : Nat) ≤ sizeLine) | exact (by decide : (5 : Nat) ≤ sizeLine) | exact (by decide : (6 : Nat) ≤ sizeLine)))
  | with_reducible refine i_inC ?_
  | ((with_reducible refine i_addT ?hv ?_); (case hv => walk_at "side"))
  | with_reducible refine i_m1 ?_
  | with_reducible refine i_isstr ?_
  | with_reducible refine is_int_int ?_
  | with_reducible refine is_int_bool ?_
  | with_reducible refine is_str_str ?_
  | ((with_reducible refine' is_tup_tup ?hv ?_); (case hv => walk_at "hp"))
  | with_reducible refine i_ifExp ?_
  | with_reducible refine i_andV ?_
  | with_reducible refine i_orV ?_
  | with_reducible refine i_notV ?_
  | with_reducible refine i_chain ?_
  | ((with_reducible refine' i_inS ?hv ?_); (case hv => walk_at "sq"))
  | ((with_reducible refine' i_niS ?hv ?_); (case hv => walk_at "sq"))
  | ((with_reducible refine' i_inI ?hv ?_); (case hv => walk_at "sq"))
  | ((with_reducible refine' i_niI ?hv ?_); (case hv => walk_at "sq"))
  | with_reducible refine i_dnew ?_
  | with_reducible refine i_dput ?_
  | ((with_reducible refine' i_dputI ?hv ?hw ?_); (case hv => walk_at "hp"); (case hw => walk_at "side"))
  | with_reducible refine i_dget ?_
  | ((with_reducible refine' i_dgetI ?hv ?hw ?_); (case hv => walk_at "hp"); (case hw => assumption))
  | with_reducible refine i_dnotin ?_
  | with_reducible refine i_din ?_
  | ((with_reducible refine' i_dnotinI ?hv ?_); (case hv => walk_at "hp"))
  | with_reducible refine i_dsetd ?_
  | ((with_reducible refine' i_isd ?hv ?_); (case hv => walk_at "hp"))
  | with_reducible refine i_fld ?_
  | with_reducible refine i_sfld ?_
  | with_reducible refine i_dcT ?_
  | with_reducible refine i_dcL ?_
  | with_reducible refine i_truT ?_
  | ((with_reducible refine' i_truL ?hv ?_); (case hv => walk_at "sq"))
  | with_reducible refine i_revL ?_
  | ((with_reducible refine' i_atLx ?hv ?_); (case hv => walk_at "sq"))
  | with_reducible refine i_bm ?_
  | with_reducible refine i_bm0 ?_)
local macro_rules | `(tactic| walk_at "step") => `(tactic| first | walk_at "step0" | with_reducible refine i_ifS ?_)
local macro_rules | `(tactic| walk_at "goj") => `(tactic| repeat (first | walk_at "step0" | with_reducible refine i_ifS (c := tTest _) ?_ | with_reducible refine i_ifS (c := tB _) ?_))
local macro_rules | `(tactic| walk_at "tj") => `(tactic| (intro q hq; repeat (first | exact hq | walk_at "step" | (refine and_q hq (fun h => ?_); clear hq; rename_i hq) | (refine or_q hq (fun h => ?_); clear hq; rename_i hq))))
local macro_rules | `(tactic| walk_at "go") => `(tactic| repeat walk_at "step")

theorem asc_permE : ∀ {a b : List En}, Asc (a.map En.num) → Asc (b.map En.num) → a.Perm b → a = b
  | [], b, _, _, p => by rw [p.symm.eq_nil]
  | x :: a, [], _, _, p => by simp at p
  | x :: a, y :: b, ha, hb, p => by
    have hx : x ∈ y :: b := p.subset List.mem_cons_self
    have hy : y ∈ x :: a := p.symm.subset List.mem_cons_self
    rw [List.map_cons] at ha hb
    have ha' := List.pairwise_cons.mp ha
    have hb' := List.pairwise_cons.mp hb
    have e : x = y := by
      rcases List.mem_cons.mp hx with h | h
      · exact h
      · rcases List.mem_cons.mp hy with h2 | h2
        · exact h2.symm
        · have := hb'.1 _ (List.mem_map_of_mem h); have := ha'.1 _ (List.mem_map_of_mem h2); omega
    subst e
    rw [asc_permE ha'.2 hb'.2 (List.Perm.cons_inv p)]
/-- what comes later withdraws no greater number -/
theorem wd_later {es : List En} (asc : Asc (es.map En.num)) (O : ∀ e ∈ es, e.Ok) {j : Nat} {e : En} (h : es.reverse[j]? = some e) : ∀ k, e.num ∈ wdR (es.reverse.take (j + k)) ↔ e.num ∈ wdR (es.reverse.take j)
  | 0 => Iff.rfl
  | k + 1 => by
    rw [← wd_later asc O h k]
    cases hf : es.reverse[j + k]? with
    | none =>
      have : es.reverse.take (j + (k + 1)) = es.reverse.take (j + k) := by
        have := List.getElem?_eq_none_iff.mp hf
        rw [List.take_of_length_le this, List.take_of_length_le (by omega)]
      rw [this]
    | some f =>
      have ht : wdR (es.reverse.take (j + (k + 1))) = wdStep (wdR (es.reverse.take (j + k))) f := by
        rw [← Nat.add_assoc, List.take_succ, hf]; exact wdR_snoc _ _
      rw [ht]
      have le : f.num ≤ e.num := by
        have l1 := (List.getElem?_eq_some_iff.mp hf).1
        rw [List.length_reverse] at l1
        have h1 : es[es.length - 1 - j]? = some e := by rw [← List.getElem?_reverse (by omega)]; exact h
        have h2 : es[es.length - 1 - (j + k)]? = some f := by rw [← List.getElem?_reverse (by omega)]; exact hf
        by_cases q : k = 0
        · subst q
          rw [Nat.add_zero] at h2
          rw [h1] at h2
          cases h2
          omega
        · have h3 : (es.map En.num)[es.length - 1 - j]? = some e.num := by rw [List.getElem?_map, h1]; rfl
          have h4 : (es.map En.num)[es.length - 1 - (j + k)]? = some f.num := by rw [List.getElem?_map, h2]; rfl
          have := asc_lt asc h4 h3 (by omega)
          omega
      have fO := O f (List.mem_reverse.mp (List.mem_of_getElem? hf))
      cases f with
      | vd n o =>
        have : o < n := by have := fO.2.2.2; omega
        have le' : n ≤ e.num := le
        show _ ∈ (if n ∈ wdR (es.reverse.take (j + k)) then _ else o :: wdR (es.reverse.take (j + k))) ↔ _
        split
        · exact Iff.rfl
        · rw [List.mem_cons]
          exact ⟨fun z => z.elim (fun z => by omega) id, .inr⟩
      | sg n d y => exact Iff.rfl
      | rl n d y => exact Iff.rfl
/-- those that stand, as they are met -/
def Out (es : List En) (i : Nat) (n : Int) : Prop := ∃ (j : Nat) (e : En), j < i ∧ es.reverse[j]? = some e ∧ e.num = n ∧ n ∉ wdR (es.reverse.take j)
theorem out_all {es : List En} (asc : Asc (es.map En.num)) (O : ∀ e ∈ es, e.Ok) {i : Nat} (hi : es.length ≤ i) (n : Int) : Out es i n ↔ n ∈ es.map En.num ∧ stB es n = true := by
  have full : ∀ {j : Nat} {e : En}, es.reverse[j]? = some e → (e.num ∈ wdR es.reverse ↔ e.num ∈ wdR (es.reverse.take j)) := fun {j e} h => by
    have := wd_later asc O h es.length
    rwa [List.take_of_length_le (by rw [List.length_reverse]; omega)] at this
  unfold stB
  constructor
  · rintro ⟨j, e, hj, h, rfl, nw⟩
    refine ⟨List.mem_map_of_mem (List.mem_reverse.mp (List.mem_of_getElem? h)), ?_⟩
    rw [decide_eq_false (fun z => nw ((full h).mp z))]; rfl
  · rintro ⟨hm, hs⟩
    obtain ⟨e, he, rfl⟩ := List.mem_map.mp hm
    obtain ⟨j, hj, ej⟩ := List.getElem_of_mem (List.mem_reverse.mpr he)
    have h : es.reverse[j]? = some e := by rw [← ej]; exact List.getElem?_eq_getElem hj
    refine ⟨j, e, ?_, h, rfl, fun z => ?_⟩
    · rw [List.length_reverse] at hj; omega
    · rw [decide_eq_true ((full h).mpr z)] at hs; cases hs
theorem out_succ {es : List En} {i : Nat} {e : En} (h : es.reverse[i]? = some e) (n : Int) : Out es (i + 1) n ↔ Out es i n ∨ (n = e.num ∧ n ∉ wdR (es.reverse.take i)) := by
  constructor
  · rintro ⟨j, f, hj, hf, rfl, nw⟩
    by_cases q : j = i
    · subst q
      rw [h] at hf
      cases hf
      exact .inr ⟨rfl, nw⟩
    · exact .inl ⟨j, f, by omega, hf, rfl, nw⟩
  · rintro (⟨j, f, hj, hf, rfl, nw⟩ | ⟨rfl, nw⟩)
    · exact ⟨j, f, by omega, hf, rfl, nw⟩
    · exact ⟨i, e, by omega, h, rfl, nw⟩
section
variable {P : Program} {w : World} {K : PySem.W.Frag} {mg : Str → Option Value} {base : Heap} {A : Ad}
theorem i_revL' {te : TE} {σ : L2.St} {H : Hp} {Q : VK} (k : te σ H fun x H1 => ∃ a xs, x = .ref a ∧ SqL K H1 a xs ∧ ∀ p, H1 p = none → Q (.ref p) (upd H1 p (.lst xs.reverse))) : tRevL K te σ H Q := k
def spStood (K : PySem.W.Frag) : Sp := fun vs H Q _ => ∃ (t : Addr) (ts : List V) (es : List En) (F : Hp), vs = [.ref t] ∧ SqL K H t ts ∧ Ex F H ∧ EsAt F ts es ∧ (∀ e ∈ es, e.Ok) ∧ (es.map En.num).Nodup ∧ es.length < 1000 ∧
  ∀ (q : Addr) (outs : List Int) (es' : List En) (H' : Hp), Ex H H' → H q = none → H' q = some (.lst (outs.map V.int)) → es'.Perm es → Asc (es'.map En.num) → (∀ n, n ∈ outs ↔ n ∈ es'.map En.num ∧ stB es' n = true) → Q (.ref q) H'
theorem ok_l_stood (T : Txt K mg A) : FnOk P w K mg base CX0 2 A.f_l_stood A.d_l_stood ["_law_read"] (spStood K) := by
  refine T.F_l_stood.ok sc_l_stood (fun vs H Q E h => ?_) (fun cdv Ar outer s0 H vs Q E hr h => ?_)
  · obtain ⟨t, ts, es, F, rfl, _⟩ := h; rfl
  · obtain ⟨t, ts, es, F, rfl, hs, x, EA, O, nd, l1, k⟩ := h
    have el := EA.length
    refine ⟨_, (pss_cons (ps_set (i := 1) sc_l_stood.nd rfl (Or.inl rfl) (pe_lst pa_nil))
  (pss_cons (ps_set (i := 2) sc_l_stood.nd rfl (Or.inl rfl) (pe_lst pa_nil))
  (pss_cons (ps_for PassesOwn.never rfl (pi_list (pe_revL (pe_call (ok_l_sorted T) (hr.mono (by decide)) rfl T.g_l_sorted T.F_l_sorted.kp T.bi_l_sorted .nil pass0 (pa_cons (pv 0) pa_nil)))) (pg_name (i := 3) sc_l_stood.nd rfl (Or.inl rfl))
   (pss_one (ps_if (pt_cmpR op_notIn_seq (pe_ix ix_tup (pv 3) pe_int (fun _ _ => rfl)) (pv 1) rfl) (pss_cons (ps_expr (pe_bm PySem.F.plainAttrs_list PySem.F.slot_list_append PySem.F.type_list_append mt_append (pv 2) (pa_cons (pe_ix ix_tup (pv 3) pe_int (fun _ _ => rfl)) pa_nil)))
  (pss_one (ps_if (pt_cmpR op_eq (pe_ix ix_tup (pv 3) pe_int (fun _ _ => rfl)) pe_str (nomark _)) (pss_one (ps_expr (pe_bm PySem.F.plainAttrs_list PySem.F.slot_list_append PySem.F.type_list_append mt_append (pv 1) (pa_cons (pe_ix ix_tup (pv 3) pe_int (fun _ _ => rfl)) pa_nil)))) pss_nil))) pss_nil)))
  (pss_one (ps_ret (pv 2)))))), ?_⟩
    dsimp only [cxOf, Cx.nox, Cx.wish]
    walk_at "go"
    intro g hg
    have e1 : Ex H (upd H g (.lst [])) := Ex.new hg
    have hg1 : (upd H g (.lst [])) g = some (.lst []) := upd_same
    generalize upd H g (.lst []) = H1 at e1 hg1
    walk_at "go"
    intro q hq
    have e2 := e1.trans (Ex.new (o := .lst []) hq)
    have gq : g ≠ q := ne_of_none hg1 hq
    have hq0 : H q = none := ex_none e1 hq
    have hg2 := upd_oth (u' := .lst []) gq hg1
    have hq2 : (upd H1 q (.lst [])) q = some (.lst []) := upd_same
    generalize upd H1 q (.lst []) = H2 at e2 hg2 hq2
    walk_at "go"
    refine i_revL' ?_
    walk_at "go"
    refine ⟨t, ts, es, F, rfl, _root_.Evl.ex_l e2 hs, x.trans e2, EA, nd, l1, fun p ts' es' H3 e3 hp0 hp EA' pe asc => ?_⟩
    have O' : ∀ e ∈ es', e.Ok := fun e he => O e (pe.subset he)
    have l2 : es'.length = es.length := pe.length_eq
    have el' := EA'.length
    have e4 := e2.trans e3
    have hg3 := e3 _ _ hg2
    have hq3 := e3 _ _ hq2
    walk_at "go"
    intro v hv
    have hg4 := upd_oth (u' := .lst ts'.reverse) (ne_of_none hg3 hv) hg3
    have hq4 := upd_oth (u' := .lst ts'.reverse) (ne_of_none hq3 hv) hq3
    have gv : g ≠ v := ne_of_none hg3 hv
    have qv : q ≠ v := ne_of_none hq3 hv
    have e5 : Ex H (upd H3 v (.lst ts'.reverse)) := e4.trans (Ex.new hv)
    have hv4 : (upd H3 v (.lst ts'.reverse)) v = some (.lst ts'.reverse) := upd_same
    have lr : ts'.reverse.length = es.length := by rw [List.length_reverse]; omega
    generalize upd H3 v (.lst ts'.reverse) = H4 at hg4 hq4 e5 hv4
    have ER := paired_rev EA'
    walk_at "go"
    refine ⟨fun i σ H' => ∃ (o : Option V) (gl ol : List Int), σ = [some (.ref t), some (.ref g), some (.ref q), o] ∧ Ex H H' ∧ H' v = some (.lst ts'.reverse) ∧ H' g = some (.lst (gl.map V.int)) ∧ H' q = some (.lst (ol.map V.int)) ∧ gl.length ≤ i ∧ ol.length ≤ i ∧ (∀ m, m ∈ gl ↔ m ∈ wdR (es'.reverse.take i)) ∧ ∀ n, n ∈ ol ↔ Out es' i n, ?_, fun i σ H' hi h => ?_, fun i v1 σ H5 H6 hi h y => ?_, fun σ H' h => ?_⟩
    · exact ⟨none, [], [], rfl, e5, hv4, hg4, hq4, Nat.le_refl _, Nat.le_refl _, fun m => by simp [wdR], fun n => ⟨fun z => by simp at z, fun ⟨j, _, hj, _⟩ => by omega⟩⟩
    · obtain ⟨_, _, _, _, _, h, _⟩ := h
      exact SqL.of h
    · obtain ⟨o, gl, ol, rfl, e6, hv6, hg6, hq6, lg, lo, mg', mo⟩ := h
      obtain ⟨rfl, hv'⟩ := y
      obtain ⟨en, hen, a, rfl, ha⟩ := paired_get ER hv'
      have ht : wdR (es'.reverse.take (i + 1)) = wdStep (wdR (es'.reverse.take i)) en := by
        rw [List.take_succ, hen]; exact wdR_snoc _ _
      have hT : SqT K H6 a en.vs := SqT.of (e6 _ _ (x _ _ ha))
      have h0 := en_at0 en
      walk_at "go"
      refine iteN (fun c => ?_) (fun c => ?_)
      · have nw : en.num ∉ wdR (es'.reverse.take i) := fun z => c ((mg' _).mpr z)
        have z1 : (ol.map V.int).length < sizeLine := by rw [List.length_map, sizeLine_eq]; omega
        have z2 : (gl.map V.int).length < sizeLine := by rw [List.length_map, sizeLine_eq]; omega
        have ha6 : H6 a = some (.tup en.vs) := e6 _ _ (x _ _ ha)
        have aq : a ≠ q := ne_of_none (x _ _ ha) hq0
        have ag : a ≠ g := ne_of_none (x _ _ ha) hg
        have mo2 : ∀ n, n ∈ ol ++ [en.num] ↔ Out es' (i + 1) n := fun n => by
          rw [out_succ hen, List.mem_append, List.mem_singleton, mo n]
          exact ⟨fun z => z.imp id fun z => ⟨z, by rw [z]; exact nw⟩, fun z => z.imp id fun z => z.1⟩
        have ap : ∀ (l : List Int) (n : Int), (l.map V.int) ++ [V.int n] = (l ++ [n]).map V.int := fun l n => by rw [List.map_append]; rfl
        cases en with
        | vd n o' =>
          have h1 : atI (En.vd n o').vs 1 = some (.str "void") := rfl
          have h2 : atI (En.vd n o').vs 2 = some (.int o') := rfl
          walk_at "go"
          refine ⟨_, gl ++ [o'], ol ++ [n], rfl, ex_mut hg (ex_mut hq0 e6), upd_oth gv.symm (upd_oth qv.symm hv6), ?_, ?_, by simp; omega, by simp; omega, fun m => ?_, mo2⟩
          · rw [upd_same, ap]
          · rw [upd_ne gq.symm, upd_same, ← ap]
          · rw [ht]
            have nw' : n ∉ wdR (es'.reverse.take i) := nw
            show _ ↔ m ∈ if n ∈ wdR (es'.reverse.take i) then _ else o' :: wdR (es'.reverse.take i)
            rw [if_neg nw', List.mem_append, List.mem_singleton, List.mem_cons, mg' m]
            exact Or.comm
        | sg n dd y =>
          have h1 : atI (En.sg n dd y).vs 1 = some (.str "sign") := rfl
          walk_at "go"
          refine ⟨_, gl, ol ++ [n], rfl, ex_mut hq0 e6, upd_oth qv.symm hv6, upd_oth gq hg6, ?_, by omega, by simp; omega, fun m => by rw [ht]; exact mg' m, mo2⟩
          rw [upd_same, ← ap]
        | rl n dd y =>
          have h1 : atI (En.rl n dd y).vs 1 = some (.str "rule") := rfl
          walk_at "go"
          refine ⟨_, gl, ol ++ [n], rfl, ex_mut hq0 e6, upd_oth qv.symm hv6, upd_oth gq hg6, ?_, by omega, by simp; omega, fun m => by rw [ht]; exact mg' m, mo2⟩
          rw [upd_same, ← ap]
      · have iw : en.num ∈ wdR (es'.reverse.take i) := (mg' _).mp c
        walk_at "go"
        refine ⟨_, gl, ol, rfl, e6, hv6, hg6, hq6, by omega, by omega, fun m => ?_, fun n => ?_⟩
        · rw [ht]
          cases en with
          | vd n o' =>
            have iw' : n ∈ wdR (es'.reverse.take i) := iw
            show _ ↔ m ∈ if n ∈ wdR (es'.reverse.take i) then _ else _
            rw [if_pos iw']
            exact mg' m
          | sg n dd y => exact mg' m
          | rl n dd y => exact mg' m
        · rw [out_succ hen, mo n]
          exact ⟨.inl, fun z => z.elim id fun ⟨q1, q2⟩ => absurd (q1 ▸ iw) q2⟩
    · obtain ⟨o, gl, ol, rfl, e6, hv6, hg6, hq6, lg, lo, mg', mo⟩ := h
      walk_at "go"
      exact k q ol es' H' e6 hq0 hq6 pe asc fun n => (mo n).trans (out_all asc O' (by omega) n)
end
end Dh
/-! K02O -/
set_option Elab.async false
set_option linter.all false
set_option maxRecDepth 100000
set_option maxHeartbeats 4000000
namespace Dh
open PySem PySem.Spec L2
open _root_.Evl (Ex)
local macro_rules | `(tactic| walk_at "ex") => `(tactic| first | assumption | ((with_reducible apply ex_mut); (focus assumption); walk_at "ex") | ((with_reducible apply ex_both); walk_at "ex") | ((with_reducible apply ex_new); (focus assumption); walk_at "ex"))
local macro_rules | `(tactic| walk_at "hp") => `(tactic| first | assumption | with_reducible exact upd_same | ((with_reducible apply upd_old); (focus assumption); walk_at "hp") | ((with_reducible apply upd_oth); (focus walk_at "neq"); walk_at "hp") | ((with_reducible apply ex_by); (focus assumption); walk_at "ex") | ((with_reducible apply ex_at); (focus assumption); walk_at "hp"))
local macro_rules | `(tactic| walk_at "neq") => `(tactic| first | assumption | (apply Ne.symm; assumption))
local macro_rules | `(tactic| walk_at "sq") => `(tactic| first | assumption | ((with_reducible apply SqL.of); walk_at "hp") | ((with_reducible apply SqT.of); walk_at "hp"))
local macro_rules | `(tactic| walk_at "side") => `(tactic| first | assumption | decide | exact cm_fmod (by decide) (by decide) | (show _ ≠ (0 : Int); decide) | (show _ ≠ (0 : Int); omega) | exact Or.inr ⟨by decide, by decide⟩ | exact Or.inl ⟨by decide, by decide⟩ | (show CDivN _ _; exact ⟨by decide, by decide⟩) | (show CDivN _ _; exact ⟨by omega, by omega⟩) | exact Or.inl ⟨by omega, by omega⟩ | exact Or.inr ⟨by omega, by omega⟩ | exact ⟨by decide, by decide, by decide⟩)
local macro_rules | `(tactic| walk_at "ix") => `(tactic| first | exact rfl | assumption | exact atI_nat (by assumption))
local macro_rules | `(tactic| walk_at "step0") => `(tactic| first
  | with_reducible refine i_seq ?_
  | with_reducible refine i_asg ?_
  | with_reducible refine i_op ?_
  | ((with_reducible refine' i_var ?hv ?_); (case hv => exact rfl))
  | with_reducible refine i_c ?_
  | with_reducible refine i_cons ?_
  | with_reducible refine i_nil ?_
  | with_reducible refine i_cb ?_
  | with_reducible refine i_call ?_
  | with_reducible refine i_call' ?_
  | with_reducible refine i_un ?_
  | with_reducible refine i_I0 ?_
  | ((with_reducible refine i_I ?hv ?_); (case hv => walk_at "side"))
  | with_reducible refine i_eqI ?_
  | with_reducible refine i_neI ?_
  | with_reducible refine i_eqS ?_
  | with_reducible refine i_neS ?_
  | ((with_reducible refine i_eq ?hv ?_); (case hv => exact rfl))
  | ((with_reducible refine i_ne ?hv ?_); (case hv => exact rfl))
  | with_reducible refine i_int1 ?_
  | with_reducible refine i_abs ?_
  | ((with_reducible refine' i_ixL ?hv ?hw ?_); (case hv => walk_at "sq"); (case hw => walk_at "ix"))
  | ((with_reducible refine' i_ixT ?hv ?hw ?_); (case hv => walk_at "sq"); (case hw => walk_at "ix"))
  | ((with_reducible refine' i_lenL ?hv ?_); (case hv => walk_at "sq"))
  | ((with_reducible refine' i_lenT ?hv ?_); (case hv => walk_at "sq"))
  | with_reducible refine i_addIB ?_
  | with_reducible refine i_mulIB ?_
  | ((with_reducible refine i_lenS ?hv ?_); (case hv => walk_at "side"))
  | with_reducible refine i_tup ?_
  | with_reducible refine i_lst ?_
  | with_reducible refine i_asgG ?_
  | with_reducible refine i_gname ?_
  | with_reducible refine i_gsub ?_
  | ((with_reducible refine' i_setL ?hv ?hw ?_); (case hv => walk_at "hp"); (case hw => exact rfl))
  | with_reducible refine i_ret ?_
  | with_reducible refine i_drop ?_
  | with_reducible refine i_next ?_
  | with_reducible refine i_test ?_
  | with_reducible refine i_B ?_
  | with_reducible refine i_bl ?_
  | with_reducible refine i_not ?_
  | with_reducible refine i_and ?_
  | with_reducible refine i_or ?_
  | ((with_reducible refine' i_app ?hv ?hw ?_); (case hv => walk_at "hp"); (case hw => walk_at "side"))
  | with_reducible refine iteT ?_
  | with_reducible refine iteF ?_
  | with_reducible refine iteNT ?_
  | with_reducible refine iteNF ?_
  | ((with_reducible refine iteT' ?hv ?_); (case hv => first | exact decide_eq_true (by assumption) | exact notF (by assumption) | exact decide_eq_true rfl | exact notF (by decide) | exact decide_eq_true (by decide) | exact decide_eq_true (by simp only [List.length_cons, List.length_nil]; decide)))
  | ((with_reducible refine iteF' ?hv ?_); (case hv => first | exact decide_eq_false (by assumption) | exact notT (by assumption) | exact notT rfl | exact decide_eq_false (by decide) | exact decide_eq_false (by simp only [List.length_cons, List.length_nil]; decide)))
  | with_reducible refine i_forL ?_
  | with_reducible refine i_forT ?_
  | with_reducible refine i_forR ?_
  | with_reducible refine i_forR2 ?_
  | with_reducible refine i_forE ?_
  | with_reducible refine i_forV ?_
  | with_reducible refine i_forS ?_
  | with_reducible refine i_forK ?_
  | with_reducible refine i_lcL ?_
  | with_reducible refine i_lcT ?_
  | with_reducible refine i_lcR ?_
  | with_reducible refine i_lcR2 ?_
  | with_reducible refine i_lcS ?_
  | with_reducible refine i_lcK ?_
  | ((with_reducible refine' fl_L ?hv ?_); (case hv => walk_at "sq"))
  | ((with_reducible refine' fl_T ?hv ?_); (case hv => walk_at "sq"))
  | ((with_reducible refine fl_R ?hv ?hw ?_); (case hv => (first | decide | omega)); (case hw => (first | decide | omega)))
  | ((with_reducible refine fl_R2 ?hv ?_); (case hv => (first | decide | (refine ⟨?_, ?_, ?_, ?_⟩ <;> omega))))
  | ((with_reducible refine' fl_E ?hv ?_); (case hv => walk_at "sq"))
  | ((with_reducible refine' fl_V ?hv ?_); (case hv => walk_at "sq"))
  | with_reducible refine fl_S ?_
  | ((with_reducible refine' fc_L ?hv ?_); (case hv => walk_at "sq"))
  | ((with_reducible refine' fc_T ?hv ?_); (case hv => walk_at "sq"))
  | ((with_reducible refine fc_R ?hv ?hw ?_); (case hv => (first | decide | omega)); (case hw => (first | decide | omega)))
  | with_reducible refine fc_S ?_
  | with_reducible refine i_sl ?_
  | with_reducible refine i_nopart ?_
  | with_reducible refine i_part ?_
  | with_reducible refine i_isint ?_
  | ((with_reducible refine' i_slL ?hv ?_); (case hv => walk_at "sq"))
  | ((with_reducible refine i_slS ?hv ?_); (case hv => walk_at "side"))
  | ((with_reducible refine' i_gtup ?hv ?hw ?_); (case hv => walk_at "sq"); (case hw => exact rfl))
  | with_reducible refine i_gcons ?_
  | with_reducible refine i_gnil ?_
  | ((with_reducible refine' i_listL ?hv ?_); (case hv => walk_at "sq"))
  | ((with_reducible refine' i_listT ?hv ?_); (case hv => walk_at "sq"))
  | ((with_reducible refine' i_tupL ?hv ?_); (case hv => walk_at "sq"))
  | ((with_reducible refine' i_lenD ?hv ?_); (case hv => walk_at "hp"))
  | ((with_reducible refine' i_ty ?hv ?_); (case hv => walk_at "hp"))
  | ((with_reducible refine And.intro ?hv ?_); (case hv => first | exact (by decide : (0 : Nat) ≤ sizeLine) | exact (by decide : (1 : Nat) ≤ sizeLine) | exact (by decide : (2 : Nat) ≤ sizeLine) | exact (by decide : (3 : Nat) ≤ sizeLine) | exact (by decide : (4 : Nat) ≤ sizeLine) | exact (by decide : (5 : Nat) ≤ sizeLine) | exact (by decide : (6 : Nat) ≤ sizeLine)))
  | with_reducible refine i_inC ?_
  | ((with_reducible refine i_addT ?hv ?_); (case hv => walk_at "side"))
  | with_reducible refine i_m1 ?_
  | with_reducible refine i_isstr ?_
  | with_reducible refine is_int_int ?_
  | with_reducible refine is_int_bool ?_
  | with_reducible refine is_str_str ?_
  | ((with_reducible refine' is_tup_tup ?hv ?_); (case hv => walk_at "hp"))
  | with_reducible refine i_ifExp ?_
  | with_reducible refine i_andV ?_
  | with_reducible refine i_orV ?_
  | with_reducible refine i_notV ?_
  | with_reducible refine i_chain ?_
  | ((with_reducible refine' i_inS ?hv ?_); (case hv => walk_at "sq"))
  | ((with_reducible refine' i_niS ?hv ?_); (case hv => walk_at "sq"))
  | ((with_reducible refine' i_inI ?hv ?_); (case hv => walk_at "sq"))
  | ((with_reducible refine' i_niI ?hv ?_); (case hv => walk_at "sq"))
  | with_reducible refine i_dnew ?_
  | with_reducible refine i_dput ?_
  | ((with_reducible refine' i_dputI ?hv ?hw ?_); (case hv => walk_at "hp"); (case hw => walk_at "side"))
  | with_reducible refine i_dget ?_
  | ((with_reducible refine' i_dgetI ?hv ?hw ?_); (case hv => walk_at "hp"); (case hw => assumption))
  | with_reducible refine i_dnotin ?_
  | with_reducible refine i_din ?_
  | ((with_reducible refine' i_dnotinI ?hv ?_); (case hv => walk_at "hp"))
  | with_reducible refine i_dsetd ?_
  | ((with_reducible refine' i_isd ?hv ?_); (case hv => walk_at "hp"))
  | with_reducible refine i_fld ?_
  | with_reducible refine i_sfld ?_
  | with_reducible refine i_dcT ?_
  | with_reducible refine i_dcL ?_
  | with_reducible refine i_truT ?_
  | ((with_reducible refine' i_truL ?hv ?_); (case hv => walk_at "sq"))
  | with_reducible refine i_revL ?_
  | ((with_reducible refine' i_atLx ?hv ?_); (case hv => walk_at "sq"))
  | with_reducible refine i_bm ?_
  | with_reducible refine i_bm0 ?_)
local macro_rules | `(tactic| walk_at "step") => `(tactic| first | walk_at "step0" | with_reducible refine i_ifS ?_)
local macro_rules | `(tactic| walk_at "goj") => `(tactic| repeat (first | walk_at "step0" | with_reducible refine i_ifS (c := tTest _) ?_ | with_reducible refine i_ifS (c := tB _) ?_))
local macro_rules | `(tactic| walk_at "tj") => `(tactic| (intro q hq; repeat (first | exact hq | walk_at "step" | (refine and_q hq (fun h => ?_); clear hq; rename_i hq) | (refine or_q hq (fun h => ?_); clear hq; rename_i hq))))
local macro_rules | `(tactic| walk_at "go") => `(tactic| repeat walk_at "step")

section
variable {P : Program} {w : World} {K : PySem.W.Frag} {mg : Str → Option Value} {base : Heap} {A : Ad}
def spDue (K : PySem.W.Frag) : Sp := fun vs H Q _ => ∃ (t q : Addr) (n : Int) (ts : List V) (es es' : List En) (outs : List Int) (F : Hp), vs = [.ref t, .ref q, .int n] ∧ SqL K H t ts ∧ Ex F H ∧ EsAt F ts es ∧ es.length < 1000 ∧ SqL K H q (outs.map V.int) ∧ es'.Perm es ∧ (∀ n, n ∈ outs ↔ n ∈ es'.map En.num ∧ stB es' n = true) ∧
  ∀ (H' : Hp), Ex H H' → Q (.str (toldS es' n)) H'
theorem ok_l_due (T : Txt K mg A) : FnOk P w K mg base CX0 1 A.f_l_due A.d_l_due ["_law_read", "_law_stood_here", "_law_number_here"] (spDue K) := by
  refine T.F_l_due.ok sc_l_due (fun vs H Q E h => ?_) (fun cdv Ar outer s0 H vs Q E hr h => ?_)
  · obtain ⟨t, q, n, ts, es, es', outs, F, rfl, _⟩ := h; rfl
  · obtain ⟨t, q, n, ts, es, es', outs, F, rfl, hs, x, EA, l1, hq, pe, ho, k⟩ := h
    have el := EA.length
    refine ⟨_, (pss_cons (ps_if (pt_cmpR op_in_seq (pv 2) (pv 1) rfl) (pss_one (ps_ret pe_str)) pss_nil)
  (pss_one (ps_ret (pe_ifExp (pt_cmpR op_in_seq (pv 2) (pe_lc (own := [("_law_entry", 3)]) (g := gName 3) (tt := tYes) rfl sc_l_due.nd (pi_list (pv 0)) (blkOk_by (N := ["_law_read", "_law_stood_here", "_law_number_here", "_law_entry"]) (sc := defScope s_l_due) (by decide +kernel)) (fun _ _ _ _ _ => (pg_name (i := 3) sc_l_due.nd rfl (Or.inl rfl))) (fun _ _ _ _ _ => pts_nil) (fun _ _ _ _ _ => (pe_ix (show IxR _ (rIxT K) from ix_tup) (pv 3) pe_int (fun _ _ => rfl)))) rfl) pe_str pe_str)))), ?_⟩
    dsimp only [cxOf, Cx.nox, Cx.wish]
    walk_at "go"
    refine iteD (fun c => ?_) (fun c => ?_)
    · obtain ⟨c1, c2⟩ := (ho n).mp c
      have k' := k H (Ex.refl H)
      unfold toldS at k'
      rw [if_pos c1, if_pos c2] at k'
      walk_at "go"
      exact k'
    · walk_at "go"
      refine lc_pure (fun i => .int ((es.map En.num).getD i 0)) (by rw [sizeLine_eq]; omega) (fun i => ts.getD i .non) (fun H' e => _root_.Evl.ex_l e hs) (fun i H0 v H' hi y => ⟨y.1, ?_⟩) (fun i H' Q' hi e q' => ?_) (fun p hp => ?_)
      · rw [List.getD_eq_getElem?_getD, y.2]; rfl
      · have hv : ts[i]? = some ts[i] := List.getElem?_eq_getElem hi
        obtain ⟨en, hen, a, ea, ha⟩ := paired_get EA hv
        have g1 : ts.getD i .non = .ref a := by rw [List.getD_eq_getElem?_getD, hv, ea]; rfl
        have g2 : (es.map En.num).getD i 0 = en.num := by rw [List.getD_eq_getElem?_getD, List.getElem?_map, hen]; rfl
        rw [g1]
        rw [g2] at q'
        have hT : SqT K H' a en.vs := SqT.of (e _ _ (x _ _ ha))
        have h0 := en_at0 en
        walk_at "go"
        exact q'
      have e2 : (List.range ts.length).map (fun i => V.int ((es.map En.num).getD i 0)) = (es.map En.num).map V.int := by
        rw [el]
        apply List.ext_getElem
        · simp
        · intro j h1 h2
          simp at h1
          simp [h1]
      rw [e2]
      have hm : n ∈ es.map En.num ↔ n ∈ es'.map En.num := ⟨fun z => (pe.map En.num).symm.subset z, fun z => (pe.map En.num).subset z⟩
      have k' := k _ (Ex.new (o := .lst ((es.map En.num).map V.int)) hp)
      walk_at "go"
      unfold toldS at k'
      refine iteD (fun c1 => ?_) (fun c1 => ?_)
      · have s0 : stB es' n ≠ true := fun z => c ((ho n).mpr ⟨hm.mp c1, z⟩)
        rw [if_pos (hm.mp c1), if_neg s0] at k'
        exact k'
      · rw [if_neg (fun z => c1 (hm.mpr z))] at k'
        exact k'
def spAsked : Sp := fun vs H Q _ => ∃ (nu : Addr) (ns : List Int), vs = [.ref nu] ∧ H nu = some (.lst (ns.map V.int)) ∧ ns.length < 1000 ∧ (∀ n ∈ ns, 1 ≤ n ∧ n ≤ 998) ∧
  ∀ (p : Addr) (as : List Int) (H' : Hp), Ex H H' → H p = none → H' p = some (.lst (as.map V.int)) → (∀ a ∈ as, 1 ≤ a ∧ a ≤ 999) → Q (.ref p) H'
theorem ok_l_asked (T : Txt K mg A) : FnOk P w K mg base CX0 1 A.f_l_asked A.d_l_asked ["_law_numbers_here"] spAsked := by
  refine T.F_l_asked.ok sc_l_asked (fun vs H Q E h => ?_) (fun cdv Ar outer s0 H vs Q E hr h => ?_)
  · obtain ⟨nu, ns, rfl, _⟩ := h; rfl
  · obtain ⟨nu, ns, rfl, hn, l1, rng, k⟩ := h
    have nl : (ns.map V.int).length = ns.length := List.length_map ..
    refine ⟨_, (pss_cons (ps_set (i := 1) sc_l_asked.nd rfl (Or.inl rfl) (pe_op op_cat (pe_callTy cl_list (by rfl) T.b_list (by decide +kernel) (pa_cons (pv 0) pa_nil)) (pe_lst (pa_cons pe_int (pa_cons pe_int pa_nil)))))
  (pss_cons (ps_if (pt_cmpR op_lt (pe_callB cl_len (by rfl) T.b_len (by decide +kernel) (pa_cons (pv 0) pa_nil)) pe_int (nomark _)) (pss_one (ps_set (i := 1) sc_l_asked.nd rfl (Or.inl rfl) (pe_op op_cat (pe_op op_cat (pv 1) (pe_lc (own := [("_law_number_here", 2)]) (g := gName 2) rfl sc_l_asked.nd (pi_list (pv 0)) (blkOk_by (N := ["_law_numbers_here", "_law_out", "_law_number_here"]) (sc := defScope s_l_asked) (by decide +kernel)) (fun _ _ _ _ _ => (pg_name (i := 2) sc_l_asked.nd rfl (Or.inl rfl))) (fun _ _ _ _ _ => pts_one (pt_cmpR op_gt (pv 2) pe_int (nomark _))) (fun _ _ _ _ _ => (pe_op op_sub (pv 2) pe_int)))) (pe_lc (own := [("_law_number_here", 2)]) (g := gName 2) (tt := tYes) rfl sc_l_asked.nd (pi_list (pv 0)) (blkOk_by (N := ["_law_numbers_here", "_law_out", "_law_number_here"]) (sc := defScope s_l_asked) (by decide +kernel)) (fun _ _ _ _ _ => (pg_name (i := 2) sc_l_asked.nd rfl (Or.inl rfl))) (fun _ _ _ _ _ => pts_nil) (fun _ _ _ _ _ => (pe_op op_add (pv 2) pe_int)))))) pss_nil)
  (pss_one (ps_ret (pv 1))))), ?_⟩
    dsimp only [cxOf, Cx.nox, Cx.wish]
    walk_at "go"
    intro p hp
    walk_at "go"
    intro q hq
    have pq : p ≠ q := ne_of_none upd_same hq
    have hp1 := upd_oth (u' := .lst [V.int 1, .int 999]) pq (upd_same (H := H) (a := p) (o := .lst (ns.map V.int)))
    refine i_catL hp1 upd_same (by rw [nl, sizeLine_eq]; simp; omega) fun r hr => ?_
    have e1 : Ex H (upd (upd (upd H p (.lst (ns.map V.int))) q (.lst [V.int 1, .int 999])) r (.lst (ns.map V.int ++ [V.int 1, .int 999]))) := ((Ex.new hp).trans (Ex.new hq)).trans (Ex.new hr)
    have hr0 : H r = none := ex_none ((Ex.new hp).trans (Ex.new hq)) hr
    have hr1 : (upd (upd (upd H p (.lst (ns.map V.int))) q (.lst [V.int 1, .int 999])) r (.lst (ns.map V.int ++ [V.int 1, .int 999]))) r = some (.lst ((ns ++ [1, 999]).map V.int)) := by rw [upd_same, List.map_append]; rfl
    generalize upd (upd (upd H p (.lst (ns.map V.int))) q (.lst [V.int 1, .int 999])) r (.lst (ns.map V.int ++ [V.int 1, .int 999])) = H1 at e1 hr1
    have hn1 := e1 _ _ hn
    have b1 : ∀ a ∈ ns ++ [1, 999], 1 ≤ a ∧ a ≤ 999 := fun a ha => by
      rcases List.mem_append.mp ha with h | h
      · have := rng a h; omega
      · simp at h; omega
    walk_at "go"
    refine iteD (fun c => ?_) (fun c => ?_)
    · walk_at "go"
      have sz : (ns.map V.int).length < sizeLine := by rw [nl, sizeLine_eq]; omega
      have xe : ∀ (i : Nat) (v : V), (ns.map V.int)[i]? = some v → v = .int (ns.getD i 0) := fun i v h => by
        rw [List.getElem?_map] at h
        rw [List.getD_eq_getElem?_getD]
        cases e : ns[i]? with
        | none => rw [e] at h; cases h
        | some z => rw [e] at h; cases h; rfl
      have xr : ∀ i, i < (ns.map V.int).length → 1 ≤ ns.getD i 0 ∧ ns.getD i 0 ≤ 998 := fun i hi => by
        rw [nl] at hi
        rw [List.getD_eq_getElem?_getD, List.getElem?_eq_getElem hi]
        exact rng _ (List.getElem_mem hi)
      refine lc_pureIf (fun i => .int (ns.getD i 0 - 1)) (fun i => decide (1 < ns.getD i 0)) sz (fun i => .int (ns.getD i 0)) (fun H' e => SqL.of (e _ _ hn1)) (fun i H0 v H' hi y => ⟨y.1, xe i v y.2⟩) (fun i H' Q' hi e q' => ?_) (fun i H' Q' hi hc e q' => ?_) (fun p2 hp2 => ?_)
      · walk_at "go"; exact q'
      · walk_at "go"; exact q'
      have e2 := e1.trans (Ex.new (o := .lst (((List.range (ns.map V.int).length).filter fun i => decide (1 < ns.getD i 0)).map fun i => V.int (ns.getD i 0 - 1))) hp2)
      have rp : r ≠ p2 := ne_of_none hr1 hp2
      have hr2 := upd_oth (u' := .lst (((List.range (ns.map V.int).length).filter fun i => decide (1 < ns.getD i 0)).map fun i => V.int (ns.getD i 0 - 1))) rp hr1
      have fl : (((List.range (ns.map V.int).length).filter fun i => decide (1 < ns.getD i 0)).map fun i => V.int (ns.getD i 0 - 1)).length ≤ 1000 := by
        rw [List.length_map]
        refine Nat.le_trans (List.length_filter_le _ _) ?_
        rw [List.length_range]; omega
      refine i_catL hr2 upd_same (by simp only [List.length_map, List.length_append, List.length_cons, List.length_nil] at fl ⊢; rw [sizeLine_eq]; omega) fun s hs => ?_
      have e3 := e2.trans (Ex.new (o := .lst ((ns ++ [1, 999]).map V.int ++ ((List.range (ns.map V.int).length).filter fun i => decide (1 < ns.getD i 0)).map fun i => V.int (ns.getD i 0 - 1))) hs)
      have hn3 := e3 _ _ hn
      walk_at "go"
      refine lc_pure (fun i => .int (ns.getD i 0 + 1)) sz (fun i => .int (ns.getD i 0)) (fun H' e => SqL.of (e _ _ hn3)) (fun i H0 v H' hi y => ⟨y.1, xe i v y.2⟩) (fun i H' Q' hi e q' => ?_) (fun p3 hp3 => ?_)
      · walk_at "go"; exact q'
      have sp3 : s ≠ p3 := ne_of_none upd_same hp3
      have e4 := e3.trans (Ex.new (o := .lst ((List.range (ns.map V.int).length).map fun i => V.int (ns.getD i 0 + 1))) hp3)
      refine i_catL (upd_oth sp3 upd_same) upd_same (by simp only [List.length_map, List.length_append, List.length_cons, List.length_nil, List.length_range] at fl ⊢; rw [sizeLine_eq]; omega) fun z hz => ?_
      have e5 := e4.trans (Ex.new (o := .lst ((ns ++ [1, 999]).map V.int ++ (((List.range (ns.map V.int).length).filter fun i => decide (1 < ns.getD i 0)).map fun i => V.int (ns.getD i 0 - 1)) ++ (List.range (ns.map V.int).length).map fun i => V.int (ns.getD i 0 + 1))) hz)
      walk_at "go"
      refine k z (ns ++ [1, 999] ++ (((List.range (ns.map V.int).length).filter fun i => decide (1 < ns.getD i 0)).map fun i => ns.getD i 0 - 1) ++ (List.range (ns.map V.int).length).map fun i => ns.getD i 0 + 1) _ e5 (ex_none e4 hz) ?_ fun a ha => ?_
      · rw [upd_same]
        simp only [List.map_append, List.map_map]
        rfl
      · rcases List.mem_append.mp ha with ha | ha
        · rcases List.mem_append.mp ha with ha | ha
          · exact b1 a ha
          · obtain ⟨i, hi, rfl⟩ := List.mem_map.mp ha
            obtain ⟨h1, h2⟩ := List.mem_filter.mp hi
            have := xr i (List.mem_range.mp h1)
            have := of_decide_eq_true h2
            omega
        · obtain ⟨i, hi, rfl⟩ := List.mem_map.mp ha
          have := xr i (List.mem_range.mp hi)
          omega
    · walk_at "go"
      exact k r _ H1 e1 hr0 hr1 b1
end
end Dh
/-! K02P -/
set_option Elab.async false
set_option linter.all false
set_option maxRecDepth 100000
set_option maxHeartbeats 4000000
namespace Dh
open PySem PySem.Spec L2
open _root_.Evl (Ex)
local macro_rules | `(tactic| walk_at "ex") => `(tactic| first | assumption | ((with_reducible apply ex_mut); (focus assumption); walk_at "ex") | ((with_reducible apply ex_both); walk_at "ex") | ((with_reducible apply ex_new); (focus assumption); walk_at "ex"))
local macro_rules | `(tactic| walk_at "hp") => `(tactic| first | assumption | with_reducible exact upd_same | ((with_reducible apply upd_old); (focus assumption); walk_at "hp") | ((with_reducible apply upd_oth); (focus walk_at "neq"); walk_at "hp") | ((with_reducible apply ex_by); (focus assumption); walk_at "ex") | ((with_reducible apply ex_at); (focus assumption); walk_at "hp"))
local macro_rules | `(tactic| walk_at "neq") => `(tactic| first | assumption | (apply Ne.symm; assumption))
local macro_rules | `(tactic| walk_at "sq") => `(tactic| first | assumption | ((with_reducible apply SqL.of); walk_at "hp") | ((with_reducible apply SqT.of); walk_at "hp"))
local macro_rules | `(tactic| walk_at "side") => `(tactic| first | assumption | decide | exact cm_fmod (by decide) (by decide) | (show _ ≠ (0 : Int); decide) | (show _ ≠ (0 : Int); omega) | exact Or.inr ⟨by decide, by decide⟩ | exact Or.inl ⟨by decide, by decide⟩ | (show CDivN _ _; exact ⟨by decide, by decide⟩) | (show CDivN _ _; exact ⟨by omega, by omega⟩) | exact Or.inl ⟨by omega, by omega⟩ | exact Or.inr ⟨by omega, by omega⟩ | exact ⟨by decide, by decide, by decide⟩)
local macro_rules | `(tactic| walk_at "ix") => `(tactic| first | exact rfl | assumption | exact atI_nat (by assumption))
local macro_rules | `(tactic| walk_at "step0") => `(tactic| first
  | with_reducible refine i_seq ?_
  | with_reducible refine i_asg ?_
  | with_reducible refine i_op ?_
  | ((with_reducible refine' i_var ?hv ?_); (case hv => exact rfl))
  | with_reducible refine i_c ?_
  | with_reducible refine i_cons ?_
  | with_reducible refine i_nil ?_
  | with_reducible refine i_cb ?_
  | with_reducible refine i_call ?_
  | with_reducible refine i_call' ?_
  | with_reducible refine i_un ?_
  | with_reducible refine i_I0 ?_
  | ((with_reducible refine i_I ?hv ?_); (case hv => walk_at "side"))
  | with_reducible refine i_eqI ?_
  | with_reducible refine i_neI ?_
  | with_reducible refine i_eqS ?_
  | with_reducible refine i_neS ?_
  | ((with_reducible refine i_eq ?hv ?_); (case hv => exact rfl))
  | ((with_reducible refine i_ne ?hv ?_); (case hv => exact rfl))
  | with_reducible refine i_int1 ?_
  | with_reducible refine i_abs ?_
  | ((with_reducible refine' i_ixL ?hv ?hw ?_); (case hv => walk_at "sq"); (case hw => walk_at "ix"))
  | ((with_reducible refine' i_ixT ?hv ?hw ?_); (case hv => walk_at "sq"); (case hw => walk_at "ix"))
  | ((with_reducible refine' i_lenL ?hv ?_); (case hv => walk_at "sq"))
  | ((with_reducible refine' i_lenT ?hv ?_); (case hv => walk_at "sq"))
  | with_reducible refine i_addIB ?_
  | with_reducible refine i_mulIB ?_
  | ((with_reducible refine i_lenS ?hv ?_); (case hv => walk_at "side"))
  | with_reducible refine i_tup ?_
  | with_reducible refine i_lst ?_
  | with_reducible refine i_asgG ?_
  | with_reducible refine i_gname ?_
  | with_reducible refine i_gsub ?_
  | ((with_reducible refine' i_setL ?hv ?hw ?_); (case hv => walk_at "hp"); (case hw => exact rfl))
  | with_reducible refine i_ret ?_
  | with_reducible refine i_drop ?_
  | with_reducible refine i_next ?_
  | with_reducible refine i_test ?_
  | with_reducible refine i_B ?_
  | with_reducible refine i_bl ?_
  | with_reducible refine i_not ?_
  | with_reducible refine i_and ?_
  | with_reducible refine i_or ?_
  | ((with_reducible refine' i_app ?hv ?hw ?_); (case hv => walk_at "hp"); (case hw => walk_at "side"))
  | with_reducible refine iteT ?_
  | with_reducible refine iteF ?_
  | with_reducible refine iteNT ?_
  | with_reducible refine iteNF ?_
  | ((with_reducible refine iteT' ?hv ?_); (case hv => first | exact decide_eq_true (by assumption) | exact notF (by assumption) | exact decide_eq_true rfl | exact notF (by decide) | exact decide_eq_true (by decide) | exact decide_eq_true (by simp only [List.length_cons, List.length_nil]; decide)))
  | ((with_reducible refine iteF' ?hv ?_); (case hv => first | exact decide_eq_false (by assumption) | exact notT (by assumption) | exact notT rfl | exact decide_eq_false (by decide) | exact decide_eq_false (by simp only [List.length_cons, List.length_nil]; decide)))
  | with_reducible refine i_forL ?_
  | with_reducible refine i_forT ?_
  | with_reducible refine i_forR ?_
  | with_reducible refine i_forR2 ?_
  | with_reducible refine i_forE ?_
  | with_reducible refine i_forV ?_
  | with_reducible refine i_forS ?_
  | with_reducible refine i_forK ?_
  | with_reducible refine i_lcL ?_
  | with_reducible refine i_lcT ?_
  | with_reducible refine i_lcR ?_
  | with_reducible refine i_lcR2 ?_
  | with_reducible refine i_lcS ?_
  | with_reducible refine i_lcK ?_
  | ((with_reducible refine' fl_L ?hv ?_); (case hv => walk_at "sq"))
  | ((with_reducible refine' fl_T ?hv ?_); (case hv => walk_at "sq"))
  | ((with_reducible refine fl_R ?hv ?hw ?_); (case hv => (first | decide | omega)); (case hw => (first | decide | omega)))
  | ((with_reducible refine fl_R2 ?hv ?_); (case hv => (first | decide | (refine ⟨?_, ?_, ?_, ?_⟩ <;> omega))))
  | ((with_reducible refine' fl_E ?hv ?_); (case hv => walk_at "sq"))
  | ((with_reducible refine' fl_V ?hv ?_); (case hv => walk_at "sq"))
  | with_reducible refine fl_S ?_
  | ((with_reducible refine' fc_L ?hv ?_); (case hv => walk_at "sq"))
  | ((with_reducible refine' fc_T ?hv ?_); (case hv => walk_at "sq"))
  | ((with_reducible refine fc_R ?hv ?hw ?_); (case hv => (first | decide | omega)); (case hw => (first | decide | omega)))
  | with_reducible refine fc_S ?_
  | with_reducible refine i_sl ?_
  | with_reducible refine i_nopart ?_
  | with_reducible refine i_part ?_
  | with_reducible refine i_isint ?_
  | ((with_reducible refine' i_slL ?hv ?_); (case hv => walk_at "sq"))
  | ((with_reducible refine i_slS ?hv ?_); (case hv => walk_at "side"))
  | ((with_reducible refine' i_gtup ?hv ?hw ?_); (case hv => walk_at "sq"); (case hw => exact rfl))
  | with_reducible refine i_gcons ?_
  | with_reducible refine i_gnil ?_
  | ((with_reducible refine' i_listL ?hv ?_); (case hv => walk_at "sq"))
  | ((with_reducible refine' i_listT ?hv ?_); (case hv => walk_at "sq"))
  | ((with_reducible refine' i_tupL ?hv ?_); (case hv => walk_at "sq"))
  | ((with_reducible refine' i_lenD ?hv ?_); (case hv => walk_at "hp"))
  | ((with_reducible refine' i_ty ?hv ?_); (case hv => walk_at "hp"))
  | ((with_reducible refine And.intro ?hv ?_); (case hv => first | exact (by decide : (0 : Nat) ≤ sizeLine) | exact (by decide : (1 : Nat) ≤ sizeLine) | exact (by decide : (2 : Nat) ≤ sizeLine) | exact (by decide : (3 : Nat) ≤ sizeLine) | exact (by decide : (4 : Nat) ≤ sizeLine) | exact (by decide : (5 : Nat) ≤ sizeLine) | exact (by decide : (6 : Nat) ≤ sizeLine)))
  | with_reducible refine i_inC ?_
  | ((with_reducible refine i_addT ?hv ?_); (case hv => walk_at "side"))
  | with_reducible refine i_m1 ?_
  | with_reducible refine i_isstr ?_
  | with_reducible refine is_int_int ?_
  | with_reducible refine is_int_bool ?_
  | with_reducible refine is_str_str ?_
  | ((with_reducible refine' is_tup_tup ?hv ?_); (case hv => walk_at "hp"))
  | with_reducible refine i_ifExp ?_
  | with_reducible refine i_andV ?_
  | with_reducible refine i_orV ?_
  | with_reducible refine i_notV ?_
  | with_reducible refine i_chain ?_
  | ((with_reducible refine' i_inS ?hv ?_); (case hv => walk_at "sq"))
  | ((with_reducible refine' i_niS ?hv ?_); (case hv => walk_at "sq"))
  | ((with_reducible refine' i_inI ?hv ?_); (case hv => walk_at "sq"))
  | ((with_reducible refine' i_niI ?hv ?_); (case hv => walk_at "sq"))
  | with_reducible refine i_dnew ?_
  | with_reducible refine i_dput ?_
  | ((with_reducible refine' i_dputI ?hv ?hw ?_); (case hv => walk_at "hp"); (case hw => walk_at "side"))
  | with_reducible refine i_dget ?_
  | ((with_reducible refine' i_dgetI ?hv ?hw ?_); (case hv => walk_at "hp"); (case hw => assumption))
  | with_reducible refine i_dnotin ?_
  | with_reducible refine i_din ?_
  | ((with_reducible refine' i_dnotinI ?hv ?_); (case hv => walk_at "hp"))
  | with_reducible refine i_dsetd ?_
  | ((with_reducible refine' i_isd ?hv ?_); (case hv => walk_at "hp"))
  | with_reducible refine i_fld ?_
  | with_reducible refine i_sfld ?_
  | with_reducible refine i_dcT ?_
  | with_reducible refine i_dcL ?_
  | with_reducible refine i_truT ?_
  | ((with_reducible refine' i_truL ?hv ?_); (case hv => walk_at "sq"))
  | with_reducible refine i_revL ?_
  | ((with_reducible refine' i_atLx ?hv ?_); (case hv => walk_at "sq"))
  | with_reducible refine i_bm ?_
  | with_reducible refine i_bm0 ?_)
local macro_rules | `(tactic| walk_at "step") => `(tactic| first | walk_at "step0" | with_reducible refine i_ifS ?_)
local macro_rules | `(tactic| walk_at "goj") => `(tactic| repeat (first | walk_at "step0" | with_reducible refine i_ifS (c := tTest _) ?_ | with_reducible refine i_ifS (c := tB _) ?_))
local macro_rules | `(tactic| walk_at "tj") => `(tactic| (intro q hq; repeat (first | exact hq | walk_at "step" | (refine and_q hq (fun h => ?_); clear hq; rename_i hq) | (refine or_q hq (fun h => ?_); clear hq; rename_i hq))))
local macro_rules | `(tactic| walk_at "go") => `(tactic| repeat walk_at "step")

section
variable {P : Program} {w : World} {K : PySem.W.Frag} {mg : Str → Option Value} {base : Heap} {A : Ad}
/-- frozen: one list -/
def F0 (n : Addr) (ns : List Int) : Hp := upd (fun _ => none) n (.lst (ns.map V.int))
theorem F0_ex {H : Hp} {n : Addr} {ns : List Int} (h : H n = some (.lst (ns.map V.int))) : Ex (F0 n ns) H := fun a o e => by
  unfold F0 at e
  by_cases q : a = n
  · subst q; rw [upd_same] at e; cases e; exact h
  · rw [upd_ne q] at e; cases e
/-- the groups' entries, one group behind the other -/
def flat (G : Nat → List En) : Nat → List En
  | 0 => []
  | c + 1 => flat G c ++ G c
theorem flat_same {G G' : Nat → List En} : ∀ {c : Nat}, (∀ k, k < c → G' k = G k) → flat G' c = flat G c
  | 0, _ => rfl
  | c + 1, h => by
    show flat G' c ++ G' c = flat G c ++ G c
    rw [flat_same fun k hk => h k (by omega), h c (by omega)]
def addG {α : Type} (G : Nat → List α) (j : Nat) (e : α) : Nat → List α := fun k => if k = j then G k ++ [e] else G k
theorem flat_add {G : Nat → List En} {j : Nat} {e : En} : ∀ {c : Nat}, j < c → (flat (addG G j e) c).Perm (flat G c ++ [e])
  | 0, h => by omega
  | c + 1, h => by
    show (flat (addG G j e) c ++ addG G j e c).Perm (flat G c ++ G c ++ [e])
    by_cases q : c = j
    · subst q
      rw [flat_same (G' := addG G c e) (G := G) fun k hk => if_neg (by omega)]
      unfold addG
      rw [if_pos rfl, List.append_assoc]
    · have ih := flat_add (G := G) (e := e) (c := c) (by omega : j < c)
      have e2 : addG G j e c = G c := if_neg q
      rw [e2]
      refine (List.Perm.append_right _ ih).trans ?_
      rw [List.append_assoc, List.append_assoc]
      exact List.Perm.append_left _ List.perm_append_comm
theorem flat_len {G : Nat → List En} {k : Nat} : ∀ {c : Nat}, k < c → (G k).length ≤ (flat G c).length
  | 0, h => by omega
  | c + 1, h => by
    show _ ≤ (flat G c ++ G c).length
    rw [List.length_append]
    by_cases q : c = k
    · subst q; omega
    · have := flat_len (G := G) (k := k) (c := c) (by omega); omega
theorem flat_sub {G : Nat → List En} {i : Nat} : ∀ {c : Nat}, i ≤ c → (flat G i).Sublist (flat G c)
  | 0, h => by
    have : i = 0 := by omega
    subst this; exact List.Sublist.refl _
  | c + 1, h => by
    by_cases q : i = c + 1
    · subst q; exact List.Sublist.refl _
    · exact (flat_sub (G := G) (c := c) (by omega)).trans (List.sublist_append_left _ _)
/-- the groups as they stand -/
structure Gr (F H : Hp) (gs : Addr) (ga : List Addr) (T : Nat → List V) (G : Nat → List En) : Prop where
  hd : H gs = some (.lst (ga.map V.ref))
  at_ : ∀ (k : Nat) (z : Addr), ga[k]? = some z → H z = some (.lst (T k))
  es : ∀ k, EsAt F (T k) (G k)
theorem nd_ne {ga : List Addr} (h : ga.Nodup) {i j : Nat} {a c : Addr} (ha : ga[i]? = some a) (hc : ga[j]? = some c) (n : i ≠ j) : a ≠ c := fun q => by
  subst q
  obtain ⟨h1, e1⟩ := List.getElem?_eq_some_iff.mp ha
  obtain ⟨h2, e2⟩ := List.getElem?_eq_some_iff.mp hc
  exact n ((List.getElem_inj h).mp (e1.trans e2.symm))
theorem Bg.mut {F H : Hp} {b p : Addr} {o : HO} (B : Bg F H b) (n : p ≠ b) : Bg F (upd H p o) b := by
  obtain ⟨l, hb, hl⟩ := B.ex
  exact ⟨B.fr, l, upd_oth n.symm hb, hl⟩
def spLaw (K : PySem.W.Frag) : Sp := fun vs H Q _ => ∃ (a : Addr) (ns : List Int), vs = [.ref a] ∧ SqL K H a (ns.map V.int) ∧ ns.length ≤ 63 ∧ ∀ H', Q (.bl true) H'
theorem ok_law (T : Txt K mg A) : FnOk P w K mg base CX0 8 A.f_law A.d_law ["_law_script"] (spLaw K) := by
  refine T.F_law.ok sc_law (fun vs H Q E h => ?_) (fun cdv Ar outer s0 H vs Q E hr h => ?_)
  · obtain ⟨a, ns, rfl, _⟩ := h; rfl
  · obtain ⟨a, scr, rfl, hs, l63, k⟩ := h
    refine ⟨_, (pss_cons (ps_set (i := 1) sc_law.nd rfl (Or.inl rfl) (pe_call (ok_l_bag T) (hr.mono (by decide)) rfl T.g_l_bag T.F_l_bag.kp T.bi_l_bag .nil pass0 (pa_cons (pv 0) pa_nil)))
  (pss_cons (ps_set (i := 2) sc_law.nd rfl (Or.inl rfl) (pe_lst pa_nil))
  (pss_cons (ps_for PassesOwn.never rfl (pi_range1 rfl T.b_range (pa_cons pe_int pa_nil)) (pg_name (i := 3) sc_law.nd rfl (Or.inl rfl))
   (pss_one (ps_expr (pe_call (ok_l_new_name T) (hr.mono (by decide)) rfl T.g_l_new_name T.F_l_new_name.kp T.bi_l_new_name .nil pass0 (pa_cons (pv 1) (pa_cons (pv 2) pa_nil))))))
  (pss_cons (ps_set (i := 4) sc_law.nd rfl (Or.inl rfl) (pe_call (ok_l_pick T) (hr.mono (by decide)) rfl T.g_l_pick T.F_l_pick.kp T.bi_l_pick .nil pass0 (pa_cons (pv 1) (pa_cons pe_int pa_nil))))
  (_root_.Evl.pss_cut (ps_if (pt_cmpR op_eq (pe_call (ok_l_pick T) (hr.mono (by decide)) rfl T.g_l_pick T.F_l_pick.kp T.bi_l_pick .nil pass0 (pa_cons (pv 1) (pa_cons pe_int pa_nil))) pe_int (nomark _)) (pss_one (ps_set (i := 4) sc_law.nd rfl (Or.inl rfl) (pe_op op_add pe_int (pe_call (ok_l_pick T) (hr.mono (by decide)) rfl T.g_l_pick T.F_l_pick.kp T.bi_l_pick .nil pass0 (pa_cons (pv 1) (pa_cons pe_int pa_nil)))))) pss_nil)
  (pss_cons (ps_set (i := 5) sc_law.nd rfl (Or.inl rfl) (pe_call (ok_l_numbers T) (hr.mono (by decide)) rfl T.g_l_numbers T.F_l_numbers.kp T.bi_l_numbers .nil pass0 (pa_cons (pv 1) (pa_cons (pv 4) pa_nil))))
  (pss_cons (ps_set (i := 6) sc_law.nd rfl (Or.inl rfl) (pe_call (ok_l_rows T) (hr.mono (by decide)) rfl T.g_l_rows T.F_l_rows.kp T.bi_l_rows .nil pass0 (pa_cons (pv 1) (pa_cons (pv 5) (pa_cons (pv 2) pa_nil)))))
  (pss_cons (ps_set (i := 7) sc_law.nd rfl (Or.inl rfl) (pe_call (ok_l_rows T) (hr.mono (by decide)) rfl T.g_l_rows T.F_l_rows.kp T.bi_l_rows .nil pass0 (pa_cons (pv 1) (pa_cons (pv 5) (pa_cons (pv 2) pa_nil)))))
  (pss_cons (ps_set (i := 8) sc_law.nd rfl (Or.inl rfl) (pe_op op_add pe_int (pe_call (ok_l_pick T) (hr.mono (by decide)) rfl T.g_l_pick T.F_l_pick.kp T.bi_l_pick .nil pass0 (pa_cons (pv 1) (pa_cons pe_int pa_nil)))))
  (pss_cons (ps_setLc (i := 9) (own := [("_law_k", 3)]) (g := gName 3) (tt := tYes) rfl sc_law.nd rfl rfl (sw_true rfl rfl rfl (by decide +kernel)) (pi_range1 rfl T.b_range (pa_cons (pv 8) pa_nil)) (blkOk_by (N := ["_law_script", "_law_bag_here", "_law_names", "_law_k", "_law_many", "_law_numbers_here", "_law_entries", "_law_second", "_law_count", "_law_groups", "_law_entry", "_law_other", "_law_other_stood", "_law_sheet", "_law_read", "_law_stood_here", "_law_number_here"]) (sc := defScope s_law) (by decide +kernel)) (fun _ _ _ _ _ => (pg_name (i := 3) sc_law.nd rfl (Or.inl rfl))) (fun _ _ _ _ _ => pts_nil) (fun _ _ _ _ _ => (pe_lst pa_nil)))
  (pss_cons (ps_for PassesOwn.never rfl (pi_list (pe_call (ok_l_mingled T) (hr.mono (by decide)) rfl T.g_l_mingled T.F_l_mingled.kp T.bi_l_mingled .nil pass0 (pa_cons (pv 1) (pa_cons (pv 6) pa_nil)))) (pg_name (i := 10) sc_law.nd rfl (Or.inl rfl))
   (pss_one (ps_expr (pe_bm PySem.F.plainAttrs_list PySem.F.slot_list_append PySem.F.type_list_append mt_append (pe_ix ix_list (pv 9) (pe_call (ok_l_pick T) (hr.mono (by decide)) rfl T.g_l_pick T.F_l_pick.kp T.bi_l_pick .nil pass0 (pa_cons (pv 1) (pa_cons (pv 8) pa_nil))) (fun _ _ => rfl)) (pa_cons (pv 10) pa_nil)))))
  (pss_cons (ps_set (i := 11) sc_law.nd rfl (Or.inl rfl) (pe_make T.mk_Sheet (ok_Sheet___init__ T) (hr.mono (by decide)) rfl T.g_Sheet T.bi_Sheet_XinitX .nil pass0 (pa_cons (pe_call (ok_l_mingled T) (hr.mono (by decide)) rfl T.g_l_mingled T.F_l_mingled.kp T.bi_l_mingled .nil pass0 (pa_cons (pv 1) (pa_cons (pv 7) pa_nil))) pa_nil)))
  (pss_cons (ps_set (i := 12) sc_law.nd rfl (Or.inl rfl) (pe_call (ok_l_stood T) (hr.mono (by decide)) rfl T.g_l_stood T.F_l_stood.kp T.bi_l_stood .nil pass0 (pa_cons (pv 7) pa_nil)))
  (pss_cons (ps_set (i := 13) sc_law.nd rfl (Or.inl rfl) (pe_make T.mk_Sheet (ok_Sheet___init__ T) (hr.mono (by decide)) rfl T.g_Sheet T.bi_Sheet_XinitX .nil pass0 (pa_cons (pe_ix ix_list (pv 9) pe_int (fun _ _ => rfl)) pa_nil)))
  (pss_cons (ps_set (i := 14) sc_law.nd rfl (Or.inl rfl) (pe_callTy cl_list (by rfl) T.b_list (by decide +kernel) (pa_cons (pe_ix ix_list (pv 9) pe_int (fun _ _ => rfl)) pa_nil)))
  (pss_cons (ps_for PassesOwn.never rfl (pi_range1 rfl T.b_range (pa_cons (pv 8) pa_nil)) (pg_name (i := 3) sc_law.nd rfl (Or.inl rfl))
   (_root_.Evl.pss_cut (ps_if (pt_cmpR op_gt (pv 3) pe_int (nomark _)) (pss_cons (ps_aug (i := 13) sc_law.nd rfl (Or.inl rfl) (pe_make T.mk_Sheet (ok_Sheet___init__ T) (hr.mono (by decide)) rfl T.g_Sheet T.bi_Sheet_XinitX .nil pass0 (pa_cons (pe_ix ix_list (pv 9) (pv 3) (fun _ _ => rfl)) pa_nil)) (ip_own (ok_Sheet___ior__ T) (hr.mono (by decide)) T.sf_Sheet T.io_Sheet T.if_Sheet T.bi_Sheet_XiorX pass0))
  (pss_one (ps_set (i := 14) sc_law.nd rfl (Or.inl rfl) (pe_op op_cat (pv 14) (pe_ix ix_list (pv 9) (pv 3) (fun _ _ => rfl)))))) pss_nil)
  (pss_cons (ps_set (i := 15) sc_law.nd rfl (Or.inl rfl) (pe_call (ok_l_stood T) (hr.mono (by decide)) rfl T.g_l_stood T.F_l_stood.kp T.bi_l_stood .nil pass0 (pa_cons (pv 14) pa_nil)))
  (pss_one (ps_for PassesOwn.never rfl (pi_list (pe_call (ok_l_asked T) (hr.mono (by decide)) rfl T.g_l_asked T.F_l_asked.kp T.bi_l_asked .nil pass0 (pa_cons (pv 5) pa_nil))) (pg_name (i := 16) sc_law.nd rfl (Or.inl rfl))
   (_root_.Evl.pss_cut (ps_if (pt_cmpR op_ne (pe_call (ok_l_told T) (hr.mono (by decide)) rfl T.g_l_told T.F_l_told.kp T.bi_l_told .nil pass0 (pa_cons (pv 13) (pa_cons (pv 16) pa_nil))) (pe_call (ok_l_due T) (hr.mono (by decide)) rfl T.g_l_due T.F_l_due.kp T.bi_l_due .nil pass0 (pa_cons (pv 14) (pa_cons (pv 15) (pa_cons (pv 16) pa_nil)))) (nomark _)) (pss_one (ps_ret pe_bl)) pss_nil)
  (pss_one (ps_if (pt_cmpR op_ne (pe_call (ok_l_told T) (hr.mono (by decide)) rfl T.g_l_told T.F_l_told.kp T.bi_l_told .nil pass0 (pa_cons (pv 11) (pa_cons (pv 16) pa_nil))) (pe_call (ok_l_due T) (hr.mono (by decide)) rfl T.g_l_due T.F_l_due.kp T.bi_l_due .nil pass0 (pa_cons (pv 7) (pa_cons (pv 12) (pa_cons (pv 16) pa_nil)))) (nomark _)) (pss_one (ps_ret pe_bl)) pss_nil))))))))
  (pss_one (ps_ret pe_bl)))))))))))))))))), ?_⟩
    dsimp only [cxOf, Cx.nox, Cx.wish]
    -- the bag
    walk_at "go"
    refine ⟨a, scr, rfl, hs, l63, fun b n sd H1 e1 hb0 hn0 bn hn hb => ?_⟩
    have S : Sb (F0 n scr) b H1 H1 := Sb.start (F0_ex hn) ⟨by unfold F0; rw [upd_ne bn], _, hb, n, scr, 0, 0, 0, sd, rfl, by unfold F0; rw [upd_same], by decide, by decide⟩
    have x0 := S.ex
    have B0 := S.bg
    generalize F0 n scr = F at x0 B0
    clear S hn hb hs hb0 hn0 e1
    -- the names
    walk_at "go"
    intro u hu
    have S1 := (Sb.start x0 B0).new (o := .lst []) hu
    have Fu : F u = none := ex_none x0 hu
    have ub : u ≠ b := (Sb.start x0 B0).ne hu
    have hu1 : (upd H1 u (.lst [])) u = some (.lst []) := upd_same
    generalize upd H1 u (.lst []) = H2 at S1 hu1
    have x2 := S1.ex
    have B2 := S1.bg
    clear S1 x0 B0 hu
    walk_at "go"
    refine ⟨fun i σ H' => ∃ (o : Option V) (us : List Str), σ = [some (.ref a), some (.ref b), some (.ref u), o, none, none, none, none, none, none, none, none, none, none, none, none, none] ∧ Ex F H' ∧ Bg F H' b ∧ H' u = some (.lst (us.map V.str)) ∧ us.length = i ∧ ∀ y ∈ us, NameOk y, ?_, fun i σ H' hi h => trivial, fun i v σ H3 H4 hi h y => ?_, fun σ H3 h => ?_⟩
    · exact ⟨none, [], rfl, x2, B2, hu1, rfl, by simp⟩
    · obtain ⟨o, us, rfl, x3, B3, hu3, ul, un⟩ := h
      obtain ⟨rfl, rfl⟩ := y
      walk_at "go"
      refine ⟨b, u, us, F, rfl, x3, B3, Fu, ub, hu3, by omega, un, fun z H5 zN _ hu5 S5 => ?_⟩
      walk_at "go"
      refine ⟨_, us ++ [z], rfl, S5.ex, S5.bg, hu5, by simp [ul], fun y hy => ?_⟩
      rcases List.mem_append.mp hy with h | h
      · exact un y h
      · rw [List.mem_singleton.mp h]; exact zN
    clear x2 B2 hu1
    obtain ⟨o, us, rfl, x3, B3, hu3, ul, un⟩ := h
    have S3 := (Sb.start x3 B3).fix hu3 Fu ub
    have hu4 : (upd F u (.lst (us.map V.str))) u = some (.lst (us.map V.str)) := upd_same
    generalize upd F u (.lst (us.map V.str)) = F1 at S3 hu4
    clear x3 B3 hu3 Fu
    -- how many
    walk_at "go"
    refine i_pick S3.ex S3.bg (by decide) (by decide) fun m l m0 m1 hl => ?_
    have S4 := S3.pick hl
    have x4 := S4.ex
    have B4 := S4.bg
    generalize upd H3 b (.lst l) = H4 at S4 x4 B4
    clear S3 S4
    walk_at "go"
    refine ⟨fun σ H' => ∃ m : Int, σ = [some (.ref a), some (.ref b), some (.ref u), o, some (.int m), none, none, none, none, none, none, none, none, none, none, none, none] ∧ 0 ≤ m ∧ m ≤ 60 ∧ Ex F1 H' ∧ Bg F1 H' b, ?_, fun σ H5 h => ?_⟩
    · walk_at "go"
      refine i_pick x4 B4 (by decide) (by decide) fun m2 l m20 m21 hl => ?_
      have S5 := (Sb.start x4 B4).pick hl
      walk_at "go"
      refine iteD (fun c => ?_) (fun c => ?_)
      · walk_at "go"
        refine i_pick S5.ex S5.bg (by decide) (by decide) fun m3 l m30 m31 hl => ?_
        have S6 := S5.pick hl
        walk_at "go"
        exact ⟨30 + m3, rfl, by omega, by omega, S6.ex, S6.bg⟩
      · walk_at "go"
        exact ⟨m, rfl, by omega, by omega, S5.ex, S5.bg⟩
    clear x4 B4 m0 m1 hl
    obtain ⟨m, rfl, m0, m1, x5, B5⟩ := h
    -- numbers, rows
    walk_at "go"
    refine ⟨b, m, F1, rfl, m0, m1, x5, B5, fun p1 ns H6 nl asc rng hp1 hp2 S6 => ?_⟩
    have x6 := S6.ex
    have B6 := S6.bg
    have Fp1 : F1 p1 = none := ex_none x5 hp1
    have p1b : p1 ≠ b := (Sb.start x5 B5).ne hp1
    have S7 := (Sb.start x6 B6).fix hp2 Fp1 p1b
    have hu7 : (upd F1 p1 (.lst (ns.map V.int))) u = some (.lst (us.map V.str)) := by rw [upd_ne (ne_of_none hu4 Fp1)]; exact hu4
    have hn7 : (upd F1 p1 (.lst (ns.map V.int))) p1 = some (.lst (ns.map V.int)) := upd_same
    generalize upd F1 p1 (.lst (ns.map V.int)) = F2 at S7 hu7 hn7
    clear x6 B6 S6 x5 B5 hp1 hp2 Fp1
    have ul2 : us.length = 2 := ul
    walk_at "go"
    refine ⟨b, p1, u, ns, us, F2, rfl, S7.ex, S7.bg, hn7, hu7, by omega, by omega, un, asc, rng, by omega, fun p2 ts es F3 H7 x23 hp20 hp2F hp2 S8 EA en1 O1 => ?_⟩
    have p2b : p2 ≠ b := S7.ne hp20
    have S9 := (Sb.start S8.ex S8.bg).fix hp2 hp2F p2b
    have hu9 := Ex.new (o := .lst ts) hp2F _ _ (x23 _ _ hu7)
    have hn9 := Ex.new (o := .lst ts) hp2F _ _ (x23 _ _ hn7)
    have EA9 := EA.ex (Ex.new (o := .lst ts) hp2F)
    have he9 : (upd F3 p2 (.lst ts)) p2 = some (.lst ts) := upd_same
    generalize upd F3 p2 (.lst ts) = F4 at S9 hu9 hn9 EA9 he9
    clear S8 EA hp2F hp2 hp20 x23 hu7 hn7 S7
    walk_at "go"
    refine ⟨b, p1, u, ns, us, F4, rfl, S9.ex, S9.bg, hn9, hu9, by omega, by omega, un, asc, rng, by omega, fun p3 ts2 es2 F5 H8 x45 hp30 hp3F hp3 S8 EA2 en2 O2 => ?_⟩
    have p3b : p3 ≠ b := S9.ne hp30
    have S10 := (Sb.start S8.ex S8.bg).fix hp3 hp3F p3b
    have hn10 := Ex.new (o := .lst ts2) hp3F _ _ (x45 _ _ hn9)
    have he10 := Ex.new (o := .lst ts2) hp3F _ _ (x45 _ _ he9)
    have EA10 := EA9.ex (x45.trans (Ex.new (o := .lst ts2) hp3F))
    have EB10 := EA2.ex (Ex.new (o := .lst ts2) hp3F)
    have hs10 : (upd F5 p3 (.lst ts2)) p3 = some (.lst ts2) := upd_same
    generalize upd F5 p3 (.lst ts2) = F6 at S10 hn10 he10 EA10 EB10 hs10
    clear S8 EA2 hp3F hp3 hp30 x45 hu9 hn9 S9 he9 EA9
    have x10 := S10.ex
    have B10 := S10.bg
    walk_at "go"
    refine i_pick x10 B10 (by decide) (by decide) fun ct l c0 c1 hl => ?_
    have S11 := (Sb.start x10 B10).pick hl
    have x11 := S11.ex
    have B11 := S11.bg
    generalize upd H8 b (.lst l) = H9 at x11 B11
    clear S10 S11 x10 B10 hl
    walk_at "go"
    refine lc_eff fun gs hgs => ⟨fun i acc H' => ∃ ga : List Addr, acc = ga.map V.ref ∧ ga.length = i ∧ ga.Nodup ∧ Sb F6 b H9 H' ∧ ∀ z ∈ ga, H' z = some (.lst []) ∧ H9 z = none ∧ z ≠ gs, ?_, fun _ _ _ _ _ => trivial, fun i z acc H2 H3 hi h hacc y => ?_, fun acc H10 h hacc => ?_⟩
    · exact ⟨[], rfl, rfl, .nil, (Sb.start x11 B11).new hgs, by simp⟩
    · obtain ⟨ga, rfl, gl, gn, SS, gz⟩ := h
      obtain ⟨rfl, rfl⟩ := y
      walk_at "go"
      intro p hp
      have pg : p ≠ gs := (ne_of_none hacc hp).symm
      have gsb : gs ≠ b := (Sb.start x11 B11).ne hgs
      have S12 := SS.new (o := .lst []) hp
      refine lcK (upd_oth pg.symm hacc) (by rw [List.length_map, sizeLine_eq]; omega) ⟨ga ++ [p], by simp, by simp [gl], ?_, S12.mut (ex_none x11 hgs) hgs gsb, fun z hz => ?_⟩
      · refine List.nodup_append.mpr ⟨gn, (by simp), fun a' ha b' hb q => ?_⟩
        rw [List.mem_singleton.mp hb] at q
        subst q
        rw [(gz _ ha).1] at hp; cases hp
      · rcases List.mem_append.mp hz with h | h
        · obtain ⟨z1, z2, z3⟩ := gz z h
          exact ⟨upd_oth z3 (upd_oth (ne_of_none z1 hp) z1), z2, z3⟩
        · rw [List.mem_singleton.mp h]
          exact ⟨upd_oth pg upd_same, SS.free hp, pg⟩
    walk_at "go"
    obtain ⟨ga, rfl, gl, gn, SS, gz⟩ := h
    have gsb : gs ≠ b := (Sb.start x11 B11).ne hgs
    have gsF : F6 gs = none := ex_none x11 hgs
    have gzF : ∀ z ∈ ga, F6 z = none ∧ z ≠ b ∧ z ≠ gs := fun z hz => ⟨ex_none x11 (gz z hz).2.1, (Sb.start x11 B11).ne (gz z hz).2.1, (gz z hz).2.2⟩
    have tl1 : ts.length ≤ 60 := by have := EA10.length; have := congrArg List.length en1; rw [List.length_map] at this; omega
    refine ⟨b, p2, ts, F6, rfl, SS.ex, SS.bg, he10, by omega, fun pm ys H11 pe hpm0 hpm x12 B12 kp => ?_⟩
    obtain ⟨ey, EAy, pey⟩ := paired_perm pe EA10
    have eyl := EAy.length
    have ysl : ys.length ≤ 60 := by have := pe.length_eq; omega
    have pmg : pm ≠ gs := (ne_of_none hacc hpm0).symm
    have pmb : pm ≠ b := SS.ne hpm0
    have pmz : ∀ z ∈ ga, z ≠ pm := fun z hz => ne_of_none (gz z hz).1 hpm0
    have pmF : F6 pm = none := ex_none SS.ex hpm0
    have G0 : Gr F6 H11 gs ga (fun _ => []) (fun _ => []) := ⟨kp _ _ gsb hacc, fun k z hz => kp _ _ (gzF z (List.mem_of_getElem? hz)).2.1 (gz z (List.mem_of_getElem? hz)).1, fun _ => .nil⟩
    clear SS gz hacc kp x11 B11 hgs
    walk_at "go"
    refine ⟨fun i σ H' => ∃ (o2 : Option V) (T : Nat → List V) (G : Nat → List En), σ = [some (.ref a), some (.ref b), some (.ref u), o, some (.int m), some (.ref p1), some (.ref p2), some (.ref p3), some (.int (1 + ct)), some (.ref gs), o2, none, none, none, none, none, none] ∧ Ex F6 H' ∧ Bg F6 H' b ∧ H' pm = some (.lst ys) ∧ Gr F6 H' gs ga T G ∧ (flat G (1 + ct).toNat).Perm (ey.take i), ?_, fun i σ H' hi h => ?_, fun i v σ H2 H3 hi h y => ?_, fun σ H12 h => ?_⟩
    · refine ⟨none, _, _, rfl, x12, B12, hpm, G0, ?_⟩
      have : ∀ c, flat (fun _ => []) c = [] := fun c => by
        induction c with
        | zero => rfl
        | succ c ih => show flat _ c ++ [] = []; rw [ih]; rfl
      rw [this]; exact .refl _
    · obtain ⟨_, _, _, _, _, _, h, _⟩ := h
      exact SqL.of h
    · obtain ⟨o2, T', G, rfl, x13, B13, hpm3, R, fp⟩ := h
      obtain ⟨rfl, hv⟩ := y
      obtain ⟨en, hen, en_at⟩ := paired_get EAy hv
      walk_at "go"
      refine i_pick x13 B13 (by omega) (by omega) fun r l r0 r1 hl => ?_
      have S14 := (Sb.start x13 B13).pick hl
      have hgs4 := upd_oth (u' := .lst l) gsb R.hd
      have hpm4 := upd_oth (u' := .lst l) pmb hpm3
      obtain ⟨cz, hz, hzm0⟩ := atI_lt (xs := ga.map V.ref) r0 (by rw [List.length_map]; omega)
      rw [List.getElem?_map] at hzm0
      obtain ⟨z, hz', rfl⟩ := Option.map_eq_some_iff.mp hzm0
      have hzm := List.mem_of_getElem? hz'
      obtain ⟨zF, zb, zg⟩ := gzF z hzm
      have hz4 := upd_oth (u' := .lst l) zb (R.at_ _ _ hz')
      have rl : r.toNat < (1 + ct).toNat := by omega
      have fl := flat_len (G := G) rl
      have fpl := fp.length_eq
      rw [List.length_take] at fpl
      have TG := (R.es r.toNat).length
      have z1 : (T' r.toNat).length < sizeLine := by rw [sizeLine_eq]; omega
      walk_at "go"
      refine ⟨_, addG T' r.toNat v, addG G r.toNat en, rfl, ex_mut zF S14.ex, S14.bg.mut zb, upd_oth (pmz z hzm).symm hpm4, ⟨upd_oth zg.symm hgs4, fun k y hy => ?_, fun k => ?_⟩, ?_⟩
      · unfold addG
        by_cases q : k = r.toNat
        · subst q
          rw [hz'] at hy
          cases hy
          rw [if_pos rfl, upd_same]
        · rw [if_neg q, upd_ne (nd_ne gn hy hz' q), upd_ne (gzF y (List.mem_of_getElem? hy)).2.1]
          exact R.at_ k y hy
      · unfold addG
        by_cases q : k = r.toNat
        · rw [if_pos q, if_pos q]
          exact paired_snoc (R.es k) en_at
        · rw [if_neg q, if_neg q]
          exact R.es k
      · rw [List.take_succ, hen]
        exact (flat_add rl).trans (List.Perm.append_right _ fp)
    clear x12 B12 hpm0 hpm G0
    obtain ⟨o2, T1, G, rfl, x12, B12, _, R, fp⟩ := h
    rw [List.take_of_length_le (by omega)] at fp
    have fpe := fp.trans pey
    clear EAy pey fp pe eyl ysl pmg pmb pmz pmF
    -- the other sheet
    have ndns : ns.Nodup := asc.imp fun h q => by rw [q] at h; exact absurd h (Int.lt_irrefl _)
    have nd2 : (es2.map En.num).Nodup := by rw [en2]; exact ndns
    have l2 : es2.length ≤ 60 := by have := congrArg List.length en2; rw [List.length_map] at this; omega
    have tl2 : ts2.length ≤ 60 := by have := EB10.length; omega
    have allN : ∀ L : List En, L.Sublist (flat G (1 + ct).toNat) → (L.map En.num).Nodup ∧ (∀ e ∈ L, e.Ok) ∧ L.length < 64 := fun L hL => by
      refine ⟨List.Nodup.sublist (hL.map En.num) ((fpe.map En.num).symm.nodup (by rw [en1]; exact ndns)), fun e he => O1 e (fpe.subset (hL.subset he)), ?_⟩
      have h1 := hL.length_le
      have h2 := fpe.length_eq
      have h3 := congrArg List.length en1
      rw [List.length_map] at h3
      omega
    walk_at "go"
    refine i_make ?_
    walk_at "go"
    refine ⟨b, p3, ts2, F6, rfl, x12, B12, hs10, by omega, fun pm2 ys2 H13 pe2 hpm20 hpm2 x13 B13 kp => ?_⟩
    obtain ⟨ey2, EAy2, pey2⟩ := paired_perm pe2 EB10
    have R3 : Gr F6 H13 gs ga T1 G := ⟨kp _ _ gsb R.hd, fun k z hz => kp _ _ (gzF z (List.mem_of_getElem? hz)).2.1 (R.at_ k z hz), R.es⟩
    clear R x12 B12 kp pe2 hpm20
    walk_at "go"
    refine i_mk (.inl (SqL.of hpm2)) x13 EAy2 (fun e he => O2 e (pey2.subset he)) ((pey2.map En.num).symm.nodup nd2) (by have := pey2.length_eq; omega) fun so dxo ro sto d1o d2o tso eo H14 e14 _ hso _ _ _ _ _ _ hsto _ peo asco => ?_
    have R4 : Gr F6 H14 gs ga T1 G := ⟨e14 _ _ R3.hd, fun k z hz => e14 _ _ (R3.at_ k z hz), R3.es⟩
    have x14 := x13.trans e14
    have peo2 := peo.trans pey2
    clear R3 x13 B13 e14 hpm2 EAy2 pey2 peo
    walk_at "go"
    refine ⟨p3, ts2, es2, F6, rfl, SqL.of (x14 _ _ hs10), x14, EB10, O2, nd2, by omega, fun q2 outs2 eo2 H15 e15 _ hq2 pe2 asc2 out2 => ?_⟩
    have R5 : Gr F6 H15 gs ga T1 G := ⟨e15 _ _ R4.hd, fun k z hz => e15 _ _ (R4.at_ k z hz), R4.es⟩
    have hso5 := e15 _ _ hso
    have hsto5 := e15 _ _ hsto
    have x15 := x14.trans e15
    have eqo : eo2 = eo := asc_permE asc2 asco (pe2.trans peo2.symm)
    subst eqo
    clear R4 x14 e15 hso hsto pe2 asc2
    -- the sheet
    obtain ⟨z0, hz0⟩ : ∃ z0, ga[0]? = some z0 := ⟨ga[0]'(by omega), List.getElem?_eq_getElem _⟩
    have hi0 : atI (ga.map V.ref) 0 = some (.ref z0) := by
      have := atI_nat (xs := ga.map V.ref) (j := 0) (v := .ref z0) (by rw [List.getElem?_map, hz0]; rfl)
      simpa using this
    have hg0 := R5.at_ 0 z0 hz0
    obtain ⟨nd0, O0, l0⟩ := allN (G 0) (flat_sub (i := 1) (by omega) : (flat G 1).Sublist _)
    have hd5 := R5.hd
    walk_at "go"
    refine i_make ?_
    walk_at "go"
    refine i_mk (.inl (SqL.of hg0)) x15 (R5.es 0) O0 nd0 l0 fun p dx r s d1 d2 tsp ep H16 e16 hp0 hp _ _ pr ps _ hr16 hs16 EAp pep ascp => ?_
    have hg6 := e16 _ _ hg0
    have hd6 := e16 _ _ hd5
    walk_at "go"
    intro rd hrd
    have e17 := e16.trans (Ex.new (o := .lst (T1 0)) hrd)
    have Fp : F6 p = none := ex_none x15 hp0
    have so_ne : ∀ {z : Addr} {o : HO}, H15 z = some o → z ≠ p := fun h => ne_of_none h hp0
    have hp7 := upd_old (u' := .lst (T1 0)) hrd hp
    have hr7 := upd_old (u' := .lst (T1 0)) hrd hr16
    have hs7 := upd_old (u' := .lst (T1 0)) hrd hs16
    have hrd7 : (upd H16 rd (.lst (T1 0))) rd = some (.lst (T1 0)) := upd_same
    generalize upd H16 rd (.lst (T1 0)) = H17 at e17 hp7 hr7 hs7 hrd7
    have toF : ∀ {z : Addr} {o : HO}, H15 z = some o → less H17 p z = some o := fun h => by
      rw [less_ne (so_ne h)]; exact e17 _ _ h
    have xF : Ex F6 (less H17 p) := fun z o h => toF (x15 _ _ h)
    have zx : Ex (less H17 p) H17 := fun z o h => by
      by_cases q : z = p
      · subst q; rw [less_same] at h; cases h
      · rw [less_ne q] at h; exact h
    have zp : less H17 p p = none := less_same
    have zn := xF _ _ hn10
    have zs := xF _ _ hs10
    have zEB := EB10.ex xF
    have zq := toF hq2
    have zso := toF hso5
    have zst := toF hsto5
    have zR : Gr (less H17 p) (less H17 p) gs ga T1 G := ⟨toF R5.hd, fun k z hz => toF (R5.at_ k z hz), fun k => (R5.es k).ex xF⟩
    have zEA := EAp.ex xF
    clear hg6 hd6 hrd e16 e17 Fp so_ne toF xF hp hr16 hs16 hp0 x15 R5 hso5 hsto5 hq2 EAp hg0 hd5 EB10 EA10 hs10 he10 hn10
    generalize less H17 p = FZ at zx zp zn zs zEB zq zso zst zR zEA
    have f1 : flat G 1 = G 0 := List.nil_append _
    have start_ : ep.Perm (flat G (max 0 1)) := by rw [show max 0 1 = 1 from rfl, f1]; exact pep
    clear fpe
    walk_at "go"
    refine ⟨fun i σ H' => ∃ (o3 o10 o15 o16 : Option V) (r s d1 d2 rd : Addr) (tsp rts : List V) (ep : List En), σ = [some (.ref a), some (.ref b), some (.ref u), o3, some (.int m), some (.ref p1), some (.ref p2), some (.ref p3), some (.int (1 + ct)), some (.ref gs), o10, some (.ref so), some (.ref q2), some (.ref p), some (.ref rd), o15, o16] ∧ Ex FZ H' ∧ H' p = some (.ins A.C_Sheet dx (shF r s d1 d2)) ∧ H' r = some (.tup tsp) ∧ H' s = some (.dK (stKv ep)) ∧ EsAt FZ tsp ep ∧ Asc (ep.map En.num) ∧ ep.Perm (flat G (max i 1)) ∧ H' rd = some (.lst rts) ∧ EsAt FZ rts (flat G (max i 1)), ?_, fun _ _ _ _ _ => trivial, fun i v σ H1 H2 hi h y => ?_, fun σ H' h => ?_⟩
    · exact ⟨_, _, _, _, r, s, d1, d2, rd, tsp, _, ep, rfl, zx, hp7, hr7, hs7, zEA, ascp, start_, hrd7, by rw [show max 0 1 = 1 from rfl, f1]; exact zR.es 0⟩
    · clear hp7 hr7 hs7 hrd7 zEA ascp start_ pep pr ps zx
      obtain ⟨o3, o10, o15, o16, r, s, d1, d2, rd, tsp, rts, ep, rfl, zx, hp7, hr7, hs7, zEA, ascp, pep, hrd7, zER⟩ := h
      obtain ⟨rfl, rfl⟩ := y
      have allI : ∀ i, i ≤ (1 + ct).toNat → ((flat G i).map En.num).Nodup ∧ (∀ e ∈ flat G i, e.Ok) ∧ (flat G i).length < 64 := fun i hi => allN _ (flat_sub hi)
      have M1 : max (i + 1) 1 = i + 1 := by omega
      walk_at "go"
      refine ⟨fun σ H' => ∃ (r s d1 d2 rd : Addr) (tsp rts : List V) (ep : List En), σ = [some (.ref a), some (.ref b), some (.ref u), some (.int (0 + (i : Nat))), some (.int m), some (.ref p1), some (.ref p2), some (.ref p3), some (.int (1 + ct)), some (.ref gs), o10, some (.ref so), some (.ref q2), some (.ref p), some (.ref rd), o15, o16] ∧ Ex FZ H' ∧ H' p = some (.ins A.C_Sheet dx (shF r s d1 d2)) ∧ H' r = some (.tup tsp) ∧ H' s = some (.dK (stKv ep)) ∧ EsAt FZ tsp ep ∧ Asc (ep.map En.num) ∧ ep.Perm (flat G (i + 1)) ∧ H' rd = some (.lst rts) ∧ EsAt FZ rts (flat G (i + 1)), ?_, fun σ H3 h => ?_⟩
      · walk_at "go"
        refine iteD (fun c => ?_) (fun c => ?_)
        · have M0 : max i 1 = i := by omega
          rw [M0] at pep zER
          obtain ⟨z, hz⟩ : ∃ z, ga[i]? = some z := ⟨ga[i]'(by omega), List.getElem?_eq_getElem _⟩
          have hiz : atI (ga.map V.ref) (0 + (i : Nat)) = some (.ref z) := by
            have := atI_nat (xs := ga.map V.ref) (j := i) (v := .ref z) (by rw [List.getElem?_map, hz]; rfl)
            rw [Int.zero_add]; exact this
          have hgd := zx _ _ zR.hd
          have hgz := zx _ _ (zR.at_ i z hz)
          obtain ⟨ndi, Oi, li⟩ := allI (i + 1) (by omega)
          have ndi' : ((flat G i ++ G i).map En.num).Nodup := ndi
          have Oi' : ∀ e ∈ flat G i ++ G i, e.Ok := Oi
          have li' : (flat G i ++ G i).length < 64 := li
          have ndG : ((G i).map En.num).Nodup := by rw [List.map_append] at ndi'; exact (List.nodup_append.mp ndi').2.1
          have lG : (G i).length < 64 := by rw [List.length_append] at li'; omega
          walk_at "go"
          refine ⟨_, rfl, ?_⟩
          refine i_make ?_
          walk_at "go"
          refine i_mk (.inl (SqL.of hgz)) zx (zR.es i) (fun e he => Oi' e (List.mem_append.mpr (.inr he))) ndG lG fun y dy r2 s2 d12 d22 ts3 e3 H4 e4 hy0 hy _ _ _ _ _ hr2 hs2 EA3 pe3 asc3 => ?_
          have py : p ≠ y := ne_of_none hp7 hy0
          have pp : (ep ++ e3).Perm (flat G i ++ G i) := (List.Perm.append_right _ pep).trans (List.Perm.append_left _ pe3)
          refine ⟨p, dx, _, rfl, e4 _ _ hp7, p, y, dx, r, s, d1, d2, dy, r2, s2, d12, d22, tsp, ts3, ep, e3, FZ, rfl, py, zp, zx.trans e4, e4 _ _ hp7, e4 _ _ hr7, zEA, hy, hr2, EA3, fun e he => Oi' e (pp.subset he), (pp.map En.num).symm.nodup ndi', by have := pp.length_eq; omega, fun r4 s4 d14 d24 ts4 es4 H5 e5 hp5 _ _ _ hr5 hs5 EA5 pe5 asc5 => ?_⟩
          have rdp : rd ≠ p := fun q => by subst q; rw [hp7] at hrd7; cases hrd7
          have hrd5 := ex_less e5 (e4 _ _ hrd7) rdp
          have zx5 : Ex FZ H5 := fun w' o h => ex_less e5 (e4 _ _ (zx _ _ h)) (fun q => by subst q; rw [zp] at h; cases h)
          have hgd5 := zx5 _ _ zR.hd
          have hgz5 := zx5 _ _ (zR.at_ i z hz)
          have lr := zER.length
          have lz := (zR.es i).length
          rw [List.length_append] at li'
          walk_at "go"
          refine i_catL hrd5 hgz5 (by rw [sizeLine_eq]; omega) fun rd2 hrd2 => ?_
          walk_at "go"
          exact ⟨r4, s4, d14, d24, rd2, ts4, rts ++ T1 i, es4, rfl, zx5.trans (Ex.new hrd2), upd_old hrd2 hp5, upd_old hrd2 hr5, upd_old hrd2 hs5, EA5, asc5, pe5.trans pp, upd_same, paired_app zER (zR.es i)⟩
        · have M0 : max i 1 = i + 1 := by omega
          rw [M0] at pep zER
          walk_at "go"
          exact ⟨r, s, d1, d2, rd, tsp, rts, ep, rfl, zx, hp7, hr7, hs7, zEA, ascp, pep, hrd7, zER⟩
      · clear hp7 hr7 hs7 hrd7 zEA ascp pep zER zx
        obtain ⟨r, s, d1, d2, rd, tsp, rts, ep, rfl, zx, hp7, hr7, hs7, zEA, ascp, pep, hrd7, zER⟩ := h
        obtain ⟨ndi, Oi, li⟩ := allI (i + 1) (by omega)
        walk_at "go"
        refine ⟨rd, rts, flat G (i + 1), FZ, rfl, SqL.of hrd7, zx, zER, Oi, ndi, by omega, fun q3 outs eo3 H4 e4 _ hq3 pe3 asc3 out3 => ?_⟩
        have eq3 : eo3 = ep := asc_permE asc3 ascp (pe3.trans pep.symm)
        subst eq3
        have zx4 := zx.trans e4
        walk_at "go"
        refine ⟨p1, ns, rfl, zx4 _ _ zn, by omega, rng, fun pa as H5 e5 _ hpa asr => ?_⟩
        have zx5 := zx4.trans e5
        have hp5 := e5 _ _ (e4 _ _ hp7)
        have hr5 := e5 _ _ (e4 _ _ hr7)
        have hs5 := e5 _ _ (e4 _ _ hs7)
        have hrd5 := e5 _ _ (e4 _ _ hrd7)
        have hq5 := e5 _ _ hq3
        clear hp7 hr7 hs7 hrd7 hq3 e4 e5 zx zx4
        have told2 : ∀ (y : Addr) (n : Int) (Q : VK) (E : XK) (H' : Hp) (dx r s d1 d2 : Addr) (e : List En), H' y = some (.ins A.C_Sheet dx (shF r s d1 d2)) → H' s = some (.dK (stKv e)) → 1 ≤ n → n ≤ 999 → (∀ H2, Ex H' H2 → Q (.str (toldS e n)) H2) → spTold A.C_Sheet [.ref y, .int n] H' Q E := fun y n Q E H' dx r s d1 d2 e h1 h2 h3 h4 k => ⟨y, n, dx, r, s, d1, d2, e, rfl, h1, h2, h3, h4, k⟩
        have due2 : ∀ (t q : Addr) (n : Int) (Q : VK) (E : XK) (H' : Hp) (ts : List V) (es e : List En) (outs : List Int), H' t = some (.lst ts) → Ex FZ H' → EsAt FZ ts es → es.length < 1000 → H' q = some (.lst (outs.map V.int)) → e.Perm es → (∀ n, n ∈ outs ↔ n ∈ e.map En.num ∧ stB e n = true) → (∀ H2, Ex H' H2 → Q (.str (toldS e n)) H2) → spDue K [.ref t, .ref q, .int n] H' Q E := fun t q n Q E H' ts es e outs h1 h2 h3 h4 h5 h6 h7 k => ⟨t, q, n, ts, es, e, outs, FZ, rfl, SqL.of h1, h2, h3, h4, SqL.of h5, h6, h7, k⟩
        walk_at "go"
        refine ⟨fun j σ H' => ∃ (o7 : Option V), σ = [some (.ref a), some (.ref b), some (.ref u), some (.int (0 + (i : Nat))), some (.int m), some (.ref p1), some (.ref p2), some (.ref p3), some (.int (1 + ct)), some (.ref gs), o10, some (.ref so), some (.ref q2), some (.ref p), some (.ref rd), some (.ref q3), o7] ∧ Ex H5 H', ?_, fun j σ H' hj h => ?_, fun j v σ H6 H7 hj h y => ?_, fun σ H' h => ?_⟩
        · exact ⟨_, rfl, Ex.refl _⟩
        · obtain ⟨_, _, h⟩ := h
          exact SqL.of (h _ _ hpa)
        · obtain ⟨o7, rfl, e7⟩ := h
          obtain ⟨rfl, hv⟩ := y
          rw [List.getElem?_map] at hv
          obtain ⟨n7, hn7, rfl⟩ := Option.map_eq_some_iff.mp hv
          obtain ⟨n71, n79⟩ := asr n7 (List.mem_of_getElem? hn7)
          walk_at "go"
          refine ⟨fun σ H' => σ = [some (.ref a), some (.ref b), some (.ref u), some (.int (0 + (i : Nat))), some (.int m), some (.ref p1), some (.ref p2), some (.ref p3), some (.int (1 + ct)), some (.ref gs), o10, some (.ref so), some (.ref q2), some (.ref p), some (.ref rd), some (.ref q3), some (.int n7)] ∧ Ex H5 H', ?_, fun σ H8 h => ?_⟩
          · walk_at "go"
            refine told2 p n7 _ _ _ dx r s d1 d2 eo3 (e7 _ _ hp5) (e7 _ _ hs5) n71 n79 fun H8 e8 => ?_
            have e9 := e7.trans e8
            walk_at "go"
            refine due2 rd q3 n7 _ _ _ rts _ eo3 outs (e9 _ _ hrd5) (zx5.trans e9) zER (by omega) (e9 _ _ hq5) pe3 out3 fun H9 e10 => ?_
            walk_at "go"
            exact ⟨rfl, e9.trans e10⟩
          · obtain ⟨rfl, e8⟩ := h
            walk_at "go"
            refine told2 so n7 _ _ _ dxo ro sto d1o d2o eo2 (e8 _ _ (zx5 _ _ zso)) (e8 _ _ (zx5 _ _ zst)) n71 n79 fun H9 e9 => ?_
            have e10 := e8.trans e9
            walk_at "go"
            refine due2 p3 q2 n7 _ _ _ ts2 es2 eo2 outs2 (e10 _ _ (zx5 _ _ zs)) (zx5.trans e10) zEB (by omega) (e10 _ _ (zx5 _ _ zq)) peo2 out2 fun H11 e11 => ?_
            walk_at "go"
            exact ⟨_, rfl, e10.trans e11⟩
        · obtain ⟨o7, rfl, e7⟩ := h
          walk_at "go"
          exact ⟨_, _, _, _, r, s, d1, d2, rd, tsp, rts, eo3, rfl, zx5.trans e7, e7 _ _ hp5, e7 _ _ hr5, e7 _ _ hs5, zEA, ascp, by rw [M1]; exact pep, e7 _ _ hrd5, by rw [M1]; exact zER⟩
    · walk_at "go"
      exact k H'
end
end Dh
/-! K02Q -/
set_option Elab.async false
set_option linter.all false
set_option maxRecDepth 100000
set_option maxHeartbeats 4000000
namespace Dh
open PySem PySem.Spec L2
open _root_.Evl (Ex)
local macro_rules | `(tactic| walk_at "ex") => `(tactic| first | assumption | ((with_reducible apply ex_mut); (focus assumption); walk_at "ex") | ((with_reducible apply ex_both); walk_at "ex") | ((with_reducible apply ex_new); (focus assumption); walk_at "ex"))
local macro_rules | `(tactic| walk_at "hp") => `(tactic| first | assumption | with_reducible exact upd_same | ((with_reducible apply upd_old); (focus assumption); walk_at "hp") | ((with_reducible apply upd_oth); (focus walk_at "neq"); walk_at "hp") | ((with_reducible apply ex_by); (focus assumption); walk_at "ex") | ((with_reducible apply ex_at); (focus assumption); walk_at "hp"))
local macro_rules | `(tactic| walk_at "neq") => `(tactic| first | assumption | (apply Ne.symm; assumption))
local macro_rules | `(tactic| walk_at "sq") => `(tactic| first | assumption | ((with_reducible apply SqL.of); walk_at "hp") | ((with_reducible apply SqT.of); walk_at "hp"))
local macro_rules | `(tactic| walk_at "side") => `(tactic| first | assumption | decide | exact cm_fmod (by decide) (by decide) | (show _ ≠ (0 : Int); decide) | (show _ ≠ (0 : Int); omega) | exact Or.inr ⟨by decide, by decide⟩ | exact Or.inl ⟨by decide, by decide⟩ | (show CDivN _ _; exact ⟨by decide, by decide⟩) | (show CDivN _ _; exact ⟨by omega, by omega⟩) | exact Or.inl ⟨by omega, by omega⟩ | exact Or.inr ⟨by omega, by omega⟩ | exact ⟨by decide, by decide, by decide⟩)
local macro_rules | `(tactic| walk_at "ix") => `(tactic| first | exact rfl | assumption | exact atI_nat (by assumption))
local macro_rules | `(tactic| walk_at "step0") => `(tactic| first
  | with_reducible refine i_seq ?_
  | with_reducible refine i_asg ?_
  | with_reducible refine i_op ?_
  | ((with_reducible refine' i_var ?hv ?_); (case hv => exact rfl))
  | with_reducible refine i_c ?_
  | with_reducible refine i_cons ?_
  | with_reducible refine i_nil ?_
  | with_reducible refine i_cb ?_
  | with_reducible refine i_call ?_
  | with_reducible refine i_call' ?_
  | with_reducible refine i_un ?_
  | with_reducible refine i_I0 ?_
  | ((with_reducible refine i_I ?hv ?_); (case hv => walk_at "side"))
  | with_reducible refine i_eqI ?_
  | with_reducible refine i_neI ?_
  | with_reducible refine i_eqS ?_
  | with_reducible refine i_neS ?_
  | ((with_reducible refine i_eq ?hv ?_); (case hv => exact rfl))
  | ((with_reducible refine i_ne ?hv ?_); (case hv => exact rfl))
  | with_reducible refine i_int1 ?_
  | with_reducible refine i_abs ?_
  | ((with_reducible refine' i_ixL ?hv ?hw ?_); (case hv => walk_at "sq"); (case hw => walk_at "ix"))
  | ((with_reducible refine' i_ixT ?hv ?hw ?_); (case hv => walk_at "sq"); (case hw => walk_at "ix"))
  | ((with_reducible refine' i_lenL ?hv ?_); (case hv => walk_at "sq"))
  | ((with_reducible refine' i_lenT ?hv ?_); (case hv => walk_at "sq"))
  | with_reducible refine i_addIB ?_
  | with_reducible refine i_mulIB ?_
  | ((with_reducible refine i_lenS ?hv ?_); (case hv => walk_at "side"))
  | with_reducible refine i_tup ?_
  | with_reducible refine i_lst ?_
  | with_reducible refine i_asgG ?_
  | with_reducible refine i_gname ?_
  | with_reducible refine i_gsub ?_
  | ((with_reducible refine' i_setL ?hv ?hw ?_); (case hv => walk_at "hp"); (case hw => exact rfl))
  | with_reducible refine i_ret ?_
  | with_reducible refine i_drop ?_
  | with_reducible refine i_next ?_
  | with_reducible refine i_test ?_
  | with_reducible refine i_B ?_
  | with_reducible refine i_bl ?_
  | with_reducible refine i_not ?_
  | with_reducible refine i_and ?_
  | with_reducible refine i_or ?_
  | ((with_reducible refine' i_app ?hv ?hw ?_); (case hv => walk_at "hp"); (case hw => walk_at "side"))
  | with_reducible refine iteT ?_
  | with_reducible refine iteF ?_
  | with_reducible refine iteNT ?_
  | with_reducible refine iteNF ?_
  | ((with_reducible refine iteT' ?hv ?_); (case hv => first | exact decide_eq_true (by assumption) | exact notF (by assumption) | exact decide_eq_true rfl | exact notF (by decide) | exact decide_eq_true (by decide) | exact decide_eq_true (by simp only [List.length_cons, List.length_nil]; decide)))
  | ((with_reducible refine iteF' ?hv ?_); (case hv => first | exact decide_eq_false (by assumption) | exact notT (by assumption) | exact notT rfl | exact decide_eq_false (by decide) | exact decide_eq_false (by simp only [List.length_cons, List.length_nil]; decide)))
  | with_reducible refine i_forL ?_
  | with_reducible refine i_forT ?_
  | with_reducible refine i_forR ?_
  | with_reducible refine i_forR2 ?_
  | with_reducible refine i_forE ?_
  | with_reducible refine i_forV ?_
  | with_reducible refine i_forS ?_
  | with_reducible refine i_forK ?_
  | with_reducible refine i_lcL ?_
  | with_reducible refine i_lcT ?_
  | with_reducible refine i_lcR ?_
  | with_reducible refine i_lcR2 ?_
  | with_reducible refine i_lcS ?_
  | with_reducible refine i_lcK ?_
  | ((with_reducible refine' fl_L ?hv ?_); (case hv => walk_at "sq"))
  | ((with_reducible refine' fl_T ?hv ?_); (case hv => walk_at "sq"))
  | ((with_reducible refine fl_R ?hv ?hw ?_); (case hv => (first | decide | omega)); (case hw => (first | decide | omega)))
  | ((with_reducible refine fl_R2 ?hv ?_); (case hv => (first | decide | (refine ⟨?_, ?_, ?_, ?_⟩ <;> omega))))
  | ((with_reducible refine' fl_E ?hv ?_); (case hv => walk_at "sq"))
  | ((with_reducible refine' fl_V ?hv ?_); (case hv => walk_at "sq"))
  | with_reducible refine fl_S ?_
  | ((with_reducible refine' fc_L ?hv ?_); (case hv => walk_at "sq"))
  | ((with_reducible refine' fc_T ?hv ?_); (case hv => walk_at "sq"))
  | ((with_reducible refine fc_R ?hv ?hw ?_); (case hv => (first | decide | omega)); (case hw => (first | decide | omega)))
  | with_reducible refine fc_S ?_
  | with_reducible refine i_sl ?_
  | with_reducible refine i_nopart ?_
  | with_reducible refine i_part ?_
  | with_reducible refine i_isint ?_
  | ((with_reducible refine' i_slL ?hv ?_); (case hv => walk_at "sq"))
  | ((with_reducible refine i_slS ?hv ?_); (case hv => walk_at "side"))
  | ((with_reducible refine' i_gtup ?hv ?hw ?_); (case hv => walk_at "sq"); (case hw => exact rfl))
  | with_reducible refine i_gcons ?_
  | with_reducible refine i_gnil ?_
  | ((with_reducible refine' i_listL ?hv ?_); (case hv => walk_at "sq"))
  | ((with_reducible refine' i_listT ?hv ?_); (case hv => walk_at "sq"))
  | ((with_reducible refine' i_tupL ?hv ?_); (case hv => walk_at "sq"))
  | ((with_reducible refine' i_lenD ?hv ?_); (case hv => walk_at "hp"))
  | ((with_reducible refine' i_ty ?hv ?_); (case hv => walk_at "hp"))
  | ((with_reducible refine And.intro ?hv ?_); (case hv => first | exact (by decide : (0 : Nat) ≤ sizeLine) | exact (by decide : (1 : Nat) ≤ sizeLine) | exact (by decide : (2 : Nat) ≤ sizeLine) | exact (by decide : (3 : Nat) ≤ sizeLine) | exact (by decide : (4 : Nat) ≤ sizeLine) | exact (by decide : (5 : Nat) ≤ sizeLine) | exact (by decide : (6 : Nat) ≤ sizeLine)))
  | with_reducible refine i_inC ?_
  | ((with_reducible refine i_addT ?hv ?_); (case hv => walk_at "side"))
  | with_reducible refine i_m1 ?_
  | with_reducible refine i_isstr ?_
  | with_reducible refine is_int_int ?_
  | with_reducible refine is_int_bool ?_
  | with_reducible refine is_str_str ?_
  | ((with_reducible refine' is_tup_tup ?hv ?_); (case hv => walk_at "hp"))
  | with_reducible refine i_ifExp ?_
  | with_reducible refine i_andV ?_
  | with_reducible refine i_orV ?_
  | with_reducible refine i_notV ?_
  | with_reducible refine i_chain ?_
  | ((with_reducible refine' i_inS ?hv ?_); (case hv => walk_at "sq"))
  | ((with_reducible refine' i_niS ?hv ?_); (case hv => walk_at "sq"))
  | ((with_reducible refine' i_inI ?hv ?_); (case hv => walk_at "sq"))
  | ((with_reducible refine' i_niI ?hv ?_); (case hv => walk_at "sq"))
  | with_reducible refine i_dnew ?_
  | with_reducible refine i_dput ?_
  | ((with_reducible refine' i_dputI ?hv ?hw ?_); (case hv => walk_at "hp"); (case hw => walk_at "side"))
  | with_reducible refine i_dget ?_
  | ((with_reducible refine' i_dgetI ?hv ?hw ?_); (case hv => walk_at "hp"); (case hw => assumption))
  | with_reducible refine i_dnotin ?_
  | with_reducible refine i_din ?_
  | ((with_reducible refine' i_dnotinI ?hv ?_); (case hv => walk_at "hp"))
  | with_reducible refine i_dsetd ?_
  | ((with_reducible refine' i_isd ?hv ?_); (case hv => walk_at "hp"))
  | with_reducible refine i_fld ?_
  | with_reducible refine i_sfld ?_
  | with_reducible refine i_dcT ?_
  | with_reducible refine i_dcL ?_
  | with_reducible refine i_truT ?_
  | ((with_reducible refine' i_truL ?hv ?_); (case hv => walk_at "sq"))
  | with_reducible refine i_revL ?_
  | ((with_reducible refine' i_atLx ?hv ?_); (case hv => walk_at "sq"))
  | with_reducible refine i_bm ?_
  | with_reducible refine i_bm0 ?_)
local macro_rules | `(tactic| walk_at "step") => `(tactic| first | walk_at "step0" | with_reducible refine i_ifS ?_)
local macro_rules | `(tactic| walk_at "goj") => `(tactic| repeat (first | walk_at "step0" | with_reducible refine i_ifS (c := tTest _) ?_ | with_reducible refine i_ifS (c := tB _) ?_))
local macro_rules | `(tactic| walk_at "tj") => `(tactic| (intro q hq; repeat (first | exact hq | walk_at "step" | (refine and_q hq (fun h => ?_); clear hq; rename_i hq) | (refine or_q hq (fun h => ?_); clear hq; rename_i hq))))
local macro_rules | `(tactic| walk_at "go") => `(tactic| repeat walk_at "step")

theorem all_mk {P : Program} {w : World} {K : PySem.W.Frag} {h : Heap} {mg : Str → Option Value} {fa : Addr} (X : K.In h) (G : h.Ns mainGlobals mg) (hfa : mg "law" = some (.ref fa))
  {f_NoEntry_XinitX f_is_number f_is_name f_is_entry f_joined f_standing f_told_names f_Sheet_XinitX f_Sheet_XiorX f_Sheet_stands f_l_mixed f_l_bag f_l_pick f_l_choice f_l_mingled f_l_sorted f_l_number f_l_new_name f_l_numbers f_l_rows f_l_stood f_l_told f_l_due f_l_asked f_law C_DueError C_BadNumber C_BadEntry C_Clash C_NoEntry C_Sheet a_dfl : Addr}
  {od_NoEntry_XinitX an_NoEntry_XinitX : Option Addr} {sl_NoEntry_XinitX : Array (Option Value)} {oc_NoEntry_XinitX kV_NoEntry_XinitX dc_NoEntry_XinitX pm_NoEntry_XinitX cd_NoEntry_XinitX ct_NoEntry_XinitX : Value}
  {od_is_number an_is_number : Option Addr} {sl_is_number : Array (Option Value)} {oc_is_number kV_is_number dc_is_number pm_is_number cd_is_number ct_is_number : Value}
  {od_is_name an_is_name : Option Addr} {sl_is_name : Array (Option Value)} {oc_is_name kV_is_name dc_is_name pm_is_name cd_is_name ct_is_name : Value}
  {od_is_entry an_is_entry : Option Addr} {sl_is_entry : Array (Option Value)} {oc_is_entry kV_is_entry dc_is_entry pm_is_entry cd_is_entry ct_is_entry : Value}
  {od_joined an_joined : Option Addr} {sl_joined : Array (Option Value)} {oc_joined kV_joined dc_joined pm_joined cd_joined ct_joined : Value}
  {od_standing an_standing : Option Addr} {sl_standing : Array (Option Value)} {oc_standing kV_standing dc_standing pm_standing cd_standing ct_standing : Value}
  {od_told_names an_told_names : Option Addr} {sl_told_names : Array (Option Value)} {oc_told_names kV_told_names dc_told_names pm_told_names cd_told_names ct_told_names : Value}
  {od_Sheet_XinitX an_Sheet_XinitX : Option Addr} {sl_Sheet_XinitX : Array (Option Value)} {oc_Sheet_XinitX kV_Sheet_XinitX dc_Sheet_XinitX pm_Sheet_XinitX cd_Sheet_XinitX ct_Sheet_XinitX : Value}
  {T_Sheet_XinitX : Addr} {tc_Sheet_XinitX : Value} {td_Sheet_XinitX : Option Addr} {tn_Sheet_XinitX : Nat} {ts_Sheet_XinitX : Array (Option Value)}
  {od_Sheet_XiorX an_Sheet_XiorX : Option Addr} {sl_Sheet_XiorX : Array (Option Value)} {oc_Sheet_XiorX kV_Sheet_XiorX dc_Sheet_XiorX pm_Sheet_XiorX cd_Sheet_XiorX ct_Sheet_XiorX : Value}
  {od_Sheet_stands an_Sheet_stands : Option Addr} {sl_Sheet_stands : Array (Option Value)} {oc_Sheet_stands kV_Sheet_stands dc_Sheet_stands pm_Sheet_stands cd_Sheet_stands ct_Sheet_stands : Value}
  {od_l_mixed an_l_mixed : Option Addr} {sl_l_mixed : Array (Option Value)} {oc_l_mixed kV_l_mixed dc_l_mixed pm_l_mixed cd_l_mixed ct_l_mixed : Value}
  {od_l_bag an_l_bag : Option Addr} {sl_l_bag : Array (Option Value)} {oc_l_bag kV_l_bag dc_l_bag pm_l_bag cd_l_bag ct_l_bag : Value}
  {od_l_pick an_l_pick : Option Addr} {sl_l_pick : Array (Option Value)} {oc_l_pick kV_l_pick dc_l_pick pm_l_pick cd_l_pick ct_l_pick : Value}
  {od_l_choice an_l_choice : Option Addr} {sl_l_choice : Array (Option Value)} {oc_l_choice kV_l_choice dc_l_choice pm_l_choice cd_l_choice ct_l_choice : Value}
  {od_l_mingled an_l_mingled : Option Addr} {sl_l_mingled : Array (Option Value)} {oc_l_mingled kV_l_mingled dc_l_mingled pm_l_mingled cd_l_mingled ct_l_mingled : Value}
  {od_l_sorted an_l_sorted : Option Addr} {sl_l_sorted : Array (Option Value)} {oc_l_sorted kV_l_sorted dc_l_sorted pm_l_sorted cd_l_sorted ct_l_sorted : Value}
  {od_l_number an_l_number : Option Addr} {sl_l_number : Array (Option Value)} {oc_l_number kV_l_number dc_l_number pm_l_number cd_l_number ct_l_number : Value}
  {od_l_new_name an_l_new_name : Option Addr} {sl_l_new_name : Array (Option Value)} {oc_l_new_name kV_l_new_name dc_l_new_name pm_l_new_name cd_l_new_name ct_l_new_name : Value}
  {od_l_numbers an_l_numbers : Option Addr} {sl_l_numbers : Array (Option Value)} {oc_l_numbers kV_l_numbers dc_l_numbers pm_l_numbers cd_l_numbers ct_l_numbers : Value}
  {od_l_rows an_l_rows : Option Addr} {sl_l_rows : Array (Option Value)} {oc_l_rows kV_l_rows dc_l_rows pm_l_rows cd_l_rows ct_l_rows : Value}
  {od_l_stood an_l_stood : Option Addr} {sl_l_stood : Array (Option Value)} {oc_l_stood kV_l_stood dc_l_stood pm_l_stood cd_l_stood ct_l_stood : Value}
  {od_l_told an_l_told : Option Addr} {sl_l_told : Array (Option Value)} {oc_l_told kV_l_told dc_l_told pm_l_told cd_l_told ct_l_told : Value}
  {od_l_due an_l_due : Option Addr} {sl_l_due : Array (Option Value)} {oc_l_due kV_l_due dc_l_due pm_l_due cd_l_due ct_l_due : Value}
  {od_l_asked an_l_asked : Option Addr} {sl_l_asked : Array (Option Value)} {oc_l_asked kV_l_asked dc_l_asked pm_l_asked cd_l_asked ct_l_asked : Value}
  {od_law an_law : Option Addr} {sl_law : Array (Option Value)} {oc_law kV_law dc_law pm_law cd_law ct_law : Value}
  {t_LAST_DAY : Tok}
  {t_LETTERS : Tok}
  {t_MOST_NUMBER : Tok}
  {t_NAME_LETTERS : Tok}
  {nm q : Str} {N : Addr} {bs bm : List Value} {sn : List Str} {sub : List Value} {ab : Bool} {col : Option Bool} {dd : Option Addr} {m0 m1 m2 m3 m5 : Option Value}
  (a_DueError : PySem.W.nsIn K mainGlobals "DueError" = some (some (.ref C_DueError)))
  (a_BadNumber : PySem.W.nsIn K mainGlobals "BadNumber" = some (some (.ref C_BadNumber)))
  (a_BadEntry : PySem.W.nsIn K mainGlobals "BadEntry" = some (some (.ref C_BadEntry)))
  (a_Clash : PySem.W.nsIn K mainGlobals "Clash" = some (some (.ref C_Clash)))
  (a_NoEntry : PySem.W.nsIn K mainGlobals "NoEntry" = some (some (.ref C_NoEntry)))
  (a_Sheet : PySem.W.nsIn K mainGlobals "Sheet" = some (some (.ref C_Sheet)))
  (ix_NoEntry : PySem.W.findIn K (.ref C_NoEntry) "__init__" = some (some (.ref f_NoEntry_XinitX)))
  (fi_Sheet_XinitX : PySem.W.findIn K (.ref C_Sheet) "__init__" = some (some (.ref f_Sheet_XinitX)))
  (io_Sheet : PySem.W.findIn K (.ref C_Sheet) "__ior__" = some (some (.ref f_Sheet_XiorX)))
  (fi_Sheet_stands : PySem.W.findIn K (.ref C_Sheet) "stands" = some (some (.ref f_Sheet_stands)))
  (a_is_number : PySem.W.nsIn K mainGlobals "is_number" = some (some (.ref f_is_number)))
  (a_is_name : PySem.W.nsIn K mainGlobals "is_name" = some (some (.ref f_is_name)))
  (a_is_entry : PySem.W.nsIn K mainGlobals "is_entry" = some (some (.ref f_is_entry)))
  (a_joined : PySem.W.nsIn K mainGlobals "joined" = some (some (.ref f_joined)))
  (a_standing : PySem.W.nsIn K mainGlobals "standing" = some (some (.ref f_standing)))
  (a_told_names : PySem.W.nsIn K mainGlobals "told_names" = some (some (.ref f_told_names)))
  (a_l_mixed : PySem.W.nsIn K mainGlobals "_law_mixed" = some (some (.ref f_l_mixed)))
  (a_l_bag : PySem.W.nsIn K mainGlobals "_law_bag" = some (some (.ref f_l_bag)))
  (a_l_pick : PySem.W.nsIn K mainGlobals "_law_pick" = some (some (.ref f_l_pick)))
  (a_l_choice : PySem.W.nsIn K mainGlobals "_law_choice" = some (some (.ref f_l_choice)))
  (a_l_mingled : PySem.W.nsIn K mainGlobals "_law_mingled" = some (some (.ref f_l_mingled)))
  (a_l_sorted : PySem.W.nsIn K mainGlobals "_law_sorted" = some (some (.ref f_l_sorted)))
  (a_l_number : PySem.W.nsIn K mainGlobals "_law_number" = some (some (.ref f_l_number)))
  (a_l_new_name : PySem.W.nsIn K mainGlobals "_law_new_name" = some (some (.ref f_l_new_name)))
  (a_l_numbers : PySem.W.nsIn K mainGlobals "_law_numbers" = some (some (.ref f_l_numbers)))
  (a_l_rows : PySem.W.nsIn K mainGlobals "_law_rows" = some (some (.ref f_l_rows)))
  (a_l_stood : PySem.W.nsIn K mainGlobals "_law_stood" = some (some (.ref f_l_stood)))
  (a_l_told : PySem.W.nsIn K mainGlobals "_law_told" = some (some (.ref f_l_told)))
  (a_l_due : PySem.W.nsIn K mainGlobals "_law_due" = some (some (.ref f_l_due)))
  (a_l_asked : PySem.W.nsIn K mainGlobals "_law_asked" = some (some (.ref f_l_asked)))
  (a_law : PySem.W.nsIn K mainGlobals "law" = some (some (.ref f_law)))
  (l_NoEntry_XinitX : K.lookup f_NoEntry_XinitX = some ⟨oc_NoEntry_XinitX, od_NoEntry_XinitX, .func (PySem.W.fnOf "__init__" "NoEntry.__init__" (defArgs s_NoEntry_XinitX) (defBody s_NoEntry_XinitX) (defScope s_NoEntry_XinitX) .none kV_NoEntry_XinitX dc_NoEntry_XinitX pm_NoEntry_XinitX an_NoEntry_XinitX cd_NoEntry_XinitX ct_NoEntry_XinitX), sl_NoEntry_XinitX⟩)
  (cI_NoEntry_XinitX : PySem.W.codeIn K cd_NoEntry_XinitX "NoEntry.__init__" = true)
  (k_NoEntry_XinitX : PySem.W.keepIn K (.ref f_NoEntry_XinitX) = true)
  (l_is_number : K.lookup f_is_number = some ⟨oc_is_number, od_is_number, .func (PySem.W.fnOf "is_number" "is_number" (defArgs s_is_number) (defBody s_is_number) (defScope s_is_number) .none kV_is_number dc_is_number pm_is_number an_is_number cd_is_number ct_is_number), sl_is_number⟩)
  (cI_is_number : PySem.W.codeIn K cd_is_number "is_number" = true)
  (k_is_number : PySem.W.keepIn K (.ref f_is_number) = true)
  (l_is_name : K.lookup f_is_name = some ⟨oc_is_name, od_is_name, .func (PySem.W.fnOf "is_name" "is_name" (defArgs s_is_name) (defBody s_is_name) (defScope s_is_name) .none kV_is_name dc_is_name pm_is_name an_is_name cd_is_name ct_is_name), sl_is_name⟩)
  (cI_is_name : PySem.W.codeIn K cd_is_name "is_name" = true)
  (k_is_name : PySem.W.keepIn K (.ref f_is_name) = true)
  (l_is_entry : K.lookup f_is_entry = some ⟨oc_is_entry, od_is_entry, .func (PySem.W.fnOf "is_entry" "is_entry" (defArgs s_is_entry) (defBody s_is_entry) (defScope s_is_entry) .none kV_is_entry dc_is_entry pm_is_entry an_is_entry cd_is_entry ct_is_entry), sl_is_entry⟩)
  (cI_is_entry : PySem.W.codeIn K cd_is_entry "is_entry" = true)
  (k_is_entry : PySem.W.keepIn K (.ref f_is_entry) = true)
  (l_joined : K.lookup f_joined = some ⟨oc_joined, od_joined, .func (PySem.W.fnOf "joined" "joined" (defArgs s_joined) (defBody s_joined) (defScope s_joined) .none kV_joined dc_joined pm_joined an_joined cd_joined ct_joined), sl_joined⟩)
  (cI_joined : PySem.W.codeIn K cd_joined "joined" = true)
  (k_joined : PySem.W.keepIn K (.ref f_joined) = true)
  (l_standing : K.lookup f_standing = some ⟨oc_standing, od_standing, .func (PySem.W.fnOf "standing" "standing" (defArgs s_standing) (defBody s_standing) (defScope s_standing) .none kV_standing dc_standing pm_standing an_standing cd_standing ct_standing), sl_standing⟩)
  (cI_standing : PySem.W.codeIn K cd_standing "standing" = true)
  (k_standing : PySem.W.keepIn K (.ref f_standing) = true)
  (l_told_names : K.lookup f_told_names = some ⟨oc_told_names, od_told_names, .func (PySem.W.fnOf "told_names" "told_names" (defArgs s_told_names) (defBody s_told_names) (defScope s_told_names) .none kV_told_names dc_told_names pm_told_names an_told_names cd_told_names ct_told_names), sl_told_names⟩)
  (cI_told_names : PySem.W.codeIn K cd_told_names "told_names" = true)
  (k_told_names : PySem.W.keepIn K (.ref f_told_names) = true)
  (l_Sheet_XinitX : K.lookup f_Sheet_XinitX = some ⟨oc_Sheet_XinitX, od_Sheet_XinitX, .func (PySem.W.fnOf "__init__" "Sheet.__init__" (defArgs s_Sheet_XinitX) (defBody s_Sheet_XinitX) (defScope s_Sheet_XinitX) (.ref T_Sheet_XinitX) kV_Sheet_XinitX dc_Sheet_XinitX pm_Sheet_XinitX an_Sheet_XinitX cd_Sheet_XinitX ct_Sheet_XinitX), sl_Sheet_XinitX⟩)
  (cI_Sheet_XinitX : PySem.W.codeIn K cd_Sheet_XinitX "Sheet.__init__" = true)
  (k_Sheet_XinitX : PySem.W.keepIn K (.ref f_Sheet_XinitX) = true)
  (lT_Sheet_XinitX : K.lookup T_Sheet_XinitX = some ⟨tc_Sheet_XinitX, td_Sheet_XinitX, .seq [Value.ref a_dfl].toArray tn_Sheet_XinitX, ts_Sheet_XinitX⟩)
  (l_Sheet_XiorX : K.lookup f_Sheet_XiorX = some ⟨oc_Sheet_XiorX, od_Sheet_XiorX, .func (PySem.W.fnOf "__ior__" "Sheet.__ior__" (defArgs s_Sheet_XiorX) (defBody s_Sheet_XiorX) (defScope s_Sheet_XiorX) .none kV_Sheet_XiorX dc_Sheet_XiorX pm_Sheet_XiorX an_Sheet_XiorX cd_Sheet_XiorX ct_Sheet_XiorX), sl_Sheet_XiorX⟩)
  (cI_Sheet_XiorX : PySem.W.codeIn K cd_Sheet_XiorX "Sheet.__ior__" = true)
  (k_Sheet_XiorX : PySem.W.keepIn K (.ref f_Sheet_XiorX) = true)
  (l_Sheet_stands : K.lookup f_Sheet_stands = some ⟨oc_Sheet_stands, od_Sheet_stands, .func (PySem.W.fnOf "stands" "Sheet.stands" (defArgs s_Sheet_stands) (defBody s_Sheet_stands) (defScope s_Sheet_stands) .none kV_Sheet_stands dc_Sheet_stands pm_Sheet_stands an_Sheet_stands cd_Sheet_stands ct_Sheet_stands), sl_Sheet_stands⟩)
  (cI_Sheet_stands : PySem.W.codeIn K cd_Sheet_stands "Sheet.stands" = true)
  (k_Sheet_stands : PySem.W.keepIn K (.ref f_Sheet_stands) = true)
  (l_l_mixed : K.lookup f_l_mixed = some ⟨oc_l_mixed, od_l_mixed, .func (PySem.W.fnOf "_law_mixed" "_law_mixed" (defArgs s_l_mixed) (defBody s_l_mixed) (defScope s_l_mixed) .none kV_l_mixed dc_l_mixed pm_l_mixed an_l_mixed cd_l_mixed ct_l_mixed), sl_l_mixed⟩)
  (cI_l_mixed : PySem.W.codeIn K cd_l_mixed "_law_mixed" = true)
  (k_l_mixed : PySem.W.keepIn K (.ref f_l_mixed) = true)
  (l_l_bag : K.lookup f_l_bag = some ⟨oc_l_bag, od_l_bag, .func (PySem.W.fnOf "_law_bag" "_law_bag" (defArgs s_l_bag) (defBody s_l_bag) (defScope s_l_bag) .none kV_l_bag dc_l_bag pm_l_bag an_l_bag cd_l_bag ct_l_bag), sl_l_bag⟩)
  (cI_l_bag : PySem.W.codeIn K cd_l_bag "_law_bag" = true)
  (k_l_bag : PySem.W.keepIn K (.ref f_l_bag) = true)
  (l_l_pick : K.lookup f_l_pick = some ⟨oc_l_pick, od_l_pick, .func (PySem.W.fnOf "_law_pick" "_law_pick" (defArgs s_l_pick) (defBody s_l_pick) (defScope s_l_pick) .none kV_l_pick dc_l_pick pm_l_pick an_l_pick cd_l_pick ct_l_pick), sl_l_pick⟩)
  (cI_l_pick : PySem.W.codeIn K cd_l_pick "_law_pick" = true)
  (k_l_pick : PySem.W.keepIn K (.ref f_l_pick) = true)
  (l_l_choice : K.lookup f_l_choice = some ⟨oc_l_choice, od_l_choice, .func (PySem.W.fnOf "_law_choice" "_law_choice" (defArgs s_l_choice) (defBody s_l_choice) (defScope s_l_choice) .none kV_l_choice dc_l_choice pm_l_choice an_l_choice cd_l_choice ct_l_choice), sl_l_choice⟩)
  (cI_l_choice : PySem.W.codeIn K cd_l_choice "_law_choice" = true)
  (k_l_choice : PySem.W.keepIn K (.ref f_l_choice) = true)
  (l_l_mingled : K.lookup f_l_mingled = some ⟨oc_l_mingled, od_l_mingled, .func (PySem.W.fnOf "_law_mingled" "_law_mingled" (defArgs s_l_mingled) (defBody s_l_mingled) (defScope s_l_mingled) .none kV_l_mingled dc_l_mingled pm_l_mingled an_l_mingled cd_l_mingled ct_l_mingled), sl_l_mingled⟩)
  (cI_l_mingled : PySem.W.codeIn K cd_l_mingled "_law_mingled" = true)
  (k_l_mingled : PySem.W.keepIn K (.ref f_l_mingled) = true)
  (l_l_sorted : K.lookup f_l_sorted = some ⟨oc_l_sorted, od_l_sorted, .func (PySem.W.fnOf "_law_sorted" "_law_sorted" (defArgs s_l_sorted) (defBody s_l_sorted) (defScope s_l_sorted) .none kV_l_sorted dc_l_sorted pm_l_sorted an_l_sorted cd_l_sorted ct_l_sorted), sl_l_sorted⟩)
  (cI_l_sorted : PySem.W.codeIn K cd_l_sorted "_law_sorted" = true)
  (k_l_sorted : PySem.W.keepIn K (.ref f_l_sorted) = true)
  (l_l_number : K.lookup f_l_number = some ⟨oc_l_number, od_l_number, .func (PySem.W.fnOf "_law_number" "_law_number" (defArgs s_l_number) (defBody s_l_number) (defScope s_l_number) .none kV_l_number dc_l_number pm_l_number an_l_number cd_l_number ct_l_number), sl_l_number⟩)
  (cI_l_number : PySem.W.codeIn K cd_l_number "_law_number" = true)
  (k_l_number : PySem.W.keepIn K (.ref f_l_number) = true)
  (l_l_new_name : K.lookup f_l_new_name = some ⟨oc_l_new_name, od_l_new_name, .func (PySem.W.fnOf "_law_new_name" "_law_new_name" (defArgs s_l_new_name) (defBody s_l_new_name) (defScope s_l_new_name) .none kV_l_new_name dc_l_new_name pm_l_new_name an_l_new_name cd_l_new_name ct_l_new_name), sl_l_new_name⟩)
  (cI_l_new_name : PySem.W.codeIn K cd_l_new_name "_law_new_name" = true)
  (k_l_new_name : PySem.W.keepIn K (.ref f_l_new_name) = true)
  (l_l_numbers : K.lookup f_l_numbers = some ⟨oc_l_numbers, od_l_numbers, .func (PySem.W.fnOf "_law_numbers" "_law_numbers" (defArgs s_l_numbers) (defBody s_l_numbers) (defScope s_l_numbers) .none kV_l_numbers dc_l_numbers pm_l_numbers an_l_numbers cd_l_numbers ct_l_numbers), sl_l_numbers⟩)
  (cI_l_numbers : PySem.W.codeIn K cd_l_numbers "_law_numbers" = true)
  (k_l_numbers : PySem.W.keepIn K (.ref f_l_numbers) = true)
  (l_l_rows : K.lookup f_l_rows = some ⟨oc_l_rows, od_l_rows, .func (PySem.W.fnOf "_law_rows" "_law_rows" (defArgs s_l_rows) (defBody s_l_rows) (defScope s_l_rows) .none kV_l_rows dc_l_rows pm_l_rows an_l_rows cd_l_rows ct_l_rows), sl_l_rows⟩)
  (cI_l_rows : PySem.W.codeIn K cd_l_rows "_law_rows" = true)
  (k_l_rows : PySem.W.keepIn K (.ref f_l_rows) = true)
  (l_l_stood : K.lookup f_l_stood = some ⟨oc_l_stood, od_l_stood, .func (PySem.W.fnOf "_law_stood" "_law_stood" (defArgs s_l_stood) (defBody s_l_stood) (defScope s_l_stood) .none kV_l_stood dc_l_stood pm_l_stood an_l_stood cd_l_stood ct_l_stood), sl_l_stood⟩)
  (cI_l_stood : PySem.W.codeIn K cd_l_stood "_law_stood" = true)
  (k_l_stood : PySem.W.keepIn K (.ref f_l_stood) = true)
  (l_l_told : K.lookup f_l_told = some ⟨oc_l_told, od_l_told, .func (PySem.W.fnOf "_law_told" "_law_told" (defArgs s_l_told) (defBody s_l_told) (defScope s_l_told) .none kV_l_told dc_l_told pm_l_told an_l_told cd_l_told ct_l_told), sl_l_told⟩)
  (cI_l_told : PySem.W.codeIn K cd_l_told "_law_told" = true)
  (k_l_told : PySem.W.keepIn K (.ref f_l_told) = true)
  (l_l_due : K.lookup f_l_due = some ⟨oc_l_due, od_l_due, .func (PySem.W.fnOf "_law_due" "_law_due" (defArgs s_l_due) (defBody s_l_due) (defScope s_l_due) .none kV_l_due dc_l_due pm_l_due an_l_due cd_l_due ct_l_due), sl_l_due⟩)
  (cI_l_due : PySem.W.codeIn K cd_l_due "_law_due" = true)
  (k_l_due : PySem.W.keepIn K (.ref f_l_due) = true)
  (l_l_asked : K.lookup f_l_asked = some ⟨oc_l_asked, od_l_asked, .func (PySem.W.fnOf "_law_asked" "_law_asked" (defArgs s_l_asked) (defBody s_l_asked) (defScope s_l_asked) .none kV_l_asked dc_l_asked pm_l_asked an_l_asked cd_l_asked ct_l_asked), sl_l_asked⟩)
  (cI_l_asked : PySem.W.codeIn K cd_l_asked "_law_asked" = true)
  (k_l_asked : PySem.W.keepIn K (.ref f_l_asked) = true)
  (l_law : K.lookup f_law = some ⟨oc_law, od_law, .func (PySem.W.fnOf "law" "law" (defArgs s_law) (defBody s_law) (defScope s_law) .none kV_law dc_law pm_law an_law cd_law ct_law), sl_law⟩)
  (cI_law : PySem.W.codeIn K cd_law "law" = true)
  (k_law : PySem.W.keepIn K (.ref f_law) = true)
  (ga_DueError : PySem.W.findIn K (.ref C_DueError) "__getattribute__" = some (some (.builtin "BaseException.__getattribute__")))
  (gg_DueError : PySem.W.findIn K (.ref C_DueError) "__getattr__" = some none)
  (eC_DueError : PySem.W.subIn K (.ref C_DueError) (.type "BaseException") = some true)
  (hC_DueError : PySem.W.hasDictIn K C_DueError = true)
  (xL : K.lookup C_NoEntry = some (excClassObj nm q C_NoEntry N bs bm true sn sub ab col dd m0 m1 m2 m3 m5 "ValueError.__new__"))
  (rx : PySem.HandSPX.refsVE bm = true)
  (sa_NE : PySem.W.findIn K (.ref C_NoEntry) "__setattr__" = some (some (.builtin "object.__setattr__")))
  (eC_NE : PySem.W.subIn K (.ref C_NoEntry) (.type "BaseException") = some true)
  (tC_NE : PySem.W.typeIn K (.ref C_NoEntry) = some (.type "type"))
  (kC_NE : PySem.W.keepIn K (.ref C_NoEntry) = true)
  (ga_NoEntry : PySem.W.findIn K (.ref C_NoEntry) "__getattribute__" = some (some (.builtin "BaseException.__getattribute__")))
  (gg_NoEntry : PySem.W.findIn K (.ref C_NoEntry) "__getattr__" = some none)
  (hC_NoEntry : PySem.W.hasDictIn K C_NoEntry = true)
  (nx_NoEntry : PySem.W.findIn K (.ref C_NoEntry) "number" = some none)
  (tx_NoEntry : PySem.W.typeIn K (.ref f_NoEntry_XinitX) = some (.type "function"))
  (pg_Sheet : PySem.W.plainGet K C_Sheet Str.empty = true)
  (hd_Sheet : PySem.W.hasDictIn K C_Sheet = true)
  (po_Sheet : PySem.W.plainOver K C_Sheet = true)
  (sa_Sheet : PySem.W.findIn K (.ref C_Sheet) "__setattr__" = some (some (.builtin "object.__setattr__")))
  (na_Sheet__rows : PySem.W.findIn K (.ref C_Sheet) "_rows" = some none)
  (na_Sheet__standing : PySem.W.findIn K (.ref C_Sheet) "_standing" = some none)
  (na_Sheet__signs : PySem.W.findIn K (.ref C_Sheet) "_signs" = some none)
  (na_Sheet__rules : PySem.W.findIn K (.ref C_Sheet) "_rules" = some none)
  (i_Sheet_stands : PySem.W.isFn K (.ref f_Sheet_stands) = true)
  (ms_Sheet : PySem.W.makesIn K C_Sheet = true)
  (i_Sheet_XinitX : PySem.W.isFn K (.ref f_Sheet_XinitX) = true)
  (kC_Sheet : PySem.W.keepIn K (.ref C_Sheet) = true)
  (sf_Sheet : PySem.W.selfFirst K C_Sheet = true)
  (ac_LAST_DAY : PySem.W.nsIn K mainGlobals "LAST_DAY" = some (some (.int 59 t_LAST_DAY)))
  (ac_LETTERS : PySem.W.nsIn K mainGlobals "LETTERS" = some (some (.str "abcdefghijklmnopqrstuvwxyz" t_LETTERS)))
  (ac_MOST_NUMBER : PySem.W.nsIn K mainGlobals "MOST_NUMBER" = some (some (.int 999 t_MOST_NUMBER)))
  (ac_NAME_LETTERS : PySem.W.nsIn K mainGlobals "NAME_LETTERS" = some (some (.int 8 t_NAME_LETTERS)))
  (z_ValueError : PySem.W.nsIn K mainGlobals "ValueError" = some none)
  (z_abs : PySem.W.nsIn K mainGlobals "abs" = some none)
  (z_all : PySem.W.nsIn K mainGlobals "all" = some none)
  (z_bool : PySem.W.nsIn K mainGlobals "bool" = some none)
  (z_enumerate : PySem.W.nsIn K mainGlobals "enumerate" = some none)
  (z_int : PySem.W.nsIn K mainGlobals "int" = some none)
  (z_isinstance : PySem.W.nsIn K mainGlobals "isinstance" = some none)
  (z_len : PySem.W.nsIn K mainGlobals "len" = some none)
  (z_list : PySem.W.nsIn K mainGlobals "list" = some none)
  (z_range : PySem.W.nsIn K mainGlobals "range" = some none)
  (z_reversed : PySem.W.nsIn K mainGlobals "reversed" = some none)
  (z_sorted : PySem.W.nsIn K mainGlobals "sorted" = some none)
  (z_str : PySem.W.nsIn K mainGlobals "str" = some none)
  (z_tuple : PySem.W.nsIn K mainGlobals "tuple" = some none)
  (kc_Sheet : PySem.W.findIn K (.ref C_Sheet) "__class__" = some (some (.builtin "object.__class__")))
  (kn_obj : PySem.W.specialIn K (.builtin "object.__class__") "__get__" = some (some (.builtin "getset_descriptor.__get__")))
  (kt_obj : PySem.W.takesIn K (.builtin "object.__class__") = some true)
  (km_Sheet : PySem.W.mroIn K C_Sheet (.type "object") = some true)
  (kc_NE : PySem.W.findIn K (.ref C_NoEntry) "__class__" = some (some (.builtin "object.__class__")))
  (km_NE : PySem.W.mroIn K C_NoEntry (.type "object") = some true)
  (su_NoEntry : PySem.W.subIn K (.ref C_NoEntry) (.ref C_DueError) = some true)
  (kb_BadEntry : PySem.W.kitOne K (.ref C_NoEntry) (.ref C_BadEntry) = some false)
  (kb_BadNumber : PySem.W.kitOne K (.ref C_NoEntry) (.ref C_BadNumber) = some false)
  (kb_Clash : PySem.W.kitOne K (.ref C_NoEntry) (.ref C_Clash) = some false)
  (kb_ValueError : PySem.W.kitOne K (.ref C_NoEntry) (.type "ValueError") = some true)
  (kb_NoEntry : PySem.W.kitOne K (.ref C_NoEntry) (.ref C_NoEntry) = some true)
  (if_Sheet : PySem.W.isFn K (.ref f_Sheet_XiorX) = true)
  (ty_DueError : PySem.W.typeIn K (.ref C_DueError) = some (.type "type")) :
    ∃ fd : FuncData, (∀ (s : Shared) (v : Value), BindsTo s fd ⟨[v], []⟩ [("_law_script", v)]) ∧ ∀ base : Heap, K.In base → base.Ns mainGlobals mg → FnOk P w K mg base CX0 8 fa fd ["_law_script"] (spLaw K) := by
  have e := hfa.symm.trans (PySem.W.mg_of X G a_law)
  cases e
  have FS : FunD K "__init__" "Sheet.__init__" (defArgs s_Sheet_XinitX) (defBody s_Sheet_XinitX) (defScope s_Sheet_XinitX) [.ref a_dfl] [] f_Sheet_XinitX (PySem.W.fnOf "__init__" "Sheet.__init__" (defArgs s_Sheet_XinitX) (defBody s_Sheet_XinitX) (defScope s_Sheet_XinitX) (.ref T_Sheet_XinitX) kV_Sheet_XinitX dc_Sheet_XinitX pm_Sheet_XinitX an_Sheet_XinitX cd_Sheet_XinitX ct_Sheet_XinitX) :=
    ⟨⟨_, _, _, _, _, _, _, _, _, _, rfl, l_Sheet_XinitX, cI_Sheet_XinitX, .inr ⟨by simp, T_Sheet_XinitX, _, _, _, rfl, lT_Sheet_XinitX, rfl, .cons rfl .nil⟩, .inl rfl⟩, k_Sheet_XinitX⟩
  have bS : Binds K (PySem.W.fnOf "__init__" "Sheet.__init__" (defArgs s_Sheet_XinitX) (defBody s_Sheet_XinitX) (defScope s_Sheet_XinitX) (.ref T_Sheet_XinitX) kV_Sheet_XinitX dc_Sheet_XinitX pm_Sheet_XinitX an_Sheet_XinitX cd_Sheet_XinitX ct_Sheet_XinitX) ["self", "entries"] [] := by
    obtain ⟨ds, hv, hb⟩ := FS.binds1 (ps := ["self", "entries"]) 2 1 (by simp) rfl fun T kV doc pm an cdv ct us its hu hi => match us, hu, its, hi with | [_, _], _, [_], _ => ⟨_, rfl, rfl⟩
    cases hv
    exact hb
  let AA : Ad := { f_NoEntry_XinitX := f_NoEntry_XinitX, d_NoEntry_XinitX := (PySem.W.fnOf "__init__" "NoEntry.__init__" (defArgs s_NoEntry_XinitX) (defBody s_NoEntry_XinitX) (defScope s_NoEntry_XinitX) .none kV_NoEntry_XinitX dc_NoEntry_XinitX pm_NoEntry_XinitX an_NoEntry_XinitX cd_NoEntry_XinitX ct_NoEntry_XinitX), f_is_number := f_is_number, d_is_number := (PySem.W.fnOf "is_number" "is_number" (defArgs s_is_number) (defBody s_is_number) (defScope s_is_number) .none kV_is_number dc_is_number pm_is_number an_is_number cd_is_number ct_is_number), f_is_name := f_is_name, d_is_name := (PySem.W.fnOf "is_name" "is_name" (defArgs s_is_name) (defBody s_is_name) (defScope s_is_name) .none kV_is_name dc_is_name pm_is_name an_is_name cd_is_name ct_is_name), f_is_entry := f_is_entry, d_is_entry := (PySem.W.fnOf "is_entry" "is_entry" (defArgs s_is_entry) (defBody s_is_entry) (defScope s_is_entry) .none kV_is_entry dc_is_entry pm_is_entry an_is_entry cd_is_entry ct_is_entry), f_joined := f_joined, d_joined := (PySem.W.fnOf "joined" "joined" (defArgs s_joined) (defBody s_joined) (defScope s_joined) .none kV_joined dc_joined pm_joined an_joined cd_joined ct_joined), f_standing := f_standing, d_standing := (PySem.W.fnOf "standing" "standing" (defArgs s_standing) (defBody s_standing) (defScope s_standing) .none kV_standing dc_standing pm_standing an_standing cd_standing ct_standing), f_told_names := f_told_names, d_told_names := (PySem.W.fnOf "told_names" "told_names" (defArgs s_told_names) (defBody s_told_names) (defScope s_told_names) .none kV_told_names dc_told_names pm_told_names an_told_names cd_told_names ct_told_names), f_Sheet_XinitX := f_Sheet_XinitX, d_Sheet_XinitX := (PySem.W.fnOf "__init__" "Sheet.__init__" (defArgs s_Sheet_XinitX) (defBody s_Sheet_XinitX) (defScope s_Sheet_XinitX) (.ref T_Sheet_XinitX) kV_Sheet_XinitX dc_Sheet_XinitX pm_Sheet_XinitX an_Sheet_XinitX cd_Sheet_XinitX ct_Sheet_XinitX), f_Sheet_XiorX := f_Sheet_XiorX, d_Sheet_XiorX := (PySem.W.fnOf "__ior__" "Sheet.__ior__" (defArgs s_Sheet_XiorX) (defBody s_Sheet_XiorX) (defScope s_Sheet_XiorX) .none kV_Sheet_XiorX dc_Sheet_XiorX pm_Sheet_XiorX an_Sheet_XiorX cd_Sheet_XiorX ct_Sheet_XiorX), f_Sheet_stands := f_Sheet_stands, d_Sheet_stands := (PySem.W.fnOf "stands" "Sheet.stands" (defArgs s_Sheet_stands) (defBody s_Sheet_stands) (defScope s_Sheet_stands) .none kV_Sheet_stands dc_Sheet_stands pm_Sheet_stands an_Sheet_stands cd_Sheet_stands ct_Sheet_stands), f_l_mixed := f_l_mixed, d_l_mixed := (PySem.W.fnOf "_law_mixed" "_law_mixed" (defArgs s_l_mixed) (defBody s_l_mixed) (defScope s_l_mixed) .none kV_l_mixed dc_l_mixed pm_l_mixed an_l_mixed cd_l_mixed ct_l_mixed), f_l_bag := f_l_bag, d_l_bag := (PySem.W.fnOf "_law_bag" "_law_bag" (defArgs s_l_bag) (defBody s_l_bag) (defScope s_l_bag) .none kV_l_bag dc_l_bag pm_l_bag an_l_bag cd_l_bag ct_l_bag), f_l_pick := f_l_pick, d_l_pick := (PySem.W.fnOf "_law_pick" "_law_pick" (defArgs s_l_pick) (defBody s_l_pick) (defScope s_l_pick) .none kV_l_pick dc_l_pick pm_l_pick an_l_pick cd_l_pick ct_l_pick), f_l_choice := f_l_choice, d_l_choice := (PySem.W.fnOf "_law_choice" "_law_choice" (defArgs s_l_choice) (defBody s_l_choice) (defScope s_l_choice) .none kV_l_choice dc_l_choice pm_l_choice an_l_choice cd_l_choice ct_l_choice), f_l_mingled := f_l_mingled, d_l_mingled := (PySem.W.fnOf "_law_mingled" "_law_mingled" (defArgs s_l_mingled) (defBody s_l_mingled) (defScope s_l_mingled) .none kV_l_mingled dc_l_mingled pm_l_mingled an_l_mingled cd_l_mingled ct_l_mingled), f_l_sorted := f_l_sorted, d_l_sorted := (PySem.W.fnOf "_law_sorted" "_law_sorted" (defArgs s_l_sorted) (defBody s_l_sorted) (defScope s_l_sorted) .none kV_l_sorted dc_l_sorted pm_l_sorted an_l_sorted cd_l_sorted ct_l_sorted), f_l_number := f_l_number, d_l_number := (PySem.W.fnOf "_law_number" "_law_number" (defArgs s_l_number) (defBody s_l_number) (defScope s_l_number) .none kV_l_number dc_l_number pm_l_number an_l_number cd_l_number ct_l_number), f_l_new_name := f_l_new_name, d_l_new_name := (PySem.W.fnOf "_law_new_name" "_law_new_name" (defArgs s_l_new_name) (defBody s_l_new_name) (defScope s_l_new_name) .none kV_l_new_name dc_l_new_name pm_l_new_name an_l_new_name cd_l_new_name ct_l_new_name), f_l_numbers := f_l_numbers, d_l_numbers := (PySem.W.fnOf "_law_numbers" "_law_numbers" (defArgs s_l_numbers) (defBody s_l_numbers) (defScope s_l_numbers) .none kV_l_numbers dc_l_numbers pm_l_numbers an_l_numbers cd_l_numbers ct_l_numbers), f_l_rows := f_l_rows, d_l_rows := (PySem.W.fnOf "_law_rows" "_law_rows" (defArgs s_l_rows) (defBody s_l_rows) (defScope s_l_rows) .none kV_l_rows dc_l_rows pm_l_rows an_l_rows cd_l_rows ct_l_rows), f_l_stood := f_l_stood, d_l_stood := (PySem.W.fnOf "_law_stood" "_law_stood" (defArgs s_l_stood) (defBody s_l_stood) (defScope s_l_stood) .none kV_l_stood dc_l_stood pm_l_stood an_l_stood cd_l_stood ct_l_stood), f_l_told := f_l_told, d_l_told := (PySem.W.fnOf "_law_told" "_law_told" (defArgs s_l_told) (defBody s_l_told) (defScope s_l_told) .none kV_l_told dc_l_told pm_l_told an_l_told cd_l_told ct_l_told), f_l_due := f_l_due, d_l_due := (PySem.W.fnOf "_law_due" "_law_due" (defArgs s_l_due) (defBody s_l_due) (defScope s_l_due) .none kV_l_due dc_l_due pm_l_due an_l_due cd_l_due ct_l_due), f_l_asked := f_l_asked, d_l_asked := (PySem.W.fnOf "_law_asked" "_law_asked" (defArgs s_l_asked) (defBody s_l_asked) (defScope s_l_asked) .none kV_l_asked dc_l_asked pm_l_asked an_l_asked cd_l_asked ct_l_asked), f_law := fa, d_law := (PySem.W.fnOf "law" "law" (defArgs s_law) (defBody s_law) (defScope s_law) .none kV_law dc_law pm_law an_law cd_law ct_law), C_DueError := C_DueError, C_BadNumber := C_BadNumber, C_BadEntry := C_BadEntry, C_Clash := C_Clash, C_NoEntry := C_NoEntry, C_Sheet := C_Sheet, t_LAST_DAY := t_LAST_DAY, t_LETTERS := t_LETTERS, t_MOST_NUMBER := t_MOST_NUMBER, t_NAME_LETTERS := t_NAME_LETTERS, a_dfl := a_dfl }
  have T : Txt K mg AA :=
    { F_NoEntry_XinitX := fun_mk (st := s_NoEntry_XinitX) l_NoEntry_XinitX cI_NoEntry_XinitX k_NoEntry_XinitX,
      bi_NoEntry_XinitX := (fun_mk (st := s_NoEntry_XinitX) l_NoEntry_XinitX cI_NoEntry_XinitX k_NoEntry_XinitX).binds (ps := ["self", "number"]) fun _ _ _ _ _ _ us hl => match us, hl with | [_, _], _ => rfl,
      F_is_number := fun_mk (st := s_is_number) l_is_number cI_is_number k_is_number,
      bi_is_number := (fun_mk (st := s_is_number) l_is_number cI_is_number k_is_number).binds (ps := ["number", "low", "high"]) fun _ _ _ _ _ _ us hl => match us, hl with | [_, _, _], _ => rfl,
      g_is_number := PySem.W.mg_of X G a_is_number,
      F_is_name := fun_mk (st := s_is_name) l_is_name cI_is_name k_is_name,
      bi_is_name := (fun_mk (st := s_is_name) l_is_name cI_is_name k_is_name).binds (ps := ["name"]) fun _ _ _ _ _ _ us hl => match us, hl with | [_], _ => rfl,
      g_is_name := PySem.W.mg_of X G a_is_name,
      F_is_entry := fun_mk (st := s_is_entry) l_is_entry cI_is_entry k_is_entry,
      bi_is_entry := (fun_mk (st := s_is_entry) l_is_entry cI_is_entry k_is_entry).binds (ps := ["entry"]) fun _ _ _ _ _ _ us hl => match us, hl with | [_], _ => rfl,
      g_is_entry := PySem.W.mg_of X G a_is_entry,
      F_joined := fun_mk (st := s_joined) l_joined cI_joined k_joined,
      bi_joined := (fun_mk (st := s_joined) l_joined cI_joined k_joined).binds (ps := ["entries"]) fun _ _ _ _ _ _ us hl => match us, hl with | [_], _ => rfl,
      g_joined := PySem.W.mg_of X G a_joined,
      F_standing := fun_mk (st := s_standing) l_standing cI_standing k_standing,
      bi_standing := (fun_mk (st := s_standing) l_standing cI_standing k_standing).binds (ps := ["rows"]) fun _ _ _ _ _ _ us hl => match us, hl with | [_], _ => rfl,
      g_standing := PySem.W.mg_of X G a_standing,
      F_told_names := fun_mk (st := s_told_names) l_told_names cI_told_names k_told_names,
      bi_told_names := (fun_mk (st := s_told_names) l_told_names cI_told_names k_told_names).binds (ps := ["rows", "stands", "form"]) fun _ _ _ _ _ _ us hl => match us, hl with | [_, _, _], _ => rfl,
      g_told_names := PySem.W.mg_of X G a_told_names,
      F_Sheet_XinitX := FS,
      bi_Sheet_XinitX := bS,
      F_Sheet_XiorX := fun_mk (st := s_Sheet_XiorX) l_Sheet_XiorX cI_Sheet_XiorX k_Sheet_XiorX,
      bi_Sheet_XiorX := (fun_mk (st := s_Sheet_XiorX) l_Sheet_XiorX cI_Sheet_XiorX k_Sheet_XiorX).binds (ps := ["self", "other"]) fun _ _ _ _ _ _ us hl => match us, hl with | [_, _], _ => rfl,
      F_Sheet_stands := fun_mk (st := s_Sheet_stands) l_Sheet_stands cI_Sheet_stands k_Sheet_stands,
      bi_Sheet_stands := (fun_mk (st := s_Sheet_stands) l_Sheet_stands cI_Sheet_stands k_Sheet_stands).binds (ps := ["self", "number"]) fun _ _ _ _ _ _ us hl => match us, hl with | [_, _], _ => rfl,
      F_l_mixed := fun_mk (st := s_l_mixed) l_l_mixed cI_l_mixed k_l_mixed,
      bi_l_mixed := (fun_mk (st := s_l_mixed) l_l_mixed cI_l_mixed k_l_mixed).binds (ps := ["_law_number_here", "_law_turn"]) fun _ _ _ _ _ _ us hl => match us, hl with | [_, _], _ => rfl,
      g_l_mixed := PySem.W.mg_of X G a_l_mixed,
      F_l_bag := fun_mk (st := s_l_bag) l_l_bag cI_l_bag k_l_bag,
      bi_l_bag := (fun_mk (st := s_l_bag) l_l_bag cI_l_bag k_l_bag).binds (ps := ["_law_script"]) fun _ _ _ _ _ _ us hl => match us, hl with | [_], _ => rfl,
      g_l_bag := PySem.W.mg_of X G a_l_bag,
      F_l_pick := fun_mk (st := s_l_pick) l_l_pick cI_l_pick k_l_pick,
      bi_l_pick := (fun_mk (st := s_l_pick) l_l_pick cI_l_pick k_l_pick).binds (ps := ["_law_bag_here", "_law_many"]) fun _ _ _ _ _ _ us hl => match us, hl with | [_, _], _ => rfl,
      g_l_pick := PySem.W.mg_of X G a_l_pick,
      F_l_choice := fun_mk (st := s_l_choice) l_l_choice cI_l_choice k_l_choice,
      bi_l_choice := (fun_mk (st := s_l_choice) l_l_choice cI_l_choice k_l_choice).binds (ps := ["_law_bag_here", "_law_things"]) fun _ _ _ _ _ _ us hl => match us, hl with | [_, _], _ => rfl,
      g_l_choice := PySem.W.mg_of X G a_l_choice,
      F_l_mingled := fun_mk (st := s_l_mingled) l_l_mingled cI_l_mingled k_l_mingled,
      bi_l_mingled := (fun_mk (st := s_l_mingled) l_l_mingled cI_l_mingled k_l_mingled).binds (ps := ["_law_bag_here", "_law_things"]) fun _ _ _ _ _ _ us hl => match us, hl with | [_, _], _ => rfl,
      g_l_mingled := PySem.W.mg_of X G a_l_mingled,
      F_l_sorted := fun_mk (st := s_l_sorted) l_l_sorted cI_l_sorted k_l_sorted,
      bi_l_sorted := (fun_mk (st := s_l_sorted) l_l_sorted cI_l_sorted k_l_sorted).binds (ps := ["_law_things"]) fun _ _ _ _ _ _ us hl => match us, hl with | [_], _ => rfl,
      g_l_sorted := PySem.W.mg_of X G a_l_sorted,
      F_l_number := fun_mk (st := s_l_number) l_l_number cI_l_number k_l_number,
      bi_l_number := (fun_mk (st := s_l_number) l_l_number cI_l_number k_l_number).binds (ps := ["_law_thing"]) fun _ _ _ _ _ _ us hl => match us, hl with | [_], _ => rfl,
      g_l_number := PySem.W.mg_of X G a_l_number,
      F_l_new_name := fun_mk (st := s_l_new_name) l_l_new_name cI_l_new_name k_l_new_name,
      bi_l_new_name := (fun_mk (st := s_l_new_name) l_l_new_name cI_l_new_name k_l_new_name).binds (ps := ["_law_bag_here", "_law_used"]) fun _ _ _ _ _ _ us hl => match us, hl with | [_, _], _ => rfl,
      g_l_new_name := PySem.W.mg_of X G a_l_new_name,
      F_l_numbers := fun_mk (st := s_l_numbers) l_l_numbers cI_l_numbers k_l_numbers,
      bi_l_numbers := (fun_mk (st := s_l_numbers) l_l_numbers cI_l_numbers k_l_numbers).binds (ps := ["_law_bag_here", "_law_many"]) fun _ _ _ _ _ _ us hl => match us, hl with | [_, _], _ => rfl,
      g_l_numbers := PySem.W.mg_of X G a_l_numbers,
      F_l_rows := fun_mk (st := s_l_rows) l_l_rows cI_l_rows k_l_rows,
      bi_l_rows := (fun_mk (st := s_l_rows) l_l_rows cI_l_rows k_l_rows).binds (ps := ["_law_bag_here", "_law_numbers_here", "_law_names"]) fun _ _ _ _ _ _ us hl => match us, hl with | [_, _, _], _ => rfl,
      g_l_rows := PySem.W.mg_of X G a_l_rows,
      F_l_stood := fun_mk (st := s_l_stood) l_l_stood cI_l_stood k_l_stood,
      bi_l_stood := (fun_mk (st := s_l_stood) l_l_stood cI_l_stood k_l_stood).binds (ps := ["_law_read"]) fun _ _ _ _ _ _ us hl => match us, hl with | [_], _ => rfl,
      g_l_stood := PySem.W.mg_of X G a_l_stood,
      F_l_told := fun_mk (st := s_l_told) l_l_told cI_l_told k_l_told,
      bi_l_told := (fun_mk (st := s_l_told) l_l_told cI_l_told k_l_told).binds (ps := ["_law_sheet", "_law_number_here"]) fun _ _ _ _ _ _ us hl => match us, hl with | [_, _], _ => rfl,
      g_l_told := PySem.W.mg_of X G a_l_told,
      F_l_due := fun_mk (st := s_l_due) l_l_due cI_l_due k_l_due,
      bi_l_due := (fun_mk (st := s_l_due) l_l_due cI_l_due k_l_due).binds (ps := ["_law_read", "_law_stood_here", "_law_number_here"]) fun _ _ _ _ _ _ us hl => match us, hl with | [_, _, _], _ => rfl,
      g_l_due := PySem.W.mg_of X G a_l_due,
      F_l_asked := fun_mk (st := s_l_asked) l_l_asked cI_l_asked k_l_asked,
      bi_l_asked := (fun_mk (st := s_l_asked) l_l_asked cI_l_asked k_l_asked).binds (ps := ["_law_numbers_here"]) fun _ _ _ _ _ _ us hl => match us, hl with | [_], _ => rfl,
      g_l_asked := PySem.W.mg_of X G a_l_asked,
      F_law := fun_mk (st := s_law) l_law cI_law k_law,
      bi_law := (fun_mk (st := s_law) l_law cI_law k_law).binds (ps := ["_law_script"]) fun _ _ _ _ _ _ us hl => match us, hl with | [_], _ => rfl,
      g_law := PySem.W.mg_of X G a_law,
      g_DueError := PySem.W.mg_of X G a_DueError,
      xf_DueError := ⟨ga_DueError, gg_DueError, eC_DueError, hC_DueError⟩,
      g_BadNumber := PySem.W.mg_of X G a_BadNumber,
      g_BadEntry := PySem.W.mg_of X G a_BadEntry,
      g_Clash := PySem.W.mg_of X G a_Clash,
      g_NoEntry := PySem.W.mg_of X G a_NoEntry,
      ox_NoEntry := ⟨⟨nm, q, N, bs, bm, sn, sub, ab, col, dd, m0, m1, m2, m3, m5, xL, rx⟩, sa_NE, eC_NE, tC_NE, kC_NE⟩,
      xf_NoEntry := ⟨ga_NoEntry, gg_NoEntry, eC_NE, hC_NoEntry⟩,
      nx_NoEntry := nx_NoEntry,
      ix_NoEntry := ix_NoEntry,
      tx_NoEntry := tx_NoEntry,
      g_Sheet := PySem.W.mg_of X G a_Sheet,
      cl_Sheet := ⟨pg_Sheet, hd_Sheet, po_Sheet, sa_Sheet⟩,
      na_Sheet__rows := na_Sheet__rows,
      na_Sheet__standing := na_Sheet__standing,
      na_Sheet__signs := na_Sheet__signs,
      na_Sheet__rules := na_Sheet__rules,
      m_Sheet_stands := ⟨fi_Sheet_stands, i_Sheet_stands, k_Sheet_stands⟩,
      mk_Sheet := ⟨ms_Sheet, fi_Sheet_XinitX, i_Sheet_XinitX, kC_Sheet⟩,
      sf_Sheet := sf_Sheet,
      c_LAST_DAY := PySem.W.mg_of X G ac_LAST_DAY,
      c_LETTERS := PySem.W.mg_of X G ac_LETTERS,
      c_MOST_NUMBER := PySem.W.mg_of X G ac_MOST_NUMBER,
      c_NAME_LETTERS := PySem.W.mg_of X G ac_NAME_LETTERS,
      b_ValueError := PySem.W.mg_none_of X G z_ValueError,
      b_abs := PySem.W.mg_none_of X G z_abs,
      b_all := PySem.W.mg_none_of X G z_all,
      b_bool := PySem.W.mg_none_of X G z_bool,
      b_enumerate := PySem.W.mg_none_of X G z_enumerate,
      b_int := PySem.W.mg_none_of X G z_int,
      b_isinstance := PySem.W.mg_none_of X G z_isinstance,
      b_len := PySem.W.mg_none_of X G z_len,
      b_list := PySem.W.mg_none_of X G z_list,
      b_range := PySem.W.mg_none_of X G z_range,
      b_reversed := PySem.W.mg_none_of X G z_reversed,
      b_sorted := PySem.W.mg_none_of X G z_sorted,
      b_str := PySem.W.mg_none_of X G z_str,
      b_tuple := PySem.W.mg_none_of X G z_tuple,
      kc_Sheet := kc_Sheet,
      kn_obj := kn_obj,
      kt_obj := kt_obj,
      km_Sheet := km_Sheet,
      ec_NoEntry := ⟨ga_NoEntry, gg_NoEntry, eC_NE, hC_NoEntry, kc_NE, kn_obj, kt_obj, km_NE⟩,
      su_NoEntry := su_NoEntry,
      kb_BadEntry := kb_BadEntry,
      kb_BadNumber := kb_BadNumber,
      kb_Clash := kb_Clash,
      kb_ValueError := kb_ValueError,
      kb_NoEntry := kb_NoEntry,
      io_Sheet := io_Sheet,
      if_Sheet := if_Sheet,
      ty_DueError := ty_DueError }
  exact ⟨(PySem.W.fnOf "law" "law" (defArgs s_law) (defBody s_law) (defScope s_law) .none kV_law dc_law pm_law an_law cd_law ct_law), fun s v => .of_eq rfl, fun base _ _ => ok_law T⟩
theorem walk {l : PySem.W.OpenLaw} {q : Program} {loose : List Str} {XP : (Str → Option Value) → Heap → Prop} {YP : World → Heap → Prop} {d : DefRec} {K : Params → PySem.W.Frag} (hn : l.most = some 63) (hdf : d.params.defaults = [])
    (hY : ∀ (w : World) (h : Heap), YP w h → (K w.params).In h)
    (F : ∀ (w : World) (mg : Str → Option Value) (fa : Addr) (h : Heap), (K w.params).In h → h.Ns mainGlobals mg → mg d.name = some (.ref fa) →
      ∃ fd : FuncData, (∀ (s : Shared) (u : Value), BindsTo s fd ⟨[u], []⟩ [("_law_script", u)]) ∧ ∀ base : Heap, (K w.params).In base → base.Ns mainGlobals mg → FnOk l.prog w (K w.params) mg base CX0 8 fa fd ["_law_script"] (spLaw (K w.params))) :
    PySem.W.WalkO q loose XP YP l.row.toRowW d [] (fun f vs => PySem.call f vs) :=
  L2.walk_of (n := 63) (k := 8) (x := "_law_script") (CX := fun _ => CX0) (sp := fun w => spLaw (K w.params)) hn (by decide) hdf ⟨rfl, by decide, by decide⟩ hY F (fun _ _ a ns hl _ hS => ⟨a, ns, rfl, hS, hl, fun _ => rfl⟩) fun _ _ _ _ _ z => z
end Dh
/-! K02Fin -/
open PySem PySem.W PyProof.Rows
set_option Elab.async false
set_option maxRecDepth 100000 in
set_option maxHeartbeats 0 in
theorem PySem.Challenge.cw_duehouse_k02_who_stands_holds : PySem.Challenge.rw_duehouse_k02_who_stands.Holds := by
  w_on; o_law; k_head; (case hw => w_witness2)
  k_fill
  refine Dh.walk (l := PySem.Challenge.rw_duehouse_k02_who_stands) rfl rfl (fun w h Y => PySem.W.kIn_of Y) ?F
  case F =>
    intro w mg fa h KX G hmg
    refine' Dh.all_mk KX G hmg ?a_DueError ?a_BadNumber ?a_BadEntry ?a_Clash ?a_NoEntry ?a_Sheet ?ix_NoEntry ?fi_Sheet_XinitX ?io_Sheet ?fi_Sheet_stands ?a_is_number ?a_is_name ?a_is_entry ?a_joined ?a_standing ?a_told_names ?a_l_mixed ?a_l_bag ?a_l_pick ?a_l_choice ?a_l_mingled ?a_l_sorted ?a_l_number ?a_l_new_name ?a_l_numbers ?a_l_rows ?a_l_stood ?a_l_told ?a_l_due ?a_l_asked ?a_law ?l_NoEntry_XinitX ?cI_NoEntry_XinitX ?k_NoEntry_XinitX ?l_is_number ?cI_is_number ?k_is_number ?l_is_name ?cI_is_name ?k_is_name ?l_is_entry ?cI_is_entry ?k_is_entry ?l_joined ?cI_joined ?k_joined ?l_standing ?cI_standing ?k_standing ?l_told_names ?cI_told_names ?k_told_names ?l_Sheet_XinitX ?cI_Sheet_XinitX ?k_Sheet_XinitX ?lT_Sheet_XinitX ?l_Sheet_XiorX ?cI_Sheet_XiorX ?k_Sheet_XiorX ?l_Sheet_stands ?cI_Sheet_stands ?k_Sheet_stands ?l_l_mixed ?cI_l_mixed ?k_l_mixed ?l_l_bag ?cI_l_bag ?k_l_bag ?l_l_pick ?cI_l_pick ?k_l_pick ?l_l_choice ?cI_l_choice ?k_l_choice ?l_l_mingled ?cI_l_mingled ?k_l_mingled ?l_l_sorted ?cI_l_sorted ?k_l_sorted ?l_l_number ?cI_l_number ?k_l_number ?l_l_new_name ?cI_l_new_name ?k_l_new_name ?l_l_numbers ?cI_l_numbers ?k_l_numbers ?l_l_rows ?cI_l_rows ?k_l_rows ?l_l_stood ?cI_l_stood ?k_l_stood ?l_l_told ?cI_l_told ?k_l_told ?l_l_due ?cI_l_due ?k_l_due ?l_l_asked ?cI_l_asked ?k_l_asked ?l_law ?cI_law ?k_law ?ga_DueError ?gg_DueError ?eC_DueError ?hC_DueError ?xL ?rx ?sa_NE ?eC_NE ?tC_NE ?kC_NE ?ga_NoEntry ?gg_NoEntry ?hC_NoEntry ?nx_NoEntry ?tx_NoEntry ?pg_Sheet ?hd_Sheet ?po_Sheet ?sa_Sheet ?na_Sheet__rows ?na_Sheet__standing ?na_Sheet__signs ?na_Sheet__rules ?i_Sheet_stands ?ms_Sheet ?i_Sheet_XinitX ?kC_Sheet ?sf_Sheet ?ac_LAST_DAY ?ac_LETTERS ?ac_MOST_NUMBER ?ac_NAME_LETTERS ?z_ValueError ?z_abs ?z_all ?z_bool ?z_enumerate ?z_int ?z_isinstance ?z_len ?z_list ?z_range ?z_reversed ?z_sorted ?z_str ?z_tuple ?kc_Sheet ?kn_obj ?kt_obj ?km_Sheet ?kc_NE ?km_NE ?su_NoEntry ?kb_BadEntry ?kb_BadNumber ?kb_Clash ?kb_ValueError ?kb_NoEntry ?if_Sheet ?ty_DueError
    (case a_DueError => (k_is))
    (case a_BadNumber => (k_is))
    (case a_BadEntry => (k_is))
    (case a_Clash => (k_is))
    (case a_NoEntry => (k_is))
    (case a_Sheet => (k_is))
    (case ix_NoEntry => (k_is))
    (case fi_Sheet_XinitX => (k_is))
    (case io_Sheet => (k_is))
    (case fi_Sheet_stands => (k_is))
    (case a_is_number => (k_is))
    (case a_is_name => (k_is))
    (case a_is_entry => (k_is))
    (case a_joined => (k_is))
    (case a_standing => (k_is))
    (case a_told_names => (k_is))
    (case a_l_mixed => (k_is))
    (case a_l_bag => (k_is))
    (case a_l_pick => (k_is))
    (case a_l_choice => (k_is))
    (case a_l_mingled => (k_is))
    (case a_l_sorted => (k_is))
    (case a_l_number => (k_is))
    (case a_l_new_name => (k_is))
    (case a_l_numbers => (k_is))
    (case a_l_rows => (k_is))
    (case a_l_stood => (k_is))
    (case a_l_told => (k_is))
    (case a_l_due => (k_is))
    (case a_l_asked => (k_is))
    (case a_law => (k_is))
    (case l_NoEntry_XinitX => (k_is))
    (case cI_NoEntry_XinitX => (k_is))
    (case k_NoEntry_XinitX => (k_is))
    (case l_is_number => (k_is))
    (case cI_is_number => (k_is))
    (case k_is_number => (k_is))
    (case l_is_name => (k_is))
    (case cI_is_name => (k_is))
    (case k_is_name => (k_is))
    (case l_is_entry => (k_is))
    (case cI_is_entry => (k_is))
    (case k_is_entry => (k_is))
    (case l_joined => (k_is))
    (case cI_joined => (k_is))
    (case k_joined => (k_is))
    (case l_standing => (k_is))
    (case cI_standing => (k_is))
    (case k_standing => (k_is))
    (case l_told_names => (k_is))
    (case cI_told_names => (k_is))
    (case k_told_names => (k_is))
    (case l_Sheet_XinitX => (k_is))
    (case cI_Sheet_XinitX => (k_is))
    (case k_Sheet_XinitX => (k_is))
    (case lT_Sheet_XinitX => (k_is))
    (case l_Sheet_XiorX => (k_is))
    (case cI_Sheet_XiorX => (k_is))
    (case k_Sheet_XiorX => (k_is))
    (case l_Sheet_stands => (k_is))
    (case cI_Sheet_stands => (k_is))
    (case k_Sheet_stands => (k_is))
    (case l_l_mixed => (k_is))
    (case cI_l_mixed => (k_is))
    (case k_l_mixed => (k_is))
    (case l_l_bag => (k_is))
    (case cI_l_bag => (k_is))
    (case k_l_bag => (k_is))
    (case l_l_pick => (k_is))
    (case cI_l_pick => (k_is))
    (case k_l_pick => (k_is))
    (case l_l_choice => (k_is))
    (case cI_l_choice => (k_is))
    (case k_l_choice => (k_is))
    (case l_l_mingled => (k_is))
    (case cI_l_mingled => (k_is))
    (case k_l_mingled => (k_is))
    (case l_l_sorted => (k_is))
    (case cI_l_sorted => (k_is))
    (case k_l_sorted => (k_is))
    (case l_l_number => (k_is))
    (case cI_l_number => (k_is))
    (case k_l_number => (k_is))
    (case l_l_new_name => (k_is))
    (case cI_l_new_name => (k_is))
    (case k_l_new_name => (k_is))
    (case l_l_numbers => (k_is))
    (case cI_l_numbers => (k_is))
    (case k_l_numbers => (k_is))
    (case l_l_rows => (k_is))
    (case cI_l_rows => (k_is))
    (case k_l_rows => (k_is))
    (case l_l_stood => (k_is))
    (case cI_l_stood => (k_is))
    (case k_l_stood => (k_is))
    (case l_l_told => (k_is))
    (case cI_l_told => (k_is))
    (case k_l_told => (k_is))
    (case l_l_due => (k_is))
    (case cI_l_due => (k_is))
    (case k_l_due => (k_is))
    (case l_l_asked => (k_is))
    (case cI_l_asked => (k_is))
    (case k_l_asked => (k_is))
    (case l_law => (k_is))
    (case cI_law => (k_is))
    (case k_law => (k_is))
    (case ga_DueError => (k_is))
    (case gg_DueError => (k_is))
    (case eC_DueError => (k_is))
    (case hC_DueError => (k_is))
    (case xL => (k_is))
    (case rx => (decide +kernel))
    (case sa_NE => (k_is))
    (case eC_NE => (k_is))
    (case tC_NE => (k_is))
    (case kC_NE => (k_is))
    (case ga_NoEntry => (k_is))
    (case gg_NoEntry => (k_is))
    (case hC_NoEntry => (k_is))
    (case nx_NoEntry => (k_is))
    (case tx_NoEntry => (k_is))
    (case pg_Sheet => (k_is))
    (case hd_Sheet => (k_is))
    (case po_Sheet => (k_is))
    (case sa_Sheet => (k_is))
    (case na_Sheet__rows => (k_is))
    (case na_Sheet__standing => (k_is))
    (case na_Sheet__signs => (k_is))
    (case na_Sheet__rules => (k_is))
    (case i_Sheet_stands => (k_is))
    (case ms_Sheet => (k_is))
    (case i_Sheet_XinitX => (k_is))
    (case kC_Sheet => (k_is))
    (case sf_Sheet => (k_is))
    (case ac_LAST_DAY => (k_is))
    (case ac_LETTERS => (k_is))
    (case ac_MOST_NUMBER => (k_is))
    (case ac_NAME_LETTERS => (k_is))
    (case z_ValueError => (k_is))
    (case z_abs => (k_is))
    (case z_all => (k_is))
    (case z_bool => (k_is))
    (case z_enumerate => (k_is))
    (case z_int => (k_is))
    (case z_isinstance => (k_is))
    (case z_len => (k_is))
    (case z_list => (k_is))
    (case z_range => (k_is))
    (case z_reversed => (k_is))
    (case z_sorted => (k_is))
    (case z_str => (k_is))
    (case z_tuple => (k_is))
    (case kc_Sheet => (k_is))
    (case kn_obj => (k_is))
    (case kt_obj => (k_is))
    (case km_Sheet => (k_is))
    (case kc_NE => (k_is))
    (case km_NE => (k_is))
    (case su_NoEntry => (k_is))
    (case kb_BadEntry => (first | k_is | kit_is))
    (case kb_BadNumber => (first | k_is | kit_is))
    (case kb_Clash => (first | k_is | kit_is))
    (case kb_ValueError => (first | k_is | kit_is))
    (case kb_NoEntry => (first | k_is | kit_is))
    (case if_Sheet => (k_is))
    (case ty_DueError => (k_is))
