import PyProof.Rows.All
import Wide.All
import OpenK.AllK
import Wide.FinOn
import HandS.ForMost
import HandS.Exc
import HandS.TryOnly
import HandS.TryMany
import HandS.ExcInit
import HandS.ExcField
import HandS.ExcIs
import HandS.IsInst
import HandS.WordsExc
import HandS.OwnEq
import HandS.Flow
import HandS.Style
import HandS.Strs
import HandS.Conv
import HandS.SetKeys
import HandS.DictComp
import HandS.TupLe
import HandS.TupAny
import HandS.Defaults
import HandS.Wide
import HandS.EndBits
import HandS.SortInts
import HandS.Walk
import HandS.Rev
import HandS.Evl
import KE.KOpsOwn
import KE.KOwnIter
import HandS.List
import HandS.IterNext
import HandS.Zip0
import PyProof.TupleIter
import PyProof.FactsLen
import HandS.ExcCtx
import HandS.HotCalls
import KE.KExcIs
import HandS.SortKw
import HandS.Deep
import PyProof.ReprRoads
import PyProof.ReprLen
import HandS.Ends
import KE.GoesMore
import KE.GoesEnum
import PySem.Challenge.RW_duehouse_k05_spells_and_tracks
/-! DhBase -/
set_option Elab.async false
set_option linter.all false
set_option maxRecDepth 100000
set_option maxHeartbeats 4000000
namespace Dh
open PySem PySem.Spec L2

/-! ### own operators of an instance -/
section
variable {X : Cx} {CX : CXT} {k : Nat} {f C : Addr} {fd : FuncData} {ps : List Str} {sp : Sp} {E : XK}
def rOwn (C : Addr) (sp : Sp) (E : XK) : R2 := fun x y H Q => ∃ a dx fs, x = .ref a ∧ H a = some (.ins C dx fs) ∧ sp [x, y] H Q E
theorem cmpBack_of {pins : List (Addr × Obj)} {σ : L2.St} {Q : VK} {u : Value} {s : Shared} (h : EP X pins σ Q u s) : PySem.W.CmpBack (EP X pins σ Q) u s := by
  cases u with
  | notImplemented =>
    obtain ⟨v, H', _, r, _⟩ := h
    cases v
    · cases r
    · cases r
    · obtain ⟨_, e⟩ := r; cases e
    · obtain ⟨_, e⟩ := r; cases e
    · obtain ⟨_, e⟩ := r; cases e
    · obtain ⟨_, e⟩ := r; cases e
    · cases r
    · cases r
  | _ => exact h
theorem ip_own {op : Operator} (F : FnOk X.prog X.w X.K X.mg X.base CX k f fd ps sp) (hr : Room k X.A) (hc : PySem.W.selfFirst X.K C = true)
    (hs : PySem.W.findIn X.K (.ref C) (PySem.dunderI op.info.2) = some (some (.ref f))) (hf : PySem.W.isFn X.K (.ref f) = true) (hb : Binds X.K fd ps []) (hx : Passes CX X E) : PIp X op (rOwn C sp E) := by
  intro pins s σ H x y v u Q I rx ry h
  obtain ⟨a, dx, fs, rfl, ha, hsp⟩ := h
  obtain rfl : v = Value.ref a := rx
  obtain ⟨mA, J, _⟩ := ins_get I.hok ha
  obtain ⟨od, J, _⟩ := J.look
  obtain ⟨m, hF⟩ := I.fr
  refine PySem.W.ksp_inplace hF I.ok.mod.kin J hc hs hf ?_
  refine wpAny_mono (run_fn (us := [.ref a, u]) (ds := []) (dvs := []) F hr hb .nil hx I (.cons (show RelV (.ref a) (.ref a) from rfl) (.cons ry .nil)) (by simpa using hsp)) (fun u s' q => cmpBack_of q) fun _ _ e => e
end

/-! ### small operators -/
section
variable {X : Cx}
theorem op_mul_ib : OpR X (binaryOp .Mult) (fun x y H Q => ∃ i k, x = .int i ∧ y = .bl k ∧ Q (.int (i * (if k = true then 1 else 0))) H) := by
  intro pins s σ H x y v u Q I rx ry h
  obtain ⟨i, k, rfl, rfl, q⟩ := h
  obtain ⟨t, rfl⟩ := rx
  obtain rfl : u = Value.bool k := ry
  exact PySem.IntBool.mul_int_bool ⟨.int (i * (if k = true then 1 else 0)), H, I.tok _, ⟨_, rfl⟩, q⟩
end
end Dh
namespace Ob
open PySem PySem.SeqAt
open AutoSeq1 (wpAny_loadPart')
open MeetsSeq MeetsSeq2 MeetsSeq3 SeqRoads2
/-- t <= u of two tuples whose first items are told apart -/
theorem tuple_leFirst (l b : Addr) (items items2 : Array Value) (n n2 : Nat) (dd dd2 : Option Addr) (sl sl2 : Array (Option Value)) (r : Bool) (h1 : 0 < items.size) (h2 : 0 < items2.size) :
    Meets (Builtin.«tuple.__le__» ⟨[.ref l, .ref b], []⟩)
      (fun A R s => s.heap.get? l = some { cls := .type "tuple", dict := dd, data := .seq items n, slots := sl } ∧ s.heap.get? b = some { cls := .type "tuple", dict := dd2, data := .seq items2 n2, slots := sl2 } ∧
        EqAt A.in1 s items[0] items2[0] false ∧ RcOp .LtE A.in1 s items[0] items2[0] r ∧ R (.ok (.ret (.bool r))) s) :=
  .of_wp fun prog w A R s h => by
    obtain ⟨hp, g, d, tk, os⟩ := s; obtain ⟨hl, hb, he, hr, h⟩ := h
    have f2 := AutoSeq1.sub_tuple_tuple
    have hZ : (items.toList.zip items2.toList).length = min items.size items2.size := by simp
    have hlt : 0 < (items.toList.zip items2.toList).length := by rw [hZ]; omega
    wp_walk using wpAny_loadPart' hl, wpAny_loadPart' hb, wpAny_forIn_list _ (fun rest b s' => b.1 = none ∧ s' = ⟨hp, g, d, tk, os⟩ ∧ rest = (items.toList.zip items2.toList)) _
    case turn =>
      rintro ⟨y, x⟩ rest b s' ⟨hb', rfl, hz⟩
      have hz' : (y, x) :: rest = (items.toList.zip items2.toList).drop 0 := by rw [List.drop_zero]; exact hz
      rw [List.drop_eq_getElem_cons hlt] at hz'
      injection hz' with hyx hrest
      have hy : y = items[0] := by have := congrArg Prod.fst hyx; simpa using this
      have hx : x = items2[0] := by have := congrArg Prod.snd hyx; simpa using this
      subst hy hx
      refine wpAny_bind (he prog w _ _ ?_)
      have hri := hr prog w
      wp_walk using hri
      exact ⟨_, rfl, h⟩
    case fin =>
      rintro ⟨b1, b2⟩ s' ⟨hb', rfl, hz⟩
      rw [← hz] at hlt
      exact absurd hlt (by simp)
    case h =>
      exact ⟨rfl, rfl, rfl⟩
theorem RcOp.tuples_leF {A : Around} {s : Shared} {l b : Addr} {items items2 : Array Value} {r : Bool} (hl : s.heap.IsTuple l items) (hb : s.heap.IsTuple b items2) (hu : A.units < cLine) (h1 : 0 < items.size) (h2 : 0 < items2.size)
    (he : EqAt A.in1 s items[0] items2[0] false) (hr : RcOp .LtE A.in1 s items[0] items2[0] r) :
    RcOp .LtE A s (.ref l) (.ref b) r := fun prog w E Q h => by
  obtain ⟨⟨cls, dd, data, sl⟩, ho, hc, n, hd⟩ := id hl
  obtain ⟨⟨cls2, dd2, data2, sl2⟩, ho2, hc2, n2, hd2⟩ := id hb
  simp only at hc hd hc2 hd2
  subst hc hd hc2 hd2
  exact richCompare_meets_room (op := .LtE) ⟨_, ho, rfl⟩ ⟨_, ho2, rfl⟩ F.slot_tuple_le F.entry_tuple_le (F.args_tuple_le_2 _ _) (tuple_leFirst l b items items2 n n2 dd dd2 sl sl2 r h1 h2)
    ⟨ho, ho2, he, hr, ⟨(fun x => nomatch x), h⟩⟩ hu
end Ob
namespace Dh
open PySem PySem.Spec L2
/-- t <= u, their first items two different ints -/
def rLeF (K : PySem.W.Frag) : R2 := fun x y H Q => ∃ (a b : Addr) (i j : Int) (xs ys : List V), x = .ref a ∧ y = .ref b ∧ SqT K H a (.int i :: xs) ∧ SqT K H b (.int j :: ys) ∧ i ≠ j ∧ Q (.bl (decide (i ≤ j))) H
theorem op_leF {X : Cx} (hu : X.A.units < cLine) : OpR X (compareOp .LtE) (rLeF X.K) := by
  intro pins s σ H x y v u Q I rx ry h
  obtain ⟨a, b, i, j, xs, ys, rfl, rfl, ha, hb, ne, q⟩ := h
  obtain rfl : v = Value.ref a := rx
  obtain rfl : u = Value.ref b := ry
  obtain ⟨its, r1, p1, _⟩ := I.tuple ha
  obtain ⟨its2, r2, p2, _⟩ := I.tuple hb
  cases r1 with
  | cons q1 t1 =>
    cases r2 with
    | cons q2 t2 =>
      rename_i u1 us1 u2 us2
      obtain ⟨t, rfl⟩ := q1
      obtain ⟨t', rfl⟩ := q2
      have R := Ob.RcOp.tuples_leF (A := X.A) (s := s) (r := decide (i ≤ j)) p1 p2 hu (by simp) (by simp) (by
          have z : (i == j) = false := beq_eq_false_iff_ne.mpr ne
          have := SeqAt.EqAt.int_int (A := X.A.in1) (s := s) i t j t'
          rw [z] at this
          simpa using this) (by simpa using Ob.RcOp.le_int _ _ _ _)
      exact R X.prog X.w X.xe (EP X pins σ Q) ⟨.bl _, H, I, rfl, q⟩
end Dh
namespace Dh
open PySem PySem.Spec L2
/-! ### the calls of built-ins, by names -/
def rInt1 : List V → Hp → VK → Prop := fun xs H Q => (∃ i, xs = [.int i] ∧ Q (.int i) H) ∨ ∃ k, xs = [.bl k] ∧ Q (.int (if k then 1 else 0)) H
def rAbs : List V → Hp → VK → Prop := fun xs H Q => ∃ i, xs = [.int i] ∧ Q (.int (if i < 0 then -i else i)) H
def rLenQ (K : PySem.W.Frag) : List V → Hp → VK → Prop := fun xs H Q => ∃ p ys, xs = [.ref p] ∧ (SqL K H p ys ∨ SqT K H p ys) ∧ Q (.int ys.length) H
def rLenS : List V → Hp → VK → Prop := fun xs H Q => ∃ z, xs = [.str z] ∧ z.length ≤ sizeLine ∧ Q (.int z.length) H
def rLenD : List V → Hp → VK → Prop := fun xs H Q => ∃ a kvs, xs = [V.ref a] ∧ H a = some (.dK kvs) ∧ Q (.int kvs.length) H
def rListQ (K : PySem.W.Frag) : List V → Hp → VK → Prop := fun xs H Q => ∃ p ys, xs = [.ref p] ∧ (SqL K H p ys ∨ SqT K H p ys) ∧ ∀ l, H l = none → Q (.ref l) (upd H l (.lst ys))
def rTupQ (K : PySem.W.Frag) : List V → Hp → VK → Prop := fun xs H Q => ∃ p ys, xs = [.ref p] ∧ ((SqL K H p ys ∧ ∀ l, H l = none → Q (.ref l) (upd H l (.tup ys))) ∨ (SqT K H p ys ∧ Q (.ref p) H))
section
variable {X : Cx}
theorem cl_int : CallR X (.type "int") rInt1 := call_int1
theorem cl_abs : CallR X (.builtin "abs") rAbs := call_abs
theorem cl_len : CallR X (.builtin "len") (rLenQ X.K) := call_len_seq
theorem cl_lenS : CallR X (.builtin "len") rLenS := call_len_str
theorem cl_lenD : CallR X (.builtin "len") rLenD := call_lenD
theorem cl_list : CallR X (.type "list") (rListQ X.K) := call_list_of
theorem cl_tuple : CallR X (.type "tuple") (rTupQ X.K) := call_tuple_of
def rAddIB : R2 := fun x y H Q => ∃ i k, x = .int i ∧ y = .bl k ∧ Q (.int (i + PyProof.Rows.b2i k)) H
def rMulIB : R2 := fun x y H Q => ∃ i k, x = .int i ∧ y = .bl k ∧ Q (.int (i * (if k = true then 1 else 0))) H
theorem op_addIB : OpR X (binaryOp .Add) rAddIB := op_add_ib
theorem op_mulIB : OpR X (binaryOp .Mult) rMulIB := op_mul_ib
def rAddS : R2 := fun x y H Q => ∃ i j : Str, x = .str i ∧ y = .str j ∧ i.length + j.length ≤ sizeLine ∧ Q (.str (i.append j)) H
end
end Dh
namespace Dh
open PySem PySem.Spec L2
open _root_.Evl (Ex)
/-! ### numbers -/
theorem int_eq {i j : Int} : decide (V.int i = V.int j) = decide (i = j) := by simp
theorem str_eq {i j : Str} : decide (V.str i = V.str j) = decide (i = j) := by simp
theorem fmod_lt {a m : Int} (h : 0 < m) : 0 ≤ a.fmod m ∧ a.fmod m < m := by
  rw [Int.fmod_eq_emod_of_nonneg _ (Int.le_of_lt h)]
  exact ⟨Int.emod_nonneg _ (by omega), Int.emod_lt_of_pos _ h⟩
theorem cm_fmod {a m j : Int} (h0 : 0 < m) (h1 : m ≤ 18446744073709551616) : CMul (a.fmod m) j := by
  have := fmod_lt (a := a) h0
  exact Or.inl ⟨by omega, by omega⟩
theorem atI_lt {α : Type} {xs : List α} {i : Int} (h0 : 0 ≤ i) (h1 : i < xs.length) : ∃ v, atI xs i = some v ∧ xs[i.toNat]? = some v := by
  obtain ⟨j, rfl⟩ := Int.eq_ofNat_of_zero_le h0
  have hj : j < xs.length := by omega
  exact ⟨xs[j], atI_nat (by simp [hj]), by simp [hj]⟩
theorem atI_ints {ns : List Int} {i : Int} (h0 : 0 ≤ i) (h1 : i < ns.length) : ∃ z, atI (ns.map V.int) i = some (.int z) ∧ ns[i.toNat]? = some z := by
  obtain ⟨v, h, e⟩ := atI_lt (xs := ns.map V.int) h0 (by simpa using h1)
  rw [List.getElem?_map] at e
  cases q : ns[i.toNat]? with
  | none => rw [q] at e; cases e
  | some z => rw [q] at e; cases e; exact ⟨z, h, rfl⟩
theorem erase_perm {α : Type} : ∀ {l : List α} {n : Nat} {y : α}, l[n]? = some y → (y :: l.eraseIdx n).Perm l
  | [], _, _, h => by simp at h
  | a :: l, 0, y, h => by simp at h; subst h; simp
  | a :: l, n + 1, y, h => by
    have ih := erase_perm (l := l) (n := n) (y := y) (by simpa using h)
    rw [List.eraseIdx_cons_succ]
    exact (List.Perm.swap _ _ _).trans (ih.cons a)
/-! ### a reading, step by step -/
section
variable {σ : L2.St} {H : Hp} {Q : VK} {v : V} {ta tb te : TE} {r : R2} {D : Ends} {t u : TS} {K : PySem.W.Frag}
theorem i_var {i : Nat} (h : σ[i]? = some (some v)) (k : Q v H) : tVar i σ H Q := ⟨v, h, k⟩
theorem i_c (k : Q v H) : tC v σ H Q := k
theorem i_op (k : ta σ H fun x H1 => tb σ H1 fun y H2 => r x y H2 Q) : tOp r ta tb σ H Q := k
theorem i_un {q : V → Hp → VK → Prop} (k : ta σ H fun x H1 => q x H1 Q) : tUn q ta σ H Q := k
theorem i_cb {q : List V → Hp → VK → Prop} {a : TA} (k : a σ H fun vs H1 => q vs H1 Q) : tCB q a σ H Q := k
theorem i_nil {q : List V → Hp → Prop} (k : q [] H) : tNil σ H q := k
theorem i_cons {a : TA} {q : List V → Hp → Prop} (k : ta σ H fun x H1 => a σ H1 fun xs H2 => q (x :: xs) H2) : tCons ta a σ H q := k
theorem i_call {sp : Sp} {E : XK} {a : TA} (k : a σ H fun vs H1 => sp (vs ++ []) H1 Q E) : tCall sp [] E a σ H Q := k
theorem i_call' {sp : Sp} {E : XK} {vs : List V} (k : sp vs H Q E) : sp (vs ++ []) H Q E := by rw [List.append_nil]; exact k
theorem i_I0 {g : Int → Int → V} {i j : Int} (k : Q (g i j) H) : rI0 g (.int i) (.int j) H Q := ⟨i, j, rfl, rfl, k⟩
theorem i_I {C : Int → Int → Prop} {g : Int → Int → V} {i j : Int} (c : C i j) (k : Q (g i j) H) : rI C g (.int i) (.int j) H Q := ⟨i, j, rfl, rfl, c, k⟩
theorem i_eqI {i j : Int} (k : Q (.bl (decide (i = j))) H) : rEq (.int i) (.int j) H Q := ⟨rfl, by rw [int_eq]; exact k⟩
theorem i_neI {i j : Int} (k : Q (.bl (!decide (i = j))) H) : rNe (.int i) (.int j) H Q := ⟨rfl, by rw [int_eq]; exact k⟩
theorem i_eqS {i j : Str} (k : Q (.bl (decide (i = j))) H) : rEq (.str i) (.str j) H Q := ⟨rfl, by rw [str_eq]; exact k⟩
theorem i_neS {i j : Str} (k : Q (.bl (!decide (i = j))) H) : rNe (.str i) (.str j) H Q := ⟨rfl, by rw [str_eq]; exact k⟩
theorem i_eq {x y : V} (s : scal x y = true) (k : Q (.bl (decide (x = y))) H) : rEq x y H Q := ⟨s, k⟩
theorem i_ne {x y : V} (s : scal x y = true) (k : Q (.bl (!decide (x = y))) H) : rNe x y H Q := ⟨s, k⟩
theorem i_int1 {i : Int} (k : Q (.int i) H) : rInt1 [.int i] H Q := .inl ⟨i, rfl, k⟩
theorem i_abs {i : Int} (k : Q (.int (if i < 0 then -i else i)) H) : rAbs [.int i] H Q := ⟨i, rfl, k⟩
theorem i_addIB {i : Int} {c : Bool} (k : Q (.int (i + PyProof.Rows.b2i c)) H) : rAddIB (.int i) (.bl c) H Q := ⟨i, c, rfl, rfl, k⟩
theorem i_mulIB {i : Int} {c : Bool} (k : Q (.int (i * (if c = true then 1 else 0))) H) : rMulIB (.int i) (.bl c) H Q := ⟨i, c, rfl, rfl, k⟩
theorem i_listL {p : Addr} {xs : List V} (h : SqL K H p xs) (k : ∀ l, H l = none → Q (.ref l) (upd H l (.lst xs))) : rListQ K [.ref p] H Q := ⟨p, xs, rfl, .inl h, k⟩
theorem i_listT {p : Addr} {xs : List V} (h : SqT K H p xs) (k : ∀ l, H l = none → Q (.ref l) (upd H l (.lst xs))) : rListQ K [.ref p] H Q := ⟨p, xs, rfl, .inr h, k⟩
theorem i_tupL {p : Addr} {xs : List V} (h : SqL K H p xs) (k : ∀ l, H l = none → Q (.ref l) (upd H l (.tup xs))) : rTupQ K [.ref p] H Q := ⟨p, xs, rfl, .inl ⟨h, k⟩⟩
theorem i_lenD {p : Addr} {xs : List (Key × V)} (h : H p = some (.dK xs)) (k : Q (.int xs.length) H) : rLenD [.ref p] H Q := ⟨p, xs, rfl, h, k⟩
theorem i_ixL {p : Addr} {xs : List V} {i : Int} (h : SqL K H p xs) (a : atI xs i = some v) (k : Q v H) : rIxL K (.ref p) (.int i) H Q := ⟨p, xs, i, v, rfl, rfl, h, a, k⟩
theorem i_ixT {p : Addr} {xs : List V} {i : Int} (h : SqT K H p xs) (a : atI xs i = some v) (k : Q v H) : rIxT K (.ref p) (.int i) H Q := ⟨p, xs, i, v, rfl, rfl, h, a, k⟩
theorem i_lenL {p : Addr} {xs : List V} (h : SqL K H p xs) (k : Q (.int xs.length) H) : rLenQ K [.ref p] H Q := ⟨p, xs, rfl, .inl h, k⟩
theorem i_lenT {p : Addr} {xs : List V} (h : SqT K H p xs) (k : Q (.int xs.length) H) : rLenQ K [.ref p] H Q := ⟨p, xs, rfl, .inr h, k⟩
theorem i_lenS {z : Str} (h : z.length ≤ sizeLine) (k : Q (.int z.length) H) : rLenS [.str z] H Q := ⟨z, rfl, h, k⟩
theorem i_tup {a : TA} (k : a σ H fun xs H1 => xs.length ≤ sizeLine ∧ ∀ p, H1 p = none → Q (.ref p) (upd H1 p (.tup xs))) : tTup a σ H Q := k
theorem i_lst {a : TA} (k : a σ H fun xs H1 => xs.length ≤ sizeLine ∧ ∀ p, H1 p = none → Q (.ref p) (upd H1 p (.lst xs))) : tLst a σ H Q := k
theorem i_seq (k : t { D with nx := u D } σ H) : tSeq t u D σ H := k
theorem i_asg {i : Nat} (k : te σ H fun x H1 => D.nx (σ.set i (some x)) H1) : tAsg te (gName i) D σ H := k
theorem i_asgG {g : TG} (k : te σ H fun x H1 => g x σ H1 D.nx) : tAsg te g D σ H := k
theorem i_gname {i : Nat} {q : L2.St → Hp → Prop} (k : q (σ.set i (some v)) H) : gName i v σ H q := k
theorem i_gsub {to ti : TE} {s : TSet} {q : L2.St → Hp → Prop} (k : to σ H fun o H1 => ti σ H1 fun i H2 => s o i v H2 fun H3 => q σ H3) : gSub to ti s v σ H q := k
theorem i_setL {p : Addr} {xs : List V} {i : Int} {j : Nat} {q : Hp → Prop} (h : H p = some (.lst xs)) (a : ixN xs.length i = some j) (k : q (upd H p (.lst (xs.set j v)))) : rSetL (.ref p) (.int i) v H q := ⟨p, xs, i, j, rfl, rfl, h, a, k⟩
theorem i_ret (k : te σ H D.rt) : tRet te D σ H := k
theorem i_drop (k : te σ H fun _ H1 => D.nx σ H1) : tDrop te D σ H := k
theorem i_ifS {c : TT} (k : c σ H fun b H1 => if b = true then t D σ H1 else u D σ H1) : tIfS c t u D σ H := k
theorem i_next (k : D.nx σ H) : tNext D σ H := k
theorem i_test {q : Bool → Hp → Prop} (k : te σ H fun x H1 => ∃ b, x = .bl b ∧ q b H1) : tTest te σ H q := k
theorem i_B {q : Bool → Hp → Prop} (k : te σ H fun x H1 => ∃ b, x = .bl b ∧ q b H1) : tB te σ H q := k
theorem i_bl {b : Bool} {p : Bool → Prop} (k : p b) : ∃ b', V.bl b = .bl b' ∧ p b' := ⟨b, rfl, k⟩
theorem i_not {c : TT} {q : Bool → Hp → Prop} (k : c σ H fun b H1 => q (!b) H1) : tNot c σ H q := k
theorem i_and {c d : TT} {q : Bool → Hp → Prop} (k : c σ H fun b H1 => if b = true then d σ H1 q else q false H1) : tAnd c d σ H q := k
theorem i_or {c d : TT} {q : Bool → Hp → Prop} (k : c σ H fun b H1 => if b = true then q true H1 else d σ H1 q) : tOr c d σ H q := k
theorem i_app {l : Addr} {xs : List V} {y : V} (h : H l = some (.lst xs)) (z : xs.length < sizeLine) (k : Q .non (upd H l (.lst (xs ++ [y])))) : rAppend (.ref l) [y] H Q := ⟨l, xs, y, rfl, rfl, h, z, k⟩
theorem i_bm {T : String} {q : V → List V → Hp → VK → Prop} {a : TA} (k : te σ H fun x H1 => tyV K T x H1 ∧ a σ H1 fun xs H2 => q x xs H2 Q) : tBM K T q te a σ H Q := k
theorem i_sl {r : V → Option Int → Option Int → Hp → VK → Prop} {tl th : TO} (k : te σ H fun x H1 => tl σ H1 fun l H2 => th σ H2 fun u H3 => r x l u H3 Q) : tSl r te tl th σ H Q := k
theorem i_nopart {q : Option Int → Hp → Prop} (k : q none H) : tNoPart σ H q := k
theorem i_part {q : Option Int → Hp → Prop} (k : te σ H fun x H1 => ∃ i, x = .int i ∧ q (some i) H1) : tPart te σ H q := k
theorem i_isint {i : Int} {p : Int → Prop} (k : p i) : ∃ i', V.int i = .int i' ∧ p i' := ⟨i, rfl, k⟩
theorem i_slL {p : Addr} {xs : List V} {lo hi : Option Int} (h : SqL K H p xs) (k : ∀ q, H q = none → Q (.ref q) (upd H q (.lst (cutV xs lo hi)))) : rSlL K (.ref p) lo hi H Q := ⟨p, xs, rfl, h, k⟩
theorem i_slS {z : Str} {lo hi : Option Int} (h : z.length ≤ sizeLine) (k : Q (.str (cutS z lo hi)) H) : rSlS (.str z) lo hi H Q := ⟨z, rfl, h, k⟩
theorem i_gtup {n : Nat} {t : TGs} {p : Addr} {xs : List V} {q : L2.St → Hp → Prop} (h : SqT K H p xs) (l : xs.length = n) (k : t xs σ H q) : gTup K n t (.ref p) σ H q := ⟨p, xs, rfl, h, l, k⟩
theorem i_gcons {t : TG} {u : TGs} {r : List V} {q : L2.St → Hp → Prop} (k : t v σ H fun σ' H' => u r σ' H' q) : gCons t u (v :: r) σ H q := ⟨v, r, rfl, k⟩
theorem i_gnil {q : L2.St → Hp → Prop} (k : q σ H) : gNil [] σ H q := ⟨rfl, k⟩
theorem i_ty {l : Addr} {xs : List V} {p : Prop} (h : H l = some (.lst xs)) (k : p) : tyV K "list" (.ref l) H ∧ p := ⟨.inl ⟨rfl, _, .inl (.inl h)⟩, k⟩
theorem i_popN {l : Addr} {xs : List V} {i : Int} (h : H l = some (.lst xs)) (h0 : 0 ≤ i) (h1 : i < xs.length) (h2 : xs.length < 1000000000) (k : ∀ y, xs[i.toNat]? = some y → Q y (upd H l (.lst (xs.eraseIdx i.toNat)))) : rPopAt (.ref l) [.int i] H Q := by
  obtain ⟨j, rfl⟩ := Int.eq_ofNat_of_zero_le h0
  have hj : j < xs.length := by omega
  refine ⟨l, xs, _, j, xs[j], rfl, rfl, h, by omega, by omega, ?_, by simp [hj], k _ (by simp [hj])⟩
  simp [seqIndex?]
  omega
theorem i_bm0 {T : String} {q : V → List V → Hp → VK → Prop} (k : te σ H fun x H1 => tyV K T x H1 ∧ q x [] H1 Q) : tBM0 K T q te σ H Q := k
theorem ty_l {l : Addr} {xs : List V} (h : H l = some (.lst xs)) : tyV K "list" (.ref l) H := .inl ⟨rfl, _, .inl (.inl h)⟩
theorem iteD {c A B : Prop} [Decidable c] (h1 : c → A) (h2 : ¬ c → B) : if decide c = true then A else B := by
  by_cases h : c
  · rw [if_pos (decide_eq_true h)]; exact h1 h
  · rw [if_neg (by simp [h])]; exact h2 h
theorem iteB {c : Bool} {A B : Prop} (h1 : c = true → A) (h2 : c = false → B) : if c = true then A else B := by
  cases c with
  | true => exact iteT (h1 rfl)
  | false => exact iteF (h2 rfl)
theorem i_ifJ {c : TT} (b : Bool) (h : ∀ q : Bool → Hp → Prop, q b H → c σ H q) (k : if b = true then t D σ H else u D σ H) : tIfS c t u D σ H := h _ k
theorem and_q {b1 b2 : Bool} {q : Bool → Hp → Prop} {X : Prop} (hq : q (b1 && b2) H) (hx : q b2 H → X) : if b1 = true then X else q false H := by
  cases b1 with
  | true => exact iteT (hx hq)
  | false => exact iteF hq
theorem or_q {b1 b2 : Bool} {q : Bool → Hp → Prop} {X : Prop} (hq : q (b1 || b2) H) (hx : q b2 H → X) : if b1 = true then q true H else X := by
  cases b1 with
  | true => exact iteT hq
  | false => exact iteF (hx hq)
theorem iteNT {A B : Prop} (h : B) : if (!true) = true then A else B := iteF h
theorem iteNF {A B : Prop} (h : A) : if (!false) = true then A else B := iteT h
theorem notF {c : Prop} [Decidable c] (h : ¬ c) : (!decide c) = true := by simp [h]
theorem notT {c : Prop} [Decidable c] (h : c) : (!decide c) = false := by simp [h]
theorem iteN {c A B : Prop} [Decidable c] (h1 : ¬ c → A) (h2 : c → B) : if (!decide c) = true then A else B := by
  by_cases h : c
  · rw [if_neg (by simp [h])]; exact h2 h
  · rw [if_pos (by simp [h])]; exact h1 h
theorem iteT' {c : Bool} {A B : Prop} (h : c = true) (k : A) : if c = true then A else B := by rw [if_pos h]; exact k
theorem iteF' {c : Bool} {A B : Prop} (h : c = false) (k : B) : if c = true then A else B := by rw [h]; exact iteF k
theorem upd_old {p a : Addr} {o u' : HO} (n : H p = none) (h : H a = some o) : upd H p u' a = some o := by rw [upd_ne (ne_of_none h n)]; exact h
theorem upd_oth {p a : Addr} {o u' : HO} (n : a ≠ p) (h : H a = some o) : upd H p u' a = some o := by rw [upd_ne n]; exact h
theorem ex_at {F : Hp} {a : Addr} {o : HO} (e : Ex F H) (h : F a = some o) : H a = some o := e _ _ h
theorem ex_by {F : Hp} {a : Addr} {o : HO} (h : F a = some o) (e : Ex F H) : H a = some o := e _ _ h
theorem ex_mut {F : Hp} {p : Addr} {o : HO} (n : F p = none) (e : Ex F H) : Ex F (upd H p o) := e.mut n
theorem ex_new {F : Hp} {p : Addr} {o : HO} (n : H p = none) (e : Ex F H) : Ex F (upd H p o) := e.trans (Ex.new n)
theorem ex_both {F : Hp} {p : Addr} {o : HO} (e : Ex F H) : Ex (upd F p o) (upd H p o) := fun a u h => by
  by_cases q : a = p
  · subst q; rw [upd_same] at h ⊢; exact h
  · rw [upd_ne q] at h ⊢; exact e a u h
theorem ex_none {F : Hp} {a : Addr} (e : Ex F H) (h : H a = none) : F a = none := _root_.Evl.fresh_back e h
end
end Dh
namespace Dh
open PySem PySem.Spec L2
open _root_.Evl (Ex)
/-! ### loops and comprehensions, over whatever is walked -/
section
variable {σ : L2.St} {H : Hp} {Q : VK} {K : PySem.W.Frag} {D : Ends} {g : TG} {tb : TS} {te tl : TE} {ta : TA} {tt : TT}
def ForG (n : Nat) (G : Hp → Prop) (Y : Nat → Hp → V → Hp → Prop) (g : TG) (tb : TS) (D : Ends) (σ : L2.St) (H : Hp) : Prop :=
  ∃ Pv : Nat → L2.St → Hp → Prop, Pv 0 σ H ∧ (∀ i σ H, i ≤ n → Pv i σ H → G H) ∧
    (∀ i x σ H H', i < n → Pv i σ H → Y i H x H' → g x σ H' fun σ2 H2 => tb { D with nx := Pv (i + 1), ct := Pv (i + 1), bk := D.nx } σ2 H2) ∧ ∀ σ H, Pv n σ H → D.nx σ H
def LcG (n : Nat) (G : Hp → Prop) (Y : Nat → Hp → V → Hp → Prop) (g : TG) (tt : TT) (te : TE) (vs : List Nat) (σ : L2.St) (H1 : Hp) (Q : VK) : Prop :=
  ∀ Dl, H1 Dl = none → ∃ Pv : Nat → Hp → Prop, Pv 0 (upd H1 Dl (.lst [])) ∧ (∀ i H, i ≤ n → Pv i H → G H) ∧
    (∀ i x H H', i < n → Pv i H → Y i H x H' → g x (wipe σ vs) H' fun σ2 H2 => wipe σ2 vs = wipe σ vs ∧ tt σ2 H2 fun b H3 =>
      if b = true then te σ2 H3 fun y H4 => ∃ acc, H4 Dl = some (.lst acc) ∧ acc.length < sizeLine ∧ Pv (i + 1) (upd H4 Dl (.lst (acc ++ [y]))) else Pv (i + 1) H3) ∧ ∀ H, Pv n H → Q (.ref Dl) H
/-- the raw turn of a for over J from (σ, H1), of a comprehension -/
def RawF (J : It) (g : TG) (tb : TS) (D : Ends) (σ : L2.St) (H1 : Hp) : Prop := ∃ W : Nat → Nat → L2.St → Hp → Prop, (∃ m, W 0 m σ H1) ∧ ∀ i m σ H, W i m σ H →
  (J.stop i H ∧ D.nx σ H) ∨ (J.go i H ∧ ∃ N : L2.St → Hp → Prop, (∀ σ' H', N σ' H' → ∃ m', m' < m ∧ W (i + 1) m' σ' H') ∧ ∀ x H', J.yld i H x H' → g x σ H' fun σ2 H2 => tb { D with nx := N, ct := N, bk := D.nx } σ2 H2)
def RawC (J : It) (g : TG) (tt : TT) (te : TE) (vs : List Nat) (σ : L2.St) (H1 : Hp) (Q : VK) : Prop := ∀ D, H1 D = none → ∃ W : Nat → Nat → Hp → Prop, (∃ m, W 0 m (upd H1 D (.lst []))) ∧ ∀ i m H, W i m H →
  (J.stop i H ∧ Q (.ref D) H) ∨ (J.go i H ∧ ∃ Nx : Hp → Prop, (∀ H', Nx H' → ∃ m', m' < m ∧ W (i + 1) m' H') ∧ ∀ x H', J.yld i H x H' → g x (wipe σ vs) H' fun σ2 H2 => wipe σ2 vs = wipe σ vs ∧ tt σ2 H2 fun b H3 =>
    if b = true then te σ2 H3 fun y H4 => ∃ acc, H4 D = some (.lst acc) ∧ acc.length < sizeLine ∧ Nx (upd H4 D (.lst (acc ++ [y]))) else Nx H3)
def AtL (K : PySem.W.Frag) (R : It → Hp → Prop) (x : V) (H1 : Hp) : Prop := ∃ a, x = .ref a ∧ (∃ xs, SqL K H1 a xs) ∧ R (Itl K a) H1
def AtT (K : PySem.W.Frag) (R : It → Hp → Prop) (x : V) (H1 : Hp) : Prop := ∃ a, x = .ref a ∧ (∃ xs, SqT K H1 a xs) ∧ R (Itt K a) H1
def AtR1 (R : It → Hp → Prop) (vs : List V) (H1 : Hp) : Prop := ∃ j : Int, vs = [.int j] ∧ -(2 ^ 62) ≤ j ∧ j < 2 ^ 62 ∧ R (Itr 0 j.toNat) H1
def AtR2 (R : It → Hp → Prop) (vs : List V) (H1 : Hp) : Prop := ∃ i j : Int, vs = [.int i, .int j] ∧ (-(2 ^ 62) ≤ i ∧ i < 2 ^ 62 ∧ -(2 ^ 62) ≤ j ∧ j < 2 ^ 62) ∧ R (Itr i (j - i).toNat) H1
def AtE (K : PySem.W.Frag) (R : It → Hp → Prop) (vs : List V) (H1 : Hp) : Prop := ∃ a xs, vs = [.ref a] ∧ SqL K H1 a xs ∧ R (Ite K a) H1
def AtV (K : PySem.W.Frag) (R : It → Hp → Prop) (vs : List V) (H1 : Hp) : Prop := ∃ (a : Addr) (xs : List V), vs = [.ref a] ∧ SqL K H1 a xs ∧ R (Itv K a xs.length) H1
def AtS (R : It → Hp → Prop) (v : V) (H1 : Hp) : Prop := ∃ x, v = .str x ∧ R (Its x) H1
def AtK (R : It → Hp → Prop) (x : V) (H1 : Hp) : Prop := ∃ d o, x = .ref d ∧ ((∃ kvs, H1 d = some (.frz o (.dK kvs)) ∧ R (Itk d o kvs) H1) ∨ ∃ kvs, H1 d = some (.frz o (.dT kvs)) ∧ R (Itkt d o kvs) H1)
theorem i_forL (k : tl σ H (AtL K (RawF · g tb D σ ·))) : tFor (iList K tl) g tb D σ H := k
theorem i_forT (k : tl σ H (AtT K (RawF · g tb D σ ·))) : tFor (iTup K tl) g tb D σ H := k
theorem i_forR (k : ta σ H (AtR1 (RawF · g tb D σ ·))) : tFor (iRng1 ta) g tb D σ H := k
theorem i_forR2 (k : ta σ H (AtR2 (RawF · g tb D σ ·))) : tFor (iRng2 ta) g tb D σ H := k
theorem i_forE (k : ta σ H (AtE K (RawF · g tb D σ ·))) : tFor (iEnum K ta) g tb D σ H := k
theorem i_forV (k : ta σ H (AtV K (RawF · g tb D σ ·))) : tFor (iRev K ta) g tb D σ H := k
theorem i_forS (k : tl σ H (AtS (RawF · g tb D σ ·))) : tFor (iStr tl) g tb D σ H := k
theorem i_forK (k : tl σ H (AtK (RawF · g tb D σ ·))) : tFor (iKeys tl) g tb D σ H := k
theorem i_lcL {vs : List Nat} (k : tl σ H (AtL K (RawC · g tt te vs σ · Q))) : tLc (iList K tl) g tt te vs σ H Q := k
theorem i_lcT {vs : List Nat} (k : tl σ H (AtT K (RawC · g tt te vs σ · Q))) : tLc (iTup K tl) g tt te vs σ H Q := k
theorem i_lcR {vs : List Nat} (k : ta σ H (AtR1 (RawC · g tt te vs σ · Q))) : tLc (iRng1 ta) g tt te vs σ H Q := k
theorem i_lcR2 {vs : List Nat} (k : ta σ H (AtR2 (RawC · g tt te vs σ · Q))) : tLc (iRng2 ta) g tt te vs σ H Q := k
theorem i_lcS {vs : List Nat} (k : tl σ H (AtS (RawC · g tt te vs σ · Q))) : tLc (iStr tl) g tt te vs σ H Q := k
theorem i_lcK {vs : List Nat} (k : tl σ H (AtK (RawC · g tt te vs σ · Q))) : tLc (iKeys tl) g tt te vs σ H Q := k
theorem at_L {p : Addr} {xs : List V} {R : It → Hp → Prop} (h : SqL K H p xs) (k : R (Itl K p) H) : AtL K R (.ref p) H := ⟨p, rfl, ⟨xs, h⟩, k⟩
theorem raw_f {J : It} {n : Nat} {G : Hp → Prop} {Y : Nat → Hp → V → Hp → Prop} (w : Walk J n G Y) (k : ForG n G Y g tb D σ H) : RawF J g tb D σ H := by
  obtain ⟨Pv, p0, hG, ht, hd⟩ := k
  exact for_it w Pv p0 hG ht hd
theorem raw_c {J : It} {n : Nat} {G : Hp → Prop} {Y : Nat → Hp → V → Hp → Prop} {vs : List Nat} (w : Walk J n G Y) (k : LcG n G Y g tt te vs σ H Q) : RawC J g tt te vs σ H Q := fun Dl hD => by
  obtain ⟨Pv, p0, hG, ht, hd⟩ := k Dl hD
  exact lc_it w Pv p0 hG ht hd
theorem fl_L {p : Addr} {xs : List V} (h : SqL K H p xs) (k : ForG xs.length (fun H => SqL K H p xs) (YAt xs) g tb D σ H) : AtL K (RawF · g tb D σ ·) (.ref p) H := ⟨p, rfl, ⟨xs, h⟩, raw_f walk_list k⟩
theorem fl_T {p : Addr} {xs : List V} (h : SqT K H p xs) (k : ForG xs.length (fun H => SqT K H p xs) (YAt xs) g tb D σ H) : AtT K (RawF · g tb D σ ·) (.ref p) H := ⟨p, rfl, ⟨xs, h⟩, raw_f walk_tup k⟩
theorem fl_R {j : Int} (h0 : -(2 ^ 62) ≤ j) (h1 : j < 2 ^ 62) (k : ForG j.toNat (fun _ => True) (YFn fun i => .int (0 + i)) g tb D σ H) : AtR1 (RawF · g tb D σ ·) [.int j] H := ⟨j, rfl, h0, h1, raw_f walk_range k⟩
theorem fl_R2 {i j : Int} (h : -(2 ^ 62) ≤ i ∧ i < 2 ^ 62 ∧ -(2 ^ 62) ≤ j ∧ j < 2 ^ 62) (k : ForG (j - i).toNat (fun _ => True) (YFn fun x => .int (i + x)) g tb D σ H) : AtR2 (RawF · g tb D σ ·) [.int i, .int j] H := ⟨i, j, rfl, h, raw_f walk_range k⟩
theorem fl_E {p : Addr} {xs : List V} (h : SqL K H p xs) (k : ForG xs.length (fun H => SqL K H p xs) (YPair (fun i => some (.int (i : Nat))) (fun i => xs[i]?)) g tb D σ H) : AtE K (RawF · g tb D σ ·) [.ref p] H := ⟨p, xs, rfl, h, raw_f walk_enum k⟩
theorem fl_V {p : Addr} {xs : List V} (h : SqL K H p xs) (k : ForG xs.length (fun H => SqL K H p xs) (fun i H x H' => H' = H ∧ xs[xs.length - 1 - i]? = some x) g tb D σ H) : AtV K (RawF · g tb D σ ·) [.ref p] H := ⟨p, xs, rfl, h, raw_f walk_rev k⟩
theorem fl_S {z : Str} (k : ForG z.cps.size (fun _ => True) (fun i H v H' => H' = H ∧ ∃ c, z.cps[i]? = some c ∧ v = .str ⟨#[c]⟩) g tb D σ H) : AtS (RawF · g tb D σ ·) (.str z) H := ⟨z, rfl, raw_f walk_str k⟩
theorem fc_L {p : Addr} {xs : List V} {vs : List Nat} (h : SqL K H p xs) (k : LcG xs.length (fun H => SqL K H p xs) (YAt xs) g tt te vs σ H Q) : AtL K (RawC · g tt te vs σ · Q) (.ref p) H := ⟨p, rfl, ⟨xs, h⟩, raw_c walk_list k⟩
theorem fc_T {p : Addr} {xs : List V} {vs : List Nat} (h : SqT K H p xs) (k : LcG xs.length (fun H => SqT K H p xs) (YAt xs) g tt te vs σ H Q) : AtT K (RawC · g tt te vs σ · Q) (.ref p) H := ⟨p, rfl, ⟨xs, h⟩, raw_c walk_tup k⟩
theorem fc_R {j : Int} {vs : List Nat} (h0 : -(2 ^ 62) ≤ j) (h1 : j < 2 ^ 62) (k : LcG j.toNat (fun _ => True) (YFn fun i => .int (0 + i)) g tt te vs σ H Q) : AtR1 (RawC · g tt te vs σ · Q) [.int j] H := ⟨j, rfl, h0, h1, raw_c walk_range k⟩
theorem fc_R2 {i j : Int} {vs : List Nat} (h : -(2 ^ 62) ≤ i ∧ i < 2 ^ 62 ∧ -(2 ^ 62) ≤ j ∧ j < 2 ^ 62) (k : LcG (j - i).toNat (fun _ => True) (YFn fun x => .int (i + x)) g tt te vs σ H Q) : AtR2 (RawC · g tt te vs σ · Q) [.int i, .int j] H := ⟨i, j, rfl, h, raw_c walk_range k⟩
theorem fc_S {z : Str} {vs : List Nat} (k : LcG z.cps.size (fun _ => True) (fun i H v H' => H' = H ∧ ∃ c, z.cps[i]? = some c ∧ v = .str ⟨#[c]⟩) g tt te vs σ H Q) : AtS (RawC · g tt te vs σ · Q) (.str z) H := ⟨z, rfl, raw_c walk_str k⟩
theorem fc_K {d : Addr} {o : Obj} {kvs : List (Key × V)} {vs : List Nat} (h : H d = some (.frz o (.dK kvs))) (k : LcG kvs.length (fun H => H d = some (.frz o (.dK kvs))) (fun i H x H' => H' = H ∧ ∃ k v, kvs[i]? = some (k, v) ∧ x = kV k) g tt te vs σ H Q) : AtK (RawC · g tt te vs σ · Q) (.ref d) H := ⟨d, o, rfl, .inl ⟨kvs, h, raw_c walk_keys k⟩⟩
theorem map_range_getD (ns : List Int) : (List.range (ns.map V.int).length).map (fun i => V.int (ns.getD i 0)) = ns.map V.int := by
  apply List.ext_getElem?
  intro i
  simp only [List.getElem?_map, List.length_map]
  by_cases h : i < ns.length
  · simp [h]
  · simp [h]
theorem wipe1 (σ : L2.St) (j : Nat) : wipe σ [j] = σ.set j none := rfl
theorem wipe_set (σ : L2.St) (j : Nat) (v : Option V) : wipe ((wipe σ [j]).set j v) [j] = wipe σ [j] := by
  rw [wipe1, wipe1, List.set_set, List.set_set]
/-- a comprehension whose elements change nothing: its list is f 0, f 1, .. -/
theorem lc_pure {n j : Nat} {G : Hp → Prop} {Y : Nat → Hp → V → Hp → Prop} (f : Nat → V) (hn : n < sizeLine) (x : Nat → V) (hG : ∀ H', Ex H H' → G H') (hY : ∀ i H0 v H', i < n → Y i H0 v H' → H' = H0 ∧ v = x i)
    (he : ∀ i H' (Q' : VK), i < n → Ex H H' → Q' (f i) H' → te ((σ.set j none).set j (some (x i))) H' Q')
    (k : ∀ p, H p = none → Q (.ref p) (upd H p (.lst ((List.range n).map f)))) : LcG n G Y (gName j) tYes te [j] σ H Q := by
  intro Dl hD
  refine ⟨fun i H' => H' = upd H Dl (.lst ((List.range i).map f)), rfl, fun i H' _ e => ?_, fun i v H0 H' hi e y => ?_, fun H' e => ?_⟩
  · subst e; exact hG _ (Ex.new hD)
  · subst e
    obtain ⟨rfl, rfl⟩ := hY _ _ _ _ hi y
    refine ⟨wipe_set _ _ _, ?_⟩
    dsimp only [tYes]
    refine iteT (he i _ _ hi (Ex.new hD) ⟨_, upd_same, ?_, ?_⟩)
    · simp; omega
    · rw [upd_upd, List.range_succ, List.map_append]; rfl
  · subst e; exact k Dl hD
/-- a comprehension whose elements may change the heap: Pv by the turn, the list so far, the heap -/
def LcK (Dl : Addr) (Pv : Nat → List V → Hp → Prop) (i : Nat) (y : V) (H4 : Hp) : Prop := ∃ acc, H4 Dl = some (.lst acc) ∧ acc.length < sizeLine ∧ ∃ acc', upd H4 Dl (.lst (acc ++ [y])) Dl = some (.lst acc') ∧ Pv (i + 1) acc' (upd H4 Dl (.lst (acc ++ [y])))
theorem lcK {Dl : Addr} {Pv : Nat → List V → Hp → Prop} {i : Nat} {y : V} {acc : List V} (h : H Dl = some (.lst acc)) (l : acc.length < sizeLine) (p : Pv (i + 1) (acc ++ [y]) (upd H Dl (.lst (acc ++ [y])))) : LcK Dl Pv i y H := ⟨acc, h, l, _, upd_same, p⟩
theorem lc_eff {n j : Nat} {G : Hp → Prop} {Y : Nat → Hp → V → Hp → Prop} (k : ∀ Dl, H Dl = none → ∃ Pv : Nat → List V → Hp → Prop, Pv 0 [] (upd H Dl (.lst [])) ∧ (∀ i acc H', i ≤ n → Pv i acc H' → G H') ∧
    (∀ i x acc H1 H2, i < n → Pv i acc H1 → H1 Dl = some (.lst acc) → Y i H1 x H2 → te ((σ.set j none).set j (some x)) H2 (LcK Dl Pv i)) ∧
    ∀ acc H', Pv n acc H' → H' Dl = some (.lst acc) → Q (.ref Dl) H') : LcG n G Y (gName j) tYes te [j] σ H Q := by
  intro Dl hD
  obtain ⟨Pv, p0, hG, ht, hd⟩ := k Dl hD
  refine ⟨fun i H' => ∃ acc, H' Dl = some (.lst acc) ∧ Pv i acc H', ⟨[], upd_same, p0⟩, fun i H' hi ⟨acc, _, p⟩ => hG i acc H' hi p, fun i x H1 H2 hi ⟨acc, ha, p⟩ y => ⟨wipe_set _ _ _, ?_⟩, fun H' ⟨acc, ha, p⟩ => hd acc H' p ha⟩
  dsimp only [tYes]
  exact iteT (ht i x acc H1 H2 hi p ha y)
/-- .. with a test -/
theorem lc_pureIf {n j : Nat} {G : Hp → Prop} {Y : Nat → Hp → V → Hp → Prop} (f : Nat → V) (c : Nat → Bool) (hn : n < sizeLine) (x : Nat → V) (hG : ∀ H', Ex H H' → G H') (hY : ∀ i H0 v H', i < n → Y i H0 v H' → H' = H0 ∧ v = x i)
    (hc : ∀ i H' (Q' : Bool → Hp → Prop), i < n → Ex H H' → Q' (c i) H' → tt ((σ.set j none).set j (some (x i))) H' Q')
    (he : ∀ i H' (Q' : VK), i < n → c i = true → Ex H H' → Q' (f i) H' → te ((σ.set j none).set j (some (x i))) H' Q')
    (k : ∀ p, H p = none → Q (.ref p) (upd H p (.lst (((List.range n).filter c).map f)))) : LcG n G Y (gName j) tt te [j] σ H Q := by
  intro Dl hD
  have hl : ∀ i, ((List.range i).filter c).length ≤ i := fun i => by
    have := List.length_filter_le c (List.range i); simpa using this
  refine ⟨fun i H' => H' = upd H Dl (.lst (((List.range i).filter c).map f)), rfl, fun i H' _ e => ?_, fun i v H0 H' hi e y => ?_, fun H' e => ?_⟩
  · subst e; exact hG _ (Ex.new hD)
  · subst e
    obtain ⟨rfl, rfl⟩ := hY _ _ _ _ hi y
    refine ⟨wipe_set _ _ _, hc i _ _ hi (Ex.new hD) ?_⟩
    cases e : c i with
    | true =>
      refine iteT (he i _ _ hi e (Ex.new hD) ⟨_, upd_same, ?_, ?_⟩)
      · have := hl i; simp; omega
      · rw [upd_upd]; show _ = _
        rw [List.range_succ, List.filter_append, List.map_append]; simp [e]
    | false =>
      refine iteF ?_
      show _ = _
      rw [List.range_succ, List.filter_append]; simp [e]
  · subst e; exact k Dl hD
end
end Dh
namespace Dh
open PySem PySem.Spec L2
open _root_.Evl (Ex)
/-! ### texts; isinstance; all -/
def rInC : R2 := fun x y H Q => ∃ (c : Nat) (z : Str), x = .str ⟨#[c]⟩ ∧ y = .str z ∧ Q (.bl (decide (c ∈ z.cps.toList))) H
def rAddT : R2 := fun x y H Q => ∃ i j : Str, x = .str i ∧ y = .str j ∧ i.length + j.length ≤ sizeLine ∧ Q (.str (i ++ j)) H
def rJoin (K : PySem.W.Frag) : V → List V → Hp → VK → Prop := fun x xs H Q => ∃ a p, ∃ ys : List Str, x = .str a ∧ xs = [.ref p] ∧ (SqL K H p (ys.map V.str) ∨ SqT K H p (ys.map V.str)) ∧ (ys.map (·.length)).sum + ys.length * a.length ≤ 16777216 ∧ Q (.str (Txt.join a ys)) H
section
variable {X : Cx}
theorem op_inC : OpR X (compareOp .In) rInC := op_in_sign
theorem op_addT : OpR X (binaryOp .Add) rAddT := op_add_str
def tTru (K : PySem.W.Frag) (te : TE) : TT := fun σ H Q => te σ H fun x H' => ∃ k, TruV K x H' k ∧ Q k H'
theorem pt_tru {a : Expr} {ta : TE} (ha : PE X a ta) (he : ∀ whole, isTrue a X.env whole = (do let v ← whole; standAt a.pos; holding [v] (truthy v)) := by intro _; rfl) : PT X a (tTru X.K ta) := pt_truth ha he
theorem pe_joinL {o e : Expr} {to te : TE} {apos pos : Pos} (ho : PE X o to) (he : PE X e te) (hs : starEach [e] X.env = [(false, eval e X.env)] := by rfl) (hbase : attributeBase o "join" X.env (eval o X.env) = eval o X.env := by rfl) (hline : (apos.endLine == pos.line) = true := by rfl) :
    PE X (.Call (.Attribute o "join" apos) [e] [] pos) (tM1 (rJoin X.K) to te) := pe_join ho he hs hbase hline
end
section
variable {σ : L2.St} {H : Hp} {Q : VK} {v : V} {ta tb te : TE} {K : PySem.W.Frag}
theorem i_inC {c : Nat} {z : Str} (k : Q (.bl (decide (c ∈ z.cps.toList))) H) : rInC (.str ⟨#[c]⟩) (.str z) H Q := ⟨c, z, rfl, rfl, k⟩
theorem i_addT {i j : Str} (l : i.length + j.length ≤ sizeLine) (k : Q (.str (i ++ j)) H) : rAddT (.str i) (.str j) H Q := ⟨i, j, rfl, rfl, l, k⟩
theorem i_m1 {r : V → List V → Hp → VK → Prop} {to : TE} (k : to σ H fun x H1 => (∃ a, x = .str a) ∧ te σ H1 fun y H2 => r x [y] H2 Q) : tM1 r to te σ H Q := k
theorem i_isstr {a : Str} {p : Prop} (k : p) : (∃ a', V.str a = .str a') ∧ p := ⟨⟨a, rfl⟩, k⟩
theorem i_joinL {a : Str} {p : Addr} {ys : List Str} (h : SqL K H p (ys.map V.str)) (z : (ys.map (·.length)).sum + ys.length * a.length ≤ 16777216) (k : Q (.str (Txt.join a ys)) H) : rJoin K (.str a) [.ref p] H Q := ⟨a, p, ys, rfl, rfl, .inl h, z, k⟩
theorem i_all {p : Addr} {bs : List Bool} (h : SqL K H p (bs.map V.bl)) (k : Q (.bl (bs.all id)) H) : rAll K [.ref p] H Q := ⟨p, bs, rfl, h, k⟩
theorem is_int_int {i : Int} (k : Q (.bl true) H) : rIsi K [.int i, .ty "int"] H Q := ⟨_, _, _, _, true, rfl, .ty _, .base (.int i), kit_ty (by decide +kernel), k⟩
theorem is_int_bool {i : Int} (k : Q (.bl false) H) : rIsi K [.int i, .ty "bool"] H Q := ⟨_, _, _, _, false, rfl, .ty _, .base (.int i), kit_ty (by decide +kernel), k⟩
theorem is_str_str {i : Str} (k : Q (.bl true) H) : rIsi K [.str i, .ty "str"] H Q := ⟨_, _, _, _, true, rfl, .ty _, .base (.str i), kit_ty (by decide +kernel), k⟩
theorem is_tup_tup {a : Addr} {xs : List V} (h : H a = some (.tup xs)) (k : Q (.bl true) H) : rIsi K [.ref a, .ty "tuple"] H Q := ⟨_, _, _, _, true, rfl, .ty _, .base (.tup h), kit_ty (by decide +kernel), k⟩
theorem i_ixS {z : Str} {i : Int} {c : Nat} (l : z.length ≤ sizeLine) (h : atI z.cps.toList i = some c) (k : Q (.str ⟨#[c]⟩) H) : rIxS (.str z) (.int i) H Q := ⟨z, i, c, rfl, rfl, l, h, k⟩
theorem i_ifExp {t : TT} (k : t σ H fun c H1 => if c = true then ta σ H1 Q else tb σ H1 Q) : tIf t ta tb σ H Q := k
theorem i_andV (k : ta σ H fun x H1 => ∃ c, x = .bl c ∧ if c = true then tb σ H1 Q else Q (.bl false) H1) : tAndV ta tb σ H Q := k
theorem i_orV (k : ta σ H fun x H1 => ∃ c, x = .bl c ∧ if c = true then Q (.bl true) H1 else tb σ H1 Q) : tOrV ta tb σ H Q := k
theorem i_notV (k : ta σ H fun x H1 => ∃ c, x = .bl c ∧ Q (.bl (!c)) H1) : tNotV ta σ H Q := k
theorem i_chain {r r' : R2} {tc : TE} (k : ta σ H fun x H1 => tb σ H1 fun y H2 => r x y H2 fun z H3 => ∃ k, z = .bl k ∧ if k = true then tc σ H3 fun w' H4 => r' y w' H4 Q else Q (.bl false) H3) : tChain r r' ta tb tc σ H Q := k
theorem i_inL {neg : Bool} {x : V} {p : Addr} {xs : List V} (h : SqL K H p xs) (f : flatV x = true) (fs : xs.all flatV = true) (k : Q (.bl (if neg then !inV x xs else inV x xs)) H) : rIn K neg x (.ref p) H Q := ⟨p, xs, rfl, .inl h, f, fs, k⟩
theorem i_truT {q : Bool → Hp → Prop} (k : te σ H fun x H' => ∃ b, TruV K x H' b ∧ q b H') : tTru K te σ H q := k
theorem i_tru {q : Bool → Hp → Prop} {p : Addr} {xs : List V} (h : SqL K H p xs) (k : q (!xs.isEmpty) H) : ∃ b, TruV K (.ref p) H b ∧ q b H := ⟨_, .inl ⟨xs, h, rfl⟩, k⟩
theorem i_truL {p : Addr} {xs : List V} {r : Bool → Prop} (h : SqL K H p xs) (k : r (!xs.isEmpty)) : ∃ b, TruV K (.ref p) H b ∧ r b := ⟨_, .inl ⟨xs, h, rfl⟩, k⟩
theorem i_catL {a b : Addr} {xs ys : List V} (h : H a = some (.lst xs)) (h' : H b = some (.lst ys)) (l : xs.length + ys.length ≤ sizeLine) (k : ∀ p, H p = none → Q (.ref p) (upd H p (.lst (xs ++ ys)))) : rCat (.ref a) (.ref b) H Q := ⟨a, b, xs, ys, rfl, rfl, h, h', l, k⟩
theorem i_revL {p : Addr} {xs : List V} (k : te σ H fun x H1 => ∃ a xs, x = .ref a ∧ SqL K H1 a xs ∧ ∀ p, H1 p = none → Q (.ref p) (upd H1 p (.lst xs.reverse))) : tRevL K te σ H Q := k
theorem i_atLx {p : Addr} {xs : List V} {k : Addr → List V → Prop} (h : SqL K H p xs) (q : k p xs) : ∃ a xs, V.ref p = .ref a ∧ SqL K H a xs ∧ k a xs := ⟨p, xs, rfl, h, q⟩
end
end Dh
namespace Dh
open PySem PySem.Spec L2
open _root_.Evl (Ex)
/-- all but b is kept -/
def Kp (b : Addr) (H H' : Hp) : Prop := ∀ a o, a ≠ b → H a = some o → H' a = some o
theorem Kp.refl {b : Addr} {H : Hp} : Kp b H H := fun _ _ _ h => h
theorem Kp.trans {b : Addr} {H H1 H2 : Hp} (h : Kp b H H1) (k : Kp b H1 H2) : Kp b H H2 := fun a o n e => k a o n (h a o n e)
theorem Kp.of {b : Addr} {H H' : Hp} (e : Ex H H') : Kp b H H' := fun a o _ h => e a o h
theorem Kp.upd {b : Addr} {H : Hp} {o : HO} : Kp b H (upd H b o) := fun a u n e => by rw [upd_ne n]; exact e
theorem Kp.mut {b p : Addr} {H H' : Hp} {o : HO} (k : Kp b H H') (n : H p = none) : Kp b H (L2.upd H' p o) := fun a u ne e => by
  rw [upd_ne (ne_of_none e n)]; exact k a u ne e
theorem Kp.free {b p : Addr} {H H' : Hp} {o : HO} (k : Kp b H H') (hb : H' b = some o) (n : H' p = none) : H p = none := by
  cases q : H p with
  | none => rfl
  | some u =>
    by_cases e : p = b
    · subst e; rw [hb] at n; cases n
    · rw [k p u e q] at n; cases n
theorem Kp.also {b p : Addr} {H H' : Hp} {o : HO} (k : Kp b H H') (n : H p = none) (hp : H' p = some o) (ne : p ≠ b) : Kp b (L2.upd H p o) H' := fun a u na e => by
  by_cases q : a = p
  · subst q; rw [upd_same] at e; cases e; exact hp
  · rw [upd_ne q] at e; exact k a u na e
end Dh
/-! DhStr -/
set_option Elab.async false
set_option linter.all false
set_option maxRecDepth 100000
set_option maxHeartbeats 4000000
namespace Dh
open PySem PySem.Spec L2
/-! ### texts as lists of signs -/
abbrev Str.L (z : Str) : List Nat := z.cps.toList
theorem len_L (z : Str) : z.length = z.cps.toList.length := by show z.cps.size = _; simp
theorem app_L (a b : Str) : (a ++ b).cps.toList = a.cps.toList ++ b.cps.toList := by
  show (a.cps ++ b.cps).toList = _
  simp
theorem ext_L {a b : Str} (h : a.cps.toList = b.cps.toList) : a = b := by
  cases a; cases b
  simp at h
  subst h; rfl
theorem cut_to {z : Str} {k : Int} (h : 0 ≤ k) : (cutS z none (some k)).cps.toList = z.cps.toList.take k.toNat := by
  obtain ⟨n, rfl⟩ := Int.eq_ofNat_of_zero_le h
  show (((z.cps.toList.drop (HT.sIx z.length 0 none)).take (HT.sIx z.length z.length (some (n : Int)) - HT.sIx z.length 0 none)).toArray).toList = _
  rw [HT.sIx_none, HT.sIx_nat]
  simp [len_L, List.take_eq_take_iff]
theorem cut_from {z : Str} {k : Int} (h : 0 ≤ k) : (cutS z (some k) none).cps.toList = z.cps.toList.drop k.toNat := by
  obtain ⟨n, rfl⟩ := Int.eq_ofNat_of_zero_le h
  show (((z.cps.toList.drop (HT.sIx z.length 0 (some (n : Int)))).take (HT.sIx z.length z.length none - HT.sIx z.length 0 (some (n : Int)))).toArray).toList = _
  rw [HT.sIx_none, HT.sIx_nat]
  simp [len_L]
  by_cases q : n ≤ z.cps.size
  · rw [Nat.min_eq_left q, List.take_of_length_le (by simp)]
  · rw [Nat.min_eq_right (by omega)]
    rw [List.drop_eq_nil_of_le (by simp), List.drop_eq_nil_of_le (by simp; omega)]; simp
theorem join_L (ys : List Str) : (Txt.join "" ys).cps.toList = (ys.map fun y => y.cps.toList).flatten := by
  show (Builtin.Str.glued (PySem.Str.ofString "") ys).cps.toList = _
  rw [StrLaws.glued_eq_join]
  induction ys with
  | nil => rfl
  | cons a r ih =>
    cases r with
    | nil => simp [PySem.Str.join]
    | cons b r =>
      show (a ++ PySem.Str.ofString "" ++ PySem.Str.join (PySem.Str.ofString "") (b :: r)).cps.toList = _
      rw [app_L, app_L, ih]
      have : (PySem.Str.ofString "").cps.toList = [] := by decide +kernel
      rw [this]; simp
theorem not_in {α : Type} [DecidableEq α] : ∀ {l m : List α}, l.Nodup → m.length < l.length → ∃ x ∈ l, x ∉ m
  | [], m, _, h => by simp at h
  | a :: l, m, nd, h => by
    by_cases q : a ∈ m
    · have nd' := List.nodup_cons.mp nd
      obtain ⟨x, hx, hm⟩ := not_in (l := l) (m := m.erase a) nd'.2 (by
        have := List.length_erase_of_mem q
        have : 0 < m.length := List.length_pos_of_mem q
        simp at h; omega)
      refine ⟨x, List.mem_cons_of_mem _ hx, fun z => hm ?_⟩
      have ne : x ≠ a := fun e => nd'.1 (e ▸ hx)
      exact (List.mem_erase_of_ne ne).mpr z
    · exact ⟨a, List.mem_cons_self, q⟩
theorem inV_str {x : Str} {us : List Str} : inV (.str x) (us.map V.str) = decide (x ∈ us) := by
  unfold inV
  induction us with
  | nil => simp
  | cons a r ih =>
    rw [List.map_cons, List.any_cons, ih]
    show ((a == x) || _) = _
    by_cases q : a = x
    · subst q; simp
    · have : x ≠ a := fun e => q e.symm
      simp [q, this]
theorem inV_int {x : Int} {us : List Int} : inV (.int x) (us.map V.int) = decide (x ∈ us) := by
  unfold inV
  induction us with
  | nil => simp
  | cons a r ih =>
    rw [List.map_cons, List.any_cons, ih]
    show ((a == x) || _) = _
    by_cases q : a = x
    · subst q; simp
    · have : x ≠ a := fun e => q e.symm
      simp [q, this]
theorem flat_str {us : List Str} : (us.map V.str).all flatV = true := by simp [List.all_eq_true]; intro x _; rfl
theorem flat_int {us : List Int} : (us.map V.int).all flatV = true := by simp [List.all_eq_true]; intro x _; rfl
section
variable {H : Hp} {Q : VK} {K : PySem.W.Frag}
theorem i_inS {x : Str} {p : Addr} {us : List Str} (h : SqL K H p (us.map V.str)) (k : Q (.bl (decide (x ∈ us))) H) : rIn K false (.str x) (.ref p) H Q := by
  refine i_inL h rfl flat_str ?_
  rw [inV_str]; exact k
theorem i_niS {x : Str} {p : Addr} {us : List Str} (h : SqL K H p (us.map V.str)) (k : Q (.bl (!decide (x ∈ us))) H) : rIn K true (.str x) (.ref p) H Q := by
  refine i_inL h rfl flat_str ?_
  rw [inV_str]; exact k
theorem i_inI {x : Int} {p : Addr} {us : List Int} (h : SqL K H p (us.map V.int)) (k : Q (.bl (decide (x ∈ us))) H) : rIn K false (.int x) (.ref p) H Q := by
  refine i_inL h rfl flat_int ?_
  rw [inV_int]; exact k
theorem i_niI {x : Int} {p : Addr} {us : List Int} (h : SqL K H p (us.map V.int)) (k : Q (.bl (!decide (x ∈ us))) H) : rIn K true (.int x) (.ref p) H Q := by
  refine i_inL h rfl flat_int ?_
  rw [inV_int]; exact k
end
/-! ### names -/
def letters : List Nat := ("abcdefghijklmnopqrstuvwxyz" : Str).cps.toList
structure NameOk (s : Str) : Prop where
  lo : 1 ≤ s.length
  hi : s.length ≤ 8
  ls : ∀ c ∈ s.cps.toList, c ∈ letters
def tailOf (k : Nat) : Str := ⟨#[letters.getD (k / 26) 0]⟩ ++ ⟨#[letters.getD (k % 26) 0]⟩
def decOf (s : List Nat) : Nat := (s.getD 0 0 - 97) * 26 + (s.getD 1 0 - 97)
theorem lt_div : ∀ k : Nat, k < 676 → atI letters ((0 + (k : Int)).fdiv 26) = some (letters.getD (k / 26) 0) := by decide +kernel
theorem lt_mod : ∀ k : Nat, k < 676 → atI letters ((0 + (k : Int)).fmod 26) = some (letters.getD (k % 26) 0) := by decide +kernel
theorem dec_tail : ∀ k, k < 676 → decOf (tailOf k).cps.toList = k := by decide +kernel
theorem tail_ls : ∀ k, k < 676 → (tailOf k).cps.toList.length = 2 ∧ ∀ c ∈ (tailOf k).cps.toList, c ∈ letters := by decide +kernel
theorem cand_nd (t : Str) : ((List.range 676).map fun k => t ++ tailOf k).Nodup := by
  refine List.pairwise_map.mpr (List.Pairwise.imp_of_mem (R := (· ≠ ·)) (fun {a b} ha hb ne e => ne ?_) List.nodup_range)
  have ha := List.mem_range.mp ha
  have hb := List.mem_range.mp hb
  have := congrArg (fun s : Str => s.cps.toList) e
  simp only [app_L, List.append_cancel_left_eq] at this
  rw [← dec_tail a ha, ← dec_tail b hb, this]
theorem cand_free (t : Str) {us : List Str} (h : us.length < 676) : ∃ k, k < 676 ∧ t ++ tailOf k ∉ us := by
  obtain ⟨x, hx, hn⟩ := not_in (cand_nd t) (m := us) (by simpa using h)
  obtain ⟨k, hk, rfl⟩ := List.mem_map.mp hx
  exact ⟨k, List.mem_range.mp hk, hn⟩
end Dh
/-! OwnList -/
set_option Elab.async false
set_option linter.all false
set_option maxRecDepth 100000
set_option maxHeartbeats 4000000
/-! list(o), o's own __iter__ gives iter(tuple), its own __len__ a number -/
namespace L2
open PySem PySem.Spec PyProof.Rows
/-- at it an iterator over the tuple at l, the next place is i -/
def TiO (l it : Addr) (i : Nat) : HO := .ext fun h => h.IsTupleIter it l i
/-- there is something at it -/
def TiE (it : Addr) : HO := .ext fun h => ∃ o, h.get? it = some o
section
variable {X : Cx} {pins : List (Addr × Obj)} {σ : St} {H : Hp} {s : Shared} {l it m : Addr} {i : Nat}
theorem tiO_ok {P : Program} {w : World} {H : Hp} {h : Heap} (e : h.IsTupleIter it l i) : ObjOk P w H h it (TiO l it i) := ⟨e, (e.imp fun _ z => z.1), fun h1 h2 ⟨o, q, r⟩ k => ⟨o, k _ q, r⟩⟩
theorem tiE_ok {P : Program} {w : World} {H : Hp} {h : Heap} (e : ∃ o, h.get? it = some o) : ObjOk P w H h it (TiE it) := ⟨e, e, fun h1 h2 ⟨o, q⟩ k => ⟨o, k _ q⟩⟩
theorem tiO_get (I : Inv X pins σ H s) (e : H it = some (TiO l it i)) : s.heap.IsTupleIter it l i := (I.hok it _ e).1
/-- iter(l), l a tuple -/
def rIterT (K : PySem.W.Frag) : List V → Hp → VK → Prop := fun xs H Q => ∃ (l : Addr) (zs : List V), xs = [.ref l] ∧ SqT K H l zs ∧ ∀ it, H it = none → Q (.ref it) (upd H it (TiO l it 0))
theorem call_iterTup : CallR X (.builtin "iter") (rIterT X.K) := by
  intro pins s σ H xs us Q I r h
  obtain ⟨l, zs, rfl, hq, q⟩ := h
  obtain rfl := Vals.ref1 r
  obtain ⟨its, rv, pl, hz⟩ := I.tuple hq
  refine Calls.call_function_entry (by decide +kernel) (by decide +kernel) PySem.W.kdk_entry_iter (PySem.W.kdk_args_iter _) ?_
  unfold Builtin.«iter»
  refine wpAny_bind (m := someArgs "iter" 1 2 _) (wpAny_of_eq (a := [Value.ref l]) (by first | rfl | kernel_rfl!) ?_)
  show wpAny _ _ (pyIter (.ref l) >>= _) _ _ _
  refine wpAny_bind (wpAny_pyIter_tuple pl ?_)
  exact wpAny_pure ⟨_, rfl, ⟨.ref s.heap.objs.size, _, I.laid (t' := s.toks) (fun b u e => Heap.get?_push_of_some _ e) (Nat.le_refl _) (tiO_ok ⟨_, Heap.get?_push_size _ rfl, rfl, rfl⟩), rfl, q _ (I.hok.fresh (Nat.le_refl _))⟩⟩
end
section
variable {prog : Program} {w : World} {A : Around} {E : Value → Shared → Prop} {s : Shared} {it l a C f dx : Addr} {i : Nat} {K : PySem.W.Frag} {ox : Obj} {od : Option Obj}
/-- the end of a walk over a tuple: the iterator is still there -/
theorem next_tup_end {zs : Array Value} {Q : Option Value → Shared → Prop} (hh : A.handled = none) (hi : s.heap.IsTupleIter it l i) (hl : s.heap.IsTuple l zs) (hx : zs[i]? = none)
    (hQ : ∀ h', Heap.ExtBut it s.heap h' → (∃ o, h'.get? it = some o) → Q none { s with heap := h' }) : wpAny (model prog w) A (pyNext (.ref it)) Q E s := by
  obtain ⟨o1, q1, q2, q3⟩ := id hi
  obtain ⟨o2, r1, _, nn, r2⟩ := hl
  unfold pyNext
  refine wpAny_bind (wpAny_attempt (wpAny_callSpecial?_slot (name := Str.ofString "__next__") hi.typeIs F.slot_tuple_iterator_next (wpAny_call_entry F.slot_tuple_iterator_next hi.typeIs F.entry_tuple_iterator_next ?_ (F.args_tuple_iterator_next_1 _))))
  show wpAny _ _ (field (.ref it) 0 >>= _) _ _ s; refine wpAny_bind (wpAny_field q1 q3 (x := .ref l) rfl ?_)
  show wpAny _ _ (if (Value.ref l == Value.none) = true then _ else _) _ _ s; refine PySem.W.KFB.if_not rfl ?_
  show wpAny _ _ (field (.ref it) 1 >>= _) _ _ s; refine wpAny_bind (wpAny_field q1 q3 (x := .int i 0) rfl ?_)
  show wpAny _ _ (seqItems? (.ref l) >>= _) _ _ s; refine wpAny_bind (wpAny_seqItems r1 r2 ?_)
  simp only [Int.toNat_natCast, hx]; refine wpAny_bind (wpAny_rule (wpAny_bind (wpAny_setField q1 q3 (by simp) ?_)))
  show wpAny _ _ (newExc (.type "StopIteration") [] >>= _) _ _ _; refine wpAny_bind ?_
  simp only [newExc, newTuple]; refine wpAny_bind (wpAny_newObj_type ?_ (by size_fits))
  refine wpAny_bind (m := firstArgMember _ _) (wpAny_of_eq (a := Value.none) (by first | rfl | (simp only [firstArgMember]; rfl)) (wpAny_newObj_type ?_ (by size_fits)))
  simp only [raiseNew]; refine wpAny_bind (wpAny_handled ?_); first | rw [show A.in1.handled = none from hh] | rw [hh]
  refine wpAny_bind (wpAny_pure (wpAny_throw ?_)); refine wpAny_bind (wpAny_isInstance (T := "StopIteration") (b := true) ⟨_, Heap.get?_push_size _ rfl, rfl⟩ isSubtype_stop ?_)
  exact wpAny_pure (hQ _ (((Heap.SameBut.update ..).extBut.push _).push _) ⟨_, Heap.get?_push_of_some _ (Heap.get?_push_of_some _ (Heap.get?_update_self _ q1 (Obj.isFreed_of_fields (Obj.data_mapFields q3 _))))⟩)
theorem special_fn {name : Str} {args : List Value} {Q : Option Value → Shared → Prop} (Y : K.In s.heap) (J : PySem.W.InstAt s.heap a ox C od) (hf : PySem.W.findIn K (.ref C) name = some (some (.ref f))) (hn : PySem.W.isFn K (.ref f) = true)
    (hc : wpAny (model prog w) A (call (.ref f) (.ref a :: args)) (fun v s' => Q (some v) s') E s) : wpAny (model prog w) A (callSpecial? (.ref a) name args) Q E s := by
  unfold callSpecial? specialOf
  refine wpAny_bind (wpAny_bind (J.type.here ((PySem.W.looks_findIn Y hf).here (wpAny_holding (wpAny_bind ((PySem.W.bind_fn Y _ (beq_iff_eq.mp hn)).here ?_))))))
  first
    | exact wpAny_bind (wpAny_mono hc (fun v s' z => wpAny_pure z) fun _ _ z => z)
    | exact wpAny_pure (wpAny_bind (wpAny_mono hc (fun v s' z => wpAny_pure z) fun _ _ z => z))
theorem len_fn {Q : Value → Shared → Prop} (Y : K.In s.heap) (J : PySem.W.InstAt s.heap a ox C od) (hf : PySem.W.findIn K (.ref C) "__len__" = some (some (.ref f))) (hn : PySem.W.isFn K (.ref f) = true)
    (hc : wpAny (model prog w) A.in1 (call (.ref f) [.ref a]) (fun r s' => ∃ n u, r = .int n u ∧ 0 ≤ n ∧ n < 2 ^ 63 ∧ Q (.int n s'.toks) { s' with toks := s'.toks + 1 }) E s) : wpAny (model prog w) A (call (.builtin "len") [.ref a]) Q E s := by
  refine Calls.call_function_entry kind_len plain_len entry_len (args_len1 _) (by
    unfold Builtin.«len»
    refine wpAny_bind (m := oneArg "len" _) (wpAny_pure (wpAny_bind (m := callSpecial? (.ref a) (Str.ofString "__len__")) (special_fn Y J hf hn (wpAny_mono hc (fun r s' hr => ?_) fun _ _ y => y))))
    obtain ⟨n, u, rfl, h0, h1, hq⟩ := hr
    refine wpAny_bind (wpAny_holding (wpAny_pure (wpAny_bind (wpAny_letGo ?_))))
    show wpAny _ _ (if n < 0 then _ else _) _ _ _
    rw [if_neg (Int.not_lt.mpr h0)]
    show wpAny _ _ (if n ≥ 2 ^ 63 then _ else _) _ _ _
    rw [if_neg (Int.not_le.mpr h1)]
    exact wpAny_bind (wpAny_mkInt (wpAny_pure ⟨_, rfl, hq⟩)))
end
section
variable {X : Cx} {pins : List (Addr × Obj)} {σ : St} {H : Hp} {s : Shared} {l it a C fi fl dx : Addr} {A1 : Around} {n : Nat} {fs : List (Str × V)} {CI CL : CXT} {fdI fdL : FuncData} {psI psL : List Str} {spI spL : Sp}
abbrev noX : XK := fun _ _ _ => False
/-- nothing comes out that isn't wished for -/
def NoX (CF : CXT) : Prop := ∀ st H s e s', CF st H s noX e s' → False
theorem noX_cx {P : Program} {w : World} : NoX (CX P w) := fun _ _ _ _ _ ⟨_, _, _, _, _, _, _, _, _, _, _, _, z⟩ => z
/-- one of our defs is called with an own thing -/
theorem call_mine {CF : CXT} {f : Addr} {fd : FuncData} {ps : List Str} {sp : Sp} {Q : VK} {Ee : Value → Shared → Prop} (sb : Sub X n A1) (FF : FnOk X.prog X.w X.K X.mg X.base CF n f fd ps sp) (bF : Binds X.K fd ps []) (xF : NoX CF) (I : Inv X pins σ H s) (h : sp [.ref a] H Q noX) :
    wpAny (model X.prog X.w) A1 (call (.ref f) [.ref a]) (fun u s' => ∃ v H', Inv X pins σ H' s' ∧ RelV v u ∧ Q v H') Ee s := by
  have e0 : Env0 X.prog X.w X.K X.mg X.base A1 X.stack s H := by
    have e := I.env0
    exact ⟨by rw [sb.fr]; exact e.frames, e.mod, e.bs, e.bsz, e.funs, e.frf, e.hok, e.bare⟩
  have hl := FF.len _ _ _ _ h
  refine wpAny_call (codeAny_mono (FF.run A1 X.stack s H ⟨[.ref a], []⟩ [.ref a] [.ref a] Q noX sb.room e0 (by simpa using bF s [.ref a] I.kIn (by simpa using hl)) (.cons rfl .nil) h) fun r s' hq => ?_)
  cases r with
  | error e => exact (xF _ _ _ _ _ hq).elim
  | ok fl =>
    cases fl with
    | ret u => exact I.after hq
    | next => exact False.elim hq
    | brk => exact False.elim hq
    | cont => exact False.elim hq
theorem ext_loop {q : Addr} {zs : List V} {Rs : Result → Shared → Prop} (hc : A1.handled = none) (hz : zs.length ≤ sizeLine) (hqi : q ≠ it)
    (hd : ∀ H' s', Inv X pins σ (upd (upd H' it (TiE it)) q (.lst zs)) s' → H' = H → Rs (.ok (.ret .none)) s') (hT2 : ∀ H2, (∀ b, b ≠ it → b ≠ q → H2 b = H b) → SqT X.K H2 l zs) :
    ∀ (k i : Nat) (s : Shared), zs.length - i = k → i ≤ zs.length → Inv X pins σ (upd (upd H it (TiO l it i)) q (.lst (zs.take i))) s → codeAny (model X.prog X.w) A1 (.builtin "list.extend.loop" ⟨[.ref q, .ref it, .none], []⟩) Rs s := by
  intro k
  induction k with
  | zero =>
    intro i s hk hle I
    have hin : i = zs.length := by omega
    subst hin
    have hi := tiO_get I (by rw [upd_ne (fun z => hqi z.symm), upd_same])
    obtain ⟨its, rv, pl, hz'⟩ := I.tuple (hT2 _ fun b h1 h2 => by rw [upd_ne h2, upd_ne h1])
    refine codeAny_builtin PySem.F.entry_extend_loop ?_
    rw [Around.under_plainId PySem.F.plain_extend_loop _]
    show wpAny _ A1.in1 (pyNext (.ref it) >>= _) _ _ s
    refine wpAny_bind (next_tup_end (by exact hc) hi pl (by rw [List.getElem?_toArray]; exact rv.none_of (by simp)) fun h' he ho => wpAny_pure ?_)
    have mu : Mut ((upd (upd H it (TiO l it zs.length)) q (.lst (zs.take zs.length))) it) := by rw [upd_ne (fun z => hqi z.symm), upd_same]; exact True.intro
    have I2 := I.write (x := it) (e := it) (t' := s.toks) (o := TiE it) mu (.inl rfl) (fun b o nb z => he b o nb z) ho (tiE_ok ho)
    refine hd H _ ?_ rfl
    have e : upd (upd (upd H it (TiO l it zs.length)) q (.lst (zs.take zs.length))) it (TiE it) = upd (upd H it (TiE it)) q (.lst zs) := by
      rw [List.take_length]
      funext b
      by_cases h1 : b = it
      · subst h1; rw [upd_same, upd_ne (fun z => hqi z.symm), upd_same]
      · rw [upd_ne h1]
        by_cases h2 : b = q
        · subst h2; rw [upd_same, upd_same]
        · rw [upd_ne h2, upd_ne h2, upd_ne h1, upd_ne h1]
    rw [e] at I2
    exact I2
  | succ k ih =>
    intro i s hk hle I
    have hlt : i < zs.length := by omega
    have hi := tiO_get I (by rw [upd_ne (fun z => hqi z.symm), upd_same])
    obtain ⟨its, rv, pl, hz'⟩ := I.tuple (hT2 _ fun b h1 h2 => by rw [upd_ne h2, upd_ne h1])
    obtain ⟨u, hu, ru⟩ := rv.get (List.getElem?_eq_getElem hlt)
    refine codeAny_builtin PySem.F.entry_extend_loop ?_
    rw [Around.under_plainId PySem.F.plain_extend_loop _]
    show wpAny _ A1.in1 (pyNext (.ref it) >>= _) _ _ s
    refine wpAny_bind (wpAny_pyNext_tuple_item hi pl (by rw [List.getElem?_toArray]; exact hu) fun h' hi' sb => ?_)
    have mu : Mut ((upd (upd H it (TiO l it i)) q (.lst (zs.take i))) it) := by rw [upd_ne (fun z => hqi z.symm), upd_same]; exact True.intro
    have I2 := I.write (x := it) (e := it) (t' := s.toks) (o := TiO l it (i + 1)) mu (.inl rfl) (fun b o nb z => (sb.2 b nb).trans z) (hi'.imp fun _ z => z.1) (tiO_ok hi')
    have hq2 : (upd (upd (upd H it (TiO l it i)) q (.lst (zs.take i))) it (TiO l it (i + 1))) q = some (.lst (zs.take i)) := by rw [upd_ne hqi, upd_same]
    show wpAny _ A1.in1 (updateSeq q (·.push u) >>= _) _ _ _
    obtain ⟨z, its2, k2, r2, hl, e⟩ := I2.lstM hq2
    have hll : (zs.take i).length = i := by rw [List.length_take]; omega
    refine wpAny_bind (wpAny_updateSeq e rfl (wpAny_pure ⟨plainId_quiet PySem.F.plain_extend_loop _, ?_⟩) (by rw [List.size_toArray]; omega) (by show (its2.toArray.push u).size ≤ sizeLine + 1; rw [Array.size_push, List.size_toArray]; omega))
    have I3 := I2.lset (f := (·.push u)) (its' := its2 ++ [u]) (ys := zs.take i ++ [zs[i]]) (t' := s.toks) hq2 e (by simp) (r2.append (.cons ru .nil)) (by rw [List.length_append, List.length_singleton, hll]; omega)
    have e : upd (upd (upd (upd H it (TiO l it i)) q (.lst (zs.take i))) it (TiO l it (i + 1))) q (.lst (zs.take i ++ [zs[i]])) = upd (upd H it (TiO l it (i + 1))) q (.lst (zs.take (i + 1))) := by
      rw [show zs.take i ++ [zs[i]] = zs.take (i + 1) from (List.take_succ_eq_append_getElem hlt).symm]
      funext b
      by_cases h2 : b = q
      · subst h2; rw [upd_same, upd_same]
      · rw [upd_ne h2, upd_ne h2]
        by_cases h1 : b = it
        · subst h1; rw [upd_same, upd_same]
        · rw [upd_ne h1, upd_ne h2, upd_ne h1, upd_ne h1]
    rw [e] at I3
    exact ih (i + 1) _ (by omega) hlt I3
/-- a class whose __iter__ and __len__ are defs of its own -/
structure IlC (K : PySem.W.Frag) (C fi fl : Addr) : Prop where
  it : PySem.W.findIn K (.ref C) "__iter__" = some (some (.ref fi))
  itF : PySem.W.isFn K (.ref fi) = true
  ln : PySem.W.findIn K (.ref C) "__len__" = some (some (.ref fl))
  lnF : PySem.W.isFn K (.ref fl) = true
/-- iter(self.fld), self.fld a tuple -/
def spIt (K : PySem.W.Frag) (C : Addr) (fld : Str) : Sp := fun vs H Q _ => ∃ (a dx l : Addr) (fs : List (Str × V)) (zs : List V), vs = [.ref a] ∧ H a = some (.ins C dx fs) ∧ fs.lookup fld = some (.ref l) ∧ SqT K H l zs ∧ ∀ it, H it = none → Q (.ref it) (upd H it (TiO l it 0))
/-- len(self.fld) -/
def spLn (K : PySem.W.Frag) (C : Addr) (fld : Str) : Sp := fun vs H Q _ => ∃ (a dx l : Addr) (fs : List (Str × V)) (zs : List V), vs = [.ref a] ∧ H a = some (.ins C dx fs) ∧ fs.lookup fld = some (.ref l) ∧ SqT K H l zs ∧ Q (.int zs.length) H
def rListT (K : PySem.W.Frag) (C : Addr) (fld : Str) : List V → Hp → VK → Prop := fun xs H Q => ∃ (a dx l : Addr) (fs : List (Str × V)) (zs : List V), xs = [.ref a] ∧ H a = some (.ins C dx fs) ∧ fs.lookup fld = some (.ref l) ∧ SqT K H l zs ∧
  ∀ q it, H q = none → H it = none → q ≠ it → Q (.ref q) (upd (upd H it (TiE it)) q (.lst zs))
variable {fld : Str}
theorem hint_own {Q : Bool → Shared → Prop} {zs : List V} (sb : Sub X n A1.in1) (hc : IlC X.K C fi fl) (FL : FnOk X.prog X.w X.K X.mg X.base CL n fl fdL psL (spLn X.K C fld)) (bL : Binds X.K fdL psL []) (xL : NoX CL) (I : Inv X pins σ H s)
    (ha : H a = some (.ins C dx fs)) (hf : fs.lookup fld = some (.ref l)) (hq : SqT X.K H l zs) (hz : zs.length ≤ sizeLine) {Ee : Value → Shared → Prop} (h : ∀ s', Inv X pins σ H s' → Q (decide (zs.length ≠ 0)) s') : wpAny (model X.prog X.w) A1 (Builtin.List.listLengthHint (.ref a)) Q Ee s := by
  obtain ⟨mA, J, _⟩ := ins_get I.hok ha
  obtain ⟨od, J, _⟩ := J.look
  unfold Builtin.List.listLengthHint
  refine wpAny_bind (wpAny_bind (J.type.here ((PySem.W.looks_findIn I.kIn hc.ln).here ?_)))
  refine PySem.W.KFB.if_not rfl ?_
  refine PySem.W.KFB.if_so rfl ?_
  refine wpAny_bind (wpAny_rule (wpAny_bind (wpAny_attempt (len_fn I.kIn J hc.ln hc.lnF (wpAny_mono (call_mine (a := a) (Ee := fun _ _ => False) (Q := fun v H' => v = .int zs.length ∧ H' = H) sb FL bL xL I ⟨a, dx, l, fs, zs, rfl, ha, hf, hq, rfl, rfl⟩) (fun r s' hr => ?_) fun _ _ y => y.elim)))))
  obtain ⟨v, H', I', rv, rfl, rfl⟩ := hr
  obtain ⟨t, rfl⟩ := rv
  have hs : sizeLine = 16777216 := sizeLine_eq
  refine ⟨zs.length, t, rfl, by omega, by omega, ?_⟩
  show wpAny _ _ (if Builtin.List.listTooLong (zs.length : Int).toNat = true then _ else pure ((zs.length : Int) != 0)) _ _ _
  rw [if_neg (by rw [Int.toNat_natCast, notLongL hz]; exact Bool.false_ne_true)]
  refine wpAny_pure ?_
  have e : ((zs.length : Int) != 0) = decide (zs.length ≠ 0) := by
    by_cases z : zs.length = 0
    · rw [z]; rfl
    · rw [decide_eq_true z, bne_iff_ne]; omega
  rw [e]
  exact h _ (I'.tok _)
theorem upd_comm {p q : Addr} {o u : HO} (h : p ≠ q) : upd (upd H p o) q u = upd (upd H q u) p o := by
  funext b
  by_cases h1 : b = q
  · subst h1; rw [upd_same, upd_ne (fun z => h z.symm), upd_same]
  · rw [upd_ne h1]
    by_cases h2 : b = p
    · subst h2; rw [upd_same, upd_same]
    · rw [upd_ne h2, upd_ne h2, upd_ne h1]
theorem ext_own {q : Addr} {zs : List V} {Rs : Result → Shared → Prop} (sb : Sub X (n + 1) A1.in1) (hh : A1.handled = none) (hc : IlC X.K C fi fl) (FI : FnOk X.prog X.w X.K X.mg X.base CI n fi fdI psI (spIt X.K C fld)) (bI : Binds X.K fdI psI []) (xI : NoX CI)
    (FL : FnOk X.prog X.w X.K X.mg X.base CL n fl fdL psL (spLn X.K C fld)) (bL : Binds X.K fdL psL []) (xL : NoX CL) (I : Inv X pins σ (upd H q (.lst [])) s) (hq0 : H q = none)
    (ha : H a = some (.ins C dx fs)) (hf : fs.lookup fld = some (.ref l)) (ht : SqT X.K H l zs) (hz : zs.length ≤ sizeLine) (hd : ∀ it s', H it = none → it ≠ q → Inv X pins σ (upd (upd H it (TiE it)) q (.lst zs)) s' → Rs (.ok (.ret .none)) s') :
    wpAny (model X.prog X.w) A1.in1 (Builtin.List.listExtendWith (.ref q) (.ref a) .none)
      (fun fin s' => match fin with | .done f => Rs (.ok f) s' | .again c' => c'.quiet = true ∧ codeAny (model X.prog X.w) A1 c' Rs s') (fun e s' => Rs (.error e) s') s := by
  have hqa : a ≠ q := fun z => by rw [z, hq0] at ha; cases ha
  have hql : l ≠ q ∨ True := .inr trivial
  have ex1 : _root_.Evl.Ex H (upd H q (.lst [])) := fun b o h => by rw [upd_ne (fun z => by rw [z, hq0] at h; cases h)]; exact h
  have ha1 : (upd H q (.lst [])) a = some (.ins C dx fs) := ex1 _ _ ha
  obtain ⟨mA, J, _⟩ := ins_get I.hok ha1
  obtain ⟨od, J, _⟩ := J.look
  obtain ⟨m0, hF⟩ := I.fr
  unfold Builtin.List.listExtendWith
  refine wpAny_bind (J.type.here ?_)
  have h1 : Builtin.List.listSameRef (.ref q) (.ref a) = false := by simp [Builtin.List.listSameRef, hqa.symm]
  have h2 : (Value.ref C == Value.type "list") = false := rfl
  have h3 : (Value.ref C == Value.type "tuple") = false := rfl
  simp only [h1, h2, h3, Bool.or_false, Bool.false_eq_true, if_false]
  refine wpAny_bind (PySem.W.owit_iter hF I.ok.mod.kin J hc.it hc.itF (wpAny_mono (call_mine (a := a) (Ee := fun _ _ => False) (Q := fun v H' => ∃ it, v = .ref it ∧ (upd H q (.lst [])) it = none ∧ H' = upd (upd H q (.lst [])) it (TiO l it 0)) (Sub.mono sb (Nat.le_succ _)) FI bI xI I
    ⟨a, dx, l, fs, zs, rfl, ha1, hf, _root_.Evl.ex_t ex1 ht, fun it hit => ⟨it, rfl, hit, rfl⟩⟩) (fun u s' hu => ?_) fun _ _ y => y.elim))
  obtain ⟨v, H', I', rv, it, rfl, hit, rfl⟩ := hu
  cases rv
  have hiq : it ≠ q := fun z => by rw [z, upd_same] at hit; cases hit
  have hi0 : H it = none := by rw [upd_ne hiq] at hit; exact hit
  rw [upd_comm hiq.symm] at I'
  have gi := tiO_get I' (by rw [upd_ne hiq, upd_same])
  unfold PySem.W.OwitIt
  refine wpAny_specialOf gi.typeIs F.slot_tuple_iterator_next.lookup ?_
  have ex2 : _root_.Evl.Ex H (upd (upd H it (TiO l it 0)) q (.lst [])) := fun b o h => by
    rw [upd_ne (fun z => by rw [z, hq0] at h; cases h), upd_ne (fun z => by rw [z, hi0] at h; cases h)]; exact h
  refine wpAny_bind (wpAny_holding (hint_own (Sub.in1 sb) hc FL bL xL I' (ex2 _ _ ha) hf (_root_.Evl.ex_t ex2 ht) hz fun s2 I2 => ?_))
  have loop : ∀ s3, Inv X pins σ (upd (upd H it (TiO l it 0)) q (.lst [])) s3 → codeAny (model X.prog X.w) A1 (.builtin "list.extend.loop" ⟨[.ref q, .ref it, .none], []⟩) Rs s3 := fun s3 I3 =>
    ext_loop (l := l) hh hz hiq.symm (fun H' s' I' e => hd it s' hi0 hiq (by rw [← e]; exact I')) (fun H2 k => _root_.Evl.ex_t (fun b o h => by rw [k b (fun z => by rw [z, hi0] at h; cases h) (fun z => by rw [z, hq0] at h; cases h)]; exact h) ht) zs.length 0 s3 (by omega) (Nat.zero_le _) I3
  refine wpAny_ite_split (fun _ => ?_) (fun _ => wpAny_pure ⟨plainId_quiet PySem.F.plain_extend_loop _, loop _ I2⟩)
  obtain ⟨z, its, k, r3, hl3, e3⟩ := I2.lstM upd_same
  cases r3
  refine wpAny_bind (wpAny_rule (wpAny_bind ?_))
  show wpAny _ _ (updateSeq q (·.push .none) >>= fun _ => updateSeq q (·.pop)) _ _ _
  refine wpAny_bind (wpAny_updateSeq e3 rfl ?_)
  have I4 := I2.lset (f := (·.push Value.none)) (its' := [Value.none]) (ys := [.non]) (t' := s2.toks) upd_same e3 (by simp) (.cons rfl .nil) (by rw [List.length_singleton, sizeLine_eq]; decide)
  obtain ⟨z4, its4, k4, r4, hl4, e4⟩ := I4.lstM upd_same
  obtain ⟨u4, rfl, ru4⟩ := r4.one
  refine wpAny_updateSeq e4 rfl ?_ (by show 1 ≤ sizeLine; rw [sizeLine_eq]; decide) (by show 0 ≤ sizeLine + 1; exact Nat.zero_le _)
  refine wpAny_pure ⟨plainId_quiet PySem.F.plain_extend_loop _, loop _ ?_⟩
  have I5 := I4.lset (f := (·.pop)) (its := [u4]) (its' := []) (ys := []) (t' := s2.toks) upd_same e4 (by rfl) .nil (Nat.zero_le _)
  rw [upd_upd, upd_upd] at I5
  exact I5
/-- list(o) -/
theorem call_listT (hm : X.calm = true) (hc : IlC X.K C fi fl) (FI : FnOk X.prog X.w X.K X.mg X.base CI n fi fdI psI (spIt X.K C fld)) (bI : Binds X.K fdI psI []) (xI : NoX CI)
    (FL : FnOk X.prog X.w X.K X.mg X.base CL n fl fdL psL (spLn X.K C fld)) (bL : Binds X.K fdL psL []) (xL : NoX CL) (hr : Room (n + 3) X.A) : CallR X (.type "list") (rListT X.K C fld) := by
  intro pins s σ H xs us Q I rv h
  obtain ⟨a, dx, l, fs, zs, rfl, ha, hf, ht, hq⟩ := h
  obtain ⟨u, rfl, ru⟩ := rv.one
  cases ru
  have sb : Sub X (n + 1) X.A.in1.in1 := Sub.in1 (Sub.in1 (⟨hr, rfl⟩ : Sub X (n + 3) X.A))
  obtain ⟨_, _, _, hz⟩ := I.tuple ht
  refine callType_codes (Q₁ := fun obj s₁ => obj = .ref s.heap.objs.size ∧ s₁ = { s with heap := s.heap.push { cls := .type "list", data := .seq #[] } }) PySem.F.called_list (PySem.F.typeCall_list_1 _) PySem.F.entry_list_init (code_list_new _ ⟨rfl, rfl⟩) fun obj s₁ h₁ => ?_
  obtain ⟨rfl, rfl⟩ := h₁
  have hS : (s.heap.push { cls := .type "list", data := .seq #[] }).get? s.heap.objs.size = some { cls := .type "list", data := .seq #[] } := Heap.get?_push_size _ rfl
  have fr : H s.heap.objs.size = none := I.hok.fresh (Nat.le_refl _)
  refine ⟨⟨_, hS, rfl⟩, PySem.F.args_list_init_2 _ _, ?_⟩
  have I1 : Inv X pins σ (upd H s.heap.objs.size (.lst [])) { s with heap := s.heap.push { cls := .type "list", data := .seq #[] } } := I.lnew (its := []) (t' := s.toks) .nil (Nat.zero_le _)
  show wpAny _ _ (do let old ← Builtin.List.listItems (.ref s.heap.objs.size); Builtin.List.listUpdate (.ref s.heap.objs.size) (fun _ => #[]); letGo old.toList.reverse; Builtin.List.listExtendWith (.ref s.heap.objs.size) (.ref a) .none) _ _ _
  refine wpAny_bind (by
    unfold Builtin.List.listItems
    refine wpAny_bind (wpAny_seqItems hS rfl (wpAny_pure ?_))
    show wpAny _ _ (updateSeq s.heap.objs.size (fun _ => #[]) >>= fun _ => letGo (#[] : Array Value).toList.reverse >>= fun _ => Builtin.List.listExtendWith (.ref s.heap.objs.size) (.ref a) .none) _ _ _
    refine wpAny_bind (wpAny_updateSeq hS rfl ?_)
    have I2 := I1.lset (f := fun _ => #[]) (its := []) (its' := []) (ys := []) (t' := s.toks) upd_same hS rfl .nil (Nat.zero_le _)
    rw [upd_upd] at I2
    exact wpAny_bind (wpAny_letGo (ext_own (A1 := X.A.in1) (Rs := wants (fun r s₂ => r = .none ∧ EP X pins σ Q (.ref s.heap.objs.size) s₂) X.xe) sb (I.ok.hd hm) hc FI bI xI FL bL xL I2 fr ha hf ht hz
      fun it s' h1 h2 I' => ⟨rfl, .ref s.heap.objs.size, _, I', rfl, hq _ _ fr h1 h2.symm⟩)))
end
end L2
/-! K05Txt -/
set_option Elab.async false
set_option linter.all false
set_option maxRecDepth 100000
set_option maxHeartbeats 4000000
namespace Dh
open PySem PySem.Spec L2
def top (i : Nat) : Stmt := PySem.Challenge.pw_duehouse_k05_spells_and_tracks.main.body.getD i (.Pass ⟨0, 0, 0, 0⟩)
abbrev s_BadSpell_XinitX : Stmt := inClass (top 5) 0
theorem sc_BadSpell_XinitX : FnScope ["self", "spell"] ["self", "spell"] (defScope s_BadSpell_XinitX) := ⟨rfl, rfl, rfl, by decide +kernel, rfl, by decide +kernel, by decide +kernel⟩
abbrev s_is_number : Stmt := top 7
theorem sc_is_number : FnScope ["number", "low", "high"] ["number", "low", "high"] (defScope s_is_number) := ⟨rfl, rfl, rfl, by decide +kernel, rfl, by decide +kernel, by decide +kernel⟩
abbrev s_spells : Stmt := top 9
theorem sc_spells : FnScope ["track", "found", "first", "day", "name"] ["track"] (defScope s_spells) := ⟨rfl, rfl, rfl, by decide +kernel, rfl, by decide +kernel, by decide +kernel⟩
abbrev s_is_spell_from : Stmt := top 10
theorem sc_is_spell_from : FnScope ["spell", "day", "first", "last", "_"] ["spell", "day"] (defScope s_is_spell_from) := ⟨rfl, rfl, rfl, by decide +kernel, rfl, by decide +kernel, by decide +kernel⟩
abbrev s_track_of : Stmt := top 11
theorem sc_track_of : FnScope ["spells", "track", "spell", "first", "last", "name"] ["spells"] (defScope s_track_of) := ⟨rfl, rfl, rfl, by decide +kernel, rfl, by decide +kernel, by decide +kernel⟩
abbrev s_l_mixed : Stmt := top 13
theorem sc_l_mixed : FnScope ["_law_number", "_law_turn", "_law_low", "_law_high"] ["_law_number", "_law_turn"] (defScope s_l_mixed) := ⟨rfl, rfl, rfl, by decide +kernel, rfl, by decide +kernel, by decide +kernel⟩
abbrev s_l_bag : Stmt := top 14
theorem sc_l_bag : FnScope ["_law_script", "_law_numbers", "_law_cell", "_law_seed", "_law_at"] ["_law_script"] (defScope s_l_bag) := ⟨rfl, rfl, rfl, by decide +kernel, rfl, by decide +kernel, by decide +kernel⟩
abbrev s_l_pick : Stmt := top 15
theorem sc_l_pick : FnScope ["_law_bag_here", "_law_many", "_law_turn", "_law_cell", "_law_worth"] ["_law_bag_here", "_law_many"] (defScope s_l_pick) := ⟨rfl, rfl, rfl, by decide +kernel, rfl, by decide +kernel, by decide +kernel⟩
abbrev s_l_choice : Stmt := top 16
theorem sc_l_choice : FnScope ["_law_bag_here", "_law_things"] ["_law_bag_here", "_law_things"] (defScope s_l_choice) := ⟨rfl, rfl, rfl, by decide +kernel, rfl, by decide +kernel, by decide +kernel⟩
abbrev s_l_new_name : Stmt := top 17
theorem sc_l_new_name : FnScope ["_law_bag_here", "_law_used", "_law_letters", "_law_told_here", "_law_step", "_law_near", "_law_at", "_law_tails", "_law_k", "_law_tail"] ["_law_bag_here", "_law_used"] (defScope s_l_new_name) := ⟨rfl, rfl, rfl, by decide +kernel, rfl, by decide +kernel, by decide +kernel⟩
abbrev s_l_names : Stmt := top 18
theorem sc_l_names : FnScope ["_law_bag_here", "_law_names_here", "_law_k"] ["_law_bag_here"] (defScope s_l_names) := ⟨rfl, rfl, rfl, by decide +kernel, rfl, by decide +kernel, by decide +kernel⟩
abbrev s_l_track : Stmt := top 19
theorem sc_l_track : FnScope ["_law_bag_here", "_law_names_here", "_law_size", "_law_same", "_law_out", "_law_day"] ["_law_bag_here", "_law_names_here"] (defScope s_l_track) := ⟨rfl, rfl, rfl, by decide +kernel, rfl, by decide +kernel, by decide +kernel⟩
abbrev s_l_runs : Stmt := top 20
theorem sc_l_runs : FnScope ["_law_track_here", "_law_out", "_law_day", "_law_name"] ["_law_track_here"] (defScope s_l_runs) := ⟨rfl, rfl, rfl, by decide +kernel, rfl, by decide +kernel, by decide +kernel⟩
abbrev s_l_bent : Stmt := top 21
theorem sc_l_bent : FnScope ["_law_bag_here", "_law_rows", "_law_names_here", "_law_at", "_law_begin", "_law_end", "_law_name", "_law_move", "_law_way", "_law_cut"] ["_law_bag_here", "_law_rows", "_law_names_here"] (defScope s_l_bent) := ⟨rfl, rfl, rfl, by decide +kernel, rfl, by decide +kernel, by decide +kernel⟩
abbrev s_l_due : Stmt := top 22
theorem sc_l_due : FnScope ["_law_rows", "_law_out", "_law_row", "_law_day"] ["_law_rows"] (defScope s_l_due) := ⟨rfl, rfl, rfl, by decide +kernel, rfl, by decide +kernel, by decide +kernel⟩
abbrev s_l_told : Stmt := top 23
theorem sc_l_told : FnScope ["_law_rows", "_law_track_here", "error", "_law_sisters"] ["_law_rows"] (defScope s_l_told) := ⟨rfl, rfl, rfl, by decide +kernel, rfl, by decide +kernel, by decide +kernel⟩
abbrev s_l_spells_right : Stmt := top 24
theorem sc_l_spells_right : FnScope ["_law_track_here", "_law_due_here", "_law_told_here"] ["_law_track_here"] (defScope s_l_spells_right) := ⟨rfl, rfl, rfl, by decide +kernel, rfl, by decide +kernel, by decide +kernel⟩
abbrev s_l_track_right : Stmt := top 25
theorem sc_l_track_right : FnScope ["_law_rows", "_law_due_here", "_law_shown"] ["_law_rows"] (defScope s_l_track_right) := ⟨rfl, rfl, rfl, by decide +kernel, rfl, by decide +kernel, by decide +kernel⟩
abbrev s_law : Stmt := top 26
theorem sc_law : FnScope ["_law_script", "_law_bag_here", "_law_names_here", "_law_tracks", "_law_turn", "_law_track_here", "_law_rows", "_law_k"] ["_law_script"] (defScope s_law) := ⟨rfl, rfl, rfl, by decide +kernel, rfl, by decide +kernel, by decide +kernel⟩
structure Ad where
  f_BadSpell_XinitX : Addr
  d_BadSpell_XinitX : FuncData
  f_is_number : Addr
  d_is_number : FuncData
  f_spells : Addr
  d_spells : FuncData
  f_is_spell_from : Addr
  d_is_spell_from : FuncData
  f_track_of : Addr
  d_track_of : FuncData
  f_l_mixed : Addr
  d_l_mixed : FuncData
  f_l_bag : Addr
  d_l_bag : FuncData
  f_l_pick : Addr
  d_l_pick : FuncData
  f_l_choice : Addr
  d_l_choice : FuncData
  f_l_new_name : Addr
  d_l_new_name : FuncData
  f_l_names : Addr
  d_l_names : FuncData
  f_l_track : Addr
  d_l_track : FuncData
  f_l_runs : Addr
  d_l_runs : FuncData
  f_l_bent : Addr
  d_l_bent : FuncData
  f_l_due : Addr
  d_l_due : FuncData
  f_l_told : Addr
  d_l_told : FuncData
  f_l_spells_right : Addr
  d_l_spells_right : FuncData
  f_l_track_right : Addr
  d_l_track_right : FuncData
  f_law : Addr
  d_law : FuncData
  C_DueError : Addr
  C_BadName : Addr
  C_BadNumber : Addr
  C_BadEntry : Addr
  C_BadSpell : Addr
structure Txt (K : PySem.W.Frag) (mg : Str → Option Value) (A : Ad) : Prop where
  F_BadSpell_XinitX : Fun K "__init__" "BadSpell.__init__" s_BadSpell_XinitX A.f_BadSpell_XinitX A.d_BadSpell_XinitX
  bi_BadSpell_XinitX : Binds K A.d_BadSpell_XinitX ["self", "spell"] []
  F_is_number : Fun K "is_number" "is_number" s_is_number A.f_is_number A.d_is_number
  bi_is_number : Binds K A.d_is_number ["number", "low", "high"] []
  g_is_number : mg "is_number" = some (.ref A.f_is_number)
  F_spells : Fun K "spells" "spells" s_spells A.f_spells A.d_spells
  bi_spells : Binds K A.d_spells ["track"] []
  g_spells : mg "spells" = some (.ref A.f_spells)
  F_is_spell_from : Fun K "is_spell_from" "is_spell_from" s_is_spell_from A.f_is_spell_from A.d_is_spell_from
  bi_is_spell_from : Binds K A.d_is_spell_from ["spell", "day"] []
  g_is_spell_from : mg "is_spell_from" = some (.ref A.f_is_spell_from)
  F_track_of : Fun K "track_of" "track_of" s_track_of A.f_track_of A.d_track_of
  bi_track_of : Binds K A.d_track_of ["spells"] []
  g_track_of : mg "track_of" = some (.ref A.f_track_of)
  F_l_mixed : Fun K "_law_mixed" "_law_mixed" s_l_mixed A.f_l_mixed A.d_l_mixed
  bi_l_mixed : Binds K A.d_l_mixed ["_law_number", "_law_turn"] []
  g_l_mixed : mg "_law_mixed" = some (.ref A.f_l_mixed)
  F_l_bag : Fun K "_law_bag" "_law_bag" s_l_bag A.f_l_bag A.d_l_bag
  bi_l_bag : Binds K A.d_l_bag ["_law_script"] []
  g_l_bag : mg "_law_bag" = some (.ref A.f_l_bag)
  F_l_pick : Fun K "_law_pick" "_law_pick" s_l_pick A.f_l_pick A.d_l_pick
  bi_l_pick : Binds K A.d_l_pick ["_law_bag_here", "_law_many"] []
  g_l_pick : mg "_law_pick" = some (.ref A.f_l_pick)
  F_l_choice : Fun K "_law_choice" "_law_choice" s_l_choice A.f_l_choice A.d_l_choice
  bi_l_choice : Binds K A.d_l_choice ["_law_bag_here", "_law_things"] []
  g_l_choice : mg "_law_choice" = some (.ref A.f_l_choice)
  F_l_new_name : Fun K "_law_new_name" "_law_new_name" s_l_new_name A.f_l_new_name A.d_l_new_name
  bi_l_new_name : Binds K A.d_l_new_name ["_law_bag_here", "_law_used"] []
  g_l_new_name : mg "_law_new_name" = some (.ref A.f_l_new_name)
  F_l_names : Fun K "_law_names" "_law_names" s_l_names A.f_l_names A.d_l_names
  bi_l_names : Binds K A.d_l_names ["_law_bag_here"] []
  g_l_names : mg "_law_names" = some (.ref A.f_l_names)
  F_l_track : Fun K "_law_track" "_law_track" s_l_track A.f_l_track A.d_l_track
  bi_l_track : Binds K A.d_l_track ["_law_bag_here", "_law_names_here"] []
  g_l_track : mg "_law_track" = some (.ref A.f_l_track)
  F_l_runs : Fun K "_law_runs" "_law_runs" s_l_runs A.f_l_runs A.d_l_runs
  bi_l_runs : Binds K A.d_l_runs ["_law_track_here"] []
  g_l_runs : mg "_law_runs" = some (.ref A.f_l_runs)
  F_l_bent : Fun K "_law_bent" "_law_bent" s_l_bent A.f_l_bent A.d_l_bent
  bi_l_bent : Binds K A.d_l_bent ["_law_bag_here", "_law_rows", "_law_names_here"] []
  g_l_bent : mg "_law_bent" = some (.ref A.f_l_bent)
  F_l_due : Fun K "_law_due" "_law_due" s_l_due A.f_l_due A.d_l_due
  bi_l_due : Binds K A.d_l_due ["_law_rows"] []
  g_l_due : mg "_law_due" = some (.ref A.f_l_due)
  F_l_told : Fun K "_law_told" "_law_told" s_l_told A.f_l_told A.d_l_told
  bi_l_told : Binds K A.d_l_told ["_law_rows"] []
  g_l_told : mg "_law_told" = some (.ref A.f_l_told)
  F_l_spells_right : Fun K "_law_spells_right" "_law_spells_right" s_l_spells_right A.f_l_spells_right A.d_l_spells_right
  bi_l_spells_right : Binds K A.d_l_spells_right ["_law_track_here"] []
  g_l_spells_right : mg "_law_spells_right" = some (.ref A.f_l_spells_right)
  F_l_track_right : Fun K "_law_track_right" "_law_track_right" s_l_track_right A.f_l_track_right A.d_l_track_right
  bi_l_track_right : Binds K A.d_l_track_right ["_law_rows"] []
  g_l_track_right : mg "_law_track_right" = some (.ref A.f_l_track_right)
  F_law : Fun K "law" "law" s_law A.f_law A.d_law
  bi_law : Binds K A.d_law ["_law_script"] []
  g_law : mg "law" = some (.ref A.f_law)
  g_DueError : mg "DueError" = some (.ref A.C_DueError)
  ox_DueError : OexC K A.C_DueError
  xf_DueError : XfC K A.C_DueError
  g_BadName : mg "BadName" = some (.ref A.C_BadName)
  ox_BadName : OexC K A.C_BadName
  xf_BadName : XfC K A.C_BadName
  g_BadNumber : mg "BadNumber" = some (.ref A.C_BadNumber)
  ox_BadNumber : OexC K A.C_BadNumber
  xf_BadNumber : XfC K A.C_BadNumber
  g_BadEntry : mg "BadEntry" = some (.ref A.C_BadEntry)
  ox_BadEntry : OexC K A.C_BadEntry
  xf_BadEntry : XfC K A.C_BadEntry
  g_BadSpell : mg "BadSpell" = some (.ref A.C_BadSpell)
  ox_BadSpell : OexC K A.C_BadSpell
  xf_BadSpell : XfC K A.C_BadSpell
  nx_BadSpell : PySem.W.findIn K (.ref A.C_BadSpell) "spell" = some none
  ix_BadSpell : PySem.W.findIn K (.ref A.C_BadSpell) "__init__" = some (some (.ref A.f_BadSpell_XinitX))
  tx_BadSpell : PySem.W.typeIn K (.ref A.f_BadSpell_XinitX) = some (.type "function")
  b_ValueError : mg "ValueError" = none
  b_abs : mg "abs" = none
  b_bool : mg "bool" = none
  b_enumerate : mg "enumerate" = none
  b_int : mg "int" = none
  b_isinstance : mg "isinstance" = none
  b_len : mg "len" = none
  b_list : mg "list" = none
  b_range : mg "range" = none
  b_repr : mg "repr" = none
  b_tuple : mg "tuple" = none
  ec_BadSpell : ExcC K A.C_BadSpell
  su_BadSpell_DueError : PySem.W.subIn K (.ref A.C_BadSpell) (.ref A.C_DueError) = some true
  kb_BadSpell_BadEntry : PySem.W.kitOne K (.ref A.C_BadSpell) (.ref A.C_BadEntry) = some false
  kb_BadSpell_BadName : PySem.W.kitOne K (.ref A.C_BadSpell) (.ref A.C_BadName) = some false
  kb_BadSpell_BadNumber : PySem.W.kitOne K (.ref A.C_BadSpell) (.ref A.C_BadNumber) = some false
  kb_BadSpell_BadSpell : PySem.W.kitOne K (.ref A.C_BadSpell) (.ref A.C_BadSpell) = some true
  kb_BadSpell_ValueError : PySem.W.kitOne K (.ref A.C_BadSpell) (.type "ValueError") = some true
end Dh
/-! K05Pre -/
set_option Elab.async false
set_option linter.all false
set_option maxRecDepth 100000
set_option maxHeartbeats 4000000
namespace Dh
open PySem PySem.Spec L2
open _root_.Evl (Ex)
local macro_rules | `(tactic| walk_at "ex") => `(tactic| first | assumption | ((with_reducible apply ex_mut); (focus assumption); walk_at "ex") | ((with_reducible apply ex_both); walk_at "ex") | ((with_reducible apply ex_new); (focus assumption); walk_at "ex"))
local macro_rules | `(tactic| walk_at "hp") => `(tactic| first | assumption | with_reducible exact upd_same | ((with_reducible apply upd_old); (focus assumption); walk_at "hp") | ((with_reducible apply upd_oth); (focus walk_at "neq"); walk_at "hp") | ((with_reducible apply ex_by); (focus assumption); walk_at "ex") | ((with_reducible apply ex_at); (focus assumption); walk_at "hp"))
local macro_rules | `(tactic| walk_at "neq") => `(tactic| first | assumption | (apply Ne.symm; assumption))
local macro_rules | `(tactic| walk_at "sq") => `(tactic| first | assumption | ((with_reducible apply SqL.of); walk_at "hp") | ((with_reducible apply SqT.of); walk_at "hp"))
local macro_rules | `(tactic| walk_at "side") => `(tactic| first | assumption | decide | exact cm_fmod (by decide) (by decide) | (show _ ≠ (0 : Int); decide) | (show _ ≠ (0 : Int); omega) | exact Or.inr ⟨by decide, by decide⟩ | exact Or.inl ⟨by decide, by decide⟩ | (show CDivN _ _; exact ⟨by decide, by decide⟩) | (show CDivN _ _; exact ⟨by omega, by omega⟩) | exact Or.inl ⟨by omega, by omega⟩ | exact Or.inr ⟨by omega, by omega⟩ | exact ⟨by decide, by decide, by decide⟩)
local macro_rules | `(tactic| walk_at "ix") => `(tactic| first | exact rfl | assumption | exact atI_nat (by assumption))
local macro_rules | `(tactic| walk_at "step0") => `(tactic| first
  | with_reducible refine i_seq ?_
  | with_reducible refine i_asg ?_
  | with_reducible refine i_op ?_
  | ((with_reducible refine' i_var ?hv ?_); (case hv => exact rfl))
  | with_reducible refine i_c ?_
  | with_reducible refine i_cons ?_
  | with_reducible refine i_nil ?_
  | with_reducible refine i_cb ?_
  | with_reducible refine i_call ?_
  | with_reducible refine i_call' ?_
  | with_reducible refine i_un ?_
  | with_reducible refine i_I0 ?_
  | ((with_reducible refine i_I ?hv ?_); (case hv => walk_at "side"))
  | with_reducible refine i_eqI ?_
  | with_reducible refine i_neI ?_
  | with_reducible refine i_eqS ?_
  | with_reducible refine i_neS ?_
  | ((with_reducible refine i_eq ?hv ?_); (case hv => exact rfl))
  | ((with_reducible refine i_ne ?hv ?_); (case hv => exact rfl))
  | with_reducible refine i_int1 ?_
  | with_reducible refine i_abs ?_
  | ((with_reducible refine' i_ixL ?hv ?hw ?_); (case hv => walk_at "sq"); (case hw => walk_at "ix"))
  | ((with_reducible refine' i_ixT ?hv ?hw ?_); (case hv => walk_at "sq"); (case hw => walk_at "ix"))
  | ((with_reducible refine' i_lenL ?hv ?_); (case hv => walk_at "sq"))
  | ((with_reducible refine' i_lenT ?hv ?_); (case hv => walk_at "sq"))
  | with_reducible refine i_addIB ?_
  | with_reducible refine i_mulIB ?_
  | ((with_reducible refine i_lenS ?hv ?_); (case hv => walk_at "side"))
  | with_reducible refine i_tup ?_
  | with_reducible refine i_lst ?_
  | with_reducible refine i_asgG ?_
  | with_reducible refine i_gname ?_
  | with_reducible refine i_gsub ?_
  | ((with_reducible refine' i_setL ?hv ?hw ?_); (case hv => walk_at "hp"); (case hw => exact rfl))
  | with_reducible refine i_ret ?_
  | with_reducible refine i_drop ?_
  | with_reducible refine i_next ?_
  | with_reducible refine i_test ?_
  | with_reducible refine i_B ?_
  | with_reducible refine i_bl ?_
  | with_reducible refine i_not ?_
  | with_reducible refine i_and ?_
  | with_reducible refine i_or ?_
  | ((with_reducible refine' i_app ?hv ?hw ?_); (case hv => walk_at "hp"); (case hw => walk_at "side"))
  | with_reducible refine iteT ?_
  | with_reducible refine iteF ?_
  | with_reducible refine iteNT ?_
  | with_reducible refine iteNF ?_
  | ((with_reducible refine iteT' ?hv ?_); (case hv => first | exact decide_eq_true (by assumption) | exact notF (by assumption) | exact decide_eq_true rfl | exact notF (by decide) | exact decide_eq_true (by decide) | exact decide_eq_true (by simp only [List.length_cons, List.length_nil]; decide)))
  | ((with_reducible refine iteF' ?hv ?_); (case hv => first | exact decide_eq_false (by assumption) | exact notT (by assumption) | exact notT rfl | exact decide_eq_false (by decide) | exact decide_eq_false (by simp only [List.length_cons, List.length_nil]; decide)))
  | with_reducible refine i_forL ?_
  | with_reducible refine i_forT ?_
  | with_reducible refine i_forR ?_
  | with_reducible refine i_forR2 ?_
  | with_reducible refine i_forE ?_
  | with_reducible refine i_forV ?_
  | with_reducible refine i_forS ?_
  | with_reducible refine i_forK ?_
  | with_reducible refine i_lcL ?_
  | with_reducible refine i_lcT ?_
  | with_reducible refine i_lcR ?_
  | with_reducible refine i_lcR2 ?_
  | with_reducible refine i_lcS ?_
  | with_reducible refine i_lcK ?_
  | ((with_reducible refine' fl_L ?hv ?_); (case hv => walk_at "sq"))
  | ((with_reducible refine' fl_T ?hv ?_); (case hv => walk_at "sq"))
  | ((with_reducible refine fl_R ?hv ?hw ?_); (case hv => (first | decide | omega)); (case hw => (first | decide | omega)))
  | ((with_reducible refine fl_R2 ?hv ?_); (case hv => (first | decide | (refine ⟨?_, ?_, ?_, ?_⟩ <;> omega))))
  | ((with_reducible refine' fl_E ?hv ?_); (case hv => walk_at "sq"))
  | ((with_reducible refine' fl_V ?hv ?_); (case hv => walk_at "sq"))
  | with_reducible refine fl_S ?_
  | ((with_reducible refine' fc_L ?hv ?_); (case hv => walk_at "sq"))
  | ((with_reducible refine' fc_T ?hv ?_); (case hv => walk_at "sq"))
  | ((with_reducible refine fc_R ?hv ?hw ?_); (case hv => (first | decide | omega)); (case hw => (first | decide | omega)))
  | with_reducible refine fc_S ?_
  | with_reducible refine i_sl ?_
  | with_reducible refine i_nopart ?_
  | with_reducible refine i_part ?_
  | with_reducible refine i_isint ?_
  | ((with_reducible refine' i_slL ?hv ?_); (case hv => walk_at "sq"))
  | ((with_reducible refine i_slS ?hv ?_); (case hv => walk_at "side"))
  | ((with_reducible refine' i_gtup ?hv ?hw ?_); (case hv => walk_at "sq"); (case hw => exact rfl))
  | with_reducible refine i_gcons ?_
  | with_reducible refine i_gnil ?_
  | ((with_reducible refine' i_listL ?hv ?_); (case hv => walk_at "sq"))
  | ((with_reducible refine' i_listT ?hv ?_); (case hv => walk_at "sq"))
  | ((with_reducible refine' i_tupL ?hv ?_); (case hv => walk_at "sq"))
  | ((with_reducible refine' i_lenD ?hv ?_); (case hv => walk_at "hp"))
  | ((with_reducible refine' i_ty ?hv ?_); (case hv => walk_at "hp"))
  | ((with_reducible refine And.intro ?hv ?_); (case hv => first | exact (by decide : (0 : Nat) ≤ sizeLine) | exact (by decide : (1 : Nat) ≤ sizeLine) | exact (by decide : (2 : Nat) ≤ sizeLine) | exact (by decide : (3 : Nat) ≤ sizeLine) | exact (by decide : (4 : Nat) ≤ sizeLine) | exact (by decide : (5 : Nat) ≤ sizeLine) | exact (by decide : (6 : Nat) ≤ sizeLine)))
  | with_reducible refine i_inC ?_
  | ((with_reducible refine i_addT ?hv ?_); (case hv => walk_at "side"))
  | with_reducible refine i_m1 ?_
  | with_reducible refine i_isstr ?_
  | with_reducible refine is_int_int ?_
  | with_reducible refine is_int_bool ?_
  | with_reducible refine is_str_str ?_
  | ((with_reducible refine' is_tup_tup ?hv ?_); (case hv => walk_at "hp"))
  | with_reducible refine i_ifExp ?_
  | with_reducible refine i_andV ?_
  | with_reducible refine i_orV ?_
  | with_reducible refine i_notV ?_
  | with_reducible refine i_chain ?_
  | ((with_reducible refine' i_inS ?hv ?_); (case hv => walk_at "sq"))
  | ((with_reducible refine' i_niS ?hv ?_); (case hv => walk_at "sq"))
  | ((with_reducible refine' i_inI ?hv ?_); (case hv => walk_at "sq"))
  | ((with_reducible refine' i_niI ?hv ?_); (case hv => walk_at "sq"))
  | with_reducible refine i_dnew ?_
  | with_reducible refine i_dput ?_
  | ((with_reducible refine' i_dputI ?hv ?hw ?_); (case hv => walk_at "hp"); (case hw => walk_at "side"))
  | with_reducible refine i_dget ?_
  | ((with_reducible refine' i_dgetI ?hv ?hw ?_); (case hv => walk_at "hp"); (case hw => assumption))
  | with_reducible refine i_dnotin ?_
  | with_reducible refine i_din ?_
  | ((with_reducible refine' i_dnotinI ?hv ?_); (case hv => walk_at "hp"))
  | with_reducible refine i_dsetd ?_
  | ((with_reducible refine' i_isd ?hv ?_); (case hv => walk_at "hp"))
  | with_reducible refine i_fld ?_
  | with_reducible refine i_sfld ?_
  | with_reducible refine i_dcT ?_
  | with_reducible refine i_dcL ?_
  | with_reducible refine i_truT ?_
  | ((with_reducible refine' i_truL ?hv ?_); (case hv => walk_at "sq"))
  | with_reducible refine i_revL ?_
  | ((with_reducible refine' i_atLx ?hv ?_); (case hv => walk_at "sq"))
  | with_reducible refine i_bm ?_
  | with_reducible refine i_bm0 ?_)
local macro_rules | `(tactic| walk_at "step") => `(tactic| first | walk_at "step0" | with_reducible refine i_ifS ?_)
local macro_rules | `(tactic| walk_at "goj") => `(tactic| repeat (first | walk_at "step0" | with_reducible refine i_ifS (c := tTest _) ?_ | with_reducible refine i_ifS (c := tB _) ?_))
local macro_rules | `(tactic| walk_at "tj") => `(tactic| (intro q hq; repeat (first | exact hq | walk_at "step" | (refine and_q hq (fun h => ?_); clear hq; rename_i hq) | (refine or_q hq (fun h => ?_); clear hq; rename_i hq))))
local macro_rules | `(tactic| walk_at "go") => `(tactic| repeat walk_at "step")

/-! ### heaps -/
def BgL (F : Hp) (l : List V) : Prop := ∃ (n : Addr) (ns : List Int) (i h t s : Int), l = [.ref n, .int i, .int h, .int t, .int s] ∧ F n = some (.lst (ns.map V.int)) ∧ 0 ≤ i ∧ 0 ≤ h
structure Bg (F H : Hp) (b : Addr) : Prop where
  fr : F b = none
  ex : ∃ l, H b = some (.lst l) ∧ BgL F l
def spMixed : Sp := fun vs H Q _ => ∃ x t : Int, vs = [.int x, .int t] ∧ ∀ r : Int, Q (.int r) H
def spPick : Sp := fun vs H Q _ => ∃ (b : Addr) (m : Int) (F : Hp), vs = [.ref b, .int m] ∧ 0 < m ∧ m < 1073741824 ∧ Ex F H ∧ Bg F H b ∧ ∀ (r : Int) (l : List V), 0 ≤ r → r < m → BgL F l → Q (.int r) (upd H b (.lst l))
section
variable {P : Program} {w : World} {K : PySem.W.Frag} {mg : Str → Option Value} {base : Heap} {A : Ad}
theorem ok_l_mixed (T : Txt K mg A) : FnOk P w K mg base CX0 1 A.f_l_mixed A.d_l_mixed ["_law_number", "_law_turn"] spMixed := by
  refine T.F_l_mixed.ok sc_l_mixed (fun vs H Q E h => ?_) (fun cdv Ar outer s H vs Q E hr h => ?_)
  · obtain ⟨x, t, rfl, _⟩ := h; rfl
  · obtain ⟨x, t, rfl, k⟩ := h
    refine ⟨_, (pss_cons (ps_set (i := 2) sc_l_mixed.nd rfl (Or.inl rfl) (pe_op op_modN (pe_callTy cl_int (by rfl) T.b_int (by decide +kernel) (pa_cons (pe_op op_add (pe_op op_mul (pe_op op_add (pv 0) pe_int) pe_int) (pe_op op_mul (pe_op op_add (pv 1) pe_int) pe_int)) pa_nil)) pe_int))
  (pss_cons (ps_set (i := 3) sc_l_mixed.nd rfl (Or.inl rfl) (pe_op op_modN (pe_callTy cl_int (by rfl) T.b_int (by decide +kernel) (pa_cons (pe_op op_add (pe_op op_add (pe_op op_mul (pv 2) (pv 2)) (pe_op op_mul (pv 2) pe_int)) (pe_op op_mul (pe_op op_add (pv 1) pe_int) pe_int)) pa_nil)) pe_int))
  (pss_one (ps_ret (pe_op op_modN (pe_callTy cl_int (by rfl) T.b_int (by decide +kernel) (pa_cons (pe_op op_add (pe_op op_add (pe_op op_fdivN (pv 3) pe_int) (pe_op op_mul (pv 3) pe_int)) (pv 1)) pa_nil)) pe_int))))), ?_⟩
    walk_at "go"
    exact k _
theorem ok_l_pick (T : Txt K mg A) : FnOk P w K mg base CX0 2 A.f_l_pick A.d_l_pick ["_law_bag_here", "_law_many"] spPick := by
  refine T.F_l_pick.ok sc_l_pick (fun vs H Q E h => ?_) (fun cdv Ar outer s H vs Q E hr h => ?_)
  · obtain ⟨b, m, F, rfl, _⟩ := h; rfl
  · obtain ⟨b, m, F, rfl, m0, m1, e, ⟨fr, l, hb, n, ns, i, hh, t, sd, rfl, hn, i0, h0⟩, k⟩ := h
    refine ⟨_, (pss_cons (ps_set (i := 2) sc_l_pick.nd rfl (Or.inl rfl) (pe_ix ix_list (pv 0) pe_int (fun _ _ => rfl)))
  (pss_cons (ps_asg (pe_op op_add (pv 2) pe_int) (pg_sub (pv 0) pe_int set_list))
  (pss_cons (ps_if (PW.pt (pw_and (pt_cmpR op_eq (pe_ix ix_list (pv 0) pe_int (fun _ _ => rfl)) pe_int (nomark _)) (pw_and1 (pt_cmpR op_lt (pe_ix ix_list (pv 0) pe_int (fun _ _ => rfl)) (pe_callB cl_len (by rfl) T.b_len (by decide +kernel) (pa_cons (pe_ix ix_list (pv 0) pe_int (fun _ _ => rfl)) pa_nil)) (nomark _))))) (pss_cons (ps_set (i := 3) sc_l_pick.nd rfl (Or.inl rfl) (pe_ix ix_list (pe_ix ix_list (pv 0) pe_int (fun _ _ => rfl)) (pe_ix ix_list (pv 0) pe_int (fun _ _ => rfl)) (fun _ _ => rfl)))
  (pss_cons (ps_asg (pe_op op_add (pe_ix ix_list (pv 0) pe_int (fun _ _ => rfl)) pe_int) (pg_sub (pv 0) pe_int set_list))
  (pss_cons (ps_if (pt_cmpR op_lt (pe_callB cl_abs (by rfl) T.b_abs (by decide +kernel) (pa_cons (pv 3) pa_nil)) (pe_op op_pow pe_int pe_int) (nomark _)) (pss_one (ps_ret (pe_op op_modN (pe_callTy cl_int (by rfl) T.b_int (by decide +kernel) (pa_cons (pe_call (ok_l_mixed T) (hr.mono (by decide)) rfl T.g_l_mixed T.F_l_mixed.kp T.bi_l_mixed .nil pass0 (pa_cons (pe_op op_addIB (pe_op op_mul pe_int (pe_callB cl_abs (by rfl) T.b_abs (by decide +kernel) (pa_cons (pv 3) pa_nil))) (pe_cmpR op_lt (pv 3) pe_int (nomark _))) (pa_cons (pv 2) pa_nil))) pa_nil)) (pv 1)))) pss_nil)
  (pss_one (ps_asg (pe_callB cl_abs (by rfl) T.b_abs (by decide +kernel) (pa_cons (pv 3) pa_nil)) (pg_sub (pv 0) pe_int set_list)))))) pss_nil)
  (pss_cons (ps_if (pt_cmpR op_eq (pe_ix ix_list (pv 0) pe_int (fun _ _ => rfl)) pe_int (nomark _)) (pss_one (ps_ret (pe_op op_modN (pe_callTy cl_int (by rfl) T.b_int (by decide +kernel) (pa_cons (pe_call (ok_l_mixed T) (hr.mono (by decide)) rfl T.g_l_mixed T.F_l_mixed.kp T.bi_l_mixed .nil pass0 (pa_cons (pe_ix ix_list (pv 0) pe_int (fun _ _ => rfl)) (pa_cons (pv 2) pa_nil))) pa_nil)) (pv 1)))) pss_nil)
  (pss_cons (ps_set (i := 4) sc_l_pick.nd rfl (Or.inl rfl) (pe_op op_modN (pe_callTy cl_int (by rfl) T.b_int (by decide +kernel) (pa_cons (pe_ix ix_list (pv 0) pe_int (fun _ _ => rfl)) pa_nil)) (pv 1)))
  (pss_cons (ps_asg (pe_op op_fdivN (pe_ix ix_list (pv 0) pe_int (fun _ _ => rfl)) (pv 1)) (pg_sub (pv 0) pe_int set_list))
  (pss_one (ps_ret (pv 4))))))))), ?_⟩
    dsimp only [cxOf, Cx.nox, Cx.wish]
    have fin : ∀ (z : Int) (l : List V), BgL F l → Q (.int (z.fmod m)) (upd H b (.lst l)) := fun z l hl => k _ l (fmod_lt m0).1 (fmod_lt m0).2 hl
    walk_at "go"
    refine iteD (fun c1 => ?_) (fun c1 => ?_)
    · walk_at "go"
      refine iteD (fun c2 => ?_) (fun c2 => ?_)
      · rw [List.length_map] at c2
        obtain ⟨z, hz, _⟩ := atI_ints i0 c2
        walk_at "go"
        refine iteD (fun c3 => ?_) (fun c3 => ?_)
        · walk_at "go"
          refine ⟨_, _, rfl, fun r => ?_⟩
          walk_at "go"
          rw [upd_upd]
          exact fin _ _ ⟨n, ns, i + 1, hh, t + 1, sd, rfl, hn, by omega, h0⟩
        · walk_at "go"
          rw [upd_upd, upd_upd]
          have a0 : 0 ≤ (if z < 0 then -z else z) := by split <;> omega
          generalize (if z < 0 then -z else z) = az at a0 c3 ⊢
          refine iteD (fun c4 => ?_) (fun c4 => ?_)
          · walk_at "go"
            refine ⟨_, _, rfl, fun r => ?_⟩
            walk_at "go"
            exact fin _ _ ⟨n, ns, i + 1, az, t + 1, sd, rfl, hn, by omega, a0⟩
          · walk_at "go"
            rw [upd_upd]
            exact fin _ _ ⟨n, ns, i + 1, az.fdiv m, t + 1, sd, rfl, hn, by omega, Int.fdiv_nonneg a0 (by omega)⟩
      · walk_at "go"
        refine ⟨_, _, rfl, fun r => ?_⟩
        walk_at "go"
        exact fin _ _ ⟨n, ns, i, hh, t + 1, sd, rfl, hn, i0, h0⟩
    · walk_at "go"
      rw [upd_upd]
      exact fin _ _ ⟨n, ns, i, hh.fdiv m, t + 1, sd, rfl, hn, i0, Int.fdiv_nonneg h0 (by omega)⟩
/-- law's bag: a new list [numbers, 0, 0, 0, seed] over a new list of the numbers -/
def spBag (K : PySem.W.Frag) : Sp := fun vs H Q _ => ∃ (a : Addr) (ns : List Int), vs = [.ref a] ∧ SqL K H a (ns.map V.int) ∧ ns.length ≤ 63 ∧ ∀ (b n : Addr) (sd : Int) (H' : Hp), Ex H H' → H b = none → H n = none → b ≠ n → H' n = some (.lst (ns.map V.int)) → H' b = some (.lst [.ref n, .int 0, .int 0, .int 0, .int sd]) → Q (.ref b) H'
theorem ok_l_bag (T : Txt K mg A) : FnOk P w K mg base CX0 1 A.f_l_bag A.d_l_bag ["_law_script"] (spBag K) := by
  refine T.F_l_bag.ok sc_l_bag (fun vs H Q E h => ?_) (fun cdv Ar outer s H vs Q E hr h => ?_)
  · obtain ⟨a, ns, rfl, _⟩ := h; rfl
  · obtain ⟨a, ns, rfl, hS, hl, k⟩ := h
    refine ⟨_, (pss_cons (ps_setLc (i := 1) (own := [("_law_cell", 2)]) (g := gName 2) (tt := tYes) rfl sc_l_bag.nd rfl rfl (sw_true rfl rfl rfl (by decide +kernel)) (pi_list (pv 0)) (blkOk_by (N := ["_law_script", "_law_numbers", "_law_cell", "_law_seed", "_law_at"]) (sc := defScope s_l_bag) (by decide +kernel)) (fun _ _ _ _ _ => (pg_name (i := 2) sc_l_bag.nd rfl (Or.inl rfl))) (fun _ _ _ _ _ => pts_nil) (fun _ _ _ _ _ => (pe_callTy cl_int (by rfl) T.b_int (by decide +kernel) (pa_cons (pv 2) pa_nil))))
  (pss_cons (ps_set (i := 3) sc_l_bag.nd rfl (Or.inl rfl) (pe_callB cl_len (by rfl) T.b_len (by decide +kernel) (pa_cons (pv 1) pa_nil)))
  (pss_cons (ps_for PassesOwn.never rfl (pi_enum (by rfl) T.b_enumerate (pa_cons (pe_slice sl_list (pv 1) po_none (po_some pe_int)) pa_nil)) (pg_tup (n := 2) rfl (pgs_cons (pg_name (i := 4) sc_l_bag.nd rfl (Or.inl rfl)) (pgs_cons (pg_name (i := 2) sc_l_bag.nd rfl (Or.inl rfl)) pgs_nil)) (by rfl))
   (pss_one (ps_set (i := 3) sc_l_bag.nd rfl (Or.inl rfl) (pe_op op_modN (pe_callTy cl_int (by rfl) T.b_int (by decide +kernel) (pa_cons (pe_op op_add (pe_op op_add (pe_op op_mul (pv 3) pe_int) (pe_op op_modN (pe_callTy cl_int (by rfl) T.b_int (by decide +kernel) (pa_cons (pe_callB cl_abs (by rfl) T.b_abs (by decide +kernel) (pa_cons (pv 2) pa_nil)) pa_nil)) pe_int)) (pe_op op_mulIB (pe_op op_add (pv 4) pe_int) (pe_cmpR op_lt (pv 2) pe_int (nomark _)))) pa_nil)) pe_int))))
  (pss_one (ps_ret (pe_lst (pa_cons (pv 1) (pa_cons pe_int (pa_cons pe_int (pa_cons pe_int (pa_cons (pv 3) pa_nil))))))))))), ?_⟩
    dsimp only [cxOf, Cx.nox, Cx.wish]
    walk_at "go"
    refine lc_pure (fun i => .int (ns.getD i 0)) (by simp; have : (63 : Nat) < sizeLine := by decide
                                                     omega) (fun i => .int (ns.getD i 0)) (fun H' e => _root_.Evl.ex_l e hS) (fun i H0 v H' hi y => ⟨y.1, ?_⟩) (fun i H' Q' hi e q => ?_) (fun n hn => ?_)
    · have := y.2; simp at hi this; simp [hi] at this ⊢; exact this.symm
    · walk_at "go"; exact q
    · rw [map_range_getD]
      walk_at "go"
      intro p hp
      walk_at "go"
      refine ⟨fun i σ H' => ∃ (c : Option V) (sd : Int) (t : Option V), σ = [some (.ref a), some (.ref n), c, some (.int sd), t] ∧ Ex (upd (upd H n (.lst (ns.map V.int))) p (.lst (cutV (ns.map V.int) none (some 63)))) H', ⟨none, _, none, rfl, Ex.refl _⟩, fun i σ H' hi ⟨c, sd, t, h1, e1⟩ => ?_, fun i x σ H1 H2 hi ⟨c, sd, t, h1, e1⟩ y => ?_, fun σ H' ⟨c, sd, t, h1, e1⟩ => ?_⟩
      · walk_at "sq"
      · obtain ⟨T', x', y', rfl, hT, rfl, h3, h4⟩ := y
        subst h1
        obtain rfl : V.int (i : Nat) = x' := Option.some.inj h3
        have h5 : ∃ z, y' = V.int z := by
          have h4' := List.mem_of_getElem? h4
          have h6 := List.mem_of_mem_drop (List.mem_of_mem_take h4')
          obtain ⟨z, _, e⟩ := List.mem_map.mp h6
          exact ⟨z, e.symm⟩
        obtain ⟨z, rfl⟩ := h5
        walk_at "go"
        exact ⟨_, _, _, rfl, e1.trans (Ex.new hT)⟩
      · subst h1
        walk_at "go"
        intro b hb
        have eH : Ex H H' := (Ex.new hn).trans ((Ex.new hp).trans e1)
        have hn' : H' n = some (.lst (ns.map V.int)) := e1 _ _ (upd_old hp upd_same)
        exact k b n sd _ (eH.trans (Ex.new hb)) (ex_none eH hb) hn (ne_of_none hn' hb).symm (upd_old hb hn') upd_same
/-- law's choice -/
def spChoice : Sp := fun vs H Q _ => ∃ (b t : Addr) (xs : List V) (F : Hp), vs = [.ref b, .ref t] ∧ Ex F H ∧ Bg F H b ∧ F t = some (.lst xs) ∧ 0 < xs.length ∧ xs.length < 1000000 ∧ ∀ (x : V) (l : List V), x ∈ xs → BgL F l → Q x (upd H b (.lst l))
theorem ok_l_choice (T : Txt K mg A) : FnOk P w K mg base CX0 3 A.f_l_choice A.d_l_choice ["_law_bag_here", "_law_things"] spChoice := by
  refine T.F_l_choice.ok sc_l_choice (fun vs H Q E h => ?_) (fun cdv Ar outer s H vs Q E hr h => ?_)
  · obtain ⟨b, t, xs, F, rfl, _⟩ := h; rfl
  · obtain ⟨b, t, xs, F, rfl, e, B, ht, h0, h1, k⟩ := h
    refine ⟨_, (pss_one (ps_ret (pe_ix ix_list (pv 1) (pe_call (ok_l_pick T) (hr.mono (by decide)) rfl T.g_l_pick T.F_l_pick.kp T.bi_l_pick .nil pass0 (pa_cons (pv 0) (pa_cons (pe_callB cl_len (by rfl) T.b_len (by decide +kernel) (pa_cons (pv 1) pa_nil)) pa_nil))) (fun _ _ => rfl)))), ?_⟩
    dsimp only [cxOf, Cx.nox, Cx.wish]
    walk_at "go"
    refine ⟨b, _, F, rfl, by omega, by omega, e, B, fun r l r0 r1 hl => ?_⟩
    obtain ⟨v, hv, hm⟩ := atI_lt (xs := xs) r0 r1
    have fr := B.fr
    walk_at "go"
    exact k v l (List.mem_of_getElem? hm) hl
end
end Dh
/-! K05Na -/
set_option Elab.async false
set_option linter.all false
set_option maxRecDepth 100000
set_option maxHeartbeats 4000000
namespace Dh
open PySem PySem.Spec L2
open _root_.Evl (Ex)
local macro_rules | `(tactic| walk_at "ex") => `(tactic| first | assumption | ((with_reducible apply ex_mut); (focus assumption); walk_at "ex") | ((with_reducible apply ex_both); walk_at "ex") | ((with_reducible apply ex_new); (focus assumption); walk_at "ex"))
local macro_rules | `(tactic| walk_at "hp") => `(tactic| first | assumption | with_reducible exact upd_same | ((with_reducible apply upd_old); (focus assumption); walk_at "hp") | ((with_reducible apply upd_oth); (focus walk_at "neq"); walk_at "hp") | ((with_reducible apply ex_by); (focus assumption); walk_at "ex") | ((with_reducible apply ex_at); (focus assumption); walk_at "hp"))
local macro_rules | `(tactic| walk_at "neq") => `(tactic| first | assumption | (apply Ne.symm; assumption))
local macro_rules | `(tactic| walk_at "sq") => `(tactic| first | assumption | ((with_reducible apply SqL.of); walk_at "hp") | ((with_reducible apply SqT.of); walk_at "hp"))
local macro_rules | `(tactic| walk_at "side") => `(tactic| first | assumption | decide | exact cm_fmod (by decide) (by decide) | (show _ ≠ (0 : Int); decide) | (show _ ≠ (0 : Int); omega) | exact Or.inr ⟨by decide, by decide⟩ | exact Or.inl ⟨by decide, by decide⟩ | (show CDivN _ _; exact ⟨by decide, by decide⟩) | (show CDivN _ _; exact ⟨by omega, by omega⟩) | exact Or.inl ⟨by omega, by omega⟩ | exact Or.inr ⟨by omega, by omega⟩ | exact ⟨by decide, by decide, by decide⟩)
local macro_rules | `(tactic| walk_at "ix") => `(tactic| first | exact rfl | assumption | exact atI_nat (by assumption))
local macro_rules | `(tactic| walk_at "step0") => `(tactic| first
  | with_reducible refine i_seq ?_
  | with_reducible refine i_asg ?_
  | with_reducible refine i_op ?_
  | ((with_reducible refine' i_var ?hv ?_); (case hv => exact rfl))
  | with_reducible refine i_c ?_
  | with_reducible refine i_cons ?_
  | with_reducible refine i_nil ?_
  | with_reducible refine i_cb ?_
  | with_reducible refine i_call ?_
  | with_reducible refine i_call' ?_
  | with_reducible refine i_un ?_
  | with_reducible refine i_I0 ?_
  | ((with_reducible refine i_I ?hv ?_); (case hv => walk_at "side"))
  | with_reducible refine i_eqI ?_
  | with_reducible refine i_neI ?_
  | with_reducible refine i_eqS ?_
  | with_reducible refine i_neS ?_
  | ((with_reducible refine i_eq ?hv ?_); (case hv => exact rfl))
  | ((with_reducible refine i_ne ?hv ?_); (case hv => exact rfl))
  | with_reducible refine i_int1 ?_
  | with_reducible refine i_abs ?_
  | ((with_reducible refine' i_ixL ?hv ?hw ?_); (case hv => walk_at "sq"); (case hw => walk_at "ix"))
  | ((with_reducible refine' i_ixT ?hv ?hw ?_); (case hv => walk_at "sq"); (case hw => walk_at "ix"))
  | ((with_reducible refine' i_lenL ?hv ?_); (case hv => walk_at "sq"))
  | ((with_reducible refine' i_lenT ?hv ?_); (case hv => walk_at "sq"))
  | with_reducible refine i_addIB ?_
  | with_reducible refine i_mulIB ?_
  | ((with_reducible refine i_lenS ?hv ?_); (case hv => walk_at "side"))
  | with_reducible refine i_tup ?_
  | with_reducible refine i_lst ?_
  | with_reducible refine i_asgG ?_
  | with_reducible refine i_gname ?_
  | with_reducible refine i_gsub ?_
  | ((with_reducible refine' i_setL ?hv ?hw ?_); (case hv => walk_at "hp"); (case hw => exact rfl))
  | with_reducible refine i_ret ?_
  | with_reducible refine i_drop ?_
  | with_reducible refine i_next ?_
  | with_reducible refine i_test ?_
  | with_reducible refine i_B ?_
  | with_reducible refine i_bl ?_
  | with_reducible refine i_not ?_
  | with_reducible refine i_and ?_
  | with_reducible refine i_or ?_
  | ((with_reducible refine' i_app ?hv ?hw ?_); (case hv => walk_at "hp"); (case hw => walk_at "side"))
  | with_reducible refine iteT ?_
  | with_reducible refine iteF ?_
  | with_reducible refine iteNT ?_
  | with_reducible refine iteNF ?_
  | ((with_reducible refine iteT' ?hv ?_); (case hv => first | exact decide_eq_true (by assumption) | exact notF (by assumption) | exact decide_eq_true rfl | exact notF (by decide) | exact decide_eq_true (by decide) | exact decide_eq_true (by simp only [List.length_cons, List.length_nil]; decide)))
  | ((with_reducible refine iteF' ?hv ?_); (case hv => first | exact decide_eq_false (by assumption) | exact notT (by assumption) | exact notT rfl | exact decide_eq_false (by decide) | exact decide_eq_false (by simp only [List.length_cons, List.length_nil]; decide)))
  | with_reducible refine i_forL ?_
  | with_reducible refine i_forT ?_
  | with_reducible refine i_forR ?_
  | with_reducible refine i_forR2 ?_
  | with_reducible refine i_forE ?_
  | with_reducible refine i_forV ?_
  | with_reducible refine i_forS ?_
  | with_reducible refine i_forK ?_
  | with_reducible refine i_lcL ?_
  | with_reducible refine i_lcT ?_
  | with_reducible refine i_lcR ?_
  | with_reducible refine i_lcR2 ?_
  | with_reducible refine i_lcS ?_
  | with_reducible refine i_lcK ?_
  | ((with_reducible refine' fl_L ?hv ?_); (case hv => walk_at "sq"))
  | ((with_reducible refine' fl_T ?hv ?_); (case hv => walk_at "sq"))
  | ((with_reducible refine fl_R ?hv ?hw ?_); (case hv => (first | decide | omega)); (case hw => (first | decide | omega)))
  | ((with_reducible refine fl_R2 ?hv ?_); (case hv => (first | decide | (refine ⟨?_, ?_, ?_, ?_⟩ <;> omega))))
  | ((with_reducible refine' fl_E ?hv ?_); (case hv => walk_at "sq"))
  | ((with_reducible refine' fl_V ?hv ?_); (case hv => walk_at "sq"))
  | with_reducible refine fl_S ?_
  | ((with_reducible refine' fc_L ?hv ?_); (case hv => walk_at "sq"))
  | ((with_reducible refine' fc_T ?hv ?_); (case hv => walk_at "sq"))
  | ((with_reducible refine fc_R ?hv ?hw ?_); (case hv => (first | decide | omega)); (case hw => (first | decide | omega)))
  | with_reducible refine fc_S ?_
  | with_reducible refine i_sl ?_
  | with_reducible refine i_nopart ?_
  | with_reducible refine i_part ?_
  | with_reducible refine i_isint ?_
  | ((with_reducible refine' i_slL ?hv ?_); (case hv => walk_at "sq"))
  | ((with_reducible refine i_slS ?hv ?_); (case hv => walk_at "side"))
  | ((with_reducible refine' i_gtup ?hv ?hw ?_); (case hv => walk_at "sq"); (case hw => exact rfl))
  | with_reducible refine i_gcons ?_
  | with_reducible refine i_gnil ?_
  | ((with_reducible refine' i_listL ?hv ?_); (case hv => walk_at "sq"))
  | ((with_reducible refine' i_listT ?hv ?_); (case hv => walk_at "sq"))
  | ((with_reducible refine' i_tupL ?hv ?_); (case hv => walk_at "sq"))
  | ((with_reducible refine' i_lenD ?hv ?_); (case hv => walk_at "hp"))
  | ((with_reducible refine' i_ty ?hv ?_); (case hv => walk_at "hp"))
  | ((with_reducible refine And.intro ?hv ?_); (case hv => first | exact (by decide : (0 : Nat) ≤ sizeLine) | exact (by decide : (1 : Nat) ≤ sizeLine) | exact (by decide : (2 : Nat) ≤ sizeLine) | exact (by decide : (3 : Nat) ≤ sizeLine) | exact (by decide : (4 : Nat) ≤ sizeLine) | exact (by decide : (5 : Nat) ≤ sizeLine) | exact (by decide : (6 : Nat) ≤ sizeLine)))
  | with_reducible refine i_inC ?_
  | ((with_reducible refine i_addT ?hv ?_); (case hv => walk_at "side"))
  | with_reducible refine i_m1 ?_
  | with_reducible refine i_isstr ?_
  | with_reducible refine is_int_int ?_
  | with_reducible refine is_int_bool ?_
  | with_reducible refine is_str_str ?_
  | ((with_reducible refine' is_tup_tup ?hv ?_); (case hv => walk_at "hp"))
  | with_reducible refine i_ifExp ?_
  | with_reducible refine i_andV ?_
  | with_reducible refine i_orV ?_
  | with_reducible refine i_notV ?_
  | with_reducible refine i_chain ?_
  | ((with_reducible refine' i_inS ?hv ?_); (case hv => walk_at "sq"))
  | ((with_reducible refine' i_niS ?hv ?_); (case hv => walk_at "sq"))
  | ((with_reducible refine' i_inI ?hv ?_); (case hv => walk_at "sq"))
  | ((with_reducible refine' i_niI ?hv ?_); (case hv => walk_at "sq"))
  | with_reducible refine i_dnew ?_
  | with_reducible refine i_dput ?_
  | ((with_reducible refine' i_dputI ?hv ?hw ?_); (case hv => walk_at "hp"); (case hw => walk_at "side"))
  | with_reducible refine i_dget ?_
  | ((with_reducible refine' i_dgetI ?hv ?hw ?_); (case hv => walk_at "hp"); (case hw => assumption))
  | with_reducible refine i_dnotin ?_
  | with_reducible refine i_din ?_
  | ((with_reducible refine' i_dnotinI ?hv ?_); (case hv => walk_at "hp"))
  | with_reducible refine i_dsetd ?_
  | ((with_reducible refine' i_isd ?hv ?_); (case hv => walk_at "hp"))
  | with_reducible refine i_fld ?_
  | with_reducible refine i_sfld ?_
  | with_reducible refine i_dcT ?_
  | with_reducible refine i_dcL ?_
  | with_reducible refine i_truT ?_
  | ((with_reducible refine' i_truL ?hv ?_); (case hv => walk_at "sq"))
  | with_reducible refine i_revL ?_
  | ((with_reducible refine' i_atLx ?hv ?_); (case hv => walk_at "sq"))
  | with_reducible refine i_bm ?_
  | with_reducible refine i_bm0 ?_)
local macro_rules | `(tactic| walk_at "step") => `(tactic| first | walk_at "step0" | with_reducible refine i_ifS ?_)
local macro_rules | `(tactic| walk_at "goj") => `(tactic| repeat (first | walk_at "step0" | with_reducible refine i_ifS (c := tTest _) ?_ | with_reducible refine i_ifS (c := tB _) ?_))
local macro_rules | `(tactic| walk_at "tj") => `(tactic| (intro q hq; repeat (first | exact hq | walk_at "step" | (refine and_q hq (fun h => ?_); clear hq; rename_i hq) | (refine or_q hq (fun h => ?_); clear hq; rename_i hq))))
local macro_rules | `(tactic| walk_at "go") => `(tactic| repeat walk_at "step")

/-- behind H0: F stands frozen, the bag at b is one, all else of H0 is kept -/
structure Sb (F : Hp) (b : Addr) (H0 H : Hp) : Prop where
  ex : Ex F H
  bg : Bg F H b
  kp : Kp b H0 H
theorem Sb.ne {F H0 H : Hp} {b p : Addr} (S : Sb F b H0 H) (n : H p = none) : p ≠ b := by
  obtain ⟨l, hb, _⟩ := S.bg.ex
  exact (ne_of_none hb n).symm
theorem Sb.free {F H0 H : Hp} {b p : Addr} (S : Sb F b H0 H) (n : H p = none) : H0 p = none := by
  obtain ⟨l, hb, _⟩ := S.bg.ex
  exact S.kp.free hb n
theorem Sb.fr {F H0 H : Hp} {b p : Addr} (S : Sb F b H0 H) (n : H p = none) : F p = none := ex_none S.ex n
theorem Sb.start {F H : Hp} {b : Addr} (e : Ex F H) (B : Bg F H b) : Sb F b H H := ⟨e, B, Kp.refl⟩
theorem Sb.pick {F H0 H : Hp} {b : Addr} {l : List V} (S : Sb F b H0 H) (hl : BgL F l) : Sb F b H0 (upd H b (.lst l)) :=
  ⟨ex_mut S.bg.fr S.ex, ⟨S.bg.fr, l, upd_same, hl⟩, S.kp.trans Kp.upd⟩
theorem Sb.new {F H0 H : Hp} {b p : Addr} {o : HO} (S : Sb F b H0 H) (n : H p = none) : Sb F b H0 (upd H p o) := by
  obtain ⟨l, hb, hl⟩ := S.bg.ex
  exact ⟨ex_new n S.ex, ⟨S.bg.fr, l, upd_old n hb, hl⟩, S.kp.mut (S.free n)⟩
theorem Sb.mut {F H0 H : Hp} {b p : Addr} {o : HO} (S : Sb F b H0 H) (f : F p = none) (n : H0 p = none) (ne : p ≠ b) : Sb F b H0 (upd H p o) := by
  obtain ⟨l, hb, hl⟩ := S.bg.ex
  exact ⟨ex_mut f S.ex, ⟨S.bg.fr, l, upd_oth ne.symm hb, hl⟩, S.kp.mut n⟩
theorem i_pick {F H : Hp} {b : Addr} {m : Int} {Q : VK} {E : XK} (e : Ex F H) (B : Bg F H b) (h0 : 0 < m) (h1 : m < 1073741824) (k : ∀ (r : Int) (l : List V), 0 ≤ r → r < m → BgL F l → Q (.int r) (upd H b (.lst l))) : spPick [.ref b, .int m] H Q E := ⟨b, m, F, rfl, h0, h1, e, B, k⟩
theorem i_choice {F H : Hp} {b t : Addr} {xs : List V} {Q : VK} {E : XK} (e : Ex F H) (B : Bg F H b) (ht : F t = some (.lst xs)) (h0 : 0 < xs.length) (h1 : xs.length < 1000000) (k : ∀ (x : V) (l : List V), x ∈ xs → BgL F l → Q x (upd H b (.lst l))) : spChoice [.ref b, .ref t] H Q E := ⟨b, t, xs, F, rfl, e, B, ht, h0, h1, k⟩
theorem BgL.ex {F F' : Hp} {l : List V} (x : Ex F F') (h : BgL F l) : BgL F' l := by
  obtain ⟨n, ns, i, hh, t, s, e, hn, r⟩ := h
  exact ⟨n, ns, i, hh, t, s, e, x _ _ hn, r⟩
theorem Sb.frz {F H0 H : Hp} {b p : Addr} {o : HO} (S : Sb F b H0 H) (n : H p = none) : Sb (upd F p o) b H0 (upd H p o) := by
  obtain ⟨l, hb, hl⟩ := S.bg.ex
  have ne := S.ne n
  exact ⟨ex_both S.ex, ⟨by rw [upd_ne ne.symm]; exact S.bg.fr, l, upd_old n hb, hl.ex (Ex.new (S.fr n))⟩, S.kp.mut (S.free n)⟩
/-- what stands already is frozen -/
theorem Sb.fix {F H0 H : Hp} {b p : Addr} {o : HO} (S : Sb F b H0 H) (h : H p = some o) (f : F p = none) (ne : p ≠ b) : Sb (upd F p o) b H0 H := by
  obtain ⟨l, hb, hl⟩ := S.bg.ex
  refine ⟨fun a u e => ?_, ⟨by rw [upd_ne ne.symm]; exact S.bg.fr, l, hb, hl.ex (Ex.new f)⟩, S.kp⟩
  by_cases q : a = p
  · subst q; rw [upd_same] at e; cases e; exact h
  · rw [upd_ne q] at e; exact S.ex a u e
theorem paired_snoc {α β : Type} {R : α → β → Prop} : ∀ {xs : List α} {ys : List β} {x : α} {y : β}, Paired R xs ys → R x y → Paired R (xs ++ [x]) (ys ++ [y])
  | _, _, _, _, .nil, h => .cons h .nil
  | _, _, _, _, .cons r t, h => .cons r (paired_snoc t h)
theorem name_app {a : Str} {l : List Nat} (h : ∀ c ∈ a.cps.toList, c ∈ l) {b : Str} (h' : ∀ c ∈ b.cps.toList, c ∈ l) : ∀ c ∈ (a ++ b).cps.toList, c ∈ l := by
  intro c hc
  rw [app_L] at hc
  rcases List.mem_append.mp hc with q | q
  · exact h c q
  · exact h' c q
/-- H without what stands at u -/
def less (H : Hp) (u : Addr) : Hp := fun a => if a = u then none else H a
theorem less_same {H : Hp} {u : Addr} : less H u u = none := if_pos rfl
theorem less_ne {H : Hp} {u a : Addr} (n : a ≠ u) : less H u a = H a := if_neg n
theorem Sb.startL {F H : Hp} {b u : Addr} (e : Ex F H) (B : Bg F H b) : Sb F b (less H u) H := ⟨e, B, fun a o _ h => by
  by_cases q : a = u
  · subst q; rw [less_same] at h; cases h
  · rw [less_ne q] at h; exact h⟩
section
variable {P : Program} {w : World} {K : PySem.W.Frag} {mg : Str → Option Value} {base : Heap} {A : Ad}
def spNewName : Sp := fun vs H Q _ => ∃ (b u : Addr) (us : List Str) (F : Hp), vs = [.ref b, .ref u] ∧ Ex F H ∧ Bg F H b ∧ F u = none ∧ u ≠ b ∧ H u = some (.lst (us.map V.str)) ∧ us.length ≤ 600 ∧ (∀ x ∈ us, NameOk x) ∧
  ∀ (x : Str) (H' : Hp), NameOk x → x ∉ us → H' u = some (.lst ((us ++ [x]).map V.str)) → Sb F b (less H u) H' → Q (.str x) H'
theorem letter_at {r : Int} (r0 : 0 ≤ r) (r1 : r < 26) : ∃ c, atI ("abcdefghijklmnopqrstuvwxyz" : Str).cps.toList r = some c ∧ c ∈ letters := by
  obtain ⟨c, h, m⟩ := atI_lt (xs := ("abcdefghijklmnopqrstuvwxyz" : Str).cps.toList) r0 (by
    have : (("abcdefghijklmnopqrstuvwxyz" : Str).cps.toList).length = 26 := by decide +kernel
    rw [this]; omega)
  exact ⟨c, h, List.mem_of_getElem? m⟩
theorem letters_len : ("abcdefghijklmnopqrstuvwxyz" : Str).length ≤ sizeLine := by decide +kernel
theorem one_L (c : Nat) : (⟨#[c]⟩ : Str).cps.toList = [c] := rfl
theorem ok_l_new_name (T : Txt K mg A) : FnOk P w K mg base CX0 3 A.f_l_new_name A.d_l_new_name ["_law_bag_here", "_law_used"] spNewName := by
  refine T.F_l_new_name.ok sc_l_new_name (fun vs H Q E h => ?_) (fun cdv Ar outer s H vs Q E hr h => ?_)
  · obtain ⟨b, u, us, F, rfl, _⟩ := h; rfl
  · obtain ⟨b, u, us, F, rfl, e, B, Fu, ub, hu, us6, usN, k⟩ := h
    refine ⟨_, (pss_cons (ps_set (i := 2) sc_l_new_name.nd rfl (Or.inr rfl) pe_str)
  (pss_cons (ps_set (i := 3) sc_l_new_name.nd rfl (Or.inr rfl) (pe_joinL pe_str (pe_lc (own := [("_law_step", 4)]) (g := gName 4) (tt := tYes) rfl sc_l_new_name.nd (pi_range1 rfl T.b_range (pa_cons (pe_op op_add pe_int (pe_call (ok_l_pick T) (hr.mono (by decide)) rfl T.g_l_pick T.F_l_pick.kp T.bi_l_pick .nil pass0 (pa_cons (pv 0) (pa_cons pe_int pa_nil)))) pa_nil)) (blkOk_by (N := ["_law_bag_here", "_law_used", "_law_letters", "_law_told_here", "_law_step", "_law_near", "_law_at", "_law_tails", "_law_k", "_law_tail"]) (sc := defScope s_l_new_name) (by decide +kernel)) (fun _ _ _ _ _ => (pg_name (i := 4) sc_l_new_name.nd rfl (Or.inl rfl))) (fun _ _ _ _ _ => pts_nil) (fun _ _ _ _ _ => (pe_ix ix_str (pv 2) (pe_call (ok_l_pick T) (hr.mono (by decide)) rfl T.g_l_pick T.F_l_pick.kp T.bi_l_pick .nil pass0 (pa_cons (pv 0) (pa_cons pe_int pa_nil))) (fun _ _ => rfl))))))
  (_root_.Evl.pss_cut (ps_if (PW.pt (pw_and (pt_tru (pv 1)) (pw_and1 (pt_cmpR op_eq (pe_call (ok_l_pick T) (hr.mono (by decide)) rfl T.g_l_pick T.F_l_pick.kp T.bi_l_pick .nil pass0 (pa_cons (pv 0) (pa_cons pe_int pa_nil))) pe_int (nomark _))))) (pss_cons (ps_set (i := 5) sc_l_new_name.nd rfl (Or.inl rfl) (pe_slice sl_str (pe_ix ix_list (pv 1) (pe_call (ok_l_pick T) (hr.mono (by decide)) rfl T.g_l_pick T.F_l_pick.kp T.bi_l_pick .nil pass0 (pa_cons (pv 0) (pa_cons (pe_callB cl_len (by rfl) T.b_len (by decide +kernel) (pa_cons (pv 1) pa_nil)) pa_nil))) (fun _ _ => rfl)) po_none (po_some pe_int)))
  (pss_cons (ps_set (i := 6) sc_l_new_name.nd rfl (Or.inl rfl) (pe_call (ok_l_pick T) (hr.mono (by decide)) rfl T.g_l_pick T.F_l_pick.kp T.bi_l_pick .nil pass0 (pa_cons (pv 0) (pa_cons (pe_callB cl_lenS (by rfl) T.b_len (by decide +kernel) (pa_cons (pv 5) pa_nil)) pa_nil))))
  (pss_one (ps_set (i := 3) sc_l_new_name.nd rfl (Or.inr rfl) (pe_op op_addT (pe_op op_addT (pe_slice sl_str (pv 5) po_none (po_some (pv 6))) (pe_ix ix_str (pv 2) (pe_call (ok_l_pick T) (hr.mono (by decide)) rfl T.g_l_pick T.F_l_pick.kp T.bi_l_pick .nil pass0 (pa_cons (pv 0) (pa_cons pe_int pa_nil))) (fun _ _ => rfl))) (pe_slice sl_str (pv 5) (po_some (pe_op op_add (pv 6) pe_int)) po_none)))))) pss_nil)
  (_root_.Evl.pss_cut (ps_if (pt_cmpR op_in_seq (pv 3) (pv 1) rfl) (pss_cons (ps_setLc (i := 7) (own := [("_law_k", 8)]) (g := gName 8) (tt := tYes) rfl sc_l_new_name.nd rfl rfl (sw_true rfl rfl rfl (by decide +kernel)) (pi_range1 rfl T.b_range (pa_cons pe_int pa_nil)) (blkOk_by (N := ["_law_bag_here", "_law_used", "_law_letters", "_law_told_here", "_law_step", "_law_near", "_law_at", "_law_tails", "_law_k", "_law_tail"]) (sc := defScope s_l_new_name) (by decide +kernel)) (fun _ _ _ _ _ => (pg_name (i := 8) sc_l_new_name.nd rfl (Or.inl rfl))) (fun _ _ _ _ _ => pts_nil) (fun _ _ _ _ _ => (pe_op op_addT (pe_ix ix_str (pv 2) (pe_op op_fdivN (pv 8) pe_int) (fun _ _ => rfl)) (pe_ix ix_str (pv 2) (pe_op op_modN (pe_callTy cl_int (by rfl) T.b_int (by decide +kernel) (pa_cons (pv 8) pa_nil)) pe_int) (fun _ _ => rfl)))))
  (pss_one (ps_set (i := 3) sc_l_new_name.nd rfl (Or.inr rfl) (pe_ix ix_list (pe_lc (own := [("_law_tail", 9)]) (g := gName 9) rfl sc_l_new_name.nd (pi_list (pv 7)) (blkOk_by (N := ["_law_bag_here", "_law_used", "_law_letters", "_law_told_here", "_law_step", "_law_near", "_law_at", "_law_tails", "_law_k", "_law_tail"]) (sc := defScope s_l_new_name) (by decide +kernel)) (fun _ _ _ _ _ => (pg_name (i := 9) sc_l_new_name.nd rfl (Or.inl rfl))) (fun _ _ _ _ _ => pts_one (pt_cmpR (show OpR _ (compareOp .NotIn) (rIn K true) from op_notIn_seq) (pe_op op_addT (pe_slice sl_str (pv 3) po_none (po_some pe_int)) (pv 9)) (pv 1) rfl)) (fun _ _ _ _ _ => (pe_op op_addT (pe_slice sl_str (pv 3) po_none (po_some pe_int)) (pv 9)))) pe_int (fun _ _ => rfl))))) pss_nil)
  (pss_cons (ps_expr (pe_bm PySem.F.plainAttrs_list PySem.F.slot_list_append PySem.F.type_list_append mt_append (pv 1) (pa_cons (pv 3) pa_nil)))
  (pss_one (ps_ret (pv 3)))))))), ?_⟩
    dsimp only [cxOf, Cx.nox, Cx.wish]
    have S0 := Sb.startL (u := u) e B
    have hu0 : less H u u = none := less_same
    walk_at "go"
    refine i_pick S0.ex S0.bg (by decide) (by decide) fun r l r0 r1 hl => ?_
    have S1 := S0.pick hl
    have hu1 := upd_oth (u' := .lst l) ub hu
    generalize upd H b (.lst l) = H1 at S1 hu1
    walk_at "go"
    refine lc_eff fun D hD => ⟨fun i acc H' => ∃ ys : List Str, acc = ys.map V.str ∧ Sb F b (less H u) H' ∧ H' u = some (.lst (us.map V.str)) ∧ ys.length = i ∧ ∀ y ∈ ys, ∃ c, c ∈ letters ∧ y = ⟨#[c]⟩, ?_, fun _ _ _ _ _ => trivial, fun i x acc H2 H3 hi h hacc y => ?_, fun acc H2 h hacc => ?_⟩
    · exact ⟨[], rfl, S1.new hD, upd_old hD hu1, rfl, by simp⟩
    · obtain ⟨ys, rfl, S, h2, h3, h4⟩ := h
      obtain ⟨rfl, rfl⟩ := y
      have Db := S1.ne hD
      have Du : D ≠ u := (ne_of_none hu1 hD).symm
      walk_at "go"
      refine i_pick S.ex S.bg (by decide) (by decide) fun r l r0 r1 hl => ?_
      have S' := S.pick hl
      obtain ⟨c, hc, lc⟩ := letter_at r0 r1
      refine i_ixS letters_len hc ?_
      have hi' : i < 7 := by omega
      refine lcK (upd_oth Db hacc) (by rw [List.length_map, sizeLine_eq]; omega) ⟨ys ++ [⟨#[c]⟩], by simp, S'.mut (S1.fr hD) (S1.free hD) Db, by walk_at "hp", by simp [h3], ?_⟩
      intro y hy
      rcases List.mem_append.mp hy with q | q
      · exact h4 y q
      · simp at q; exact ⟨c, lc, q⟩
    obtain ⟨ys, rfl, S, h2, h3, h4⟩ := h
    have j1 : ∀ (l : List Str), (∀ y ∈ l, ∃ c, c ∈ letters ∧ y = (⟨#[c]⟩ : Str)) → ((l.map fun y => y.cps.toList).flatten).length = l.length ∧ (l.map (·.length)).sum = l.length ∧ ∀ c ∈ (l.map fun y => y.cps.toList).flatten, c ∈ letters := by
      intro l
      induction l with
      | nil => simp
      | cons a r ih =>
        intro h
        obtain ⟨c, hc, rfl⟩ := h a List.mem_cons_self
        obtain ⟨i1, i2, i3⟩ := ih fun y hy => h y (List.mem_cons_of_mem _ hy)
        have : (⟨#[c]⟩ : Str).length = 1 := rfl
        refine ⟨by simp [i1, Nat.add_comm], by simp [i2, this, Nat.add_comm], ?_⟩
        intro d hd
        simp at hd
        rcases hd with rfl | ⟨y, hy, hd⟩
        · exact hc
        · exact i3 d (by simp; exact ⟨y, hy, hd⟩)
    obtain ⟨j1, j2, j3⟩ := j1 ys h4
    have e0 : (PySem.Str.ofString "").length = 0 := by decide +kernel
    refine i_joinL (SqL.of hacc) (by rw [j2, e0]; omega) ?_
    have T1 : 1 ≤ (Txt.join "" ys).length ∧ (Txt.join "" ys).length ≤ 6 ∧ ∀ c ∈ (Txt.join "" ys).cps.toList, c ∈ letters := by
      rw [len_L, join_L, j1]
      exact ⟨by omega, by omega, j3⟩
    generalize Txt.join "" ys = told at T1
    clear j1 j2 j3 h3 h4 hacc
    clear ys
    walk_at "go"
    refine ⟨fun σ' H' => ∃ (tl : Str) (o4 o5 o6 o7 o8 o9 : Option V), σ' = [some (.ref b), some (.ref u), some (.str "abcdefghijklmnopqrstuvwxyz"), some (.str tl), o4, o5, o6, o7, o8, o9] ∧ Sb F b (less H u) H' ∧ H' u = some (.lst (us.map V.str)) ∧ 1 ≤ tl.length ∧ tl.length ≤ 6 ∧ ∀ c ∈ tl.cps.toList, c ∈ letters, ?_, fun σ' H' h => ?_⟩
    · walk_at "go"
      refine iteB (fun c1 => ?_) (fun c1 => ?_)
      · walk_at "go"
        refine i_pick S.ex S.bg (by decide) (by decide) fun r l r0 r1 hl => ?_
        have S3 := S.pick hl
        have h3 := upd_oth (u' := .lst l) ub h2
        generalize upd H2 b (.lst l) = H3 at S3 h3
        walk_at "go"
        refine iteD (fun c2 => ?_) (fun c2 => ?_)
        · walk_at "go"
          have us0 : 0 < us.length := by
            cases us with
            | nil => simp at c1
            | cons a r => simp
          refine i_pick S3.ex S3.bg (by rw [List.length_map]; omega) (by rw [List.length_map]; omega) fun r l r0 r1 hl => ?_
          have S4 := S3.pick hl
          have h4 := upd_oth (u' := .lst l) ub h3
          generalize upd H3 b (.lst l) = H4 at S4 h4
          obtain ⟨z, hz, hm⟩ := atI_lt (xs := us.map V.str) r0 r1
          obtain ⟨nz, hnz, rfl⟩ := List.mem_map.mp (List.mem_of_getElem? hm)
          have NZ := usN nz hnz
          have lz : nz.length ≤ sizeLine := Nat.le_trans NZ.hi (by decide)
          walk_at "go"
          have N1 : (cutS nz none (some 6)).cps.toList = nz.cps.toList.take 6 := cut_to (by decide)
          have N2 : 1 ≤ (cutS nz none (some 6)).length ∧ (cutS nz none (some 6)).length ≤ 6 ∧ ∀ c ∈ (cutS nz none (some 6)).cps.toList, c ∈ letters := by
            have := NZ.lo
            rw [len_L] at this
            rw [len_L, N1, List.length_take]
            refine ⟨by omega, by omega, fun c hc => NZ.ls c (List.mem_of_mem_take hc)⟩
          clear N1
          generalize cutS nz none (some 6) = near at N2
          have ln : near.length ≤ sizeLine := Nat.le_trans N2.2.1 (by decide)
          walk_at "go"
          refine i_pick S4.ex S4.bg (by omega) (by omega) fun a l a0 a1 hl => ?_
          have S5 := S4.pick hl
          have h5 := upd_oth (u' := .lst l) ub h4
          generalize upd H4 b (.lst l) = H5 at S5 h5
          walk_at "go"
          refine i_pick S5.ex S5.bg (by decide) (by decide) fun r l r0 r1 hl => ?_
          have S6 := S5.pick hl
          have h6 := upd_oth (u' := .lst l) ub h5
          generalize upd H5 b (.lst l) = H6 at S6 h6
          obtain ⟨c, hc, lc⟩ := letter_at r0 r1
          refine i_ixS letters_len hc ?_
          have E1 : (cutS near none (some a)).cps.toList = near.cps.toList.take a.toNat := cut_to a0
          have E2 : (cutS near (some (a + 1)) none).cps.toList = near.cps.toList.drop (a + 1).toNat := cut_from (by omega)
          have L0 : near.length = near.cps.toList.length := len_L near
          have L1 : (cutS near none (some a)).length = a.toNat := by rw [len_L, E1, List.length_take]; omega
          have L2' : (cutS near (some (a + 1)) none).length = near.length - (a + 1).toNat := by rw [len_L, E2, List.length_drop, L0]
          have L3 : (⟨#[c]⟩ : Str).length = 1 := rfl
          have L4 : (cutS near none (some a) ++ ⟨#[c]⟩).length = a.toNat + 1 := by rw [len_L, app_L, List.length_append, ← len_L, L1]; rfl
          have sl : (6 : Nat) < sizeLine := by decide
          refine i_addT (by rw [L1, L3]; omega) ?_
          walk_at "go"
          refine i_addT (by rw [L4, L2']; omega) ?_
          walk_at "go"
          refine ⟨cutS near none (some a) ++ ⟨#[c]⟩ ++ cutS near (some (a + 1)) none, _, _, _, _, _, _, rfl, S6, h6, ?_, ?_, ?_⟩
          · rw [len_L, app_L, List.length_append, ← len_L, L4]; omega
          · rw [len_L, app_L, List.length_append, ← len_L, ← len_L, L4, L2']; omega
          · refine name_app (name_app ?_ ?_) ?_
            · intro d hd; rw [E1] at hd; exact N2.2.2 d (List.mem_of_mem_take hd)
            · intro d hd; rw [one_L] at hd; simp at hd; subst hd; exact lc
            · intro d hd; rw [E2] at hd; exact N2.2.2 d (List.mem_of_mem_drop hd)
        · walk_at "go"
          exact ⟨told, _, _, _, _, _, _, rfl, S3, h3, T1⟩
      · walk_at "go"
        exact ⟨told, _, _, _, _, _, _, rfl, S, h2, T1⟩
    · obtain ⟨tl, o4, o5, o6, o7, o8, o9, rfl, S, hu2, T2⟩ := h
      refine ⟨fun σ' H' => ∃ (x : Str) (o4 o5 o6 o7 o8 o9 : Option V), σ' = [some (.ref b), some (.ref u), some (.str "abcdefghijklmnopqrstuvwxyz"), some (.str x), o4, o5, o6, o7, o8, o9] ∧ Sb F b (less H u) H' ∧ H' u = some (.lst (us.map V.str)) ∧ NameOk x ∧ x ∉ us, ?_, fun σ' H' h => ?_⟩
      · walk_at "go"
        refine iteD (fun c1 => ?_) (fun c1 => ?_)
        · walk_at "go"
          refine lc_pure (fun k => .str (tailOf k)) (by decide) (fun k => .int (0 + (k : Int))) (fun _ _ => trivial) (fun i H0 v H' hi y => y) (fun i H' Q' hi e q => ?_) (fun p hp => ?_)
          · walk_at "go"
            refine i_ixS letters_len (lt_div i hi) ?_
            walk_at "go"
            refine i_ixS letters_len (lt_mod i hi) ?_
            refine i_addT (by show (2 : Nat) ≤ sizeLine; decide) ?_
            exact q
          have S3 := S.new (o := .lst ((List.range (676 : Int).toNat).map fun k => .str (tailOf k))) hp
          have h3 := upd_old (u' := .lst ((List.range (676 : Int).toNat).map fun k => .str (tailOf k))) hp hu2
          walk_at "go"
          have t6 : (cutS tl none (some 6)).cps.toList = tl.cps.toList.take 6 := cut_to (by decide)
          have t6l : (cutS tl none (some 6)).length ≤ 6 ∧ 1 ≤ (cutS tl none (some 6)).length ∧ ∀ c ∈ (cutS tl none (some 6)).cps.toList, c ∈ letters := by
            have := T2.1
            rw [len_L] at this
            rw [len_L, t6, List.length_take]
            exact ⟨by omega, by omega, fun c hc => T2.2.2 c (List.mem_of_mem_take hc)⟩
          have tlz : tl.length ≤ sizeLine := Nat.le_trans T2.2.1 (by decide)
          have tal : ∀ i, (tailOf i).length = 2 := fun i => by rw [tailOf, len_L, app_L]; rfl
          have sl : (8 : Nat) < sizeLine := by decide
          generalize hc6 : cutS tl none (some 6) = six at t6 t6l
          refine lc_pureIf (fun i => .str (six ++ tailOf i)) (fun i => !decide (six ++ tailOf i ∈ us)) (by simp; decide) (fun i => .str (tailOf i)) (fun H' e => ?_) (fun i H0 v H' hi y => ⟨y.1, ?_⟩) (fun i H' Q' hi e q => ?_) (fun i H' Q' hi ci e q => ?_) (fun p2 hp2 => ?_)
          · exact SqL.of (e _ _ upd_same)
          · have := y.2
            rw [List.length_map, List.length_range] at hi
            rw [List.getElem?_map, List.getElem?_range hi] at this
            exact (Option.some.inj this).symm
          · have e3 := e _ _ h3
            walk_at "go"
            rw [hc6]
            refine i_addT (by rw [tal]; omega) ?_
            walk_at "go"
            exact q
          · walk_at "go"
            rw [hc6]
            refine i_addT (by rw [tal]; omega) ?_
            exact q
          · obtain ⟨k0, hk0, hn0⟩ := cand_free six (us := us) (by omega)
            have hpos : 0 < (((List.range ((List.range (676 : Int).toNat).map fun k => V.str (tailOf k)).length).filter fun i => !decide (six ++ tailOf i ∈ us)).map fun i => V.str (six ++ tailOf i)).length := by
              rw [List.length_map]
              apply List.length_pos_of_mem (a := k0)
              rw [List.mem_filter]
              refine ⟨by simp; exact hk0, by simp [hn0]⟩
            obtain ⟨v, hv, hm⟩ := atI_lt (xs := ((List.range ((List.range (676 : Int).toNat).map fun k => V.str (tailOf k)).length).filter fun i => !decide (six ++ tailOf i ∈ us)).map fun i => V.str (six ++ tailOf i)) (i := 0) (by decide) (by omega)
            obtain ⟨k1, hk1, rfl⟩ := List.mem_map.mp (List.mem_of_getElem? hm)
            rw [List.mem_filter] at hk1
            have hk2 : k1 < 676 := by have := hk1.1; simp at this; exact this
            have hk3 : six ++ tailOf k1 ∉ us := by simpa using hk1.2
            have S4 := S3.new (o := .lst (((List.range ((List.range (676 : Int).toNat).map fun k => V.str (tailOf k)).length).filter fun i => !decide (six ++ tailOf i ∈ us)).map fun i => V.str (six ++ tailOf i))) hp2
            have h4 := upd_old (u' := .lst (((List.range ((List.range (676 : Int).toNat).map fun k => V.str (tailOf k)).length).filter fun i => !decide (six ++ tailOf i ∈ us)).map fun i => V.str (six ++ tailOf i))) hp2 h3
            walk_at "go"
            refine ⟨six ++ tailOf k1, _, _, _, _, _, _, rfl, S4, h4, ⟨?_, ?_, ?_⟩, hk3⟩
            · rw [len_L, app_L, List.length_append, ← len_L, ← len_L, tal]; omega
            · rw [len_L, app_L, List.length_append, ← len_L, ← len_L, tal]; omega
            · exact name_app t6l.2.2 (tail_ls k1 hk2).2
        · walk_at "go"
          exact ⟨tl, _, _, _, _, _, _, rfl, S, hu2, ⟨T2.1, by omega, T2.2.2⟩, c1⟩
      · obtain ⟨x, o4, o5, o6, o7, o8, o9, rfl, S, hu2, N, nin⟩ := h
        have zl : (us.map V.str).length < sizeLine := by rw [List.length_map, sizeLine_eq]; omega
        walk_at "go"
        refine k x _ N nin ?_ (S.mut Fu hu0 ub)
        rw [upd_same, List.map_append]; rfl
end
end Dh
/-! DhMore -/
set_option Elab.async false
set_option linter.all false
set_option maxRecDepth 100000
set_option maxHeartbeats 4000000
namespace Dh
open PySem PySem.Spec L2
open _root_.Evl (Ex)
/-! ### dicts, fields, locks -/
section
variable {σ : L2.St} {H : Hp} {Q : VK} {v : V} {ta tb te tl tk tv : TE} {t u : TS} {K : PySem.W.Frag} {D : Ends} {g : TG} {tt : TT}
theorem upd_lock {d p : Addr} {o u l : HO} (h : H d = some u) (ne : p ≠ d) : upd (upd (upd H d o) p l) d u = upd H p l := by
  funext a
  unfold upd
  by_cases q : a = d
  · subst q
    rw [if_pos rfl, if_neg (fun z => ne z.symm), h]
  · rw [if_neg q]
    by_cases q2 : a = p
    · rw [if_pos q2, if_pos q2]
    · rw [if_neg q2, if_neg q2, if_neg q]
theorem i_lock {d : Addr} {u : HO} {t : TE} (h : H d = some u) (m : Mut (some u)) (k : ∀ od, t σ (upd H d (.frz od u)) fun v H' => H' d = some (.frz od u) ∧ Q v (upd H' d u)) : tLockE t σ H Q := ⟨d, u, h, m, k⟩
theorem i_dnew (k : ∀ p, H p = none → Q (.ref p) (upd H p (.dK []))) : tDNewK σ H Q := k
theorem i_dput (k : tv σ H fun v H1 => ta σ H1 fun x H2 => tk σ H2 fun y H3 => ∃ a H4, x = .ref a ∧ DPut H3 a y v H4 ∧ D.nx σ H4) : sDPut ta tk tv D σ H := k
theorem i_dputI {p : Addr} {kvs : List (Key × V)} {n : Int} {r : Hp → Prop} (h : H p = some (.dK kvs)) (l : kvs.length < sizeLine) (k : r (upd H p (.dK (putK kvs (Sum.inl n) v)))) : ∃ a H4, V.ref p = .ref a ∧ DPut H a (.int n) v H4 ∧ r H4 := ⟨p, _, rfl, DPut.k (k := Sum.inl n) h l, k⟩
theorem i_dget (k : ta σ H fun x H1 => tk σ H1 fun y H2 => ∃ a v, x = .ref a ∧ DGet H2 a y (some v) ∧ Q v H2) : tDGet ta tk σ H Q := k
theorem i_dgetI {p : Addr} {kvs : List (Key × V)} {n : Int} {w : V} {r : V → Prop} (h : H p = some (.dK kvs)) (e : valV kvs (Sum.inl n) = some w) (k : r w) : ∃ a v, V.ref p = .ref a ∧ DGet H a (.int n) (some v) ∧ r v := ⟨p, w, rfl, by rw [← e]; exact DGet.k (k := Sum.inl n) h, k⟩
theorem i_dnotin (k : tk σ H fun y H1 => ta σ H1 fun x H2 => ∃ a o, x = .ref a ∧ DGet H2 a y o ∧ Q (.bl (!o.isSome)) H2) : tDNotIn tk ta σ H Q := k
theorem i_din (k : tk σ H fun y H1 => ta σ H1 fun x H2 => ∃ a o, x = .ref a ∧ DGet H2 a y o ∧ Q (.bl o.isSome) H2) : tDIn tk ta σ H Q := k
theorem i_dnotinI {p : Addr} {kvs : List (Key × V)} {n : Int} {r : Option V → Prop} (h : H p = some (.dK kvs)) (k : r (valV kvs (Sum.inl n))) : ∃ a o, V.ref p = .ref a ∧ DGet H a (.int n) o ∧ r o := ⟨p, _, rfl, DGet.k (k := Sum.inl n) h, k⟩
theorem putK_le {kvs : List (Key × V)} {k : Key} {x : V} : (putK kvs k x).length ≤ kvs.length + 1 := by
  unfold putK
  split <;> simp
theorem i_dsetd {tx : TE} (k : ta σ H fun x H1 => ∃ a, x = .ref a ∧ IsD H1 a ∧ tk σ H1 fun y H2 => tx σ H2 fun z H3 => ∃ (kvs : List (Key × V)) (k : Key), H3 a = some (.dK kvs) ∧ y = kV k ∧ kvs.length < sizeLine ∧ (∀ v, valV kvs k = some v → Q v H3) ∧ (valV kvs k = none → Q z (upd H3 a (.dK (putK kvs k z))))) : tDSetd ta tk tx σ H Q := k
theorem i_isd {p : Addr} {kvs : List (Key × V)} {r : Addr → Prop} (h : H p = some (.dK kvs)) (k : r p) : ∃ a, V.ref p = .ref a ∧ IsD H a ∧ r a := ⟨p, rfl, .inl ⟨kvs, Rd.of h⟩, k⟩
theorem i_fld {f : Str} (k : ta σ H fun x H1 => ∃ a C dx fs v, x = .ref a ∧ H1 a = some (.ins C dx fs) ∧ Cls K C ∧ NoAttr K C f ∧ fs.lookup f = some v ∧ Q v H1) : tFld K ta f σ H Q := k
theorem i_fldV {a C dx : Addr} {fs : List (Str × V)} {f : Str} (h : H a = some (.ins C dx fs)) (c : Cls K C) (n : NoAttr K C f) (l : fs.lookup f = some v) (k : Q v H) : ∃ a' C dx fs v, V.ref a = .ref a' ∧ H a' = some (.ins C dx fs) ∧ Cls K C ∧ NoAttr K C f ∧ fs.lookup f = some v ∧ Q v H := ⟨a, C, dx, fs, v, rfl, h, c, n, l, k⟩
theorem i_sfld {f : Str} (k : tv σ H fun y H1 => ta σ H1 fun x H2 => ∃ a C dx fs, x = .ref a ∧ H2 a = some (.ins C dx fs) ∧ Cls K C ∧ NoAttr K C f ∧ fs.length < 1000 ∧ D.nx σ (upd H2 a (.ins C dx (putF f y fs)))) : sFld K ta tv f D σ H := k
theorem i_sfldV {a C dx : Addr} {fs : List (Str × V)} {f : Str} {r : Hp → Prop} (h : H a = some (.ins C dx fs)) (c : Cls K C) (n : NoAttr K C f) (l : fs.length < 1000) (k : r (upd H a (.ins C dx (putF f v fs)))) : ∃ a' C dx fs, V.ref a = .ref a' ∧ H a' = some (.ins C dx fs) ∧ Cls K C ∧ NoAttr K C f ∧ fs.length < 1000 ∧ r (upd H a' (.ins C dx (putF f v fs))) := ⟨a, C, dx, fs, rfl, h, c, n, l, k⟩
/-! a dict comprehension -/
def RawD (J : It) (g : TG) (tt : TT) (tk tv : TE) (vs : List Nat) (σ : L2.St) (H1 : Hp) (Q : VK) : Prop := ∀ D, H1 D = none → ∃ W : Nat → Nat → Hp → Prop, (∃ m, W 0 m (upd H1 D (.dK []))) ∧ ∀ i m H, W i m H →
  (J.stop i H ∧ Q (.ref D) H) ∨ (J.go i H ∧ ∃ Nx : Hp → Prop, (∀ H', Nx H' → ∃ m', m' < m ∧ W (i + 1) m' H') ∧ ∀ x H', J.yld i H x H' → g x (wipe σ vs) H' fun σ2 H2 => wipe σ2 vs = wipe σ vs ∧ tt σ2 H2 fun b H3 =>
    if b = true then tk σ2 H3 fun y H4 => tv σ2 H4 fun z H5 => ∃ kvs k, y = kV k ∧ H5 D = some (.dK kvs) ∧ kvs.length < sizeLine ∧ Nx (upd H5 D (.dK (putK kvs k z))) else Nx H3)
theorem i_dcT {vs : List Nat} (k : tl σ H (AtT K (RawD · g tt tk tv vs σ · Q))) : tDc (iTup K tl) g tt tk tv vs σ H Q := k
theorem i_dcL {vs : List Nat} (k : tl σ H (AtL K (RawD · g tt tk tv vs σ · Q))) : tDc (iList K tl) g tt tk tv vs σ H Q := k
theorem valV_none_of {kvs : List (Key × V)} {k : Key} (h : ∀ p ∈ kvs, p.1 ≠ k) : valV kvs k = none := by
  induction kvs with
  | nil => rfl
  | cons a r ih =>
    rw [valV_neg (h a List.mem_cons_self)]
    exact ih fun p hp => h p (List.mem_cons_of_mem _ hp)
theorem dc_pure {J : It} {n j : Nat} {G : Hp → Prop} {Y : Nat → Hp → V → Hp → Prop} (w : Walk J n G Y) (kf : Nat → Key) (vf : Nat → V) (hn : n < sizeLine) (x : Nat → V) (hd : ∀ a b, a < b → b < n → kf a ≠ kf b) (hG : ∀ H', Ex H H' → G H') (hY : ∀ i H0 v H', i < n → Y i H0 v H' → H' = H0 ∧ v = x i)
    (hk : ∀ i H' (Q' : VK), i < n → Ex H H' → Q' (kV (kf i)) H' → tk ((σ.set j none).set j (some (x i))) H' Q')
    (hv : ∀ i H' (Q' : VK), i < n → Ex H H' → Q' (vf i) H' → tv ((σ.set j none).set j (some (x i))) H' Q')
    (k : ∀ p, H p = none → Q (.ref p) (upd H p (.dK ((List.range n).map fun i => (kf i, vf i))))) : RawD J (gName j) tYes tk tv [j] σ H Q := by
  intro Dl hD
  refine ⟨fun i m H' => m = n - i ∧ i ≤ n ∧ H' = upd H Dl (.dK ((List.range i).map fun i => (kf i, vf i))), ⟨n, by simp, Nat.zero_le _, rfl⟩, fun i m H' ⟨hm, hi, e⟩ => ?_⟩
  subst e
  by_cases hlt : i < n
  · refine .inr ⟨w.goes i _ hlt (hG _ (Ex.new hD)), fun H2 => H2 = upd H Dl (.dK ((List.range (i + 1)).map fun i => (kf i, vf i))), fun H2 e => ⟨n - (i + 1), by omega, rfl, by omega, e⟩, fun v H2 y => ?_⟩
    obtain ⟨rfl, rfl⟩ := hY _ _ _ _ hlt (w.yields i _ v H2 hlt (hG _ (Ex.new hD)) y)
    refine ⟨wipe_set _ _ _, ?_⟩
    dsimp only [tYes]
    refine iteT (hk i _ _ hlt (Ex.new hD) (hv i _ _ hlt (Ex.new hD) ⟨_, kf i, rfl, upd_same, by simp; omega, ?_⟩))
    show _ = _
    rw [upd_upd, putK_new _ (valV_none_of ?_), List.range_succ, List.map_append]; rfl
    intro p hp
    obtain ⟨a, ha, rfl⟩ := List.mem_map.mp hp
    exact hd a i (List.mem_range.mp ha) hlt
  · have e : i = n := by omega
    subst e
    exact .inl ⟨w.stops _ (hG _ (Ex.new hD)), k Dl hD⟩
theorem fd_T {p : Addr} {xs : List V} {vs : List Nat} (h : SqT K H p xs) (k : RawD (Itt K p) g tt tk tv vs σ H Q) : AtT K (RawD · g tt tk tv vs σ · Q) (.ref p) H := ⟨p, rfl, ⟨xs, h⟩, k⟩
end
/-! ### lists by pairs -/
theorem paired_map {α β : Type} {R : α → β → Prop} {g : β → α} : ∀ {es : List β}, (∀ e ∈ es, R (g e) e) → Paired R (es.map g) es
  | [], _ => .nil
  | e :: r, h => .cons (h e List.mem_cons_self) (paired_map fun x hx => h x (List.mem_cons_of_mem _ hx))
theorem paired_get {α β : Type} {R : α → β → Prop} : ∀ {xs : List α} {ys : List β} {i : Nat} {x : α}, Paired R xs ys → xs[i]? = some x → ∃ y, ys[i]? = some y ∧ R x y
  | _, _, _, _, .nil, e => by simp at e
  | _, _, 0, _, .cons r _, e => by simp at e; subst e; exact ⟨_, rfl, r⟩
  | _, _, i + 1, x, .cons _ t, e => by
    obtain ⟨u, h1, h2⟩ := paired_get (i := i) (x := x) t (by simpa using e)
    exact ⟨u, by simpa using h1, h2⟩
theorem paired_app {α β : Type} {R : α → β → Prop} : ∀ {xs xs' : List α} {ys ys' : List β}, Paired R xs ys → Paired R xs' ys' → Paired R (xs ++ xs') (ys ++ ys')
  | _, _, _, _, .nil, h => h
  | _, _, _, _, .cons r t, h => .cons r (paired_app t h)
theorem paired_rev {α β : Type} {R : α → β → Prop} : ∀ {xs : List α} {ys : List β}, Paired R xs ys → Paired R xs.reverse ys.reverse
  | _, _, .nil => .nil
  | _, _, .cons r t => by rw [List.reverse_cons, List.reverse_cons]; exact paired_app (paired_rev t) (.cons r .nil)
theorem paired_perm {α β : Type} {R : α → β → Prop} : ∀ {xs xs' : List α}, xs'.Perm xs → ∀ {ys : List β}, Paired R xs ys → ∃ ys', Paired R xs' ys' ∧ ys'.Perm ys := by
  intro xs xs' p
  induction p with
  | nil => intro ys h; cases h; exact ⟨[], .nil, .refl _⟩
  | cons x _ ih =>
    intro ys h
    cases h with
    | cons r t =>
      obtain ⟨ys', h1, h2⟩ := ih t
      exact ⟨_ :: ys', .cons r h1, h2.cons _⟩
  | swap x y l =>
    intro ys h
    cases h with
    | cons r t =>
      cases t with
      | cons r' t => exact ⟨_, .cons r' (.cons r t), .swap _ _ _⟩
  | trans _ _ ih1 ih2 =>
    intro ys h
    obtain ⟨y1, h1, p1⟩ := ih2 h
    obtain ⟨y2, h2, p2⟩ := ih1 h1
    exact ⟨y2, h2, p2.trans p1⟩
theorem perm_lift {α β : Type} {f : β → α} : ∀ {a b : List α}, a.Perm b → ∀ {es : List β}, b = es.map f → ∃ es' : List β, es'.Perm es ∧ a = es'.map f := by
  intro a b p
  induction p with
  | nil => intro es h; exact ⟨es, .refl _, h⟩
  | cons x _ ih =>
    intro es h
    cases es with
    | nil => simp at h
    | cons e r =>
      rw [List.map_cons] at h
      injection h with h1 h2
      obtain ⟨es', q1, q2⟩ := ih h2
      exact ⟨e :: es', q1.cons _, by rw [List.map_cons, h1, q2]⟩
  | swap x y l =>
    intro es h
    cases es with
    | nil => simp at h
    | cons e r =>
      cases r with
      | nil => simp at h
      | cons e2 r =>
        rw [List.map_cons, List.map_cons] at h
        injection h with h1 h2
        injection h2 with h2 h3
        exact ⟨e2 :: e :: r, .swap _ _ _, by rw [List.map_cons, List.map_cons, h1, h2, h3]⟩
  | trans _ _ ih1 ih2 =>
    intro es h
    obtain ⟨e1, p1, q1⟩ := ih2 h
    obtain ⟨e2, p2, q2⟩ := ih1 q1
    exact ⟨e2, p2.trans p1, q2⟩
theorem paired_mem {α β : Type} {R : α → β → Prop} : ∀ {xs : List α} {ys : List β} {x : α}, Paired R xs ys → x ∈ xs → ∃ y ∈ ys, R x y
  | _, _, _, .nil, h => by simp at h
  | _, _, _, .cons r t, h => by
    rcases List.mem_cons.mp h with rfl | h
    · exact ⟨_, List.mem_cons_self, r⟩
    · obtain ⟨y, hy, q⟩ := paired_mem t h
      exact ⟨y, List.mem_cons_of_mem _ hy, q⟩
/-- two strictly ascending lists with the same members are one -/
theorem asc_perm : ∀ {a b : List Int}, a.Pairwise (· < ·) → b.Pairwise (· < ·) → a.Perm b → a = b
  | [], b, _, _, p => by rw [p.symm.eq_nil]
  | x :: a, [], _, _, p => by simp at p
  | x :: a, y :: b, ha, hb, p => by
    have hx : x ∈ y :: b := p.subset List.mem_cons_self
    have hy : y ∈ x :: a := p.symm.subset List.mem_cons_self
    have ha' := List.pairwise_cons.mp ha
    have hb' := List.pairwise_cons.mp hb
    have e : x = y := by
      rcases List.mem_cons.mp hx with h | h
      · exact h
      · rcases List.mem_cons.mp hy with h2 | h2
        · exact h2.symm
        · have := hb'.1 x h; have := ha'.1 y h2; omega
    subst e
    rw [asc_perm ha'.2 hb'.2 (List.Perm.cons_inv p)]
end Dh
/-! DhExc -/
set_option Elab.async false
set_option linter.all false
set_option maxRecDepth 100000
set_option maxHeartbeats 4000000
/-! Own rules: an error with fields, raised out of a method, caught with a name, asked for its class and its field; a def called within the suite. -/
namespace Dh
open PySem PySem.Spec PyProof.Rows L2
section
variable {P : Program} {w : World} {K : PySem.W.Frag} {mg : Str → Option Value} {base : Heap}
/-- a def that may let out an error whose context is None -/
theorem okN {x qual : Str} {st : Stmt} {f : Addr} {fd : FuncData} {N ps : List Str} {k : Nat} {sp : Sp} (F : Fun K x qual st f fd) (S : FnScope N ps (defScope st)) (len : ∀ vs H Q E, sp vs H Q E → vs.length = ps.length)
    (body : ∀ (cdv : Value) (A : Around) (outer : List Env) (s : Shared) (H : Hp) (vs : List V) (Q : VK) (E : XK), Room k (A.deeper (envOfC qual (defScope st) s.heap.objs.size f cdv)) → sp vs H Q E →
      ∃ t, PSs (cxOf (L2N.CX P w) P w K mg base N qual (defScope st) f cdv A outer s H E) (defBody st) t ∧ t { nx := fun _ H' => Q .non H', rt := Q } (start N vs) H) : FnOk P w K mg base (L2N.CX P w) (k + 1) f fd ps sp := by
  obtain ⟨_, _, _, _, _, _, cdv, _, _, rfl, lk, hcd⟩ := F.ex
  exact fn_of lk hcd S len fun A outer s H vs Q E => body cdv A outer s H vs Q E
/-- a def called while an error is handled, lets nothing out -/
theorem okH {x qual : Str} {st : Stmt} {f : Addr} {fd : FuncData} {N ps : List Str} {k : Nat} {sp : Sp} (F : Fun K x qual st f fd) (S : FnScope N ps (defScope st)) (len : ∀ vs H Q E, sp vs H Q E → vs.length = ps.length)
    (body : ∀ (cdv : Value) (A : Around) (outer : List Env) (s : Shared) (H : Hp) (vs : List V) (Q : VK) (E : XK) (p : Addr × Obj), L2H.RoomH k (A.deeper (envOfC qual (defScope st) s.heap.objs.size f cdv)) → sp vs H Q E →
      ∃ t, PSs (L2H.cxH CX0 P w K mg base N qual (defScope st) f cdv A outer s H E p) (defBody st) t ∧ t { nx := fun _ H' => Q .non H', rt := Q } (start N vs) H) : L2H.FnH P w K mg base CX0 (k + 1) f fd ps sp := by
  obtain ⟨_, _, _, _, _, _, cdv, _, _, rfl, lk, hcd⟩ := F.ex
  exact L2H.fn_ofH lk hcd S len fun A outer s H vs Q E p _ => body cdv A outer s H vs Q E p
/-- out of nothing -/
theorem takesN {X : Cx} : L2N.Takes X (fun _ _ _ _ => False) := fun _ _ ⟨_, _, _, _, _, _, _, _, _, _, _, _, _, _, _, _, z⟩ => z.elim
theorem passH {X : Cx} {E : L2.St → XK} (σ : L2.St) : PassesAt CX0 X σ (E σ) := fun _ _ _ _ _ _ h => h.elim
end
section
variable {X : Cx} {CX : CXT} {k : Nat} {f C : Addr} {fd : FuncData} {ps : List Str} {sp : Sp} {E : L2.St → XK} {m : Str} {pos apos : Pos} {e o : Expr} {es : List Expr} {ta : TE} {t : TA}
/-- o.m(e, ..), the wish about errors may look at the slots -/
def tMethS (C : Addr) (m : Str) (sp : Sp) (E : L2.St → XK) (ta : TE) (t : TA) : TE := fun σ H Q => ta σ H fun x H1 => ∃ a dx fs, x = .ref a ∧ H1 a = some (.ins C dx fs) ∧ fs.lookup m = none ∧ t σ H1 fun vs H2 => sp (x :: vs) H2 Q (E σ)
theorem pe_methE {pl : Sem Bool} (he : PE X o ta) (c : Cls X.K C) (hm : Meth X.K C m f) (F : FnOk X.prog X.w X.K X.mg X.base CX k f fd ps sp) (hr : Room k X.A) (hb : Binds X.K fd ps []) (hx : ∀ σ, PassesAt CX X σ (E σ)) (ha : PA X (e :: es) t)
    (hst : starEach (e :: es) X.env = (false, eval e X.env) :: starEach es X.env := by rfl) (hpl : (backTo pos (starEach es X.env)).any (·.1) = false := by rfl)
    (ht : eval (.Call (.Attribute o m apos) (e :: es) [] pos) X.env = (do
      let ov ← eval o X.env
      standAt apos.atName
      let (f, first) ← holding [ov] (getMethod ov m pl)
      callWith pos f first (backTo pos (starEach (e :: es) X.env)) (backToKw pos (keywordEach [] X.env))) := by rfl) :
    PE X (.Call (.Attribute o m apos) (e :: es) [] pos) (tMethS C m sp E ta t) :=
  ⟨fun pins s σ H Q I h => PySem.W.methodCall_KW (pl := pl) (thn (he.run pins s σ H _ I h) fun u s1 ⟨x, H1, I1, rx, a, dx, fs, ex, ea, l, q⟩ => by
    subst ex
    cases (show u = Value.ref a from rx)
    exact getmeth_ok I1 ea c hm l (PySem.W.callWith_K (first := [.ref a]) (h₀ := X.base) I.ok.mod.kin hm.kp (thn (ha.run pos pins s1 σ H1 _ I1 q) fun us s2 ⟨vs, H2, I2, r, q2⟩ =>
      ⟨I2.kIn, run_fnS (us := .ref a :: us) (vs := .ref a :: vs) F hr hb (hx σ) I2 (.cons rfl r) q2⟩) hst hpl)) ht⟩
end
section
variable {X : Cx}
/-- isinstance(error, c), the caught error has its dict at dd -/
def rIsX (K : PySem.W.Frag) (D dd a : Addr) : List V → Hp → VK → Prop := fun xs H Q => ∃ (c : V) (cv : Value) (b : Bool) (fs : List (Str × V)), xs = [.ref a, c] ∧ (∀ u, RelV c u → u = cv) ∧ PySem.W.kitOne K (.ref D) cv = some b ∧ H dd = some (.xd fs) ∧ Q (.bl b) H
theorem call_isX {a D dd : Addr} {oe : Obj} {cls : Value} {d : Option Addr} {pn : List (Addr × Obj)} (C : ExcC X.K D) (hz : Zc cls d oe) (hf : ∃ vs, oe.data = .fields vs) : CallR (X.suite a ((a, oe) :: pn)) (.builtin "isinstance") (fun xs H Q => cls = .ref D ∧ d = some dd ∧ rIsX X.K D dd a xs H Q) := by
  intro pins s σ H xs us Q I r h
  obtain ⟨ec, ed, c, cv, b, fs, rfl, hcv, e, hx, q⟩ := h
  subst ec ed
  obtain ⟨u1, u2, rfl, r1, r2⟩ := vals2 r
  cases (show u1 = Value.ref a from r1)
  cases hcv _ r2
  obtain ⟨ha, _⟩ := I.pin (a, oe) (List.mem_append_left _ List.mem_cons_self)
  obtain ⟨vs, hd⟩ := hf
  have ho : ObjOk X.prog X.w H s.heap dd (.xd fs) := I.hok dd _ hx
  obtain ⟨mA, hns, _⟩ := ho
  obtain ⟨od, hod, _⟩ := lookIn_ns hns
  have J : PySem.W.InstAt s.heap a oe D (some od) := ⟨ha, hz.1, by unfold PySem.W.notCls; rw [hd] <;> rfl, by rw [hz.2]; exact hod⟩
  have hcl : (PySem.W.clsIn X.K D).isSome = true := by
    obtain ⟨cd, hc, _⟩ := PySem.W.any_some C.hd
    rw [hc]; rfl
  exact PySem.W.kia_one (PySem.W.kitx_exc hcl C.hg C.hk C.hs C.ha C.hn C.ht C.hm) I.kIn J e (fun z => nomatch z) fun tk => ⟨.bl b, H, I.kept (t' := tk) fun _ _ z => z, rfl, q⟩
end
/-- C(e, ..), C's own __init__ keeping sp; the error's context is None -/
theorem mkN {X : Cx} {CX : CXT} {x : Str} {C fI : Addr} {k : Nat} {fd : FuncData} {ps : List Str} {sp : Sp} {e : Expr} {es : List Expr} {ta : TA} {p pos : Pos} (T : OexC X.K C) (iC : PySem.W.findIn X.K (.ref C) "__init__" = some (some (.ref fI))) (tI : PySem.W.typeIn X.K (.ref fI) = some (.type "function"))
    (F1 : FnOk X.prog X.w X.K X.mg X.base CX k fI fd ps sp) (hr : Room (k + 1) X.A) (hb : Binds X.K fd ps []) (hx : Passes CX X (fun _ _ _ => False)) (hg : Gl X x) (hm : X.mg x = some (.ref C)) (ha : PA X (e :: es) ta)
    (hdb : (x == ("__debug__" : Str)) = false := by decide) (he : starEach (e :: es) X.env = (false, eval e X.env) :: starEach es X.env := by rfl) (hpl : (backTo pos (starEach es X.env)).any (·.1) = false := by rfl) :
    L2N.PMk X (.Call (.Name x p) (e :: es) [] pos) (tMkO C sp [] ta) := by
  intro pins s σ H Q I h
  obtain ⟨nm0, qn0, N0, bs0, bm, sn0, sub0, ab0, col0, dd0, k00, k01, k02, k03, k05, hC, hbm⟩ := T.cls
  refine wpAny_Call_Name_kw (ld_glob I hg hm ?_ hdb)
  refine PySem.W.callWith_K (h₀ := X.base) I.ok.mod.kin T.kC (thn (ha.run pos pins s σ H _ I h) fun us s1 hv => ?_) he hpl
  obtain ⟨vs, H1, I1, r1, hz, q1⟩ := hv
  refine ⟨I1.kIn, ?_⟩
  obtain ⟨hp, g, dr, tk, os⟩ := s1
  have sz : hp.objs.size ≤ hp.objs.size + 1 := Nat.le_succ _
  have kk : ∀ b o, hp.get? b = some o → ((hp.push (PySem.W.kdv_tup us)).push (PySem.HandSPX.excO C hp.objs.size)).get? b = some o := fun b o z => Heap.get?_push_of_some _ (Heap.get?_push_of_some _ z)
  have gg : ((hp.push (PySem.W.kdv_tup us)).push (PySem.HandSPX.excO C hp.objs.size)).get? (hp.objs.size + 1) = some (PySem.HandSPX.excO C hp.objs.size) := by heap_get
  have I2 : Inv X pins σ (upd H1 (hp.objs.size + 1) (exo (hp.objs.size + 1) C none)) ⟨((hp.push (PySem.W.kdv_tup us)).push (PySem.HandSPX.excO C hp.objs.size)), g, dr, tk, os⟩ := I1.laid kk sz (exo_ok gg)
  have hq := q1 (hp.objs.size + 1) (I1.hok.fresh sz)
  rw [List.append_nil] at hq
  have r2 : Vals (V.ref (hp.objs.size + 1) :: vs) (Value.ref (hp.objs.size + 1) :: us) := .cons rfl r1
  have hl : (Value.ref (hp.objs.size + 1) :: us ++ []).length = ps.length := by
    rw [List.append_nil, ← F1.len _ _ _ _ hq]
    exact r2.length.symm
  have b2 := hb ⟨((hp.push (PySem.W.kdv_tup us)).push (PySem.HandSPX.excO C hp.objs.size)), g, dr, tk, os⟩ (Value.ref (hp.objs.size + 1) :: us) I2.kIn hl
  rw [List.append_nil] at b2
  have hus : us.length ≤ sizeLine := by rw [← Paired.length r1, sizeLine_eq]; omega
  refine wpAny_call (PySem.HandSPX.call_own F.excBase_ValueError (fun Y => PySem.HandSPX.refsVE_contains Y bm hbm) (I1.kIn _ _ hC) (PySem.W.looks_findIn I1.kIn iC) (fun self => PySem.W.bind_fn I1.kIn self tI) hus
    (codeAny_mono (F1.run _ X.stack _ _ ⟨Value.ref (hp.objs.size + 1) :: us, []⟩ _ _ _ (fun _ _ _ => False) (hr.make C us []) (I2.env0.make C us []) b2 r2 hq) fun r s' hq' => ?_))
  match r, hq' with
  | .error er, hq' => exact hx pins σ _ _ er s' I2 hq'
  | .ok (.ret u), hq' =>
    obtain ⟨v, H2, os2, bare2, un2, hok2, rv, ev, d, fs, ea, ed, hd1, q2⟩ := hq'
    subst ev
    obtain ⟨h2, g2, d2, t2, os'⟩ := s'
    obtain ⟨t0, G, J, kG, ge, hoe, na⟩ := mk_end0 (d2 := d2) (t2 := t2) I1 sz kk un2 hok2 os2 bare2 ea ed hd1
    exact ⟨rv, hp.objs.size + 1, _, _, ⟨G, g2, d2, t2, os'⟩, _, .ref C, some d, rfl, J, kG, ge, hoe, ⟨rfl, rfl, fun vs hv => by cases hv; rfl⟩, rfl, rfl, na, rfl, bare2, raises_own T.exC T.tyC, q2⟩
def ddOf (d : Option Addr) : Addr := d.getD 0
theorem hotc {X : Cx} {a : Addr} {oe : Obj} {cls : Value} {d : Option Addr} {pn : List (Addr × Obj)} (hz : L2N.Zn cls d oe) (hf : ∃ vs, oe.data = .fields vs) : L2H.HotC (X.suite a ((a, oe) :: pn)) :=
  ⟨(a, oe), ⟨rfl, by obtain ⟨vs, h⟩ := hf; exact ⟨vs, h, hz.2.2 vs h⟩⟩, List.mem_cons_self⟩
theorem rh {k : Nat} {A : Around} {h : Option Value} (r : Room k A) : L2H.RoomH k (A.mark h) := ⟨r.dp, r.un⟩
theorem i_fldR {K : PySem.W.Frag} {H : Hp} {v : V} {a C dx : Addr} {fs : List (Str × V)} {f : Str} {r : V → Prop} (h : H a = some (.ins C dx fs)) (c : Cls K C) (n : NoAttr K C f) (l : fs.lookup f = some v) (k : r v) : ∃ a' C dx fs v, V.ref a = .ref a' ∧ H a' = some (.ins C dx fs) ∧ Cls K C ∧ NoAttr K C f ∧ fs.lookup f = some v ∧ r v := ⟨a, C, dx, fs, v, rfl, h, c, n, l, k⟩
end Dh
/-! Mir -/
set_option Elab.async false
set_option linter.all false
set_option maxRecDepth 100000
set_option maxHeartbeats 4000000
namespace Mi
open PySem PySem.Spec L2 Dh
open _root_.Evl (Ex)
/-! ### what a value is worth -/
structure R (α : Type) where
  h : α → V → Hp → Prop
  ex : ∀ {a v F F'}, Ex F F' → h a v F → h a v F'
def rInt : R Int := ⟨fun i v _ => v = .int i, fun _ h => h⟩
def rBl : R Bool := ⟨fun i v _ => v = .bl i, fun _ h => h⟩
def rStr : R Str := ⟨fun i v _ => v = .str i, fun _ h => h⟩
def rNon : R Unit := ⟨fun _ v _ => v = .non, fun _ h => h⟩
def rAt (p : Addr) : R Unit := ⟨fun _ v _ => v = .ref p, fun _ h => h⟩
def All {α : Type} (r : R α) (F : Hp) : List α → List V → Prop := Paired fun a v => r.h a v F
theorem All.ex {α : Type} {r : R α} {F F' : Hp} (e : Ex F F') {xs : List α} {vs : List V} (h : All r F xs vs) : All r F' xs vs := Paired.mapP h fun _ _ q => r.ex e q
theorem All.len {α : Type} {r : R α} {F : Hp} {xs : List α} {vs : List V} (h : All r F xs vs) : vs.length = xs.length := (Paired.length h).symm
def rLst {α : Type} (r : R α) : R (List α) := ⟨fun xs v F => ∃ p vs, v = .ref p ∧ F p = some (.lst vs) ∧ All r F xs vs, fun e ⟨p, vs, h1, h2, h3⟩ => ⟨p, vs, h1, e _ _ h2, h3.ex e⟩⟩
def rTup (K : PySem.W.Frag) {α : Type} (r : R α) : R (List α) := ⟨fun xs v F => ∃ p vs, v = .ref p ∧ SqT K F p vs ∧ All r F xs vs, fun e ⟨p, vs, h1, h2, h3⟩ => ⟨p, vs, h1, _root_.Evl.ex_t e h2, h3.ex e⟩⟩
/-! ### what a cell is worth -/
structure C (α : Type) where
  h : α → HO → Hp → Prop
  ex : ∀ {a u F F'}, Ex F F' → h a u F → h a u F'
def cLst {α : Type} (r : R α) : C (List α) := ⟨fun xs u F => ∃ vs, u = .lst vs ∧ All r F xs vs, fun e ⟨vs, h1, h2⟩ => ⟨vs, h1, h2.ex e⟩⟩
def BgL (F : Hp) (l : List V) : Prop := ∃ (n : Addr) (ns : List Int) (i h t s : Int), l = [.ref n, .int i, .int h, .int t, .int s] ∧ F n = some (.lst (ns.map V.int)) ∧ 0 ≤ i ∧ 0 ≤ h
def cBag : C Unit := ⟨fun _ u F => ∃ l, u = .lst l ∧ BgL F l, fun e ⟨l, h1, ⟨n, ns, i, h, t, s, h2, h3, h4⟩⟩ => ⟨l, h1, n, ns, i, h, t, s, h2, e _ _ h3, h4⟩⟩
/-! ### slots -/
structure Sl where
  h : Option V → Hp → Hp → Prop
  ow : List Addr
  up : ∀ {o F H F' H'}, Ex F F' → (∀ p ∈ ow, ∀ u, H p = some u → H' p = some u) → h o F H → h o F' H'
  lv : ∀ {o F H}, h o F H → ∀ p ∈ ow, H p ≠ none
def any : Sl := ⟨fun _ _ _ => True, [], fun _ _ h => h, fun _ _ h => nomatch h⟩
def val {α : Type} (r : R α) (a : α) : Sl := ⟨fun o F _ => ∃ v, o = some v ∧ r.h a v F, [], fun e _ ⟨v, h1, h2⟩ => ⟨v, h1, r.ex e h2⟩, fun _ _ h => nomatch h⟩
def own {α : Type} (p : Addr) (c : C α) (a : α) : Sl := ⟨fun o F H => o = some (.ref p) ∧ ∃ u, H p = some u ∧ c.h a u F, [p],
  fun e k ⟨h1, u, h2, h3⟩ => ⟨h1, u, k p List.mem_cons_self u h2, c.ex e h3⟩, fun ⟨_, u, h, _⟩ q hq => by rw [List.mem_singleton.mp hq, h]; exact fun z => nomatch z⟩
def owns : List Sl → List Addr
  | [] => []
  | s :: g => s.ow ++ owns g
structure RI (α : Type) where
  h : α → List V → Hp → Prop
  ex : ∀ {a v F F'}, Ex F F' → h a v F → h a v F'
  n : Nat
  ln : ∀ {a v F}, h a v F → v.length = n
  sl : α → List Sl
  hs : ∀ {a v F H}, h a v F → Paired (fun s o => Sl.h s o F H) (sl a) (v.map some)
  no : ∀ {a}, owns (sl a) = []
def rNil : RI Unit := ⟨fun _ vs _ => vs = [], fun _ h => h, 0, fun h => by rw [h]; rfl, fun _ => [], fun h => by rw [h]; exact .nil, rfl⟩
def rOne {α : Type} (r : R α) : RI α := ⟨fun a vs F => ∃ v, vs = [v] ∧ r.h a v F, fun e ⟨v, h1, h2⟩ => ⟨v, h1, r.ex e h2⟩, 1, fun ⟨v, h1, _⟩ => by rw [h1]; rfl, fun a => [val r a], fun ⟨v, h1, h2⟩ => by
  rw [h1]; exact .cons ⟨v, rfl, h2⟩ .nil, rfl⟩
def rCons {α β : Type} (r : R α) (s : RI β) : RI (α × β) := ⟨fun a vs F => ∃ v ws, vs = v :: ws ∧ r.h a.1 v F ∧ s.h a.2 ws F, fun e ⟨v, ws, h1, h2, h3⟩ => ⟨v, ws, h1, r.ex e h2, s.ex e h3⟩, s.n + 1, fun ⟨v, ws, h1, _, h2⟩ => by
  rw [h1, List.length_cons, s.ln h2], fun a => val r a.1 :: s.sl a.2, fun ⟨v, ws, h1, h2, h3⟩ => by
  rw [h1]; exact .cons ⟨v, rfl, h2⟩ (s.hs h3), s.no⟩
def rTp (K : PySem.W.Frag) {α : Type} (s : RI α) : R α := ⟨fun a v F => ∃ p vs, v = .ref p ∧ SqT K F p vs ∧ s.h a vs F, fun e ⟨p, vs, h1, h2, h3⟩ => ⟨p, vs, h1, _root_.Evl.ex_t e h2, s.ex e h3⟩⟩
def rOpt {α : Type} (r : R α) : R (Option α) := ⟨fun o v F => match o with | none => v = .non | some a => r.h a v F ∧ v ≠ .non, fun {o _ _ _} e h => by
  cases o with
  | none => exact h
  | some a => exact ⟨r.ex e h.1, h.2⟩⟩
abbrev Holds (G : List Sl) (σ : L2.St) (F H : Hp) : Prop := Paired (fun s o => s.h o F H) G σ
structure Bs where
  F : Hp
  H : Hp
  M : List Addr
  ml : ∀ p ∈ M, H p ≠ none
structure Env (b : Bs) (G : List Sl) (σ : L2.St) (F H : Hp) : Prop where
  ff : Ex b.F F
  fh : Ex F H
  hh : ∀ a o, a ∉ b.M → b.H a = some o → H a = some o
  kp : ∀ a, b.H a ≠ none → H a ≠ none
  nf : ∀ a, b.F a = none → b.H a ≠ none → F a = none
  hold : Holds G σ F H
  nd : (owns G).Nodup
  on : ∀ p ∈ owns G, F p = none ∧ (p ∈ b.M ∨ b.H p = none)
/-- from a call to its end -/
structure After (F H : Hp) (M : List Addr) (F' H' : Hp) : Prop where
  ff : Ex F F'
  fh : Ex F' H'
  hh : ∀ a o, a ∉ M → H a = some o → H' a = some o
  kp : ∀ a, H a ≠ none → H' a ≠ none
  nf : ∀ a, F a = none → H a ≠ none → F' a = none
theorem Env.after {b : Bs} {G : List Sl} {σ : L2.St} {F H : Hp} (V : Env b G σ F H) : After b.F b.H b.M F H := ⟨V.ff, V.fh, V.hh, V.kp, V.nf⟩
theorem Holds.len {G : List Sl} {σ : L2.St} {F H : Hp} (h : Holds G σ F H) : G.length = σ.length := Paired.length h
theorem Holds.at_ {F H : Hp} : ∀ {G : List Sl} {σ : L2.St} {i : Nat} {s : Sl}, Holds G σ F H → G[i]? = some s → ∃ o, σ[i]? = some o ∧ s.h o F H
  | _, _, _, _, .nil, e => by simp at e
  | _, _, 0, _, .cons r _, e => by simp at e; subst e; exact ⟨_, rfl, r⟩
  | _, _, i + 1, s, .cons _ t, e => by
    obtain ⟨u, h1, h2⟩ := Holds.at_ (i := i) (s := s) t (by simpa using e)
    exact ⟨u, by simpa using h1, h2⟩
theorem mem_owns : ∀ {G : List Sl} {i : Nat} {s : Sl} {p : Addr}, G[i]? = some s → p ∈ s.ow → p ∈ owns G
  | [], _, _, _, e, _ => by simp at e
  | x :: g, 0, s, p, e, h => by simp at e; subst e; exact List.mem_append_left _ h
  | x :: g, i + 1, s, p, e, h => List.mem_append_right _ (mem_owns (i := i) (by simpa using e) h)
theorem Holds.live {F H : Hp} : ∀ {G : List Sl} {σ : L2.St}, Holds G σ F H → ∀ p ∈ owns G, H p ≠ none := by
  intro G σ h
  induction h with
  | nil => intro p h; nomatch h
  | cons r t ih => intro p hp; exact (List.mem_append.mp hp).elim (fun z => Sl.lv _ r p z) (ih p)
/-- nothing owned changes -/
theorem Holds.up {F H F' H' : Hp} (e : Ex F F') : ∀ {G : List Sl} {σ : L2.St}, (∀ p ∈ owns G, ∀ u, H p = some u → H' p = some u) → Holds G σ F H → Holds G σ F' H' := by
  intro G σ k h
  induction h with
  | nil => exact .nil
  | cons r t ih => exact .cons (Sl.up _ e (fun p hp => k p (List.mem_append_left _ hp)) r) (ih fun p hp => k p (List.mem_append_right _ hp))
/-- .. that leaves alone what is owned -/
theorem Env.step0 {b : Bs} {G : List Sl} {σ : L2.St} {F H F' H' : Hp} {M : List Addr} (V : Env b G σ F H) (A : After F H M F' H') (hm : ∀ p ∈ M, p ∈ owns G) {G' : List Sl} {σ' : L2.St} (ow : ∀ p ∈ owns G', p ∈ owns G) (nd : (owns G').Nodup) (hold : Holds G' σ' F' H') : Env b G' σ' F' H' where
  ff := V.ff.trans A.ff
  fh := A.fh
  hh := fun a o m h => A.hh a o (fun z => by
    rcases (V.on a (hm a z)).2 with q | q
    · exact m q
    · rw [h] at q; cases q) (V.hh a o m h)
  kp := fun a h => A.kp a (V.kp a h)
  nf := fun a h1 h2 => A.nf a (V.nf a h1 h2) (V.kp a h2)
  hold := hold
  nd := nd
  on := fun p hp => ⟨A.nf p (V.on p (ow p hp)).1 (V.hold.live p (ow p hp)), (V.on p (ow p hp)).2⟩
/-- a step that changes nothing owned: new things -/
theorem Env.step {b : Bs} {G : List Sl} {σ : L2.St} {F H F' H' : Hp} (V : Env b G σ F H) (A : After F H [] F' H') : Env b G σ F' H' :=
  V.step0 A (fun _ h => nomatch h) (fun _ h => h) V.nd (V.hold.up A.ff fun p _ u h => A.hh p u (by simp) h)
/-- a new frozen thing -/
theorem After.new {F H : Hp} {p : Addr} {o : HO} (e : Ex F H) (hp : H p = none) : After F H [] (upd F p o) (upd H p o) where
  ff := Ex.new (ex_none e hp)
  fh := ex_both e
  hh := fun a u _ h => by rw [upd_ne (ne_of_none h hp)]; exact h
  kp := fun a h => by
    by_cases q : a = p
    · subst q; exact absurd hp h
    · rw [upd_ne q]; exact h
  nf := fun a h1 h2 => by rw [upd_ne (fun q => h2 (by rw [q]; exact hp))]; exact h1
theorem After.refl {F H : Hp} (e : Ex F H) (M : List Addr) : After F H M F H := ⟨Ex.refl F, e, fun _ _ _ h => h, fun _ h => h, fun _ h _ => h⟩
theorem After.trans {F H F1 H1 F2 H2 : Hp} {M : List Addr} (a : After F H M F1 H1) (b : After F1 H1 M F2 H2) : After F H M F2 H2 :=
  ⟨a.ff.trans b.ff, b.fh, fun x o m h => b.hh x o m (a.hh x o m h), fun x h => b.kp x (a.kp x h), fun x h1 h2 => b.nf x (a.nf x h1 h2) (a.kp x h2)⟩
theorem After.mono {F H F1 H1 : Hp} {M M' : List Addr} (a : After F H M F1 H1) (h : ∀ p ∈ M, p ∈ M') : After F H M' F1 H1 := ⟨a.ff, a.fh, fun x o m q => a.hh x o (fun z => m (h x z)) q, a.kp, a.nf⟩
/-! ### readings and what they are worth -/
section
variable {K : PySem.W.Frag} {b : Bs} {G : List Sl} {α β γ δ : Type}
def E (b : Bs) (G : List Sl) (te : TE) (r : R α) (f : (α → Prop) → Prop) : Prop := ∀ ⦃σ : L2.St⦄ ⦃F H : Hp⦄ ⦃Q : VK⦄ (k : α → Prop), Env b G σ F H → f k →
  (∀ a v F' H', k a → After F H (owns G) F' H' → Env b G σ F' H' → r.h a v F' → Q v H') → te σ H Q
def Tt (b : Bs) (G : List Sl) (tt : TT) (f : (Bool → Prop) → Prop) : Prop := ∀ ⦃σ : L2.St⦄ ⦃F H : Hp⦄ ⦃Q : Bool → Hp → Prop⦄ (k : Bool → Prop), Env b G σ F H → f k →
  (∀ a F' H', k a → After F H (owns G) F' H' → Env b G σ F' H' → Q a H') → tt σ H Q
def Ar (b : Bs) (G : List Sl) (ta : TA) (s : RI α) (f : (α → Prop) → Prop) : Prop := ∀ ⦃σ : L2.St⦄ ⦃F H : Hp⦄ ⦃Q : List V → Hp → Prop⦄ (k : α → Prop), Env b G σ F H → f k →
  (∀ a vs F' H', k a → After F H (owns G) F' H' → Env b G σ F' H' → s.h a vs F' → Q vs H') → ta σ H Q
theorem e_var {i : Nat} {r : R α} {a : α} (h : G[i]? = some (val r a)) : E b G (tVar i) r (fun k => k a) := fun _ _ _ _ k V q w => by
  obtain ⟨o, h1, v, rfl, h2⟩ := V.hold.at_ h
  exact ⟨v, h1, w a v _ _ q (.refl V.fh _) V h2⟩
theorem e_own {i : Nat} {p : Addr} {c : C α} {a : α} (h : G[i]? = some (own p c a)) : E b G (tVar i) (rAt p) (fun k => k ()) := fun _ _ _ _ k V q w => by
  obtain ⟨o, h1, rfl, _⟩ := V.hold.at_ h
  exact ⟨.ref p, h1, w () _ _ _ q (.refl V.fh _) V rfl⟩
theorem e_int {i : Int} : E b G (tC (.int i)) rInt (fun k => k i) := fun _ _ _ _ k V q w => w i _ _ _ q (.refl V.fh _) V rfl
theorem e_bl {i : Bool} : E b G (tC (.bl i)) rBl (fun k => k i) := fun _ _ _ _ k V q w => w i _ _ _ q (.refl V.fh _) V rfl
theorem e_str {i : Str} : E b G (tC (.str i)) rStr (fun k => k i) := fun _ _ _ _ k V q w => w i _ _ _ q (.refl V.fh _) V rfl
theorem e_non : E b G (tC .non) rNon (fun k => k ()) := fun _ _ _ _ k V q w => w () _ _ _ q (.refl V.fh _) V rfl
theorem e_none {r : R α} : E b G (tC .non) (rOpt r) (fun k => k none) := fun _ _ _ _ k V q w => w none _ _ _ q (.refl V.fh _) V rfl
/-- a two-place operator -/
def Op2 (r2 : R2) (ra : R α) (rb : R β) (rc : R γ) (g : α → β → (γ → Prop) → Prop) : Prop := ∀ ⦃a : α⦄ ⦃c : β⦄ ⦃v w : V⦄ ⦃F H : Hp⦄ ⦃Q : VK⦄ (k : γ → Prop), ra.h a v F → rb.h c w F → Ex F H → g a c k →
  (∀ y z F' H', k y → After F H [] F' H' → rc.h y z F' → Q z H') → r2 v w H Q
theorem e_op {r2 : R2} {ta tb : TE} {ra : R α} {rb : R β} {rc : R γ} {fa : (α → Prop) → Prop} {fb : (β → Prop) → Prop} {g : α → β → (γ → Prop) → Prop} (o : Op2 r2 ra rb rc g) (ha : E b G ta ra fa) (hb : E b G tb rb fb) :
    E b G (tOp r2 ta tb) rc (fun k => fa fun x => fb fun y => g x y k) := fun _ _ _ _ k V q w =>
  ha _ V q fun x v F1 H1 q1 e1 V1 r1 => hb _ V1 q1 fun y u F2 H2 q2 e2 V2 r2 => o k (ra.ex e2.ff r1) r2 V2.fh q2 fun z t F3 H3 q3 A r3 => w z t F3 H3 q3 ((e1.trans e2).trans (A.mono fun _ h => nomatch h)) (V2.step A) r3
theorem o_I0 {g : Int → Int → Int} : Op2 (rI0 fun i j => .int (g i j)) rInt rInt rInt (fun x y k => k (g x y)) := fun _ _ _ _ _ _ _ k h1 h2 e q w => ⟨_, _, h1, h2, w _ _ _ _ q (After.refl e _) rfl⟩
theorem o_I0b {g : Int → Int → Bool} : Op2 (rI0 fun i j => .bl (g i j)) rInt rInt rBl (fun x y k => k (g x y)) := fun _ _ _ _ _ _ _ k h1 h2 e q w => ⟨_, _, h1, h2, w _ _ _ _ q (After.refl e _) rfl⟩
theorem o_I {c : Int → Int → Prop} {g : Int → Int → Int} : Op2 (rI c fun i j => .int (g i j)) rInt rInt rInt (fun x y k => c x y ∧ k (g x y)) := fun _ _ _ _ _ _ _ k h1 h2 e ⟨z, q⟩ w => ⟨_, _, h1, h2, z, w _ _ _ _ q (After.refl e _) rfl⟩
theorem o_eqI : Op2 rEq rInt rInt rBl (fun x y k => k (decide (x = y))) := fun _ _ _ _ _ _ _ k h1 h2 e q w => by
  cases h1; cases h2
  exact i_eqI (w _ _ _ _ q (After.refl e _) rfl)
theorem o_neI : Op2 rNe rInt rInt rBl (fun x y k => k (!decide (x = y))) := fun _ _ _ _ _ _ _ k h1 h2 e q w => by
  cases h1; cases h2
  exact i_neI (w _ _ _ _ q (After.refl e _) rfl)
theorem o_eqS : Op2 rEq rStr rStr rBl (fun x y k => k (decide (x = y))) := fun _ _ _ _ _ _ _ k h1 h2 e q w => by
  cases h1; cases h2
  exact i_eqS (w _ _ _ _ q (After.refl e _) rfl)
theorem o_neS : Op2 rNe rStr rStr rBl (fun x y k => k (!decide (x = y))) := fun _ _ _ _ _ _ _ k h1 h2 e q w => by
  cases h1; cases h2
  exact i_neS (w _ _ _ _ q (After.refl e _) rfl)
/-- an item -/
theorem All.get {r : R α} {F : Hp} {xs : List α} {vs : List V} {i : Nat} {a : α} (h : All r F xs vs) (e : xs[i]? = some a) : ∃ v, vs[i]? = some v ∧ r.h a v F := Dh.paired_get h e
theorem All.atI {r : R α} {F : Hp} {xs : List α} {vs : List V} {i : Int} {a : α} (h : All r F xs vs) (e : atI xs i = some a) : ∃ v, L2.atI vs i = some v ∧ r.h a v F := by
  unfold L2.atI at e ⊢
  rw [h.len]
  cases q : ixN xs.length i with
  | none => rw [q] at e; cases e
  | some j => rw [q] at e; exact h.get e
theorem o_ixL {r : R α} : Op2 (rIxL K) (rLst r) rInt r (fun xs i k => ∃ a, atI xs i = some a ∧ k a) := fun _ _ _ _ _ _ _ k h1 h2 e ⟨a, ha, q⟩ w => by
  obtain ⟨p, vs, rfl, hp, A⟩ := h1
  cases h2
  obtain ⟨v, hv, hr⟩ := A.atI ha
  exact ⟨p, vs, _, v, rfl, rfl, SqL.of (e _ _ hp), hv, w a v _ _ q (After.refl e _) hr⟩
theorem o_ixT {r : R α} : Op2 (rIxT K) (rTup K r) rInt r (fun xs i k => ∃ a, atI xs i = some a ∧ k a) := fun _ _ _ _ _ _ _ k h1 h2 e ⟨a, ha, q⟩ w => by
  obtain ⟨p, vs, rfl, hp, A⟩ := h1
  cases h2
  obtain ⟨v, hv, hr⟩ := A.atI ha
  exact ⟨p, vs, _, v, rfl, rfl, _root_.Evl.ex_t e hp, hv, w a v _ _ q (After.refl e _) hr⟩
end
/-! ### statements -/
structure Pd (τ β ρ : Type) where
  nx : τ → Prop
  ct : β → Prop
  bk : β → Prop
  rt : ρ → Prop
section
variable {K : PySem.W.Frag} {b : Bs} {G : List Sl} {α γ τ τ' β ρ : Type} {Gn : τ → List Sl} {Gl : β → List Sl} {ro : ρ → V → Hp → Hp → Prop}
def S (b : Bs) (G : List Sl) (t : TS) (Gn : τ → List Sl) (Gl : β → List Sl) (ro : ρ → V → Hp → Hp → Prop) (f : Pd τ β ρ → Prop) : Prop := ∀ ⦃σ : L2.St⦄ ⦃F H : Hp⦄ ⦃D : Ends⦄ (d : Pd τ β ρ), Env b G σ F H → f d →
  (∀ x σ' F' H', d.nx x → Ex F F' → Env b (Gn x) σ' F' H' → D.nx σ' H') → (∀ x σ' F' H', d.ct x → Ex F F' → Env b (Gl x) σ' F' H' → D.ct σ' H') → (∀ x σ' F' H', d.bk x → Ex F F' → Env b (Gl x) σ' F' H' → D.bk σ' H') →
  (∀ y v F' H', d.rt y → After b.F b.H b.M F' H' → ro y v F' H' → D.rt v H') → t D σ H
/-! slots set -/
theorem Holds.set {F H : Hp} {s : Sl} {o : Option V} (h : s.h o F H) : ∀ {G : List Sl} {σ : L2.St} {i : Nat}, Holds G σ F H → Holds (G.set i s) (σ.set i o) F H
  | _, _, _, .nil => .nil
  | _, _, 0, .cons _ t => .cons h t
  | _, _, i + 1, .cons r t => .cons r (Holds.set h t)
theorem Holds.of {F H : Hp} : ∀ {G : List Sl} {σ : L2.St}, G.length = σ.length → (∀ (i : Nat) (s : Sl) (o : Option V), G[i]? = some s → σ[i]? = some o → s.h o F H) → Holds G σ F H
  | [], [], _, _ => .nil
  | s :: g, o :: σ, l, h => .cons (h 0 s o rfl rfl) (Holds.of (by simpa using l) fun i s o h1 h2 => h (i + 1) s o (by simpa using h1) (by simpa using h2))
theorem owns_set {s : Sl} : ∀ {G : List Sl} {i : Nat}, s.ow = [] → (owns (G.set i s)).Sublist (owns G)
  | [], _, _ => List.Sublist.refl _
  | x :: g, 0, h => by
    show (s.ow ++ owns g).Sublist (x.ow ++ owns g)
    rw [h]; exact List.sublist_append_right _ _
  | x :: g, i + 1, h => List.Sublist.append_left (owns_set h) _
theorem owns_same {s t : Sl} : ∀ {G : List Sl} {i : Nat}, G[i]? = some s → t.ow = s.ow → owns (G.set i t) = owns G
  | [], _, h, _ => by simp at h
  | x :: g, 0, h, e => by
    simp at h; subst h
    show t.ow ++ owns g = _
    rw [e]; rfl
  | x :: g, i + 1, h, e => by
    show x.ow ++ owns (g.set i t) = x.ow ++ owns g
    rw [owns_same (by simpa using h) e]
theorem owns_disj : ∀ {G : List Sl} {i j : Nat} {s t : Sl} {p : Addr}, G[i]? = some s → G[j]? = some t → i ≠ j → (owns G).Nodup → p ∈ s.ow → p ∉ t.ow
  | [], _, _, _, _, _, h, _, _, _, _ => by simp at h
  | x :: g, 0, 0, _, _, _, _, _, n, _, _ => absurd rfl n
  | x :: g, 0, j + 1, s, t, p, h1, h2, n, nd, hp => fun z => by
    simp at h1; subst h1
    exact (List.nodup_append.mp nd).2.2 p hp p (mem_owns (i := j) (by simpa using h2) z) rfl
  | x :: g, i + 1, 0, s, t, p, h1, h2, n, nd, hp => fun z => by
    simp at h2; subst h2
    exact (List.nodup_append.mp nd).2.2 p z p (mem_owns (i := i) (by simpa using h1) hp) rfl
  | x :: g, i + 1, j + 1, s, t, p, h1, h2, n, nd, hp => owns_disj (i := i) (j := j) (by simpa using h1) (by simpa using h2) (by omega) (List.nodup_append.mp nd).2.1 hp
theorem owns_inv : ∀ {g : List Sl} {q : Addr}, q ∈ owns g → ∃ (j : Nat) (s : Sl), g[j]? = some s ∧ q ∈ s.ow
  | [], _, h => nomatch h
  | x :: g, q, h => by
    rcases List.mem_append.mp h with h | h
    · exact ⟨0, x, rfl, h⟩
    · obtain ⟨j, s, h1, h2⟩ := owns_inv h
      exact ⟨j + 1, s, by simpa using h1, h2⟩
/-- the slot i, that owns p alone, is changed -/
theorem Holds.mut {F H F' H' : Hp} {G : List Sl} {σ : L2.St} {i : Nat} {p : Addr} {s s' : Sl} {o : Option V} (h : Holds G σ F H) (nd : (owns G).Nodup) (hi : G[i]? = some s) (ho : σ[i]? = some o) (hs : p ∈ s.ow) (e : Ex F F') (k : ∀ q u, q ≠ p → H q = some u → H' q = some u) (h' : s'.h o F' H') : Holds (G.set i s') σ F' H' := by
  refine Holds.of (by rw [List.length_set]; exact h.len) fun j t o2 h1 h2 => ?_
  by_cases q : i = j
  · subst q
    have hl : i < G.length := (List.getElem?_eq_some_iff.mp hi).1
    rw [List.getElem?_set_self hl] at h1
    cases h1
    rw [ho] at h2; cases h2
    exact h'
  · rw [List.getElem?_set_ne q] at h1
    obtain ⟨o', h3, h4⟩ := h.at_ h1
    rw [h2] at h3; cases h3
    exact t.up e (fun a ha u hu => k a u (fun z => owns_disj hi h1 q nd hs (z ▸ ha)) hu) h4
theorem Env.set {σ : L2.St} {F H : Hp} {i : Nat} {s : Sl} {o : Option V} (V : Env b G σ F H) (h : s.h o F H) (ow : s.ow = []) : Env b (G.set i s) (σ.set i o) F H :=
  V.step0 (After.refl V.fh []) (fun _ z => nomatch z) (fun p hp => (owns_set ow).subset hp) (V.nd.sublist (owns_set ow)) (V.hold.set h)
/-- forgetting -/
inductive Sub : List Sl → List Sl → Prop
  | nil : Sub [] []
  | keep {s : Sl} {g g' : List Sl} : Sub g g' → Sub (s :: g) (s :: g')
  | drop {s : Sl} {g g' : List Sl} : Sub g g' → Sub (s :: g) (any :: g')
theorem Sub.refl : ∀ g : List Sl, Sub g g
  | [] => .nil
  | _ :: g => .keep (Sub.refl g)
theorem Sub.owns {g g' : List Sl} (h : Sub g g') : (owns g').Sublist (owns g) := by
  induction h with
  | nil => exact .refl _
  | keep _ ih => exact List.Sublist.append_left ih _
  | drop _ ih => exact ih.trans (List.sublist_append_right _ _)
theorem Sub.holds {g g' : List Sl} {F H : Hp} (h : Sub g g') : ∀ {σ : L2.St}, Holds g σ F H → Holds g' σ F H := by
  induction h with
  | nil => intro σ h; exact h
  | keep _ ih => intro σ h; cases h with | cons r t => exact .cons r (ih t)
  | drop _ ih => intro σ h; cases h with | cons r t => exact .cons trivial (ih t)
theorem Env.sub {σ : L2.St} {F H : Hp} {G' : List Sl} (V : Env b G σ F H) (h : Sub G G') : Env b G' σ F H :=
  V.step0 (After.refl V.fh []) (fun _ z => nomatch z) (fun p hp => h.owns.subset hp) (V.nd.sublist h.owns) (h.holds V.hold)
theorem s_seq {t u : TS} {Gm : τ' → List Sl} {f : Pd τ' β ρ → Prop} {g : τ' → Pd τ β ρ → Prop} (ht : S b G t Gm Gl ro f) (hu : ∀ x, S b (Gm x) u Gn Gl ro (g x)) : S b G (tSeq t u) Gn Gl ro (fun d => f ⟨fun x => g x d, d.ct, d.bk, d.rt⟩) :=
  fun _ _ _ _ d V q w1 w2 w3 w4 => ht _ V q (fun x σ' F' H' q' e V' => hu x d V' q' (fun y σ2 F2 H2 q2 e2 => w1 y σ2 F2 H2 q2 (e.trans e2)) (fun y σ2 F2 H2 q2 e2 => w2 y σ2 F2 H2 q2 (e.trans e2)) (fun y σ2 F2 H2 q2 e2 => w3 y σ2 F2 H2 q2 (e.trans e2)) w4) w2 w3 w4
theorem s_nil : S b G tNext (fun _ : Unit => G) Gl ro (fun d => d.nx ()) := fun _ _ _ _ d V q w1 _ _ _ => w1 () _ _ _ q (Ex.refl _) V
theorem s_ct {Gn : τ → List Sl} {x : β} (e : Sub G (Gl x)) (V0 : True := trivial) : S b G tCont Gn Gl ro (fun d => d.ct x) := fun _ _ _ _ d V q _ w2 _ _ => w2 x _ _ _ q (Ex.refl _) (V.sub e)
theorem s_bk {Gn : τ → List Sl} {x : β} (e : Sub G (Gl x)) : S b G tBreak Gn Gl ro (fun d => d.bk x) := fun _ _ _ _ d V q _ _ w3 _ => w3 x _ _ _ q (Ex.refl _) (V.sub e)
theorem s_if {c : TT} {t u : TS} {fc : (Bool → Prop) → Prop} {f g : Pd τ β ρ → Prop} (hc : Tt b G c fc) (ht : S b G t Gn Gl ro f) (hu : S b G u Gn Gl ro g) :
    S b G (tIfS c t u) Gn Gl ro (fun d => fc fun x => (x = true → f d) ∧ (x = false → g d)) := fun _ _ _ _ d V q w1 w2 w3 w4 => hc _ V q fun x F' H' q' e V' => by
  have z1 : ∀ x σ' F2 H2, d.nx x → Ex F' F2 → Env b (Gn x) σ' F2 H2 → _ := fun y σ2 F2 H2 q2 e2 => w1 y σ2 F2 H2 q2 (e.ff.trans e2)
  have z2 : ∀ x σ' F2 H2, d.ct x → Ex F' F2 → Env b (Gl x) σ' F2 H2 → _ := fun y σ2 F2 H2 q2 e2 => w2 y σ2 F2 H2 q2 (e.ff.trans e2)
  have z3 : ∀ x σ' F2 H2, d.bk x → Ex F' F2 → Env b (Gl x) σ' F2 H2 → _ := fun y σ2 F2 H2 q2 e2 => w3 y σ2 F2 H2 q2 (e.ff.trans e2)
  cases x with
  | true => exact iteT (ht d V' (q'.1 rfl) z1 z2 z3 w4)
  | false => exact iteF (hu d V' (q'.2 rfl) z1 z2 z3 w4)
theorem s_ret {te : TE} {r : R α} {f : (α → Prop) → Prop} {g : α → ρ} (h : E b G te r f) (hro : ∀ a v σ F H, Env b G σ F H → r.h a v F → ro (g a) v F H) : S b G (tRet te) Gn Gl ro (fun d => f fun a => d.rt (g a)) :=
  fun _ _ _ _ d V q _ _ _ w4 => h _ V q fun a v F' H' q' e V' r' => w4 (g a) v F' H' q' V'.after (hro a v _ F' H' V' r')
theorem s_retN {g : ρ} (hro : ∀ σ F H, Env b G σ F H → ro g .non F H) : S b G tRetN Gn Gl ro (fun d => d.rt g) := fun _ _ _ _ d V q _ _ _ w4 => w4 g .non _ _ q V.after (hro _ _ _ V)
theorem s_drop {te : TE} {r : R α} {f : (α → Prop) → Prop} (h : E b G te r f) : S b G (tDrop te) (fun _ : Unit => G) Gl ro (fun d => f fun _ => d.nx ()) :=
  fun _ _ _ _ d V q w1 _ _ _ => h _ V q fun a v F' H' q' e V' r' => w1 () _ F' H' q' e.ff V'
theorem s_asg {te : TE} {r : R α} {f : (α → Prop) → Prop} {i : Nat} (h : E b G te r f) : S b G (tAsg te (gName i)) (fun a : α => G.set i (val r a)) Gl ro (fun d => f d.nx) :=
  fun _ _ _ _ d V q w1 _ _ _ => h _ V q fun a v F' H' q' e V' r' => w1 a _ F' H' q' e.ff (V'.set ⟨v, rfl, r'⟩ rfl)
/-- x += e, ints -/
theorem s_augI {te : TE} {f : (Int → Prop) → Prop} {g : Int → Int → Int} {i : Nat} {n : Int} (hi : G[i]? = some (val rInt n)) (h : E b G te rInt f) : S b G (tAug i te (ipI g)) (fun a : Int => G.set i (val rInt a)) Gl ro (fun d => f fun m => d.nx (g n m)) :=
  fun _ _ _ _ d V q w1 _ _ _ => by
    obtain ⟨o, h1, v, rfl, rfl⟩ := V.hold.at_ hi
    exact ⟨_, h1, h _ V q fun a v F' H' q' e V' r' => ⟨n, a, rfl, r', w1 _ _ F' H' q' e.ff (V'.set ⟨_, rfl, rfl⟩ rfl)⟩⟩
theorem s_wk {t : TS} {Gm : τ' → List Sl} {f : Pd τ' β ρ → Prop} {g : τ' → τ} (h : S b G t Gm Gl ro f) (hs : ∀ x, Sub (Gm x) (Gn (g x))) : S b G t Gn Gl ro (fun d => f ⟨fun x => d.nx (g x), d.ct, d.bk, d.rt⟩) :=
  fun _ _ _ _ d V q w1 w2 w3 w4 => h _ V q (fun x σ' F' H' q' e V' => w1 (g x) σ' F' H' q' e (V'.sub (hs x))) w2 w3 w4
theorem s_pre {t : TS} {G' : List Sl} {f : Pd τ β ρ → Prop} (hs : Sub G G') (h : S b G' t Gn Gl ro f) : S b G t Gn Gl ro f := fun _ _ _ _ d V q w1 w2 w3 w4 => h d (V.sub hs) q w1 w2 w3 w4
theorem s_cq {t : TS} {f g : Pd τ β ρ → Prop} (h : S b G t Gn Gl ro f) (w : ∀ d, g d → f d) : S b G t Gn Gl ro g := fun _ _ _ _ d V q => h d V (w d q)
/-- a view: an own cell is frozen -/
theorem Env.frz {σ : L2.St} {F H : Hp} {i : Nat} {p : Addr} {c : C α} {a : α} {r : R α} (V : Env b G σ F H) (hi : G[i]? = some (own p c a)) (hm : p ∉ b.M) (hr : ∀ u F, c.h a u F → F p = some u → r.h a (.ref p) F) : ∃ F', Ex F F' ∧ Env b (G.set i (val r a)) σ F' H ∧ r.h a (.ref p) F' := by
  obtain ⟨o, h1, rfl, u, hu, hc⟩ := V.hold.at_ hi
  have hp : p ∈ owns G := mem_owns hi List.mem_cons_self
  have fp := (V.on p hp).1
  have bp : b.H p = none := (V.on p hp).2.resolve_left hm
  have e : Ex F (upd F p u) := Ex.new fp
  have hr' : r.h a (.ref p) (upd F p u) := hr u _ (c.ex e hc) upd_same
  refine ⟨upd F p u, e, ⟨V.ff.trans e, fun x o h => ?_, V.hh, V.kp, fun x h1 h2 => ?_, ?_, V.nd.sublist (owns_set rfl), fun q hq => ?_⟩, hr'⟩
  · by_cases z : x = p
    · subst z; rw [upd_same] at h; cases h; exact hu
    · rw [upd_ne z] at h; exact V.fh _ _ h
  · rw [upd_ne (fun z => h2 (by rw [z]; exact bp))]; exact V.nf x h1 h2
  · have hs : σ.set i (some (.ref p)) = σ := by
      apply List.ext_getElem?
      intro j
      by_cases z : i = j
      · subst z
        rw [List.getElem?_set_self (List.getElem?_eq_some_iff.mp h1).1, h1]
      · rw [List.getElem?_set_ne z]
    exact V.hold.mut V.nd hi h1 (List.mem_cons_self) e (fun _ _ _ h => h) ⟨_, rfl, hr'⟩
  · have hq' := (owns_set (s := val r a) rfl).subset hq
    have ne : q ≠ p := fun z => by
      subst z
      obtain ⟨j, s, h3, h4⟩ := owns_inv hq
      by_cases z : i = j
      · subst z
        rw [List.getElem?_set_self (List.getElem?_eq_some_iff.mp hi).1] at h3
        cases h3
        nomatch h4
      · rw [List.getElem?_set_ne z] at h3
        exact owns_disj hi h3 z V.nd List.mem_cons_self h4
    rw [upd_ne ne]
    exact V.on q hq'
theorem frz_lst {r : R α} {a : List α} : ∀ {p : Addr} (u : HO) (F : Hp), (cLst r).h a u F → F p = some u → (rLst r).h a (.ref p) F := fun u F ⟨vs, h1, h2⟩ h => ⟨_, vs, rfl, h1 ▸ h, h2⟩
theorem s_frz {t : TS} {i : Nat} {p : Addr} {c : C α} {a : α} {r : R α} {f : Pd τ β ρ → Prop} (hi : G[i]? = some (own p c a)) (hm : p ∉ b.M) (hr : ∀ u F, c.h a u F → F p = some u → r.h a (.ref p) F) (h : S b (G.set i (val r a)) t Gn Gl ro f) : S b G t Gn Gl ro f := fun _ _ _ _ d V q w1 w2 w3 w4 => by
  obtain ⟨F', e, V', _⟩ := V.frz hi hm hr
  exact h d V' q (fun y σ2 F2 H2 q2 e2 => w1 y σ2 F2 H2 q2 (e.trans e2)) (fun y σ2 F2 H2 q2 e2 => w2 y σ2 F2 H2 q2 (e.trans e2)) (fun y σ2 F2 H2 q2 e2 => w3 y σ2 F2 H2 q2 (e.trans e2)) w4
end
end Mi
/-! Mir2 -/
set_option Elab.async false
set_option linter.all false
set_option maxRecDepth 100000
set_option maxHeartbeats 4000000
namespace Mi
open PySem PySem.Spec L2 Dh
open _root_.Evl (Ex)
section
variable {K : PySem.W.Frag} {b : Bs} {G : List Sl} {α β γ δ τ τ' ρ ε : Type} {Gn : τ → List Sl} {Gl : ε → List Sl} {ro : ρ → V → Hp → Hp → Prop} {σ : L2.St} {F H F' H' : Hp}
/-! ### what is walked -/
theorem All.of_get {r : R α} {F : Hp} {xs : List α} {vs : List V} (A : All r F xs vs) {i : Nat} {v : V} (h : vs[i]? = some v) : ∃ a, xs[i]? = some a ∧ r.h a v F := by
  have hi := (List.getElem?_eq_some_iff.mp h).1
  rw [A.len] at hi
  obtain ⟨a, ha⟩ : ∃ a, xs[i]? = some a := ⟨xs[i], by simp [hi]⟩
  obtain ⟨v', h1, h2⟩ := A.get ha
  rw [h] at h1; cases h1
  exact ⟨a, ha, h2⟩

def WkOk (J : It) (F' : Hp) (r : R α) (xs : List α) : Prop := ∃ (Gs : Hp → Prop) (Y : Nat → Hp → V → Hp → Prop), Walk J xs.length Gs Y ∧ (∀ H2, Ex F' H2 → Gs H2) ∧
  ∀ i v F2 H2 H3, i < xs.length → Ex F' F2 → Ex F2 H2 → Y i H2 v H3 → ∃ a F3, xs[i]? = some a ∧ After F2 H2 [] F3 H3 ∧ r.h a v F3
theorem wkOk {J : It} {F' : Hp} {r : R α} {xs : List α} {n : Nat} {Gs : Hp → Prop} {Y : Nat → Hp → V → Hp → Prop} (hw : Walk J n Gs Y) (hn : n = xs.length) (hG : ∀ H2, Ex F' H2 → Gs H2) (hY : ∀ i v F2 H2 H3, i < n → Ex F' F2 → Ex F2 H2 → Y i H2 v H3 → ∃ a F3, xs[i]? = some a ∧ After F2 H2 [] F3 H3 ∧ r.h a v F3) : WkOk J F' r xs := by
  subst hn; exact ⟨Gs, Y, hw, hG, hY⟩
def Wk (b : Bs) (G : List Sl) (ti : TI) (r : R α) (f : (List α → Prop) → Prop) : Prop := ∀ ⦃σ : L2.St⦄ ⦃F H : Hp⦄ ⦃R : It → Hp → Prop⦄ (k : List α → Prop), Env b G σ F H → f k →
  (∀ xs J F' H', k xs → After F H (owns G) F' H' → Env b G σ F' H' → WkOk J F' r xs → R J H') → ti σ H R
theorem wk_list {tl : TE} {r : R α} {f : (List α → Prop) → Prop} (h : E b G tl (rLst r) f) : Wk b G (iList K tl) r f := fun _ _ _ _ k V q w => by
  refine h k V q ?_
  rintro xs v F1 H1 q1 A1 V1 ⟨p, vs, e, hp, A⟩
  subst e
  refine ⟨p, rfl, ⟨vs, SqL.of (V1.fh _ _ hp)⟩, w xs _ F1 H1 q1 A1 V1 (wkOk walk_list A.len (fun H2 e => SqL.of (e _ _ hp)) fun i v F2 H2 H3 hi e1 e2 ⟨y1, y2⟩ => ?_)⟩
  subst y1
  obtain ⟨a, ha, h2⟩ := A.of_get y2
  exact ⟨a, F2, ha, .refl e2 _, r.ex e1 h2⟩
theorem wk_tup {tl : TE} {r : R α} {f : (List α → Prop) → Prop} (h : E b G tl (rTup K r) f) : Wk b G (iTup K tl) r f := fun _ _ _ _ k V q w => by
  refine h k V q ?_
  rintro xs v F1 H1 q1 A1 V1 ⟨p, vs, e, hp, A⟩
  subst e
  refine ⟨p, rfl, ⟨vs, _root_.Evl.ex_t V1.fh hp⟩, w xs _ F1 H1 q1 A1 V1 (wkOk walk_tup A.len (fun H2 e => _root_.Evl.ex_t e hp) fun i v F2 H2 H3 hi e1 e2 ⟨y1, y2⟩ => ?_)⟩
  subst y1
  obtain ⟨a, ha, h2⟩ := A.of_get y2
  exact ⟨a, F2, ha, .refl e2 _, r.ex e1 h2⟩
/-- the numbers lo, lo + 1, .. -/
def rng (lo : Int) (n : Nat) : List Int := (List.range n).map fun i => lo + (i : Nat)
theorem rng_len {lo : Int} {n : Nat} : (rng lo n).length = n := by unfold rng; simp
theorem rng_get {lo : Int} {n i : Nat} (h : i < n) : (rng lo n)[i]? = some (lo + (i : Nat)) := by unfold rng; simp [h]
theorem rng_inv {lo a : Int} {n i : Nat} (h : (rng lo n)[i]? = some a) : i < n ∧ a = lo + (i : Nat) := by
  have hi : i < n := by
    have := (List.getElem?_eq_some_iff.mp h).1
    rw [rng_len] at this; exact this
  rw [rng_get hi] at h
  exact ⟨hi, (Option.some.inj h).symm⟩
theorem rng_mem {lo a : Int} {n : Nat} (h : a ∈ rng lo n) : lo ≤ a ∧ a < lo + n := by
  unfold rng at h
  obtain ⟨i, h1, h2⟩ := List.mem_map.mp h
  have := List.mem_range.mp h1
  omega
theorem wk_range1 {ta : TA} {f : (Int → Prop) → Prop} (h : Ar b G ta (rOne rInt) f) : Wk b G (iRng1 ta) rInt (fun k => f fun j => (-(2 ^ 62) ≤ j ∧ j < 2 ^ 62) ∧ k (rng 0 j.toNat)) := fun _ _ _ _ k V q w => by
  refine h _ V q ?_
  rintro j vs F1 H1 q1 A1 V1 ⟨v, e, hv⟩
  cases hv
  subst e
  refine ⟨j, rfl, q1.1.1, q1.1.2, w _ _ F1 H1 q1.2 A1 V1 (wkOk walk_range rng_len.symm (fun _ _ => trivial) fun i v F2 H2 H3 hi e1 e2 ⟨y1, y2⟩ => ?_)⟩
  subst y1
  exact ⟨_, F2, rng_get hi, .refl e2 _, y2⟩
theorem wk_range2 {ta : TA} {f : (Int × Int → Prop) → Prop} (h : Ar b G ta (rCons rInt (rOne rInt)) f) : Wk b G (iRng2 ta) rInt (fun k => f fun j => (-(2 ^ 62) ≤ j.1 ∧ j.1 < 2 ^ 62 ∧ -(2 ^ 62) ≤ j.2 ∧ j.2 < 2 ^ 62) ∧ k (rng j.1 (j.2 - j.1).toNat)) := fun _ _ _ _ k V q w => by
  refine h _ V q ?_
  rintro j vs F1 H1 q1 A1 V1 ⟨v, ws, e, hv, u, e2, hu⟩
  cases hv
  cases hu
  subst e2
  subst e
  refine ⟨j.1, j.2, rfl, q1.1, w _ _ F1 H1 q1.2 A1 V1 (wkOk walk_range rng_len.symm (fun _ _ => trivial) fun i v F2 H2 H3 hi e1 e2 ⟨y1, y2⟩ => ?_)⟩
  subst y1
  exact ⟨_, F2, rng_get hi, .refl e2 _, y2⟩
/-- pairs with their numbers -/
def enumL (xs : List α) : List (Int × α) := (rng 0 xs.length).zip xs
theorem enumL_len {xs : List α} : (enumL xs).length = xs.length := by unfold enumL; simp [rng_len]
theorem enumL_get {xs : List α} {i : Nat} {a : α} (h : xs[i]? = some a) : (enumL xs)[i]? = some ((i : Int), a) := by
  unfold enumL
  have hi := (List.getElem?_eq_some_iff.mp h).1
  rw [List.getElem?_zip_eq_some]
  exact ⟨by rw [rng_get hi]; simp, h⟩
theorem enumL_inv {xs : List α} {i : Nat} {p : Int × α} (h : (enumL xs)[i]? = some p) : p.1 = (i : Int) ∧ xs[i]? = some p.2 := by
  unfold enumL at h
  rw [List.getElem?_zip_eq_some] at h
  exact ⟨by have := (rng_inv h.1).2; omega, h.2⟩
theorem pair_new {ra : R α} {rb : R γ} {a : α} {c : γ} {x y : V} {F2 H2 : Hp} {T : Addr} (e : Ex F2 H2) (hT : H2 T = none) (h1 : ra.h a x F2) (h2 : rb.h c y F2) : After F2 H2 [] (upd F2 T (.tup [x, y])) (upd H2 T (.tup [x, y])) ∧ (rTp K (rCons ra (rOne rb))).h (a, c) (.ref T) (upd F2 T (.tup [x, y])) := by
  have A := After.new (o := .tup [x, y]) e hT
  exact ⟨A, T, [x, y], rfl, SqT.of upd_same, x, [y], rfl, ra.ex A.ff h1, y, rfl, rb.ex A.ff h2⟩
theorem wk_enum {ta : TA} {r : R α} {f : (List α → Prop) → Prop} (h : Ar b G ta (rOne (rLst r)) f) : Wk b G (iEnum K ta) (rTp K (rCons rInt (rOne r))) (fun k => f fun xs => k (enumL xs)) := fun _ _ _ _ k V q w => by
  refine h _ V q ?_
  rintro xs ws F1 H1 q1 A1 V1 ⟨v, e, p, vs, e2, hp, A⟩
  subst e2
  subst e
  refine ⟨p, vs, rfl, SqL.of (V1.fh _ _ hp), w _ _ F1 H1 q1 A1 V1 (wkOk walk_enum (A.len.trans enumL_len.symm) (fun H2 e => SqL.of (e _ _ hp)) fun i v F2 H2 H3 hi e1 e2 ⟨T, x, y, y1, y2, y3, y4, y5⟩ => ?_)⟩
  subst y1 y3
  cases y4
  obtain ⟨a, ha, hr⟩ := A.of_get y5
  obtain ⟨B, hB⟩ := pair_new (K := K) (ra := rInt) (rb := r) (a := (i : Int)) e2 y2 rfl (r.ex e1 hr)
  exact ⟨_, _, enumL_get ha, B, hB⟩
theorem wk_rev {ta : TA} {r : R α} {f : (List α → Prop) → Prop} (h : Ar b G ta (rOne (rLst r)) f) : Wk b G (iRev K ta) r (fun k => f fun xs => k xs.reverse) := fun _ _ _ _ k V q w => by
  refine h _ V q ?_
  rintro xs ws F1 H1 q1 A1 V1 ⟨v, e, p, vs, e2, hp, A⟩
  subst e2
  subst e
  refine ⟨p, vs, rfl, SqL.of (V1.fh _ _ hp), w _ _ F1 H1 q1 A1 V1 (wkOk walk_rev (A.len.trans List.length_reverse.symm) (fun H2 e => SqL.of (e _ _ hp)) fun i v F2 H2 H3 hi e1 e2 ⟨y1, y2⟩ => ?_)⟩
  subst y1
  rw [A.len] at hi
  obtain ⟨a, ha, hr⟩ := A.of_get y2
  refine ⟨a, F2, ?_, .refl e2 _, r.ex e1 hr⟩
  rw [List.getElem?_reverse hi, ← A.len]; exact ha
theorem wk_zip {ta : TA} {ra : R α} {rb : R γ} {f : (List α × List γ → Prop) → Prop} (h : Ar b G ta (rCons (rLst ra) (rOne (rLst rb))) f) : Wk b G (iZip K ta) (rTp K (rCons ra (rOne rb))) (fun k => f fun x => k (x.1.zip x.2)) := fun _ _ _ _ k V q w => by
  refine h _ V q ?_
  rintro x ws F1 H1 q1 A1 V1 ⟨v, ws', e, ⟨p, vs, e2, hp, A⟩, v', e3, p', vs', e4, hp', A'⟩
  subst e4 e3 e2
  subst e
  refine ⟨p, p', vs, vs', rfl, SqL.of (V1.fh _ _ hp), SqL.of (V1.fh _ _ hp'), w _ _ F1 H1 q1 A1 V1 (wkOk (walk_zip (by rw [A.len, A'.len])) List.length_zip.symm (fun H2 e => ⟨SqL.of (e _ _ hp), SqL.of (e _ _ hp')⟩) fun i v F2 H2 H3 hi e1 e2 ⟨T, x, y, y1, y2, y3, y4, y5⟩ => ?_)⟩
  subst y1 y3
  obtain ⟨a, ha, hr⟩ := A.of_get y4
  obtain ⟨a', ha', hr'⟩ := A'.of_get y5
  obtain ⟨B, hB⟩ := pair_new (K := K) (ra := ra) (rb := rb) e2 y2 (ra.ex e1 hr) (rb.ex e1 hr')
  exact ⟨_, _, by rw [List.getElem?_zip_eq_some]; exact ⟨ha, ha'⟩, B, hB⟩
/-- the letters of a text -/
def chrs (z : Str) : List Str := z.cps.toList.map fun c => ⟨#[c]⟩
theorem wk_str {te : TE} {f : (Str → Prop) → Prop} (h : E b G te rStr f) : Wk b G (iStr te) rStr (fun k => f fun z => k (chrs z)) := fun _ _ _ _ k V q w => by
  refine h _ V q ?_
  intro z v F1 H1 q1 A1 V1 e
  cases e
  refine ⟨z, rfl, w _ _ F1 H1 q1 A1 V1 (wkOk walk_str (by unfold chrs; rw [List.length_map, Array.length_toList]) (fun _ _ => trivial) fun i v F2 H2 H3 hi e1 e2 ⟨y1, c, y2, y3⟩ => ?_)⟩
  subst y1 y3
  refine ⟨_, F2, ?_, .refl e2 _, rfl⟩
  unfold chrs
  rw [List.getElem?_map, Array.getElem?_toList, y2]; rfl
/-! ### targets -/
def wipeG (G : List Sl) : List Nat → List Sl
  | [] => G
  | v :: vs => (wipeG G vs).set v any
theorem Env.wipe (V : Env b G σ F H) : ∀ vs : List Nat, Env b (wipeG G vs) (wipe σ vs) F H
  | [] => V
  | v :: vs => (Env.wipe V vs).set (s := any) trivial rfl
theorem Env.setV {r : R α} {a : α} {v : V} {i : Nat} (V : Env b G σ F H) (h : r.h a v F) : Env b (G.set i (val r a)) (σ.set i (some v)) F H := V.set ⟨v, rfl, h⟩ rfl
def UpOk (up : α → List Sl → List Sl) (vs : List Nat) : Prop := ∀ a G, (∀ p ∈ owns (up a G), p ∈ owns G) ∧ wipeG (up a G) vs = wipeG G vs
def Tg (g : TG) (r : R α) (up : α → List Sl → List Sl) (vs : List Nat) : Prop := UpOk up vs ∧ ∀ ⦃b : Bs⦄ ⦃G : List Sl⦄ ⦃σ : L2.St⦄ ⦃F H : Hp⦄ ⦃v : V⦄ ⦃a : α⦄ ⦃q : L2.St → Hp → Prop⦄, r.h a v F → Env b G σ F H →
  (∀ σ', Env b (up a G) σ' F H → wipe σ' vs = wipe σ vs → q σ' H) → g v σ H q
def TgI (g : TGs) (s : RI α) (up : α → List Sl → List Sl) (vs : List Nat) : Prop := UpOk up vs ∧ ∀ ⦃b : Bs⦄ ⦃G : List Sl⦄ ⦃σ : L2.St⦄ ⦃F H : Hp⦄ ⦃ws : List V⦄ ⦃a : α⦄ ⦃q : L2.St → Hp → Prop⦄, s.h a ws F → Env b G σ F H →
  (∀ σ', Env b (up a G) σ' F H → wipe σ' vs = wipe σ vs → q σ' H) → g ws σ H q
theorem wipe_one {i : Nat} {o : Option V} : wipe (σ.set i o) [i] = wipe σ [i] := by rw [wipe1, wipe1, List.set_set]
theorem wipeG_one {i : Nat} {s : Sl} {G : List Sl} : wipeG (G.set i s) [i] = wipeG G [i] := by
  show (G.set i s).set i any = G.set i any
  rw [List.set_set]
theorem up_one {i : Nat} {r : R α} : UpOk (fun a G => G.set i (val r a)) [i] := fun a G => ⟨fun p hp => (owns_set rfl).subset hp, wipeG_one⟩
theorem g_name {i : Nat} {r : R α} : Tg (gName i) r (fun a G => G.set i (val r a)) [i] := ⟨up_one, fun _ _ _ _ _ _ _ _ h V w => w _ (V.setV h) wipe_one⟩
theorem gi_one {i : Nat} {r : R α} : TgI (gCons (gName i) gNil) (rOne r) (fun a G => G.set i (val r a)) [i] := ⟨up_one, fun _ _ _ _ _ _ _ _ ⟨v, e, h⟩ V w => ⟨v, [], e, rfl, w _ (V.setV h) wipe_one⟩⟩
theorem wipe_set_ne {i : Nat} {o : Option V} : ∀ {vs : List Nat}, i ∉ vs → wipe (σ.set i o) vs = (wipe σ vs).set i o
  | [], _ => rfl
  | v :: vs, h => by
    show (wipe (σ.set i o) vs).set v none = ((wipe σ vs).set v none).set i o
    rw [wipe_set_ne (fun z => h (List.mem_cons_of_mem _ z)), List.set_comm _ _ (fun z => h (by rw [z]; exact List.mem_cons_self))]
theorem wipe_mem {i : Nat} {o : Option V} : ∀ {vs : List Nat}, i ∈ vs → wipe (σ.set i o) vs = wipe σ vs
  | v :: vs, h => by
    show (wipe (σ.set i o) vs).set v none = (wipe σ vs).set v none
    by_cases q : i ∈ vs
    · rw [wipe_mem q]
    · rcases List.mem_cons.mp h with e | e
      · subst e; rw [wipe_set_ne q, List.set_set]
      · exact absurd e q
theorem wipeG_set_ne {i : Nat} {o : Sl} : ∀ {vs : List Nat}, i ∉ vs → wipeG (G.set i o) vs = (wipeG G vs).set i o
  | [], _ => rfl
  | v :: vs, h => by
    show (wipeG (G.set i o) vs).set v any = ((wipeG G vs).set v any).set i o
    rw [wipeG_set_ne (fun z => h (List.mem_cons_of_mem _ z)), List.set_comm _ _ (fun z => h (by rw [z]; exact List.mem_cons_self))]
theorem wipeG_mem {i : Nat} {o : Sl} : ∀ {vs : List Nat}, i ∈ vs → wipeG (G.set i o) vs = wipeG G vs
  | v :: vs, h => by
    show (wipeG (G.set i o) vs).set v any = (wipeG G vs).set v any
    by_cases q : i ∈ vs
    · rw [wipeG_mem q]
    · rcases List.mem_cons.mp h with e | e
      · subst e; rw [wipeG_set_ne q, List.set_set]
      · exact absurd e q
theorem gi_cons {i : Nat} {r : R α} {u : TGs} {s : RI γ} {up : γ → List Sl → List Sl} {vs : List Nat} (h : TgI u s up vs) : TgI (gCons (gName i) u) (rCons r s) (fun a G => up a.2 (G.set i (val r a.1))) (i :: vs) := by
  refine ⟨fun a G => ⟨fun p hp => (owns_set rfl).subset ((h.1 _ _).1 p hp), ?_⟩, fun _ _ _ _ _ _ _ _ ⟨v, ws, e, h1, h2⟩ V w => ?_⟩
  · show (wipeG _ vs).set i any = (wipeG G vs).set i any
    rw [(h.1 _ _).2]
    by_cases q : i ∈ vs
    · rw [wipeG_mem q]
    · rw [wipeG_set_ne q, List.set_set]
  · refine ⟨v, ws, e, ?_⟩
    refine h.2 h2 (V.setV h1) fun σ' V' e' => w _ V' ?_
    show (wipe σ' vs).set i none = (wipe _ vs).set i none
    rw [e']
    by_cases q : i ∈ vs
    · rw [wipe_mem q]
    · rw [wipe_set_ne q, List.set_set]
theorem g_tup {n : Nat} {u : TGs} {s : RI α} {up : α → List Sl → List Sl} {vs : List Nat} (h : TgI u s up vs) (hn : s.n = n) : Tg (gTup K n u) (rTp K s) up vs := ⟨h.1, fun _ _ _ _ _ _ _ _ ⟨p, ws, e, h1, h2⟩ V w => ⟨p, ws, e, _root_.Evl.ex_t V.fh h1, (s.ln h2).trans hn, h.2 h2 V w⟩⟩
theorem s_asgT {te : TE} {r : R α} {f : (α → Prop) → Prop} {g : TG} {up : α → List Sl → List Sl} {vs : List Nat} (h : E b G te r f) (hg : Tg g r up vs) : S b G (tAsg te g) (fun a : α => up a G) Gl ro (fun d => f d.nx) :=
  fun _ _ _ _ d V q w1 _ _ _ => h _ V q fun a v F' H' q' e V' r' => hg.2 r' V' fun σ' V2 _ => w1 a _ F' H' q' e.ff V2
/-! ### loops -/
def forP (xs : List α) (x0 : τ) (B : α → τ → (τ → Prop) → Prop) (k : τ → Prop) : Prop := ∃ I : Nat → τ → Prop, I 0 x0 ∧ (∀ i a x, xs[i]? = some a → I i x → B a x (I (i + 1))) ∧ ∀ x, I xs.length x → k x
theorem s_for {wi : TI} {g : TG} {tb : TS} {r : R α} {up : α → List Sl → List Sl} {vs : List Nat} {fw : (List α → Prop) → Prop} {Gt : τ → List Sl} {x0 : τ} {fb : α → τ → Pd τ τ ρ → Prop} (hw : Wk b G wi r fw) (hg : Tg g r up vs) (h0 : Sub G (Gt x0))
    (hb : ∀ a x, S b (up a (Gt x)) tb Gt Gt ro (fb a x)) : S b G (tFor wi g tb) Gt Gl ro (fun d => fw fun xs => forP xs x0 (fun a x n => fb a x ⟨n, n, d.nx, d.rt⟩) d.nx) :=
  fun σ F H D d V q w1 _ _ w4 => hw _ V q fun xs J F1 H1 q1 A1 V1 ⟨Gs, Y, hW, hG, hY⟩ => by
    obtain ⟨I, i0, it, id⟩ := q1
    refine raw_f hW ⟨fun i σ2 H2 => ∃ x F2, I i x ∧ Ex F1 F2 ∧ Env b (Gt x) σ2 F2 H2, ⟨x0, F1, i0, Ex.refl _, V1.sub h0⟩, fun i σ2 H2 _ ⟨x, F2, _, e2, V2⟩ => hG _ (e2.trans V2.fh), fun i v σ2 H2 H3 hi ⟨x, F2, hx, e2, V2⟩ y => ?_, fun σ2 H2 ⟨x, F2, hx, e2, V2⟩ => w1 x _ F2 H2 (id x hx) (A1.ff.trans e2) V2⟩
    obtain ⟨a, F3, ha, A3, hr⟩ := hY i v F2 H2 H3 hi e2 V2.fh y
    refine hg.2 hr (V2.step A3) fun σ3 V3 _ => ?_
    have e3 := e2.trans A3.ff
    exact hb a x _ V3 (it i a x ha hx) (fun y σ' F' H' q' e' V' => ⟨y, F', q', e3.trans e', V'⟩) (fun y σ' F' H' q' e' V' => ⟨y, F', q', e3.trans e', V'⟩) (fun y σ' F' H' q' e' V' => w1 y σ' F' H' q' ((A1.ff.trans e3).trans e') V') w4
def whileP (x0 : τ) (C : τ → (Bool → Prop) → Prop) (B : τ → (τ → Prop) → Prop) (k : τ → Prop) : Prop := ∃ I : Nat → τ → Prop, (∃ n, I n x0) ∧ ∀ n x, I n x → C x fun c => (c = true → B x fun y => ∃ m, m < n ∧ I m y) ∧ (c = false → k x)
theorem s_while {c : TT} {tb : TS} {Gt : τ → List Sl} {x0 : τ} {fc : τ → (Bool → Prop) → Prop} {fb : τ → Pd τ τ ρ → Prop} (h0 : Sub G (Gt x0)) (hc : ∀ x, Tt b (Gt x) c (fc x)) (hb : ∀ x, S b (Gt x) tb Gt Gt ro (fb x)) :
    S b G (tWhile c tb) Gt Gl ro (fun d => whileP x0 fc (fun x n => fb x ⟨n, n, d.nx, d.rt⟩) d.nx) :=
  fun σ F H D d V ⟨I, ⟨n0, i0⟩, it⟩ w1 _ _ w4 => by
    refine ⟨fun m σ2 H2 => ∃ x F2, I m x ∧ Ex F F2 ∧ Env b (Gt x) σ2 F2 H2, ⟨n0, x0, F, i0, Ex.refl _, V.sub h0⟩, fun m σ2 H2 ⟨x, F2, hx, e2, V2⟩ => ?_⟩
    refine hc x _ V2 (it m x hx) fun z F3 H3 q3 A3 V3 => ?_
    have e3 := e2.trans A3.ff
    cases z with
    | true =>
      refine iteT ⟨fun σ4 H4 => ∃ m', m' < m ∧ ∃ x F2, I m' x ∧ Ex F F2 ∧ Env b (Gt x) σ4 F2 H4, fun σ4 H4 h => h, ?_⟩
      exact hb x _ V3 (q3.1 rfl) (fun y σ' F' H' ⟨m', h1, h2⟩ e' V' => ⟨m', h1, y, F', h2, e3.trans e', V'⟩) (fun y σ' F' H' ⟨m', h1, h2⟩ e' V' => ⟨m', h1, y, F', h2, e3.trans e', V'⟩) (fun y σ' F' H' q' e' V' => w1 y σ' F' H' q' (e3.trans e') V') w4
    | false => exact iteF (w1 x _ F3 H3 (q3.2 rfl) e3 V3)
/-! ### new lists -/
def EN (b : Bs) (G : List Sl) (te : TE) (r : R α) (f : (List α → Prop) → Prop) : Prop := ∀ ⦃σ : L2.St⦄ ⦃F H : Hp⦄ ⦃Q : VK⦄ (k : List α → Prop), Env b G σ F H → f k →
  (∀ xs p vs F' H', k xs → After F H (owns G) F' H' → Env b G σ F' H' → H p = none → F' p = none → H' p = some (.lst vs) → All r F' xs vs → Q (.ref p) H') → te σ H Q
theorem thaw {M : List Addr} {p : Addr} {u : HO} (V : Env b G σ F H) (A : After F H M F' H') (V' : Env b G σ F' H') (hp : H p = none) (fp : F' p = none) (h' : H' p = some u) : After F H M (upd F' p u) H' ∧ Env b G σ (upd F' p u) H' := by
  have e : Ex (upd F' p u) H' := fun x o h => by
    by_cases z : x = p
    · subst z; rw [upd_same] at h; cases h; exact h'
    · rw [upd_ne z] at h; exact A.fh _ _ h
  have n1 : ∀ x, H x ≠ none → x ≠ p := fun x h z => h (by rw [z]; exact hp)
  refine ⟨⟨A.ff.trans (Ex.new fp), e, A.hh, A.kp, fun x h1 h2 => by rw [upd_ne (n1 x h2)]; exact A.nf x h1 h2⟩, V'.ff.trans (Ex.new fp), e, V'.hh, V'.kp, fun x h1 h2 => ?_, ?_, V'.nd, fun q hq => ?_⟩
  · rw [upd_ne (n1 x (V.kp x h2))]; exact V'.nf x h1 h2
  · exact V'.hold.up (Ex.new fp) fun _ _ _ h => h
  · rw [upd_ne (n1 q (V.hold.live q hq))]; exact V'.on q hq
theorem e_new {te : TE} {r : R α} {f : (List α → Prop) → Prop} (h : EN b G te r f) : E b G te (rLst r) f := fun _ _ _ _ k V q w => h k V q fun xs p vs F' H' q' A V' h1 h2 h3 h4 => by
  obtain ⟨A2, V2⟩ := thaw V A V' h1 h2 h3
  exact w xs _ _ H' q' A2 V2 ⟨p, vs, rfl, upd_same, h4.ex (Ex.new h2)⟩
/-- laid anew -/
theorem After.fresh {F H : Hp} {p : Addr} {o : HO} (e : Ex F H) (hp : H p = none) (M : List Addr) : After F H M F (upd H p o) where
  ff := Ex.refl F
  fh := ex_mut (ex_none e hp) e
  hh := fun a u _ h => by rw [upd_ne (ne_of_none h hp)]; exact h
  kp := fun a h => by
    by_cases q : a = p
    · subst q; exact absurd hp h
    · rw [upd_ne q]; exact h
  nf := fun a h1 _ => h1
theorem en_lay {r : R α} {xs : List α} {vs : List V} {Q : VK} {k : List α → Prop} {F0 H0 : Hp} (A0 : After F0 H0 (owns G) F H) (V : Env b G σ F H) (q : k xs) (A : All r F xs vs)
    (w : ∀ xs p vs F' H', k xs → After F0 H0 (owns G) F' H' → Env b G σ F' H' → H0 p = none → F' p = none → H' p = some (.lst vs) → All r F' xs vs → Q (.ref p) H') {p : Addr} (hp : H p = none) : Q (.ref p) (upd H p (.lst vs)) := by
  have B := After.fresh (o := .lst vs) V.fh hp
  refine w xs p vs F _ q (A0.trans (B _)) (V.step (B _)) ?_ (ex_none V.fh hp) upd_same A
  cases e : H0 p with
  | none => rfl
  | some u => exact absurd hp (A0.kp p (by rw [e]; exact fun z => nomatch z))
/-- the items of a display -/
def ArL (b : Bs) (G : List Sl) (ta : TA) (r : R α) (n : Nat) (f : (List α → Prop) → Prop) : Prop := ∀ ⦃σ : L2.St⦄ ⦃F H : Hp⦄ ⦃Q : List V → Hp → Prop⦄ (k : List α → Prop), Env b G σ F H → f k →
  (∀ xs vs F' H', k xs → xs.length = n → After F H (owns G) F' H' → Env b G σ F' H' → All r F' xs vs → Q vs H') → ta σ H Q
theorem al_nil {r : R α} : ArL b G tNil r 0 (fun k => k []) := fun _ _ _ _ k V q w => w [] [] _ _ q rfl (.refl V.fh _) V .nil
theorem al_cons {te : TE} {ta : TA} {r : R α} {n : Nat} {f : (α → Prop) → Prop} {g : (List α → Prop) → Prop} (h : E b G te r f) (h2 : ArL b G ta r n g) : ArL b G (tCons te ta) r (n + 1) (fun k => f fun x => g fun xs => k (x :: xs)) :=
  fun _ _ _ _ k V q w => h _ V q fun x v F1 H1 q1 A1 V1 r1 => h2 _ V1 q1 fun xs vs F2 H2 q2 l A2 V2 r2 => w (x :: xs) (v :: vs) F2 H2 q2 (by rw [List.length_cons, l]) (A1.trans A2) V2 (.cons (r.ex A2.ff r1) r2)
theorem en_lst {ta : TA} {r : R α} {n : Nat} {f : (List α → Prop) → Prop} (h : ArL b G ta r n f) (hn : n ≤ sizeLine) : EN b G (tLst ta) r f := fun _ _ _ _ k V q w => h _ V q fun xs vs F1 H1 q1 l A1 V1 r1 => ⟨by rw [r1.len, l]; exact hn, fun p hp => en_lay A1 V1 q1 r1 w hp⟩
/-- arguments -/
theorem ar_nil : Ar b G tNil rNil (fun k => k ()) := fun _ _ _ _ k V q w => w () [] _ _ q (.refl V.fh _) V rfl
theorem ar_one {te : TE} {r : R α} {f : (α → Prop) → Prop} (h : E b G te r f) : Ar b G (tCons te tNil) (rOne r) f := fun _ _ _ _ k V q w => h _ V q fun x v F1 H1 q1 A1 V1 r1 => w x [v] F1 H1 q1 A1 V1 ⟨v, rfl, r1⟩
theorem ar_cons {te : TE} {ta : TA} {r : R α} {s : RI γ} {f : (α → Prop) → Prop} {g : (γ → Prop) → Prop} (h : E b G te r f) (h2 : Ar b G ta s g) : Ar b G (tCons te ta) (rCons r s) (fun k => f fun x => g fun y => k (x, y)) :=
  fun _ _ _ _ k V q w => h _ V q fun x v F1 H1 q1 A1 V1 r1 => h2 _ V1 q1 fun y vs F2 H2 q2 A2 V2 r2 => w (x, y) (v :: vs) F2 H2 q2 (A1.trans A2) V2 ⟨v, vs, rfl, r.ex A2.ff r1, r2⟩
theorem e_tup {ta : TA} {s : RI α} {f : (α → Prop) → Prop} (h : Ar b G ta s f) (hn : s.n ≤ sizeLine) : E b G (tTup ta) (rTp K s) f := fun _ _ _ _ k V q w => h _ V q fun x vs F1 H1 q1 A1 V1 r1 => ⟨by rw [s.ln r1]; exact hn, fun p hp => by
  have B := After.new (o := .tup vs) V1.fh hp
  exact w x _ _ _ q1 (A1.trans (B.mono fun _ h => nomatch h)) (V1.step B) ⟨p, vs, rfl, SqT.of upd_same, s.ex B.ff r1⟩⟩
theorem e_cast {te : TE} {r : R α} {r' : R γ} {f : (α → Prop) → Prop} {g : α → γ} (hg : ∀ a v F, r.h a v F → r'.h (g a) v F) (h : E b G te r f) : E b G te r' (fun k => f fun a => k (g a)) := fun _ _ _ _ k V q w => h _ V q fun a v F' H' q' A V' r1 => w (g a) v F' H' q' A V' (hg a v F' r1)
/-! comprehensions -/
def compP (xs : List α) (B : α → List β → (List β → Prop) → Prop) (k : List β → Prop) : Prop := ∃ I : Nat → List β → Prop, I 0 [] ∧ (∀ i a acc, xs[i]? = some a → I i acc → B a acc (I (i + 1))) ∧ ∀ acc, I xs.length acc → k acc
theorem wipeG_get {j : Nat} {s : Sl} : ∀ {vs : List Nat}, j ∈ vs → (wipeG G vs)[j]? = some s → s = any
  | v :: vs, h, e => by
    have e : ((wipeG G vs).set v any)[j]? = some s := e
    by_cases q : v = j
    · subst q
      have hl : v < (wipeG G vs).length := by
        have := (List.getElem?_eq_some_iff.mp e).1
        rw [List.length_set] at this; exact this
      rw [List.getElem?_set_self hl] at e
      exact (Option.some.inj e).symm
    · rw [List.getElem?_set_ne q] at e
      exact wipeG_get ((List.mem_cons.mp h).resolve_left (fun z => q z.symm)) e
theorem wipe_get_ne {j : Nat} : ∀ {vs : List Nat}, j ∉ vs → (wipe σ vs)[j]? = σ[j]?
  | [], _ => rfl
  | v :: vs, h => by
    show ((wipe σ vs).set v none)[j]? = _
    rw [List.getElem?_set_ne (fun z => h (by rw [z]; exact List.mem_cons_self)), wipe_get_ne (fun z => h (List.mem_cons_of_mem _ z))]
theorem Env.poke {p : Addr} {o : HO} (V : Env b G σ F H) (n : p ∉ owns G) (f : F p = none) (hb : b.H p = none) : Env b G σ F (upd H p o) where
  ff := V.ff
  fh := ex_mut f V.fh
  hh := fun a u m h => by rw [upd_ne (ne_of_none h hb)]; exact V.hh a u m h
  kp := fun a h => by
    by_cases q : a = p
    · subst q; exact absurd hb h
    · rw [upd_ne q]; exact V.kp a h
  nf := V.nf
  hold := V.hold.up (Ex.refl _) fun q hq u h => by
    have ne : q ≠ p := fun z => n (by rw [← z]; exact hq)
    rw [upd_ne ne]; exact h
  nd := V.nd
  on := V.on
theorem Env.unwipe {vs : List Nat} (V : Env b (wipeG G vs) (L2.wipe σ vs) F H) (hl : (wipeG G vs).length = σ.length) : Env b (wipeG G vs) σ F H :=
  V.step0 (.refl V.fh []) (fun _ z => nomatch z) (fun _ h => h) V.nd (Holds.of hl fun j s o h1 h2 => by
    by_cases q : j ∈ vs
    · rw [wipeG_get q h1]; exact trivial
    · obtain ⟨o', h3, h4⟩ := V.hold.at_ h1
      rw [wipe_get_ne q, h2] at h3
      cases h3; exact h4)
theorem en_cq {te : TE} {r : R α} {f g : (List α → Prop) → Prop} (h : EN b G te r f) (w : ∀ k, g k → f k) : EN b G te r g := fun _ _ _ _ k V q => h k V (w k q)
theorem e_cq {te : TE} {r : R α} {f g : (α → Prop) → Prop} (h : E b G te r f) (w : ∀ k, g k → f k) : E b G te r g := fun _ _ _ _ k V q => h k V (w k q)
theorem en_comp {wi : TI} {g : TG} {tt : TT} {te : TE} {vs : List Nat} {r : R α} {rb : R β} {up : α → List Sl → List Sl} {fw : (List α → Prop) → Prop} {ft : α → (Bool → Prop) → Prop} {fe : α → (β → Prop) → Prop}
    (hw : Wk b G wi r fw) (hg : Tg g r up vs) (hG : wipeG G vs = G) (ht : ∀ a, Tt b (up a G) tt (ft a)) (he : ∀ a, E b (up a G) te rb (fe a)) :
    EN b G (tLc wi g tt te vs) rb (fun k => fw fun xs => xs.length ≤ sizeLine ∧ compP xs (fun a acc n => ft a fun c => (c = true → fe a fun y => n (acc ++ [y])) ∧ (c = false → n acc)) k) :=
  fun σ F H Q k V q w => by
    refine hw _ V q ?_
    intro xs J F1 H1 q1 A1 V1 ⟨Gs, Y, hW, hGs, hY⟩ 
    obtain ⟨hl, I, i0, it, id⟩ := q1
    have hlen : G.length = σ.length := V.hold.len
    refine raw_c hW fun Dl hD => ?_
    have fD : F1 Dl = none := ex_none V1.fh hD
    have B0 := After.fresh (o := .lst []) V1.fh hD []
    refine ⟨fun i H2 => ∃ acc ws F2, I i acc ∧ acc.length ≤ i ∧ After F1 H1 (owns G) F2 H2 ∧ Env b G σ F2 H2 ∧ F2 Dl = none ∧ H2 Dl = some (.lst ws) ∧ All rb F2 acc ws, ⟨[], [], F1, i0, Nat.le_refl _, After.fresh V1.fh hD _, V1.step B0, fD, upd_same, .nil⟩, fun i H2 _ ⟨_, _, F2, _, _, A2, V2, _⟩ => hGs _ (A2.ff.trans V2.fh), fun i v H2 H3 hi ⟨acc, ws, F2, hacc, hle, A2, V2, fD2, hD2, hAl⟩ y => ?_, fun H2 ⟨acc, ws, F2, hacc, hle, A2, V2, fD2, hD2, hAl⟩ => ?_⟩
    · obtain ⟨a, F3, ha, A3, hr⟩ := hY i v F2 H2 H3 hi A2.ff V2.fh y
      have V3 := V2.step A3
      have hw3 := V3.wipe vs
      rw [hG] at hw3
      have fD3 : F3 Dl = none := A3.nf _ fD2 (by rw [hD2]; exact fun z => nomatch z)
      have hD3 : H3 Dl = some (.lst ws) := A3.hh _ _ (by simp) hD2
      refine hg.2 hr hw3 fun σ3 V4 ew => ?_
      have nD : Dl ∉ owns (up a G) := fun z => by
        have := V.hold.live Dl ((hg.1 a G).1 _ z)
        exact this (by
          cases e : H Dl with
          | none => rfl
          | some u => exact absurd hD (A1.kp Dl (by rw [e]; exact fun z => nomatch z)))
      have eqw : wipe (wipe σ vs) vs = wipe σ vs := by
        have : ∀ us : List Nat, (∀ x ∈ us, x ∈ vs) → wipe (wipe σ vs) us = wipe σ vs := by
          intro us
          induction us with
          | nil => intro _; rfl
          | cons x us ih =>
            intro hx
            show (wipe (wipe σ vs) us).set x none = _
            rw [ih fun z hz => hx z (List.mem_cons_of_mem _ hz)]
            have hx' := hx x List.mem_cons_self
            apply List.ext_getElem?
            intro j
            by_cases z : x = j
            · subst z
              have : ∀ ws : List Nat, x ∈ ws → (wipe σ ws)[x]? = none ∨ (wipe σ ws)[x]? = some none := by
                intro ws
                induction ws with
                | nil => intro h; nomatch h
                | cons y ws ih2 =>
                  intro h
                  show ((wipe σ ws).set y none)[x]? = none ∨ ((wipe σ ws).set y none)[x]? = some none
                  by_cases zz : y = x
                  · subst zz
                    by_cases hh : y < (wipe σ ws).length
                    · rw [List.getElem?_set_self hh]; exact .inr rfl
                    · exact .inl (by rw [List.getElem?_eq_none]; rw [List.length_set]; omega)
                  · rw [List.getElem?_set_ne zz]
                    exact ih2 ((List.mem_cons.mp h).resolve_left (fun z => zz z.symm))
              rcases this vs hx' with e | e
              · have hh : ¬ x < (wipe σ vs).length := fun hh => by rw [List.getElem?_eq_getElem hh] at e; cases e
                rw [e, List.getElem?_eq_none]; rw [List.length_set]; omega
              · rw [e, List.getElem?_set_self (List.getElem?_eq_some_iff.mp e).1]
            · rw [List.getElem?_set_ne z]
        exact this vs fun _ h => h
      have back : ∀ F5 H5, After F3 H3 (owns (up a G)) F5 H5 → Env b (up a G) σ3 F5 H5 → Env b G σ F5 H5 ∧ F5 Dl = none ∧ H5 Dl = some (.lst ws) ∧ After F1 H1 (owns G) F5 H5 := fun F5 H5 A5 V5 => by
        have W := V5.wipe vs
        rw [(hg.1 a G).2, hG, ew, eqw] at W
        rw [← hG] at W
        have W2 := W.unwipe (by rw [hG]; exact hlen)
        rw [hG] at W2
        exact ⟨W2, A5.nf _ fD3 (by rw [hD3]; exact fun z => nomatch z), A5.hh _ _ nD hD3, (A2.trans (A3.mono fun _ h => nomatch h)).trans (A5.mono fun p hp => (hg.1 a G).1 p hp)⟩
      refine ⟨ew.trans eqw, ?_⟩
      have hn : acc.length < sizeLine := by omega
      refine ht a _ V4 (it i a acc ha hacc) fun c F4 H4 q4 A4 V5 => ?_
      cases c with
      | true =>
        refine iteT (he a _ V5 (q4.1 rfl) fun y v5 F5 H5 q5 A5 V6 r5 => ?_)
        obtain ⟨W, f5, h5, B5⟩ := back F5 H5 (A4.trans A5) V6
        have hAl5 := hAl.ex (A3.ff.trans (A4.ff.trans A5.ff))
        have lw : ws.length = acc.length := hAl.len
        refine ⟨ws, h5, by omega, acc ++ [y], ws ++ [v5], F5, q5, by simp; omega, ?_, ?_, f5, upd_same, Dh.paired_app hAl5 (.cons r5 .nil)⟩
        all_goals have hD1 : H1 Dl = none := hD
        all_goals have n1 : ∀ {x : Addr}, H1 x ≠ none → x ≠ Dl := fun h z => h (by rw [z]; exact hD1)
        · exact ⟨B5.ff, ex_mut f5 B5.fh, fun x o hm hx => by rw [upd_ne (n1 (by rw [hx]; exact fun z => nomatch z))]; exact B5.hh x o hm hx, fun x hx => by rw [upd_ne (n1 hx)]; exact B5.kp x hx, B5.nf⟩
        · refine W.poke (fun z => ?_) f5 ?_
          · exact W.hold.live Dl z |> fun h => (V1.hold.live Dl z) hD
          · cases e : b.H Dl with
            | none => rfl
            | some u => exact absurd hD (V1.kp Dl (by rw [e]; exact fun z => nomatch z))
      | false =>
        obtain ⟨W, f5, h5, B5⟩ := back F4 H4 A4 V5
        exact iteF ⟨acc, ws, F4, q4.2 rfl, by omega, B5, W, f5, h5, hAl.ex (A3.ff.trans A4.ff)⟩
    · refine w acc Dl ws F2 H2 (id acc hacc) (A1.trans A2) V2 ?_ fD2 hD2 hAl
      cases e : H Dl with
      | none => rfl
      | some u => exact absurd hD (A1.kp Dl (by rw [e]; exact fun z => nomatch z))
end
end Mi
/-! Mir3 -/
set_option Elab.async false
set_option linter.all false
set_option maxRecDepth 100000
set_option maxHeartbeats 4000000
namespace Mi
open PySem PySem.Spec L2 Dh
open _root_.Evl (Ex)
section
variable {K : PySem.W.Frag} {b : Bs} {G : List Sl} {α β γ δ τ τ' ρ ε : Type} {Gn : τ → List Sl} {Gl : ε → List Sl} {ro : ρ → V → Hp → Hp → Prop} {σ : L2.St} {F H F' H' : Hp}
/-! ### tests -/
theorem t_test {te : TE} {f : (Bool → Prop) → Prop} (h : E b G te rBl f) : Tt b G (tTest te) f := fun _ _ _ _ k V q w => by
  refine h k V q ?_
  intro a v F' H' q' A V' r
  exact ⟨a, r, w a F' H' q' A V'⟩
theorem t_B {te : TE} {f : (Bool → Prop) → Prop} (h : E b G te rBl f) : Tt b G (tB te) f := fun _ _ _ _ k V q w => by
  refine h k V q ?_
  intro a v F' H' q' A V' r
  exact ⟨a, r, w a F' H' q' A V'⟩
theorem t_yes : Tt b G tYes (fun k => k true) := fun _ _ _ _ k V q w => w true _ _ q (.refl V.fh _) V
theorem t_not {t : TT} {f : (Bool → Prop) → Prop} (h : Tt b G t f) : Tt b G (tNot t) (fun k => f fun c => k (!c)) := fun _ _ _ _ k V q w => h _ V q fun a F' H' q' A V' => w _ F' H' q' A V'
theorem t_and {t u : TT} {f g : (Bool → Prop) → Prop} (h : Tt b G t f) (h2 : Tt b G u g) : Tt b G (tAnd t u) (fun k => f fun a => (a = true → g k) ∧ (a = false → k false)) := fun _ _ _ _ k V q w => h _ V q fun a F' H' q' A V' => by
  cases a with
  | true => exact iteT (h2 k V' (q'.1 rfl) fun c F2 H2 q2 A2 V2 => w c F2 H2 q2 (A.trans A2) V2)
  | false => exact iteF (w false F' H' (q'.2 rfl) A V')
theorem t_or {t u : TT} {f g : (Bool → Prop) → Prop} (h : Tt b G t f) (h2 : Tt b G u g) : Tt b G (tOr t u) (fun k => f fun a => (a = true → k true) ∧ (a = false → g k)) := fun _ _ _ _ k V q w => h _ V q fun a F' H' q' A V' => by
  cases a with
  | true => exact iteT (w true F' H' (q'.1 rfl) A V')
  | false => exact iteF (h2 k V' (q'.2 rfl) fun c F2 H2 q2 A2 V2 => w c F2 H2 q2 (A.trans A2) V2)
theorem t_cq {t : TT} {f g : (Bool → Prop) → Prop} (h : Tt b G t f) (w : ∀ k, g k → f k) : Tt b G t g := fun _ _ _ _ k V q => h k V (w k q)
/-- both plain -/
theorem t_andP {t u : TT} {f : (Bool → Prop) → Prop} {y : Bool} (h : Tt b G t f) (h2 : Tt b G u (fun k => k y)) : Tt b G (tAnd t u) (fun k => f fun a => k (a && y)) := fun _ _ _ _ k V q w => h _ V q fun a F' H' q' A V' => by
  cases a with
  | true => exact iteT (h2 k V' q' fun c F2 H2 q2 A2 V2 => w c F2 H2 q2 (A.trans A2) V2)
  | false => exact iteF (w false F' H' q' A V')
theorem t_orP {t u : TT} {f : (Bool → Prop) → Prop} {y : Bool} (h : Tt b G t f) (h2 : Tt b G u (fun k => k y)) : Tt b G (tOr t u) (fun k => f fun a => k (a || y)) := fun _ _ _ _ k V q w => h _ V q fun a F' H' q' A V' => by
  cases a with
  | true => exact iteT (w true F' H' q' A V')
  | false => exact iteF (h2 k V' q' fun c F2 H2 q2 A2 V2 => w c F2 H2 q2 (A.trans A2) V2)
theorem e_if {c : TT} {ta te : TE} {r : R α} {fc : (Bool → Prop) → Prop} {f g : (α → Prop) → Prop} (hc : Tt b G c fc) (h1 : E b G ta r f) (h2 : E b G te r g) : E b G (tIf c ta te) r (fun k => fc fun a => (a = true → f k) ∧ (a = false → g k)) := fun _ _ _ _ k V q w => by
  refine hc _ V q ?_
  intro a F' H' q' A V'
  cases a with
  | true => exact iteT (h1 k V' (q'.1 rfl) fun x v F2 H2 q2 A2 V2 => w x v F2 H2 q2 (A.trans A2) V2)
  | false => exact iteF (h2 k V' (q'.2 rfl) fun x v F2 H2 q2 A2 V2 => w x v F2 H2 q2 (A.trans A2) V2)
theorem e_andV {ta te : TE} {f g : (Bool → Prop) → Prop} (h1 : E b G ta rBl f) (h2 : E b G te rBl g) : E b G (tAndV ta te) rBl (fun k => f fun a => (a = true → g k) ∧ (a = false → k false)) := fun _ _ _ _ k V q w => by
  refine h1 _ V q ?_
  intro a v F' H' q' A V' r
  refine ⟨a, r, ?_⟩
  cases a with
  | true => exact iteT (h2 k V' (q'.1 rfl) fun x v F2 H2 q2 A2 V2 => w x v F2 H2 q2 (A.trans A2) V2)
  | false => exact iteF (w false _ F' H' (q'.2 rfl) A V' rfl)
theorem e_orV {ta te : TE} {f g : (Bool → Prop) → Prop} (h1 : E b G ta rBl f) (h2 : E b G te rBl g) : E b G (tOrV ta te) rBl (fun k => f fun a => (a = true → k true) ∧ (a = false → g k)) := fun _ _ _ _ k V q w => by
  refine h1 _ V q ?_
  intro a v F' H' q' A V' r
  refine ⟨a, r, ?_⟩
  cases a with
  | true => exact iteT (w true _ F' H' (q'.1 rfl) A V' rfl)
  | false => exact iteF (h2 k V' (q'.2 rfl) fun x v F2 H2 q2 A2 V2 => w x v F2 H2 q2 (A.trans A2) V2)
theorem e_notV {ta : TE} {f : (Bool → Prop) → Prop} (h : E b G ta rBl f) : E b G (tNotV ta) rBl (fun k => f fun a => k (!a)) := fun _ _ _ _ k V q w => by
  refine h _ V q ?_
  intro a v F' H' q' A V' r
  exact ⟨a, r, w _ _ F' H' q' A V' rfl⟩
theorem e_chain {r1 r2 : R2} {ta te tc : TE} {ra : R α} {rb : R β} {rc : R γ} {fa : (α → Prop) → Prop} {fb : (β → Prop) → Prop} {fc : (γ → Prop) → Prop} {g : α → β → (Bool → Prop) → Prop} {g2 : β → γ → (Bool → Prop) → Prop}
    (o1 : Op2 r1 ra rb rBl g) (o2 : Op2 r2 rb rc rBl g2) (ha : E b G ta ra fa) (hb : E b G te rb fb) (hc : E b G tc rc fc) :
    E b G (tChain r1 r2 ta te tc) rBl (fun k => fa fun x => fb fun y => g x y fun c => (c = true → fc fun z => g2 y z k) ∧ (c = false → k false)) := fun _ _ _ _ k V q w => by
  refine ha _ V q ?_
  intro x v F1 H1 q1 A1 V1 r1
  refine hb _ V1 q1 ?_
  intro y u F2 H2 q2 A2 V2 r2
  refine o1 _ (ra.ex A2.ff r1) r2 V2.fh q2 ?_
  intro c z F3 H3 q3 A3 r3
  refine ⟨c, r3, ?_⟩
  have A123 := (A1.trans A2).trans (A3.mono (M' := owns G) fun _ h => nomatch h)
  cases c with
  | true =>
    refine iteT (hc _ (V2.step A3) (q3.1 rfl) ?_)
    intro s t F4 H4 q4 A4 V4 r4
    exact o2 k (rb.ex (A3.ff.trans A4.ff) r2) r4 V4.fh q4 fun i j F5 H5 q5 A5 r5 => w i j F5 H5 q5 ((A123.trans A4).trans (A5.mono fun _ h => nomatch h)) (V4.step A5) r5
  | false => exact iteF (w false _ F3 H3 (q3.2 rfl) A123 (V2.step A3) rfl)
/-! ### lists that are read -/
def LV (b : Bs) (G : List Sl) (te : TE) (r : R α) (f : (List α → Prop) → Prop) : Prop := ∀ ⦃σ : L2.St⦄ ⦃F H : Hp⦄ ⦃Q : VK⦄ (k : List α → Prop), Env b G σ F H → f k →
  (∀ xs p F' H', k xs → After F H (owns G) F' H' → Env b G σ F' H' → (∀ F2 H2, Ex F' F2 → Env b G σ F2 H2 → ∃ vs, H2 p = some (.lst vs) ∧ All r F2 xs vs) → Q (.ref p) H') → te σ H Q
theorem lv_e {te : TE} {r : R α} {f : (List α → Prop) → Prop} (h : E b G te (rLst r) f) : LV b G te r f := fun _ _ _ _ k V q w => by
  refine h k V q ?_
  rintro xs v F1 H1 q1 A1 V1 ⟨p, vs, e, hp, A⟩
  subst e
  exact w xs p F1 H1 q1 A1 V1 fun F2 H2 e V2 => ⟨vs, V2.fh _ _ (e _ _ hp), A.ex e⟩
theorem lv_own {i : Nat} {p : Addr} {r : R α} {xs : List α} (h : G[i]? = some (own p (cLst r) xs)) : LV b G (tVar i) r (fun k => k xs) := fun σ F H Q k V q w => by
  obtain ⟨o, h1, rfl, _⟩ := V.hold.at_ h
  refine ⟨.ref p, h1, w xs p F H q (.refl V.fh _) V fun F2 H2 e V2 => ?_⟩
  obtain ⟨o, h1, _, u, h2, vs, rfl, h3⟩ := V2.hold.at_ h
  exact ⟨vs, h2, h3⟩
theorem e_lenL {te : TE} {r : R α} {f : (List α → Prop) → Prop} (h : LV b G te r f) : E b G (tCB (rLenQ K) (tCons te tNil)) rInt (fun k => f fun xs => k (xs.length : Int)) := fun _ _ _ _ k V q w => by
  refine h _ V q ?_
  intro xs p F1 H1 q1 A1 V1 z
  obtain ⟨vs, h1, h2⟩ := z F1 H1 (Ex.refl _) V1
  exact ⟨p, vs, rfl, .inl (SqL.of h1), w _ _ F1 H1 q1 A1 V1 (by rw [h2.len]; rfl)⟩
theorem e_lenT {te : TE} {r : R α} {f : (List α → Prop) → Prop} (h : E b G te (rTup K r) f) : E b G (tCB (rLenQ K) (tCons te tNil)) rInt (fun k => f fun xs => k (xs.length : Int)) := fun _ _ _ _ k V q w => by
  refine h _ V q ?_
  rintro xs v F1 H1 q1 A1 V1 ⟨p, vs, e, hp, A⟩
  subst e
  exact ⟨p, vs, rfl, .inr (_root_.Evl.ex_t V1.fh hp), w _ _ F1 H1 q1 A1 V1 (by rw [A.len]; rfl)⟩
theorem e_lenS {te : TE} {f : (Str → Prop) → Prop} (h : E b G te rStr f) : E b G (tCB rLenS (tCons te tNil)) rInt (fun k => f fun z => z.length ≤ sizeLine ∧ k (z.length : Int)) := fun _ _ _ _ k V q w => by
  refine h _ V q ?_
  rintro z v F1 H1 q1 A1 V1 e
  cases e
  exact ⟨z, rfl, q1.1, w _ _ F1 H1 q1.2 A1 V1 rfl⟩
theorem e_ixL {te ti : TE} {r : R α} {f : (List α → Prop) → Prop} {g : (Int → Prop) → Prop} (h : LV b G te r f) (hi : E b G ti rInt g) : E b G (tOp (rIxL K) te ti) r (fun k => f fun xs => g fun i => ∃ a, atI xs i = some a ∧ k a) := fun _ _ _ _ k V q w => by
  refine h _ V q ?_
  intro xs p F1 H1 q1 A1 V1 z
  refine hi _ V1 q1 ?_
  rintro i v F2 H2 ⟨a, ha, q2⟩ A2 V2 e
  cases e
  obtain ⟨vs, h1, h2⟩ := z F2 H2 A2.ff V2
  obtain ⟨v, hv, hr⟩ := h2.atI ha
  exact ⟨p, vs, i, v, rfl, rfl, SqL.of h1, hv, w a v F2 H2 q2 (A1.trans A2) V2 hr⟩
theorem t_truL {te : TE} {r : R α} {f : (List α → Prop) → Prop} (h : LV b G te r f) : Tt b G (tTru K te) (fun k => f fun xs => k (!xs.isEmpty)) := fun _ _ _ _ k V q w => by
  refine h _ V q ?_
  intro xs p F1 H1 q1 A1 V1 z
  obtain ⟨vs, h1, h2⟩ := z F1 H1 (Ex.refl _) V1
  refine ⟨!xs.isEmpty, .inl ⟨vs, SqL.of h1, ?_⟩, w _ F1 H1 q1 A1 V1⟩
  cases h2 <;> rfl
theorem e_notL {te : TE} {r : R α} {f : (List α → Prop) → Prop} (h : LV b G te r f) : E b G (tNotT K te) rBl (fun k => f fun xs => k xs.isEmpty) := fun _ _ _ _ k V q w => by
  refine h _ V q ?_
  intro xs p F1 H1 q1 A1 V1 z
  obtain ⟨vs, h1, h2⟩ := z F1 H1 (Ex.refl _) V1
  refine ⟨!xs.isEmpty, .inl ⟨vs, SqL.of h1, ?_⟩, w _ _ F1 H1 q1 A1 V1 ?_⟩
  · cases h2 <;> rfl
  · cases xs <;> rfl
def PO' (b : Bs) (G : List Sl) (t : TO) (f : (Option Int → Prop) → Prop) : Prop := ∀ ⦃σ : L2.St⦄ ⦃F H : Hp⦄ ⦃Q : Option Int → Hp → Prop⦄ (k : Option Int → Prop), Env b G σ F H → f k → (∀ a F' H', k a → After F H (owns G) F' H' → Env b G σ F' H' → Q a H') → t σ H Q
theorem po_no : PO' b G tNoPart (fun k => k none) := fun _ _ _ _ k V q w => w none _ _ q (.refl V.fh _) V
theorem po_at {te : TE} {f : (Int → Prop) → Prop} (h : E b G te rInt f) : PO' b G (tPart te) (fun k => f fun i => k (some i)) := fun _ _ _ _ k V q w => by
  refine h _ V q ?_
  intro i v F1 H1 q1 A1 V1 e
  exact ⟨i, e, w _ F1 H1 q1 A1 V1⟩
def cutL (xs : List α) (lo hi : Option Int) : List α := (xs.drop (HT.sIx xs.length 0 lo)).take (HT.sIx xs.length xs.length hi - HT.sIx xs.length 0 lo)
theorem All.drop {r : R α} {F : Hp} : ∀ {xs : List α} {vs : List V} (n : Nat), All r F xs vs → All r F (xs.drop n) (vs.drop n)
  | _, _, 0, h => h
  | _, _, _ + 1, .nil => .nil
  | _, _, n + 1, .cons _ t => All.drop n t
theorem All.take {r : R α} {F : Hp} : ∀ {xs : List α} {vs : List V} (n : Nat), All r F xs vs → All r F (xs.take n) (vs.take n)
  | _, _, 0, _ => .nil
  | _, _, _ + 1, .nil => .nil
  | _, _, n + 1, .cons h t => .cons h (All.take n t)
theorem All.cut {r : R α} {F : Hp} {xs : List α} {vs : List V} {lo hi : Option Int} (h : All r F xs vs) : All r F (cutL xs lo hi) (cutV vs lo hi) := by
  unfold cutL cutV
  rw [h.len]
  exact (h.drop _).take _
theorem en_slL {te : TE} {tl th : TO} {r : R α} {f : (List α → Prop) → Prop} {g g2 : (Option Int → Prop) → Prop} (h : LV b G te r f) (hl : PO' b G tl g) (hh : PO' b G th g2) : EN b G (tSl (rSlL K) te tl th) r (fun k => f fun xs => g fun lo => g2 fun hi => k (cutL xs lo hi)) := fun _ _ _ _ k V q w => by
  refine h _ V q ?_
  intro xs p F1 H1 q1 A1 V1 z
  refine hl _ V1 q1 ?_
  intro lo F2 H2 q2 A2 V2
  refine hh _ V2 q2 ?_
  intro hi F3 H3 q3 A3 V3
  obtain ⟨vs, h1, h2⟩ := z F3 H3 (A2.ff.trans A3.ff) V3
  exact ⟨p, vs, rfl, SqL.of h1, fun l hl => en_lay ((A1.trans A2).trans A3) V3 q3 h2.cut w hl⟩
theorem e_slS {te : TE} {tl th : TO} {f : (Str → Prop) → Prop} {g g2 : (Option Int → Prop) → Prop} (h : E b G te rStr f) (hl : PO' b G tl g) (hh : PO' b G th g2) : E b G (tSl rSlS te tl th) rStr (fun k => f fun z => g fun lo => g2 fun hi => z.length ≤ sizeLine ∧ k (cutS z lo hi)) := fun _ _ _ _ k V q w => by
  refine h _ V q ?_
  intro z v F1 H1 q1 A1 V1 e
  cases e
  refine hl _ V1 q1 ?_
  intro lo F2 H2 q2 A2 V2
  refine hh _ V2 q2 ?_
  intro hi F3 H3 q3 A3 V3
  exact ⟨z, rfl, q3.1, w _ _ F3 H3 q3.2 ((A1.trans A2).trans A3) V3 rfl⟩
theorem en_listL {te : TE} {r : R α} {f : (List α → Prop) → Prop} (h : LV b G te r f) : EN b G (tCB (rListQ K) (tCons te tNil)) r f := fun _ _ _ _ k V q w => by
  refine h _ V q ?_
  intro xs p F1 H1 q1 A1 V1 z
  obtain ⟨vs, h1, h2⟩ := z F1 H1 (Ex.refl _) V1
  exact ⟨p, vs, rfl, .inl (SqL.of h1), fun l hl => en_lay A1 V1 q1 h2 w hl⟩
theorem en_listT {te : TE} {r : R α} {f : (List α → Prop) → Prop} (h : E b G te (rTup K r) f) : EN b G (tCB (rListQ K) (tCons te tNil)) r f := fun _ _ _ _ k V q w => by
  refine h _ V q ?_
  rintro xs v F1 H1 q1 A1 V1 ⟨p, vs, e, hp, A⟩
  subst e
  exact ⟨p, vs, rfl, .inr (_root_.Evl.ex_t V1.fh hp), fun l hl => en_lay A1 V1 q1 A w hl⟩
theorem e_tupL {te : TE} {r : R α} {f : (List α → Prop) → Prop} (h : LV b G te r f) : E b G (tCB (rTupQ K) (tCons te tNil)) (rTup K r) f := fun _ _ _ _ k V q w => by
  refine h _ V q ?_
  intro xs p F1 H1 q1 A1 V1 z
  obtain ⟨vs, h1, h2⟩ := z F1 H1 (Ex.refl _) V1
  refine ⟨p, vs, rfl, .inl ⟨SqL.of h1, fun l hl => ?_⟩⟩
  have B := After.new (o := .tup vs) V1.fh hl
  exact w xs _ _ _ q1 (A1.trans (B.mono fun _ h => nomatch h)) (V1.step B) ⟨l, vs, rfl, SqT.of upd_same, h2.ex B.ff⟩
theorem en_cat {ta te : TE} {r : R α} {f g : (List α → Prop) → Prop} (h : LV b G ta r f) (h2 : LV b G te r g) : EN b G (tOp rCat ta te) r (fun k => f fun xs => g fun ys => xs.length + ys.length ≤ sizeLine ∧ k (xs ++ ys)) := fun _ _ _ _ k V q w => by
  refine h _ V q ?_
  intro xs p F1 H1 q1 A1 V1 z
  refine h2 _ V1 q1 ?_
  intro ys p2 F2 H2 q2 A2 V2 z2
  obtain ⟨vs, k1, k2⟩ := z F2 H2 A2.ff V2
  obtain ⟨us, k3, k4⟩ := z2 F2 H2 (Ex.refl _) V2
  exact ⟨p, p2, vs, us, rfl, rfl, k1, k3, by rw [k2.len, k4.len]; exact q2.1, fun l hl => en_lay (A1.trans A2) V2 q2.2 (Dh.paired_app k2 k4) w hl⟩
theorem e_catT {ta te : TE} {r : R α} {f g : (List α → Prop) → Prop} (h : E b G ta (rTup K r) f) (h2 : E b G te (rTup K r) g) : E b G (tOp (rCatA K) ta te) (rTup K r) (fun k => f fun xs => g fun ys => xs.length + ys.length ≤ sizeLine ∧ k (xs ++ ys)) := fun _ _ _ _ k V q w => by
  refine h _ V q ?_
  rintro xs v F1 H1 q1 A1 V1 ⟨p, vs, e, hp, A⟩
  subst e
  refine h2 _ V1 q1 ?_
  rintro ys v F2 H2 q2 A2 V2 ⟨p', vs', e, hp', A'⟩
  subst e
  have hp2 := _root_.Evl.ex_t V2.fh (_root_.Evl.ex_t A2.ff hp)
  refine ⟨p, p', vs, vs', rfl, rfl, hp2, _root_.Evl.ex_t V2.fh hp', by rw [A.len, A'.len]; exact q2.1, fun e => ?_, fun _ e => ?_, fun _ _ t ht => ?_⟩
  · subst e
    cases A
    exact w _ _ F2 H2 q2.2 (A1.trans A2) V2 ⟨p', vs', rfl, hp', A'⟩
  · subst e
    cases A'
    refine w _ _ F2 H2 q2.2 (A1.trans A2) V2 ?_
    rw [List.append_nil]
    exact ⟨p, vs, rfl, _root_.Evl.ex_t A2.ff hp, A.ex A2.ff⟩
  · have B := After.new (o := .tup (vs ++ vs')) V2.fh ht
    exact w _ _ _ _ q2.2 ((A1.trans A2).trans (B.mono fun _ h => nomatch h)) (V2.step B) ⟨t, _, rfl, SqT.of upd_same, All.ex B.ff (Dh.paired_app (A.ex A2.ff) A')⟩
/-- values without parts -/
structure Flat [DecidableEq α] (r : R α) : Prop where
  fl : ∀ {a v F}, r.h a v F → flatV v = true
  eq : ∀ {a v F c u F'}, r.h a v F → r.h c u F' → eqV v u = decide (a = c)
theorem flat_int : Flat rInt := ⟨fun h => by cases h; rfl, fun h1 h2 => by
  cases h1; cases h2
  show ((_ : Int) == _) = _
  rw [Bool.beq_eq_decide_eq]⟩
theorem flat_str : Flat rStr := ⟨fun h => by cases h; rfl, fun h1 h2 => by
  cases h1; cases h2
  show ((_ : Str) == _) = _
  rw [Bool.beq_eq_decide_eq]⟩
theorem All.flat [DecidableEq α] {r : R α} (fl : Flat r) {F : Hp} {xs : List α} {vs : List V} (h : All r F xs vs) : vs.all flatV = true := by
  induction h with
  | nil => rfl
  | cons r t ih => rw [List.all_cons, fl.fl r, ih]; rfl
theorem All.inV [DecidableEq α] {r : R α} (fl : Flat r) {F F' : Hp} {xs : List α} {vs : List V} {a : α} {v : V} (h : All r F xs vs) (ha : r.h a v F') : L2.inV v vs = decide (a ∈ xs) := by
  induction h with
  | nil => simp [L2.inV]
  | cons r t ih =>
    unfold L2.inV at ih ⊢
    rw [List.any_cons, ih, fl.eq r ha]
    simp only [List.mem_cons, Bool.decide_or]
    congr 1
    exact decide_eq_decide.mpr ⟨fun h => h.symm, fun h => h.symm⟩
theorem e_inL [DecidableEq α] {neg : Bool} {tx te : TE} {r : R α} {f : (α → Prop) → Prop} {g : (List α → Prop) → Prop} (fl : Flat r) (hx : E b G tx r f) (h : LV b G te r g) : E b G (tOp (rIn K neg) tx te) rBl (fun k => f fun x => g fun xs => k (if neg then !decide (x ∈ xs) else decide (x ∈ xs))) := fun _ _ _ _ k V q w => by
  refine hx _ V q ?_
  intro x v F1 H1 q1 A1 V1 r1
  refine h _ V1 q1 ?_
  intro xs p F2 H2 q2 A2 V2 z
  obtain ⟨vs, k1, k2⟩ := z F2 H2 (Ex.refl _) V2
  refine ⟨p, vs, rfl, .inl (SqL.of k1), fl.fl r1, k2.flat fl, w _ _ F2 H2 q2 (A1.trans A2) V2 ?_⟩
  rw [k2.inV fl r1]; rfl
/-- a list grows -/
theorem s_app {i : Nat} {p : Addr} {te : TE} {r : R α} {xs : List α} {f : (α → Prop) → Prop} (hi : G[i]? = some (own p (cLst r) xs)) (h : E b G te r f) :
    S b G (tDrop (tBM K "list" rAppend (tVar i) (tCons te tNil))) (fun x : α => G.set i (own p (cLst r) (xs ++ [x]))) Gl ro (fun d => f fun x => xs.length < sizeLine ∧ d.nx x) := fun σ F H D d V q w1 _ _ _ => by
  obtain ⟨o, h1, rfl, u, h2, vs, rfl, h3⟩ := V.hold.at_ hi
  refine ⟨.ref p, h1, ty_l h2, ?_⟩
  refine h _ V q ?_
  intro x v F1 H1 q1 A1 V1 r1
  obtain ⟨o, h1', e, u, h2, vs, rfl, h3⟩ := V1.hold.at_ hi
  rw [h1] at h1'; cases h1'
  refine ⟨p, vs, v, rfl, rfl, h2, by rw [h3.len]; exact q1.1, w1 x _ F1 _ q1.2 A1.ff ?_⟩
  have hp : p ∈ owns G := mem_owns hi List.mem_cons_self
  refine V1.step0 (M := [p]) ⟨Ex.refl _, ex_mut (V1.on p hp).1 V1.fh, fun x o hm hx => by rw [upd_ne (fun z => hm (by rw [z]; exact List.mem_cons_self))]; exact hx, fun x hx => ?_, fun _ h _ => h⟩ (fun q hq => by rw [List.mem_singleton.mp hq]; exact hp) (fun q hq => ?_) ?_ ?_
  · by_cases z : x = p
    · subst z; rw [upd_same]; exact fun z => nomatch z
    · rw [upd_ne z]; exact hx
  · have e : owns (G.set i (own p (cLst r) (xs ++ [x]))) = owns G := owns_same hi rfl
    rw [← e]; exact hq
  · have e : owns (G.set i (own p (cLst r) (xs ++ [x]))) = owns G := owns_same hi rfl
    show (owns (G.set i (own p (cLst r) (xs ++ [x])))).Nodup
    rw [e]; exact V1.nd
  · exact V1.hold.mut V1.nd hi h1 List.mem_cons_self (Ex.refl _) (fun q u ne hq => by rw [upd_ne ne]; exact hq) ⟨rfl, _, upd_same, _, rfl, Dh.paired_app h3 (.cons r1 .nil)⟩
/-- x = a new list -/
theorem owns_setN {s : Sl} {p : Addr} (hs : s.ow = [p]) : ∀ {G : List Sl} {i : Nat}, p ∉ owns G → (owns G).Nodup → (∀ q ∈ owns (G.set i s), q = p ∨ q ∈ owns G) ∧ (owns (G.set i s)).Nodup
  | [], _, _, nd => ⟨fun q h => .inr h, nd⟩
  | x :: g, 0, h, nd => by
    show (∀ q ∈ s.ow ++ owns g, _) ∧ (s.ow ++ owns g).Nodup
    rw [hs]
    refine ⟨fun q hq => ?_, ?_⟩
    · rcases List.mem_append.mp hq with z | z
      · exact .inl (List.mem_singleton.mp z)
      · exact .inr (List.mem_append_right _ z)
    · exact List.nodup_cons.mpr ⟨fun z => h (List.mem_append_right _ z), (List.nodup_append.mp nd).2.1⟩
  | x :: g, i + 1, h, nd => by
    obtain ⟨n1, n2, n3⟩ := List.nodup_append.mp nd
    obtain ⟨h1, h2⟩ := owns_setN hs (G := g) (i := i) (fun z => h (List.mem_append_right _ z)) n2
    refine ⟨fun q hq => ?_, List.nodup_append.mpr ⟨n1, h2, fun a ha c hc e => ?_⟩⟩
    · rcases List.mem_append.mp hq with z | z
      · exact .inr (List.mem_append_left _ z)
      · exact (h1 q z).imp id (List.mem_append_right _)
    · subst e
      rcases h1 a hc with z | z
      · subst z; exact h (List.mem_append_left _ ha)
      · exact n3 a ha a z rfl
theorem s_new {te : TE} {r : R α} {i : Nat} {f : (List α → Prop) → Prop} {g : List α → Pd τ ε ρ → Prop} {t : TS} (h : EN b G te r f) (ht : ∀ p xs, p ∉ b.M → S b (G.set i (own p (cLst r) xs)) t Gn Gl ro (g xs)) :
    S b G (tSeq (tAsg te (gName i)) t) Gn Gl ro (fun d => f fun xs => g xs d) := fun σ F H D d V q w1 w2 w3 w4 => by
  refine h _ V q ?_
  intro xs p vs F1 H1 q1 A1 V1 hp fp hp1 hA
  have hb : b.H p = none := by
    cases e : b.H p with
    | none => rfl
    | some u => exact absurd hp (V.kp p (by rw [e]; exact fun z => nomatch z))
  have nO : p ∉ owns G := fun z => V.hold.live p z hp
  have nM : p ∉ b.M := fun z => b.ml p z hb
  have e1 := A1.ff
  refine ht p xs nM d ?_ q1 (fun y σ2 F2 H2 q2 e2 => w1 y σ2 F2 H2 q2 (e1.trans e2)) (fun y σ2 F2 H2 q2 e2 => w2 y σ2 F2 H2 q2 (e1.trans e2)) (fun y σ2 F2 H2 q2 e2 => w3 y σ2 F2 H2 q2 (e1.trans e2)) w4
  obtain ⟨o1, o2⟩ := owns_setN (s := own p (cLst r) xs) (G := G) (i := i) rfl nO V1.nd
  refine ⟨V1.ff, V1.fh, V1.hh, V1.kp, V1.nf, V1.hold.set (s := own p (cLst r) xs) (show _ ∧ _ from ⟨rfl, _, hp1, vs, rfl, hA⟩), o2, fun q hq => ?_⟩
  rcases o1 q hq with z | z
  · subst z; exact ⟨fp, .inr hb⟩
  · exact V1.on q z
end
end Mi
/-! Mir4 -/
set_option Elab.async false
set_option linter.all false
set_option maxRecDepth 100000
set_option maxHeartbeats 4000000
namespace Mi
open PySem PySem.Spec L2 Dh
open _root_.Evl (Ex)
/-! ### promises of defs -/
section
variable {K : PySem.W.Frag} {b : Bs} {G : List Sl} {α β γ δ τ τ' ρ ε : Type} {Gn : τ → List Sl} {Gl : ε → List Sl} {ro : ρ → V → Hp → Hp → Prop} {σ : L2.St} {F H F' H' : Hp}
def spP (s : RI α) (r : R β) (g : α → (β → Prop) → Prop) : Sp := fun vs H Q _ => ∃ (x : α) (F : Hp) (k : β → Prop), Ex F H ∧ s.h x vs F ∧ g x k ∧ ∀ y v F' H', k y → After F H [] F' H' → r.h y v F' → Q v H'
def BgAt (F H : Hp) (p : Addr) : Prop := ∃ l, H p = some (.lst l) ∧ BgL F l
def spB (s : RI α) (r : R β) (g : α → (β → Prop) → Prop) : Sp := fun vs H Q _ => ∃ (p : Addr) (ws : List V) (x : α) (F : Hp) (k : β → Prop), vs = .ref p :: ws ∧ F p = none ∧ BgAt F H p ∧ Ex F H ∧ s.h x ws F ∧ g x k ∧
  ∀ y v F' H', k y → After F H [p] F' H' → BgAt F' H' p → r.h y v F' → Q v H'
theorem e_call {s : RI α} {r : R β} {g : α → (β → Prop) → Prop} {Ek : XK} {ta : TA} {f : (α → Prop) → Prop} (h : Ar b G ta s f) : E b G (tCall (spP s r g) [] Ek ta) r (fun k => f fun x => g x k) := fun _ _ _ _ k V q w => by
  refine h _ V q ?_
  intro x vs F1 H1 q1 A1 V1 r1
  show spP s r g (vs ++ []) H1 _ _
  rw [List.append_nil]
  exact ⟨x, F1, k, V1.fh, r1, q1, fun y v F2 H2 q2 A2 r2 => w y v F2 H2 q2 (A1.trans (A2.mono fun _ h => nomatch h)) (V1.step A2) r2⟩
theorem set_self {G : List Sl} {i : Nat} {s : Sl} (h : G[i]? = some s) : G.set i s = G := by
  apply List.ext_getElem?
  intro j
  by_cases z : i = j
  · subst z; rw [List.getElem?_set_self (List.getElem?_eq_some_iff.mp h).1, h]
  · rw [List.getElem?_set_ne z]
theorem Env.bag {i : Nat} {p : Addr} (V : Env b G σ F H) (hi : G[i]? = some (own p cBag ())) (A : After F H [p] F' H') (B : BgAt F' H' p) : Env b G σ F' H' := by
  obtain ⟨o, h1, rfl, _⟩ := V.hold.at_ hi
  have hp : p ∈ owns G := mem_owns hi List.mem_cons_self
  obtain ⟨l, h2, h3⟩ := B
  have hh : Holds G σ F' H' := by
    have := V.hold.mut (s' := own p cBag ()) V.nd hi h1 List.mem_cons_self A.ff (fun q u ne hq => A.hh q u (fun z => ne (List.mem_singleton.mp z)) hq) (show _ ∧ _ from ⟨rfl, _, h2, l, rfl, h3⟩)
    rw [set_self hi] at this; exact this
  exact V.step0 A (fun q hq => by rw [List.mem_singleton.mp hq]; exact hp) (fun _ h => h) V.nd hh
theorem Env.bagAt {i : Nat} {p : Addr} (V : Env b G σ F H) (hi : G[i]? = some (own p cBag ())) : F p = none ∧ BgAt F H p := by
  obtain ⟨o, h1, _, u, h2, l, rfl, h3⟩ := V.hold.at_ hi
  exact ⟨(V.on p (mem_owns hi List.mem_cons_self)).1, l, h2, h3⟩
theorem e_callB {i : Nat} {p : Addr} {s : RI α} {r : R β} {g : α → (β → Prop) → Prop} {Ek : XK} {ta : TA} {f : (α → Prop) → Prop} (hi : G[i]? = some (own p cBag ())) (h : Ar b G ta s f) :
    E b G (tCall (spB s r g) [] Ek (tCons (tVar i) ta)) r (fun k => f fun x => g x k) := fun σ F H Q k V q w => by
  obtain ⟨o, h1, rfl, _⟩ := V.hold.at_ hi
  refine ⟨.ref p, h1, ?_⟩
  refine h _ V q ?_
  intro x vs F1 H1 q1 A1 V1 r1
  show spB s r g ((.ref p :: vs) ++ []) H1 _ _
  rw [List.append_nil]
  obtain ⟨f1, B1⟩ := V1.bagAt hi
  have hp : p ∈ owns G := mem_owns hi List.mem_cons_self
  exact ⟨p, vs, x, F1, k, rfl, f1, B1, V1.fh, r1, q1, fun y v F2 H2 q2 A2 B2 r2 => w y v F2 H2 q2 (A1.trans (A2.mono fun q hq => by rw [List.mem_singleton.mp hq]; exact hp)) (V1.bag hi A2 B2) r2⟩
/-! ### into a def -/
theorem owns_app : ∀ {g g' : List Sl}, owns (g ++ g') = owns g ++ owns g'
  | [], _ => rfl
  | s :: g, g' => by
    show s.ow ++ owns (g ++ g') = (s.ow ++ owns g) ++ owns g'
    rw [owns_app, List.append_assoc]
theorem owns_any : ∀ {m : Nat}, owns (List.replicate m any) = []
  | 0 => rfl
  | m + 1 => by
    show [] ++ owns (List.replicate m any) = []
    rw [owns_any]; rfl
theorem holds_any {F H : Hp} : ∀ {m : Nat}, Holds (List.replicate m any) (List.replicate m none) F H
  | 0 => .nil
  | _ + 1 => .cons trivial holds_any
theorem paired_app' {α β : Type} {R : α → β → Prop} : ∀ {xs : List α} {ys : List β} {xs' : List α} {ys' : List β}, Paired R xs ys → Paired R xs' ys' → Paired R (xs ++ xs') (ys ++ ys')
  | _, _, _, _, .nil, h => h
  | _, _, _, _, .cons r t, h => .cons r (paired_app' t h)
theorem S.go {t : TS} {f : Pd τ ε ρ → Prop} (h : S b G t Gn Gl ro f) (σ : L2.St) (F H : Hp) (D : Ends) (d : Pd τ ε ρ) (V : Env b G σ F H) (q : f d) (w1 : ∀ x σ' F' H', d.nx x → Ex F F' → Env b (Gn x) σ' F' H' → D.nx σ' H')
  (w2 : ∀ x σ' F' H', d.ct x → Ex F F' → Env b (Gl x) σ' F' H' → D.ct σ' H') (w3 : ∀ x σ' F' H', d.bk x → Ex F F' → Env b (Gl x) σ' F' H' → D.bk σ' H') (w4 : ∀ y v F' H', d.rt y → After b.F b.H b.M F' H' → ro y v F' H' → D.rt v H') : t D σ H := h d V q w1 w2 w3 w4
theorem run_P {s : RI α} {r : R β} {g : α → (β → Prop) → Prop} {N : List Str} {m : Nat} {t : TS} {vs : List V} {Q : VK} {Ek : XK} {Gn : Bs → α → τ → List Sl} {f : α → Pd τ Unit β → Prop} (h : spP s r g vs H Q Ek) (hN : N.length = s.n + m)
    (hS : ∀ b x, b.M = [] → S b (s.sl x ++ List.replicate m any) t (Gn b x) (fun _ : Unit => []) (fun y v F _ => r.h y v F) (f x)) (hg : ∀ x k, g x k → f x ⟨fun _ => False, fun _ => False, fun _ => False, k⟩) :
    t { nx := fun _ H' => Q .non H', rt := Q } (L2.start N vs) H := by
  obtain ⟨x, F, k, e, hs, q, w⟩ := h
  have hl := s.ln hs
  refine S.go (hS ⟨F, H, [], fun _ h => nomatch h⟩ x rfl) (L2.start N vs) F H _ ⟨fun _ => False, fun _ => False, fun _ => False, k⟩ ?_ (hg x k q) (fun _ _ _ _ h => h.elim) (fun _ _ _ _ h => h.elim) (fun _ _ _ _ h => h.elim) (fun y v F' H' hk A hr => w y v F' H' hk A hr)
  have ow : owns (s.sl x ++ List.replicate m any) = [] := by rw [owns_app, s.no, owns_any]; rfl
  refine ⟨Ex.refl _, e, fun _ _ _ h => h, fun _ h => h, fun _ h _ => h, ?_, by rw [ow]; exact List.nodup_nil, fun p hp => by rw [ow] at hp; nomatch hp⟩
  unfold L2.start
  have : N.length - vs.length = m := by omega
  rw [this]
  exact paired_app' (s.hs hs) holds_any
theorem run_B {s : RI α} {r : R β} {g : α → (β → Prop) → Prop} {N : List Str} {m : Nat} {t : TS} {vs : List V} {Q : VK} {Ek : XK} {Gn : Bs → Addr → α → τ → List Sl} {f : α → Pd τ Unit β → Prop} (h : spB s r g vs H Q Ek) (hN : N.length = s.n + 1 + m)
    (hS : ∀ b p x, b.M = [p] → S b (own p cBag () :: (s.sl x ++ List.replicate m any)) t (Gn b p x) (fun _ : Unit => []) (fun y v F H => BgAt F H p ∧ r.h y v F) (f x)) (hg : ∀ x k, g x k → f x ⟨fun _ => False, fun _ => False, fun _ => False, k⟩) :
    t { nx := fun _ H' => Q .non H', rt := Q } (L2.start N vs) H := by
  obtain ⟨p, ws, x, F, k, rfl, fp, ⟨l, hb, hbl⟩, e, hs, q, w⟩ := h
  have hl := s.ln hs
  refine S.go (hS ⟨F, H, [p], fun q hq => by rw [List.mem_singleton.mp hq, hb]; exact fun z => nomatch z⟩ p x rfl) (L2.start N (.ref p :: ws)) F H _ ⟨fun _ => False, fun _ => False, fun _ => False, k⟩ ?_ (hg x k q) (fun _ _ _ _ h => h.elim) (fun _ _ _ _ h => h.elim) (fun _ _ _ _ h => h.elim) (fun y v F' H' hk A (hr : BgAt F' H' p ∧ r.h y v F') => w y v F' H' hk A hr.1 hr.2)
  have ow : owns (own p cBag () :: (s.sl x ++ List.replicate m any)) = [p] := by
    show [p] ++ owns _ = _
    rw [owns_app, s.no, owns_any]; rfl
  refine ⟨Ex.refl _, e, fun _ _ _ h => h, fun _ h => h, fun _ h _ => h, ?_, by rw [ow]; simp, fun q hq => ?_⟩
  · unfold L2.start
    have : N.length - (V.ref p :: ws).length = m := by rw [List.length_cons]; omega
    rw [this]
    exact .cons (show _ ∧ _ from ⟨rfl, _, hb, l, rfl, hbl⟩) (paired_app' (s.hs hs) holds_any)
  · rw [ow] at hq
    cases List.mem_singleton.mp hq
    exact ⟨fp, .inl List.mem_cons_self⟩
theorem s_retB {te : TE} {r : R α} {f : (α → Prop) → Prop} {i : Nat} {p : Addr} (hi : G[i]? = some (own p cBag ())) (h : E b G te r f) : S b G (tRet te) Gn Gl (fun y v F H => BgAt F H p ∧ r.h y v F) (fun d => f d.rt) :=
  s_ret (g := fun a => a) h fun a v σ F H V hr => ⟨(V.bagAt hi).2, hr⟩
theorem s_retP {te : TE} {r : R α} {f : (α → Prop) → Prop} (h : E b G te r f) : S b G (tRet te) Gn Gl (fun y v F _ => r.h y v F) (fun d => f d.rt) := s_ret (g := fun a => a) h fun a v σ F H V hr => hr
/-! ### None or a thing -/
def NN (r : R α) : Prop := ∀ {a v F}, r.h a v F → v ≠ .non
theorem nn_int : NN rInt := fun h => by cases h; exact fun z => nomatch z
theorem nn_str : NN rStr := fun h => by cases h; exact fun z => nomatch z
theorem nn_bl : NN rBl := fun h => by cases h; exact fun z => nomatch z
theorem nn_tp {s : RI α} : NN (rTp K s) := fun ⟨p, vs, h, _⟩ => by rw [h]; exact fun z => nomatch z
theorem nn_lst {r : R α} : NN (rLst r) := fun ⟨p, vs, h, _⟩ => by rw [h]; exact fun z => nomatch z
theorem e_some {te : TE} {r : R α} {f : (α → Prop) → Prop} (n : NN r) (h : E b G te r f) : E b G te (rOpt r) (fun k => f fun a => k (some a)) := e_cast (r' := rOpt r) (g := some) (fun a v F h => ⟨h, n h⟩) h
/-- x is None -/
theorem o_isN {r : R α} : Op2 (fun x y H Q => y = .non ∧ Q (.bl (decide (x = .non))) H) (rOpt r) rNon rBl (fun x _ k => k x.isNone) := fun a c v w F H Q k h1 h2 e q z => by
  refine ⟨h2, z _ _ _ _ q (.refl e _) ?_⟩
  cases a with
  | none => cases h1; rfl
  | some a =>
    show V.bl (decide (v = .non)) = V.bl false
    rw [decide_eq_false h1.2]
theorem o_notN {r : R α} : Op2 (fun x y H Q => y = .non ∧ Q (.bl (!decide (x = .non))) H) (rOpt r) rNon rBl (fun x _ k => k x.isSome) := fun a c v w F H Q k h1 h2 e q z => by
  refine ⟨h2, z _ _ _ _ q (.refl e _) ?_⟩
  cases a with
  | none => cases h1; rfl
  | some a =>
    show V.bl (!decide (v = .non)) = V.bl true
    rw [decide_eq_false h1.2]; rfl
/-- the thing itself, where it is one -/
theorem e_get {te : TE} {r : R α} {f : (Option α → Prop) → Prop} (h : E b G te (rOpt r) f) : E b G te r (fun k => f fun o => ∃ a, o = some a ∧ k a) := fun _ _ _ _ k V q w => h _ V q fun o v F1 H1 ⟨a, e, q1⟩ A1 V1 hr => by
  subst e
  exact w a v F1 H1 q1 A1 V1 hr.1
/-! ### small calls -/
theorem e_int1 {te : TE} {f : (Int → Prop) → Prop} (h : E b G te rInt f) : E b G (tCB rInt1 (tCons te tNil)) rInt f := fun _ _ _ _ k V q w => by
  refine h k V q ?_
  intro i v F1 H1 q1 A1 V1 e
  cases e
  exact i_int1 (w i _ F1 H1 q1 A1 V1 rfl)
theorem e_abs {te : TE} {f : (Int → Prop) → Prop} (h : E b G te rInt f) : E b G (tCB rAbs (tCons te tNil)) rInt (fun k => f fun i => k (if i < 0 then -i else i)) := fun _ _ _ _ k V q w => by
  refine h _ V q ?_
  intro i v F1 H1 q1 A1 V1 e
  cases e
  exact i_abs (w _ _ F1 H1 q1 A1 V1 rfl)
theorem map_int {F : Hp} : ∀ {xs : List Int} {vs : List V}, All rInt F xs vs → vs = xs.map V.int
  | _, _, .nil => rfl
  | _, _, .cons h t => by rw [List.map_cons, ← map_int t, ← show _ = V.int _ from h]
theorem all_int {F : Hp} : ∀ {xs : List Int}, All rInt F xs (xs.map V.int)
  | [] => .nil
  | _ :: _ => .cons rfl all_int
theorem map_str {F : Hp} : ∀ {xs : List Str} {vs : List V}, All rStr F xs vs → vs = xs.map V.str
  | _, _, .nil => rfl
  | _, _, .cons h t => by rw [List.map_cons, ← map_str t, ← show _ = V.str _ from h]
theorem all_str {F : Hp} : ∀ {xs : List Str}, All rStr F xs (xs.map V.str)
  | [] => .nil
  | _ :: _ => .cons rfl all_str
theorem en_sortI {te : TE} {f : (List Int → Prop) → Prop} (h : LV b G te rInt f) : EN b G (tCB (rSortedI K) (tCons te tNil)) rInt (fun k => f fun ns => ∀ ms : List Int, ms.Perm ns → ms.Pairwise (· ≤ ·) → k ms) := fun _ _ _ _ k V q w => by
  refine h _ V q ?_
  intro xs p F1 H1 q1 A1 V1 z
  obtain ⟨vs, h1, h2⟩ := z F1 H1 (Ex.refl _) V1
  cases map_int h2
  exact ⟨p, xs, rfl, SqL.of h1, fun ms l hp hs hl => en_lay A1 V1 (q1 ms hp hs) all_int w hl⟩
theorem en_sortR {te : TE} {c : Bool} {f : (List Int → Prop) → Prop} {tk : TA} (h : LV b G te rInt f) (hk : ∀ {σ H} {q : List V → Hp → Prop}, q [.bl c] H → tk σ H q) : EN b G (tCKw (rSortedKw K c [.bl c]) (tCons te tNil) tk) rInt (fun k => f fun ns => ∀ ms : List Int, ms.Perm ns → OrdB c ms → k ms) := fun _ _ _ _ k V q w => by
  refine h _ V q ?_
  intro xs p F1 H1 q1 A1 V1 z
  obtain ⟨vs, h1, h2⟩ := z F1 H1 (Ex.refl _) V1
  cases map_int h2
  exact hk ⟨p, xs, rfl, rfl, SqL.of h1, fun ms l hp hs hl => en_lay A1 V1 (q1 ms hp hs) all_int w hl⟩
/-! ### texts -/
theorem o_addT : Op2 rAddT rStr rStr rStr (fun x y k => x.length + y.length ≤ sizeLine ∧ k (x ++ y)) := fun _ _ _ _ _ _ _ k h1 h2 e q w => by
  cases h1; cases h2
  exact i_addT q.1 (w _ _ _ _ q.2 (.refl e _) rfl)
theorem o_ixS : Op2 rIxS rStr rInt rStr (fun z i k => z.length ≤ sizeLine ∧ ∃ c, atI z.cps.toList i = some c ∧ k ⟨#[c]⟩) := fun _ _ _ _ _ _ _ k h1 h2 e ⟨l, c, hc, q⟩ w => by
  cases h1; cases h2
  exact i_ixS l hc (w _ _ _ _ q (.refl e _) rfl)
/-! ### dicts -/
def dGet {κ : Type} [DecidableEq κ] (kvs : List (κ × α)) (k : κ) : Option α := (kvs.find? fun kv => decide (kv.1 = k)).map (·.2)
def dPut {κ : Type} [DecidableEq κ] (kvs : List (κ × α)) (k : κ) (v : α) : List (κ × α) := if (kvs.any fun kv => decide (kv.1 = k)) = true then kvs.map (fun kv => if kv.1 = k then (kv.1, v) else kv) else kvs ++ [(k, v)]
def KV' {κ : Type} (ke : κ → Key) (r : R α) (F : Hp) : List (κ × α) → List (Key × V) → Prop := Paired fun p q => q.1 = ke p.1 ∧ r.h p.2 q.2 F
theorem KV'.ex {κ : Type} {ke : κ → Key} {r : R α} (e : Ex F F') {ps : List (κ × α)} {kvs : List (Key × V)} (h : KV' ke r F ps kvs) : KV' ke r F' ps kvs := Paired.mapP h fun _ _ q => ⟨q.1, r.ex e q.2⟩
def cDct {κ : Type} (ke : κ → Key) (r : R α) : C (List (κ × α)) := ⟨fun ps u F => ∃ kvs, u = .dK kvs ∧ KV' ke r F ps kvs, fun e ⟨kvs, h1, h2⟩ => ⟨kvs, h1, h2.ex e⟩⟩
def rDct {κ : Type} (ke : κ → Key) (r : R α) : R (List (κ × α)) := ⟨fun ps v F => ∃ p kvs, v = .ref p ∧ F p = some (.dK kvs) ∧ KV' ke r F ps kvs, fun e ⟨p, kvs, h1, h2, h3⟩ => ⟨p, kvs, h1, e _ _ h2, h3.ex e⟩⟩
theorem KV'.get {κ : Type} [DecidableEq κ] {ke : κ → Key} (inj : ∀ a c, ke a = ke c → a = c) {r : R α} {k : κ} {ps : List (κ × α)} {kvs : List (Key × V)} (h : KV' ke r F ps kvs) : (dGet ps k = none ∧ valV kvs (ke k) = none) ∨ ∃ a v, dGet ps k = some a ∧ valV kvs (ke k) = some v ∧ r.h a v F := by
  induction h with
  | nil => exact .inl ⟨rfl, rfl⟩
  | @cons p q ps qs hpq t ih =>
    by_cases z : p.1 = k
    · refine .inr ⟨p.2, q.2, ?_, ?_, hpq.2⟩
      · simp [dGet, List.find?_cons, z]
      · exact valV_pos (by rw [hpq.1, z])
    · have z2 : ¬ q.1 = ke k := fun e => z (inj _ _ (hpq.1.symm.trans e))
      have e1 : dGet (p :: ps) k = dGet ps k := by simp [dGet, List.find?_cons, z]
      rw [e1, valV_neg z2]
      exact ih
theorem KV'.any {κ : Type} [DecidableEq κ] {ke : κ → Key} (inj : ∀ a c, ke a = ke c → a = c) {r : R α} {k : κ} {ps : List (κ × α)} {kvs : List (Key × V)} (h : KV' ke r F ps kvs) : (kvs.any fun kv => decide (kv.1 = ke k)) = ps.any fun kv => decide (kv.1 = k) := by
  induction h with
  | nil => rfl
  | @cons p q ps qs hpq t ih =>
    rw [List.any_cons, List.any_cons, ih, hpq.1]
    congr 1
    exact decide_eq_decide.mpr ⟨fun e => inj _ _ e, fun e => by rw [e]⟩
theorem KV'.put {κ : Type} [DecidableEq κ] {ke : κ → Key} (inj : ∀ a c, ke a = ke c → a = c) {r : R α} {k : κ} {a : α} {v : V} {ps : List (κ × α)} {kvs : List (Key × V)} (h : KV' ke r F ps kvs) (hr : r.h a v F) : KV' ke r F (dPut ps k a) (putK kvs (ke k) v) := by
  unfold dPut putK
  rw [h.any inj]
  by_cases z : (ps.any fun kv => decide (kv.1 = k)) = true
  · rw [if_pos z, if_pos z]
    clear z
    induction h with
    | nil => exact .nil
    | @cons p q ps qs hpq t ih =>
      refine .cons ?_ ih
      by_cases e : p.1 = k
      · show (if q.1 = ke k then (q.1, v) else q).1 = ke (if p.1 = k then (p.1, a) else p).1 ∧ r.h (if p.1 = k then (p.1, a) else p).2 (if q.1 = ke k then (q.1, v) else q).2 F
        rw [if_pos e, if_pos (by rw [hpq.1, e])]; exact ⟨hpq.1, hr⟩
      · show (if q.1 = ke k then (q.1, v) else q).1 = ke (if p.1 = k then (p.1, a) else p).1 ∧ r.h (if p.1 = k then (p.1, a) else p).2 (if q.1 = ke k then (q.1, v) else q).2 F
        rw [if_neg e, if_neg (fun x => e (inj _ _ (hpq.1.symm.trans x)))]; exact hpq
  · rw [if_neg z, if_neg z]
    exact Dh.paired_app h (.cons ⟨rfl, hr⟩ .nil)
theorem inl_inj : ∀ a c : Int, (Sum.inl a : Key) = Sum.inl c → a = c := fun _ _ h => Sum.inl.inj h
theorem inr_inj : ∀ a c : Str, (Sum.inr a : Key) = Sum.inr c → a = c := fun _ _ h => Sum.inr.inj h
/-- a dict that is read: frozen or own -/
def DV {κ : Type} (b : Bs) (G : List Sl) (te : TE) (ke : κ → Key) (r : R α) (f : (List (κ × α) → Prop) → Prop) : Prop := ∀ ⦃σ : L2.St⦄ ⦃F H : Hp⦄ ⦃Q : VK⦄ (k : List (κ × α) → Prop), Env b G σ F H → f k →
  (∀ xs p F' H', k xs → After F H (owns G) F' H' → Env b G σ F' H' → (∀ F2 H2, Ex F' F2 → Env b G σ F2 H2 → ∃ kvs, H2 p = some (.dK kvs) ∧ KV' ke r F2 xs kvs) → Q (.ref p) H') → te σ H Q
section
variable {κ : Type} {ke : κ → Key}
theorem dv_e {te : TE} {r : R α} {f : (List (κ × α) → Prop) → Prop} (h : E b G te (rDct ke r) f) : DV b G te ke r f := fun _ _ _ _ k V q w => by
  refine h k V q ?_
  rintro xs v F1 H1 q1 A1 V1 ⟨p, vs, e, hp, A⟩
  subst e
  exact w xs p F1 H1 q1 A1 V1 fun F2 H2 e V2 => ⟨vs, V2.fh _ _ (e _ _ hp), A.ex e⟩
theorem dv_own {i : Nat} {p : Addr} {r : R α} {xs : List (κ × α)} (h : G[i]? = some (own p (cDct ke r) xs)) : DV b G (tVar i) ke r (fun k => k xs) := fun σ F H Q k V q w => by
  obtain ⟨o, h1, rfl, _⟩ := V.hold.at_ h
  refine ⟨.ref p, h1, w xs p F H q (.refl V.fh _) V fun F2 H2 e V2 => ?_⟩
  obtain ⟨o, h1, _, u, h2, vs, rfl, h3⟩ := V2.hold.at_ h
  exact ⟨vs, h2, h3⟩
end
/-- how a key is told: ints, texts -/
structure KeyR {κ : Type} (ke : κ → Key) (rk : R κ) : Prop where
  inj : ∀ a c, ke a = ke c → a = c
  kv : ∀ {a v F}, rk.h a v F → v = kV (ke a)
theorem kr_int : KeyR (Sum.inl : Int → Key) rInt := ⟨inl_inj, fun h => h⟩
theorem kr_str : KeyR (Sum.inr : Str → Key) rStr := ⟨inr_inj, fun h => h⟩
section
variable {κ : Type} [DecidableEq κ] {ke : κ → Key} {rk : R κ}
theorem e_dget {td tk : TE} {r : R α} {f : (List (κ × α) → Prop) → Prop} {g : (κ → Prop) → Prop} (R : KeyR ke rk) (hd : DV b G td ke r f) (hk : E b G tk rk g) : E b G (tDGet td tk) r (fun k => f fun d => g fun x => ∃ a, dGet d x = some a ∧ k a) := fun _ _ _ _ k V q w => by
  refine hd _ V q ?_
  intro ps p F1 H1 q1 A1 V1 z
  refine hk _ V1 q1 ?_
  rintro x v F2 H2 ⟨a, ha, q2⟩ A2 V2 e
  cases R.kv e
  obtain ⟨kvs, h1, h2⟩ := z F2 H2 A2.ff V2
  rcases h2.get R.inj (k := x) with ⟨e1, _⟩ | ⟨a', u, e1, e2, hr⟩
  · rw [ha] at e1; cases e1
  · rw [ha] at e1; cases e1
    exact ⟨p, u, rfl, by rw [← e2]; exact DGet.k h1, w a u F2 H2 q2 (A1.trans A2) V2 hr⟩
theorem e_din {td tk : TE} {r : R α} {f : (List (κ × α) → Prop) → Prop} {g : (κ → Prop) → Prop} (R : KeyR ke rk) (hk : E b G tk rk g) (hd : DV b G td ke r f) : E b G (tDIn tk td) rBl (fun k => g fun x => f fun d => k (dGet d x).isSome) := fun _ _ _ _ k V q w => by
  refine hk _ V q ?_
  rintro x v F1 H1 q1 A1 V1 e
  cases R.kv e
  refine hd _ V1 q1 ?_
  intro ps p F2 H2 q2 A2 V2 z
  obtain ⟨kvs, h1, h2⟩ := z F2 H2 (Ex.refl _) V2
  refine ⟨p, _, rfl, DGet.k h1, w _ _ F2 H2 q2 (A1.trans A2) V2 ?_⟩
  rcases h2.get R.inj (k := x) with ⟨e1, e2⟩ | ⟨a', u, e1, e2, hr⟩
  · rw [e1, e2]; rfl
  · rw [e1, e2]; rfl
theorem e_dnotin {td tk : TE} {r : R α} {f : (List (κ × α) → Prop) → Prop} {g : (κ → Prop) → Prop} (R : KeyR ke rk) (hk : E b G tk rk g) (hd : DV b G td ke r f) : E b G (tDNotIn tk td) rBl (fun k => g fun x => f fun d => k (!(dGet d x).isSome)) := fun _ _ _ _ k V q w => by
  refine hk _ V q ?_
  rintro x v F1 H1 q1 A1 V1 e
  cases R.kv e
  refine hd _ V1 q1 ?_
  intro ps p F2 H2 q2 A2 V2 z
  obtain ⟨kvs, h1, h2⟩ := z F2 H2 (Ex.refl _) V2
  refine ⟨p, _, rfl, DGet.k h1, w _ _ F2 H2 q2 (A1.trans A2) V2 ?_⟩
  rcases h2.get R.inj (k := x) with ⟨e1, e2⟩ | ⟨a', u, e1, e2, hr⟩
  · rw [e1, e2]; rfl
  · rw [e1, e2]; rfl
theorem e_dget1 {td tk : TE} {r : R α} {f : (List (κ × α) → Prop) → Prop} {g : (κ → Prop) → Prop} (R : KeyR ke rk) (n : NN r) (hd : DV b G td ke r f) (hk : E b G tk rk g) : E b G (tDGet1 td tk) (rOpt r) (fun k => f fun d => g fun x => k (dGet d x)) := fun _ _ _ _ k V q w => by
  refine hd _ V q ?_
  intro ps p F1 H1 q1 A1 V1 z
  obtain ⟨kvs, h1, h2⟩ := z F1 H1 (Ex.refl _) V1
  refine ⟨p, rfl, .inl ⟨kvs, Rd.of h1⟩, ?_⟩
  refine hk _ V1 q1 ?_
  rintro x v F2 H2 q2 A2 V2 e
  cases R.kv e
  obtain ⟨kvs, h1, h2⟩ := z F2 H2 A2.ff V2
  refine ⟨_, DGet.k h1, w _ _ F2 H2 q2 (A1.trans A2) V2 ?_⟩
  rcases h2.get R.inj (k := x) with ⟨e1, e2⟩ | ⟨a', u, e1, e2, hr⟩
  · rw [e1, e2]; rfl
  · rw [e1, e2]; exact ⟨hr, n hr⟩
/-- a cell is changed -/
theorem Env.cell {c c' : C γ} {i : Nat} {p : Addr} {a a' : γ} {u : HO} (V : Env b G σ F H) (hi : G[i]? = some (own p c a)) (h' : c'.h a' u F) : Env b (G.set i (own p c' a')) σ F (upd H p u) := by
  obtain ⟨o, h1, rfl, _⟩ := V.hold.at_ hi
  have hp : p ∈ owns G := mem_owns hi List.mem_cons_self
  have e : owns (G.set i (own p c' a')) = owns G := owns_same hi rfl
  refine V.step0 (M := [p]) ⟨Ex.refl _, ex_mut (V.on p hp).1 V.fh, fun x o hm hx => by rw [upd_ne (fun z => hm (by rw [z]; exact List.mem_cons_self))]; exact hx, fun x hx => ?_, fun _ h _ => h⟩ (fun q hq => by rw [List.mem_singleton.mp hq]; exact hp) (fun q hq => by rw [← e]; exact hq) (by rw [e]; exact V.nd) ?_
  · by_cases z : x = p
    · subst z; rw [upd_same]; exact fun z => nomatch z
    · rw [upd_ne z]; exact hx
  · exact V.hold.mut V.nd hi h1 List.mem_cons_self (Ex.refl _) (fun q u ne hq => by rw [upd_ne ne]; exact hq) (show _ ∧ _ from ⟨rfl, _, upd_same, h'⟩)
/-- d[k] = v -/
theorem s_dput {i : Nat} {p : Addr} {tv tk : TE} {r : R α} {xs : List (κ × α)} {f : (α → Prop) → Prop} {g : (κ → Prop) → Prop} (R : KeyR ke rk) (hi : G[i]? = some (own p (cDct ke r) xs)) (hv : E b G tv r f) (hk : E b G tk rk g) :
    S b G (sDPut (tVar i) tk tv) (fun y : κ × α => G.set i (own p (cDct ke r) (dPut xs y.1 y.2))) Gl ro (fun d => f fun a => g fun x => xs.length < sizeLine ∧ d.nx (x, a)) := fun σ F H D d V q w1 _ _ _ => by
  refine hv _ V q ?_
  intro a v F1 H1 q1 A1 V1 r1
  obtain ⟨o, h1, rfl, _⟩ := V1.hold.at_ hi
  refine ⟨.ref p, h1, ?_⟩
  refine hk _ V1 q1 ?_
  intro x y F2 H2 q2 A2 V2 e
  cases R.kv e
  obtain ⟨_, _, _, u, h2, kvs, rfl, h3⟩ := V2.hold.at_ hi
  have hl : kvs.length = xs.length := (Paired.length h3).symm
  refine ⟨p, _, rfl, DPut.k (k := ke x) h2 (by rw [hl]; exact q2.1), w1 (x, a) _ F2 _ q2.2 (A1.ff.trans A2.ff) ?_⟩
  exact V2.cell hi ⟨_, rfl, h3.put R.inj (r.ex A2.ff r1)⟩
end
/-- a new own cell -/
def ENc (b : Bs) (G : List Sl) (te : TE) (c : C γ) (f : (γ → Prop) → Prop) : Prop := ∀ ⦃σ : L2.St⦄ ⦃F H : Hp⦄ ⦃Q : VK⦄ (k : γ → Prop), Env b G σ F H → f k →
  (∀ a p u F' H', k a → After F H (owns G) F' H' → Env b G σ F' H' → H p = none → F' p = none → H' p = some u → c.h a u F' → Q (.ref p) H') → te σ H Q
theorem enc_lst {te : TE} {r : R α} {f : (List α → Prop) → Prop} (h : EN b G te r f) : ENc b G te (cLst r) f := fun _ _ _ _ k V q w => h k V q fun xs p vs F' H' q' A V' h1 h2 h3 h4 => w xs p _ F' H' q' A V' h1 h2 h3 ⟨vs, rfl, h4⟩
theorem enc_dct {κ : Type} {ke : κ → Key} {r : R α} : ENc b G tDNewK (cDct ke r) (fun k => k []) := fun σ F H Q k V q w p hp => by
  have B := After.fresh (o := .dK []) V.fh hp
  exact w [] p _ F _ q (B _) (V.step (B _)) hp (ex_none V.fh hp) upd_same ⟨[], rfl, .nil⟩
theorem s_newc {te : TE} {c : C γ} {i : Nat} {f : (γ → Prop) → Prop} {g : γ → Pd τ ε ρ → Prop} {t : TS} (h : ENc b G te c f) (ht : ∀ p a, p ∉ b.M → S b (G.set i (own p c a)) t Gn Gl ro (g a)) :
    S b G (tSeq (tAsg te (gName i)) t) Gn Gl ro (fun d => f fun a => g a d) := fun σ F H D d V q w1 w2 w3 w4 => by
  refine h _ V q ?_
  intro a p u F1 H1 q1 A1 V1 hp fp hp1 hA
  have hb : b.H p = none := by
    cases e : b.H p with
    | none => rfl
    | some u => exact absurd hp (V.kp p (by rw [e]; exact fun z => nomatch z))
  have nO : p ∉ owns G := fun z => V.hold.live p z hp
  have nM : p ∉ b.M := fun z => b.ml p z hb
  have e1 := A1.ff
  refine ht p a nM d ?_ q1 (fun y σ2 F2 H2 q2 e2 => w1 y σ2 F2 H2 q2 (e1.trans e2)) (fun y σ2 F2 H2 q2 e2 => w2 y σ2 F2 H2 q2 (e1.trans e2)) (fun y σ2 F2 H2 q2 e2 => w3 y σ2 F2 H2 q2 (e1.trans e2)) w4
  obtain ⟨o1, o2⟩ := owns_setN (s := own p c a) (G := G) (i := i) rfl nO V1.nd
  refine ⟨V1.ff, V1.fh, V1.hh, V1.kp, V1.nf, V1.hold.set (s := own p c a) (show _ ∧ _ from ⟨rfl, _, hp1, hA⟩), o2, fun q hq => ?_⟩
  rcases o1 q hq with z | z
  · subst z; exact ⟨fp, .inr hb⟩
  · exact V1.on q z
theorem frz_dct {κ : Type} {ke : κ → Key} {r : R α} {a : List (κ × α)} : ∀ {p : Addr} (u : HO) (F : Hp), (cDct ke r).h a u F → F p = some u → (rDct ke r).h a (.ref p) F := fun u F ⟨vs, h1, h2⟩ h => ⟨_, vs, rfl, h1 ▸ h, h2⟩
end
end Mi
/-! Mir5 -/
set_option Elab.async false
set_option linter.all false
set_option maxRecDepth 100000
set_option maxHeartbeats 4000000
namespace Mi
open PySem PySem.Spec L2 Dh
open _root_.Evl (Ex)
section
variable {K : PySem.W.Frag} {b : Bs} {G : List Sl} {α β γ δ τ τ' ρ ε : Type} {Gn : τ → List Sl} {Gl : ε → List Sl} {ro : ρ → V → Hp → Hp → Prop} {σ : L2.St} {F H F' H' : Hp}
theorem spP_len {s : RI α} {r : R β} {g : α → (β → Prop) → Prop} {vs : List V} {Q : VK} {Ek : XK} (h : spP s r g vs H Q Ek) : vs.length = s.n := by
  obtain ⟨x, F, k, _, hs, _⟩ := h; exact s.ln hs
theorem spB_len {s : RI α} {r : R β} {g : α → (β → Prop) → Prop} {vs : List V} {Q : VK} {Ek : XK} (h : spB s r g vs H Q Ek) : vs.length = s.n + 1 := by
  obtain ⟨p, ws, x, F, k, rfl, _, _, _, hs, _⟩ := h; rw [List.length_cons, s.ln hs]
/-- a comprehension of plain values -/
theorem compP_map {xs : List α} {g : α → β} {k : List β → Prop} (q : k (xs.map g)) : compP xs (fun a acc n => (true = true → n (acc ++ [g a])) ∧ (true = false → n acc)) k := by
  refine ⟨fun i acc => acc = (xs.take i).map g, by simp, fun i a acc h e => ⟨fun _ => ?_, fun z => by cases z⟩, fun acc e => ?_⟩
  · show _ = _
    rw [e, List.take_add_one, h, List.map_append]; rfl
  · have e : acc = (xs.take xs.length).map g := e
    rw [e, List.take_length]; exact q
theorem compP_filter {xs : List α} {c : α → Bool} {g : α → β} {k : List β → Prop} (q : k ((xs.filter c).map g)) : compP xs (fun a acc n => (c a = true → n (acc ++ [g a])) ∧ (c a = false → n acc)) k := by
  refine ⟨fun i acc => acc = ((xs.take i).filter c).map g, by simp, fun i a acc h e => ⟨fun z => ?_, fun z => ?_⟩, fun acc e => ?_⟩
  · show _ = _
    rw [e, List.take_add_one, h, List.filter_append, List.map_append]; simp [z]
  · show _ = _
    rw [e, List.take_add_one, h, List.filter_append, List.map_append]; simp [z]
  · have e : acc = ((xs.take xs.length).filter c).map g := e
    rw [e, List.take_length]; exact q
theorem en_compM {wi : TI} {g : TG} {tt : TT} {te : TE} {vs : List Nat} {r : R α} {rb : R β} {up : α → List Sl → List Sl} {fw : (List α → Prop) → Prop} {y : α → β}
    (hw : Wk b G wi r fw) (hg : Tg g r up vs) (hG : wipeG G vs = G) (ht : ∀ a, Tt b (up a G) tt (fun k => k true)) (he : ∀ a, E b (up a G) te rb (fun k => k (y a))) :
    EN b G (tLc wi g tt te vs) rb (fun k => fw fun xs => xs.length ≤ sizeLine ∧ k (xs.map y)) := fun σ F H Q k V q w =>
  en_comp (fw := fun k2 => fw (fun xs => xs.length ≤ sizeLine ∧ k (xs.map y)) ∧ ∀ xs, (xs.length ≤ sizeLine ∧ k (xs.map y)) → k2 xs) (fun σ F H R k2 V q w => hw _ V q.1 fun xs J F' H' q' A V' W => w xs J F' H' (q.2 xs q') A V' W) hg hG ht he k V ⟨q, fun xs h => ⟨h.1, compP_map h.2⟩⟩ w
theorem en_compF {wi : TI} {g : TG} {tt : TT} {te : TE} {vs : List Nat} {r : R α} {rb : R β} {up : α → List Sl → List Sl} {fw : (List α → Prop) → Prop} {c : α → Bool} {y : α → β}
    (hw : Wk b G wi r fw) (hg : Tg g r up vs) (hG : wipeG G vs = G) (ht : ∀ a, Tt b (up a G) tt (fun k => k (c a))) (he : ∀ a, E b (up a G) te rb (fun k => k (y a))) :
    EN b G (tLc wi g tt te vs) rb (fun k => fw fun xs => xs.length ≤ sizeLine ∧ k ((xs.filter c).map y)) := fun σ F H Q k V q w =>
  en_comp (fw := fun k2 => fw (fun xs => xs.length ≤ sizeLine ∧ k ((xs.filter c).map y)) ∧ ∀ xs, (xs.length ≤ sizeLine ∧ k ((xs.filter c).map y)) → k2 xs) (fun σ F H R k2 V q w => hw _ V q.1 fun xs J F' H' q' A V' W => w xs J F' H' (q.2 xs q') A V' W) hg hG ht he k V ⟨q, fun xs h => ⟨h.1, compP_filter h.2⟩⟩ w
/-! short ways -/
theorem e_andVP {ta te : TE} {f : (Bool → Prop) → Prop} {y : Bool} (h1 : E b G ta rBl f) (h2 : E b G te rBl (fun k => k y)) : E b G (tAndV ta te) rBl (fun k => f fun a => k (a && y)) := fun _ _ _ _ k V q w => by
  refine h1 _ V q ?_
  intro a v F' H' q' A V' r
  refine ⟨a, r, ?_⟩
  cases a with
  | true => exact iteT (h2 k V' q' fun x v F2 H2 q2 A2 V2 => w x v F2 H2 q2 (A.trans A2) V2)
  | false => exact iteF (w false _ F' H' q' A V' rfl)
theorem e_orVP {ta te : TE} {f : (Bool → Prop) → Prop} {y : Bool} (h1 : E b G ta rBl f) (h2 : E b G te rBl (fun k => k y)) : E b G (tOrV ta te) rBl (fun k => f fun a => k (a || y)) := fun _ _ _ _ k V q w => by
  refine h1 _ V q ?_
  intro a v F' H' q' A V' r
  refine ⟨a, r, ?_⟩
  cases a with
  | true => exact iteT (w true _ F' H' q' A V' rfl)
  | false => exact iteF (h2 k V' q' fun x v F2 H2 q2 A2 V2 => w x v F2 H2 q2 (A.trans A2) V2)
theorem e_inLP [DecidableEq α] {tx te : TE} {r : R α} {f : (α → Prop) → Prop} {g : (List α → Prop) → Prop} (fl : Flat r) (hx : E b G tx r f) (h : LV b G te r g) : E b G (tOp (rIn K false) tx te) rBl (fun k => f fun x => g fun xs => k (decide (x ∈ xs))) := e_inL fl hx h
theorem e_inLN [DecidableEq α] {tx te : TE} {r : R α} {f : (α → Prop) → Prop} {g : (List α → Prop) → Prop} (fl : Flat r) (hx : E b G tx r f) (h : LV b G te r g) : E b G (tOp (rIn K true) tx te) rBl (fun k => f fun x => g fun xs => k (!decide (x ∈ xs))) := e_inL fl hx h
theorem e_isN {ta : TE} {r : R α} {f : (Option α → Prop) → Prop} (h : E b G ta (rOpt r) f) : E b G (tOp (fun x y H Q => y = .non ∧ Q (.bl (decide (x = .non))) H) ta (tC .non)) rBl (fun k => f fun x => k x.isNone) := e_op o_isN h e_non
theorem e_notN {ta : TE} {r : R α} {f : (Option α → Prop) → Prop} (h : E b G ta (rOpt r) f) : E b G (tOp (fun x y H Q => y = .non ∧ Q (.bl (!decide (x = .non))) H) ta (tC .non)) rBl (fun k => f fun x => k x.isSome) := e_op o_notN h e_non
theorem e_neg {ta : TE} {f : (Int → Prop) → Prop} (h : E b G ta rInt f) : E b G (tUn (rU fun i => .int (-i)) ta) rInt (fun k => f fun x => k (-x)) := fun _ _ _ _ k V q w => by
  refine h _ V q ?_
  intro a v F' H' q' A V' r
  cases r
  exact ⟨a, rfl, w _ _ F' H' q' A V' rfl⟩
theorem e_chainP {g1 g2 : Int → Int → Bool} {ta te tc : TE} {x y z : Int} (ha : E b G ta rInt (fun k => k x)) (hb : E b G te rInt (fun k => k y)) (hc : E b G tc rInt (fun k => k z)) :
    E b G (tChain (rI0 fun i j => .bl (g1 i j)) (rI0 fun i j => .bl (g2 i j)) ta te tc) rBl (fun k => k (g1 x y && g2 y z)) := e_cq (e_chain o_I0b o_I0b ha hb hc) fun k q => by
  show (g1 x y = true → k (g2 y z)) ∧ (g1 x y = false → k false)
  refine ⟨fun h => ?_, fun h => ?_⟩
  · rw [h] at q; exact q
  · rw [h] at q; exact q
/-! items of tuples -/
theorem rcons_at {r : R α} {s : RI γ} {a : α × γ} {vs : List V} (h : (rCons r s).h a vs F) : ∃ v ws, vs = v :: ws ∧ r.h a.1 v F ∧ s.h a.2 ws F := h
theorem e_itm {te : TE} {s : RI α} {rr : R β} {f : (α → Prop) → Prop} {g : α → β} {n : Nat} (h : E b G te (rTp K s) f) (hg : ∀ a vs F, s.h a vs F → ∃ v, vs[n]? = some v ∧ rr.h (g a) v F) : E b G (tOp (rIxT K) te (tC (.int (n : Nat)))) rr (fun k => f fun a => k (g a)) := fun _ _ _ _ k V q w => by
  refine h _ V q ?_
  rintro a v F' H' q' A V' ⟨p, vs, e, hp, hs⟩
  subst e
  obtain ⟨v, h1, h2⟩ := hg a vs F' hs
  exact ⟨p, vs, _, v, rfl, rfl, _root_.Evl.ex_t V'.fh hp, atI_nat h1, w _ v F' H' q' A V' h2⟩
section
variable {te : TE} {r0 : R α} {r1 : R β} {r2 : R γ} {r3 : R δ}
theorem e_it2_0 {f : (α × β → Prop) → Prop} (h : E b G te (rTp K (rCons r0 (rOne r1))) f) : E b G (tOp (rIxT K) te (tC (.int 0))) r0 (fun k => f fun a => k a.1) := e_itm (n := 0) h (fun a vs F ⟨v, ws, e, h1, h2⟩ => ⟨v, by rw [e]; rfl, h1⟩)
theorem e_it2_1 {f : (α × β → Prop) → Prop} (h : E b G te (rTp K (rCons r0 (rOne r1))) f) : E b G (tOp (rIxT K) te (tC (.int 1))) r1 (fun k => f fun a => k a.2) := e_itm (n := 1) h (fun a vs F ⟨v, ws, e, h1, u, e2, h2⟩ => ⟨u, by rw [e, e2]; rfl, h2⟩)
theorem e_it3_0 {f : (α × β × γ → Prop) → Prop} (h : E b G te (rTp K (rCons r0 (rCons r1 (rOne r2)))) f) : E b G (tOp (rIxT K) te (tC (.int 0))) r0 (fun k => f fun a => k a.1) := e_itm (n := 0) h (fun a vs F ⟨v, ws, e, h1, h2⟩ => ⟨v, by rw [e]; rfl, h1⟩)
theorem e_it3_1 {f : (α × β × γ → Prop) → Prop} (h : E b G te (rTp K (rCons r0 (rCons r1 (rOne r2)))) f) : E b G (tOp (rIxT K) te (tC (.int 1))) r1 (fun k => f fun a => k a.2.1) := e_itm (n := 1) h (fun a vs F ⟨v, ws, e, h1, u, us, e2, h2, _⟩ => ⟨u, by rw [e, e2]; rfl, h2⟩)
theorem e_it3_2 {f : (α × β × γ → Prop) → Prop} (h : E b G te (rTp K (rCons r0 (rCons r1 (rOne r2)))) f) : E b G (tOp (rIxT K) te (tC (.int 2))) r2 (fun k => f fun a => k a.2.2) := e_itm (n := 2) h (fun a vs F ⟨v, ws, e, h1, u, us, e2, h2, t, e3, h3⟩ => ⟨t, by rw [e, e2, e3]; rfl, h3⟩)
theorem e_it4_0 {f : (α × β × γ × δ → Prop) → Prop} (h : E b G te (rTp K (rCons r0 (rCons r1 (rCons r2 (rOne r3))))) f) : E b G (tOp (rIxT K) te (tC (.int 0))) r0 (fun k => f fun a => k a.1) := e_itm (n := 0) h (fun a vs F ⟨v, ws, e, h1, h2⟩ => ⟨v, by rw [e]; rfl, h1⟩)
theorem e_it4_1 {f : (α × β × γ × δ → Prop) → Prop} (h : E b G te (rTp K (rCons r0 (rCons r1 (rCons r2 (rOne r3))))) f) : E b G (tOp (rIxT K) te (tC (.int 1))) r1 (fun k => f fun a => k a.2.1) := e_itm (n := 1) h (fun a vs F ⟨v, ws, e, h1, u, us, e2, h2, _⟩ => ⟨u, by rw [e, e2]; rfl, h2⟩)
theorem e_it4_2 {f : (α × β × γ × δ → Prop) → Prop} (h : E b G te (rTp K (rCons r0 (rCons r1 (rCons r2 (rOne r3))))) f) : E b G (tOp (rIxT K) te (tC (.int 2))) r2 (fun k => f fun a => k a.2.2.1) := e_itm (n := 2) h (fun a vs F ⟨v, ws, e, h1, u, us, e2, h2, t, ts, e3, h3, _⟩ => ⟨t, by rw [e, e2, e3]; rfl, h3⟩)
theorem e_it4_3 {f : (α × β × γ × δ → Prop) → Prop} (h : E b G te (rTp K (rCons r0 (rCons r1 (rCons r2 (rOne r3))))) f) : E b G (tOp (rIxT K) te (tC (.int 3))) r3 (fun k => f fun a => k a.2.2.2) := e_itm (n := 3) h (fun a vs F ⟨v, ws, e, h1, u, us, e2, h2, t, ts, e3, h3, s, e4, h4⟩ => ⟨s, by rw [e, e2, e3, e4]; rfl, h4⟩)
end
/-- a written text in a tuple -/
def rLit (z : Str) : R Unit := ⟨fun _ v _ => v = .str z, fun _ h => h⟩
theorem e_lit {z : Str} : E b G (tC (.str z)) (rLit z) (fun k => k ()) := fun _ _ _ _ k V q w => w () _ _ _ q (.refl V.fh _) V rfl
end
end Mi
/-! Mir6 -/
set_option Elab.async false
set_option linter.all false
set_option maxRecDepth 100000
set_option maxHeartbeats 4000000
namespace Mi
open PySem PySem.Spec L2 Dh
open _root_.Evl (Ex)
section
variable {K : PySem.W.Frag} {b : Bs} {G : List Sl} {α β γ δ τ τ' ρ ε : Type} {Gn : τ → List Sl} {Gl : ε → List Sl} {ro : ρ → V → Hp → Hp → Prop} {σ : L2.St} {F H F' H' : Hp}
/-! ### an own thing as the first parameter, as it was behind the call -/
def CAt (c : C γ) (y : γ) (F H : Hp) (p : Addr) : Prop := ∃ u, H p = some u ∧ c.h y u F
def spR (c : C γ) (s : RI α) (r : R β) (g : γ → α → (β → Prop) → Prop) : Sp := fun vs H Q _ => ∃ (p : Addr) (ws : List V) (y : γ) (x : α) (F : Hp) (k : β → Prop), vs = .ref p :: ws ∧ F p = none ∧ CAt c y F H p ∧ Ex F H ∧ s.h x ws F ∧ g y x k ∧
  ∀ z v F' H', k z → After F H [p] F' H' → CAt c y F' H' p → r.h z v F' → Q v H'
theorem spR_len {c : C γ} {s : RI α} {r : R β} {g : γ → α → (β → Prop) → Prop} {vs : List V} {Q : VK} {Ek : XK} (h : spR c s r g vs H Q Ek) : vs.length = s.n + 1 := by
  obtain ⟨p, ws, y, x, F, k, rfl, _, _, _, hs, _⟩ := h; rw [List.length_cons, s.ln hs]
theorem Env.cAt {c : C γ} {y : γ} {i : Nat} {p : Addr} (V : Env b G σ F H) (hi : G[i]? = some (own p c y)) : F p = none ∧ CAt c y F H p := by
  obtain ⟨o, h1, _, u, h2, h3⟩ := V.hold.at_ hi
  exact ⟨(V.on p (mem_owns hi List.mem_cons_self)).1, u, h2, h3⟩
theorem Env.cNew {c : C γ} {c' : C δ} {y : γ} {y' : δ} {i : Nat} {p : Addr} (V : Env b G σ F H) (hi : G[i]? = some (own p c y)) (A : After F H [p] F' H') (B : CAt c' y' F' H' p) : Env b (G.set i (own p c' y')) σ F' H' := by
  obtain ⟨o, h1, rfl, _⟩ := V.hold.at_ hi
  have hp : p ∈ owns G := mem_owns hi List.mem_cons_self
  obtain ⟨u, h2, h3⟩ := B
  have e : owns (G.set i (own p c' y')) = owns G := owns_same hi rfl
  exact V.step0 A (fun q hq => by rw [List.mem_singleton.mp hq]; exact hp) (fun q hq => by rw [← e]; exact hq) (by rw [e]; exact V.nd)
    (V.hold.mut V.nd hi h1 List.mem_cons_self A.ff (fun q u ne hq => A.hh q u (fun z => ne (List.mem_singleton.mp z)) hq) (show _ ∧ _ from ⟨rfl, _, h2, h3⟩))
theorem e_callR {c : C γ} {y : γ} {i : Nat} {p : Addr} {s : RI α} {r : R β} {g : γ → α → (β → Prop) → Prop} {Ek : XK} {ta : TA} {f : (α → Prop) → Prop} (hi : G[i]? = some (own p c y)) (h : Ar b G ta s f) :
    E b G (tCall (spR c s r g) [] Ek (tCons (tVar i) ta)) r (fun k => f fun x => g y x k) := fun σ F H Q k V q w => by
  obtain ⟨o, h1, rfl, _⟩ := V.hold.at_ hi
  refine ⟨.ref p, h1, ?_⟩
  refine h _ V q ?_
  intro x vs F1 H1 q1 A1 V1 r1
  show spR c s r g ((.ref p :: vs) ++ []) H1 _ _
  rw [List.append_nil]
  obtain ⟨f1, B1⟩ := V1.cAt hi
  have hp : p ∈ owns G := mem_owns hi List.mem_cons_self
  refine ⟨p, vs, y, x, F1, k, rfl, f1, B1, V1.fh, r1, q1, fun z v F2 H2 q2 A2 B2 r2 => w z v F2 H2 q2 (A1.trans (A2.mono fun q hq => by rw [List.mem_singleton.mp hq]; exact hp)) ?_ r2⟩
  have := V1.cNew hi A2 B2
  rw [set_self hi] at this; exact this
/-- o.m(..), nothing changed -/
theorem e_methR {c : C γ} {y : γ} {i : Nat} {p Cl : Addr} {m : Str} {s : RI α} {r : R β} {g : γ → α → (β → Prop) → Prop} {Ek : XK} {ta : TA} {f : (α → Prop) → Prop} (hi : G[i]? = some (own p c y)) (hc : ∀ y u F, c.h y u F → ∃ dx fs, u = .ins Cl dx fs ∧ fs.lookup m = none) (h : Ar b G ta s f) :
    E b G (tMeth Cl m (spR c s r g) [] Ek (tVar i) ta) r (fun k => f fun x => g y x k) := fun σ F H Q k V q w => by
  obtain ⟨o, h1, rfl, u, hu, hcu⟩ := V.hold.at_ hi
  obtain ⟨dx, fs, rfl, hl⟩ := hc _ _ _ hcu
  refine ⟨.ref p, h1, p, dx, fs, rfl, hu, hl, ?_⟩
  refine h _ V q ?_
  intro x vs F1 H1 q1 A1 V1 r1
  show spR c s r g (.ref p :: (vs ++ [])) H1 _ _
  rw [List.append_nil]
  obtain ⟨f1, B1⟩ := V1.cAt hi
  have hp : p ∈ owns G := mem_owns hi List.mem_cons_self
  refine ⟨p, vs, y, x, F1, k, rfl, f1, B1, V1.fh, r1, q1, fun z v F2 H2 q2 A2 B2 r2 => w z v F2 H2 q2 (A1.trans (A2.mono fun q hq => by rw [List.mem_singleton.mp hq]; exact hp)) ?_ r2⟩
  have := V1.cNew hi A2 B2
  rw [set_self hi] at this; exact this
theorem run_R {c : C γ} {s : RI α} {r : R β} {g : γ → α → (β → Prop) → Prop} {N : List Str} {m : Nat} {t : TS} {vs : List V} {Q : VK} {Ek : XK} {Gn : Bs → Addr → γ → α → τ → List Sl} {f : γ → α → Pd τ Unit β → Prop} (h : spR c s r g vs H Q Ek) (hN : N.length = s.n + 1 + m)
    (hS : ∀ b p y x, b.M = [p] → S b (own p c y :: (s.sl x ++ List.replicate m any)) t (Gn b p y x) (fun _ : Unit => []) (fun z v F H => CAt c y F H p ∧ r.h z v F) (f y x)) (hg : ∀ y x k, g y x k → f y x ⟨fun _ => False, fun _ => False, fun _ => False, k⟩) :
    t { nx := fun _ H' => Q .non H', rt := Q } (L2.start N vs) H := by
  obtain ⟨p, ws, y, x, F, k, rfl, fp, ⟨u, hb, hbl⟩, e, hs, q, w⟩ := h
  have hl := s.ln hs
  refine S.go (hS ⟨F, H, [p], fun q hq => by rw [List.mem_singleton.mp hq, hb]; exact fun z => nomatch z⟩ p y x rfl) (L2.start N (.ref p :: ws)) F H _ ⟨fun _ => False, fun _ => False, fun _ => False, k⟩ ?_ (hg y x k q) (fun _ _ _ _ h => h.elim) (fun _ _ _ _ h => h.elim) (fun _ _ _ _ h => h.elim) (fun z v F' H' hk A (hr : CAt c y F' H' p ∧ r.h z v F') => w z v F' H' hk A hr.1 hr.2)
  have ow : owns (own p c y :: (s.sl x ++ List.replicate m any)) = [p] := by
    show [p] ++ owns _ = _
    rw [owns_app, s.no, owns_any]; rfl
  refine ⟨Ex.refl _, e, fun _ _ _ h => h, fun _ h => h, fun _ h _ => h, ?_, by rw [ow]; simp, fun q hq => ?_⟩
  · unfold L2.start
    have : N.length - (V.ref p :: ws).length = m := by rw [List.length_cons]; omega
    rw [this]
    exact .cons (show _ ∧ _ from ⟨rfl, _, hb, hbl⟩) (paired_app' (s.hs hs) holds_any)
  · rw [ow] at hq
    cases List.mem_singleton.mp hq
    exact ⟨fp, .inl List.mem_cons_self⟩
theorem s_retR {te : TE} {r : R α} {f : (α → Prop) → Prop} {i : Nat} {p : Addr} {c : C γ} {y : γ} (hi : G[i]? = some (own p c y)) (h : E b G te r f) : S b G (tRet te) Gn Gl (fun z v F H => CAt c y F H p ∧ r.h z v F) (fun d => f d.rt) :=
  s_ret (g := fun a => a) h fun a v σ F H V hr => ⟨(V.cAt hi).2, hr⟩
/-! ### a bag and an own list -/
def spBL (rl : R γ) (r : R β) (g : List γ → (β × List γ → Prop) → Prop) : Sp := fun vs H Q _ => ∃ (p q : Addr) (us : List γ) (F : Hp) (k : β × List γ → Prop), vs = [.ref p, .ref q] ∧ p ≠ q ∧ F p = none ∧ F q = none ∧ BgAt F H p ∧ CAt (cLst rl) us F H q ∧ Ex F H ∧ g us k ∧
  ∀ y v F' H', k y → After F H [p, q] F' H' → BgAt F' H' p → CAt (cLst rl) y.2 F' H' q → r.h y.1 v F' → Q v H'
theorem s_dropBL {rl : R γ} {r : R β} {g : List γ → (β × List γ → Prop) → Prop} {Ek : XK} {i j : Nat} {p q : Addr} {us : List γ} (hi : G[i]? = some (own p cBag ())) (hj : G[j]? = some (own q (cLst rl) us)) (ij : i ≠ j) :
    S b G (tDrop (tCall (spBL rl r g) [] Ek (tCons (tVar i) (tCons (tVar j) tNil)))) (fun y : β × List γ => G.set j (own q (cLst rl) y.2)) Gl ro (fun d => g us d.nx) := fun σ F H D d V hq w1 _ _ _ => by
  obtain ⟨o, h1, rfl, _⟩ := V.hold.at_ hi
  obtain ⟨o, h2, rfl, _⟩ := V.hold.at_ hj
  obtain ⟨fp, Bp⟩ := V.bagAt hi
  obtain ⟨fq, Bq⟩ := V.cAt hj
  have pq : p ≠ q := fun z => owns_disj hi hj ij V.nd List.mem_cons_self (by rw [z]; exact List.mem_cons_self)
  refine ⟨.ref p, h1, .ref q, h2, ?_⟩
  refine ⟨p, q, us, F, d.nx, rfl, pq, fp, fq, Bp, Bq, V.fh, hq, fun y v F2 H2 k2 A B1 B2 _ => w1 y _ F2 H2 k2 A.ff ?_⟩
  have hp := mem_owns hi List.mem_cons_self
  have hq' := mem_owns hj List.mem_cons_self
  have e : owns (G.set j (own q (cLst rl) y.2)) = owns G := owns_same hj rfl
  obtain ⟨l, b1, b2⟩ := B1
  obtain ⟨u, c1, c2⟩ := B2
  refine V.step0 A (fun x hx => ?_) (fun x hx => by rw [← e]; exact hx) (by rw [e]; exact V.nd) (Holds.of (by rw [List.length_set]; exact V.hold.len) fun m t o m1 m2 => ?_)
  · rcases List.mem_cons.mp hx with z | z
    · rw [z]; exact hp
    · rw [List.mem_singleton.mp z]; exact hq'
  · by_cases z : j = m
    · subst z
      rw [List.getElem?_set_self (List.getElem?_eq_some_iff.mp hj).1] at m1
      cases m1
      rw [h2] at m2; cases m2
      exact ⟨rfl, u, c1, c2⟩
    · rw [List.getElem?_set_ne z] at m1
      by_cases z2 : i = m
      · subst z2
        rw [hi] at m1; cases m1
        rw [h1] at m2; cases m2
        exact ⟨rfl, _, b1, l, rfl, b2⟩
      · obtain ⟨o', h3, h4⟩ := V.hold.at_ m1
        rw [m2] at h3; cases h3
        refine t.up A.ff (fun x hx u hu => A.hh x u (fun zz => ?_) hu) h4
        rcases List.mem_cons.mp zz with e1 | e1
        · exact owns_disj hi m1 z2 V.nd List.mem_cons_self (e1 ▸ hx)
        · rw [List.mem_singleton.mp e1] at hx
          exact owns_disj hj m1 z V.nd List.mem_cons_self hx
/-! ### records: dicts with written keys -/
structure RK (α : Type) where
  h : α → List (Key × V) → Hp → Prop
  ex : ∀ {a v F F'}, Ex F F' → h a v F → h a v F'
  ks : List Str
  kk : ∀ {a v F}, h a v F → v.map (·.1) = ks.map Sum.inr
def kOne (n : Str) (r : R α) : RK α := ⟨fun a kvs F => ∃ v, kvs = [(.inr n, v)] ∧ r.h a v F, fun e ⟨v, h1, h2⟩ => ⟨v, h1, r.ex e h2⟩, [n], fun ⟨v, h, _⟩ => by rw [h]; rfl⟩
def kCons (n : Str) (r : R α) (s : RK β) : RK (α × β) := ⟨fun a kvs F => ∃ v ws, kvs = (.inr n, v) :: ws ∧ r.h a.1 v F ∧ s.h a.2 ws F, fun e ⟨v, ws, h1, h2, h3⟩ => ⟨v, ws, h1, r.ex e h2, s.ex e h3⟩, n :: s.ks, fun ⟨v, ws, h, _, h2⟩ => by rw [h, List.map_cons, s.kk h2]; rfl⟩
def rRec (s : RK α) : R α := ⟨fun a v F => ∃ p kvs, v = .ref p ∧ F p = some (.dK kvs) ∧ s.h a kvs F, fun e ⟨p, kvs, h1, h2, h3⟩ => ⟨p, kvs, h1, e _ _ h2, s.ex e h3⟩⟩
def RkAt (s : RK α) (n : Str) (r : R β) (g : α → β) : Prop := ∀ a kvs F, s.h a kvs F → ∃ v, valV kvs (Sum.inr n : Key) = some v ∧ r.h (g a) v F
theorem rk_one {n : Str} {r : R α} : RkAt (kOne n r) n r (fun a => a) := fun a kvs F ⟨v, e, h⟩ => ⟨v, by rw [e]; exact valV_pos rfl, h⟩
theorem rk_hd {n : Str} {r : R α} {s : RK β} : RkAt (kCons n r s) n r (fun a => a.1) := fun a kvs F ⟨v, ws, e, h, _⟩ => ⟨v, by rw [e]; exact valV_pos rfl, h⟩
theorem rk_tl {n m : Str} {r : R α} {s : RK β} {rr : R γ} {g : β → γ} (ne : (n == m) = false) (h : RkAt s m rr g) : RkAt (kCons n r s) m rr (fun a => g a.2) := fun a kvs F ⟨v, ws, e, _, h2⟩ => by
  obtain ⟨u, h3, h4⟩ := h a.2 ws F h2
  refine ⟨u, ?_, h4⟩
  rw [e, valV_neg (fun z => ?_)]
  · exact h3
  · have z : (Sum.inr n : Key) = Sum.inr m := z
    rw [Sum.inr.inj z, beq_self_eq_true] at ne; cases ne
theorem e_rec {s : RK α} {n : Str} {r : R β} {g : α → β} {te : TE} {f : (α → Prop) → Prop} (h : E b G te (rRec s) f) (hn : RkAt s n r g) : E b G (tDGet te (tC (.str n))) r (fun k => f fun a => k (g a)) := fun _ _ _ _ k V q w => by
  refine h _ V q ?_
  rintro a v F1 H1 q1 A1 V1 ⟨p, kvs, rfl, hp, hs⟩
  obtain ⟨u, h1, h2⟩ := hn a kvs F1 hs
  exact ⟨p, u, rfl, by rw [← h1]; exact DGet.k (k := Sum.inr n) (V1.fh _ _ hp), w _ u F1 H1 q1 A1 V1 h2⟩
/-- the pairs of a display -/
def Prs (b : Bs) (G : List Sl) (ts : List (TE × TE)) (s : RK α) (f : (α → Prop) → Prop) : Prop := ∀ ⦃σ : L2.St⦄ ⦃F H : Hp⦄ ⦃Q : List (V × V) → Hp → Prop⦄ (k : α → Prop), Env b G σ F H → f k →
  (∀ a ps F' H', k a → After F H (owns G) F' H' → Env b G σ F' H' → (∃ kvs : List (Key × V), ps = kvs.map (fun kv => (kV kv.1, kv.2)) ∧ s.h a kvs F') → Q ps H') → tPairs ts σ H Q
theorem prs_one {n : Str} {r : R α} {te : TE} {f : (α → Prop) → Prop} (h : E b G te r f) : Prs b G [(tC (.str n), te)] (kOne n r) f := fun _ _ _ _ k V q w => by
  refine h _ V q ?_
  intro a v F1 H1 q1 A1 V1 r1
  exact w a _ F1 H1 q1 A1 V1 ⟨[(.inr n, v)], rfl, v, rfl, r1⟩
theorem prs_cons {n : Str} {r : R α} {s : RK β} {te : TE} {ts : List (TE × TE)} {f : (α → Prop) → Prop} {g : (β → Prop) → Prop} (h : E b G te r f) (h2 : Prs b G ts s g) : Prs b G ((tC (.str n), te) :: ts) (kCons n r s) (fun k => f fun x => g fun y => k (x, y)) := fun _ _ _ _ k V q w => by
  refine h _ V q ?_
  intro a v F1 H1 q1 A1 V1 r1
  refine h2 _ V1 q1 ?_
  rintro y ps F2 H2 q2 A2 V2 ⟨kvs, rfl, hs⟩
  exact w (a, y) _ F2 H2 q2 (A1.trans A2) V2 ⟨(.inr n, v) :: kvs, rfl, v, kvs, rfl, r.ex A2.ff r1, hs⟩
theorem merge_new : ∀ {more kvs : List (Key × V)}, (more.map (·.1)).Nodup → (∀ p ∈ more, ∀ q ∈ kvs, p.1 ≠ q.1) → mergeK kvs more = kvs ++ more
  | [], kvs, _, _ => by unfold mergeK; simp
  | p :: more, kvs, nd, h => by
    have nd' := List.nodup_cons.mp (by simpa using nd : (p.1 :: more.map (·.1)).Nodup)
    show mergeK (putK kvs p.1 p.2) more = _
    have e : putK kvs p.1 p.2 = kvs ++ [p] := by
      unfold putK
      rw [if_neg]
      intro z
      obtain ⟨q, hq, e⟩ := List.any_eq_true.mp z
      exact h p List.mem_cons_self q hq (of_decide_eq_true e).symm
    rw [e, merge_new nd'.2 fun a ha q hq => ?_, List.append_assoc]
    · rfl
    · rcases List.mem_append.mp hq with z | z
      · exact h a (List.mem_cons_of_mem _ ha) q z
      · rw [List.mem_singleton.mp z]
        intro e
        exact nd'.1 (e ▸ List.mem_map_of_mem (f := (·.1)) ha)
theorem nodup_inr : ∀ {l : List Str}, l.Nodup → (l.map (Sum.inr : Str → Key)).Nodup
  | [], _ => List.nodup_nil
  | x :: l, h => by
    have h' := List.nodup_cons.mp h
    rw [List.map_cons]
    refine List.nodup_cons.mpr ⟨fun z => ?_, nodup_inr h'.2⟩
    obtain ⟨y, hy, e⟩ := List.mem_map.mp z
    rw [Sum.inr.inj e] at hy
    exact h'.1 hy
theorem e_disp {s : RK α} {ts : List (TE × TE)} {f : (α → Prop) → Prop} (h : Prs b G ts s f) (nd : s.ks.Nodup) (l : s.ks.length ≤ 15) : E b G (tDisp ts) (rRec s) f := fun σ F H Q k V q w p hp => by
  have B := After.fresh (o := .dK []) V.fh hp []
  have V1 := V.step B
  have nO : p ∉ owns G := fun z => V.hold.live p z hp
  have fp : F p = none := ex_none V.fh hp
  refine h _ V1 q ?_
  rintro a ps F2 H2 q2 A2 V2 ⟨kvs, rfl, hs⟩
  have hp2 : H2 p = some (.dK []) := A2.hh p _ nO upd_same
  have fp2 : F2 p = none := A2.nf p fp (by rw [upd_same]; exact fun z => nomatch z)
  have hb : b.H p = none := by
    cases e : b.H p with
    | none => rfl
    | some u => exact absurd hp (V.kp p (by rw [e]; exact fun z => nomatch z))
  have V3 : Env b G σ F2 (upd H2 p (.dK kvs)) := V2.poke nO fp2 hb
  have A3 : After F H (owns G) F2 (upd H2 p (.dK kvs)) := by
    have A' := (B.mono (M' := owns G) fun _ h => nomatch h).trans A2
    have n1 : ∀ {x : Addr}, H x ≠ none → x ≠ p := fun h z => h (by rw [z]; exact hp)
    exact ⟨A'.ff, ex_mut fp2 A'.fh, fun x o hm hx => by rw [upd_ne (n1 (by rw [hx]; exact fun z => nomatch z))]; exact A'.hh x o hm hx, fun x hx => by rw [upd_ne (n1 hx)]; exact A'.kp x hx, A'.nf⟩
  have e : mergeK [] kvs = kvs := by
    rw [merge_new (by rw [s.kk hs]; exact nodup_inr nd) (fun _ _ q hq => absurd hq (by simp))]; rfl
  have ln : kvs.length ≤ 15 := by
    have := congrArg List.length (s.kk hs)
    rw [List.length_map, List.length_map] at this
    omega
  refine ⟨hp2, kvs, rfl, ln, ?_⟩
  rw [e]
  obtain ⟨A4, V4⟩ := thaw V A3 V3 hp fp2 upd_same
  exact w a _ _ _ q2 A4 V4 ⟨p, kvs, rfl, upd_same, s.ex (Ex.new fp2) hs⟩
/-! ### a list of own lists -/
abbrev LLs (r : R α) (F H : Hp) : List Addr → List (List α) → Prop := Paired fun q xs => ∃ vs, H q = some (.lst vs) ∧ All r F xs vs
theorem LLs.up {r : R α} {F H F' H' : Hp} (e : Ex F F') {qs : List Addr} {xss : List (List α)} (h : LLs r F H qs xss) : (∀ q ∈ qs, ∀ u, H q = some u → H' q = some u) → LLs r F' H' qs xss := by
  induction h with
  | nil => intro _; exact .nil
  | cons r t ih =>
    intro k
    obtain ⟨vs, h4, h5⟩ := r
    exact .cons ⟨vs, k _ List.mem_cons_self _ h4, h5.ex e⟩ (ih fun q hq => k q (List.mem_cons_of_mem _ hq))
theorem LLs.lv {r : R α} {F H : Hp} {qs : List Addr} {xss : List (List α)} (h : LLs r F H qs xss) : ∀ q ∈ qs, H q ≠ none := by
  induction h with
  | nil => intro q hq; nomatch hq
  | cons r t ih =>
    intro q hq
    rcases List.mem_cons.mp hq with e | e
    · obtain ⟨vs, h4, _⟩ := r
      rw [e, h4]; exact fun z => nomatch z
    · exact ih q e
def ownL (p : Addr) (qs : List Addr) (r : R α) (xss : List (List α)) : Sl where
  h := fun o F H => o = some (.ref p) ∧ H p = some (.lst (qs.map V.ref)) ∧ LLs r F H qs xss
  ow := p :: qs
  up := fun e k ⟨h1, h2, h3⟩ => ⟨h1, k p List.mem_cons_self _ h2, h3.up e fun q hq => k q (List.mem_cons_of_mem _ hq)⟩
  lv := fun ⟨_, h2, h3⟩ q hq => by
    rcases List.mem_cons.mp hq with z | z
    · rw [z, h2]; exact fun z => nomatch z
    · exact h3.lv q z
end
end Mi
/-! Mir7 -/
set_option Elab.async false
set_option linter.all false
set_option maxRecDepth 100000
set_option maxHeartbeats 4000000
namespace Mi
open PySem PySem.Spec L2 Dh
open _root_.Evl (Ex)
section
variable {K : PySem.W.Frag} {b : Bs} {G : List Sl} {α β γ δ τ τ' ρ ε : Type} {Gn : τ → List Sl} {Gl : ε → List Sl} {ro : ρ → V → Hp → Hp → Prop} {σ : L2.St} {F H F' H' : Hp}
/-- a view: all that a slot owns is frozen -/
def fz (F H : Hp) (ow : List Addr) : Hp := fun a => if a ∈ ow then H a else F a
theorem fz_in {ow : List Addr} {a : Addr} (h : a ∈ ow) : fz F H ow a = H a := if_pos h
theorem fz_out {ow : List Addr} {a : Addr} (h : a ∉ ow) : fz F H ow a = F a := if_neg h
theorem Env.frzS {i : Nat} {s s' : Sl} (V : Env b G σ F H) (hi : G[i]? = some s) (hm : ∀ p ∈ s.ow, p ∉ b.M) (h0 : s'.ow = []) (hs : ∀ o, s.h o F H → Ex F (fz F H s.ow) → s'.h o (fz F H s.ow) H) : Ex F (fz F H s.ow) ∧ Env b (G.set i s') σ (fz F H s.ow) H := by
  have own : ∀ p ∈ s.ow, F p = none ∧ b.H p = none := fun p hp => ⟨(V.on p (mem_owns hi hp)).1, (V.on p (mem_owns hi hp)).2.resolve_left (hm p hp)⟩
  have e : Ex F (fz F H s.ow) := fun a o h => by
    by_cases z : a ∈ s.ow
    · rw [(own a z).1] at h; cases h
    · rw [fz_out z]; exact h
  refine ⟨e, V.ff.trans e, fun a o h => ?_, V.hh, V.kp, fun a h1 h2 => ?_, ?_, V.nd.sublist (owns_set h0), fun q hq => ?_⟩
  · by_cases z : a ∈ s.ow
    · rw [fz_in z] at h; exact h
    · rw [fz_out z] at h; exact V.fh _ _ h
  · rw [fz_out (fun z => h2 (own a z).2)]; exact V.nf a h1 h2
  · refine Holds.of (by rw [List.length_set]; exact V.hold.len) fun j t o h1 h2 => ?_
    by_cases z : i = j
    · subst z
      rw [List.getElem?_set_self (List.getElem?_eq_some_iff.mp hi).1] at h1
      cases h1
      obtain ⟨o', h3, h4⟩ := V.hold.at_ hi
      rw [h2] at h3; cases h3
      exact hs o h4 e
    · rw [List.getElem?_set_ne z] at h1
      obtain ⟨o', h3, h4⟩ := V.hold.at_ h1
      rw [h2] at h3; cases h3
      exact t.up e (fun _ _ _ h => h) h4
  · have hq' := (owns_set (s := s') h0).subset hq
    rw [fz_out fun z => ?_]
    · exact V.on q hq'
    · obtain ⟨j, t, h3, h4⟩ := owns_inv hq
      by_cases zz : i = j
      · subst zz
        rw [List.getElem?_set_self (List.getElem?_eq_some_iff.mp hi).1] at h3
        cases h3
        rw [h0] at h4; nomatch h4
      · rw [List.getElem?_set_ne zz] at h3
        exact owns_disj hi h3 zz V.nd z h4
theorem LLs.frz {r : R α} {ow : List Addr} {qs : List Addr} {xss : List (List α)} (h : LLs r F H qs xss) (e : Ex F (fz F H ow)) : (∀ q ∈ qs, q ∈ ow) → All (rLst r) (fz F H ow) xss (qs.map V.ref) := by
  induction h with
  | nil => intro _; exact .nil
  | @cons q xs qs xss r t ih =>
    intro k
    obtain ⟨vs, h4, h5⟩ := r
    exact .cons ⟨q, vs, rfl, by rw [fz_in (k _ List.mem_cons_self)]; exact h4, h5.ex e⟩ (ih fun q hq => k q (List.mem_cons_of_mem _ hq))
theorem s_frzLL {t : TS} {i : Nat} {p : Addr} {qs : List Addr} {xss : List (List α)} {r : R α} {f : Pd τ ε ρ → Prop} (hi : G[i]? = some (ownL p qs r xss)) (hm : ∀ q ∈ p :: qs, q ∉ b.M) (h : S b (G.set i (val (rLst (rLst r)) xss)) t Gn Gl ro f) : S b G t Gn Gl ro f := fun _ _ _ _ d V q w1 w2 w3 w4 => by
  obtain ⟨e, V'⟩ := V.frzS (s' := val (rLst (rLst r)) xss) hi hm rfl (fun o ⟨h1, h2, h3⟩ e => ⟨.ref p, h1, p, _, rfl, (fz_in (ow := p :: qs) List.mem_cons_self).trans h2, h3.frz e fun q hq => List.mem_cons_of_mem _ hq⟩)
  exact h d V' q (fun y σ2 F2 H2 q2 e2 => w1 y σ2 F2 H2 q2 (e.trans e2)) (fun y σ2 F2 H2 q2 e2 => w2 y σ2 F2 H2 q2 (e.trans e2)) (fun y σ2 F2 H2 q2 e2 => w3 y σ2 F2 H2 q2 (e.trans e2)) w4
theorem LLs.get {r : R α} {qs : List Addr} {xss : List (List α)} (h : LLs r F H qs xss) {n : Nat} {xs : List α} (e : xss[n]? = some xs) : ∃ q vs, qs[n]? = some q ∧ H q = some (.lst vs) ∧ All r F xs vs := by
  induction h generalizing n with
  | nil => simp at e
  | cons r t ih =>
    cases n with
    | zero =>
      simp at e; subst e
      obtain ⟨vs, h1, h2⟩ := r
      exact ⟨_, vs, rfl, h1, h2⟩
    | succ n =>
      obtain ⟨q, vs, h1, h2, h3⟩ := ih (n := n) (by simpa using e)
      exact ⟨q, vs, by simpa using h1, h2, h3⟩
theorem LLs.set {r : R α} {qs : List Addr} {xss : List (List α)} (h : LLs r F H qs xss) (nd : qs.Nodup) {n : Nat} {q : Addr} {vs : List V} {xs : List α} (hq : qs[n]? = some q) (A : All r F xs vs) : LLs r F (upd H q (.lst vs)) qs (xss.set n xs) := by
  induction h generalizing n with
  | nil => exact .nil
  | @cons q0 xs0 qs xss r t ih =>
    have nd' := List.nodup_cons.mp nd
    cases n with
    | zero =>
      simp at hq; subst hq
      exact .cons ⟨vs, upd_same, A⟩ (LLs.up (Ex.refl _) t fun a ha u hu => by
        have ne : a ≠ q0 := fun z => nd'.1 (by rw [← z]; exact ha)
        rw [upd_ne ne]; exact hu)
    | succ n =>
      have hq : qs[n]? = some q := by simpa using hq
      obtain ⟨ws, h1, h2⟩ := r
      have ne : q0 ≠ q := fun z => nd'.1 (by rw [z]; exact List.mem_of_getElem? hq)
      exact .cons ⟨ws, by rw [upd_ne ne]; exact h1, h2⟩ (ih nd'.2 hq)
theorem owns_nd : ∀ {G : List Sl} {i : Nat} {s : Sl}, G[i]? = some s → (owns G).Nodup → s.ow.Nodup
  | [], _, _, e, _ => by simp at e
  | x :: g, 0, s, e, h => by simp at e; subst e; exact (List.nodup_append.mp h).1
  | x :: g, i + 1, s, e, h => owns_nd (i := i) (by simpa using e) (List.nodup_append.mp h).2.1
/-- xss[j].append(e) -/
theorem s_appLL {i : Nat} {p : Addr} {qs : List Addr} {tj te : TE} {r : R α} {xss : List (List α)} {f : (Int → Prop) → Prop} {g : (α → Prop) → Prop} (hi : G[i]? = some (ownL p qs r xss)) (hj : E b G tj rInt f) (h : E b G te r g) :
    S b G (tDrop (tBM K "list" rAppend (tOp (rIxL K) (tVar i) tj) (tCons te tNil))) (fun y : Nat × List α => G.set i (ownL p qs r (xss.set y.1 y.2))) Gl ro (fun d => f fun j => ∃ n xs, ixN xss.length j = some n ∧ xss[n]? = some xs ∧ g fun a => xs.length < sizeLine ∧ d.nx (n, xs ++ [a])) := fun σ F H D d V q w1 _ _ _ => by
  obtain ⟨o, h1, rfl, _⟩ := V.hold.at_ hi
  refine ⟨.ref p, h1, ?_⟩
  refine hj _ V q ?_
  rintro j v F1 H1 ⟨n, xs, hn, hxs, q1⟩ A1 V1 e
  cases e
  obtain ⟨o, h1', e, h2, h3⟩ := V1.hold.at_ hi
  obtain ⟨qa, vs, k1, k2, k3⟩ := h3.get hxs
  have ln : qs.length = xss.length := Paired.length h3
  refine ⟨p, _, j, .ref qa, rfl, rfl, SqL.of h2, ?_, ty_l k2, ?_⟩
  · unfold atI
    rw [List.length_map, ln, hn]
    show (qs.map L2.V.ref)[n]? = _
    rw [List.getElem?_map, k1]; rfl
  · refine h _ V1 q1 ?_
    intro x v F2 H2 q2 A2 V2 r2
    obtain ⟨o, h1'', e, h2, h3⟩ := V2.hold.at_ hi
    rw [h1] at h1''; cases h1''
    obtain ⟨qb, vs, k1', k2, k3⟩ := h3.get hxs
    rw [k1] at k1'; cases k1'
    have hqa : qa ∈ qs := List.mem_of_getElem? k1
    have hO : ∀ x ∈ p :: qs, x ∈ owns G := fun x hx => mem_owns hi hx
    have ndl : (p :: qs).Nodup := owns_nd hi V2.nd
    have nd' := List.nodup_cons.mp ndl
    refine ⟨qa, vs, v, rfl, rfl, k2, by rw [k3.len]; exact q2.1, w1 (n, xs ++ [x]) _ F2 _ q2.2 (A1.ff.trans A2.ff) ?_⟩
    have e : owns (G.set i (ownL p qs r (xss.set n (xs ++ [x])))) = owns G := owns_same hi rfl
    refine V2.step0 (M := [qa]) ⟨Ex.refl _, ex_mut (V2.on qa (hO qa (List.mem_cons_of_mem _ hqa))).1 V2.fh, fun x o hm hx => by rw [upd_ne (fun z => hm (by rw [z]; exact List.mem_cons_self))]; exact hx, fun x hx => ?_, fun _ h _ => h⟩ (fun z hz => by rw [List.mem_singleton.mp hz]; exact hO qa (List.mem_cons_of_mem _ hqa)) (fun z hz => by rw [← e]; exact hz) (by show (owns (G.set i (ownL p qs r (xss.set n (xs ++ [x]))))).Nodup; rw [e]; exact V2.nd) ?_
    · by_cases z : x = qa
      · subst z; rw [upd_same]; exact fun z => nomatch z
      · rw [upd_ne z]; exact hx
    · refine Holds.of (by rw [List.length_set]; exact V2.hold.len) fun m t o m1 m2 => ?_
      by_cases z : i = m
      · subst z
        rw [List.getElem?_set_self (List.getElem?_eq_some_iff.mp hi).1] at m1
        cases m1
        rw [h1] at m2; cases m2
        exact ⟨rfl, by
          have ne : p ≠ qa := fun z => nd'.1 (by rw [z]; exact hqa)
          rw [upd_ne ne]; exact h2, h3.set nd'.2 k1 (Dh.paired_app k3 (.cons r2 .nil))⟩
      · rw [List.getElem?_set_ne z] at m1
        obtain ⟨o', m3, m4⟩ := V2.hold.at_ m1
        rw [m2] at m3; cases m3
        exact t.up (Ex.refl _) (fun a ha u hu => by
          have ne : a ≠ qa := fun zz => owns_disj hi m1 z V2.nd (List.mem_cons_of_mem _ hqa) (by rw [← zz]; exact ha)
          rw [upd_ne ne]; exact hu) m4
/-- [[] for k in range(n)] -/
theorem owns_setL {s : Sl} : ∀ {G : List Sl} {i : Nat}, (∀ q ∈ s.ow, q ∉ owns G) → s.ow.Nodup → (owns G).Nodup → (∀ q ∈ owns (G.set i s), q ∈ s.ow ∨ q ∈ owns G) ∧ (owns (G.set i s)).Nodup
  | [], _, h, _, nd => ⟨fun q h => .inr h, nd⟩
  | x :: g, 0, h, ns, nd => by
    show (∀ q ∈ s.ow ++ owns g, _) ∧ (s.ow ++ owns g).Nodup
    refine ⟨fun q hq => (List.mem_append.mp hq).imp id (List.mem_append_right _), List.nodup_append.mpr ⟨ns, (List.nodup_append.mp nd).2.1, fun a ha c hc e => ?_⟩⟩
    subst e; exact h a ha (List.mem_append_right _ hc)
  | x :: g, i + 1, h, ns, nd => by
    obtain ⟨n1, n2, n3⟩ := List.nodup_append.mp nd
    obtain ⟨h1, h2⟩ := owns_setL (G := g) (i := i) (fun q hq z => h q hq (List.mem_append_right _ z)) ns n2
    refine ⟨fun q hq => ?_, List.nodup_append.mpr ⟨n1, h2, fun a ha c hc e => ?_⟩⟩
    · rcases List.mem_append.mp hq with z | z
      · exact .inr (List.mem_append_left _ z)
      · exact (h1 q z).imp id (List.mem_append_right _)
    · subst e
      rcases h1 a hc with z | z
      · exact h a z (List.mem_append_left _ ha)
      · exact n3 a ha a z rfl
theorem s_newLL {ta : TA} {i j : Nat} {r : R α} {f : (Int → Prop) → Prop} {g : Int → Pd τ ε ρ → Prop} {t : TS} (h : Ar b G ta (rOne rInt) f) (ht : ∀ (p : Addr) (qs : List Addr) n, (∀ q ∈ p :: qs, q ∉ b.M) → S b (G.set i (ownL p qs r (List.replicate n.toNat []))) t Gn Gl ro (g n)) :
    S b G (tSeq (tAsg (tLc (iRng1 ta) (gName j) tYes (tLst tNil) [j]) (gName i)) t) Gn Gl ro (fun d => f fun n => (-(2 ^ 62) ≤ n ∧ n < 2 ^ 62) ∧ n.toNat ≤ sizeLine ∧ g n d) := fun σ F H D d V q w1 w2 w3 w4 => by
  refine h _ V q ?_
  rintro n vs F1 H1 ⟨hb, hl, q1⟩ A1 V1 ⟨v, e, hv⟩
  cases hv
  subst e
  refine ⟨n, rfl, hb.1, hb.2, ?_⟩
  show RawC (Itr 0 n.toNat) (gName j) tYes (tLst tNil) [j] σ H1 (fun x H2 => t D (σ.set i (some x)) H2)
  refine raw_c walk_range fun Dl hD => ?_
  have hD0 : upd H1 Dl (.lst []) Dl = some (.lst []) := upd_same
  refine ⟨fun i H2 => ∃ qs : List Addr, qs.length = i ∧ H2 Dl = some (.lst (qs.map L2.V.ref)) ∧ (∀ q ∈ qs, H2 q = some (.lst []) ∧ H1 q = none) ∧ (Dl :: qs).Nodup ∧ (∀ a o, H1 a = some o → H2 a = some o), ⟨[], rfl, upd_same, fun q hq => absurd hq (by simp), by simp, fun a o ha => by rw [upd_ne (ne_of_none ha hD)]; exact ha⟩, fun _ _ _ _ => trivial, fun i x H2 H3 hi ⟨qs, l, h1, h2, nd, h3⟩ y => ?_, fun H2 ⟨qs, l, h1, h2, nd, h3⟩ => ?_⟩
  · obtain ⟨rfl, rfl⟩ := y
    refine ⟨wipe_set _ _ _, ?_⟩
    dsimp only [tYes]
    refine iteT ?_
    refine ⟨Nat.zero_le sizeLine, fun q hq => ?_⟩
    have ne : ∀ a ∈ Dl :: qs, a ≠ q := fun a ha z => by
      subst z
      rcases List.mem_cons.mp ha with e | e
      · rw [← e] at h1; rw [h1] at hq; cases hq
      · rw [(h2 a e).1] at hq; cases hq
    have nD := ne Dl List.mem_cons_self
    refine ⟨qs.map L2.V.ref, by rw [upd_ne nD]; exact h1, by rw [List.length_map]; omega, qs ++ [q], by simp [l], by rw [upd_same]; simp, fun a ha => ?_, ?_, fun a o ha => ?_⟩
    · rcases List.mem_append.mp ha with e | e
      · have n1 : a ≠ Dl := fun z => (List.nodup_cons.mp nd).1 (by rw [← z]; exact e)
        rw [upd_ne n1, upd_ne (ne a (List.mem_cons_of_mem _ e))]
        exact h2 a e
      · have e : a = q := List.mem_singleton.mp e
        rw [e, upd_ne nD.symm, upd_same]
        refine ⟨rfl, ?_⟩
        cases z : H1 q with
        | none => rfl
        | some u => rw [h3 q u z] at hq; cases hq
    · have : (Dl :: (qs ++ [q])) = (Dl :: qs) ++ [q] := rfl
      rw [this]
      exact List.nodup_append.mpr ⟨nd, by simp, fun a ha c hc z => ne a ha (by rw [z, List.mem_singleton.mp hc])⟩
    · have n1 : a ≠ Dl := ne_of_none ha hD
      have n2 : a ≠ q := fun z => by rw [z] at ha; rw [h3 q o ha] at hq; cases hq
      rw [upd_ne n1, upd_ne n2]; exact h3 a o ha
  · have lq : qs.length = n.toNat := l
    have new : ∀ q ∈ Dl :: qs, H1 q = none := fun q hq => by
      rcases List.mem_cons.mp hq with e | e
      · rw [e]; exact hD
      · exact (h2 q e).2
    have hbn : ∀ q ∈ Dl :: qs, b.H q = none := fun q hq => by
      cases e : b.H q with
      | none => rfl
      | some u => exact absurd (new q hq) (V1.kp q (by rw [e]; exact fun z => nomatch z))
    have nO : ∀ q ∈ Dl :: qs, q ∉ owns G := fun q hq z => V1.hold.live q z (new q hq)
    have nM : ∀ q ∈ Dl :: qs, q ∉ b.M := fun q hq z => b.ml q z (hbn q hq)
    have A2 : After F1 H1 [] F1 H2 := ⟨Ex.refl _, fun a o ha => h3 a o (V1.fh a o ha), fun a o _ ha => h3 a o ha, fun a ha => by
      cases z : H1 a with
      | none => exact absurd z ha
      | some u => rw [h3 a u z]; exact (fun z => nomatch z), fun _ h _ => h⟩
    have V2 := V1.step A2
    have e1 := A1.ff
    refine ht Dl qs n nM d ?_ q1 (fun y σ2 F2 H2 q2 e2 => w1 y σ2 F2 H2 q2 (e1.trans e2)) (fun y σ2 F2 H2 q2 e2 => w2 y σ2 F2 H2 q2 (e1.trans e2)) (fun y σ2 F2 H2 q2 e2 => w3 y σ2 F2 H2 q2 (e1.trans e2)) w4
    have LL : LLs r F1 H2 qs (List.replicate n.toNat []) := by
      rw [← lq]
      have k : ∀ q ∈ qs, H2 q = some (.lst []) := fun q hq => (h2 q hq).1
      clear lq l h1 h2 nd new hbn nO nM
      induction qs with
      | nil => exact .nil
      | cons q qs ih => exact .cons ⟨[], k q List.mem_cons_self, .nil⟩ (ih fun a ha => k a (List.mem_cons_of_mem _ ha))
    obtain ⟨o1, o2⟩ := owns_setL (s := ownL Dl qs r (List.replicate n.toNat [])) (G := G) (i := i) nO nd V2.nd
    refine ⟨V2.ff, V2.fh, V2.hh, V2.kp, V2.nf, V2.hold.set (s := ownL Dl qs r _) ⟨rfl, h1, LL⟩, o2, fun q hq => ?_⟩
    rcases o1 q hq with z | z
    · exact ⟨ex_none V1.fh (new q z), .inr (hbn q z)⟩
    · exact V2.on q z
end
end Mi
/-! Mir8 -/
set_option Elab.async false
set_option linter.all false
set_option maxRecDepth 100000
set_option maxHeartbeats 4000000
/-! == and in of data of any depth -/
namespace Mi
open PySem PySem.Spec L2 Dh
open _root_.Evl (Ex)
mutual
theorem dp_ex {K : PySem.W.Frag} {H H' : Hp} (e : Ex H H') : ∀ {v : V} {d : PyData}, Dp K H v d → Dp K H' v d
  | _, _, .non => .non
  | _, _, .bl b => .bl b
  | _, _, .int i => .int i
  | _, _, .str x => .str x
  | _, _, .lst h t => .lst (_root_.Evl.ex_l e h) (dpa_ex e t)
  | _, _, .tup h t => .tup (_root_.Evl.ex_t e h) (dpa_ex e t)
theorem dpa_ex {K : PySem.W.Frag} {H H' : Hp} (e : Ex H H') : ∀ {vs : List V} {ds : List PyData}, DpAll K H vs ds → DpAll K H' vs ds
  | _, _, .nil => .nil
  | _, _, .cons h t => .cons (dp_ex e h) (dpa_ex e t)
end
/-- the data behind a value -/
structure Da (K : PySem.W.Frag) {α : Type} [DecidableEq α] (r : R α) where
  dat : α → PyData
  ok : α → Prop
  n : Nat
  dp : ∀ {a v F}, r.h a v F → Dp K F v (dat a)
  can : ∀ {a}, ok a → (dat a).canLay0 = true
  dep : ∀ a, (dat a).depth ≤ n
  eq : ∀ a c, PyData.eqv (dat a) (dat c) = decide (a = c)
structure DaI (K : PySem.W.Frag) {α : Type} [DecidableEq α] (s : RI α) where
  dat : α → List PyData
  ok : α → Prop
  n : Nat
  dp : ∀ {a vs F}, s.h a vs F → DpAll K F vs (dat a)
  can : ∀ {a}, ok a → PyData.canLayAll0 (dat a) = true
  dep : ∀ a, PyData.depthAll (dat a) ≤ n
  eq : ∀ a c, PyData.eqvAll (dat a) (dat c) = decide (a = c)
section
variable {K : PySem.W.Frag} {α β : Type} [DecidableEq α] [DecidableEq β]
def daInt : Da K rInt := ⟨.int, fun _ => True, 0, fun h => by cases h; exact .int _, fun _ => rfl, fun _ => Nat.le_refl _, fun a c => by show ((a : Int) == c) = _; rw [Bool.beq_eq_decide_eq]⟩
def daBl : Da K rBl := ⟨.bool, fun _ => True, 0, fun h => by cases h; exact .bl _, fun _ => rfl, fun _ => Nat.le_refl _, fun a c => by cases a <;> cases c <;> rfl⟩
def daStr : Da K rStr := ⟨.str, fun x => PyData.strOk x = true, 0, fun h => by cases h; exact .str _, fun h => h, fun _ => Nat.le_refl _, fun a c => by show ((a : Str) == c) = _; rw [Bool.beq_eq_decide_eq]⟩
def daLit {z : Str} (hz : PyData.strOk z = true) : Da K (rLit z) := ⟨fun _ => .str z, fun _ => True, 0, fun h => by cases h; exact .str _, fun _ => hz, fun _ => Nat.le_refl _, fun a c => by
  show ((z : Str) == z) = _
  rw [beq_self_eq_true, decide_eq_true rfl]⟩
theorem dall {r : R α} (d : Da K r) {F : Hp} {xs : List α} {vs : List V} (h : All r F xs vs) : DpAll K F vs (xs.map d.dat) := by
  induction h with
  | nil => exact .nil
  | cons r t ih => exact .cons (d.dp r) ih
theorem eqall {r : R α} (d : Da K r) : ∀ xs ys : List α, PyData.eqvAll (xs.map d.dat) (ys.map d.dat) = decide (xs = ys)
  | [], [] => rfl
  | [], _ :: _ => rfl
  | _ :: _, [] => rfl
  | x :: xs, y :: ys => by
    show (PyData.eqv (d.dat x) (d.dat y) && PyData.eqvAll (xs.map d.dat) (ys.map d.dat)) = _
    rw [d.eq, eqall d xs ys]
    by_cases h : x = y
    · by_cases h2 : xs = ys
      · simp [h, h2]
      · simp [h, h2]
    · simp [h]
theorem canall {r : R α} (d : Da K r) : ∀ {xs : List α}, (∀ x ∈ xs, d.ok x) → PyData.canLayAll0 (xs.map d.dat) = true
  | [], _ => rfl
  | x :: xs, h => by
    show (PyData.canLay0 (d.dat x) && PyData.canLayAll0 (xs.map d.dat)) = true
    rw [d.can (h x List.mem_cons_self), canall d fun y hy => h y (List.mem_cons_of_mem _ hy)]; rfl
theorem depall {r : R α} (d : Da K r) : ∀ {xs : List α}, PyData.depthAll (xs.map d.dat) ≤ d.n
  | [] => Nat.zero_le _
  | x :: xs => by
    show max (PyData.depth (d.dat x)) (PyData.depthAll (xs.map d.dat)) ≤ d.n
    have := d.dep x
    have := depall d (xs := xs)
    omega
def daLst {r : R α} (d : Da K r) : Da K (rLst r) := ⟨fun xs => .list (xs.map d.dat), fun xs => ∀ x ∈ xs, d.ok x, d.n + 1, fun ⟨p, vs, e, h1, h2⟩ => by subst e; exact .lst (SqL.of h1) (dall d h2),
  fun h => canall d h, fun xs => by show PyData.depthAll (xs.map d.dat) + 1 ≤ _; have := depall d (xs := xs); omega, fun a c => eqall d a c⟩
def daTup {r : R α} (d : Da K r) : Da K (rTup K r) := ⟨fun xs => .tuple (xs.map d.dat), fun xs => ∀ x ∈ xs, d.ok x, d.n + 1, fun ⟨p, vs, e, h1, h2⟩ => by subst e; exact .tup h1 (dall d h2),
  fun h => canall d h, fun xs => by show PyData.depthAll (xs.map d.dat) + 1 ≤ _; have := depall d (xs := xs); omega, fun a c => eqall d a c⟩
def daOne {r : R α} (d : Da K r) : DaI K (rOne r) := ⟨fun a => [d.dat a], d.ok, d.n, fun ⟨v, e, h⟩ => by subst e; exact .cons (d.dp h) .nil, fun h => by
  show (PyData.canLay0 (d.dat _) && true) = true
  rw [d.can h]; rfl, fun a => by show max (PyData.depth (d.dat a)) 0 ≤ _; have := d.dep a; omega, fun a c => by
  show (PyData.eqv (d.dat a) (d.dat c) && true) = _
  rw [d.eq, Bool.and_true]⟩
def daCons {r : R α} {s : RI β} (d : Da K r) (t : DaI K s) : DaI K (rCons r s) := ⟨fun a => d.dat a.1 :: t.dat a.2, fun a => d.ok a.1 ∧ t.ok a.2, max d.n t.n, fun ⟨v, ws, e, h1, h2⟩ => by subst e; exact .cons (d.dp h1) (t.dp h2), fun h => by
  show (PyData.canLay0 (d.dat _) && PyData.canLayAll0 (t.dat _)) = true
  rw [d.can h.1, t.can h.2]; rfl, fun a => by
  show max (PyData.depth (d.dat a.1)) (PyData.depthAll (t.dat a.2)) ≤ _
  have := d.dep a.1; have := t.dep a.2; omega, fun a c => by
  show (PyData.eqv (d.dat a.1) (d.dat c.1) && PyData.eqvAll (t.dat a.2) (t.dat c.2)) = _
  rw [d.eq, t.eq]
  by_cases h1 : a.1 = c.1
  · by_cases h2 : a.2 = c.2
    · have : a = c := Prod.ext h1 h2
      simp [h1, h2, this]
    · have : a ≠ c := fun z => h2 (by rw [z])
      simp [h2, this]
  · have : a ≠ c := fun z => h1 (by rw [z])
    simp [h1, this]⟩
def daTp {s : RI α} (t : DaI K s) : Da K (rTp K s) := ⟨fun a => .tuple (t.dat a), t.ok, t.n + 1, fun ⟨p, vs, e, h1, h2⟩ => by subst e; exact .tup h1 (t.dp h2), fun h => t.can h, fun a => by
  show PyData.depthAll (t.dat a) + 1 ≤ _
  have := t.dep a; omega, fun a c => t.eq a c⟩
theorem Da.shaped {r : R α} (d : Da K r) (hn : d.n ≤ 64) {a : α} (h : d.ok a) : SeqAt.shaped (d.dat a) = true := by
  unfold SeqAt.shaped
  rw [d.can h, decide_eq_true (by have := d.dep a; omega)]; rfl
theorem o_eqD {r : R α} (d : Da K r) (hn : d.n ≤ 64) : Op2 (rEqD K) r r rBl (fun x y k => d.ok x ∧ d.ok y ∧ k (decide (x = y))) := fun a c v w F H Q k h1 h2 e ⟨o1, o2, q⟩ w' =>
  ⟨_, _, dp_ex e (d.dp h1), dp_ex e (d.dp h2), d.shaped hn o1, d.shaped hn o2, w' _ _ _ _ q (.refl e _) (by rw [d.eq]; rfl)⟩
theorem o_neD {r : R α} (d : Da K r) (hn : d.n ≤ 64) : Op2 (rNeD K) r r rBl (fun x y k => d.ok x ∧ d.ok y ∧ k (!decide (x = y))) := fun a c v w F H Q k h1 h2 e ⟨o1, o2, q⟩ w' =>
  ⟨_, _, dp_ex e (d.dp h1), dp_ex e (d.dp h2), d.shaped hn o1, d.shaped hn o2, w' _ _ _ _ q (.refl e _) (by rw [d.eq]; rfl)⟩
theorem any_dat {r : R α} (d : Da K r) {a : α} : ∀ xs : List α, ((xs.map d.dat).any fun z => PyData.eqv z (d.dat a)) = decide (a ∈ xs)
  | [] => rfl
  | x :: xs => by
    rw [List.map_cons, List.any_cons, any_dat d xs, d.eq]
    simp only [List.mem_cons, Bool.decide_or]
    congr 1
    exact decide_eq_decide.mpr ⟨fun h => h.symm, fun h => h.symm⟩
theorem o_inD {r : R α} (d : Da K r) (hn : d.n ≤ 63) : Op2 (rInD K) r (rLst r) rBl (fun x y k => d.ok x ∧ (∀ z ∈ y, d.ok z) ∧ k (decide (x ∈ y))) := fun a c v w F H Q k h1 h2 e ⟨o1, o2, q⟩ w' =>
  ⟨_, _, dp_ex e (d.dp h1), dp_ex e ((daLst d).dp h2), d.shaped (by omega) o1, (daLst d).shaped (by show d.n + 1 ≤ 64; omega) o2, w' _ _ _ _ q (.refl e _) (by rw [any_dat]; rfl)⟩
theorem o_notInD {r : R α} (d : Da K r) (hn : d.n ≤ 63) : Op2 (rNotInD K) r (rLst r) rBl (fun x y k => d.ok x ∧ (∀ z ∈ y, d.ok z) ∧ k (!decide (x ∈ y))) := fun a c v w F H Q k h1 h2 e ⟨o1, o2, q⟩ w' =>
  ⟨_, _, dp_ex e (d.dp h1), dp_ex e ((daLst d).dp h2), d.shaped (by omega) o1, (daLst d).shaped (by show d.n + 1 ≤ 64; omega) o2, w' _ _ _ _ q (.refl e _) (by rw [any_dat]; rfl)⟩
end
end Mi
/-! Mir9 -/
set_option Elab.async false
set_option linter.all false
set_option maxRecDepth 100000
set_option maxHeartbeats 4000000
/-! raise and try -/
namespace Mi
open PySem PySem.Spec L2 Dh
open _root_.Evl (Ex)
theorem un65 {A : Around} {k : Nat} (hr : Room k A) : A.units + 65 < cLine := by have := hr.un; omega
/-! ### errors -/
structure Xp (ε : Type) where
  h : ε → Value → Option Addr → Hp → Prop
  ex : ∀ {e cls d F F'}, Ex F F' → h e cls d F → h e cls d F'
section
variable {K : PySem.W.Frag} {b : Bs} {G Gx : List Sl} {α β γ δ τ τ' ρ ε ε' θ : Type} {Gn : τ → List Sl} {Gs : τ' → List Sl} {Gl : θ → List Sl} {ro : ρ → V → Hp → Hp → Prop} {σ : L2.St} {F H F' H' : Hp}
/-- an own class with one field -/
def x1 (C : Addr) (n : Str) (r : R α) : Xp α := ⟨fun a cls d F => cls = .ref C ∧ ∃ dd v, d = some dd ∧ F dd = some (.xd [(n, v)]) ∧ r.h a v F, fun e ⟨h1, dd, v, h2, h3, h4⟩ => ⟨h1, dd, v, h2, e _ _ h3, r.ex e h4⟩⟩
def xOr (x : Xp ε) (y : Xp δ) : Xp (ε ⊕ δ) := ⟨fun e cls d F => match e with | .inl a => x.h a cls d F | .inr c => y.h c cls d F, fun {e _ _ _ _} q h => by
  cases e with
  | inl a => exact x.ex q h
  | inr c => exact y.ex q h⟩
def xNo : Xp Empty := ⟨fun e _ _ _ => e.elim, fun {e} _ _ => e.elim⟩
def XSub (x : Xp ε) (y : Xp δ) (j : ε → δ) : Prop := ∀ e cls d F, x.h e cls d F → y.h (j e) cls d F
theorem xs_id {x : Xp ε} : XSub x x (fun e => e) := fun _ _ _ _ h => h
theorem xs_l {x : Xp ε} {y : Xp δ} : XSub x (xOr x y) Sum.inl := fun _ _ _ _ h => h
theorem xs_r {x : Xp ε} {y : Xp δ} : XSub y (xOr x y) Sum.inr := fun _ _ _ _ h => h
theorem xs_tr {x : Xp ε} {y : Xp δ} {z : Xp γ} {j : ε → δ} {k : δ → γ} (h1 : XSub x y j) (h2 : XSub y z k) : XSub x z (fun e => k (j e)) := fun _ _ _ _ h => h2 _ _ _ _ (h1 _ _ _ _ h)
/-- which of them isinstance takes -/
def XIs (K : PySem.W.Frag) (x : Xp ε) (cv : Value) (is : ε → Bool) : Prop := ∀ e cls d F, x.h e cls d F → ∃ (D dd : Addr) (fs : List (Str × V)), ExcC K D ∧ cls = .ref D ∧ d = some dd ∧ F dd = some (.xd fs) ∧ PySem.W.kitOne K (.ref D) cv = some (is e)
theorem xi_1 {C : Addr} {n : Str} {r : R α} {cv : Value} {t : Bool} (X : ExcC K C) (h : PySem.W.kitOne K (.ref C) cv = some t) : XIs K (x1 C n r) cv (fun _ => t) := fun _ _ _ _ ⟨h1, dd, v, h2, h3, _⟩ => ⟨C, dd, _, X, h1, h2, h3, h⟩
theorem xi_or {x : Xp ε} {y : Xp δ} {cv : Value} {i : ε → Bool} {j : δ → Bool} (h1 : XIs K x cv i) (h2 : XIs K y cv j) : XIs K (xOr x y) cv (Sum.elim i j) := fun e cls d F h => by
  cases e with
  | inl a => exact h1 a cls d F h
  | inr c => exact h2 c cls d F h
/-- which of them a clause catches -/
def XCa (K : PySem.W.Frag) (x : Xp ε) (c : Value) (is : ε → Bool) : Prop := ∀ e cls d F, x.h e cls d F → PySem.W.exmOne K cls c = some (is e)
theorem xc_1 {C : Addr} {n : Str} {r : R α} {c : Value} {t : Bool} (h : PySem.W.exmOne K (.ref C) c = some t) : XCa K (x1 C n r) c (fun _ => t) := fun _ _ _ _ ⟨h1, _⟩ => by rw [h1]; exact h
theorem xc_or {x : Xp ε} {y : Xp δ} {c : Value} {i : ε → Bool} {j : δ → Bool} (h1 : XCa K x c i) (h2 : XCa K y c j) : XCa K (xOr x y) c (Sum.elim i j) := fun e cls d F h => by
  cases e with
  | inl a => exact h1 a cls d F h
  | inr e => exact h2 e cls d F h
/-- their field n, where they have it -/
def XFd (K : PySem.W.Frag) (x : Xp ε) (n : Str) (r : R β) (g : ε → Option β) : Prop := ∀ e cls d F y, x.h e cls d F → g e = some y → ∃ (D dd : Addr) (fs : List (Str × V)) (v : V), XfC K D ∧ PySem.W.findIn K (.ref D) n = some none ∧ cls = .ref D ∧ d = some dd ∧ F dd = some (.xd fs) ∧ fs.lookup n = some v ∧ r.h y v F
theorem xf_1 {C : Addr} {n : Str} {r : R α} (X : XfC K C) (h : PySem.W.findIn K (.ref C) n = some none) : XFd K (x1 C n r) n r some := fun e cls d F y ⟨h1, dd, v, h2, h3, h4⟩ q => by
  cases q
  exact ⟨C, dd, _, v, X, h, h1, h2, h3, by rw [List.lookup_cons, beq_self_eq_true], h4⟩
theorem xf_no {x : Xp ε} {n : Str} {r : R β} : XFd K x n r (fun _ => none) := fun e cls d F y _ q => by cases q
theorem xf_or {x : Xp ε} {y : Xp δ} {n : Str} {r : R β} {i : ε → Option β} {j : δ → Option β} (h1 : XFd K x n r i) (h2 : XFd K y n r j) : XFd K (xOr x y) n r (Sum.elim i j) := fun e cls d F z h q => by
  cases e with
  | inl a => exact h1 a cls d F z h q
  | inr c => exact h2 c cls d F z h q
/-! ### promises of defs that may let errors out -/
def spX (s : RI α) (r : R β) (x : Xp ε) (g : α → (β → Prop) → (ε → Prop) → Prop) : Sp := fun vs H Q E => ∃ (a : α) (F : Hp) (k : β → Prop) (kx : ε → Prop), Ex F H ∧ s.h a vs F ∧ g a k kx ∧
  (∀ y v F' H', k y → After F H [] F' H' → r.h y v F' → Q v H') ∧ (∀ e cls d F' H', kx e → After F H [] F' H' → x.h e cls d F' → E cls d H')
def spRX (c : C γ) (s : RI α) (r : R β) (x : Xp ε) (g : γ → α → (β → Prop) → (ε → Prop) → Prop) : Sp := fun vs H Q E => ∃ (p : Addr) (ws : List V) (y : γ) (a : α) (F : Hp) (k : β → Prop) (kx : ε → Prop), vs = .ref p :: ws ∧ F p = none ∧ CAt c y F H p ∧ Ex F H ∧ s.h a ws F ∧ g y a k kx ∧
  (∀ z v F' H', k z → After F H [p] F' H' → CAt c y F' H' p → r.h z v F' → Q v H') ∧ (∀ e cls d F' H', kx e → After F H [p] F' H' → CAt c y F' H' p → x.h e cls d F' → E cls d H')
theorem spX_len {s : RI α} {r : R β} {x : Xp ε} {g : α → (β → Prop) → (ε → Prop) → Prop} {vs : List V} {Q : VK} {Ek : XK} (h : spX s r x g vs H Q Ek) : vs.length = s.n := by
  obtain ⟨a, F, k, kx, _, hs, _⟩ := h; exact s.ln hs
theorem spRX_len {c : C γ} {s : RI α} {r : R β} {x : Xp ε} {g : γ → α → (β → Prop) → (ε → Prop) → Prop} {vs : List V} {Q : VK} {Ek : XK} (h : spRX c s r x g vs H Q Ek) : vs.length = s.n + 1 := by
  obtain ⟨p, ws, y, a, F, k, kx, rfl, _, _, _, hs, _⟩ := h; rw [List.length_cons, s.ln hs]
/-- what the place around takes of errors -/
def Out (b : Bs) (gx : List Sl → Prop) (x : Xp ε) (kx : ε → Prop) (W : WX) : Prop := ∀ ⦃G : List Sl⦄ ⦃e : ε⦄ ⦃cls : Value⦄ ⦃d : Option Addr⦄ ⦃σ : L2.St⦄ ⦃F H : Hp⦄, gx G → kx e → Env b G σ F H → x.h e cls d F → W cls d σ H
theorem out_no {gx : List Sl → Prop} {x : Xp ε} {W : WX} : Out b gx x (fun _ => False) W := fun _ _ _ _ _ _ _ _ h => h.elim
variable {gx : List Sl → Prop} {x : Xp ε} {kx : ε → Prop} {W : WX} {x' : Xp ε'} {j : ε' → ε}
theorem e_callX {s : RI α} {r : R β} {g : α → (β → Prop) → (ε' → Prop) → Prop} {ta : TA} {f : (α → Prop) → Prop} (O : Out b gx x kx W) (hg : gx G) (hj : XSub x' x j) (h : Ar b G ta s f) :
    E b G (tCallS (spX s r x' g) (WE W) ta) r (fun k => f fun a => g a k fun e => kx (j e)) := fun σ F H Q k V q w => by
  refine h _ V q ?_
  intro a vs F1 H1 q1 A1 V1 r1
  exact ⟨a, F1, k, fun e => kx (j e), V1.fh, r1, q1, fun y v F2 H2 q2 A2 r2 => w y v F2 H2 q2 (A1.trans (A2.mono fun _ h => nomatch h)) (V1.step A2) r2, fun e cls d F2 H2 q2 A2 hx => O hg q2 (V1.step A2) (hj _ _ _ _ hx)⟩
theorem e_callX0 {s : RI α} {r : R β} {g : α → (β → Prop) → (ε' → Prop) → Prop} {Ek : XK} {ta : TA} {f : (α → Prop) → Prop} (h : Ar b G ta s f) :
    E b G (tCall (spX s r x' g) [] Ek ta) r (fun k => f fun a => g a k fun _ => False) := fun σ F H Q k V q w => by
  refine h _ V q ?_
  intro a vs F1 H1 q1 A1 V1 r1
  show spX s r x' g (vs ++ []) H1 _ _
  rw [List.append_nil]
  exact ⟨a, F1, k, fun _ => False, V1.fh, r1, q1, fun y v F2 H2 q2 A2 r2 => w y v F2 H2 q2 (A1.trans (A2.mono fun _ h => nomatch h)) (V1.step A2) r2, fun e cls d F2 H2 q2 => q2.elim⟩
theorem Env.back {c : C γ} {y : γ} {i : Nat} {p : Addr} (V : Env b G σ F H) (hi : G[i]? = some (own p c y)) (A : After F H [p] F' H') (B : CAt c y F' H' p) : Env b G σ F' H' := by
  have := V.cNew hi A B
  rw [set_self hi] at this; exact this
theorem e_methX {c : C γ} {y : γ} {i : Nat} {p Cl : Addr} {m : Str} {s : RI α} {r : R β} {g : γ → α → (β → Prop) → (ε' → Prop) → Prop} {ta : TA} {f : (α → Prop) → Prop} (O : Out b gx x kx W) (hg : gx G) (hj : XSub x' x j) (hi : G[i]? = some (own p c y))
    (hc : ∀ y u F, c.h y u F → ∃ dx fs, u = .ins Cl dx fs ∧ fs.lookup m = none) (h : Ar b G ta s f) :
    E b G (tMethS Cl m (spRX c s r x' g) (WE W) (tVar i) ta) r (fun k => f fun a => g y a k fun e => kx (j e)) := fun σ F H Q k V q w => by
  obtain ⟨o, h1, rfl, u, hu, hcu⟩ := V.hold.at_ hi
  obtain ⟨dx, fs, rfl, hl⟩ := hc _ _ _ hcu
  refine ⟨.ref p, h1, p, dx, fs, rfl, hu, hl, ?_⟩
  refine h _ V q ?_
  intro a vs F1 H1 q1 A1 V1 r1
  obtain ⟨f1, B1⟩ := V1.cAt hi
  have hp : p ∈ owns G := mem_owns hi List.mem_cons_self
  exact ⟨p, vs, y, a, F1, k, fun e => kx (j e), rfl, f1, B1, V1.fh, r1, q1, fun z v F2 H2 q2 A2 B2 r2 => w z v F2 H2 q2 (A1.trans (A2.mono fun q hq => by rw [List.mem_singleton.mp hq]; exact hp)) (V1.back hi A2 B2) r2,
    fun e cls d F2 H2 q2 A2 B2 hx => O hg q2 (V1.back hi A2 B2) (hj _ _ _ _ hx)⟩
theorem e_methX0 {c : C γ} {y : γ} {i : Nat} {p Cl : Addr} {m : Str} {s : RI α} {r : R β} {g : γ → α → (β → Prop) → (ε' → Prop) → Prop} {Ek : XK} {ta : TA} {f : (α → Prop) → Prop} (hi : G[i]? = some (own p c y))
    (hc : ∀ y u F, c.h y u F → ∃ dx fs, u = .ins Cl dx fs ∧ fs.lookup m = none) (h : Ar b G ta s f) :
    E b G (tMeth Cl m (spRX c s r x' g) [] Ek (tVar i) ta) r (fun k => f fun a => g y a k fun _ => False) := fun σ F H Q k V q w => by
  obtain ⟨o, h1, rfl, u, hu, hcu⟩ := V.hold.at_ hi
  obtain ⟨dx, fs, rfl, hl⟩ := hc _ _ _ hcu
  refine ⟨.ref p, h1, p, dx, fs, rfl, hu, hl, ?_⟩
  refine h _ V q ?_
  intro a vs F1 H1 q1 A1 V1 r1
  show spRX c s r x' g (.ref p :: (vs ++ [])) H1 _ _
  rw [List.append_nil]
  obtain ⟨f1, B1⟩ := V1.cAt hi
  have hp : p ∈ owns G := mem_owns hi List.mem_cons_self
  exact ⟨p, vs, y, a, F1, k, fun _ => False, rfl, f1, B1, V1.fh, r1, q1, fun z v F2 H2 q2 A2 B2 r2 => w z v F2 H2 q2 (A1.trans (A2.mono fun q hq => by rw [List.mem_singleton.mp hq]; exact hp)) (V1.back hi A2 B2) r2,
    fun e cls d F2 H2 q2 => q2.elim⟩
theorem s_retNP : S b G tRetN Gn Gl (fun (y : Unit) v F _ => rNon.h y v F) (fun d => d.rt ()) := s_retN (g := ()) fun _ _ _ _ => rfl
theorem flat_bl : Flat rBl := ⟨fun h => by cases h; rfl, fun {a v F c u F'} h1 h2 => by
  cases h1; cases h2
  cases a <;> cases c <;> rfl⟩
/-! ### raise -/
/-- C's __init__: self.n = the argument -/
def spE (C : Addr) (n : Str) : Sp := fun vs H Q _ => ∃ (a : Addr) (v : V), vs = [.ref a, v] ∧ H a = some (exo a C none) ∧ ∀ d, H d = none → d ≠ a → Q .non (upd (upd H d (exd d [(n, v)])) a (exo a C (some d)))
def tRaise (t : L2.St → Hp → XK → Prop) (W : WX) : TS := fun _ σ H => t σ H fun cls d H' => W cls d σ H'
theorem ps_raiseT {X : Cx} {W : WX} {e : Expr} {t : L2.St → Hp → XK → Prop} {pos : Pos} (hc : X.calm = true) (tk : L2N.Takes X W) (he : L2N.PMk X e t) : PS X (.Raise (some e) none pos) (tRaise t W) := L2N.ps_raise hc tk he
theorem s_raise {te : TE} {r : R α} {f : (α → Prop) → Prop} {C : Addr} {n : Str} {i : α → ε} (O : Out b gx x kx W) (hg : gx G) (hj : XSub (x1 C n r) x i) (h : E b G te r f) :
    S b G (tRaise (tMkO C (spE C n) [] (tCons te tNil)) W) Gn Gl ro (fun _ => f fun a => kx (i a)) := fun σ F H D d V q _ _ _ _ => by
  refine h _ V q ?_
  intro y v F1 H1 q1 A1 V1 r1
  refine ⟨(by show 1 ≤ 1000; decide), fun a ha => ⟨a, v, rfl, upd_same, fun dx hd da => ⟨rfl, dx, [(n, v)], upd_same, upd_oth da upd_same, ?_, ?_⟩⟩⟩
  · rw [upd_ne da] at hd; exact hd
  · rw [upd_ne da] at hd
    have e1 : Ex F1 (upd F1 dx (.xd [(n, v)])) := Ex.new (ex_none V1.fh hd)
    refine O hg q1 (V1.step ⟨e1, fun z o hz => ?_, fun z o _ hz => ?_, fun z hz => ?_, fun z h1 h2 => ?_⟩) (hj _ _ _ _ ⟨rfl, dx, v, rfl, upd_same, r.ex e1 r1⟩)
    · by_cases zd : z = dx
      · subst zd; rw [upd_same] at hz ⊢; exact hz
      · rw [upd_ne zd] at hz ⊢
        have hz' := V1.fh _ _ hz
        have za : z ≠ a := ne_of_none hz' ha
        rw [del_ne za, upd_ne za, upd_ne zd, upd_ne za]; exact hz'
    · have zd : z ≠ dx := ne_of_none hz hd
      have za : z ≠ a := ne_of_none hz ha
      rw [upd_ne zd, del_ne za, upd_ne za, upd_ne zd, upd_ne za]; exact hz
    · have zd : z ≠ dx := fun t => hz (by rw [t]; exact hd)
      have za : z ≠ a := fun t => hz (by rw [t]; exact ha)
      rw [upd_ne zd, del_ne za, upd_ne za, upd_ne zd, upd_ne za]; exact hz
    · have zd : z ≠ dx := fun t => h2 (by rw [t]; exact hd)
      rw [upd_ne zd]; exact h1
/-! ### try -/
/-- the caught error in its slot -/
def rErr (x : Xp ε) (a : Addr) (cls : Value) (d : Option Addr) : R ε := ⟨fun e v F => v = .ref a ∧ x.h e cls d F, fun q ⟨h1, h2⟩ => ⟨h1, x.ex q h2⟩⟩
def Bs.at_ (b : Bs) (F : Hp) : Bs := ⟨F, b.H, b.M, b.ml⟩
theorem Env.reb (V : Env b G σ F H) : Env (b.at_ F) G σ F H := ⟨Ex.refl F, V.fh, V.hh, V.kp, fun a h _ => h, V.hold, V.nd, V.on⟩
theorem After.unb {F0 : Hp} (V : Env b G σ F H) (A : After F b.H b.M F' H') : After b.F b.H b.M F' H' := ⟨V.ff.trans A.ff, A.fh, A.hh, A.kp, fun a h1 h2 => A.nf a (V.nf a h1 h2) h2⟩
theorem Env.unb {G' : List Sl} {σ' : L2.St} (V : Env b G σ F H) (V' : Env (b.at_ F) G' σ' F' H') : Env b G' σ' F' H' := ⟨V.ff.trans V'.ff, V'.fh, V'.hh, V'.kp, fun a h1 h2 => V'.nf a (V.nf a h1 h2) h2, V'.hold, V'.nd, V'.on⟩
def tTry (K : PySem.W.Frag) (c : Value) (i : Nat) (tb : WX → TS) (ts : Addr → Value → Option Addr → TS) (Wout : WX) : TS := fun D σ H => tb (wAs K c i ts Wout D) D σ H
theorem ps_tryT {X : Cx} {x n : Str} {c : Value} {i : Nat} {body suite : List Stmt} {b₀ : Stmt} {np pos pos' : Pos} {tb : WX → TS} {ts : Addr → Value → Option Addr → TS} {Wout : WX} (hs : X.stack = X.env :: X.outer) (hf : X.env.frame = some X.env.locals) (hN : X.N.Nodup) (hi : X.N[i]? = some n) (hln : X.env.kindOf n = some .local) (hc : Names X x c) (tk : L2N.Takes X Wout)
    (hb : ∀ (W : WX) (pn : List (Addr × Obj)) (xe : Value → Shared → Prop), L2N.Takes (X.tr pn xe) W → PassesOwn (model X.prog X.w) X.A X.env xe → PSs (X.tr pn xe) body (tb W))
    (hsu : ∀ (a : Addr) (oe : Obj) (cls : Value) (d : Option Addr) (pn : List (Addr × Obj)), L2N.Zn cls d oe → (∃ vs, oe.data = .fields vs) → PSs (X.suite a ((a, oe) :: pn)) (b₀ :: suite) (ts a cls d)) :
    PS X (.Try body [.ExceptHandler (some (.Name x np)) (some n) (b₀ :: suite) pos'] [] [] pos) (tTry X.K c i tb ts Wout) := L2N.ps_try_as hs hf hN hi hln hc tk hb hsu
theorem s_try {tb : WX → TS} {ts : Addr → Value → Option Addr → TS} {c : Value} {i : Nat} {is : ε → Bool} {fb : (ε → Prop) → Pd τ θ ρ → Prop} {fs : ε → Pd τ' θ ρ → Prop} {x0 : Xp δ} {k0 : δ → Prop} {Wout : WX} {j0 : ε → δ} {jn : τ' → τ}
    (hb : ∀ b' : Bs, b'.M = b.M → ∀ (W : WX) (kx : ε → Prop), Out b' (fun G' => Sub G' Gx) x kx W → S b' G (tb W) Gn Gl ro (fb kx)) (hm : XCa K x c is)
    (hs : ∀ e a cls d, is e = true → S b (Gx.set i (val (rErr x a cls d) e)) (ts a cls d) Gs Gl ro (fs e)) (hw : ∀ y, Sub ((Gs y).set i any) (Gn (jn y))) (hl : ∀ y, Sub ((Gl y).set i any) (Gl y))
    (O : Out b gx x0 k0 Wout) (hg : gx Gx) (hj : ∀ e, is e = false → ∀ cls d F, x.h e cls d F → x0.h (j0 e) cls d F) :
    S b G (tTry K c i tb ts Wout) Gn Gl ro (fun d => fb (fun e => (is e = true → fs e ⟨fun y => d.nx (jn y), d.ct, d.bk, d.rt⟩) ∧ (is e = false → k0 (j0 e))) d) := fun σ F H D d V q w1 w2 w3 w4 => by
  have hO : Out (b.at_ F) (fun G' => Sub G' Gx) x (fun e => (is e = true → fs e ⟨fun y => d.nx (jn y), d.ct, d.bk, d.rt⟩) ∧ (is e = false → k0 (j0 e))) (wAs K c i ts Wout D) := fun G' e cls dd σ' F1 H1 hsub ke V1 hx => by
    have V2 : Env b Gx σ' F1 H1 := (V.unb V1).sub hsub
    have e1 : Ex F F1 := V1.ff
    refine ⟨is e, hm e cls dd F1 hx, fun hi a ha => ?_, fun hi => O hg (ke.2 hi) V2 (hj e hi cls dd F1 hx)⟩
    refine hs e a cls dd hi ⟨fun y => d.nx (jn y), d.ct, d.bk, d.rt⟩ (V2.set (s := val (rErr x a cls dd) e) (o := some (.ref a)) ⟨_, rfl, rfl, hx⟩ rfl) (ke.1 hi) ?_ ?_ ?_ w4
    · exact fun y σ2 F2 H2 q2 e2 V3 => w1 (jn y) _ F2 H2 q2 (e1.trans e2) ((V3.set (i := i) (s := any) (o := none) trivial rfl).sub (hw y))
    · exact fun y σ2 F2 H2 q2 e2 V3 => w2 y _ F2 H2 q2 (e1.trans e2) ((V3.set (i := i) (s := any) (o := none) trivial rfl).sub (hl y))
    · exact fun y σ2 F2 H2 q2 e2 V3 => w3 y _ F2 H2 q2 (e1.trans e2) ((V3.set (i := i) (s := any) (o := none) trivial rfl).sub (hl y))
  exact hb (b.at_ F) rfl _ _ hO d V.reb q (fun y σ2 F2 H2 q2 e2 V3 => w1 y σ2 F2 H2 q2 e2 (V.unb V3)) (fun y σ2 F2 H2 q2 e2 V3 => w2 y σ2 F2 H2 q2 e2 (V.unb V3)) (fun y σ2 F2 H2 q2 e2 V3 => w3 y σ2 F2 H2 q2 e2 (V.unb V3)) (fun y v F2 H2 q2 A r => w4 y v F2 H2 q2 (A.unb (F0 := F) V) r)
/-! ### asked of the error -/
def rIsG (K : PySem.W.Frag) (cls : Value) (d : Option Addr) (a : Addr) : List V → Hp → VK → Prop := fun xs H Q => ∃ (D dd : Addr) (c : V) (cv : Value) (t : Bool) (fs : List (Str × V)), ExcC K D ∧ cls = .ref D ∧ d = some dd ∧ xs = [.ref a, c] ∧ (∀ u, RelV c u → u = cv) ∧ PySem.W.kitOne K (.ref D) cv = some t ∧ H dd = some (.xd fs) ∧ Q (.bl t) H
theorem call_isG {X : Cx} {a : Addr} {oe : Obj} {cls : Value} {d : Option Addr} {pn : List (Addr × Obj)} (hz : Zc cls d oe) (hf : ∃ vs, oe.data = .fields vs) : CallR (X.suite a ((a, oe) :: pn)) (.builtin "isinstance") (rIsG X.K cls d a) := by
  intro pins s σ H xs us Q I r h
  obtain ⟨D, dd, c, cv, t, fs, hC, ec, ed, e1, e2, e3, e4, q⟩ := h
  exact call_isX (dd := dd) hC hz hf pins s σ H xs us Q I r ⟨ec, ed, c, cv, t, fs, e1, e2, e3, e4, q⟩
theorem e_isx {te : TE} {f : (ε → Prop) → Prop} {a : Addr} {cls : Value} {d : Option Addr} {c : V} {cv : Value} {is : ε → Bool} (hX : XIs K x cv is) (hc : ∀ u, RelV c u → u = cv) (h : E b G te (rErr x a cls d) f) :
    E b G (tCB (rIsG K cls d a) (tCons te (tCons (tC c) tNil))) rBl (fun k => f fun e => k (is e)) := fun σ F H Q k V q w => by
  refine h _ V q ?_
  intro e v F1 H1 q1 A1 V1 ⟨hv, hx⟩
  subst hv
  obtain ⟨D, dd, fs, h1, h2, h3, h4, h5⟩ := hX e cls d F1 hx
  exact ⟨D, dd, c, cv, is e, fs, h1, h2, h3, rfl, hc, h5, V1.fh _ _ h4, w _ _ F1 H1 q1 A1 V1 rfl⟩
def tXfG (K : PySem.W.Frag) (a : Addr) (cls : Value) (d : Option Addr) (n : Str) (te : TE) : TE := fun σ H Q => te σ H fun u H1 => u = .ref a ∧ ∃ (D dd : Addr) (fs : List (Str × V)) (v : V), XfC K D ∧ PySem.W.findIn K (.ref D) n = some none ∧ cls = .ref D ∧ d = some dd ∧ H1 dd = some (.xd fs) ∧ fs.lookup n = some v ∧ Q v H1
theorem pe_xfG {X : Cx} {a : Addr} {oe : Obj} {cls : Value} {d : Option Addr} {pn : List (Addr × Obj)} {e : Expr} {te : TE} {pos : Pos} {n : Str}
    (hz : Zc cls d oe) (hf : ∃ vs, oe.data = .fields vs) (he : PE (X.suite a ((a, oe) :: pn)) e te) (hb : attributeBase e n X.env (eval e X.env) = eval e X.env := by rfl) :
    PE (X.suite a ((a, oe) :: pn)) (.Attribute e n pos) (tXfG X.K a cls d n te) := by
  refine ⟨fun pins s σ H Q I h => ?_⟩
  refine attr_of hb (thn (he.run pins s σ H _ I h) fun u s1 hh => ?_)
  obtain ⟨x, H1, I1, rx, ex, D, dd, fs, v, T, hno, ec, ed, ea, l, q⟩ := hh
  subst ex
  obtain rfl : u = Value.ref a := rx
  subst ec
  subst ed
  obtain ⟨ha, _⟩ := I1.pin (a, oe) (List.mem_append_left _ List.mem_cons_self)
  obtain ⟨vs, hd⟩ := hf
  have hx : ObjOk X.prog X.w H1 s1.heap dd (.xd fs) := I1.hok dd _ ea
  obtain ⟨mA, hns, hr⟩ := hx
  obtain ⟨od, ho, hl⟩ := lookIn_ns hns
  obtain ⟨u, hu, ru⟩ := RelO.some_of (v := v) (o := mA n) (by rw [← l]; exact hr n)
  have J : PySem.W.InstAt s1.heap a oe D (some od) := ⟨ha, hz.1, by unfold PySem.W.notCls; rw [hd] <;> rfl, by rw [hz.2]; exact ho⟩
  exact HandSPX.exc_get I1.kIn J T.ga T.gg T.exC (PySem.W.findObj_own T.hdC hno rfl (by rw [hl, hu])) (handed_of ru) ⟨v, H1, I1.tok _, ru, q⟩
theorem e_xf {te : TE} {f : (ε → Prop) → Prop} {a : Addr} {cls : Value} {d : Option Addr} {n : Str} {r : R β} {g : ε → Option β} (hX : XFd K x n r g) (h : E b G te (rErr x a cls d) f) :
    E b G (tXfG K a cls d n te) r (fun k => f fun e => ∃ y, g e = some y ∧ k y) := fun σ F H Q k V q w => by
  refine h _ V q ?_
  intro e v F1 H1 ⟨y, q0, q1⟩ A1 V1 ⟨hv, hx⟩
  subst hv
  obtain ⟨D, dd, fs, v, h1, h2, h3, h4, h5, h6, h7⟩ := hX e cls d F1 y hx q0
  exact ⟨rfl, D, dd, fs, v, h1, h2, h3, h4, V1.fh _ _ h5, h6, w y v F1 H1 q1 A1 V1 h7⟩
/-- such an expression's own rule is asked -/
theorem passN {X : Cx} : Passes (L2N.CX X.prog X.w) X (fun _ _ _ => False) := fun _ _ _ _ _ _ _ ⟨_, _, _, _, _, _, _, _, _, _, _, _, z⟩ => z.elim
/-! ### into a def that may let errors out -/
theorem run_X {s : RI α} {r : R β} {g : α → (β → Prop) → (ε → Prop) → Prop} {N : List Str} {m : Nat} {t : TS} {vs : List V} {Q : VK} {Ek : XK} {Gn : Bs → α → τ → List Sl} {f : α → (ε → Prop) → Pd τ Unit β → Prop} (h : spX s r x g vs H Q Ek) (hN : N.length = s.n + m)
    (hS : ∀ b a kx, b.M = [] → Out b (fun _ => True) x kx (fun cls d _ H => Ek cls d H) → S b (s.sl a ++ List.replicate m any) t (Gn b a) (fun _ : Unit => []) (fun y v F _ => r.h y v F) (f a kx)) (hg : ∀ a k kx, g a k kx → f a kx ⟨fun _ => False, fun _ => False, fun _ => False, k⟩) :
    t { nx := fun _ H' => Q .non H', rt := Q } (L2.start N vs) H := by
  obtain ⟨a, F, k, kx, e, hs, q, w, wx⟩ := h
  have hl := s.ln hs
  refine S.go (hS ⟨F, H, [], fun _ h => nomatch h⟩ a kx rfl (fun G e cls d σ F' H' _ q' V' hx => wx e cls d F' H' q' V'.after hx)) (L2.start N vs) F H _ ⟨fun _ => False, fun _ => False, fun _ => False, k⟩ ?_ (hg a k kx q) (fun _ _ _ _ h => h.elim) (fun _ _ _ _ h => h.elim) (fun _ _ _ _ h => h.elim) (fun y v F' H' hk A hr => w y v F' H' hk A hr)
  have ow : owns (s.sl a ++ List.replicate m any) = [] := by rw [owns_app, s.no, owns_any]; rfl
  refine ⟨Ex.refl _, e, fun _ _ _ h => h, fun _ h => h, fun _ h _ => h, ?_, by rw [ow]; exact List.nodup_nil, fun p hp => by rw [ow] at hp; nomatch hp⟩
  unfold L2.start
  have : N.length - vs.length = m := by omega
  rw [this]
  exact paired_app' (s.hs hs) holds_any
theorem run_XN {s : RI α} {g : α → (Unit → Prop) → (ε → Prop) → Prop} {N : List Str} {m : Nat} {t : TS} {vs : List V} {Q : VK} {Ek : XK} {Gn : Bs → α → τ → List Sl} {f : α → (ε → Prop) → Pd τ Unit Unit → Prop} (h : spX s rNon x g vs H Q Ek) (hN : N.length = s.n + m)
    (hS : ∀ b a kx, b.M = [] → Out b (fun _ => True) x kx (fun cls d _ H => Ek cls d H) → S b (s.sl a ++ List.replicate m any) t (Gn b a) (fun _ : Unit => []) (fun y v F _ => rNon.h y v F) (f a kx)) (hg : ∀ a k kx, g a k kx → f a kx ⟨fun _ => k (), fun _ => False, fun _ => False, k⟩) :
    t { nx := fun _ H' => Q .non H', rt := Q } (L2.start N vs) H := by
  obtain ⟨a, F, k, kx, e, hs, q, w, wx⟩ := h
  have hl := s.ln hs
  refine S.go (hS ⟨F, H, [], fun _ h => nomatch h⟩ a kx rfl (fun G e cls d σ F' H' _ q' V' hx => wx e cls d F' H' q' V'.after hx)) (L2.start N vs) F H _ ⟨fun _ => k (), fun _ => False, fun _ => False, k⟩ ?_ (hg a k kx q) (fun _ σ' F' H' hk _ V' => w () .non F' H' hk V'.after rfl) (fun _ _ _ _ h => h.elim) (fun _ _ _ _ h => h.elim) (fun y v F' H' hk A hr => w y v F' H' hk A hr)
  have ow : owns (s.sl a ++ List.replicate m any) = [] := by rw [owns_app, s.no, owns_any]; rfl
  refine ⟨Ex.refl _, e, fun _ _ _ h => h, fun _ h => h, fun _ h _ => h, ?_, by rw [ow]; exact List.nodup_nil, fun p hp => by rw [ow] at hp; nomatch hp⟩
  unfold L2.start
  have : N.length - vs.length = m := by omega
  rw [this]
  exact paired_app' (s.hs hs) holds_any
theorem run_RX {c : C γ} {s : RI α} {r : R β} {g : γ → α → (β → Prop) → (ε → Prop) → Prop} {N : List Str} {m : Nat} {t : TS} {vs : List V} {Q : VK} {Ek : XK} {Gn : Bs → Addr → γ → α → τ → List Sl} {f : γ → α → (ε → Prop) → Pd τ Unit β → Prop} (h : spRX c s r x g vs H Q Ek) (hN : N.length = s.n + 1 + m)
    (hS : ∀ b p y a kx, b.M = [p] → Out b (fun G => G[0]? = some (own p c y)) x kx (fun cls d _ H => Ek cls d H) → S b (own p c y :: (s.sl a ++ List.replicate m any)) t (Gn b p y a) (fun _ : Unit => []) (fun z v F H => CAt c y F H p ∧ r.h z v F) (f y a kx)) (hg : ∀ y a k kx, g y a k kx → f y a kx ⟨fun _ => False, fun _ => False, fun _ => False, k⟩) :
    t { nx := fun _ H' => Q .non H', rt := Q } (L2.start N vs) H := by
  obtain ⟨p, ws, y, a, F, k, kx, rfl, fp, ⟨u, hb, hbl⟩, e, hs, q, w, wx⟩ := h
  have hl := s.ln hs
  refine S.go (hS ⟨F, H, [p], fun q hq => by rw [List.mem_singleton.mp hq, hb]; exact fun z => nomatch z⟩ p y a kx rfl (fun G e cls d σ F' H' hi q' V' hx => wx e cls d F' H' q' V'.after (V'.cAt hi).2 hx)) (L2.start N (.ref p :: ws)) F H _ ⟨fun _ => False, fun _ => False, fun _ => False, k⟩ ?_ (hg y a k kx q) (fun _ _ _ _ h => h.elim) (fun _ _ _ _ h => h.elim) (fun _ _ _ _ h => h.elim) (fun z v F' H' hk A (hr : CAt c y F' H' p ∧ r.h z v F') => w z v F' H' hk A hr.1 hr.2)
  have ow : owns (own p c y :: (s.sl a ++ List.replicate m any)) = [p] := by
    show [p] ++ owns _ = _
    rw [owns_app, s.no, owns_any]; rfl
  refine ⟨Ex.refl _, e, fun _ _ _ h => h, fun _ h => h, fun _ h _ => h, ?_, by rw [ow]; simp, fun q hq => ?_⟩
  · unfold L2.start
    have : N.length - (V.ref p :: ws).length = m := by rw [List.length_cons]; omega
    rw [this]
    exact .cons (show _ ∧ _ from ⟨rfl, _, hb, hbl⟩) (paired_app' (s.hs hs) holds_any)
  · rw [ow] at hq
    cases List.mem_singleton.mp hq
    exact ⟨fp, .inl List.mem_cons_self⟩
theorem All.set {r : R α} {F : Hp} {a : α} {v : V} (h : r.h a v F) : ∀ {xs : List α} {vs : List V} {j : Nat}, All r F xs vs → All r F (xs.set j a) (vs.set j v)
  | _, _, _, .nil => .nil
  | _, _, 0, .cons _ t => .cons h t
  | _, _, j + 1, .cons q t => .cons q (All.set h t)
/-- xs[n] = a -/
theorem s_setL {i : Nat} {p : Addr} {te ti : TE} {r : R α} {xs : List α} {f : (α → Prop) → Prop} {g : (Int → Prop) → Prop} (hi : G[i]? = some (own p (cLst r) xs)) (h : E b G te r f) (h2 : E b G ti rInt g) :
    S b G (tAsg te (gSub (tVar i) ti rSetL)) (fun y : Nat × α => G.set i (own p (cLst r) (xs.set y.1 y.2))) Gl ro (fun d => f fun x => g fun n => ∃ j, ixN xs.length n = some j ∧ d.nx (j, x)) := fun σ F H D d V q w1 _ _ _ => by
  refine h _ V q ?_
  intro a v F1 H1 q1 A1 V1 r1
  obtain ⟨o, k1, rfl, u, k2, vs, rfl, k3⟩ := V1.hold.at_ hi
  refine ⟨.ref p, k1, ?_⟩
  refine h2 _ V1 q1 ?_
  rintro n w F2 H2 ⟨j, hj, q2⟩ A2 V2 e
  cases e
  obtain ⟨o, k1', e, u, k2, vs, rfl, k3⟩ := V2.hold.at_ hi
  refine ⟨p, vs, n, j, rfl, rfl, k2, by rw [k3.len]; exact hj, w1 (j, a) _ F2 _ q2 (A1.ff.trans A2.ff) (V2.cell hi ⟨_, rfl, All.set (r.ex A2.ff r1) k3⟩)⟩
/-! ### isinstance of what is known -/
structure Ty1 (K : PySem.W.Frag) (r : R α) (t : String) : Prop where
  of : ∀ {a : α} {v : V} {F H : Hp}, r.h a v F → Ex F H → TyX K H v (.type t)
theorem ty_int : Ty1 K rInt "int" := ⟨fun h _ => by cases h; exact .base (.int _)⟩
theorem ty_str : Ty1 K rStr "str" := ⟨fun h _ => by cases h; exact .base (.str _)⟩
theorem ty_bl : Ty1 K rBl "bool" := ⟨fun h _ => by cases h; exact .base (.bl _)⟩
theorem ty_lst {r : R α} : Ty1 K (rLst r) "list" := ⟨fun ⟨p, vs, h1, h2, _⟩ e => by subst h1; exact .base (.lst (e _ _ h2))⟩
theorem ty_sqt {p : Addr} {vs : List V} (h : SqT K F p vs) (e : Ex F H) : TyX K H (.ref p) (.type "tuple") := by
  rcases _root_.Evl.ex_t e h with (h | ⟨o, h⟩) | ⟨o, its, n, h1, h2, _⟩
  · exact .base (.tup h)
  · exact .fTuple h
  · exact .kTuple h1 h2
theorem ty_tup {r : R α} : Ty1 K (rTup K r) "tuple" := ⟨fun ⟨p, vs, h1, h2, _⟩ e => by subst h1; exact ty_sqt h2 e⟩
theorem ty_tp {s : RI α} : Ty1 K (rTp K s) "tuple" := ⟨fun ⟨p, vs, h1, h2, _⟩ e => by subst h1; exact ty_sqt h2 e⟩
theorem e_isi {te : TE} {r : R α} {f : (α → Prop) → Prop} {t c : String} {res : Bool} (T : Ty1 K r t) (hk : kitB t c = some res) (h : E b G te r f) : E b G (tCB (rIsi K) (tCons te (tCons (tC (.ty c)) tNil))) rBl (fun k => f fun _ => k res) := fun _ _ _ _ k V q w => by
  refine h _ V q ?_
  intro x v F1 H1 q1 A1 V1 r1
  exact ⟨_, _, _, _, res, rfl, .ty _, T.of r1 V1.fh, kit_ty hk, w _ _ F1 H1 q1 A1 V1 rfl⟩
end
end Mi
/-! Mir10 -/
set_option Elab.async false
set_option linter.all false
set_option maxRecDepth 100000
set_option maxHeartbeats 4000000
/-! records that grow; an operator of two things of one own class -/
namespace Mi
open PySem PySem.Spec L2 Dh
open _root_.Evl (Ex)
section
variable {K : PySem.W.Frag} {b : Bs} {G : List Sl} {α β γ δ τ ρ ε : Type} {Gn : τ → List Sl} {Gl : ε → List Sl} {ro : ρ → V → Hp → Hp → Prop} {σ : L2.St} {F H F' H' : Hp}
def cRec (s : RK α) : C α := ⟨fun a u F => ∃ kvs, u = .dK kvs ∧ s.h a kvs F, fun e ⟨kvs, h1, h2⟩ => ⟨kvs, h1, s.ex e h2⟩⟩
theorem frz_rec {s : RK α} {a : α} : ∀ {p : Addr} (u : HO) (F : Hp), (cRec s).h a u F → F p = some u → (rRec s).h a (.ref p) F := fun u F ⟨kvs, h1, h2⟩ h => ⟨_, kvs, rfl, h1 ▸ h, h2⟩
/-- s with n behind it is s' -/
def Sn (s : RK α) (s' : RK δ) (n : Str) (r : R γ) (g : α → γ → δ) : Prop := n ∉ s.ks ∧ s.ks.length < 15 ∧ ∀ a x kvs v F, s.h a kvs F → r.h x v F → s'.h (g a x) (kvs ++ [(Sum.inr n, v)]) F
theorem sn_one {m n : Str} {q : R α} {r : R γ} (ne : (n == m) = false) : Sn (kOne m q) (kCons m q (kOne n r)) n r (fun a x => (a, x)) :=
  ⟨fun z => (by rw [List.mem_singleton.mp z, beq_self_eq_true] at ne; cases ne), (by show 1 < 15; decide), fun a x kvs v F ⟨w, e, h⟩ hr => ⟨w, [(Sum.inr n, v)], by rw [e]; rfl, h, v, rfl, hr⟩⟩
theorem sn_cons {m n : Str} {q : R β} {s : RK α} {s' : RK δ} {r : R γ} {g : α → γ → δ} (ne : (n == m) = false) (h : Sn s s' n r g) (hl : s.ks.length < 14) : Sn (kCons m q s) (kCons m q s') n r (fun a x => (a.1, g a.2 x)) :=
  ⟨fun z => (List.mem_cons.mp z).elim (fun z => by rw [z, beq_self_eq_true] at ne; cases ne) h.1, (by show s.ks.length + 1 < 15; omega), fun a x kvs v F ⟨w, ws, e, h1, h2⟩ hr => ⟨w, ws ++ [(Sum.inr n, v)], by rw [e]; rfl, h1, h.2.2 _ _ _ _ _ h2 hr⟩⟩
theorem Env.cellT {c : C γ} {c' : C δ} {i : Nat} {p : Addr} {a : γ} {a' : δ} {u : HO} (V : Env b G σ F H) (hi : G[i]? = some (own p c a)) (h' : c'.h a' u F) : Env b (G.set i (own p c' a')) σ F (upd H p u) :=
  V.cNew hi ⟨Ex.refl _, ex_mut (V.on p (mem_owns hi List.mem_cons_self)).1 V.fh, fun x o hm hx => by rw [upd_ne (fun z => hm (by rw [z]; exact List.mem_cons_self))]; exact hx, fun x hx => by
    by_cases z : x = p
    · subst z; rw [upd_same]; exact fun z => nomatch z
    · rw [upd_ne z]; exact hx, fun _ h _ => h⟩ ⟨u, upd_same, h'⟩
/-- xs.extend(ys) -/
theorem s_ext {i : Nat} {p : Addr} {te : TE} {r : R α} {xs : List α} {f : (List α → Prop) → Prop} (hi : G[i]? = some (own p (cLst r) xs)) (h : E b G te (rLst r) f) :
    S b G (tDrop (tBM K "list" rExtend (tVar i) (tCons te tNil))) (fun ys : List α => G.set i (own p (cLst r) (xs ++ ys))) Gl ro (fun d => f fun ys => xs.length + ys.length ≤ sizeLine ∧ d.nx ys) := fun σ F H D d V q w1 _ _ _ => by
  obtain ⟨o, h1, rfl, u, h2, vs, rfl, h3⟩ := V.hold.at_ hi
  refine ⟨.ref p, h1, ty_l h2, ?_⟩
  refine h _ V q ?_
  rintro ys v F1 H1 q1 A1 V1 ⟨y, ws, rfl, hy, r1⟩
  obtain ⟨o, h1', e, u, h2, vs, rfl, h3⟩ := V1.hold.at_ hi
  rw [h1] at h1'; cases h1'
  refine ⟨p, y, vs, ws, rfl, rfl, h2, V1.fh _ _ hy, by rw [h3.len, r1.len]; exact q1.1, w1 ys _ F1 _ q1.2 A1.ff ?_⟩
  exact V1.cellT hi ⟨_, rfl, Dh.paired_app h3 r1⟩
/-- d[..] = e, a new written key -/
theorem s_rput {i : Nat} {p : Addr} {tv : TE} {s : RK α} {s' : RK δ} {n : Str} {r : R γ} {g : α → γ → δ} {a : α} {f : (γ → Prop) → Prop} (S1 : Sn s s' n r g) (hi : G[i]? = some (own p (cRec s) a)) (hv : E b G tv r f) :
    S b G (sDPut (tVar i) (tC (.str n)) tv) (fun y : γ => G.set i (own p (cRec s') (g a y))) Gl ro (fun d => f d.nx) := fun σ F H D d V q w1 _ _ _ => by
  refine hv _ V q ?_
  intro x v F1 H1 q1 A1 V1 r1
  obtain ⟨o, h1, rfl, u, h2, kvs, rfl, h3⟩ := V1.hold.at_ hi
  refine ⟨.ref p, h1, p, _, rfl, DPut.k (k := Sum.inr n) h2 ?_, w1 x _ F1 _ q1 A1.ff (V1.cellT hi ⟨_, rfl, ?_⟩)⟩
  · have := congrArg List.length (s.kk h3)
    rw [List.length_map, List.length_map] at this
    have := S1.2.1
    exact Nat.lt_of_lt_of_le (show kvs.length < 15 by omega) (by decide)
  · unfold putK
    rw [if_neg]
    · exact S1.2.2 _ _ _ _ _ h3 r1
    · intro z
      obtain ⟨y, hy, e⟩ := List.any_eq_true.mp z
      have hk := s.kk h3
      have : y.1 ∈ kvs.map (·.1) := List.mem_map_of_mem hy
      rw [hk] at this
      obtain ⟨m, hm, e2⟩ := List.mem_map.mp this
      rw [of_decide_eq_true e] at e2
      cases e2
      exact S1.1 hm
theorem enc_disp {s : RK α} {ts : List (TE × TE)} {f : (α → Prop) → Prop} (h : Prs b G ts s f) (nd : s.ks.Nodup) (l : s.ks.length ≤ 15) : ENc b G (tDisp ts) (cRec s) f := fun σ F H Q k V q w p hp => by
  have B := After.fresh (o := .dK []) V.fh hp []
  have V1 := V.step B
  have nO : p ∉ owns G := fun z => V.hold.live p z hp
  have fp : F p = none := ex_none V.fh hp
  refine h _ V1 q ?_
  rintro a ps F2 H2 q2 A2 V2 ⟨kvs, rfl, hs⟩
  have hp2 : H2 p = some (.dK []) := A2.hh p _ nO upd_same
  have fp2 : F2 p = none := A2.nf p fp (by rw [upd_same]; exact fun z => nomatch z)
  have hb : b.H p = none := by
    cases e : b.H p with
    | none => rfl
    | some u => exact absurd hp (V.kp p (by rw [e]; exact fun z => nomatch z))
  have V3 : Env b G σ F2 (upd H2 p (.dK kvs)) := V2.poke nO fp2 hb
  have A3 : After F H (owns G) F2 (upd H2 p (.dK kvs)) := by
    have A' := (B.mono (M' := owns G) fun _ h => nomatch h).trans A2
    have n1 : ∀ {x : Addr}, H x ≠ none → x ≠ p := fun h z => h (by rw [z]; exact hp)
    exact ⟨A'.ff, ex_mut fp2 A'.fh, fun x o hm hx => by rw [upd_ne (n1 (by rw [hx]; exact fun z => nomatch z))]; exact A'.hh x o hm hx, fun x hx => by rw [upd_ne (n1 hx)]; exact A'.kp x hx, A'.nf⟩
  have e : mergeK [] kvs = kvs := by
    rw [merge_new (by rw [s.kk hs]; exact nodup_inr nd) (fun _ _ q hq => absurd hq (by simp))]; rfl
  have ln : kvs.length ≤ 15 := by
    have := congrArg List.length (s.kk hs)
    rw [List.length_map, List.length_map] at this
    omega
  refine ⟨hp2, kvs, rfl, ln, ?_⟩
  rw [e]
  exact w a p _ F2 _ q2 A3 V3 hp fp2 upd_same ⟨kvs, rfl, hs⟩
end
end Mi
namespace Dh
open PySem PySem.Spec L2
section
variable {prog : Program} {w : World} {A : Around} {E : Value → Shared → Prop} {s : Shared} {K : PySem.W.Frag} {x y C L f : Addr} {h₀ : Heap} {m : Str → Option Value} {ox oy : Obj} {od odd : Option Obj}
/-- a op b, both of one own class that has the operator -/
theorem bin_same {op : Operator} {Q : Value → Shared → Prop} (Fr0 : PyProof.Rows.Fr h₀ L s.heap m) (X₀ : K.In h₀) (I : PySem.W.InstAt s.heap x ox C od) (J : PySem.W.InstAt s.heap y oy C odd) (hc : PySem.W.selfFirst K C = true)
    (hs : PySem.W.findIn K (.ref C) (PySem.dunder op.info.2) = some (some (.ref f))) (hf : PySem.W.isFn K (.ref f) = true)
    (h : wpAny (model prog w) A (call (.ref f) [.ref x, .ref y]) (PySem.W.CmpBack Q) E s) : wpAny (model prog w) A (binaryOp op (.ref x) (.ref y)) Q E s := by
  have X := X₀.keeps Fr0.keep
  obtain ⟨cd, rest, hcd, hm⟩ := PySem.W.ksp_first hc
  rcases hi : op.info with ⟨sym, nm'⟩
  rw [hi] at hs
  dsimp only at hs
  have one := PySem.W.ksp_try X I hs hf h
  obtain ⟨hh, g, d, tt, os⟩ := s
  have L1 : PySem.W.Looks (model prog w) hh (typeOf (.ref x)) (.ref C) := I.type
  have L2 : PySem.W.Looks (model prog w) hh (typeOf (.ref y)) (.ref C) := J.type
  have L3 : PySem.W.Looks (model prog w) hh (fillsNumberSlot (.ref C) nm') true := PySem.W.fills_K X hcd hm hs
  simp only [binaryOp, hi]
  refine wpAny_holding (wpAny_bind ?_)
  unfold binaryOp1
  refine wpAny_bind (L1.at (wpAny_bind (L2.at (wpAny_bind (L3.at ?_)))))
  simp only [beq_self_eq_true, if_true]
  ksp_lk
  refine wpAny_mono one (fun r s' hr' => ?_) fun _ _ e => e
  obtain ⟨v, rfl, hq⟩ := hr'
  ksp_lk
  exact hq
end
section
variable {X : Cx} {CX : CXT} {k : Nat} {f C : Addr} {fd : FuncData} {ps : List Str} {sp : Sp} {E : XK}
def rOwnS (C : Addr) (sp : Sp) (E : XK) : R2 := fun x y H Q => ∃ a dx fs c dy gs, x = .ref a ∧ y = .ref c ∧ H a = some (.ins C dx fs) ∧ H c = some (.ins C dy gs) ∧ sp [x, y] H Q E
theorem op_ownS {op : Operator} (F : FnOk X.prog X.w X.K X.mg X.base CX k f fd ps sp) (hr : Room k X.A) (hc : PySem.W.selfFirst X.K C = true)
    (hs : PySem.W.findIn X.K (.ref C) (PySem.dunder op.info.2) = some (some (.ref f))) (hf : PySem.W.isFn X.K (.ref f) = true) (hb : Binds X.K fd ps []) (hx : Passes CX X E) : OpR X (binaryOp op) (rOwnS C sp E) := by
  intro pins s σ H x y v u Q I rx ry h
  obtain ⟨a, dx, fs, c, dy, gs, rfl, rfl, ha, hy, hsp⟩ := h
  obtain rfl : v = Value.ref a := rx
  obtain rfl : u = Value.ref c := ry
  obtain ⟨mA, J, _⟩ := ins_get I.hok ha
  obtain ⟨od, J, _⟩ := J.look
  obtain ⟨mB, J2, _⟩ := ins_get I.hok hy
  obtain ⟨od2, J2, _⟩ := J2.look
  obtain ⟨m, hF⟩ := I.fr
  refine bin_same hF I.ok.mod.kin J J2 hc hs hf ?_
  refine wpAny_mono (run_fn (us := [.ref a, .ref c]) (ds := []) (dvs := []) F hr hb .nil hx I (.cons (show RelV (.ref a) (.ref a) from rfl) (.cons (show RelV (.ref c) (.ref c) from rfl) .nil)) (by simpa using hsp)) (fun u s' q => cmpBack_of q) fun _ _ e => e
end
end Dh
/-! Gd -/
set_option Elab.async false
set_option linter.all false
set_option maxRecDepth 100000
set_option maxHeartbeats 4000000
/-! defs that are called where nothing is being shown (repr): repr of data -/
namespace L2
open PySem PySem.Spec PyProof.Rows
section
variable {P : Program} {w : World} {K : PySem.W.Frag} {mg : Str → Option Value} {base : Heap} {CF : CXT} {k : Nat} {f : Addr} {fd : FuncData} {ps : List Str} {sp : Sp}
/-- as FnOk, where no repr is under way -/
structure FnG (P : Program) (w : World) (K : PySem.W.Frag) (mg : Str → Option Value) (base : Heap) (CF : CXT) (k : Nat) (f : Addr) (fd : FuncData) (ps : List Str) (sp : Sp) : Prop where
  len : ∀ vs H Q E, sp vs H Q E → vs.length = ps.length
  run : ∀ (A : Around) (out : List Env) (s : Shared) (H : Hp) (args : Args) (us : List Value) (vs : List V) (Q : VK) (E : XK), A.guards = some [] → Room k A → Env0 P w K mg base A out s H → BindsTo s fd args (ps.zip us) → Vals vs us → sp vs H Q E →
    codeAny (model P w) A (.call (.ref f) args) (CR CF out P w H s Q E) s
theorem FnG.imp {sp' : Sp} (F : FnG P w K mg base CF k f fd ps sp) (h : ∀ vs H Q E, sp' vs H Q E → sp vs H Q E) : FnG P w K mg base CF k f fd ps sp' :=
  ⟨fun _ _ _ _ q => F.len _ _ _ _ (h _ _ _ _ q), fun A o s H ar us vs Q E g r e b v q => F.run A o s H ar us vs Q E g r e b v (h _ _ _ _ q)⟩
theorem okG {x qual : Str} {st : Stmt} {N : List Str} (F : Fun K x qual st f fd) (S : FnScope N ps (defScope st)) (len : ∀ vs H Q E, sp vs H Q E → vs.length = ps.length)
    (body : ∀ (cv : Value) (A : Around) (out : List Env) (s : Shared) (H : Hp) (vs : List V) (Q : VK) (E : XK), A.guards = some [] → Room k (A.deeper (envOfC qual (defScope st) s.heap.objs.size f cv)) → sp vs H Q E →
      ∃ t, PSs (cxOf CX0 P w K mg base N qual (defScope st) f cv A out s H E).nox (defBody st) t ∧ t { nx := fun _ H' => Q .non H', rt := Q } (start N vs) H) : FnG P w K mg base CX0 (k + 1) f fd ps sp := by
  obtain ⟨_, _, _, _, _, _, cv, _, _, rfl, lk, hcd⟩ := F.ex
  refine ⟨len, fun A out s H args us vs Q E gd hr ev bt rel hsp => ?_⟩
  have same := fun b o e => (ev.bs b o e).1
  have kin : K.In s.heap := ev.mod.kin.keeps same
  have kinds : ∀ y ∈ ps.zip us, (defScope st).names.lookup y.1 = some .local ∨ ((defScope st).names.lookup y.1 = some .cell ∧ ((cellsFrom (s.heap.objs.size + 1) (defScope st).names []).lookup y.1).isSome = true) := fun y hy =>
    (S.par y.1 (List.of_mem_zip hy).1).imp id fun c => ⟨c, PySem.W.cellsFrom_some _ _ _ (.inl c)⟩
  refine codeAny_call_function hr.depth (kin _ _ lk) rfl S.co S.gen rfl (PySem.W.codeRec_of kin hcd) (bt _ _ _ _ (wpAny_newFunctionEnv_cells S.kind kinds fun env he s1 xx => ?_))
  subst he
  obtain ⟨t, ht, hq⟩ := body cv A out s H vs Q E gd (hr.deeper _) hsp
  refine ⟨(ev.mod.nolimit.keeps same).keeps xx.toInCall.keep, codeAny_func (wpAny_mono (ht.nox.run [] s1 (start N vs) H _ (inv_start S hr.hd ev (len _ _ _ _ hsp) rel xx) hq) (fun fl s' hs => ?_) fun _ _ z => z)⟩
  cases fl with
  | next =>
    obtain ⟨_, H', J, q⟩ := hs
    exact ⟨V.non, H', J.os, J.bare, J.base, J.hok, (rfl : RelV V.non Value.none), q⟩
  | ret u =>
    obtain ⟨v, _, H', J, rv, q⟩ := hs
    exact ⟨v, H', J.os, J.bare, J.base, J.hok, rv, q⟩
  | brk => exact hs.elim fun _ z => z.elim fun _ z => z.2.elim
  | cont => exact hs.elim fun _ z => z.elim fun _ z => z.2.elim
end
section
variable {X : Cx} {CF : CXT} {k : Nat} {f : Addr} {fd : FuncData} {ps : List Str} {sp : Sp} {E : XK} {x : Str} {p pos : Pos} {e : Expr} {es : List Expr} {t : TA}
theorem run_fnG {pins : List (Addr × Obj)} {σ : St} {H : Hp} {s : Shared} {Q : VK} {us : List Value} {vs : List V} (gd : X.A.guards = some []) (F : FnG X.prog X.w X.K X.mg X.base CF k f fd ps sp) (hr : Room k X.A) (hb : Binds X.K fd ps []) (hx : Passes CF X E)
    (I : Inv X pins σ H s) (r : Vals vs us) (h : sp vs H Q E) : wpAny (model X.prog X.w) X.A (call (.ref f) us) (EP X pins σ Q) X.xe s := by
  have b := hb s us I.kIn (by rw [List.append_nil, ← r.length]; exact F.len _ _ _ _ h)
  rw [List.append_nil] at b
  refine wpAny_call (codeAny_mono (F.run X.A X.stack s H ⟨us, []⟩ us vs Q E gd hr I.env0 b r h) fun z s' hq => ?_)
  cases z with
  | error e => exact hx pins σ H s e s' I hq
  | ok fl =>
    cases fl with
    | ret u => exact I.after hq
    | next => exact False.elim hq
    | brk => exact False.elim hq
    | cont => exact False.elim hq
theorem pe_callG (gd : X.A.guards = some []) (F : FnG X.prog X.w X.K X.mg X.base CF k f fd ps sp) (hr : Room k X.A) (hg : Gl X x) (hm : X.mg x = some (.ref f)) (hk : PySem.W.keepIn X.K (.ref f) = true) (hb : Binds X.K fd ps []) (hx : Passes CF X E)
    (ha : PA X (e :: es) t) (hdb : (x == ("__debug__" : Str)) = false := by decide) (he : starEach (e :: es) X.env = (false, eval e X.env) :: starEach es X.env := by rfl) (hpl : (backTo pos (starEach es X.env)).any (·.1) = false := by rfl) :
    PE X (.Call (.Name x p) (e :: es) [] pos) (tCall sp [] E t) := ⟨fun pins s σ H Q I h =>
  wpAny_Call_Name_kw (ld_glob I hg hm (PySem.W.callWith_K (h₀ := X.base) I.ok.mod.kin hk (thn (ha.run pos pins s σ H _ I h) fun us s1 ⟨vs, H1, I1, r, q⟩ => ⟨I1.kIn, run_fnG gd F hr hb hx I1 r (by simpa using q)⟩) he hpl) hdb)⟩
/-- repr of a list or a tuple of data -/
def rRepr (K : PySem.W.Frag) : List V → Hp → VK → Prop := fun xs H Q => ∃ (a : Addr) (d : PyData), xs = [.ref a] ∧ Dp K H (.ref a) d ∧ d.showable = true ∧ d.hasDict = false ∧ d.depth ≤ 40 ∧ d.shown.length ≤ sizeLine ∧ Q (.str d.shown) H
theorem call_reprD (gd : X.A.guards = some []) (hu : X.A.units + 100 < cLine) : CallR X (.builtin "repr") (rRepr X.K) := by
  intro pins s σ H xs us Q I r h
  obtain ⟨a, d, rfl, dp, sh, nd, dl, sz, q⟩ := h
  obtain rfl := Vals.ref1 r
  obtain ⟨as, rd⟩ := Dp.reads I d (.ref a) (.ref a) dp rfl
  refine repr_of_reads' rd sh (fun z => by rw [nd] at z; cases z) gd (by omega) (fun _ _ e => e) (fun h' u tk hk => ?_) sz
  exact ⟨.str d.shown, H, I.kept hk, ⟨u, rfl⟩, q⟩
end
end L2
/-! Gd2 -/
set_option Elab.async false
set_option linter.all false
set_option maxRecDepth 100000
set_option maxHeartbeats 4000000
/-! the law's call, where its def is an FnG -/
namespace L2
open PySem PySem.Spec PyProof.Rows
section
variable {P : Program} {w : World} {K : PySem.W.Frag} {mg mb : Str → Option Value} {CF : CXT} {k : Nat} {fa a : Addr} {fd : FuncData} {x : Str} {sp : Sp} {s₁ : Shared} {vs : List Value} {ns : List Int}
/-- .. from a heap H in which at most the script stands -/
theorem lawG_at {H : Hp} (KX : K.In s₁.heap) (hns : s₁.heap.Ns mainGlobals mg) (hb : s₁.heap.Ns builtinsNs mb) (hbb : ∀ x : Str, x ≠ "__name__" → mb x = bootBuiltins x) (hlim : s₁.heap.NoLimit) (hg : s₁.gens = #[])
    (ha : s₁.heap.get? a = some { cls := .type "list", data := .seq vs.toArray }) (hr : Room k callerA)
    (F : ∀ base : Heap, K.In base → base.Ns mainGlobals mg → FnG P w K mg base CF k fa fd [x] sp) (hbind : ∀ (s : Shared) (u : Value), BindsTo s fd ⟨[u], []⟩ [(x, u)])
    (hsp : sp [.ref a] H (fun v _ => v = .bl true) fun _ _ _ => False) (hCX : ∀ e s', CF [] H s₁ (fun _ _ _ => False) e s' → False)
    (only : Only H) (hok : HOk P w H s₁.heap) (one : ∀ b, H b ≠ none → b = a) (lk : H a ≠ none → K.lookup a = none) :
    codeAny (model P w) callerA (.call (.ref fa) ⟨[.ref a], []⟩) (fun r s' => r = .ok (.ret (.bool true)) ∧ OldK s₁.heap s'.heap ∧ s'.os = s₁.os ∧ AllBare s'.gens) s₁ := by
  have vis : ∀ {b : Addr} {o : Obj}, s₁.heap.get? b = some o → H b = none → (hidT s₁.heap H).get? b = some o := fun e n => hidT_get e n
  have dictNo : ∀ {b : Addr} {o : Obj} {es : Array DictEntry} {ep : Nat}, s₁.heap.get? b = some o → o.data = .dict es ep → H b = none := fun {b o es ep} e d => Classical.byContradiction fun z => by
    rw [one b z, ha] at e
    cases e
    exact absurd (show Data.seq vs.toArray _ = Data.dict es ep from d) (fun y => by cases y)
  have ns2 : ∀ {b : Addr} {m : Str → Option Value}, s₁.heap.Ns b m → (hidT s₁.heap H).Ns b m := fun ⟨o, es, ep, e, d, r⟩ => ⟨o, es, ep, vis e (dictNo e d), d, r⟩
  have kb : K.In (hidT s₁.heap H) := fun b o e => vis (KX b o e) (Classical.byContradiction fun z => by
    have q := one b z
    subst q
    rw [lk z] at e; cases e)
  obtain ⟨mc, m1, m2⟩ := hlim
  have md : Mod K mg (hidT s₁.heap H) := ⟨kb, ns2 hns, ⟨mb, ns2 hb, hbb⟩, mc, ns2 m1, m2⟩
  have ev : Env0 P w K mg (hidT s₁.heap H) callerA [] s₁ H := ⟨rfl, md, fun _ _ z => of_hidT z, Nat.le_of_eq (hidT_size _ _), trivial, fun b z => (by nomatch z), hok, .of_eq hg⟩
  refine codeAny_mono ((F _ kb (ns2 hns)).run callerA [] s₁ H ⟨[.ref a], []⟩ [.ref a] [.ref a] _ _ rfl hr ev (hbind s₁ (.ref a)) (.cons rfl .nil) hsp) fun r s' h => ?_
  cases r with
  | error e => exact (hCX e s' h).elim
  | ok fl =>
    cases fl with
    | ret u =>
      obtain ⟨v, H', os, bare, un, hok', rv, (e : v = .bl true)⟩ := h
      subst e
      cases (show u = Value.bool true from rv)
      refine ⟨rfl, OldK.of_keep fun b o e => ?_, os, bare⟩
      cases q : H b with
      | none => exact un.keep b o e q (fun z => (by nomatch z)) (by simp)
      | some y =>
        rcases only b with z | ⟨ob, xs, z⟩
        · rw [q] at z; cases z
        · have g1 := (hok b _ z).1
          have g2 := (hok' b _ (un.frzs b ob _ z)).1
          rw [e] at g1; cases g1
          exact g2
    | next => exact False.elim h
    | brk => exact False.elim h
    | cont => exact False.elim h
theorem lawG_call (KX : K.In s₁.heap) (hns : s₁.heap.Ns mainGlobals mg) (hb : s₁.heap.Ns builtinsNs mb) (hbb : ∀ x : Str, x ≠ "__name__" → mb x = bootBuiltins x) (hlim : s₁.heap.NoLimit) (hg : s₁.gens = #[])
    (ha : s₁.heap.get? a = some { cls := .type "list", data := .seq vs.toArray }) (hi : IntsAre vs ns) (hl : ns.length ≤ sizeLine) (hr : Room k callerA)
    (F : ∀ base : Heap, K.In base → base.Ns mainGlobals mg → FnG P w K mg base CF k fa fd [x] sp) (hbind : ∀ (s : Shared) (u : Value), BindsTo s fd ⟨[u], []⟩ [(x, u)])
    (hsp : ∀ H : Hp, Only H → SqL K H a (ns.map V.int) → sp [.ref a] H (fun v _ => v = .bl true) fun _ _ _ => False) (hCX : ∀ H e s', CF [] H s₁ (fun _ _ _ => False) e s' → False) :
    codeAny (model P w) callerA (.call (.ref fa) ⟨[.ref a], []⟩) (fun r s' => r = .ok (.ret (.bool true)) ∧ OldK s₁.heap s'.heap ∧ s'.os = s₁.os ∧ AllBare s'.gens) s₁ := by
  have rel := vals_ints hi
  have len := hi.length
  cases hk : K.lookup a with
  | some o =>
    have e := (KX a o hk).symm.trans ha
    cases e
    have O : Only (fun _ => none) := fun _ => .inl rfl
    refine lawG_at (H := fun _ => none) KX hns hb hbb hlim hg ha hr F hbind (hsp _ O (.inr ⟨_, vs.toArray, _, hk, rfl, rfl, rfl, by rw [List.size_toArray, len]; exact hl, by simpa using rel⟩)) (hCX _) O (fun b u z => (by cases z)) (fun b z => absurd rfl z) fun z => absurd rfl z
  | none =>
    have h1 : ∀ b, b ≠ a → (if b = a then some (HO.frz { cls := .type "list", data := .seq vs.toArray } (.lst (ns.map V.int))) else none) = none := fun b n => if_neg n
    have h2 : (if a = a then some (HO.frz { cls := .type "list", data := .seq vs.toArray } (.lst (ns.map V.int))) else none) = some (HO.frz { cls := .type "list", data := .seq vs.toArray } (.lst (ns.map V.int))) := if_pos rfl
    generalize hH : (fun b : Addr => if b = a then some (HO.frz { cls := .type "list", data := .seq vs.toArray } (.lst (ns.map V.int))) else none) = H
    have n1 : ∀ b, b ≠ a → H b = none := fun b n => by rw [← hH]; exact h1 b n
    have n2 : H a = some (.frz { cls := .type "list", data := .seq vs.toArray } (.lst (ns.map V.int))) := by rw [← hH]; exact h2
    have O : Only H := fun b => by
      by_cases z : b = a
      · exact .inr ⟨_, _, z ▸ n2⟩
      · exact .inl (n1 b z)
    refine lawG_at (H := H) KX hns hb hbb hlim hg ha hr F hbind (hsp _ O (.inl (.inr ⟨_, n2⟩))) (hCX _) O (fun b u z => ?_) (fun b z => Classical.byContradiction fun y => z (n1 b y)) fun _ => hk
    by_cases y : b = a
    · subst y
      rw [n2] at z; cases z
      exact ⟨ha, by rw [List.length_map]; exact hl, vs, _, rel, ha⟩
    · rw [n1 b y] at z; cases z
end
theorem walk_ofG {l : PySem.W.OpenLaw} {n k : Nat} {q : Program} {loose : List Str} {XP : (Str → Option Value) → Heap → Prop} {YP : World → Heap → Prop} {d : DefRec} {K : Params → PySem.W.Frag} {CF : World → CXT} {sp : World → Sp} {x : Str}
    (hn : l.most = some n) (hn2 : n ≤ sizeLine) (hdf : d.params.defaults = []) (hr : Room k callerA) (hY : ∀ (w : World) (h : Heap), YP w h → (K w.params).In h)
    (F : ∀ (w : World) (mg : Str → Option Value) (fa : Addr) (h : Heap), (K w.params).In h → h.Ns mainGlobals mg → mg d.name = some (.ref fa) → ∃ fd : FuncData, (∀ (s : Shared) (u : Value), BindsTo s fd ⟨[u], []⟩ [(x, u)]) ∧
      ∀ base : Heap, (K w.params).In base → base.Ns mainGlobals mg → FnG l.prog w (K w.params) mg base (CF w) k fa fd [x] (sp w))
    (hsp : ∀ (w : World) (H : Hp) (a : Addr) (ns : List Int), ns.length ≤ n → Only H → SqL (K w.params) H a (ns.map V.int) → sp w [.ref a] H (fun v _ => v = .bl true) fun _ _ _ => False)
    (hCX : ∀ (w : World) (H : Hp) (s : Shared) (e : Value) (s' : Shared), CF w [] H s (fun _ _ _ => False) e s' → False) : PySem.W.WalkO q loose XP YP l.row.toRowW d [] (fun f vs => PySem.call f vs) :=
  Att.attach_call hn hdf fun w s₀ s₁ mg mb fa o pm cd doc a vs ns G Y ho hd hcd hmg hobj hints hlen hg =>
    let ⟨fd, hb, hF⟩ := F w mg fa _ (hY w _ Y) G.T.g hmg
    lawG_call (hY w _ Y) G.T.g G.T.b G.T.builtins G.T.nolimit hg hobj hints (Nat.le_trans hlen hn2) hr hF hb (fun H hO hS => hsp w H a ns hlen hO hS) fun H e s' => hCX w H s₁ e s'
end L2
/-! Mir11 -/
set_option Elab.async false
set_option linter.all false
set_option maxRecDepth 100000
set_option maxHeartbeats 4000000
/-! new things out of a def, repr, [x] * n -/
namespace Mi
open PySem PySem.Spec L2 Dh
open _root_.Evl (Ex)
section
variable {K : PySem.W.Frag} {b : Bs} {G : List Sl} {α β γ δ τ τ' ρ ε : Type} {Gn : τ → List Sl} {Gl : ε → List Sl} {ro : ρ → V → Hp → Hp → Prop} {σ : L2.St} {F H F' H' : Hp}
theorem un100 {A : Around} {k : Nat} (hr : Room k A) : A.units + 100 < cLine := by have := hr.un; omega
/-! ### a def whose answer is a new own thing -/
def spN (s : RI α) (c : C β) (g : α → (β → Prop) → Prop) : Sp := fun vs H Q _ => ∃ (x : α) (F : Hp) (k : β → Prop), Ex F H ∧ s.h x vs F ∧ g x k ∧ ∀ y p u F' H', k y → After F H [] F' H' → H p = none → F' p = none → H' p = some u → c.h y u F' → Q (.ref p) H'
theorem spN_len {s : RI α} {c : C β} {g : α → (β → Prop) → Prop} {vs : List V} {Q : VK} {Ek : XK} (h : spN s c g vs H Q Ek) : vs.length = s.n := by
  obtain ⟨a, F, k, _, hs, _⟩ := h; exact s.ln hs
/-- what such a def gives -/
def RN (b : Bs) (c : C β) (y : β) (v : V) (F H : Hp) : Prop := ∃ p u, v = .ref p ∧ b.H p = none ∧ F p = none ∧ H p = some u ∧ c.h y u F
theorem run_N {s : RI α} {c : C β} {g : α → (β → Prop) → Prop} {N : List Str} {m : Nat} {t : TS} {vs : List V} {Q : VK} {Ek : XK} {Gn : Bs → α → τ → List Sl} {f : α → Pd τ Unit β → Prop} (h : spN s c g vs H Q Ek) (hN : N.length = s.n + m)
    (hS : ∀ b x, b.M = [] → S b (s.sl x ++ List.replicate m any) t (Gn b x) (fun _ : Unit => []) (RN b c) (f x)) (hg : ∀ x k, g x k → f x ⟨fun _ => False, fun _ => False, fun _ => False, k⟩) :
    t { nx := fun _ H' => Q .non H', rt := Q } (L2.start N vs) H := by
  obtain ⟨x, F, k, e, hs, q, w⟩ := h
  have hl := s.ln hs
  refine S.go (hS ⟨F, H, [], fun _ h => nomatch h⟩ x rfl) (L2.start N vs) F H _ ⟨fun _ => False, fun _ => False, fun _ => False, k⟩ ?_ (hg x k q) (fun _ _ _ _ h => h.elim) (fun _ _ _ _ h => h.elim) (fun _ _ _ _ h => h.elim) (fun y v F' H' hk A ⟨p, u, e1, e2, e3, e4, e5⟩ => by rw [e1]; exact w y p u F' H' hk A e2 e3 e4 e5)
  have ow : owns (s.sl x ++ List.replicate m any) = [] := by rw [owns_app, s.no, owns_any]; rfl
  refine ⟨Ex.refl _, e, fun _ _ _ h => h, fun _ h => h, fun _ h _ => h, ?_, by rw [ow]; exact List.nodup_nil, fun p hp => by rw [ow] at hp; nomatch hp⟩
  unfold L2.start
  have : N.length - vs.length = m := by omega
  rw [this]
  exact paired_app' (s.hs hs) holds_any
theorem s_retO {i : Nat} {p : Addr} {c : C α} {a : α} (hi : G[i]? = some (own p c a)) (hm : b.M = []) : S b G (tRet (tVar i)) Gn Gl (RN b c) (fun d => d.rt a) := fun σ F H D d V q _ _ _ w4 => by
  obtain ⟨o, h1, rfl, u, h2, h3⟩ := V.hold.at_ hi
  refine ⟨.ref p, h1, ?_⟩
  obtain ⟨f1, f2⟩ := V.on p (mem_owns hi List.mem_cons_self)
  exact w4 a _ F H q V.after ⟨p, u, rfl, f2.resolve_left (by rw [hm]; exact fun z => nomatch z), f1, h2, h3⟩
theorem enc_callN {s : RI α} {c : C β} {g : α → (β → Prop) → Prop} {Ek : XK} {ta : TA} {f : (α → Prop) → Prop} (h : Ar b G ta s f) : ENc b G (tCall (spN s c g) [] Ek ta) c (fun k => f fun x => g x k) := fun σ F H Q k V q w => by
  refine h _ V q ?_
  intro x vs F1 H1 q1 A1 V1 r1
  show spN s c g (vs ++ []) H1 _ _
  rw [List.append_nil]
  refine ⟨x, F1, k, V1.fh, r1, q1, fun y p u F2 H2 q2 A2 h0 fp hp hc => w y p u F2 H2 q2 (A1.trans (A2.mono fun _ h => nomatch h)) (V1.step A2) ?_ fp hp hc⟩
  cases e : H p with
  | none => rfl
  | some z => exact absurd h0 (A1.kp p (by rw [e]; exact fun z => nomatch z))
theorem e_ofc {te : TE} {c : C α} {r : R α} {f : (α → Prop) → Prop} (hr : ∀ {a : α} {p : Addr} (u : HO) (F : Hp), c.h a u F → F p = some u → r.h a (.ref p) F) (h : ENc b G te c f) : E b G te r f := fun _ _ _ _ k V q w => h k V q fun a p u F' H' q' A V' h1 h2 h3 h4 => by
  obtain ⟨A2, V2⟩ := thaw V A V' h1 h2 h3
  exact w a _ _ H' q' A2 V2 (hr u _ (c.ex (Ex.new h2) h4) upd_same)
theorem enc_cast {te : TE} {c : C α} {c' : C γ} {m : α → γ} {f : (α → Prop) → Prop} (hc : ∀ a u F, c.h a u F → c'.h (m a) u F) (h : ENc b G te c f) : ENc b G te c' (fun k => f fun a => k (m a)) := fun _ _ _ _ k V q w => h _ V q fun a p u F' H' q' A V' h1 h2 h3 h4 => w (m a) p u F' H' q' A V' h1 h2 h3 (hc _ _ _ h4)
theorem all_some {r : R α} (n : NN r) {F : Hp} {xs : List α} {vs : List V} (h : All r F xs vs) : All (rOpt r) F (xs.map some) vs := by
  induction h with
  | nil => exact .nil
  | cons h t ih => exact .cons ⟨h, n h⟩ ih
theorem c_some {r : R α} (n : NN r) : ∀ (a : List α) u F, (cLst r).h a u F → (cLst (rOpt r)).h (a.map some) u F := fun a u F ⟨vs, h1, h2⟩ => ⟨vs, h1, all_some n h2⟩
theorem enc_some {te : TE} {r : R α} {f : (List α → Prop) → Prop} (n : NN r) (h : ENc b G te (cLst r) f) : ENc b G te (cLst (rOpt r)) (fun k => f fun a => k (a.map some)) := enc_cast (c_some n) h
/-! ### small things -/
theorem en_rep {ta te : TE} {r : R α} {f : (List α → Prop) → Prop} {g : (Int → Prop) → Prop} (h : LV b G ta r f) (h2 : E b G te rInt g) : EN b G (tOp rRep ta te) r (fun k => f fun xs => g fun n => (-(2 ^ 63) ≤ n ∧ n < 2 ^ 63 ∧ xs.length * n.toNat ≤ sizeLine) ∧ k (List.replicate n.toNat xs).flatten) := fun _ _ _ _ k V q w => by
  refine h _ V q ?_
  intro xs p F1 H1 q1 A1 V1 z
  refine h2 _ V1 q1 ?_
  rintro n v F2 H2 ⟨⟨q2, q3, q4⟩, q5⟩ A2 V2 e
  cases e
  obtain ⟨vs, k1, k2⟩ := z F2 H2 A2.ff V2
  refine ⟨p, n, vs, rfl, rfl, k1, q2, q3, by rw [k2.len]; exact q4, fun l hl => en_lay (A1.trans A2) V2 q5 ?_ w hl⟩
  generalize n.toNat = m
  induction m with
  | zero => exact .nil
  | succ m ih => rw [List.replicate_succ, List.replicate_succ, List.flatten_cons, List.flatten_cons]; exact Dh.paired_app k2 ih
theorem e_lenTp {te : TE} {s : RI α} {f : (α → Prop) → Prop} (h : E b G te (rTp K s) f) : E b G (tCB (rLenQ K) (tCons te tNil)) rInt (fun k => f fun _ => k (s.n : Int)) := fun _ _ _ _ k V q w => by
  refine h _ V q ?_
  rintro xs v F1 H1 q1 A1 V1 ⟨p, vs, e, hp, A⟩
  subst e
  exact ⟨p, vs, rfl, .inr (_root_.Evl.ex_t V1.fh hp), w _ _ F1 H1 q1 A1 V1 (by rw [s.ln A]; rfl)⟩
theorem e_isiL {te : TE} {r : R α} {f : (List α → Prop) → Prop} {c : String} {res : Bool} (hk : kitB "list" c = some res) (h : LV b G te r f) : E b G (tCB (rIsi K) (tCons te (tCons (tC (.ty c)) tNil))) rBl (fun k => f fun _ => k res) := fun _ _ _ _ k V q w => by
  refine h _ V q ?_
  intro x p F1 H1 q1 A1 V1 z
  obtain ⟨vs, k1, k2⟩ := z F1 H1 (Ex.refl _) V1
  exact ⟨_, _, _, _, res, rfl, .ty _, .base (.lst k1), kit_ty hk, w _ _ F1 H1 q1 A1 V1 rfl⟩
/-! ### repr -/
def dInt : Int → PyData := .int
def dStr : Str → PyData := .str
def dOpt (f : α → PyData) : Option α → PyData
  | none => .none
  | some a => f a
def dLst (f : α → PyData) (xs : List α) : PyData := .list (xs.map f)
def dTup (f : α → PyData) (xs : List α) : PyData := .tuple (xs.map f)
def dOne (f : α → PyData) (a : α) : List PyData := [f a]
def dCons (f : α → PyData) (g : β → List PyData) (a : α × β) : List PyData := f a.1 :: g a.2
def dTp (g : α → List PyData) (a : α) : PyData := .tuple (g a)
def Sw (K : PySem.W.Frag) (r : R α) (f : α → PyData) : Prop := ∀ {a v F}, r.h a v F → Dp K F v (f a)
def SwI (K : PySem.W.Frag) (s : RI α) (f : α → List PyData) : Prop := ∀ {a vs F}, s.h a vs F → DpAll K F vs (f a)
theorem swInt : Sw K rInt dInt := fun h => by cases h; exact .int _
theorem swStr : Sw K rStr dStr := fun h => by cases h; exact .str _
theorem swOpt {r : R α} {f : α → PyData} (d : Sw K r f) : Sw K (rOpt r) (dOpt f) := fun {a v F} h => by
  cases a with
  | none => cases h; exact .non
  | some a => exact d h.1
theorem swall {r : R α} {f : α → PyData} (d : Sw K r f) {F : Hp} {xs : List α} {vs : List V} (h : All r F xs vs) : DpAll K F vs (xs.map f) := by
  induction h with
  | nil => exact .nil
  | cons r t ih => exact .cons (d r) ih
theorem swLst {r : R α} {f : α → PyData} (d : Sw K r f) : Sw K (rLst r) (dLst f) := fun ⟨p, vs, e, h1, h2⟩ => by subst e; exact .lst (SqL.of h1) (swall d h2)
theorem swTup {r : R α} {f : α → PyData} (d : Sw K r f) : Sw K (rTup K r) (dTup f) := fun ⟨p, vs, e, h1, h2⟩ => by subst e; exact .tup h1 (swall d h2)
theorem swOne {r : R α} {f : α → PyData} (d : Sw K r f) : SwI K (rOne r) (dOne f) := fun ⟨v, e, h⟩ => by subst e; exact .cons (d h) .nil
theorem swCons {r : R α} {s : RI β} {f : α → PyData} {g : β → List PyData} (d : Sw K r f) (t : SwI K s g) : SwI K (rCons r s) (dCons f g) := fun ⟨v, ws, e, h1, h2⟩ => by subst e; exact .cons (d h1) (t h2)
theorem swTp {s : RI α} {g : α → List PyData} (t : SwI K s g) : Sw K (rTp K s) (dTp g) := fun ⟨p, vs, e, h1, h2⟩ => by subst e; exact .tup h1 (t h2)
def ShowOk (d : PyData) : Prop := d.showable = true ∧ d.hasDict = false ∧ d.depth ≤ 40 ∧ d.shown.length ≤ sizeLine
def IsRef (r : R α) : Prop := ∀ {a v F}, r.h a v F → ∃ p, v = .ref p
theorem ir_lst {r : R α} : IsRef (rLst r) := fun ⟨p, _, e, _⟩ => ⟨p, e⟩
theorem ir_tup {r : R α} : IsRef (rTup K r) := fun ⟨p, _, e, _⟩ => ⟨p, e⟩
theorem ir_tp {s : RI α} : IsRef (rTp K s) := fun ⟨p, _, e, _⟩ => ⟨p, e⟩
theorem e_repr {te : TE} {r : R α} {d : α → PyData} {f : (α → Prop) → Prop} (S : Sw K r d) (ir : IsRef r) (h : E b G te r f) : E b G (tCB (rRepr K) (tCons te tNil)) rStr (fun k => f fun a => ShowOk (d a) ∧ k (d a).shown) := fun _ _ _ _ k V q w => by
  refine h _ V q ?_
  intro a v F1 H1 q1 A1 V1 r1
  obtain ⟨p, e⟩ := ir r1
  subst e
  exact ⟨p, d a, rfl, dp_ex V1.fh (S r1), q1.1.1, q1.1.2.1, q1.1.2.2.1, q1.1.2.2.2, w _ _ F1 H1 q1.2 A1 V1 rfl⟩
theorem e_reprL {te : TE} {r : R α} {d : α → PyData} {f : (List α → Prop) → Prop} (S : Sw K r d) (h : LV b G te r f) : E b G (tCB (rRepr K) (tCons te tNil)) rStr (fun k => f fun a => ShowOk (dLst d a) ∧ k (dLst d a).shown) := fun _ _ _ _ k V q w => by
  refine h _ V q ?_
  intro a p F1 H1 q1 A1 V1 z
  obtain ⟨vs, h1, h2⟩ := z F1 H1 (Ex.refl _) V1
  exact ⟨p, dLst d a, rfl, .lst (SqL.of h1) (dpa_ex V1.fh (swall S h2)), q1.1.1, q1.1.2.1, q1.1.2.2.1, q1.1.2.2.2, w _ _ F1 H1 q1.2 A1 V1 rfl⟩
end
/-! ### ('BadSpell', spell), ('none', track), ('another', None) -/
inductive Td where
  | bad (s : Int × Int × Str)
  | ok (t : List Str)
  | an
def Td.tag : Td → Str
  | .bad _ => "BadSpell"
  | .ok _ => "none"
  | .an => "another"
section
variable {K : PySem.W.Frag} {b : Bs} {G : List Sl} {α β γ δ τ τ' ρ ε : Type}
abbrev rSp (K : PySem.W.Frag) : R (Int × Int × Str) := rTp K (rCons rInt (rCons rInt (rOne rStr)))
def rTd (K : PySem.W.Frag) : R Td := ⟨fun t v F => match t with
  | .bad s => (rTp K (rCons (rLit "BadSpell") (rOne (rSp K)))).h ((), s) v F
  | .ok l => (rTp K (rCons (rLit "none") (rOne (rTup K rStr)))).h ((), l) v F
  | .an => (rTp K (rCons (rLit "another") (rOne rNon))).h ((), ()) v F, fun {t _ _ _} e h => by
    cases t with
    | bad s => exact (rTp K (rCons (rLit "BadSpell") (rOne (rSp K)))).ex e h
    | ok l => exact (rTp K (rCons (rLit "none") (rOne (rTup K rStr)))).ex e h
    | an => exact (rTp K (rCons (rLit "another") (rOne rNon))).ex e h⟩
theorem e_tdBad {te : TE} {f : (Int × Int × Str → Prop) → Prop} (h : E b G te (rSp K) f) : E b G (tTup (tCons (tC (.str "BadSpell")) (tCons te tNil))) (rTd K) (fun k => f fun s => k (.bad s)) :=
  e_cast (r := rTp K (rCons (rLit "BadSpell") (rOne (rSp K)))) (g := fun x => Td.bad x.2) (fun a v F h => h) (e_tup (ar_cons e_lit (ar_one h)) (Nat.le_of_ble_eq_true rfl))
theorem e_tdOk {te : TE} {f : (List Str → Prop) → Prop} (h : E b G te (rTup K rStr) f) : E b G (tTup (tCons (tC (.str "none")) (tCons te tNil))) (rTd K) (fun k => f fun s => k (.ok s)) :=
  e_cast (r := rTp K (rCons (rLit "none") (rOne (rTup K rStr)))) (g := fun x => Td.ok x.2) (fun a v F h => h) (e_tup (ar_cons e_lit (ar_one h)) (Nat.le_of_ble_eq_true rfl))
theorem e_tdAn : E b G (tTup (tCons (tC (.str "another")) (tCons (tC .non) tNil))) (rTd K) (fun k => k Td.an) :=
  e_cast (r := rTp K (rCons (rLit "another") (rOne rNon))) (g := fun _ => Td.an) (fun a v F h => h) (e_tup (ar_cons e_lit (ar_one e_non)) (Nat.le_of_ble_eq_true rfl))
theorem td_sq {t : Td} {v : V} {F : Hp} (h : (rTd K).h t v F) : ∃ p u, v = .ref p ∧ SqT K F p [.str t.tag, u] ∧ ∀ l, t = .ok l → (rTup K rStr).h l u F := by
  cases t with
  | bad s =>
    obtain ⟨p, vs, e, h1, v, ws, e2, e3, v2, e4, h2⟩ := h
    cases e3; subst e4; subst e2
    exact ⟨p, _, e, h1, fun l z => nomatch z⟩
  | ok l =>
    obtain ⟨p, vs, e, h1, v, ws, e2, e3, v2, e4, h2⟩ := h
    cases e3; subst e4; subst e2
    exact ⟨p, _, e, h1, fun l z => by cases z; exact h2⟩
  | an =>
    obtain ⟨p, vs, e, h1, v, ws, e2, e3, v2, e4, h2⟩ := h
    cases e3; subst e4; subst e2
    exact ⟨p, _, e, h1, fun l z => nomatch z⟩
theorem e_td0 {te : TE} {f : (Td → Prop) → Prop} (h : E b G te (rTd K) f) : E b G (tOp (rIxT K) te (tC (.int 0))) rStr (fun k => f fun t => k (Td.tag t)) := fun _ _ _ _ k V q w => by
  refine h _ V q ?_
  intro t v F' H' q' A V' r
  obtain ⟨p, u, rfl, hp, _⟩ := td_sq r
  exact ⟨p, _, _, _, rfl, rfl, _root_.Evl.ex_t V'.fh hp, atI_nat (j := 0) rfl, w _ _ F' H' q' A V' rfl⟩
theorem e_td1 {te : TE} {f : (Td → Prop) → Prop} (h : E b G te (rTd K) f) : E b G (tOp (rIxT K) te (tC (.int 1))) (rTup K rStr) (fun k => f fun t => ∃ l, t = .ok l ∧ k l) := fun _ _ _ _ k V q w => by
  refine h _ V q ?_
  rintro t v F' H' ⟨l, e, q'⟩ A V' r
  obtain ⟨p, u, rfl, hp, hl⟩ := td_sq r
  exact ⟨p, _, _, _, rfl, rfl, _root_.Evl.ex_t V'.fh hp, atI_nat (j := 1) rfl, w _ _ F' H' q' A V' (hl l e)⟩
def dTd : Td → PyData
  | .bad s => .tuple [.str "BadSpell", .tuple [.int s.1, .int s.2.1, .str s.2.2]]
  | .ok l => .tuple [.str "none", .tuple (l.map .str)]
  | .an => .tuple [.str "another", .none]
theorem swTd : Sw K (rTd K) dTd := fun {t v F} h => by
  cases t with
  | bad s =>
    obtain ⟨p, vs, e, h1, v, ws, e2, e3, v2, e4, p2, vs2, e5, h2, v3, ws3, e6, h3, v4, ws4, e7, h4, v5, e8, h5⟩ := h
    subst e; cases e3; subst e4; subst e2; subst e5; subst e8; subst e7; subst e6
    cases h3; cases h4; cases h5
    exact .tup h1 (.cons (.str _) (.cons (.tup h2 (.cons (.int _) (.cons (.int _) (.cons (.str _) .nil)))) .nil))
  | ok l =>
    obtain ⟨p, vs, e, h1, v, ws, e2, e3, v2, e4, h2⟩ := h
    cases e3; subst e4; subst e2; subst e
    exact .tup h1 (.cons (.str _) (.cons (swTup (f := dStr) swStr h2) .nil))
  | an =>
    obtain ⟨p, vs, e, h1, v, ws, e2, e3, v2, e4, h2⟩ := h
    cases e3; subst e4; subst e2; subst e; cases h2
    exact .tup h1 (.cons (.str _) (.cons .non .nil))
theorem ir_td : IsRef (rTd K) := fun h => by obtain ⟨p, u, e, _⟩ := td_sq h; exact ⟨p, e⟩
end
end Mi
/-! EnumT -/
set_option Elab.async false
set_option linter.all false
set_option maxRecDepth 100000
set_option maxHeartbeats 4000000
/-! enumerate of a tuple -/
namespace L2
open PySem PySem.Spec PyProof.Rows
open Sem (wp)
open AutoSeq1 (wpAny_loadPart')
theorem meets_enumB1 {v : Value} {o : Obj} {H : Heap → Prop} (B : Begins v o H) :
    Meets (Builtin.«enumerate.__new__» ⟨[.type "enumerate", v], []⟩) (fun _ R s => H s.heap ∧
      R (.ok (.ret (.ref (s.heap.push o).objs.size))) { s with heap := (s.heap.push o).push { cls := .type "enumerate", data := .fields #[.none, .bool false, .ref s.heap.objs.size, rawInt 0, .none, .none] } }) :=
  .of_wp fun prog w A R s h => by
    obtain ⟨hp, g, d, tk, os⟩ := s; obtain ⟨h1, h⟩ := h
    have hsub := sub_enumerate
    have q1 : ∀ {A' : Around} {E : Value → Shared → Prop} {Q : Value → Shared → Prop}, Q (.ref hp.objs.size) ⟨hp.push o, g, d, tk, os⟩ → wpAny (model prog w) A' (pyIter v) Q E ⟨hp, g, d, tk, os⟩ :=
      fun q => B.iter prog w _ _ ⟨hp, g, d, tk, os⟩ _ h1 q
    wp_walk using q1
    refine wpAny_stack_any fun st => wpAny_pure ?_
    split
    · rename_i c _ _ _ _ _
      cases (c == Value.type "enumerate")
      · wp_walk using q1
        exact ⟨_, rfl, h⟩
      · wp_walk using q1
        exact ⟨_, rfl, h⟩
    · wp_walk using q1
      exact ⟨_, rfl, h⟩
section
variable {prog : Program} {w : World} {A : Around} {E : Value → Shared → Prop} {s : Shared}
theorem enum_begins1 {v : Value} {o : Obj} {H : Heap → Prop} {Q : Value → Shared → Prop} (B : Begins v o H) (h1 : H s.heap)
    (h : ∀ h', IsEnum h' (s.heap.objs.size + 1) s.heap.objs.size 0 .none → h'.get? s.heap.objs.size = some o → h'.objs.size = s.heap.objs.size + 2 →
      (∀ b o, s.heap.get? b = some o → h'.get? b = some o) → Q (.ref (s.heap.objs.size + 1)) { s with heap := h' }) :
    wpAny (model prog w) A (call (.type "enumerate") [v]) Q E s := by
  refine callType_new F.called_enumerate (by decide) (F.typeCall_enumerate_1 _) (F.newCall_enumerate_1 _) (fun obj => F.args_object_init_2 obj _) F.entry_enumerate_new (meets_enumB1 B) ⟨h1, ?_⟩
  have hz : (s.heap.push o).objs.size = s.heap.objs.size + 1 := Heap.size_push ..
  show _ ∧ _
  rw [hz]
  have he : IsEnum ((s.heap.push o).push { cls := .type "enumerate", data := .fields #[.none, .bool false, .ref s.heap.objs.size, rawInt 0, .none, .none] }) (s.heap.objs.size + 1) s.heap.objs.size 0 .none := by
    have := Heap.get?_push_size (s.heap.push o) (o := { cls := .type "enumerate", data := .fields #[.none, .bool false, .ref s.heap.objs.size, rawInt 0, .none, .none] }) rfl
    rw [hz] at this; exact this
  exact ⟨⟨_, he, rfl⟩, h _ he (Heap.get?_push_of_some _ (Heap.get?_push_size _ B.free)) (by rw [Heap.size_push, hz]) fun b o x => Heap.get?_push_of_some _ (Heap.get?_push_of_some _ x)⟩
end
/-- the tuple at a, each item in a new pair -/
def IteT (K : PySem.W.Frag) (a : Addr) : It :=
  ⟨fun i H => ∃ (xs : List V) (x : V), SqT K H a xs ∧ xs[i]? = some x, fun i H v H' => ∃ T x, v = .ref T ∧ H T = none ∧ H' = upd H T (.tup [.int (i : Nat), x]) ∧ ∀ xs, SqT K H a xs → xs[i]? = some x, fun i H => ∃ xs : List V, SqT K H a xs ∧ xs.length ≤ i⟩
theorem turn_enumT {P : Program} {w : World} {K : PySem.W.Frag} {elts : List Expr} {kk : Nat} {tpos : Pos} (a e it : Addr) :
    Turn P w K (.Tuple elts kk tpos) (IteT K a) [e, it] e (fun i h => (∃ old, IsEnum h e it ((i : Nat) : Int) old) ∧ h.IsTupleIter it a i ∧ e ≠ it ∧ a ≠ it ∧ e ≠ a) where
  mem := by simp
  obj := fun i h st b hb => by
    obtain ⟨⟨old, he⟩, ⟨o, ho, hc, hd⟩, _⟩ := st
    have e' : b = e ∨ b = it := by simpa using hb
    rcases e' with z | z
    · rw [z]; exact ⟨_, he, fun v q => nomatch q⟩
    · rw [z]; exact ⟨o, ho, fun v q => by rw [hd] at q; cases q⟩
  keep := fun i h h' st k => let ⟨⟨old, he⟩, hi, hne⟩ := st; ⟨⟨old, k e (by simp) _ he⟩, hi.at fun o q => k it (by simp) o q, hne⟩
  item := by
    intro X hP hw hK hc i pins s σ H E I hf st hg
    subst hP hw hK
    obtain ⟨⟨old, he⟩, hit, hne, hat, hea⟩ := st
    obtain ⟨xs, x, hq, hx⟩ := hg
    obtain ⟨its, rv, p, hz⟩ := I.tuple hq
    obtain ⟨u, hu, ru⟩ := rv.get hx
    have hel : e < s.heap.objs.size := Heap.lt_size he
    have hil : it < s.heap.objs.size := by obtain ⟨_, q, _⟩ := hit; exact Heap.lt_size q
    have hhd : X.A.in1.handled = none := I.ok.hd hc
    have hlt : i < its.toArray.size := by
      have := (List.getElem?_eq_some_iff.mp hx).1
      have := rv.length
      simp; omega
    refine wpAny_pyNext_enum_itemD (Draws.tuple hhd it a hat its.toArray) he ⟨hit, p⟩ hlt hne (by simp [hne, hea]) fun x1 h' tk hx1 ho st1 hT hsz hk => ?_
    have ex : u = x1 := by
      have h1 : its[i]? = some x1 := by simpa using hx1
      rw [hu] at h1; exact Option.some.inj h1
    subst ex
    refine ⟨_, rfl, wpAny_letOwnedTupleGo_enum (s := { s with heap := h', toks := tk + 1 }) ho fun h'' he' sb => ?_⟩
    have hT2 : h''.get? s.heap.objs.size = some { cls := .type "tuple", data := .seq #[.int i tk, u] } := (sb.2 _ (Nat.ne_of_gt hel)).trans hT
    have new : ObjOk X.prog X.w (upd H s.heap.objs.size (.tup [.int (i : Nat), x])) h'' s.heap.objs.size (.tup [.int (i : Nat), x]) :=
      ⟨by show 2 ≤ sizeLine; decide, [.int i tk, u], .cons ⟨_, rfl⟩ (.cons ru .nil), ⟨_, hT2, rfl, _, rfl⟩⟩
    have I1 : Inv X pins σ (upd H s.heap.objs.size (.tup [.int (i : Nat), x])) { s with heap := h'', toks := tk + 1 } :=
      I.turnedNew (ch := [e, it]) (fun b ob hb q => (sb.2 b (fun z => hb (by simp [z]))).trans (hk b ob (fun z => hb (by simp [z])) (fun z => hb (by simp [z])) q)) hf (Nat.le_refl _) new
    refine ⟨.ref s.heap.objs.size, _, I1, rfl, ⟨_, x, rfl, I.hok.fresh (Nat.le_refl _), rfl, fun ys hy => by rw [I.tuple_inj hy hq]; exact hx⟩, ⟨⟨u, ?_⟩, st1.1.at fun o q => (sb.2 it (Ne.symm hne)).trans q, hne, hat, hea⟩, fun b hb => ?_⟩
    · have e1 : ((i + 1 : Nat) : Int) = (i : Int) + 1 := by omega
      rw [e1]; exact he'
    · have hb' : b < s.heap.objs.size := by
        have e' : b = e ∨ b = it := by simpa using hb
        rcases e' with z | z
        · rw [z]; exact hel
        · rw [z]; exact hil
      rw [upd_ne (Nat.ne_of_lt hb')]
      exact (hf b hb).1
  done := by
    intro X hP hw hK hc i pins s σ H E I hf st hg
    subst hP hw hK
    obtain ⟨⟨old, he⟩, hit, hne, hat, hea⟩ := st
    obtain ⟨xs, hq, hx⟩ := hg
    obtain ⟨its, rv, p, hz⟩ := I.tuple hq
    obtain ⟨f0, f1, f2, f3, f4, f5⟩ := hf it (by simp)
    have hl := rv.length
    have hT : s.TypeIs (.ref e) "enumerate" := ⟨_, he, rfl⟩
    unfold pyNext
    refine wpAny_bind (wpAny_attempt (wpAny_callSpecial?_slot (name := Str.ofString "__next__") hT F.slot_enumerate_next
      (wpAny_call_entry F.slot_enumerate_next hT F.entry_enumerate_next ?_ (F.args_enumerate_next_1 _))))
    show wpAny _ _ (field (.ref e) 2 >>= _) _ _ _
    refine wpAny_bind (wpAny_field he rfl (x := .ref it) rfl ?_)
    refine wpAny_bind (wpAny_nextOf_tuple_end (I.ok.hd hc) hit p (by simp; omega) fun h' x eb hx' => ?_)
    obtain ⟨o, ho, hc'⟩ := hx'
    refine wpAny_bind (wpAny_isInstance (T := "StopIteration") (b := true) ⟨o, ho, hc'⟩ isSubtype_stop ?_)
    exact wpAny_pure ⟨rfl, I.turned (t' := s.toks) (fun b o hb q => eb b o hb q) f0 f1 f3 f4 f5⟩
  self := fun A i s Q E st h => let ⟨⟨_, he⟩, _⟩ := st; wpAny_pyIter_enum he h
def iEnumT (K : PySem.W.Frag) (ta : TA) : TI := fun σ H R => ta σ H fun vs H1 => ∃ a xs, vs = [.ref a] ∧ SqT K H1 a xs ∧ R (IteT K a) H1
theorem pi_enumT {X : Cx} {e : Expr} {ta : TA} {p pos tpos : Pos} {elts : List Expr} {kk : Nat} (hg : Gl X "enumerate") (hm : X.mg "enumerate" = none) (ha : PA X [e] ta) (hs : starEach [e] X.env = [(false, eval e X.env)] := by rfl) :
    PI X (.Tuple elts kk tpos) (.Call (.Name "enumerate" p) [e] [] pos) (iEnumT X.K ta) := by
  refine ⟨fun pins s σ H R I h => ?_⟩
  refine Call_ (ld_blt I hg hm boot_enumerate (PyProof.Rows.callWith_type1 (thn (ha.run pos pins s σ H _ I h) fun us s1 ⟨vs, H1, I1, r1, q1⟩ => ?_) hs rfl))
  obtain ⟨a, xs, ex, hq, q⟩ := q1
  subst ex
  cases r1 with
  | cons r rr =>
    cases rr
    cases r
    obtain ⟨its, rv, p', hz⟩ := I1.tuple hq
    have hal : a < s1.heap.objs.size := by obtain ⟨_, q, _⟩ := p'; exact Heap.lt_size q
    refine enum_begins1 (begins_tuple a its.toArray) p' fun h' he hit hsz hk => wpAny_pyIter_enum he ?_
    have I2 : Inv X pins σ H1 { s1 with heap := h' } := I1.kept (t' := s1.toks) hk
    refine ⟨s1.heap.objs.size + 1, [s1.heap.objs.size + 1, s1.heap.objs.size], _, _, H1, rfl, I2, turn_enumT a (s1.heap.objs.size + 1) s1.heap.objs.size, ⟨⟨.none, he⟩, ⟨_, hit, rfl, rfl⟩, Nat.succ_ne_self _, Nat.ne_of_lt hal, Nat.ne_of_gt (Nat.lt_succ_of_lt hal)⟩, fun b hb => ?_, q⟩
    have e' : b = s1.heap.objs.size + 1 ∨ b = s1.heap.objs.size := by simpa using hb
    have hle : s1.heap.objs.size ≤ b := by
      rcases e' with z | z
      · rw [z]; exact Nat.le_add_right _ _
      · rw [z]; exact Nat.le_refl _
    exact I1.fpOk hle (I1.hok.fresh hle)
theorem walk_enumT {K : PySem.W.Frag} {a : Addr} {xs : List V} : Walk (IteT K a) xs.length (fun H => SqT K H a xs) (YPair (fun i => some (.int (i : Nat))) (fun i => xs[i]?)) := by
  refine ⟨fun i _ hi q => ⟨xs, xs[i], q, by simp [hi]⟩, fun _ q => ⟨xs, q, Nat.le_refl _⟩, fun i H v H' _ q y => ?_⟩
  obtain ⟨T, x, h1, h2, h3, h4⟩ := y
  exact ⟨T, .int (i : Nat), x, h1, h2, h3, rfl, h4 xs q⟩
end L2
namespace Mi
open PySem PySem.Spec L2 Dh
open _root_.Evl (Ex)
section
variable {K : PySem.W.Frag} {b : Bs} {G : List Sl} {α : Type}
theorem wk_enumT {ta : TA} {r : R α} {f : (List α → Prop) → Prop} (h : Ar b G ta (rOne (rTup K r)) f) : Wk b G (iEnumT K ta) (rTp K (rCons rInt (rOne r))) (fun k => f fun xs => k (enumL xs)) := fun _ _ _ _ k V q w => by
  refine h _ V q ?_
  rintro xs ws F1 H1 q1 A1 V1 ⟨v, e, p, vs, e2, hp, A⟩
  subst e2
  subst e
  refine ⟨p, vs, rfl, _root_.Evl.ex_t V1.fh hp, w _ _ F1 H1 q1 A1 V1 (wkOk walk_enumT (A.len.trans enumL_len.symm) (fun H2 e => _root_.Evl.ex_t e hp) fun i v F2 H2 H3 hi e1 e2 ⟨T, x, y, y1, y2, y3, y4, y5⟩ => ?_)⟩
  subst y1 y3
  cases y4
  obtain ⟨a, ha, hr⟩ := A.of_get y5
  obtain ⟨B, hB⟩ := pair_new (K := K) (ra := rInt) (rb := r) (a := (i : Int)) e2 y2 rfl (r.ex e1 hr)
  exact ⟨_, _, enumL_get ha, B, hB⟩
end
end Mi
/-! K05Ma -/
set_option Elab.async false
set_option linter.all false
set_option maxRecDepth 100000
set_option maxHeartbeats 4000000
namespace Mi
open PySem PySem.Spec L2 Dh
open _root_.Evl (Ex)
section
variable {K : PySem.W.Frag} {b : Bs} {G : List Sl} {α β γ δ τ τ' ρ ε : Type} {Gn : τ → List Sl} {Gl : ε → List Sl} {ro : ρ → V → Hp → Hp → Prop} {σ : L2.St} {F H F' H' : Hp}
def spLaw (K : PySem.W.Frag) : Sp := fun vs H Q _ => ∃ (a : Addr) (ns : List Int), vs = [.ref a] ∧ SqL K H a (ns.map V.int) ∧ ns.length ≤ 63 ∧ ∀ H', Q (.bl true) H'
theorem run_law {n j : Nat} {N : List Str} {t : TS} {vs : List V} {Q : VK} {Ek Ek' : XK} {Gn : Bs → Addr → τ → List Sl} {f : Pd τ Unit Bool → Prop} (h : spLaw K vs H Q Ek) (hN : N.length = n) (h0 : 0 < n) (hj : j < n)
    (hS : ∀ b p, b.M = [] → S b ((List.replicate n any).set j (own p cBag ())) t (Gn b p) (fun _ : Unit => []) (fun y v F _ => rBl.h y v F) f) (hf : f ⟨fun _ => False, fun _ => False, fun _ => False, fun r => r = true⟩) :
    tSeq (tAsg (tCall (spBag K) [] Ek' (tCons (tVar 0) tNil)) (gName j)) t { nx := fun _ H' => Q .non H', rt := Q } (L2.start N vs) H := by
  obtain ⟨a, ns, rfl, hs, hl, k⟩ := h
  have s0 : (L2.start N [V.ref a])[0]? = some (some (.ref a)) := by
    unfold L2.start
    simp
  refine ⟨.ref a, s0, ?_⟩
  refine ⟨a, ns, rfl, hs, hl, fun b n' sd H1 e hb hn bn hn' hb' => ?_⟩
  have F0 : ∀ x, x ≠ n' → upd (fun _ => none) n' (.lst (ns.map V.int)) x = none := fun x h => by rw [upd_ne h]
  have eF : Ex (upd (fun _ => none) n' (.lst (ns.map V.int))) H1 := fun x o h => by
    by_cases z : x = n'
    · subst z; rw [upd_same] at h; cases h; exact hn'
    · rw [F0 x z] at h; cases h
  refine S.go (hS ⟨fun _ => none, H, [], fun _ h => nomatch h⟩ b rfl) ((L2.start N [V.ref a]).set j (some (.ref b))) (upd (fun _ => none) n' (.lst (ns.map V.int))) H1 _ ⟨fun _ => False, fun _ => False, fun _ => False, fun r => r = true⟩ ?_ hf (fun _ _ _ _ h => h.elim) (fun _ _ _ _ h => h.elim) (fun _ _ _ _ h => h.elim) (fun y v F' H' hk _ (hr : v = .bl y) => by
    rw [hr, show y = true from hk]; exact k H')
  have hG : owns (List.replicate n any) = [] := owns_any
  have ow := owns_setN (s := own b cBag ()) (p := b) rfl (G := List.replicate n any) (i := j) (by rw [hG]; simp) (by rw [hG]; simp)
  refine ⟨fun _ _ h => (nomatch h), eF, fun x o _ h => e x o h, fun x h => ?_, fun x _ h => F0 x fun z => h (by rw [z]; exact hn), ?_, ow.2, fun q hq => ?_⟩
  · cases z : H x with
    | none => exact absurd z h
    | some u => rw [e x u z]; exact fun z => nomatch z
  · have hl2 : (L2.start N [V.ref a]).length = n := by unfold L2.start; simp; omega
    have : Holds (List.replicate n any) (L2.start N [V.ref a]) (upd (fun _ => none) n' (.lst (ns.map V.int))) H1 := Holds.of (by rw [List.length_replicate, hl2]) fun i s o h1 h2 => by
      rw [List.getElem?_replicate] at h1
      split at h1
      · cases h1; exact trivial
      · cases h1
    exact this.set (s := own b cBag ()) ⟨rfl, _, hb', _, rfl, n', ns, 0, 0, 0, sd, rfl, by rw [upd_same], by decide, by decide⟩
  · rcases ow.1 q hq with z | z
    · subst z; exact ⟨F0 q bn, .inr hb⟩
    · rw [hG] at z; nomatch z
end
section
variable {P : Program} {w : World} {K : PySem.W.Frag} {mg : Str → Option Value} {base : Heap} {A : Ad} {α : Type}
def W_l_pick (m : Int) (k : Int → Prop) : Prop := 0 < m ∧ m < 1073741824 ∧ ∀ r, 0 ≤ r → r < m → k r
theorem After.bag {F H : Hp} {b : Addr} {l l' : List V} (e : Ex F H) (fb : F b = none) (hb : H b = some (.lst l)) : After F H [b] F (upd H b (.lst l')) :=
  ⟨Ex.refl _, ex_mut fb e, fun x o hm hx => by rw [upd_ne (fun z => hm (by rw [z]; exact List.mem_cons_self))]; exact hx, fun x hx => by
    by_cases z : x = b
    · subst z; rw [upd_same]; exact fun z => nomatch z
    · rw [upd_ne z]; exact hx, fun _ h _ => h⟩
theorem okM_l_pick (T : Txt K mg A) : FnOk P w K mg base CX0 2 A.f_l_pick A.d_l_pick ["_law_bag_here", "_law_many"] (spB (rOne rInt) rInt (fun x k => W_l_pick x k)) := (ok_l_pick T).imp fun vs H Q E h => by
  obtain ⟨b, ws, m, F, k, rfl, fb, ⟨l, hb, hl⟩, e, ⟨v, rfl, rfl⟩, ⟨m0, m1, q⟩, w⟩ := h
  exact ⟨b, m, F, rfl, m0, m1, e, ⟨fb, l, hb, hl⟩, fun r l' r0 r1 hl' => w r _ F _ (q r r0 r1) (After.bag e fb hb) ⟨l', upd_same, hl'⟩ rfl⟩
def W_l_choice (xs : List α) (k : α → Prop) : Prop := 0 < xs.length ∧ xs.length < 1000000 ∧ ∀ x ∈ xs, k x
theorem All.mem {r : R α} {F : Hp} {xs : List α} {vs : List V} (h : All r F xs vs) {v : V} (m : v ∈ vs) : ∃ a ∈ xs, r.h a v F := by
  obtain ⟨i, hi, e⟩ := List.mem_iff_getElem.mp m
  obtain ⟨a, h1, h2⟩ := h.of_get (i := i) (v := v) (by rw [List.getElem?_eq_getElem hi, e])
  exact ⟨a, List.mem_of_getElem? h1, h2⟩
theorem okM_l_choice {r : R α} (T : Txt K mg A) : FnOk P w K mg base CX0 3 A.f_l_choice A.d_l_choice ["_law_bag_here", "_law_things"] (spB (rOne (rLst r)) r (fun x k => W_l_choice x k)) := (ok_l_choice T).imp fun vs H Q E h => by
  obtain ⟨b, ws, xs, F, k, rfl, fb, ⟨l, hb, hl⟩, e, ⟨v, rfl, t, us, rfl, ht, hA⟩, ⟨m0, m1, q⟩, w⟩ := h
  refine ⟨b, t, us, F, rfl, e, ⟨fb, l, hb, hl⟩, ht, by rw [hA.len]; exact m0, by rw [hA.len]; exact m1, fun v l' hv hl' => ?_⟩
  obtain ⟨a, ha, hr⟩ := hA.mem hv
  exact w a v F _ (q a ha) (After.bag e fb hb) ⟨l', upd_same, hl'⟩ hr
theorem flip_paired {β γ : Type} {R : β → γ → Prop} {xs : List β} {ys : List γ} (h : Paired R xs ys) : Paired (fun y x => R x y) ys xs := by
  induction h with
  | nil => exact .nil
  | cons r _ ih => exact .cons r ih
theorem okM_l_bag (T : Txt K mg A) : FnOk P w K mg base CX0 1 A.f_l_bag A.d_l_bag ["_law_script"] (spBag K) := ok_l_bag T
def W_l_new_name (us : List Str) (k : Str × List Str → Prop) : Prop := us.length ≤ 600 ∧ (∀ x ∈ us, NameOk x) ∧ ∀ x, NameOk x → x ∉ us → k (x, us ++ [x])
theorem okM_l_new_name (T : Txt K mg A) : FnOk P w K mg base CX0 3 A.f_l_new_name A.d_l_new_name ["_law_bag_here", "_law_used"] (spBL rStr rStr W_l_new_name) := (ok_l_new_name T).imp fun vs H Q E h => by
  obtain ⟨p, q, us, F, k, rfl, pq, fp, fq, ⟨l, hb, hl⟩, ⟨u, hu, ws, rfl, hA⟩, e, ⟨l6, ok, hk⟩, w⟩ := h
  cases map_str hA
  refine ⟨p, q, us, F, rfl, e, ⟨fp, l, hb, hl⟩, fq, pq.symm, hu, l6, ok, fun x H' hx hn hu' S => ?_⟩
  refine w (x, us ++ [x]) _ F H' (hk x hx hn) ⟨Ex.refl _, S.ex, fun a o m ha => ?_, fun a ha => ?_, fun _ h _ => h⟩ ?_ ⟨_, hu', _, rfl, all_str⟩ rfl
  · have n1 : a ≠ p := fun z => m (by rw [z]; exact List.mem_cons_self)
    have n2 : a ≠ q := fun z => m (by rw [z]; exact List.mem_cons_of_mem _ List.mem_cons_self)
    exact S.kp a o n1 (by rw [less_ne n2]; exact ha)
  · by_cases n1 : a = p
    · obtain ⟨l', h1, _⟩ := S.bg.ex
      rw [n1, h1]; exact fun z => nomatch z
    · by_cases n2 : a = q
      · rw [n2, hu']; exact fun z => nomatch z
      · cases z : H a with
        | none => exact absurd z ha
        | some u => rw [S.kp a u n1 (by rw [less_ne n2]; exact z)]; exact fun z => nomatch z
  · obtain ⟨l', h1, h2⟩ := S.bg.ex
    exact ⟨l', h1, h2⟩
end
end Mi
/-! K05Mb -/
set_option Elab.async false
set_option linter.all false
set_option maxRecDepth 100000
set_option maxHeartbeats 4000000
namespace Mi
open PySem PySem.Spec L2 Dh
open _root_.Evl (Ex)
section
variable {P : Program} {w : World} {K : PySem.W.Frag} {mg : Str → Option Value} {base : Heap} {A : Ad}
theorem okE_BadSpell (T : Txt K mg A) : FnOk P w K mg base CX0 1 A.f_BadSpell_XinitX A.d_BadSpell_XinitX ["self", "spell"] (spE A.C_BadSpell "spell") := by
  refine T.F_BadSpell_XinitX.ok sc_BadSpell_XinitX (fun vs H Q E h => ?_) (fun cdv Ar outer s0 H vs Q E hr h => ?_)
  · obtain ⟨a, v, rfl, _⟩ := h; rfl
  · obtain ⟨a, v, rfl, ha, k⟩ := h
    refine ⟨_, (pss_one (ps_ost (pv 0) (pv 1) rfl)), ?_⟩
    dsimp only [cxOf, Cx.nox, Cx.wish]
    exact ⟨_, rfl, _, rfl, a, A.C_BadSpell, rfl, T.ox_BadSpell, T.nx_BadSpell, .inl ⟨ha, fun dx n0 ne => k dx n0 ne⟩⟩
def W_is_number (number0 : Int) (low0 : Int) (high0 : Int) (k : Bool → Prop) : Prop :=
  (fun (n3 : Unit → Prop) => (((!true) || false) = true → k false) ∧ (((!true) || false) = false → n3 ())) fun x1 => k ((decide (low0 ≤ number0)) && (decide (number0 ≤ high0)))
theorem okM_is_number (T : Txt K mg A) : FnOk P w K mg base CX0 1 A.f_is_number A.d_is_number ["number", "low", "high"] (spP (rCons rInt (rCons rInt (rOne rInt))) rBl (fun x k => W_is_number x.1 x.2.1 x.2.2 k)) := by
  refine T.F_is_number.ok sc_is_number (fun vs H Q E h => spP_len h) (fun cdv Ar outer s0 H vs Q E hr h => ?_)
  refine ⟨_, (pss_cons (ps_if (PW.pt (pw_or (pt_not (pt_val (pe_callB call_isi (by rfl) T.b_isinstance (by decide +kernel) (pa_cons (pv 0) (pa_cons (pe_bltn (v := .ty "int") (by rfl) T.b_int (by decide +kernel) rfl) pa_nil))))) (pw_or1 (pt_val (pe_callB call_isi (by rfl) T.b_isinstance (by decide +kernel) (pa_cons (pv 0) (pa_cons (pe_bltn (v := .ty "bool") (by rfl) T.b_bool (by decide +kernel) rfl) pa_nil))))))) (pss_one (ps_ret pe_bl)) pss_nil)
  (pss_one (ps_ret (pe_chain op_le op_le (pv 1) (pv 0) (pv 2))))), ?_⟩
  try dsimp only [cxOf, Cx.nox, Cx.wish]
  exact run_P (m := 0) (τ := Unit) h rfl (fun b x hM => s_cq (Gn := fun _ : Unit => [])
    (s_seq (s_if (Gn := (fun x1 : Unit => [val rInt x.1, val rInt x.2.1, val rInt x.2.2])) (t_orP (t_not (t_B (e_isi (res := true) ty_int (by decide +kernel) (e_var (i := 0) rfl)))) (t_B (e_isi (res := false) ty_int (by decide +kernel) (e_var (i := 0) rfl))))
  (s_retP e_bl)
  (s_wk (G := [val rInt x.1, val rInt x.2.1, val rInt x.2.2]) (g := fun _ => ()) s_nil (fun _ => (Sub.keep (Sub.keep (Sub.keep Sub.nil)))))) fun x1 =>
  (s_retP (e_chainP (e_var (i := 1) rfl) (e_var (i := 0) rfl) (e_var (i := 2) rfl)))) (fun d h => h)) (fun x k h => by
    unfold W_is_number at h
    dsimp only at h ⊢
    exact h)
def W_spells (track0 : (List Str)) (k : (List (Int × Int × Str)) → Prop) : Prop :=
  let found1 : (List (Int × Int × Str)) := ([] : List (Int × Int × Str)); let first4 : Int := (0 : Int); forP (enumL track0) (found1, first4) (fun (a8 : (Int × Str)) (x5 : (List (Int × Int × Str)) × Int) (n6 : ((List (Int × Int × Str)) × Int) → Prop) => (fun (n11 : ((List (Int × Int × Str)) × Int) → Prop) => (fun (k14 : Bool → Prop) => ((decide ((a8.1 + (1 : Int)) = (track0.length : Int))) = true → k14 true) ∧ ((decide ((a8.1 + (1 : Int)) = (track0.length : Int))) = false → ∃ v16, atI track0 (a8.1 + (1 : Int)) = some v16 ∧ k14 (!decide (v16 = a8.2)))) fun c15 => (c15 = true → x5.1.length < sizeLine ∧ let y12 : (Int × Int × Str) := (x5.2, a8.1, a8.2); let first13 : Int := (a8.1 + (1 : Int)); n11 ((x5.1 ++ [y12]), first13)) ∧ (c15 = false → n11 (x5.1, x5.2))) fun x9 => n6 (x9.1, x9.2)) fun x5 => k x5.1
theorem okM_spells (T : Txt K mg A) : FnOk P w K mg base CX0 1 A.f_spells A.d_spells ["track"] (spN (rOne (rTup K rStr)) (cLst (rTp K (rCons rInt (rCons rInt (rOne rStr))))) (fun x k => W_spells x k)) := by
  refine T.F_spells.ok sc_spells (fun vs H Q E h => spN_len h) (fun cdv Ar outer s0 H vs Q E hr h => ?_)
  refine ⟨_, (pss_cons (ps_set (i := 1) sc_spells.nd rfl (Or.inl rfl) (pe_lst pa_nil))
  (pss_cons (ps_set (i := 2) sc_spells.nd rfl (Or.inl rfl) pe_int)
  (pss_cons (ps_for PassesOwn.never rfl (pi_enumT (by rfl) T.b_enumerate (pa_cons (pv 0) pa_nil)) (pg_tup (n := 2) rfl (pgs_cons (pg_name (i := 3) sc_spells.nd rfl (Or.inl rfl)) (pgs_cons (pg_name (i := 4) sc_spells.nd rfl (Or.inl rfl)) pgs_nil)) (by rfl))
   (pss_one (ps_if (PW.pt (pw_or (pt_cmpR op_eq (pe_op op_add (pv 3) pe_int) (pe_callB cl_len (by rfl) T.b_len (by decide +kernel) (pa_cons (pv 0) pa_nil)) (nomark _)) (pw_or1 (pt_cmpR op_ne (pe_ix ix_tup (pv 0) (pe_op op_add (pv 3) pe_int) (fun _ _ => rfl)) (pv 4) (nomark _))))) (pss_cons (ps_expr (pe_bm PySem.F.plainAttrs_list PySem.F.slot_list_append PySem.F.type_list_append mt_append (pv 1) (pa_cons (pe_tup (pa_cons (pv 2) (pa_cons (pv 3) (pa_cons (pv 4) pa_nil)))) pa_nil)))
  (pss_one (ps_set (i := 2) sc_spells.nd rfl (Or.inl rfl) (pe_op op_add (pv 3) pe_int)))) pss_nil)))
  (pss_one (ps_ret (pv 1)))))), ?_⟩
  try dsimp only [cxOf, Cx.nox, Cx.wish]
  exact run_N (m := 4) (τ := Unit) h rfl (fun b x hM => s_cq (Gn := fun _ : Unit => [])
    (s_newc (i := 1) (enc_lst (en_lst al_nil (by decide))) fun p2 found1 hm3 =>
  (s_seq (s_asg (i := 2) e_int) fun first4 =>
  (s_seq (s_for (Gt := (fun x5 : (List (Int × Int × Str)) × Int => [val (rTup K rStr) x, own p2 (cLst (rTp K (rCons rInt (rCons rInt (rOne rStr))))) x5.1, val rInt x5.2, any, any])) (x0 := (found1, first4)) (wk_enumT (ar_one (e_var (i := 0) rfl))) (g_tup (gi_cons gi_one) rfl) (Sub.keep (Sub.keep (Sub.keep (Sub.keep (Sub.keep Sub.nil))))) (fun a8 x5 =>
  (s_wk (G := [val (rTup K rStr) x, own p2 (cLst (rTp K (rCons rInt (rCons rInt (rOne rStr))))) x5.1, val rInt x5.2, val rInt a8.1, val rStr a8.2]) (g := fun (x9 : (List (Int × Int × Str)) × Int) => (x9.1, x9.2)) (s_if (Gn := (fun x9 : (List (Int × Int × Str)) × Int => [val (rTup K rStr) x, own p2 (cLst (rTp K (rCons rInt (rCons rInt (rOne rStr))))) x9.1, val rInt x9.2, val rInt a8.1, val rStr a8.2])) (t_or (t_test (e_op o_eqI (e_op o_I0 (e_var (i := 3) rfl) e_int) (e_lenT (e_var (i := 0) rfl)))) (t_test (e_op o_neS (e_op o_ixT (e_var (i := 0) rfl) (e_op o_I0 (e_var (i := 3) rfl) e_int)) (e_var (i := 4) rfl))))
  (s_seq (s_app (i := 1) rfl (e_tup (ar_cons (e_var (i := 2) rfl) (ar_cons (e_var (i := 3) rfl) (ar_one (e_var (i := 4) rfl)))) (Nat.le_of_ble_eq_true rfl))) fun y12 =>
  (s_wk (G := [val (rTup K rStr) x, own p2 (cLst (rTp K (rCons rInt (rCons rInt (rOne rStr))))) (x5.1 ++ [y12]), val rInt x5.2, val rInt a8.1, val rStr a8.2]) (g := fun (first13 : Int) => ((x5.1 ++ [y12]), first13)) (s_asg (i := 2) (e_op o_I0 (e_var (i := 3) rfl) e_int)) (fun (first13 : Int) => (Sub.keep (Sub.keep (Sub.keep (Sub.keep (Sub.keep Sub.nil))))))))
  (s_wk (G := [val (rTup K rStr) x, own p2 (cLst (rTp K (rCons rInt (rCons rInt (rOne rStr))))) x5.1, val rInt x5.2, val rInt a8.1, val rStr a8.2]) (g := fun _ => (x5.1, x5.2)) s_nil (fun _ => (Sub.keep (Sub.keep (Sub.keep (Sub.keep (Sub.keep Sub.nil)))))))) (fun (x9 : (List (Int × Int × Str)) × Int) => (Sub.keep (Sub.keep (Sub.keep (Sub.drop (Sub.drop Sub.nil))))))))) fun x5 =>
  (s_retO (i := 1) rfl hM)))) (fun d h => h)) (fun x k h => by
    unfold W_spells at h
    dsimp only at h ⊢
    exact h)
def W_is_spell_from (spell0 : (Int × Int × Str)) (day0 : Int) (k : Bool → Prop) : Prop :=
  (fun (n3 : Unit → Prop) => (((!true) || (!decide (((3 : Nat) : Int) = (3 : Int)))) = true → k false) ∧ (((!true) || (!decide (((3 : Nat) : Int) = (3 : Int)))) = false → n3 ())) fun x1 => let t4 : (Int × Int × Str) := spell0; (fun (n7 : Unit → Prop) => (((!true) || false) = true → k false) ∧ (((!true) || false) = false → n7 ())) fun x5 => W_is_number t4.1 day0 day0 fun v8 => k (v8 && (decide (t4.1 ≤ t4.2.1)))
theorem okM_is_spell_from (T : Txt K mg A) : FnOk P w K mg base CX0 2 A.f_is_spell_from A.d_is_spell_from ["spell", "day"] (spP (rCons (rTp K (rCons rInt (rCons rInt (rOne rStr)))) (rOne rInt)) rBl (fun x k => W_is_spell_from x.1 x.2 k)) := by
  refine T.F_is_spell_from.ok sc_is_spell_from (fun vs H Q E h => spP_len h) (fun cdv Ar outer s0 H vs Q E hr h => ?_)
  refine ⟨_, (pss_cons (ps_if (PW.pt (pw_or (pt_not (pt_val (pe_callB call_isi (by rfl) T.b_isinstance (by decide +kernel) (pa_cons (pv 0) (pa_cons (pe_bltn (v := .ty "tuple") (by rfl) T.b_tuple (by decide +kernel) rfl) pa_nil))))) (pw_or1 (pt_cmpR op_ne (pe_callB cl_len (by rfl) T.b_len (by decide +kernel) (pa_cons (pv 0) pa_nil)) pe_int (nomark _))))) (pss_one (ps_ret pe_bl)) pss_nil)
  (pss_cons (ps_asg (pv 0) (pg_tup (n := 3) rfl (pgs_cons (pg_name (i := 2) sc_is_spell_from.nd rfl (Or.inl rfl)) (pgs_cons (pg_name (i := 3) sc_is_spell_from.nd rfl (Or.inl rfl)) (pgs_cons (pg_name (i := 4) sc_is_spell_from.nd rfl (Or.inl rfl)) pgs_nil))) (by rfl)))
  (pss_cons (ps_if (PW.pt (pw_or (pt_not (pt_val (pe_callB call_isi (by rfl) T.b_isinstance (by decide +kernel) (pa_cons (pv 3) (pa_cons (pe_bltn (v := .ty "int") (by rfl) T.b_int (by decide +kernel) rfl) pa_nil))))) (pw_or1 (pt_val (pe_callB call_isi (by rfl) T.b_isinstance (by decide +kernel) (pa_cons (pv 3) (pa_cons (pe_bltn (v := .ty "bool") (by rfl) T.b_bool (by decide +kernel) rfl) pa_nil))))))) (pss_one (ps_ret pe_bl)) pss_nil)
  (pss_one (ps_ret (pe_and (pe_call (okM_is_number T) (hr.mono (by decide)) rfl T.g_is_number T.F_is_number.kp T.bi_is_number .nil pass0 (pa_cons (pv 2) (pa_cons (pv 1) (pa_cons (pv 1) pa_nil)))) (pe_one (pe_cmpR op_le (pv 2) (pv 3) (nomark _))))))))), ?_⟩
  try dsimp only [cxOf, Cx.nox, Cx.wish]
  exact run_P (m := 3) (τ := Unit) h rfl (fun b x hM => s_cq (Gn := fun _ : Unit => [])
    (s_seq (s_if (Gn := (fun x1 : Unit => [val (rTp K (rCons rInt (rCons rInt (rOne rStr)))) x.1, val rInt x.2, any, any, any])) (t_orP (t_not (t_B (e_isi (res := true) ty_tp (by decide +kernel) (e_var (i := 0) rfl)))) (t_test (e_op o_neI (e_lenTp (e_var (i := 0) rfl)) e_int)))
  (s_retP e_bl)
  (s_wk (G := [val (rTp K (rCons rInt (rCons rInt (rOne rStr)))) x.1, val rInt x.2, any, any, any]) (g := fun _ => ()) s_nil (fun _ => (Sub.keep (Sub.keep (Sub.keep (Sub.keep (Sub.keep Sub.nil)))))))) fun x1 =>
  (s_seq (s_asgT (e_var (i := 0) rfl) (g_tup (gi_cons (gi_cons gi_one)) rfl)) fun t4 =>
  (s_seq (s_if (Gn := (fun x5 : Unit => [val (rTp K (rCons rInt (rCons rInt (rOne rStr)))) x.1, val rInt x.2, val rInt t4.1, val rInt t4.2.1, val rStr t4.2.2])) (t_orP (t_not (t_B (e_isi (res := true) ty_int (by decide +kernel) (e_var (i := 3) rfl)))) (t_B (e_isi (res := false) ty_int (by decide +kernel) (e_var (i := 3) rfl))))
  (s_retP e_bl)
  (s_wk (G := [val (rTp K (rCons rInt (rCons rInt (rOne rStr)))) x.1, val rInt x.2, val rInt t4.1, val rInt t4.2.1, val rStr t4.2.2]) (g := fun _ => ()) s_nil (fun _ => (Sub.keep (Sub.keep (Sub.keep (Sub.keep (Sub.keep Sub.nil)))))))) fun x5 =>
  (s_retP (e_andVP (e_call (ar_cons (e_var (i := 2) rfl) (ar_cons (e_var (i := 1) rfl) (ar_one (e_var (i := 1) rfl))))) (e_op o_I0b (e_var (i := 2) rfl) (e_var (i := 3) rfl))))))) (fun d h => h)) (fun x k h => by
    unfold W_is_spell_from at h
    dsimp only at h ⊢
    exact h)
def W_track_of (spells0 : (List (Int × Int × Str))) (k : (List Str) → Prop) (kx : (Int × Int × Str) → Prop) : Prop :=
  let track1 : (List Str) := ([] : List Str); forP spells0 track1 (fun (a7 : (Int × Int × Str)) (x4 : (List Str)) (n5 : (List Str) → Prop) => (fun (n10 : Unit → Prop) => W_is_spell_from a7 (x4.length : Int) fun v13 => ((!v13) = true → kx a7) ∧ ((!v13) = false → n10 ())) fun x8 => let t11 : (Int × Int × Str) := a7; (-(2 ^ 63) ≤ ((t11.2.1 - t11.1) + (1 : Int)) ∧ ((t11.2.1 - t11.1) + (1 : Int)) < 2 ^ 63 ∧ ([t11.2.2] : List Str).length * ((t11.2.1 - t11.1) + (1 : Int)).toNat ≤ sizeLine) ∧ x4.length + ((List.replicate ((t11.2.1 - t11.1) + (1 : Int)).toNat ([t11.2.2] : List Str)).flatten).length ≤ sizeLine ∧ let y12 : (List Str) := (List.replicate ((t11.2.1 - t11.1) + (1 : Int)).toNat ([t11.2.2] : List Str)).flatten; n5 (x4 ++ y12)) fun x4 => k x4
theorem okM_track_of (T : Txt K mg A) : FnOk P w K mg base (L2N.CX P w) 3 A.f_track_of A.d_track_of ["spells"] (spX (rOne (rLst (rTp K (rCons rInt (rCons rInt (rOne rStr)))))) (rTup K rStr) (x1 A.C_BadSpell "spell" (rTp K (rCons rInt (rCons rInt (rOne rStr))))) (fun x k kx => W_track_of x k kx)) := by
  refine okN T.F_track_of sc_track_of (fun vs H Q E h => spX_len h) (fun cdv Ar outer s0 H vs Q E hr h => ?_)
  refine ⟨_, (pss_cons (ps_set (i := 1) sc_track_of.nd rfl (Or.inl rfl) (pe_lst pa_nil))
  (pss_cons (ps_for (passes_of rfl) rfl (pi_list (pv 0)) (pg_name (i := 2) sc_track_of.nd rfl (Or.inl rfl))
   (pss_cons (ps_if (pt_not (pt_val (pe_call (okM_is_spell_from T) (hr.mono (by decide)) rfl T.g_is_spell_from T.F_is_spell_from.kp T.bi_is_spell_from .nil pass0 (pa_cons (pv 2) (pa_cons (pe_callB cl_len (by rfl) T.b_len (by decide +kernel) (pa_cons (pv 1) pa_nil)) pa_nil))))) (pss_one (ps_raiseT rfl (L2N.takes_of rfl rfl rfl rfl) (mkN T.ox_BadSpell T.ix_BadSpell T.tx_BadSpell (okE_BadSpell T) (hr.mono (by decide)) T.bi_BadSpell_XinitX pass0 rfl T.g_BadSpell (pa_cons (pv 2) pa_nil)))) pss_nil)
  (pss_cons (ps_asg (pv 2) (pg_tup (n := 3) rfl (pgs_cons (pg_name (i := 3) sc_track_of.nd rfl (Or.inl rfl)) (pgs_cons (pg_name (i := 4) sc_track_of.nd rfl (Or.inl rfl)) (pgs_cons (pg_name (i := 5) sc_track_of.nd rfl (Or.inl rfl)) pgs_nil))) (by rfl)))
  (pss_one (ps_expr (pe_bm PySem.F.plainAttrs_list PySem.F.slot_list_extend PySem.F.type_list_extend mt_extend (pv 1) (pa_cons (pe_op op_rep (pe_lst (pa_cons (pv 5) pa_nil)) (pe_op op_add (pe_op op_sub (pv 4) (pv 3)) pe_int)) pa_nil)))))))
  (pss_one (ps_ret (pe_callTy cl_tuple (by rfl) T.b_tuple (by decide +kernel) (pa_cons (pv 1) pa_nil)))))), ?_⟩
  try dsimp only [cxOf, Cx.nox, Cx.wish]
  exact run_X (m := 5) (τ := Unit) h rfl (fun b x kx hM O => s_cq (Gn := fun _ : Unit => [])
    (s_newc (i := 1) (enc_lst (en_lst al_nil (by decide))) fun p2 track1 hm3 =>
  (s_seq (s_for (Gt := (fun x4 : (List Str) => [val (rLst (rTp K (rCons rInt (rCons rInt (rOne rStr))))) x, own p2 (cLst rStr) x4, any, any, any, any])) (x0 := track1) (wk_list (e_var (i := 0) rfl)) g_name (Sub.keep (Sub.keep (Sub.keep (Sub.keep (Sub.keep (Sub.keep Sub.nil)))))) (fun a7 x4 =>
  (s_seq (s_if (Gn := (fun x8 : Unit => [val (rLst (rTp K (rCons rInt (rCons rInt (rOne rStr))))) x, own p2 (cLst rStr) x4, val (rTp K (rCons rInt (rCons rInt (rOne rStr)))) a7, any, any, any])) (t_not (t_B (e_call (ar_cons (e_var (i := 2) rfl) (ar_one (e_lenL (lv_own (i := 1) rfl)))))))
  (s_raise (i := fun e => e) O trivial xs_id (e_var (i := 2) rfl))
  (s_wk (G := [val (rLst (rTp K (rCons rInt (rCons rInt (rOne rStr))))) x, own p2 (cLst rStr) x4, val (rTp K (rCons rInt (rCons rInt (rOne rStr)))) a7, any, any, any]) (g := fun _ => ()) s_nil (fun _ => (Sub.keep (Sub.keep (Sub.keep (Sub.keep (Sub.keep (Sub.keep Sub.nil))))))))) fun x8 =>
  (s_seq (s_asgT (e_var (i := 2) rfl) (g_tup (gi_cons (gi_cons gi_one)) rfl)) fun t11 =>
  (s_wk (G := [val (rLst (rTp K (rCons rInt (rCons rInt (rOne rStr))))) x, own p2 (cLst rStr) x4, val (rTp K (rCons rInt (rCons rInt (rOne rStr)))) a7, val rInt t11.1, val rInt t11.2.1, val rStr t11.2.2]) (g := fun (y12 : (List Str)) => (x4 ++ y12)) (s_ext (i := 1) rfl (e_new (en_rep (lv_e (e_new (en_lst (al_cons (e_var (i := 5) rfl) al_nil) (by decide)))) (e_op o_I0 (e_op o_I0 (e_var (i := 4) rfl) (e_var (i := 3) rfl)) e_int)))) (fun (y12 : (List Str)) => (Sub.keep (Sub.keep (Sub.drop (Sub.drop (Sub.drop (Sub.drop Sub.nil)))))))))))) fun x4 =>
  (s_retP (e_tupL (lv_own (i := 1) rfl))))) (fun d h => h)) (fun x k kx h => by
    unfold W_track_of at h
    dsimp only at h ⊢
    exact h)
def W_l_names  (k : (List Str) → Prop) : Prop :=
  let names1 : (List Str) := ([] : List Str); W_l_pick (4 : Int) fun v12 => (-(2 ^ 62) ≤ ((1 : Int) + v12) ∧ ((1 : Int) + v12) < 2 ^ 62) ∧ forP (rng 0 ((1 : Int) + v12).toNat) names1 (fun (a7 : Int) (x4 : (List Str)) (n5 : (List Str) → Prop) => W_l_new_name x4 fun y8 => n5 y8.2) fun x4 => ∃ v10, atI x4 (0 : Int) = some v10 ∧ v10.length + ("ab" : Str).length ≤ sizeLine ∧ W_l_pick (2 : Int) fun v11 => (v10 ++ ("ab" : Str)).length ≤ sizeLine ∧ x4.length < sizeLine ∧ let y9 : Str := (cutS (v10 ++ ("ab" : Str)) none (some ((7 : Int) + v11))); k (x4 ++ [y9])
theorem okM_l_names (T : Txt K mg A) : FnOk P w K mg base CX0 4 A.f_l_names A.d_l_names ["_law_bag_here"] (spB rNil (rLst rStr) (fun _ k => W_l_names k)) := by
  refine T.F_l_names.ok sc_l_names (fun vs H Q E h => spB_len h) (fun cdv Ar outer s0 H vs Q E hr h => ?_)
  refine ⟨_, (pss_cons (ps_set (i := 1) sc_l_names.nd rfl (Or.inl rfl) (pe_lst pa_nil))
  (pss_cons (ps_for PassesOwn.never rfl (pi_range1 rfl T.b_range (pa_cons (pe_op op_add pe_int (pe_call (okM_l_pick T) (hr.mono (by decide)) rfl T.g_l_pick T.F_l_pick.kp T.bi_l_pick .nil pass0 (pa_cons (pv 0) (pa_cons pe_int pa_nil)))) pa_nil)) (pg_name (i := 2) sc_l_names.nd rfl (Or.inl rfl))
   (pss_one (ps_expr (pe_call (okM_l_new_name T) (hr.mono (by decide)) rfl T.g_l_new_name T.F_l_new_name.kp T.bi_l_new_name .nil pass0 (pa_cons (pv 0) (pa_cons (pv 1) pa_nil))))))
  (pss_cons (ps_expr (pe_bm PySem.F.plainAttrs_list PySem.F.slot_list_append PySem.F.type_list_append mt_append (pv 1) (pa_cons (pe_slice sl_str (pe_op op_addT (pe_ix ix_list (pv 1) pe_int (fun _ _ => rfl)) pe_str) po_none (po_some (pe_op op_add pe_int (pe_call (okM_l_pick T) (hr.mono (by decide)) rfl T.g_l_pick T.F_l_pick.kp T.bi_l_pick .nil pass0 (pa_cons (pv 0) (pa_cons pe_int pa_nil)))))) pa_nil)))
  (pss_one (ps_ret (pv 1)))))), ?_⟩
  try dsimp only [cxOf, Cx.nox, Cx.wish]
  exact run_B (m := 2) (τ := Unit) h rfl (fun b p x hM => s_cq (Gn := fun _ : Unit => [])
    (s_newc (i := 1) (enc_lst (en_lst al_nil (by decide))) fun p2 names1 hm3 =>
  (s_seq (s_for (Gt := (fun x4 : (List Str) => [own p cBag (), own p2 (cLst rStr) x4, any])) (x0 := names1) (wk_range1 (ar_one (e_op o_I0 e_int (e_callB (i := 0) rfl (ar_one e_int))))) g_name (Sub.keep (Sub.keep (Sub.keep Sub.nil))) (fun a7 x4 =>
  (s_wk (G := [own p cBag (), own p2 (cLst rStr) x4, val rInt a7]) (g := fun (y8 : Str × List Str) => y8.2) (s_dropBL (i := 0) (j := 1) rfl rfl (by decide)) (fun (y8 : Str × List Str) => (Sub.keep (Sub.keep (Sub.drop Sub.nil))))))) fun x4 =>
  (s_seq (s_app (i := 1) rfl (e_slS (e_op o_addT (e_ixL (lv_own (i := 1) rfl) e_int) e_str) po_no (po_at (e_op o_I0 e_int (e_callB (i := 0) rfl (ar_one e_int)))))) fun y9 =>
  (s_frz (i := 1) (r := (rLst rStr)) rfl hm3 frz_lst (s_retB (i := 0) rfl (e_var (i := 1) rfl)))))) (fun d h => h)) (fun x k h => by
    unfold W_l_names at h
    dsimp only at h ⊢
    exact h)
def W_l_track (names0 : (List Str)) (k : (List Str) → Prop) : Prop :=
  W_l_pick (9 : Int) fun v23 => W_l_pick (9 : Int) fun v24 => W_l_pick (61 : Int) fun v25 => W_l_pick (2 : Int) fun v26 => W_l_pick (4 : Int) fun v27 => ∃ v22, atI ([v23, v24, v25, ((60 : Int) - v26)] : List Int) v27 = some v22 ∧ let size1 : Int := v22; W_l_pick (4 : Int) fun v21 => ∃ v20, atI ([(1 : Int), (2 : Int), (2 : Int), (6 : Int)] : List Int) v21 = some v20 ∧ let same2 : Int := v20; let out3 : (List Str) := ([] : List Str); (-(2 ^ 62) ≤ size1 ∧ size1 < 2 ^ 62) ∧ forP (rng 0 size1.toNat) out3 (fun (a9 : Int) (x6 : (List Str)) (n7 : (List Str) → Prop) => (fun (n12 : (List Str) → Prop) => (fun (k17 : Bool → Prop) => ((!x6.isEmpty) = true → W_l_pick same2 fun v19 => k17 (decide (v19 > (0 : Int)))) ∧ ((!x6.isEmpty) = false → k17 false)) fun c18 => (c18 = true → ∃ v14, atI x6 (-(1 : Int)) = some v14 ∧ x6.length < sizeLine ∧ let y13 : Str := v14; n12 (x6 ++ [y13])) ∧ (c18 = false → W_l_choice names0 fun v16 => x6.length < sizeLine ∧ let y15 : Str := v16; n12 (x6 ++ [y15]))) fun x10 => n7 x10) fun x6 => k x6
theorem okM_l_track (T : Txt K mg A) : FnOk P w K mg base CX0 4 A.f_l_track A.d_l_track ["_law_bag_here", "_law_names_here"] (spB (rOne (rLst rStr)) (rTup K rStr) (fun x k => W_l_track x k)) := by
  refine T.F_l_track.ok sc_l_track (fun vs H Q E h => spB_len h) (fun cdv Ar outer s0 H vs Q E hr h => ?_)
  refine ⟨_, (pss_cons (ps_set (i := 2) sc_l_track.nd rfl (Or.inl rfl) (pe_ix ix_list (pe_lst (pa_cons (pe_call (okM_l_pick T) (hr.mono (by decide)) rfl T.g_l_pick T.F_l_pick.kp T.bi_l_pick .nil pass0 (pa_cons (pv 0) (pa_cons pe_int pa_nil))) (pa_cons (pe_call (okM_l_pick T) (hr.mono (by decide)) rfl T.g_l_pick T.F_l_pick.kp T.bi_l_pick .nil pass0 (pa_cons (pv 0) (pa_cons pe_int pa_nil))) (pa_cons (pe_call (okM_l_pick T) (hr.mono (by decide)) rfl T.g_l_pick T.F_l_pick.kp T.bi_l_pick .nil pass0 (pa_cons (pv 0) (pa_cons pe_int pa_nil))) (pa_cons (pe_op op_sub pe_int (pe_call (okM_l_pick T) (hr.mono (by decide)) rfl T.g_l_pick T.F_l_pick.kp T.bi_l_pick .nil pass0 (pa_cons (pv 0) (pa_cons pe_int pa_nil)))) pa_nil))))) (pe_call (okM_l_pick T) (hr.mono (by decide)) rfl T.g_l_pick T.F_l_pick.kp T.bi_l_pick .nil pass0 (pa_cons (pv 0) (pa_cons pe_int pa_nil))) (fun _ _ => rfl)))
  (pss_cons (ps_set (i := 3) sc_l_track.nd rfl (Or.inl rfl) (pe_ix ix_list (pe_lst (pa_cons pe_int (pa_cons pe_int (pa_cons pe_int (pa_cons pe_int pa_nil))))) (pe_call (okM_l_pick T) (hr.mono (by decide)) rfl T.g_l_pick T.F_l_pick.kp T.bi_l_pick .nil pass0 (pa_cons (pv 0) (pa_cons pe_int pa_nil))) (fun _ _ => rfl)))
  (pss_cons (ps_set (i := 4) sc_l_track.nd rfl (Or.inl rfl) (pe_lst pa_nil))
  (pss_cons (ps_for PassesOwn.never rfl (pi_range1 rfl T.b_range (pa_cons (pv 2) pa_nil)) (pg_name (i := 5) sc_l_track.nd rfl (Or.inl rfl))
   (pss_one (ps_if (PW.pt (pw_and (pt_tru (pv 4)) (pw_and1 (pt_cmpR op_gt (pe_call (okM_l_pick T) (hr.mono (by decide)) rfl T.g_l_pick T.F_l_pick.kp T.bi_l_pick .nil pass0 (pa_cons (pv 0) (pa_cons (pv 3) pa_nil))) pe_int (nomark _))))) (pss_one (ps_expr (pe_bm PySem.F.plainAttrs_list PySem.F.slot_list_append PySem.F.type_list_append mt_append (pv 4) (pa_cons (pe_ix ix_list (pv 4) (pe_un un_neg pe_int) (fun _ _ => rfl)) pa_nil)))) (pss_one (ps_expr (pe_bm PySem.F.plainAttrs_list PySem.F.slot_list_append PySem.F.type_list_append mt_append (pv 4) (pa_cons (pe_call (okM_l_choice (r := rStr) T) (hr.mono (by decide)) rfl T.g_l_choice T.F_l_choice.kp T.bi_l_choice .nil pass0 (pa_cons (pv 0) (pa_cons (pv 1) pa_nil))) pa_nil)))))))
  (pss_one (ps_ret (pe_callTy cl_tuple (by rfl) T.b_tuple (by decide +kernel) (pa_cons (pv 4) pa_nil)))))))), ?_⟩
  try dsimp only [cxOf, Cx.nox, Cx.wish]
  exact run_B (m := 4) (τ := Unit) h rfl (fun b p x hM => s_cq (Gn := fun _ : Unit => [])
    (s_seq (s_asg (i := 2) (e_ixL (lv_e (e_new (en_lst (al_cons (e_callB (i := 0) rfl (ar_one e_int)) (al_cons (e_callB (i := 0) rfl (ar_one e_int)) (al_cons (e_callB (i := 0) rfl (ar_one e_int)) (al_cons (e_op o_I0 e_int (e_callB (i := 0) rfl (ar_one e_int))) al_nil)))) (by decide)))) (e_callB (i := 0) rfl (ar_one e_int)))) fun size1 =>
  (s_seq (s_asg (i := 3) (e_ixL (lv_e (e_new (en_lst (al_cons e_int (al_cons e_int (al_cons e_int (al_cons e_int al_nil)))) (by decide)))) (e_callB (i := 0) rfl (ar_one e_int)))) fun same2 =>
  (s_newc (i := 4) (enc_lst (en_lst al_nil (by decide))) fun p4 out3 hm5 =>
  (s_seq (s_for (Gt := (fun x6 : (List Str) => [own p cBag (), val (rLst rStr) x, val rInt size1, val rInt same2, own p4 (cLst rStr) x6, any])) (x0 := out3) (wk_range1 (ar_one (e_var (i := 2) rfl))) g_name (Sub.keep (Sub.keep (Sub.keep (Sub.keep (Sub.keep (Sub.keep Sub.nil)))))) (fun a9 x6 =>
  (s_wk (G := [own p cBag (), val (rLst rStr) x, val rInt size1, val rInt same2, own p4 (cLst rStr) x6, val rInt a9]) (g := fun (x10 : (List Str)) => x10) (s_if (Gn := (fun x10 : (List Str) => [own p cBag (), val (rLst rStr) x, val rInt size1, val rInt same2, own p4 (cLst rStr) x10, val rInt a9])) (t_and (t_truL (lv_own (i := 4) rfl)) (t_test (e_op o_I0b (e_callB (i := 0) rfl (ar_one (e_var (i := 3) rfl))) e_int)))
  (s_wk (G := [own p cBag (), val (rLst rStr) x, val rInt size1, val rInt same2, own p4 (cLst rStr) x6, val rInt a9]) (g := fun (y13 : Str) => (x6 ++ [y13])) (s_app (i := 4) rfl (e_ixL (lv_own (i := 4) rfl) (e_neg e_int))) (fun (y13 : Str) => (Sub.keep (Sub.keep (Sub.keep (Sub.keep (Sub.keep (Sub.keep Sub.nil))))))))
  (s_wk (G := [own p cBag (), val (rLst rStr) x, val rInt size1, val rInt same2, own p4 (cLst rStr) x6, val rInt a9]) (g := fun (y15 : Str) => (x6 ++ [y15])) (s_app (i := 4) rfl (e_callB (i := 0) rfl (ar_one (e_var (i := 1) rfl)))) (fun (y15 : Str) => (Sub.keep (Sub.keep (Sub.keep (Sub.keep (Sub.keep (Sub.keep Sub.nil))))))))) (fun (x10 : (List Str)) => (Sub.keep (Sub.keep (Sub.keep (Sub.keep (Sub.keep (Sub.drop Sub.nil)))))))))) fun x6 =>
  (s_retB (i := 0) rfl (e_tupL (lv_own (i := 4) rfl))))))) (fun d h => h)) (fun x k h => by
    unfold W_l_track at h
    dsimp only at h ⊢
    exact h)
def W_l_runs (track0 : (List Str)) (k : (List (Int × Int × Str)) → Prop) : Prop :=
  let out1 : (List (Int × Int × Str)) := ([] : List (Int × Int × Str)); forP (enumL track0) out1 (fun (a7 : (Int × Str)) (x4 : (List (Int × Int × Str))) (n5 : (List (Int × Int × Str)) → Prop) => (fun (n10 : (List (Int × Int × Str)) → Prop) => (fun (k15 : Bool → Prop) => ((!x4.isEmpty) = true → ∃ v17, atI x4 (-(1 : Int)) = some v17 ∧ k15 (decide (v17.2.2 = a7.2))) ∧ ((!x4.isEmpty) = false → k15 false)) fun c16 => (c16 = true → ∃ v13, atI x4 (-(1 : Int)) = some v13 ∧ ∃ j12, ixN x4.length (-(1 : Int)) = some j12 ∧ let y11 : Nat × (Int × Int × Str) := (j12, (v13.1, a7.1, a7.2)); n10 (x4.set y11.1 y11.2)) ∧ (c16 = false → x4.length < sizeLine ∧ let y14 : (Int × Int × Str) := (a7.1, a7.1, a7.2); n10 (x4 ++ [y14]))) fun x8 => n5 x8) fun x4 => k x4
theorem okM_l_runs (T : Txt K mg A) : FnOk P w K mg base CX0 1 A.f_l_runs A.d_l_runs ["_law_track_here"] (spP (rOne (rTup K rStr)) (rLst (rTp K (rCons rInt (rCons rInt (rOne rStr))))) (fun x k => W_l_runs x k)) := by
  refine T.F_l_runs.ok sc_l_runs (fun vs H Q E h => spP_len h) (fun cdv Ar outer s0 H vs Q E hr h => ?_)
  refine ⟨_, (pss_cons (ps_set (i := 1) sc_l_runs.nd rfl (Or.inl rfl) (pe_lst pa_nil))
  (pss_cons (ps_for PassesOwn.never rfl (pi_enumT (by rfl) T.b_enumerate (pa_cons (pv 0) pa_nil)) (pg_tup (n := 2) rfl (pgs_cons (pg_name (i := 2) sc_l_runs.nd rfl (Or.inl rfl)) (pgs_cons (pg_name (i := 3) sc_l_runs.nd rfl (Or.inl rfl)) pgs_nil)) (by rfl))
   (pss_one (ps_if (PW.pt (pw_and (pt_tru (pv 1)) (pw_and1 (pt_cmpR op_eq (pe_ix ix_tup (pe_ix ix_list (pv 1) (pe_un un_neg pe_int) (fun _ _ => rfl)) pe_int (fun _ _ => rfl)) (pv 3) (nomark _))))) (pss_one (ps_asg (pe_tup (pa_cons (pe_ix ix_tup (pe_ix ix_list (pv 1) (pe_un un_neg pe_int) (fun _ _ => rfl)) pe_int (fun _ _ => rfl)) (pa_cons (pv 2) (pa_cons (pv 3) pa_nil)))) (pg_sub (pv 1) (pe_un un_neg pe_int) set_list))) (pss_one (ps_expr (pe_bm PySem.F.plainAttrs_list PySem.F.slot_list_append PySem.F.type_list_append mt_append (pv 1) (pa_cons (pe_tup (pa_cons (pv 2) (pa_cons (pv 2) (pa_cons (pv 3) pa_nil)))) pa_nil)))))))
  (pss_one (ps_ret (pv 1))))), ?_⟩
  try dsimp only [cxOf, Cx.nox, Cx.wish]
  exact run_P (m := 3) (τ := Unit) h rfl (fun b x hM => s_cq (Gn := fun _ : Unit => [])
    (s_newc (i := 1) (enc_lst (en_lst al_nil (by decide))) fun p2 out1 hm3 =>
  (s_seq (s_for (Gt := (fun x4 : (List (Int × Int × Str)) => [val (rTup K rStr) x, own p2 (cLst (rTp K (rCons rInt (rCons rInt (rOne rStr))))) x4, any, any])) (x0 := out1) (wk_enumT (ar_one (e_var (i := 0) rfl))) (g_tup (gi_cons gi_one) rfl) (Sub.keep (Sub.keep (Sub.keep (Sub.keep Sub.nil)))) (fun a7 x4 =>
  (s_wk (G := [val (rTup K rStr) x, own p2 (cLst (rTp K (rCons rInt (rCons rInt (rOne rStr))))) x4, val rInt a7.1, val rStr a7.2]) (g := fun (x8 : (List (Int × Int × Str))) => x8) (s_if (Gn := (fun x8 : (List (Int × Int × Str)) => [val (rTup K rStr) x, own p2 (cLst (rTp K (rCons rInt (rCons rInt (rOne rStr))))) x8, val rInt a7.1, val rStr a7.2])) (t_and (t_truL (lv_own (i := 1) rfl)) (t_test (e_op o_eqS (e_it3_2 (e_ixL (lv_own (i := 1) rfl) (e_neg e_int))) (e_var (i := 3) rfl))))
  (s_wk (G := [val (rTup K rStr) x, own p2 (cLst (rTp K (rCons rInt (rCons rInt (rOne rStr))))) x4, val rInt a7.1, val rStr a7.2]) (g := fun (y11 : Nat × (Int × Int × Str)) => (x4.set y11.1 y11.2)) (s_setL (i := 1) rfl (e_tup (ar_cons (e_it3_0 (e_ixL (lv_own (i := 1) rfl) (e_neg e_int))) (ar_cons (e_var (i := 2) rfl) (ar_one (e_var (i := 3) rfl)))) (Nat.le_of_ble_eq_true rfl)) (e_neg e_int)) (fun (y11 : Nat × (Int × Int × Str)) => (Sub.keep (Sub.keep (Sub.keep (Sub.keep Sub.nil))))))
  (s_wk (G := [val (rTup K rStr) x, own p2 (cLst (rTp K (rCons rInt (rCons rInt (rOne rStr))))) x4, val rInt a7.1, val rStr a7.2]) (g := fun (y14 : (Int × Int × Str)) => (x4 ++ [y14])) (s_app (i := 1) rfl (e_tup (ar_cons (e_var (i := 2) rfl) (ar_cons (e_var (i := 2) rfl) (ar_one (e_var (i := 3) rfl)))) (Nat.le_of_ble_eq_true rfl))) (fun (y14 : (Int × Int × Str)) => (Sub.keep (Sub.keep (Sub.keep (Sub.keep Sub.nil))))))) (fun (x8 : (List (Int × Int × Str))) => (Sub.keep (Sub.keep (Sub.drop (Sub.drop Sub.nil)))))))) fun x4 =>
  (s_frz (i := 1) (r := (rLst (rTp K (rCons rInt (rCons rInt (rOne rStr)))))) rfl hm3 frz_lst (s_retP (e_var (i := 1) rfl))))) (fun d h => h)) (fun x k h => by
    unfold W_l_runs at h
    dsimp only at h ⊢
    exact h)
def W_l_bent (rows0 : (List (Int × Int × Str))) (names0 : (List Str)) (k : (List (Int × Int × Str)) → Prop) : Prop :=
  (fun (n3 : Unit → Prop) => ((!(!rows0.isEmpty)) = true → W_l_pick (3 : Int) fun v4 => W_l_pick (3 : Int) fun v5 => W_l_choice names0 fun v6 => k ([(v4, v5, v6)] : List (Int × Int × Str))) ∧ ((!(!rows0.isEmpty)) = false → n3 ())) fun x1 => W_l_pick (rows0.length : Int) fun v42 => let at7 : Int := v42; ∃ v41, atI rows0 at7 = some v41 ∧ let t8 : (Int × Int × Str) := v41; W_l_pick (4 : Int) fun v40 => ∃ v39, atI ([(1 : Int), (-(1 : Int)), (2 : Int), (-(2 : Int))] : List Int) v40 = some v39 ∧ let move9 : Int := v39; W_l_pick (8 : Int) fun v38 => let way10 : Int := v38; (fun (n13 : Unit → Prop) => ((decide (way10 = (0 : Int))) = true → (cutL rows0 none (some at7)).length + ([((t8.1 + move9), t8.2.1, t8.2.2)] : List (Int × Int × Str)).length ≤ sizeLine ∧ ((cutL rows0 none (some at7)) ++ ([((t8.1 + move9), t8.2.1, t8.2.2)] : List (Int × Int × Str))).length + (cutL rows0 (some (at7 + (1 : Int))) none).length ≤ sizeLine ∧ k (((cutL rows0 none (some at7)) ++ ([((t8.1 + move9), t8.2.1, t8.2.2)] : List (Int × Int × Str))) ++ (cutL rows0 (some (at7 + (1 : Int))) none))) ∧ ((decide (way10 = (0 : Int))) = false → n13 ())) fun x11 => (fun (n16 : Unit → Prop) => ((decide (way10 = (1 : Int))) = true → (cutL rows0 none (some at7)).length + ([(t8.1, (t8.2.1 + move9), t8.2.2)] : List (Int × Int × Str)).length ≤ sizeLine ∧ ((cutL rows0 none (some at7)) ++ ([(t8.1, (t8.2.1 + move9), t8.2.2)] : List (Int × Int × Str))).length + (cutL rows0 (some (at7 + (1 : Int))) none).length ≤ sizeLine ∧ k (((cutL rows0 none (some at7)) ++ ([(t8.1, (t8.2.1 + move9), t8.2.2)] : List (Int × Int × Str))) ++ (cutL rows0 (some (at7 + (1 : Int))) none))) ∧ ((decide (way10 = (1 : Int))) = false → n16 ())) fun x14 => (fun (n19 : Unit → Prop) => ((decide (way10 = (2 : Int))) = true → (cutL rows0 none (some at7)).length + (cutL rows0 (some (at7 + (1 : Int))) none).length ≤ sizeLine ∧ k ((cutL rows0 none (some at7)) ++ (cutL rows0 (some (at7 + (1 : Int))) none))) ∧ ((decide (way10 = (2 : Int))) = false → n19 ())) fun x17 => (fun (n22 : Unit → Prop) => ((decide (way10 = (3 : Int))) = true → ∃ v23, atI rows0 at7 = some v23 ∧ (cutL rows0 none (some at7)).length + ([v23] : List (Int × Int × Str)).length ≤ sizeLine ∧ ((cutL rows0 none (some at7)) ++ ([v23] : List (Int × Int × Str))).length + (cutL rows0 (some at7) none).length ≤ sizeLine ∧ k (((cutL rows0 none (some at7)) ++ ([v23] : List (Int × Int × Str))) ++ (cutL rows0 (some at7) none))) ∧ ((decide (way10 = (3 : Int))) = false → n22 ())) fun x20 => (fun (n26 : Unit → Prop) => (((decide (way10 = (4 : Int))) && (decide ((at7 + (1 : Int)) < (rows0.length : Int)))) = true → ∃ v27, atI rows0 (at7 + (1 : Int)) = some v27 ∧ ∃ v28, atI rows0 at7 = some v28 ∧ (cutL rows0 none (some at7)).length + ([v27, v28] : List (Int × Int × Str)).length ≤ sizeLine ∧ ((cutL rows0 none (some at7)) ++ ([v27, v28] : List (Int × Int × Str))).length + (cutL rows0 (some (at7 + (2 : Int))) none).length ≤ sizeLine ∧ k (((cutL rows0 none (some at7)) ++ ([v27, v28] : List (Int × Int × Str))) ++ (cutL rows0 (some (at7 + (2 : Int))) none))) ∧ (((decide (way10 = (4 : Int))) && (decide ((at7 + (1 : Int)) < (rows0.length : Int)))) = false → n26 ())) fun x24 => (fun (n31 : Unit → Prop) => ((decide (way10 = (5 : Int))) = true → (cutL rows0 none (some at7)).length + ([(t8.2.1, t8.1, t8.2.2)] : List (Int × Int × Str)).length ≤ sizeLine ∧ ((cutL rows0 none (some at7)) ++ ([(t8.2.1, t8.1, t8.2.2)] : List (Int × Int × Str))).length + (cutL rows0 (some (at7 + (1 : Int))) none).length ≤ sizeLine ∧ k (((cutL rows0 none (some at7)) ++ ([(t8.2.1, t8.1, t8.2.2)] : List (Int × Int × Str))) ++ (cutL rows0 (some (at7 + (1 : Int))) none))) ∧ ((decide (way10 = (5 : Int))) = false → n31 ())) fun x29 => (fun (n34 : Unit → Prop) => (((decide (way10 = (6 : Int))) && (decide (t8.2.1 > t8.1))) = true → W_l_pick (t8.2.1 - t8.1) fun v36 => let cut35 : Int := (t8.1 + v36); (cutL rows0 none (some at7)).length + ([(t8.1, cut35, t8.2.2), ((cut35 + (1 : Int)), t8.2.1, t8.2.2)] : List (Int × Int × Str)).length ≤ sizeLine ∧ ((cutL rows0 none (some at7)) ++ ([(t8.1, cut35, t8.2.2), ((cut35 + (1 : Int)), t8.2.1, t8.2.2)] : List (Int × Int × Str))).length + (cutL rows0 (some (at7 + (1 : Int))) none).length ≤ sizeLine ∧ k (((cutL rows0 none (some at7)) ++ ([(t8.1, cut35, t8.2.2), ((cut35 + (1 : Int)), t8.2.1, t8.2.2)] : List (Int × Int × Str))) ++ (cutL rows0 (some (at7 + (1 : Int))) none))) ∧ (((decide (way10 = (6 : Int))) && (decide (t8.2.1 > t8.1))) = false → n34 ())) fun x32 => W_l_choice names0 fun v37 => (cutL rows0 none (some at7)).length + ([(t8.1, t8.2.1, v37)] : List (Int × Int × Str)).length ≤ sizeLine ∧ ((cutL rows0 none (some at7)) ++ ([(t8.1, t8.2.1, v37)] : List (Int × Int × Str))).length + (cutL rows0 (some (at7 + (1 : Int))) none).length ≤ sizeLine ∧ k (((cutL rows0 none (some at7)) ++ ([(t8.1, t8.2.1, v37)] : List (Int × Int × Str))) ++ (cutL rows0 (some (at7 + (1 : Int))) none))
theorem okM_l_bent (T : Txt K mg A) : FnOk P w K mg base CX0 4 A.f_l_bent A.d_l_bent ["_law_bag_here", "_law_rows", "_law_names_here"] (spB (rCons (rLst (rTp K (rCons rInt (rCons rInt (rOne rStr))))) (rOne (rLst rStr))) (rLst (rTp K (rCons rInt (rCons rInt (rOne rStr))))) (fun x k => W_l_bent x.1 x.2 k)) := by
  refine T.F_l_bent.ok sc_l_bent (fun vs H Q E h => spB_len h) (fun cdv Ar outer s0 H vs Q E hr h => ?_)
  refine ⟨_, (pss_cons (ps_if (pt_not (pt_tru (pv 1))) (pss_one (ps_ret (pe_lst (pa_cons (pe_tup (pa_cons (pe_call (okM_l_pick T) (hr.mono (by decide)) rfl T.g_l_pick T.F_l_pick.kp T.bi_l_pick .nil pass0 (pa_cons (pv 0) (pa_cons pe_int pa_nil))) (pa_cons (pe_call (okM_l_pick T) (hr.mono (by decide)) rfl T.g_l_pick T.F_l_pick.kp T.bi_l_pick .nil pass0 (pa_cons (pv 0) (pa_cons pe_int pa_nil))) (pa_cons (pe_call (okM_l_choice (r := rStr) T) (hr.mono (by decide)) rfl T.g_l_choice T.F_l_choice.kp T.bi_l_choice .nil pass0 (pa_cons (pv 0) (pa_cons (pv 2) pa_nil))) pa_nil)))) pa_nil)))) pss_nil)
  (pss_cons (ps_set (i := 3) sc_l_bent.nd rfl (Or.inl rfl) (pe_call (okM_l_pick T) (hr.mono (by decide)) rfl T.g_l_pick T.F_l_pick.kp T.bi_l_pick .nil pass0 (pa_cons (pv 0) (pa_cons (pe_callB cl_len (by rfl) T.b_len (by decide +kernel) (pa_cons (pv 1) pa_nil)) pa_nil))))
  (pss_cons (ps_asg (pe_ix ix_list (pv 1) (pv 3) (fun _ _ => rfl)) (pg_tup (n := 3) rfl (pgs_cons (pg_name (i := 4) sc_l_bent.nd rfl (Or.inl rfl)) (pgs_cons (pg_name (i := 5) sc_l_bent.nd rfl (Or.inl rfl)) (pgs_cons (pg_name (i := 6) sc_l_bent.nd rfl (Or.inl rfl)) pgs_nil))) (by rfl)))
  (pss_cons (ps_set (i := 7) sc_l_bent.nd rfl (Or.inl rfl) (pe_ix ix_list (pe_lst (pa_cons pe_int (pa_cons (pe_un un_neg pe_int) (pa_cons pe_int (pa_cons (pe_un un_neg pe_int) pa_nil))))) (pe_call (okM_l_pick T) (hr.mono (by decide)) rfl T.g_l_pick T.F_l_pick.kp T.bi_l_pick .nil pass0 (pa_cons (pv 0) (pa_cons pe_int pa_nil))) (fun _ _ => rfl)))
  (pss_cons (ps_set (i := 8) sc_l_bent.nd rfl (Or.inl rfl) (pe_call (okM_l_pick T) (hr.mono (by decide)) rfl T.g_l_pick T.F_l_pick.kp T.bi_l_pick .nil pass0 (pa_cons (pv 0) (pa_cons pe_int pa_nil))))
  (pss_cons (ps_if (pt_cmpR op_eq (pv 8) pe_int (nomark _)) (pss_one (ps_ret (pe_op op_cat (pe_op op_cat (pe_slice sl_list (pv 1) po_none (po_some (pv 3))) (pe_lst (pa_cons (pe_tup (pa_cons (pe_op op_add (pv 4) (pv 7)) (pa_cons (pv 5) (pa_cons (pv 6) pa_nil)))) pa_nil))) (pe_slice sl_list (pv 1) (po_some (pe_op op_add (pv 3) pe_int)) po_none)))) pss_nil)
  (pss_cons (ps_if (pt_cmpR op_eq (pv 8) pe_int (nomark _)) (pss_one (ps_ret (pe_op op_cat (pe_op op_cat (pe_slice sl_list (pv 1) po_none (po_some (pv 3))) (pe_lst (pa_cons (pe_tup (pa_cons (pv 4) (pa_cons (pe_op op_add (pv 5) (pv 7)) (pa_cons (pv 6) pa_nil)))) pa_nil))) (pe_slice sl_list (pv 1) (po_some (pe_op op_add (pv 3) pe_int)) po_none)))) pss_nil)
  (pss_cons (ps_if (pt_cmpR op_eq (pv 8) pe_int (nomark _)) (pss_one (ps_ret (pe_op op_cat (pe_slice sl_list (pv 1) po_none (po_some (pv 3))) (pe_slice sl_list (pv 1) (po_some (pe_op op_add (pv 3) pe_int)) po_none)))) pss_nil)
  (pss_cons (ps_if (pt_cmpR op_eq (pv 8) pe_int (nomark _)) (pss_one (ps_ret (pe_op op_cat (pe_op op_cat (pe_slice sl_list (pv 1) po_none (po_some (pv 3))) (pe_lst (pa_cons (pe_ix ix_list (pv 1) (pv 3) (fun _ _ => rfl)) pa_nil))) (pe_slice sl_list (pv 1) (po_some (pv 3)) po_none)))) pss_nil)
  (pss_cons (ps_if (PW.pt (pw_and (pt_cmpR op_eq (pv 8) pe_int (nomark _)) (pw_and1 (pt_cmpR op_lt (pe_op op_add (pv 3) pe_int) (pe_callB cl_len (by rfl) T.b_len (by decide +kernel) (pa_cons (pv 1) pa_nil)) (nomark _))))) (pss_one (ps_ret (pe_op op_cat (pe_op op_cat (pe_slice sl_list (pv 1) po_none (po_some (pv 3))) (pe_lst (pa_cons (pe_ix ix_list (pv 1) (pe_op op_add (pv 3) pe_int) (fun _ _ => rfl)) (pa_cons (pe_ix ix_list (pv 1) (pv 3) (fun _ _ => rfl)) pa_nil)))) (pe_slice sl_list (pv 1) (po_some (pe_op op_add (pv 3) pe_int)) po_none)))) pss_nil)
  (pss_cons (ps_if (pt_cmpR op_eq (pv 8) pe_int (nomark _)) (pss_one (ps_ret (pe_op op_cat (pe_op op_cat (pe_slice sl_list (pv 1) po_none (po_some (pv 3))) (pe_lst (pa_cons (pe_tup (pa_cons (pv 5) (pa_cons (pv 4) (pa_cons (pv 6) pa_nil)))) pa_nil))) (pe_slice sl_list (pv 1) (po_some (pe_op op_add (pv 3) pe_int)) po_none)))) pss_nil)
  (pss_cons (ps_if (PW.pt (pw_and (pt_cmpR op_eq (pv 8) pe_int (nomark _)) (pw_and1 (pt_cmpR op_gt (pv 5) (pv 4) (nomark _))))) (pss_cons (ps_set (i := 9) sc_l_bent.nd rfl (Or.inl rfl) (pe_op op_add (pv 4) (pe_call (okM_l_pick T) (hr.mono (by decide)) rfl T.g_l_pick T.F_l_pick.kp T.bi_l_pick .nil pass0 (pa_cons (pv 0) (pa_cons (pe_op op_sub (pv 5) (pv 4)) pa_nil)))))
  (pss_one (ps_ret (pe_op op_cat (pe_op op_cat (pe_slice sl_list (pv 1) po_none (po_some (pv 3))) (pe_lst (pa_cons (pe_tup (pa_cons (pv 4) (pa_cons (pv 9) (pa_cons (pv 6) pa_nil)))) (pa_cons (pe_tup (pa_cons (pe_op op_add (pv 9) pe_int) (pa_cons (pv 5) (pa_cons (pv 6) pa_nil)))) pa_nil)))) (pe_slice sl_list (pv 1) (po_some (pe_op op_add (pv 3) pe_int)) po_none))))) pss_nil)
  (pss_one (ps_ret (pe_op op_cat (pe_op op_cat (pe_slice sl_list (pv 1) po_none (po_some (pv 3))) (pe_lst (pa_cons (pe_tup (pa_cons (pv 4) (pa_cons (pv 5) (pa_cons (pe_call (okM_l_choice (r := rStr) T) (hr.mono (by decide)) rfl T.g_l_choice T.F_l_choice.kp T.bi_l_choice .nil pass0 (pa_cons (pv 0) (pa_cons (pv 2) pa_nil))) pa_nil)))) pa_nil))) (pe_slice sl_list (pv 1) (po_some (pe_op op_add (pv 3) pe_int)) po_none)))))))))))))))), ?_⟩
  try dsimp only [cxOf, Cx.nox, Cx.wish]
  exact run_B (m := 7) (τ := Unit) h rfl (fun b p x hM => s_cq (Gn := fun _ : Unit => [])
    (s_seq (s_if (Gn := (fun x1 : Unit => [own p cBag (), val (rLst (rTp K (rCons rInt (rCons rInt (rOne rStr))))) x.1, val (rLst rStr) x.2, any, any, any, any, any, any, any])) (t_not (t_truL (lv_e (e_var (i := 1) rfl))))
  (s_retB (i := 0) rfl (e_new (en_lst (al_cons (e_tup (ar_cons (e_callB (i := 0) rfl (ar_one e_int)) (ar_cons (e_callB (i := 0) rfl (ar_one e_int)) (ar_one (e_callB (i := 0) rfl (ar_one (e_var (i := 2) rfl)))))) (Nat.le_of_ble_eq_true rfl)) al_nil) (by decide))))
  (s_wk (G := [own p cBag (), val (rLst (rTp K (rCons rInt (rCons rInt (rOne rStr))))) x.1, val (rLst rStr) x.2, any, any, any, any, any, any, any]) (g := fun _ => ()) s_nil (fun _ => (Sub.keep (Sub.keep (Sub.keep (Sub.keep (Sub.keep (Sub.keep (Sub.keep (Sub.keep (Sub.keep (Sub.keep Sub.nil))))))))))))) fun x1 =>
  (s_seq (s_asg (i := 3) (e_callB (i := 0) rfl (ar_one (e_lenL (lv_e (e_var (i := 1) rfl)))))) fun at7 =>
  (s_seq (s_asgT (e_ixL (lv_e (e_var (i := 1) rfl)) (e_var (i := 3) rfl)) (g_tup (gi_cons (gi_cons gi_one)) rfl)) fun t8 =>
  (s_seq (s_asg (i := 7) (e_ixL (lv_e (e_new (en_lst (al_cons e_int (al_cons (e_neg e_int) (al_cons e_int (al_cons (e_neg e_int) al_nil)))) (by decide)))) (e_callB (i := 0) rfl (ar_one e_int)))) fun move9 =>
  (s_seq (s_asg (i := 8) (e_callB (i := 0) rfl (ar_one e_int))) fun way10 =>
  (s_seq (s_if (Gn := (fun x11 : Unit => [own p cBag (), val (rLst (rTp K (rCons rInt (rCons rInt (rOne rStr))))) x.1, val (rLst rStr) x.2, val rInt at7, val rInt t8.1, val rInt t8.2.1, val rStr t8.2.2, val rInt move9, val rInt way10, any])) (t_test (e_op o_eqI (e_var (i := 8) rfl) e_int))
  (s_retB (i := 0) rfl (e_new (en_cat (lv_e (e_new (en_cat (lv_e (e_new (en_slL (lv_e (e_var (i := 1) rfl)) po_no (po_at (e_var (i := 3) rfl))))) (lv_e (e_new (en_lst (al_cons (e_tup (ar_cons (e_op o_I0 (e_var (i := 4) rfl) (e_var (i := 7) rfl)) (ar_cons (e_var (i := 5) rfl) (ar_one (e_var (i := 6) rfl)))) (Nat.le_of_ble_eq_true rfl)) al_nil) (by decide))))))) (lv_e (e_new (en_slL (lv_e (e_var (i := 1) rfl)) (po_at (e_op o_I0 (e_var (i := 3) rfl) e_int)) po_no))))))
  (s_wk (G := [own p cBag (), val (rLst (rTp K (rCons rInt (rCons rInt (rOne rStr))))) x.1, val (rLst rStr) x.2, val rInt at7, val rInt t8.1, val rInt t8.2.1, val rStr t8.2.2, val rInt move9, val rInt way10, any]) (g := fun _ => ()) s_nil (fun _ => (Sub.keep (Sub.keep (Sub.keep (Sub.keep (Sub.keep (Sub.keep (Sub.keep (Sub.keep (Sub.keep (Sub.keep Sub.nil))))))))))))) fun x11 =>
  (s_seq (s_if (Gn := (fun x14 : Unit => [own p cBag (), val (rLst (rTp K (rCons rInt (rCons rInt (rOne rStr))))) x.1, val (rLst rStr) x.2, val rInt at7, val rInt t8.1, val rInt t8.2.1, val rStr t8.2.2, val rInt move9, val rInt way10, any])) (t_test (e_op o_eqI (e_var (i := 8) rfl) e_int))
  (s_retB (i := 0) rfl (e_new (en_cat (lv_e (e_new (en_cat (lv_e (e_new (en_slL (lv_e (e_var (i := 1) rfl)) po_no (po_at (e_var (i := 3) rfl))))) (lv_e (e_new (en_lst (al_cons (e_tup (ar_cons (e_var (i := 4) rfl) (ar_cons (e_op o_I0 (e_var (i := 5) rfl) (e_var (i := 7) rfl)) (ar_one (e_var (i := 6) rfl)))) (Nat.le_of_ble_eq_true rfl)) al_nil) (by decide))))))) (lv_e (e_new (en_slL (lv_e (e_var (i := 1) rfl)) (po_at (e_op o_I0 (e_var (i := 3) rfl) e_int)) po_no))))))
  (s_wk (G := [own p cBag (), val (rLst (rTp K (rCons rInt (rCons rInt (rOne rStr))))) x.1, val (rLst rStr) x.2, val rInt at7, val rInt t8.1, val rInt t8.2.1, val rStr t8.2.2, val rInt move9, val rInt way10, any]) (g := fun _ => ()) s_nil (fun _ => (Sub.keep (Sub.keep (Sub.keep (Sub.keep (Sub.keep (Sub.keep (Sub.keep (Sub.keep (Sub.keep (Sub.keep Sub.nil))))))))))))) fun x14 =>
  (s_seq (s_if (Gn := (fun x17 : Unit => [own p cBag (), val (rLst (rTp K (rCons rInt (rCons rInt (rOne rStr))))) x.1, val (rLst rStr) x.2, val rInt at7, val rInt t8.1, val rInt t8.2.1, val rStr t8.2.2, val rInt move9, val rInt way10, any])) (t_test (e_op o_eqI (e_var (i := 8) rfl) e_int))
  (s_retB (i := 0) rfl (e_new (en_cat (lv_e (e_new (en_slL (lv_e (e_var (i := 1) rfl)) po_no (po_at (e_var (i := 3) rfl))))) (lv_e (e_new (en_slL (lv_e (e_var (i := 1) rfl)) (po_at (e_op o_I0 (e_var (i := 3) rfl) e_int)) po_no))))))
  (s_wk (G := [own p cBag (), val (rLst (rTp K (rCons rInt (rCons rInt (rOne rStr))))) x.1, val (rLst rStr) x.2, val rInt at7, val rInt t8.1, val rInt t8.2.1, val rStr t8.2.2, val rInt move9, val rInt way10, any]) (g := fun _ => ()) s_nil (fun _ => (Sub.keep (Sub.keep (Sub.keep (Sub.keep (Sub.keep (Sub.keep (Sub.keep (Sub.keep (Sub.keep (Sub.keep Sub.nil))))))))))))) fun x17 =>
  (s_seq (s_if (Gn := (fun x20 : Unit => [own p cBag (), val (rLst (rTp K (rCons rInt (rCons rInt (rOne rStr))))) x.1, val (rLst rStr) x.2, val rInt at7, val rInt t8.1, val rInt t8.2.1, val rStr t8.2.2, val rInt move9, val rInt way10, any])) (t_test (e_op o_eqI (e_var (i := 8) rfl) e_int))
  (s_retB (i := 0) rfl (e_new (en_cat (lv_e (e_new (en_cat (lv_e (e_new (en_slL (lv_e (e_var (i := 1) rfl)) po_no (po_at (e_var (i := 3) rfl))))) (lv_e (e_new (en_lst (al_cons (e_ixL (lv_e (e_var (i := 1) rfl)) (e_var (i := 3) rfl)) al_nil) (by decide))))))) (lv_e (e_new (en_slL (lv_e (e_var (i := 1) rfl)) (po_at (e_var (i := 3) rfl)) po_no))))))
  (s_wk (G := [own p cBag (), val (rLst (rTp K (rCons rInt (rCons rInt (rOne rStr))))) x.1, val (rLst rStr) x.2, val rInt at7, val rInt t8.1, val rInt t8.2.1, val rStr t8.2.2, val rInt move9, val rInt way10, any]) (g := fun _ => ()) s_nil (fun _ => (Sub.keep (Sub.keep (Sub.keep (Sub.keep (Sub.keep (Sub.keep (Sub.keep (Sub.keep (Sub.keep (Sub.keep Sub.nil))))))))))))) fun x20 =>
  (s_seq (s_if (Gn := (fun x24 : Unit => [own p cBag (), val (rLst (rTp K (rCons rInt (rCons rInt (rOne rStr))))) x.1, val (rLst rStr) x.2, val rInt at7, val rInt t8.1, val rInt t8.2.1, val rStr t8.2.2, val rInt move9, val rInt way10, any])) (t_andP (t_test (e_op o_eqI (e_var (i := 8) rfl) e_int)) (t_test (e_op o_I0b (e_op o_I0 (e_var (i := 3) rfl) e_int) (e_lenL (lv_e (e_var (i := 1) rfl))))))
  (s_retB (i := 0) rfl (e_new (en_cat (lv_e (e_new (en_cat (lv_e (e_new (en_slL (lv_e (e_var (i := 1) rfl)) po_no (po_at (e_var (i := 3) rfl))))) (lv_e (e_new (en_lst (al_cons (e_ixL (lv_e (e_var (i := 1) rfl)) (e_op o_I0 (e_var (i := 3) rfl) e_int)) (al_cons (e_ixL (lv_e (e_var (i := 1) rfl)) (e_var (i := 3) rfl)) al_nil)) (by decide))))))) (lv_e (e_new (en_slL (lv_e (e_var (i := 1) rfl)) (po_at (e_op o_I0 (e_var (i := 3) rfl) e_int)) po_no))))))
  (s_wk (G := [own p cBag (), val (rLst (rTp K (rCons rInt (rCons rInt (rOne rStr))))) x.1, val (rLst rStr) x.2, val rInt at7, val rInt t8.1, val rInt t8.2.1, val rStr t8.2.2, val rInt move9, val rInt way10, any]) (g := fun _ => ()) s_nil (fun _ => (Sub.keep (Sub.keep (Sub.keep (Sub.keep (Sub.keep (Sub.keep (Sub.keep (Sub.keep (Sub.keep (Sub.keep Sub.nil))))))))))))) fun x24 =>
  (s_seq (s_if (Gn := (fun x29 : Unit => [own p cBag (), val (rLst (rTp K (rCons rInt (rCons rInt (rOne rStr))))) x.1, val (rLst rStr) x.2, val rInt at7, val rInt t8.1, val rInt t8.2.1, val rStr t8.2.2, val rInt move9, val rInt way10, any])) (t_test (e_op o_eqI (e_var (i := 8) rfl) e_int))
  (s_retB (i := 0) rfl (e_new (en_cat (lv_e (e_new (en_cat (lv_e (e_new (en_slL (lv_e (e_var (i := 1) rfl)) po_no (po_at (e_var (i := 3) rfl))))) (lv_e (e_new (en_lst (al_cons (e_tup (ar_cons (e_var (i := 5) rfl) (ar_cons (e_var (i := 4) rfl) (ar_one (e_var (i := 6) rfl)))) (Nat.le_of_ble_eq_true rfl)) al_nil) (by decide))))))) (lv_e (e_new (en_slL (lv_e (e_var (i := 1) rfl)) (po_at (e_op o_I0 (e_var (i := 3) rfl) e_int)) po_no))))))
  (s_wk (G := [own p cBag (), val (rLst (rTp K (rCons rInt (rCons rInt (rOne rStr))))) x.1, val (rLst rStr) x.2, val rInt at7, val rInt t8.1, val rInt t8.2.1, val rStr t8.2.2, val rInt move9, val rInt way10, any]) (g := fun _ => ()) s_nil (fun _ => (Sub.keep (Sub.keep (Sub.keep (Sub.keep (Sub.keep (Sub.keep (Sub.keep (Sub.keep (Sub.keep (Sub.keep Sub.nil))))))))))))) fun x29 =>
  (s_seq (s_if (Gn := (fun x32 : Unit => [own p cBag (), val (rLst (rTp K (rCons rInt (rCons rInt (rOne rStr))))) x.1, val (rLst rStr) x.2, val rInt at7, val rInt t8.1, val rInt t8.2.1, val rStr t8.2.2, val rInt move9, val rInt way10, any])) (t_andP (t_test (e_op o_eqI (e_var (i := 8) rfl) e_int)) (t_test (e_op o_I0b (e_var (i := 5) rfl) (e_var (i := 4) rfl))))
  (s_seq (s_asg (i := 9) (e_op o_I0 (e_var (i := 4) rfl) (e_callB (i := 0) rfl (ar_one (e_op o_I0 (e_var (i := 5) rfl) (e_var (i := 4) rfl)))))) fun cut35 =>
  (s_retB (i := 0) rfl (e_new (en_cat (lv_e (e_new (en_cat (lv_e (e_new (en_slL (lv_e (e_var (i := 1) rfl)) po_no (po_at (e_var (i := 3) rfl))))) (lv_e (e_new (en_lst (al_cons (e_tup (ar_cons (e_var (i := 4) rfl) (ar_cons (e_var (i := 9) rfl) (ar_one (e_var (i := 6) rfl)))) (Nat.le_of_ble_eq_true rfl)) (al_cons (e_tup (ar_cons (e_op o_I0 (e_var (i := 9) rfl) e_int) (ar_cons (e_var (i := 5) rfl) (ar_one (e_var (i := 6) rfl)))) (Nat.le_of_ble_eq_true rfl)) al_nil)) (by decide))))))) (lv_e (e_new (en_slL (lv_e (e_var (i := 1) rfl)) (po_at (e_op o_I0 (e_var (i := 3) rfl) e_int)) po_no)))))))
  (s_wk (G := [own p cBag (), val (rLst (rTp K (rCons rInt (rCons rInt (rOne rStr))))) x.1, val (rLst rStr) x.2, val rInt at7, val rInt t8.1, val rInt t8.2.1, val rStr t8.2.2, val rInt move9, val rInt way10, any]) (g := fun _ => ()) s_nil (fun _ => (Sub.keep (Sub.keep (Sub.keep (Sub.keep (Sub.keep (Sub.keep (Sub.keep (Sub.keep (Sub.keep (Sub.keep Sub.nil))))))))))))) fun x32 =>
  (s_retB (i := 0) rfl (e_new (en_cat (lv_e (e_new (en_cat (lv_e (e_new (en_slL (lv_e (e_var (i := 1) rfl)) po_no (po_at (e_var (i := 3) rfl))))) (lv_e (e_new (en_lst (al_cons (e_tup (ar_cons (e_var (i := 4) rfl) (ar_cons (e_var (i := 5) rfl) (ar_one (e_callB (i := 0) rfl (ar_one (e_var (i := 2) rfl)))))) (Nat.le_of_ble_eq_true rfl)) al_nil) (by decide))))))) (lv_e (e_new (en_slL (lv_e (e_var (i := 1) rfl)) (po_at (e_op o_I0 (e_var (i := 3) rfl) e_int)) po_no)))))))))))))))))) (fun d h => h)) (fun x k h => by
    unfold W_l_bent at h
    dsimp only at h ⊢
    exact h)
def W_l_due (rows0 : (List (Int × Int × Str))) (k : Td → Prop) : Prop :=
  let out1 : (List Str) := ([] : List Str); forP rows0 out1 (fun (a5 : (Int × Int × Str)) (x2 : (List Str)) (n3 : (List Str) → Prop) => (fun (n8 : Unit → Prop) => (((!decide (a5.1 = (x2.length : Int))) || (decide (a5.2.1 < a5.1))) = true → k (Td.bad a5)) ∧ (((!decide (a5.1 = (x2.length : Int))) || (decide (a5.2.1 < a5.1))) = false → n8 ())) fun x6 => (-(2 ^ 62) ≤ a5.1 ∧ a5.1 < 2 ^ 62 ∧ -(2 ^ 62) ≤ (a5.2.1 + (1 : Int)) ∧ (a5.2.1 + (1 : Int)) < 2 ^ 62) ∧ (rng a5.1 ((a5.2.1 + (1 : Int)) - a5.1).toNat).length ≤ sizeLine ∧ x2.length + ((rng a5.1 ((a5.2.1 + (1 : Int)) - a5.1).toNat).map fun (a10 : Int) => a5.2.2).length ≤ sizeLine ∧ let out9 : (List Str) := (x2 ++ ((rng a5.1 ((a5.2.1 + (1 : Int)) - a5.1).toNat).map fun (a10 : Int) => a5.2.2)); n3 out9) fun x2 => k (Td.ok x2)
theorem okM_l_due (T : Txt K mg A) : FnOk P w K mg base CX0 1 A.f_l_due A.d_l_due ["_law_rows"] (spP (rOne (rLst (rTp K (rCons rInt (rCons rInt (rOne rStr)))))) (rTd K) (fun x k => W_l_due x k)) := by
  refine T.F_l_due.ok sc_l_due (fun vs H Q E h => spP_len h) (fun cdv Ar outer s0 H vs Q E hr h => ?_)
  refine ⟨_, (pss_cons (ps_set (i := 1) sc_l_due.nd rfl (Or.inl rfl) (pe_lst pa_nil))
  (pss_cons (ps_for PassesOwn.never rfl (pi_list (pv 0)) (pg_name (i := 2) sc_l_due.nd rfl (Or.inr rfl))
   (pss_cons (ps_if (PW.pt (pw_or (pt_cmpR op_ne (pe_ix ix_tup (pv 2) pe_int (fun _ _ => rfl)) (pe_callB cl_len (by rfl) T.b_len (by decide +kernel) (pa_cons (pv 1) pa_nil)) (nomark _)) (pw_or1 (pt_cmpR op_lt (pe_ix ix_tup (pv 2) pe_int (fun _ _ => rfl)) (pe_ix ix_tup (pv 2) pe_int (fun _ _ => rfl)) (nomark _))))) (pss_one (ps_ret (pe_tup (pa_cons pe_str (pa_cons (pv 2) pa_nil))))) pss_nil)
  (pss_one (ps_set (i := 1) sc_l_due.nd rfl (Or.inl rfl) (pe_op op_cat (pv 1) (pe_lc (own := [("_law_day", 3)]) (g := gName 3) (tt := tYes) rfl sc_l_due.nd (pi_range2 rfl T.b_range (pa_cons (pe_ix ix_tup (pv 2) pe_int (fun _ _ => rfl)) (pa_cons (pe_op op_add (pe_ix ix_tup (pv 2) pe_int (fun _ _ => rfl)) pe_int) pa_nil))) (blkOk_by (N := ["_law_rows", "_law_out", "_law_row", "_law_day"]) (sc := defScope s_l_due) (by decide +kernel)) (fun _ _ _ _ _ => (pg_name (i := 3) sc_l_due.nd rfl (Or.inl rfl))) (fun _ _ _ _ _ => pts_nil) (fun _ _ _ _ _ => (pe_ix (show IxR _ (rIxT K) from ix_tup) (pv 2) pe_int (fun _ _ => rfl)))))))))
  (pss_one (ps_ret (pe_tup (pa_cons pe_str (pa_cons (pe_callTy cl_tuple (by rfl) T.b_tuple (by decide +kernel) (pa_cons (pv 1) pa_nil)) pa_nil))))))), ?_⟩
  try dsimp only [cxOf, Cx.nox, Cx.wish]
  exact run_P (m := 3) (τ := Unit) h rfl (fun b x hM => s_cq (Gn := fun _ : Unit => [])
    (s_seq (s_asg (i := 1) (e_new (en_lst al_nil (by decide)))) fun out1 =>
  (s_seq (s_for (Gt := (fun x2 : (List Str) => [val (rLst (rTp K (rCons rInt (rCons rInt (rOne rStr))))) x, val (rLst rStr) x2, any, any])) (x0 := out1) (wk_list (e_var (i := 0) rfl)) g_name (Sub.keep (Sub.keep (Sub.keep (Sub.keep Sub.nil)))) (fun a5 x2 =>
  (s_seq (s_if (Gn := (fun x6 : Unit => [val (rLst (rTp K (rCons rInt (rCons rInt (rOne rStr))))) x, val (rLst rStr) x2, val (rTp K (rCons rInt (rCons rInt (rOne rStr)))) a5, any])) (t_orP (t_test (e_op o_neI (e_it3_0 (e_var (i := 2) rfl)) (e_lenL (lv_e (e_var (i := 1) rfl))))) (t_test (e_op o_I0b (e_it3_1 (e_var (i := 2) rfl)) (e_it3_0 (e_var (i := 2) rfl)))))
  (s_retP (e_tdBad (e_var (i := 2) rfl)))
  (s_wk (G := [val (rLst (rTp K (rCons rInt (rCons rInt (rOne rStr))))) x, val (rLst rStr) x2, val (rTp K (rCons rInt (rCons rInt (rOne rStr)))) a5, any]) (g := fun _ => ()) s_nil (fun _ => (Sub.keep (Sub.keep (Sub.keep (Sub.keep Sub.nil))))))) fun x6 =>
  (s_wk (G := [val (rLst (rTp K (rCons rInt (rCons rInt (rOne rStr))))) x, val (rLst rStr) x2, val (rTp K (rCons rInt (rCons rInt (rOne rStr)))) a5, any]) (g := fun (out9 : (List Str)) => out9) (s_asg (i := 1) (e_new (en_cat (lv_e (e_var (i := 1) rfl)) (lv_e (e_new (en_compM (wk_range2 (ar_cons (e_it3_0 (e_var (i := 2) rfl)) (ar_one (e_op o_I0 (e_it3_1 (e_var (i := 2) rfl)) e_int)))) g_name rfl (fun a10 => t_yes) (fun a10 => (e_it3_2 (e_var (i := 2) rfl))))))))) (fun (out9 : (List Str)) => (Sub.keep (Sub.keep (Sub.drop (Sub.keep Sub.nil))))))))) fun x2 =>
  (s_retP (e_tdOk (e_tupL (lv_e (e_var (i := 1) rfl))))))) (fun d h => h)) (fun x k h => by
    unfold W_l_due at h
    dsimp only at h ⊢
    exact h)
def W_l_told (rows0 : (List (Int × Int × Str))) (k : Td → Prop) : Prop :=
  (fun (n1 : (List Str) → Prop) => (fun (kx2 : (Int × Int × Str) → Prop) => W_track_of rows0 (fun v6 => let track5 : (List Str) := v6; n1 track5) (fun e7 => kx2 e7)) fun e3 => ((fun _ => true) e3 = true → let sisters8 : (List Bool) := ([false, false, false] : List Bool); (fun (n11 : Unit → Prop) => (((decide (true ∈ sisters8)) || ((!true) || (!true))) = true → k Td.an) ∧ (((decide (true ∈ sisters8)) || ((!true) || (!true))) = false → n11 ())) fun x9 => ∃ v12, some e3 = some v12 ∧ k (Td.bad v12)) ∧ ((fun _ => true) e3 = false → False)) fun x4 => k (Td.ok x4)
theorem okM_l_told (T : Txt K mg A) : FnOk P w K mg base CX0 4 A.f_l_told A.d_l_told ["_law_rows"] (spP (rOne (rLst (rTp K (rCons rInt (rCons rInt (rOne rStr)))))) (rTd K) (fun x k => W_l_told x k)) := by
  refine T.F_l_told.ok sc_l_told (fun vs H Q E h => spP_len h) (fun cdv Ar outer s0 H vs Q E hr h => ?_)
  refine ⟨_, (pss_cons (ps_tryT (i := 2) rfl rfl sc_l_told.nd rfl rfl ⟨rfl, rfl, .inl T.g_DueError⟩ takesN (fun W pn xe tk po => (pss_one (ps_set (i := 1) sc_l_told.nd rfl (Or.inl rfl) (pe_callS (okM_track_of T) (hr.mono (by decide)) rfl T.g_track_of T.F_track_of.kp T.bi_track_of (fun σ => L2N.passAt tk σ) (pa_cons (pv 0) pa_nil)))))
   (fun a oe cls d pn hz hf => (pss_cons (ps_set (i := 3) sc_l_told.nd rfl (Or.inl rfl) (pe_lst (pa_cons (pe_callB (call_isG hz.zc hf) (by rfl) T.b_isinstance (by decide +kernel) (pa_cons (pv 2) (pa_cons (pe_glob (v := .ref A.C_BadEntry) rfl T.g_BadEntry rfl) pa_nil))) (pa_cons (pe_callB (call_isG hz.zc hf) (by rfl) T.b_isinstance (by decide +kernel) (pa_cons (pv 2) (pa_cons (pe_glob (v := .ref A.C_BadName) rfl T.g_BadName rfl) pa_nil))) (pa_cons (pe_callB (call_isG hz.zc hf) (by rfl) T.b_isinstance (by decide +kernel) (pa_cons (pv 2) (pa_cons (pe_glob (v := .ref A.C_BadNumber) rfl T.g_BadNumber rfl) pa_nil))) pa_nil)))))
  (pss_cons (ps_if (PW.pt (pw_or (pt_cmpR (show OpR _ (compareOp .In) (rIn K false) from op_in_seq) pe_bl (pv 3) rfl) (pw_or (pt_not (pt_val (pe_callB (call_isG hz.zc hf) (by rfl) T.b_isinstance (by decide +kernel) (pa_cons (pv 2) (pa_cons (pe_bltn (v := .ty "ValueError") (by rfl) T.b_ValueError (by decide +kernel) rfl) pa_nil))))) (pw_or1 (pt_not (pt_val (pe_callB (call_isG hz.zc hf) (by rfl) T.b_isinstance (by decide +kernel) (pa_cons (pv 2) (pa_cons (pe_glob (v := .ref A.C_BadSpell) rfl T.g_BadSpell rfl) pa_nil))))))))) (pss_one (ps_ret (pe_tup (pa_cons pe_str (pa_cons pe_non pa_nil))))) pss_nil)
  (pss_one (ps_ret (pe_tup (pa_cons pe_str (pa_cons (pe_xfG hz.zc hf (pv 2)) pa_nil)))))))))
  (pss_one (ps_ret (pe_tup (pa_cons pe_str (pa_cons (pv 1) pa_nil)))))), ?_⟩
  try dsimp only [cxOf, Cx.nox, Cx.wish]
  exact run_P (m := 3) (τ := Unit) h rfl (fun b x hM => s_cq (Gn := fun _ : Unit => [])
    (s_seq (s_try (x := (x1 A.C_BadSpell "spell" (rTp K (rCons rInt (rCons rInt (rOne rStr)))))) (Gx := [val (rLst (rTp K (rCons rInt (rCons rInt (rOne rStr))))) x, any, any, any]) (Gn := (fun x4 : (List Str) => [val (rLst (rTp K (rCons rInt (rCons rInt (rOne rStr))))) x, val (rTup K rStr) x4, any, any])) (Gs := (fun x4 : (List Str) => [val (rLst (rTp K (rCons rInt (rCons rInt (rOne rStr))))) x, val (rTup K rStr) x4, any, any])) (jn := fun y => y) (is := (fun _ => true)) (x0 := (x1 A.C_BadSpell "spell" (rTp K (rCons rInt (rCons rInt (rOne rStr)))))) (k0 := fun _ => False) (j0 := fun e => e) (fun b hM W kx2 O_kx2 =>
  (s_wk (G := [val (rLst (rTp K (rCons rInt (rCons rInt (rOne rStr))))) x, any, any, any]) (g := fun (track5 : (List Str)) => track5) (s_asg (i := 1) (e_callX O_kx2 (Sub.keep (Sub.keep (Sub.keep (Sub.keep Sub.nil)))) (j := fun e => e) xs_id (ar_one (e_var (i := 0) rfl)))) (fun (track5 : (List Str)) => (Sub.keep (Sub.keep (Sub.keep (Sub.keep Sub.nil))))))) (xc_1 (PySem.W.exm_ref T.xf_DueError.exC T.xf_DueError.hdC T.ox_DueError.tyC T.su_BadSpell_DueError)) (fun e3 a cls d _ => (s_seq (s_asg (i := 3) (e_new (en_lst (al_cons (e_isx (c := .ref A.C_BadEntry) (is := (fun _ => false)) (xi_1 T.ec_BadSpell T.kb_BadSpell_BadEntry) (fun u h => h) (e_var (i := 2) rfl)) (al_cons (e_isx (c := .ref A.C_BadName) (is := (fun _ => false)) (xi_1 T.ec_BadSpell T.kb_BadSpell_BadName) (fun u h => h) (e_var (i := 2) rfl)) (al_cons (e_isx (c := .ref A.C_BadNumber) (is := (fun _ => false)) (xi_1 T.ec_BadSpell T.kb_BadSpell_BadNumber) (fun u h => h) (e_var (i := 2) rfl)) al_nil))) (by decide)))) fun sisters8 =>
  (s_seq (s_if (Gn := (fun x9 : Unit => [val (rLst (rTp K (rCons rInt (rCons rInt (rOne rStr))))) x, any, val (rErr (x1 A.C_BadSpell "spell" (rTp K (rCons rInt (rCons rInt (rOne rStr))))) a cls d) e3, val (rLst rBl) sisters8])) (t_orP (t_test (e_inLP flat_bl e_bl (lv_e (e_var (i := 3) rfl)))) (t_orP (t_not (t_B (e_isx (c := .ty "ValueError") (is := (fun _ => true)) (xi_1 T.ec_BadSpell T.kb_BadSpell_ValueError) (fun u h => h) (e_var (i := 2) rfl)))) (t_not (t_B (e_isx (c := .ref A.C_BadSpell) (is := (fun _ => true)) (xi_1 T.ec_BadSpell T.kb_BadSpell_BadSpell) (fun u h => h) (e_var (i := 2) rfl))))))
  (s_retP e_tdAn)
  (s_wk (G := [val (rLst (rTp K (rCons rInt (rCons rInt (rOne rStr))))) x, any, val (rErr (x1 A.C_BadSpell "spell" (rTp K (rCons rInt (rCons rInt (rOne rStr))))) a cls d) e3, val (rLst rBl) sisters8]) (g := fun _ => ()) s_nil (fun _ => (Sub.keep (Sub.keep (Sub.keep (Sub.keep Sub.nil))))))) fun x9 =>
  (s_retP (e_tdBad (e_xf (g := some) (xf_1 T.xf_BadSpell T.nx_BadSpell) (e_var (i := 2) rfl))))))) (fun _ => Sub.refl _) (fun _ => Sub.refl _) out_no (gx := fun _ => True) trivial (fun _ _ _ _ _ h => h)) fun x4 =>
  (s_retP (e_tdOk (e_var (i := 1) rfl)))) (fun d h => h)) (fun x k h => by
    unfold W_l_told at h
    dsimp only at h ⊢
    exact h)
def W_l_spells_right (track0 : (List Str)) (k : Bool → Prop) : Prop :=
  W_l_runs track0 fun v15 => ShowOk ((dLst (dTp (dCons dInt (dCons dInt (dOne dStr))))) v15) ∧ let due1 : Str := ((dLst (dTp (dCons dInt (dCons dInt (dOne dStr))))) v15).shown; W_spells track0 fun v5 => let told2 : (List (Option (Int × Int × Str))) := (v5.map some); (fun (n8 : Unit → Prop) => (fun (k13 : Bool → Prop) => ((!true) = true → k13 true) ∧ ((!true) = false → ShowOk ((dLst (dOpt (dTp (dCons dInt (dCons dInt (dOne dStr)))))) told2) ∧ k13 (!decide ((((dLst (dOpt (dTp (dCons dInt (dCons dInt (dOne dStr)))))) told2).shown) = due1)))) fun c14 => (c14 = true → k false) ∧ (c14 = false → n8 ())) fun x6 => told2.length < sizeLine ∧ let y9 : (Option (Int × Int × Str)) := (some ((0 : Int), (0 : Int), ("a" : Str))); ∃ j12, ixN (told2 ++ [y9]).length (0 : Int) = some j12 ∧ let y10 : Nat × (Option (Int × Int × Str)) := (j12, (none : (Option (Int × Int × Str)))); W_spells track0 fun v11 => ShowOk ((dLst (dTp (dCons dInt (dCons dInt (dOne dStr))))) v11) ∧ k (decide ((((dLst (dTp (dCons dInt (dCons dInt (dOne dStr))))) v11).shown) = due1))
theorem okM_l_spells_right (T : Txt K mg A) : FnG P w K mg base CX0 2 A.f_l_spells_right A.d_l_spells_right ["_law_track_here"] (spP (rOne (rTup K rStr)) rBl (fun x k => W_l_spells_right x k)) := by
  refine okG T.F_l_spells_right sc_l_spells_right (fun vs H Q E h => spP_len h) (fun cdv Ar outer s0 H vs Q E gd hr h => ?_)
  refine ⟨_, (pss_cons (ps_set (i := 1) sc_l_spells_right.nd rfl (Or.inl rfl) (pe_callB (call_reprD gd (un100 hr)) (by rfl) T.b_repr (by decide +kernel) (pa_cons (pe_call (okM_l_runs T) (hr.mono (by decide)) rfl T.g_l_runs T.F_l_runs.kp T.bi_l_runs .nil pass0 (pa_cons (pv 0) pa_nil)) pa_nil)))
  (pss_cons (ps_set (i := 2) sc_l_spells_right.nd rfl (Or.inl rfl) (pe_call (okM_spells T) (hr.mono (by decide)) rfl T.g_spells T.F_spells.kp T.bi_spells .nil pass0 (pa_cons (pv 0) pa_nil)))
  (pss_cons (ps_if (PW.pt (pw_or (pt_not (pt_val (pe_callB call_isi (by rfl) T.b_isinstance (by decide +kernel) (pa_cons (pv 2) (pa_cons (pe_bltn (v := .ty "list") (by rfl) T.b_list (by decide +kernel) rfl) pa_nil))))) (pw_or1 (pt_cmpR op_ne (pe_callB (call_reprD gd (un100 hr)) (by rfl) T.b_repr (by decide +kernel) (pa_cons (pv 2) pa_nil)) (pv 1) (nomark _))))) (pss_one (ps_ret pe_bl)) pss_nil)
  (pss_cons (ps_expr (pe_bm PySem.F.plainAttrs_list PySem.F.slot_list_append PySem.F.type_list_append mt_append (pv 2) (pa_cons (pe_tup (pa_cons pe_int (pa_cons pe_int (pa_cons pe_str pa_nil)))) pa_nil)))
  (pss_cons (ps_asg pe_non (pg_sub (pv 2) pe_int set_list))
  (pss_one (ps_ret (pe_cmpR op_eq (pe_callB (call_reprD gd (un100 hr)) (by rfl) T.b_repr (by decide +kernel) (pa_cons (pe_call (okM_spells T) (hr.mono (by decide)) rfl T.g_spells T.F_spells.kp T.bi_spells .nil pass0 (pa_cons (pv 0) pa_nil)) pa_nil)) (pv 1) (nomark _))))))))), ?_⟩
  try dsimp only [cxOf, Cx.nox, Cx.wish]
  exact run_P (m := 2) (τ := Unit) h rfl (fun b x hM => s_cq (Gn := fun _ : Unit => [])
    (s_seq (s_asg (i := 1) (e_reprL (swTp (swCons swInt (swCons swInt (swOne swStr)))) (lv_e (e_call (ar_one (e_var (i := 0) rfl)))))) fun due1 =>
  (s_newc (i := 2) (enc_some nn_tp (enc_callN (ar_one (e_var (i := 0) rfl)))) fun p3 told2 hm4 =>
  (s_seq (s_if (Gn := (fun x6 : Unit => [val (rTup K rStr) x, val rStr due1, own p3 (cLst (rOpt (rTp K (rCons rInt (rCons rInt (rOne rStr)))))) told2])) (t_or (t_not (t_B (e_isiL (res := true) (by decide +kernel) (lv_own (i := 2) rfl)))) (t_test (e_op o_neS (e_reprL (swOpt (swTp (swCons swInt (swCons swInt (swOne swStr))))) (lv_own (i := 2) rfl)) (e_var (i := 1) rfl))))
  (s_retP e_bl)
  (s_wk (G := [val (rTup K rStr) x, val rStr due1, own p3 (cLst (rOpt (rTp K (rCons rInt (rCons rInt (rOne rStr)))))) told2]) (g := fun _ => ()) s_nil (fun _ => (Sub.keep (Sub.keep (Sub.keep Sub.nil)))))) fun x6 =>
  (s_seq (s_app (i := 2) rfl (e_some nn_tp (e_tup (ar_cons e_int (ar_cons e_int (ar_one e_str))) (Nat.le_of_ble_eq_true rfl)))) fun y9 =>
  (s_seq (s_setL (i := 2) rfl e_none e_int) fun y10 =>
  (s_retP (e_op o_eqS (e_reprL (swTp (swCons swInt (swCons swInt (swOne swStr)))) (lv_e (e_ofc frz_lst (enc_callN (ar_one (e_var (i := 0) rfl)))))) (e_var (i := 1) rfl)))))))) (fun d h => h)) (fun x k h => by
    unfold W_l_spells_right at h
    dsimp only at h ⊢
    exact h)
def W_l_track_right (rows0 : (List (Int × Int × Str))) (k : Bool → Prop) : Prop :=
  W_l_due rows0 fun v12 => let due1 : Td := v12; (fun (n4 : Unit → Prop) => (fun (k9 : Bool → Prop) => ((decide ((Td.tag due1) = ("none" : Str))) = true → ∃ v11, due1 = .ok v11 ∧ k9 (decide ((v11.length : Int) > (60 : Int)))) ∧ ((decide ((Td.tag due1) = ("none" : Str))) = false → k9 false)) fun c10 => (c10 = true → k true) ∧ (c10 = false → n4 ())) fun x2 => ShowOk ((dLst (dTp (dCons dInt (dCons dInt (dOne dStr))))) rows0) ∧ let shown5 : Str := ((dLst (dTp (dCons dInt (dCons dInt (dOne dStr))))) rows0).shown; (fun (k6 : Bool → Prop) => W_l_told rows0 fun v8 => ShowOk (dTd v8) ∧ ShowOk (dTd due1) ∧ ((decide (((dTd v8).shown) = ((dTd due1).shown))) = true → ShowOk ((dLst (dTp (dCons dInt (dCons dInt (dOne dStr))))) rows0) ∧ k6 (decide ((((dLst (dTp (dCons dInt (dCons dInt (dOne dStr))))) rows0).shown) = shown5))) ∧ ((decide (((dTd v8).shown) = ((dTd due1).shown))) = false → k6 false)) fun c7 => k c7
theorem okM_l_track_right (T : Txt K mg A) : FnG P w K mg base CX0 5 A.f_l_track_right A.d_l_track_right ["_law_rows"] (spP (rOne (rLst (rTp K (rCons rInt (rCons rInt (rOne rStr)))))) rBl (fun x k => W_l_track_right x k)) := by
  refine okG T.F_l_track_right sc_l_track_right (fun vs H Q E h => spP_len h) (fun cdv Ar outer s0 H vs Q E gd hr h => ?_)
  refine ⟨_, (pss_cons (ps_set (i := 1) sc_l_track_right.nd rfl (Or.inl rfl) (pe_call (okM_l_due T) (hr.mono (by decide)) rfl T.g_l_due T.F_l_due.kp T.bi_l_due .nil pass0 (pa_cons (pv 0) pa_nil)))
  (pss_cons (ps_if (PW.pt (pw_and (pt_cmpR op_eq (pe_ix ix_tup (pv 1) pe_int (fun _ _ => rfl)) pe_str (nomark _)) (pw_and1 (pt_cmpR op_gt (pe_callB cl_len (by rfl) T.b_len (by decide +kernel) (pa_cons (pe_ix ix_tup (pv 1) pe_int (fun _ _ => rfl)) pa_nil)) pe_int (nomark _))))) (pss_one (ps_ret pe_bl)) pss_nil)
  (pss_cons (ps_set (i := 2) sc_l_track_right.nd rfl (Or.inl rfl) (pe_callB (call_reprD gd (un100 hr)) (by rfl) T.b_repr (by decide +kernel) (pa_cons (pv 0) pa_nil)))
  (pss_one (ps_ret (pe_and (pe_cmpR op_eq (pe_callB (call_reprD gd (un100 hr)) (by rfl) T.b_repr (by decide +kernel) (pa_cons (pe_call (okM_l_told T) (hr.mono (by decide)) rfl T.g_l_told T.F_l_told.kp T.bi_l_told .nil pass0 (pa_cons (pv 0) pa_nil)) pa_nil)) (pe_callB (call_reprD gd (un100 hr)) (by rfl) T.b_repr (by decide +kernel) (pa_cons (pv 1) pa_nil)) (nomark _)) (pe_one (pe_cmpR op_eq (pe_callB (call_reprD gd (un100 hr)) (by rfl) T.b_repr (by decide +kernel) (pa_cons (pv 0) pa_nil)) (pv 2) (nomark _))))))))), ?_⟩
  try dsimp only [cxOf, Cx.nox, Cx.wish]
  exact run_P (m := 2) (τ := Unit) h rfl (fun b x hM => s_cq (Gn := fun _ : Unit => [])
    (s_seq (s_asg (i := 1) (e_call (ar_one (e_var (i := 0) rfl)))) fun due1 =>
  (s_seq (s_if (Gn := (fun x2 : Unit => [val (rLst (rTp K (rCons rInt (rCons rInt (rOne rStr))))) x, val (rTd K) due1, any])) (t_and (t_test (e_op o_eqS (e_td0 (e_var (i := 1) rfl)) e_str)) (t_test (e_op o_I0b (e_lenT (e_td1 (e_var (i := 1) rfl))) e_int)))
  (s_retP e_bl)
  (s_wk (G := [val (rLst (rTp K (rCons rInt (rCons rInt (rOne rStr))))) x, val (rTd K) due1, any]) (g := fun _ => ()) s_nil (fun _ => (Sub.keep (Sub.keep (Sub.keep Sub.nil)))))) fun x2 =>
  (s_seq (s_asg (i := 2) (e_reprL (swTp (swCons swInt (swCons swInt (swOne swStr)))) (lv_e (e_var (i := 0) rfl)))) fun shown5 =>
  (s_retP (e_andV (e_op o_eqS (e_repr swTd ir_td (e_call (ar_one (e_var (i := 0) rfl)))) (e_repr swTd ir_td (e_var (i := 1) rfl))) (e_op o_eqS (e_reprL (swTp (swCons swInt (swCons swInt (swOne swStr)))) (lv_e (e_var (i := 0) rfl))) (e_var (i := 2) rfl))))))) (fun d h => h)) (fun x k h => by
    unfold W_l_track_right at h
    dsimp only at h ⊢
    exact h)
def W_law (k : Bool → Prop) : Prop :=
  W_l_names  fun v45 => let names1 : (List Str) := v45; W_l_track names1 fun v43 => W_l_track names1 fun v44 => let tracks2 : (List (List Str)) := ([v43, v44] : List (List Str)); (-(2 ^ 62) ≤ (2 : Int) ∧ (2 : Int) < 2 ^ 62) ∧ forP (rng 0 (2 : Int).toNat) () (fun (a6 : Int) (x3 : Unit) (n4 : Unit → Prop) => forP tracks2 () (fun (a10 : (List Str)) (x7 : Unit) (n8 : Unit → Prop) => (fun (n13 : Unit → Prop) => (fun (k14 : Bool → Prop) => W_l_spells_right a10 fun v16 => ((!v16) = true → k14 true) ∧ ((!v16) = false → W_l_runs a10 fun v18 => W_l_track_right v18 fun v17 => k14 (!v17))) fun c15 => (c15 = true → k false) ∧ (c15 = false → n13 ())) fun x11 => n8 ()) fun x7 => n4 ()) fun x3 => forP tracks2 () (fun (a22 : (List Str)) (x19 : Unit) (n20 : Unit → Prop) => (fun (n25 : Unit → Prop) => W_spells a22 fun v40 => W_track_of v40 (fun v39 => (∀ z41 ∈ v39, PyData.strOk z41 = true) ∧ (∀ z42 ∈ a22, PyData.strOk z42 = true) ∧ ((!decide (v39 = a22)) = true → k false) ∧ ((!decide (v39 = a22)) = false → n25 ())) (fun _ => False)) fun x23 => W_l_runs a22 fun v38 => let rows26 : (List (Int × Int × Str)) := v38; W_l_pick (4 : Int) fun v37 => (-(2 ^ 62) ≤ v37 ∧ v37 < 2 ^ 62) ∧ forP (rng 0 v37.toNat) rows26 (fun (a30 : Int) (x27 : (List (Int × Int × Str))) (n28 : (List (Int × Int × Str)) → Prop) => W_l_bent x27 names1 fun v36 => let rows31 : (List (Int × Int × Str)) := v36; (fun (n34 : Unit → Prop) => W_l_track_right rows31 fun v35 => ((!v35) = true → k false) ∧ ((!v35) = false → n34 ())) fun x32 => n28 rows31) fun x27 => n20 ()) fun x19 => k true
theorem okM_law (T : Txt K mg A) (math : W_law (fun r => r = true)) : FnG P w K mg base CX0 6 A.f_law A.d_law ["_law_script"] (spLaw K) := by
  refine okG T.F_law sc_law (fun vs H Q E h => ?_) (fun cdv Ar outer s0 H vs Q E gd hr h => ?_)
  · obtain ⟨a, ns, rfl, _⟩ := h; rfl
  refine ⟨_, (pss_cons (ps_set (i := 1) sc_law.nd rfl (Or.inl rfl) (pe_call (okM_l_bag T) (hr.mono (by decide)) rfl T.g_l_bag T.F_l_bag.kp T.bi_l_bag .nil pass0 (pa_cons (pv 0) pa_nil)))
  (pss_cons (ps_set (i := 2) sc_law.nd rfl (Or.inl rfl) (pe_call (okM_l_names T) (hr.mono (by decide)) rfl T.g_l_names T.F_l_names.kp T.bi_l_names .nil pass0 (pa_cons (pv 1) pa_nil)))
  (pss_cons (ps_set (i := 3) sc_law.nd rfl (Or.inl rfl) (pe_lst (pa_cons (pe_call (okM_l_track T) (hr.mono (by decide)) rfl T.g_l_track T.F_l_track.kp T.bi_l_track .nil pass0 (pa_cons (pv 1) (pa_cons (pv 2) pa_nil))) (pa_cons (pe_call (okM_l_track T) (hr.mono (by decide)) rfl T.g_l_track T.F_l_track.kp T.bi_l_track .nil pass0 (pa_cons (pv 1) (pa_cons (pv 2) pa_nil))) pa_nil))))
  (pss_cons (ps_for PassesOwn.never rfl (pi_range1 rfl T.b_range (pa_cons pe_int pa_nil)) (pg_name (i := 4) sc_law.nd rfl (Or.inl rfl))
   (pss_one (ps_for PassesOwn.never rfl (pi_list (pv 3)) (pg_name (i := 5) sc_law.nd rfl (Or.inl rfl))
   (pss_one (ps_if (PW.pt (pw_or (pt_not (pt_val (pe_callG gd (okM_l_spells_right T) (hr.mono (by decide)) rfl T.g_l_spells_right T.F_l_spells_right.kp T.bi_l_spells_right pass0 (pa_cons (pv 5) pa_nil)))) (pw_or1 (pt_not (pt_val (pe_callG gd (okM_l_track_right T) (hr.mono (by decide)) rfl T.g_l_track_right T.F_l_track_right.kp T.bi_l_track_right pass0 (pa_cons (pe_call (okM_l_runs T) (hr.mono (by decide)) rfl T.g_l_runs T.F_l_runs.kp T.bi_l_runs .nil pass0 (pa_cons (pv 5) pa_nil)) pa_nil))))))) (pss_one (ps_ret pe_bl)) pss_nil)))))
  (pss_cons (ps_for PassesOwn.never rfl (pi_list (pv 3)) (pg_name (i := 5) sc_law.nd rfl (Or.inl rfl))
   (pss_cons (ps_if (pt_cmpR (op_neD hr.units) (pe_call (okM_track_of T) (hr.mono (by decide)) rfl T.g_track_of T.F_track_of.kp T.bi_track_of .nil passN (pa_cons (pe_call (okM_spells T) (hr.mono (by decide)) rfl T.g_spells T.F_spells.kp T.bi_spells .nil pass0 (pa_cons (pv 5) pa_nil)) pa_nil)) (pv 5) (nomark _)) (pss_one (ps_ret pe_bl)) pss_nil)
  (pss_cons (ps_set (i := 6) sc_law.nd rfl (Or.inl rfl) (pe_call (okM_l_runs T) (hr.mono (by decide)) rfl T.g_l_runs T.F_l_runs.kp T.bi_l_runs .nil pass0 (pa_cons (pv 5) pa_nil)))
  (pss_one (ps_for PassesOwn.never rfl (pi_range1 rfl T.b_range (pa_cons (pe_call (okM_l_pick T) (hr.mono (by decide)) rfl T.g_l_pick T.F_l_pick.kp T.bi_l_pick .nil pass0 (pa_cons (pv 1) (pa_cons pe_int pa_nil))) pa_nil)) (pg_name (i := 7) sc_law.nd rfl (Or.inl rfl))
   (pss_cons (ps_set (i := 6) sc_law.nd rfl (Or.inl rfl) (pe_call (okM_l_bent T) (hr.mono (by decide)) rfl T.g_l_bent T.F_l_bent.kp T.bi_l_bent .nil pass0 (pa_cons (pv 1) (pa_cons (pv 6) (pa_cons (pv 2) pa_nil)))))
  (pss_one (ps_if (pt_not (pt_val (pe_callG gd (okM_l_track_right T) (hr.mono (by decide)) rfl T.g_l_track_right T.F_l_track_right.kp T.bi_l_track_right pass0 (pa_cons (pe_callTy cl_list (by rfl) T.b_list (by decide +kernel) (pa_cons (pv 6) pa_nil)) pa_nil)))) (pss_one (ps_ret pe_bl)) pss_nil))))))))
  (pss_one (ps_ret pe_bl))))))), ?_⟩
  try dsimp only [cxOf, Cx.nox, Cx.wish]
  exact run_law (n := 8) (j := 1) (τ := Unit) h rfl (by decide) (by decide) (fun b p hM => s_cq (Gn := fun _ : Unit => [])
    (s_seq (s_asg (i := 2) (e_callB (i := 1) rfl ar_nil)) fun names1 =>
  (s_seq (s_asg (i := 3) (e_new (en_lst (al_cons (e_callB (i := 1) rfl (ar_one (e_var (i := 2) rfl))) (al_cons (e_callB (i := 1) rfl (ar_one (e_var (i := 2) rfl))) al_nil)) (by decide)))) fun tracks2 =>
  (s_seq (s_for (Gt := (fun x3 : Unit => [any, own p cBag (), val (rLst rStr) names1, val (rLst (rTup K rStr)) tracks2, any, any, any, any])) (x0 := ()) (wk_range1 (ar_one e_int)) g_name (Sub.keep (Sub.keep (Sub.keep (Sub.keep (Sub.keep (Sub.keep (Sub.keep (Sub.keep Sub.nil)))))))) (fun a6 x3 =>
  (s_wk (G := [any, own p cBag (), val (rLst rStr) names1, val (rLst (rTup K rStr)) tracks2, val rInt a6, any, any, any]) (g := fun (x7 : Unit) => ()) (s_for (Gt := (fun x7 : Unit => [any, own p cBag (), val (rLst rStr) names1, val (rLst (rTup K rStr)) tracks2, val rInt a6, any, any, any])) (x0 := ()) (wk_list (e_var (i := 3) rfl)) g_name (Sub.keep (Sub.keep (Sub.keep (Sub.keep (Sub.keep (Sub.keep (Sub.keep (Sub.keep Sub.nil)))))))) (fun a10 x7 =>
  (s_wk (G := [any, own p cBag (), val (rLst rStr) names1, val (rLst (rTup K rStr)) tracks2, val rInt a6, val (rTup K rStr) a10, any, any]) (g := fun (x11 : Unit) => ()) (s_if (Gn := (fun x11 : Unit => [any, own p cBag (), val (rLst rStr) names1, val (rLst (rTup K rStr)) tracks2, val rInt a6, val (rTup K rStr) a10, any, any])) (t_or (t_not (t_B (e_call (ar_one (e_var (i := 5) rfl))))) (t_not (t_B (e_call (ar_one (e_call (ar_one (e_var (i := 5) rfl))))))))
  (s_retP e_bl)
  (s_wk (G := [any, own p cBag (), val (rLst rStr) names1, val (rLst (rTup K rStr)) tracks2, val rInt a6, val (rTup K rStr) a10, any, any]) (g := fun _ => ()) s_nil (fun _ => (Sub.keep (Sub.keep (Sub.keep (Sub.keep (Sub.keep (Sub.keep (Sub.keep (Sub.keep Sub.nil))))))))))) (fun (x11 : Unit) => (Sub.keep (Sub.keep (Sub.keep (Sub.keep (Sub.keep (Sub.drop (Sub.keep (Sub.keep Sub.nil)))))))))))) (fun (x7 : Unit) => (Sub.keep (Sub.keep (Sub.keep (Sub.keep (Sub.drop (Sub.keep (Sub.keep (Sub.keep Sub.nil)))))))))))) fun x3 =>
  (s_seq (s_for (Gt := (fun x19 : Unit => [any, own p cBag (), val (rLst rStr) names1, val (rLst (rTup K rStr)) tracks2, any, any, any, any])) (x0 := ()) (wk_list (e_var (i := 3) rfl)) g_name (Sub.keep (Sub.keep (Sub.keep (Sub.keep (Sub.keep (Sub.keep (Sub.keep (Sub.keep Sub.nil)))))))) (fun a22 x19 =>
  (s_seq (s_if (Gn := (fun x23 : Unit => [any, own p cBag (), val (rLst rStr) names1, val (rLst (rTup K rStr)) tracks2, any, val (rTup K rStr) a22, any, any])) (t_test (e_op (o_neD (daTup daStr) (Nat.le_of_ble_eq_true rfl)) (e_callX0  (ar_one (e_ofc frz_lst (enc_callN (ar_one (e_var (i := 5) rfl)))))) (e_var (i := 5) rfl)))
  (s_retP e_bl)
  (s_wk (G := [any, own p cBag (), val (rLst rStr) names1, val (rLst (rTup K rStr)) tracks2, any, val (rTup K rStr) a22, any, any]) (g := fun _ => ()) s_nil (fun _ => (Sub.keep (Sub.keep (Sub.keep (Sub.keep (Sub.keep (Sub.keep (Sub.keep (Sub.keep Sub.nil))))))))))) fun x23 =>
  (s_seq (s_asg (i := 6) (e_call (ar_one (e_var (i := 5) rfl)))) fun rows26 =>
  (s_wk (G := [any, own p cBag (), val (rLst rStr) names1, val (rLst (rTup K rStr)) tracks2, any, val (rTup K rStr) a22, val (rLst (rTp K (rCons rInt (rCons rInt (rOne rStr))))) rows26, any]) (g := fun (x27 : (List (Int × Int × Str))) => ()) (s_for (Gt := (fun x27 : (List (Int × Int × Str)) => [any, own p cBag (), val (rLst rStr) names1, val (rLst (rTup K rStr)) tracks2, any, val (rTup K rStr) a22, val (rLst (rTp K (rCons rInt (rCons rInt (rOne rStr))))) x27, any])) (x0 := rows26) (wk_range1 (ar_one (e_callB (i := 1) rfl (ar_one e_int)))) g_name (Sub.keep (Sub.keep (Sub.keep (Sub.keep (Sub.keep (Sub.keep (Sub.keep (Sub.keep Sub.nil)))))))) (fun a30 x27 =>
  (s_seq (s_asg (i := 6) (e_callB (i := 1) rfl (ar_cons (e_var (i := 6) rfl) (ar_one (e_var (i := 2) rfl))))) fun rows31 =>
  (s_wk (G := [any, own p cBag (), val (rLst rStr) names1, val (rLst (rTup K rStr)) tracks2, any, val (rTup K rStr) a22, val (rLst (rTp K (rCons rInt (rCons rInt (rOne rStr))))) rows31, val rInt a30]) (g := fun (x32 : Unit) => rows31) (s_if (Gn := (fun x32 : Unit => [any, own p cBag (), val (rLst rStr) names1, val (rLst (rTup K rStr)) tracks2, any, val (rTup K rStr) a22, val (rLst (rTp K (rCons rInt (rCons rInt (rOne rStr))))) rows31, val rInt a30])) (t_not (t_B (e_call (ar_one (e_new (en_listL (lv_e (e_var (i := 6) rfl))))))))
  (s_retP e_bl)
  (s_wk (G := [any, own p cBag (), val (rLst rStr) names1, val (rLst (rTup K rStr)) tracks2, any, val (rTup K rStr) a22, val (rLst (rTp K (rCons rInt (rCons rInt (rOne rStr))))) rows31, val rInt a30]) (g := fun _ => ()) s_nil (fun _ => (Sub.keep (Sub.keep (Sub.keep (Sub.keep (Sub.keep (Sub.keep (Sub.keep (Sub.keep Sub.nil))))))))))) (fun (x32 : Unit) => (Sub.keep (Sub.keep (Sub.keep (Sub.keep (Sub.keep (Sub.keep (Sub.keep (Sub.drop Sub.nil))))))))))))) (fun (x27 : (List (Int × Int × Str))) => (Sub.keep (Sub.keep (Sub.keep (Sub.keep (Sub.keep (Sub.drop (Sub.drop (Sub.keep Sub.nil)))))))))))))) fun x19 =>
  (s_retP e_bl))))) (fun d h => h)) (by
    have h := math
    unfold W_law at h
    dsimp only at h ⊢
    exact h)
end
end Mi
/-! K05Math -/
set_option Elab.async false
set_option linter.all false
set_option maxRecDepth 100000
set_option maxHeartbeats 4000000
namespace Mi
open PySem PySem.Spec L2 Dh
theorem pick {m : Int} {k : Int → Prop} (m0 : 0 < m) (m1 : m < 1073741824) (q : ∀ r, 0 ≤ r → r < m → k r) : W_l_pick m k := ⟨m0, m1, q⟩
theorem sz {n : Nat} (h : n < 100000) : n < sizeLine := Nat.lt_of_lt_of_le h (by decide)
theorem szl {n : Nat} (h : n ≤ 100000) : n ≤ sizeLine := Nat.le_trans h (by decide)
/-- a name, shortened or longer -/
structure Nm (s : Str) : Prop where
  hi : s.length ≤ 12
  ls : ∀ c ∈ s.cps.toList, c ∈ letters
theorem nm_of {s : Str} (h : NameOk s) : Nm s := ⟨by have := h.hi; omega, h.ls⟩
theorem letters_lt {c : Nat} (h : c ∈ letters) : c < 1114112 := by
  have : ∀ c ∈ letters, c < 1114112 := by decide +kernel
  exact this c h
theorem nm_strOk {s : Str} (h : Nm s) : PyData.strOk s = true := by
  unfold PyData.strOk
  rw [← Array.all_toList, List.all_eq_true]
  intro c hc
  have := letters_lt (h.ls c hc)
  exact decide_eq_true this
/-- the law's names -/
structure NsOk (ns : List Str) : Prop where
  ne : 0 < ns.length
  hi : ns.length ≤ 6
  nm : ∀ x ∈ ns, Nm x
theorem wp_names {k : List Str → Prop} (q : ∀ ns, NsOk ns → k ns) : W_l_names k := by
  unfold W_l_names
  refine pick (by decide) (by decide) fun r r0 r1 => ⟨⟨by omega, by omega⟩, ?_⟩
  refine ⟨fun i x => x.length = i ∧ ∀ u ∈ x, NameOk u, ⟨rfl, fun u h => nomatch h⟩, fun i a x ha ⟨hl, hn⟩ => ?_, fun x ⟨hl, hn⟩ => ?_⟩
  · have hi := (rng_inv ha).1
    refine ⟨by omega, hn, fun u hu _ => ⟨by simp [hl], fun z hz => ?_⟩⟩
    rcases List.mem_append.mp hz with h | h
    · exact hn z h
    · rw [List.mem_singleton.mp h]; exact hu
  · rw [rng_len] at hl
    obtain ⟨z, hz, mz⟩ := atI_lt (xs := x) (i := 0) (by decide) (by omega)
    have hz1 := hn z (List.mem_of_getElem? mz)
    have l2 : ("ab" : Str).length = 2 := rfl
    have la : (z ++ ("ab" : Str)).length = z.length + 2 := by rw [len_L, app_L, List.length_append, ← len_L, ← len_L, l2]
    have h8 := hz1.hi
    refine ⟨z, hz, by rw [l2]; exact szl (by omega), pick (by decide) (by decide) fun v v0 v1 => ⟨by rw [la]; exact szl (by omega), sz (by omega), q _ ⟨by simp, by simp; omega, fun y hy => ?_⟩⟩⟩
    rcases List.mem_append.mp hy with h | h
    · exact nm_of (hn y h)
    · rw [List.mem_singleton.mp h]
      have e : (cutS (z ++ ("ab" : Str)) none (some (7 + v))).cps.toList = (z ++ ("ab" : Str)).cps.toList.take (7 + v).toNat := cut_to (by omega)
      refine ⟨?_, fun c hc => ?_⟩
      · rw [len_L, e, List.length_take]; omega
      · rw [e] at hc
        exact name_app hz1.ls (by decide +kernel) c (List.mem_of_mem_take hc)
theorem wp_choice {α : Type} {xs : List α} {k : α → Prop} (h0 : 0 < xs.length) (h1 : xs.length < 1000000) (q : ∀ x ∈ xs, k x) : W_l_choice xs k := ⟨h0, h1, q⟩
theorem wp_track {ns : List Str} {k : List Str → Prop} (N : NsOk ns) (q : ∀ t : List Str, t.length ≤ 60 → (∀ x ∈ t, Nm x) → k t) : W_l_track ns k := by
  unfold W_l_track
  refine pick (by decide) (by decide) fun a a0 a1 => pick (by decide) (by decide) fun b b0 b1 => pick (by decide) (by decide) fun c c0 c1 => pick (by decide) (by decide) fun d d0 d1 => pick (by decide) (by decide) fun e e0 e1 => ?_
  obtain ⟨z, hz, mz⟩ := atI_lt (xs := ([a, b, c, ((60 : Int) - d)] : List Int)) e0 e1
  refine ⟨z, hz, ?_⟩
  have hz2 : 0 ≤ z ∧ z ≤ 60 := by
    have := List.mem_of_getElem? mz
    simp at this; omega
  refine pick (by decide) (by decide) fun r r0 r1 => ?_
  obtain ⟨g, hg, mg'⟩ := atI_lt (xs := ([1, 2, 2, 6] : List Int)) r0 r1
  refine ⟨g, hg, ?_⟩
  have hg2 : 1 ≤ g ∧ g ≤ 6 := by
    have := List.mem_of_getElem? mg'
    simp at this; omega
  refine ⟨by omega, fun i x => x.length = i ∧ ∀ u ∈ x, Nm u, ⟨rfl, fun u h => nomatch h⟩, fun i a x ha ⟨hl, hn⟩ => ?_, fun x ⟨hl, hn⟩ => q x (by rw [rng_len] at hl; omega) hn⟩
  have hi := (rng_inv ha).1
  have add : ∀ y, Nm y → (x ++ [y]).length = i + 1 ∧ ∀ u ∈ x ++ [y], Nm u := fun y hy => ⟨by simp [hl], fun z hz => by
    rcases List.mem_append.mp hz with h | h
    · exact hn z h
    · rw [List.mem_singleton.mp h]; exact hy⟩
  have ch : W_l_choice ns fun v16 => x.length < sizeLine ∧ (x ++ [v16]).length = i + 1 ∧ ∀ u ∈ x ++ [v16], Nm u := wp_choice N.ne (by have := N.hi; omega) fun y hy => ⟨sz (by omega), add y (N.nm y hy)⟩
  have same : x ≠ [] → ∃ v14, atI x (-(1 : Int)) = some v14 ∧ x.length < sizeLine ∧ (x ++ [v14]).length = i + 1 ∧ ∀ u ∈ x ++ [v14], Nm u := fun ne => by
    have hp : 0 < x.length := List.length_pos_iff.mpr ne
    refine ⟨x[x.length - 1], ?_, sz (by omega), add _ (hn _ (List.getElem_mem _))⟩
    unfold atI ixN
    rw [if_neg (by decide), if_pos (by omega)]
    show x[((-1 : Int) + x.length).toNat]? = _
    rw [show ((-1 : Int) + x.length).toNat = x.length - 1 by omega]
    exact List.getElem?_eq_getElem _
  refine ⟨fun h => pick (by omega) (by omega) fun v _ _ => ?_, fun h => ⟨fun z => (by cases z), fun _ => ch⟩⟩
  have ne : x ≠ [] := by
    intro z; subst z; simp at h
  exact ⟨fun _ => same ne, fun _ => ch⟩
end Mi
/-! K05Math2 -/
set_option Elab.async false
set_option linter.all false
set_option maxRecDepth 100000
set_option maxHeartbeats 4000000
namespace Mi
open PySem PySem.Spec L2 Dh
abbrev Row := Int × Int × Str
/-! ### the runs of a track -/
def stepR (out : List Row) (p : Int × Str) : List Row :=
  match out.getLast? with
  | none => [(p.1, p.1, p.2)]
  | some r => if r.2.2 = p.2 then out.dropLast ++ [(r.1, p.1, p.2)] else out ++ [(p.1, p.1, p.2)]
def rnK (t : List Str) (i : Nat) : List Row := ((enumL t).take i).foldl stepR []
def rn (t : List Str) : List Row := rnK t t.length
theorem rnK_zero {t : List Str} : rnK t 0 = [] := rfl
theorem rnK_succ {t : List Str} {i : Nat} {p : Int × Str} (h : (enumL t)[i]? = some p) : rnK t (i + 1) = stepR (rnK t i) p := by
  unfold rnK
  have : (enumL t).take (i + 1) = (enumL t).take i ++ [p] := by
    rw [List.take_add_one, h]; rfl
  rw [this, List.foldl_append]; rfl
theorem rnK_all {t : List Str} {n : Nat} (h : t.length ≤ n) : rnK t n = rn t := by
  unfold rn rnK
  rw [List.take_of_length_le (by rw [enumL_len]; exact h), List.take_of_length_le (by rw [enumL_len]; exact Nat.le_refl _)]
theorem last_split {α : Type} {x : List α} {r : α} (h : x.getLast? = some r) : ∃ y, x = y ++ [r] := by
  obtain ⟨y, e⟩ := List.getLast?_eq_some_iff.mp h
  exact ⟨y, e⟩
theorem stepR_snoc {y : List Row} {r : Row} {p : Int × Str} : stepR (y ++ [r]) p = if r.2.2 = p.2 then y ++ [(r.1, p.1, p.2)] else y ++ [r] ++ [(p.1, p.1, p.2)] := by
  unfold stepR
  rw [List.getLast?_append, List.dropLast_concat]
  rfl
theorem stepR_nil {p : Int × Str} : stepR [] p = [(p.1, p.1, p.2)] := rfl
theorem atI_last {α : Type} {y : List α} {r : α} : atI (y ++ [r]) (-(1 : Int)) = some r ∧ ixN (y ++ [r]).length (-(1 : Int)) = some y.length := by
  have hl : (y ++ [r]).length = y.length + 1 := by simp
  have e : ixN (y ++ [r]).length (-(1 : Int)) = some y.length := by
    unfold ixN
    rw [if_neg (by decide), if_pos (by omega), hl]
    rw [show ((-1 : Int) + ((y.length + 1 : Nat) : Int)).toNat = y.length by omega]
  refine ⟨?_, e⟩
  unfold atI
  rw [e]
  show (y ++ [r])[y.length]? = some r
  simp
theorem rnK_len {t : List Str} : ∀ i, (rnK t i).length ≤ i
  | 0 => Nat.le_refl _
  | i + 1 => by
    have ih := rnK_len (t := t) i
    cases h : (enumL t)[i]? with
    | none =>
      have h1 := List.getElem?_eq_none_iff.mp h
      have : rnK t (i + 1) = rnK t i := by unfold rnK; rw [List.take_of_length_le (by omega), List.take_of_length_le (by omega)]
      rw [this]; omega
    | some p =>
      rw [rnK_succ h]
      generalize rnK t i = x at ih ⊢
      rcases List.eq_nil_or_concat x with z | ⟨y, r, z⟩
      · subst z; rw [stepR_nil]; simp
      · rw [List.concat_eq_append] at z
        subst z; rw [stepR_snoc]
        split <;> simp at ih ⊢ <;> omega
theorem wp_runs {t : List Str} {k : List Row → Prop} (hl : t.length ≤ 1000) (q : k (rn t)) : W_l_runs t k := by
  unfold W_l_runs
  refine ⟨fun i x => x = rnK t i, rfl, fun i p x hp hx => ?_, fun x hx => by rw [hx, enumL_len]; exact q⟩
  subst hx
  have hi : i < t.length := by
    have := (List.getElem?_eq_some_iff.mp hp).1
    rwa [enumL_len] at this
  have hlen := rnK_len (t := t) i
  have e := rnK_succ hp
  show _ ∧ _
  rcases List.eq_nil_or_concat (rnK t i) with z | ⟨y, r, z⟩
  · rw [z] at e ⊢
    rw [stepR_nil] at e
    exact ⟨fun h => by simp at h, fun _ => ⟨fun h => (by cases h), fun _ => ⟨sz (by decide), e.symm⟩⟩⟩
  · rw [List.concat_eq_append] at z
    rw [z] at e hlen ⊢
    rw [stepR_snoc] at e
    obtain ⟨a1, a2⟩ := atI_last (y := y) (r := r)
    refine ⟨fun _ => ⟨r, a1, fun h => ⟨r, a1, y.length, a2, ?_⟩, fun h => ⟨sz (by omega), ?_⟩⟩, fun h => by simp at h⟩
    · rw [if_pos (of_decide_eq_true h)] at e
      show (y ++ [r]).set y.length (r.1, p.1, p.2) = _
      rw [e]; simp
    · rw [if_neg (of_decide_eq_false h)] at e
      exact e.symm
theorem wp_spells {t : List Str} {k : List Row → Prop} (hl : t.length ≤ 1000) (q : k (rn t)) : W_spells t k := by
  unfold W_spells
  refine ⟨fun i x => (∀ a, t[i]? = some a → rnK t (i + 1) = x.1 ++ [(x.2, (i : Int), a)]) ∧ (t.length ≤ i → x.1 = rn t) ∧ x.1.length ≤ i, ⟨fun a ha => ?_, fun h => ?_, Nat.le_refl _⟩, fun i p x hp ⟨h1, h2, h3⟩ => ?_, fun x ⟨h1, h2, _⟩ => by rw [enumL_len] at h2; rw [h2 (Nat.le_refl _)]; exact q⟩
  · have := rnK_succ (enumL_get ha)
    rw [this]; rfl
  · show [] = rn t
    rw [← rnK_all h]; rfl
  · obtain ⟨e1, e2⟩ := enumL_inv hp
    obtain ⟨d, a⟩ := p
    have e1 : d = (i : Int) := e1
    have e2 : t[i]? = some a := e2
    subst e1
    have hi : i < t.length := (List.getElem?_eq_some_iff.mp e2).1
    have R := h1 a e2
    have close : (∀ b, t[i + 1]? = some b → b ≠ a) → x.1.length < sizeLine ∧ ((∀ b, t[i + 1]? = some b → rnK t (i + 1 + 1) = (x.1 ++ [(x.2, (i : Int), a)]) ++ [((i : Int) + 1, ((i + 1 : Nat) : Int), b)]) ∧ (t.length ≤ i + 1 → (x.1 ++ [(x.2, (i : Int), a)]) = rn t) ∧ (x.1 ++ [(x.2, (i : Int), a)]).length ≤ i + 1) := fun nb => by
      refine ⟨sz (by omega), fun b hb => ?_, fun h => ?_, by simp; omega⟩
      · rw [rnK_succ (enumL_get hb), R, stepR_snoc, if_neg (fun z => nb b hb z.symm)]
        congr 3
      · rw [← R, rnK_all h]
    have keep : t[i + 1]? = some a → (∀ b, t[i + 1]? = some b → rnK t (i + 1 + 1) = x.1 ++ [(x.2, ((i + 1 : Nat) : Int), b)]) ∧ (t.length ≤ i + 1 → x.1 = rn t) ∧ x.1.length ≤ i + 1 := fun ha => by
      refine ⟨fun b hb => ?_, fun h => ?_, by omega⟩
      · rw [ha] at hb; cases hb
        rw [rnK_succ (enumL_get ha), R, stepR_snoc, if_pos rfl]
      · have := (List.getElem?_eq_some_iff.mp ha).1; omega
    refine ⟨fun h => ⟨fun _ => ?_, fun z => by cases z⟩, fun h => ?_⟩
    · have h := of_decide_eq_true h
      exact close fun b hb => by have := (List.getElem?_eq_some_iff.mp hb).1; omega
    · have h := of_decide_eq_false h
      have hi1 : i + 1 < t.length := by
        have h : ¬ ((i : Int) + 1 = (t.length : Int)) := h
        omega
      refine ⟨t[i + 1], ?_, fun h => ?_, fun h => ?_⟩
      · unfold atI ixN
        show ((if 0 ≤ (i : Int) + 1 then (if (i : Int) + 1 < (t.length : Int) then some ((i : Int) + 1).toNat else none) else _) : Option Nat).bind _ = _
        rw [if_pos (by omega), if_pos (by omega)]
        show t[((i : Int) + 1).toNat]? = _
        rw [show ((i : Int) + 1).toNat = i + 1 by omega]
        exact List.getElem?_eq_getElem _
      · refine close fun b hb => ?_
        rw [List.getElem?_eq_getElem hi1] at hb
        cases hb
        simpa using h
      · refine keep ?_
        rw [List.getElem?_eq_getElem hi1]
        simpa using h
end Mi
/-! K05Math3 -/
set_option Elab.async false
set_option linter.all false
set_option maxRecDepth 100000
set_option maxHeartbeats 4000000
namespace Mi
open PySem PySem.Spec L2 Dh
/-! ### what rows tell of a track -/
def span (r : Row) : List Str := List.replicate (r.2.1 - r.1 + 1).toNat r.2.2
def dueF (out : List Str) : List Row → Td
  | [] => .ok out
  | r :: rs => if r.1 = (out.length : Int) ∧ r.1 ≤ r.2.1 then dueF (out ++ span r) rs else .bad r
structure RowsOk (b m : Nat) (rows : List Row) : Prop where
  len : rows.length ≤ m
  lo : ∀ r ∈ rows, -(b : Int) ≤ r.1 ∧ r.1 ≤ b ∧ -(b : Int) ≤ r.2.1 ∧ r.2.1 ≤ b
  nm : ∀ r ∈ rows, Nm r.2.2
theorem span_len {r : Row} (h : r.1 ≤ r.2.1) : ((span r).length : Int) = r.2.1 - r.1 + 1 := by
  unfold span
  rw [List.length_replicate]; omega
theorem dueF_drop {rows : List Row} {out : List Str} {i : Nat} {r : Row} (h : rows[i]? = some r) : dueF out (rows.drop i) = if r.1 = (out.length : Int) ∧ r.1 ≤ r.2.1 then dueF (out ++ span r) (rows.drop (i + 1)) else .bad r := by
  have hi := (List.getElem?_eq_some_iff.mp h).1
  have e : rows.drop i = r :: rows.drop (i + 1) := by
    rw [List.drop_eq_getElem_cons hi]
    congr 1
    exact Option.some.inj ((List.getElem?_eq_getElem hi).symm.trans h)
  rw [e]; rfl
theorem is_from {r : Row} {d : Int} {k : Bool → Prop} (q : k (decide (r.1 = d ∧ r.1 ≤ r.2.1))) : W_is_spell_from r d k := by
  refine ⟨fun h => absurd h (by decide), fun _ => ⟨fun h => absurd h (by decide), fun _ => ?_⟩⟩
  show W_is_number r.1 d d fun v8 => k (v8 && decide (r.1 ≤ r.2.1))
  refine ⟨fun h => absurd h (by decide), fun _ => ?_⟩
  show k ((decide (d ≤ r.1) && decide (r.1 ≤ d)) && decide (r.1 ≤ r.2.1))
  have e : ((decide (d ≤ r.1) && decide (r.1 ≤ d)) && decide (r.1 ≤ r.2.1)) = decide (r.1 = d ∧ r.1 ≤ r.2.1) := by
    rw [← Bool.decide_and, ← Bool.decide_and]
    exact decide_eq_decide.mpr ⟨fun h => ⟨by omega, h.2⟩, fun h => ⟨by omega, h.2⟩⟩
  rw [e]; exact q
theorem flat_one {α : Type} {n : Nat} {a : α} : (List.replicate n [a]).flatten = List.replicate n a := by
  induction n with
  | zero => rfl
  | succ n ih => rw [List.replicate_succ, List.flatten_cons, ih, List.replicate_succ]; rfl
theorem wp_track_of {b m : Nat} {rows : List Row} {k : List Str → Prop} {kx : Row → Prop} (R : RowsOk b m rows) (hb : b ≤ 1000) (q : ∀ t, dueF [] rows = .ok t → k t) (qx : ∀ e, e ∈ rows → dueF [] rows = .bad e → kx e) : W_track_of rows k kx := by
  unfold W_track_of
  refine ⟨fun i x => dueF [] rows = dueF x (rows.drop i) ∧ (x.length : Int) ≤ b + 1, ⟨rfl, by show (0 : Int) ≤ _; omega⟩, fun i r x hr ⟨h1, h2⟩ => ?_, fun x ⟨h1, _⟩ => q x (by rw [h1, List.drop_length]; rfl)⟩
  have hm := List.mem_of_getElem? hr
  have B := R.lo r hm
  rw [dueF_drop hr] at h1
  refine is_from ⟨fun h => ?_, fun h => ?_⟩
  · have h : ¬ (r.1 = (x.length : Int) ∧ r.1 ≤ r.2.1) := fun z => by
      rw [decide_eq_true z] at h; cases h
    rw [if_neg h] at h1
    exact qx r hm h1
  · have h : r.1 = (x.length : Int) ∧ r.1 ≤ r.2.1 := by simpa using h
    rw [if_pos h] at h1
    have hs := span_len h.2
    show (_ ∧ _ ∧ _) ∧ _ ∧ _
    have e : (List.replicate (r.2.1 - r.1 + 1).toNat ([r.2.2] : List Str)).flatten = span r := flat_one
    refine ⟨⟨by omega, by omega, ?_⟩, ?_, ?_⟩
    · show 1 * _ ≤ _
      exact szl (by omega)
    · rw [e]; exact szl (by omega)
    · show dueF [] rows = dueF (x ++ (List.replicate (r.2.1 - r.1 + 1).toNat ([r.2.2] : List Str)).flatten) _ ∧ _
      rw [e]
      exact ⟨h1, by rw [List.length_append]; omega⟩
theorem map_const {α β : Type} {xs : List α} {y : β} : (xs.map fun _ => y) = List.replicate xs.length y := List.map_const' ..
theorem wp_due {b m : Nat} {rows : List Row} {k : Td → Prop} (R : RowsOk b m rows) (hb : b ≤ 1000) (q : k (dueF [] rows)) : W_l_due rows k := by
  unfold W_l_due
  refine ⟨fun i x => dueF [] rows = dueF x (rows.drop i) ∧ (x.length : Int) ≤ b + 1, ⟨rfl, by show (0 : Int) ≤ _; omega⟩, fun i r x hr ⟨h1, h2⟩ => ?_, fun x ⟨h1, _⟩ => ?_⟩
  · have hm := List.mem_of_getElem? hr
    have B := R.lo r hm
    rw [dueF_drop hr] at h1
    refine ⟨fun h => ?_, fun h => ?_⟩
    · have h : ¬ (r.1 = (x.length : Int) ∧ r.1 ≤ r.2.1) := fun z => by
        rw [decide_eq_true z.1, decide_eq_false (show ¬ r.2.1 < r.1 by omega)] at h
        cases h
      rw [if_neg h] at h1
      rw [← h1]; exact q
    · have h : r.1 = (x.length : Int) ∧ r.1 ≤ r.2.1 := by
        by_cases z : r.1 = (x.length : Int)
        · by_cases z2 : r.2.1 < r.1
          · rw [decide_eq_true z2, Bool.or_true] at h; cases h
          · exact ⟨z, by omega⟩
        · rw [decide_eq_false z] at h; cases h
      rw [if_pos h] at h1
      have hs := span_len h.2
      have e : ((rng r.1 ((r.2.1 + (1 : Int)) - r.1).toNat).map fun (a10 : Int) => r.2.2) = span r := by
        rw [map_const, rng_len]; unfold span
        congr 2; omega
      show (_ ∧ _ ∧ _ ∧ _) ∧ _ ∧ _ ∧ _
      refine ⟨⟨by omega, by omega, by omega, by omega⟩, by rw [rng_len]; exact szl (by omega), ?_, ?_⟩
      · rw [e]; exact szl (by omega)
      · show dueF [] rows = dueF (x ++ ((rng r.1 ((r.2.1 + (1 : Int)) - r.1).toNat).map fun (a10 : Int) => r.2.2)) _ ∧ _
        rw [e]
        exact ⟨h1, by rw [List.length_append]; omega⟩
  · rw [List.drop_length] at h1
    rw [← show dueF [] rows = Td.ok x from h1]; exact q
theorem wp_told {b m : Nat} {rows : List Row} {k : Td → Prop} (R : RowsOk b m rows) (hb : b ≤ 1000) (q : k (dueF [] rows)) : W_l_told rows k := by
  unfold W_l_told
  refine wp_track_of R hb (fun t h => ?_) (fun e he h => ?_)
  · show k (Td.ok t)
    rw [← h]; exact q
  · refine ⟨fun _ => ⟨fun z => absurd z (by decide), fun _ => ⟨e, rfl, ?_⟩⟩, fun z => by cases z⟩
    rw [← h]; exact q
/-! ### the runs are such rows -/
theorem dueF_app : ∀ {A B : List Row} {out : List Str}, dueF out (A ++ B) = match dueF out A with | .ok y => dueF y B | z => z
  | [], _, _ => rfl
  | r :: A, B, out => by
    show (if _ then dueF _ (A ++ B) else Td.bad r) = match (if _ then dueF _ A else Td.bad r) with | .ok y => dueF y B | z => z
    split
    · exact dueF_app
    · rfl
theorem dueF_rn {t : List Str} : ∀ i, i ≤ t.length → dueF [] (rnK t i) = .ok (t.take i)
  | 0, _ => rfl
  | i + 1, h => by
    have ih := dueF_rn (t := t) i (by omega)
    have hi : i < t.length := by omega
    have hl : (t.take i).length = i := by rw [List.length_take]; omega
    have e : t.take (i + 1) = t.take i ++ [t[i]] := List.take_succ_eq_append_getElem hi
    rw [rnK_succ (enumL_get (List.getElem?_eq_getElem hi)), e]
    have one : ∀ A : List Row, dueF [] A = .ok (t.take i) → dueF [] (A ++ [((i : Int), (i : Int), t[i])]) = .ok (t.take i ++ [t[i]]) := fun A hA => by
      rw [dueF_app, hA]
      show (if _ then dueF _ [] else _) = _
      rw [if_pos ⟨by rw [hl], Int.le_refl _⟩]
      show Td.ok _ = _
      congr 2
      unfold span
      rw [show ((i : Int) - i + 1).toNat = 1 by omega]; rfl
    rcases List.eq_nil_or_concat (rnK t i) with z | ⟨y, r, z⟩
    · rw [z] at ih ⊢
      exact one [] ih
    · rw [List.concat_eq_append] at z
      rw [z] at ih ⊢
      rw [stepR_snoc]
      split
      · rename_i hn
        rw [dueF_app] at ih ⊢
        cases hd : dueF [] y with
        | bad s => rw [hd] at ih; cases ih
        | an => rw [hd] at ih; cases ih
        | ok u =>
          rw [hd] at ih
          have ih : (if r.1 = (u.length : Int) ∧ r.1 ≤ r.2.1 then Td.ok (u ++ span r) else .bad r) = .ok (t.take i) := ih
          split at ih
          · rename_i hc
            injection ih with ih
            have hs := span_len hc.2
            have hul := congrArg List.length ih
            rw [List.length_append, hl] at hul
            show (if r.1 = (u.length : Int) ∧ r.1 ≤ (i : Int) then Td.ok (u ++ span (r.1, (i : Int), t[i])) else _) = _
            rw [if_pos ⟨hc.1, by omega⟩, ← ih]
            congr 1
            rw [List.append_assoc]
            congr 1
            unfold span
            show List.replicate ((i : Int) - r.1 + 1).toNat t[i] = List.replicate (r.2.1 - r.1 + 1).toNat r.2.2 ++ [t[i]]
            rw [show ((i : Int) - r.1 + 1).toNat = (r.2.1 - r.1 + 1).toNat + 1 by omega, List.replicate_succ', show r.2.2 = t[i] from hn]
          · cases ih
      · exact one _ ih
theorem rn_due (t : List Str) : dueF [] (rn t) = .ok t := by
  have := dueF_rn (t := t) t.length (Nat.le_refl _)
  rw [List.take_length] at this; exact this
theorem rnK_rows {t : List Str} (hn : ∀ x ∈ t, Nm x) : ∀ i, i ≤ t.length → ∀ r ∈ rnK t i, 0 ≤ r.1 ∧ r.1 ≤ i ∧ 0 ≤ r.2.1 ∧ r.2.1 ≤ i ∧ Nm r.2.2
  | 0, _, r, h => nomatch h
  | i + 1, h, r, hr => by
    have ih := rnK_rows hn (t := t) i (by omega)
    have hi : i < t.length := by omega
    have hx : Nm t[i] := hn _ (List.getElem_mem hi)
    rw [rnK_succ (enumL_get (List.getElem?_eq_getElem hi))] at hr
    rcases List.eq_nil_or_concat (rnK t i) with z | ⟨y, s, z⟩
    · rw [z, stepR_nil] at hr
      rw [List.mem_singleton.mp hr]
      exact ⟨by show (0 : Int) ≤ i; omega, by show (i : Int) ≤ _; omega, by show (0 : Int) ≤ i; omega, by show (i : Int) ≤ _; omega, hx⟩
    · rw [List.concat_eq_append] at z
      rw [z] at ih hr
      have old : ∀ u ∈ y ++ [s], 0 ≤ u.1 ∧ u.1 ≤ ((i + 1 : Nat) : Int) ∧ 0 ≤ u.2.1 ∧ u.2.1 ≤ ((i + 1 : Nat) : Int) ∧ Nm u.2.2 := fun u hu => by
        have := ih u hu
        exact ⟨this.1, by omega, this.2.2.1, by omega, this.2.2.2.2⟩
      rw [stepR_snoc] at hr
      split at hr
      · rcases List.mem_append.mp hr with h | h
        · exact old r (List.mem_append_left _ h)
        · rw [List.mem_singleton.mp h]
          have := old s (by simp)
          exact ⟨this.1, this.2.1, by show (0 : Int) ≤ i; omega, by show (i : Int) ≤ _; omega, hx⟩
      · rcases List.mem_append.mp hr with h | h
        · exact old r h
        · rw [List.mem_singleton.mp h]
          exact ⟨by show (0 : Int) ≤ i; omega, by show (i : Int) ≤ _; omega, by show (0 : Int) ≤ i; omega, by show (i : Int) ≤ _; omega, hx⟩
theorem rn_ok {t : List Str} (hl : t.length ≤ 60) (hn : ∀ x ∈ t, Nm x) : RowsOk 60 60 (rn t) := by
  have h := rnK_rows hn t.length (Nat.le_refl _)
  refine ⟨Nat.le_trans (rnK_len _) hl, fun r hr => ?_, fun r hr => (h r hr).2.2.2.2⟩
  have := h r hr
  omega
end Mi
/-! K05Math4 -/
set_option Elab.async false
set_option linter.all false
set_option maxRecDepth 100000
set_option maxHeartbeats 4000000
namespace Mi
open PySem PySem.Spec L2 Dh
/-! ### what repr can show -/
structure Sok (D W : Nat) (d : PyData) : Prop where
  sh : d.showable = true
  nd : d.hasDict = false
  dp : d.depth ≤ D
  ls : d.leavesShort 13 = true
  wt : d.weight ≤ W
theorem Sok.mono {D W D' W' : Nat} {d : PyData} (h : Sok D W d) (h1 : D ≤ D') (h2 : W ≤ W') : Sok D' W' d := ⟨h.sh, h.nd, Nat.le_trans h.dp h1, h.ls, Nat.le_trans h.wt h2⟩
theorem sok_non : Sok 0 0 .none := ⟨by simp [PyData.showable], by simp [PyData.hasDict], by simp [PyData.depth], by simp [PyData.leavesShort], by simp [PyData.weight]⟩
theorem sok_int {i : Int} (h : i.natAbs < 10 ^ 12) : Sok 0 41 (.int i) := by
  have hl : i.natAbs = 0 ∨ i.natAbs.log2 < 40 := by
    by_cases z : i.natAbs = 0
    · exact .inl z
    · exact .inr ((Nat.log2_lt z).mpr (by omega))
  refine ⟨?_, by simp [PyData.hasDict], by simp [PyData.depth], ?_, ?_⟩
  · unfold PyData.showable
    refine decide_eq_true ?_
    rcases hl with z | z
    · rw [z]; decide
    · omega
  · unfold PyData.leavesShort
    exact decide_eq_true (PyData.shown_int_le h)
  · unfold PyData.weight
    split
    · omega
    · rename_i hz
      rcases hl with z | z
      · exact absurd (by rw [beq_iff_eq]; omega) hz
      · omega
theorem sok_str {x : Str} (h : Nm x) : Sok 0 12 (.str x) := by
  refine ⟨by simp [PyData.showable], by simp [PyData.hasDict], by simp [PyData.depth], ?_, ?_⟩
  · unfold PyData.leavesShort
    rw [List.all_eq_true]
    intro c hc
    have := letters_lt (h.ls c hc)
    exact decide_eq_true (by omega)
  · unfold PyData.weight
    exact h.hi
theorem sok_all {D W : Nat} : ∀ {ds : List PyData}, (∀ d ∈ ds, Sok D W d) → PyData.showableAll ds = true ∧ PyData.hasDictAll ds = false ∧ PyData.depthAll ds ≤ D ∧ PyData.leavesShortAll 13 ds = true ∧ PyData.weightAll ds ≤ ds.length * (W + 1)
  | [], _ => ⟨by simp [PyData.showableAll], by simp [PyData.hasDictAll], by simp [PyData.depthAll], by simp [PyData.leavesShortAll], by simp [PyData.weightAll]⟩
  | d :: ds, h => by
    obtain ⟨a1, a2, a3, a4, a5⟩ := sok_all fun z hz => h z (List.mem_cons_of_mem _ hz)
    have q := h d List.mem_cons_self
    refine ⟨by simp only [PyData.showableAll, q.sh, a1]; rfl, by simp only [PyData.hasDictAll, q.nd, a2]; rfl, ?_, by simp only [PyData.leavesShortAll, q.ls, a4]; rfl, ?_⟩
    · simp only [PyData.depthAll]
      have := q.dp; omega
    · simp only [PyData.weightAll, List.length_cons]
      have := q.wt
      rw [Nat.add_mul, Nat.one_mul]
      omega
theorem sok_lst {D W n : Nat} {ds : List PyData} (h : ∀ d ∈ ds, Sok D W d) (hn : ds.length ≤ n) : Sok (D + 1) (n * (W + 1)) (.list ds) := by
  obtain ⟨a1, a2, a3, a4, a5⟩ := sok_all h
  exact ⟨by simp only [PyData.showable]; exact a1, by simp only [PyData.hasDict]; exact a2, by simp only [PyData.depth]; omega, by simp only [PyData.leavesShort]; exact a4, by
    simp only [PyData.weight]; exact Nat.le_trans a5 (Nat.mul_le_mul_right _ hn)⟩
theorem sok_tup {D W n : Nat} {ds : List PyData} (h : ∀ d ∈ ds, Sok D W d) (hn : ds.length ≤ n) : Sok (D + 1) (n * (W + 1)) (.tuple ds) := by
  obtain ⟨a1, a2, a3, a4, a5⟩ := sok_all h
  exact ⟨by simp only [PyData.showable]; exact a1, by simp only [PyData.hasDict]; exact a2, by simp only [PyData.depth]; omega, by simp only [PyData.leavesShort]; exact a4, by
    simp only [PyData.weight]; exact Nat.le_trans a5 (Nat.mul_le_mul_right _ hn)⟩
theorem Sok.show {D W : Nat} {d : PyData} (h : Sok D W d) (h1 : D ≤ 40 := by decide) (h2 : W ≤ 2 ^ 20 := by decide) : ShowOk d :=
  ⟨h.sh, h.nd, Nat.le_trans h.dp h1, PyData.shown_fits (by decide) (Nat.le_refl _) h.ls (Nat.le_trans h.wt h2)⟩
abbrev dRow : Row → PyData := dTp (dCons dInt (dCons dInt (dOne dStr)))
theorem sok_row {r : Row} {b : Nat} (hb : b ≤ 1000) (h : -(b : Int) ≤ r.1 ∧ r.1 ≤ b ∧ -(b : Int) ≤ r.2.1 ∧ r.2.1 ≤ b) (hn : Nm r.2.2) : Sok 1 126 (dRow r) := by
  refine sok_tup (D := 0) (W := 41) (n := 3) (ds := [.int r.1, .int r.2.1, .str r.2.2]) (fun d hd => ?_) (Nat.le_refl _)
  have e : d = .int r.1 ∨ d = .int r.2.1 ∨ d = .str r.2.2 := by simpa using hd
  rcases e with e | e | e
  · rw [e]; exact sok_int (by omega)
  · rw [e]; exact sok_int (by omega)
  · rw [e]; exact (sok_str hn).mono (Nat.le_refl _) (by decide)
theorem show_rows {b m : Nat} {rows : List Row} (R : RowsOk b m rows) (hb : b ≤ 1000) (hm : m ≤ 1000) : ShowOk (dLst dRow rows) := by
  refine (sok_lst (D := 1) (W := 126) (n := 1000) (fun d hd => ?_) (by rw [List.length_map]; exact Nat.le_trans R.len hm)).show
  obtain ⟨r, hr, e⟩ := List.mem_map.mp hd
  rw [← e]; exact sok_row hb (R.lo r hr) (R.nm r hr)
theorem nm_lit : Nm ("BadSpell" : Str) ∨ True := .inr trivial
theorem sok_lit {x : Str} (h : x.length ≤ 12) (h2 : x.cps.toList.all (fun c => decide (c < 16 ^ 8)) = true) : Sok 0 12 (.str x) := by
  refine ⟨by simp [PyData.showable], by simp [PyData.hasDict], by simp [PyData.depth], ?_, ?_⟩
  · unfold PyData.leavesShort; exact h2
  · unfold PyData.weight; exact h
theorem dueF_nm {b m : Nat} {rows : List Row} (R : RowsOk b m rows) : ∀ (i : Nat) (x : List Str), i ≤ rows.length → (∀ u ∈ x, Nm u) → (∀ e, dueF x (rows.drop i) = .bad e → e ∈ rows) ∧ ∀ l, dueF x (rows.drop i) = .ok l → ∀ u ∈ l, Nm u := by
  intro i
  induction h : rows.length - i generalizing i with
  | zero =>
    intro x hi hx
    rw [List.drop_of_length_le (by omega)]
    exact ⟨fun e z => (by cases z), fun l z => (by cases z; exact hx)⟩
  | succ n ih =>
    intro x hi hx
    have hlt : i < rows.length := by omega
    rw [dueF_drop (List.getElem?_eq_getElem hlt)]
    split
    · refine ih (i + 1) (by omega) _ (by omega) fun u hu => ?_
      rcases List.mem_append.mp hu with h | h
      · exact hx u h
      · rw [List.eq_of_mem_replicate h]
        exact R.nm _ (List.getElem_mem hlt)
    · exact ⟨fun e z => (by cases z; exact List.getElem_mem hlt), fun l z => (by cases z)⟩
theorem show_td {b m : Nat} {rows : List Row} (R : RowsOk b m rows) (hb : b ≤ 1000) (hl : ∀ l, dueF [] rows = .ok l → l.length ≤ 60) : ShowOk (dTd (dueF [] rows)) := by
  obtain ⟨h1, h2⟩ := dueF_nm R 0 [] (Nat.zero_le _) (fun u h => nomatch h)
  rw [List.drop_zero] at h1 h2
  cases hd : dueF [] rows with
  | bad e =>
    have he := h1 e hd
    refine (sok_tup (D := 1) (W := 126) (n := 2) (ds := [.str "BadSpell", dRow e]) (fun d q => ?_) (Nat.le_refl _)).show
    have q : d = .str "BadSpell" ∨ d = dRow e := by simpa using q
    rcases q with q | q
    · rw [q]; exact (sok_lit (by decide) (by decide +kernel)).mono (by decide) (by decide)
    · rw [q]; exact sok_row hb (R.lo e he) (R.nm e he)
  | ok l =>
    refine (sok_tup (D := 1) (W := 1000) (n := 2) (ds := [.str "none", .tuple (l.map .str)]) (fun d q => ?_) (Nat.le_refl _)).show
    have q : d = .str "none" ∨ d = .tuple (l.map .str) := by simpa using q
    rcases q with q | q
    · rw [q]; exact (sok_lit (by decide) (by decide +kernel)).mono (by decide) (by decide)
    · rw [q]
      refine (sok_tup (D := 0) (W := 12) (n := 60) (fun d hd => ?_) (by rw [List.length_map]; exact hl l hd)).mono (Nat.le_refl _) (by decide)
      obtain ⟨u, hu, e⟩ := List.mem_map.mp hd
      rw [← e]; exact sok_str (h2 l ‹_› u hu)
  | an =>
    refine (sok_tup (D := 0) (W := 12) (n := 2) (ds := [.str "another", .none]) (fun d q => ?_) (Nat.le_refl _)).show
    have q : d = .str "another" ∨ d = .none := by simpa using q
    rcases q with q | q
    · rw [q]; exact sok_lit (by decide) (by decide +kernel)
    · rw [q]; exact sok_non.mono (by decide) (by decide)
/-! ### what the law asks -/
theorem wp_track_right {b m : Nat} {rows : List Row} {k : Bool → Prop} (R : RowsOk b m rows) (hb : b ≤ 1000) (hm : m ≤ 1000) (q : k true) : W_l_track_right rows k := by
  unfold W_l_track_right
  refine wp_due R hb ?_
  have rest : (∀ l, dueF [] rows = .ok l → l.length ≤ 60) → ShowOk (dLst dRow rows) ∧ W_l_told rows fun v8 => ShowOk (dTd v8) ∧ ShowOk (dTd (dueF [] rows)) ∧ ((decide (((dTd v8).shown) = ((dTd (dueF [] rows)).shown))) = true → ShowOk (dLst dRow rows) ∧ k (decide (((dLst dRow rows).shown) = (dLst dRow rows).shown))) ∧ ((decide (((dTd v8).shown) = ((dTd (dueF [] rows)).shown))) = false → k false) := fun hl => by
    have S := show_rows R hb hm
    have S2 := show_td R hb hl
    refine ⟨S, wp_told R hb ⟨S2, S2, fun _ => ⟨S, ?_⟩, fun h => ?_⟩⟩
    · rw [decide_eq_true rfl]; exact q
    · rw [decide_eq_true rfl] at h; cases h
  refine ⟨fun h => ?_, fun h => ⟨fun z => (by cases z), fun _ => rest fun l e => ?_⟩⟩
  · cases hd : dueF [] rows with
    | ok l =>
      refine ⟨l, rfl, fun _ => q, fun z => ?_⟩
      have z := of_decide_eq_false z
      rw [← hd]
      exact rest fun l' e => by
        rw [hd] at e; cases e
        omega
    | bad e => rw [hd] at h; exact absurd (of_decide_eq_true h) (show ¬ (("BadSpell" : Str) = "none") by decide)
    | an => rw [hd] at h; exact absurd (of_decide_eq_true h) (show ¬ (("another" : Str) = "none") by decide)
  · rw [e] at h
    exact absurd h (show ¬ (decide (("none" : Str) = "none") = false) by decide)
theorem wp_spells_right {t : List Str} {k : Bool → Prop} (hl : t.length ≤ 60) (hn : ∀ x ∈ t, Nm x) (q : k true) : W_l_spells_right t k := by
  unfold W_l_spells_right
  have S := show_rows (rn_ok hl hn) (by decide) (by decide)
  have e : dLst (dOpt dRow) ((rn t).map some) = dLst dRow (rn t) := by
    unfold dLst
    rw [List.map_map]; rfl
  refine wp_runs (by omega) ⟨S, wp_spells (by omega) ?_⟩
  refine ⟨fun z => absurd z (by decide), fun _ => ⟨?_, ?_⟩⟩
  · show ShowOk (dLst (dOpt dRow) ((rn t).map some))
    rw [e]; exact S
  · show (_ = true → k false) ∧ _
    refine ⟨fun h => ?_, fun _ => ?_⟩
    · have h : (!decide ((dLst (dOpt dRow) ((rn t).map some)).shown = (dLst dRow (rn t)).shown)) = true := h
      rw [e, decide_eq_true rfl] at h; cases h
    · have l1 : ((rn t).map some).length ≤ 60 := by rw [List.length_map]; exact (rn_ok hl hn).len
      refine ⟨sz (by omega), 0, ?_, wp_spells (by omega) ⟨S, ?_⟩⟩
      · unfold ixN
        rw [if_pos (by decide), if_pos (by simp)]; rfl
      · show k (decide ((dLst dRow (rn t)).shown = (dLst dRow (rn t)).shown))
        rw [decide_eq_true rfl]; exact q
end Mi
/-! K05Math5 -/
set_option Elab.async false
set_option linter.all false
set_option maxRecDepth 100000
set_option maxHeartbeats 4000000
namespace Mi
open PySem PySem.Spec L2 Dh
def RowOk (b : Nat) (r : Row) : Prop := (-(b : Int) ≤ r.1 ∧ r.1 ≤ b ∧ -(b : Int) ≤ r.2.1 ∧ r.2.1 ≤ b) ∧ Nm r.2.2
theorem mem_cut {α : Type} {xs : List α} {lo hi : Option Int} {x : α} (h : x ∈ cutL xs lo hi) : x ∈ xs := List.mem_of_mem_drop (List.mem_of_mem_take h)
theorem sIx_to {n : Nat} {a : Int} (h0 : 0 ≤ a) (h1 : a ≤ n) {d : Nat} : HT.sIx n d (some a) = a.toNat := by
  unfold HT.sIx
  show (if a < 0 then (a + n).toNat else min a.toNat n) = _
  rw [if_neg (by omega)]; omega
theorem cut_lo {α : Type} {xs : List α} {a : Int} (h0 : 0 ≤ a) (h1 : a ≤ xs.length) : (cutL xs none (some a)).length = a.toNat := by
  unfold cutL
  rw [sIx_to h0 h1, List.length_take, List.length_drop]
  show min (a.toNat - HT.sIx xs.length 0 none) (xs.length - HT.sIx xs.length 0 none) = a.toNat
  have : HT.sIx xs.length 0 none = 0 := rfl
  rw [this]; omega
theorem cut_hi {α : Type} {xs : List α} {a : Int} (h0 : 0 ≤ a) (h1 : a ≤ xs.length) : (cutL xs (some a) none).length = xs.length - a.toNat := by
  unfold cutL
  rw [sIx_to h0 h1, List.length_take, List.length_drop]
  have : HT.sIx xs.length xs.length none = xs.length := rfl
  rw [this]; omega
theorem cut_le {α : Type} {xs : List α} {lo hi : Option Int} : (cutL xs lo hi).length ≤ xs.length := by
  unfold cutL
  rw [List.length_take, List.length_drop]; omega
theorem ok_cat {b m : Nat} {rows mid : List Row} {at7 : Int} {hi : Option Int} (R : RowsOk b m rows) (h0 : 0 ≤ at7) (h1 : at7 ≤ rows.length) (hs : (cutL rows (some at7) none).length ≤ (cutL rows (some at7) none).length) {j : Int} (j0 : 0 ≤ j) (j1 : j ≤ rows.length)
    (hj : at7.toNat + (rows.length - j.toNat) + mid.length ≤ rows.length + 1) (hm : m ≤ 900) (M : ∀ r ∈ mid, RowOk (b + 6) r) : (cutL rows none (some at7)).length + mid.length ≤ sizeLine ∧ (cutL rows none (some at7) ++ mid).length + (cutL rows (some j) none).length ≤ sizeLine ∧
    RowsOk (b + 6) (m + 1) (cutL rows none (some at7) ++ mid ++ cutL rows (some j) none) := by
  have e1 := cut_lo h0 h1
  have e2 := cut_hi j0 j1
  have := R.len
  refine ⟨szl (by omega), szl (by rw [List.length_append]; omega), ⟨by rw [List.length_append, List.length_append]; omega, fun r hr => ?_, fun r hr => ?_⟩⟩
  all_goals
    have hr' : r ∈ rows ∨ r ∈ mid := by
      rcases List.mem_append.mp hr with h | h
      · rcases List.mem_append.mp h with h | h
        · exact .inl (mem_cut h)
        · exact .inr h
      · exact .inl (mem_cut h)
  · rcases hr' with h | h
    · have := R.lo r h; omega
    · exact (M r h).1
  · rcases hr' with h | h
    · exact R.nm r h
    · exact (M r h).2
theorem wp_bent {b m : Nat} {rows : List Row} {ns : List Str} {k : List Row → Prop} (R : RowsOk b m rows) (N : NsOk ns) (hb : b ≤ 900) (hm : m ≤ 900) (q : ∀ rows', RowsOk (b + 6) (m + 1) rows' → k rows') : W_l_bent rows ns k := by
  unfold W_l_bent
  have nsl : ns.length < 1000000 := by have := N.hi; omega
  refine ⟨fun h => ?_, fun h => ?_⟩
  · refine pick (by decide) (by decide) fun x x0 x1 => pick (by decide) (by decide) fun y y0 y1 => wp_choice N.ne nsl fun z hz => q _ ⟨by simp, fun r hr => ?_, fun r hr => ?_⟩
    · rw [List.mem_singleton.mp hr]
      show _ ≤ x ∧ x ≤ _ ∧ _ ≤ y ∧ y ≤ _
      omega
    · rw [List.mem_singleton.mp hr]; exact N.nm z hz
  · have hp : 0 < rows.length := by
      cases rows with
      | nil => simp at h
      | cons => simp
    have hrl := R.len
    refine pick (by omega) (by omega) fun at7 a0 a1 => ?_
    obtain ⟨t, ht, mt⟩ := atI_lt (xs := rows) a0 a1
    have htm := List.mem_of_getElem? mt
    have B := R.lo t htm
    have Nt := R.nm t htm
    refine ⟨t, ht, pick (by decide) (by decide) fun v v0 v1 => ?_⟩
    obtain ⟨mv, hmv, mmv⟩ := atI_lt (xs := ([(1 : Int), (-(1 : Int)), (2 : Int), (-(2 : Int))] : List Int)) v0 v1
    have hmv2 : -2 ≤ mv ∧ mv ≤ 2 := by
      have := List.mem_of_getElem? mmv
      simp at this; omega
    refine ⟨mv, hmv, pick (by decide) (by decide) fun way w0 w1 => ?_⟩
    have one : ∀ r : Row, RowOk (b + 6) r → (cutL rows none (some at7)).length + ([r] : List Row).length ≤ sizeLine ∧ (cutL rows none (some at7) ++ [r]).length + (cutL rows (some (at7 + 1)) none).length ≤ sizeLine ∧ k (cutL rows none (some at7) ++ [r] ++ cutL rows (some (at7 + 1)) none) := fun r hr => by
      obtain ⟨c1, c2, c3⟩ := ok_cat (mid := [r]) (hi := none) R a0 (by omega) (Nat.le_refl _) (j := at7 + 1) (by omega) (by omega) (by simp; omega) hm (fun s hs => by rw [List.mem_singleton.mp hs]; exact hr)
      exact ⟨c1, c2, q _ c3⟩
    have ok : ∀ x y : Int, ∀ z : Str, -((b + 6 : Nat) : Int) ≤ x ∧ x ≤ ((b + 6 : Nat) : Int) ∧ -((b + 6 : Nat) : Int) ≤ y ∧ y ≤ ((b + 6 : Nat) : Int) → Nm z → RowOk (b + 6) (x, y, z) := fun x y z h1 h2 => ⟨h1, h2⟩
    have mids : ∀ r s : Row, RowOk (b + 6) r → RowOk (b + 6) s → ∀ u ∈ [r, s], RowOk (b + 6) u := fun r s hr hs u hu => by
      have hu : u = r ∨ u = s := by simpa using hu
      rcases hu with e | e
      · rw [e]; exact hr
      · rw [e]; exact hs
    have tok : RowOk (b + 6) t := ⟨by omega, Nt⟩
    refine ⟨fun _ => one _ (ok _ _ _ (by omega) Nt), fun _ => ?_⟩
    refine ⟨fun _ => one _ (ok _ _ _ (by omega) Nt), fun _ => ?_⟩
    refine ⟨fun _ => ?_, fun _ => ?_⟩
    · obtain ⟨c1, c2, c3⟩ := ok_cat (mid := []) (hi := none) R a0 (by omega) (Nat.le_refl _) (j := at7 + 1) (by omega) (by omega) (by simp; omega) hm (fun s hs => nomatch hs)
      rw [List.append_nil] at c2 c3
      exact ⟨c2, q _ c3⟩
    refine ⟨fun _ => ?_, fun _ => ?_⟩
    · obtain ⟨c1, c2, c3⟩ := ok_cat (mid := [t]) (hi := none) R a0 (by omega) (Nat.le_refl _) (j := at7) (by omega) (by omega) (by simp; omega) hm (fun s hs => by rw [List.mem_singleton.mp hs]; exact tok)
      exact ⟨t, ht, c1, c2, q _ c3⟩
    refine ⟨fun h => ?_, fun _ => ?_⟩
    · have hlt : at7 + 1 < (rows.length : Int) := by
        rw [Bool.and_eq_true] at h
        exact of_decide_eq_true h.2
      obtain ⟨u, hu, mu⟩ := atI_lt (xs := rows) (i := at7 + 1) (by omega) hlt
      have hum := List.mem_of_getElem? mu
      have Bu := R.lo u hum
      obtain ⟨c1, c2, c3⟩ := ok_cat (mid := [u, t]) (hi := none) R a0 (by omega) (Nat.le_refl _) (j := at7 + 2) (by omega) (by omega) (by simp; omega) hm (mids u t ⟨by omega, R.nm u hum⟩ tok)
      exact ⟨u, hu, t, ht, c1, c2, q _ c3⟩
    refine ⟨fun _ => one _ (ok _ _ _ (by omega) Nt), fun _ => ?_⟩
    refine ⟨fun h => ?_, fun _ => ?_⟩
    · have hlt : t.2.1 > t.1 := by
        rw [Bool.and_eq_true] at h
        exact of_decide_eq_true h.2
      refine pick (by omega) (by omega) fun c cu0 cu1 => ?_
      obtain ⟨c1, c2, c3⟩ := ok_cat (mid := [(t.1, t.1 + c, t.2.2), (t.1 + c + 1, t.2.1, t.2.2)]) (hi := none) R a0 (by omega) (Nat.le_refl _) (j := at7 + 1) (by omega) (by omega) (by simp; omega) hm (mids _ _ (ok _ _ _ (by omega) Nt) (ok _ _ _ (by omega) Nt))
      exact ⟨c1, c2, q _ c3⟩
    · exact wp_choice N.ne nsl fun z hz => one _ (ok _ _ _ (by omega) (N.nm z hz))
theorem law_math : W_law (fun r => r = true) := by
  unfold W_law
  refine wp_names fun ns N => wp_track N fun t1 l1 n1 => wp_track N fun t2 l2 n2 => ?_
  have both : ∀ {i : Nat} {t : List Str}, ([t1, t2] : List (List Str))[i]? = some t → t.length ≤ 60 ∧ ∀ x ∈ t, Nm x := fun {i t} h => by
    have hm := List.mem_of_getElem? h
    have e : t = t1 ∨ t = t2 := by simpa using hm
    rcases e with e | e
    · rw [e]; exact ⟨l1, n1⟩
    · rw [e]; exact ⟨l2, n2⟩
  refine ⟨by decide, fun _ _ => True, trivial, fun i a x ha _ => ?_, fun x _ => ?_⟩
  · refine ⟨fun _ _ => True, trivial, fun j t y ht _ => ?_, fun _ _ => trivial⟩
    obtain ⟨hl, hn⟩ := both ht
    refine wp_spells_right hl hn ⟨fun z => (by cases z), fun _ => ?_⟩
    refine wp_runs (by omega) (wp_track_right (rn_ok hl hn) (by decide) (by decide) ?_)
    exact ⟨fun z => (by cases z), fun _ => trivial⟩
  · refine ⟨fun _ _ => True, trivial, fun j t y ht _ => ?_, fun _ _ => rfl⟩
    obtain ⟨hl, hn⟩ := both ht
    have R := rn_ok hl hn
    have st : ∀ z ∈ t, PyData.strOk z = true := fun z hz => nm_strOk (hn z hz)
    refine wp_spells (by omega) (wp_track_of R (by decide) (fun u hu => ?_) (fun e _ he => ?_))
    · rw [rn_due] at hu
      injection hu with hu
      subst hu
      refine ⟨st, st, fun h => ?_, fun _ => ?_⟩
      · rw [decide_eq_true rfl] at h; cases h
      · refine wp_runs (by omega) (pick (by decide) (by decide) fun v v0 v1 => ⟨by omega, fun i x => RowsOk (60 + 6 * i) (60 + i) x, R, fun i a x ha hx => ?_, fun _ _ => trivial⟩)
        have hi := (rng_inv ha).1
        refine wp_bent hx N (by omega) (by omega) fun rows' hr => ?_
        refine wp_track_right hr (by omega) (by omega) ⟨fun z => (by cases z), fun _ => ?_⟩
        exact hr
    · rw [rn_due] at he; cases he
end Mi
/-! K05Q -/
set_option Elab.async false
set_option linter.all false
set_option maxRecDepth 100000
set_option maxHeartbeats 4000000
namespace Dh
open PySem PySem.Spec L2
open _root_.Evl (Ex)
theorem all_mk {P : Program} {w : World} {K : PySem.W.Frag} {h : Heap} {mg : Str → Option Value} {fa : Addr} (X : K.In h) (G : h.Ns mainGlobals mg) (hfa : mg "law" = some (.ref fa))
  {f_BadSpell_XinitX f_is_number f_spells f_is_spell_from f_track_of f_l_mixed f_l_bag f_l_pick f_l_choice f_l_new_name f_l_names f_l_track f_l_runs f_l_bent f_l_due f_l_told f_l_spells_right f_l_track_right f_law C_DueError C_BadName C_BadNumber C_BadEntry C_BadSpell : Addr}
  {od_BadSpell_XinitX an_BadSpell_XinitX : Option Addr} {sl_BadSpell_XinitX : Array (Option Value)} {oc_BadSpell_XinitX kV_BadSpell_XinitX dc_BadSpell_XinitX pm_BadSpell_XinitX cd_BadSpell_XinitX ct_BadSpell_XinitX : Value}
  {od_is_number an_is_number : Option Addr} {sl_is_number : Array (Option Value)} {oc_is_number kV_is_number dc_is_number pm_is_number cd_is_number ct_is_number : Value}
  {od_spells an_spells : Option Addr} {sl_spells : Array (Option Value)} {oc_spells kV_spells dc_spells pm_spells cd_spells ct_spells : Value}
  {od_is_spell_from an_is_spell_from : Option Addr} {sl_is_spell_from : Array (Option Value)} {oc_is_spell_from kV_is_spell_from dc_is_spell_from pm_is_spell_from cd_is_spell_from ct_is_spell_from : Value}
  {od_track_of an_track_of : Option Addr} {sl_track_of : Array (Option Value)} {oc_track_of kV_track_of dc_track_of pm_track_of cd_track_of ct_track_of : Value}
  {od_l_mixed an_l_mixed : Option Addr} {sl_l_mixed : Array (Option Value)} {oc_l_mixed kV_l_mixed dc_l_mixed pm_l_mixed cd_l_mixed ct_l_mixed : Value}
  {od_l_bag an_l_bag : Option Addr} {sl_l_bag : Array (Option Value)} {oc_l_bag kV_l_bag dc_l_bag pm_l_bag cd_l_bag ct_l_bag : Value}
  {od_l_pick an_l_pick : Option Addr} {sl_l_pick : Array (Option Value)} {oc_l_pick kV_l_pick dc_l_pick pm_l_pick cd_l_pick ct_l_pick : Value}
  {od_l_choice an_l_choice : Option Addr} {sl_l_choice : Array (Option Value)} {oc_l_choice kV_l_choice dc_l_choice pm_l_choice cd_l_choice ct_l_choice : Value}
  {od_l_new_name an_l_new_name : Option Addr} {sl_l_new_name : Array (Option Value)} {oc_l_new_name kV_l_new_name dc_l_new_name pm_l_new_name cd_l_new_name ct_l_new_name : Value}
  {od_l_names an_l_names : Option Addr} {sl_l_names : Array (Option Value)} {oc_l_names kV_l_names dc_l_names pm_l_names cd_l_names ct_l_names : Value}
  {od_l_track an_l_track : Option Addr} {sl_l_track : Array (Option Value)} {oc_l_track kV_l_track dc_l_track pm_l_track cd_l_track ct_l_track : Value}
  {od_l_runs an_l_runs : Option Addr} {sl_l_runs : Array (Option Value)} {oc_l_runs kV_l_runs dc_l_runs pm_l_runs cd_l_runs ct_l_runs : Value}
  {od_l_bent an_l_bent : Option Addr} {sl_l_bent : Array (Option Value)} {oc_l_bent kV_l_bent dc_l_bent pm_l_bent cd_l_bent ct_l_bent : Value}
  {od_l_due an_l_due : Option Addr} {sl_l_due : Array (Option Value)} {oc_l_due kV_l_due dc_l_due pm_l_due cd_l_due ct_l_due : Value}
  {od_l_told an_l_told : Option Addr} {sl_l_told : Array (Option Value)} {oc_l_told kV_l_told dc_l_told pm_l_told cd_l_told ct_l_told : Value}
  {od_l_spells_right an_l_spells_right : Option Addr} {sl_l_spells_right : Array (Option Value)} {oc_l_spells_right kV_l_spells_right dc_l_spells_right pm_l_spells_right cd_l_spells_right ct_l_spells_right : Value}
  {od_l_track_right an_l_track_right : Option Addr} {sl_l_track_right : Array (Option Value)} {oc_l_track_right kV_l_track_right dc_l_track_right pm_l_track_right cd_l_track_right ct_l_track_right : Value}
  {od_law an_law : Option Addr} {sl_law : Array (Option Value)} {oc_law kV_law dc_law pm_law cd_law ct_law : Value}
  {nm_DueError q_DueError : Str} {N_DueError : Addr} {bs_DueError bm_DueError : List Value} {sn_DueError : List Str} {sub_DueError : List Value} {ab_DueError : Bool} {col_DueError : Option Bool} {dd_DueError : Option Addr} {m0_DueError m1_DueError m2_DueError m3_DueError m5_DueError : Option Value}
  {nm_BadName q_BadName : Str} {N_BadName : Addr} {bs_BadName bm_BadName : List Value} {sn_BadName : List Str} {sub_BadName : List Value} {ab_BadName : Bool} {col_BadName : Option Bool} {dd_BadName : Option Addr} {m0_BadName m1_BadName m2_BadName m3_BadName m5_BadName : Option Value}
  {nm_BadNumber q_BadNumber : Str} {N_BadNumber : Addr} {bs_BadNumber bm_BadNumber : List Value} {sn_BadNumber : List Str} {sub_BadNumber : List Value} {ab_BadNumber : Bool} {col_BadNumber : Option Bool} {dd_BadNumber : Option Addr} {m0_BadNumber m1_BadNumber m2_BadNumber m3_BadNumber m5_BadNumber : Option Value}
  {nm_BadEntry q_BadEntry : Str} {N_BadEntry : Addr} {bs_BadEntry bm_BadEntry : List Value} {sn_BadEntry : List Str} {sub_BadEntry : List Value} {ab_BadEntry : Bool} {col_BadEntry : Option Bool} {dd_BadEntry : Option Addr} {m0_BadEntry m1_BadEntry m2_BadEntry m3_BadEntry m5_BadEntry : Option Value}
  {nm_BadSpell q_BadSpell : Str} {N_BadSpell : Addr} {bs_BadSpell bm_BadSpell : List Value} {sn_BadSpell : List Str} {sub_BadSpell : List Value} {ab_BadSpell : Bool} {col_BadSpell : Option Bool} {dd_BadSpell : Option Addr} {m0_BadSpell m1_BadSpell m2_BadSpell m3_BadSpell m5_BadSpell : Option Value}
  (a_DueError : PySem.W.nsIn K mainGlobals "DueError" = some (some (.ref C_DueError)))
  (a_BadName : PySem.W.nsIn K mainGlobals "BadName" = some (some (.ref C_BadName)))
  (a_BadNumber : PySem.W.nsIn K mainGlobals "BadNumber" = some (some (.ref C_BadNumber)))
  (a_BadEntry : PySem.W.nsIn K mainGlobals "BadEntry" = some (some (.ref C_BadEntry)))
  (a_BadSpell : PySem.W.nsIn K mainGlobals "BadSpell" = some (some (.ref C_BadSpell)))
  (ix_BadSpell : PySem.W.findIn K (.ref C_BadSpell) "__init__" = some (some (.ref f_BadSpell_XinitX)))
  (a_is_number : PySem.W.nsIn K mainGlobals "is_number" = some (some (.ref f_is_number)))
  (a_spells : PySem.W.nsIn K mainGlobals "spells" = some (some (.ref f_spells)))
  (a_is_spell_from : PySem.W.nsIn K mainGlobals "is_spell_from" = some (some (.ref f_is_spell_from)))
  (a_track_of : PySem.W.nsIn K mainGlobals "track_of" = some (some (.ref f_track_of)))
  (a_l_mixed : PySem.W.nsIn K mainGlobals "_law_mixed" = some (some (.ref f_l_mixed)))
  (a_l_bag : PySem.W.nsIn K mainGlobals "_law_bag" = some (some (.ref f_l_bag)))
  (a_l_pick : PySem.W.nsIn K mainGlobals "_law_pick" = some (some (.ref f_l_pick)))
  (a_l_choice : PySem.W.nsIn K mainGlobals "_law_choice" = some (some (.ref f_l_choice)))
  (a_l_new_name : PySem.W.nsIn K mainGlobals "_law_new_name" = some (some (.ref f_l_new_name)))
  (a_l_names : PySem.W.nsIn K mainGlobals "_law_names" = some (some (.ref f_l_names)))
  (a_l_track : PySem.W.nsIn K mainGlobals "_law_track" = some (some (.ref f_l_track)))
  (a_l_runs : PySem.W.nsIn K mainGlobals "_law_runs" = some (some (.ref f_l_runs)))
  (a_l_bent : PySem.W.nsIn K mainGlobals "_law_bent" = some (some (.ref f_l_bent)))
  (a_l_due : PySem.W.nsIn K mainGlobals "_law_due" = some (some (.ref f_l_due)))
  (a_l_told : PySem.W.nsIn K mainGlobals "_law_told" = some (some (.ref f_l_told)))
  (a_l_spells_right : PySem.W.nsIn K mainGlobals "_law_spells_right" = some (some (.ref f_l_spells_right)))
  (a_l_track_right : PySem.W.nsIn K mainGlobals "_law_track_right" = some (some (.ref f_l_track_right)))
  (a_law : PySem.W.nsIn K mainGlobals "law" = some (some (.ref f_law)))
  (l_BadSpell_XinitX : K.lookup f_BadSpell_XinitX = some ⟨oc_BadSpell_XinitX, od_BadSpell_XinitX, .func (PySem.W.fnOf "__init__" "BadSpell.__init__" (defArgs s_BadSpell_XinitX) (defBody s_BadSpell_XinitX) (defScope s_BadSpell_XinitX) .none kV_BadSpell_XinitX dc_BadSpell_XinitX pm_BadSpell_XinitX an_BadSpell_XinitX cd_BadSpell_XinitX ct_BadSpell_XinitX), sl_BadSpell_XinitX⟩)
  (cI_BadSpell_XinitX : PySem.W.codeIn K cd_BadSpell_XinitX "BadSpell.__init__" = true)
  (k_BadSpell_XinitX : PySem.W.keepIn K (.ref f_BadSpell_XinitX) = true)
  (l_is_number : K.lookup f_is_number = some ⟨oc_is_number, od_is_number, .func (PySem.W.fnOf "is_number" "is_number" (defArgs s_is_number) (defBody s_is_number) (defScope s_is_number) .none kV_is_number dc_is_number pm_is_number an_is_number cd_is_number ct_is_number), sl_is_number⟩)
  (cI_is_number : PySem.W.codeIn K cd_is_number "is_number" = true)
  (k_is_number : PySem.W.keepIn K (.ref f_is_number) = true)
  (l_spells : K.lookup f_spells = some ⟨oc_spells, od_spells, .func (PySem.W.fnOf "spells" "spells" (defArgs s_spells) (defBody s_spells) (defScope s_spells) .none kV_spells dc_spells pm_spells an_spells cd_spells ct_spells), sl_spells⟩)
  (cI_spells : PySem.W.codeIn K cd_spells "spells" = true)
  (k_spells : PySem.W.keepIn K (.ref f_spells) = true)
  (l_is_spell_from : K.lookup f_is_spell_from = some ⟨oc_is_spell_from, od_is_spell_from, .func (PySem.W.fnOf "is_spell_from" "is_spell_from" (defArgs s_is_spell_from) (defBody s_is_spell_from) (defScope s_is_spell_from) .none kV_is_spell_from dc_is_spell_from pm_is_spell_from an_is_spell_from cd_is_spell_from ct_is_spell_from), sl_is_spell_from⟩)
  (cI_is_spell_from : PySem.W.codeIn K cd_is_spell_from "is_spell_from" = true)
  (k_is_spell_from : PySem.W.keepIn K (.ref f_is_spell_from) = true)
  (l_track_of : K.lookup f_track_of = some ⟨oc_track_of, od_track_of, .func (PySem.W.fnOf "track_of" "track_of" (defArgs s_track_of) (defBody s_track_of) (defScope s_track_of) .none kV_track_of dc_track_of pm_track_of an_track_of cd_track_of ct_track_of), sl_track_of⟩)
  (cI_track_of : PySem.W.codeIn K cd_track_of "track_of" = true)
  (k_track_of : PySem.W.keepIn K (.ref f_track_of) = true)
  (l_l_mixed : K.lookup f_l_mixed = some ⟨oc_l_mixed, od_l_mixed, .func (PySem.W.fnOf "_law_mixed" "_law_mixed" (defArgs s_l_mixed) (defBody s_l_mixed) (defScope s_l_mixed) .none kV_l_mixed dc_l_mixed pm_l_mixed an_l_mixed cd_l_mixed ct_l_mixed), sl_l_mixed⟩)
  (cI_l_mixed : PySem.W.codeIn K cd_l_mixed "_law_mixed" = true)
  (k_l_mixed : PySem.W.keepIn K (.ref f_l_mixed) = true)
  (l_l_bag : K.lookup f_l_bag = some ⟨oc_l_bag, od_l_bag, .func (PySem.W.fnOf "_law_bag" "_law_bag" (defArgs s_l_bag) (defBody s_l_bag) (defScope s_l_bag) .none kV_l_bag dc_l_bag pm_l_bag an_l_bag cd_l_bag ct_l_bag), sl_l_bag⟩)
  (cI_l_bag : PySem.W.codeIn K cd_l_bag "_law_bag" = true)
  (k_l_bag : PySem.W.keepIn K (.ref f_l_bag) = true)
  (l_l_pick : K.lookup f_l_pick = some ⟨oc_l_pick, od_l_pick, .func (PySem.W.fnOf "_law_pick" "_law_pick" (defArgs s_l_pick) (defBody s_l_pick) (defScope s_l_pick) .none kV_l_pick dc_l_pick pm_l_pick an_l_pick cd_l_pick ct_l_pick), sl_l_pick⟩)
  (cI_l_pick : PySem.W.codeIn K cd_l_pick "_law_pick" = true)
  (k_l_pick : PySem.W.keepIn K (.ref f_l_pick) = true)
  (l_l_choice : K.lookup f_l_choice = some ⟨oc_l_choice, od_l_choice, .func (PySem.W.fnOf "_law_choice" "_law_choice" (defArgs s_l_choice) (defBody s_l_choice) (defScope s_l_choice) .none kV_l_choice dc_l_choice pm_l_choice an_l_choice cd_l_choice ct_l_choice), sl_l_choice⟩)
  (cI_l_choice : PySem.W.codeIn K cd_l_choice "_law_choice" = true)
  (k_l_choice : PySem.W.keepIn K (.ref f_l_choice) = true)
  (l_l_new_name : K.lookup f_l_new_name = some ⟨oc_l_new_name, od_l_new_name, .func (PySem.W.fnOf "_law_new_name" "_law_new_name" (defArgs s_l_new_name) (defBody s_l_new_name) (defScope s_l_new_name) .none kV_l_new_name dc_l_new_name pm_l_new_name an_l_new_name cd_l_new_name ct_l_new_name), sl_l_new_name⟩)
  (cI_l_new_name : PySem.W.codeIn K cd_l_new_name "_law_new_name" = true)
  (k_l_new_name : PySem.W.keepIn K (.ref f_l_new_name) = true)
  (l_l_names : K.lookup f_l_names = some ⟨oc_l_names, od_l_names, .func (PySem.W.fnOf "_law_names" "_law_names" (defArgs s_l_names) (defBody s_l_names) (defScope s_l_names) .none kV_l_names dc_l_names pm_l_names an_l_names cd_l_names ct_l_names), sl_l_names⟩)
  (cI_l_names : PySem.W.codeIn K cd_l_names "_law_names" = true)
  (k_l_names : PySem.W.keepIn K (.ref f_l_names) = true)
  (l_l_track : K.lookup f_l_track = some ⟨oc_l_track, od_l_track, .func (PySem.W.fnOf "_law_track" "_law_track" (defArgs s_l_track) (defBody s_l_track) (defScope s_l_track) .none kV_l_track dc_l_track pm_l_track an_l_track cd_l_track ct_l_track), sl_l_track⟩)
  (cI_l_track : PySem.W.codeIn K cd_l_track "_law_track" = true)
  (k_l_track : PySem.W.keepIn K (.ref f_l_track) = true)
  (l_l_runs : K.lookup f_l_runs = some ⟨oc_l_runs, od_l_runs, .func (PySem.W.fnOf "_law_runs" "_law_runs" (defArgs s_l_runs) (defBody s_l_runs) (defScope s_l_runs) .none kV_l_runs dc_l_runs pm_l_runs an_l_runs cd_l_runs ct_l_runs), sl_l_runs⟩)
  (cI_l_runs : PySem.W.codeIn K cd_l_runs "_law_runs" = true)
  (k_l_runs : PySem.W.keepIn K (.ref f_l_runs) = true)
  (l_l_bent : K.lookup f_l_bent = some ⟨oc_l_bent, od_l_bent, .func (PySem.W.fnOf "_law_bent" "_law_bent" (defArgs s_l_bent) (defBody s_l_bent) (defScope s_l_bent) .none kV_l_bent dc_l_bent pm_l_bent an_l_bent cd_l_bent ct_l_bent), sl_l_bent⟩)
  (cI_l_bent : PySem.W.codeIn K cd_l_bent "_law_bent" = true)
  (k_l_bent : PySem.W.keepIn K (.ref f_l_bent) = true)
  (l_l_due : K.lookup f_l_due = some ⟨oc_l_due, od_l_due, .func (PySem.W.fnOf "_law_due" "_law_due" (defArgs s_l_due) (defBody s_l_due) (defScope s_l_due) .none kV_l_due dc_l_due pm_l_due an_l_due cd_l_due ct_l_due), sl_l_due⟩)
  (cI_l_due : PySem.W.codeIn K cd_l_due "_law_due" = true)
  (k_l_due : PySem.W.keepIn K (.ref f_l_due) = true)
  (l_l_told : K.lookup f_l_told = some ⟨oc_l_told, od_l_told, .func (PySem.W.fnOf "_law_told" "_law_told" (defArgs s_l_told) (defBody s_l_told) (defScope s_l_told) .none kV_l_told dc_l_told pm_l_told an_l_told cd_l_told ct_l_told), sl_l_told⟩)
  (cI_l_told : PySem.W.codeIn K cd_l_told "_law_told" = true)
  (k_l_told : PySem.W.keepIn K (.ref f_l_told) = true)
  (l_l_spells_right : K.lookup f_l_spells_right = some ⟨oc_l_spells_right, od_l_spells_right, .func (PySem.W.fnOf "_law_spells_right" "_law_spells_right" (defArgs s_l_spells_right) (defBody s_l_spells_right) (defScope s_l_spells_right) .none kV_l_spells_right dc_l_spells_right pm_l_spells_right an_l_spells_right cd_l_spells_right ct_l_spells_right), sl_l_spells_right⟩)
  (cI_l_spells_right : PySem.W.codeIn K cd_l_spells_right "_law_spells_right" = true)
  (k_l_spells_right : PySem.W.keepIn K (.ref f_l_spells_right) = true)
  (l_l_track_right : K.lookup f_l_track_right = some ⟨oc_l_track_right, od_l_track_right, .func (PySem.W.fnOf "_law_track_right" "_law_track_right" (defArgs s_l_track_right) (defBody s_l_track_right) (defScope s_l_track_right) .none kV_l_track_right dc_l_track_right pm_l_track_right an_l_track_right cd_l_track_right ct_l_track_right), sl_l_track_right⟩)
  (cI_l_track_right : PySem.W.codeIn K cd_l_track_right "_law_track_right" = true)
  (k_l_track_right : PySem.W.keepIn K (.ref f_l_track_right) = true)
  (l_law : K.lookup f_law = some ⟨oc_law, od_law, .func (PySem.W.fnOf "law" "law" (defArgs s_law) (defBody s_law) (defScope s_law) .none kV_law dc_law pm_law an_law cd_law ct_law), sl_law⟩)
  (cI_law : PySem.W.codeIn K cd_law "law" = true)
  (k_law : PySem.W.keepIn K (.ref f_law) = true)
  (xL_DueError : K.lookup C_DueError = some (excClassObj nm_DueError q_DueError C_DueError N_DueError bs_DueError bm_DueError true sn_DueError sub_DueError ab_DueError col_DueError dd_DueError m0_DueError m1_DueError m2_DueError m3_DueError m5_DueError "ValueError.__new__"))
  (rx_DueError : PySem.HandSPX.refsVE bm_DueError = true)
  (sx_DueError : PySem.W.findIn K (.ref C_DueError) "__setattr__" = some (some (.builtin "object.__setattr__")))
  (eC_DueError : PySem.W.subIn K (.ref C_DueError) (.type "BaseException") = some true)
  (tC_DueError : PySem.W.typeIn K (.ref C_DueError) = some (.type "type"))
  (kE_DueError : PySem.W.keepIn K (.ref C_DueError) = true)
  (ga_DueError : PySem.W.findIn K (.ref C_DueError) "__getattribute__" = some (some (.builtin "BaseException.__getattribute__")))
  (gg_DueError : PySem.W.findIn K (.ref C_DueError) "__getattr__" = some none)
  (hC_DueError : PySem.W.hasDictIn K C_DueError = true)
  (xL_BadName : K.lookup C_BadName = some (excClassObj nm_BadName q_BadName C_BadName N_BadName bs_BadName bm_BadName true sn_BadName sub_BadName ab_BadName col_BadName dd_BadName m0_BadName m1_BadName m2_BadName m3_BadName m5_BadName "ValueError.__new__"))
  (rx_BadName : PySem.HandSPX.refsVE bm_BadName = true)
  (sx_BadName : PySem.W.findIn K (.ref C_BadName) "__setattr__" = some (some (.builtin "object.__setattr__")))
  (eC_BadName : PySem.W.subIn K (.ref C_BadName) (.type "BaseException") = some true)
  (tC_BadName : PySem.W.typeIn K (.ref C_BadName) = some (.type "type"))
  (kE_BadName : PySem.W.keepIn K (.ref C_BadName) = true)
  (ga_BadName : PySem.W.findIn K (.ref C_BadName) "__getattribute__" = some (some (.builtin "BaseException.__getattribute__")))
  (gg_BadName : PySem.W.findIn K (.ref C_BadName) "__getattr__" = some none)
  (hC_BadName : PySem.W.hasDictIn K C_BadName = true)
  (xL_BadNumber : K.lookup C_BadNumber = some (excClassObj nm_BadNumber q_BadNumber C_BadNumber N_BadNumber bs_BadNumber bm_BadNumber true sn_BadNumber sub_BadNumber ab_BadNumber col_BadNumber dd_BadNumber m0_BadNumber m1_BadNumber m2_BadNumber m3_BadNumber m5_BadNumber "ValueError.__new__"))
  (rx_BadNumber : PySem.HandSPX.refsVE bm_BadNumber = true)
  (sx_BadNumber : PySem.W.findIn K (.ref C_BadNumber) "__setattr__" = some (some (.builtin "object.__setattr__")))
  (eC_BadNumber : PySem.W.subIn K (.ref C_BadNumber) (.type "BaseException") = some true)
  (tC_BadNumber : PySem.W.typeIn K (.ref C_BadNumber) = some (.type "type"))
  (kE_BadNumber : PySem.W.keepIn K (.ref C_BadNumber) = true)
  (ga_BadNumber : PySem.W.findIn K (.ref C_BadNumber) "__getattribute__" = some (some (.builtin "BaseException.__getattribute__")))
  (gg_BadNumber : PySem.W.findIn K (.ref C_BadNumber) "__getattr__" = some none)
  (hC_BadNumber : PySem.W.hasDictIn K C_BadNumber = true)
  (xL_BadEntry : K.lookup C_BadEntry = some (excClassObj nm_BadEntry q_BadEntry C_BadEntry N_BadEntry bs_BadEntry bm_BadEntry true sn_BadEntry sub_BadEntry ab_BadEntry col_BadEntry dd_BadEntry m0_BadEntry m1_BadEntry m2_BadEntry m3_BadEntry m5_BadEntry "ValueError.__new__"))
  (rx_BadEntry : PySem.HandSPX.refsVE bm_BadEntry = true)
  (sx_BadEntry : PySem.W.findIn K (.ref C_BadEntry) "__setattr__" = some (some (.builtin "object.__setattr__")))
  (eC_BadEntry : PySem.W.subIn K (.ref C_BadEntry) (.type "BaseException") = some true)
  (tC_BadEntry : PySem.W.typeIn K (.ref C_BadEntry) = some (.type "type"))
  (kE_BadEntry : PySem.W.keepIn K (.ref C_BadEntry) = true)
  (ga_BadEntry : PySem.W.findIn K (.ref C_BadEntry) "__getattribute__" = some (some (.builtin "BaseException.__getattribute__")))
  (gg_BadEntry : PySem.W.findIn K (.ref C_BadEntry) "__getattr__" = some none)
  (hC_BadEntry : PySem.W.hasDictIn K C_BadEntry = true)
  (xL_BadSpell : K.lookup C_BadSpell = some (excClassObj nm_BadSpell q_BadSpell C_BadSpell N_BadSpell bs_BadSpell bm_BadSpell true sn_BadSpell sub_BadSpell ab_BadSpell col_BadSpell dd_BadSpell m0_BadSpell m1_BadSpell m2_BadSpell m3_BadSpell m5_BadSpell "ValueError.__new__"))
  (rx_BadSpell : PySem.HandSPX.refsVE bm_BadSpell = true)
  (sx_BadSpell : PySem.W.findIn K (.ref C_BadSpell) "__setattr__" = some (some (.builtin "object.__setattr__")))
  (eC_BadSpell : PySem.W.subIn K (.ref C_BadSpell) (.type "BaseException") = some true)
  (tC_BadSpell : PySem.W.typeIn K (.ref C_BadSpell) = some (.type "type"))
  (kE_BadSpell : PySem.W.keepIn K (.ref C_BadSpell) = true)
  (ga_BadSpell : PySem.W.findIn K (.ref C_BadSpell) "__getattribute__" = some (some (.builtin "BaseException.__getattribute__")))
  (gg_BadSpell : PySem.W.findIn K (.ref C_BadSpell) "__getattr__" = some none)
  (hC_BadSpell : PySem.W.hasDictIn K C_BadSpell = true)
  (nx_BadSpell : PySem.W.findIn K (.ref C_BadSpell) "spell" = some none)
  (tx_BadSpell : PySem.W.typeIn K (.ref f_BadSpell_XinitX) = some (.type "function"))
  (z_ValueError : PySem.W.nsIn K mainGlobals "ValueError" = some none)
  (z_abs : PySem.W.nsIn K mainGlobals "abs" = some none)
  (z_bool : PySem.W.nsIn K mainGlobals "bool" = some none)
  (z_enumerate : PySem.W.nsIn K mainGlobals "enumerate" = some none)
  (z_int : PySem.W.nsIn K mainGlobals "int" = some none)
  (z_isinstance : PySem.W.nsIn K mainGlobals "isinstance" = some none)
  (z_len : PySem.W.nsIn K mainGlobals "len" = some none)
  (z_list : PySem.W.nsIn K mainGlobals "list" = some none)
  (z_range : PySem.W.nsIn K mainGlobals "range" = some none)
  (z_repr : PySem.W.nsIn K mainGlobals "repr" = some none)
  (z_tuple : PySem.W.nsIn K mainGlobals "tuple" = some none)
  (kk_BadSpell : PySem.W.findIn K (.ref C_BadSpell) "__class__" = some (some (.builtin "object.__class__")))
  (km2_BadSpell : PySem.W.mroIn K C_BadSpell (.type "object") = some true)
  (kn_obj : PySem.W.specialIn K (.builtin "object.__class__") "__get__" = some (some (.builtin "getset_descriptor.__get__")))
  (kt_obj : PySem.W.takesIn K (.builtin "object.__class__") = some true)
  (su_BadSpell_DueError : PySem.W.subIn K (.ref C_BadSpell) (.ref C_DueError) = some true)
  (kb_BadSpell_BadEntry : PySem.W.kitOne K (.ref C_BadSpell) (.ref C_BadEntry) = some false)
  (kb_BadSpell_BadName : PySem.W.kitOne K (.ref C_BadSpell) (.ref C_BadName) = some false)
  (kb_BadSpell_BadNumber : PySem.W.kitOne K (.ref C_BadSpell) (.ref C_BadNumber) = some false)
  (kb_BadSpell_BadSpell : PySem.W.kitOne K (.ref C_BadSpell) (.ref C_BadSpell) = some true)
  (kb_BadSpell_ValueError : PySem.W.kitOne K (.ref C_BadSpell) (.type "ValueError") = some true) :
    ∃ fd : FuncData, (∀ (s : Shared) (v : Value), BindsTo s fd ⟨[v], []⟩ [("_law_script", v)]) ∧ ∀ base : Heap, K.In base → base.Ns mainGlobals mg → FnG P w K mg base CX0 6 fa fd ["_law_script"] (Mi.spLaw K) := by
  have e := hfa.symm.trans (PySem.W.mg_of X G a_law)
  cases e
  let AA : Ad := { f_BadSpell_XinitX := f_BadSpell_XinitX, d_BadSpell_XinitX := (PySem.W.fnOf "__init__" "BadSpell.__init__" (defArgs s_BadSpell_XinitX) (defBody s_BadSpell_XinitX) (defScope s_BadSpell_XinitX) .none kV_BadSpell_XinitX dc_BadSpell_XinitX pm_BadSpell_XinitX an_BadSpell_XinitX cd_BadSpell_XinitX ct_BadSpell_XinitX), f_is_number := f_is_number, d_is_number := (PySem.W.fnOf "is_number" "is_number" (defArgs s_is_number) (defBody s_is_number) (defScope s_is_number) .none kV_is_number dc_is_number pm_is_number an_is_number cd_is_number ct_is_number), f_spells := f_spells, d_spells := (PySem.W.fnOf "spells" "spells" (defArgs s_spells) (defBody s_spells) (defScope s_spells) .none kV_spells dc_spells pm_spells an_spells cd_spells ct_spells), f_is_spell_from := f_is_spell_from, d_is_spell_from := (PySem.W.fnOf "is_spell_from" "is_spell_from" (defArgs s_is_spell_from) (defBody s_is_spell_from) (defScope s_is_spell_from) .none kV_is_spell_from dc_is_spell_from pm_is_spell_from an_is_spell_from cd_is_spell_from ct_is_spell_from), f_track_of := f_track_of, d_track_of := (PySem.W.fnOf "track_of" "track_of" (defArgs s_track_of) (defBody s_track_of) (defScope s_track_of) .none kV_track_of dc_track_of pm_track_of an_track_of cd_track_of ct_track_of), f_l_mixed := f_l_mixed, d_l_mixed := (PySem.W.fnOf "_law_mixed" "_law_mixed" (defArgs s_l_mixed) (defBody s_l_mixed) (defScope s_l_mixed) .none kV_l_mixed dc_l_mixed pm_l_mixed an_l_mixed cd_l_mixed ct_l_mixed), f_l_bag := f_l_bag, d_l_bag := (PySem.W.fnOf "_law_bag" "_law_bag" (defArgs s_l_bag) (defBody s_l_bag) (defScope s_l_bag) .none kV_l_bag dc_l_bag pm_l_bag an_l_bag cd_l_bag ct_l_bag), f_l_pick := f_l_pick, d_l_pick := (PySem.W.fnOf "_law_pick" "_law_pick" (defArgs s_l_pick) (defBody s_l_pick) (defScope s_l_pick) .none kV_l_pick dc_l_pick pm_l_pick an_l_pick cd_l_pick ct_l_pick), f_l_choice := f_l_choice, d_l_choice := (PySem.W.fnOf "_law_choice" "_law_choice" (defArgs s_l_choice) (defBody s_l_choice) (defScope s_l_choice) .none kV_l_choice dc_l_choice pm_l_choice an_l_choice cd_l_choice ct_l_choice), f_l_new_name := f_l_new_name, d_l_new_name := (PySem.W.fnOf "_law_new_name" "_law_new_name" (defArgs s_l_new_name) (defBody s_l_new_name) (defScope s_l_new_name) .none kV_l_new_name dc_l_new_name pm_l_new_name an_l_new_name cd_l_new_name ct_l_new_name), f_l_names := f_l_names, d_l_names := (PySem.W.fnOf "_law_names" "_law_names" (defArgs s_l_names) (defBody s_l_names) (defScope s_l_names) .none kV_l_names dc_l_names pm_l_names an_l_names cd_l_names ct_l_names), f_l_track := f_l_track, d_l_track := (PySem.W.fnOf "_law_track" "_law_track" (defArgs s_l_track) (defBody s_l_track) (defScope s_l_track) .none kV_l_track dc_l_track pm_l_track an_l_track cd_l_track ct_l_track), f_l_runs := f_l_runs, d_l_runs := (PySem.W.fnOf "_law_runs" "_law_runs" (defArgs s_l_runs) (defBody s_l_runs) (defScope s_l_runs) .none kV_l_runs dc_l_runs pm_l_runs an_l_runs cd_l_runs ct_l_runs), f_l_bent := f_l_bent, d_l_bent := (PySem.W.fnOf "_law_bent" "_law_bent" (defArgs s_l_bent) (defBody s_l_bent) (defScope s_l_bent) .none kV_l_bent dc_l_bent pm_l_bent an_l_bent cd_l_bent ct_l_bent), f_l_due := f_l_due, d_l_due := (PySem.W.fnOf "_law_due" "_law_due" (defArgs s_l_due) (defBody s_l_due) (defScope s_l_due) .none kV_l_due dc_l_due pm_l_due an_l_due cd_l_due ct_l_due), f_l_told := f_l_told, d_l_told := (PySem.W.fnOf "_law_told" "_law_told" (defArgs s_l_told) (defBody s_l_told) (defScope s_l_told) .none kV_l_told dc_l_told pm_l_told an_l_told cd_l_told ct_l_told), f_l_spells_right := f_l_spells_right, d_l_spells_right := (PySem.W.fnOf "_law_spells_right" "_law_spells_right" (defArgs s_l_spells_right) (defBody s_l_spells_right) (defScope s_l_spells_right) .none kV_l_spells_right dc_l_spells_right pm_l_spells_right an_l_spells_right cd_l_spells_right ct_l_spells_right), f_l_track_right := f_l_track_right, d_l_track_right := (PySem.W.fnOf "_law_track_right" "_law_track_right" (defArgs s_l_track_right) (defBody s_l_track_right) (defScope s_l_track_right) .none kV_l_track_right dc_l_track_right pm_l_track_right an_l_track_right cd_l_track_right ct_l_track_right), f_law := fa, d_law := (PySem.W.fnOf "law" "law" (defArgs s_law) (defBody s_law) (defScope s_law) .none kV_law dc_law pm_law an_law cd_law ct_law), C_DueError := C_DueError, C_BadName := C_BadName, C_BadNumber := C_BadNumber, C_BadEntry := C_BadEntry, C_BadSpell := C_BadSpell }
  have T : Txt K mg AA :=
    { F_BadSpell_XinitX := fun_mk (st := s_BadSpell_XinitX) l_BadSpell_XinitX cI_BadSpell_XinitX k_BadSpell_XinitX,
      bi_BadSpell_XinitX := (fun_mk (st := s_BadSpell_XinitX) l_BadSpell_XinitX cI_BadSpell_XinitX k_BadSpell_XinitX).binds (ps := ["self", "spell"]) fun _ _ _ _ _ _ us hl => match us, hl with | [_, _], _ => rfl,
      F_is_number := fun_mk (st := s_is_number) l_is_number cI_is_number k_is_number,
      bi_is_number := (fun_mk (st := s_is_number) l_is_number cI_is_number k_is_number).binds (ps := ["number", "low", "high"]) fun _ _ _ _ _ _ us hl => match us, hl with | [_, _, _], _ => rfl,
      g_is_number := PySem.W.mg_of X G a_is_number,
      F_spells := fun_mk (st := s_spells) l_spells cI_spells k_spells,
      bi_spells := (fun_mk (st := s_spells) l_spells cI_spells k_spells).binds (ps := ["track"]) fun _ _ _ _ _ _ us hl => match us, hl with | [_], _ => rfl,
      g_spells := PySem.W.mg_of X G a_spells,
      F_is_spell_from := fun_mk (st := s_is_spell_from) l_is_spell_from cI_is_spell_from k_is_spell_from,
      bi_is_spell_from := (fun_mk (st := s_is_spell_from) l_is_spell_from cI_is_spell_from k_is_spell_from).binds (ps := ["spell", "day"]) fun _ _ _ _ _ _ us hl => match us, hl with | [_, _], _ => rfl,
      g_is_spell_from := PySem.W.mg_of X G a_is_spell_from,
      F_track_of := fun_mk (st := s_track_of) l_track_of cI_track_of k_track_of,
      bi_track_of := (fun_mk (st := s_track_of) l_track_of cI_track_of k_track_of).binds (ps := ["spells"]) fun _ _ _ _ _ _ us hl => match us, hl with | [_], _ => rfl,
      g_track_of := PySem.W.mg_of X G a_track_of,
      F_l_mixed := fun_mk (st := s_l_mixed) l_l_mixed cI_l_mixed k_l_mixed,
      bi_l_mixed := (fun_mk (st := s_l_mixed) l_l_mixed cI_l_mixed k_l_mixed).binds (ps := ["_law_number", "_law_turn"]) fun _ _ _ _ _ _ us hl => match us, hl with | [_, _], _ => rfl,
      g_l_mixed := PySem.W.mg_of X G a_l_mixed,
      F_l_bag := fun_mk (st := s_l_bag) l_l_bag cI_l_bag k_l_bag,
      bi_l_bag := (fun_mk (st := s_l_bag) l_l_bag cI_l_bag k_l_bag).binds (ps := ["_law_script"]) fun _ _ _ _ _ _ us hl => match us, hl with | [_], _ => rfl,
      g_l_bag := PySem.W.mg_of X G a_l_bag,
      F_l_pick := fun_mk (st := s_l_pick) l_l_pick cI_l_pick k_l_pick,
      bi_l_pick := (fun_mk (st := s_l_pick) l_l_pick cI_l_pick k_l_pick).binds (ps := ["_law_bag_here", "_law_many"]) fun _ _ _ _ _ _ us hl => match us, hl with | [_, _], _ => rfl,
      g_l_pick := PySem.W.mg_of X G a_l_pick,
      F_l_choice := fun_mk (st := s_l_choice) l_l_choice cI_l_choice k_l_choice,
      bi_l_choice := (fun_mk (st := s_l_choice) l_l_choice cI_l_choice k_l_choice).binds (ps := ["_law_bag_here", "_law_things"]) fun _ _ _ _ _ _ us hl => match us, hl with | [_, _], _ => rfl,
      g_l_choice := PySem.W.mg_of X G a_l_choice,
      F_l_new_name := fun_mk (st := s_l_new_name) l_l_new_name cI_l_new_name k_l_new_name,
      bi_l_new_name := (fun_mk (st := s_l_new_name) l_l_new_name cI_l_new_name k_l_new_name).binds (ps := ["_law_bag_here", "_law_used"]) fun _ _ _ _ _ _ us hl => match us, hl with | [_, _], _ => rfl,
      g_l_new_name := PySem.W.mg_of X G a_l_new_name,
      F_l_names := fun_mk (st := s_l_names) l_l_names cI_l_names k_l_names,
      bi_l_names := (fun_mk (st := s_l_names) l_l_names cI_l_names k_l_names).binds (ps := ["_law_bag_here"]) fun _ _ _ _ _ _ us hl => match us, hl with | [_], _ => rfl,
      g_l_names := PySem.W.mg_of X G a_l_names,
      F_l_track := fun_mk (st := s_l_track) l_l_track cI_l_track k_l_track,
      bi_l_track := (fun_mk (st := s_l_track) l_l_track cI_l_track k_l_track).binds (ps := ["_law_bag_here", "_law_names_here"]) fun _ _ _ _ _ _ us hl => match us, hl with | [_, _], _ => rfl,
      g_l_track := PySem.W.mg_of X G a_l_track,
      F_l_runs := fun_mk (st := s_l_runs) l_l_runs cI_l_runs k_l_runs,
      bi_l_runs := (fun_mk (st := s_l_runs) l_l_runs cI_l_runs k_l_runs).binds (ps := ["_law_track_here"]) fun _ _ _ _ _ _ us hl => match us, hl with | [_], _ => rfl,
      g_l_runs := PySem.W.mg_of X G a_l_runs,
      F_l_bent := fun_mk (st := s_l_bent) l_l_bent cI_l_bent k_l_bent,
      bi_l_bent := (fun_mk (st := s_l_bent) l_l_bent cI_l_bent k_l_bent).binds (ps := ["_law_bag_here", "_law_rows", "_law_names_here"]) fun _ _ _ _ _ _ us hl => match us, hl with | [_, _, _], _ => rfl,
      g_l_bent := PySem.W.mg_of X G a_l_bent,
      F_l_due := fun_mk (st := s_l_due) l_l_due cI_l_due k_l_due,
      bi_l_due := (fun_mk (st := s_l_due) l_l_due cI_l_due k_l_due).binds (ps := ["_law_rows"]) fun _ _ _ _ _ _ us hl => match us, hl with | [_], _ => rfl,
      g_l_due := PySem.W.mg_of X G a_l_due,
      F_l_told := fun_mk (st := s_l_told) l_l_told cI_l_told k_l_told,
      bi_l_told := (fun_mk (st := s_l_told) l_l_told cI_l_told k_l_told).binds (ps := ["_law_rows"]) fun _ _ _ _ _ _ us hl => match us, hl with | [_], _ => rfl,
      g_l_told := PySem.W.mg_of X G a_l_told,
      F_l_spells_right := fun_mk (st := s_l_spells_right) l_l_spells_right cI_l_spells_right k_l_spells_right,
      bi_l_spells_right := (fun_mk (st := s_l_spells_right) l_l_spells_right cI_l_spells_right k_l_spells_right).binds (ps := ["_law_track_here"]) fun _ _ _ _ _ _ us hl => match us, hl with | [_], _ => rfl,
      g_l_spells_right := PySem.W.mg_of X G a_l_spells_right,
      F_l_track_right := fun_mk (st := s_l_track_right) l_l_track_right cI_l_track_right k_l_track_right,
      bi_l_track_right := (fun_mk (st := s_l_track_right) l_l_track_right cI_l_track_right k_l_track_right).binds (ps := ["_law_rows"]) fun _ _ _ _ _ _ us hl => match us, hl with | [_], _ => rfl,
      g_l_track_right := PySem.W.mg_of X G a_l_track_right,
      F_law := fun_mk (st := s_law) l_law cI_law k_law,
      bi_law := (fun_mk (st := s_law) l_law cI_law k_law).binds (ps := ["_law_script"]) fun _ _ _ _ _ _ us hl => match us, hl with | [_], _ => rfl,
      g_law := PySem.W.mg_of X G a_law,
      g_DueError := PySem.W.mg_of X G a_DueError,
      ox_DueError := ⟨⟨nm_DueError, q_DueError, N_DueError, bs_DueError, bm_DueError, sn_DueError, sub_DueError, ab_DueError, col_DueError, dd_DueError, m0_DueError, m1_DueError, m2_DueError, m3_DueError, m5_DueError, xL_DueError, rx_DueError⟩, sx_DueError, eC_DueError, tC_DueError, kE_DueError⟩,
      xf_DueError := ⟨ga_DueError, gg_DueError, eC_DueError, hC_DueError⟩,
      g_BadName := PySem.W.mg_of X G a_BadName,
      ox_BadName := ⟨⟨nm_BadName, q_BadName, N_BadName, bs_BadName, bm_BadName, sn_BadName, sub_BadName, ab_BadName, col_BadName, dd_BadName, m0_BadName, m1_BadName, m2_BadName, m3_BadName, m5_BadName, xL_BadName, rx_BadName⟩, sx_BadName, eC_BadName, tC_BadName, kE_BadName⟩,
      xf_BadName := ⟨ga_BadName, gg_BadName, eC_BadName, hC_BadName⟩,
      g_BadNumber := PySem.W.mg_of X G a_BadNumber,
      ox_BadNumber := ⟨⟨nm_BadNumber, q_BadNumber, N_BadNumber, bs_BadNumber, bm_BadNumber, sn_BadNumber, sub_BadNumber, ab_BadNumber, col_BadNumber, dd_BadNumber, m0_BadNumber, m1_BadNumber, m2_BadNumber, m3_BadNumber, m5_BadNumber, xL_BadNumber, rx_BadNumber⟩, sx_BadNumber, eC_BadNumber, tC_BadNumber, kE_BadNumber⟩,
      xf_BadNumber := ⟨ga_BadNumber, gg_BadNumber, eC_BadNumber, hC_BadNumber⟩,
      g_BadEntry := PySem.W.mg_of X G a_BadEntry,
      ox_BadEntry := ⟨⟨nm_BadEntry, q_BadEntry, N_BadEntry, bs_BadEntry, bm_BadEntry, sn_BadEntry, sub_BadEntry, ab_BadEntry, col_BadEntry, dd_BadEntry, m0_BadEntry, m1_BadEntry, m2_BadEntry, m3_BadEntry, m5_BadEntry, xL_BadEntry, rx_BadEntry⟩, sx_BadEntry, eC_BadEntry, tC_BadEntry, kE_BadEntry⟩,
      xf_BadEntry := ⟨ga_BadEntry, gg_BadEntry, eC_BadEntry, hC_BadEntry⟩,
      g_BadSpell := PySem.W.mg_of X G a_BadSpell,
      ox_BadSpell := ⟨⟨nm_BadSpell, q_BadSpell, N_BadSpell, bs_BadSpell, bm_BadSpell, sn_BadSpell, sub_BadSpell, ab_BadSpell, col_BadSpell, dd_BadSpell, m0_BadSpell, m1_BadSpell, m2_BadSpell, m3_BadSpell, m5_BadSpell, xL_BadSpell, rx_BadSpell⟩, sx_BadSpell, eC_BadSpell, tC_BadSpell, kE_BadSpell⟩,
      xf_BadSpell := ⟨ga_BadSpell, gg_BadSpell, eC_BadSpell, hC_BadSpell⟩,
      nx_BadSpell := nx_BadSpell,
      ix_BadSpell := ix_BadSpell,
      tx_BadSpell := tx_BadSpell,
      b_ValueError := PySem.W.mg_none_of X G z_ValueError,
      b_abs := PySem.W.mg_none_of X G z_abs,
      b_bool := PySem.W.mg_none_of X G z_bool,
      b_enumerate := PySem.W.mg_none_of X G z_enumerate,
      b_int := PySem.W.mg_none_of X G z_int,
      b_isinstance := PySem.W.mg_none_of X G z_isinstance,
      b_len := PySem.W.mg_none_of X G z_len,
      b_list := PySem.W.mg_none_of X G z_list,
      b_range := PySem.W.mg_none_of X G z_range,
      b_repr := PySem.W.mg_none_of X G z_repr,
      b_tuple := PySem.W.mg_none_of X G z_tuple,
      ec_BadSpell := ⟨ga_BadSpell, gg_BadSpell, eC_BadSpell, hC_BadSpell, kk_BadSpell, kn_obj, kt_obj, km2_BadSpell⟩,
      su_BadSpell_DueError := su_BadSpell_DueError,
      kb_BadSpell_BadEntry := kb_BadSpell_BadEntry,
      kb_BadSpell_BadName := kb_BadSpell_BadName,
      kb_BadSpell_BadNumber := kb_BadSpell_BadNumber,
      kb_BadSpell_BadSpell := kb_BadSpell_BadSpell,
      kb_BadSpell_ValueError := kb_BadSpell_ValueError }
  exact ⟨(PySem.W.fnOf "law" "law" (defArgs s_law) (defBody s_law) (defScope s_law) .none kV_law dc_law pm_law an_law cd_law ct_law), fun s v => .of_eq rfl, fun base _ _ => Mi.okM_law T Mi.law_math⟩
theorem walk {l : PySem.W.OpenLaw} {q : Program} {loose : List Str} {XP : (Str → Option Value) → Heap → Prop} {YP : World → Heap → Prop} {d : DefRec} {K : Params → PySem.W.Frag} (hn : l.most = some 63) (hdf : d.params.defaults = [])
    (hY : ∀ (w : World) (h : Heap), YP w h → (K w.params).In h)
    (F : ∀ (w : World) (mg : Str → Option Value) (fa : Addr) (h : Heap), (K w.params).In h → h.Ns mainGlobals mg → mg d.name = some (.ref fa) →
      ∃ fd : FuncData, (∀ (s : Shared) (u : Value), BindsTo s fd ⟨[u], []⟩ [("_law_script", u)]) ∧ ∀ base : Heap, (K w.params).In base → base.Ns mainGlobals mg → FnG l.prog w (K w.params) mg base CX0 6 fa fd ["_law_script"] (Mi.spLaw (K w.params))) :
    PySem.W.WalkO q loose XP YP l.row.toRowW d [] (fun f vs => PySem.call f vs) :=
  L2.walk_ofG (n := 63) (k := 6) (x := "_law_script") (CF := fun _ => CX0) (sp := fun w => Mi.spLaw (K w.params)) hn (by decide) hdf ⟨rfl, by decide, by decide⟩ hY F (fun _ _ a ns hl _ hS => ⟨a, ns, rfl, hS, hl, fun _ => rfl⟩) fun _ _ _ _ _ z => z
end Dh
/-! K05Fin -/
open PySem PySem.W PyProof.Rows
set_option Elab.async false
set_option maxRecDepth 100000 in
set_option maxHeartbeats 0 in
theorem PySem.Challenge.cw_duehouse_k05_spells_and_tracks_holds : PySem.Challenge.rw_duehouse_k05_spells_and_tracks.Holds := by
  w_on; o_law; k_head; (case hw => w_witness2)
  k_fill
  refine Dh.walk (l := PySem.Challenge.rw_duehouse_k05_spells_and_tracks) rfl rfl (fun w h Y => PySem.W.kIn_of Y) ?F
  case F =>
    intro w mg fa h KX G hmg
    refine' Dh.all_mk KX G hmg ?a_DueError ?a_BadName ?a_BadNumber ?a_BadEntry ?a_BadSpell ?ix_BadSpell ?a_is_number ?a_spells ?a_is_spell_from ?a_track_of ?a_l_mixed ?a_l_bag ?a_l_pick ?a_l_choice ?a_l_new_name ?a_l_names ?a_l_track ?a_l_runs ?a_l_bent ?a_l_due ?a_l_told ?a_l_spells_right ?a_l_track_right ?a_law ?l_BadSpell_XinitX ?cI_BadSpell_XinitX ?k_BadSpell_XinitX ?l_is_number ?cI_is_number ?k_is_number ?l_spells ?cI_spells ?k_spells ?l_is_spell_from ?cI_is_spell_from ?k_is_spell_from ?l_track_of ?cI_track_of ?k_track_of ?l_l_mixed ?cI_l_mixed ?k_l_mixed ?l_l_bag ?cI_l_bag ?k_l_bag ?l_l_pick ?cI_l_pick ?k_l_pick ?l_l_choice ?cI_l_choice ?k_l_choice ?l_l_new_name ?cI_l_new_name ?k_l_new_name ?l_l_names ?cI_l_names ?k_l_names ?l_l_track ?cI_l_track ?k_l_track ?l_l_runs ?cI_l_runs ?k_l_runs ?l_l_bent ?cI_l_bent ?k_l_bent ?l_l_due ?cI_l_due ?k_l_due ?l_l_told ?cI_l_told ?k_l_told ?l_l_spells_right ?cI_l_spells_right ?k_l_spells_right ?l_l_track_right ?cI_l_track_right ?k_l_track_right ?l_law ?cI_law ?k_law ?xL_DueError ?rx_DueError ?sx_DueError ?eC_DueError ?tC_DueError ?kE_DueError ?ga_DueError ?gg_DueError ?hC_DueError ?xL_BadName ?rx_BadName ?sx_BadName ?eC_BadName ?tC_BadName ?kE_BadName ?ga_BadName ?gg_BadName ?hC_BadName ?xL_BadNumber ?rx_BadNumber ?sx_BadNumber ?eC_BadNumber ?tC_BadNumber ?kE_BadNumber ?ga_BadNumber ?gg_BadNumber ?hC_BadNumber ?xL_BadEntry ?rx_BadEntry ?sx_BadEntry ?eC_BadEntry ?tC_BadEntry ?kE_BadEntry ?ga_BadEntry ?gg_BadEntry ?hC_BadEntry ?xL_BadSpell ?rx_BadSpell ?sx_BadSpell ?eC_BadSpell ?tC_BadSpell ?kE_BadSpell ?ga_BadSpell ?gg_BadSpell ?hC_BadSpell ?nx_BadSpell ?tx_BadSpell ?z_ValueError ?z_abs ?z_bool ?z_enumerate ?z_int ?z_isinstance ?z_len ?z_list ?z_range ?z_repr ?z_tuple ?kk_BadSpell ?km2_BadSpell ?kn_obj ?kt_obj ?su_BadSpell_DueError ?kb_BadSpell_BadEntry ?kb_BadSpell_BadName ?kb_BadSpell_BadNumber ?kb_BadSpell_BadSpell ?kb_BadSpell_ValueError
    (case a_DueError => (k_is))
    (case a_BadName => (k_is))
    (case a_BadNumber => (k_is))
    (case a_BadEntry => (k_is))
    (case a_BadSpell => (k_is))
    (case ix_BadSpell => (k_is))
    (case a_is_number => (k_is))
    (case a_spells => (k_is))
    (case a_is_spell_from => (k_is))
    (case a_track_of => (k_is))
    (case a_l_mixed => (k_is))
    (case a_l_bag => (k_is))
    (case a_l_pick => (k_is))
    (case a_l_choice => (k_is))
    (case a_l_new_name => (k_is))
    (case a_l_names => (k_is))
    (case a_l_track => (k_is))
    (case a_l_runs => (k_is))
    (case a_l_bent => (k_is))
    (case a_l_due => (k_is))
    (case a_l_told => (k_is))
    (case a_l_spells_right => (k_is))
    (case a_l_track_right => (k_is))
    (case a_law => (k_is))
    (case l_BadSpell_XinitX => (k_is))
    (case cI_BadSpell_XinitX => (k_is))
    (case k_BadSpell_XinitX => (k_is))
    (case l_is_number => (k_is))
    (case cI_is_number => (k_is))
    (case k_is_number => (k_is))
    (case l_spells => (k_is))
    (case cI_spells => (k_is))
    (case k_spells => (k_is))
    (case l_is_spell_from => (k_is))
    (case cI_is_spell_from => (k_is))
    (case k_is_spell_from => (k_is))
    (case l_track_of => (k_is))
    (case cI_track_of => (k_is))
    (case k_track_of => (k_is))
    (case l_l_mixed => (k_is))
    (case cI_l_mixed => (k_is))
    (case k_l_mixed => (k_is))
    (case l_l_bag => (k_is))
    (case cI_l_bag => (k_is))
    (case k_l_bag => (k_is))
    (case l_l_pick => (k_is))
    (case cI_l_pick => (k_is))
    (case k_l_pick => (k_is))
    (case l_l_choice => (k_is))
    (case cI_l_choice => (k_is))
    (case k_l_choice => (k_is))
    (case l_l_new_name => (k_is))
    (case cI_l_new_name => (k_is))
    (case k_l_new_name => (k_is))
    (case l_l_names => (k_is))
    (case cI_l_names => (k_is))
    (case k_l_names => (k_is))
    (case l_l_track => (k_is))
    (case cI_l_track => (k_is))
    (case k_l_track => (k_is))
    (case l_l_runs => (k_is))
    (case cI_l_runs => (k_is))
    (case k_l_runs => (k_is))
    (case l_l_bent => (k_is))
    (case cI_l_bent => (k_is))
    (case k_l_bent => (k_is))
    (case l_l_due => (k_is))
    (case cI_l_due => (k_is))
    (case k_l_due => (k_is))
    (case l_l_told => (k_is))
    (case cI_l_told => (k_is))
    (case k_l_told => (k_is))
    (case l_l_spells_right => (k_is))
    (case cI_l_spells_right => (k_is))
    (case k_l_spells_right => (k_is))
    (case l_l_track_right => (k_is))
    (case cI_l_track_right => (k_is))
    (case k_l_track_right => (k_is))
    (case l_law => (k_is))
    (case cI_law => (k_is))
    (case k_law => (k_is))
    (case xL_DueError => (k_is))
    (case rx_DueError => (decide +kernel))
    (case sx_DueError => (k_is))
    (case eC_DueError => (k_is))
    (case tC_DueError => (k_is))
    (case kE_DueError => (k_is))
    (case ga_DueError => (k_is))
    (case gg_DueError => (k_is))
    (case hC_DueError => (k_is))
    (case xL_BadName => (k_is))
    (case rx_BadName => (decide +kernel))
    (case sx_BadName => (k_is))
    (case eC_BadName => (k_is))
    (case tC_BadName => (k_is))
    (case kE_BadName => (k_is))
    (case ga_BadName => (k_is))
    (case gg_BadName => (k_is))
    (case hC_BadName => (k_is))
    (case xL_BadNumber => (k_is))
    (case rx_BadNumber => (decide +kernel))
    (case sx_BadNumber => (k_is))
    (case eC_BadNumber => (k_is))
    (case tC_BadNumber => (k_is))
    (case kE_BadNumber => (k_is))
    (case ga_BadNumber => (k_is))
    (case gg_BadNumber => (k_is))
    (case hC_BadNumber => (k_is))
    (case xL_BadEntry => (k_is))
    (case rx_BadEntry => (decide +kernel))
    (case sx_BadEntry => (k_is))
    (case eC_BadEntry => (k_is))
    (case tC_BadEntry => (k_is))
    (case kE_BadEntry => (k_is))
    (case ga_BadEntry => (k_is))
    (case gg_BadEntry => (k_is))
    (case hC_BadEntry => (k_is))
    (case xL_BadSpell => (k_is))
    (case rx_BadSpell => (decide +kernel))
    (case sx_BadSpell => (k_is))
    (case eC_BadSpell => (k_is))
    (case tC_BadSpell => (k_is))
    (case kE_BadSpell => (k_is))
    (case ga_BadSpell => (k_is))
    (case gg_BadSpell => (k_is))
    (case hC_BadSpell => (k_is))
    (case nx_BadSpell => (k_is))
    (case tx_BadSpell => (k_is))
    (case z_ValueError => (k_is))
    (case z_abs => (k_is))
    (case z_bool => (k_is))
    (case z_enumerate => (k_is))
    (case z_int => (k_is))
    (case z_isinstance => (k_is))
    (case z_len => (k_is))
    (case z_list => (k_is))
    (case z_range => (k_is))
    (case z_repr => (k_is))
    (case z_tuple => (k_is))
    (case kk_BadSpell => (k_is))
    (case km2_BadSpell => (k_is))
    (case kn_obj => (k_is))
    (case kt_obj => (k_is))
    (case su_BadSpell_DueError => (k_is))
    (case kb_BadSpell_BadEntry => (first | k_is | kit_is))
    (case kb_BadSpell_BadName => (first | k_is | kit_is))
    (case kb_BadSpell_BadNumber => (first | k_is | kit_is))
    (case kb_BadSpell_BadSpell => (first | k_is | kit_is))
    (case kb_BadSpell_ValueError => (first | k_is | kit_is))
