import PyProof.Rows.All
import Wide.All
import OpenK.AllK
import Wide.FinOn
import HandS.ForMost
import HandS.Wide
import HandS.StrMore
import PyProof.LongRange
import HandS.Star
import HandS.SortRule
import HandS.Walk
import HandS.Style
import HandS.Property
import HandS.SlotsOwn
import HandS.Deep
import HandS.Iter
import KE.KOpsOwn
import KE.KDictZip
import KE.KTurns
import PyProof.Rows.SortShellAny
import HandS.More
import HandS.IsInst
import HandS.Codes
import PyProof.InstNe
import HandS.MakeKwOnly
import HandS.Defaults
import KE.RegKIsAll
import HandS.NoneIn
import HandS.DictTup
import HandS.SortOrd
import HandS.ListItems
import HandS.FStrTup
import HandS.FStr
import HandS.Nested
import HandS.ExcInit
import HandS.ExcSuper
import KE.KExcSuper
import KE.KSuper
import KE.RegKSuper
import HandS.ClsMeth
import HandS.NestedHot
import HandS.ExcInitHot
import HandS.HeadWalk
import HandS.ExcField
import KE.KExcIs
import HandS.OwnEq
import HandS.Words
import HandS.ExcIs
import HandS.WordsExc
import HandS.SuiteRaise
import HandS.NoneIn
import HandS.Walk
import HandS.Star
import PySem.Challenge.RW_halfcuts_k54_moments_in_texts
set_option Elab.async false
set_option linter.all false
set_option maxRecDepth 100000
set_option maxHeartbeats 8000000
namespace HC
open PySem PySem.Spec PyProof.Rows L2
/-! ## texts as lists of codes -/
def T (l : List Nat) : Str := ⟨l.toArray⟩
theorem T_len (l : List Nat) : (T l).length = l.length := by
  show l.toArray.size = l.length
  simp
theorem T_list (l : List Nat) : (T l).cps.toList = l := by
  show l.toArray.toList = l
  simp
theorem T_inj {a b : List Nat} (h : T a = T b) : a = b := by
  have := congrArg (fun s : Str => s.cps.toList) h
  simpa [T_list] using this
theorem T_eq (a b : List Nat) : decide (V.str (T a) = V.str (T b)) = decide (a = b) := by
  by_cases h : a = b
  · subst h; simp
  · have h2 : ¬ V.str (T a) = V.str (T b) := fun q => h (T_inj (V.str.inj q))
    rw [decide_eq_false h, decide_eq_false h2]
theorem T_app (a b : List Nat) : T a ++ T b = T (a ++ b) := by
  show Str.append (T a) (T b) = T (a ++ b)
  unfold Str.append T
  simp
def rep (n : Nat) (a : List Nat) : List Nat := (List.replicate n a).flatten
theorem rep_zero (a : List Nat) : rep 0 a = [] := rfl
theorem rep_succ (n : Nat) (a : List Nat) : rep (n + 1) a = a ++ rep n a := by
  unfold rep
  rw [List.replicate_succ, List.flatten_cons]
theorem rep_nil (n : Nat) : rep n [] = [] := by
  induction n with
  | zero => rfl
  | succ n ih => rw [rep_succ, ih]; rfl
theorem rep_len (n : Nat) (a : List Nat) : (rep n a).length = n * a.length := by
  induction n with
  | zero => simp [rep_zero]
  | succ n ih => rw [rep_succ, List.length_append, ih, Nat.succ_mul, Nat.add_comm]
theorem foldl_T (n : Nat) (a : List Nat) : ∀ acc : Array Nat, (List.replicate n a.toArray).foldl (· ++ ·) acc = acc ++ (rep n a).toArray := by
  induction n with
  | zero => intro acc; simp [rep_zero]
  | succ n ih => intro acc; rw [List.replicate_succ, List.foldl_cons, ih, rep_succ]; simp
theorem mul_T (a : List Nat) (n : Nat) : Txt.mul (T a) (n : Int) = T (rep n a) := by
  unfold Txt.mul
  by_cases h1 : (n : Int) < 1
  · rw [if_pos h1]
    have : n = 0 := by omega
    subst this
    rfl
  · rw [if_neg h1]
    by_cases h2 : ((n : Int) == 1 || (T a).length == 0) = true
    · rw [if_pos h2]
      rw [Bool.or_eq_true] at h2
      rcases h2 with h2 | h2
      · have : n = 1 := by have := eq_of_beq h2; omega
        subst this
        rw [rep_succ, rep_zero, List.append_nil]
      · have h3 := eq_of_beq h2
        rw [T_len] at h3
        have : a = [] := List.eq_nil_of_length_eq_zero h3
        subst this
        rw [rep_nil]
    · rw [if_neg h2]
      show Str.mk ((List.replicate (n : Int).toNat a.toArray).foldl (· ++ ·) #[]) = T (rep n a)
      rw [Int.toNat_natCast, foldl_T]
      unfold T
      simp
theorem mulOk_T {a : List Nat} {n : Nat} (h : a.length * n ≤ 1000000) (hn : n < 1000000) : MulOk (T a) (n : Int) := by
  refine ⟨?_, ?_, ?_⟩
  · have h1 : ¬ ((n : Int) < -(2 ^ 63 : Int)) := by omega
    have h2 : ¬ ((n : Int) ≥ 2 ^ 63) := by omega
    rw [decide_eq_false h1, decide_eq_false h2]
    rfl
  · intro h1 h2 h3
    rw [T_len] at h3
    have hp : (0 : Int) < n := by omega
    have h4 : ((n : Int) * ((2 ^ 63 - 1) / (n : Int))) < (n : Int) * (a.length : Int) := Int.mul_lt_mul_of_pos_left h3 hp
    have h5 : (2 ^ 63 - 1 : Int) < (n : Int) * ((2 ^ 63 - 1) / (n : Int) + 1) := by
      have := Int.lt_mul_ediv_self_add (x := (2 ^ 63 - 1 : Int)) hp
      rw [Int.mul_add, Int.mul_one]
      omega
    have h6 : (n : Int) * ((2 ^ 63 - 1) / (n : Int) + 1) ≤ (n : Int) * (a.length : Int) := Int.mul_le_mul_of_nonneg_left (by omega) (by omega)
    have h7 : ((n : Int) * (a.length : Int)) ≤ 1000000 := by
      have : ((n * a.length : Nat) : Int) ≤ 1000000 := by rw [Nat.mul_comm]; omega
      simpa using this
    omega
  · intro _ _
    rw [T_len, Int.toNat_natCast]
    unfold Builtin.Str.tooLong
    have : sizeLine = 16777216 := by decide
    rw [this]
    exact decide_eq_false (by omega)
section
variable {X : Cx}
theorem opr_sub {f : Value → Value → Sem Value} {r r' : R2} (h : OpR X f r) (k : ∀ x y H Q, r' x y H Q → r x y H Q) : OpR X f r' := fun pins s σ H x y v u Q I rx ry q => h pins s σ H x y v u Q I rx ry (k _ _ _ _ q)
theorem mtr_sub {id : String} {r r' : V → List V → Hp → VK → Prop} (h : MtR X id r) (k : ∀ x y H Q, r' x y H Q → r x y H Q) : MtR X id r' := by
  intro pins s σ H x xs v us Q I rx rs
  first | (intro q; exact h pins s σ H x xs v us Q I rx rs (k _ _ _ _ q)) | (intro e q; exact h pins s σ H x xs v us Q I rx rs e (k _ _ _ _ q))
theorem slr_sub {r r' : V → Option Int → Option Int → Hp → VK → Prop} (h : SlR X r) (k : ∀ x y z H Q, r' x y z H Q → r x y z H Q) : SlR X r' := by
  intro pins s σ H x v vl vu lo hi sl Q I rx hs pl pu q
  exact h pins s σ H x v vl vu lo hi sl Q I rx hs pl pu (k _ _ _ _ _ q)
theorem ixr_sub {r r' : R2} (h : IxR X r) (k : ∀ x y H Q, r' x y H Q → r x y H Q) : IxR X r' := by
  intro value slice pins s σ H x y v u Q I rx ry q hs
  exact h value slice pins s σ H x y v u Q I rx ry (k _ _ _ _ q) hs
theorem pe_strT {x : Str} {j : Nat} {pos : Pos} (l : List Nat) (h : x = T l) : PE X (.Constant (.str x) j pos) (tC (.str (T l))) := by
  subst h
  exact pe_str
theorem op_addT : OpR X (binaryOp .Add) (fun x y H Q => ∃ a b, x = .str (T a) ∧ y = .str (T b) ∧ a.length + b.length ≤ sizeLine ∧ Q (.str (T (a ++ b))) H) :=
  opr_sub op_add_str fun x y H Q ⟨a, b, ha, hb, hl, q⟩ => ⟨_, _, ha, hb, by rw [T_len, T_len]; exact hl, by rw [T_app]; exact q⟩
theorem op_mulT : OpR X (binaryOp .Mult) (fun x y H Q => ∃ (a : List Nat) (n : Nat), x = .str (T a) ∧ y = .int (n : Int) ∧ a.length * n ≤ 1000000 ∧ n < 1000000 ∧ Q (.str (T (rep n a))) H) := by
  intro pins s σ H x y v u Q I rx ry h
  obtain ⟨a, n, rfl, rfl, hl, hn, q⟩ := h
  obtain ⟨t, rfl⟩ := rx
  obtain ⟨t', rfl⟩ := ry
  refine SB.mul (mulOk_T hl hn) fun t2 k => ?_
  rw [mul_T]
  exact ⟨.str _, H, I.tok _, ⟨_, rfl⟩, q⟩
theorem op_ltT' : OpR X (compareOp .Lt) (fun x y H Q => ∃ a b, x = .str (T a) ∧ y = .str (T b) ∧ Q (.bl (decide (a < b))) H) :=
  opr_sub op_lt_str fun x y H Q ⟨a, b, ha, hb, q⟩ => ⟨_, _, ha, hb, by rw [T_list, T_list]; exact q⟩
theorem op_eqT : OpR X (compareOp .Eq) (fun x y H Q => ∃ a b, x = .str (T a) ∧ y = .str (T b) ∧ Q (.bl (decide (a = b))) H) :=
  opr_sub op_eq fun x y H Q ⟨a, b, ha, hb, q⟩ => by
    subst ha hb
    exact ⟨rfl, by rw [T_eq]; exact q⟩
theorem op_neT : OpR X (compareOp .NotEq) (fun x y H Q => ∃ a b, x = .str (T a) ∧ y = .str (T b) ∧ Q (.bl (!decide (a = b))) H) :=
  opr_sub op_ne fun x y H Q ⟨a, b, ha, hb, q⟩ => by
    subst ha hb
    exact ⟨rfl, by rw [T_eq]; exact q⟩
def CPowX (i j : Int) : Prop := 0 ≤ j ∧ ∃ k : Nat, i.natAbs < 2 ^ k ∧ (k : Int) * j ≤ 2 ^ 27
theorem op_powX : OpR X (binaryOp .Pow) (rI CPowX fun i j => .int (i ^ j.toNat)) := opI fun i j _ _ _ _ _ hc q => by
  obtain ⟨h0, k, hk, hb⟩ := hc
  refine pow_int h0 ?_ q
  have h1 := intBits_le hk
  exact Int.le_trans (Int.mul_le_mul_of_nonneg_right (by omega) h0) hb
/-! slices of texts -/
def cutL (z : List Nat) (lo hi : Option Int) : List Nat := (z.drop (HT.sIx z.length 0 lo)).take (HT.sIx z.length z.length hi - HT.sIx z.length 0 lo)
theorem cut_T (z : List Nat) (lo hi : Option Int) : cutS (T z) lo hi = T (cutL z lo hi) := by
  unfold cutS
  rw [T_list, T_len]
  rfl
theorem sl_T : SlR X (fun x lo hi H Q => ∃ z, x = .str (T z) ∧ z.length ≤ sizeLine ∧ Q (.str (T (cutL z lo hi))) H) :=
  slr_sub sl_str fun x lo hi H Q ⟨z, hz, hl, q⟩ => ⟨_, hz, by rw [T_len]; exact hl, by rw [cut_T]; exact q⟩
theorem cut_hi (z : List Nat) (k : Nat) : cutL z none (some (k : Int)) = z.take k := by
  unfold cutL
  rw [HT.sIx_none, HT.sIx_nat, List.drop_zero, Nat.sub_zero]
  by_cases h : k ≤ z.length
  · rw [Nat.min_eq_left h]
  · rw [Nat.min_eq_right (by omega), List.take_length, List.take_of_length_le (by omega)]
theorem cut_lo (z : List Nat) (k : Nat) : cutL z (some (k : Int)) none = z.drop k := by
  unfold cutL
  rw [HT.sIx_none, HT.sIx_nat]
  by_cases h : k ≤ z.length
  · rw [Nat.min_eq_left h, List.take_of_length_le (by rw [List.length_drop]; omega)]
  · rw [Nat.min_eq_right (by omega), List.drop_length, List.drop_of_length_le (by omega)]
    simp
theorem cut_both (z : List Nat) (i j : Nat) : cutL z (some (i : Int)) (some (j : Int)) = (z.drop i).take (j - i) := by
  unfold cutL
  rw [HT.sIx_nat, HT.sIx_nat]
  by_cases h : i ≤ z.length
  · rw [Nat.min_eq_left h]
    by_cases h2 : j ≤ z.length
    · rw [Nat.min_eq_left h2]
    · rw [Nat.min_eq_right (a := j) (by omega), List.take_of_length_le (by rw [List.length_drop]; omega), List.take_of_length_le (by rw [List.length_drop]; omega)]
  · rw [Nat.min_eq_right (a := i) (by omega), List.drop_length, List.drop_of_length_le (by omega)]
    simp
theorem cut_last (z : List Nat) : cutL z none (some (-1)) = z.dropLast := by
  unfold cutL
  rw [HT.sIx_none, List.drop_zero, Nat.sub_zero, List.dropLast_eq_take]
  congr 1
  unfold HT.sIx
  split
  · rename_i h; cases h
  · rename_i v h
    cases h
    first | rfl | (split <;> omega) | omega
theorem ix_T : IxR X (fun x y H Q => ∃ z i c, x = .str (T z) ∧ y = .int i ∧ z.length ≤ sizeLine ∧ atI z i = some c ∧ Q (.str (T [c])) H) :=
  ixr_sub ix_str fun x y H Q ⟨z, i, c, hx, hy, hl, ha, q⟩ => ⟨_, i, c, hx, hy, by rw [T_len]; exact hl, by rw [T_list]; exact ha, q⟩
/-! joining with nothing between -/
theorem join_nil : ∀ ys : List (List Nat), Txt.join (T []) (ys.map T) = T ys.flatten := by
  intro ys
  show Builtin.Str.glued (T []) (ys.map T) = _
  rw [StrLaws.glued_eq_join]
  induction ys with
  | nil => rfl
  | cons a r ih =>
    cases r with
    | nil => show T a = T _; rw [List.flatten_cons]; simp
    | cons b r =>
      show T a ++ T [] ++ Str.join (T []) ((b :: r).map T) = _
      rw [ih, T_app, T_app, List.append_nil, ← List.flatten_cons]
theorem sum_T (ys : List (List Nat)) : ((ys.map T).map (·.length)).sum = ys.flatten.length := by
  induction ys with
  | nil => rfl
  | cons a r ih => simp only [List.map_cons, List.sum_cons, List.flatten_cons, List.length_append, T_len] at ih ⊢; omega
theorem mt_joinT : MtR X "str.join" (fun x xs H Q => ∃ p, ∃ ys : List (List Nat), x = .str (T []) ∧ xs = [.ref p] ∧ SqL X.K H p (ys.map fun y => V.str (T y)) ∧ ys.flatten.length ≤ 1000000 ∧ Q (.str (T ys.flatten)) H) :=
  mtr_sub mt_join fun x xs H Q ⟨p, ys, hx, hxs, hs, hl, q⟩ => by
    refine ⟨_, p, ys.map T, hx, hxs, .inl (by rw [List.map_map]; exact hs), ?_, by rw [join_nil]; exact q⟩
    rw [sum_T, T_len]
    show _ + _ * 0 ≤ _
    omega
/-! places of texts -/
/-- y stands in x at i -/
def At (x y : List Nat) (i : Nat) : Prop := (x.drop i).take y.length = y ∧ i + y.length ≤ x.length
theorem subAt_T (x y : List Nat) (i : Nat) : Builtin.Str.subAt (T x) (T y) i = true ↔ (x.drop i).take y.length = y := by
  unfold Builtin.Str.subAt
  rw [T_len]
  constructor
  · intro h
    have h2 := congrArg Array.toList (eq_of_beq h)
    rw [Array.toList_extract] at h2
    have e1 : (T x).cps.toList = x := T_list x
    have e2 : (T y).cps.toList = y := T_list y
    rw [e1, e2] at h2
    rw [List.extract_eq_take_drop] at h2
    rw [show i + y.length - i = y.length by omega] at h2
    exact h2
  · intro h
    refine beq_iff_eq.mpr ?_
    apply Array.ext'
    rw [Array.toList_extract]
    have e1 : (T x).cps.toList = x := T_list x
    have e2 : (T y).cps.toList = y := T_list y
    rw [e1, e2, List.extract_eq_take_drop]
    rw [show i + y.length - i = y.length by omega]
    exact h
theorem at_T (x y : List Nat) (i : Nat) : StrLaws.At (T x) (T y) (T x).length i ↔ At x y i := by
  unfold StrLaws.At At
  rw [subAt_T, T_len, T_len]
  exact And.comm
theorem op_inT : OpR X (compareOp .In) (fun x y H Q => ∃ a b, x = .str (T a) ∧ y = .str (T b) ∧ (∀ k, (k = true ↔ ∃ i, At b a i) → Q (.bl k) H)) :=
  opr_sub op_in_str fun x y H Q ⟨a, b, ha, hb, q⟩ => ⟨_, _, ha, hb, q _ (by
    rw [StrLaws.found_iff]
    constructor
    · rintro ⟨i, h1, h2⟩; exact ⟨i, (at_T b a i).mp ⟨h1, h2⟩⟩
    · rintro ⟨i, h⟩; have := (at_T b a i).mpr h; exact ⟨i, this.1, this.2⟩)⟩
/-- x.find(y, lo) where y stands at lo or behind -/
theorem mt_findT : MtR X "str.find" (fun x xs H Q => ∃ (a b : List Nat) (lo i : Nat), x = .str (T a) ∧ xs = [.str (T b), .int (lo : Int)] ∧ lo ≤ i ∧ At a b i ∧ (∀ k, lo ≤ k → k < i → ¬ At a b k) ∧ Q (.int (i : Int)) H) :=
  mtr_sub mt_find3 fun x xs H Q ⟨a, b, lo, i, hx, hxs, h1, h2, h3, q⟩ => by
    refine ⟨_, _, _, hx, hxs, ?_⟩
    have e : Txt.find3 (T a) (T b) (lo : Int) = (i : Int) := by
      unfold Txt.find3
      have e0 : fromIndex (T a).length (lo : Int) = lo := by unfold fromIndex; split <;> omega
      rw [e0]
      rcases StrLaws.occ_head_from (T a) (T b) lo 1 (Nat.le_refl _) with ⟨_, hn⟩ | ⟨j, r, e1, e2, e3, e4⟩
      · exact absurd ((at_T a b i).mpr h2) (hn i h1)
      · rw [e1]
        have e5 := (at_T a b j).mp e3
        have : j = i := by
          rcases Nat.lt_trichotomy j i with h | h | h
          · exact absurd e5 (h3 j e2 h)
          · exact h
          · exact absurd ((at_T a b i).mpr h2) (e4 i h1 h)
        rw [this]
    rw [e]
    exact q
def Bin (l : List Nat) : Prop := ∀ c ∈ l, c = 48 ∨ c = 49
theorem strip_T {a : List Nat} (h : Bin a) : Txt.stripChars (T a) (T [48, 49]) = T [] := by
  unfold Txt.stripChars Txt.stripBy
  have tw : ∀ l : List Nat, Bin l → l.takeWhile (T [48, 49]).cps.contains = l := by
    intro l hl
    induction l with
    | nil => rfl
    | cons c r ih =>
      have hc : (T [48, 49]).cps.contains c = true := by
        rcases hl c List.mem_cons_self with rfl | rfl <;> decide +kernel
      rw [List.takeWhile_cons, if_pos hc, ih fun d hd => hl d (List.mem_cons_of_mem _ hd)]
  have lo : stripLo (T [48, 49]).cps.contains true (T a) = a.length := by
    unfold stripLo
    rw [if_pos rfl, T_list, tw a h]
  unfold stripSame stripped
  rw [lo]
  by_cases h0 : a = []
  · subst h0
    split <;> rfl
  · have h1 : (a.length == 0) = false := by
      rw [beq_eq_false_iff_ne]
      exact fun q => h0 (List.eq_nil_of_length_eq_zero q)
    rw [h1, Bool.false_and, if_neg Bool.false_ne_true]
    unfold stripHi
    rw [if_pos rfl, T_list, T_len, List.drop_length]
    unfold Builtin.Str.strSub T
    simp
theorem mt_stripT : MtR X "str.strip" (fun x xs H Q => ∃ a, x = .str (T a) ∧ xs = [.str (T [48, 49])] ∧ Bin a ∧ a.length ≤ sizeLine ∧ Q (.str (T [])) H) :=
  mtr_sub mt_stripChars fun x xs H Q ⟨a, hx, hxs, hb, hl, q⟩ => ⟨_, _, hx, hxs, by rw [T_len]; exact hl, by rw [strip_T hb]; exact q⟩
theorem call_lenT : CallR X (.builtin "len") (fun xs H Q => ∃ z, xs = [.str (T z)] ∧ z.length ≤ sizeLine ∧ Q (.int (z.length : Int)) H) := by
  intro pins s σ H xs us Q I rx h
  obtain ⟨z, e, hl, q⟩ := h
  exact call_len_str pins s σ H xs us Q I rx ⟨_, e, by rw [T_len]; exact hl, by rw [T_len]; exact q⟩
end
end HC

namespace HC
open PySem PySem.Spec PyProof.Rows L2
/-! ## calls by keywords alone -/
section
variable {X : Cx} {CX : CXT} {k : Nat} {f : Addr} {fd : FuncData} {ps ks : List Str} {sp : Sp} {E : XK} {x : Str} {p pos : Pos} {kws : List Keyword} {tk : TA} {g : List Value → List Value → List Value} {gV : List V → List V → List V}
theorem pe_callK0 (F : FnOk X.prog X.w X.K X.mg X.base CX k f fd ps sp) (hr : Room k X.A) (hg : Gl X x) (hm : X.mg x = some (.ref f)) (hk : PySem.W.keepIn X.K (.ref f) = true) (hb : KBinds X.K fd ps ks g gV) (hx : Passes CX X E)
    (hkw : PK X kws tk) (hall : (backToKw pos (keywordEach kws X.env)).all (·.1.isSome) = true := by rfl) (hks : (backToKw pos (keywordEach kws X.env)).filterMap (·.1) = ks := by rfl)
    (hdb : (x == ("__debug__" : Str)) = false := by decide)
    (hpl : ((backTo pos (starEach [] X.env)).any (·.1) || (backToKw pos (keywordEach kws X.env)).any (·.1.isNone)) = false := by rfl) :
    PE X (.Call (.Name x p) [] kws pos) (tCallK sp gV E tNil tk) := by
  refine ⟨fun pins s σ H Q I h => ?_⟩
  refine wpAny_Call_Name_kw (ld_glob I hg hm ?_ hdb)
  refine PySem.W.callWith_KW0 (h₀ := X.base) I.ok.mod.kin hk hall (thn (hkw.run pos pins s σ H _ I h) fun ws s2 ⟨zs, H2, I2, rz, q2⟩ => ⟨I2.kIn, ?_⟩) hpl
  rw [hks]
  exact run_fnk (us := []) (vs := []) F hr hb hx I2 .nil rz q2
end
/-- two keywords, the other way round -/
def swG {α : Type} (us ws : List α) : List α := match us, ws with
  | [], [a, b] => [b, a]
  | _, _ => []
theorem swRel {vs : List V} {us : List Value} {zs : List V} {ws : List Value} (r : Vals vs us) (q : Vals zs ws) : Vals (swG vs zs) (swG us ws) := by
  cases r with
  | cons => exact .nil
  | nil =>
    cases q with
    | nil => exact .nil
    | cons q1 q =>
      cases q with
      | nil => exact .nil
      | cons q2 q =>
        cases q with
        | nil => exact .cons q2 (.cons q1 .nil)
        | cons => exact .nil
theorem kb_swap {K : PySem.W.Frag} {fd : FuncData} {p q : Str} (h : ∀ a b : Value, bindArgs fd ⟨[], [(q, a), (p, b)]⟩ = pure [(p, b), (q, a)]) : KBinds K fd [p, q] [q, p] swG swG where
  to := fun s us ws _ hl => by
    match us, ws, hl with
    | [], [a, b], _ => exact .of_eq (h a b)
    | [], [], hl => simp [swG] at hl
    | [], [_], hl => simp [swG] at hl
    | [], _ :: _ :: _ :: _, hl => simp [swG] at hl
    | _ :: _, _, hl => simp [swG] at hl
  rel := swRel
/-! ## the built-ins' names are free -/
structure Blt (mg : Str → Option Value) : Prop where
  len : mg "len" = none
  abs : mg "abs" = none
  max : mg "max" = none
  min : mg "min" = none
  range : mg "range" = none
  int : mg "int" = none
  list : mg "list" = none
  sorted : mg "sorted" = none
/-! ## heaps: all but the pool stays -/
def SB (p : Addr) (H H' : Hp) : Prop := ∀ b o, H b = some o → b ≠ p → H' b = some o
theorem SB.refl {p : Addr} {H : Hp} : SB p H H := fun _ _ h _ => h
theorem SB.trans {p : Addr} {H H1 H2 : Hp} (a : SB p H H1) (b : SB p H1 H2) : SB p H H2 := fun c o h n => b c o (a c o h n) n
theorem SB.of {p : Addr} {H H' : Hp} (s : Same H H') : SB p H H' := fun c o h _ => s c o h
theorem SB.upd {p : Addr} {H : Hp} {o : HO} : SB p H (upd H p o) := fun c u h n => by rw [upd_ne n]; exact h
theorem Same.new {H : Hp} {q : Addr} {o : HO} (hq : H q = none) : Same H (upd H q o) := fun c u h => by rw [upd_ne (ne_of_none h hq)]; exact h
/-- the pool of numbers that a law draws from, n of them drawn at most -/
def PoolAt (H : Hp) (p : Addr) (n : Nat) : Prop := ∃ (a b : Int) (c : Nat), H p = some (.lst [.int a, .int b, .int (c : Int)]) ∧ 0 ≤ a ∧ 0 ≤ b ∧ b < 2 ^ 62 ∧ c ≤ n
theorem PoolAt.mono {H : Hp} {p : Addr} {n m : Nat} (h : PoolAt H p n) (k : n ≤ m) : PoolAt H p m := by
  obtain ⟨a, b, c, h1, h2, h3, h4, h5⟩ := h
  exact ⟨a, b, c, h1, h2, h3, h4, Nat.le_trans h5 k⟩
theorem PoolAt.same {H H' : Hp} {p : Addr} {n : Nat} (h : PoolAt H p n) (s : Same H H') : PoolAt H' p n := by
  obtain ⟨a, b, c, h1, h2, h3, h4, h5⟩ := h
  exact ⟨a, b, c, s _ _ h1, h2, h3, h4, h5⟩
theorem PoolAt.new {H : Hp} {p q : Addr} {n : Nat} {o : HO} (h : PoolAt H p n) (hq : H q = none) : PoolAt (L2.upd H q o) p n := h.same (Same.new hq)
theorem PoolAt.ne {H : Hp} {p q : Addr} {n : Nat} (h : PoolAt H p n) (hq : H q = none) : q ≠ p := by
  obtain ⟨a, b, c, h1, _⟩ := h
  exact (ne_of_none h1 hq).symm
/-- a moment as a tuple -/
def MomAt (H : Hp) (t : Addr) (h r : List Nat) : Prop := H t = some (.tup [.str (T h), .str (T r)])
theorem MomAt.sb {H H' : Hp} {t p : Addr} {h r : List Nat} {n : Nat} (m : MomAt H t h r) (P : PoolAt H p n) (s : SB p H H') : MomAt H' t h r := by
  obtain ⟨a, b, c, h1, _⟩ := P
  exact s _ _ m (ne_of m h1 (by intro z; cases z))
theorem MomAt.same {H H' : Hp} {t : Addr} {h r : List Nat} (m : MomAt H t h r) (s : Same H H') : MomAt H' t h r := s _ _ m
theorem MomAt.new {H : Hp} {t q : Addr} {h r : List Nat} {o : HO} (m : MomAt H t h r) (hq : H q = none) : MomAt (L2.upd H q o) t h r := m.same (Same.new hq)
theorem atI_of {α : Type} {xs : List α} {i : Nat} {x : α} (h : xs[i]? = some x) : atI xs (i : Int) = some x := atI_nat h
/-! ## data of texts -/
def Cod (l : List Nat) : Prop := ∀ c ∈ l, c < 1114112
theorem Bin.cod {l : List Nat} (h : Bin l) : Cod l := fun c hc => by rcases h c hc with e | e <;> omega
theorem strOk_T {l : List Nat} (h : Cod l) : PyData.strOk (T l) = true := by
  unfold PyData.strOk T
  simp only [List.all_toArray, List.all_eq_true, decide_eq_true_eq]
  exact h
/-! ## promises of what draws -/
def spPool (K : PySem.W.Frag) : Sp := fun vs H Q _ => ∃ (a : Addr) (ns : List Int) (i : Nat), vs = [.ref a, .int (i : Int)] ∧ SqL K H a (ns.map V.int) ∧ i ≤ 1000 ∧
  ∀ H' p, Same H H' → H p = none → PoolAt H' p 0 → Q (.ref p) H'
def spDraw : Sp := fun vs H Q _ => ∃ (p : Addr) (m n : Nat), vs = [.ref p, .int (m : Int)] ∧ PoolAt H p n ∧ n < 2 ^ 30 ∧ 0 < m ∧ m < 2 ^ 200 ∧
  ∀ H' (r : Nat), SB p H H' → PoolAt H' p (n + 1) → r < m → Q (.int (r : Int)) H'
end HC

namespace HC
open PySem PySem.Spec PyProof.Rows L2
/-! ## ranges of great numbers -/
theorem long_turn {P : Program} {w : World} {K : PySem.W.Frag} {tg : Expr} (j : Addr) (lo : Int) (n : Nat) :
    Turn P w K tg (Itr lo n) [j] j (fun m h => IsLongIter h j (lo + (m : Nat) * 1) ((n : Int) - (m : Nat)) 1) where
  mem := List.mem_singleton.mpr rfl
  obj := fun m h st b hb => by
    obtain rfl : b = j := List.mem_singleton.mp hb
    exact ⟨_, st, fun c z => by
      have z2 : Data.fields _ = Data.cell c := z
      cases z2⟩
  keep := fun m h h2 st kk => kk j (List.mem_singleton.mpr rfl) _ st
  item := by
    intro Y e1 e2 e3 cm m pn s0 τ G F J fp st go
    subst e1 e2 e3
    obtain ⟨f0, f1, f2, f3, f4, f5⟩ := fp j (List.mem_singleton.mpr rfl)
    refine (Walks.longrange (prog := Y.prog) (w := Y.w) (J.ok.hd cm) j lo 1 n).item m s0 _ _ go st fun v h2 tk hv st2 kk => ?_
    obtain ⟨t, rfl⟩ := hv
    have J2 : L2.Inv Y pn τ G { s0 with heap := h2, toks := tk } := J.turned (fun b o hb e => kk b o (fun q => hb (List.mem_singleton.mp q)) e) f0 f1 f3 f4 f5
    refine ⟨_, rfl, go_of (s := { s0 with heap := h2, toks := tk }) (n := "longrange_iterator") st2 rfl rfl (by decide) ⟨.int (lo + m), G, J2, ⟨t, ?_⟩, ⟨rfl, rfl⟩, st2, fun b hb => (fp b hb).1⟩⟩
    rw [Int.mul_one]
  done := by
    intro Y e1 e2 e3 cm m pn s0 τ G F J fp st go
    subst e1 e2 e3
    obtain ⟨f0, f1, f2, f3, f4, f5⟩ := fp j (List.mem_singleton.mpr rfl)
    have go2 : n ≤ m := go
    exact wpAny_pyNext_long_end (J.ok.hd cm) st (by omega) fun h2 eb => ⟨rfl, J.turned (t' := s0.toks) (fun b o hb e => eb b o hb e) f0 f1 f3 f4 f5⟩
  self := fun _ _ _ _ _ st q => wpAny_pyIter_longiter st q
section
variable {X : Cx} {tg : Expr}
/-- range(a, b), both of any size -/
def iRngL (ta : TA) : TI := fun σ H R => ta σ H fun vs H1 => ∃ i j : Int, vs = [.int i, .int j] ∧ R (Itr i (j - i).toNat) H1
theorem long_it {pn : List (Addr × Obj)} {σ : L2.St} {H : Hp} {s : Shared} {R : It → Hp → Prop} {E : Value → Shared → Prop} {lo hi : Int} {t u v : Tok} {tk : Nat} (I : L2.Inv X pn σ H s) (q : R (Itr lo (hi - lo).toNat) H) :
    wpAny (model X.prog X.w) X.A (pyIter (.ref s.heap.objs.size)) (PIE X pn σ tg R) E { s with heap := s.heap.push { cls := .type "range", data := .fields #[.int lo t, .int hi u, .int 1 v] }, toks := tk } := by
  have J1 : L2.Inv X pn σ H { s with heap := s.heap.push { cls := .type "range", data := .fields #[.int lo t, .int hi u, .int 1 v] }, toks := tk } := I.kept fun b o e => Heap.get?_push_of_some _ e
  have e1 : lo + ((0 : Nat) : Int) * 1 = lo := by simp
  have e2 : (((hi - lo).toNat : Nat) : Int) - ((0 : Nat) : Int) = Builtin.Range.rangeSize lo hi 1 := by rw [rangeSize_one]; split <;> omega
  by_cases c : Builtin.Range.small lo hi 1 = true
  · refine wpAny_pyIter_range (IsRange.new ..) c ?_
    refine ⟨_, [_], _, _, H, rfl, J1.kept (t' := tk) fun b o e => Heap.get?_push_of_some _ e, turn_range _ lo (hi - lo).toNat, ?_, fun b hb => ?_, q⟩
    · show IsRangeIter _ _ (lo + ((0 : Nat) : Int) * 1) ((((hi - lo).toNat : Nat) : Int) - ((0 : Nat) : Int)) 1
      rw [e1, e2]
      exact Heap.get?_push_size _ rfl
    · obtain rfl := List.mem_singleton.mp hb
      exact J1.fpOk (Nat.le_refl _) (J1.hok.fresh (Nat.le_refl _))
  · refine wpAny_pyIter_longrange (IsRange.new ..) (by simpa using c) ?_
    refine ⟨_, [_], _, _, H, rfl, J1.kept (t' := tk) fun b o e => Heap.get?_push_of_some _ e, long_turn _ lo (hi - lo).toNat, ?_, fun b hb => ?_, q⟩
    · show IsLongIter _ _ (lo + ((0 : Nat) : Int) * 1) ((((hi - lo).toNat : Nat) : Int) - ((0 : Nat) : Int)) 1
      rw [e1, e2]
      exact Heap.get?_push_size _ rfl
    · obtain rfl := List.mem_singleton.mp hb
      exact J1.fpOk (Nat.le_refl _) (J1.hok.fresh (Nat.le_refl _))
theorem pi_rangeL {a b : Expr} {ta : TA} {p pos : Pos} (hg : Gl X "range") (hm : X.mg "range" = none) (ha : PA X [a, b] ta) (g1 : starEach [a, b] X.env = [(false, eval a X.env), (false, eval b X.env)] := by rfl) (g2 : starEach [b] X.env = [(false, eval b X.env)] := by rfl) :
    PI X tg (.Call (.Name "range" p) [a, b] [] pos) (iRngL ta) := by
  refine ⟨fun pn s σ H R I h => ?_⟩
  refine Call_ (ld_blt I hg hm boot_range (PyProof.Rows.callWith_type1 (thn (ha.run pos pn s σ H _ I h) fun us s1 ⟨vs, H1, I1, r1, q1⟩ => ?_) (by rw [g1, g2]) (by rw [g2]; rfl)))
  obtain ⟨i, j, e, q⟩ := q1
  subst e
  cases r1 with | cons ra rb => cases rb with | cons rc rd =>
    cases rd
    obtain ⟨ta1, rfl⟩ := ra
    obtain ⟨tb1, rfl⟩ := rc
    exact call_range_2 (long_it I1 q)
end
end HC

namespace HC
open PySem PySem.Spec PyProof.Rows L2
/-! ## sequences -/
theorem tYes_if {σ : L2.St} {H : Hp} {A B : Hp → Prop} (h : A H) : tYes σ H fun b H3 => if b = true then A H3 else B H3 := by
  show if true = true then A H else B H
  rw [if_pos rfl]
  exact h
/-- the signs of a ring, for ever -/
def cyc (r : List Nat) (i : Nat) : Nat := r.getD (i % r.length) 0
def val (h r : List Nat) (i : Nat) : Nat := if i < h.length then h.getD i 0 else cyc r (i - h.length)
/-- the first signs of a moment -/
def sg (h r : List Nat) (n : Nat) : List Nat := (h ++ rep (n / r.length + 1) r).take n
def L (n : Nat) (f : Nat → Nat) : List Nat := (List.range n).map f
theorem L_len (n : Nat) (f : Nat → Nat) : (L n f).length = n := by unfold L; simp
theorem L_get {n : Nat} {f : Nat → Nat} {i : Nat} (h : i < n) : (L n f)[i]? = some (f i) := by
  unfold L
  rw [List.getElem?_map, List.getElem?_range h]
  rfl
theorem L_ext {n : Nat} {f : Nat → Nat} {l : List Nat} (h1 : l.length = n) (h2 : ∀ i, i < n → l[i]? = some (f i)) : l = L n f := by
  apply List.ext_getElem?
  intro i
  by_cases h : i < n
  · rw [h2 i h, L_get h]
  · rw [List.getElem?_eq_none (by omega), List.getElem?_eq_none (by rw [L_len]; omega)]
theorem L_eq {n : Nat} {f g : Nat → Nat} : L n f = L n g ↔ ∀ i, i < n → f i = g i := by
  constructor
  · intro h i hi
    have := L_get (f := f) hi
    rw [h, L_get hi] at this
    exact (Option.some.inj this).symm
  · intro h
    exact L_ext (L_len n f) fun i hi => by rw [L_get hi, h i hi]
theorem cyc_get {r : List Nat} (hr : 1 ≤ r.length) (i : Nat) : r[i % r.length]? = some (cyc r i) := by
  have : i % r.length < r.length := Nat.mod_lt _ hr
  unfold cyc
  rw [List.getD_eq_getElem?_getD, List.getElem?_eq_getElem this]
  rfl
theorem cyc_lt {r : List Nat} {i : Nat} (h : i < r.length) : r[i]? = some (cyc r i) := by
  have := cyc_get (r := r) (by omega) i
  rwa [Nat.mod_eq_of_lt h] at this
theorem cyc_add (r : List Nat) (i : Nat) : cyc r (i + r.length) = cyc r i := by
  unfold cyc
  rw [Nat.add_mod_right]
theorem cyc_mul (r : List Nat) (i k : Nat) : cyc r (i + k * r.length) = cyc r i := by
  unfold cyc
  rw [Nat.add_mul_mod_self_right]
theorem cyc_mod (r : List Nat) (i : Nat) : cyc r (i % r.length) = cyc r i := by
  unfold cyc
  rw [Nat.mod_mod]
theorem rep_get {r : List Nat} : ∀ {n i : Nat}, i < n * r.length → (rep n r)[i]? = some (cyc r i)
  | 0, i, h => by simp at h
  | n + 1, i, h => by
    rw [rep_succ]
    by_cases hi : i < r.length
    · rw [List.getElem?_append_left hi]
      exact cyc_lt hi
    · rw [List.getElem?_append_right (by omega)]
      rw [Nat.succ_mul] at h
      rw [rep_get (n := n) (i := i - r.length) (by omega)]
      have : i = (i - r.length) + r.length := by omega
      rw [this, cyc_add, Nat.add_sub_cancel]
theorem sg_eq {h r : List Nat} (hr : 1 ≤ r.length) (n : Nat) : sg h r n = L n (val h r) := by
  have h0 : n < (n / r.length + 1) * r.length := by
    have := Nat.lt_div_mul_add (a := n) (show 0 < r.length by omega)
    rw [Nat.succ_mul]; omega
  apply L_ext
  · unfold sg
    rw [List.length_take, List.length_append, rep_len]
    omega
  · intro i hi
    unfold sg val
    rw [List.getElem?_take_of_lt hi]
    by_cases h1 : i < h.length
    · rw [List.getElem?_append_left h1, if_pos h1, List.getD_eq_getElem?_getD, List.getElem?_eq_getElem h1]
      rfl
    · rw [List.getElem?_append_right (by omega), if_neg h1]
      exact rep_get (by omega)
/-- two sequences that repeat, alike for as long as both rings together -/
theorem wilf {f g : Nat → Nat} {a p q : Nat} (hp : 1 ≤ p) (hq : 1 ≤ q) (hf : ∀ i, a ≤ i → f (i + p) = f i) (hg : ∀ i, a ≤ i → g (i + q) = g i) (h : ∀ i, i < a + p + q → f i = g i) : ∀ i, f i = g i := by
  intro i
  induction i using Nat.strongRecOn with
  | _ i ih =>
    by_cases hi : i < a + p + q
    · exact h i hi
    · have e1 : f i = f (i - p) := by have := hf (i - p) (by omega); rwa [Nat.sub_add_cancel (by omega)] at this
      have e2 : g (i - p) = g (i - p - q) := by have := hg (i - p - q) (by omega); rwa [Nat.sub_add_cancel (by omega)] at this
      have e3 : f (i - q) = f (i - q - p) := by have := hf (i - q - p) (by omega); rwa [Nat.sub_add_cancel (by omega)] at this
      have e4 : g i = g (i - q) := by have := hg (i - q) (by omega); rwa [Nat.sub_add_cancel (by omega)] at this
      have e5 : i - p - q = i - q - p := by omega
      rw [e1, ih (i - p) (by omega), e2, e5, ← ih (i - q - p) (by omega), ← e3, ih (i - q) (by omega), e4]
theorem val_per (h r : List Nat) {a i : Nat} (ha : h.length ≤ a) (hi : a ≤ i) : val h r (i + r.length) = val h r i := by
  unfold val
  rw [if_neg (by omega), if_neg (by omega)]
  have : i + r.length - h.length = (i - h.length) + r.length := by omega
  rw [this, cyc_add]
/-- the order by the first place that differs -/
theorem L_lt : ∀ {n : Nat} {f g : Nat → Nat}, L n f < L n g ↔ ∃ i, i < n ∧ (∀ j, j < i → f j = g j) ∧ f i < g i
  | 0, f, g => by
    constructor
    · intro h
      exact absurd h (List.lt_irrefl _)
    · rintro ⟨i, h, _⟩
      omega
  | n + 1, f, g => by
    have e : ∀ k : Nat → Nat, L (n + 1) k = k 0 :: L n (fun i => k (i + 1)) := fun k => by
      unfold L
      rw [List.range_succ_eq_map, List.map_cons, List.map_map]
      rfl
    rw [e f, e g, List.cons_lt_cons_iff, L_lt (n := n)]
    constructor
    · rintro (h | ⟨h, i, h1, h2, h3⟩)
      · exact ⟨0, by omega, fun j hj => by omega, h⟩
      · refine ⟨i + 1, by omega, fun j hj => ?_, h3⟩
        cases j with
        | zero => exact h
        | succ j => exact h2 j (by omega)
    · rintro ⟨i, h1, h2, h3⟩
      cases i with
      | zero => exact .inl h3
      | succ i => exact .inr ⟨h2 0 (by omega), i, by omega, fun j hj => h2 (j + 1) (by omega), h3⟩
/-- the sequence is ahead of the other -/
def Bef (f g : Nat → Nat) : Prop := ∃ i, (∀ j, j < i → f j = g j) ∧ f i < g i
theorem bef_iff {h1 r1 h2 r2 : List Nat} {m : Nat} (k1 : 1 ≤ r1.length) (k2 : 1 ≤ r2.length) (hm : max h1.length h2.length + r1.length + r2.length ≤ m) : sg h1 r1 m < sg h2 r2 m ↔ Bef (val h1 r1) (val h2 r2) := by
  rw [sg_eq k1, sg_eq k2, L_lt]
  constructor
  · rintro ⟨i, _, h⟩
    exact ⟨i, h⟩
  · rintro ⟨i, h3, h4⟩
    by_cases hi : i < m
    · exact ⟨i, hi, h3, h4⟩
    · have := wilf (a := max h1.length h2.length) k1 k2 (fun i hi => val_per h1 r1 (Nat.le_max_left _ _) hi) (fun i hi => val_per h2 r2 (Nat.le_max_right _ _) hi) (fun j hj => h3 j (by omega)) i
      omega
/-! ## rings that are turned -/
def Tail (a b : List Nat) : Prop := ∃ s, ∀ i, cyc a i = cyc b (i + s)
theorem Tail.refl (a : List Nat) : Tail a a := ⟨0, fun _ => rfl⟩
theorem Tail.symm {a b : List Nat} (hb : 1 ≤ b.length) (h : Tail a b) : Tail b a := by
  obtain ⟨s, h⟩ := h
  refine ⟨s * (b.length - 1), fun i => ?_⟩
  rw [h]
  have : i + s * (b.length - 1) + s = i + s * b.length := by
    have : s * b.length = s * (b.length - 1) + s := by
      conv => lhs; rw [show b.length = (b.length - 1) + 1 by omega]
      rw [Nat.mul_succ]
    omega
  rw [this, cyc_mul]
def Inv (r : List Nat) (k : Nat) : Prop := ∀ i, cyc r (i + k) = cyc r i
theorem dbl_get {r : List Nat} {i : Nat} (h : i < r.length + r.length) : (r ++ r)[i]? = some (cyc r i) := by
  by_cases h1 : i < r.length
  · rw [List.getElem?_append_left h1, cyc_lt h1]
  · rw [List.getElem?_append_right (by omega), cyc_lt (by omega)]
    have : i = (i - r.length) + r.length := by omega
    rw [this, cyc_add, Nat.add_sub_cancel]
/-- b stands in a, written twice, at k -/
theorem at_cyc {a b : List Nat} {k : Nat} (hk : k + b.length ≤ a.length + a.length) : At (a ++ a) b k ↔ ∀ i, i < b.length → cyc a (i + k) = cyc b i := by
  unfold At
  constructor
  · rintro ⟨h, _⟩ i hi
    have e : (((a ++ a).drop k).take b.length)[i]? = b[i]? := by rw [h]
    rw [List.getElem?_take_of_lt hi, List.getElem?_drop, dbl_get (by omega), cyc_lt hi, Nat.add_comm k i] at e
    exact Option.some.inj e
  · intro h
    refine ⟨?_, by rw [List.length_append]; exact hk⟩
    apply List.ext_getElem?
    intro i
    by_cases hi : i < b.length
    · rw [List.getElem?_take_of_lt hi, List.getElem?_drop, dbl_get (by omega), cyc_lt hi, Nat.add_comm k i, h i hi]
    · rw [List.getElem?_eq_none (by rw [List.length_take]; omega), List.getElem?_eq_none (by omega)]
theorem at_inv {r : List Nat} {k : Nat} (hr : 1 ≤ r.length) (hk : k ≤ r.length) : At (r ++ r) r k ↔ Inv r k := by
  rw [at_cyc (by omega)]
  constructor
  · intro h i
    have := h (i % r.length) (Nat.mod_lt _ hr)
    rw [cyc_mod] at this
    rw [← this]
    conv => lhs; rw [← Nat.mod_add_div i r.length]
    rw [Nat.mul_comm, show i % r.length + i / r.length * r.length + k = i % r.length + k + i / r.length * r.length by omega, cyc_mul]
  · intro h i _
    exact h i
/-- the shortest ring's length -/
structure Per (r : List Nat) (k : Nat) : Prop where
  pos : 1 ≤ k
  le : k ≤ r.length
  inv : Inv r k
  least : ∀ j, 1 ≤ j → j < k → ¬ Inv r j
theorem per_exists {r : List Nat} (hr : 1 ≤ r.length) : ∃ k, Per r k := by
  have key : ∀ n, (∃ k, k ≤ n ∧ 1 ≤ k ∧ Inv r k) → ∃ k, k ≤ n ∧ 1 ≤ k ∧ Inv r k ∧ ∀ j, 1 ≤ j → j < k → ¬ Inv r j := by
    intro n
    induction n with
    | zero =>
      rintro ⟨k, h1, h2, _⟩
      omega
    | succ n ih =>
      rintro ⟨k, h1, h2, h3⟩
      by_cases c : ∃ k, k ≤ n ∧ 1 ≤ k ∧ Inv r k
      · obtain ⟨k, a1, a2⟩ := ih c
        exact ⟨k, by omega, a2⟩
      · have : k = n + 1 := Classical.byContradiction fun hn => c ⟨k, by omega, h2, h3⟩
        subst this
        exact ⟨n + 1, Nat.le_refl _, h2, h3, fun j j1 j2 hj => c ⟨j, by omega, j1, hj⟩⟩
  obtain ⟨k, h1, h2, h3, h4⟩ := key r.length ⟨r.length, Nat.le_refl _, hr, cyc_add r⟩
  exact ⟨k, h2, h1, h3, h4⟩
theorem inv_mul {r : List Nat} {k : Nat} (h : Inv r k) (m i : Nat) : cyc r (i + m * k) = cyc r i := by
  induction m with
  | zero => rw [Nat.zero_mul, Nat.add_zero]
  | succ m ih => rw [Nat.succ_mul, ← Nat.add_assoc, h, ih]
theorem inv_mod {r : List Nat} {k : Nat} (h : Inv r k) (i : Nat) : cyc r (i % k) = cyc r i := by
  conv => rhs; rw [← Nat.mod_add_div i k, Nat.mul_comm, inv_mul h]
theorem Per.len {r : List Nat} {k : Nat} (p : Per r k) : (r.take k).length = k := by rw [List.length_take]; have := p.le; omega
theorem Per.cyc {r : List Nat} {k : Nat} (p : Per r k) (i : Nat) : cyc (r.take k) i = cyc r i := by
  have hk : i % k < k := Nat.mod_lt _ p.pos
  have h1 := cyc_get (r := r.take k) (by rw [p.len]; exact p.pos) i
  rw [p.len, List.getElem?_take_of_lt hk, cyc_lt (by have := p.le; omega), inv_mod p.inv] at h1
  exact (Option.some.inj h1).symm
theorem inv_tail {a b : List Nat} {k : Nat} (t : Tail a b) (h : Inv b k) : Inv a k := by
  obtain ⟨s, t⟩ := t
  intro i
  rw [t, t, show i + k + s = i + s + k by omega, h]
theorem per_tail {a b : List Nat} {j k : Nat} (hb : 1 ≤ b.length) (t : Tail a b) (p : Per a j) (q : Per b k) : j = k := by
  rcases Nat.lt_trichotomy j k with h | h | h
  · exact absurd (inv_tail (t.symm hb) p.inv) (q.least j p.pos h)
  · exact h
  · exact absurd (inv_tail t q.inv) (p.least k q.pos h)
/-- what the program asks is that the tails are one -/
theorem tail_iff {a b : List Nat} {j k : Nat} (hb : 1 ≤ b.length) (p : Per a j) (q : Per b k) : ((a.take j).length = (b.take k).length ∧ ∃ i, At (a.take j ++ a.take j) (b.take k) i) ↔ Tail a b := by
  rw [p.len, q.len]
  constructor
  · rintro ⟨rfl, i, h⟩
    have hi : i + (b.take j).length ≤ (a.take j).length + (a.take j).length := by have := h.2; rwa [List.length_append] at this
    have h2 := (at_cyc hi).mp h
    have ha : 1 ≤ a.length := by have := p.le; have := p.pos; omega
    refine Tail.symm ha ⟨i, fun m => ?_⟩
    have h3 := h2 (m % j) (by rw [q.len]; exact Nat.mod_lt _ p.pos)
    rw [q.cyc, inv_mod q.inv, p.cyc] at h3
    rw [← h3]
    conv => rhs; rw [← Nat.mod_add_div m j, Nat.mul_comm, show m % j + m / j * j + i = m % j + i + m / j * j by omega, inv_mul p.inv]
  · intro t
    have e := per_tail hb t p q
    subst e
    refine ⟨rfl, ?_⟩
    obtain ⟨s, hs⟩ := t.symm hb
    refine ⟨s % j, (at_cyc ?_).mpr ?_⟩
    · rw [p.len, q.len]
      have := Nat.mod_lt s p.pos
      omega
    · intro i _
      rw [p.cyc, q.cyc, hs]
      conv => rhs; rw [← Nat.mod_add_div s j, Nat.mul_comm, ← Nat.add_assoc, inv_mul p.inv]
theorem rot_cyc {r : List Nat} {s : Nat} (hr : 1 ≤ r.length) (hs : s ≤ r.length) (i : Nat) : cyc (r.drop s ++ r.take s) i = cyc r (i + s) := by
  have hl : (r.drop s ++ r.take s).length = r.length := by rw [List.length_append, List.length_drop, List.length_take]; omega
  have h1 := cyc_get (r := r.drop s ++ r.take s) (by omega) i
  rw [hl] at h1
  have hm : i % r.length < r.length := Nat.mod_lt _ hr
  have key : ∀ m, m < r.length → (r.drop s ++ r.take s)[m]? = some (cyc r (m + s)) := by
    intro m hm
    by_cases c : m < r.length - s
    · rw [List.getElem?_append_left (by rw [List.length_drop]; exact c), List.getElem?_drop, Nat.add_comm s m, cyc_lt (by omega)]
    · rw [List.getElem?_append_right (by rw [List.length_drop]; omega), List.length_drop, List.getElem?_take_of_lt (by omega), cyc_lt (by omega)]
      have : m + s = (m - (r.length - s)) + r.length := by omega
      rw [this, cyc_add]
  rw [key _ hm] at h1
  have h2 := Option.some.inj h1
  rw [← h2]
  conv => rhs; rw [← Nat.mod_add_div i r.length, Nat.mul_comm, show i % r.length + i / r.length * r.length + s = i % r.length + s + i / r.length * r.length by omega, cyc_mul]
/-- what the law asks, too -/
theorem turn_iff {a b : List Nat} (ha : 1 ≤ a.length) (hb : 1 ≤ b.length) (h : a.length + b.length ≤ 150) : (∃ s, s < b.length ∧ sg [] a 150 = sg [] (b.drop s ++ b.take s) 150) ↔ Tail a b := by
  have hv : ∀ r : List Nat, val [] r = cyc r := fun r => by
    funext i
    unfold val
    rw [if_neg (by simp)]
    rfl
  constructor
  · rintro ⟨s, hs, e⟩
    have hl : (b.drop s ++ b.take s).length = b.length := by rw [List.length_append, List.length_drop, List.length_take]; omega
    rw [sg_eq ha, sg_eq (by omega), hv, hv, L_eq] at e
    refine ⟨s, wilf (a := 0) ha hb (fun i _ => cyc_add a i) (fun i _ => ?_) (fun i hi => ?_)⟩
    · rw [show i + b.length + s = i + s + b.length by omega, cyc_add]
    · rw [e i (by omega), rot_cyc hb (by omega)]
  · rintro ⟨s, hs⟩
    have hm : s % b.length < b.length := Nat.mod_lt _ hb
    have hl : (b.drop (s % b.length) ++ b.take (s % b.length)).length = b.length := by rw [List.length_append, List.length_drop, List.length_take]; omega
    refine ⟨s % b.length, hm, ?_⟩
    rw [sg_eq ha, sg_eq (by omega), hv, hv, L_eq]
    intro i _
    rw [hs, rot_cyc hb (by omega)]
    conv => lhs; rw [← Nat.mod_add_div s b.length, Nat.mul_comm, ← Nat.add_assoc, cyc_mul]
end HC

namespace HC
open PySem PySem.Spec PyProof.Rows L2
/-! ## the plain form of a sequence -/
def CC (s : Nat → Nat) (b k : Nat) : Prop := ∀ i, b ≤ i → s (i + k) = s i
structure PlainS (s : Nat → Nat) (b k : Nat) : Prop where
  pos : 1 ≤ k
  c : CC s b k
  kmin : ∀ b2 k2, 1 ≤ k2 → CC s b2 k2 → k ≤ k2
  bmin : ∀ b2, CC s b2 k → b ≤ b2
theorem PlainS.uniq {s : Nat → Nat} {b k b2 k2 : Nat} (p : PlainS s b k) (q : PlainS s b2 k2) : b = b2 ∧ k = k2 := by
  have e : k = k2 := Nat.le_antisymm (p.kmin b2 k2 q.pos q.c) (q.kmin b k p.pos p.c)
  subst e
  exact ⟨Nat.le_antisymm (p.bmin b2 q.c) (q.bmin b p.c), rfl⟩
/-- the ring, run backwards, too -/
def EE (h r : List Nat) (k i : Nat) : Nat := cyc r (i + h.length * (k - 1))
theorem EE_per {h r : List Nat} {k : Nat} (p : Per r k) (i : Nat) : EE h r k (i + k) = EE h r k i := by
  unfold EE
  rw [show i + k + h.length * (k - 1) = i + h.length * (k - 1) + k by omega, p.inv]
theorem val_EE {h r : List Nat} {k : Nat} (p : Per r k) {i : Nat} (hi : h.length ≤ i) : val h r i = EE h r k i := by
  unfold val EE
  rw [if_neg (by omega)]
  have e : h.length * k = h.length * (k - 1) + h.length := by
    have := p.pos
    conv => lhs; rw [show k = (k - 1) + 1 by omega]
    rw [Nat.mul_succ]
  have : i + h.length * (k - 1) = (i - h.length) + h.length * k := by omega
  rw [this, inv_mul p.inv]
theorem CC_iff {h r : List Nat} {k b : Nat} (p : Per r k) (hb : b ≤ h.length) : CC (val h r) b k ↔ ∀ i, b ≤ i → i < h.length → val h r i = EE h r k i := by
  constructor
  · intro c i h1 h2
    have key : ∀ t, val h r (i + t * k) = val h r i := by
      intro t
      induction t with
      | zero => rw [Nat.zero_mul, Nat.add_zero]
      | succ t ih => rw [Nat.succ_mul, ← Nat.add_assoc, c _ (by omega), ih]
    have key2 : ∀ t, EE h r k (i + t * k) = EE h r k i := by
      intro t
      induction t with
      | zero => rw [Nat.zero_mul, Nat.add_zero]
      | succ t ih => rw [Nat.succ_mul, ← Nat.add_assoc, EE_per p, ih]
    have hk := p.pos
    have : h.length ≤ i + h.length * k := by
      have : h.length * 1 ≤ h.length * k := Nat.mul_le_mul_left _ hk
      omega
    rw [← key h.length, val_EE p this, key2]
  · intro c i hi
    have e : ∀ j, b ≤ j → val h r j = EE h r k j := fun j hj => by
      by_cases h2 : j < h.length
      · exact c j hj h2
      · exact val_EE p (by omega)
    rw [e _ (by omega), e _ hi, EE_per p]
theorem plain_of {h r : List Nat} {k b : Nat} (p : Per r k) (hb : b ≤ h.length) (hc : ∀ i, b ≤ i → i < h.length → val h r i = EE h r k i) (hm : b = 0 ∨ val h r (b - 1) ≠ EE h r k (b - 1)) : PlainS (val h r) b k := by
  have hr : 1 ≤ r.length := Nat.le_trans p.pos p.le
  refine ⟨p.pos, (CC_iff p hb).mpr hc, fun b2 k2 h1 c => ?_, fun b2 c => ?_⟩
  · have iv : Inv r k2 := by
      intro j
      have hbn : b2 ≤ b2 * r.length := by have := Nat.mul_le_mul_left b2 hr; omega
      have := c (h.length + j + b2 * r.length) (by omega)
      unfold val at this
      rw [if_neg (by omega), if_neg (by omega), show h.length + j + b2 * r.length + k2 - h.length = j + k2 + b2 * r.length by omega, show h.length + j + b2 * r.length - h.length = j + b2 * r.length by omega, cyc_mul, cyc_mul] at this
      exact this
    exact Nat.le_of_not_lt fun q => p.least k2 h1 q iv
  · refine Nat.le_of_not_lt fun q => ?_
    rcases hm with e | e
    · omega
    · exact e ((CC_iff p (by omega)).mp c (b - 1) (by omega) (by omega))
theorem plain_exists {h r : List Nat} {k : Nat} (p : Per r k) : ∃ b, b ≤ h.length ∧ PlainS (val h r) b k := by
  have key : ∀ n b, b ≤ h.length → b ≤ n → (∀ i, b ≤ i → i < h.length → val h r i = EE h r k i) → ∃ b, b ≤ h.length ∧ PlainS (val h r) b k := by
    intro n
    induction n with
    | zero =>
      intro b h1 h2 hc
      exact ⟨b, h1, plain_of p h1 hc (.inl (by omega))⟩
    | succ n ih =>
      intro b h1 h2 hc
      by_cases e : b = 0
      · exact ⟨b, h1, plain_of p h1 hc (.inl e)⟩
      · by_cases e2 : val h r (b - 1) = EE h r k (b - 1)
        · refine ih (b - 1) (by omega) (by omega) fun i a1 a2 => ?_
          by_cases e3 : i = b - 1
          · rw [e3, e2]
          · exact hc i (by omega) a2
        · exact ⟨b, h1, plain_of p h1 hc (.inr e2)⟩
  exact key h.length h.length (Nat.le_refl _) (Nat.le_refl _) fun i h1 h2 => by omega
theorem PlainS.le {h r : List Nat} {b k : Nat} (hr : 1 ≤ r.length) (q : PlainS (val h r) b k) : b ≤ h.length ∧ Per r k := by
  obtain ⟨k2, p⟩ := per_exists hr
  obtain ⟨b2, h1, q2⟩ := plain_exists (h := h) p
  obtain ⟨e1, e2⟩ := q.uniq q2
  subst e1 e2
  exact ⟨h1, p⟩
/-- the plain form as texts -/
def pH (s : Nat → Nat) (b : Nat) : List Nat := L b s
def pR (s : Nat → Nat) (b k : Nat) : List Nat := L k fun m => s (b + m)
theorem L_take {n m : Nat} {s : Nat → Nat} (h : m ≤ n) : (L n s).take m = L m s := by
  apply L_ext
  · rw [List.length_take, L_len]; omega
  · intro i hi
    rw [List.getElem?_take_of_lt hi, L_get (by omega)]
theorem L_drop {n m : Nat} {s : Nat → Nat} : (L n s).drop m = L (n - m) fun i => s (m + i) := by
  apply L_ext
  · rw [List.length_drop, L_len]
  · intro i hi
    rw [List.getElem?_drop, L_get (by omega)]
theorem list_L (l : List Nat) (f : Nat → Nat) (h : ∀ i, i < l.length → l[i]? = some (f i)) : l = L l.length f := L_ext rfl h
theorem head_L {h r : List Nat} {b : Nat} (hb : b ≤ h.length) : h.take b = L b (val h r) := by
  apply L_ext
  · rw [List.length_take]; omega
  · intro i hi
    rw [List.getElem?_take_of_lt hi]
    unfold val
    rw [if_pos (by omega), List.getD_eq_getElem?_getD, List.getElem?_eq_getElem (by omega)]
    rfl
/-- how the signs of a trial's moment go -/
theorem val_L {s : Nat → Nat} {b k : Nat} (hk : 1 ≤ k) (i : Nat) : val (L b s) (L k fun m => s (b + m)) i = if i < b then s i else s (b + (i - b) % k) := by
  unfold val
  rw [L_len]
  by_cases h : i < b
  · rw [if_pos h, if_pos h, List.getD_eq_getElem?_getD, L_get h]
    rfl
  · rw [if_neg h, if_neg h]
    have e := cyc_get (r := L k fun m => s (b + m)) (by rw [L_len]; exact hk) (i - b)
    rw [L_len, L_get (Nat.mod_lt _ hk)] at e
    exact (Option.some.inj e).symm
theorem CC_mod {s : Nat → Nat} {b k : Nat} (c : CC s b k) (m : Nat) : s (b + m % k) = s (b + m) := by
  have key : ∀ t x, s (b + x + t * k) = s (b + x) := by
    intro t
    induction t with
    | zero => intro x; rw [Nat.zero_mul, Nat.add_zero]
    | succ t ih => intro x; rw [Nat.succ_mul, ← Nat.add_assoc, c _ (by omega), ih]
  conv => rhs; rw [← Nat.mod_add_div m k, Nat.mul_comm, ← Nat.add_assoc, key]
/-- a trial: the first signs are those of the moment itself just if the sequence repeats from there on -/
theorem trial_iff {h r : List Nat} {b k many : Nat} (hr : 1 ≤ r.length) (hk : 1 ≤ k) (hb : b ≤ h.length) (hm : h.length + k + r.length ≤ many) :
    sg (L b (val h r)) (L k fun m => val h r (b + m)) many = L many (val h r) ↔ CC (val h r) b k := by
  rw [sg_eq (by rw [L_len]; exact hk), L_eq]
  constructor
  · intro e
    have per : ∀ i, h.length ≤ i → val (L b (val h r)) (L k fun m => val h r (b + m)) (i + k) = val (L b (val h r)) (L k fun m => val h r (b + m)) i := fun i hi => by
      have := val_per (L b (val h r)) (L k fun m => val h r (b + m)) (a := b) (i := i) (by rw [L_len]; exact Nat.le_refl _) (by omega)
      rwa [L_len] at this
    have all := wilf (a := h.length) hk hr per (fun i hi => val_per h r (Nat.le_refl _) hi) (fun i hi => e i (by omega))
    intro i hi
    have p2 := val_per (L b (val h r)) (L k fun m => val h r (b + m)) (a := b) (i := i) (by rw [L_len]; exact Nat.le_refl _) hi
    rw [L_len, all, all] at p2
    exact p2
  · intro c i _
    rw [val_L hk]
    by_cases hi : i < b
    · rw [if_pos hi]
    · rw [if_neg hi, CC_mod c, show b + (i - b) = i by omega]
/-- the ring as the program turns it -/
theorem turn_L {h r : List Nat} {k b : Nat} (p : Per r k) (hb : b ≤ h.length) (hc : ∀ i, b ≤ i → i < h.length → val h r i = EE h r k i) :
    (r.take k).drop (k - (h.length - b) % k) ++ (r.take k).take (k - (h.length - b) % k) = pR (val h r) b k := by
  have hk := p.pos
  have hle := p.le
  have hmod : (h.length - b) % k < k := Nat.mod_lt _ hk
  have hl : (r.take k).length = k := p.len
  generalize hu : (h.length - b) % k = u at hmod
  apply L_ext
  · rw [List.length_append, List.length_drop, List.length_take (l := r.take k), hl]; omega
  · intro m hm
    have e1 : val h r (b + m) = EE h r k (b + m) := by
      by_cases h2 : b + m < h.length
      · exact hc _ (by omega) h2
      · exact val_EE p (by omega)
    have rot := cyc_get (r := (r.take k).drop (k - u) ++ (r.take k).take (k - u)) (by rw [List.length_append, List.length_drop, List.length_take (l := r.take k), hl]; omega) m
    have hlen : ((r.take k).drop (k - u) ++ (r.take k).take (k - u)).length = k := by rw [List.length_append, List.length_drop, List.length_take (l := r.take k), hl]; omega
    rw [hlen, Nat.mod_eq_of_lt hm, rot_cyc (by omega) (by omega), p.cyc] at rot
    rw [rot, e1]
    congr 1
    unfold EE
    -- m + (k - u) and b + m + H (k - 1) are alike up to rounds
    have e2 : h.length * k = h.length * (k - 1) + h.length := by
      conv => lhs; rw [show k = (k - 1) + 1 by omega]
      rw [Nat.mul_succ]
    have e3 : h.length - b = u + (h.length - b) / k * k := by
      have := Nat.mod_add_div (h.length - b) k
      rw [hu, Nat.mul_comm] at this
      omega
    rw [← inv_mul p.inv h.length (m + (k - u)), ← inv_mul p.inv ((h.length - b) / k + 1) (b + m + h.length * (k - 1))]
    congr 1
    rw [Nat.succ_mul]
    omega
theorem Bin.app' {a b : List Nat} (h : Bin a) (g : Bin b) : Bin (a ++ b) := fun c hc => by
  rcases List.mem_append.mp hc with q | q
  · exact h c q
  · exact g c q
theorem val_bin {h r : List Nat} (bh : Bin h) (br : Bin r) (hr : 1 ≤ r.length) (i : Nat) : val h r i = 48 ∨ val h r i = 49 := by
  unfold val
  by_cases c : i < h.length
  · rw [if_pos c, List.getD_eq_getElem?_getD, List.getElem?_eq_getElem c]
    exact bh _ (List.getElem_mem c)
  · rw [if_neg c]
    exact br _ (List.mem_of_getElem? (cyc_get hr _))
theorem L_bin {n : Nat} {f : Nat → Nat} (h : ∀ i, f i = 48 ∨ f i = 49) : Bin (L n f) := fun c hc => by
  unfold L at hc
  obtain ⟨i, _, rfl⟩ := List.mem_map.mp hc
  exact h i
end HC

namespace HC
open PySem PySem.Spec PyProof.Rows L2
/-! ## cuts as trees -/
inductive Tr where
  | lf
  | nd (a b : Tr)
def lvs : Tr → List Nat → List (List Nat)
  | .lf, w => [w]
  | .nd a b, w => lvs a (w ++ [48]) ++ lvs b (w ++ [49])
def nds : Tr → List Nat → List (List Nat)
  | .lf, _ => []
  | .nd a b, w => w :: (nds a (w ++ [48]) ++ nds b (w ++ [49]))
theorem lvs_pre : ∀ {t : Tr} {w x : List Nat}, x ∈ lvs t w → ∃ v, x = w ++ v
  | .lf, w, x, h => ⟨[], by rw [List.append_nil]; exact List.mem_singleton.mp h⟩
  | .nd a b, w, x, h => by
    rcases List.mem_append.mp h with h | h
    · obtain ⟨v, e⟩ := lvs_pre h
      exact ⟨48 :: v, by rw [e, List.append_assoc]; rfl⟩
    · obtain ⟨v, e⟩ := lvs_pre h
      exact ⟨49 :: v, by rw [e, List.append_assoc]; rfl⟩
theorem nds_pre : ∀ {t : Tr} {w x : List Nat}, x ∈ nds t w → ∃ v, x = w ++ v
  | .lf, w, x, h => nomatch h
  | .nd a b, w, x, h => by
    rcases List.mem_cons.mp h with h | h
    · exact ⟨[], by rw [h, List.append_nil]⟩
    rcases List.mem_append.mp h with h | h
    · obtain ⟨v, e⟩ := nds_pre h
      exact ⟨48 :: v, by rw [e, List.append_assoc]; rfl⟩
    · obtain ⟨v, e⟩ := nds_pre h
      exact ⟨49 :: v, by rw [e, List.append_assoc]; rfl⟩
theorem lt_app (w : List Nat) {x y : List Nat} : w ++ x < w ++ y ↔ x < y := by
  induction w with
  | nil => exact Iff.rfl
  | cons a w ih =>
    rw [List.cons_append, List.cons_append, List.cons_lt_cons_iff, ih]
    exact ⟨fun h => h.elim (fun q => absurd q (Nat.lt_irrefl _)) (·.2), fun h => .inr ⟨rfl, h⟩⟩
theorem lt_01 (w x y : List Nat) : w ++ 48 :: x < w ++ 49 :: y := (lt_app w).mpr (List.cons_lt_cons_iff.mpr (.inl (by decide)))
theorem lvs_sorted : ∀ (t : Tr) (w : List Nat), (lvs t w).Pairwise (· < ·)
  | .lf, w => List.pairwise_singleton _ _
  | .nd a b, w => by
    refine List.pairwise_append.mpr ⟨lvs_sorted a _, lvs_sorted b _, fun x hx y hy => ?_⟩
    obtain ⟨v, e⟩ := lvs_pre hx
    obtain ⟨u, f⟩ := lvs_pre hy
    rw [e, f, List.append_assoc, List.append_assoc]
    exact lt_01 w v u
theorem lvs_nodup (t : Tr) (w : List Nat) : (lvs t w).Nodup := (lvs_sorted t w).imp fun h e => by
  rw [e] at h
  exact List.lt_irrefl _ h
/-- what is sorted and has the same items is the cut -/
theorem sorted_eq {t : Tr} {w : List Nat} {ys xs : List (List Nat)} (hp : ys.Perm xs) (hs : ys.Pairwise fun a b => ¬ b < a) (hx : xs.Perm (lvs t w)) : ys = lvs t w := by
  refine List.Perm.eq_of_pairwise (le := fun a b => ¬ b < a) (fun a b _ _ h1 h2 => ?_) hs ((lvs_sorted t w).imp fun h q => List.lt_irrefl _ (List.lt_trans h q)) (hp.trans hx)
  exact List.le_antisymm (List.not_lt.mp h1) (List.not_lt.mp h2)
theorem lvs_not_nds : ∀ {t : Tr} {w x : List Nat}, x ∈ lvs t w → x ∉ nds t w
  | .lf, w, x, h => fun q => nomatch q
  | .nd a b, w, x, h => fun q => by
    have ne01 : ∀ u v : List Nat, w ++ [48] ++ u ≠ w ++ [49] ++ v := fun u v e => by
      rw [List.append_assoc, List.append_assoc] at e
      have e2 := List.append_cancel_left e
      simp at e2
    have neW : ∀ (c : Nat) (u : List Nat), w ++ [c] ++ u ≠ w := fun c u e => by
      have e2 := congrArg List.length e
      rw [List.length_append, List.length_append, List.length_singleton] at e2
      omega
    rcases List.mem_append.mp h with h | h
    · obtain ⟨v, e⟩ := lvs_pre h
      rcases List.mem_cons.mp q with q | q
      · exact neW _ _ (e.symm.trans q)
      rcases List.mem_append.mp q with q | q
      · exact lvs_not_nds h q
      · obtain ⟨u, f⟩ := nds_pre q
        exact ne01 _ _ (e.symm.trans f)
    · obtain ⟨v, e⟩ := lvs_pre h
      rcases List.mem_cons.mp q with q | q
      · exact neW _ _ (e.symm.trans q)
      rcases List.mem_append.mp q with q | q
      · obtain ⟨u, f⟩ := nds_pre q
        exact ne01 _ _ (f.symm.trans e)
      · exact lvs_not_nds h q
theorem child : ∀ {t : Tr} {w y : List Nat}, (y ∈ lvs t w ∨ y ∈ nds t w) ↔ (y = w ∨ ∃ n ∈ nds t w, ∃ s, (s = 48 ∨ s = 49) ∧ y = n ++ [s])
  | .lf, w, y => by
    constructor
    · rintro (h | h)
      · exact .inl (List.mem_singleton.mp h)
      · exact nomatch h
    · rintro (h | ⟨n, h, _⟩)
      · exact .inl (List.mem_singleton.mpr h)
      · exact nomatch h
  | .nd a b, w, y => by
    have ia := child (t := a) (w := w ++ [48]) (y := y)
    have ib := child (t := b) (w := w ++ [49]) (y := y)
    show (y ∈ lvs a (w ++ [48]) ++ lvs b (w ++ [49]) ∨ y ∈ w :: (nds a (w ++ [48]) ++ nds b (w ++ [49]))) ↔ (y = w ∨ ∃ n ∈ w :: (nds a (w ++ [48]) ++ nds b (w ++ [49])), ∃ s, (s = 48 ∨ s = 49) ∧ y = n ++ [s])
    constructor
    · intro h
      have h2 : y = w ∨ (y ∈ lvs a (w ++ [48]) ∨ y ∈ nds a (w ++ [48])) ∨ (y ∈ lvs b (w ++ [49]) ∨ y ∈ nds b (w ++ [49])) := by
        simp only [List.mem_append, List.mem_cons] at h
        rcases h with (h | h) | h | h | h
        · exact .inr (.inl (.inl h))
        · exact .inr (.inr (.inl h))
        · exact .inl h
        · exact .inr (.inl (.inr h))
        · exact .inr (.inr (.inr h))
      rcases h2 with h2 | h2 | h2
      · exact .inl h2
      · rcases ia.mp h2 with e | ⟨n, hn, s, hs, e⟩
        · exact .inr ⟨w, List.mem_cons_self, 48, .inl rfl, e⟩
        · exact .inr ⟨n, List.mem_cons_of_mem _ (List.mem_append_left _ hn), s, hs, e⟩
      · rcases ib.mp h2 with e | ⟨n, hn, s, hs, e⟩
        · exact .inr ⟨w, List.mem_cons_self, 49, .inr rfl, e⟩
        · exact .inr ⟨n, List.mem_cons_of_mem _ (List.mem_append_right _ hn), s, hs, e⟩
    · rintro (h | ⟨n, hn, s, hs, e⟩)
      · exact .inr (by rw [h]; exact List.mem_cons_self)
      · simp only [List.mem_append, List.mem_cons] at hn ⊢
        rcases hn with hn | hn | hn
        · subst hn
          rcases hs with hs | hs
          · subst hs
            rcases ia.mpr (.inl e) with q | q
            · exact .inl (.inl q)
            · exact .inr (.inr (.inl q))
          · subst hs
            rcases ib.mpr (.inl e) with q | q
            · exact .inl (.inr q)
            · exact .inr (.inr (.inr q))
        · rcases ia.mpr (.inr ⟨n, hn, s, hs, e⟩) with q | q
          · exact .inl (.inl q)
          · exact .inr (.inr (.inl q))
        · rcases ib.mpr (.inr ⟨n, hn, s, hs, e⟩) with q | q
          · exact .inl (.inr q)
          · exact .inr (.inr (.inr q))
/-- the leaves are the halves of nodes that are no nodes -/
theorem mem_lvs {t : Tr} {y : List Nat} (h0 : [] ∈ nds t []) : y ∈ lvs t [] ↔ (∃ n ∈ nds t [], ∃ s, (s = 48 ∨ s = 49) ∧ y = n ++ [s]) ∧ y ∉ nds t [] := by
  constructor
  · intro h
    have hn := lvs_not_nds h
    rcases child.mp (.inl h) with e | e
    · rw [e] at hn
      exact absurd h0 hn
    · exact ⟨e, hn⟩
  · rintro ⟨h, hn⟩
    rcases child.mpr (.inr h) with e | e
    · exact e
    · exact absurd e hn
theorem nds_root {t : Tr} : nds t [] = [] ∨ [] ∈ nds t [] := by
  cases t with
  | lf => exact .inl rfl
  | nd a b => exact .inr List.mem_cons_self
theorem lvs_ne : ∀ (t : Tr) (w : List Nat), ∃ x, x ∈ lvs t w
  | .lf, w => ⟨w, List.mem_singleton.mpr rfl⟩
  | .nd a b, w => by
    obtain ⟨x, h⟩ := lvs_ne a (w ++ [48])
    exact ⟨x, List.mem_append_left _ h⟩
/-- the nodes are what leaves are longer than -/
theorem mem_nds : ∀ {t : Tr} {w x : List Nat}, x ∈ nds t w ↔ (∃ u, x = w ++ u) ∧ ∃ y ∈ lvs t w, ∃ v, v ≠ [] ∧ y = x ++ v
  | .lf, w, x => by
    constructor
    · intro h
      exact nomatch h
    · rintro ⟨⟨u, e⟩, y, hy, v, hv, f⟩
      rw [List.mem_singleton.mp hy, e] at f
      have := congrArg List.length f
      rw [List.length_append, List.length_append] at this
      have hl := List.length_pos_iff.mpr hv
      omega
  | .nd a b, w, x => by
    constructor
    · intro h
      refine ⟨nds_pre h, ?_⟩
      rcases List.mem_cons.mp h with h | h
      · obtain ⟨y, hy⟩ := lvs_ne a (w ++ [48])
        obtain ⟨v, e⟩ := lvs_pre hy
        exact ⟨y, List.mem_append_left _ hy, 48 :: v, by simp, by rw [e, h, List.append_assoc]; rfl⟩
      rcases List.mem_append.mp h with h | h
      · obtain ⟨_, y, hy, r⟩ := mem_nds.mp h
        exact ⟨y, List.mem_append_left _ hy, r⟩
      · obtain ⟨_, y, hy, r⟩ := mem_nds.mp h
        exact ⟨y, List.mem_append_right _ hy, r⟩
    · rintro ⟨⟨u, e⟩, y, hy, v, hv, f⟩
      cases u with
      | nil =>
        rw [List.append_nil] at e
        rw [e]
        exact List.mem_cons_self
      | cons c u =>
        refine List.mem_cons_of_mem _ ?_
        rcases List.mem_append.mp hy with hy | hy
        · obtain ⟨z, g⟩ := lvs_pre hy
          have hc : c = 48 := by
            rw [g, e, List.append_assoc, List.append_assoc] at f
            have := List.append_cancel_left f
            simp at this
            exact this.1.symm
          subst hc
          exact List.mem_append_left _ (mem_nds.mpr ⟨⟨u, by rw [e, List.append_assoc]; rfl⟩, y, hy, v, hv, f⟩)
        · obtain ⟨z, g⟩ := lvs_pre hy
          have hc : c = 49 := by
            rw [g, e, List.append_assoc, List.append_assoc] at f
            have := List.append_cancel_left f
            simp at this
            exact this.1.symm
          subst hc
          exact List.mem_append_right _ (mem_nds.mpr ⟨⟨u, by rw [e, List.append_assoc]; rfl⟩, y, hy, v, hv, f⟩)
/-! ### two cuts in one -/
def un : Tr → Tr → Tr
  | .lf, t => t
  | .nd a b, .lf => .nd a b
  | .nd a b, .nd c d => .nd (un a c) (un b d)
theorem un_self : ∀ t : Tr, un t t = t
  | .lf => rfl
  | .nd a b => by show Tr.nd _ _ = _; rw [un_self a, un_self b]
theorem un_l : ∀ s t : Tr, un (un s t) s = un s t
  | .lf, t => by cases t <;> rfl
  | .nd a b, .lf => by show Tr.nd _ _ = _; rw [un_self a, un_self b]; rfl
  | .nd a b, .nd c d => by show Tr.nd _ _ = _; rw [un_l a c, un_l b d]; rfl
theorem un_r : ∀ s t : Tr, un t (un s t) = un s t
  | .lf, t => un_self t
  | .nd a b, .lf => rfl
  | .nd a b, .nd c d => by show Tr.nd _ _ = _; rw [un_r a c, un_r b d]; rfl
theorem mem_un : ∀ {s t : Tr} {w x : List Nat}, x ∈ nds (un s t) w ↔ x ∈ nds s w ∨ x ∈ nds t w
  | .lf, t, w, x => ⟨.inr, fun h => h.elim (fun q => nomatch q) id⟩
  | .nd a b, .lf, w, x => ⟨.inl, fun h => h.elim id fun q => nomatch q⟩
  | .nd a b, .nd c d, w, x => by
    show x ∈ w :: (nds (un a c) (w ++ [48]) ++ nds (un b d) (w ++ [49])) ↔ x ∈ w :: (nds a (w ++ [48]) ++ nds b (w ++ [49])) ∨ x ∈ w :: (nds c (w ++ [48]) ++ nds d (w ++ [49]))
    simp only [List.mem_cons, List.mem_append, mem_un]
    constructor
    · rintro (h | (h | h) | (h | h))
      · exact .inl (.inl h)
      · exact .inl (.inr (.inl h))
      · exact .inr (.inr (.inl h))
      · exact .inl (.inr (.inr h))
      · exact .inr (.inr (.inr h))
    · rintro ((h | h | h) | (h | h | h))
      · exact .inl h
      · exact .inr (.inl (.inl h))
      · exact .inr (.inr (.inl h))
      · exact .inl h
      · exact .inr (.inl (.inr h))
      · exact .inr (.inr (.inr h))
/-! ### a piece halved -/
def half (p x : List Nat) : List (List Nat) := if x = p then [p ++ [48], p ++ [49]] else [x]
def split : Tr → List Nat → List Nat → Tr
  | .lf, w, p => if w = p then .nd .lf .lf else .lf
  | .nd a b, w, p => .nd (split a (w ++ [48]) p) (split b (w ++ [49]) p)
theorem lvs_split : ∀ (t : Tr) (w p : List Nat), (lvs t w).flatMap (half p) = lvs (split t w p) w
  | .lf, w, p => by
    show half p w ++ [] = lvs (if w = p then Tr.nd .lf .lf else .lf) w
    unfold half
    by_cases h : w = p
    · rw [if_pos h, if_pos h, h]
      rfl
    · rw [if_neg h, if_neg h]
      rfl
  | .nd a b, w, p => by
    show (lvs a (w ++ [48]) ++ lvs b (w ++ [49])).flatMap (half p) = lvs (split a (w ++ [48]) p) (w ++ [48]) ++ lvs (split b (w ++ [49]) p) (w ++ [49])
    rw [List.flatMap_append, lvs_split, lvs_split]
theorem half_none {p : List Nat} : ∀ {l : List (List Nat)}, p ∉ l → l.flatMap (half p) = l
  | [], _ => rfl
  | x :: l, h => by
    rw [List.flatMap_cons, half_none fun q => h (List.mem_cons_of_mem _ q)]
    unfold half
    rw [if_neg fun e => h (by rw [e]; exact List.mem_cons_self)]
    rfl
theorem half_at {l A B : List (List Nat)} {p : List Nat} (e : l = A ++ p :: B) (hn : l.Nodup) : l.flatMap (half p) = A ++ [p ++ [48], p ++ [49]] ++ B := by
  rw [e] at hn ⊢
  obtain ⟨_, h2, h3⟩ := List.nodup_append.mp hn
  rw [List.flatMap_append, List.flatMap_cons, half_none fun q => h3 p q p List.mem_cons_self rfl, half_none (List.nodup_cons.mp h2).1]
  unfold half
  rw [if_pos rfl, List.append_assoc]
/-! ### the leaf with which a sequence begins -/
def lfo : Tr → (Nat → Nat) → List Nat → List Nat
  | .lf, _, w => w
  | .nd a b, f, w => if f w.length = 48 then lfo a f (w ++ [48]) else lfo b f (w ++ [49])
theorem L_snoc (n : Nat) (f : Nat → Nat) : L (n + 1) f = L n f ++ [f n] := by
  unfold L
  rw [List.range_succ, List.map_append]
  rfl
theorem L_pre {f : Nat → Nat} {w v : List Nat} (h : w ++ v = L (w ++ v).length f) : w = L w.length f := by
  have := congrArg (List.take w.length) h
  rw [List.take_left'] at this
  · rw [this]
    unfold L
    rw [← List.map_take, List.take_range, List.length_append, Nat.min_eq_left (by omega)]
    simp
  · rfl
/-- the leaves with which a sequence begins -/
theorem filter_lvs {f : Nat → Nat} (hf : ∀ i, f i = 48 ∨ f i = 49) : ∀ (t : Tr) (w : List Nat),
    (w = L w.length f → (lvs t w).filter (fun x => decide (x = L x.length f)) = [lfo t f w]) ∧ (w ≠ L w.length f → (lvs t w).filter (fun x => decide (x = L x.length f)) = [])
  | .lf, w => ⟨fun h => by
      show List.filter _ [w] = [w]
      rw [List.filter_cons, if_pos (decide_eq_true h)]
      rfl, fun h => by
      show List.filter _ [w] = []
      rw [List.filter_cons, if_neg fun q => h (of_decide_eq_true q)]
      rfl⟩
  | .nd a b, w => by
    have ia := filter_lvs hf a (w ++ [48])
    have ib := filter_lvs hf b (w ++ [49])
    have ln : ∀ c : Nat, (w ++ [c]).length = w.length + 1 := fun c => by rw [List.length_append]; rfl
    constructor
    · intro h
      show ((lvs a (w ++ [48]) ++ lvs b (w ++ [49])).filter _) = [if f w.length = 48 then lfo a f (w ++ [48]) else lfo b f (w ++ [49])]
      rw [List.filter_append]
      have e : ∀ c, (w ++ [c] = L (w ++ [c]).length f ↔ f w.length = c) := fun c => by
        rw [ln, L_snoc, ← h]
        constructor
        · intro q
          have := List.append_cancel_left q
          simpa using this.symm
        · intro q
          rw [q]
      rcases hf w.length with q | q
      · rw [if_pos q, ia.1 ((e 48).mpr q), ib.2 fun z => by have := (e 49).mp z; omega]
        rfl
      · rw [if_neg (by omega), ib.1 ((e 49).mpr q), ia.2 fun z => by have := (e 48).mp z; omega]
        rfl
    · intro h
      show ((lvs a (w ++ [48]) ++ lvs b (w ++ [49])).filter _) = []
      rw [List.filter_append, ia.2 fun q => h (L_pre q), ib.2 fun q => h (L_pre q)]
      rfl
theorem lfo_mem {f : Nat → Nat} : ∀ (t : Tr) (w : List Nat), lfo t f w ∈ lvs t w
  | .lf, w => List.mem_singleton.mpr rfl
  | .nd a b, w => by
    show (if f w.length = 48 then lfo a f (w ++ [48]) else lfo b f (w ++ [49])) ∈ lvs a (w ++ [48]) ++ lvs b (w ++ [49])
    split
    · exact List.mem_append_left _ (lfo_mem a _)
    · exact List.mem_append_right _ (lfo_mem b _)
theorem lfo_L {f : Nat → Nat} (hf : ∀ i, f i = 48 ∨ f i = 49) : ∀ (t : Tr) (w : List Nat), w = L w.length f → lfo t f w = L (lfo t f w).length f
  | .lf, w, h => h
  | .nd a b, w, h => by
    show (if f w.length = 48 then lfo a f (w ++ [48]) else lfo b f (w ++ [49])) = L (if f w.length = 48 then lfo a f (w ++ [48]) else lfo b f (w ++ [49])).length f
    have ln : ∀ c : Nat, (w ++ [c]).length = w.length + 1 := fun c => by rw [List.length_append]; rfl
    rcases hf w.length with q | q
    · rw [if_pos q]
      exact lfo_L hf a _ (by rw [ln, L_snoc, ← h, q])
    · rw [if_neg (by omega)]
      exact lfo_L hf b _ (by rw [ln, L_snoc, ← h, q])
theorem lfo_pre {f : Nat → Nat} (t : Tr) (w : List Nat) : ∃ v, lfo t f w = w ++ v := lvs_pre (lfo_mem t w)
theorem lfo_un {f : Nat → Nat} : ∀ (s t : Tr) (w : List Nat), (∃ v, lfo (un s t) f w = lfo s f w ++ v) ∧ ∃ v, lfo (un s t) f w = lfo t f w ++ v
  | .lf, t, w => ⟨lfo_pre t w, [], by rw [List.append_nil]; rfl⟩
  | .nd a b, .lf, w => ⟨⟨[], by rw [List.append_nil]; rfl⟩, lfo_pre (.nd a b) w⟩
  | .nd a b, .nd c d, w => by
    show (∃ v, (if f w.length = 48 then lfo (un a c) f (w ++ [48]) else lfo (un b d) f (w ++ [49])) = (if f w.length = 48 then lfo a f (w ++ [48]) else lfo b f (w ++ [49])) ++ v) ∧
      ∃ v, (if f w.length = 48 then lfo (un a c) f (w ++ [48]) else lfo (un b d) f (w ++ [49])) = (if f w.length = 48 then lfo c f (w ++ [48]) else lfo d f (w ++ [49])) ++ v
    split
    · exact lfo_un a c _
    · exact lfo_un b d _
theorem lfo_split {f : Nat → Nat} (hf : ∀ i, f i = 48 ∨ f i = 49) (p : List Nat) : ∀ (t : Tr) (w : List Nat), lfo (split t w p) f w = if lfo t f w = p then lfo t f w ++ [f (lfo t f w).length] else lfo t f w
  | .lf, w => by
    show lfo (if w = p then Tr.nd .lf .lf else .lf) f w = if w = p then w ++ [f w.length] else w
    by_cases h : w = p
    · rw [if_pos h, if_pos h]
      show (if f w.length = 48 then w ++ [48] else w ++ [49]) = _
      rcases hf w.length with q | q
      · rw [if_pos q, q]
      · rw [if_neg (by omega), q]
    · rw [if_neg h, if_neg h]
      rfl
  | .nd a b, w => by
    show (if f w.length = 48 then lfo (split a (w ++ [48]) p) f (w ++ [48]) else lfo (split b (w ++ [49]) p) f (w ++ [49])) = _
    have e : lfo (.nd a b) f w = if f w.length = 48 then lfo a f (w ++ [48]) else lfo b f (w ++ [49]) := rfl
    rw [e]
    by_cases q : f w.length = 48
    · rw [if_pos q, if_pos q]
      exact lfo_split hf p a _
    · rw [if_neg q, if_neg q]
      exact lfo_split hf p b _
/-- the order of leaves is that of the sequences -/
theorem lfo_lt {f g : Nat → Nat} (hf : ∀ i, f i = 48 ∨ f i = 49) (hg : ∀ i, g i = 48 ∨ g i = 49) : ∀ (t : Tr) (w : List Nat), w = L w.length f → w = L w.length g → lfo t f w ≠ lfo t g w → (lfo t f w < lfo t g w ↔ Bef f g)
  | .lf, w, _, _, h => absurd rfl h
  | .nd a b, w, h1, h2, h => by
    have ag : ∀ j, j < w.length → f j = g j := L_eq.mp (h1.symm.trans h2)
    have ln : ∀ c : Nat, (w ++ [c]).length = w.length + 1 := fun c => by rw [List.length_append]; rfl
    have ef : lfo (.nd a b) f w = if f w.length = 48 then lfo a f (w ++ [48]) else lfo b f (w ++ [49]) := rfl
    have eg : lfo (.nd a b) g w = if g w.length = 48 then lfo a g (w ++ [48]) else lfo b g (w ++ [49]) := rfl
    rw [ef, eg] at h ⊢
    rcases hf w.length with q | q
    · rcases hg w.length with r | r
      · rw [if_pos q, if_pos r] at h ⊢
        exact lfo_lt hf hg a _ (by rw [ln, L_snoc, ← h1, q]) (by rw [ln, L_snoc, ← h2, r]) h
      · rw [if_pos q, if_neg (by omega)]
        obtain ⟨v, e⟩ := lfo_pre (f := f) a (w ++ [48])
        obtain ⟨u, e2⟩ := lfo_pre (f := g) b (w ++ [49])
        rw [e, e2, List.append_assoc, List.append_assoc]
        exact ⟨fun _ => ⟨w.length, ag, by omega⟩, fun _ => lt_01 w v u⟩
    · rcases hg w.length with r | r
      · rw [if_neg (by omega), if_pos r]
        obtain ⟨v, e⟩ := lfo_pre (f := f) b (w ++ [49])
        obtain ⟨u, e2⟩ := lfo_pre (f := g) a (w ++ [48])
        rw [e, e2, List.append_assoc, List.append_assoc]
        constructor
        · intro z
          exact absurd (List.lt_trans z (lt_01 w u v)) (List.lt_irrefl _)
        · rintro ⟨i, i1, i2⟩
          rcases Nat.lt_trichotomy i w.length with z | z | z
          · have := ag i z
            omega
          · subst z
            omega
          · have := i1 _ z
            omega
      · rw [if_neg (by omega), if_neg (by omega)] at h ⊢
        exact lfo_lt hf hg b _ (by rw [ln, L_snoc, ← h1, q]) (by rw [ln, L_snoc, ← h2, r]) h
/-! ### the pieces, one behind the other -/
/-- a piece without its last 1s -/
def rs (w : List Nat) : List Nat := (w.reverse.dropWhile fun c => decide (c = 49)).reverse
theorem rs_1 (w : List Nat) : rs (w ++ [49]) = rs w := by
  unfold rs
  rw [List.reverse_append]
  rfl
theorem rs_0 (w : List Nat) : rs (w ++ [48]) = w ++ [48] := by
  unfold rs
  rw [List.reverse_append]
  show ((48 :: w.reverse).dropWhile _).reverse = _
  rw [List.dropWhile_cons, if_neg (by decide)]
  simp
/-- where the next piece begins -/
def sb (w : List Nat) : Option (List Nat) := if rs w = [] then none else some ((rs w).dropLast ++ [49])
theorem sb_0 (w : List Nat) : sb (w ++ [48]) = some (w ++ [49]) := by
  unfold sb
  rw [rs_0, if_neg (by simp), List.dropLast_concat]
theorem sb_1 (w : List Nat) : sb (w ++ [49]) = sb w := by
  unfold sb
  rw [rs_1]
def zs (n : Nat) : List Nat := List.replicate n 48
def Go : List (List Nat) → Option (List Nat) → Option (List Nat) → Prop
  | [], s, e => s = e
  | w :: r, s, e => ∃ st n, s = some st ∧ w = st ++ zs n ∧ Go r (sb w) e
theorem Go.app : ∀ {l m : List (List Nat)} {s u e : Option (List Nat)}, Go l s u → Go m u e → Go (l ++ m) s e
  | [], m, s, u, e, h, g => by
    have h2 : s = u := h
    rw [h2]
    exact g
  | w :: r, m, s, u, e, ⟨st, n, h1, h2, h3⟩, g => ⟨st, n, h1, h2, h3.app g⟩
theorem go_lvs : ∀ (t : Tr) (w st : List Nat) (n : Nat), w = st ++ zs n → Go (lvs t w) (some st) (sb w)
  | .lf, w, st, n, h => ⟨st, n, rfl, h, rfl⟩
  | .nd a b, w, st, n, h => by
    refine Go.app (u := some (w ++ [49])) ?_ ?_
    · rw [← sb_0]
      refine go_lvs a (w ++ [48]) st (n + 1) ?_
      rw [h, List.append_assoc]
      unfold zs
      rw [List.replicate_succ']
    · rw [← sb_1]
      exact go_lvs b (w ++ [49]) (w ++ [49]) 0 (by unfold zs; simp)
theorem go_root (t : Tr) : Go (lvs t []) (some []) none := go_lvs t [] [] 0 rfl
end HC

namespace HC
open PySem PySem.Spec PyProof.Rows L2
/-! ## values -/
/-- a word as a number -/
def num : List Nat → Nat
  | [] => 0
  | c :: l => (c - 48) * 2 ^ l.length + num l
theorem num_app : ∀ (a b : List Nat), num (a ++ b) = num a * 2 ^ b.length + num b
  | [], b => by show num b = 0 * _ + num b; rw [Nat.zero_mul, Nat.zero_add]
  | c :: a, b => by
    show (c - 48) * 2 ^ (a ++ b).length + num (a ++ b) = ((c - 48) * 2 ^ a.length + num a) * 2 ^ b.length + num b
    rw [num_app a b, List.length_append, Nat.pow_add, Nat.add_mul, Nat.mul_assoc, Nat.add_assoc]
theorem num_lt : ∀ {l : List Nat}, Bin l → num l < 2 ^ l.length
  | [], _ => Nat.one_pos
  | c :: l, h => by
    have ih := num_lt (l := l) fun d hd => h d (List.mem_cons_of_mem _ hd)
    show (c - 48) * 2 ^ l.length + num l < 2 ^ (l.length + 1)
    rw [Nat.pow_succ]
    rcases h c List.mem_cons_self with e | e <;> subst e <;> omega
def WW (r : List Nat) : Nat := 2 ^ r.length - 1
theorem WW_pos {r : List Nat} (h : 1 ≤ r.length) : 1 ≤ WW r := by
  unfold WW
  have : 2 ^ 1 ≤ 2 ^ r.length := Nat.pow_le_pow_right (by decide) h
  omega
def VT (h r : List Nat) : Nat := num h * WW r + num r
def VB (h r : List Nat) : Nat := WW r * 2 ^ h.length
theorem VB_pos {h r : List Nat} (hr : 1 ≤ r.length) : 1 ≤ VB h r := Nat.mul_pos (WW_pos hr) (Nat.pow_pos (by decide))
theorem VT_le {h r : List Nat} (bh : Bin h) (br : Bin r) : VT h r ≤ VB h r := by
  unfold VT VB
  have h1 := num_lt bh
  have h2 := num_lt br
  have h3 : num r ≤ WW r := by unfold WW; omega
  have h4 : (num h + 1) * WW r ≤ 2 ^ h.length * WW r := Nat.mul_le_mul_right _ h1
  rw [Nat.add_mul, Nat.one_mul] at h4
  rw [Nat.mul_comm (WW r)]
  omega
def AA (m : Nat) (f : Nat → Nat) : Nat := num (L m f)
theorem AA_succ (m : Nat) (f : Nat → Nat) : AA (m + 1) f = (f 0 - 48) * 2 ^ m + AA m (fun i => f (i + 1)) := by
  unfold AA
  have e : L (m + 1) f = f 0 :: L m (fun i => f (i + 1)) := by
    unfold L
    rw [List.range_succ_eq_map, List.map_cons, List.map_map]
    rfl
  rw [e]
  show (f 0 - 48) * 2 ^ (L m fun i => f (i + 1)).length + _ = _
  rw [L_len]
/-- the signs as a number come as near to the value as they are many -/
theorem bracket : ∀ (m : Nat) {h r : List Nat}, Bin h → Bin r → 1 ≤ r.length → AA m (val h r) * VB h r ≤ VT h r * 2 ^ m ∧ VT h r * 2 ^ m ≤ (AA m (val h r) + 1) * VB h r
  | 0, h, r, bh, br, hr => by
    have e : AA 0 (val h r) = 0 := rfl
    rw [e, Nat.zero_mul, Nat.pow_zero, Nat.mul_one, Nat.zero_add, Nat.one_mul]
    exact ⟨Nat.zero_le _, VT_le bh br⟩
  | m + 1, h, r, bh, br, hr => by
    -- the tail behind the first sign
    have core : ∀ (b TT BB T2 B2 A2 : Nat), 1 ≤ B2 → 2 * TT * B2 = (b * B2 + T2) * BB → A2 * B2 ≤ T2 * 2 ^ m → T2 * 2 ^ m ≤ (A2 + 1) * B2 →
        (b * 2 ^ m + A2) * BB ≤ TT * 2 ^ (m + 1) ∧ TT * 2 ^ (m + 1) ≤ (b * 2 ^ m + A2 + 1) * BB := by
      intro b TT BB T2 B2 A2 hB rel l1 l2
      have e0 : TT * 2 ^ (m + 1) * B2 = (b * 2 ^ m * B2 + T2 * 2 ^ m) * BB := by
        calc TT * 2 ^ (m + 1) * B2 = (2 * TT * B2) * 2 ^ m := by rw [Nat.pow_succ]; simp only [Nat.mul_assoc, Nat.mul_comm, Nat.mul_left_comm]
          _ = (b * B2 + T2) * BB * 2 ^ m := by rw [rel]
          _ = (b * 2 ^ m * B2 + T2 * 2 ^ m) * BB := by simp only [Nat.add_mul, Nat.mul_assoc, Nat.mul_comm, Nat.mul_left_comm]
      constructor
      · refine Nat.le_of_mul_le_mul_right (c := B2) ?_ hB
        rw [e0]
        calc (b * 2 ^ m + A2) * BB * B2 = (b * 2 ^ m * B2 + A2 * B2) * BB := by rw [Nat.mul_right_comm, Nat.add_mul]
          _ ≤ (b * 2 ^ m * B2 + T2 * 2 ^ m) * BB := Nat.mul_le_mul_right _ (Nat.add_le_add_left l1 _)
      · refine Nat.le_of_mul_le_mul_right (c := B2) ?_ hB
        rw [e0]
        calc (b * 2 ^ m * B2 + T2 * 2 ^ m) * BB ≤ (b * 2 ^ m * B2 + (A2 + 1) * B2) * BB := Nat.mul_le_mul_right _ (Nat.add_le_add_left l2 _)
          _ = (b * 2 ^ m + A2 + 1) * BB * B2 := by rw [← Nat.add_mul, ← Nat.add_assoc, Nat.mul_right_comm]
    rw [AA_succ]
    cases h with
    | cons c h =>
      have bh2 : Bin h := fun d hd => bh d (List.mem_cons_of_mem _ hd)
      have es : (fun i => val (c :: h) r (i + 1)) = val h r := by
        funext i
        unfold val
        rw [List.length_cons]
        by_cases q : i < h.length
        · rw [if_pos q, if_pos (by omega)]
          rfl
        · rw [if_neg q, if_neg (by omega)]
          congr 1
          omega
      have e0 : val (c :: h) r 0 = c := by
        unfold val
        rw [if_pos (by rw [List.length_cons]; omega)]
        rfl
      rw [es, e0]
      obtain ⟨l1, l2⟩ := bracket m bh2 br hr
      refine core _ _ _ _ _ _ (VB_pos hr) ?_ l1 l2
      unfold VT VB
      show 2 * (((c - 48) * 2 ^ h.length + num h) * WW r + num r) * (WW r * 2 ^ h.length) = ((c - 48) * (WW r * 2 ^ h.length) + (num h * WW r + num r)) * (WW r * 2 ^ (h.length + 1))
      rw [Nat.pow_succ]
      simp only [Nat.add_mul, Nat.mul_add, Nat.mul_assoc, Nat.mul_comm, Nat.mul_left_comm, Nat.add_assoc]
    | nil =>
      cases r with
      | nil => exact absurd hr (by decide)
      | cons c r =>
        have br2 : Bin (r ++ [c]) := Bin.app' (fun d hd => br d (List.mem_cons_of_mem _ hd)) (fun d hd => by rw [List.mem_singleton.mp hd]; exact br c List.mem_cons_self)
        have hl : (r ++ [c]).length = (c :: r).length := by rw [List.length_append]; rfl
        have v0 : ∀ x : List Nat, val [] x = cyc x := fun x => by
          funext i
          unfold val
          rw [if_neg (by simp)]
          rfl
        have es : (fun i => val [] (c :: r) (i + 1)) = val [] (r ++ [c]) := by
          rw [v0, v0]
          funext i
          exact (rot_cyc (r := c :: r) (s := 1) hr hr i).symm
        have e0 : val [] (c :: r) 0 = c := by
          rw [v0]
          unfold cyc
          rw [Nat.zero_mod]
          rfl
        rw [es, e0]
        obtain ⟨l1, l2⟩ := bracket m (h := []) (r := r ++ [c]) bh br2 (by rw [hl]; exact hr)
        refine core _ _ _ _ _ _ (VB_pos (by rw [hl]; exact hr)) ?_ l1 l2
        have eW : WW (r ++ [c]) = WW (c :: r) := by unfold WW; rw [hl]
        have eT : ∀ x, VT [] x = num x := fun x => by unfold VT; show 0 * _ + num x = num x; rw [Nat.zero_mul, Nat.zero_add]
        have eB : ∀ x, VB [] x = WW x := fun x => by unfold VB; show WW x * 1 = WW x; rw [Nat.mul_one]
        rw [eT, eT, eB, eB, eW]
        have key : 2 * num (c :: r) = (c - 48) * WW (c :: r) + num (r ++ [c]) := by
          rw [num_app]
          show 2 * ((c - 48) * 2 ^ r.length + num r) = (c - 48) * (2 ^ (r.length + 1) - 1) + (num r * 2 ^ 1 + ((c - 48) * 2 ^ 0 + 0))
          rw [Nat.pow_succ, Nat.mul_sub]
          have : (c - 48) * 1 ≤ (c - 48) * (2 ^ r.length * 2) := Nat.mul_le_mul_left _ (by have := Nat.pow_pos (n := r.length) (show 0 < 2 by decide); omega)
          have e2 : (c - 48) * (2 ^ r.length * 2) = 2 * ((c - 48) * 2 ^ r.length) := by rw [← Nat.mul_assoc, Nat.mul_comm]
          omega
        rw [key]
theorem AA_le : ∀ (m : Nat) {f g : Nat → Nat}, (∀ i, f i = 48 ∨ f i = 49) → (∀ i, g i = 48 ∨ g i = 49) → ¬ Bef g f → AA m f ≤ AA m g
  | 0, _, _, _, _, _ => Nat.le_refl _
  | m + 1, f, g, hf, hg, h => by
    rw [AA_succ, AA_succ]
    have bf : AA m (fun i => f (i + 1)) < 2 ^ m := by
      have := num_lt (l := L m fun i => f (i + 1)) (L_bin fun i => hf (i + 1))
      rwa [L_len] at this
    by_cases e : f 0 = g 0
    · rw [e]
      refine Nat.add_le_add_left (AA_le m (fun i => hf (i + 1)) (fun i => hg (i + 1)) fun ⟨i, h1, h2⟩ => h ⟨i + 1, fun j hj => ?_, h2⟩) _
      cases j with
      | zero => exact e.symm
      | succ j => exact h1 j (by omega)
    · have lt : f 0 < g 0 := by
        rcases Nat.lt_or_gt_of_ne e with q | q
        · exact q
        · exact absurd ⟨0, fun j hj => by omega, q⟩ h
      have e1 : f 0 = 48 := by rcases hf 0 with q | q <;> rcases hg 0 with q2 | q2 <;> omega
      have e2 : g 0 = 49 := by rcases hf 0 with q | q <;> rcases hg 0 with q2 | q2 <;> omega
      rw [e1, e2]
      omega
/-- values do not descend -/
theorem value_le {h r h2 r2 : List Nat} (bh : Bin h) (br : Bin r) (hr : 1 ≤ r.length) (bh2 : Bin h2) (br2 : Bin r2) (hr2 : 1 ≤ r2.length) (no : ¬ Bef (val h2 r2) (val h r)) : VT h r * VB h2 r2 ≤ VT h2 r2 * VB h r := by
  refine Nat.le_of_not_lt fun q => ?_
  have key : ∀ m, 2 ^ m ≤ VB h r * VB h2 r2 := by
    intro m
    have a1 := (bracket m bh br hr).2
    have a2 := (bracket m bh2 br2 hr2).1
    have a3 := AA_le m (val_bin bh br hr) (val_bin bh2 br2 hr2) no
    generalize AA m (val h r) = A1 at a1 a3
    generalize AA m (val h2 r2) = A2 at a2 a3
    generalize VT h r = T1 at a1 q
    generalize VT h2 r2 = T2 at a2 q
    generalize VB h r = B1 at a1 q
    generalize VB h2 r2 = B2 at a2 q
    generalize 2 ^ m = M at a1 a2
    have b1 : T1 * M * B2 ≤ (A1 + 1) * B1 * B2 := Nat.mul_le_mul_right _ a1
    have b2 : (A1 + 1) * B1 * B2 ≤ (A2 + 1) * B1 * B2 := Nat.mul_le_mul_right _ (Nat.mul_le_mul_right _ (by omega))
    have b3 : A2 * B2 * B1 ≤ T2 * M * B1 := Nat.mul_le_mul_right _ a2
    have c1 : T1 * M * B2 = (T1 * B2) * M := by rw [Nat.mul_assoc, Nat.mul_comm M, ← Nat.mul_assoc]
    have c2 : T2 * M * B1 = (T2 * B1) * M := by rw [Nat.mul_assoc, Nat.mul_comm M, ← Nat.mul_assoc]
    have c3 : (A2 + 1) * B1 * B2 = A2 * B2 * B1 + B1 * B2 := by rw [Nat.add_mul, Nat.add_mul, Nat.one_mul, Nat.mul_assoc, Nat.mul_comm B1, ← Nat.mul_assoc]
    have d : (T2 * B1 + 1) * M ≤ (T1 * B2) * M := Nat.mul_le_mul_right _ q
    rw [Nat.add_mul, Nat.one_mul] at d
    omega
  have := key (VB h r * VB h2 r2)
  have h2 : VB h r * VB h2 r2 < 2 ^ (VB h r * VB h2 r2) := Nat.lt_two_pow_self
  omega
theorem bef_no {f g : Nat → Nat} (h : Bef f g) : ¬ Bef g f := by
  obtain ⟨i, h1, h2⟩ := h
  rintro ⟨j, g1, g2⟩
  rcases Nat.lt_trichotomy i j with q | q | q
  · have := g1 i q
    omega
  · subst q
    omega
  · have := h1 j q
    omega
theorem bef_eq {f g : Nat → Nat} (h1 : ¬ Bef f g) (h2 : ¬ Bef g f) : f = g := by
  funext i
  induction i using Nat.strongRecOn with
  | _ i ih =>
    rcases Nat.lt_trichotomy (f i) (g i) with q | q | q
    · exact absurd ⟨i, fun j hj => ih j hj, q⟩ h1
    · exact q
    · exact absurd ⟨i, fun j hj => (ih j hj).symm, q⟩ h2
theorem bef_irr (f : Nat → Nat) : ¬ Bef f f := fun ⟨i, _, h⟩ => Nat.lt_irrefl _ h
/-- plain forms are the same just if the sequences are -/
theorem plain_eq {f g : Nat → Nat} {b k b2 k2 : Nat} (p : PlainS f b k) (q : PlainS g b2 k2) : (pH f b = pH g b2 ∧ pR f b k = pR g b2 k2) ↔ f = g := by
  constructor
  · rintro ⟨e1, e2⟩
    have l1 := congrArg List.length e1
    have l2 := congrArg List.length e2
    unfold pH at l1 e1
    unfold pR at l2 e2
    rw [L_len, L_len] at l1 l2
    subst l1 l2
    funext i
    have hf := val_L (s := f) (b := b) p.pos i
    have hg := val_L (s := g) (b := b) p.pos i
    rw [e1, e2, hg] at hf
    by_cases c : i < b
    · rw [if_pos c, if_pos c] at hf
      exact hf.symm
    · rw [if_neg c, if_neg c, CC_mod p.c, CC_mod q.c, show b + (i - b) = i by omega] at hf
      exact hf.symm
  · intro e
    subst e
    obtain ⟨rfl, rfl⟩ := p.uniq q
    exact ⟨rfl, rfl⟩
end HC

namespace HC
open PySem PySem.Spec PyProof.Rows L2
/-! ## more of texts -/
section
variable {X : Cx}
theorem mt_startswithT : MtR X "str.startswith" (fun x xs H Q => ∃ a b, x = .str (T a) ∧ xs = [.str (T b)] ∧ (∀ k, (k = true ↔ ∃ v, a = b ++ v) → Q (.bl k) H)) :=
  mtr_sub mt_startswith fun x xs H Q ⟨a, b, hx, hxs, q⟩ => ⟨_, _, hx, hxs, q _ (by
    unfold Txt.startswith
    rw [Bool.and_eq_true, subAt_T, decide_eq_true_iff, T_len, T_len, List.drop_zero]
    constructor
    · rintro ⟨_, h⟩
      exact ⟨a.drop b.length, by conv => lhs; rw [← List.take_append_drop b.length a, h]⟩
    · rintro ⟨v, e⟩
      subst e
      exact ⟨by rw [List.length_append]; omega, List.take_left' rfl⟩)⟩
theorem mt_endswithT : MtR X "str.endswith" (fun x xs H Q => ∃ a b, x = .str (T a) ∧ xs = [.str (T b)] ∧ (∀ k, (k = true ↔ ∃ v, a = v ++ b) → Q (.bl k) H)) :=
  mtr_sub mt_endswith fun x xs H Q ⟨a, b, hx, hxs, q⟩ => ⟨_, _, hx, hxs, q _ (by
    unfold Txt.endswith
    rw [Bool.and_eq_true, subAt_T, decide_eq_true_iff, T_len, T_len]
    constructor
    · rintro ⟨g1, g2⟩
      refine ⟨a.take (a.length - b.length), ?_⟩
      have g3 : a.drop (a.length - b.length) = b := by
        rw [List.take_of_length_le (by rw [List.length_drop]; omega)] at g2
        exact g2
      conv => lhs; rw [← List.take_append_drop (a.length - b.length) a, g3]
    · rintro ⟨v, e⟩
      subst e
      refine ⟨by rw [List.length_append]; omega, ?_⟩
      have : (v ++ b).length - b.length = v.length := by rw [List.length_append]; omega
      rw [this, List.drop_left]
      exact List.take_of_length_le (Nat.le_refl _))⟩
theorem rstrip_T (a : List Nat) : Txt.rstripChars (T a) (T [49]) = T (rs a) := by
  have hc : ∀ c, (T [49]).cps.contains c = decide (c = 49) := by
    intro c
    have : (T [49]).cps = #[49] := rfl
    rw [this]
    simp
  have hg : (T [49]).cps.contains = fun c => decide (c = 49) := funext hc
  unfold Txt.rstripChars Txt.stripBy
  have lo : stripLo (T [49]).cps.contains false (T a) = 0 := rfl
  have hi : stripHi (T [49]).cps.contains true (T a) 0 = (rs a).length := by
    unfold stripHi rs
    rw [if_pos rfl, T_len, T_list, List.drop_zero, hg, List.length_reverse]
    have := congrArg List.length (List.takeWhile_append_dropWhile (p := fun c => decide (c = 49)) (l := a.reverse))
    rw [List.length_append, List.length_reverse] at this
    omega
  have hrs : rs a = a.take (rs a).length := by
    have e := List.takeWhile_append_dropWhile (p := fun c => decide (c = 49)) (l := a.reverse)
    have e2 := congrArg List.reverse e
    rw [List.reverse_append, List.reverse_reverse] at e2
    have e3 : a = rs a ++ (a.reverse.takeWhile fun c => decide (c = 49)).reverse := e2.symm
    generalize hq : rs a = q at e3
    rw [e3, List.take_left' rfl]
  unfold stripSame stripped
  rw [lo, hi]
  split
  · rename_i h
    rw [Bool.and_eq_true] at h
    have h2 := eq_of_beq h.2
    rw [T_len] at h2
    rw [hrs, h2, List.take_length]
  · have e5 : Builtin.Str.strSub (T a) 0 (rs a).length = T (a.take (rs a).length) := by
      unfold Builtin.Str.strSub T
      simp
    rw [e5, ← hrs]
theorem mt_rstripT : MtR X "str.rstrip" (fun x xs H Q => ∃ a, x = .str (T a) ∧ xs = [.str (T [49])] ∧ a.length ≤ sizeLine ∧ Q (.str (T (rs a))) H) :=
  mtr_sub mt_rstripChars fun x xs H Q ⟨a, hx, hxs, hl, q⟩ => ⟨_, _, hx, hxs, by rw [T_len]; exact hl, by rw [rstrip_T]; exact q⟩
theorem op_notIn1 : OpR X (compareOp .NotIn) (fun x y H Q => ∃ (c : Nat) (l : List Nat), x = .str (T [c]) ∧ y = .str (T l) ∧ Q (.bl (!decide (c ∈ l))) H) :=
  opr_sub op_notIn_sign fun x y H Q ⟨c, l, hx, hy, q⟩ => ⟨c, T l, hx, hy, by rw [T_list]; exact q⟩
theorem rising_T : ∀ (p : List Nat) (l : List (List Nat)), risingS (T p) (l.map T) = true → (p :: l).Pairwise fun a b => ¬ b < a
  | p, [], _ => List.pairwise_singleton _ _
  | p, x :: r, h => by
    have h2 : (!ltCps (T x).cps.toList (T p).cps.toList && risingS (T x) (r.map T)) = true := h
    rw [Bool.and_eq_true, T_list, T_list, ltCps_eq] at h2
    have h3 := rising_T x r h2.2
    have h4 : ¬ x < p := by simpa using h2.1
    refine List.pairwise_cons.mpr ⟨fun y hy => ?_, h3⟩
    rcases List.mem_cons.mp hy with e | hy
    · rw [e]; exact h4
    · have h5 := (List.pairwise_cons.mp h3).1 y hy
      exact List.not_lt.mpr (List.le_trans (List.not_lt.mp h4) (List.not_lt.mp h5))
theorem perm_T {ys : List Str} {xs : List (List Nat)} (h : ys.Perm (xs.map T)) : ∃ zs : List (List Nat), ys = zs.map T ∧ zs.Perm xs := by
  refine ⟨ys.map fun s => s.cps.toList, ?_, ?_⟩
  · rw [List.map_map]
    have : ∀ y ∈ ys, T (y.cps.toList) = y := fun y _ => by
      unfold T
      cases y
      simp
    conv => lhs; rw [← List.map_id ys]
    exact List.map_congr_left fun y hy => (this y hy).symm
  · have := h.map fun s : Str => s.cps.toList
    rw [List.map_map] at this
    have e : (xs.map ((fun s : Str => s.cps.toList) ∘ T)) = xs := by
      conv => rhs; rw [← List.map_id xs]
      exact List.map_congr_left fun y _ => T_list y
    rw [e] at this
    exact this
/-- sorted of fewer than 64 texts -/
theorem cr_sortedT : CallR X (.builtin "sorted") (fun vs H Q => ∃ (a : Addr) (xs : List (List Nat)), vs = [V.ref a] ∧ SqL X.K H a (xs.map fun y => V.str (T y)) ∧ xs.length < 64 ∧
    ∀ (ys : List (List Nat)) (p : Addr), ys.Perm xs → (ys.Pairwise fun a b => ¬ b < a) → H p = none → Q (.ref p) (upd H p (.lst (ys.map fun y => V.str (T y))))) := by
  intro pn s σ H vs us Q I r h
  obtain ⟨a, xs, e, hs, hl, q⟩ := h
  refine cr_sortedS pn s σ H vs us Q I r ⟨a, xs.map T, e, by rw [List.map_map]; exact hs, by rw [List.length_map]; exact hl, fun ys p hp hsrt hnew => ?_⟩
  obtain ⟨zs, rfl, hz⟩ := perm_T hp
  rw [List.map_map]
  refine q zs p hz ?_ hnew
  cases zs with
  | nil => exact List.Pairwise.nil
  | cons x r => exact rising_T x r hsrt
end
/-! ## lists of texts, dicts of texts -/
def Wl (xs : List (List Nat)) : List V := xs.map fun y => V.str (T y)
/-- a dict of True with these keys -/
def kd (ks : List (List Nat)) : List (Key × V) := ks.map fun w => (Sum.inr (T w), V.bl true)
theorem kd_val (ks : List (List Nat)) (w : List Nat) : (valV (kd ks) (Sum.inr (T w))).isSome = decide (w ∈ ks) := by
  induction ks with
  | nil => rfl
  | cons x r ih =>
    show (valV ((Sum.inr (T x), V.bl true) :: kd r) (Sum.inr (T w))).isSome = _
    by_cases h : x = w
    · subst h
      rw [valV_pos rfl]
      simp
    · rw [valV_neg (fun e => h (T_inj (Sum.inr.inj e))), ih]
      have : (w ∈ x :: r) ↔ w ∈ r := by
        rw [List.mem_cons]
        exact ⟨fun q => q.elim (fun e => absurd e.symm h) id, .inr⟩
      simp only [this]
theorem kd_put {ks : List (List Nat)} {w : List Nat} (h : w ∉ ks) : putK (kd ks) (Sum.inr (T w)) (V.bl true) = kd (ks ++ [w]) := by
  unfold putK
  rw [valV_any, kd_val, decide_eq_false h, if_neg Bool.false_ne_true]
  unfold kd
  rw [List.map_append]
  rfl
theorem kd_get {ks : List (List Nat)} {i : Nat} {k : Key} {v : V} (h : (kd ks)[i]? = some (k, v)) : ∃ w, ks[i]? = some w ∧ k = Sum.inr (T w) := by
  unfold kd at h
  rw [List.getElem?_map] at h
  cases e : ks[i]? with
  | none => rw [e] at h; cases h
  | some w =>
    rw [e] at h
    have := Option.some.inj h
    exact ⟨w, rfl, (congrArg Prod.fst this).symm⟩
theorem kd_len (ks : List (List Nat)) : (kd ks).length = ks.length := by unfold kd; rw [List.length_map]
theorem Wl_len (xs : List (List Nat)) : (Wl xs).length = xs.length := by unfold Wl; rw [List.length_map]
theorem Wl_get {xs : List (List Nat)} {i : Nat} {v : V} (h : (Wl xs)[i]? = some v) : ∃ w, xs[i]? = some w ∧ v = V.str (T w) := by
  unfold Wl at h
  rw [List.getElem?_map] at h
  cases e : xs[i]? with
  | none => rw [e] at h; cases h
  | some w =>
    rw [e] at h
    exact ⟨w, rfl, (Option.some.inj h).symm⟩
theorem Wl_app (xs : List (List Nat)) (w : List Nat) : Wl xs ++ [V.str (T w)] = Wl (xs ++ [w]) := by
  unfold Wl
  rw [List.map_append]
  rfl
end HC

namespace HC
open PySem PySem.Spec PyProof.Rows L2
theorem strT4 (x : Str) : x = T x.cps.toList := by
  cases x
  unfold T
  simp
section
variable {X : Cx}
/-- sorted of texts, any number of them -/
theorem cr_sortedTA : CallR X (.builtin "sorted") (fun vs H Q => ∃ (a : Addr) (xs : List (List Nat)), vs = [V.ref a] ∧ SqL X.K H a (xs.map fun y => V.str (T y)) ∧ xs.length ≤ 1000000 ∧
    ∀ (ys : List (List Nat)) (p : Addr), ys.Perm xs → (ys.Pairwise fun a b => ¬ b < a) → H p = none → Q (.ref p) (upd H p (.lst (ys.map fun y => V.str (T y))))) := by
  intro pins s σ H vs us Q I r h
  obtain ⟨a, xs, rfl, hs, hl, q⟩ := h
  obtain ⟨its, rv, hlst, hz⟩ := I.list hs
  rw [Vals.ref1 r]
  have e1 : (xs.map fun y => V.str (T y)) = (xs.map T).map V.str := by rw [List.map_map]; rfl
  rw [e1] at rv
  have hlen0 := rv.length
  rw [List.length_map, List.length_map] at hlen0
  refine PyProof.Rows.sorted_strsAny hlst.isList rv.strs (by rw [← hlen0]; exact Nat.le_trans hl (by decide)) fun out ys h1 h2 h3 => ?_
  obtain ⟨zs, rfl, hzs⟩ := perm_T h2
  obtain ⟨ep, he'⟩ := PyProof.Rows.sortedAll_at s.heap its out
  have hlen : ((zs.map T).map V.str).length ≤ sizeLine := by rw [List.length_map, List.length_map, hzs.length_eq]; exact Nat.le_trans hl (by decide)
  have e2 : (zs.map fun y => V.str (T y)) = (zs.map T).map V.str := by rw [List.map_map]; rfl
  refine ⟨.ref _, upd H (s.heap.objs.size + 1) (.lst ((zs.map T).map V.str)), I.laid (t' := s.toks) (fun _ _ => PyProof.Rows.sortedAll_old) (Nat.le_succ _) ⟨hlen, out.toList, ep, vals_of_strs h1, he'⟩, rfl, ?_⟩
  rw [← e2]
  refine q zs _ hzs ?_ (I.hok.fresh (Nat.le_succ _))
  cases zs with
  | nil => exact List.Pairwise.nil
  | cons x r => exact rising_T x r h3
theorem op_geT : OpR X (compareOp .GtE) (fun x y H Q => ∃ a b, x = .str (T a) ∧ y = .str (T b) ∧ Q (.bl (!decide (a < b))) H) :=
  opr_sub op_ge_str fun x y H Q ⟨a, b, ha, hb, q⟩ => ⟨_, _, ha, hb, by rw [T_list, T_list]; exact q⟩
theorem inV_T (w : List Nat) (ws : List (List Nat)) : inV (.str (T w)) (Wl ws) = decide (w ∈ ws) := by
  unfold inV Wl
  induction ws with
  | nil => rfl
  | cons x r ih =>
    rw [List.map_cons, List.any_cons, ih]
    have e : eqV (.str (T x)) (.str (T w)) = decide (x = w) := by
      show decide (T x = T w) = _
      by_cases h : x = w
      · rw [h]; simp
      · rw [decide_eq_false h, decide_eq_false fun q => h (T_inj q)]
    rw [e, Bool.eq_iff_iff, Bool.or_eq_true, decide_eq_true_iff, decide_eq_true_iff, decide_eq_true_iff, List.mem_cons]
    exact ⟨fun h => h.elim (fun q => .inl q.symm) .inr, fun h => h.elim (fun q => .inl q.symm) .inr⟩
theorem flat_Wl (ws : List (List Nat)) : (Wl ws).all flatV = true := by
  unfold Wl
  rw [List.all_map]
  exact List.all_eq_true.mpr fun _ _ => rfl
def rInL (K : PySem.W.Frag) (neg : Bool) : R2 := fun x y H Q => ∃ (p : Addr) (w : List Nat) (ws : List (List Nat)), x = .str (T w) ∧ y = .ref p ∧ SqL K H p (Wl ws) ∧ Q (.bl (if neg then !decide (w ∈ ws) else decide (w ∈ ws))) H
theorem op_notInL : OpR X (compareOp .NotIn) (rInL X.K true) :=
  opr_sub op_notIn_seq fun x y H Q ⟨p, w, ws, hx, hy, hs, q⟩ => ⟨p, _, hy, .inl hs, by rw [hx]; rfl, flat_Wl ws, by rw [hx, inV_T]; exact q⟩
theorem op_inL : OpR X (compareOp .In) (rInL X.K false) :=
  opr_sub op_in_seq fun x y H Q ⟨p, w, ws, hx, hy, hs, q⟩ => ⟨p, _, hy, .inl hs, by rw [hx]; rfl, flat_Wl ws, by rw [hx, inV_T]; exact q⟩
theorem op_notInLk {K : PySem.W.Frag} (hK : X.K = K) : OpR X (compareOp .NotIn) (rInL K true) := hK ▸ op_notInL
theorem op_inLk {K : PySem.W.Frag} (hK : X.K = K) : OpR X (compareOp .In) (rInL K false) := hK ▸ op_inL
theorem ix_listk {K : PySem.W.Frag} (hK : X.K = K) : IxR X (rIxL K) := hK ▸ ix_list
theorem sl_listk {K : PySem.W.Frag} (hK : X.K = K) : SlR X (rSlL K) := hK ▸ sl_list
theorem pi_listk {K : PySem.W.Frag} (hK : X.K = K) {tg l : Expr} {tl : TE} (hl : PE X l tl) : PI X tg l (iList K tl) := hK ▸ pi_list hl
theorem op_neDk {K : PySem.W.Frag} (hK : X.K = K) (hu : X.A.units + 64 < cLine) : OpR X (compareOp .NotEq) (rNeD K) := hK ▸ op_neD hu
theorem op_eqDk {K : PySem.W.Frag} (hK : X.K = K) (hu : X.A.units + 64 < cLine) : OpR X (compareOp .Eq) (rEqD K) := hK ▸ op_eqD hu
/-! strip of any text -/
theorem tw_len {g : Nat → Bool} : ∀ (u : List Nat) (c : Nat), g c = false → ((u ++ [c]).takeWhile g).length ≤ u.length
  | [], c, h => by simp [h]
  | x :: u, c, h => by
    rw [List.cons_append, List.takeWhile_cons]
    split
    · rw [List.length_cons, List.length_cons]
      have := tw_len u c h
      omega
    · exact Nat.zero_le _
theorem strip_iff (a : List Nat) : (Txt.stripChars (T a) (T [48, 49])).cps.toList = [] ↔ Bin a := by
  constructor
  · intro h
    refine Classical.byContradiction fun hb => ?_
    have hg : ∀ c, (T [48, 49]).cps.contains c = true ↔ (c = 48 ∨ c = 49) := fun c => by
      have : (T [48, 49]).cps = #[48, 49] := rfl
      rw [this]
      simp
    obtain ⟨c, hc, hn⟩ : ∃ c ∈ a, ¬ (c = 48 ∨ c = 49) := by
      refine Classical.byContradiction fun q => hb fun c hc => Classical.byContradiction fun z => q ⟨c, hc, z⟩
    have hda : ∃ c0 rest, a.dropWhile (T [48, 49]).cps.contains = c0 :: rest ∧ (T [48, 49]).cps.contains c0 = false := by
      have key : ∀ l : List Nat, c ∈ l → ∃ c0 rest, l.dropWhile (T [48, 49]).cps.contains = c0 :: rest ∧ (T [48, 49]).cps.contains c0 = false := by
        intro l
        induction l with
        | nil => intro h; cases h
        | cons x l ih =>
          intro hm
          rw [List.dropWhile_cons]
          by_cases e : (T [48, 49]).cps.contains x = true
          · rw [if_pos e]
            rcases List.mem_cons.mp hm with q | q
            · rw [← q] at e; exact absurd ((hg c).mp e) hn
            · exact ih q
          · rw [if_neg e]
            exact ⟨x, l, rfl, by simpa using e⟩
      exact key a hc
    obtain ⟨c0, rest, ed, ec⟩ := hda
    have esp := List.takeWhile_append_dropWhile (p := (T [48, 49]).cps.contains) (l := a)
    rw [ed] at esp
    have hl := congrArg List.length esp
    rw [List.length_append, List.length_cons] at hl
    have edrop : a.drop (a.takeWhile (T [48, 49]).cps.contains).length = c0 :: rest := by
      have := List.drop_left (l₁ := a.takeWhile (T [48, 49]).cps.contains) (l₂ := c0 :: rest)
      rwa [esp] at this
    have lo : stripLo (T [48, 49]).cps.contains true (T a) = (a.takeWhile (T [48, 49]).cps.contains).length := by
      unfold stripLo
      rw [if_pos rfl, T_list]
    have htw := tw_len rest.reverse c0 ec
    rw [List.length_reverse] at htw
    have hi : stripHi (T [48, 49]).cps.contains true (T a) (a.takeWhile (T [48, 49]).cps.contains).length = a.length - ((rest.reverse ++ [c0]).takeWhile (T [48, 49]).cps.contains).length := by
      unfold stripHi
      rw [if_pos rfl, T_list, T_len, edrop, List.reverse_cons]
    have h2 := congrArg List.length h
    unfold Txt.stripChars Txt.stripBy at h2
    split at h2
    · rw [T_list] at h2
      simp at h2
      rw [h2] at hl
      simp at hl
    · unfold stripped at h2
      rw [lo, hi] at h2
      unfold Builtin.Str.strSub at h2
      rw [Array.length_toList] at h2
      have hsz : (T a).cps.size = a.length := by
        show a.toArray.size = a.length
        simp
      have h3 : ((T a).cps.extract (a.takeWhile (T [48, 49]).cps.contains).length (a.length - ((rest.reverse ++ [c0]).takeWhile (T [48, 49]).cps.contains).length)).size = 0 := h2
      rw [Array.size_extract, hsz] at h3
      omega
  · intro h
    rw [strip_T h, T_list]
theorem mt_stripB : MtR X "str.strip" (fun x xs H Q => ∃ a, x = .str (T a) ∧ xs = [.str (T [48, 49])] ∧ a.length ≤ sizeLine ∧ ∀ z : List Nat, (z = [] ↔ Bin a) → Q (.str (T z)) H) :=
  mtr_sub mt_stripChars fun x xs H Q ⟨a, hx, hxs, hl, q⟩ => ⟨_, _, hx, hxs, by rw [T_len]; exact hl, by rw [strT4 (Txt.stripChars (T a) (T [48, 49]))]; exact q _ (strip_iff a)⟩
end
end HC

namespace HC
open PySem PySem.Spec PyProof.Rows L2
/-! ## lists of words as data -/
def wD (ws : List (List Nat)) : PyData := .list (ws.map fun w => .str (T w))
theorem layAll (ws : List (List Nat)) (h : ∀ w ∈ ws, Cod w) : PyData.canLayAll0 (ws.map fun w => PyData.str (T w)) = true := by
  induction ws with
  | nil => simp [PyData.canLayAll0]
  | cons a r ih =>
    have := strOk_T (h a List.mem_cons_self)
    simp only [List.map_cons, PyData.canLayAll0, PyData.canLay0, this, ih fun w hw => h w (List.mem_cons_of_mem _ hw)]
    rfl
theorem depAll (ws : List (List Nat)) : PyData.depthAll (ws.map fun w => PyData.str (T w)) = 0 := by
  induction ws with
  | nil => simp [PyData.depthAll]
  | cons a r ih => simp [PyData.depthAll, PyData.depth, ih]
theorem wD_ok {ws : List (List Nat)} (h : ∀ w ∈ ws, Cod w) : SeqAt.shaped (wD ws) = true := by
  have h1 := layAll ws h
  have h2 := depAll ws
  simp [wD, SeqAt.shaped, PyData.canLay0, PyData.depth, h1, h2]
theorem eqAll : ∀ (a b : List (List Nat)), PyData.eqvAll (a.map fun w => PyData.str (T w)) (b.map fun w => PyData.str (T w)) = decide (a = b)
  | [], [] => by simp [PyData.eqvAll]
  | [], y :: b => by simp [PyData.eqvAll]
  | x :: a, [] => by simp [PyData.eqvAll]
  | x :: a, y :: b => by
    simp only [List.map_cons, PyData.eqvAll, PyData.eqv, eqAll a b]
    by_cases e : x = y
    · subst e; simp
    · have : ¬ T x = T y := fun q => e (T_inj q)
      simp [e, this]
theorem wD_eqv (a b : List (List Nat)) : PyData.eqv (wD a) (wD b) = decide (a = b) := by
  simp only [wD, PyData.eqv, eqAll]
theorem wlAll {K : PySem.W.Frag} {H : Hp} : ∀ ws : List (List Nat), DpAll K H (Wl ws) (ws.map fun w => .str (T w))
  | [] => .nil
  | _ :: r => .cons (.str _) (wlAll r)
theorem wD_dp {K : PySem.W.Frag} {H : Hp} {a : Addr} {ws : List (List Nat)} (h : H a = some (.lst (Wl ws))) : Dp K H (.ref a) (wD ws) := .lst (SqL.of h) (wlAll ws)
/-! ## pairs of words as data -/
def pD1 (p : List Nat × List Nat) : PyData := .tuple [.str (T p.1), .str (T p.2)]
def pD (ps : List (List Nat × List Nat)) : PyData := .list (ps.map pD1)
def CodP (ps : List (List Nat × List Nat)) : Prop := ∀ p ∈ ps, Cod p.1 ∧ Cod p.2
theorem pd_lay : ∀ ps : List (List Nat × List Nat), CodP ps → PyData.canLayAll0 (ps.map pD1) = true
  | [], _ => by simp [PyData.canLayAll0]
  | p :: r, h => by
    have h0 := h p List.mem_cons_self
    have h1 := strOk_T h0.1
    have h2 := strOk_T h0.2
    have h3 := pd_lay r fun z hz => h z (List.mem_cons_of_mem _ hz)
    simp [PyData.canLayAll0, PyData.canLay0, pD1, h1, h2]
    simpa [pD1] using h3
theorem pd_dep : ∀ ps : List (List Nat × List Nat), PyData.depthAll (ps.map pD1) ≤ 1
  | [] => by simp [PyData.depthAll]
  | p :: r => by
    have h2 := pd_dep r
    have h3 : (pD1 p).depth = 1 := by simp [pD1, PyData.depth, PyData.depthAll]
    simp only [List.map_cons, PyData.depthAll]
    omega
theorem pD_lay {ps : List (List Nat × List Nat)} (h : CodP ps) : (pD ps).canLay0 = true := by simp [pD, PyData.canLay0, pd_lay ps h]
theorem pD_dep (ps : List (List Nat × List Nat)) : (pD ps).depth ≤ 2 := by
  have h2 := pd_dep ps
  simp only [pD, PyData.depth]
  omega
theorem pD_ok {ps : List (List Nat × List Nat)} (h : CodP ps) : SeqAt.shaped (pD ps) = true := by
  have h2 := pD_dep ps
  show ((pD ps).canLay0 && decide ((pD ps).depth ≤ 64)) = true
  rw [Bool.and_eq_true]
  exact ⟨pD_lay h, decide_eq_true (by omega)⟩
theorem pd_eqAll : ∀ (a b : List (List Nat × List Nat)), PyData.eqvAll (a.map pD1) (b.map pD1) = decide (a = b)
  | [], [] => by simp [PyData.eqvAll]
  | [], y :: b => by simp [PyData.eqvAll]
  | x :: a, [] => by simp [PyData.eqvAll]
  | (x1, x2) :: a, (y1, y2) :: b => by
    simp only [List.map_cons, PyData.eqvAll, PyData.eqv, pD1]
    rw [pd_eqAll a b]
    by_cases e1 : x1 = y1
    · subst e1
      by_cases e2 : x2 = y2
      · subst e2; simp
      · have : ¬ T x2 = T y2 := fun q => e2 (T_inj q)
        simp [e2, this]
    · have : ¬ T x1 = T y1 := fun q => e1 (T_inj q)
      simp [e1, this]
theorem pD_eqv (a b : List (List Nat × List Nat)) : PyData.eqv (pD a) (pD b) = decide (a = b) := by
  simp only [pD, PyData.eqv, pd_eqAll]
/-! ## the same data on both sides -/
theorem pD1_lay {p : List Nat × List Nat} (h1 : Cod p.1) (h2 : Cod p.2) : (pD1 p).canLay0 = true := by
  have a := strOk_T h1
  have b := strOk_T h2
  simp [pD1, PyData.canLay0, PyData.canLayAll0, a, b]
theorem pD1_dep (p : List Nat × List Nat) : (pD1 p).depth = 1 := by simp [pD1, PyData.depth, PyData.depthAll]
/-- a datum is the same as itself -/
structure SelfD (K : PySem.W.Frag) (H : Hp) (x y : V) (dd : PyData) : Prop where
  l : Dp K H x dd
  r : Dp K H y dd
  ok : SeqAt.shaped dd = true
  ev : PyData.eqv dd dd = true
theorem selfD {K : PySem.W.Frag} {H : Hp} {x y : V} {dd : PyData} (l : Dp K H x dd) (r : Dp K H y dd) (h : dd.canLay0 = true) (hd : dd.depth ≤ 64) : SelfD K H x y dd :=
  ⟨l, r, by show (dd.canLay0 && decide (dd.depth ≤ 64)) = true; rw [Bool.and_eq_true]; exact ⟨h, decide_eq_true hd⟩, SeqAt.eqv_refl dd h⟩
theorem strD {K : PySem.W.Frag} {H : Hp} {l : List Nat} (h : Bin l) : SelfD K H (.str (T l)) (.str (T l)) (.str (T l)) :=
  selfD (.str _) (.str _) (by have := strOk_T h.cod; simp [PyData.canLay0, this]) (by simp [PyData.depth])
theorem nonD {K : PySem.W.Frag} {H : Hp} : SelfD K H .non .non .none := selfD .non .non (by simp [PyData.canLay0]) (by simp [PyData.depth])
end HC

namespace HC
open PySem PySem.Spec PyProof.Rows L2
def top (i : Nat) : Stmt := PySem.Challenge.pw_halfcuts_k54_moments_in_texts.main.body.getD i (.Pass ⟨0, 0, 0, 0⟩)
theorem max0 (x : Int) : 0 ≤ if x > 0 then x else 0 := by split <;> omega
theorem mul1 {c : Int} (h : 0 ≤ c) (h2 : c < 2 ^ 31) : CMulW 15488561 (c + 1) := wide_mul (a := 40) (b := 40) (by decide) (by omega) (by decide) (by decide) (by decide)
theorem mul2 {c : Int} (h : 0 ≤ c) (h2 : c < 2 ^ 31) : CMulW 32454379 (c + 1) := wide_mul (a := 40) (b := 40) (by decide) (by omega) (by decide) (by decide) (by decide)
theorem pow1 {b c : Int} (h0 : 0 ≤ b) (h1 : b < 2 ^ 62) (h : 0 ≤ c) (h2 : c < 2 ^ 31) : CPowX (b + 15488561 * (c + 1)) 3 := ⟨by decide, 64, by omega, by decide⟩
theorem pow2 {x c : Int} (h : 0 ≤ c) (h2 : c < 2 ^ 31) : CPowX (x % 162259276829213363391578010288127 + 32454379 * (c + 1)) 5 := ⟨by decide, 110, by omega, by decide⟩
theorem div1 {x : Int} : CDivW x 1048576 := wide_div (b := 40) (by decide) (by decide) (by decide) (by decide)
theorem rem_nat {Q : VK} {x : Int} {m : Nat} {H : Hp} (hm : 0 < m) (h : ∀ r : Nat, r < m → Q (.int (r : Int)) H) : Q (.int (x % (m : Int))) H := by
  have mpos : (0 : Int) < (m : Int) := by omega
  have e : x % (m : Int) = (((x % (m : Int)).toNat : Nat) : Int) := (Int.toNat_of_nonneg (Int.emod_nonneg _ (by omega))).symm
  rw [e]
  have := Int.emod_lt_of_pos x mpos
  exact h _ (by omega)
section
variable {P : Program} {w : World} {K : PySem.W.Frag} {mg : Str → Option Value} {base : Heap}
/-- a def of the top, with its promise -/
def Has (P : Program) (w : World) (K : PySem.W.Frag) (mg : Str → Option Value) (base : Heap) (x : Str) (k : Nat) (ps : List Str) (sp : Sp) : Prop :=
  ∃ (f : Addr) (fd : FuncData), mg x = some (.ref f) ∧ PySem.W.keepIn K (.ref f) = true ∧ Binds K fd ps [] ∧ FnOk P w K mg base CX0 k f fd ps sp
end

/-- a word: bits, at most so many -/
def spWord : Sp := fun vs H Q _ => ∃ (p : Addr) (m n : Nat), vs = [.ref p, .int (m : Int)] ∧ PoolAt H p n ∧ n + 100 < 2 ^ 30 ∧ m ≤ 90 ∧
  ∀ H' (l : List Nat), SB p H H' → PoolAt H' p (n + 100) → Bin l → l.length ≤ m → Q (.str (T l)) H'
theorem Bin.nil : Bin [] := fun _ h => nomatch h
theorem Bin.app {a b : List Nat} (h : Bin a) (g : Bin b) : Bin (a ++ b) := fun c hc => by
  rcases List.mem_append.mp hc with q | q
  · exact h c q
  · exact g c q
theorem Bin.take {a : List Nat} (h : Bin a) (n : Nat) : Bin (a.take n) := fun c hc => h c (List.mem_of_mem_take hc)
theorem Bin.drop {a : List Nat} (h : Bin a) (n : Nat) : Bin (a.drop n) := fun c hc => h c (List.mem_of_mem_drop hc)
theorem Bin.rep {a : List Nat} (h : Bin a) (n : Nat) : Bin (rep n a) := by
  induction n with
  | zero => exact Bin.nil
  | succ n ih => rw [rep_succ]; exact h.app ih
theorem bits4 {r : Nat} (h : r < 4) : ∃ l : List Nat, ([V.str (T [48]), V.str (T [49]), V.str (T [48, 49]), V.str (T [49, 48])])[r]? = some (.str (T l)) ∧ Bin l ∧ 1 ≤ l.length ∧ l.length ≤ 2 := by
  have b0 : Bin [48] := fun c hc => by simp at hc; omega
  have b1 : Bin [49] := fun c hc => by simp at hc; omega
  match r, h with
  | 0, _ => exact ⟨[48], rfl, b0, by decide, by decide⟩
  | 1, _ => exact ⟨[49], rfl, b1, by decide, by decide⟩
  | 2, _ => exact ⟨[48, 49], rfl, b0.app b1, by decide, by decide⟩
  | 3, _ => exact ⟨[49, 48], rfl, b1.app b0, by decide, by decide⟩
theorem bit2 {r : Nat} (h : r < 2) : ∃ c : Nat, ([48, 49] : List Nat)[r]? = some c ∧ Bin [c] := by
  match r, h with
  | 0, _ => exact ⟨48, rfl, fun c hc => by simp at hc; omega⟩
  | 1, _ => exact ⟨49, rfl, fun c hc => by simp at hc; omega⟩
section
variable {P : Program} {w : World} {K : PySem.W.Frag} {mg : Str → Option Value} {base : Heap}
end

/-- a moment of a law: head, ring -/
def spMoment : Sp := fun vs H Q _ => ∃ (p : Addr) (n : Nat), vs = [.ref p] ∧ PoolAt H p n ∧ n + 300 < 2 ^ 30 ∧
  ∀ H' (t : Addr) (h r : List Nat), SB p H H' → PoolAt H' p (n + 300) → MomAt H' t h r → Bin h → Bin r → h.length ≤ 60 → 1 ≤ r.length → r.length ≤ 12 → Q (.ref t) H'
theorem pick3 {a b c r : Nat} (h : r < 3) : ∃ m : Nat, ([V.int (a : Int), V.int (b : Int), V.int (c : Int)])[r]? = some (.int (m : Int)) ∧ (m = a ∨ m = b ∨ m = c) := by
  match r, h with
  | 0, _ => exact ⟨a, rfl, .inl rfl⟩
  | 1, _ => exact ⟨b, rfl, .inr (.inl rfl)⟩
  | 2, _ => exact ⟨c, rfl, .inr (.inr rfl)⟩
section
variable {P : Program} {w : World} {K : PySem.W.Frag} {mg : Str → Option Value} {base : Heap}
end
def spSigns : Sp := fun vs H Q _ => ∃ (h r : List Nat) (n : Nat), vs = [.str (T h), .str (T r), .int (n : Int)] ∧ h.length ≤ 200 ∧ 1 ≤ r.length ∧ r.length ≤ 200 ∧ n ≤ 2000 ∧ Q (.str (T (sg h r n))) H
section
variable {P : Program} {w : World} {K : PySem.W.Frag} {mg : Str → Option Value} {base : Heap}
end
end HC

namespace HC
open PySem PySem.Spec PyProof.Rows L2
abbrev s_is_word : Stmt := top 5
abbrev N_is_word : List Str := ["text"]
theorem sc_is_word : FnScope N_is_word ["text"] (defScope s_is_word) := ⟨rfl, rfl, rfl, by decide +kernel, rfl, by decide +kernel, by decide +kernel⟩

abbrev s_check_moment : Stmt := top 6
abbrev N_check_moment : List Str := ["moment", "head", "ring"]
theorem sc_check_moment : FnScope N_check_moment ["moment"] (defScope s_check_moment) := ⟨rfl, rfl, rfl, by decide +kernel, rfl, by decide +kernel, by decide +kernel⟩


abbrev s_shortest_ring : Stmt := top 9
abbrev N_shortest_ring : List Str := ["ring"]
theorem sc_shortest_ring : FnScope N_shortest_ring ["ring"] (defScope s_shortest_ring) := ⟨rfl, rfl, rfl, by decide +kernel, rfl, by decide +kernel, by decide +kernel⟩



/-! ## promises of the program's defs, for arguments that are right -/
/-- a moment that is one, not too long -/
structure Mom (h r : List Nat) : Prop where
  bh : Bin h
  br : Bin r
  lh : h.length ≤ 200
  l1 : 1 ≤ r.length
  lr : r.length ≤ 50
def spIsWord : Sp := fun vs H Q _ => ∃ l : List Nat, vs = [.str (T l)] ∧ l.length ≤ 1000 ∧ ∀ b : Bool, (b = true ↔ Bin l) → Q (.bl b) H
def spCheckMoment : Sp := fun vs H Q _ => ∃ (t : Addr) (h r : List Nat), vs = [.ref t] ∧ MomAt H t h r ∧ Mom h r ∧ Q .non H
def spFirstSigns : Sp := fun vs H Q _ => ∃ (t : Addr) (h r : List Nat) (n : Nat), vs = [.ref t, .int (n : Int)] ∧ MomAt H t h r ∧ Mom h r ∧ n ≤ 2000 ∧ Q (.str (T (sg h r n))) H
def spShortest : Sp := fun vs H Q _ => ∃ (r : List Nat), vs = [.str (T r)] ∧ 1 ≤ r.length ∧ r.length ≤ 200 ∧ ∀ k, Per r k → Q (.str (T (r.take k))) H
def spIsBefore : Sp := fun vs H Q _ => ∃ (t u : Addr) (h1 r1 h2 r2 : List Nat), vs = [.ref t, .ref u] ∧ MomAt H t h1 r1 ∧ MomAt H u h2 r2 ∧ Mom h1 r1 ∧ Mom h2 r2 ∧
  ∀ b : Bool, (b = true ↔ Bef (val h1 r1) (val h2 r2)) → Q (.bl b) H
def spTail : Sp := fun vs H Q _ => ∃ (t u : Addr) (h1 r1 h2 r2 : List Nat), vs = [.ref t, .ref u] ∧ MomAt H t h1 r1 ∧ MomAt H u h2 r2 ∧ Mom h1 r1 ∧ Mom h2 r2 ∧
  ∀ b : Bool, (b = true ↔ Tail r1 r2) → Q (.bl b) H
theorem le_line {n : Nat} (h : n ≤ 16000000) : n ≤ sizeLine := Nat.le_trans h (by decide)
section
variable {P : Program} {w : World} {K : PySem.W.Frag} {mg : Str → Option Value} {base : Heap}
theorem MomAt.tup {H : Hp} {t : Addr} {h r : List Nat} (m : MomAt H t h r) : SqT K H t [.str (T h), .str (T r)] := SqT.of m
theorem ok_is_word {f : Addr} {fd : FuncData} (F : Fun K "is_word" "is_word" s_is_word f fd) : FnOk P w K mg base CX0 1 f fd ["text"] spIsWord := by
  have sc := sc_is_word
  refine F.ok sc (fun vs H Q E h => ?_) (fun cdv A outer s H vs Q E hr h => ?_)
  · obtain ⟨l, rfl, _⟩ := h
    rfl
  · obtain ⟨l, rfl, hl, k⟩ := h
    refine ⟨_, (pss_one (ps_ret (pe_cmpR op_eqT (pe_bm PySem.F.plainAttrs_str PySem.F.slot_str_strip PySem.F.type_str_strip mt_stripB (pv 0) (pa_cons (pe_strT [48, 49] (by decide +kernel)) pa_nil)) (pe_strT [] (by decide +kernel)) (nomark _)))), ?_⟩
    refine ⟨_, rfl, rfl, l, rfl, rfl, le_line (by omega), fun z hz => ?_⟩
    exact ⟨_, _, rfl, rfl, k _ (by rw [decide_eq_true_iff]; exact hz)⟩
theorem ok_shortest_ring {f : Addr} {fd : FuncData} (F : Fun K "shortest_ring" "shortest_ring" s_shortest_ring f fd) : FnOk P w K mg base CX0 1 f fd ["ring"] spShortest := by
  have sc := sc_shortest_ring
  refine F.ok sc (fun vs H Q E h => ?_) (fun cdv A outer s H vs Q E hr h => ?_)
  · obtain ⟨r, rfl, _⟩ := h
    rfl
  · obtain ⟨r, rfl, h1, h2, k⟩ := h
    refine ⟨_, (pss_one (ps_ret (pe_slice sl_T (pv 0) po_none (po_some (pe_bm PySem.F.plainAttrs_str PySem.F.slot_str_find PySem.F.type_str_find mt_findT (pe_op op_addT (pv 0) (pv 0)) (pa_cons (pv 0) (pa_cons pe_int pa_nil))))))), ?_⟩
    obtain ⟨j, p⟩ := per_exists h1
    refine ⟨_, rfl, _, rfl, _, rfl, r, r, rfl, rfl, le_line (by omega), rfl, _, rfl, r ++ r, r, 1, j, rfl, rfl, p.pos, (at_inv h1 p.le).mpr p.inv, fun i i1 i2 hi => p.least i i1 i2 ((at_inv h1 (by have := p.le; omega)).mp hi), _, rfl, r, rfl, le_line (by omega), ?_⟩
    rw [cut_hi]
    exact k j p
end
end HC

namespace HC
open PySem PySem.Spec PyProof.Rows L2
abbrev s_shared_end : Stmt := top 10
abbrev N_shared_end : List Str := ["head", "ring", "same"]
theorem sc_shared_end : FnScope N_shared_end ["head", "ring"] (defScope s_shared_end) := ⟨rfl, rfl, rfl, by decide +kernel, rfl, by decide +kernel, by decide +kernel⟩

abbrev s_plain : Stmt := top 8
abbrev N_plain : List Str := ["moment", "head", "ring", "same", "turn"]
theorem sc_plain : FnScope N_plain ["moment"] (defScope s_plain) := ⟨rfl, rfl, rfl, by decide +kernel, rfl, by decide +kernel, by decide +kernel⟩






/-- one keyword; three, the other way round -/
def oneG {α : Type} (us ws : List α) : List α := match us, ws with
  | [], [a] => [a]
  | _, _ => []
theorem oneRel {vs : List V} {us : List Value} {zs : List V} {ws : List Value} (r : Vals vs us) (q : Vals zs ws) : Vals (oneG vs zs) (oneG us ws) := by
  cases r with
  | cons => exact .nil
  | nil =>
    cases q with
    | nil => exact .nil
    | cons q1 q =>
      cases q with
      | nil => exact .cons q1 .nil
      | cons => exact .nil
theorem kb_one {K : PySem.W.Frag} {fd : FuncData} {p : Str} (h : ∀ a : Value, bindArgs fd ⟨[], [(p, a)]⟩ = pure [(p, a)]) : KBinds K fd [p] [p] oneG oneG where
  to := fun s us ws _ hl => by
    match us, ws, hl with
    | [], [a], _ => exact .of_eq (h a)
    | [], [], hl => simp [oneG] at hl
    | [], _ :: _ :: _, hl => simp [oneG] at hl
    | _ :: _, _, hl => simp [oneG] at hl
  rel := oneRel
def revG {α : Type} (us ws : List α) : List α := match us, ws with
  | [], [a, b, c] => [c, b, a]
  | _, _ => []
theorem revRel {vs : List V} {us : List Value} {zs : List V} {ws : List Value} (r : Vals vs us) (q : Vals zs ws) : Vals (revG vs zs) (revG us ws) := by
  cases r with
  | cons => exact .nil
  | nil =>
    cases q with
    | nil => exact .nil
    | cons q1 q =>
      cases q with
      | nil => exact .nil
      | cons q2 q =>
        cases q with
        | nil => exact .nil
        | cons q3 q =>
          cases q with
          | nil => exact .cons q3 (.cons q2 (.cons q1 .nil))
          | cons => exact .nil
theorem kb_rev3 {K : PySem.W.Frag} {fd : FuncData} {p q t : Str} (h : ∀ a b c : Value, bindArgs fd ⟨[], [(t, a), (q, b), (p, c)]⟩ = pure [(p, c), (q, b), (t, a)]) : KBinds K fd [p, q, t] [t, q, p] revG revG where
  to := fun s us ws _ hl => by
    match us, ws, hl with
    | [], [a, b, c], _ => exact .of_eq (h a b c)
    | [], [], hl => simp [revG] at hl
    | [], [_], hl => simp [revG] at hl
    | [], [_, _], hl => simp [revG] at hl
    | [], _ :: _ :: _ :: _ :: _, hl => simp [revG] at hl
    | _ :: _, _, hl => simp [revG] at hl
  rel := revRel
/-- a def of the top, with its promise, called by keywords, too -/
def HasG (ks : List Str) (g : {α : Type} → List α → List α → List α) (P : Program) (w : World) (K : PySem.W.Frag) (mg : Str → Option Value) (base : Heap) (x : Str) (k : Nat) (ps : List Str) (sp : Sp) : Prop :=
  ∃ (f : Addr) (fd : FuncData), mg x = some (.ref f) ∧ PySem.W.keepIn K (.ref f) = true ∧ Binds K fd ps [] ∧ KBinds K fd ps ks g g ∧ FnOk P w K mg base CX0 k f fd ps sp
theorem atI_neg {α : Type} {xs : List α} {j : Nat} {v : α} (hj : j < xs.length) (e : xs[xs.length - 1 - j]? = some v) : atI xs (-1 - (j : Int)) = some v := by
  have q : ixN xs.length (-1 - (j : Int)) = some (xs.length - 1 - j) := by
    unfold ixN
    rw [if_neg (by omega), if_pos (by omega)]
    congr 1
    omega
  unfold atI
  rw [q]
  exact e
def spShared : Sp := fun vs H Q _ => ∃ (h r : List Nat), vs = [.str (T h), .str (T r)] ∧ h.length ≤ 200 ∧ 1 ≤ r.length ∧ r.length ≤ 200 ∧
  ∀ same : Nat, same ≤ h.length → (∀ j, j < same → h[h.length - 1 - j]? = r[r.length - 1 - j % r.length]?) → (same = h.length ∨ h[h.length - 1 - same]? ≠ r[r.length - 1 - same % r.length]?) → Q (.int (same : Int)) H
def spPlain : Sp := fun vs H Q _ => ∃ (t : Addr) (h r : List Nat), vs = [.ref t] ∧ MomAt H t h r ∧ Mom h r ∧
  ∀ b k, PlainS (val h r) b k → ∀ H' u, Same H H' → MomAt H' u (pH (val h r) b) (pR (val h r) b k) → Q (.ref u) H'
def spSignAt : Sp := fun vs H Q _ => ∃ (t : Addr) (h r : List Nat) (n : Nat), vs = [.ref t, .int (n : Int)] ∧ MomAt H t h r ∧ Mom h r ∧ Q (.str (T [val h r n])) H
def spAtLeast : Sp := fun vs H Q _ => ∃ a b : Int, vs = [.int a, .int b] ∧ b ≤ a ∧ Q .non H
def spPlaces : Sp := fun vs H Q _ => ∃ a b : Int, vs = [.int a, .int b] ∧ 0 ≤ a ∧ a ≤ b ∧ Q .non H
def spLetters : Sp := fun vs H Q _ => ∃ (t : Addr) (h r : List Nat) (lo n : Nat), vs = [.ref t, .int (lo : Int), .int ((lo + n : Nat) : Int)] ∧ MomAt H t h r ∧ Mom h r ∧ n ≤ 1000 ∧
  ∀ H', Same H H' → Q (.str (T (L n fun i => val h r (lo + i)))) H'
section
variable {P : Program} {w : World} {K : PySem.W.Frag} {mg : Str → Option Value} {base : Heap}
theorem ok_shared_end {f : Addr} {fd : FuncData} (F : Fun K "shared_end" "shared_end" s_shared_end f fd) (B : Blt mg) : FnOk P w K mg base CX0 1 f fd ["head", "ring"] spShared := by
  have sc := sc_shared_end
  refine F.ok sc (fun vs H Q E h => ?_) (fun cdv A outer s H vs Q E hr h => ?_)
  · obtain ⟨hd, r, rfl, _⟩ := h
    rfl
  · obtain ⟨hd, r, rfl, h1, h2, h3, k⟩ := h
    refine ⟨_, (pss_cons (ps_set (i := 2) sc.nd rfl (by first | exact Or.inl rfl | exact Or.inr rfl) pe_int)
    (pss_cons (ps_while PassesOwn.never (PW.pt (pw_and (pt_cmpR op_lt (pv 2) (pe_callB call_lenT (by rfl) B.len PySem.boot_len (pa_cons (pv 0) pa_nil)) (nomark _)) (pw_and1 (pt_cmpR op_eqT (pe_ix ix_T (pv 0) (pe_op op_sub (pe_un un_neg pe_int) (pv 2)) (fun _ _ => rfl)) (pe_ix ix_T (pv 1) (pe_op op_sub (pe_un un_neg pe_int) (pe_op op_mod (pv 2) (pe_callB call_lenT (by rfl) B.len PySem.boot_len (pa_cons (pv 1) pa_nil)))) (fun _ _ => rfl)) (nomark _))))) (pss_one (ps_aug (i := 2) sc.nd rfl (by first | exact Or.inl rfl | exact Or.inr rfl) pe_int ip_add)))
    (pss_one (ps_ret (pv 2))))), ?_⟩
    refine ⟨fun m σ H' => H' = H ∧ ∃ same : Nat, m = hd.length - same ∧ same ≤ hd.length ∧ (∀ j, j < same → hd[hd.length - 1 - j]? = r[r.length - 1 - j % r.length]?) ∧ σ = [some (.str (T hd)), some (.str (T r)), some (.int (same : Int))], ⟨_, rfl, 0, rfl, by omega, fun j hj => by omega, rfl⟩, ?_⟩
    rintro m σ H' ⟨rfl, same, rfl, hs, hj, rfl⟩
    refine ⟨_, rfl, _, rfl, hd, rfl, le_line (by omega), _, _, rfl, rfl, _, rfl, ?_⟩
    refine ite2 (fun c1 => ?_) (fun c1 => ?_)
    · have c2 := of_decide_eq_true c1
      have hmod : same % r.length < r.length := Nat.mod_lt _ h2
      have l1 : hd.length - 1 - same < hd.length := by omega
      have l2 : r.length - 1 - same % r.length < r.length := by omega
      refine ⟨_, rfl, _, rfl, _, rfl, _, _, rfl, rfl, hd, _, hd[hd.length - 1 - same], rfl, rfl, le_line (by omega), atI_neg (by omega) (List.getElem?_eq_getElem l1), ?_⟩
      refine ⟨_, rfl, _, rfl, _, rfl, _, rfl, r, rfl, le_line (by omega), _, _, rfl, rfl, (by show (0 : Int) < (r.length : Int); omega), _, _, rfl, rfl, r, _, r[r.length - 1 - same % r.length], rfl, rfl, le_line (by omega), ?_, ?_⟩
      · exact atI_neg (j := same % r.length) hmod (List.getElem?_eq_getElem l2)
      refine ⟨_, _, rfl, rfl, _, rfl, ?_⟩
      have e1 : hd[hd.length - 1 - same]? = some hd[hd.length - 1 - same] := List.getElem?_eq_getElem l1
      have e2 : r[r.length - 1 - same % r.length]? = some r[r.length - 1 - same % r.length] := List.getElem?_eq_getElem l2
      refine ite2 (fun c3 => ?_) (fun c3 => ?_)
      · have c4 := of_decide_eq_true c3
        have c5 : hd[hd.length - 1 - same] = r[r.length - 1 - same % r.length] := by simpa using c4
        refine ⟨fun σ' H2 => H2 = H' ∧ σ' = [some (.str (T hd)), some (.str (T r)), some (.int ((same : Int) + 1))], fun σ' H2 ⟨q1, q2⟩ => ⟨_, ?_, q1, same + 1, rfl, by omega, ?_, by rw [q2]; rfl⟩, ?_⟩
        · omega
        · intro j j1
          by_cases e : j = same
          · rw [e, e1, e2, c5]
          · exact hj j (by omega)
        · exact ⟨_, rfl, _, _, rfl, rfl, rfl, rfl⟩
      · refine ⟨_, rfl, k same hs hj (.inr fun q => c3 (decide_eq_true ?_))⟩
        rw [e1, e2] at q
        rw [Option.some.inj q]
    · refine ⟨_, rfl, k same hs hj (.inl ?_)⟩
      have : ¬ ((same : Int) < (hd.length : Int)) := fun q => c1 (decide_eq_true q)
      omega
end
end HC

namespace HC
open PySem PySem.Spec PyProof.Rows L2
theorem PlainS.back {s : Nat → Nat} {b k : Nat} (p : PlainS s b k) : val (pH s b) (pR s b k) = s := by
  funext i
  have hf := val_L (s := s) (b := b) p.pos i
  refine hf.trans ?_
  by_cases c : i < b
  · rw [if_pos c]
  · rw [if_neg c]
    have key : ∀ q j, b ≤ j → s (j + q * k) = s j := fun q => by
      induction q with
      | zero => intro j _; rw [Nat.zero_mul]; rfl
      | succ q ih =>
        intro j hj
        rw [Nat.succ_mul, ← Nat.add_assoc, p.c _ (by omega), ih j hj]
    have h1 := key ((i - b) / k) (b + (i - b) % k) (by omega)
    rw [← h1]
    congr 1
    have := Nat.mod_add_div (i - b) k
    rw [Nat.mul_comm ((i - b) / k) k]
    omega
end HC

namespace HC
open PySem PySem.Spec PyProof.Rows L2
/-! ## {x!r} in an f-text: some text -/
inductive Shows (K : PySem.W.Frag) (H : Hp) : V → Prop
  | non : Shows K H .non
  | str (y : Str) (h : (reprText y).length ≤ sizeLine) : Shows K H (.str y)
  | int (i : Int) (h : i.natAbs.log2 < 1920) : Shows K H (.int i)
  | tup (a : Addr) (l : List Str) (h1 : SqT K H a (l.map V.str)) (h2 : ∀ y ∈ l, ∀ c ∈ y.cps.toList, c < 16 ^ 8) (h3 : fmtCost l + 7 ≤ sizeLine) : Shows K H (.ref a)
def tFmtRA (K : PySem.W.Frag) (te : TE) : TE := fun σ H Q => te σ H fun x H1 => Shows K H1 x ∧ ∀ m : Str, Q (.str m) H1
section
variable {X : Cx}
theorem pe_fmtRA {e : Expr} {te : TE} {pos : Pos} (hu : X.A.units < cLine) (he : PE X e te) : PE X (.FormattedValue e 114 none pos) (tFmtRA X.K te) := by
  refine ⟨fun pins s σ H Q I h => ?_⟩
  refine wpAny_FormattedValue_repr (thn (he.run pins s σ H _ I h) fun v s1 hv => ?_)
  obtain ⟨x, H1, I1, r1, sh, q⟩ := hv
  have fin : ∀ (m : Str) (u tk : Tok), m.length ≤ sizeLine → wpAny (model X.prog X.w) X.A (formatField (.str m u) Str.empty) (EP X pins σ Q) X.xe { s1 with toks := tk } := fun m u tk hz =>
    wpAny_formatField_str ⟨.str m, H1, I1.tok _, ⟨_, rfl⟩, q m⟩ ⟨.str m, H1, I1.tok _, ⟨_, rfl⟩, q m⟩ hz
  cases sh with
  | non =>
    cases r1
    exact pyReprObj_none (fin _ _ _ (by decide +kernel))
  | str y hz =>
    obtain ⟨t, rfl⟩ := r1
    exact pyReprObj_str (fin _ _ _ hz) hz
  | int i hz =>
    obtain ⟨t, rfl⟩ := r1
    exact pyReprObj_int hz (fin _ _ _ (int_text_fits hz))
  | tup a l ht hc hz =>
    cases r1
    obtain ⟨its, rv, ⟨o, ho, hcl, n, hd⟩, _⟩ := I1.tuple ht
    have hp := fmt_piled l hc
    have htx := fmt_text (l.map reprText)
    refine wpAny_pyReprObj_slot (by omega) ⟨o, ho, hcl⟩ F.slot_tuple_repr (fmt_tuple_repr (ts := l.map reprText) ho hcl hd (repr_all rv fun y hy => ?_) (by omega) fun m u tk hm => ?_)
    · have h1 := StrLaws.reprText_len y (hc y hy)
      have h2 := fmtCost_mem hy
      omega
    · exact ⟨m, u, rfl, fin m u tk (by omega)⟩
end
end HC

namespace HC
open PySem PySem.Spec PyProof.Rows L2
/-! ## super().__init__(text) and one field, in an own exception class's __init__ -/
section
open PySem.W
variable {prog : Program} {w : World} {A : Around} {E : Value → Shared → Prop} {h : Heap} {g : Array GenState} {d : Drawn} {t : Nat} {os : OsState}
variable {nm q : Str} {C N : Addr} {bs bm : List Value} {hdct : Bool} {sn : List Str} {sub : List Value} {ab : Bool} {col : Option Bool} {dd : Option Addr} {k0 k1 k2 k3 k5 : Option Value}
/-- ValueError.__init__ bound to an exception, called -/
theorem call_mw {u e t0 : Addr} {rest : List Value} {Q : Value → Shared → Prop}
    (hC : h.get? C = some (excClassObj nm q C N bs bm hdct sn sub ab col dd k0 k1 k2 k3 k5 "ValueError.__new__")) (he : h.get? e = some (HandSPX.excO C t0)) (hu : h.get? u = some (kxs_mw "ValueError.__init__" e)) (hrest : rest.length ≤ sizeLine)
    (hq : ∀ h' t1, (∀ b o, b ≠ e → h.get? b = some o → h'.get? b = some o) → h'.get? e = some (HandSPX.excO C t1) → Q .none ⟨h', g, d, t, os⟩) :
    wpAny (model prog w) A (call (.ref u) rest) Q E ⟨h, g, d, t, os⟩ := by
  refine wpAny_call (codeAny_of_tree ?_)
  show wpAny _ A.in1 (callAny (.ref u) ⟨rest, []⟩) _ _ _
  simp only [callAny]
  refine wpAny_bind (wpAny_load hu ?_)
  simp only [kxs_mw, show (Value.type "method-wrapper" == Value.type "method" || Value.type "method-wrapper" == Value.type "builtin_function_or_method" || Value.type "method-wrapper" == Value.type "method-wrapper") = true by decide, if_true]
  refine W.KFB.if_so (by decide) ?_
  refine wpAny_bind (ESX.check_bound F.excBase_ValueError hC he rfl ?_)
  refine wpAny_bind (wpAny_pure (wpAny_pure ?_))
  refine ⟨Code.quiet_builtin _ (by decide +kernel), codeAny_builtin F.excBase_ValueError.initEntry ?_⟩
  rw [Around.under_plainId F.excBase_ValueError.init.plain _]
  wp_walk
  refine hq _ h.objs.size (fun b o hb ho => ?_) ?_
  · rw [Heap.get?_update_other _ _ (Ne.symm hb)]
    exact Heap.get?_push_of_some _ ho
  · rw [Heap.get?_update_self _ (Heap.get?_push_of_some _ he) rfl]
    rfl
end
end HC

namespace HC
open PySem PySem.Spec PyProof.Rows L2 NdefX
/-! ## super().__init__(text) as the first statement of an own exception class's __init__ -/
/-- what the text says of the def: its object at f, its code object at cda, the cell of its class, at cc, the class at D -/
structure SupT (P : Program) (K : PySem.W.Frag) (mg : Str → Option Value) (f cda cc D : Addr) : Prop where
  fo : ∃ oc od fd osl ar, K.lookup f = some ⟨oc, od, .func fd, osl⟩ ∧ (fd.params.posonlyargs ++ fd.params.args).head? = some ar ∧ ar.arg = "self"
  co : ∃ ccl cdd vs ccs file tf, K.lookup cda = some ⟨ccl, cdd, .fields vs, ccs⟩ ∧ vs[2]? = some (.str file tf) ∧ ((P.main.file : Str) == file) = true
  ce : ∃ cl cld csl, K.lookup cc = some ⟨cl, cld, .cell (some (.ref D)), csl⟩
  cD : ∃ cdD, PySem.W.clsIn K D = some cdD
  sg : mg "super" = none
  tp : (P.main.scope.names.lookup ("super" : Str)).isSome = false
  op : PySem.W.nsIn K cStatics "thirdparty.any" = some none
/-- the class at C stands above .. under D, which is ValueError's next -/
structure SubOf (K : PySem.W.Frag) (D C : Addr) : Prop where
  ex : OexC K C
  sub : PySem.W.mroIn K C (.ref D) = some true
  nxt : PySem.W.ks_superIn K C D "__init__" = some (some (.builtin "ValueError.__init__"))
  ve : PySem.W.subIn K (.ref C) (.type "ValueError") = some true
  nov : PySem.W.findIn K (.ref C) "value" = some none
/-- what the scope says -/
structure SupS (sc : Scope) : Prop where
  kind : sc.kind = .function
  su : sc.names.lookup ("super" : Str) = some .globalImplicit
  cl : sc.names.lookup ("__class__" : Str) = some .free
  se : sc.names.lookup ("self" : Str) = some .local
section
variable {X : Cx} {pins : List (Addr × Obj)} {σ : L2.St} {H : Hp} {s : Shared} {a C D f cda cc : Addr} {body : List Stmt} {e : Expr} {te : TE} {p0 p1 p2 p3 p4 : Pos}
theorem sup_first {pl : Sem Bool} (T : SupT X.prog X.K X.mg f cda cc D) (S : SupS X.env.scope) (hf : X.env.func = some f) (hco : X.env.code = .ref cda) (hcc : X.env.cells.lookup ("__class__" : Str) = some cc) (hN : X.N[0]? = some ("self" : Str))
    (I : L2.Inv X pins σ H s) (hs : σ[0]? = some (some (.ref a))) (G : SubOf X.K D C) (ea : H a = some (exo a C none)) (he : PE X e te) (hte : te σ H fun _ H1 => H1 = H)
    (h1 : eval (.Call (.Attribute (.Call (.Name "super" p0) [] [] p1) "__init__" p2) [e] [] p3) X.env = (do
      let ov ← attributeBase (.Call (.Name "super" p0) [] [] p1) "__init__" X.env (eval (.Call (.Name "super" p0) [] [] p1) X.env)
      standAt p2.atName
      let (f, first) ← holding [ov] (getMethod ov "__init__" pl)
      callWith p3 f first (backTo p3 (starEach [e] X.env)) []))
    (h2 : interactive X.env = false) (h3 : swapsWith (.Call (.Attribute (.Call (.Name "super" p0) [] [] p1) "__init__" p2) [e] [] p3) none p4.line X.env = pure false)
    (hse : starEach [e] X.env = (false, eval e X.env) :: starEach [] X.env) :
    _root_.PySem.wpAt (model X.prog X.w) X.A (.func body X.env) (exec (.Expr (.Call (.Attribute (.Call (.Name "super" p0) [] [] p1) "__init__" p2) [e] [] p3) p4) X.env) (fun fl s' => fl = .next ∧ L2.Inv X pins σ H s') X.xe s := by
  refine PySem.ks_wpAt_Expr_any ?_ h2 h3
  refine PySem.ks_wpAt_MethodCall ?_ h1
  have KI := I.kIn
  obtain ⟨m, hns, hlk⟩ := I.loc
  obtain ⟨u, ru, lu⟩ := hlk 0 _ _ hN hs (.inl S.se)
  obtain rfl : u = Value.ref a := ru
  have hms : m ("self" : Str) = some (.ref a) := by
    rcases lu with ⟨_, z⟩ | ⟨z, _⟩
    · exact z
    · rcases z with z | z
      all_goals
        have z' : X.env.scope.names.lookup ("self" : Str) = some _ := z
        rw [S.se] at z'
        cases z'
  obtain ⟨oc, od, fd, osl, ar, hfo, hp, har⟩ := T.fo
  obtain ⟨ccl, cdd, vs, ccs, file, tf, hcode, hvs, hfile⟩ := T.co
  obtain ⟨cl, cld, csl, hcell⟩ := T.ce
  obtain ⟨cdD, hD⟩ := T.cD
  obtain ⟨mb, hb1, hb2⟩ := I.mod.blt
  obtain ⟨t1, hox⟩ := exo_at I.hok ea
  obtain ⟨hh, g, d, t, os⟩ := s
  obtain ⟨oD, hD1, hD2⟩ : ∃ oD, hh.get? D = some oD ∧ oD.data = .cls cdD := by
    unfold PySem.W.clsIn at hD
    split at hD
    · rename_i c d cd' sl ho
      cases hD
      exact ⟨_, KI _ _ ho, rfl⟩
    · cases hD
  refine PySem.ks_wpAt_super_base (env := X.env) (ar := ar) S.su S.cl (by decide +kernel) hf (KI _ _ hfo) rfl hp hco (KI _ _ hcode) rfl hvs hfile T.tp ?_
  refine PySem.W.ks_loadName_global S.kind S.su (Calls.loadGlobal_builtin (env := X.env) (by rw [I.ok.glob]; exact I.mod.glob.keeps I.bk) T.sg (by rw [I.ok.blt]; exact hb1.keeps I.bk) ((hb2 "super" (by decide)).trans (by first | rfl | decide +kernel)) ⟨rfl, ?_⟩)
  refine PySem.wpAny_loadName_free S.kind S.cl hcc ⟨_, KI _ _ hcell, rfl⟩ ?_
  rw [har]
  refine PySem.wpAny_loadName_local S.kind S.se hns hms ?_
  refine PySem.ks_wpAny_isType_cls hD1 hD2 ⟨rfl, ?_⟩
  refine PySem.ks_wpAny_call_super hD1 hD2 hox rfl (fun c z => by cases z) (PySem.W.looks_mroIn KI G.sub) (fun h' eso k => ?_)
  have I1 : L2.Inv X pins σ H ⟨h', g, d, t, os⟩ := I.kept k
  have KI1 := I1.kIn
  obtain ⟨t2, hox1⟩ := exo_at I1.hok ea
  have hnx := G.nxt
  unfold PySem.W.ks_superIn at hnx
  obtain ⟨nm, q, N, bs, bm, sn, sub, ab, col, dd, k0, k1, k2, k3, k5, hC, hbm⟩ := G.ex.cls
  have hcl : PySem.W.clsIn X.K C = some { name := nm, bases := bs, mro := .ref C :: bm, ns := N, qualname := q, hasDict := true, slotNames := sn, subclasses := sub, abstract := ab, collection := col, hasDel := false } := by unfold PySem.W.clsIn; rw [hC] <;> rfl
  rw [hcl] at hnx
  have ne : a ≠ C := fun z => by
    rw [z] at hox1
    have y := KI1 _ _ hC
    rw [hox1] at y
    cases y
  refine PySem.W.kxs_getMethod PySem.W.kxs_ValueError eso (PySem.W.looks_opaque KI1 T.op) (l₀ := .ref C :: bm) ?_ rfl KI1 hnx ?_ ne (by decide +kernel) ?_
  · exact fun A Q E s k q => wpAny_bind ((PySem.W.looks_clsIn KI1 hcl) A _ E s k (wpAny_pure q))
  · have II : PySem.W.InstAt h' a ({ cls := .ref C, dict := none, data := .fields #[.ref t2, .none, .none, .none, .bool false, .none] } : Obj) C none := ⟨hox1, rfl, rfl, trivial⟩
    exact II.type.andThen (PySem.W.looks_subIn KI1 G.ve)
  have k2' : ∀ b o, h'.get? b = some o → (h'.push (PySem.W.kxs_mw "ValueError.__init__" a)).get? b = some o := fun b o z => Heap.get?_push_of_some _ z
  have hmw : (h'.push (PySem.W.kxs_mw "ValueError.__init__" a)).get? h'.objs.size = some (PySem.W.kxs_mw "ValueError.__init__" a) := Heap.get?_push_at rfl rfl
  have I2 : L2.Inv X ((h'.objs.size, PySem.W.kxs_mw "ValueError.__init__" a) :: pins) σ H ⟨h'.push (PySem.W.kxs_mw "ValueError.__init__" a), g, d, t + 1, os⟩ :=
    ClX.pin_new (t' := t + 1) I1 k2' (Nat.le_refl _) hmw (fun v z => by cases z)
  refine PySem.W.kxs_callWith (i := "ValueError.__init__") (x := a) (by rw [hse]; rfl) ?_
  rw [hse]
  refine PySem.Calls.evalArgs_plain ?_
  show wpAny _ _ (spliced ((false, eval e X.env) :: backTo p3 (starEach [] X.env))) _ _ _
  refine Calls.spliced_cons (thn (he.run _ _ σ H _ I2 (hte)) fun u s3 ⟨v, H1, I3, r1, q1⟩ => ?_)
  refine Calls.spliced_nil ?_
  subst q1
  refine ⟨ClX.pin_at I3, ?_⟩
  obtain ⟨t3, hox3⟩ := exo_at I3.hok ea
  have hu3 := ClX.pin_at I3
  have I4 := ClX.unpin I3
  obtain ⟨h3', g3, d3, tk3, os3⟩ := s3
  refine call_mw (I3.kIn _ _ hC) hox3 hu3 (by show 1 ≤ sizeLine; rw [sizeLine_eq]; omega) fun h4 t4 k4 hx4 => ?_
  have J := I4.write (t' := tk3) (x := a) (e := a) (o := exo a C none) (by rw [ea]; exact True.intro) (.inl rfl) k4 ⟨_, hx4⟩ (exo_ok hx4)
  have eu : upd H1 a (exo a C none) = H1 := by
    funext b
    by_cases hb : b = a
    · rw [hb, upd_same, ea]
    · rw [upd_ne hb]
  rw [eu] at J
  exact ⟨rfl, J⟩
end
end HC

namespace HC
open PySem PySem.Spec PyProof.Rows L2 NdefX L2H
/-- the body of CutError.__init__ -/
def supB (p0 p1 p2 p3 p4 p5 p6 p7 p8 p9 p10 p11 : Pos) : List Stmt :=
  [.Expr (.Call (.Attribute (.Call (.Name "super" p0) [] [] p1) "__init__" p2) [.JoinedStr [.FormattedValue (.Name "value" p5) 114 none p6] p7] [] p3) p4, .Assign [.Attribute (.Name "self" p8) "value" p9] (.Name "value" p10) p11]
def supSc : Scope := { kind := .function, names := [(PySem.Str.ofString "self", .local), (PySem.Str.ofString "value", .local), (PySem.Str.ofString "__class__", .free), (PySem.Str.ofString "super", .globalImplicit)], isGenerator := false, isCoroutine := false, more := [] }
theorem supSc_n : NScope ["self", "value", "__class__"] ["self", "value"] ["__class__"] supSc := nscope_by (by decide +kernel)
theorem supSc_s : SupS supSc := ⟨rfl, by decide +kernel, by decide +kernel, by decide +kernel⟩
def spSupI (K : PySem.W.Frag) (D : Addr) : Sp := fun vs H Q _ => ∃ (a C : Addr) (y : V), vs = [.ref a, y] ∧ H a = some (exo a C none) ∧ SubOf K D C ∧ Shows K H y ∧ ∀ d, H d = none → d ≠ a → Q .non (upd (upd H d (exd d [("value", y)])) a (exo a C (some d)))
abbrev supF (nm q : Str) (params : Arguments) (body : List Stmt) (cc cda : Addr) : NF := ⟨nm, q, params, body, supSc, [("__class__", cc)], cda⟩
section
variable {P : Program} {w : World} {K : PySem.W.Frag} {mg : Str → Option Value} {base : Heap} {f cda cc D : Addr} {nm q : Str} {params : Arguments} {body : List Stmt} {dV kV doc pm ctv oc : Value} {an od : Option Addr} {osl : Array (Option Value)}
theorem sup_cells (T : SupT P K mg f cda cc D) {A : Around} {outer : List Env} {s : Shared} {H : Hp} (e0 : Env0 P w K mg base A outer s H) : CellsAt [(("__class__" : Str), cc)] ["__class__"] [none] s.heap H := by
  obtain ⟨cl, cld, csl, hce⟩ := T.ce
  have hb := e0.bs _ _ (e0.mod.kin _ _ hce)
  have one : ∀ (y : Str) (c : Addr), List.lookup y [(("__class__" : Str), cc)] = some c → y = "__class__" ∧ c = cc := fun y c e => by
    have m := PySem.mem_of_lookup e
    have m2 := List.mem_singleton.mp m
    exact ⟨congrArg Prod.fst m2, congrArg Prod.snd m2⟩
  refine ⟨rfl, fun y c e => ?_, fun x y c e1 e2 => (one x c e1).1.trans (one y c e2).1.symm, fun i y e => ?_⟩
  · obtain ⟨_, rfl⟩ := one y c e
    exact ⟨hb.2, _, _, hb.1, rfl⟩
  · cases i with
    | zero =>
      cases e
      exact ⟨cc, by simp [List.lookup], fun v z => by cases z⟩
    | succ i => cases e
abbrev supN : List Str := ["self", "value", "__class__"]
theorem supSc_self : supSc.names.lookup ("self" : Str) = some .local := by decide +kernel
theorem supSc_val : supSc.names.lookup ("value" : Str) = some .local := by decide +kernel
theorem sup_mcall {env : Env} {e : Expr} {p0 p1 p2 p3 : Pos} (hl : (p2.endLine == p3.line) = true) (hf : methodCallForm 1 (backTo p3 (starEach [e] env)) [] = true) : eval (.Call (.Attribute (.Call (.Name "super" p0) [] [] p1) "__init__" p2) [e] [] p3) env = (do
      let ov ← attributeBase (.Call (.Name "super" p0) [] [] p1) "__init__" env (eval (.Call (.Name "super" p0) [] [] p1) env)
      standAt p2.atName
      let (f, first) ← holding [ov] (getMethod ov "__init__" (plainOf (.Call (.Name "super" p0) [] [] p1) env))
      callWith p3 f first (backTo p3 (starEach [e] env)) []) := by
  have e1 : ∀ ov, methodCall (.Call (.Name "super" p0) [] [] p1) "__init__" p2 p3 env ov 1 (backTo p3 (starEach [e] env)) [] = (do
      let (f, first) ← holding [ov] (getMethod ov "__init__" (plainOf (.Call (.Name "super" p0) [] [] p1) env))
      callWith p3 f first (backTo p3 (starEach [e] env)) []) := fun ov => mcall_line hf hl
  have e2 : eval (.Call (.Attribute (.Call (.Name "super" p0) [] [] p1) "__init__" p2) [e] [] p3) env = (do
      let ov ← attributeBase (.Call (.Name "super" p0) [] [] p1) "__init__" env (eval (.Call (.Name "super" p0) [] [] p1) env)
      standAt p2.atName
      methodCall (.Call (.Name "super" p0) [] [] p1) "__init__" p2 p3 env ov 1 (backTo p3 (starEach [e] env)) []) := rfl
  rw [e2]
  simp only [e1]
/-- the first statement, then the second, in any context of that frame -/
theorem sup_body {X : Cx} {L : Addr} {p0 p1 p2 p3 p4 p5 p6 p7 p8 p9 p10 p11 : Pos} (T : SupT X.prog X.K X.mg f cda cc D) (henv : X.env = PySem.W.envX q supSc L f (.ref cda) [("__class__", cc)]) (hN : X.N = supN) {s : Shared} {H : Hp} {a C : Addr} {y : V}
    (I : L2.Inv X [] (startF supN [.ref a, y] [none]) H s) (hu : X.A.units < cLine) (ea : H a = some (exo a C none)) (G : SubOf X.K D C) (sh : Shows X.K H y) {Q : VK}
    (hq : ∀ d, H d = none → d ≠ a → Q .non (upd (upd H d (exd d [("value", y)])) a (exo a C (some d)))) (bd : List Stmt) (hl : (p2.endLine == p3.line) = true) :
    _root_.PySem.wpAt (model X.prog X.w) X.A (.func bd X.env) (execs (supB p0 p1 p2 p3 p4 p5 p6 p7 p8 p9 p10 p11) X.env) (SP X [] { nx := fun _ H' => Q .non H', rt := Q }) X.xe s := by
  have S : SupS X.env.scope := by rw [henv]; exact supSc_s
  have hf : X.env.func = some f := by rw [henv]
  have hco : X.env.code = .ref cda := by rw [henv]
  have hcc : X.env.cells.lookup ("__class__" : Str) = some cc := by rw [henv]; rfl
  have h0 : X.N[0]? = some ("self" : Str) := by rw [hN]; rfl
  have h1 : X.N[1]? = some ("value" : Str) := by rw [hN]; rfl
  have vself : Vis X.env.scope "self" := by rw [henv]; exact .inl supSc_self
  have vval : Vis X.env.scope "value" := by rw [henv]; exact .inl supSc_val
  have pself : ∀ p, PE X (.Name "self" p) (tVar 0) := fun p => pe_var h0 vself
  have pval : ∀ p, PE X (.Name "value" p) (tVar 1) := fun p => pe_var h1 vval
  refine PySem.ks_wpAt_execs_cons ?_
  refine PySem.ks_wpAt_mono (sup_first (e := .JoinedStr [.FormattedValue (.Name "value" p5) 114 none p6] p7) T S hf hco hcc h0 I rfl G ea (pe_joined1 (pe_fmtRA hu (pval p5))) ⟨y, rfl, sh, fun m => rfl⟩ (sup_mcall hl (by rw [henv]; rfl)) (by rw [henv]; rfl) (by rw [henv]; rfl) (by rw [henv]; rfl)) (fun fl s1 hfl => ?_) fun _ _ z => z
  obtain ⟨rfl, I1⟩ := hfl
  refine wpAt_of_wpAny ?_
  have P2 : PSs X [.Assign [.Attribute (.Name "self" p8) "value" p9] (.Name "value" p10) p11] _ := pss_one (ps_ost (pself p8) (pval p10) (by rw [henv]; rfl))
  refine P2.run [] s1 _ H { nx := fun _ H' => Q .non H', rt := Q } I1 ?_
  exact ⟨y, rfl, .ref a, rfl, a, C, rfl, G.ex, G.nov, .inl ⟨ea, fun dx n ne => hq dx n ne⟩⟩
theorem units_lt {k : Nat} {A : Around} (h : A.units + 16 * k + 200 < cLine) : A.units < cLine := by omega
variable {p0 p1 p2 p3 p4 p5 p6 p7 p8 p9 p10 p11 : Pos}
theorem sup_len (vs : List V) (H : Hp) (Q : VK) (E : XK) (h : spSupI K D vs H Q E) : vs.length = (["self", "value"] : List Str).length := by
  obtain ⟨a, C, y, rfl, _⟩ := h
  rfl
/-- CutError.__init__ -/
theorem ok_sup (lk : K.lookup f = some ⟨oc, od, .func (PySem.W.fnX nm q params (supB p0 p1 p2 p3 p4 p5 p6 p7 p8 p9 p10 p11) supSc [("__class__", cc)] dV kV doc pm an (.ref cda) ctv), osl⟩) (hcd : PySem.W.codeIn K (.ref cda) q = true) (T : SupT P K mg f cda cc D) (hl : (p2.endLine == p3.line) = true) :
    FnOk P w K mg base CX0 1 f (PySem.W.fnX nm q params (supB p0 p1 p2 p3 p4 p5 p6 p7 p8 p9 p10 p11) supSc [("__class__", cc)] dV kV doc pm an (.ref cda) ctv) ["self", "value"] (spSupI K D) := by
  refine ⟨sup_len, fun A outer s H args us vs Q E hr e0 hb r hsp => ?_⟩
  have hlen := sup_len vs H Q E hsp
  obtain ⟨a, C, y, rfl, ea, G, sh, hq⟩ := hsp
  have KX : K.In s.heap := e0.mod.kin.keeps fun b o e => (e0.bs b o e).1
  have lim : s.heap.NoLimit := e0.mod.nolimit.keeps fun b o e => (e0.bs b o e).1
  refine PySem.ks_codeAny_call_defAt (body := supB p0 p1 p2 p3 p4 p5 p6 p7 p8 p9 p10 p11) hr.depth (KX _ _ lk) rfl lim (PySem.W.codeRec_of KX hcd) rfl hb supSc_n.nocell (fun ⟨n, v⟩ hy => supSc_n.par n (List.of_mem_zip hy).1) (fun h₁ hns kp => ?_) rfl rfl rfl
  have I : L2.Inv (ncx CX0 P w K mg base supN (supF nm q params (supB p0 p1 p2 p3 p4 p5 p6 p7 p8 p9 p10 p11) cc cda) f A outer s H E) [] (startF supN [.ref a, y] [none]) H { s with heap := h₁, toks := s.toks + ((["self", "value"] : List Str).zip us).length } :=
    inv_startN (F := supF nm q params (supB p0 p1 p2 p3 p4 p5 p6 p7 p8 p9 p10 p11) cc cda) supSc_n hr.hd e0 hlen r (sup_cells T e0) hns kp
  have hu : (ncx CX0 P w K mg base supN (supF nm q params (supB p0 p1 p2 p3 p4 p5 p6 p7 p8 p9 p10 p11) cc cda) f A outer s H E).A.units < cLine := by
    have := hr.un
    show A.units + 3 < _
    omega
  refine PySem.ks_wpAt_mono (sup_body T rfl rfl I hu ea G sh hq _ hl) (fun fl s' hs => ?_) fun e s' z => z
  have fin : ∀ {σ' : L2.St} {H' : Hp} {v : V} {u : Value}, L2.Inv (ncx CX0 P w K mg base supN (supF nm q params (supB p0 p1 p2 p3 p4 p5 p6 p7 p8 p9 p10 p11) cc cda) f A outer s H E) [] σ' H' s' → L2.RelV v u → Q v H' → CE outer P w H s Q u s' :=
    fun {σ' H' v u} J rv q => ⟨v, H', J.os, J.bare, J.base, J.hok, rv, q⟩
  cases fl with
  | ret u =>
    obtain ⟨v, σ', H', J, rv, q⟩ := hs
    exact fin J rv q
  | next =>
    obtain ⟨σ', H', J, q⟩ := hs
    exact fin (v := V.non) (u := Value.none) J rfl q
  | brk =>
    obtain ⟨_, _, _, q⟩ := hs
    exact False.elim q
  | cont =>
    obtain ⟨_, _, _, q⟩ := hs
    exact False.elim q
/-- .. while an exception is handled -/
theorem ok_supH (lk : K.lookup f = some ⟨oc, od, .func (PySem.W.fnX nm q params (supB p0 p1 p2 p3 p4 p5 p6 p7 p8 p9 p10 p11) supSc [("__class__", cc)] dV kV doc pm an (.ref cda) ctv), osl⟩) (hcd : PySem.W.codeIn K (.ref cda) q = true) (T : SupT P K mg f cda cc D) (hl : (p2.endLine == p3.line) = true) :
    FnH P w K mg base CX0 1 f (PySem.W.fnX nm q params (supB p0 p1 p2 p3 p4 p5 p6 p7 p8 p9 p10 p11) supSc [("__class__", cc)] dV kV doc pm an (.ref cda) ctv) ["self", "value"] (spSupI K D) := by
  refine ⟨sup_len, fun A outer s H args us vs Q E p hr hot hpin e0 hb r hsp => ?_⟩
  have hlen := sup_len vs H Q E hsp
  obtain ⟨a, C, y, rfl, ea, G, sh, hq⟩ := hsp
  have KX : K.In s.heap := e0.mod.kin.keeps fun b o e => (e0.bs b o e).1
  have lim : s.heap.NoLimit := e0.mod.nolimit.keeps fun b o e => (e0.bs b o e).1
  refine PySem.ks_codeAny_call_defAt (body := supB p0 p1 p2 p3 p4 p5 p6 p7 p8 p9 p10 p11) hr.depth (KX _ _ lk) rfl lim (PySem.W.codeRec_of KX hcd) rfl hb supSc_n.nocell (fun ⟨n, v⟩ hy => supSc_n.par n (List.of_mem_zip hy).1) (fun h₁ hns kp => ?_) rfl rfl rfl
  have I : L2.Inv (ncxH CX0 P w K mg base supN (supF nm q params (supB p0 p1 p2 p3 p4 p5 p6 p7 p8 p9 p10 p11) cc cda) f A outer s H E p) [] (startF supN [.ref a, y] [none]) H { s with heap := h₁, toks := s.toks + ((["self", "value"] : List Str).zip us).length } :=
    inv_startNH (F := supF nm q params (supB p0 p1 p2 p3 p4 p5 p6 p7 p8 p9 p10 p11) cc cda) supSc_n hpin e0 hlen r (sup_cells T e0) hns kp
  have hu : (ncxH CX0 P w K mg base supN (supF nm q params (supB p0 p1 p2 p3 p4 p5 p6 p7 p8 p9 p10 p11) cc cda) f A outer s H E p).A.units < cLine := by
    have := hr.un
    show A.units + 3 < _
    omega
  refine PySem.ks_wpAt_mono (sup_body T rfl rfl I hu ea G sh hq _ hl) (fun fl s' hs => ?_) fun e s' z => z
  have fin : ∀ {σ' : L2.St} {H' : Hp} {v : V} {u : Value}, L2.Inv (ncxH CX0 P w K mg base supN (supF nm q params (supB p0 p1 p2 p3 p4 p5 p6 p7 p8 p9 p10 p11) cc cda) f A outer s H E p) [] σ' H' s' → L2.RelV v u → Q v H' → CE outer P w H s Q u s' :=
    fun {σ' H' v u} J rv q => ⟨v, H', J.os, J.bare, J.base, J.hok, rv, q⟩
  cases fl with
  | ret u =>
    obtain ⟨v, σ', H', J, rv, q⟩ := hs
    exact fin J rv q
  | next =>
    obtain ⟨σ', H', J, q⟩ := hs
    exact fin (v := V.non) (u := Value.none) J rfl q
  | brk =>
    obtain ⟨_, _, _, q⟩ := hs
    exact False.elim q
  | cont =>
    obtain ⟨_, _, _, q⟩ := hs
    exact False.elim q
end
end HC

namespace HC
open PySem PySem.Spec PyProof.Rows L2 NdefX L2H
/-! ## an own error made: its dict d is new, holds value -/
/-- what the text says of the error class at C -/
structure ErrC (K : PySem.W.Frag) (D C : Addr) : Prop where
  S : SubOf K D C
  hd : PySem.W.hasDictIn K C = true
  hk : PySem.W.findIn K (.ref C) "__getattr__" = some none
  hg : PySem.W.findIn K (.ref C) "__getattribute__" = some (some (.builtin "BaseException.__getattribute__"))
  ha : PySem.W.findIn K (.ref C) "__class__" = some (some (.builtin "object.__class__"))
  hm : PySem.W.mroIn K C (.type "object") = some true
/-- .. and of the name x -/
structure ErrT (K : PySem.W.Frag) (mg : Str → Option Value) (D fI : Addr) (x : Str) (C : Addr) : Prop where
  gC : mg x = some (.ref C)
  c : ErrC K D C
  iC : PySem.W.findIn K (.ref C) "__init__" = some (some (.ref fI))
  tI : PySem.W.typeIn K (.ref fI) = some (.type "function")
/-- C(e) -/
def tMkS (K : PySem.W.Frag) (C : Addr) (te : TE) : L2.St → Hp → XK → Prop := fun σ H Q => te σ H fun y H1 => Shows K H1 y ∧ ∀ d, H1 d = none → Q (.ref C) (some d) (upd H1 d (.xd [("value", y)]))
theorem shows_upd {K : PySem.W.Frag} {H : Hp} {y : V} {a : Addr} {o : HO} (h : Shows K H y) (n : H a = none) : Shows K (upd H a o) y := by
  cases h with
  | non => exact .non
  | str y h => exact .str y h
  | int i h => exact .int i h
  | tup b l h1 h2 h3 => exact .tup b l (h1.ext fun c u e => (upd_ne (ne_of_none e n)).trans e) h2 h3
theorem mkS_heap {H : Hp} {a d C : Addr} {y : V} (na : H a = none) (ne : d ≠ a) :
    upd (del (upd (upd (upd H a (exo a C none)) d (exd d [("value", y)])) a (exo a C (some d))) a) d (.xd [("value", y)]) = upd H d (.xd [("value", y)]) := by
  funext b
  by_cases hd : b = d
  · rw [hd, upd_same, upd_same]
  · rw [upd_ne hd, upd_ne hd]
    by_cases hb : b = a
    · rw [hb, del_same, na]
    · rw [del_ne hb, upd_ne hb, upd_ne hd, upd_ne hb]
/-- a reading with weaker wishes -/
def tUp (te : TE) : TE := fun σ H Q => ∃ Q0 : VK, te σ H Q0 ∧ ∀ v H', Q0 v H' → Q v H'
theorem pe_up {X : Cx} {e : Expr} {te : TE} (he : PE X e te) : PE X e (tUp te) := ⟨fun pins s σ H Q I ⟨Q0, h, k⟩ => thn (he.run pins s σ H Q0 I h) fun u s1 ⟨v, H1, I1, r1, q⟩ => ⟨v, H1, I1, r1, k v H1 q⟩⟩
theorem mkO_of {K : PySem.W.Frag} {C D : Addr} {te : TE} {σ : L2.St} {H : Hp} {Q : XK} (G : SubOf K D C) (h : tMkS K C te σ H Q) : tMkO C (spSupI K D) [] (tCons (tUp te) tNil) σ H Q := by
  refine ⟨_, h, fun y H1 ⟨sh, q⟩ => ?_⟩
  refine ⟨by show 1 ≤ 1000; decide, fun a na => ?_⟩
  refine ⟨a, C, y, rfl, upd_same, G, shows_upd sh na, fun d hd ne => ?_⟩
  rw [upd_ne ne] at hd
  refine ⟨rfl, d, [("value", y)], upd_same, ?_, hd, ?_⟩
  · rw [upd_ne ne, upd_same]
  · rw [mkS_heap na ne]
    exact q d hd
section
variable {X : Cx} {D fI C : Addr} {x : Str} {fd : FuncData} {e : Expr} {te : TE} {p pos : Pos} {k : Nat}
theorem PMk.imp {X : Cx} {e : Expr} {t t' : L2.St → Hp → XK → Prop} (h : L2.PMk X e t) (i : ∀ σ H Q, t' σ H Q → t σ H Q) : L2.PMk X e t' := fun pins s σ H Q I q => h pins s σ H Q I (i σ H Q q)
/-- C(e), to be raised -/
theorem pmk_sup (T : ErrT X.K X.mg D fI x C) (F1 : FnOk X.prog X.w X.K X.mg X.base CX0 1 fI fd ["self", "value"] (spSupI X.K D)) (hb : Binds X.K fd ["self", "value"] []) (hr : Room 2 X.A) (hg : Gl X x) (he : PE X e te)
    (hdb : (x == ("__debug__" : Str)) = false := by decide) (hse : starEach [e] X.env = (false, eval e X.env) :: starEach [] X.env := by rfl) :
    L2.PMk X (.Call (.Name x p) [e] [] pos) (tMkS X.K C te) :=
  PMk.imp (pmk_oex (ds := []) (dvs := []) T.c.S.ex T.iC T.tI F1 hr hb .nil (fun _ _ _ _ _ _ _ z => z.elim) hg T.gC (by exact (pa_cons (pe_up he) pa_nil hse)) hdb hse rfl) fun σ H Q h => mkO_of T.c.S h
/-- .. while an exception is handled -/
theorem pmk_supH (T : ErrT X.K X.mg D fI x C) (F1 : FnH X.prog X.w X.K X.mg X.base CX0 1 fI fd ["self", "value"] (spSupI X.K D)) (hb : Binds X.K fd ["self", "value"] []) (hr : RoomH 2 X.A) (hc : HotC X) (hg : Gl X x) (he : PE X e te)
    (hdb : (x == ("__debug__" : Str)) = false := by decide) (hse : starEach [e] X.env = (false, eval e X.env) :: starEach [] X.env := by rfl) :
    PMk5 X (.Call (.Name x p) [e] [] pos) (tMkS X.K C te) := fun pins s σ H Q I h =>
  pmk5_oexH T.c.S.ex T.iC T.tI F1 hr hc hb (fun _ _ _ _ _ _ _ z => z.elim) hg T.gC (by exact (pa_cons (pe_up he) pa_nil hse)) hdb hse rfl pins s σ H Q I (mkO_of T.c.S h)
/-- C(e), to be raised where nothing is handled; its context is None -/
theorem pmk5_oex {CX : CXT} {es : List Expr} {ta : TA} {ps : List Str} {sp : Sp} (T : OexC X.K C) (iC : PySem.W.findIn X.K (.ref C) "__init__" = some (some (.ref fI))) (tI : PySem.W.typeIn X.K (.ref fI) = some (.type "function"))
    (F1 : FnOk X.prog X.w X.K X.mg X.base CX k fI fd ps sp) (hr : Room (k + 1) X.A) (hb : Binds X.K fd ps []) (hx : Passes CX X (fun _ _ _ => False)) (hg : Gl X x) (hm : X.mg x = some (.ref C)) (ha : PA X (e :: es) ta)
    (hdb : (x == ("__debug__" : Str)) = false := by decide) (he : starEach (e :: es) X.env = (false, eval e X.env) :: starEach es X.env := by rfl) (hpl : (backTo pos (starEach es X.env)).any (·.1) = false := by rfl) :
    PMk5 X (.Call (.Name x p) (e :: es) [] pos) (tMkO C sp [] ta) := by
  intro pins s σ H Q I h
  obtain ⟨nm, q, N, bs, bm, sn, sub, ab, col, dd, k0, k1, k2, k3, k5, hC, hbm⟩ := T.cls
  refine wpAny_Call_Name_kw (ld_glob I hg hm ?_ hdb)
  refine PySem.W.callWith_K (h₀ := X.base) I.ok.mod.kin T.kC (thn (ha.run pos pins s σ H _ I h) fun us s1 ⟨vs, H1, I1, r1, hz, q1⟩ => ⟨I1.kIn, ?_⟩) he hpl
  show wpAny _ _ (call (.ref C) us) _ _ _
  obtain ⟨hp, g, dr, tk, os⟩ := s1
  have hsz : hp.objs.size ≤ hp.objs.size + 1 := Nat.le_succ _
  have hn : H1 (hp.objs.size + 1) = none := I1.hok.fresh hsz
  have hq := q1 (hp.objs.size + 1) hn
  rw [List.append_nil] at hq
  have kk : ∀ b o, hp.get? b = some o → ((hp.push (PySem.W.kdv_tup us)).push (PySem.HandSPX.excO C hp.objs.size)).get? b = some o := fun b o e => Heap.get?_push_of_some _ (Heap.get?_push_of_some _ e)
  have hget : ((hp.push (PySem.W.kdv_tup us)).push (PySem.HandSPX.excO C hp.objs.size)).get? (hp.objs.size + 1) = some (PySem.HandSPX.excO C hp.objs.size) := by heap_get
  have I2 : L2.Inv X pins σ (upd H1 (hp.objs.size + 1) (exo (hp.objs.size + 1) C none)) ⟨(hp.push (PySem.W.kdv_tup us)).push (PySem.HandSPX.excO C hp.objs.size), g, dr, tk, os⟩ :=
    I1.laid (t' := tk) (a := hp.objs.size + 1) (o := exo (hp.objs.size + 1) C none) (h' := (hp.push (PySem.W.kdv_tup us)).push (PySem.HandSPX.excO C hp.objs.size)) kk hsz (exo_ok hget)
  have r2 : Vals (V.ref (hp.objs.size + 1) :: vs) (Value.ref (hp.objs.size + 1) :: us) := .cons rfl r1
  have hl : (Value.ref (hp.objs.size + 1) :: us ++ []).length = ps.length := by
    have e := r2.length
    rw [F1.len _ _ _ _ hq] at e
    rw [List.append_nil]
    exact e.symm
  have hus : us.length ≤ sizeLine := by
    rw [← Paired.length r1, sizeLine_eq]
    omega
  have b2 := hb _ (Value.ref (hp.objs.size + 1) :: us) I2.kIn hl
  rw [List.append_nil] at b2
  refine wpAny_call (PySem.HandSPX.call_own F.excBase_ValueError (fun Y => PySem.HandSPX.refsVE_contains Y bm hbm) (I1.kIn _ _ hC) (PySem.W.looks_findIn I1.kIn iC) (fun self => PySem.W.bind_fn I1.kIn self tI) hus
    (codeAny_mono (F1.run _ X.stack _ _ ⟨Value.ref (hp.objs.size + 1) :: us, []⟩ (Value.ref (hp.objs.size + 1) :: us) _ _ (fun _ _ _ => False) (hr.make C us []) (I2.env0.make C us []) b2 r2 hq) fun r s' hq' => ?_))
  cases r with
  | error er => exact hx pins σ _ _ er s' I2 hq'
  | ok fl =>
    cases fl with
    | ret u =>
      obtain ⟨v, H2, os2, bare2, un2, hok2, rv, ev, d, fs, ea, ed, hd1, q2⟩ := hq'
      subst ev
      obtain ⟨h2, g2, d2, t2, os'⟩ := s'
      obtain ⟨t0, G, J, kG, ge, hoe, na⟩ := mk_end0 (d2 := d2) (t2 := t2) I1 hsz kk un2 hok2 os2 bare2 ea ed hd1
      refine ⟨rv, ⟨hp.objs.size + 1, _, _, ⟨G, g2, d2, t2, os'⟩, _, .ref C, some d, rfl, J, kG, ge, hoe, ⟨rfl, rfl, fun vs hv => ?_⟩, rfl, rfl, na, rfl, bare2, raises_own T.exC T.tyC, q2⟩, fun a oe vs ea2 hg2 hd2 => ?_⟩
      · cases hv
        rfl
      · cases ea2
        have hg3 : h2.get? (hp.objs.size + 1) = some oe := hg2
        rw [hoe] at hg3
        cases hg3
        cases hd2
        show (4 : Nat) < 6
        decide
    | next => exact False.elim hq'
    | brk => exact False.elim hq'
    | cont => exact False.elim hq'
theorem pmkN_sup (T : ErrT X.K X.mg D fI x C) (F1 : FnOk X.prog X.w X.K X.mg X.base CX0 1 fI fd ["self", "value"] (spSupI X.K D)) (hb : Binds X.K fd ["self", "value"] []) (hr : Room 2 X.A) (hg : Gl X x) (he : PE X e te)
    (hdb : (x == ("__debug__" : Str)) = false := by decide) (hse : starEach [e] X.env = (false, eval e X.env) :: starEach [] X.env := by rfl) :
    L2N.PMk X (.Call (.Name x p) [e] [] pos) (tMkS X.K C te) := fun pins s σ H Q I h =>
  (PMk5.pmk (pmk5_oex T.c.S.ex T.iC T.tI F1 hr hb (fun _ _ _ _ _ _ _ z => z.elim) hg T.gC (by exact (pa_cons (pe_up he) pa_nil hse)) hdb hse rfl)) pins s σ H Q I (mkO_of T.c.S h)
end
/-! ## what an except suite asks of such an error -/
theorem ErrC.xf {K : PySem.W.Frag} {D C : Addr} (T : ErrC K D C) : XfC K C := ⟨T.hg, T.hk, T.S.ex.exC, T.hd⟩
/-- what the text says of object.__class__ -/
structure ClsG (K : PySem.W.Frag) : Prop where
  hn : PySem.W.specialIn K (.builtin "object.__class__") "__get__" = some (some (.builtin "getset_descriptor.__get__"))
  ht : PySem.W.takesIn K (.builtin "object.__class__") = some true
section
variable {X : Cx} {D fI a : Addr} {x : Str} {oe : Obj} {cls : Value} {d : Option Addr} {pn : List (Addr × Obj)}
theorem kitx_err {K : PySem.W.Frag} {C : Addr} (T : ErrC K D C) (G : ClsG K) {ox : Obj} {od : Option Obj} : PySem.W.KitX K (.ref a) (.ref C) (fun h => PySem.W.InstAt h a ox C od) := by
  obtain ⟨cd, hc, _⟩ := PySem.W.any_some T.hd
  exact PySem.W.kitx_exc (by rw [hc]; rfl) T.hg T.hk T.S.ex.exC T.ha G.hn G.ht T.hm
/-- an own error of the class at C, its dict holding v -/
def ErrV (K : PySem.W.Frag) (D C : Addr) (cls : Value) (d : Option Addr) (v : V) (H : Hp) : Prop := cls = .ref C ∧ ErrC K D C ∧ ∃ dd, d = some dd ∧ H dd = some (.xd [("value", v)])
/-- e.value, e the error that the suite holds -/
def tEv (K : PySem.W.Frag) (D a : Addr) (cls : Value) (d : Option Addr) (te : TE) : TE := fun σ H Q => te σ H fun x H1 => x = .ref a ∧ ∃ C v, ErrV K D C cls d v H1 ∧ Q v H1
theorem pe_ev {e : Expr} {te : TE} {pos : Pos} (hz : Zc cls d oe) (hf : ∃ vs, oe.data = .fields vs) (he : PE (X.suite a ((a, oe) :: pn)) e te) (hb : attributeBase e "value" X.env (eval e X.env) = eval e X.env := by rfl) :
    PE (X.suite a ((a, oe) :: pn)) (.Attribute e "value" pos) (tEv X.K D a cls d te) := by
  refine ⟨fun pins s σ H Q I h => ?_⟩
  refine attr_of hb (thn (he.run pins s σ H _ I h) fun u s1 hh => ?_)
  obtain ⟨x, H1, I1, rx, ex, C, v, ⟨ec, T, dd, ed, ea⟩, q⟩ := hh
  subst ex
  obtain rfl : u = Value.ref a := rx
  subst ec
  subst ed
  obtain ⟨ha, _⟩ := I1.pin (a, oe) (List.mem_append_left _ List.mem_cons_self)
  obtain ⟨vs, hd⟩ := hf
  have hx : ObjOk X.prog X.w H1 s1.heap dd (.xd [("value", v)]) := I1.hok dd _ ea
  obtain ⟨mA, hns, hr⟩ := hx
  obtain ⟨od, ho, hl⟩ := lookIn_ns hns
  have l : List.lookup ("value" : Str) [(("value" : Str), v)] = some v := by simp [List.lookup]
  obtain ⟨u, hu, ru⟩ := RelO.some_of (v := v) (o := mA "value") (by rw [← l]; exact hr "value")
  have J : PySem.W.InstAt s1.heap a oe C (some od) := ⟨ha, hz.1, by unfold PySem.W.notCls; rw [hd] <;> rfl, by rw [hz.2]; exact ho⟩
  exact HandSPX.exc_get I1.kIn J T.hg T.hk T.S.ex.exC (PySem.W.findObj_own T.hd T.S.nov rfl (by rw [hl, hu])) (handed_of ru) ⟨v, H1, I1.tok _, ru, q⟩
/-- isinstance(e, c) -/
def rIsS (K : PySem.W.Frag) (D a : Addr) (cls : Value) (d : Option Addr) : List V → Hp → VK → Prop := fun xs H Q => ∃ (c : V) (cv : Value) (b : Bool) (C : Addr) (v : V), xs = [.ref a, c] ∧ (∀ u, RelV c u → u = cv) ∧ ErrV K D C cls d v H ∧ PySem.W.kitOne K (.ref C) cv = some b ∧ Q (.bl b) H
/-- isinstance(e, (c, ..)) -/
def rIsST (K : PySem.W.Frag) (D a : Addr) (cls : Value) (d : Option Addr) : List V → Hp → VK → Prop := fun xs H Q => ∃ (tp : Addr) (cs : List Addr) (b : Bool) (C : Addr) (v : V), xs = [.ref a, .ref tp] ∧ H tp = some (.tup (cs.map V.ref)) ∧ ErrV K D C cls d v H ∧ PySem.W.kitAny K (.ref C) (cs.map Value.ref) = some b ∧ Q (.bl b) H
theorem inst_err {pins : List (Addr × Obj)} {σ : L2.St} {H : Hp} {s : Shared} {fs : List (Str × V)} {C dd : Addr} (I : L2.Inv (X.suite a ((a, oe) :: pn)) pins σ H s) (hz : Zc (.ref C) (some dd) oe) (hf : ∃ vs, oe.data = .fields vs) (ed : H dd = some (.xd fs)) : ∃ od, PySem.W.InstAt s.heap a oe C (some od) := by
  obtain ⟨hget, _⟩ := I.pin (a, oe) (List.mem_append.mpr (.inl List.mem_cons_self))
  obtain ⟨vs, hv⟩ := hf
  have hx : ObjOk X.prog X.w H s.heap dd (.xd fs) := I.hok dd _ ed
  obtain ⟨mA, hns, hr⟩ := hx
  obtain ⟨od, ho, hl⟩ := lookIn_ns hns
  exact ⟨od, hget, hz.1, by unfold PySem.W.notCls; rw [hv] <;> rfl, by rw [hz.2]; exact ho⟩
theorem call_isS (G : ClsG X.K) (hz : Zc cls d oe) (hf : ∃ vs, oe.data = .fields vs) : CallR (X.suite a ((a, oe) :: pn)) (.builtin "isinstance") (rIsS X.K D a cls d) := by
  intro pins s σ H xs us Q I r h
  obtain ⟨c, cv, b, C, v, rfl, hcv, ⟨rfl, T, dd, rfl, ed⟩, e, q⟩ := h
  cases r with
  | cons rx rr =>
    cases rr with
    | cons rt rr =>
      cases rr
      cases rx
      have ec := hcv _ rt
      subst ec
      obtain ⟨od, J⟩ := inst_err I hz hf ed
      exact PySem.W.kia_one (kitx_err T G) I.kIn J e (fun z => nomatch z) fun tk => ⟨.bl b, H, I.kept (t' := tk) fun _ _ z => z, rfl, q⟩
theorem vals_refs : ∀ {cs : List Addr} {us : List Value}, Vals (cs.map V.ref) us → us = cs.map Value.ref
  | [], _, r => by cases r; rfl
  | c :: cs, _, r => by
    cases r with
    | cons a b =>
      cases a
      rw [vals_refs b]
      rfl
theorem call_isST (G : ClsG X.K) (hz : Zc cls d oe) (hf : ∃ vs, oe.data = .fields vs) : CallR (X.suite a ((a, oe) :: pn)) (.builtin "isinstance") (rIsST X.K D a cls d) := by
  intro pins s σ H xs us Q I r h
  obtain ⟨tp, cs, b, C, v, rfl, htp, ⟨rfl, T, dd, rfl, ed⟩, e, q⟩ := h
  cases r with
  | cons rx rr =>
    cases rr with
    | cons rt rr =>
      cases rr
      cases rx
      cases rt
      obtain ⟨od, J⟩ := inst_err I hz hf ed
      obtain ⟨its, rv, ⟨o, ho, hcl, n, hd⟩, _⟩ := I.tuple (SqT.of htp)
      have ei := vals_refs rv
      obtain ⟨c0, d0, dt0, sl0⟩ := o
      dsimp only at hcl hd
      subst hcl hd
      rw [ei] at ho
      exact PySem.W.kia_tup (its := cs.map Value.ref) (kitx_err T G) I.kIn J ho e (fun z => nomatch z) fun tk => ⟨.bl b, H, I.kept (t' := tk) fun _ _ z => z, rfl, q⟩
end
/-- the class C of the error is what the clause «except E» names, or not -/
theorem exm_err {K : PySem.W.Frag} {D C E : Addr} {b : Bool} (T : ErrC K D E) (h : PySem.W.subIn K (.ref C) (.ref E) = some b) : PySem.W.exmOne K (.ref C) (.ref E) = some b := PySem.W.exm_ref T.S.ex.exC T.hd T.S.ex.tyC h
/-! ## promises of defs that raise -/
/-- where no error is wished for -/
theorem passN {P : Program} {w : World} {X : Cx} : Passes (L2N.CX P w) X (fun _ _ _ => False) := fun _ _ _ _ _ _ _ z => by
  obtain ⟨_, _, _, _, _, _, _, _, _, _, _, _, q⟩ := z
  exact q.elim
theorem passX {P : Program} {w : World} {X : Cx} : Passes (L2.CX P w) X (fun _ _ _ => False) := fun _ _ _ _ _ _ _ z => by
  obtain ⟨_, _, _, _, _, _, _, _, _, _, _, _, q⟩ := z
  exact q.elim
theorem cx_n {P : Program} {w : World} {outer : List Env} {H : Hp} {s : Shared} {E : XK} {u : Value} {s' : Shared} (c : L2N.CX P w outer H s E u s') : L2.CX P w outer H s E u s' := by
  obtain ⟨a, B, H', cls, d, e, fl, hok, ub, na, os, ag, hE⟩ := c
  exact ⟨a, B, H', cls, d, e, flyingZ_imp (fun o z => z.zc) fl, hok, ub, na, os, ag, hE⟩
/-- errors whose context is None are errors -/
theorem FnOk.nx {P : Program} {w : World} {K : PySem.W.Frag} {mg : Str → Option Value} {base : Heap} {k : Nat} {f : Addr} {fd : FuncData} {ps : List Str} {sp : Sp} (F : FnOk P w K mg base (L2N.CX P w) k f fd ps sp) : FnOk P w K mg base (L2.CX P w) k f fd ps sp :=
  ⟨F.len, fun A outer s H args us vs Q E hr he hb hv hs => codeAny_mono (F.run A outer s H args us vs Q E hr he hb hv hs) fun r s' h => by
    cases r with
    | error e => exact cx_n h
    | ok fl => cases fl <;> exact h⟩
/-- a def that may raise -/
theorem Fun.okN {P : Program} {w : World} {K : PySem.W.Frag} {mg : Str → Option Value} {base : Heap} {x qual : Str} {st : Stmt} {f : Addr} {fd : FuncData} {N ps : List Str} {k : Nat} {sp : Sp} (F : Fun K x qual st f fd) (S : FnScope N ps (defScope st)) (len : ∀ vs H Q E, sp vs H Q E → vs.length = ps.length)
    (hbody : ∀ (cdv : Value) (A : Around) (outer : List Env) (s : Shared) (H : Hp) (vs : List V) (Q : VK) (E : XK), Room k (A.deeper (envOfC qual (defScope st) s.heap.objs.size f cdv)) → sp vs H Q E →
      ∃ t, PSs (cxOf (L2N.CX P w) P w K mg base N qual (defScope st) f cdv A outer s H E) (defBody st) t ∧ t { nx := fun _ H' => Q .non H', rt := Q } (start N vs) H) : FnOk P w K mg base (L2N.CX P w) (k + 1) f fd ps sp := by
  obtain ⟨oc, od, kV, doc, pm, an, cdv, ct, osl, rfl, lk, hcd⟩ := F.ex
  exact fn_of lk hcd S len fun A outer s H vs Q E hr hsp => hbody cdv A outer s H vs Q E hr hsp
theorem Fun.okXX {P : Program} {w : World} {K : PySem.W.Frag} {mg : Str → Option Value} {base : Heap} {x qual : Str} {st : Stmt} {f : Addr} {fd : FuncData} {N ps : List Str} {k : Nat} {sp : Sp} (F : Fun K x qual st f fd) (S : FnScope N ps (defScope st)) (len : ∀ vs H Q E, sp vs H Q E → vs.length = ps.length)
    (hbody : ∀ (cdv : Value) (A : Around) (outer : List Env) (s : Shared) (H : Hp) (vs : List V) (Q : VK) (E : XK), Room k (A.deeper (envOfC qual (defScope st) s.heap.objs.size f cdv)) → sp vs H Q E →
      ∃ t, PSs (cxOf (L2.CX P w) P w K mg base N qual (defScope st) f cdv A outer s H E) (defBody st) t ∧ t { nx := fun _ H' => Q .non H', rt := Q } (start N vs) H) : FnOk P w K mg base (L2.CX P w) (k + 1) f fd ps sp := by
  obtain ⟨oc, od, kV, doc, pm, an, cdv, ct, osl, rfl, lk, hcd⟩ := F.ex
  exact fn_of lk hcd S len fun A outer s H vs Q E hr hsp => hbody cdv A outer s H vs Q E hr hsp
/-- CutError.__init__, with its promise, where nothing is handled and where an error is -/
def HasI (P : Program) (w : World) (K : PySem.W.Frag) (mg : Str → Option Value) (base : Heap) (D fI : Addr) : Prop :=
  ∃ fd : FuncData, Binds K fd ["self", "value"] [] ∧ FnOk P w K mg base CX0 1 fI fd ["self", "value"] (spSupI K D) ∧ FnH P w K mg base CX0 1 fI fd ["self", "value"] (spSupI K D)
/-- a def of the top, with its promise, that may raise -/
def HasC (CX : CXT) (P : Program) (w : World) (K : PySem.W.Frag) (mg : Str → Option Value) (base : Heap) (x : Str) (k : Nat) (ps : List Str) (sp : Sp) : Prop :=
  ∃ (f : Addr) (fd : FuncData), mg x = some (.ref f) ∧ PySem.W.keepIn K (.ref f) = true ∧ Binds K fd ps [] ∧ FnOk P w K mg base CX k f fd ps sp
theorem exc_clsIn {K : PySem.W.Frag} {C N : Addr} {nm q : Str} {bs bm : List Value} {hd : Bool} {sn : List Str} {sub : List Value} {ab : Bool} {col : Option Bool} {dd : Option Addr} {k0 k1 k2 k3 k5 : Option Value} {i : String} (h : K.lookup C = some (excClassObj nm q C N bs bm hd sn sub ab col dd k0 k1 k2 k3 k5 i)) :
    PySem.W.clsIn K C = some { name := nm, bases := bs, mro := .ref C :: bm, ns := N, qualname := q, hasDict := hd, slotNames := sn, subclasses := sub, abstract := ab, collection := col, hasDel := false } := by
  unfold PySem.W.clsIn
  rw [h] <;> rfl
end HC

namespace HC
open PySem PySem.Spec PyProof.Rows L2 L2H
abbrev s_CutError___init__ : Stmt := inClass (top 1) 0
/-- a def of the top, with its promise, that may raise, called by keywords, too -/
def HasCK (CX : CXT) (ks : List Str) (g : {α : Type} → List α → List α → List α) (P : Program) (w : World) (K : PySem.W.Frag) (mg : Str → Option Value) (base : Heap) (x : Str) (k : Nat) (ps : List Str) (sp : Sp) : Prop :=
  ∃ (f : Addr) (fd : FuncData), mg x = some (.ref f) ∧ PySem.W.keepIn K (.ref f) = true ∧ Binds K fd ps [] ∧ KBinds K fd ps ks g g ∧ FnOk P w K mg base CX k f fd ps sp
theorem HasCK.c {CX : CXT} {ks : List Str} {g : {α : Type} → List α → List α → List α} {P : Program} {w : World} {K : PySem.W.Frag} {mg : Str → Option Value} {base : Heap} {x : Str} {k : Nat} {ps : List Str} {sp : Sp} (h : HasCK CX ks g P w K mg base x k ps sp) : HasC CX P w K mg base x k ps sp := by
  obtain ⟨f, fd, a, b, c, _, d⟩ := h
  exact ⟨f, fd, a, b, c, d⟩
/-! ## check_moment and plain, for words of any signs -/
structure Small (h r : List Nat) : Prop where
  lh : h.length ≤ 200
  lr : r.length ≤ 200
  ch : ∀ c ∈ h, c < 16 ^ 8
  cr : ∀ c ∈ r, c < 16 ^ 8
structure GoodM (h r : List Nat) : Prop where
  bh : Bin h
  br : Bin r
  l1 : 1 ≤ r.length
def errOf (C : Addr) (v : V) (E : XK) (H : Hp) : Prop := ∀ d, H d = none → E (.ref C) (some d) (upd H d (.xd [("value", v)]))
theorem shows_T {K : PySem.W.Frag} {H : Hp} {l : List Nat} (h1 : l.length ≤ 1000) (h2 : ∀ c ∈ l, c < 16 ^ 8) : Shows K H (.str (T l)) := by
  refine .str _ ?_
  have := StrLaws.reprText_len (T l) (by rw [T_list]; exact h2)
  rw [T_len] at this
  exact le_line (by omega)
theorem shows_mom {K : PySem.W.Frag} {H : Hp} {t : Addr} {h r : List Nat} (g : MomAt H t h r) (s : Small h r) : Shows K H (.ref t) := by
  refine .tup t [T h, T r] g.tup ?_ ?_
  · intro y hy
    simp only [List.mem_cons, List.not_mem_nil, or_false] at hy
    rcases hy with rfl | rfl
    · rw [T_list]; exact s.ch
    · rw [T_list]; exact s.cr
  · simp only [fmtCost, List.map_cons, List.map_nil, List.sum_cons, List.sum_nil, T_len]
    have := s.lh
    have := s.lr
    exact le_line (by omega)
def spCheckN (C : Addr) : Sp := fun vs H Q E => ∃ (t : Addr) (h r : List Nat), vs = [.ref t] ∧ MomAt H t h r ∧ Small h r ∧ (GoodM h r → Q .non H) ∧ (¬ GoodM h r → errOf C (.ref t) E H)
def spPlainN (C : Addr) : Sp := fun vs H Q E => ∃ (t : Addr) (h r : List Nat), vs = [.ref t] ∧ MomAt H t h r ∧ Small h r ∧
  (GoodM h r → ∀ b k, PlainS (val h r) b k → ∀ H' u, Same H H' → MomAt H' u (pH (val h r) b) (pR (val h r) b k) → Q (.ref u) H') ∧ (¬ GoodM h r → errOf C (.ref t) E H)
section
variable {P : Program} {w : World} {K : PySem.W.Frag} {mg : Str → Option Value} {base : Heap} {D fI C_InvalidMoment : Addr}
theorem ok_check_momentN {f : Addr} {fd : FuncData} (F : Fun K "check_moment" "check_moment" s_check_moment f fd) (h_I : HasI P w K mg base D fI) (T_InvalidMoment : ErrT K mg D fI "InvalidMoment" C_InvalidMoment) (h_is_word : Has P w K mg base "is_word" 1 ["text"] spIsWord) : FnOk P w K mg base (L2N.CX P w) 3 f fd ["moment"] (spCheckN C_InvalidMoment) := by
  have sc := sc_check_moment
  obtain ⟨f_is_word, fd_is_word, mg_is_word, kp_is_word, b_is_word, G_is_word⟩ := h_is_word
  obtain ⟨fd_I, b_I, G_I, H_I⟩ := h_I
  refine Fun.okN F sc (fun vs H Q E h => ?_) (fun cdv A outer s H vs Q E hr h => ?_)
  · obtain ⟨t, hd, r, rfl, _⟩ := h
    rfl
  · obtain ⟨t, hd, r, rfl, hm, m, k, kb⟩ := h
    refine ⟨_, (pss_cons (ps_asg (pv 0) (pg_tup (by rfl) (pgs_cons (pg_name (i := 1) sc.nd rfl (by first | exact Or.inl rfl | exact Or.inr rfl)) (pgs_cons (pg_name (i := 2) sc.nd rfl (by first | exact Or.inl rfl | exact Or.inr rfl)) pgs_nil))))
    (pss_one (ps_if (PW.pt (pw_or (pt_not (pt_val (pe_call G_is_word (hr.mono (by decide)) (by rfl) mg_is_word kp_is_word b_is_word .nil pass0 (pa_cons (pv 1) pa_nil)))) (pw_or (pt_not (pt_val (pe_call G_is_word (hr.mono (by decide)) (by rfl) mg_is_word kp_is_word b_is_word .nil pass0 (pa_cons (pv 2) pa_nil)))) (pw_or1 (pt_cmpR op_eqT (pv 2) (pe_strT [] (by decide +kernel)) (nomark _)))))) (pss_one (L2N.ps_raise rfl (L2N.takes_of rfl rfl rfl rfl) (pmkN_sup T_InvalidMoment G_I b_I (hr.mono (by decide)) (by rfl) (pv 0)))) pss_nil))), ?_⟩
    refine ⟨_, rfl, t, _, rfl, hm.tup, rfl, _, _, rfl, _, _, rfl, rfl, ?_⟩
    have bad : ¬ GoodM hd r → tMkS K C_InvalidMoment (tVar 0) [some (.ref t), some (.str (T hd)), some (.str (T r))] H E := fun ng => ⟨_, rfl, shows_mom hm m, fun d hd => kb ng d hd⟩
    refine ⟨_, rfl, hd, rfl, by have := m.lh; omega, fun b1 hb1 => ?_⟩
    cases b1 with
    | false =>
      refine ⟨false, rfl, ?_⟩
      exact bad fun g => by have := hb1.mpr g.bh; cases this
    | true =>
      refine ⟨true, rfl, iteF ?_⟩
      refine ⟨_, rfl, r, rfl, by have := m.lr; omega, fun b2 hb2 => ?_⟩
      cases b2 with
      | false =>
        refine ⟨false, rfl, ?_⟩
        exact bad fun g => by have := hb2.mpr g.br; cases this
      | true =>
        refine ⟨true, rfl, iteF ?_⟩
        refine ⟨_, rfl, r, [], rfl, rfl, _, rfl, ?_⟩
        by_cases e0 : r = []
        · rw [show decide (r = []) = true from decide_eq_true e0]
          exact bad fun g => by have := g.l1; rw [e0] at this; exact absurd this (by decide)
        · rw [show decide (r = []) = false from decide_eq_false e0]
          exact iteF (k ⟨hb1.mp rfl, hb2.mp rfl, by cases r with | nil => exact absurd rfl e0 | cons => simp⟩)
theorem ok_plainN {f : Addr} {fd : FuncData} (F : Fun K "plain" "plain" s_plain f fd) (B : Blt mg) (h_check_moment : HasC (L2N.CX P w) P w K mg base "check_moment" 3 ["moment"] (spCheckN C_InvalidMoment)) (h_shortest_ring : Has P w K mg base "shortest_ring" 1 ["ring"] spShortest)
    (h_shared_end : Has P w K mg base "shared_end" 1 ["head", "ring"] spShared) : FnOk P w K mg base (L2N.CX P w) 4 f fd ["moment"] (spPlainN C_InvalidMoment) := by
  have sc := sc_plain
  obtain ⟨f_check_moment, fd_check_moment, mg_check_moment, kp_check_moment, b_check_moment, G_check_moment⟩ := h_check_moment
  obtain ⟨f_shortest_ring, fd_shortest_ring, mg_shortest_ring, kp_shortest_ring, b_shortest_ring, G_shortest_ring⟩ := h_shortest_ring
  obtain ⟨f_shared_end, fd_shared_end, mg_shared_end, kp_shared_end, b_shared_end, G_shared_end⟩ := h_shared_end
  refine Fun.okN F sc (fun vs H Q E h => ?_) (fun cdv A outer s H vs Q E hr h => ?_)
  · obtain ⟨t, hd, r, rfl, _⟩ := h
    rfl
  · obtain ⟨t, hd, r, rfl, g, sm, kk, kb⟩ := h
    refine ⟨_, (pss_cons (ps_expr (pe_callS G_check_moment (hr.mono (by decide)) (by rfl) mg_check_moment kp_check_moment b_check_moment (fun σ => L2N.passAt (L2N.takes_of rfl rfl rfl rfl) σ) (pa_cons (pv 0) pa_nil)))
    (pss_cons (ps_asg (pv 0) (pg_tup (by rfl) (pgs_cons (pg_name (i := 1) sc.nd rfl (by first | exact Or.inl rfl | exact Or.inr rfl)) (pgs_cons (pg_name (i := 2) sc.nd rfl (by first | exact Or.inl rfl | exact Or.inr rfl)) pgs_nil))))
    (pss_cons (ps_set (i := 2) sc.nd rfl (by first | exact Or.inl rfl | exact Or.inr rfl) (pe_call G_shortest_ring (hr.mono (by decide)) (by rfl) mg_shortest_ring kp_shortest_ring b_shortest_ring .nil pass0 (pa_cons (pv 2) pa_nil)))
    (pss_cons (ps_set (i := 3) sc.nd rfl (by first | exact Or.inl rfl | exact Or.inr rfl) (pe_call G_shared_end (hr.mono (by decide)) (by rfl) mg_shared_end kp_shared_end b_shared_end .nil pass0 (pa_cons (pv 1) (pa_cons (pv 2) pa_nil))))
    (pss_cons (ps_set (i := 4) sc.nd rfl (by first | exact Or.inl rfl | exact Or.inr rfl) (pe_op op_sub (pe_callB call_lenT (by rfl) B.len PySem.boot_len (pa_cons (pv 2) pa_nil)) (pe_op op_mod (pv 3) (pe_callB call_lenT (by rfl) B.len PySem.boot_len (pa_cons (pv 2) pa_nil)))))
    (pss_one (ps_ret (pe_tup (pa_cons (pe_slice sl_T (pv 1) po_none (po_some (pe_op op_sub (pe_callB call_lenT (by rfl) B.len PySem.boot_len (pa_cons (pv 1) pa_nil)) (pv 3)))) (pa_cons (pe_op op_addT (pe_slice sl_T (pv 2) (po_some (pv 4)) po_none) (pe_slice sl_T (pv 2) po_none (po_some (pv 4)))) pa_nil)))))))))), ?_⟩
    have a1 := sm.lh
    have a3 := sm.lr
    refine ⟨_, rfl, t, hd, r, rfl, g, sm, fun gd => ?_, fun ng => kb ng⟩
    have a2 := gd.l1
    refine ⟨_, rfl, t, _, rfl, g.tup, rfl, _, _, rfl, _, _, rfl, rfl, ?_⟩
    refine ⟨_, rfl, r, rfl, a2, by omega, fun k p => ?_⟩
    have hk := p.pos
    have hle := p.le
    have hl := p.len
    refine ⟨_, rfl, _, rfl, hd, r.take k, rfl, a1, by rw [hl]; exact hk, by rw [hl]; omega, fun same s1 s2 s3 => ?_⟩
    have e0 : ∀ j, j < hd.length → (hd[hd.length - 1 - j]? = (r.take k)[(r.take k).length - 1 - j % (r.take k).length]? ↔ val hd r (hd.length - 1 - j) = EE hd r k (hd.length - 1 - j)) := by
      intro j hj
      have hmod : j % k < k := Nat.mod_lt _ hk
      have v1 : hd[hd.length - 1 - j]? = some (val hd r (hd.length - 1 - j)) := by
        unfold val
        rw [if_pos (by omega), List.getD_eq_getElem?_getD, List.getElem?_eq_getElem (by omega)]
        rfl
      have v2 : (r.take k)[(r.take k).length - 1 - j % (r.take k).length]? = some (EE hd r k (hd.length - 1 - j)) := by
        rw [hl, cyc_lt (by rw [hl]; omega), p.cyc]
        congr 1
        unfold EE
        have e2 : hd.length * k = hd.length * (k - 1) + hd.length := by
          conv => lhs; rw [show k = (k - 1) + 1 by omega]
          rw [Nat.mul_succ]
        have e3 := Nat.mod_add_div j k
        rw [Nat.mul_comm] at e3
        rw [← inv_mul p.inv hd.length (k - 1 - j % k), ← inv_mul p.inv (j / k + 1) (hd.length - 1 - j + hd.length * (k - 1))]
        congr 1
        rw [Nat.succ_mul]
        omega
      rw [v1, v2]
      exact ⟨fun q => Option.some.inj q, fun q => congrArg some q⟩
    have hb : hd.length - same ≤ hd.length := by omega
    have hc : ∀ i, hd.length - same ≤ i → i < hd.length → val hd r i = EE hd r k i := by
      intro i i1 i2
      have := (e0 (hd.length - 1 - i) (by omega)).mp (s2 _ (by omega))
      rwa [show hd.length - 1 - (hd.length - 1 - i) = i by omega] at this
    have hps : PlainS (val hd r) (hd.length - same) k := by
      refine plain_of p hb hc ?_
      rcases s3 with e | e
      · exact .inl (by omega)
      · by_cases z : same < hd.length
        · refine .inr fun q => e ((e0 same z).mpr ?_)
          rwa [show hd.length - 1 - same = hd.length - same - 1 by omega]
        · exact .inl (by omega)
    refine ⟨_, rfl, r.take k, rfl, le_line (by rw [hl]; omega), _, rfl, _, rfl, r.take k, rfl, le_line (by rw [hl]; omega), _, _, rfl, rfl, (by show (0 : Int) < ((r.take k).length : Int); rw [hl]; omega), _, _, rfl, rfl, ?_⟩
    have t1 : ((hd.length : Int) - (same : Int)) = ((hd.length - same : Nat) : Int) := by omega
    have t2 : (((r.take k).length : Int) - (same : Int) % ((r.take k).length : Int)) = ((k - same % k : Nat) : Int) := by
      rw [hl]
      have := Nat.mod_lt same (show 0 < k by omega)
      omega
    refine ⟨_, rfl, _, rfl, hd, rfl, le_line (by omega), _, rfl, _, _, rfl, rfl, ((hd.length - same : Nat) : Int), congrArg V.int t1, hd, rfl, le_line (by omega), ?_⟩
    refine ⟨_, rfl, _, rfl, ((k - same % k : Nat) : Int), congrArg V.int t2, r.take k, rfl, le_line (by rw [hl]; omega), _, rfl, _, rfl, ((k - same % k : Nat) : Int), congrArg V.int t2, r.take k, rfl, le_line (by rw [hl]; omega), _, _, rfl, rfl, ?_, ?_⟩
    · rw [cut_lo, cut_hi]
      simp only [List.length_drop, List.length_take]
      exact le_line (by omega)
    refine ⟨(by show 2 ≤ sizeLine; decide), fun u hu => ?_⟩
    refine kk gd _ k hps _ u (Same.new hu) ?_
    have e5 := turn_L p hb hc
    rw [show hd.length - (hd.length - same) = same by omega] at e5
    show L2.upd _ _ _ _ = _
    rw [upd_same, cut_hi, cut_lo, cut_hi, e5, head_L hb]
    rfl
end
end HC

namespace HC
open PySem PySem.Spec PyProof.Rows L2 L2H
abbrev s_show_moment : Stmt := top 12
abbrev N_show_moment : List Str := ["moment", "head", "ring"]
theorem sc_show_moment : FnScope N_show_moment ["moment"] (defScope s_show_moment) := ⟨rfl, rfl, rfl, by decide +kernel, rfl, by decide +kernel, by decide +kernel⟩

abbrev s_read_moment : Stmt := top 14
abbrev N_read_moment : List Str := ["text", "head", "_", "rest", "moment"]
theorem sc_read_moment : FnScope N_read_moment ["text"] (defScope s_read_moment) := ⟨rfl, rfl, rfl, by decide +kernel, rfl, by decide +kernel, by decide +kernel⟩

/-! ## a text cut at the first sign 40 -/
structure PartT (a u s v : List Nat) : Prop where
  no : 40 ∉ u
  or : (s = [40] ∧ a = u ++ 40 :: v) ∨ (s = [] ∧ v = [] ∧ a = u)
theorem at40 {a : List Nat} {i : Nat} : At a [40] i ↔ ∃ u v, a = u ++ 40 :: v ∧ u.length = i := by
  unfold At
  constructor
  · rintro ⟨h1, h2⟩
    refine ⟨a.take i, a.drop (i + 1), ?_, ?_⟩
    · have e : a.drop i = 40 :: a.drop (i + 1) := by
        cases hd : a.drop i with
        | nil => rw [hd] at h1; cases h1
        | cons c r =>
          rw [hd] at h1
          have e2 : a.drop (i + 1) = r := by rw [← List.drop_drop, hd]; rfl
          rw [e2]
          simpa using h1
      rw [← e, List.take_append_drop]
    · simp only [List.length_singleton] at h2
      rw [List.length_take]; omega
  · rintro ⟨u, v, rfl, rfl⟩
    refine ⟨?_, ?_⟩
    · simp
    · simp
theorem part_T (a : List Nat) : ∃ u s v, PartT a u s v ∧ Txt.partition (T a) (T [40]) = (T u, T s, T v) := by
  unfold Txt.partition
  rcases StrLaws.occ_head (T a) (T [40]) 1 (Nat.le_refl _) with ⟨e, hn⟩ | ⟨i, r, e, hat, hfirst⟩
  · rw [e]
    refine ⟨a, [], [], ⟨fun hm => ?_, .inr ⟨rfl, rfl, rfl⟩⟩, rfl⟩
    obtain ⟨u, v, rfl⟩ := List.append_of_mem hm
    exact hn u.length ((at_T _ _ _).mpr (at40.mpr ⟨u, v, rfl, rfl⟩))
  · rw [e]
    obtain ⟨u, v, rfl, rfl⟩ := at40.mp ((at_T _ _ _).mp hat)
    refine ⟨u, [40], v, ⟨fun hm => ?_, .inl ⟨rfl, rfl⟩⟩, ?_⟩
    · obtain ⟨u1, u2, rfl⟩ := List.append_of_mem hm
      exact hfirst u1.length (by simp) ((at_T _ _ _).mpr (at40.mpr ⟨u1, u2 ++ 40 :: v, by simp, rfl⟩))
    · have e1 : Builtin.Str.strSub (T (u ++ 40 :: v)) 0 u.length = T u := by
        apply Str.ext'
        apply Array.toList_inj.mp
        rw [StrLaws.strSub_toList, T_list, T_list]
        simp
      have e2 : Builtin.Str.strSub (T (u ++ 40 :: v)) (u.length + (T [40]).length) (T (u ++ 40 :: v)).length = T v := by
        apply Str.ext'
        apply Array.toList_inj.mp
        rw [StrLaws.strSub_toList, T_list, T_list, T_len, T_len]
        simp
        exact List.take_of_length_le (by omega)
      show (_, _, _) = _
      rw [e1, e2]
section
variable {X : Cx}
theorem mt_partitionT : MtR X "str.partition" (fun x xs H Q => ∃ a, x = .str (T a) ∧ xs = [.str (T [40])] ∧ a.length ≤ sizeLine ∧ ∀ u s v, PartT a u s v → ∀ p, H p = none → Q (.ref p) (upd H p (.tup [.str (T u), .str (T s), .str (T v)]))) :=
  mtr_sub mt_partition fun x xs H Q ⟨a, hx, hxs, hl, q⟩ => ⟨_, _, hx, hxs, rfl, by rw [T_len]; exact hl, fun p hp => by
    obtain ⟨u, s, v, h, e⟩ := part_T a
    rw [e]
    exact q u s v h p hp⟩
end
/-! ## show_moment, read_moment -/
def shw (s : Nat → Nat) (b k : Nat) : List Nat := pH s b ++ 40 :: (pR s b k ++ [41])
/-- the text l tells this moment -/
structure Tells (l h r : List Nat) (b k : Nat) : Prop where
  g : GoodM h r
  p : PlainS (val h r) b k
  eq : l = h ++ 40 :: (r ++ [41])
  sh : shw (val h r) b k = l
def spShowN (C : Addr) : Sp := fun vs H Q E => ∃ (t : Addr) (h r : List Nat), vs = [.ref t] ∧ MomAt H t h r ∧ Small h r ∧
  (GoodM h r → ∀ b k, PlainS (val h r) b k → ∀ H', Same H H' → Q (.str (T (shw (val h r) b k))) H') ∧ (¬ GoodM h r → errOf C (.ref t) E H)
def spReadX (C : Addr) : Sp := fun vs H Q E => ∃ (l : List Nat), vs = [.str (T l)] ∧ l.length ≤ 200 ∧ (∀ c ∈ l, c < 16 ^ 8) ∧
  (∀ h r b k, Tells l h r b k → ∀ H' u, Same H H' → MomAt H' u (pH (val h r) b) (pR (val h r) b k) → Q (.ref u) H') ∧
  ((∀ h r b k, ¬ Tells l h r b k) → ∀ H', Same H H' → errOf C (.str (T l)) E H')
theorem no40 {l : List Nat} (h : Bin l) : 40 ∉ l := fun hm => by
  have := h 40 hm
  omega
theorem cut40 {u v u' v' : List Nat} (h : 40 ∉ u) (h' : 40 ∉ u') (e : u ++ 40 :: v = u' ++ 40 :: v') : u = u' ∧ v = v' := by
  induction u generalizing u' with
  | nil =>
    cases u' with
    | nil => exact ⟨rfl, (List.cons.inj e).2⟩
    | cons c u' => exact absurd (by rw [← (List.cons.inj e).1]; exact List.mem_cons_self) h'
  | cons c u ih =>
    cases u' with
    | nil => exact absurd (by rw [(List.cons.inj e).1]; exact List.mem_cons_self) h
    | cons c' u' =>
      obtain ⟨e1, e2⟩ := List.cons.inj e
      obtain ⟨a, b⟩ := ih (fun m => h (List.mem_cons_of_mem _ m)) (fun m => h' (List.mem_cons_of_mem _ m)) e2
      exact ⟨by rw [e1, a], b⟩
theorem pH_bin {h r : List Nat} (g : GoodM h r) (b : Nat) : Bin (pH (val h r) b) := L_bin fun i => val_bin g.bh g.br g.l1 i
theorem pR_bin {h r : List Nat} (g : GoodM h r) (b k : Nat) : Bin (pR (val h r) b k) := L_bin fun i => val_bin g.bh g.br g.l1 (b + i)
theorem pH_len (s : Nat → Nat) (b : Nat) : (pH s b).length = b := L_len ..
theorem pR_len (s : Nat → Nat) (b k : Nat) : (pR s b k).length = k := L_len ..
theorem bin_code {l : List Nat} (h : Bin l) : ∀ c ∈ l, c < 16 ^ 8 := fun c hc => by
  have := h c hc
  have e : (16 : Nat) ^ 8 = 4294967296 := by decide
  omega
section
variable {P : Program} {w : World} {K : PySem.W.Frag} {mg : Str → Option Value} {base : Heap} {D fI C_InvalidMoment C_Unreadable : Addr}
theorem ok_show_momentN {f : Addr} {fd : FuncData} (F : Fun K "show_moment" "show_moment" s_show_moment f fd) (h_plain : HasC (L2N.CX P w) P w K mg base "plain" 4 ["moment"] (spPlainN C_InvalidMoment)) : FnOk P w K mg base (L2N.CX P w) 5 f fd ["moment"] (spShowN C_InvalidMoment) := by
  have sc := sc_show_moment
  obtain ⟨f_plain, fd_plain, mg_plain, kp_plain, b_plain, G_plain⟩ := h_plain
  refine Fun.okN F sc (fun vs H Q E h => ?_) (fun cdv A outer s H vs Q E hr h => ?_)
  · obtain ⟨t, hd, r, rfl, _⟩ := h
    rfl
  · obtain ⟨t, hd, r, rfl, hm, m, k, kb⟩ := h
    refine ⟨_, (pss_cons (ps_asg (pe_callS G_plain (hr.mono (by decide)) (by rfl) mg_plain kp_plain b_plain (fun σ => L2N.passAt (L2N.takes_of rfl rfl rfl rfl) σ) (pa_cons (pv 0) pa_nil)) (pg_tup (by rfl) (pgs_cons (pg_name (i := 1) sc.nd rfl (by first | exact Or.inl rfl | exact Or.inr rfl)) (pgs_cons (pg_name (i := 2) sc.nd rfl (by first | exact Or.inl rfl | exact Or.inr rfl)) pgs_nil))))
    (pss_one (ps_ret (pe_joined (.cons (pe_fmt (pv 1)) (.cons (pe_strT [40] (by decide +kernel)) (.cons (pe_fmt (pv 2)) (.cons (pe_strT [41] (by decide +kernel)) .nil)))))))), ?_⟩
    refine ⟨_, rfl, t, hd, r, rfl, hm, m, fun g b n p H' u sm hu => ?_, fun ng => kb ng⟩
    obtain ⟨hb, hp⟩ := p.le g.l1
    have h1 := m.lh
    have h2 := hp.le
    have h3 := m.lr
    have e1 := pH_len (val hd r) b
    have e2 := pR_len (val hd r) b n
    refine ⟨u, _, rfl, SqT.of hu, rfl, _, _, rfl, _, _, rfl, rfl, ?_⟩
    have e0 : Str.empty = T [] := rfl
    have ln : ∀ l : List Nat, l.length ≤ 1000 → (T l).length ≤ sizeLine := fun l h => by rw [T_len]; exact le_line (by omega)
    refine ⟨_, rfl, .inl ⟨_, rfl, ln _ (by omega), _, rfl, by rw [e0, T_app]; exact ln _ (by simp; omega), ?_⟩⟩
    refine ⟨_, rfl, by rw [e0, T_app, T_app]; exact ln _ (by simp; omega), ?_⟩
    refine ⟨_, rfl, .inl ⟨_, rfl, ln _ (by omega), _, rfl, by rw [e0, T_app, T_app, T_app]; exact ln _ (by simp; omega), ?_⟩⟩
    refine ⟨_, rfl, by rw [e0, T_app, T_app, T_app, T_app]; exact ln _ (by simp; omega), ?_⟩
    rw [e0, T_app, T_app, T_app, T_app]
    have e4 : [] ++ pH (val hd r) b ++ [40] ++ pR (val hd r) b n ++ [41] = shw (val hd r) b n := by
      unfold shw
      simp
    show Q (.str (T ([] ++ pH (val hd r) b ++ [40] ++ pR (val hd r) b n ++ [41]))) H'
    rw [e4]
    exact k g b n p H' sm
theorem ok_read_momentX {f : Addr} {fd : FuncData} (F : Fun K "read_moment" "read_moment" s_read_moment f fd) (h_I : HasI P w K mg base D fI) (T_InvalidMoment : ErrT K mg D fI "InvalidMoment" C_InvalidMoment) (T_Unreadable : ErrT K mg D fI "Unreadable" C_Unreadable) (q_mm : PySem.W.subIn K (.ref C_InvalidMoment) (.ref C_InvalidMoment) = some true)
    (h_plain : HasC (L2N.CX P w) P w K mg base "plain" 4 ["moment"] (spPlainN C_InvalidMoment)) (h_show_moment : HasC (L2N.CX P w) P w K mg base "show_moment" 5 ["moment"] (spShowN C_InvalidMoment)) : FnOk P w K mg base (L2.CX P w) 6 f fd ["text"] (spReadX C_Unreadable) := by
  have sc := sc_read_moment
  obtain ⟨f_plain, fd_plain, mg_plain, kp_plain, b_plain, G_plain⟩ := h_plain
  obtain ⟨f_show_moment, fd_show_moment, mg_show_moment, kp_show_moment, b_show_moment, G_show_moment⟩ := h_show_moment
  obtain ⟨fd_I, b_I, G_I, H_I⟩ := h_I
  refine Fun.okXX F sc (fun vs H Q E h => ?_) (fun cdv A outer s H vs Q E hr h => ?_)
  · obtain ⟨l, rfl, _⟩ := h
    rfl
  · obtain ⟨l, rfl, hl, hc, k, kb⟩ := h
    refine ⟨_, (pss_cons (ps_asg (pe_m1 PySem.F.slot_str_partition PySem.F.type_str_partition mt_partitionT (pv 0) (pe_strT [40] (by decide +kernel))) (pg_tup (by rfl) (pgs_cons (pg_name (i := 1) sc.nd rfl (by first | exact Or.inl rfl | exact Or.inr rfl)) (pgs_cons (pg_name (i := 2) sc.nd rfl (by first | exact Or.inl rfl | exact Or.inr rfl)) (pgs_cons (pg_name (i := 3) sc.nd rfl (by first | exact Or.inl rfl | exact Or.inr rfl)) pgs_nil)))))
    (pss_cons (ps_try_onlyX (Wout := fun cls d _ H => E cls d H) rfl rfl ⟨by rfl, by decide, .inl T_InvalidMoment.gC⟩ (passesAt_of rfl) (L2.takes_of rfl rfl rfl rfl) (fun W pn xe tkN tkP po => (pss_one (ps_set (i := 4) sc.nd rfl (by first | exact Or.inl rfl | exact Or.inr rfl) (pe_callS G_plain (hr.mono (by decide)) (by rfl) mg_plain kp_plain b_plain (fun σ => L2N.passAt tkN σ) (pa_cons (pe_tup (pa_cons (pv 1) (pa_cons (pe_slice sl_T (pv 3) po_none (po_some (pe_un un_neg pe_int))) pa_nil))) pa_nil))))) (fun a oe cls d pn hz hf tkS hot => (pss_one (ps_raiseHN hot tkS (show PMk5 _ _ (tMkS K C_Unreadable _) from pmk_supH T_Unreadable H_I b_I (roomH_mark (hr.mono (by decide)) _) hot (by rfl) (pv 0))))))
    (pss_cons (ps_if (pt_cmpR op_neT (pe_callS (FnOk.nx G_show_moment) (hr.mono (by decide)) (by rfl) mg_show_moment kp_show_moment b_show_moment (fun σ => L2.passAt (L2.takes_of rfl rfl rfl rfl) σ) (pa_cons (pv 4) pa_nil)) (pv 0) (nomark _)) (pss_one (L2.ps_raise rfl (L2.takes_of rfl rfl rfl rfl) (pmk_sup T_Unreadable G_I b_I (hr.mono (by decide)) (by rfl) (pv 0)))) pss_nil)
    (pss_one (ps_ret (pv 4)))))), ?_⟩
    refine ⟨_, rfl, ⟨_, rfl⟩, l, rfl, rfl, le_line (by omega), fun u s0 v hp p hpn => ?_⟩
    have s1 := Same.new (o := .tup [.str (T u), .str (T s0), .str (T v)]) hpn
    refine ⟨p, _, rfl, SqT.of upd_same, rfl, _, _, rfl, _, _, rfl, _, _, rfl, rfl, ?_⟩
    have lu : u.length ≤ l.length ∧ v.length ≤ l.length ∧ (∀ c ∈ u, c ∈ l) ∧ ∀ c ∈ v, c ∈ l := by
      rcases hp.or with ⟨_, rfl⟩ | ⟨_, rfl, rfl⟩
      · exact ⟨by simp, by simp; omega, fun c hc => by simp [hc], fun c hc => by simp [hc]⟩
      · exact ⟨Nat.le_refl _, by simp, fun c hc => hc, fun c hc => by simp at hc⟩
    obtain ⟨lu, lv, mu, mv⟩ := lu
    have dv : ∀ c ∈ v.dropLast, c ∈ v := fun c hc => (List.dropLast_sublist v).subset hc
    have dl : v.dropLast.length ≤ v.length := by rw [List.length_dropLast]; omega
    refine ⟨_, rfl, _, rfl, _, rfl, -1, rfl, v, rfl, le_line (by omega), (by show 2 ≤ sizeLine; decide), fun t ht => ?_⟩
    rw [cut_last]
    have s2 : Same (L2.upd H p (.tup [.str (T u), .str (T s0), .str (T v)])) (L2.upd (L2.upd H p (.tup [.str (T u), .str (T s0), .str (T v)])) t (.tup [.str (T u), .str (T v.dropLast)])) := Same.new ht
    have s12 := s1.trans s2
    have sm : Small u v.dropLast := ⟨by omega, by omega, fun c hc' => hc c (mu c hc'), fun c hc' => hc c (mv c (dv c hc'))⟩
    -- what tells l tells the parts
    have told : ∀ h r b k, Tells l h r b k → h = u ∧ r = v.dropLast := fun h r b k tl => by
      have e := tl.eq
      rcases hp.or with ⟨_, e2⟩ | ⟨_, _, e2⟩
      · obtain ⟨e3, e4⟩ := cut40 hp.no (no40 tl.g.bh) (e2.symm.trans e)
        exact ⟨e3.symm, by rw [e4]; simp⟩
      · exact absurd (by rw [← e2, e]; simp) hp.no
    have shl : Shows K H (.str (T l)) := shows_T (by omega) hc
    refine ⟨t, u, v.dropLast, rfl, upd_same, sm, fun g b n ps H3 m1 s3 hm1 => ?_, fun ng d hd => ?_⟩
    · -- the moment is one
      obtain ⟨hb, hpn'⟩ := ps.le g.l1
      have hn := hpn'.le
      have g2 : GoodM (pH (val u v.dropLast) b) (pR (val u v.dropLast) b n) := ⟨pH_bin g b, pR_bin g b n, by rw [pR_len]; exact ps.pos⟩
      have l1 := pH_len (val u v.dropLast) b
      have l2 := pR_len (val u v.dropLast) b n
      have sm2 : Small (pH (val u v.dropLast) b) (pR (val u v.dropLast) b n) := ⟨by omega, by omega, bin_code g2.bh, bin_code g2.br⟩
      have bk := ps.back
      refine ⟨_, rfl, m1, _, _, rfl, hm1, sm2, fun _ b2 n2 ps2 H4 s4 => ?_, fun ng => absurd g2 ng⟩
      rw [bk] at ps2 ⊢
      obtain ⟨rfl, rfl⟩ := ps2.uniq ps
      refine ⟨_, rfl, _, l, rfl, rfl, ?_⟩
      by_cases c1 : shw (val u v.dropLast) b2 n2 = l
      · rw [decide_eq_true c1]
        refine ⟨_, rfl, iteF ?_⟩
        have tl : Tells l u v.dropLast b2 n2 := by
          refine ⟨g, ps, ?_, c1⟩
          rcases hp.or with ⟨_, e2⟩ | ⟨_, e1, e2⟩
          · have e5 := c1.trans e2
            unfold shw at e5
            obtain ⟨_, e6⟩ := cut40 (no40 g2.bh) hp.no e5
            have e7 : v.dropLast ++ [41] = v := by rw [← e6]; simp
            rw [e7]
            exact e2
          · have := g.l1
            rw [e1] at this
            simp at this
        refine ⟨_, rfl, k u v.dropLast b2 n2 tl H4 m1 ((s12.trans s3).trans s4) (s4 _ _ hm1)⟩
      · rw [decide_eq_false c1]
        refine ⟨_, rfl, iteT ?_⟩
        refine ⟨_, rfl, shows_T (by omega) hc, fun d hd => kb (fun h r b k tl => ?_) H4 ((s12.trans s3).trans s4) d hd⟩
        obtain ⟨rfl, rfl⟩ := told h r b k tl
        obtain ⟨rfl, rfl⟩ := tl.p.uniq ps
        exact c1 tl.sh
    · -- it is none
      refine ⟨true, exm_err T_InvalidMoment.c q_mm, fun _ a ha => ?_, fun z => by cases z⟩
      refine ⟨_, rfl, shows_T (by omega) hc, fun d2 hd2 => kb (fun h r b k tl => ?_) _ (s12.trans (Same.new hd)) d2 hd2⟩
      obtain ⟨rfl, rfl⟩ := told h r b k tl
      exact ng tl.g
end
end HC

namespace HC
open PySem PySem.Spec PyProof.Rows L2
abbrev s__law_bag : Stmt := top 16
abbrev N__law_bag : List Str := ["script", "blend", "great", "cell"]
theorem sc__law_bag : FnScope N__law_bag ["script"] (defScope s__law_bag) := ⟨rfl, rfl, rfl, by decide +kernel, rfl, by decide +kernel, by decide +kernel⟩

abbrev s__law_draw : Stmt := top 17
abbrev N__law_draw : List Str := ["bag", "many", "drawn", "turn", "mixed"]
theorem sc__law_draw : FnScope N__law_draw ["bag", "many"] (defScope s__law_draw) := ⟨rfl, rfl, rfl, by decide +kernel, rfl, by decide +kernel, by decide +kernel⟩

/-! ## the bag of numbers that a law draws from: a dict -/
def kGreat : Key := Sum.inr (T [103, 114, 101, 97, 116])
def kLeft : Key := Sum.inr (T [108, 101, 102, 116])
def kTurn : Key := Sum.inr (T [116, 117, 114, 110])
def kBlend : Key := Sum.inr (T [98, 108, 101, 110, 100])
theorem key_ne {a b : List Nat} (h : a ≠ b) : ¬ (Sum.inr (T a) : Key) = Sum.inr (T b) := fun e => h (T_inj (Sum.inr.inj e))
def bg (g : Addr) (l t b : Int) : List (Key × V) := [(kGreat, .ref g), (kLeft, .int l), (kTurn, .int t), (kBlend, .int b)]
theorem bg_great (g : Addr) (l t b : Int) : valV (bg g l t b) kGreat = some (.ref g) := valV_pos rfl
theorem bg_left (g : Addr) (l t b : Int) : valV (bg g l t b) kLeft = some (.int l) := (valV_neg (key_ne (by decide))).trans (valV_pos rfl)
theorem bg_turn (g : Addr) (l t b : Int) : valV (bg g l t b) kTurn = some (.int t) := (valV_neg (key_ne (by decide))).trans ((valV_neg (key_ne (by decide))).trans (valV_pos rfl))
theorem bg_blend (g : Addr) (l t b : Int) : valV (bg g l t b) kBlend = some (.int b) := (valV_neg (key_ne (by decide))).trans ((valV_neg (key_ne (by decide))).trans ((valV_neg (key_ne (by decide))).trans (valV_pos rfl)))
theorem put_left (g : Addr) (l t b l2 : Int) : putK (bg g l t b) kLeft (.int l2) = bg g l2 t b := by
  unfold putK
  rw [valV_any, bg_left]
  show (if true = true then _ else _) = _
  rw [if_pos rfl]
  have n1 : ¬ kGreat = kLeft := key_ne (by decide)
  have n3 : ¬ kTurn = kLeft := key_ne (by decide)
  have n4 : ¬ kBlend = kLeft := key_ne (by decide)
  simp [bg, n1, n3, n4]
theorem put_turn (g : Addr) (l t b t2 : Int) : putK (bg g l t b) kTurn (.int t2) = bg g l t2 b := by
  unfold putK
  rw [valV_any, bg_turn]
  show (if true = true then _ else _) = _
  rw [if_pos rfl]
  have n1 : ¬ kGreat = kTurn := key_ne (by decide)
  have n3 : ¬ kLeft = kTurn := key_ne (by decide)
  have n4 : ¬ kBlend = kTurn := key_ne (by decide)
  simp [bg, n1, n3, n4]
theorem merge_bg (g : Addr) (l t b : Int) : mergeK [] (bg g l t b) = bg g l t b := by
  have n1 : ¬ kGreat = kLeft := key_ne (by decide)
  have n2 : ¬ kGreat = kTurn := key_ne (by decide)
  have n3 : ¬ kGreat = kBlend := key_ne (by decide)
  have n4 : ¬ kLeft = kTurn := key_ne (by decide)
  have n5 : ¬ kLeft = kBlend := key_ne (by decide)
  have n6 : ¬ kTurn = kBlend := key_ne (by decide)
  simp [bg, mergeK, putK, n1, n2, n3, n4, n5, n6]
def BagAt (H : Hp) (p g : Addr) (n : Nat) : Prop := ∃ (ks : List Int) (l : Int) (t : Nat) (b : Int), H p = some (.dK (bg g l (t : Int) b)) ∧ H g = some (.lst (ks.map V.int)) ∧ (∀ x ∈ ks, 0 ≤ x) ∧ ks.length ≤ 63 ∧ 0 ≤ l ∧ t ≤ n ∧ 0 ≤ b ∧ b < 2 ^ 62 ∧ p ≠ g
/-- all stays but the bag -/
def SBB (p g : Addr) (H H' : Hp) : Prop := ∀ b o, H b = some o → b ≠ p → b ≠ g → H' b = some o
theorem SBB.refl {p g : Addr} {H : Hp} : SBB p g H H := fun _ _ h _ _ => h
theorem SBB.trans {p g : Addr} {H H1 H2 : Hp} (a : SBB p g H H1) (b : SBB p g H1 H2) : SBB p g H H2 := fun c o h n m => b c o (a c o h n m) n m
theorem SBB.of {p g : Addr} {H H' : Hp} (s : Same H H') : SBB p g H H' := fun c o h _ _ => s c o h
theorem BagAt.same {H H' : Hp} {p g : Addr} {n : Nat} (h : BagAt H p g n) (s : Same H H') : BagAt H' p g n := by
  obtain ⟨ks, l, t, b, h1, h2, r⟩ := h
  exact ⟨ks, l, t, b, s _ _ h1, s _ _ h2, r⟩
theorem BagAt.mono {H : Hp} {p g : Addr} {n m : Nat} (h : BagAt H p g n) (k : n ≤ m) : BagAt H p g m := by
  obtain ⟨ks, l, t, b, h1, h2, h3, h4, h5, h6, r⟩ := h
  exact ⟨ks, l, t, b, h1, h2, h3, h4, h5, by omega, r⟩
theorem BagAt.offp {H : Hp} {p g c : Addr} {n : Nat} (h : BagAt H p g n) (hc : H c = none) : c ≠ p ∧ c ≠ g := by
  obtain ⟨ks, l, t, b, h1, h2, _⟩ := h
  exact ⟨(ne_of_none h1 hc).symm, (ne_of_none h2 hc).symm⟩
theorem BagAt.upd {H : Hp} {p g c : Addr} {n : Nat} {o : HO} (h : BagAt H p g n) (n1 : c ≠ p) (n2 : c ≠ g) : BagAt (L2.upd H c o) p g n := by
  obtain ⟨ks, l, t, b, h1, h2, r⟩ := h
  exact ⟨ks, l, t, b, by rw [upd_ne n1.symm]; exact h1, by rw [upd_ne n2.symm]; exact h2, r⟩
def spBag (K : PySem.W.Frag) : Sp := fun vs H Q _ => ∃ (a : Addr) (ns : List Int), vs = [.ref a] ∧ SqL K H a (ns.map V.int) ∧ ns.length ≤ 63 ∧ ∀ H' p g, Same H H' → H p = none → H g = none → BagAt H' p g 0 → Q (.ref p) H'
def spBDraw : Sp := fun vs H Q _ => ∃ (p g : Addr) (m n : Nat), vs = [.ref p, .int (m : Int)] ∧ BagAt H p g n ∧ n < 2 ^ 30 ∧ 0 < m ∧ m < 2 ^ 200 ∧
  ∀ H' (r : Nat), SBB p g H H' → BagAt H' p g (n + 1) → r < m → Q (.int (r : Int)) H'
theorem bmul1 {t : Nat} (h : t < 2 ^ 31) : CMulW 17 (t : Int) := wide_mul (a := 40) (b := 40) (by decide) (by omega) (by decide) (by decide) (by decide)
theorem bmul3 {t : Nat} (h : t < 2 ^ 31) : CMulW 7919 (t : Int) := wide_mul (a := 40) (b := 40) (by decide) (by omega) (by decide) (by decide) (by decide)
theorem bpow1 {t : Nat} (h : t < 2 ^ 31) : CPowX ((t : Int) + 29) 2 := ⟨by decide, 40, by omega, by decide⟩
theorem bmul2 {b : Int} {t : Nat} (h0 : 0 ≤ b) (h1 : b < 2 ^ 62) (h : t < 2 ^ 31) : CMulW (b + 17 * (t : Int)) (((t : Int) + 29) ^ (2 : Int).toNat) := by
  refine wide_mul (a := 64) (b := 80) (by omega) ?_ (by decide) (by decide) (by decide)
  rw [show (2 : Int).toNat = 2 from rfl, Int.pow_succ, Int.pow_succ, Int.pow_zero, Int.one_mul]
  exact wide_lt (a := 40) (b := 40) (by omega) (by omega)
theorem bpow2 {x : Int} : CPowX (x % 2305843009213693951) 3 := ⟨by decide, 64, by omega, by decide⟩
section
variable {P : Program} {w : World} {K : PySem.W.Frag} {mg : Str → Option Value} {base : Heap}
theorem ok__law_draw {f : Addr} {fd : FuncData} (F : Fun K "_law_draw" "_law_draw" s__law_draw f fd) (B : Blt mg) : FnOk P w K mg base CX0 1 f fd ["bag", "many"] spBDraw := by
  have sc := sc__law_draw
  refine F.ok sc (fun vs H Q E h => ?_) (fun cdv A outer s H vs Q E hr h => ?_)
  · obtain ⟨p, g, m, n, rfl, _⟩ := h
    rfl
  · obtain ⟨p, g, m, n, rfl, ⟨ks, l, t, b, hp, hg, hks, hkl, hl, ht, hb, hb2, hpg⟩, hn, hm, hm2, k⟩ := h
    refine ⟨_, (pss_cons (ps_if (PW.pt (pw_and (pt_cmpR op_lt (pe_dget (hu_of hr) (pv 0) (pe_strT [108, 101, 102, 116] (by decide +kernel)) (fun _ _ => rfl)) (pv 1) (nomark _)) (pw_and1 (pt_cmpR op_gt (pe_callB call_len_seq (by rfl) B.len PySem.boot_len (pa_cons (pe_dget (hu_of hr) (pv 0) (pe_strT [103, 114, 101, 97, 116] (by decide +kernel)) (fun _ _ => rfl)) pa_nil)) pe_int (nomark _))))) (pss_one (ps_dput (hu_of hr) (pv 0) (pe_strT [108, 101, 102, 116] (by decide +kernel)) (pe_bm PySem.F.plainAttrs_list PySem.F.slot_list_pop PySem.F.type_list_pop mt_popAt (pe_dget (hu_of hr) (pv 0) (pe_strT [103, 114, 101, 97, 116] (by decide +kernel)) (fun _ _ => rfl)) (pa_cons pe_int pa_nil)) rfl)) pss_nil)
    (pss_cons (ps_if (pt_cmpR op_ge (pe_dget (hu_of hr) (pv 0) (pe_strT [108, 101, 102, 116] (by decide +kernel)) (fun _ _ => rfl)) (pv 1) (nomark _)) (pss_cons (ps_set (i := 2) sc.nd rfl (by first | exact Or.inl rfl | exact Or.inr rfl) (pe_op op_mod (pe_dget (hu_of hr) (pv 0) (pe_strT [108, 101, 102, 116] (by decide +kernel)) (fun _ _ => rfl)) (pv 1)))
    (pss_cons (ps_dput (hu_of hr) (pv 0) (pe_strT [108, 101, 102, 116] (by decide +kernel)) (pe_op op_fdivW (pe_dget (hu_of hr) (pv 0) (pe_strT [108, 101, 102, 116] (by decide +kernel)) (fun _ _ => rfl)) (pv 1)) rfl)
    (pss_one (ps_ret (pv 2))))) pss_nil)
    (pss_cons (ps_daug (hu_of hr) (pv 0) (pe_strT [116, 117, 114, 110] (by decide +kernel)) pe_int ip_add (by intros; rfl))
    (pss_cons (ps_set (i := 3) sc.nd rfl (by first | exact Or.inl rfl | exact Or.inr rfl) (pe_dget (hu_of hr) (pv 0) (pe_strT [116, 117, 114, 110] (by decide +kernel)) (fun _ _ => rfl)))
    (pss_cons (ps_set (i := 4) sc.nd rfl (by first | exact Or.inl rfl | exact Or.inr rfl) (pe_op op_add (pe_op op_mulW (pe_op op_add (pe_dget (hu_of hr) (pv 0) (pe_strT [98, 108, 101, 110, 100] (by decide +kernel)) (fun _ _ => rfl)) (pe_op op_mulW pe_int (pv 3))) (pe_op op_powX (pe_op op_add (pv 3) pe_int) pe_int)) (pe_op op_mulW pe_int (pv 3))))
    (pss_one (ps_ret (pe_op op_mod (pe_op op_fdivW (pe_op op_mod (pe_op op_powX (pe_op op_mod (pv 4) pe_int) pe_int) (pe_op op_add (pe_op op_powX pe_int pe_int) pe_int)) pe_int) (pv 1))))))))), ?_⟩
    have mpos : (0 : Int) < (m : Int) := by omega
    have dget : ∀ {G : Hp} {l2 t2 b2 : Int} {k : Key} {v : V}, G p = some (.dK (bg g l2 t2 b2)) → valV (bg g l2 t2 b2) k = some v → DGet G p (kV k) (some v) := fun h e => e ▸ DGet.k h
    have lk : ∀ l2 t2 b2 : Int, (bg g l2 t2 b2).length < sizeLine := fun _ _ _ => by show 4 < _; decide
    refine ⟨_, rfl, p, _, rfl, dget hp (bg_left g l t b), _, rfl, _, _, rfl, rfl, _, rfl, ?_⟩
    have three : (l < (m : Int) ∧ ∃ x r, ks = x :: r) ∨ (l < (m : Int) ∧ ks = []) ∨ ¬ l < (m : Int) := by
      by_cases c : l < (m : Int)
      · cases ks with
        | nil => exact .inr (.inl ⟨c, rfl⟩)
        | cons x r => exact .inl ⟨c, x, r, rfl⟩
      · exact .inr (.inr c)
    rcases three with ⟨c1, x, r, rfl⟩ | ⟨c1, rfl⟩ | c1
    case' inl =>
      rw [decide_eq_true c1]
      refine iteT ?_
      refine ⟨_, rfl, p, _, rfl, dget hp (bg_great g l t b), g, _, rfl, .inl (SqL.of hg), _, _, rfl, rfl, _, rfl, ?_⟩
      rw [decide_eq_true (by rw [List.length_map, List.length_cons]; omega)]
      refine iteT ?_
      have hpg2 : p ≠ g := hpg
      have hp0 : (L2.upd H g (.lst (r.map V.int))) p = some (.dK (bg g l t b)) := by rw [upd_ne hpg]; exact hp
      refine ⟨_, rfl, p, _, rfl, dget hp (bg_great g l t b), .inl ⟨rfl, _, SqL.of hg⟩, g, _, 0, 0, .int x, rfl, rfl, hg, by decide, by decide, (ixN_seq (by unfold ixN; rw [if_pos (by omega), if_pos (by rw [List.length_map, List.length_cons]; omega)]; rfl)).1, rfl, ?_⟩
      refine ⟨_, rfl, p, _, rfl, .inl ⟨_, kLeft, hp0, rfl, lk _ _ _, rfl⟩, ?_⟩
      rw [put_left, show ((List.map V.int (x :: r)).eraseIdx 0) = r.map V.int from rfl]
      have hks1 : ∀ x ∈ r, (0 : Int) ≤ x := fun y hy => hks y (List.mem_cons_of_mem _ hy)
      have hkl1 : r.length ≤ 63 := by rw [List.length_cons] at hkl; omega
      have hl1 : (0 : Int) ≤ x := hks x List.mem_cons_self
      have hp1 : (L2.upd (L2.upd H g (.lst (r.map V.int))) p (.dK (bg g x t b))) p = some (.dK (bg g x t b)) := upd_same
      have hg1 : (L2.upd (L2.upd H g (.lst (r.map V.int))) p (.dK (bg g x t b))) g = some (.lst (r.map V.int)) := by rw [upd_ne hpg.symm]; exact upd_same
      have sb1 : SBB p g H (L2.upd (L2.upd H g (.lst (r.map V.int))) p (.dK (bg g x t b))) := fun c o h n1 n2 => by rw [upd_ne n1, upd_ne n2]; exact h
      have go := And.intro hp1 (And.intro hg1 (And.intro hks1 (And.intro hkl1 (And.intro hl1 sb1))))
      clear hp1 hg1 hks1 hkl1 hl1 sb1 hp0 hp hg hks hkl hl c1
      generalize L2.upd (L2.upd H g (.lst (r.map V.int))) p (.dK (bg g x t b)) = G at go ⊢
      obtain ⟨hp1, hg1, hks1, hkl1, hl1, sb1⟩ := go
    case' inr.inl =>
      rw [decide_eq_true c1]
      refine iteT ?_
      refine ⟨_, rfl, p, _, rfl, dget hp (bg_great g l t b), g, _, rfl, .inl (SqL.of hg), _, _, rfl, rfl, _, rfl, ?_⟩
      rw [decide_eq_false (by simp)]
      refine iteF ?_
      have sb1 : SBB p g H H := SBB.refl
      have go := And.intro hp (And.intro hg (And.intro hks (And.intro hkl (And.intro hl sb1))))
      obtain ⟨hp1, hg1, hks1, hkl1, hl1, sb1⟩ := go
    case' inr.inr =>
      rw [decide_eq_false c1]
      refine iteF ?_
      refine iteF ?_
      have sb1 : SBB p g H H := SBB.refl
      have go := And.intro hp (And.intro hg (And.intro hks (And.intro hkl (And.intro hl sb1))))
      obtain ⟨hp1, hg1, hks1, hkl1, hl1, sb1⟩ := go
    all_goals
      refine ⟨_, rfl, p, _, rfl, dget hp1 (bg_left g _ t b), _, rfl, _, _, rfl, rfl, _, rfl, ?_⟩
      refine ite2 (fun c2 => ?_) (fun c2 => ?_)
      · refine ⟨_, rfl, p, _, rfl, dget hp1 (bg_left g _ t b), _, rfl, _, _, rfl, rfl, mpos, ?_⟩
        refine ⟨_, rfl, p, _, rfl, dget hp1 (bg_left g _ t b), _, rfl, _, _, rfl, rfl, wide_div mpos (b := 200) (by omega) (by decide) (by decide), ?_⟩
        refine ⟨_, rfl, p, _, rfl, .inl ⟨_, kLeft, hp1, rfl, lk _ _ _, rfl⟩, ?_⟩
        rw [put_left]
        refine ⟨_, rfl, ?_⟩
        refine rem_nat (m := m) hm fun r hr => k _ r (fun c o h n1 n2 => by rw [upd_ne n1]; exact sb1 c o h n1 n2) ⟨_, _, t, b, upd_same, by rw [upd_ne hpg.symm]; exact hg1, hks1, hkl1, Int.ediv_nonneg hl1 (by omega), by omega, hb, hb2, hpg⟩ hr
      · refine ⟨_, rfl, p, _, rfl, dget hp1 (bg_turn g _ t b), _, _, rfl, rfl, _, .inl ⟨_, kTurn, hp1, rfl, lk _ _ _, rfl⟩, ?_⟩
        rw [put_turn, show (fun i j : Int => i + j) (t : Int) 1 = ((t + 1 : Nat) : Int) from by simp]
        refine ⟨_, rfl, p, _, rfl, dget upd_same (bg_turn g _ _ b), ?_⟩
        refine ⟨_, rfl, p, _, rfl, dget upd_same (bg_blend g _ _ b), _, rfl, _, _, rfl, rfl, bmul1 (by omega), _, _, rfl, rfl, _, rfl, _, _, rfl, rfl, _, _, rfl, rfl, bpow1 (by omega), _, _, rfl, rfl, bmul2 hb hb2 (by omega), _, rfl, _, _, rfl, rfl, bmul3 (by omega), _, _, rfl, rfl, ?_⟩
        refine ⟨_, rfl, _, _, rfl, rfl, (by show (0 : Int) < 2305843009213693951; decide), _, _, rfl, rfl, bpow2, _, _, rfl, rfl, ⟨by decide, 4, by decide, by decide⟩, _, _, rfl, rfl, _, _, rfl, rfl, (by show (0 : Int) < 10 ^ 18 + 9; decide), _, _, rfl, rfl, wide_div (b := 40) (by decide) (by decide) (by decide) (by decide), _, rfl, _, _, rfl, rfl, mpos, ?_⟩
        refine rem_nat (m := m) hm fun r hr => k _ r (fun c o h n1 n2 => by rw [upd_ne n1]; exact sb1 c o h n1 n2) ⟨_, _, t + 1, b, upd_same, by rw [upd_ne hpg.symm]; exact hg1, hks1, hkl1, hl1, by omega, hb, hb2, hpg⟩ hr
theorem ok__law_bag {f : Addr} {fd : FuncData} (F : Fun K "_law_bag" "_law_bag" s__law_bag f fd) (B : Blt mg) : FnOk P w K mg base CX0 1 f fd ["script"] (spBag K) := by
  have sc := sc__law_bag
  refine F.ok sc (fun vs H Q E h => ?_) (fun cdv A outer s H vs Q E hr h => ?_)
  · obtain ⟨a, ns, rfl, _⟩ := h
    rfl
  · obtain ⟨a, ns, rfl, hS, hl, k⟩ := h
    refine ⟨_, (pss_cons (ps_par (i := 1) (j := 2) (by rfl) sc.nd rfl rfl (by decide) rfl rfl (pa_cons pe_int (pa_cons (pe_lst pa_nil) pa_nil)) (by rfl))
    (pss_cons (ps_for PassesOwn.never rfl (pi_list (pv 0)) (pg_name (i := 3) sc.nd rfl (by first | exact Or.inl rfl | exact Or.inr rfl))
      (pss_cons (ps_set (i := 1) sc.nd rfl (by first | exact Or.inl rfl | exact Or.inr rfl) (pe_op op_mod (pe_op op_add (pe_op op_mulW (pv 1) pe_int) (pv 3)) pe_int))
    (pss_one (ps_if (pt_cmpR op_ge (pe_callB call_abs (by rfl) B.abs (by decide +kernel) (pa_cons (pv 3) pa_nil)) (pe_op op_powX pe_int pe_int) (nomark _)) (pss_one (ps_expr (pe_bm PySem.F.plainAttrs_list PySem.F.slot_list_append PySem.F.type_list_append mt_append (pv 2) (pa_cons (pe_callB call_abs (by rfl) B.abs (by decide +kernel) (pa_cons (pv 3) pa_nil)) pa_nil)))) pss_nil))))
    (pss_one (ps_ret (pe_disp (pps_cons (pe_strT [103, 114, 101, 97, 116] (by decide +kernel)) (pv 2) (pps_cons (pe_strT [108, 101, 102, 116] (by decide +kernel)) pe_int (pps_cons (pe_strT [116, 117, 114, 110] (by decide +kernel)) pe_int (pps_cons (pe_strT [98, 108, 101, 110, 100] (by decide +kernel)) (pv 1) pps_nil)))) (by rfl) (by rfl) (fun z => by cases z) (by decide)))))), ?_⟩
    refine ⟨(by show 0 ≤ sizeLine; decide), fun g hg => ⟨_, _, rfl, ?_⟩⟩
    have n1 := Same.new hg (o := .lst [])
    refine ⟨_, rfl, a, rfl, ⟨_, n1.seq hS⟩, ?_⟩
    refine for_list (K := K) (a := a) (xs := ns.map V.int) (fun i σ G => ∃ (ks : List Int) (b : Int) (x3 : Option V), Same H G ∧ G g = some (.lst (ks.map V.int)) ∧ (∀ x ∈ ks, 0 ≤ x) ∧ ks.length ≤ i ∧ 0 ≤ b ∧ b < 2 ^ 62 ∧ σ = [some (.ref a), some (.int b), some (.ref g), x3])
      ⟨[], 11, none, n1, upd_same, fun _ h => absurd h List.not_mem_nil, Nat.le_refl _, by decide, by decide, rfl⟩ (fun i σ G _ h => by obtain ⟨_, _, _, sm, _⟩ := h; exact sm.seq hS) ?_ ?_
    · rintro i y σ G hi ⟨ks, b, x3, sm, hk, hks, hkl, hb, hb2, rfl⟩
      obtain ⟨z, hz, rfl⟩ : ∃ z, ns[i]? = some z ∧ y = .int z := by
        rw [List.getElem?_map] at hi
        cases e : ns[i]? with
        | none => rw [e] at hi; cases hi
        | some z => rw [e] at hi; exact ⟨z, rfl, (Option.some.inj hi).symm⟩
      have hi2 := (List.getElem?_eq_some_iff.mp hz).1
      have m1 := Int.emod_nonneg (b * 1000003 + z) (show (2305843009213693951 : Int) ≠ 0 by decide)
      have m2 := Int.emod_lt_of_pos (b * 1000003 + z) (show (0 : Int) < 2305843009213693951 by decide)
      refine ⟨_, rfl, _, _, rfl, rfl, wide_mul (a := 64) (b := 40) (by omega) (by decide) (by decide) (by decide) (by decide), _, rfl, _, _, rfl, rfl, _, _, rfl, rfl, (by show (0 : Int) < 2305843009213693951; decide), ?_⟩
      refine ⟨_, rfl, _, rfl, _, _, rfl, rfl, ⟨by decide, 4, by decide, by decide⟩, _, _, rfl, rfl, _, rfl, ?_⟩
      have ab : (0 : Int) ≤ (if z < 0 then -z else z) := by split <;> omega
      refine ite2 (fun c1 => ?_) (fun c1 => ?_)
      · refine ⟨_, rfl, .inl ⟨rfl, _, SqL.of hk⟩, _, rfl, _, rfl, g, _, _, rfl, rfl, hk, by rw [List.length_map]; exact Nat.lt_of_lt_of_le (show _ < 1000 by omega) (by decide), ?_⟩
        refine ⟨ks ++ [if z < 0 then -z else z], _, _, fun c o h => by rw [upd_ne (ne_of_none h hg)]; exact sm c o h, by rw [List.map_append]; exact upd_same, fun x hx => ?_, by rw [List.length_append]; show _ + 1 ≤ _; omega, m1, by omega, rfl⟩
        rcases List.mem_append.mp hx with h | h
        · exact hks x h
        · rw [List.mem_singleton.mp h]; exact ab
      · exact ⟨ks, _, _, sm, hk, hks, by omega, m1, by omega, rfl⟩
    · rintro σ G ⟨ks, b, x3, sm, hk, hks, hkl, hb, hb2, rfl⟩
      intro p hp
      have hpg : p ≠ g := (ne_of_none hk hp).symm
      refine ⟨_, rfl, _, rfl, upd_same, bg g 0 0 b, rfl, (by show 4 ≤ 15; decide), ?_⟩
      rw [merge_bg, upd_upd]
      rw [List.length_map] at hkl
      refine k _ p g (sm.trans (Same.new hp)) (by cases e : H p with | none => rfl | some o => rw [sm _ _ e] at hp; cases hp) hg ⟨ks, 0, 0, b, upd_same, by rw [upd_ne hpg.symm]; exact hk, hks, by omega, Int.le_refl _, Nat.le_refl _, hb, hb2, hpg⟩
end
end HC

namespace HC
open PySem PySem.Spec PyProof.Rows L2
abbrev s__law_word : Stmt := top 18
abbrev N__law_word : List Str := ["bag", "long", "turn"]
theorem sc__law_word : FnScope N__law_word ["bag", "long"] (defScope s__law_word) := ⟨rfl, rfl, rfl, by decide +kernel, rfl, by decide +kernel, by decide +kernel⟩


def spWordB : Sp := fun vs H Q _ => ∃ (p g : Addr) (m n : Nat), vs = [.ref p, .int (m : Int)] ∧ BagAt H p g n ∧ n + 1000 < 2 ^ 30 ∧ m ≤ 90 ∧
  ∀ H' (l : List Nat), SBB p g H H' → BagAt H' p g (n + m) → Bin l → l.length = m → Q (.str (T l)) H'
def spEndless : Sp := fun vs H Q _ => ∃ (p g : Addr) (n : Nat), vs = [.ref p] ∧ BagAt H p g n ∧ n + 3000 < 2 ^ 30 ∧
  ∀ H' (t : Addr) (h r : List Nat), SBB p g H H' → BagAt H' p g (n + 20) → MomAt H' t h r → Bin h → Bin r → h.length ≤ 7 → 1 ≤ r.length → r.length ≤ 4 → Q (.ref t) H'
section
variable {P : Program} {w : World} {K : PySem.W.Frag} {mg : Str → Option Value} {base : Heap}
theorem ok__law_word {f : Addr} {fd : FuncData} (F : Fun K "_law_word" "_law_word" s__law_word f fd) (B : Blt mg) (h__law_draw : Has P w K mg base "_law_draw" 1 ["bag", "many"] spBDraw) : FnOk P w K mg base CX0 2 f fd ["bag", "long"] spWordB := by
  have sc := sc__law_word
  obtain ⟨f__law_draw, fd__law_draw, mg__law_draw, kp__law_draw, b__law_draw, G__law_draw⟩ := h__law_draw
  refine F.ok sc (fun vs H Q E h => ?_) (fun cdv A outer s H vs Q E hr h => ?_)
  · obtain ⟨p, g, m, n, rfl, _⟩ := h
    rfl
  · obtain ⟨p, g, m, n, rfl, hp, hn, hm, k⟩ := h
    refine ⟨_, (pss_one (ps_ret (pe_bm PySem.F.plainAttrs_str PySem.F.slot_str_join PySem.F.type_str_join mt_joinT (pe_strT [] (by decide +kernel)) (pa_cons (pe_lc (own := [("turn", 2)]) (g := gName 2) (by rfl) sc.nd (pi_range1 (by rfl) B.range (pa_cons (pv 1) pa_nil)) (blkOk_by (own := [("turn", 2)]) (N := N__law_word) (sc := defScope s__law_word) (by decide +kernel)) (fun _ _ _ _ _ => pg_name (i := 2) sc.nd rfl (by first | exact Or.inl rfl | exact Or.inr rfl)) (fun _ _ _ _ _ => pts_nil) (fun _ _ _ _ _ => (pe_ix ix_T (pe_strT [48, 49] (by decide +kernel)) (pe_call G__law_draw (hr.mono (by decide)) (by rfl) mg__law_draw kp__law_draw b__law_draw .nil pass0 (pa_cons (pv 0) (pa_cons pe_int pa_nil))) (fun _ _ => rfl)))) pa_nil)))), ?_⟩
    refine ⟨rfl, ?_⟩
    refine ⟨_, rfl, (m : Int), rfl, by omega, by omega, fun D hD => ?_⟩
    have oD := hp.offp hD
    refine lc_range (lo := 0) (n := (m : Int).toNat) (fun i H' => ∃ ys : List (List Nat), H' D = some (.lst (ys.map fun y => V.str (T y))) ∧ ys.length = i ∧ ys.flatten.length = i ∧ Bin ys.flatten ∧ SBB p g H H' ∧ BagAt H' p g (n + i)) ?_ ?_ ?_
    · exact ⟨[], upd_same, rfl, rfl, Bin.nil, SBB.of (Same.new hD), hp.same (Same.new hD)⟩
    · rintro i H' hi ⟨ys, hy, hy1, hy2, hy3, sb, pp⟩
      rw [Int.toNat_natCast] at hi
      refine ⟨rfl, ?_⟩
      refine tYes_if ?_
      refine ⟨_, rfl, p, g, 2, n + i, rfl, pp, by omega, by decide, by decide, fun H4 r s4 p4 hr4 => ?_⟩
      obtain ⟨c, ec, bc⟩ := bit2 hr4
      refine ⟨[48, 49], _, c, rfl, rfl, by decide, atI_of ec, ?_⟩
      have hy4 := s4 _ _ hy oD.1 oD.2
      refine ⟨_, hy4, ?_, ys ++ [[c]], ?_, ?_, ?_, ?_, ?_, ?_⟩
      · rw [List.length_map, hy1]
        exact small1000 (by omega)
      · rw [upd_same, List.map_append]
        rfl
      · rw [List.length_append, hy1]
        rfl
      · rw [List.flatten_append, List.length_append, hy2]
        rfl
      · rw [List.flatten_append]
        exact hy3.app (by simpa using bc)
      · intro b o hb n1 n2
        rw [upd_ne (ne_of_none hb hD)]
        exact s4 _ _ (sb _ _ hb n1 n2) n1 n2
      · exact (p4.upd oD.1 oD.2)
    · rintro H' ⟨ys, hy, hy1, hy2, hy3, sb, pp⟩
      rw [Int.toNat_natCast] at hy1 hy2 pp
      refine ⟨D, ys, rfl, rfl, SqL.of hy, by omega, ?_⟩
      exact k _ _ sb pp hy3 hy2
end
end HC

namespace HC
open PySem PySem.Spec PyProof.Rows L2
abbrev s__law_shown : Stmt := top 19
abbrev N__law_shown : List Str := ["thing", "head", "ring", "size"]
theorem sc__law_shown : FnScope N__law_shown ["thing"] (defScope s__law_shown) := ⟨rfl, rfl, rfl, by decide +kernel, rfl, by decide +kernel, by decide +kernel⟩

theorem per_dvd {r : List Nat} {k : Nat} (p : Per r k) : k ∣ r.length := by
  have ik := p.inv
  have ht : Inv r (r.length % k) := fun i => by
    have e : r.length = k * (r.length / k) + r.length % k := (Nat.div_add_mod _ _).symm
    have h1 := cyc_add r i
    rw [e] at h1
    have h2 := inv_mul (r := r) ik (r.length / k) (i + r.length % k)
    rw [← h1, ← h2]
    congr 1
    rw [Nat.mul_comm]
    omega
  by_cases c : r.length % k = 0
  · exact Nat.dvd_of_mod_eq_zero c
  · exact absurd ht (p.least _ (by omega) (Nat.mod_lt _ p.pos))
theorem rep_per {r : List Nat} {k : Nat} (p : Per r k) : rep (r.length / k) (r.take k) = r := by
  obtain ⟨q, hq⟩ := per_dvd p
  have hk := p.pos
  have hlt : (r.take k).length = k := by rw [List.length_take]; have := p.le; omega
  have hqk : r.length / k = q := by rw [hq]; exact Nat.mul_div_cancel_left _ hk
  rw [hqk]
  apply List.ext_getElem?
  intro i
  by_cases hi : i < r.length
  · have h1 : i < q * (r.take k).length := by rw [hlt, Nat.mul_comm, ← hq]; exact hi
    rw [rep_get h1, cyc_lt hi]
    congr 1
    have hm : i % k < k := Nat.mod_lt _ hk
    have h2 := cyc_get (r := r.take k) (by omega) i
    rw [hlt, List.getElem?_take_of_lt hm, cyc_lt (by have := p.le; omega)] at h2
    rw [← Option.some.inj h2]
    have h3 := inv_mul (r := r) p.inv (i / k) (i % k)
    rw [← h3]
    congr 1
    have := Nat.mod_add_div i k
    rw [Nat.mul_comm (i / k) k]
    omega
  · rw [List.getElem?_eq_none (by rw [rep_len, hlt, Nat.mul_comm, ← hq]; omega), List.getElem?_eq_none (by omega)]
theorem rep_inv {r : List Nat} {s : Nat} (h1 : 1 ≤ s) (h2 : s ≤ r.length) (h : rep (r.length / s) (r.take s) = r) : Inv r s := by
  have hlt : (r.take s).length = s := by rw [List.length_take]; omega
  have hl := congrArg List.length h
  rw [rep_len, hlt] at hl
  have key : ∀ i, cyc r i = cyc (r.take s) i := fun i => by
    have hr : 1 ≤ r.length := by omega
    have hm : i % r.length < r.length := Nat.mod_lt _ hr
    have e1 := cyc_get hr i
    have e2 : (rep (r.length / s) (r.take s))[i % r.length]? = some (cyc (r.take s) (i % r.length)) := rep_get (by rw [hlt, hl]; exact hm)
    rw [h, e1] at e2
    rw [Option.some.inj e2]
    have e3 := cyc_mul (r.take s) (i % r.length) ((r.length / s) * (i / r.length))
    rw [← e3, hlt]
    congr 1
    have e4 := Nat.mod_add_div i r.length
    have e5 : r.length / s * (i / r.length) * s = r.length * (i / r.length) := by
      rw [Nat.mul_comm (r.length / s) (i / r.length), Nat.mul_assoc, hl, Nat.mul_comm]
    rw [e5]
    exact e4
  intro i
  rw [key, key]
  have := cyc_add (r.take s) i
  rw [hlt] at this
  exact this
theorem rot_eq (u : List Nat) (c : Nat) : (u ++ [c]).drop u.length ++ (u ++ [c]).take u.length = c :: u := by
  rw [List.drop_left, List.take_left]
  rfl
theorem cyc_rot (u : List Nat) (c i : Nat) : cyc (c :: u) i = cyc (u ++ [c]) (i + u.length) := by
  have h := rot_cyc (r := u ++ [c]) (s := u.length) (by simp) (by simp) i
  rw [rot_eq] at h
  exact h
theorem per_rot {u : List Nat} {c k : Nat} (p : Per (u ++ [c]) k) : Per (c :: u) k := by
  have hl : (u ++ [c]).length = u.length + 1 := by simp
  have back : ∀ j, Inv (c :: u) j → Inv (u ++ [c]) j := fun j hj i => by
    have h1 := hj (i + 1)
    rw [cyc_rot, cyc_rot] at h1
    have e1 := cyc_add (u ++ [c]) (i + j)
    have e2 := cyc_add (u ++ [c]) i
    rw [hl] at e1 e2
    rw [← e1, ← e2]
    rw [show i + j + (u.length + 1) = i + 1 + j + u.length by omega, show i + (u.length + 1) = i + 1 + u.length by omega]
    exact h1
  refine ⟨p.pos, by have := p.le; rw [hl] at this; exact this, fun i => ?_, fun j h1 h2 hj => p.least j h1 h2 (back j hj)⟩
  rw [cyc_rot, cyc_rot, show i + k + u.length = i + u.length + k by omega, p.inv]
theorem val_rot (hd u : List Nat) (c : Nat) : val (hd ++ [c]) (u ++ [c]) = val hd (c :: u) := by
  funext i
  have hl : (u ++ [c]).length = u.length + 1 := by simp
  unfold val
  rw [List.length_append, List.length_singleton]
  by_cases h1 : i < hd.length
  · rw [if_pos (by omega), if_pos h1, List.getD_eq_getElem?_getD, List.getD_eq_getElem?_getD, List.getElem?_append_left h1]
  · rw [if_neg h1, cyc_rot]
    by_cases h2 : i = hd.length
    · rw [if_pos (by omega), List.getD_eq_getElem?_getD, List.getElem?_append_right (by omega), h2, Nat.sub_self, Nat.zero_add]
      have e := cyc_lt (r := u ++ [c]) (i := u.length) (by omega)
      rw [List.getElem?_append_right (Nat.le_refl _), Nat.sub_self] at e
      show c = _
      exact Option.some.inj e
    · rw [if_neg (by omega), show i - hd.length + u.length = i - (hd.length + 1) + (u ++ [c]).length by omega, cyc_add]
/-- where nothing more can be taken into the ring, the moment is plain -/
theorem plain_end {hd rg : List Nat} {k : Nat} (p : Per rg k) (hl : rg.length = k) (h : hd = [] ∨ ∃ a b x y, hd = a ++ [x] ∧ rg = b ++ [y] ∧ x ≠ y) : PlainS (val hd rg) hd.length k := by
  refine plain_of p (Nat.le_refl _) (fun i h1 h2 => absurd h2 (by omega)) ?_
  rcases h with rfl | ⟨a, b, x, y, rfl, rfl, hxy⟩
  · exact .inl rfl
  · refine .inr ?_
    have hk : k = b.length + 1 := by rw [← hl]; simp
    have e1 : (a ++ [x]).length - 1 = a.length := by simp
    rw [e1]
    have e2 : val (a ++ [x]) (b ++ [y]) a.length = x := by
      unfold val
      rw [if_pos (by simp), List.getD_eq_getElem?_getD, List.getElem?_append_right (Nat.le_refl _), Nat.sub_self]
      rfl
    have e3 : EE (a ++ [x]) (b ++ [y]) k a.length = y := by
      unfold EE
      have hl2 : (b ++ [y]).length = b.length + 1 := by simp
      have e4 : a.length + (a ++ [x]).length * (k - 1) = b.length + a.length * (b ++ [y]).length := by
        rw [hk, hl2, List.length_append, List.length_singleton, Nat.add_sub_cancel, Nat.add_mul, Nat.mul_add, Nat.one_mul, Nat.mul_one]
        omega
      rw [e4, cyc_mul]
      have e := cyc_lt (r := b ++ [y]) (i := b.length) (by simp)
      rw [List.getElem?_append_right (Nat.le_refl _), Nat.sub_self] at e
      exact (Option.some.inj e).symm
    rw [e2, e3]
    exact hxy
def spShownB : Sp := fun vs H Q _ => ∃ (t : Addr) (h r : List Nat), vs = [.ref t] ∧ MomAt H t h r ∧ Bin h ∧ Bin r ∧ h.length ≤ 1000 ∧ 1 ≤ r.length ∧ r.length ≤ 50 ∧
  ∀ b k, PlainS (val h r) b k → ∀ H' u, Same H H' → H u = none → MomAt H' u (pH (val h r) b) (pR (val h r) b k) → Q (.ref u) H'
def spShownW : Sp := fun vs H Q _ => ∃ (t : Addr) (h r : List Nat), vs = [.ref t] ∧ MomAt H t h r ∧ Bin h ∧ Bin r ∧ h.length ≤ 1000 ∧ 1 ≤ r.length ∧ r.length ≤ 200 ∧
  ∀ b k, PlainS (val h r) b k → ∀ H' u, Same H H' → H u = none → MomAt H' u (pH (val h r) b) (pR (val h r) b k) → Q (.ref u) H'
section
variable {P : Program} {w : World} {K : PySem.W.Frag} {mg : Str → Option Value} {base : Heap}
theorem ok__law_shownW {f : Addr} {fd : FuncData} (F : Fun K "_law_shown" "_law_shown" s__law_shown f fd) (B : Blt mg) : FnOk P w K mg base CX0 1 f fd ["thing"] spShownW := by
  have sc := sc__law_shown
  refine F.ok sc (fun vs H Q E h => ?_) (fun cdv A outer s H vs Q E hr h => ?_)
  · obtain ⟨t, h, r, rfl, _⟩ := h
    rfl
  · obtain ⟨t, h, r, rfl, hm, bh, br, lh, l1, lr, k⟩ := h
    refine ⟨_, (pss_cons (ps_asg (pv 0) (pg_tup (by rfl) (pgs_cons (pg_name (i := 1) sc.nd rfl (by first | exact Or.inl rfl | exact Or.inr rfl)) (pgs_cons (pg_name (i := 2) sc.nd rfl (by first | exact Or.inl rfl | exact Or.inr rfl)) pgs_nil))))
    (pss_cons (ps_set (i := 3) sc.nd rfl (by first | exact Or.inl rfl | exact Or.inr rfl) pe_int)
    (pss_cons (ps_while PassesOwn.never (pt_cmpR op_neT (pe_op op_mulT (pe_slice sl_T (pv 2) po_none (po_some (pv 3))) (pe_op op_fdivW (pe_callB call_lenT (by rfl) B.len PySem.boot_len (pa_cons (pv 2) pa_nil)) (pv 3))) (pv 2) (nomark _)) (pss_one (ps_aug (i := 3) sc.nd rfl (by first | exact Or.inl rfl | exact Or.inr rfl) pe_int ip_add)))
    (pss_cons (ps_set (i := 2) sc.nd rfl (by first | exact Or.inl rfl | exact Or.inr rfl) (pe_slice sl_T (pv 2) po_none (po_some (pv 3))))
    (pss_cons (ps_while PassesOwn.never (PW.pt (pw_and (pt_cmpR op_neT (pv 1) (pe_strT [] (by decide +kernel)) (nomark _)) (pw_and1 (pt_cmpR op_eqT (pe_ix ix_T (pv 1) (pe_un un_neg pe_int) (fun _ _ => rfl)) (pe_ix ix_T (pv 2) (pe_un un_neg pe_int) (fun _ _ => rfl)) (nomark _))))) (pss_one (ps_par (i := 1) (j := 2) (by rfl) sc.nd rfl rfl (by decide) rfl rfl (pa_cons (pe_slice sl_T (pv 1) po_none (po_some (pe_un un_neg pe_int))) (pa_cons (pe_op op_addT (pe_ix ix_T (pv 2) (pe_un un_neg pe_int) (fun _ _ => rfl)) (pe_slice sl_T (pv 2) po_none (po_some (pe_un un_neg pe_int)))) pa_nil)) (by rfl))))
    (pss_one (ps_ret (pe_tup (pa_cons (pv 1) (pa_cons (pv 2) pa_nil)))))))))), ?_⟩
    obtain ⟨kk, pk⟩ := per_exists l1
    have hkl := pk.le
    have hkp := pk.pos
    refine ⟨_, rfl, t, _, rfl, SqT.of hm, rfl, _, _, rfl, _, _, rfl, rfl, ?_⟩
    refine ⟨fun q σ G => G = H ∧ ∃ z : Nat, 1 ≤ z ∧ z ≤ kk ∧ q = kk - z ∧ σ = [some (.ref t), some (.str (T h)), some (.str (T r)), some (.int (z : Int))], ⟨_, rfl, 1, Nat.le_refl _, hkp, rfl, rfl⟩, ?_⟩
    rintro q σ G ⟨rfl, z, z1, z2, rfl, rfl⟩
    have hdz : (r.take z).length = z := by rw [List.length_take]; omega
    refine ⟨_, rfl, _, rfl, _, rfl, r, rfl, le_line (by omega), _, rfl, r, rfl, le_line (by omega), _, rfl, _, _, rfl, rfl, wide_div (b := 40) (by omega) (by omega) (by decide) (by decide), ?_⟩
    refine ⟨r.take z, r.length / z, by rw [cut_hi], rfl, ?_, ?_, ?_⟩
    · rw [hdz]
      have := Nat.div_mul_le_self r.length z
      rw [Nat.mul_comm] at this
      omega
    · exact Nat.lt_of_le_of_lt (Nat.div_le_self _ _) (by omega)
    refine ⟨_, rfl, _, _, rfl, rfl, _, rfl, ?_⟩
    by_cases c1 : rep (r.length / z) (r.take z) = r
    rotate_left
    · rw [decide_eq_false c1]
      refine iteT ?_
      have hzk : z < kk := by
        by_cases e : z = kk
        · rw [e] at c1; exact absurd (rep_per pk) c1
        · omega
      refine ⟨fun σ' G' => G' = G ∧ σ' = [some (.ref t), some (.str (T h)), some (.str (T r)), some (.int ((z + 1 : Nat) : Int))], fun σ' G' ⟨e1, e2⟩ => ⟨kk - (z + 1), by omega, e1, z + 1, by omega, hzk, rfl, e2⟩, ?_⟩
      exact ⟨_, rfl, _, _, rfl, rfl, rfl, rfl⟩
    rw [decide_eq_true c1]
    refine iteF ?_
    have hzk : z = kk := by
      have := rep_inv z1 (by omega) c1
      by_cases e : z < kk
      · exact absurd this (pk.least z z1 e)
      · omega
    subst hzk
    have pt : Per (r.take z) z := by
      have ce : ∀ i, cyc (r.take z) i = cyc r i := pk.cyc
      exact ⟨z1, by rw [hdz]; exact Nat.le_refl _, fun i => by rw [ce, ce, pk.inv], fun j j1 j2 hj => pk.least j j1 j2 fun i => by rw [← ce, ← ce, hj]⟩
    have hv : val h (r.take z) = val h r := by
      funext i
      unfold val
      rw [pk.cyc]
    refine ⟨_, rfl, _, rfl, _, rfl, r, rfl, le_line (by omega), ?_⟩
    rw [cut_hi]
    refine ⟨fun q σ G2 => G2 = G ∧ ∃ hd rg, q = hd.length ∧ val hd rg = val h r ∧ Per rg z ∧ rg.length = z ∧ hd.length ≤ h.length ∧ Bin hd ∧ Bin rg ∧ σ = [some (.ref t), some (.str (T hd)), some (.str (T rg)), some (.int (z : Int))],
      ⟨_, rfl, h, r.take z, rfl, hv, pt, hdz, Nat.le_refl _, bh, br.take _, rfl⟩, ?_⟩
    rintro q σ G2 ⟨rfl, hd, rg, rfl, hval, pg, lg, lhd, bhd, brg, rfl⟩
    refine ⟨_, rfl, hd, [], rfl, rfl, _, rfl, ?_⟩
    have fin : (hd = [] ∨ ∃ a b x y, hd = a ++ [x] ∧ rg = b ++ [y] ∧ x ≠ y) → ∀ u, G2 u = none → Q (.ref u) (L2.upd G2 u (.tup [.str (T hd), .str (T rg)])) := fun hc u hu => by
      have ps := plain_end pg lg hc
      have psv := ps
      rw [hval] at psv
      refine k _ _ psv _ u (Same.new hu) hu ?_
      show _ = some (HO.tup [.str (T (pH (val h r) hd.length)), .str (T (pR (val h r) hd.length z))])
      have e1 : pH (val h r) hd.length = hd := by
        rw [← hval]
        refine (L_ext rfl fun i hi => ?_).symm
        unfold val
        rw [if_pos hi, List.getD_eq_getElem?_getD, List.getElem?_eq_getElem hi]
        rfl
      have e2 : pR (val h r) hd.length z = rg := by
        rw [← hval]
        refine (L_ext lg fun i hi => ?_).symm
        unfold val
        rw [if_neg (by omega), Nat.add_sub_cancel_left]
        exact cyc_lt (by omega)
      rw [e1, e2]
      exact upd_same
    by_cases c2 : hd = []
    · rw [decide_eq_true c2]
      refine iteF ?_
      refine iteF ?_
      exact ⟨_, rfl, _, rfl, (by show 2 ≤ sizeLine; decide), fun u hu => fin (.inl c2) u hu⟩
    rw [decide_eq_false c2]
    refine iteT ?_
    have last : ∀ (l : List Nat), l ≠ [] → ∃ a x, l = a ++ [x] := fun l hl => by
      rcases List.eq_nil_or_concat l with e | ⟨u, b, e⟩
      · exact absurd e hl
      · exact ⟨u, b, by rw [e, List.concat_eq_append]⟩
    obtain ⟨a, x, rfl⟩ := last hd c2
    obtain ⟨b, y, rfl⟩ := last rg (fun e => by rw [e] at lg; simp at lg; omega)
    have hal : a.length + 1 ≤ 1000 := by rw [List.length_append, List.length_singleton] at lhd; omega
    have hbl : b.length + 1 = z := by rw [← lg]; simp
    have at1 : ∀ (l : List Nat) (v : Nat), atI (l ++ [v]) (-1) = some v := fun l v => by
      have := atI_neg (xs := l ++ [v]) (j := 0) (v := v) (by simp) (by simp)
      simpa using this
    refine ⟨_, rfl, _, rfl, a ++ [x], -1, x, rfl, rfl, le_line (by rw [List.length_append, List.length_singleton]; omega), at1 a x, _, rfl, _, rfl, b ++ [y], -1, y, rfl, rfl, le_line (by rw [List.length_append, List.length_singleton]; omega), at1 b y, [x], [y], rfl, rfl, _, rfl, ?_⟩
    by_cases c3 : x = y
    rotate_left
    · rw [decide_eq_false (fun e => c3 (List.singleton_inj.mp e))]
      refine iteF ?_
      exact ⟨_, rfl, _, rfl, (by show 2 ≤ sizeLine; decide), fun u hu => fin (.inr ⟨a, b, x, y, rfl, rfl, c3⟩) u hu⟩
    subst c3
    rw [decide_eq_true rfl]
    refine iteT ?_
    refine ⟨fun σ' G' => G' = G2 ∧ σ' = [some (.ref t), some (.str (T a)), some (.str (T (x :: b))), some (.int (z : Int))], fun σ' G' ⟨e1, e2⟩ => ⟨a.length, by simp, e1, a, x :: b, rfl, by rw [← hval, val_rot], per_rot pg, by simp; omega, by rw [List.length_append, List.length_singleton] at lhd; omega, fun c hc => bhd c (List.mem_append_left _ hc), fun c hc => by
      rcases List.mem_cons.mp hc with e | e
      · rw [e]; exact brg x (List.mem_append_right _ List.mem_cons_self)
      · exact brg c (List.mem_append_left _ e), e2⟩, ?_⟩
    have c1' : ∀ (l : List Nat) (v : Nat), cutL (l ++ [v]) none (some (-1)) = l := fun l v => by rw [cut_last, List.dropLast_concat]
    refine ⟨_, rfl, _, rfl, _, rfl, a ++ [x], rfl, le_line (by rw [List.length_append, List.length_singleton]; omega), ?_⟩
    rw [show cutL (a ++ [x]) none (some (-1)) = a from c1' a x]
    refine ⟨_, rfl, _, rfl, b ++ [x], -1, x, rfl, rfl, le_line (by rw [List.length_append, List.length_singleton]; omega), at1 b x, _, rfl, _, rfl, _, rfl, b ++ [x], rfl, le_line (by rw [List.length_append, List.length_singleton]; omega), ?_⟩
    rw [show cutL (b ++ [x]) none (some (-1)) = b from c1' b x]
    exact ⟨[x], b, rfl, rfl, le_line (by show 1 + _ ≤ _; omega), _, _, rfl, rfl, rfl⟩
theorem ok__law_shown {f : Addr} {fd : FuncData} (F : Fun K "_law_shown" "_law_shown" s__law_shown f fd) (B : Blt mg) : FnOk P w K mg base CX0 1 f fd ["thing"] spShownB :=
  (ok__law_shownW F B).imp fun vs H Q E ⟨t, h, r, e, hm, bh, br, lh, l1, lr, k⟩ => ⟨t, h, r, e, hm, bh, br, lh, l1, by omega, k⟩
end
end HC

namespace HC
open PySem PySem.Spec PyProof.Rows L2 L2H
abbrev s__law_written : Stmt := top 20
abbrev N__law_written : List Str := ["thing", "head", "ring"]
theorem sc__law_written : FnScope N__law_written ["thing"] (defScope s__law_written) := ⟨rfl, rfl, rfl, by decide +kernel, rfl, by decide +kernel, by decide +kernel⟩

abbrev s__law_due : Stmt := top 21
abbrev N__law_due : List Str := ["wording", "head", "ring", "sign"]
theorem sc__law_due : FnScope N__law_due ["wording"] (defScope s__law_due) := ⟨rfl, rfl, rfl, by decide +kernel, rfl, by decide +kernel, by decide +kernel⟩

abbrev s__law_changed : Stmt := top 22
abbrev N__law_changed : List Str := ["bag", "wording", "spot", "sign", "way_now"]
theorem sc__law_changed : FnScope N__law_changed ["bag", "wording"] (defScope s__law_changed) := ⟨rfl, rfl, rfl, by decide +kernel, rfl, by decide +kernel, by decide +kernel⟩

abbrev s__law_told : Stmt := top 23
abbrev N__law_told : List Str := ["wording", "e"]
theorem sc__law_told : FnScope N__law_told ["wording"] (defScope s__law_told) := ⟨rfl, rfl, rfl, by decide +kernel, rfl, by decide +kernel, by decide +kernel⟩

abbrev s__law_refused : Stmt := top 24
abbrev N__law_refused : List Str := ["thing", "e"]
theorem sc__law_refused : FnScope N__law_refused ["thing"] (defScope s__law_refused) := ⟨rfl, rfl, rfl, by decide +kernel, rfl, by decide +kernel, by decide +kernel⟩

/-! ## how often a text has the sign 40; a text split there -/
theorem at40i {a : List Nat} {i : Nat} : At a [40] i ↔ a[i]? = some 40 := by
  rw [at40]
  constructor
  · rintro ⟨u, v, rfl, rfl⟩
    simp
  · intro h
    obtain ⟨hi, e⟩ := List.getElem?_eq_some_iff.mp h
    exact ⟨a.take i, a.drop (i + 1), by rw [← e]; simp, by rw [List.length_take]; omega⟩
theorem count_chain (l : List Nat) : ∀ (cuts : List Nat) (a f : Nat), StrLaws.ChainG (T l) (T [40]) (T l).length a cuts f → (∀ k, f ≤ k → ¬ StrLaws.At (T l) (T [40]) (T l).length k) → (l.drop a).count 40 = cuts.length := by
  have no : ∀ (x : List Nat), (∀ i : Nat, x[i]? ≠ some 40) → x.count 40 = 0 := fun x h => List.count_eq_zero.mpr fun m => by
    obtain ⟨i, hi⟩ := List.getElem?_of_mem m
    exact h i hi
  intro cuts
  induction cuts with
  | nil =>
    intro a f h hn
    have e : f = a := h
    subst e
    refine no _ fun i hi => ?_
    rw [List.getElem?_drop] at hi
    exact hn (f + i) (by omega) ((at_T _ _ _).mpr (at40i.mpr hi))
  | cons d r ih =>
    intro a f h hn
    obtain ⟨h1, h2, h3, h4⟩ := h
    have hd := at40i.mp ((at_T _ _ _).mp h2)
    obtain ⟨hlt, e⟩ := List.getElem?_eq_some_iff.mp hd
    have i4 := ih _ _ h4 hn
    have e1 : l.drop a = (l.drop a).take (d - a) ++ 40 :: l.drop (d + 1) := by
      have e2 : l.drop d = 40 :: l.drop (d + 1) := by rw [List.drop_eq_getElem_cons hlt, e]
      conv => lhs; rw [← List.take_append_drop (d - a) (l.drop a)]
      rw [List.drop_drop, show a + (d - a) = d by omega, e2]
    rw [e1, List.count_append, List.count_cons_self, no _ fun i hi => ?_]
    · rw [T_len] at i4
      have i5 : (l.drop (d + 1)).count 40 = r.length := i4
      rw [i5]
      simp
    · rw [List.getElem?_take] at hi
      split at hi
      · rename_i hlt2
        rw [List.getElem?_drop] at hi
        exact h3 (a + i) (by omega) (by omega) ((at_T _ _ _).mpr (at40i.mpr hi))
      · cases hi
theorem count_T (l : List Nat) : Txt.count (T l) (T [40]) = ((l.count 40 : Nat) : Int) := by
  unfold Txt.count
  obtain ⟨f, hG, hn⟩ := StrLaws.occ_tight (T l) (T [40]) (Nat.le_refl 1)
  have := count_chain l _ 0 f hG hn
  rw [List.drop_zero] at this
  rw [this]
theorem T_back (s : Str) : s = T s.cps.toList := by
  apply Str.ext'
  apply Array.toList_inj.mp
  rw [T_list]
theorem split_T {l u v : List Nat} (e : l = u ++ 40 :: v) (hu : 40 ∉ u) (hv : 40 ∉ v) : Txt.split (T l) (T [40]) = [T u, T v] := by
  have hj := StrLaws.join_split (T l) (T [40])
  have hf : ∀ p ∈ Txt.split (T l) (T [40]), 40 ∉ p.cps.toList := StrLaws.split_free (T l) 40
  generalize Txt.split (T l) (T [40]) = ps at hj hf
  match ps, hj, hf with
  | [], hj, _ =>
    have e1 : Str.empty = T l := hj
    have e2 : T [] = T l := e1
    rw [← T_inj e2] at e
    simp at e
  | [p], hj, hf =>
    have e1 : p = T l := hj
    have := hf p List.mem_cons_self
    rw [e1, T_list, e] at this
    exact absurd (by simp) this
  | [p, q], hj, hf =>
    have e1 : p ++ T [40] ++ q = T l := hj
    have h1 := hf p List.mem_cons_self
    have h2 := hf q (List.mem_cons_of_mem _ List.mem_cons_self)
    rw [T_back p, T_back q] at e1 ⊢
    rw [T_app, T_app] at e1
    have e2 := T_inj e1
    rw [e] at e2
    obtain ⟨a, b⟩ := cut40 (v := q.cps.toList) (v' := v) h1 hu (by simpa using e2)
    rw [a, b]
  | p :: q :: r :: rs, hj, hf =>
    have e1 : p ++ T [40] ++ (q ++ T [40] ++ Str.join (T [40]) (r :: rs)) = T l := hj
    have h1 := hf p List.mem_cons_self
    rw [T_back p, T_back q, T_back (Str.join (T [40]) (r :: rs))] at e1
    rw [T_app, T_app, T_app, T_app] at e1
    have e2 := T_inj e1
    rw [e] at e2
    obtain ⟨a, b⟩ := cut40 (v := q.cps.toList ++ [40] ++ (Str.join (T [40]) (r :: rs)).cps.toList) (v' := v) h1 hu (by simpa using e2)
    rw [← b] at hv
    exact absurd (by simp) hv
section
variable {X : Cx}
theorem mt_countT : MtR X "str.count" (fun x xs H Q => ∃ a, x = .str (T a) ∧ xs = [.str (T [40])] ∧ Q (.int ((a.count 40 : Nat) : Int)) H) :=
  mtr_sub mt_count fun x xs H Q ⟨a, hx, hxs, q⟩ => ⟨_, _, hx, hxs, by rw [count_T]; exact q⟩
theorem mt_splitT : MtR X "str.split" (fun x xs H Q => ∃ a u v, x = .str (T a) ∧ xs = [.str (T [40])] ∧ a = u ++ 40 :: v ∧ 40 ∉ u ∧ 40 ∉ v ∧ a.length + 2 ≤ sizeLine ∧ ∀ p, H p = none → Q (.ref p) (upd H p (.lst [.str (T u), .str (T v)]))) :=
  mtr_sub mt_split fun x xs H Q ⟨a, u, v, hx, hxs, e, hu, hv, hl, q⟩ => ⟨_, _, hx, hxs, rfl, by rw [T_len]; exact hl, fun p hp => by
    rw [split_T e hu hv]
    exact q p hp⟩
end
/-- the signs that are neither 48 nor 49 -/
def bad (l : List Nat) : List Nat := l.filter fun c => !decide (c ∈ [48, 49])
theorem bad_in {c : Nat} (m : c ∈ [48, 49]) : bad [c] = [] := by
  unfold bad
  rw [List.filter_cons, if_neg (by rw [decide_eq_true m]; simp), List.filter_nil]
theorem bad_out {c : Nat} (m : ¬ c ∈ [48, 49]) : bad [c] = [c] := by
  unfold bad
  rw [List.filter_cons, if_pos (by rw [decide_eq_false m]; rfl), List.filter_nil]
theorem bad_nil {l : List Nat} : bad l = [] ↔ Bin l := by
  unfold bad
  rw [List.filter_eq_nil_iff]
  constructor
  · intro h c hc
    have := h c hc
    simp at this
    omega
  · intro h c hc
    have := h c hc
    simp
    omega
def spWritten : Sp := fun vs H Q _ => ∃ (t : Addr) (h r : List Nat), vs = [.ref t] ∧ MomAt H t h r ∧ GoodM h r ∧ h.length ≤ 200 ∧ r.length ≤ 200 ∧ ∀ b k, PlainS (val h r) b k → ∀ H', Same H H' → Q (.str (T (shw (val h r) b k))) H'
def spDue : Sp := fun vs H Q _ => ∃ (l : List Nat), vs = [.str (T l)] ∧ l.length ≤ 200 ∧ Cod l ∧
  (∀ h r b k, Tells l h r b k → ∀ H' u v, Same H H' → H' v = some (.lst [.ref u]) → MomAt H' u h r → Q (.ref v) H') ∧
  ((∀ h r b k, ¬ Tells l h r b k) → ∀ H' v, Same H H' → H' v = some (.lst []) → Q (.ref v) H')
section
variable {P : Program} {w : World} {K : PySem.W.Frag} {mg : Str → Option Value} {base : Heap} {D fI C_InvalidMoment C_Unreadable : Addr}
theorem ok__law_written {f : Addr} {fd : FuncData} (F : Fun K "_law_written" "_law_written" s__law_written f fd) (h__law_shown : Has P w K mg base "_law_shown" 1 ["thing"] spShownW) : FnOk P w K mg base CX0 2 f fd ["thing"] spWritten := by
  have sc := sc__law_written
  obtain ⟨f__law_shown, fd__law_shown, mg__law_shown, kp__law_shown, b__law_shown, G__law_shown⟩ := h__law_shown
  refine F.ok sc (fun vs H Q E h => ?_) (fun cdv A outer s H vs Q E hr h => ?_)
  · obtain ⟨t, hd, r, rfl, _⟩ := h
    rfl
  · obtain ⟨t, hd, r, rfl, hm, g, lh, lr, k⟩ := h
    refine ⟨_, (pss_cons (ps_asg (pe_call G__law_shown (hr.mono (by decide)) (by rfl) mg__law_shown kp__law_shown b__law_shown .nil pass0 (pa_cons (pv 0) pa_nil)) (pg_tup (by rfl) (pgs_cons (pg_name (i := 1) sc.nd rfl (by first | exact Or.inl rfl | exact Or.inr rfl)) (pgs_cons (pg_name (i := 2) sc.nd rfl (by first | exact Or.inl rfl | exact Or.inr rfl)) pgs_nil))))
    (pss_one (ps_ret (pe_op op_addT (pe_op op_addT (pe_op op_addT (pv 1) (pe_strT [40] (by decide +kernel))) (pv 2)) (pe_strT [41] (by decide +kernel)))))), ?_⟩
    refine ⟨_, rfl, t, hd, r, rfl, hm, g.bh, g.br, by omega, g.l1, lr, fun b n p H' u sm hn hu => ?_⟩
    obtain ⟨hb, hp⟩ := p.le g.l1
    have h2 := hp.le
    have e1 := pH_len (val hd r) b
    have e2 := pR_len (val hd r) b n
    refine ⟨u, _, rfl, SqT.of hu, rfl, _, _, rfl, _, _, rfl, rfl, ?_⟩
    refine ⟨_, rfl, _, [40], rfl, rfl, ?_, _, rfl, _, _, rfl, rfl, ?_, _, [41], rfl, rfl, ?_, ?_⟩
    all_goals try (simp only [List.length_append, List.length_cons, List.length_nil]; exact le_line (by omega))
    have e4 : pH (val hd r) b ++ [40] ++ pR (val hd r) b n ++ [41] = shw (val hd r) b n := by
      unfold shw
      simp
    rw [e4]
    exact k b n p H' sm
theorem ok__law_due {f : Addr} {fd : FuncData} (F : Fun K "_law_due" "_law_due" s__law_due f fd) (h__law_written : Has P w K mg base "_law_written" 2 ["thing"] spWritten) : FnOk P w K mg base CX0 3 f fd ["wording"] spDue := by
  have sc := sc__law_due
  obtain ⟨f__law_written, fd__law_written, mg__law_written, kp__law_written, b__law_written, G__law_written⟩ := h__law_written
  refine F.ok sc (fun vs H Q E h => ?_) (fun cdv A outer s H vs Q E hr h => ?_)
  · obtain ⟨l, rfl, _⟩ := h
    rfl
  · obtain ⟨l, rfl, hl, hc, k, kb⟩ := h
    refine ⟨_, (pss_cons (ps_if (PW.pt (pw_or (pt_cmpR op_ne (pe_m1 PySem.F.slot_str_count PySem.F.type_str_count mt_countT (pv 0) (pe_strT [40] (by decide +kernel))) pe_int (nomark _)) (pw_or1 (pt_not (pt_val (pe_m1 PySem.F.slot_str_endswith PySem.F.type_str_endswith mt_endswithT (pv 0) (pe_strT [41] (by decide +kernel)))))))) (pss_one (ps_ret (pe_lst pa_nil))) pss_nil)
    (pss_cons (ps_asg (pe_m1 PySem.F.slot_str_split PySem.F.type_str_split mt_splitT (pe_slice sl_T (pv 0) po_none (po_some (pe_un un_neg pe_int))) (pe_strT [40] (by decide +kernel))) (pg_unl (by rfl) (pgs_cons (pg_name (i := 1) sc.nd rfl (by first | exact Or.inl rfl | exact Or.inr rfl)) (pgs_cons (pg_name (i := 2) sc.nd rfl (by first | exact Or.inl rfl | exact Or.inr rfl)) pgs_nil))))
    (pss_cons (ps_if (PW.pt (pw_or (pt_cmpR op_eqT (pv 2) (pe_strT [] (by decide +kernel)) (nomark _)) (pw_or1 (pt_cmpR (op_neD hr.units) (pe_lc (own := [("sign", 3)]) (g := gName 3) (by rfl) sc.nd (pi_str (pe_op op_addT (pv 1) (pv 2))) (blkOk_by (own := [("sign", 3)]) (N := N__law_due) (sc := defScope s__law_due) (by decide +kernel)) (fun _ _ _ _ _ => pg_name (i := 3) sc.nd rfl (by first | exact Or.inl rfl | exact Or.inr rfl)) (fun _ _ _ _ _ => pts_one (pt_cmpR op_notIn1 (pv 3) (pe_strT [48, 49] (by decide +kernel)) rfl)) (fun _ _ _ _ _ => (pv 3))) (pe_lst pa_nil) (nomark _))))) (pss_one (ps_ret (pe_lst pa_nil))) pss_nil)
    (pss_cons (ps_if (pt_cmpR op_neT (pe_call G__law_written (hr.mono (by decide)) (by rfl) mg__law_written kp__law_written b__law_written .nil pass0 (pa_cons (pe_tup (pa_cons (pv 1) (pa_cons (pv 2) pa_nil))) pa_nil)) (pv 0) (nomark _)) (pss_one (ps_ret (pe_lst pa_nil))) pss_nil)
    (pss_one (ps_ret (pe_lst (pa_cons (pe_tup (pa_cons (pv 1) (pa_cons (pv 2) pa_nil))) pa_nil)))))))), ?_⟩
    have none : (∀ h r b k, ¬ Tells l h r b k) → ∀ σ : L2.St, ∀ H', Same H H' → tRet (tLst tNil) { nx := fun _ H' => Q .non H', rt := Q } σ H' := fun nt σ H' sm => ⟨by show 0 ≤ sizeLine; decide, fun p hp => kb nt _ p (sm.trans (Same.new hp)) upd_same⟩
    refine ⟨_, rfl, ⟨_, rfl⟩, l, rfl, rfl, rfl, _, rfl, ?_⟩
    have tc : ∀ h r b k, Tells l h r b k → l.count 40 = 1 := fun h r b k t => by
      rw [t.eq, List.count_append, List.count_cons_self, List.count_append, List.count_eq_zero.mpr (no40 t.g.bh), List.count_eq_zero.mpr (no40 t.g.br)]
      rfl
    by_cases c1 : l.count 40 = 1
    rotate_left
    · have e1 : (!decide (V.int ((l.count 40 : Nat) : Int) = V.int 1)) = true := by
        rw [dec_int, beq_eq_false_iff_ne.mpr (by omega)]
        rfl
      rw [e1]
      refine iteT ?_
      exact none (fun h r b k t => c1 (tc h r b k t)) _ _ (Same.refl _)
    have e1 : (!decide (V.int ((l.count 40 : Nat) : Int) = V.int 1)) = false := by
      rw [c1]
      rfl
    rw [e1]
    refine iteF ?_
    refine ⟨_, rfl, ⟨_, rfl⟩, l, [41], rfl, rfl, fun e he => ⟨_, rfl, ?_⟩⟩
    cases e with
    | false =>
      refine iteT ?_
      exact none (fun h r b k t => by
        have := he.mpr ⟨h ++ 40 :: r, by rw [t.eq]; simp⟩
        cases this) _ _ (Same.refl _)
    | true =>
    refine iteF ?_
    obtain ⟨w, rfl⟩ := he.mp rfl
    have cw : w.count 40 = 1 := by
      rw [List.count_append] at c1
      simpa using c1
    obtain ⟨u, s0, v, hp, _⟩ := part_T w
    have hw : w = u ++ 40 :: v := by
      rcases hp.or with ⟨_, e⟩ | ⟨_, _, e⟩
      · exact e
      · rw [e, List.count_eq_zero.mpr hp.no] at cw
        cases cw
    have nv : 40 ∉ v := by
      rw [hw, List.count_append, List.count_cons_self, List.count_eq_zero.mpr hp.no] at cw
      exact List.count_eq_zero.mp (by omega)
    have told : ∀ h r b k, Tells (w ++ [41]) h r b k → h = u ∧ r = v := fun h r b k t => by
      have e := t.eq
      rw [hw, List.append_assoc] at e
      obtain ⟨e3, e4⟩ := cut40 hp.no (no40 t.g.bh) e
      exact ⟨e3.symm, (List.append_cancel_right e4).symm⟩
    have lw : w.length + 1 ≤ 200 := by simpa using hl
    have lw2 : u.length + v.length + 1 = w.length := by rw [hw]; simp; omega
    refine ⟨_, rfl, _, rfl, -1, rfl, w ++ [41], rfl, le_line (by simp; omega), ⟨_, rfl⟩, w, u, v, by rw [cut_last]; simp, rfl, hw, hp.no, nv, le_line (by omega), fun p hpn => ?_⟩
    have s1 := Same.new (o := .lst [.str (T u), .str (T v)]) hpn
    refine ⟨p, _, rfl, SqL.of upd_same, rfl, _, _, rfl, _, _, rfl, rfl, ?_⟩
    refine ⟨_, rfl, v, [], rfl, rfl, _, rfl, ?_⟩
    by_cases c2 : v = []
    · rw [decide_eq_true c2]
      refine iteT ?_
      exact none (fun h r b k t => by
        have := t.g.l1
        rw [(told h r b k t).2, c2] at this
        exact absurd this (by decide)) _ _ s1
    rw [decide_eq_false c2]
    refine iteF ?_
    refine ⟨_, rfl, _, rfl, u, v, rfl, rfl, le_line (by omega), ?_⟩
    have lz : (u ++ v).length ≤ 200 := by rw [List.length_append]; omega
    refine ⟨_, rfl, fun D hD => ?_⟩
    refine lc_it walk_str (fun i H' => H' D = some (.lst (Wl ((bad ((u ++ v).take i)).map fun c => [c]))) ∧ Same (L2.upd H p (.lst [.str (T u), .str (T v)])) H') ⟨upd_same, Same.new hD⟩ (fun _ _ _ _ => True.intro) ?_ ?_
    · rintro i x H1 H2 hi ⟨h1, h2⟩ ⟨rfl, c, hcz, rfl⟩
      have hz : (u ++ v)[i]? = some c := by
        have : (u ++ v).toArray[i]? = some c := hcz
        simpa using this
      have hlt := (List.getElem?_eq_some_iff.mp hz).1
      refine ⟨rfl, ?_⟩
      refine ⟨_, rfl, c, [48, 49], rfl, rfl, _, rfl, ?_⟩
      have st : bad ((u ++ v).take (i + 1)) = bad ((u ++ v).take i) ++ bad [c] := by
        rw [List.take_add_one, hz]
        exact List.filter_append ..
      by_cases m : c ∈ [48, 49]
      · rw [show (!decide (c ∈ [48, 49])) = false by rw [decide_eq_true m]; rfl]
        refine iteF ?_
        refine ⟨?_, h2⟩
        rw [st, bad_in m, List.append_nil]
        exact h1
      · rw [show (!decide (c ∈ [48, 49])) = true by rw [decide_eq_false m]; rfl]
        refine iteT ?_
        refine ⟨_, rfl, _, h1, ?_, ?_, ?_⟩
        · rw [Wl_len, List.length_map]
          have h3 : (bad ((u ++ v).take i)).length ≤ ((u ++ v).take i).length := List.length_filter_le ..
          rw [List.length_take] at h3
          exact Nat.lt_of_le_of_lt (show _ ≤ 1000 by omega) (by decide)
        · rw [upd_same, st, bad_out m]
          simp only [Wl, List.map_append]
          rfl
        · intro b o hb
          rw [upd_ne (ne_of_none hb hD)]
          exact h2 b o hb
    rintro H2 ⟨h1, h2⟩
    have sz : (T (u ++ v)).cps.size = (u ++ v).length := by
      show (u ++ v).toArray.size = _
      simp
    rw [sz, List.take_length] at h1
    refine ⟨(by show 0 ≤ sizeLine; decide), fun q hq => ?_⟩
    have h3 := Same.new (o := .lst []) hq
    have cz : Cod (u ++ v) := fun c hc' => hc c (by rw [hw]; rcases List.mem_append.mp hc' with m | m <;> simp [m])
    refine ⟨wD ((bad (u ++ v)).map fun c => [c]), wD [], wD_dp (h3 _ _ h1), wD_dp upd_same, wD_ok (fun x hx => ?_), wD_ok (fun x hx => by cases hx), _, rfl, ?_⟩
    · obtain ⟨c, hc1, rfl⟩ := List.mem_map.mp hx
      exact fun z hz => by
        rw [List.mem_singleton.mp hz]
        exact cz c (List.mem_filter.mp hc1).1
    rw [wD_eqv]
    have s2 : Same H (L2.upd H2 q (.lst [])) := (s1.trans h2).trans h3
    by_cases c3 : bad (u ++ v) = []
    rotate_left
    · rw [show (!decide ((bad (u ++ v)).map (fun c => [c]) = [])) = true by rw [decide_eq_false (fun e => c3 (List.map_eq_nil_iff.mp e))]; rfl]
      refine iteT ?_
      exact none (fun h r b k t => c3 (bad_nil.mpr (by
        obtain ⟨e1, e2⟩ := told h r b k t
        rw [← e1, ← e2]
        exact t.g.bh.app t.g.br))) _ _ s2
    rw [show (!decide ((bad (u ++ v)).map (fun c => [c]) = [])) = false by rw [c3]; rfl]
    refine iteF ?_
    have bz := bad_nil.mp c3
    have g : GoodM u v := ⟨fun c hc' => bz c (List.mem_append_left _ hc'), fun c hc' => bz c (List.mem_append_right _ hc'), by cases v with | nil => exact absurd rfl c2 | cons => simp⟩
    refine ⟨_, rfl, _, rfl, (by show 2 ≤ sizeLine; decide), fun t ht => ?_⟩
    have s3 := s2.trans (Same.new (o := .tup [.str (T u), .str (T v)]) ht)
    refine ⟨t, u, v, rfl, upd_same, g, by omega, by omega, fun b n ps H4 s4 => ?_⟩
    refine ⟨_, rfl, _, _, rfl, rfl, _, rfl, ?_⟩
    have s5 := s3.trans s4
    by_cases c4 : shw (val u v) b n = w ++ [41]
    · rw [decide_eq_true c4]
      refine iteF ?_
      refine ⟨_, rfl, _, rfl, (by show 2 ≤ sizeLine; decide), fun x hx => ⟨(by show 1 ≤ sizeLine; decide), fun y hy => ?_⟩⟩
      refine k u v b n ⟨g, ps, by rw [hw]; simp, c4⟩ _ x y ((s5.trans (Same.new hx)).trans (Same.new hy)) upd_same ?_
      show L2.upd _ y _ x = _
      rw [upd_ne (ne_of_none upd_same hy)]
      exact upd_same
    · rw [decide_eq_false c4]
      refine iteT ?_
      exact none (fun h r b' k t => by
        obtain ⟨rfl, rfl⟩ := told h r b' k t
        obtain ⟨rfl, rfl⟩ := t.p.uniq ps
        exact c4 t.sh) _ _ s5
end
end HC

namespace HC
open PySem PySem.Spec PyProof.Rows L2 L2H
theorem cutL_sub (z : List Nat) (lo hi : Option Int) : (cutL z lo hi).Sublist z := (List.take_sublist _ _).trans (List.drop_sublist _ _)
theorem cutL_le (z : List Nat) (lo hi : Option Int) : (cutL z lo hi).length ≤ z.length := (cutL_sub z lo hi).length_le
theorem cutL_cod {z : List Nat} (h : Cod z) (lo hi : Option Int) : Cod (cutL z lo hi) := fun c hc => h c ((cutL_sub z lo hi).subset hc)
theorem Cod.app {a b : List Nat} (h : Cod a) (g : Cod b) : Cod (a ++ b) := fun c hc => (List.mem_append.mp hc).elim (h c) (g c)
theorem sign6 {r : Nat} (h : r < 6) : ∃ c : Nat, ([48, 49, 40, 41, 50, 32] : List Nat)[r]? = some c ∧ Cod [c] := by
  match r, h with
  | 0, _ => exact ⟨48, rfl, fun z hz => by simp at hz; omega⟩
  | 1, _ => exact ⟨49, rfl, fun z hz => by simp at hz; omega⟩
  | 2, _ => exact ⟨40, rfl, fun z hz => by simp at hz; omega⟩
  | 3, _ => exact ⟨41, rfl, fun z hz => by simp at hz; omega⟩
  | 4, _ => exact ⟨50, rfl, fun z hz => by simp at hz; omega⟩
  | 5, _ => exact ⟨32, rfl, fun z hz => by simp at hz; omega⟩
def opts (l : List Nat) : List (List Nat) := [[], [40, 41], [40], [41], [48], l ++ l, l ++ [41]]
theorem opts_ok {l : List Nat} (hl : l.length ≤ 90) (hc : Cod l) {r : Nat} (h : r < 7) : ∃ y, (opts l)[r]? = some y ∧ y.length ≤ 180 ∧ Cod y := by
  match r, h with
  | 0, _ => exact ⟨_, rfl, by simp, fun c h => by cases h⟩
  | 1, _ => exact ⟨_, rfl, by simp, fun c h => by simp at h; omega⟩
  | 2, _ => exact ⟨_, rfl, by simp, fun c h => by simp at h; omega⟩
  | 3, _ => exact ⟨_, rfl, by simp, fun c h => by simp at h; omega⟩
  | 4, _ => exact ⟨_, rfl, by simp, fun c h => by simp at h; omega⟩
  | 5, _ => exact ⟨_, rfl, by rw [List.length_append]; omega, hc.app hc⟩
  | 6, _ => exact ⟨_, rfl, by simp; omega, hc.app fun c h => by simp at h; omega⟩
theorem cod16 {l : List Nat} (h : Cod l) : ∀ c ∈ l, c < 16 ^ 8 := fun c hc => by
  have := h c hc
  have e : (16 : Nat) ^ 8 = 4294967296 := by decide
  omega
def spTold : Sp := fun vs H Q _ => ∃ (l : List Nat), vs = [.str (T l)] ∧ l.length ≤ 200 ∧ Cod l ∧
  (∀ h r b k, Tells l h r b k → ∀ H' u v, Same H H' → H' v = some (.lst [.ref u]) → MomAt H' u (pH (val h r) b) (pR (val h r) b k) → Q (.ref v) H') ∧
  ((∀ h r b k, ¬ Tells l h r b k) → ∀ H' v, Same H H' → H' v = some (.lst []) → Q (.ref v) H')
def spRefused : Sp := fun vs H Q _ => ∃ (t : Addr) (h r : List Nat), vs = [.ref t] ∧ MomAt H t h r ∧ h.length ≤ 200 ∧ r.length ≤ 200 ∧ Cod h ∧ Cod r ∧ ¬ GoodM h r ∧ ∀ H', Same H H' → Q (.bl true) H'
def spChanged : Sp := fun vs H Q _ => ∃ (p g : Addr) (l : List Nat) (n : Nat), vs = [.ref p, .str (T l)] ∧ BagAt H p g n ∧ n + 100 < 2 ^ 30 ∧ l.length ≤ 90 ∧ Cod l ∧
  ∀ H' (l' : List Nat), SBB p g H H' → BagAt H' p g (n + 5) → l'.length ≤ 180 → Cod l' → Q (.str (T l')) H'
section
variable {P : Program} {w : World} {K : PySem.W.Frag} {mg : Str → Option Value} {base : Heap} {D fI C_InvalidMoment C_Unreadable : Addr}
theorem ok__law_changed {f : Addr} {fd : FuncData} (F : Fun K "_law_changed" "_law_changed" s__law_changed f fd) (B : Blt mg) (h__law_draw : Has P w K mg base "_law_draw" 1 ["bag", "many"] spBDraw) : FnOk P w K mg base CX0 2 f fd ["bag", "wording"] spChanged := by
  have sc := sc__law_changed
  obtain ⟨f__law_draw, fd__law_draw, mg__law_draw, kp__law_draw, b__law_draw, G__law_draw⟩ := h__law_draw
  refine F.ok sc (fun vs H Q E h => ?_) (fun cdv A outer s H vs Q E hr h => ?_)
  · obtain ⟨p, g, l, n, rfl, _⟩ := h
    rfl
  · obtain ⟨p, g, l, n, rfl, hp, hn, hl, hc, k⟩ := h
    refine ⟨_, (pss_cons (ps_set (i := 2) sc.nd rfl (by first | exact Or.inl rfl | exact Or.inr rfl) (pe_call G__law_draw (hr.mono (by decide)) (by rfl) mg__law_draw kp__law_draw b__law_draw .nil pass0 (pa_cons (pv 0) (pa_cons (pe_op op_add (pe_callB call_lenT (by rfl) B.len PySem.boot_len (pa_cons (pv 1) pa_nil)) pe_int) pa_nil))))
    (pss_cons (ps_set (i := 3) sc.nd rfl (by first | exact Or.inl rfl | exact Or.inr rfl) (pe_ix ix_T (pe_strT [48, 49, 40, 41, 50, 32] (by decide +kernel)) (pe_call G__law_draw (hr.mono (by decide)) (by rfl) mg__law_draw kp__law_draw b__law_draw .nil pass0 (pa_cons (pv 0) (pa_cons pe_int pa_nil))) (fun _ _ => rfl)))
    (pss_cons (ps_set (i := 4) sc.nd rfl (by first | exact Or.inl rfl | exact Or.inr rfl) (pe_call G__law_draw (hr.mono (by decide)) (by rfl) mg__law_draw kp__law_draw b__law_draw .nil pass0 (pa_cons (pv 0) (pa_cons pe_int pa_nil))))
    (pss_cons (ps_if (pt_cmpR op_eq (pv 4) pe_int (nomark _)) (pss_one (ps_ret (pe_op op_addT (pe_op op_addT (pe_slice sl_T (pv 1) po_none (po_some (pv 2))) (pv 3)) (pe_slice sl_T (pv 1) (po_some (pv 2)) po_none)))) pss_nil)
    (pss_cons (ps_if (pt_cmpR op_eq (pv 4) pe_int (nomark _)) (pss_one (ps_ret (pe_op op_addT (pe_slice sl_T (pv 1) po_none (po_some (pv 2))) (pe_slice sl_T (pv 1) (po_some (pe_op op_add (pv 2) pe_int)) po_none)))) pss_nil)
    (pss_cons (ps_if (pt_cmpR op_eq (pv 4) pe_int (nomark _)) (pss_one (ps_ret (pe_op op_addT (pe_op op_addT (pe_slice sl_T (pv 1) po_none (po_some (pv 2))) (pv 3)) (pe_slice sl_T (pv 1) (po_some (pe_op op_add (pv 2) pe_int)) po_none)))) pss_nil)
    (pss_one (ps_ret (pe_ix ix_tup (pe_tup (pa_cons (pe_strT [] (by decide +kernel)) (pa_cons (pe_strT [40, 41] (by decide +kernel)) (pa_cons (pe_strT [40] (by decide +kernel)) (pa_cons (pe_strT [41] (by decide +kernel)) (pa_cons (pe_strT [48] (by decide +kernel)) (pa_cons (pe_op op_addT (pv 1) (pv 1)) (pa_cons (pe_op op_addT (pv 1) (pe_strT [41] (by decide +kernel))) pa_nil)))))))) (pe_call G__law_draw (hr.mono (by decide)) (by rfl) mg__law_draw kp__law_draw b__law_draw .nil pass0 (pa_cons (pv 0) (pa_cons pe_int pa_nil))) (fun _ _ => rfl)))))))))), ?_⟩
    refine ⟨_, rfl, _, rfl, l, rfl, le_line (by omega), _, _, rfl, rfl, p, g, l.length + 1, n, rfl, hp, by omega, by omega, Nat.lt_of_le_of_lt (show _ ≤ 91 by omega) (by decide), fun H1 r1 s1 p1 hr1 => ?_⟩
    refine ⟨_, rfl, p, g, 6, n + 1, rfl, p1, by omega, by decide, by decide, fun H2 r2 s2 p2 hr2 => ?_⟩
    obtain ⟨c, ec, cc⟩ := sign6 hr2
    refine ⟨[48, 49, 40, 41, 50, 32], _, c, rfl, rfl, by decide, atI_of ec, ?_⟩
    refine ⟨_, rfl, p, g, 4, n + 1 + 1, rfl, p2, by omega, by decide, by decide, fun H3 r3 s3 p3 hr3 => ?_⟩
    have s13 := (s1.trans s2).trans s3
    have fin : ∀ H' (l' : List Nat), SBB p g H3 H' → BagAt H' p g (n + 5) → l'.length ≤ 180 → Cod l' → Q (.str (T l')) H' := fun H' l' sb b => k H' l' (s13.trans sb) b
    have p4 : BagAt H3 p g (n + 5) := p3.mono (by omega)
    have ll : l.length ≤ sizeLine := le_line (by omega)
    have cl : ∀ lo hi, (cutL l lo hi).length ≤ l.length := cutL_le l
    have l3 : ∀ (x y z : List Nat), x.length ≤ l.length → y.length ≤ 1 → z.length ≤ l.length → (x ++ y ++ z).length ≤ 181 := fun x y z h1 h2 h3 => by rw [List.length_append, List.length_append]; omega
    refine ⟨_, rfl, rfl, _, rfl, ?_⟩
    refine ite2 (fun _ => ?_) (fun _ => ?_)
    · refine ⟨_, rfl, _, rfl, _, rfl, l, rfl, ll, _, rfl, _, [c], rfl, rfl, ?_, _, rfl, _, rfl, _, rfl, l, rfl, ll, _, _, rfl, rfl, ?_, ?_⟩
      · have := cl none (some (r1 : Int)); exact le_line (by simp; omega)
      · have := cl none (some (r1 : Int)); have := cl (some (r1 : Int)) none; exact le_line (by simp; omega)
      refine fin _ _ SBB.refl p4 ?_ (((cutL_cod hc _ _).app cc).app (cutL_cod hc _ _))
      have e0 : (cutL l none (some (r1 : Int)) ++ [c] ++ cutL l (some (r1 : Int)) none).length ≤ 181 := l3 _ _ _ (cl _ _) (by simp) (cl _ _)
      rw [cut_hi, cut_lo] at *
      simp only [List.length_append, List.length_take, List.length_drop, List.length_singleton]
      omega
    refine ⟨_, rfl, rfl, _, rfl, ?_⟩
    refine ite2 (fun _ => ?_) (fun _ => ?_)
    · refine ⟨_, rfl, _, rfl, _, rfl, l, rfl, ll, _, rfl, _, rfl, _, _, rfl, rfl, _, rfl, l, rfl, ll, _, _, rfl, rfl, ?_, ?_⟩
      · have := cl none (some (r1 : Int)); have := cl (some ((r1 : Int) + 1)) none; exact le_line (by omega)
      refine fin _ _ SBB.refl p4 ?_ ((cutL_cod hc _ _).app (cutL_cod hc _ _))
      have := cl none (some (r1 : Int)); have := cl (some ((r1 : Int) + 1)) none
      rw [List.length_append]
      omega
    refine ⟨_, rfl, rfl, _, rfl, ?_⟩
    refine ite2 (fun _ => ?_) (fun _ => ?_)
    · refine ⟨_, rfl, _, rfl, _, rfl, l, rfl, ll, _, rfl, _, [c], rfl, rfl, ?_, _, rfl, _, rfl, _, _, rfl, rfl, _, rfl, l, rfl, ll, _, _, rfl, rfl, ?_, ?_⟩
      · have := cl none (some (r1 : Int)); exact le_line (by simp; omega)
      · have := cl none (some (r1 : Int)); have := cl (some ((r1 : Int) + 1)) none; exact le_line (by simp; omega)
      refine fin _ _ SBB.refl p4 ?_ (((cutL_cod hc _ _).app cc).app (cutL_cod hc _ _))
      rw [show ((r1 : Int) + 1) = ((r1 + 1 : Nat) : Int) by omega, cut_hi, cut_lo]
      simp only [List.length_append, List.length_take, List.length_drop, List.length_singleton]
      omega
    refine ⟨_, rfl, _, rfl, l, l, rfl, rfl, le_line (by omega), _, rfl, l, [41], rfl, rfl, le_line (by simp; omega), (by show 7 ≤ sizeLine; decide), fun t ht => ?_⟩
    have sT := Same.new (o := .tup (Wl (opts l))) ht
    have p5 := p3.same sT
    have oT := p3.offp ht
    refine ⟨_, rfl, p, g, 7, n + 1 + 1 + 1, rfl, p5, by omega, by decide, by decide, fun H5 r5 s5 p6 hr5 => ?_⟩
    obtain ⟨y, hy, ly, cy⟩ := opts_ok hl hc hr5
    refine ⟨t, Wl (opts l), _, .str (T y), rfl, rfl, SqT.of (s5 _ _ upd_same oT.1 oT.2), atI_of ?_, ?_⟩
    · unfold Wl
      rw [List.getElem?_map, hy]
      rfl
    · exact fin _ _ ((SBB.of sT).trans s5) (p6.mono (by omega)) ly cy
theorem ok__law_told {f : Addr} {fd : FuncData} (F : Fun K "_law_told" "_law_told" s__law_told f fd) (T_InvalidMoment : ErrT K mg D fI "InvalidMoment" C_InvalidMoment) (T_Unreadable : ErrT K mg D fI "Unreadable" C_Unreadable) (CG : ClsG K) (ii : mg "isinstance" = none)
    (q_uu : PySem.W.subIn K (.ref C_Unreadable) (.ref C_Unreadable) = some true) (q_um : PySem.W.kitOne K (.ref C_Unreadable) (.ref C_InvalidMoment) = some false)
    (h_read_moment : HasC (L2.CX P w) P w K mg base "read_moment" 6 ["text"] (spReadX C_Unreadable)) : FnOk P w K mg base CX0 7 f fd ["wording"] spTold := by
  have sc := sc__law_told
  obtain ⟨f_read_moment, fd_read_moment, mg_read_moment, kp_read_moment, b_read_moment, G_read_moment⟩ := h_read_moment
  refine F.ok sc (fun vs H Q E h => ?_) (fun cdv A outer s H vs Q E hr h => ?_)
  · obtain ⟨l, rfl, _⟩ := h
    rfl
  · obtain ⟨l, rfl, hl, hc, k, kb⟩ := h
    refine ⟨_, (pss_cons (ps_try_as (i := 1) rfl rfl sc.nd rfl rfl ⟨by rfl, by decide, .inl T_Unreadable.gC⟩ takes0 (fun W pn xe tkB po => (pss_one (ps_ret (pe_lst (pa_cons (pe_callS G_read_moment (hr.mono (by decide)) (by rfl) mg_read_moment kp_read_moment b_read_moment (fun σ => L2.passAt tkB σ) (pa_cons (pv 0) pa_nil)) pa_nil))))) (fun a oe cls d pn hz hf => (pss_one (ps_if (PW.pt (pw_or (pt_cmpR op_neT (pe_ev (D := D) hz hf (pv 1)) (pv 0) (nomark _)) (pw_or1 (pt_val (pe_callB (call_isS (D := D) CG hz hf) (by rfl) ii (by decide +kernel) (pa_cons (pv 1) (pa_cons (C8.pe_gc (v := .ref C_InvalidMoment) (by rfl) ⟨_, T_InvalidMoment.gC, rfl⟩) pa_nil))))))) (pss_one (ps_ret (pe_lst (pa_cons (pe_strT [111, 100, 100] (by decide +kernel)) pa_nil)))) pss_nil))))
    (pss_one (ps_ret (pe_lst pa_nil)))), ?_⟩
    refine ⟨_, rfl, l, rfl, hl, cod16 hc, fun h r b n tl H1 u s1 hu => ?_, fun nt H1 s1 d hd => ?_⟩
    · refine ⟨(by show 1 ≤ sizeLine; decide), fun v hv => ?_⟩
      refine k h r b n tl _ u v (s1.trans (Same.new hv)) upd_same ?_
      show L2.upd _ v _ u = _
      rw [upd_ne (ne_of_none hu hv)]
      exact hu
    · refine ⟨true, exm_err T_Unreadable.c q_uu, fun _ a ha => ?_, fun z => by cases z⟩
      have ev : ErrV K D C_Unreadable (.ref C_Unreadable) (some d) (.str (T l)) (L2.upd H1 d (.xd [("value", .str (T l))])) := ⟨rfl, T_Unreadable.c, d, rfl, upd_same⟩
      refine ⟨_, rfl, rfl, _, _, ev, _, rfl, l, l, rfl, rfl, _, rfl, ?_⟩
      rw [show (!decide (l = l)) = false by simp]
      refine iteF ?_
      refine ⟨_, rfl, _, _, _, _, _, rfl, (fun u hu => hu), ev, q_um, _, rfl, ?_⟩
      refine iteF ?_
      refine ⟨(by show 0 ≤ sizeLine; decide), fun v hv => ?_⟩
      exact kb nt _ v ((s1.trans (Same.new hd)).trans (Same.new hv)) upd_same
theorem ok__law_refused {f : Addr} {fd : FuncData} (F : Fun K "_law_refused" "_law_refused" s__law_refused f fd) (T_InvalidMoment : ErrT K mg D fI "InvalidMoment" C_InvalidMoment) (T_Unreadable : ErrT K mg D fI "Unreadable" C_Unreadable) (CG : ClsG K) (ii : mg "isinstance" = none)
    (q_mm : PySem.W.subIn K (.ref C_InvalidMoment) (.ref C_InvalidMoment) = some true) (q_mu : PySem.W.kitOne K (.ref C_InvalidMoment) (.ref C_Unreadable) = some false)
    (h_show_moment : HasC (L2N.CX P w) P w K mg base "show_moment" 5 ["moment"] (spShowN C_InvalidMoment)) : FnOk P w K mg base CX0 6 f fd ["thing"] spRefused := by
  have sc := sc__law_refused
  obtain ⟨f_show_moment, fd_show_moment, mg_show_moment, kp_show_moment, b_show_moment, G_show_moment⟩ := h_show_moment
  refine F.ok sc (fun vs H Q E h => ?_) (fun cdv A outer s H vs Q E hr h => ?_)
  · obtain ⟨t, hd, r, rfl, _⟩ := h
    rfl
  · obtain ⟨t, hd, r, rfl, hm, lh, lr, ch, cr, ng, k⟩ := h
    refine ⟨_, (pss_cons (ps_try_as (i := 1) rfl rfl sc.nd rfl rfl ⟨by rfl, by decide, .inl T_InvalidMoment.gC⟩ takes0 (fun W pn xe tkB po => (pss_one (ps_expr (pe_callS (FnOk.nx G_show_moment) (hr.mono (by decide)) (by rfl) mg_show_moment kp_show_moment b_show_moment (fun σ => L2.passAt tkB σ) (pa_cons (pv 0) pa_nil))))) (fun a oe cls d pn hz hf => (pss_one (ps_ret (pe_and (pe_cmpR (op_eqDk (K := K) rfl hr.units) (pe_ev (D := D) hz hf (pv 1)) (pv 0) (nomark _)) (pe_one (pe_not (pe_callB (call_isS (D := D) CG hz hf) (by rfl) ii (by decide +kernel) (pa_cons (pv 1) (pa_cons (C8.pe_gc (v := .ref C_Unreadable) (by rfl) ⟨_, T_Unreadable.gC, rfl⟩) pa_nil))))))))))
    (pss_one (ps_ret pe_bl))), ?_⟩
    refine ⟨_, rfl, t, hd, r, rfl, hm, ⟨lh, lr, cod16 ch, cod16 cr⟩, fun g => absurd g ng, fun _ d hdn => ?_⟩
    refine ⟨true, exm_err T_InvalidMoment.c q_mm, fun _ a ha => ?_, fun z => by cases z⟩
    have ev : ErrV K D C_InvalidMoment (.ref C_InvalidMoment) (some d) (.ref t) (L2.upd H d (.xd [("value", .ref t)])) := ⟨rfl, T_InvalidMoment.c, d, rfl, upd_same⟩
    have s1 := Same.new (o := .xd [("value", .ref t)]) hdn
    have hm1 : MomAt (L2.upd H d (.xd [("value", .ref t)])) t hd r := s1 _ _ hm
    have dp : Dp K (L2.upd H d (.xd [("value", .ref t)])) (.ref t) (pD1 (hd, r)) := .tup (SqT.of hm1) (.cons (.str _) (.cons (.str _) .nil))
    obtain ⟨d1, d2, d3, d4⟩ := selfD dp dp (pD1_lay ch cr) (by rw [pD1_dep]; decide)
    refine ⟨_, rfl, rfl, _, _, ev, _, rfl, _, _, d1, d2, d3, d3, ?_⟩
    rw [d4]
    refine ⟨_, rfl, iteT ?_⟩
    refine ⟨_, rfl, _, _, _, _, _, rfl, (fun u hu => hu), ev, q_mu, ?_⟩
    exact ⟨_, rfl, k _ s1⟩
end
end HC

namespace HC
open PySem PySem.Spec PyProof.Rows L2 L2H
abbrev s_law : Stmt := top 25
abbrev N_law : List Str := ["script", "bag", "turn", "thing", "wording", "other"]
theorem sc_law : FnScope N_law ["script"] (defScope s_law) := ⟨rfl, rfl, rfl, by decide +kernel, rfl, by decide +kernel, by decide +kernel⟩

def spLaw (K : PySem.W.Frag) : Sp := fun vs H Q _ => ∃ (a : Addr) (ns : List Int), vs = [.ref a] ∧ SqL K H a (ns.map V.int) ∧ ns.length ≤ 63 ∧ ∀ H', Q (.bl true) H'
theorem tells_eq {l h r : List Nat} {b k : Nat} (t : Tells l h r b k) : pH (val h r) b = h ∧ pR (val h r) b k = r := by
  have e := t.sh.trans t.eq
  unfold shw at e
  obtain ⟨a, c⟩ := cut40 (no40 (pH_bin t.g b)) (no40 t.g.bh) e
  exact ⟨a, List.append_cancel_right c⟩
theorem tells_one {l h r h' r' : List Nat} {b k b' k' : Nat} (t : Tells l h r b k) (t' : Tells l h' r' b' k') : h = h' ∧ r = r' := by
  obtain ⟨a, c⟩ := cut40 (no40 t.g.bh) (no40 t'.g.bh) (t.eq.symm.trans t'.eq)
  exact ⟨a, List.append_cancel_right c⟩
/-- the text of a moment tells its plain form -/
theorem tells_shw {h r : List Nat} {b k : Nat} (g : GoodM h r) (p : PlainS (val h r) b k) : Tells (shw (val h r) b k) (pH (val h r) b) (pR (val h r) b k) b k := by
  have bk := p.back
  refine ⟨⟨pH_bin g b, pR_bin g b k, by rw [pR_len]; exact p.pos⟩, by rw [bk]; exact p, rfl, by rw [bk]⟩
theorem pick2 {r : Nat} (h : r < 2) : ∃ m : Nat, ([V.int 13, V.int 61])[r]? = some (.int (m : Int)) ∧ 1 ≤ m ∧ m ≤ 61 := by
  match r, h with
  | 0, _ => exact ⟨13, rfl, by decide, by decide⟩
  | 1, _ => exact ⟨61, rfl, by decide, by decide⟩
theorem BagAt.tup_off {H : Hp} {p g t : Addr} {n : Nat} {h r : List Nat} (hb : BagAt H p g n) (ht : MomAt H t h r) : t ≠ p ∧ t ≠ g := by
  obtain ⟨ks, l, x, b, h1, h2, _⟩ := hb
  have ht' : H t = some (.tup [.str (T h), .str (T r)]) := ht
  exact ⟨fun e => (by rw [e, h1] at ht'; cases ht'), fun e => (by rw [e, h2] at ht'; cases ht')⟩
theorem nrmE {x0 x1 x2 x3 x4 x5 a b c : Option V} : List.set (List.set (List.set [x0, x1, x2, x3, x4, x5] 2 a) 3 b) 4 c = [x0, x1, a, b, c, x5] := rfl
theorem told_due {K : PySem.W.Frag} {σ : L2.St} {G : Hp} {w1 : List Nat} {R : Bool → Hp → Prop} (hs : σ[5]? = some (some (.str (T w1)))) (hl : w1.length ≤ 200) (hc : Cod w1) (hR : ∀ Gc, Same G Gc → R false Gc) :
    tTest (tOp (rNeD K) (tCall spTold [] E0 (tCons (tVar 5) tNil)) (tCall spDue [] E0 (tCons (tVar 5) tNil))) σ G R := by
  refine ⟨_, hs, w1, rfl, hl, hc, fun h r b4 n4 t4 H1 u v s1 hv hu => ?_, fun nt H1 v s1 hv => ?_⟩
  · refine ⟨_, hs, w1, rfl, hl, hc, fun h' r' b5 n5 t5 H2 u' v' s2 hv' hu' => ?_, fun nt => absurd t4 (nt _ _ _ _)⟩
    obtain ⟨rfl, rfl⟩ := tells_one t4 t5
    obtain ⟨e1, e2⟩ := tells_eq t4
    rw [e1, e2] at hu
    have cd : CodP [(h, r)] := fun p hp => by rw [List.mem_singleton.mp hp]; exact ⟨t4.g.bh.cod, t4.g.br.cod⟩
    have dp : ∀ x y : Addr, H2 x = some (.lst [.ref y]) → MomAt H2 y h r → Dp K H2 (.ref x) (pD [(h, r)]) := fun x y hx hy => .lst (SqL.of hx) (.cons (.tup (SqT.of hy) (.cons (.str _) (.cons (.str _) .nil))) .nil)
    refine ⟨_, _, dp v u (s2 _ _ hv) (s2 _ _ hu), dp v' u' hv' hu', pD_ok cd, pD_ok cd, _, rfl, ?_⟩
    rw [pD_eqv, show (!decide ([(h, r)] = [(h, r)])) = false by simp]
    exact hR _ (s1.trans s2)
  · refine ⟨_, hs, w1, rfl, hl, hc, fun h' r' b5 n5 t5 => absurd t5 (nt _ _ _ _), fun _ H2 v' s2 hv' => ?_⟩
    have cd : CodP [] := fun p hp => by cases hp
    have dp : ∀ x : Addr, H2 x = some (.lst []) → Dp K H2 (.ref x) (pD []) := fun x hx => .lst (SqL.of hx) .nil
    refine ⟨_, _, dp v (s2 _ _ hv), dp v' hv', pD_ok cd, pD_ok cd, _, rfl, ?_⟩
    rw [pD_eqv]
    exact hR _ (s1.trans s2)
section
variable {P : Program} {w : World} {K : PySem.W.Frag} {mg : Str → Option Value} {base : Heap} {D fI C_InvalidMoment C_Unreadable : Addr}
theorem ok_law {f : Addr} {fd : FuncData} (F : Fun K "law" "law" s_law f fd) (B : Blt mg)
    (h__law_bag : Has P w K mg base "_law_bag" 1 ["script"] (spBag K)) (h__law_draw : Has P w K mg base "_law_draw" 1 ["bag", "many"] spBDraw) (h__law_word : Has P w K mg base "_law_word" 2 ["bag", "long"] spWordB) (h__law_written : Has P w K mg base "_law_written" 2 ["thing"] spWritten) (h__law_shown : Has P w K mg base "_law_shown" 1 ["thing"] spShownW)
    (h_show_moment : HasCK (L2N.CX P w) ["moment"] @oneG P w K mg base "show_moment" 5 ["moment"] (spShowN C_InvalidMoment)) (h_read_moment : HasCK (L2.CX P w) ["text"] @oneG P w K mg base "read_moment" 6 ["text"] (spReadX C_Unreadable))
    (h__law_changed : Has P w K mg base "_law_changed" 2 ["bag", "wording"] spChanged) (h__law_told : Has P w K mg base "_law_told" 7 ["wording"] spTold) (h__law_due : Has P w K mg base "_law_due" 3 ["wording"] spDue) (h__law_refused : Has P w K mg base "_law_refused" 6 ["thing"] spRefused) : FnOk P w K mg base CX0 8 f fd ["script"] (spLaw K) := by
  have sc := sc_law
  obtain ⟨f_show_moment, fd_show_moment, mg_show_moment, kp_show_moment, b_show_moment, KB_show_moment_moment, G_show_moment⟩ := h_show_moment
  obtain ⟨f_read_moment, fd_read_moment, mg_read_moment, kp_read_moment, b_read_moment, KB_read_moment_text, G_read_moment⟩ := h_read_moment
  obtain ⟨f__law_bag, fd__law_bag, mg__law_bag, kp__law_bag, b__law_bag, G__law_bag⟩ := h__law_bag
  obtain ⟨f__law_draw, fd__law_draw, mg__law_draw, kp__law_draw, b__law_draw, G__law_draw⟩ := h__law_draw
  obtain ⟨f__law_word, fd__law_word, mg__law_word, kp__law_word, b__law_word, G__law_word⟩ := h__law_word
  obtain ⟨f__law_written, fd__law_written, mg__law_written, kp__law_written, b__law_written, G__law_written⟩ := h__law_written
  obtain ⟨f__law_shown, fd__law_shown, mg__law_shown, kp__law_shown, b__law_shown, G__law_shown⟩ := h__law_shown
  obtain ⟨f__law_changed, fd__law_changed, mg__law_changed, kp__law_changed, b__law_changed, G__law_changed⟩ := h__law_changed
  obtain ⟨f__law_told, fd__law_told, mg__law_told, kp__law_told, b__law_told, G__law_told⟩ := h__law_told
  obtain ⟨f__law_due, fd__law_due, mg__law_due, kp__law_due, b__law_due, G__law_due⟩ := h__law_due
  obtain ⟨f__law_refused, fd__law_refused, mg__law_refused, kp__law_refused, b__law_refused, G__law_refused⟩ := h__law_refused
  refine F.ok sc (fun vs H Q E h => ?_) (fun cdv A outer s H vs Q E hr h => ?_)
  · obtain ⟨a, ns, rfl, _⟩ := h
    rfl
  · obtain ⟨a, ns, rfl, hS, hl, k⟩ := h
    refine ⟨_, (pss_cons (ps_set (i := 1) sc.nd rfl (by first | exact Or.inl rfl | exact Or.inr rfl) (pe_call G__law_bag (hr.mono (by decide)) (by rfl) mg__law_bag kp__law_bag b__law_bag .nil pass0 (pa_cons (pv 0) pa_nil)))
    (pss_cons (ps_for PassesOwn.never rfl (pi_range1 (by rfl) B.range (pa_cons (pe_op op_add pe_int (pe_callB (call_min2 rfl) (by rfl) B.min (by decide +kernel) (pa_cons pe_int (pa_cons (pe_callB call_len_seq (by rfl) B.len PySem.boot_len (pa_cons (pv 0) pa_nil)) pa_nil)))) pa_nil)) (pg_name (i := 2) sc.nd rfl (by first | exact Or.inl rfl | exact Or.inr rfl))
      (pss_cons (ps_set (i := 3) sc.nd rfl (by first | exact Or.inl rfl | exact Or.inr rfl) (pe_tup (pa_cons (pe_call G__law_word (hr.mono (by decide)) (by rfl) mg__law_word kp__law_word b__law_word .nil pass0 (pa_cons (pv 1) (pa_cons (pe_call G__law_draw (hr.mono (by decide)) (by rfl) mg__law_draw kp__law_draw b__law_draw .nil pass0 (pa_cons (pv 1) (pa_cons (pe_ix ix_tup (pe_tup (pa_cons pe_int (pa_cons pe_int pa_nil))) (pe_call G__law_draw (hr.mono (by decide)) (by rfl) mg__law_draw kp__law_draw b__law_draw .nil pass0 (pa_cons (pv 1) (pa_cons pe_int pa_nil))) (fun _ _ => rfl)) pa_nil))) pa_nil))) (pa_cons (pe_call G__law_word (hr.mono (by decide)) (by rfl) mg__law_word kp__law_word b__law_word .nil pass0 (pa_cons (pv 1) (pa_cons (pe_op op_add pe_int (pe_call G__law_draw (hr.mono (by decide)) (by rfl) mg__law_draw kp__law_draw b__law_draw .nil pass0 (pa_cons (pv 1) (pa_cons pe_int pa_nil)))) pa_nil))) pa_nil))))
    (pss_cons (ps_set (i := 4) sc.nd rfl (by first | exact Or.inl rfl | exact Or.inr rfl) (pe_call G__law_written (hr.mono (by decide)) (by rfl) mg__law_written kp__law_written b__law_written .nil pass0 (pa_cons (pv 3) pa_nil)))
    (pss_cons (ps_if (PW.pt (pw_or (pt_cmpR op_neT (pe_callK0 G_show_moment (hr.mono (by decide)) (by rfl) mg_show_moment kp_show_moment KB_show_moment_moment passN (pk_cons (pv 3) pk_nil)) (pv 4) (nomark _)) (pw_or1 (pt_cmpR (op_neD hr.units) (pe_callK0 G_read_moment (hr.mono (by decide)) (by rfl) mg_read_moment kp_read_moment KB_read_moment_text passX (pk_cons (pv 4) pk_nil)) (pe_call G__law_shown (hr.mono (by decide)) (by rfl) mg__law_shown kp__law_shown b__law_shown .nil pass0 (pa_cons (pv 3) pa_nil)) (nomark _))))) (pss_one (ps_ret pe_bl)) pss_nil)
    (pss_cons (ps_set (i := 5) sc.nd rfl (by first | exact Or.inl rfl | exact Or.inr rfl) (pe_call G__law_changed (hr.mono (by decide)) (by rfl) mg__law_changed kp__law_changed b__law_changed .nil pass0 (pa_cons (pv 1) (pa_cons (pv 4) pa_nil))))
    (pss_cons (ps_if (pt_cmpR (op_neD hr.units) (pe_call G__law_told (hr.mono (by decide)) (by rfl) mg__law_told kp__law_told b__law_told .nil pass0 (pa_cons (pv 5) pa_nil)) (pe_call G__law_due (hr.mono (by decide)) (by rfl) mg__law_due kp__law_due b__law_due .nil pass0 (pa_cons (pv 5) pa_nil)) (nomark _)) (pss_one (ps_ret pe_bl)) pss_nil)
    (pss_one (ps_if (PW.pt (pw_or (pt_not (pt_val (pe_call G__law_refused (hr.mono (by decide)) (by rfl) mg__law_refused kp__law_refused b__law_refused .nil pass0 (pa_cons (pe_tup (pa_cons (pe_ix ix_tup (pv 3) pe_int (fun _ _ => rfl)) (pa_cons (pe_strT [] (by decide +kernel)) pa_nil))) pa_nil)))) (pw_or1 (pt_not (pt_val (pe_call G__law_refused (hr.mono (by decide)) (by rfl) mg__law_refused kp__law_refused b__law_refused .nil pass0 (pa_cons (pe_tup (pa_cons (pe_op op_addT (pe_slice sl_T (pe_ix ix_tup (pv 3) pe_int (fun _ _ => rfl)) po_none (po_some pe_int)) (pe_strT [50] (by decide +kernel))) (pa_cons (pe_ix ix_tup (pv 3) pe_int (fun _ _ => rfl)) pa_nil))) pa_nil))))))) (pss_one (ps_ret pe_bl)) pss_nil))))))))
    (pss_one (ps_ret pe_bl)))), ?_⟩
    refine ⟨_, rfl, a, ns, rfl, hS, hl, fun H1 p g sm hp0 hg0 b0 => ?_⟩
    refine ⟨_, rfl, a, _, rfl, .inl (sm.seq hS), _, _, rfl, ?_⟩
    have hlen : ((ns.map V.int).length : Int) ≤ 63 := by rw [List.length_map]; omega
    refine ⟨_, _, rfl, rfl, ?_⟩
    generalize hmany : (10 + (if ((ns.map V.int).length : Int) < 20 then ((ns.map V.int).length : Int) else 20)) = many
    have hmany2 : many ≤ 30 := by
      rw [← hmany]
      split <;> omega
    have hmany1 : 0 ≤ many := by
      rw [← hmany]
      split <;> omega
    refine ⟨many, congrArg (fun z => [V.int z]) hmany, by omega, by omega, ?_⟩
    refine for_range (lo := 0) (n := many.toNat) (fun i σ G => ∃ x2 x3 x4 x5 : Option V, BagAt G p g (200 * i) ∧ σ = [some (.ref a), some (.ref p), x2, x3, x4, x5])
      ⟨_, _, _, _, b0, rfl⟩ ?_ ?_
    rotate_left
    · rintro σ G ⟨x2, x3, x4, x5, bb, rfl⟩
      exact k _
    rintro i σ G hi ⟨x2, x3, x4, x5, bb, rfl⟩
    have hi2 : i < 30 := by omega
    refine ⟨_, rfl, _, rfl, (by show 2 ≤ sizeLine; decide), fun t0 ht0 => ?_⟩
    have bb1 := bb.same (Same.new (o := .tup [.int 13, .int 61]) ht0)
    have o0 := bb.offp ht0
    refine ⟨_, rfl, p, g, 2, 200 * i, rfl, bb1, by omega, by decide, by decide, fun G1 r1 s1 p1 hr1 => ?_⟩
    obtain ⟨m, em, m1, m2⟩ := pick2 hr1
    refine ⟨t0, _, _, _, rfl, rfl, SqT.of (s1 _ _ upd_same o0.1 o0.2), atI_of em, ?_⟩
    refine ⟨p, g, m, 200 * i + 1, rfl, p1, by omega, by omega, Nat.lt_of_le_of_lt m2 (by decide), fun G2 r2 s2 p2 hr2 => ?_⟩
    refine ⟨p, g, r2, 200 * i + 1 + 1, rfl, p2, by omega, by omega, fun G3 l1 s3 p3 b1 len1 => ?_⟩
    refine ⟨_, rfl, _, rfl, p, g, 12, 200 * i + 1 + 1 + r2, rfl, p3, by omega, by decide, by decide, fun G4 r3 s4 p4 hr3 => ?_⟩
    refine ⟨_, _, rfl, rfl, p, g, 1 + r3, 200 * i + 1 + 1 + r2 + 1, by rw [Int.natCast_add]; rfl, p4, by omega, by omega, fun G5 l2 s5 p5 b2 len2 => ?_⟩
    refine ⟨(by show 2 ≤ sizeLine; decide), fun t ht => ?_⟩
    have q5 : BagAt G5 p g (200 * i + 100) := p5.mono (by omega)
    have ot := p5.offp ht
    have q6 := q5.same (Same.new (o := .tup [.str (T l1), .str (T l2)]) ht)
    have hm : MomAt (L2.upd G5 t (.tup [.str (T l1), .str (T l2)])) t l1 l2 := upd_same
    clear bb bb1 p1 p2 p3 p4 p5 s1 s2 s3 s4 s5 em q5
    have g0 : GoodM l1 l2 := ⟨b1, b2, by omega⟩
    generalize L2.upd G5 t (.tup [.str (T l1), .str (T l2)]) = G6 at hm q6 ⊢
    refine ⟨_, rfl, t, l1, l2, rfl, hm, g0, by omega, by omega, fun b n ps G7 s7 => ?_⟩
    obtain ⟨hb, hpn⟩ := ps.le g0.l1
    have hn := hpn.le
    have e1 := pH_len (val l1 l2) b
    have e2 := pR_len (val l1 l2) b n
    have lw : (shw (val l1 l2) b n).length ≤ 76 := by
      unfold shw
      simp only [List.length_append, List.length_cons, List.length_nil]
      omega
    have cw : Cod (shw (val l1 l2) b n) := by
      unfold shw
      exact (pH_bin g0 b).cod.app fun c hc => by
        rcases List.mem_cons.mp hc with e | hc
        · omega
        · exact (pR_bin g0 b n).cod.app (fun z hz => by simp at hz; omega) c hc
    have tl := tells_shw g0 ps
    have hm7 := s7 _ _ hm
    have q7 := q6.same s7
    generalize hw : shw (val l1 l2) b n = w0 at lw cw tl ⊢
    have sm0 : Small l1 l2 := ⟨by omega, by omega, bin_code b1, bin_code b2⟩
    refine ⟨_, rfl, t, l1, l2, rfl, hm7, sm0, fun _ b' n' ps' G8 s8 => ?_, fun ng => absurd g0 ng⟩
    obtain ⟨rfl, rfl⟩ := ps'.uniq ps
    rw [hw]
    refine ⟨_, rfl, w0, w0, rfl, rfl, _, rfl, ?_⟩
    rw [show (!decide (w0 = w0)) = false by simp]
    refine iteF ?_
    have hm8 := s8 _ _ hm7
    have q8 := q7.same s8
    refine ⟨_, rfl, w0, rfl, by omega, cod16 cw, fun h r b2' k2' tl2 G9 u s9 hu => ?_, fun nt => absurd tl (nt _ _ _ _)⟩
    obtain ⟨rfl, rfl⟩ := tells_one tl tl2
    obtain ⟨x1, x2'⟩ := tells_eq tl2
    rw [x1, x2'] at hu
    have hm9 := s9 _ _ hm8
    refine ⟨_, rfl, t, l1, l2, rfl, hm9, b1, b2, by omega, by omega, by omega, fun b3 n3 ps3 Ga u2 sa hn2 hu2 => ?_⟩
    obtain ⟨rfl, rfl⟩ := ps3.uniq ps
    have q10 := (q8.same s9).same sa
    have hma := sa _ _ hm9
    have dp : ∀ y : Addr, MomAt Ga y (pH (val l1 l2) b3) (pR (val l1 l2) b3 n3) → Dp K Ga (.ref y) (pD1 (pH (val l1 l2) b3, pR (val l1 l2) b3 n3)) := fun y hy => .tup (SqT.of hy) (.cons (.str _) (.cons (.str _) .nil))
    obtain ⟨d1, d2, d3, d4⟩ := selfD (dp u (sa _ _ hu)) (dp u2 hu2) (pD1_lay (pH_bin g0 b3).cod (pR_bin g0 b3 n3).cod) (by rw [pD1_dep]; decide)
    refine ⟨_, _, d1, d2, d3, d3, _, rfl, ?_⟩
    rw [d4]
    refine iteF ?_
    clear dp d1 d2 d3 d4 hu hu2 hn2 hm7 hm8 hm9 q6 q7 q8 hm
    refine ⟨_, rfl, _, rfl, p, g, w0, 200 * i + 100, rfl, q10, by omega, by omega, cw, fun Gb w1 sb qb lw1 cw1 => ?_⟩
    have otp := q10.tup_off hma
    have hmb : MomAt Gb t l1 l2 := sb _ _ hma otp.1 otp.2
    have qb2 : BagAt Gb p g (200 * (i + 1)) := qb.mono (by omega)
    refine told_due rfl (by omega) cw1 fun Gc sc => iteF ?_
    have hmc := sc _ _ hmb
    have qc := qb2.same sc
    refine ⟨_, rfl, t, _, 0, _, rfl, rfl, SqT.of hmc, rfl, (by show 2 ≤ sizeLine; decide), fun t2 ht2 => ?_⟩
    have c50 : Cod [50] := fun c hc => by simp at hc; omega
    refine ⟨t2, l1, [], rfl, upd_same, by omega, by simp, b1.cod, (fun c hc => by cases hc), (fun g => absurd g.l1 (by decide)), fun Gd sd => ⟨_, rfl, iteF ?_⟩⟩
    have hmd := sd _ _ ((Same.new (o := .tup [.str (T l1), .str (T [])]) ht2) _ _ hmc)
    have qd := (qc.same (Same.new (o := .tup [.str (T l1), .str (T [])]) ht2)).same sd
    refine ⟨_, rfl, t, _, 0, _, rfl, rfl, SqT.of hmd, rfl, 59, rfl, l1, rfl, le_line (by omega), _, [50], rfl, rfl, ?_, ?_⟩
    · have := cutL_le l1 none (some 59); exact le_line (by simp; omega)
    refine ⟨_, rfl, t, _, 1, _, rfl, rfl, SqT.of hmd, rfl, (by show 2 ≤ sizeLine; decide), fun t3 ht3 => ?_⟩
    refine ⟨t3, cutL l1 none (some 59) ++ [50], l2, rfl, upd_same, ?_, by omega, (cutL_cod b1.cod _ _).app c50, b2.cod, (fun g => ?_), fun Ge se => ⟨_, rfl, iteF ?_⟩⟩
    · have := cutL_le l1 none (some 59)
      simp only [List.length_append, List.length_singleton]
      omega
    · have := g.bh 50 (by simp)
      omega
    exact ⟨_, _, _, _, (qd.same (Same.new (o := .tup [.str (T (cutL l1 none (some 59) ++ [50])), .str (T l2)]) ht3)).same se, rfl⟩
end
end HC

namespace HC
open PySem PySem.Spec PyProof.Rows L2
section
theorem all_mk {P : Program} {w : World} {K : PySem.W.Frag} {h : Heap} {mg : Str → Option Value} {fa : Addr} (X : K.In h) (G : h.Ns mainGlobals mg) (hfa : mg "law" = some (.ref fa))
    {f_is_word f_check_moment f_shortest_ring f_shared_end f_plain f_show_moment f_read_moment f__law_bag f__law_draw f__law_word f__law_shown f__law_written f__law_due f__law_changed f__law_told f__law_refused f_law : Addr}
    {C_CutError N_CutError : Addr} {nm_CutError q_CutError : Str} {bs_CutError bm_CutError : List Value} {sn_CutError : List Str} {su_CutError : List Value} {ab_CutError : Bool} {co_CutError : Option Bool} {dd_CutError : Option Addr} {k0_CutError k1_CutError k2_CutError k3_CutError k5_CutError : Option Value}
    (eg_CutError : PySem.W.nsIn K mainGlobals "CutError" = some (some (.ref C_CutError)))
    (ec_CutError : K.lookup C_CutError = some (excClassObj nm_CutError q_CutError C_CutError N_CutError bs_CutError bm_CutError true sn_CutError su_CutError ab_CutError co_CutError dd_CutError k0_CutError k1_CutError k2_CutError k3_CutError k5_CutError "ValueError.__new__"))
    (eb_CutError : PySem.HandSPX.refsVE bm_CutError = true)
    {C_InvalidMoment N_InvalidMoment : Addr} {nm_InvalidMoment q_InvalidMoment : Str} {bs_InvalidMoment bm_InvalidMoment : List Value} {sn_InvalidMoment : List Str} {su_InvalidMoment : List Value} {ab_InvalidMoment : Bool} {co_InvalidMoment : Option Bool} {dd_InvalidMoment : Option Addr} {k0_InvalidMoment k1_InvalidMoment k2_InvalidMoment k3_InvalidMoment k5_InvalidMoment : Option Value}
    (eg_InvalidMoment : PySem.W.nsIn K mainGlobals "InvalidMoment" = some (some (.ref C_InvalidMoment)))
    (ec_InvalidMoment : K.lookup C_InvalidMoment = some (excClassObj nm_InvalidMoment q_InvalidMoment C_InvalidMoment N_InvalidMoment bs_InvalidMoment bm_InvalidMoment true sn_InvalidMoment su_InvalidMoment ab_InvalidMoment co_InvalidMoment dd_InvalidMoment k0_InvalidMoment k1_InvalidMoment k2_InvalidMoment k3_InvalidMoment k5_InvalidMoment "ValueError.__new__"))
    (eb_InvalidMoment : PySem.HandSPX.refsVE bm_InvalidMoment = true)
    {C_Unreadable N_Unreadable : Addr} {nm_Unreadable q_Unreadable : Str} {bs_Unreadable bm_Unreadable : List Value} {sn_Unreadable : List Str} {su_Unreadable : List Value} {ab_Unreadable : Bool} {co_Unreadable : Option Bool} {dd_Unreadable : Option Addr} {k0_Unreadable k1_Unreadable k2_Unreadable k3_Unreadable k5_Unreadable : Option Value}
    (eg_Unreadable : PySem.W.nsIn K mainGlobals "Unreadable" = some (some (.ref C_Unreadable)))
    (ec_Unreadable : K.lookup C_Unreadable = some (excClassObj nm_Unreadable q_Unreadable C_Unreadable N_Unreadable bs_Unreadable bm_Unreadable true sn_Unreadable su_Unreadable ab_Unreadable co_Unreadable dd_Unreadable k0_Unreadable k1_Unreadable k2_Unreadable k3_Unreadable k5_Unreadable "ValueError.__new__"))
    (eb_Unreadable : PySem.HandSPX.refsVE bm_Unreadable = true)
    {od_I an_I : Option Addr} {sl_I : Array (Option Value)} {oc_I kV_I dc_I pm_I ct_I : Value} {f_I cda_I cc_I : Addr} {ccl_I cl_I : Value} {cdd_I cld_I : Option Addr} {vs_I : Array Value} {ccs_I csl_I : Array (Option Value)} {file_I : Str} {tf_I : Tok}
    (ic_CutError : PySem.W.findIn K (.ref C_CutError) "__init__" = some (some (.ref f_I)))
    (l_I : K.lookup f_I = some ⟨oc_I, od_I, .func (PySem.W.fnX "__init__" "CutError.__init__" (defArgs s_CutError___init__) (defBody s_CutError___init__) (defScope s_CutError___init__) [("__class__", cc_I)] .none kV_I dc_I pm_I an_I (.ref cda_I) ct_I), sl_I⟩)
    (c_I : PySem.W.codeIn K (.ref cda_I) "CutError.__init__" = true) (lc_I : K.lookup cda_I = some ⟨ccl_I, cdd_I, .fields vs_I, ccs_I⟩) (v2_I : vs_I[2]? = some (.str file_I tf_I)) (fl_I : ((P.main.file : Str) == file_I) = true) (tp_I : (P.main.scope.names.lookup ("super" : Str)).isSome = false)
    (ce_I : K.lookup cc_I = some ⟨cl_I, cld_I, .cell (some (.ref C_CutError)), csl_I⟩) (z_super : PySem.W.nsIn K mainGlobals "super" = some none) (op_I : PySem.W.nsIn K cStatics "thirdparty.any" = some none) (ti_I : PySem.W.typeIn K (.ref f_I) = some (.type "function"))
    (hn_I : PySem.W.specialIn K (.builtin "object.__class__") "__get__" = some (some (.builtin "getset_descriptor.__get__"))) (ht_I : PySem.W.takesIn K (.builtin "object.__class__") = some true)
    (sa_CutError : PySem.W.findIn K (.ref C_CutError) "__setattr__" = some (some (.builtin "object.__setattr__"))) (ex_CutError : PySem.W.subIn K (.ref C_CutError) (.type "BaseException") = some true) (ty_CutError : PySem.W.typeIn K (.ref C_CutError) = some (.type "type")) (kp_CutError : PySem.W.keepIn K (.ref C_CutError) = true)
    (sb_CutError : PySem.W.mroIn K C_CutError (.ref C_CutError) = some true) (nx_CutError : PySem.W.ks_superIn K C_CutError C_CutError "__init__" = some (some (.builtin "ValueError.__init__"))) (ve_CutError : PySem.W.subIn K (.ref C_CutError) (.type "ValueError") = some true) (nv_CutError : PySem.W.findIn K (.ref C_CutError) "value" = some none)
    (hd_CutError : PySem.W.hasDictIn K C_CutError = true) (hk_CutError : PySem.W.findIn K (.ref C_CutError) "__getattr__" = some none) (hg_CutError : PySem.W.findIn K (.ref C_CutError) "__getattribute__" = some (some (.builtin "BaseException.__getattribute__"))) (ha_CutError : PySem.W.findIn K (.ref C_CutError) "__class__" = some (some (.builtin "object.__class__"))) (hm_CutError : PySem.W.mroIn K C_CutError (.type "object") = some true)
    (sa_InvalidMoment : PySem.W.findIn K (.ref C_InvalidMoment) "__setattr__" = some (some (.builtin "object.__setattr__"))) (ex_InvalidMoment : PySem.W.subIn K (.ref C_InvalidMoment) (.type "BaseException") = some true) (ty_InvalidMoment : PySem.W.typeIn K (.ref C_InvalidMoment) = some (.type "type")) (kp_InvalidMoment : PySem.W.keepIn K (.ref C_InvalidMoment) = true)
    (sb_InvalidMoment : PySem.W.mroIn K C_InvalidMoment (.ref C_CutError) = some true) (nx_InvalidMoment : PySem.W.ks_superIn K C_InvalidMoment C_CutError "__init__" = some (some (.builtin "ValueError.__init__"))) (ve_InvalidMoment : PySem.W.subIn K (.ref C_InvalidMoment) (.type "ValueError") = some true) (nv_InvalidMoment : PySem.W.findIn K (.ref C_InvalidMoment) "value" = some none)
    (hd_InvalidMoment : PySem.W.hasDictIn K C_InvalidMoment = true) (hk_InvalidMoment : PySem.W.findIn K (.ref C_InvalidMoment) "__getattr__" = some none) (hg_InvalidMoment : PySem.W.findIn K (.ref C_InvalidMoment) "__getattribute__" = some (some (.builtin "BaseException.__getattribute__"))) (ha_InvalidMoment : PySem.W.findIn K (.ref C_InvalidMoment) "__class__" = some (some (.builtin "object.__class__"))) (hm_InvalidMoment : PySem.W.mroIn K C_InvalidMoment (.type "object") = some true)
    (ic_InvalidMoment : PySem.W.findIn K (.ref C_InvalidMoment) "__init__" = some (some (.ref f_I)))
    (sa_Unreadable : PySem.W.findIn K (.ref C_Unreadable) "__setattr__" = some (some (.builtin "object.__setattr__"))) (ex_Unreadable : PySem.W.subIn K (.ref C_Unreadable) (.type "BaseException") = some true) (ty_Unreadable : PySem.W.typeIn K (.ref C_Unreadable) = some (.type "type")) (kp_Unreadable : PySem.W.keepIn K (.ref C_Unreadable) = true)
    (sb_Unreadable : PySem.W.mroIn K C_Unreadable (.ref C_CutError) = some true) (nx_Unreadable : PySem.W.ks_superIn K C_Unreadable C_CutError "__init__" = some (some (.builtin "ValueError.__init__"))) (ve_Unreadable : PySem.W.subIn K (.ref C_Unreadable) (.type "ValueError") = some true) (nv_Unreadable : PySem.W.findIn K (.ref C_Unreadable) "value" = some none)
    (hd_Unreadable : PySem.W.hasDictIn K C_Unreadable = true) (hk_Unreadable : PySem.W.findIn K (.ref C_Unreadable) "__getattr__" = some none) (hg_Unreadable : PySem.W.findIn K (.ref C_Unreadable) "__getattribute__" = some (some (.builtin "BaseException.__getattribute__"))) (ha_Unreadable : PySem.W.findIn K (.ref C_Unreadable) "__class__" = some (some (.builtin "object.__class__"))) (hm_Unreadable : PySem.W.mroIn K C_Unreadable (.type "object") = some true)
    (ic_Unreadable : PySem.W.findIn K (.ref C_Unreadable) "__init__" = some (some (.ref f_I)))
    (qs_InvalidMoment_InvalidMoment : PySem.W.subIn K (.ref C_InvalidMoment) (.ref C_InvalidMoment) = some true)
    (qs_Unreadable_Unreadable : PySem.W.subIn K (.ref C_Unreadable) (.ref C_Unreadable) = some true)
    (qo_Unreadable_InvalidMoment : PySem.W.kitOne K (.ref C_Unreadable) (.ref C_InvalidMoment) = some false)
    (qo_InvalidMoment_Unreadable : PySem.W.kitOne K (.ref C_InvalidMoment) (.ref C_Unreadable) = some false)
    {od_is_word an_is_word : Option Addr} {sl_is_word : Array (Option Value)} {oc_is_word kV_is_word dc_is_word pm_is_word cd_is_word ct_is_word : Value}
    (a_is_word : PySem.W.nsIn K mainGlobals "is_word" = some (some (.ref f_is_word))) (l_is_word : K.lookup f_is_word = some ⟨oc_is_word, od_is_word, .func (PySem.W.fnOf "is_word" "is_word" (defArgs s_is_word) (defBody s_is_word) (defScope s_is_word) .none kV_is_word dc_is_word pm_is_word an_is_word cd_is_word ct_is_word), sl_is_word⟩) (c_is_word : PySem.W.codeIn K cd_is_word "is_word" = true) (k_is_word : PySem.W.keepIn K (.ref f_is_word) = true)
    {od_check_moment an_check_moment : Option Addr} {sl_check_moment : Array (Option Value)} {oc_check_moment kV_check_moment dc_check_moment pm_check_moment cd_check_moment ct_check_moment : Value}
    (a_check_moment : PySem.W.nsIn K mainGlobals "check_moment" = some (some (.ref f_check_moment))) (l_check_moment : K.lookup f_check_moment = some ⟨oc_check_moment, od_check_moment, .func (PySem.W.fnOf "check_moment" "check_moment" (defArgs s_check_moment) (defBody s_check_moment) (defScope s_check_moment) .none kV_check_moment dc_check_moment pm_check_moment an_check_moment cd_check_moment ct_check_moment), sl_check_moment⟩) (c_check_moment : PySem.W.codeIn K cd_check_moment "check_moment" = true) (k_check_moment : PySem.W.keepIn K (.ref f_check_moment) = true)
    {od_shortest_ring an_shortest_ring : Option Addr} {sl_shortest_ring : Array (Option Value)} {oc_shortest_ring kV_shortest_ring dc_shortest_ring pm_shortest_ring cd_shortest_ring ct_shortest_ring : Value}
    (a_shortest_ring : PySem.W.nsIn K mainGlobals "shortest_ring" = some (some (.ref f_shortest_ring))) (l_shortest_ring : K.lookup f_shortest_ring = some ⟨oc_shortest_ring, od_shortest_ring, .func (PySem.W.fnOf "shortest_ring" "shortest_ring" (defArgs s_shortest_ring) (defBody s_shortest_ring) (defScope s_shortest_ring) .none kV_shortest_ring dc_shortest_ring pm_shortest_ring an_shortest_ring cd_shortest_ring ct_shortest_ring), sl_shortest_ring⟩) (c_shortest_ring : PySem.W.codeIn K cd_shortest_ring "shortest_ring" = true) (k_shortest_ring : PySem.W.keepIn K (.ref f_shortest_ring) = true)
    {od_shared_end an_shared_end : Option Addr} {sl_shared_end : Array (Option Value)} {oc_shared_end kV_shared_end dc_shared_end pm_shared_end cd_shared_end ct_shared_end : Value}
    (a_shared_end : PySem.W.nsIn K mainGlobals "shared_end" = some (some (.ref f_shared_end))) (l_shared_end : K.lookup f_shared_end = some ⟨oc_shared_end, od_shared_end, .func (PySem.W.fnOf "shared_end" "shared_end" (defArgs s_shared_end) (defBody s_shared_end) (defScope s_shared_end) .none kV_shared_end dc_shared_end pm_shared_end an_shared_end cd_shared_end ct_shared_end), sl_shared_end⟩) (c_shared_end : PySem.W.codeIn K cd_shared_end "shared_end" = true) (k_shared_end : PySem.W.keepIn K (.ref f_shared_end) = true)
    {od_plain an_plain : Option Addr} {sl_plain : Array (Option Value)} {oc_plain kV_plain dc_plain pm_plain cd_plain ct_plain : Value}
    (a_plain : PySem.W.nsIn K mainGlobals "plain" = some (some (.ref f_plain))) (l_plain : K.lookup f_plain = some ⟨oc_plain, od_plain, .func (PySem.W.fnOf "plain" "plain" (defArgs s_plain) (defBody s_plain) (defScope s_plain) .none kV_plain dc_plain pm_plain an_plain cd_plain ct_plain), sl_plain⟩) (c_plain : PySem.W.codeIn K cd_plain "plain" = true) (k_plain : PySem.W.keepIn K (.ref f_plain) = true)
    {od_show_moment an_show_moment : Option Addr} {sl_show_moment : Array (Option Value)} {oc_show_moment kV_show_moment dc_show_moment pm_show_moment cd_show_moment ct_show_moment : Value}
    (a_show_moment : PySem.W.nsIn K mainGlobals "show_moment" = some (some (.ref f_show_moment))) (l_show_moment : K.lookup f_show_moment = some ⟨oc_show_moment, od_show_moment, .func (PySem.W.fnOf "show_moment" "show_moment" (defArgs s_show_moment) (defBody s_show_moment) (defScope s_show_moment) .none kV_show_moment dc_show_moment pm_show_moment an_show_moment cd_show_moment ct_show_moment), sl_show_moment⟩) (c_show_moment : PySem.W.codeIn K cd_show_moment "show_moment" = true) (k_show_moment : PySem.W.keepIn K (.ref f_show_moment) = true)
    {od_read_moment an_read_moment : Option Addr} {sl_read_moment : Array (Option Value)} {oc_read_moment kV_read_moment dc_read_moment pm_read_moment cd_read_moment ct_read_moment : Value}
    (a_read_moment : PySem.W.nsIn K mainGlobals "read_moment" = some (some (.ref f_read_moment))) (l_read_moment : K.lookup f_read_moment = some ⟨oc_read_moment, od_read_moment, .func (PySem.W.fnOf "read_moment" "read_moment" (defArgs s_read_moment) (defBody s_read_moment) (defScope s_read_moment) .none kV_read_moment dc_read_moment pm_read_moment an_read_moment cd_read_moment ct_read_moment), sl_read_moment⟩) (c_read_moment : PySem.W.codeIn K cd_read_moment "read_moment" = true) (k_read_moment : PySem.W.keepIn K (.ref f_read_moment) = true)
    {od__law_bag an__law_bag : Option Addr} {sl__law_bag : Array (Option Value)} {oc__law_bag kV__law_bag dc__law_bag pm__law_bag cd__law_bag ct__law_bag : Value}
    (a__law_bag : PySem.W.nsIn K mainGlobals "_law_bag" = some (some (.ref f__law_bag))) (l__law_bag : K.lookup f__law_bag = some ⟨oc__law_bag, od__law_bag, .func (PySem.W.fnOf "_law_bag" "_law_bag" (defArgs s__law_bag) (defBody s__law_bag) (defScope s__law_bag) .none kV__law_bag dc__law_bag pm__law_bag an__law_bag cd__law_bag ct__law_bag), sl__law_bag⟩) (c__law_bag : PySem.W.codeIn K cd__law_bag "_law_bag" = true) (k__law_bag : PySem.W.keepIn K (.ref f__law_bag) = true)
    {od__law_draw an__law_draw : Option Addr} {sl__law_draw : Array (Option Value)} {oc__law_draw kV__law_draw dc__law_draw pm__law_draw cd__law_draw ct__law_draw : Value}
    (a__law_draw : PySem.W.nsIn K mainGlobals "_law_draw" = some (some (.ref f__law_draw))) (l__law_draw : K.lookup f__law_draw = some ⟨oc__law_draw, od__law_draw, .func (PySem.W.fnOf "_law_draw" "_law_draw" (defArgs s__law_draw) (defBody s__law_draw) (defScope s__law_draw) .none kV__law_draw dc__law_draw pm__law_draw an__law_draw cd__law_draw ct__law_draw), sl__law_draw⟩) (c__law_draw : PySem.W.codeIn K cd__law_draw "_law_draw" = true) (k__law_draw : PySem.W.keepIn K (.ref f__law_draw) = true)
    {od__law_word an__law_word : Option Addr} {sl__law_word : Array (Option Value)} {oc__law_word kV__law_word dc__law_word pm__law_word cd__law_word ct__law_word : Value}
    (a__law_word : PySem.W.nsIn K mainGlobals "_law_word" = some (some (.ref f__law_word))) (l__law_word : K.lookup f__law_word = some ⟨oc__law_word, od__law_word, .func (PySem.W.fnOf "_law_word" "_law_word" (defArgs s__law_word) (defBody s__law_word) (defScope s__law_word) .none kV__law_word dc__law_word pm__law_word an__law_word cd__law_word ct__law_word), sl__law_word⟩) (c__law_word : PySem.W.codeIn K cd__law_word "_law_word" = true) (k__law_word : PySem.W.keepIn K (.ref f__law_word) = true)
    {od__law_shown an__law_shown : Option Addr} {sl__law_shown : Array (Option Value)} {oc__law_shown kV__law_shown dc__law_shown pm__law_shown cd__law_shown ct__law_shown : Value}
    (a__law_shown : PySem.W.nsIn K mainGlobals "_law_shown" = some (some (.ref f__law_shown))) (l__law_shown : K.lookup f__law_shown = some ⟨oc__law_shown, od__law_shown, .func (PySem.W.fnOf "_law_shown" "_law_shown" (defArgs s__law_shown) (defBody s__law_shown) (defScope s__law_shown) .none kV__law_shown dc__law_shown pm__law_shown an__law_shown cd__law_shown ct__law_shown), sl__law_shown⟩) (c__law_shown : PySem.W.codeIn K cd__law_shown "_law_shown" = true) (k__law_shown : PySem.W.keepIn K (.ref f__law_shown) = true)
    {od__law_written an__law_written : Option Addr} {sl__law_written : Array (Option Value)} {oc__law_written kV__law_written dc__law_written pm__law_written cd__law_written ct__law_written : Value}
    (a__law_written : PySem.W.nsIn K mainGlobals "_law_written" = some (some (.ref f__law_written))) (l__law_written : K.lookup f__law_written = some ⟨oc__law_written, od__law_written, .func (PySem.W.fnOf "_law_written" "_law_written" (defArgs s__law_written) (defBody s__law_written) (defScope s__law_written) .none kV__law_written dc__law_written pm__law_written an__law_written cd__law_written ct__law_written), sl__law_written⟩) (c__law_written : PySem.W.codeIn K cd__law_written "_law_written" = true) (k__law_written : PySem.W.keepIn K (.ref f__law_written) = true)
    {od__law_due an__law_due : Option Addr} {sl__law_due : Array (Option Value)} {oc__law_due kV__law_due dc__law_due pm__law_due cd__law_due ct__law_due : Value}
    (a__law_due : PySem.W.nsIn K mainGlobals "_law_due" = some (some (.ref f__law_due))) (l__law_due : K.lookup f__law_due = some ⟨oc__law_due, od__law_due, .func (PySem.W.fnOf "_law_due" "_law_due" (defArgs s__law_due) (defBody s__law_due) (defScope s__law_due) .none kV__law_due dc__law_due pm__law_due an__law_due cd__law_due ct__law_due), sl__law_due⟩) (c__law_due : PySem.W.codeIn K cd__law_due "_law_due" = true) (k__law_due : PySem.W.keepIn K (.ref f__law_due) = true)
    {od__law_changed an__law_changed : Option Addr} {sl__law_changed : Array (Option Value)} {oc__law_changed kV__law_changed dc__law_changed pm__law_changed cd__law_changed ct__law_changed : Value}
    (a__law_changed : PySem.W.nsIn K mainGlobals "_law_changed" = some (some (.ref f__law_changed))) (l__law_changed : K.lookup f__law_changed = some ⟨oc__law_changed, od__law_changed, .func (PySem.W.fnOf "_law_changed" "_law_changed" (defArgs s__law_changed) (defBody s__law_changed) (defScope s__law_changed) .none kV__law_changed dc__law_changed pm__law_changed an__law_changed cd__law_changed ct__law_changed), sl__law_changed⟩) (c__law_changed : PySem.W.codeIn K cd__law_changed "_law_changed" = true) (k__law_changed : PySem.W.keepIn K (.ref f__law_changed) = true)
    {od__law_told an__law_told : Option Addr} {sl__law_told : Array (Option Value)} {oc__law_told kV__law_told dc__law_told pm__law_told cd__law_told ct__law_told : Value}
    (a__law_told : PySem.W.nsIn K mainGlobals "_law_told" = some (some (.ref f__law_told))) (l__law_told : K.lookup f__law_told = some ⟨oc__law_told, od__law_told, .func (PySem.W.fnOf "_law_told" "_law_told" (defArgs s__law_told) (defBody s__law_told) (defScope s__law_told) .none kV__law_told dc__law_told pm__law_told an__law_told cd__law_told ct__law_told), sl__law_told⟩) (c__law_told : PySem.W.codeIn K cd__law_told "_law_told" = true) (k__law_told : PySem.W.keepIn K (.ref f__law_told) = true)
    {od__law_refused an__law_refused : Option Addr} {sl__law_refused : Array (Option Value)} {oc__law_refused kV__law_refused dc__law_refused pm__law_refused cd__law_refused ct__law_refused : Value}
    (a__law_refused : PySem.W.nsIn K mainGlobals "_law_refused" = some (some (.ref f__law_refused))) (l__law_refused : K.lookup f__law_refused = some ⟨oc__law_refused, od__law_refused, .func (PySem.W.fnOf "_law_refused" "_law_refused" (defArgs s__law_refused) (defBody s__law_refused) (defScope s__law_refused) .none kV__law_refused dc__law_refused pm__law_refused an__law_refused cd__law_refused ct__law_refused), sl__law_refused⟩) (c__law_refused : PySem.W.codeIn K cd__law_refused "_law_refused" = true) (k__law_refused : PySem.W.keepIn K (.ref f__law_refused) = true)
    {od_law an_law : Option Addr} {sl_law : Array (Option Value)} {oc_law kV_law dc_law pm_law cd_law ct_law : Value}
    (a_law : PySem.W.nsIn K mainGlobals "law" = some (some (.ref f_law))) (l_law : K.lookup f_law = some ⟨oc_law, od_law, .func (PySem.W.fnOf "law" "law" (defArgs s_law) (defBody s_law) (defScope s_law) .none kV_law dc_law pm_law an_law cd_law ct_law), sl_law⟩) (c_law : PySem.W.codeIn K cd_law "law" = true) (k_law : PySem.W.keepIn K (.ref f_law) = true)
    (z_len : PySem.W.nsIn K mainGlobals "len" = some none)
    (z_abs : PySem.W.nsIn K mainGlobals "abs" = some none)
    (z_max : PySem.W.nsIn K mainGlobals "max" = some none)
    (z_min : PySem.W.nsIn K mainGlobals "min" = some none)
    (z_range : PySem.W.nsIn K mainGlobals "range" = some none)
    (z_int : PySem.W.nsIn K mainGlobals "int" = some none)
    (z_list : PySem.W.nsIn K mainGlobals "list" = some none)
    (z_sorted : PySem.W.nsIn K mainGlobals "sorted" = some none)
    (z_isinstance : PySem.W.nsIn K mainGlobals "isinstance" = some none)
    : ∃ fd : FuncData, (∀ (s : Shared) (u : Value), BindsTo s fd ⟨[u], []⟩ [("script", u)]) ∧ ∀ base : Heap, K.In base → base.Ns mainGlobals mg → FnOk P w K mg base CX0 8 fa fd ["script"] (spLaw K) := by
  have e := hfa.symm.trans (PySem.W.mg_of X G a_law)
  cases e
  have B : Blt mg := ⟨PySem.W.mg_none_of X G z_len, PySem.W.mg_none_of X G z_abs, PySem.W.mg_none_of X G z_max, PySem.W.mg_none_of X G z_min, PySem.W.mg_none_of X G z_range, PySem.W.mg_none_of X G z_int, PySem.W.mg_none_of X G z_list, PySem.W.mg_none_of X G z_sorted⟩
  have ii := PySem.W.mg_none_of X G z_isinstance
  have T_sup : SupT P K mg f_I cda_I cc_I C_CutError := ⟨⟨_, _, _, _, _, l_I, rfl, rfl⟩, ⟨_, _, _, _, _, _, lc_I, v2_I, fl_I⟩, ⟨_, _, _, ce_I⟩, ⟨_, exc_clsIn ec_CutError⟩, PySem.W.mg_none_of X G z_super, tp_I, op_I⟩
  have T_CutError : ErrT K mg C_CutError f_I "CutError" C_CutError := ⟨PySem.W.mg_of X G eg_CutError, ⟨⟨⟨⟨_, _, _, _, _, _, _, _, _, _, _, _, _, _, _, ec_CutError, eb_CutError⟩, sa_CutError, ex_CutError, ty_CutError, kp_CutError⟩, sb_CutError, nx_CutError, ve_CutError, nv_CutError⟩, hd_CutError, hk_CutError, hg_CutError, ha_CutError, hm_CutError⟩, ic_CutError, ti_I⟩
  have T_InvalidMoment : ErrT K mg C_CutError f_I "InvalidMoment" C_InvalidMoment := ⟨PySem.W.mg_of X G eg_InvalidMoment, ⟨⟨⟨⟨_, _, _, _, _, _, _, _, _, _, _, _, _, _, _, ec_InvalidMoment, eb_InvalidMoment⟩, sa_InvalidMoment, ex_InvalidMoment, ty_InvalidMoment, kp_InvalidMoment⟩, sb_InvalidMoment, nx_InvalidMoment, ve_InvalidMoment, nv_InvalidMoment⟩, hd_InvalidMoment, hk_InvalidMoment, hg_InvalidMoment, ha_InvalidMoment, hm_InvalidMoment⟩, ic_InvalidMoment, ti_I⟩
  have T_Unreadable : ErrT K mg C_CutError f_I "Unreadable" C_Unreadable := ⟨PySem.W.mg_of X G eg_Unreadable, ⟨⟨⟨⟨_, _, _, _, _, _, _, _, _, _, _, _, _, _, _, ec_Unreadable, eb_Unreadable⟩, sa_Unreadable, ex_Unreadable, ty_Unreadable, kp_Unreadable⟩, sb_Unreadable, nx_Unreadable, ve_Unreadable, nv_Unreadable⟩, hd_Unreadable, hk_Unreadable, hg_Unreadable, ha_Unreadable, hm_Unreadable⟩, ic_Unreadable, ti_I⟩
  have CG : ClsG K := ⟨hn_I, ht_I⟩
  have F_is_word := fun_mk (st := s_is_word) l_is_word c_is_word k_is_word
  have b_is_word := F_is_word.binds (ps := ["text"]) fun _ _ _ _ _ _ us hl => match us, hl with | [_], _ => rfl
  have F_check_moment := fun_mk (st := s_check_moment) l_check_moment c_check_moment k_check_moment
  have b_check_moment := F_check_moment.binds (ps := ["moment"]) fun _ _ _ _ _ _ us hl => match us, hl with | [_], _ => rfl
  have F_shortest_ring := fun_mk (st := s_shortest_ring) l_shortest_ring c_shortest_ring k_shortest_ring
  have b_shortest_ring := F_shortest_ring.binds (ps := ["ring"]) fun _ _ _ _ _ _ us hl => match us, hl with | [_], _ => rfl
  have F_shared_end := fun_mk (st := s_shared_end) l_shared_end c_shared_end k_shared_end
  have b_shared_end := F_shared_end.binds (ps := ["head", "ring"]) fun _ _ _ _ _ _ us hl => match us, hl with | [_, _], _ => rfl
  have F_plain := fun_mk (st := s_plain) l_plain c_plain k_plain
  have b_plain := F_plain.binds (ps := ["moment"]) fun _ _ _ _ _ _ us hl => match us, hl with | [_], _ => rfl
  have F_show_moment := fun_mk (st := s_show_moment) l_show_moment c_show_moment k_show_moment
  have b_show_moment := F_show_moment.binds (ps := ["moment"]) fun _ _ _ _ _ _ us hl => match us, hl with | [_], _ => rfl
  have F_read_moment := fun_mk (st := s_read_moment) l_read_moment c_read_moment k_read_moment
  have b_read_moment := F_read_moment.binds (ps := ["text"]) fun _ _ _ _ _ _ us hl => match us, hl with | [_], _ => rfl
  have F__law_bag := fun_mk (st := s__law_bag) l__law_bag c__law_bag k__law_bag
  have b__law_bag := F__law_bag.binds (ps := ["script"]) fun _ _ _ _ _ _ us hl => match us, hl with | [_], _ => rfl
  have F__law_draw := fun_mk (st := s__law_draw) l__law_draw c__law_draw k__law_draw
  have b__law_draw := F__law_draw.binds (ps := ["bag", "many"]) fun _ _ _ _ _ _ us hl => match us, hl with | [_, _], _ => rfl
  have F__law_word := fun_mk (st := s__law_word) l__law_word c__law_word k__law_word
  have b__law_word := F__law_word.binds (ps := ["bag", "long"]) fun _ _ _ _ _ _ us hl => match us, hl with | [_, _], _ => rfl
  have F__law_shown := fun_mk (st := s__law_shown) l__law_shown c__law_shown k__law_shown
  have b__law_shown := F__law_shown.binds (ps := ["thing"]) fun _ _ _ _ _ _ us hl => match us, hl with | [_], _ => rfl
  have F__law_written := fun_mk (st := s__law_written) l__law_written c__law_written k__law_written
  have b__law_written := F__law_written.binds (ps := ["thing"]) fun _ _ _ _ _ _ us hl => match us, hl with | [_], _ => rfl
  have F__law_due := fun_mk (st := s__law_due) l__law_due c__law_due k__law_due
  have b__law_due := F__law_due.binds (ps := ["wording"]) fun _ _ _ _ _ _ us hl => match us, hl with | [_], _ => rfl
  have F__law_changed := fun_mk (st := s__law_changed) l__law_changed c__law_changed k__law_changed
  have b__law_changed := F__law_changed.binds (ps := ["bag", "wording"]) fun _ _ _ _ _ _ us hl => match us, hl with | [_, _], _ => rfl
  have F__law_told := fun_mk (st := s__law_told) l__law_told c__law_told k__law_told
  have b__law_told := F__law_told.binds (ps := ["wording"]) fun _ _ _ _ _ _ us hl => match us, hl with | [_], _ => rfl
  have F__law_refused := fun_mk (st := s__law_refused) l__law_refused c__law_refused k__law_refused
  have b__law_refused := F__law_refused.binds (ps := ["thing"]) fun _ _ _ _ _ _ us hl => match us, hl with | [_], _ => rfl
  have F_law := fun_mk (st := s_law) l_law c_law k_law
  refine ⟨PySem.W.fnOf "law" "law" (defArgs s_law) (defBody s_law) (defScope s_law) .none kV_law dc_law pm_law an_law cd_law ct_law, fun s u => .of_eq rfl, fun base _ _ => ?_⟩
  have h_I : HasI P w K mg base C_CutError f_I := ⟨_, .all (fun us hl => match us, hl with | [_, _], _ => rfl), ok_sup l_I c_I T_sup rfl, ok_supH l_I c_I T_sup rfl⟩
  have h_is_word : Has P w K mg base "is_word" 1 ["text"] (spIsWord) := ⟨_, _, PySem.W.mg_of X G a_is_word, k_is_word, b_is_word, ok_is_word F_is_word ⟩
  have h_check_moment : HasC (L2N.CX P w) P w K mg base "check_moment" 3 ["moment"] (spCheckN C_InvalidMoment) := ⟨_, _, PySem.W.mg_of X G a_check_moment, k_check_moment, b_check_moment, ok_check_momentN F_check_moment h_I T_InvalidMoment h_is_word⟩
  have h_shortest_ring : Has P w K mg base "shortest_ring" 1 ["ring"] (spShortest) := ⟨_, _, PySem.W.mg_of X G a_shortest_ring, k_shortest_ring, b_shortest_ring, ok_shortest_ring F_shortest_ring ⟩
  have h_shared_end : Has P w K mg base "shared_end" 1 ["head", "ring"] (spShared) := ⟨_, _, PySem.W.mg_of X G a_shared_end, k_shared_end, b_shared_end, ok_shared_end F_shared_end B⟩
  have h_plain : HasC (L2N.CX P w) P w K mg base "plain" 4 ["moment"] (spPlainN C_InvalidMoment) := ⟨_, _, PySem.W.mg_of X G a_plain, k_plain, b_plain, ok_plainN F_plain B h_check_moment h_shortest_ring h_shared_end⟩
  have h_show_moment : HasCK (L2N.CX P w) ["moment"] @oneG P w K mg base "show_moment" 5 ["moment"] (spShowN C_InvalidMoment) := ⟨_, _, PySem.W.mg_of X G a_show_moment, k_show_moment, b_show_moment, kb_one fun _ => rfl, ok_show_momentN F_show_moment h_plain⟩
  have h_read_moment : HasCK (L2.CX P w) ["text"] @oneG P w K mg base "read_moment" 6 ["text"] (spReadX C_Unreadable) := ⟨_, _, PySem.W.mg_of X G a_read_moment, k_read_moment, b_read_moment, kb_one fun _ => rfl, ok_read_momentX F_read_moment h_I T_InvalidMoment T_Unreadable qs_InvalidMoment_InvalidMoment h_plain (HasCK.c h_show_moment)⟩
  have h__law_bag : Has P w K mg base "_law_bag" 1 ["script"] (spBag K) := ⟨_, _, PySem.W.mg_of X G a__law_bag, k__law_bag, b__law_bag, ok__law_bag F__law_bag B⟩
  have h__law_draw : Has P w K mg base "_law_draw" 1 ["bag", "many"] (spBDraw) := ⟨_, _, PySem.W.mg_of X G a__law_draw, k__law_draw, b__law_draw, ok__law_draw F__law_draw B⟩
  have h__law_word : Has P w K mg base "_law_word" 2 ["bag", "long"] (spWordB) := ⟨_, _, PySem.W.mg_of X G a__law_word, k__law_word, b__law_word, ok__law_word F__law_word B h__law_draw⟩
  have h__law_shown : Has P w K mg base "_law_shown" 1 ["thing"] (spShownW) := ⟨_, _, PySem.W.mg_of X G a__law_shown, k__law_shown, b__law_shown, ok__law_shownW F__law_shown B⟩
  have h__law_written : Has P w K mg base "_law_written" 2 ["thing"] (spWritten) := ⟨_, _, PySem.W.mg_of X G a__law_written, k__law_written, b__law_written, ok__law_written F__law_written h__law_shown⟩
  have h__law_due : Has P w K mg base "_law_due" 3 ["wording"] (spDue) := ⟨_, _, PySem.W.mg_of X G a__law_due, k__law_due, b__law_due, ok__law_due F__law_due h__law_written⟩
  have h__law_changed : Has P w K mg base "_law_changed" 2 ["bag", "wording"] (spChanged) := ⟨_, _, PySem.W.mg_of X G a__law_changed, k__law_changed, b__law_changed, ok__law_changed F__law_changed B h__law_draw⟩
  have h__law_told : Has P w K mg base "_law_told" 7 ["wording"] (spTold) := ⟨_, _, PySem.W.mg_of X G a__law_told, k__law_told, b__law_told, ok__law_told F__law_told T_InvalidMoment T_Unreadable CG ii qs_Unreadable_Unreadable qo_Unreadable_InvalidMoment (HasCK.c h_read_moment)⟩
  have h__law_refused : Has P w K mg base "_law_refused" 6 ["thing"] (spRefused) := ⟨_, _, PySem.W.mg_of X G a__law_refused, k__law_refused, b__law_refused, ok__law_refused F__law_refused T_InvalidMoment T_Unreadable CG ii qs_InvalidMoment_InvalidMoment qo_InvalidMoment_Unreadable (HasCK.c h_show_moment)⟩
  exact ok_law F_law B h__law_bag h__law_draw h__law_word h__law_written h__law_shown h_show_moment h_read_moment h__law_changed h__law_told h__law_due h__law_refused
theorem walk_law {l : PySem.W.OpenLaw} {q : Program} {loose : List Str} {XP : (Str → Option Value) → Heap → Prop} {YP : World → Heap → Prop} {d : DefRec} {K : Params → PySem.W.Frag} (hn : l.most = some 63) (hdf : d.params.defaults = [])
    (hY : ∀ (w : World) (h : Heap), YP w h → (K w.params).In h)
    (F : ∀ (w : World) (mg : Str → Option Value) (fa : Addr) (h : Heap), (K w.params).In h → h.Ns mainGlobals mg → mg d.name = some (.ref fa) →
      ∃ fd : FuncData, (∀ (s : Shared) (u : Value), BindsTo s fd ⟨[u], []⟩ [("script", u)]) ∧ ∀ base : Heap, (K w.params).In base → base.Ns mainGlobals mg → FnOk l.prog w (K w.params) mg base CX0 8 fa fd ["script"] (spLaw (K w.params))) :
    PySem.W.WalkO q loose XP YP l.row.toRowW d [] (fun f vs => PySem.call f vs) :=
  L2.walk_of (n := 63) (k := 8) (x := "script") (CX := fun _ => CX0) (sp := fun w => spLaw (K w.params)) hn (by decide) hdf ⟨rfl, by decide, by decide⟩ hY F (fun _ _ a ns hl _ hS => ⟨a, ns, rfl, hS, hl, fun _ => rfl⟩) fun _ _ _ _ _ z => z
end
end HC
open PySem PySem.W PyProof.Rows in
set_option maxRecDepth 100000 in
set_option maxHeartbeats 0 in
theorem PySem.Challenge.cw_halfcuts_k54_moments_in_texts_holds : PySem.Challenge.rw_halfcuts_k54_moments_in_texts.Holds := by
  w_on; o_law; k_head; (case hw => w_witness2)
  k_fill
  refine HC.walk_law (l := PySem.Challenge.rw_halfcuts_k54_moments_in_texts) rfl rfl (fun w h Y => PySem.W.kIn_of Y) ?F
  case F =>
    intro w mg fa h KX G hmg
    refine' HC.all_mk KX G hmg ?eg_CutError ?ec_CutError ?eb_CutError ?eg_InvalidMoment ?ec_InvalidMoment ?eb_InvalidMoment ?eg_Unreadable ?ec_Unreadable ?eb_Unreadable ?ic_CutError ?l_I ?c_I ?lc_I ?v2_I ?fl_I ?tp_I ?ce_I ?z_super ?op_I ?ti_I ?hn_I ?ht_I ?sa_CutError ?ex_CutError ?ty_CutError ?kp_CutError ?sb_CutError ?nx_CutError ?ve_CutError ?nv_CutError ?hd_CutError ?hk_CutError ?hg_CutError ?ha_CutError ?hm_CutError ?sa_InvalidMoment ?ex_InvalidMoment ?ty_InvalidMoment ?kp_InvalidMoment ?sb_InvalidMoment ?nx_InvalidMoment ?ve_InvalidMoment ?nv_InvalidMoment ?hd_InvalidMoment ?hk_InvalidMoment ?hg_InvalidMoment ?ha_InvalidMoment ?hm_InvalidMoment ?ic_InvalidMoment ?sa_Unreadable ?ex_Unreadable ?ty_Unreadable ?kp_Unreadable ?sb_Unreadable ?nx_Unreadable ?ve_Unreadable ?nv_Unreadable ?hd_Unreadable ?hk_Unreadable ?hg_Unreadable ?ha_Unreadable ?hm_Unreadable ?ic_Unreadable ?qs_InvalidMoment_InvalidMoment ?qs_Unreadable_Unreadable ?qo_Unreadable_InvalidMoment ?qo_InvalidMoment_Unreadable ?a_is_word ?l_is_word ?c_is_word ?k_is_word ?a_check_moment ?l_check_moment ?c_check_moment ?k_check_moment ?a_shortest_ring ?l_shortest_ring ?c_shortest_ring ?k_shortest_ring ?a_shared_end ?l_shared_end ?c_shared_end ?k_shared_end ?a_plain ?l_plain ?c_plain ?k_plain ?a_show_moment ?l_show_moment ?c_show_moment ?k_show_moment ?a_read_moment ?l_read_moment ?c_read_moment ?k_read_moment ?a__law_bag ?l__law_bag ?c__law_bag ?k__law_bag ?a__law_draw ?l__law_draw ?c__law_draw ?k__law_draw ?a__law_word ?l__law_word ?c__law_word ?k__law_word ?a__law_shown ?l__law_shown ?c__law_shown ?k__law_shown ?a__law_written ?l__law_written ?c__law_written ?k__law_written ?a__law_due ?l__law_due ?c__law_due ?k__law_due ?a__law_changed ?l__law_changed ?c__law_changed ?k__law_changed ?a__law_told ?l__law_told ?c__law_told ?k__law_told ?a__law_refused ?l__law_refused ?c__law_refused ?k__law_refused ?a_law ?l_law ?c_law ?k_law ?z_len ?z_abs ?z_max ?z_min ?z_range ?z_int ?z_list ?z_sorted ?z_isinstance
    (case eg_CutError => k_is)
    (case ec_CutError => k_is)
    (case eb_CutError => first | rfl | decide +kernel)
    (case eg_InvalidMoment => k_is)
    (case ec_InvalidMoment => k_is)
    (case eb_InvalidMoment => first | rfl | decide +kernel)
    (case eg_Unreadable => k_is)
    (case ec_Unreadable => k_is)
    (case eb_Unreadable => first | rfl | decide +kernel)
    (case ic_CutError => k_is)
    (case l_I => k_is)
    (case c_I => k_is)
    (case lc_I => k_is)
    (case v2_I => rfl)
    (case fl_I => first | rfl | decide +kernel)
    (case tp_I => first | rfl | decide +kernel)
    (case ce_I => k_is)
    (case z_super => k_is)
    (case op_I => k_is)
    (case ti_I => k_is)
    (case hn_I => k_is)
    (case ht_I => k_is)
    (case sa_CutError => k_is)
    (case ex_CutError => k_is)
    (case ty_CutError => k_is)
    (case kp_CutError => k_is)
    (case sb_CutError => k_is)
    (case nx_CutError => ks_is)
    (case ve_CutError => k_is)
    (case nv_CutError => k_is)
    (case hd_CutError => k_is)
    (case hk_CutError => k_is)
    (case hg_CutError => k_is)
    (case ha_CutError => k_is)
    (case hm_CutError => k_is)
    (case sa_InvalidMoment => k_is)
    (case ex_InvalidMoment => k_is)
    (case ty_InvalidMoment => k_is)
    (case kp_InvalidMoment => k_is)
    (case sb_InvalidMoment => k_is)
    (case nx_InvalidMoment => ks_is)
    (case ve_InvalidMoment => k_is)
    (case nv_InvalidMoment => k_is)
    (case hd_InvalidMoment => k_is)
    (case hk_InvalidMoment => k_is)
    (case hg_InvalidMoment => k_is)
    (case ha_InvalidMoment => k_is)
    (case hm_InvalidMoment => k_is)
    (case ic_InvalidMoment => k_is)
    (case sa_Unreadable => k_is)
    (case ex_Unreadable => k_is)
    (case ty_Unreadable => k_is)
    (case kp_Unreadable => k_is)
    (case sb_Unreadable => k_is)
    (case nx_Unreadable => ks_is)
    (case ve_Unreadable => k_is)
    (case nv_Unreadable => k_is)
    (case hd_Unreadable => k_is)
    (case hk_Unreadable => k_is)
    (case hg_Unreadable => k_is)
    (case ha_Unreadable => k_is)
    (case hm_Unreadable => k_is)
    (case ic_Unreadable => k_is)
    (case qs_InvalidMoment_InvalidMoment => first | rfl | k_is)
    (case qs_Unreadable_Unreadable => first | rfl | k_is)
    (case qo_Unreadable_InvalidMoment => kit_is)
    (case qo_InvalidMoment_Unreadable => kit_is)
    (case a_is_word => k_is)
    (case l_is_word => k_is)
    (case c_is_word => k_is)
    (case k_is_word => k_is)
    (case a_check_moment => k_is)
    (case l_check_moment => k_is)
    (case c_check_moment => k_is)
    (case k_check_moment => k_is)
    (case a_shortest_ring => k_is)
    (case l_shortest_ring => k_is)
    (case c_shortest_ring => k_is)
    (case k_shortest_ring => k_is)
    (case a_shared_end => k_is)
    (case l_shared_end => k_is)
    (case c_shared_end => k_is)
    (case k_shared_end => k_is)
    (case a_plain => k_is)
    (case l_plain => k_is)
    (case c_plain => k_is)
    (case k_plain => k_is)
    (case a_show_moment => k_is)
    (case l_show_moment => k_is)
    (case c_show_moment => k_is)
    (case k_show_moment => k_is)
    (case a_read_moment => k_is)
    (case l_read_moment => k_is)
    (case c_read_moment => k_is)
    (case k_read_moment => k_is)
    (case a__law_bag => k_is)
    (case l__law_bag => k_is)
    (case c__law_bag => k_is)
    (case k__law_bag => k_is)
    (case a__law_draw => k_is)
    (case l__law_draw => k_is)
    (case c__law_draw => k_is)
    (case k__law_draw => k_is)
    (case a__law_word => k_is)
    (case l__law_word => k_is)
    (case c__law_word => k_is)
    (case k__law_word => k_is)
    (case a__law_shown => k_is)
    (case l__law_shown => k_is)
    (case c__law_shown => k_is)
    (case k__law_shown => k_is)
    (case a__law_written => k_is)
    (case l__law_written => k_is)
    (case c__law_written => k_is)
    (case k__law_written => k_is)
    (case a__law_due => k_is)
    (case l__law_due => k_is)
    (case c__law_due => k_is)
    (case k__law_due => k_is)
    (case a__law_changed => k_is)
    (case l__law_changed => k_is)
    (case c__law_changed => k_is)
    (case k__law_changed => k_is)
    (case a__law_told => k_is)
    (case l__law_told => k_is)
    (case c__law_told => k_is)
    (case k__law_told => k_is)
    (case a__law_refused => k_is)
    (case l__law_refused => k_is)
    (case c__law_refused => k_is)
    (case k__law_refused => k_is)
    (case a_law => k_is)
    (case l_law => k_is)
    (case c_law => k_is)
    (case k_law => k_is)
    (case z_len => k_is)
    (case z_abs => k_is)
    (case z_max => k_is)
    (case z_min => k_is)
    (case z_range => k_is)
    (case z_int => k_is)
    (case z_list => k_is)
    (case z_sorted => k_is)
    (case z_isinstance => k_is)
