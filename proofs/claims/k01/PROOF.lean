import PyProof.Rows.All
import Wide.All
import OpenK.AllK
import Wide.FinOn
import HandS.ForMost
import HandS.Wide
import HandS.StrMore
import PyProof.LongRange
import HandS.Star
import HandS.RaiseMore
import HandS.FStrTup
import HandS.FStr
import HandS.Nested
import HandS.ExcInit
import HandS.ExcSuper
import KE.KExcSuper
import KE.KSuper
import HandS.ClsMeth
import HandS.NestedHot
import HandS.ExcInitHot
import HandS.HeadWalk
import HandS.ExcField
import KE.KExcIs
import HandS.OwnEq
import HandS.Words
import HandS.ExcIs
import HandS.WordsExc
import HandS.SuiteRaise
import HandS.ExcValue
import HandS.Dict
import HandS.Walk
import PySem.Challenge.RW_halfcuts_k01_errors_made
set_option Elab.async false
set_option linter.all false
set_option maxRecDepth 100000
set_option maxHeartbeats 8000000
namespace HC
open PySem PySem.Spec PyProof.Rows L2
/-! ## texts as lists of codes -/
def T (l : List Nat) : Str := ⟨l.toArray⟩
theorem T_len (l : List Nat) : (T l).length = l.length := by
  show l.toArray.size = l.length
  simp
theorem T_list (l : List Nat) : (T l).cps.toList = l := by
  show l.toArray.toList = l
  simp
theorem T_inj {a b : List Nat} (h : T a = T b) : a = b := by
  have := congrArg (fun s : Str => s.cps.toList) h
  simpa [T_list] using this
theorem T_eq (a b : List Nat) : decide (V.str (T a) = V.str (T b)) = decide (a = b) := by
  by_cases h : a = b
  · subst h; simp
  · have h2 : ¬ V.str (T a) = V.str (T b) := fun q => h (T_inj (V.str.inj q))
    rw [decide_eq_false h, decide_eq_false h2]
theorem T_app (a b : List Nat) : T a ++ T b = T (a ++ b) := by
  show Str.append (T a) (T b) = T (a ++ b)
  unfold Str.append T
  simp
def rep (n : Nat) (a : List Nat) : List Nat := (List.replicate n a).flatten
theorem rep_zero (a : List Nat) : rep 0 a = [] := rfl
theorem rep_succ (n : Nat) (a : List Nat) : rep (n + 1) a = a ++ rep n a := by
  unfold rep
  rw [List.replicate_succ, List.flatten_cons]
theorem rep_nil (n : Nat) : rep n [] = [] := by
  induction n with
  | zero => rfl
  | succ n ih => rw [rep_succ, ih]; rfl
theorem rep_len (n : Nat) (a : List Nat) : (rep n a).length = n * a.length := by
  induction n with
  | zero => simp [rep_zero]
  | succ n ih => rw [rep_succ, List.length_append, ih, Nat.succ_mul, Nat.add_comm]
theorem foldl_T (n : Nat) (a : List Nat) : ∀ acc : Array Nat, (List.replicate n a.toArray).foldl (· ++ ·) acc = acc ++ (rep n a).toArray := by
  induction n with
  | zero => intro acc; simp [rep_zero]
  | succ n ih => intro acc; rw [List.replicate_succ, List.foldl_cons, ih, rep_succ]; simp
theorem mul_T (a : List Nat) (n : Nat) : Txt.mul (T a) (n : Int) = T (rep n a) := by
  unfold Txt.mul
  by_cases h1 : (n : Int) < 1
  · rw [if_pos h1]
    have : n = 0 := by omega
    subst this
    rfl
  · rw [if_neg h1]
    by_cases h2 : ((n : Int) == 1 || (T a).length == 0) = true
    · rw [if_pos h2]
      rw [Bool.or_eq_true] at h2
      rcases h2 with h2 | h2
      · have : n = 1 := by have := eq_of_beq h2; omega
        subst this
        rw [rep_succ, rep_zero, List.append_nil]
      · have h3 := eq_of_beq h2
        rw [T_len] at h3
        have : a = [] := List.eq_nil_of_length_eq_zero h3
        subst this
        rw [rep_nil]
    · rw [if_neg h2]
      show Str.mk ((List.replicate (n : Int).toNat a.toArray).foldl (· ++ ·) #[]) = T (rep n a)
      rw [Int.toNat_natCast, foldl_T]
      unfold T
      simp
theorem mulOk_T {a : List Nat} {n : Nat} (h : a.length * n ≤ 1000000) (hn : n < 1000000) : MulOk (T a) (n : Int) := by
  refine ⟨?_, ?_, ?_⟩
  · have h1 : ¬ ((n : Int) < -(2 ^ 63 : Int)) := by omega
    have h2 : ¬ ((n : Int) ≥ 2 ^ 63) := by omega
    rw [decide_eq_false h1, decide_eq_false h2]
    rfl
  · intro h1 h2 h3
    rw [T_len] at h3
    have hp : (0 : Int) < n := by omega
    have h4 : ((n : Int) * ((2 ^ 63 - 1) / (n : Int))) < (n : Int) * (a.length : Int) := Int.mul_lt_mul_of_pos_left h3 hp
    have h5 : (2 ^ 63 - 1 : Int) < (n : Int) * ((2 ^ 63 - 1) / (n : Int) + 1) := by
      have := Int.lt_mul_ediv_self_add (x := (2 ^ 63 - 1 : Int)) hp
      rw [Int.mul_add, Int.mul_one]
      omega
    have h6 : (n : Int) * ((2 ^ 63 - 1) / (n : Int) + 1) ≤ (n : Int) * (a.length : Int) := Int.mul_le_mul_of_nonneg_left (by omega) (by omega)
    have h7 : ((n : Int) * (a.length : Int)) ≤ 1000000 := by
      have : ((n * a.length : Nat) : Int) ≤ 1000000 := by rw [Nat.mul_comm]; omega
      simpa using this
    omega
  · intro _ _
    rw [T_len, Int.toNat_natCast]
    unfold Builtin.Str.tooLong
    have : sizeLine = 16777216 := by decide
    rw [this]
    exact decide_eq_false (by omega)
section
variable {X : Cx}
theorem opr_sub {f : Value → Value → Sem Value} {r r' : R2} (h : OpR X f r) (k : ∀ x y H Q, r' x y H Q → r x y H Q) : OpR X f r' := fun pins s σ H x y v u Q I rx ry q => h pins s σ H x y v u Q I rx ry (k _ _ _ _ q)
theorem mtr_sub {id : String} {r r' : V → List V → Hp → VK → Prop} (h : MtR X id r) (k : ∀ x y H Q, r' x y H Q → r x y H Q) : MtR X id r' := by
  intro pins s σ H x xs v us Q I rx rs
  first | (intro q; exact h pins s σ H x xs v us Q I rx rs (k _ _ _ _ q)) | (intro e q; exact h pins s σ H x xs v us Q I rx rs e (k _ _ _ _ q))
theorem slr_sub {r r' : V → Option Int → Option Int → Hp → VK → Prop} (h : SlR X r) (k : ∀ x y z H Q, r' x y z H Q → r x y z H Q) : SlR X r' := by
  intro pins s σ H x v vl vu lo hi sl Q I rx hs pl pu q
  exact h pins s σ H x v vl vu lo hi sl Q I rx hs pl pu (k _ _ _ _ _ q)
theorem ixr_sub {r r' : R2} (h : IxR X r) (k : ∀ x y H Q, r' x y H Q → r x y H Q) : IxR X r' := by
  intro value slice pins s σ H x y v u Q I rx ry q hs
  exact h value slice pins s σ H x y v u Q I rx ry (k _ _ _ _ q) hs
theorem pe_strT {x : Str} {j : Nat} {pos : Pos} (l : List Nat) (h : x = T l) : PE X (.Constant (.str x) j pos) (tC (.str (T l))) := by
  subst h
  exact pe_str
theorem op_addT : OpR X (binaryOp .Add) (fun x y H Q => ∃ a b, x = .str (T a) ∧ y = .str (T b) ∧ a.length + b.length ≤ sizeLine ∧ Q (.str (T (a ++ b))) H) :=
  opr_sub op_add_str fun x y H Q ⟨a, b, ha, hb, hl, q⟩ => ⟨_, _, ha, hb, by rw [T_len, T_len]; exact hl, by rw [T_app]; exact q⟩
theorem op_mulT : OpR X (binaryOp .Mult) (fun x y H Q => ∃ (a : List Nat) (n : Nat), x = .str (T a) ∧ y = .int (n : Int) ∧ a.length * n ≤ 1000000 ∧ n < 1000000 ∧ Q (.str (T (rep n a))) H) := by
  intro pins s σ H x y v u Q I rx ry h
  obtain ⟨a, n, rfl, rfl, hl, hn, q⟩ := h
  obtain ⟨t, rfl⟩ := rx
  obtain ⟨t', rfl⟩ := ry
  refine SB.mul (mulOk_T hl hn) fun t2 k => ?_
  rw [mul_T]
  exact ⟨.str _, H, I.tok _, ⟨_, rfl⟩, q⟩
theorem op_ltT' : OpR X (compareOp .Lt) (fun x y H Q => ∃ a b, x = .str (T a) ∧ y = .str (T b) ∧ Q (.bl (decide (a < b))) H) :=
  opr_sub op_lt_str fun x y H Q ⟨a, b, ha, hb, q⟩ => ⟨_, _, ha, hb, by rw [T_list, T_list]; exact q⟩
theorem op_eqT : OpR X (compareOp .Eq) (fun x y H Q => ∃ a b, x = .str (T a) ∧ y = .str (T b) ∧ Q (.bl (decide (a = b))) H) :=
  opr_sub op_eq fun x y H Q ⟨a, b, ha, hb, q⟩ => by
    subst ha hb
    exact ⟨rfl, by rw [T_eq]; exact q⟩
theorem op_neT : OpR X (compareOp .NotEq) (fun x y H Q => ∃ a b, x = .str (T a) ∧ y = .str (T b) ∧ Q (.bl (!decide (a = b))) H) :=
  opr_sub op_ne fun x y H Q ⟨a, b, ha, hb, q⟩ => by
    subst ha hb
    exact ⟨rfl, by rw [T_eq]; exact q⟩
def CPowX (i j : Int) : Prop := 0 ≤ j ∧ ∃ k : Nat, i.natAbs < 2 ^ k ∧ (k : Int) * j ≤ 2 ^ 27
theorem op_powX : OpR X (binaryOp .Pow) (rI CPowX fun i j => .int (i ^ j.toNat)) := opI fun i j _ _ _ _ _ hc q => by
  obtain ⟨h0, k, hk, hb⟩ := hc
  refine pow_int h0 ?_ q
  have h1 := intBits_le hk
  exact Int.le_trans (Int.mul_le_mul_of_nonneg_right (by omega) h0) hb
/-! slices of texts -/
def cutL (z : List Nat) (lo hi : Option Int) : List Nat := (z.drop (HT.sIx z.length 0 lo)).take (HT.sIx z.length z.length hi - HT.sIx z.length 0 lo)
theorem cut_T (z : List Nat) (lo hi : Option Int) : cutS (T z) lo hi = T (cutL z lo hi) := by
  unfold cutS
  rw [T_list, T_len]
  rfl
theorem sl_T : SlR X (fun x lo hi H Q => ∃ z, x = .str (T z) ∧ z.length ≤ sizeLine ∧ Q (.str (T (cutL z lo hi))) H) :=
  slr_sub sl_str fun x lo hi H Q ⟨z, hz, hl, q⟩ => ⟨_, hz, by rw [T_len]; exact hl, by rw [cut_T]; exact q⟩
theorem cut_hi (z : List Nat) (k : Nat) : cutL z none (some (k : Int)) = z.take k := by
  unfold cutL
  rw [HT.sIx_none, HT.sIx_nat, List.drop_zero, Nat.sub_zero]
  by_cases h : k ≤ z.length
  · rw [Nat.min_eq_left h]
  · rw [Nat.min_eq_right (by omega), List.take_length, List.take_of_length_le (by omega)]
theorem cut_lo (z : List Nat) (k : Nat) : cutL z (some (k : Int)) none = z.drop k := by
  unfold cutL
  rw [HT.sIx_none, HT.sIx_nat]
  by_cases h : k ≤ z.length
  · rw [Nat.min_eq_left h, List.take_of_length_le (by rw [List.length_drop]; omega)]
  · rw [Nat.min_eq_right (by omega), List.drop_length, List.drop_of_length_le (by omega)]
    simp
theorem cut_both (z : List Nat) (i j : Nat) : cutL z (some (i : Int)) (some (j : Int)) = (z.drop i).take (j - i) := by
  unfold cutL
  rw [HT.sIx_nat, HT.sIx_nat]
  by_cases h : i ≤ z.length
  · rw [Nat.min_eq_left h]
    by_cases h2 : j ≤ z.length
    · rw [Nat.min_eq_left h2]
    · rw [Nat.min_eq_right (a := j) (by omega), List.take_of_length_le (by rw [List.length_drop]; omega), List.take_of_length_le (by rw [List.length_drop]; omega)]
  · rw [Nat.min_eq_right (a := i) (by omega), List.drop_length, List.drop_of_length_le (by omega)]
    simp
theorem cut_last (z : List Nat) : cutL z none (some (-1)) = z.dropLast := by
  unfold cutL
  rw [HT.sIx_none, List.drop_zero, Nat.sub_zero, List.dropLast_eq_take]
  congr 1
  unfold HT.sIx
  split
  · rename_i h; cases h
  · rename_i v h
    cases h
    first | rfl | (split <;> omega) | omega
theorem ix_T : IxR X (fun x y H Q => ∃ z i c, x = .str (T z) ∧ y = .int i ∧ z.length ≤ sizeLine ∧ atI z i = some c ∧ Q (.str (T [c])) H) :=
  ixr_sub ix_str fun x y H Q ⟨z, i, c, hx, hy, hl, ha, q⟩ => ⟨_, i, c, hx, hy, by rw [T_len]; exact hl, by rw [T_list]; exact ha, q⟩
/-! joining with nothing between -/
theorem join_nil : ∀ ys : List (List Nat), Txt.join (T []) (ys.map T) = T ys.flatten := by
  intro ys
  show Builtin.Str.glued (T []) (ys.map T) = _
  rw [StrLaws.glued_eq_join]
  induction ys with
  | nil => rfl
  | cons a r ih =>
    cases r with
    | nil => show T a = T _; rw [List.flatten_cons]; simp
    | cons b r =>
      show T a ++ T [] ++ Str.join (T []) ((b :: r).map T) = _
      rw [ih, T_app, T_app, List.append_nil, ← List.flatten_cons]
theorem sum_T (ys : List (List Nat)) : ((ys.map T).map (·.length)).sum = ys.flatten.length := by
  induction ys with
  | nil => rfl
  | cons a r ih => simp only [List.map_cons, List.sum_cons, List.flatten_cons, List.length_append, T_len] at ih ⊢; omega
theorem mt_joinT : MtR X "str.join" (fun x xs H Q => ∃ p, ∃ ys : List (List Nat), x = .str (T []) ∧ xs = [.ref p] ∧ SqL X.K H p (ys.map fun y => V.str (T y)) ∧ ys.flatten.length ≤ 1000000 ∧ Q (.str (T ys.flatten)) H) :=
  mtr_sub mt_join fun x xs H Q ⟨p, ys, hx, hxs, hs, hl, q⟩ => by
    refine ⟨_, p, ys.map T, hx, hxs, .inl (by rw [List.map_map]; exact hs), ?_, by rw [join_nil]; exact q⟩
    rw [sum_T, T_len]
    show _ + _ * 0 ≤ _
    omega
/-! places of texts -/
/-- y stands in x at i -/
def At (x y : List Nat) (i : Nat) : Prop := (x.drop i).take y.length = y ∧ i + y.length ≤ x.length
theorem subAt_T (x y : List Nat) (i : Nat) : Builtin.Str.subAt (T x) (T y) i = true ↔ (x.drop i).take y.length = y := by
  unfold Builtin.Str.subAt
  rw [T_len]
  constructor
  · intro h
    have h2 := congrArg Array.toList (eq_of_beq h)
    rw [Array.toList_extract] at h2
    have e1 : (T x).cps.toList = x := T_list x
    have e2 : (T y).cps.toList = y := T_list y
    rw [e1, e2] at h2
    rw [List.extract_eq_take_drop] at h2
    rw [show i + y.length - i = y.length by omega] at h2
    exact h2
  · intro h
    refine beq_iff_eq.mpr ?_
    apply Array.ext'
    rw [Array.toList_extract]
    have e1 : (T x).cps.toList = x := T_list x
    have e2 : (T y).cps.toList = y := T_list y
    rw [e1, e2, List.extract_eq_take_drop]
    rw [show i + y.length - i = y.length by omega]
    exact h
theorem at_T (x y : List Nat) (i : Nat) : StrLaws.At (T x) (T y) (T x).length i ↔ At x y i := by
  unfold StrLaws.At At
  rw [subAt_T, T_len, T_len]
  exact And.comm
theorem op_inT : OpR X (compareOp .In) (fun x y H Q => ∃ a b, x = .str (T a) ∧ y = .str (T b) ∧ (∀ k, (k = true ↔ ∃ i, At b a i) → Q (.bl k) H)) :=
  opr_sub op_in_str fun x y H Q ⟨a, b, ha, hb, q⟩ => ⟨_, _, ha, hb, q _ (by
    rw [StrLaws.found_iff]
    constructor
    · rintro ⟨i, h1, h2⟩; exact ⟨i, (at_T b a i).mp ⟨h1, h2⟩⟩
    · rintro ⟨i, h⟩; have := (at_T b a i).mpr h; exact ⟨i, this.1, this.2⟩)⟩
/-- x.find(y, lo) where y stands at lo or behind -/
theorem mt_findT : MtR X "str.find" (fun x xs H Q => ∃ (a b : List Nat) (lo i : Nat), x = .str (T a) ∧ xs = [.str (T b), .int (lo : Int)] ∧ lo ≤ i ∧ At a b i ∧ (∀ k, lo ≤ k → k < i → ¬ At a b k) ∧ Q (.int (i : Int)) H) :=
  mtr_sub mt_find3 fun x xs H Q ⟨a, b, lo, i, hx, hxs, h1, h2, h3, q⟩ => by
    refine ⟨_, _, _, hx, hxs, ?_⟩
    have e : Txt.find3 (T a) (T b) (lo : Int) = (i : Int) := by
      unfold Txt.find3
      have e0 : fromIndex (T a).length (lo : Int) = lo := by unfold fromIndex; split <;> omega
      rw [e0]
      rcases StrLaws.occ_head_from (T a) (T b) lo 1 (Nat.le_refl _) with ⟨_, hn⟩ | ⟨j, r, e1, e2, e3, e4⟩
      · exact absurd ((at_T a b i).mpr h2) (hn i h1)
      · rw [e1]
        have e5 := (at_T a b j).mp e3
        have : j = i := by
          rcases Nat.lt_trichotomy j i with h | h | h
          · exact absurd e5 (h3 j e2 h)
          · exact h
          · exact absurd ((at_T a b i).mpr h2) (e4 i h1 h)
        rw [this]
    rw [e]
    exact q
def Bin (l : List Nat) : Prop := ∀ c ∈ l, c = 48 ∨ c = 49
theorem strip_T {a : List Nat} (h : Bin a) : Txt.stripChars (T a) (T [48, 49]) = T [] := by
  unfold Txt.stripChars Txt.stripBy
  have tw : ∀ l : List Nat, Bin l → l.takeWhile (T [48, 49]).cps.contains = l := by
    intro l hl
    induction l with
    | nil => rfl
    | cons c r ih =>
      have hc : (T [48, 49]).cps.contains c = true := by
        rcases hl c List.mem_cons_self with rfl | rfl <;> decide +kernel
      rw [List.takeWhile_cons, if_pos hc, ih fun d hd => hl d (List.mem_cons_of_mem _ hd)]
  have lo : stripLo (T [48, 49]).cps.contains true (T a) = a.length := by
    unfold stripLo
    rw [if_pos rfl, T_list, tw a h]
  unfold stripSame stripped
  rw [lo]
  by_cases h0 : a = []
  · subst h0
    split <;> rfl
  · have h1 : (a.length == 0) = false := by
      rw [beq_eq_false_iff_ne]
      exact fun q => h0 (List.eq_nil_of_length_eq_zero q)
    rw [h1, Bool.false_and, if_neg Bool.false_ne_true]
    unfold stripHi
    rw [if_pos rfl, T_list, T_len, List.drop_length]
    unfold Builtin.Str.strSub T
    simp
theorem mt_stripT : MtR X "str.strip" (fun x xs H Q => ∃ a, x = .str (T a) ∧ xs = [.str (T [48, 49])] ∧ Bin a ∧ a.length ≤ sizeLine ∧ Q (.str (T [])) H) :=
  mtr_sub mt_stripChars fun x xs H Q ⟨a, hx, hxs, hb, hl, q⟩ => ⟨_, _, hx, hxs, by rw [T_len]; exact hl, by rw [strip_T hb]; exact q⟩
theorem call_lenT : CallR X (.builtin "len") (fun xs H Q => ∃ z, xs = [.str (T z)] ∧ z.length ≤ sizeLine ∧ Q (.int (z.length : Int)) H) := by
  intro pins s σ H xs us Q I rx h
  obtain ⟨z, e, hl, q⟩ := h
  exact call_len_str pins s σ H xs us Q I rx ⟨_, e, by rw [T_len]; exact hl, by rw [T_len]; exact q⟩
end
end HC

namespace HC
open PySem PySem.Spec PyProof.Rows L2
/-! ## calls by keywords alone -/
section
variable {X : Cx} {CX : CXT} {k : Nat} {f : Addr} {fd : FuncData} {ps ks : List Str} {sp : Sp} {E : XK} {x : Str} {p pos : Pos} {kws : List Keyword} {tk : TA} {g : List Value → List Value → List Value} {gV : List V → List V → List V}
theorem pe_callK0 (F : FnOk X.prog X.w X.K X.mg X.base CX k f fd ps sp) (hr : Room k X.A) (hg : Gl X x) (hm : X.mg x = some (.ref f)) (hk : PySem.W.keepIn X.K (.ref f) = true) (hb : KBinds X.K fd ps ks g gV) (hx : Passes CX X E)
    (hkw : PK X kws tk) (hall : (backToKw pos (keywordEach kws X.env)).all (·.1.isSome) = true := by rfl) (hks : (backToKw pos (keywordEach kws X.env)).filterMap (·.1) = ks := by rfl)
    (hdb : (x == ("__debug__" : Str)) = false := by decide)
    (hpl : ((backTo pos (starEach [] X.env)).any (·.1) || (backToKw pos (keywordEach kws X.env)).any (·.1.isNone)) = false := by rfl) :
    PE X (.Call (.Name x p) [] kws pos) (tCallK sp gV E tNil tk) := by
  refine ⟨fun pins s σ H Q I h => ?_⟩
  refine wpAny_Call_Name_kw (ld_glob I hg hm ?_ hdb)
  refine PySem.W.callWith_KW0 (h₀ := X.base) I.ok.mod.kin hk hall (thn (hkw.run pos pins s σ H _ I h) fun ws s2 ⟨zs, H2, I2, rz, q2⟩ => ⟨I2.kIn, ?_⟩) hpl
  rw [hks]
  exact run_fnk (us := []) (vs := []) F hr hb hx I2 .nil rz q2
end
/-- two keywords, the other way round -/
def swG {α : Type} (us ws : List α) : List α := match us, ws with
  | [], [a, b] => [b, a]
  | _, _ => []
theorem swRel {vs : List V} {us : List Value} {zs : List V} {ws : List Value} (r : Vals vs us) (q : Vals zs ws) : Vals (swG vs zs) (swG us ws) := by
  cases r with
  | cons => exact .nil
  | nil =>
    cases q with
    | nil => exact .nil
    | cons q1 q =>
      cases q with
      | nil => exact .nil
      | cons q2 q =>
        cases q with
        | nil => exact .cons q2 (.cons q1 .nil)
        | cons => exact .nil
theorem kb_swap {K : PySem.W.Frag} {fd : FuncData} {p q : Str} (h : ∀ a b : Value, bindArgs fd ⟨[], [(q, a), (p, b)]⟩ = pure [(p, b), (q, a)]) : KBinds K fd [p, q] [q, p] swG swG where
  to := fun s us ws _ hl => by
    match us, ws, hl with
    | [], [a, b], _ => exact .of_eq (h a b)
    | [], [], hl => simp [swG] at hl
    | [], [_], hl => simp [swG] at hl
    | [], _ :: _ :: _ :: _, hl => simp [swG] at hl
    | _ :: _, _, hl => simp [swG] at hl
  rel := swRel
/-! ## the built-ins' names are free -/
structure Blt (mg : Str → Option Value) : Prop where
  len : mg "len" = none
  abs : mg "abs" = none
  max : mg "max" = none
  min : mg "min" = none
  range : mg "range" = none
  int : mg "int" = none
  list : mg "list" = none
  sorted : mg "sorted" = none
/-! ## heaps: all but the pool stays -/
def SB (p : Addr) (H H' : Hp) : Prop := ∀ b o, H b = some o → b ≠ p → H' b = some o
theorem SB.refl {p : Addr} {H : Hp} : SB p H H := fun _ _ h _ => h
theorem SB.trans {p : Addr} {H H1 H2 : Hp} (a : SB p H H1) (b : SB p H1 H2) : SB p H H2 := fun c o h n => b c o (a c o h n) n
theorem SB.of {p : Addr} {H H' : Hp} (s : Same H H') : SB p H H' := fun c o h _ => s c o h
theorem SB.upd {p : Addr} {H : Hp} {o : HO} : SB p H (upd H p o) := fun c u h n => by rw [upd_ne n]; exact h
theorem Same.new {H : Hp} {q : Addr} {o : HO} (hq : H q = none) : Same H (upd H q o) := fun c u h => by rw [upd_ne (ne_of_none h hq)]; exact h
/-- the pool of numbers that a law draws from, n of them drawn at most -/
def PoolAt (H : Hp) (p : Addr) (n : Nat) : Prop := ∃ (a b : Int) (c : Nat), H p = some (.lst [.int a, .int b, .int (c : Int)]) ∧ 0 ≤ a ∧ 0 ≤ b ∧ b < 2 ^ 62 ∧ c ≤ n
theorem PoolAt.mono {H : Hp} {p : Addr} {n m : Nat} (h : PoolAt H p n) (k : n ≤ m) : PoolAt H p m := by
  obtain ⟨a, b, c, h1, h2, h3, h4, h5⟩ := h
  exact ⟨a, b, c, h1, h2, h3, h4, Nat.le_trans h5 k⟩
theorem PoolAt.same {H H' : Hp} {p : Addr} {n : Nat} (h : PoolAt H p n) (s : Same H H') : PoolAt H' p n := by
  obtain ⟨a, b, c, h1, h2, h3, h4, h5⟩ := h
  exact ⟨a, b, c, s _ _ h1, h2, h3, h4, h5⟩
theorem PoolAt.new {H : Hp} {p q : Addr} {n : Nat} {o : HO} (h : PoolAt H p n) (hq : H q = none) : PoolAt (L2.upd H q o) p n := h.same (Same.new hq)
theorem PoolAt.ne {H : Hp} {p q : Addr} {n : Nat} (h : PoolAt H p n) (hq : H q = none) : q ≠ p := by
  obtain ⟨a, b, c, h1, _⟩ := h
  exact (ne_of_none h1 hq).symm
/-- a moment as a tuple -/
def MomAt (H : Hp) (t : Addr) (h r : List Nat) : Prop := H t = some (.tup [.str (T h), .str (T r)])
theorem MomAt.sb {H H' : Hp} {t p : Addr} {h r : List Nat} {n : Nat} (m : MomAt H t h r) (P : PoolAt H p n) (s : SB p H H') : MomAt H' t h r := by
  obtain ⟨a, b, c, h1, _⟩ := P
  exact s _ _ m (ne_of m h1 (by intro z; cases z))
theorem MomAt.same {H H' : Hp} {t : Addr} {h r : List Nat} (m : MomAt H t h r) (s : Same H H') : MomAt H' t h r := s _ _ m
theorem MomAt.new {H : Hp} {t q : Addr} {h r : List Nat} {o : HO} (m : MomAt H t h r) (hq : H q = none) : MomAt (L2.upd H q o) t h r := m.same (Same.new hq)
theorem atI_of {α : Type} {xs : List α} {i : Nat} {x : α} (h : xs[i]? = some x) : atI xs (i : Int) = some x := atI_nat h
/-! ## data of texts -/
def Cod (l : List Nat) : Prop := ∀ c ∈ l, c < 1114112
theorem Bin.cod {l : List Nat} (h : Bin l) : Cod l := fun c hc => by rcases h c hc with e | e <;> omega
theorem strOk_T {l : List Nat} (h : Cod l) : PyData.strOk (T l) = true := by
  unfold PyData.strOk T
  simp only [List.all_toArray, List.all_eq_true, decide_eq_true_eq]
  exact h
/-! ## promises of what draws -/
def spPool (K : PySem.W.Frag) : Sp := fun vs H Q _ => ∃ (a : Addr) (ns : List Int) (i : Nat), vs = [.ref a, .int (i : Int)] ∧ SqL K H a (ns.map V.int) ∧ i ≤ 1000 ∧
  ∀ H' p, Same H H' → H p = none → PoolAt H' p 0 → Q (.ref p) H'
def spDraw : Sp := fun vs H Q _ => ∃ (p : Addr) (m n : Nat), vs = [.ref p, .int (m : Int)] ∧ PoolAt H p n ∧ n < 2 ^ 30 ∧ 0 < m ∧ m < 2 ^ 200 ∧
  ∀ H' (r : Nat), SB p H H' → PoolAt H' p (n + 1) → r < m → Q (.int (r : Int)) H'
end HC

namespace HC
open PySem PySem.Spec PyProof.Rows L2
/-! ## ranges of great numbers -/
theorem long_turn {P : Program} {w : World} {K : PySem.W.Frag} {tg : Expr} (j : Addr) (lo : Int) (n : Nat) :
    Turn P w K tg (Itr lo n) [j] j (fun m h => IsLongIter h j (lo + (m : Nat) * 1) ((n : Int) - (m : Nat)) 1) where
  mem := List.mem_singleton.mpr rfl
  obj := fun m h st b hb => by
    obtain rfl : b = j := List.mem_singleton.mp hb
    exact ⟨_, st, fun c z => by
      have z2 : Data.fields _ = Data.cell c := z
      cases z2⟩
  keep := fun m h h2 st kk => kk j (List.mem_singleton.mpr rfl) _ st
  item := by
    intro Y e1 e2 e3 cm m pn s0 τ G F J fp st go
    subst e1 e2 e3
    obtain ⟨f0, f1, f2, f3, f4, f5⟩ := fp j (List.mem_singleton.mpr rfl)
    refine (Walks.longrange (prog := Y.prog) (w := Y.w) (J.ok.hd cm) j lo 1 n).item m s0 _ _ go st fun v h2 tk hv st2 kk => ?_
    obtain ⟨t, rfl⟩ := hv
    have J2 : L2.Inv Y pn τ G { s0 with heap := h2, toks := tk } := J.turned (fun b o hb e => kk b o (fun q => hb (List.mem_singleton.mp q)) e) f0 f1 f3 f4 f5
    refine ⟨_, rfl, go_of (s := { s0 with heap := h2, toks := tk }) (n := "longrange_iterator") st2 rfl rfl (by decide) ⟨.int (lo + m), G, J2, ⟨t, ?_⟩, ⟨rfl, rfl⟩, st2, fun b hb => (fp b hb).1⟩⟩
    rw [Int.mul_one]
  done := by
    intro Y e1 e2 e3 cm m pn s0 τ G F J fp st go
    subst e1 e2 e3
    obtain ⟨f0, f1, f2, f3, f4, f5⟩ := fp j (List.mem_singleton.mpr rfl)
    have go2 : n ≤ m := go
    exact wpAny_pyNext_long_end (J.ok.hd cm) st (by omega) fun h2 eb => ⟨rfl, J.turned (t' := s0.toks) (fun b o hb e => eb b o hb e) f0 f1 f3 f4 f5⟩
  self := fun _ _ _ _ _ st q => wpAny_pyIter_longiter st q
section
variable {X : Cx} {tg : Expr}
/-- range(a, b), both of any size -/
def iRngL (ta : TA) : TI := fun σ H R => ta σ H fun vs H1 => ∃ i j : Int, vs = [.int i, .int j] ∧ R (Itr i (j - i).toNat) H1
theorem long_it {pn : List (Addr × Obj)} {σ : L2.St} {H : Hp} {s : Shared} {R : It → Hp → Prop} {E : Value → Shared → Prop} {lo hi : Int} {t u v : Tok} {tk : Nat} (I : L2.Inv X pn σ H s) (q : R (Itr lo (hi - lo).toNat) H) :
    wpAny (model X.prog X.w) X.A (pyIter (.ref s.heap.objs.size)) (PIE X pn σ tg R) E { s with heap := s.heap.push { cls := .type "range", data := .fields #[.int lo t, .int hi u, .int 1 v] }, toks := tk } := by
  have J1 : L2.Inv X pn σ H { s with heap := s.heap.push { cls := .type "range", data := .fields #[.int lo t, .int hi u, .int 1 v] }, toks := tk } := I.kept fun b o e => Heap.get?_push_of_some _ e
  have e1 : lo + ((0 : Nat) : Int) * 1 = lo := by simp
  have e2 : (((hi - lo).toNat : Nat) : Int) - ((0 : Nat) : Int) = Builtin.Range.rangeSize lo hi 1 := by rw [rangeSize_one]; split <;> omega
  by_cases c : Builtin.Range.small lo hi 1 = true
  · refine wpAny_pyIter_range (IsRange.new ..) c ?_
    refine ⟨_, [_], _, _, H, rfl, J1.kept (t' := tk) fun b o e => Heap.get?_push_of_some _ e, turn_range _ lo (hi - lo).toNat, ?_, fun b hb => ?_, q⟩
    · show IsRangeIter _ _ (lo + ((0 : Nat) : Int) * 1) ((((hi - lo).toNat : Nat) : Int) - ((0 : Nat) : Int)) 1
      rw [e1, e2]
      exact Heap.get?_push_size _ rfl
    · obtain rfl := List.mem_singleton.mp hb
      exact J1.fpOk (Nat.le_refl _) (J1.hok.fresh (Nat.le_refl _))
  · refine wpAny_pyIter_longrange (IsRange.new ..) (by simpa using c) ?_
    refine ⟨_, [_], _, _, H, rfl, J1.kept (t' := tk) fun b o e => Heap.get?_push_of_some _ e, long_turn _ lo (hi - lo).toNat, ?_, fun b hb => ?_, q⟩
    · show IsLongIter _ _ (lo + ((0 : Nat) : Int) * 1) ((((hi - lo).toNat : Nat) : Int) - ((0 : Nat) : Int)) 1
      rw [e1, e2]
      exact Heap.get?_push_size _ rfl
    · obtain rfl := List.mem_singleton.mp hb
      exact J1.fpOk (Nat.le_refl _) (J1.hok.fresh (Nat.le_refl _))
theorem pi_rangeL {a b : Expr} {ta : TA} {p pos : Pos} (hg : Gl X "range") (hm : X.mg "range" = none) (ha : PA X [a, b] ta) (g1 : starEach [a, b] X.env = [(false, eval a X.env), (false, eval b X.env)] := by rfl) (g2 : starEach [b] X.env = [(false, eval b X.env)] := by rfl) :
    PI X tg (.Call (.Name "range" p) [a, b] [] pos) (iRngL ta) := by
  refine ⟨fun pn s σ H R I h => ?_⟩
  refine Call_ (ld_blt I hg hm boot_range (PyProof.Rows.callWith_type1 (thn (ha.run pos pn s σ H _ I h) fun us s1 ⟨vs, H1, I1, r1, q1⟩ => ?_) (by rw [g1, g2]) (by rw [g2]; rfl)))
  obtain ⟨i, j, e, q⟩ := q1
  subst e
  cases r1 with | cons ra rb => cases rb with | cons rc rd =>
    cases rd
    obtain ⟨ta1, rfl⟩ := ra
    obtain ⟨tb1, rfl⟩ := rc
    exact call_range_2 (long_it I1 q)
end
end HC

namespace HC
open PySem PySem.Spec PyProof.Rows L2
/-! ## sequences -/
theorem tYes_if {σ : L2.St} {H : Hp} {A B : Hp → Prop} (h : A H) : tYes σ H fun b H3 => if b = true then A H3 else B H3 := by
  show if true = true then A H else B H
  rw [if_pos rfl]
  exact h
/-- the signs of a ring, for ever -/
def cyc (r : List Nat) (i : Nat) : Nat := r.getD (i % r.length) 0
def val (h r : List Nat) (i : Nat) : Nat := if i < h.length then h.getD i 0 else cyc r (i - h.length)
/-- the first signs of a moment -/
def sg (h r : List Nat) (n : Nat) : List Nat := (h ++ rep (n / r.length + 1) r).take n
def L (n : Nat) (f : Nat → Nat) : List Nat := (List.range n).map f
theorem L_len (n : Nat) (f : Nat → Nat) : (L n f).length = n := by unfold L; simp
theorem L_get {n : Nat} {f : Nat → Nat} {i : Nat} (h : i < n) : (L n f)[i]? = some (f i) := by
  unfold L
  rw [List.getElem?_map, List.getElem?_range h]
  rfl
theorem L_ext {n : Nat} {f : Nat → Nat} {l : List Nat} (h1 : l.length = n) (h2 : ∀ i, i < n → l[i]? = some (f i)) : l = L n f := by
  apply List.ext_getElem?
  intro i
  by_cases h : i < n
  · rw [h2 i h, L_get h]
  · rw [List.getElem?_eq_none (by omega), List.getElem?_eq_none (by rw [L_len]; omega)]
theorem L_eq {n : Nat} {f g : Nat → Nat} : L n f = L n g ↔ ∀ i, i < n → f i = g i := by
  constructor
  · intro h i hi
    have := L_get (f := f) hi
    rw [h, L_get hi] at this
    exact (Option.some.inj this).symm
  · intro h
    exact L_ext (L_len n f) fun i hi => by rw [L_get hi, h i hi]
theorem cyc_get {r : List Nat} (hr : 1 ≤ r.length) (i : Nat) : r[i % r.length]? = some (cyc r i) := by
  have : i % r.length < r.length := Nat.mod_lt _ hr
  unfold cyc
  rw [List.getD_eq_getElem?_getD, List.getElem?_eq_getElem this]
  rfl
theorem cyc_lt {r : List Nat} {i : Nat} (h : i < r.length) : r[i]? = some (cyc r i) := by
  have := cyc_get (r := r) (by omega) i
  rwa [Nat.mod_eq_of_lt h] at this
theorem cyc_add (r : List Nat) (i : Nat) : cyc r (i + r.length) = cyc r i := by
  unfold cyc
  rw [Nat.add_mod_right]
theorem cyc_mul (r : List Nat) (i k : Nat) : cyc r (i + k * r.length) = cyc r i := by
  unfold cyc
  rw [Nat.add_mul_mod_self_right]
theorem cyc_mod (r : List Nat) (i : Nat) : cyc r (i % r.length) = cyc r i := by
  unfold cyc
  rw [Nat.mod_mod]
theorem rep_get {r : List Nat} : ∀ {n i : Nat}, i < n * r.length → (rep n r)[i]? = some (cyc r i)
  | 0, i, h => by simp at h
  | n + 1, i, h => by
    rw [rep_succ]
    by_cases hi : i < r.length
    · rw [List.getElem?_append_left hi]
      exact cyc_lt hi
    · rw [List.getElem?_append_right (by omega)]
      rw [Nat.succ_mul] at h
      rw [rep_get (n := n) (i := i - r.length) (by omega)]
      have : i = (i - r.length) + r.length := by omega
      rw [this, cyc_add, Nat.add_sub_cancel]
theorem sg_eq {h r : List Nat} (hr : 1 ≤ r.length) (n : Nat) : sg h r n = L n (val h r) := by
  have h0 : n < (n / r.length + 1) * r.length := by
    have := Nat.lt_div_mul_add (a := n) (show 0 < r.length by omega)
    rw [Nat.succ_mul]; omega
  apply L_ext
  · unfold sg
    rw [List.length_take, List.length_append, rep_len]
    omega
  · intro i hi
    unfold sg val
    rw [List.getElem?_take_of_lt hi]
    by_cases h1 : i < h.length
    · rw [List.getElem?_append_left h1, if_pos h1, List.getD_eq_getElem?_getD, List.getElem?_eq_getElem h1]
      rfl
    · rw [List.getElem?_append_right (by omega), if_neg h1]
      exact rep_get (by omega)
/-- two sequences that repeat, alike for as long as both rings together -/
theorem wilf {f g : Nat → Nat} {a p q : Nat} (hp : 1 ≤ p) (hq : 1 ≤ q) (hf : ∀ i, a ≤ i → f (i + p) = f i) (hg : ∀ i, a ≤ i → g (i + q) = g i) (h : ∀ i, i < a + p + q → f i = g i) : ∀ i, f i = g i := by
  intro i
  induction i using Nat.strongRecOn with
  | _ i ih =>
    by_cases hi : i < a + p + q
    · exact h i hi
    · have e1 : f i = f (i - p) := by have := hf (i - p) (by omega); rwa [Nat.sub_add_cancel (by omega)] at this
      have e2 : g (i - p) = g (i - p - q) := by have := hg (i - p - q) (by omega); rwa [Nat.sub_add_cancel (by omega)] at this
      have e3 : f (i - q) = f (i - q - p) := by have := hf (i - q - p) (by omega); rwa [Nat.sub_add_cancel (by omega)] at this
      have e4 : g i = g (i - q) := by have := hg (i - q) (by omega); rwa [Nat.sub_add_cancel (by omega)] at this
      have e5 : i - p - q = i - q - p := by omega
      rw [e1, ih (i - p) (by omega), e2, e5, ← ih (i - q - p) (by omega), ← e3, ih (i - q) (by omega), e4]
theorem val_per (h r : List Nat) {a i : Nat} (ha : h.length ≤ a) (hi : a ≤ i) : val h r (i + r.length) = val h r i := by
  unfold val
  rw [if_neg (by omega), if_neg (by omega)]
  have : i + r.length - h.length = (i - h.length) + r.length := by omega
  rw [this, cyc_add]
/-- the order by the first place that differs -/
theorem L_lt : ∀ {n : Nat} {f g : Nat → Nat}, L n f < L n g ↔ ∃ i, i < n ∧ (∀ j, j < i → f j = g j) ∧ f i < g i
  | 0, f, g => by
    constructor
    · intro h
      exact absurd h (List.lt_irrefl _)
    · rintro ⟨i, h, _⟩
      omega
  | n + 1, f, g => by
    have e : ∀ k : Nat → Nat, L (n + 1) k = k 0 :: L n (fun i => k (i + 1)) := fun k => by
      unfold L
      rw [List.range_succ_eq_map, List.map_cons, List.map_map]
      rfl
    rw [e f, e g, List.cons_lt_cons_iff, L_lt (n := n)]
    constructor
    · rintro (h | ⟨h, i, h1, h2, h3⟩)
      · exact ⟨0, by omega, fun j hj => by omega, h⟩
      · refine ⟨i + 1, by omega, fun j hj => ?_, h3⟩
        cases j with
        | zero => exact h
        | succ j => exact h2 j (by omega)
    · rintro ⟨i, h1, h2, h3⟩
      cases i with
      | zero => exact .inl h3
      | succ i => exact .inr ⟨h2 0 (by omega), i, by omega, fun j hj => h2 (j + 1) (by omega), h3⟩
/-- the sequence is ahead of the other -/
def Bef (f g : Nat → Nat) : Prop := ∃ i, (∀ j, j < i → f j = g j) ∧ f i < g i
theorem bef_iff {h1 r1 h2 r2 : List Nat} {m : Nat} (k1 : 1 ≤ r1.length) (k2 : 1 ≤ r2.length) (hm : max h1.length h2.length + r1.length + r2.length ≤ m) : sg h1 r1 m < sg h2 r2 m ↔ Bef (val h1 r1) (val h2 r2) := by
  rw [sg_eq k1, sg_eq k2, L_lt]
  constructor
  · rintro ⟨i, _, h⟩
    exact ⟨i, h⟩
  · rintro ⟨i, h3, h4⟩
    by_cases hi : i < m
    · exact ⟨i, hi, h3, h4⟩
    · have := wilf (a := max h1.length h2.length) k1 k2 (fun i hi => val_per h1 r1 (Nat.le_max_left _ _) hi) (fun i hi => val_per h2 r2 (Nat.le_max_right _ _) hi) (fun j hj => h3 j (by omega)) i
      omega
/-! ## rings that are turned -/
def Tail (a b : List Nat) : Prop := ∃ s, ∀ i, cyc a i = cyc b (i + s)
theorem Tail.refl (a : List Nat) : Tail a a := ⟨0, fun _ => rfl⟩
theorem Tail.symm {a b : List Nat} (hb : 1 ≤ b.length) (h : Tail a b) : Tail b a := by
  obtain ⟨s, h⟩ := h
  refine ⟨s * (b.length - 1), fun i => ?_⟩
  rw [h]
  have : i + s * (b.length - 1) + s = i + s * b.length := by
    have : s * b.length = s * (b.length - 1) + s := by
      conv => lhs; rw [show b.length = (b.length - 1) + 1 by omega]
      rw [Nat.mul_succ]
    omega
  rw [this, cyc_mul]
def Inv (r : List Nat) (k : Nat) : Prop := ∀ i, cyc r (i + k) = cyc r i
theorem dbl_get {r : List Nat} {i : Nat} (h : i < r.length + r.length) : (r ++ r)[i]? = some (cyc r i) := by
  by_cases h1 : i < r.length
  · rw [List.getElem?_append_left h1, cyc_lt h1]
  · rw [List.getElem?_append_right (by omega), cyc_lt (by omega)]
    have : i = (i - r.length) + r.length := by omega
    rw [this, cyc_add, Nat.add_sub_cancel]
/-- b stands in a, written twice, at k -/
theorem at_cyc {a b : List Nat} {k : Nat} (hk : k + b.length ≤ a.length + a.length) : At (a ++ a) b k ↔ ∀ i, i < b.length → cyc a (i + k) = cyc b i := by
  unfold At
  constructor
  · rintro ⟨h, _⟩ i hi
    have e : (((a ++ a).drop k).take b.length)[i]? = b[i]? := by rw [h]
    rw [List.getElem?_take_of_lt hi, List.getElem?_drop, dbl_get (by omega), cyc_lt hi, Nat.add_comm k i] at e
    exact Option.some.inj e
  · intro h
    refine ⟨?_, by rw [List.length_append]; exact hk⟩
    apply List.ext_getElem?
    intro i
    by_cases hi : i < b.length
    · rw [List.getElem?_take_of_lt hi, List.getElem?_drop, dbl_get (by omega), cyc_lt hi, Nat.add_comm k i, h i hi]
    · rw [List.getElem?_eq_none (by rw [List.length_take]; omega), List.getElem?_eq_none (by omega)]
theorem at_inv {r : List Nat} {k : Nat} (hr : 1 ≤ r.length) (hk : k ≤ r.length) : At (r ++ r) r k ↔ Inv r k := by
  rw [at_cyc (by omega)]
  constructor
  · intro h i
    have := h (i % r.length) (Nat.mod_lt _ hr)
    rw [cyc_mod] at this
    rw [← this]
    conv => lhs; rw [← Nat.mod_add_div i r.length]
    rw [Nat.mul_comm, show i % r.length + i / r.length * r.length + k = i % r.length + k + i / r.length * r.length by omega, cyc_mul]
  · intro h i _
    exact h i
/-- the shortest ring's length -/
structure Per (r : List Nat) (k : Nat) : Prop where
  pos : 1 ≤ k
  le : k ≤ r.length
  inv : Inv r k
  least : ∀ j, 1 ≤ j → j < k → ¬ Inv r j
theorem per_exists {r : List Nat} (hr : 1 ≤ r.length) : ∃ k, Per r k := by
  have key : ∀ n, (∃ k, k ≤ n ∧ 1 ≤ k ∧ Inv r k) → ∃ k, k ≤ n ∧ 1 ≤ k ∧ Inv r k ∧ ∀ j, 1 ≤ j → j < k → ¬ Inv r j := by
    intro n
    induction n with
    | zero =>
      rintro ⟨k, h1, h2, _⟩
      omega
    | succ n ih =>
      rintro ⟨k, h1, h2, h3⟩
      by_cases c : ∃ k, k ≤ n ∧ 1 ≤ k ∧ Inv r k
      · obtain ⟨k, a1, a2⟩ := ih c
        exact ⟨k, by omega, a2⟩
      · have : k = n + 1 := Classical.byContradiction fun hn => c ⟨k, by omega, h2, h3⟩
        subst this
        exact ⟨n + 1, Nat.le_refl _, h2, h3, fun j j1 j2 hj => c ⟨j, by omega, j1, hj⟩⟩
  obtain ⟨k, h1, h2, h3, h4⟩ := key r.length ⟨r.length, Nat.le_refl _, hr, cyc_add r⟩
  exact ⟨k, h2, h1, h3, h4⟩
theorem inv_mul {r : List Nat} {k : Nat} (h : Inv r k) (m i : Nat) : cyc r (i + m * k) = cyc r i := by
  induction m with
  | zero => rw [Nat.zero_mul, Nat.add_zero]
  | succ m ih => rw [Nat.succ_mul, ← Nat.add_assoc, h, ih]
theorem inv_mod {r : List Nat} {k : Nat} (h : Inv r k) (i : Nat) : cyc r (i % k) = cyc r i := by
  conv => rhs; rw [← Nat.mod_add_div i k, Nat.mul_comm, inv_mul h]
theorem Per.len {r : List Nat} {k : Nat} (p : Per r k) : (r.take k).length = k := by rw [List.length_take]; have := p.le; omega
theorem Per.cyc {r : List Nat} {k : Nat} (p : Per r k) (i : Nat) : cyc (r.take k) i = cyc r i := by
  have hk : i % k < k := Nat.mod_lt _ p.pos
  have h1 := cyc_get (r := r.take k) (by rw [p.len]; exact p.pos) i
  rw [p.len, List.getElem?_take_of_lt hk, cyc_lt (by have := p.le; omega), inv_mod p.inv] at h1
  exact (Option.some.inj h1).symm
theorem inv_tail {a b : List Nat} {k : Nat} (t : Tail a b) (h : Inv b k) : Inv a k := by
  obtain ⟨s, t⟩ := t
  intro i
  rw [t, t, show i + k + s = i + s + k by omega, h]
theorem per_tail {a b : List Nat} {j k : Nat} (hb : 1 ≤ b.length) (t : Tail a b) (p : Per a j) (q : Per b k) : j = k := by
  rcases Nat.lt_trichotomy j k with h | h | h
  · exact absurd (inv_tail (t.symm hb) p.inv) (q.least j p.pos h)
  · exact h
  · exact absurd (inv_tail t q.inv) (p.least k q.pos h)
/-- what the program asks is that the tails are one -/
theorem tail_iff {a b : List Nat} {j k : Nat} (hb : 1 ≤ b.length) (p : Per a j) (q : Per b k) : ((a.take j).length = (b.take k).length ∧ ∃ i, At (a.take j ++ a.take j) (b.take k) i) ↔ Tail a b := by
  rw [p.len, q.len]
  constructor
  · rintro ⟨rfl, i, h⟩
    have hi : i + (b.take j).length ≤ (a.take j).length + (a.take j).length := by have := h.2; rwa [List.length_append] at this
    have h2 := (at_cyc hi).mp h
    have ha : 1 ≤ a.length := by have := p.le; have := p.pos; omega
    refine Tail.symm ha ⟨i, fun m => ?_⟩
    have h3 := h2 (m % j) (by rw [q.len]; exact Nat.mod_lt _ p.pos)
    rw [q.cyc, inv_mod q.inv, p.cyc] at h3
    rw [← h3]
    conv => rhs; rw [← Nat.mod_add_div m j, Nat.mul_comm, show m % j + m / j * j + i = m % j + i + m / j * j by omega, inv_mul p.inv]
  · intro t
    have e := per_tail hb t p q
    subst e
    refine ⟨rfl, ?_⟩
    obtain ⟨s, hs⟩ := t.symm hb
    refine ⟨s % j, (at_cyc ?_).mpr ?_⟩
    · rw [p.len, q.len]
      have := Nat.mod_lt s p.pos
      omega
    · intro i _
      rw [p.cyc, q.cyc, hs]
      conv => rhs; rw [← Nat.mod_add_div s j, Nat.mul_comm, ← Nat.add_assoc, inv_mul p.inv]
theorem rot_cyc {r : List Nat} {s : Nat} (hr : 1 ≤ r.length) (hs : s ≤ r.length) (i : Nat) : cyc (r.drop s ++ r.take s) i = cyc r (i + s) := by
  have hl : (r.drop s ++ r.take s).length = r.length := by rw [List.length_append, List.length_drop, List.length_take]; omega
  have h1 := cyc_get (r := r.drop s ++ r.take s) (by omega) i
  rw [hl] at h1
  have hm : i % r.length < r.length := Nat.mod_lt _ hr
  have key : ∀ m, m < r.length → (r.drop s ++ r.take s)[m]? = some (cyc r (m + s)) := by
    intro m hm
    by_cases c : m < r.length - s
    · rw [List.getElem?_append_left (by rw [List.length_drop]; exact c), List.getElem?_drop, Nat.add_comm s m, cyc_lt (by omega)]
    · rw [List.getElem?_append_right (by rw [List.length_drop]; omega), List.length_drop, List.getElem?_take_of_lt (by omega), cyc_lt (by omega)]
      have : m + s = (m - (r.length - s)) + r.length := by omega
      rw [this, cyc_add]
  rw [key _ hm] at h1
  have h2 := Option.some.inj h1
  rw [← h2]
  conv => rhs; rw [← Nat.mod_add_div i r.length, Nat.mul_comm, show i % r.length + i / r.length * r.length + s = i % r.length + s + i / r.length * r.length by omega, cyc_mul]
/-- what the law asks, too -/
theorem turn_iff {a b : List Nat} (ha : 1 ≤ a.length) (hb : 1 ≤ b.length) (h : a.length + b.length ≤ 150) : (∃ s, s < b.length ∧ sg [] a 150 = sg [] (b.drop s ++ b.take s) 150) ↔ Tail a b := by
  have hv : ∀ r : List Nat, val [] r = cyc r := fun r => by
    funext i
    unfold val
    rw [if_neg (by simp)]
    rfl
  constructor
  · rintro ⟨s, hs, e⟩
    have hl : (b.drop s ++ b.take s).length = b.length := by rw [List.length_append, List.length_drop, List.length_take]; omega
    rw [sg_eq ha, sg_eq (by omega), hv, hv, L_eq] at e
    refine ⟨s, wilf (a := 0) ha hb (fun i _ => cyc_add a i) (fun i _ => ?_) (fun i hi => ?_)⟩
    · rw [show i + b.length + s = i + s + b.length by omega, cyc_add]
    · rw [e i (by omega), rot_cyc hb (by omega)]
  · rintro ⟨s, hs⟩
    have hm : s % b.length < b.length := Nat.mod_lt _ hb
    have hl : (b.drop (s % b.length) ++ b.take (s % b.length)).length = b.length := by rw [List.length_append, List.length_drop, List.length_take]; omega
    refine ⟨s % b.length, hm, ?_⟩
    rw [sg_eq ha, sg_eq (by omega), hv, hv, L_eq]
    intro i _
    rw [hs, rot_cyc hb (by omega)]
    conv => lhs; rw [← Nat.mod_add_div s b.length, Nat.mul_comm, ← Nat.add_assoc, cyc_mul]
end HC

namespace HC
open PySem PySem.Spec PyProof.Rows L2
def top (i : Nat) : Stmt := PySem.Challenge.pw_halfcuts_k01_errors_made.main.body.getD i (.Pass ⟨0, 0, 0, 0⟩)
abbrev s__law_pool : Stmt := top 13
abbrev N__law_pool : List Str := ["script", "at", "given"]
theorem sc__law_pool : FnScope N__law_pool ["script", "at"] (defScope s__law_pool) := ⟨rfl, rfl, rfl, by decide +kernel, rfl, by decide +kernel, by decide +kernel⟩

abbrev s__law_draw : Stmt := top 14
abbrev N__law_draw : List Str := ["pool", "many", "drawn", "mixed"]
theorem sc__law_draw : FnScope N__law_draw ["pool", "many"] (defScope s__law_draw) := ⟨rfl, rfl, rfl, by decide +kernel, rfl, by decide +kernel, by decide +kernel⟩




theorem max0 (x : Int) : 0 ≤ if x > 0 then x else 0 := by split <;> omega
theorem mul1 {c : Int} (h : 0 ≤ c) (h2 : c < 2 ^ 31) : CMulW 15488561 (c + 1) := wide_mul (a := 40) (b := 40) (by decide) (by omega) (by decide) (by decide) (by decide)
theorem mul2 {c : Int} (h : 0 ≤ c) (h2 : c < 2 ^ 31) : CMulW 32454379 (c + 1) := wide_mul (a := 40) (b := 40) (by decide) (by omega) (by decide) (by decide) (by decide)
theorem pow1 {b c : Int} (h0 : 0 ≤ b) (h1 : b < 2 ^ 62) (h : 0 ≤ c) (h2 : c < 2 ^ 31) : CPowX (b + 15488561 * (c + 1)) 3 := ⟨by decide, 64, by omega, by decide⟩
theorem pow2 {x c : Int} (h : 0 ≤ c) (h2 : c < 2 ^ 31) : CPowX (x % 162259276829213363391578010288127 + 32454379 * (c + 1)) 5 := ⟨by decide, 110, by omega, by decide⟩
theorem div1 {x : Int} : CDivW x 1048576 := wide_div (b := 40) (by decide) (by decide) (by decide) (by decide)
theorem rem_nat {Q : VK} {x : Int} {m : Nat} {H : Hp} (hm : 0 < m) (h : ∀ r : Nat, r < m → Q (.int (r : Int)) H) : Q (.int (x % (m : Int))) H := by
  have mpos : (0 : Int) < (m : Int) := by omega
  have e : x % (m : Int) = (((x % (m : Int)).toNat : Nat) : Int) := (Int.toNat_of_nonneg (Int.emod_nonneg _ (by omega))).symm
  rw [e]
  have := Int.emod_lt_of_pos x mpos
  exact h _ (by omega)
section
variable {P : Program} {w : World} {K : PySem.W.Frag} {mg : Str → Option Value} {base : Heap}
/-- a def of the top, with its promise -/
def Has (P : Program) (w : World) (K : PySem.W.Frag) (mg : Str → Option Value) (base : Heap) (x : Str) (k : Nat) (ps : List Str) (sp : Sp) : Prop :=
  ∃ (f : Addr) (fd : FuncData), mg x = some (.ref f) ∧ PySem.W.keepIn K (.ref f) = true ∧ Binds K fd ps [] ∧ FnOk P w K mg base CX0 k f fd ps sp
theorem ok__law_pool {f : Addr} {fd : FuncData} (F : Fun K "_law_pool" "_law_pool" s__law_pool f fd) (B : Blt mg) : FnOk P w K mg base CX0 1 f fd ["script", "at"] (spPool K) := by
  have sc := sc__law_pool
  refine F.ok sc (fun vs H Q E h => ?_) (fun cdv A outer s H vs Q E hr h => ?_)
  · obtain ⟨a, ns, i, rfl, _⟩ := h
    rfl
  · obtain ⟨a, ns, i, rfl, hS, hi, k⟩ := h
    refine ⟨_, (pss_cons (ps_set (i := 2) sc.nd rfl (by first | exact Or.inl rfl | exact Or.inr rfl) pe_int)
    (pss_cons (ps_if (pt_cmpR op_lt (pv 1) (pe_callB call_len_seq (by rfl) B.len PySem.boot_len (pa_cons (pv 0) pa_nil)) (nomark _)) (pss_one (ps_set (i := 2) sc.nd rfl (by first | exact Or.inl rfl | exact Or.inr rfl) (pe_ix ix_list (pv 0) (pv 1) (fun _ _ => rfl)))) pss_nil)
    (pss_one (ps_ret (pe_lst (pa_cons (pe_callB (call_max2 rfl) (by rfl) B.max (by decide +kernel) (pa_cons pe_int (pa_cons (pe_op op_sub (pe_callB call_abs (by rfl) B.abs (by decide +kernel) (pa_cons (pv 2) pa_nil)) (pe_op op_powX pe_int pe_int)) pa_nil))) (pa_cons (pe_op op_add (pe_op op_mod (pv 2) pe_int) (pe_op op_mulW pe_int (pe_op op_add (pv 1) pe_int))) (pa_cons pe_int pa_nil)))))))), ?_⟩
    have tl1 : CPowX 10 18 := ⟨by decide, 4, by decide, by decide⟩
    have tl2 : CMulW 3367900447 ((i : Int) + 1) := wide_mul (a := 40) (b := 40) (by decide) (by omega) (by decide) (by decide) (by decide)
    refine ⟨_, rfl, _, rfl, a, _, rfl, .inl hS, _, _, rfl, rfl, _, rfl, ?_⟩
    refine ite2 (fun c1 => ?_) (fun c1 => ?_)
    · have c2 := of_decide_eq_true c1
      rw [List.length_map] at c2
      obtain ⟨z, hz⟩ : ∃ z, ns[i]? = some z := ⟨ns[i]'(by omega), List.getElem?_eq_getElem (by omega)⟩
      refine ⟨_, rfl, _, rfl, a, _, _, _, rfl, rfl, hS, atI_of (x := .int z) (by rw [List.getElem?_map, hz]; rfl), ?_⟩
      refine ⟨_, rfl, _, rfl, _, _, rfl, rfl, tl1, _, _, rfl, rfl, _, _, rfl, ?_⟩
      refine ⟨_, rfl, _, _, rfl, rfl, (by show (0 : Int) < 2305843009213693951; decide), _, rfl, _, _, rfl, rfl, _, _, rfl, rfl, tl2, _, _, rfl, rfl, ?_⟩
      refine ⟨(by show 3 ≤ sizeLine; decide), fun p hp => k _ p (Same.new hp) hp ⟨_, _, 0, upd_same, ?_, ?_, ?_, Nat.le_refl _⟩⟩
      · exact max0 _
      · omega
      · omega
    · refine ⟨_, rfl, _, rfl, _, _, rfl, rfl, tl1, _, _, rfl, rfl, _, _, rfl, ?_⟩
      refine ⟨_, rfl, _, _, rfl, rfl, (by show (0 : Int) < 2305843009213693951; decide), _, rfl, _, _, rfl, rfl, _, _, rfl, rfl, tl2, _, _, rfl, rfl, ?_⟩
      refine ⟨(by show 3 ≤ sizeLine; decide), fun p hp => k _ p (Same.new hp) hp ⟨_, _, 0, upd_same, ?_, ?_, ?_, Nat.le_refl _⟩⟩
      · exact max0 _
      · omega
      · omega
theorem ok__law_draw {f : Addr} {fd : FuncData} (F : Fun K "_law_draw" "_law_draw" s__law_draw f fd) (B : Blt mg) : FnOk P w K mg base CX0 1 f fd ["pool", "many"] spDraw := by
  have sc := sc__law_draw
  refine F.ok sc (fun vs H Q E h => ?_) (fun cdv A outer s H vs Q E hr h => ?_)
  · obtain ⟨p, m, n, rfl, _⟩ := h
    rfl
  · obtain ⟨p, m, n, rfl, ⟨a, b, c, hp, ha, hb, hb2, hc⟩, hn, hm, hm2, k⟩ := h
    refine ⟨_, (pss_cons (ps_if (pt_cmpR op_gt (pe_ix ix_list (pv 0) pe_int (fun _ _ => rfl)) pe_int (nomark _)) (pss_cons (ps_set (i := 2) sc.nd rfl (by first | exact Or.inl rfl | exact Or.inr rfl) (pe_op op_mod (pe_ix ix_list (pv 0) pe_int (fun _ _ => rfl)) (pv 1)))
    (pss_cons (ps_asg (pe_op op_fdivW (pe_ix ix_list (pv 0) pe_int (fun _ _ => rfl)) (pv 1)) (pg_sub (pv 0) pe_int set_list))
    (pss_one (ps_ret (pv 2))))) pss_nil)
    (pss_cons (ps_asg (pe_op op_add (pe_ix ix_list (pv 0) pe_int (fun _ _ => rfl)) pe_int) (pg_sub (pv 0) pe_int set_list))
    (pss_cons (ps_set (i := 3) sc.nd rfl (by first | exact Or.inl rfl | exact Or.inr rfl) (pe_op op_mod (pe_op op_powX (pe_op op_add (pe_ix ix_list (pv 0) pe_int (fun _ _ => rfl)) (pe_op op_mulW pe_int (pe_ix ix_list (pv 0) pe_int (fun _ _ => rfl)))) pe_int) pe_int))
    (pss_cons (ps_set (i := 3) sc.nd rfl (by first | exact Or.inl rfl | exact Or.inr rfl) (pe_op op_mod (pe_op op_powX (pe_op op_add (pv 3) (pe_op op_mulW pe_int (pe_ix ix_list (pv 0) pe_int (fun _ _ => rfl)))) pe_int) pe_int))
    (pss_one (ps_ret (pe_op op_mod (pe_op op_fdivW (pv 3) pe_int) (pv 1)))))))), ?_⟩
    have mpos : (0 : Int) < (m : Int) := by omega
    refine ⟨_, rfl, p, _, _, _, rfl, rfl, SqL.of hp, atI_of (i := 0) rfl, _, _, rfl, rfl, _, rfl, ?_⟩
    refine ite2 (fun c1 => ?_) (fun c1 => ?_)
    · refine ⟨_, rfl, p, _, _, _, rfl, rfl, SqL.of hp, atI_of (i := 0) rfl, _, rfl, _, _, rfl, rfl, mpos, ?_⟩
      refine ⟨_, rfl, p, _, _, _, rfl, rfl, SqL.of hp, atI_of (i := 0) rfl, _, rfl, _, _, rfl, rfl, ?_, ?_⟩
      · exact wide_div mpos (b := 200) (by omega) (by decide) (by decide)
      refine ⟨_, rfl, p, _, _, 0, rfl, rfl, hp, rfl, ?_⟩
      refine ⟨_, rfl, ?_⟩
      show Q (.int (a % (m : Int))) _
      have e : a % (m : Int) = (((a % (m : Int)).toNat : Nat) : Int) := (Int.toNat_of_nonneg (Int.emod_nonneg _ (by omega))).symm
      rw [e]
      refine k _ _ SB.upd ⟨a / (m : Int), b, c, upd_same, ?_, hb, hb2, by omega⟩ ?_
      · exact Int.ediv_nonneg ha (by omega)
      · have := Int.emod_lt_of_pos a mpos
        omega
    · refine ⟨_, rfl, p, _, _, _, rfl, rfl, SqL.of hp, atI_of (i := 2) rfl, _, _, rfl, rfl, _, rfl, p, _, _, 2, rfl, rfl, hp, rfl, ?_⟩
      refine ⟨_, rfl, p, _, _, _, rfl, rfl, SqL.of upd_same, atI_of (i := 1) rfl, _, rfl, p, _, _, _, rfl, rfl, SqL.of upd_same, atI_of (i := 2) rfl, _, _, rfl, rfl, mul1 (by omega) (by omega), _, _, rfl, rfl, _, _, rfl, rfl, pow1 hb hb2 (by omega) (by omega), _, _, rfl, rfl, (by show (0 : Int) < 162259276829213363391578010288127; decide), ?_⟩
      refine ⟨_, rfl, _, rfl, p, _, _, _, rfl, rfl, SqL.of upd_same, atI_of (i := 2) rfl, _, _, rfl, rfl, mul2 (by omega) (by omega), _, _, rfl, rfl, _, _, rfl, rfl, pow2 (by omega) (by omega), _, _, rfl, rfl, (by show (0 : Int) < 170141183460469231731687303715884105727; decide), ?_⟩
      refine ⟨_, rfl, _, _, rfl, rfl, div1, _, rfl, _, _, rfl, rfl, mpos, ?_⟩
      refine rem_nat (m := m) hm fun r hr => k _ r SB.upd ⟨a, b, c + 1, upd_same, ha, hb, hb2, by omega⟩ hr
end

/-- a word: bits, at most so many -/
def spWord : Sp := fun vs H Q _ => ∃ (p : Addr) (m n : Nat), vs = [.ref p, .int (m : Int)] ∧ PoolAt H p n ∧ n + 100 < 2 ^ 30 ∧ m ≤ 90 ∧
  ∀ H' (l : List Nat), SB p H H' → PoolAt H' p (n + 100) → Bin l → l.length ≤ m → Q (.str (T l)) H'
theorem Bin.nil : Bin [] := fun _ h => nomatch h
theorem Bin.app {a b : List Nat} (h : Bin a) (g : Bin b) : Bin (a ++ b) := fun c hc => by
  rcases List.mem_append.mp hc with q | q
  · exact h c q
  · exact g c q
theorem Bin.take {a : List Nat} (h : Bin a) (n : Nat) : Bin (a.take n) := fun c hc => h c (List.mem_of_mem_take hc)
theorem Bin.drop {a : List Nat} (h : Bin a) (n : Nat) : Bin (a.drop n) := fun c hc => h c (List.mem_of_mem_drop hc)
theorem Bin.rep {a : List Nat} (h : Bin a) (n : Nat) : Bin (rep n a) := by
  induction n with
  | zero => exact Bin.nil
  | succ n ih => rw [rep_succ]; exact h.app ih
theorem bits4 {r : Nat} (h : r < 4) : ∃ l : List Nat, ([V.str (T [48]), V.str (T [49]), V.str (T [48, 49]), V.str (T [49, 48])])[r]? = some (.str (T l)) ∧ Bin l ∧ 1 ≤ l.length ∧ l.length ≤ 2 := by
  have b0 : Bin [48] := fun c hc => by simp at hc; omega
  have b1 : Bin [49] := fun c hc => by simp at hc; omega
  match r, h with
  | 0, _ => exact ⟨[48], rfl, b0, by decide, by decide⟩
  | 1, _ => exact ⟨[49], rfl, b1, by decide, by decide⟩
  | 2, _ => exact ⟨[48, 49], rfl, b0.app b1, by decide, by decide⟩
  | 3, _ => exact ⟨[49, 48], rfl, b1.app b0, by decide, by decide⟩
theorem bit2 {r : Nat} (h : r < 2) : ∃ c : Nat, ([48, 49] : List Nat)[r]? = some c ∧ Bin [c] := by
  match r, h with
  | 0, _ => exact ⟨48, rfl, fun c hc => by simp at hc; omega⟩
  | 1, _ => exact ⟨49, rfl, fun c hc => by simp at hc; omega⟩
section
variable {P : Program} {w : World} {K : PySem.W.Frag} {mg : Str → Option Value} {base : Heap}
end

/-- a moment of a law: head, ring -/
def spMoment : Sp := fun vs H Q _ => ∃ (p : Addr) (n : Nat), vs = [.ref p] ∧ PoolAt H p n ∧ n + 300 < 2 ^ 30 ∧
  ∀ H' (t : Addr) (h r : List Nat), SB p H H' → PoolAt H' p (n + 300) → MomAt H' t h r → Bin h → Bin r → h.length ≤ 60 → 1 ≤ r.length → r.length ≤ 12 → Q (.ref t) H'
theorem pick3 {a b c r : Nat} (h : r < 3) : ∃ m : Nat, ([V.int (a : Int), V.int (b : Int), V.int (c : Int)])[r]? = some (.int (m : Int)) ∧ (m = a ∨ m = b ∨ m = c) := by
  match r, h with
  | 0, _ => exact ⟨a, rfl, .inl rfl⟩
  | 1, _ => exact ⟨b, rfl, .inr (.inl rfl)⟩
  | 2, _ => exact ⟨c, rfl, .inr (.inr rfl)⟩
section
variable {P : Program} {w : World} {K : PySem.W.Frag} {mg : Str → Option Value} {base : Heap}
end
def spSigns : Sp := fun vs H Q _ => ∃ (h r : List Nat) (n : Nat), vs = [.str (T h), .str (T r), .int (n : Int)] ∧ h.length ≤ 200 ∧ 1 ≤ r.length ∧ r.length ≤ 200 ∧ n ≤ 2000 ∧ Q (.str (T (sg h r n))) H
section
variable {P : Program} {w : World} {K : PySem.W.Frag} {mg : Str → Option Value} {base : Heap}
end
end HC

namespace HC
open PySem PySem.Spec PyProof.Rows L2
/-! ## defs that show containers as texts: none is being shown when they are called -/
/-- nothing is being shown -/
def Qt (A : Around) : Prop := A.guards = some []
/-- a promise that is kept wherever nothing is being shown -/
structure FnQ (P : Program) (w : World) (K : PySem.W.Frag) (mg : Str → Option Value) (base : Heap) (k : Nat) (f : Addr) (fd : FuncData) (ps : List Str) (sp : Sp) : Prop where
  len : ∀ vs H Q E, sp vs H Q E → vs.length = ps.length
  run : ∀ (A : Around), Qt A → ∀ (fr : List Env) (s : Shared) (H : Hp) (ar : Args) (us : List Value) (vs : List V) (Q : VK) (E : XK), Room k A → Env0 P w K mg base A fr s H →
    BindsTo s fd ar (ps.zip us) → Vals vs us → sp vs H Q E → codeAny (model P w) A (.call (.ref f) ar) (CR CX0 fr P w H s Q E) s
theorem FnQ.of {P : Program} {w : World} {K : PySem.W.Frag} {mg : Str → Option Value} {base : Heap} {k : Nat} {f : Addr} {fd : FuncData} {ps : List Str} {sp : Sp}
    (F : FnOk P w K mg base CX0 k f fd ps sp) : FnQ P w K mg base k f fd ps sp := ⟨F.len, fun A _ => F.run A⟩
section
variable {P : Program} {w : World} {K : PySem.W.Frag} {mg : Str → Option Value} {base : Heap}
/-- a def by its body -/
theorem fnQ {x qual : Str} {st : Stmt} {f : Addr} {fd : FuncData} {N ps : List Str} {k : Nat} {sp : Sp} (F : Fun K x qual st f fd) (S : FnScope N ps (defScope st)) (len : ∀ vs H Q E, sp vs H Q E → vs.length = ps.length)
    (hbody : ∀ (cdv : Value) (A : Around), Qt A → ∀ (fr : List Env) (s : Shared) (H : Hp) (vs : List V) (Q : VK) (E : XK),
      Room k (A.deeper (envOfC qual (defScope st) s.heap.objs.size f cdv)) → sp vs H Q E →
      ∃ t, PSs (cxOf CX0 P w K mg base N qual (defScope st) f cdv A fr s H E).nox (defBody st) t ∧ t { nx := fun _ H' => Q .non H', rt := Q } (start N vs) H) : FnQ P w K mg base (k + 1) f fd ps sp := by
  obtain ⟨oc, od, kV, doc, pm, an, cdv, ct, osl, rfl, lk, hcd⟩ := F.ex
  refine ⟨len, ?_⟩
  intro A qa fr s H ar us vs Q E room e0 bnd rel want
  have inK : K.In s.heap := fun b o e => (e0.bs b o (e0.mod.kin b o e)).1
  have many := len _ _ _ _ want
  obtain ⟨t, der, rd⟩ := hbody cdv A qa fr s H vs Q E (Room.deeper room _) want
  have kinds : ∀ y ∈ ps.zip us, (defScope st).names.lookup y.1 = some .local ∨ ((defScope st).names.lookup y.1 = some .cell ∧ ((cellsFrom (s.heap.objs.size + 1) (defScope st).names []).lookup y.1).isSome = true) := by
    rintro ⟨y, v⟩ hy
    cases S.par y (List.of_mem_zip hy).1 with
    | inl q => exact Or.inl q
    | inr q => exact Or.inr (And.intro q (PySem.W.cellsFrom_some _ _ _ (Or.inl q)))
  have nol : s.heap.NoLimit := Heap.NoLimit.keeps e0.mod.nolimit (fun b o e => (e0.bs b o e).1)
  refine codeAny_call_function (Room.depth room) (inK _ _ lk) rfl S.co S.gen rfl (PySem.W.codeRec_of inK hcd) (bnd _ _ _ _ ?_)
  refine wpAny_newFunctionEnv_cells S.kind kinds ?_
  rintro env rfl s1 into
  refine And.intro (nol.keeps into.toInCall.keep) (codeAny_func ?_)
  have J : L2.Inv (cxOf CX0 P w K mg base N qual (defScope st) f cdv A fr s H E) [] (start N vs) H s1 := inv_start S room.hd e0 many rel into
  have back : ∀ {τ : L2.St} {G : Hp} {v : V} {u : Value} {s' : Shared}, L2.Inv (cxOf CX0 P w K mg base N qual (defScope st) f cdv A fr s H E) [] τ G s' → RelV v u → Q v G → CE fr P w H s Q u s' := by
    intro τ G v u s' Z rv q
    exact Exists.intro v (Exists.intro G ⟨Z.os, Z.bare, Z.base, Z.hok, rv, q⟩)
  refine wpAny_mono (PSs.run (PSs.nox der) [] s1 (start N vs) H _ J rd) ?_ (fun _ _ z => z)
  intro flow s' fin
  cases flow with
  | ret u => exact (fun ⟨v, _, _, Z, rv, q⟩ => back Z rv q) fin
  | next => exact (fun ⟨_, _, Z, q⟩ => back (v := V.non) (u := Value.none) Z rfl q) fin
  | brk => exact (fun ⟨_, _, _, q⟩ => q.elim) fin
  | cont => exact (fun ⟨_, _, _, q⟩ => q.elim) fin
end
/-- a def of the top with such a promise -/
def HasQ (P : Program) (w : World) (K : PySem.W.Frag) (mg : Str → Option Value) (base : Heap) (x : Str) (k : Nat) (ps : List Str) (sp : Sp) : Prop :=
  ∃ (f : Addr) (fd : FuncData), mg x = some (.ref f) ∧ PySem.W.keepIn K (.ref f) = true ∧ Binds K fd ps [] ∧ FnQ P w K mg base k f fd ps sp
theorem qt_deeper {A : Around} {e : Env} (h : Qt A) : Qt (A.deeper e) := h
section
variable {X : Cx} {k : Nat} {f : Addr} {fd : FuncData} {ps : List Str} {sp : Sp} {x : Str} {p pos : Pos} {e : Expr} {es : List Expr} {t : TA}
/-- such a def is called -/
theorem pe_callQ (qa : Qt X.A) (F : FnQ X.prog X.w X.K X.mg X.base k f fd ps sp) (hr : Room k X.A) (hg : Gl X x) (hm : X.mg x = some (.ref f)) (hk : PySem.W.keepIn X.K (.ref f) = true) (hb : Binds X.K fd ps [])
    (ha : PA X (e :: es) t) (hdb : (x == ("__debug__" : Str)) = false := by decide) (he : starEach (e :: es) X.env = (false, eval e X.env) :: starEach es X.env := by rfl) (hpl : (backTo pos (starEach es X.env)).any (·.1) = false := by rfl) :
    PE X (.Call (.Name x p) (e :: es) [] pos) (tCall sp [] E0 t) := by
  constructor
  intro pins s σ H Q I h
  refine wpAny_Call_Name_kw (ld_glob I hg hm (PySem.W.callWith_K (h₀ := X.base) I.ok.mod.kin hk (thn (ha.run pos pins s σ H _ I h) ?_) he hpl) hdb)
  rintro us s1 ⟨vs, H1, I1, r, q⟩
  rw [List.append_nil] at q
  have hl : (us ++ []).length = ps.length := by
    rw [List.append_nil, ← Paired.length r]
    exact F.len _ _ _ _ q
  have bd := hb s1 us I1.kIn hl
  rw [List.append_nil] at bd
  refine And.intro I1.kIn (wpAny_call (codeAny_mono (F.run X.A qa X.stack s1 H1 ⟨us, []⟩ us vs Q E0 hr I1.env0 bd r q) ?_))
  intro res s2 fin
  match res, fin with
  | .ok (.ret u), fin => exact I1.after fin
  | .ok .next, fin => exact False.elim fin
  | .ok .brk, fin => exact False.elim fin
  | .ok .cont, fin => exact False.elim fin
  | .error _, fin => exact False.elim fin
end
end HC

namespace HC
open PySem PySem.Spec PyProof.Rows L2
/-! ## the law's def, called from the top -/
section
variable {P : Program} {w : World} {K : PySem.W.Frag} {mg mb : Str → Option Value} {a : Addr} {s : Shared} {vs : List Value} {ns : List Int}
/-- the heap as the call finds it: only the script may be tracked -/
structure Top (P : Program) (w : World) (K : PySem.W.Frag) (a : Addr) (ns : List Int) (s : Shared) (H : Hp) : Prop where
  only : Only H
  sq : SqL K H a (ns.map V.int)
  ok : HOk P w H s.heap
  at_ : ∀ b, H b ≠ none → b = a
  out : H a ≠ none → K.lookup a = none
theorem top_ex (KX : K.In s.heap) (ha : s.heap.get? a = some { cls := .type "list", data := .seq vs.toArray }) (hi : IntsAre vs ns) (hl : ns.length ≤ sizeLine) : ∃ H, Top P w K a ns s H := by
  have rv := vals_ints hi
  have hn := hi.length
  by_cases hk : ∃ o, K.lookup a = some o
  · obtain ⟨o, hk⟩ := hk
    have e : s.heap.get? a = some o := KX a o hk
    rw [ha] at e
    injection e with e
    subst e
    have hsz : vs.toArray.size ≤ sizeLine := by rw [List.size_toArray, hn]; exact hl
    refine ⟨fun _ => none, ⟨fun _ => Or.inl rfl, Or.inr ⟨_, vs.toArray, _, hk, rfl, rfl, rfl, hsz, by simpa using rv⟩, ?_, fun b q => absurd rfl q, fun q => absurd rfl q⟩⟩
    intro b u q
    exact nomatch (show (none : Option HO) = some u from q)
  · have hk2 : K.lookup a = none := by
      cases q : K.lookup a with
      | none => rfl
      | some o => exact absurd ⟨o, q⟩ hk
    let fr : HO := .frz { cls := .type "list", data := .seq vs.toArray } (.lst (ns.map V.int))
    have g1 : ∀ b u, (if b = a then some fr else none) = some u → b = a ∧ fr = u := by
      intro b u q
      by_cases c : b = a
      · rw [if_pos c] at q
        exact ⟨c, Option.some.inj q⟩
      · rw [if_neg c] at q
        exact nomatch q
    refine ⟨fun b => if b = a then some fr else none, ⟨fun b => ?_, Or.inl (Or.inr ⟨_, if_pos rfl⟩), fun b u q => ?_, fun b q => ?_, fun _ => hk2⟩⟩
    · by_cases c : b = a
      · exact Or.inr ⟨_, _, if_pos c⟩
      · exact Or.inl (if_neg c)
    · obtain ⟨rfl, rfl⟩ := g1 b u q
      exact ⟨ha, by rw [List.length_map]; exact hl, vs, _, rv, ha⟩
    · exact Decidable.byContradiction fun c => q (if_neg c)
theorem Top.env {H : Hp} (T : Top P w K a ns s H) (KX : K.In s.heap) (hns : s.heap.Ns mainGlobals mg) (hb : s.heap.Ns builtinsNs mb) (hbb : ∀ x : Str, x ≠ "__name__" → mb x = bootBuiltins x) (hlim : s.heap.NoLimit) (hg : s.gens = #[])
    (ha : s.heap.get? a = some { cls := .type "list", data := .seq vs.toArray }) : Env0 P w K mg (hidT s.heap H) callerA [] s H := by
  have keepD : ∀ {b : Addr} {o : Obj}, s.heap.get? b = some o → (∃ es ep, o.data = .dict es ep) → (hidT s.heap H).get? b = some o := by
    intro b o e hd
    refine hidT_get e ?_
    cases q : H b with
    | none => rfl
    | some u =>
      have := T.at_ b (by rw [q]; exact fun z => nomatch z)
      subst this
      rw [ha] at e
      injection e with e
      subst e
      obtain ⟨es, ep, hd⟩ := hd
      exact nomatch (show Data.seq vs.toArray _ = Data.dict es ep from hd)
  have mv : ∀ {b : Addr} {m : Str → Option Value}, s.heap.Ns b m → (hidT s.heap H).Ns b m := by
    rintro b m ⟨o, es, ep, e, d, r⟩
    exact ⟨o, es, ep, keepD e ⟨es, ep, d⟩, d, r⟩
  have inK : K.In (hidT s.heap H) := by
    intro b o e
    refine hidT_get (KX b o e) ?_
    cases q : H b with
    | none => rfl
    | some u =>
      have := T.at_ b (by rw [q]; exact fun z => nomatch z)
      subst this
      rw [T.out (by rw [q]; exact fun z => nomatch z)] at e
      exact nomatch e
  obtain ⟨mc, l1, l2⟩ := hlim
  exact { frames := rfl, mod := ⟨inK, mv hns, ⟨mb, mv hb, hbb⟩, ⟨mc, mv l1, l2⟩⟩, bs := fun b o e => of_hidT e, bsz := Nat.le_of_eq (hidT_size _ _), funs := trivial, frf := (fun b q => absurd (show b ∈ ([] : List Addr) from q) (List.not_mem_nil)), hok := T.ok, bare := AllBare.of_eq hg }
end
theorem law_callQ {P : Program} {w : World} {K : PySem.W.Frag} {mg mb : Str → Option Value} {k : Nat} {fa a : Addr} {fd : FuncData} {x : Str} {sp : Sp} {s : Shared} {vs : List Value} {ns : List Int}
    (KX : K.In s.heap) (hns : s.heap.Ns mainGlobals mg) (hb : s.heap.Ns builtinsNs mb) (hbb : ∀ x : Str, x ≠ "__name__" → mb x = bootBuiltins x) (hlim : s.heap.NoLimit) (hg : s.gens = #[])
    (ha : s.heap.get? a = some { cls := .type "list", data := .seq vs.toArray }) (hi : IntsAre vs ns) (hl : ns.length ≤ sizeLine) (hr : Room k callerA)
    (F : ∀ base : Heap, K.In base → base.Ns mainGlobals mg → FnQ P w K mg base k fa fd [x] sp) (bnd : ∀ (s : Shared) (u : Value), BindsTo s fd ⟨[u], []⟩ [(x, u)])
    (want : ∀ H : Hp, Only H → SqL K H a (ns.map V.int) → sp [.ref a] H (fun v _ => v = .bl true) fun _ _ _ => False) :
    codeAny (model P w) callerA (.call (.ref fa) ⟨[.ref a], []⟩) (fun r s' => r = .ok (.ret (.bool true)) ∧ OldK s.heap s'.heap ∧ s'.os = s.os ∧ AllBare s'.gens) s := by
  obtain ⟨H, T⟩ := top_ex (P := P) (w := w) KX ha hi hl
  have E := T.env (mg := mg) (mb := mb) KX hns hb hbb hlim hg ha
  have run := (F _ E.mod.kin E.mod.glob).run callerA rfl [] s H ⟨[.ref a], []⟩ [.ref a] [.ref a] _ _ hr E (bnd s (.ref a)) (.cons rfl .nil) (want H T.only T.sq)
  refine codeAny_mono run ?_
  intro res s' fin
  match res, fin with
  | .error _, fin => exact False.elim fin
  | .ok .next, fin => exact False.elim fin
  | .ok .brk, fin => exact False.elim fin
  | .ok .cont, fin => exact False.elim fin
  | .ok (.ret u), ⟨v, H', os, bare, un, ok2, rel, (q : v = .bl true)⟩ =>
    subst q
    have eu : u = Value.bool true := rel
    subst eu
    refine ⟨rfl, OldK.of_keep ?_, os, bare⟩
    intro b o e
    match hb : H b with
    | none => exact un.keep b o e hb (fun z => nomatch (show b ∈ ([] : List Addr) from z)) (fun z => nomatch z)
    | some u =>
      rcases T.only b with z | ⟨ob, xs, z⟩
      · exact nomatch hb.symm.trans z
      · have o1 := (T.ok b _ z).1
        have o2 := (ok2 b _ (un.frzs b ob _ z)).1
        rw [e] at o1
        injection o1 with o1
        rw [o1]
        exact o2
theorem walk_ofQ {l : PySem.W.OpenLaw} {n k : Nat} {q : Program} {loose : List Str} {XP : (Str → Option Value) → Heap → Prop} {YP : World → Heap → Prop} {d : DefRec} {K : Params → PySem.W.Frag} {sp : World → Sp} {x : Str}
    (most : l.most = some n) (small : n ≤ sizeLine) (nodef : d.params.defaults = []) (hr : Room k callerA) (hY : ∀ (w : World) (h : Heap), YP w h → (K w.params).In h)
    (F : ∀ (w : World) (mg : Str → Option Value) (fa : Addr) (h : Heap), (K w.params).In h → h.Ns mainGlobals mg → mg d.name = some (.ref fa) →
      ∃ fd : FuncData, (∀ (s : Shared) (u : Value), BindsTo s fd ⟨[u], []⟩ [(x, u)]) ∧ ∀ base : Heap, (K w.params).In base → base.Ns mainGlobals mg → FnQ l.prog w (K w.params) mg base k fa fd [x] (sp w))
    (want : ∀ (w : World) (H : Hp) (a : Addr) (ns : List Int), ns.length ≤ n → Only H → SqL (K w.params) H a (ns.map V.int) → sp w [.ref a] H (fun v _ => v = .bl true) fun _ _ _ => False) :
    PySem.W.WalkO q loose XP YP l.row.toRowW d [] (fun f vs => PySem.call f vs) := by
  apply Att.attach_call most nodef
  intro w s₀ s₁ mg mb fa o pm cd doc a vs ns G Y ho hd hcd hmg hobj hints hlen hg
  obtain ⟨fd, bnd, hF⟩ := F w mg fa _ (hY w _ Y) G.T.g hmg
  exact law_callQ (hY w _ Y) G.T.g G.T.b G.T.builtins G.T.nolimit hg hobj hints (Nat.le_trans hlen small) hr hF bnd (fun H h1 h2 => want w H a ns hlen h1 h2)
end HC

namespace HC
open PySem PySem.Spec PyProof.Rows L2
/-! ## {x!r} in an f-text: some text -/
inductive Shows (K : PySem.W.Frag) (H : Hp) : V → Prop
  | non : Shows K H .non
  | str (y : Str) (h : (reprText y).length ≤ sizeLine) : Shows K H (.str y)
  | int (i : Int) (h : i.natAbs.log2 < 1920) : Shows K H (.int i)
  | tup (a : Addr) (l : List Str) (h1 : SqT K H a (l.map V.str)) (h2 : ∀ y ∈ l, ∀ c ∈ y.cps.toList, c < 16 ^ 8) (h3 : fmtCost l + 7 ≤ sizeLine) : Shows K H (.ref a)
def tFmtRA (K : PySem.W.Frag) (te : TE) : TE := fun σ H Q => te σ H fun x H1 => Shows K H1 x ∧ ∀ m : Str, Q (.str m) H1
section
variable {X : Cx}
theorem pe_fmtRA {e : Expr} {te : TE} {pos : Pos} (hu : X.A.units < cLine) (he : PE X e te) : PE X (.FormattedValue e 114 none pos) (tFmtRA X.K te) := by
  refine ⟨fun pins s σ H Q I h => ?_⟩
  refine wpAny_FormattedValue_repr (thn (he.run pins s σ H _ I h) fun v s1 hv => ?_)
  obtain ⟨x, H1, I1, r1, sh, q⟩ := hv
  have fin : ∀ (m : Str) (u tk : Tok), m.length ≤ sizeLine → wpAny (model X.prog X.w) X.A (formatField (.str m u) Str.empty) (EP X pins σ Q) X.xe { s1 with toks := tk } := fun m u tk hz =>
    wpAny_formatField_str ⟨.str m, H1, I1.tok _, ⟨_, rfl⟩, q m⟩ ⟨.str m, H1, I1.tok _, ⟨_, rfl⟩, q m⟩ hz
  cases sh with
  | non =>
    cases r1
    exact pyReprObj_none (fin _ _ _ (by decide +kernel))
  | str y hz =>
    obtain ⟨t, rfl⟩ := r1
    exact pyReprObj_str (fin _ _ _ hz) hz
  | int i hz =>
    obtain ⟨t, rfl⟩ := r1
    exact pyReprObj_int hz (fin _ _ _ (int_text_fits hz))
  | tup a l ht hc hz =>
    cases r1
    obtain ⟨its, rv, ⟨o, ho, hcl, n, hd⟩, _⟩ := I1.tuple ht
    have hp := fmt_piled l hc
    have htx := fmt_text (l.map reprText)
    refine wpAny_pyReprObj_slot (by omega) ⟨o, ho, hcl⟩ F.slot_tuple_repr (fmt_tuple_repr (ts := l.map reprText) ho hcl hd (repr_all rv fun y hy => ?_) (by omega) fun m u tk hm => ?_)
    · have h1 := StrLaws.reprText_len y (hc y hy)
      have h2 := fmtCost_mem hy
      omega
    · exact ⟨m, u, rfl, fin m u tk (by omega)⟩
end
end HC

namespace HC
open PySem PySem.Spec PyProof.Rows L2
/-! ## super().__init__(text) and one field, in an own exception class's __init__ -/
section
open PySem.W
variable {prog : Program} {w : World} {A : Around} {E : Value → Shared → Prop} {h : Heap} {g : Array GenState} {d : Drawn} {t : Nat} {os : OsState}
variable {nm q : Str} {C N : Addr} {bs bm : List Value} {hdct : Bool} {sn : List Str} {sub : List Value} {ab : Bool} {col : Option Bool} {dd : Option Addr} {k0 k1 k2 k3 k5 : Option Value}
/-- ValueError.__init__ bound to an exception, called -/
theorem call_mw {u e t0 : Addr} {rest : List Value} {Q : Value → Shared → Prop}
    (hC : h.get? C = some (excClassObj nm q C N bs bm hdct sn sub ab col dd k0 k1 k2 k3 k5 "ValueError.__new__")) (he : h.get? e = some (HandSPX.excO C t0)) (hu : h.get? u = some (kxs_mw "ValueError.__init__" e)) (hrest : rest.length ≤ sizeLine)
    (hq : ∀ h' t1, (∀ b o, b ≠ e → h.get? b = some o → h'.get? b = some o) → h'.get? e = some (HandSPX.excO C t1) → Q .none ⟨h', g, d, t, os⟩) :
    wpAny (model prog w) A (call (.ref u) rest) Q E ⟨h, g, d, t, os⟩ := by
  refine wpAny_call (codeAny_of_tree ?_)
  show wpAny _ A.in1 (callAny (.ref u) ⟨rest, []⟩) _ _ _
  simp only [callAny]
  refine wpAny_bind (wpAny_load hu ?_)
  simp only [kxs_mw, show (Value.type "method-wrapper" == Value.type "method" || Value.type "method-wrapper" == Value.type "builtin_function_or_method" || Value.type "method-wrapper" == Value.type "method-wrapper") = true by decide, if_true]
  refine W.KFB.if_so (by decide) ?_
  refine wpAny_bind (ESX.check_bound F.excBase_ValueError hC he rfl ?_)
  refine wpAny_bind (wpAny_pure (wpAny_pure ?_))
  refine ⟨Code.quiet_builtin _ (by decide +kernel), codeAny_builtin F.excBase_ValueError.initEntry ?_⟩
  rw [Around.under_plainId F.excBase_ValueError.init.plain _]
  wp_walk
  refine hq _ h.objs.size (fun b o hb ho => ?_) ?_
  · rw [Heap.get?_update_other _ _ (Ne.symm hb)]
    exact Heap.get?_push_of_some _ ho
  · rw [Heap.get?_update_self _ (Heap.get?_push_of_some _ he) rfl]
    rfl
end
end HC

namespace HC
open PySem PySem.Spec PyProof.Rows L2 NdefX
/-! ## super().__init__(text) as the first statement of an own exception class's __init__ -/
/-- what the text says of the def: its object at f, its code object at cda, the cell of its class, at cc, the class at D -/
structure SupT (P : Program) (K : PySem.W.Frag) (mg : Str → Option Value) (f cda cc D : Addr) : Prop where
  fo : ∃ oc od fd osl ar, K.lookup f = some ⟨oc, od, .func fd, osl⟩ ∧ (fd.params.posonlyargs ++ fd.params.args).head? = some ar ∧ ar.arg = "self"
  co : ∃ ccl cdd vs ccs file tf, K.lookup cda = some ⟨ccl, cdd, .fields vs, ccs⟩ ∧ vs[2]? = some (.str file tf) ∧ ((P.main.file : Str) == file) = true
  ce : ∃ cl cld csl, K.lookup cc = some ⟨cl, cld, .cell (some (.ref D)), csl⟩
  cD : ∃ cdD, PySem.W.clsIn K D = some cdD
  sg : mg "super" = none
  tp : (P.main.scope.names.lookup ("super" : Str)).isSome = false
  op : PySem.W.nsIn K cStatics "thirdparty.any" = some none
/-- the class at C stands above .. under D, which is ValueError's next -/
structure SubOf (K : PySem.W.Frag) (D C : Addr) : Prop where
  ex : OexC K C
  sub : PySem.W.mroIn K C (.ref D) = some true
  nxt : PySem.W.ks_superIn K C D "__init__" = some (some (.builtin "ValueError.__init__"))
  ve : PySem.W.subIn K (.ref C) (.type "ValueError") = some true
  nov : PySem.W.findIn K (.ref C) "value" = some none
/-- what the scope says -/
structure SupS (sc : Scope) : Prop where
  kind : sc.kind = .function
  su : sc.names.lookup ("super" : Str) = some .globalImplicit
  cl : sc.names.lookup ("__class__" : Str) = some .free
  se : sc.names.lookup ("self" : Str) = some .local
section
variable {X : Cx} {pins : List (Addr × Obj)} {σ : L2.St} {H : Hp} {s : Shared} {a C D f cda cc : Addr} {body : List Stmt} {e : Expr} {te : TE} {p0 p1 p2 p3 p4 : Pos}
theorem sup_first {pl : Sem Bool} (T : SupT X.prog X.K X.mg f cda cc D) (S : SupS X.env.scope) (hf : X.env.func = some f) (hco : X.env.code = .ref cda) (hcc : X.env.cells.lookup ("__class__" : Str) = some cc) (hN : X.N[0]? = some ("self" : Str))
    (I : L2.Inv X pins σ H s) (hs : σ[0]? = some (some (.ref a))) (G : SubOf X.K D C) (ea : H a = some (exo a C none)) (he : PE X e te) (hte : te σ H fun _ H1 => H1 = H)
    (h1 : eval (.Call (.Attribute (.Call (.Name "super" p0) [] [] p1) "__init__" p2) [e] [] p3) X.env = (do
      let ov ← attributeBase (.Call (.Name "super" p0) [] [] p1) "__init__" X.env (eval (.Call (.Name "super" p0) [] [] p1) X.env)
      standAt p2.atName
      let (f, first) ← holding [ov] (getMethod ov "__init__" pl)
      callWith p3 f first (backTo p3 (starEach [e] X.env)) []))
    (h2 : interactive X.env = false) (h3 : swapsWith (.Call (.Attribute (.Call (.Name "super" p0) [] [] p1) "__init__" p2) [e] [] p3) none p4.line X.env = pure false)
    (hse : starEach [e] X.env = (false, eval e X.env) :: starEach [] X.env) :
    _root_.PySem.wpAt (model X.prog X.w) X.A (.func body X.env) (exec (.Expr (.Call (.Attribute (.Call (.Name "super" p0) [] [] p1) "__init__" p2) [e] [] p3) p4) X.env) (fun fl s' => fl = .next ∧ L2.Inv X pins σ H s') X.xe s := by
  refine PySem.ks_wpAt_Expr_any ?_ h2 h3
  refine PySem.ks_wpAt_MethodCall ?_ h1
  have KI := I.kIn
  obtain ⟨m, hns, hlk⟩ := I.loc
  obtain ⟨u, ru, lu⟩ := hlk 0 _ _ hN hs (.inl S.se)
  obtain rfl : u = Value.ref a := ru
  have hms : m ("self" : Str) = some (.ref a) := by
    rcases lu with ⟨_, z⟩ | ⟨z, _⟩
    · exact z
    · rcases z with z | z
      all_goals
        have z' : X.env.scope.names.lookup ("self" : Str) = some _ := z
        rw [S.se] at z'
        cases z'
  obtain ⟨oc, od, fd, osl, ar, hfo, hp, har⟩ := T.fo
  obtain ⟨ccl, cdd, vs, ccs, file, tf, hcode, hvs, hfile⟩ := T.co
  obtain ⟨cl, cld, csl, hcell⟩ := T.ce
  obtain ⟨cdD, hD⟩ := T.cD
  obtain ⟨mb, hb1, hb2⟩ := I.mod.blt
  obtain ⟨t1, hox⟩ := exo_at I.hok ea
  obtain ⟨hh, g, d, t, os⟩ := s
  obtain ⟨oD, hD1, hD2⟩ : ∃ oD, hh.get? D = some oD ∧ oD.data = .cls cdD := by
    unfold PySem.W.clsIn at hD
    split at hD
    · rename_i c d cd' sl ho
      cases hD
      exact ⟨_, KI _ _ ho, rfl⟩
    · cases hD
  refine PySem.ks_wpAt_super_base (env := X.env) (ar := ar) S.su S.cl (by decide +kernel) hf (KI _ _ hfo) rfl hp hco (KI _ _ hcode) rfl hvs hfile T.tp ?_
  refine PySem.W.ks_loadName_global S.kind S.su (Calls.loadGlobal_builtin (env := X.env) (by rw [I.ok.glob]; exact I.mod.glob.keeps I.bk) T.sg (by rw [I.ok.blt]; exact hb1.keeps I.bk) ((hb2 "super" (by decide)).trans (by first | rfl | decide +kernel)) ⟨rfl, ?_⟩)
  refine PySem.wpAny_loadName_free S.kind S.cl hcc ⟨_, KI _ _ hcell, rfl⟩ ?_
  rw [har]
  refine PySem.wpAny_loadName_local S.kind S.se hns hms ?_
  refine PySem.ks_wpAny_isType_cls hD1 hD2 ⟨rfl, ?_⟩
  refine PySem.ks_wpAny_call_super hD1 hD2 hox rfl (fun c z => by cases z) (PySem.W.looks_mroIn KI G.sub) (fun h' eso k => ?_)
  have I1 : L2.Inv X pins σ H ⟨h', g, d, t, os⟩ := I.kept k
  have KI1 := I1.kIn
  obtain ⟨t2, hox1⟩ := exo_at I1.hok ea
  have hnx := G.nxt
  unfold PySem.W.ks_superIn at hnx
  obtain ⟨nm, q, N, bs, bm, sn, sub, ab, col, dd, k0, k1, k2, k3, k5, hC, hbm⟩ := G.ex.cls
  have hcl : PySem.W.clsIn X.K C = some { name := nm, bases := bs, mro := .ref C :: bm, ns := N, qualname := q, hasDict := true, slotNames := sn, subclasses := sub, abstract := ab, collection := col, hasDel := false } := by unfold PySem.W.clsIn; rw [hC] <;> rfl
  rw [hcl] at hnx
  have ne : a ≠ C := fun z => by
    rw [z] at hox1
    have y := KI1 _ _ hC
    rw [hox1] at y
    cases y
  refine PySem.W.kxs_getMethod PySem.W.kxs_ValueError eso (PySem.W.looks_opaque KI1 T.op) (l₀ := .ref C :: bm) ?_ rfl KI1 hnx ?_ ne (by decide +kernel) ?_
  · exact fun A Q E s k q => wpAny_bind ((PySem.W.looks_clsIn KI1 hcl) A _ E s k (wpAny_pure q))
  · have II : PySem.W.InstAt h' a ({ cls := .ref C, dict := none, data := .fields #[.ref t2, .none, .none, .none, .bool false, .none] } : Obj) C none := ⟨hox1, rfl, rfl, trivial⟩
    exact II.type.andThen (PySem.W.looks_subIn KI1 G.ve)
  have k2' : ∀ b o, h'.get? b = some o → (h'.push (PySem.W.kxs_mw "ValueError.__init__" a)).get? b = some o := fun b o z => Heap.get?_push_of_some _ z
  have hmw : (h'.push (PySem.W.kxs_mw "ValueError.__init__" a)).get? h'.objs.size = some (PySem.W.kxs_mw "ValueError.__init__" a) := Heap.get?_push_at rfl rfl
  have I2 : L2.Inv X ((h'.objs.size, PySem.W.kxs_mw "ValueError.__init__" a) :: pins) σ H ⟨h'.push (PySem.W.kxs_mw "ValueError.__init__" a), g, d, t + 1, os⟩ :=
    ClX.pin_new (t' := t + 1) I1 k2' (Nat.le_refl _) hmw (fun v z => by cases z)
  refine PySem.W.kxs_callWith (i := "ValueError.__init__") (x := a) (by rw [hse]; rfl) ?_
  rw [hse]
  refine PySem.Calls.evalArgs_plain ?_
  show wpAny _ _ (spliced ((false, eval e X.env) :: backTo p3 (starEach [] X.env))) _ _ _
  refine Calls.spliced_cons (thn (he.run _ _ σ H _ I2 (hte)) fun u s3 ⟨v, H1, I3, r1, q1⟩ => ?_)
  refine Calls.spliced_nil ?_
  subst q1
  refine ⟨ClX.pin_at I3, ?_⟩
  obtain ⟨t3, hox3⟩ := exo_at I3.hok ea
  have hu3 := ClX.pin_at I3
  have I4 := ClX.unpin I3
  obtain ⟨h3', g3, d3, tk3, os3⟩ := s3
  refine call_mw (I3.kIn _ _ hC) hox3 hu3 (by show 1 ≤ sizeLine; rw [sizeLine_eq]; omega) fun h4 t4 k4 hx4 => ?_
  have J := I4.write (t' := tk3) (x := a) (e := a) (o := exo a C none) (by rw [ea]; exact True.intro) (.inl rfl) k4 ⟨_, hx4⟩ (exo_ok hx4)
  have eu : upd H1 a (exo a C none) = H1 := by
    funext b
    by_cases hb : b = a
    · rw [hb, upd_same, ea]
    · rw [upd_ne hb]
  rw [eu] at J
  exact ⟨rfl, J⟩
end
end HC

namespace HC
open PySem PySem.Spec PyProof.Rows L2 NdefX L2H
/-- the body of CutError.__init__ -/
def supB (p0 p1 p2 p3 p4 p5 p6 p7 p8 p9 p10 p11 : Pos) : List Stmt :=
  [.Expr (.Call (.Attribute (.Call (.Name "super" p0) [] [] p1) "__init__" p2) [.JoinedStr [.FormattedValue (.Name "value" p5) 114 none p6] p7] [] p3) p4, .Assign [.Attribute (.Name "self" p8) "value" p9] (.Name "value" p10) p11]
def supSc : Scope := { kind := .function, names := [(PySem.Str.ofString "self", .local), (PySem.Str.ofString "value", .local), (PySem.Str.ofString "__class__", .free), (PySem.Str.ofString "super", .globalImplicit)], isGenerator := false, isCoroutine := false, more := [] }
theorem supSc_n : NScope ["self", "value", "__class__"] ["self", "value"] ["__class__"] supSc := nscope_by (by decide +kernel)
theorem supSc_s : SupS supSc := ⟨rfl, by decide +kernel, by decide +kernel, by decide +kernel⟩
def spSupI (K : PySem.W.Frag) (D : Addr) : Sp := fun vs H Q _ => ∃ (a C : Addr) (y : V), vs = [.ref a, y] ∧ H a = some (exo a C none) ∧ SubOf K D C ∧ Shows K H y ∧ ∀ d, H d = none → d ≠ a → Q .non (upd (upd H d (exd d [("value", y)])) a (exo a C (some d)))
abbrev supF (nm q : Str) (params : Arguments) (body : List Stmt) (cc cda : Addr) : NF := ⟨nm, q, params, body, supSc, [("__class__", cc)], cda⟩
section
variable {P : Program} {w : World} {K : PySem.W.Frag} {mg : Str → Option Value} {base : Heap} {f cda cc D : Addr} {nm q : Str} {params : Arguments} {body : List Stmt} {dV kV doc pm ctv oc : Value} {an od : Option Addr} {osl : Array (Option Value)}
theorem sup_cells (T : SupT P K mg f cda cc D) {A : Around} {outer : List Env} {s : Shared} {H : Hp} (e0 : Env0 P w K mg base A outer s H) : CellsAt [(("__class__" : Str), cc)] ["__class__"] [none] s.heap H := by
  obtain ⟨cl, cld, csl, hce⟩ := T.ce
  have hb := e0.bs _ _ (e0.mod.kin _ _ hce)
  have one : ∀ (y : Str) (c : Addr), List.lookup y [(("__class__" : Str), cc)] = some c → y = "__class__" ∧ c = cc := fun y c e => by
    have m := PySem.mem_of_lookup e
    have m2 := List.mem_singleton.mp m
    exact ⟨congrArg Prod.fst m2, congrArg Prod.snd m2⟩
  refine ⟨rfl, fun y c e => ?_, fun x y c e1 e2 => (one x c e1).1.trans (one y c e2).1.symm, fun i y e => ?_⟩
  · obtain ⟨_, rfl⟩ := one y c e
    exact ⟨hb.2, _, _, hb.1, rfl⟩
  · cases i with
    | zero =>
      cases e
      exact ⟨cc, by simp [List.lookup], fun v z => by cases z⟩
    | succ i => cases e
abbrev supN : List Str := ["self", "value", "__class__"]
theorem supSc_self : supSc.names.lookup ("self" : Str) = some .local := by decide +kernel
theorem supSc_val : supSc.names.lookup ("value" : Str) = some .local := by decide +kernel
theorem sup_mcall {env : Env} {e : Expr} {p0 p1 p2 p3 : Pos} (hl : (p2.endLine == p3.line) = true) (hf : methodCallForm 1 (backTo p3 (starEach [e] env)) [] = true) : eval (.Call (.Attribute (.Call (.Name "super" p0) [] [] p1) "__init__" p2) [e] [] p3) env = (do
      let ov ← attributeBase (.Call (.Name "super" p0) [] [] p1) "__init__" env (eval (.Call (.Name "super" p0) [] [] p1) env)
      standAt p2.atName
      let (f, first) ← holding [ov] (getMethod ov "__init__" (plainOf (.Call (.Name "super" p0) [] [] p1) env))
      callWith p3 f first (backTo p3 (starEach [e] env)) []) := by
  have e1 : ∀ ov, methodCall (.Call (.Name "super" p0) [] [] p1) "__init__" p2 p3 env ov 1 (backTo p3 (starEach [e] env)) [] = (do
      let (f, first) ← holding [ov] (getMethod ov "__init__" (plainOf (.Call (.Name "super" p0) [] [] p1) env))
      callWith p3 f first (backTo p3 (starEach [e] env)) []) := fun ov => mcall_line hf hl
  have e2 : eval (.Call (.Attribute (.Call (.Name "super" p0) [] [] p1) "__init__" p2) [e] [] p3) env = (do
      let ov ← attributeBase (.Call (.Name "super" p0) [] [] p1) "__init__" env (eval (.Call (.Name "super" p0) [] [] p1) env)
      standAt p2.atName
      methodCall (.Call (.Name "super" p0) [] [] p1) "__init__" p2 p3 env ov 1 (backTo p3 (starEach [e] env)) []) := rfl
  rw [e2]
  simp only [e1]
/-- the first statement, then the second, in any context of that frame -/
theorem sup_body {X : Cx} {L : Addr} {p0 p1 p2 p3 p4 p5 p6 p7 p8 p9 p10 p11 : Pos} (T : SupT X.prog X.K X.mg f cda cc D) (henv : X.env = PySem.W.envX q supSc L f (.ref cda) [("__class__", cc)]) (hN : X.N = supN) {s : Shared} {H : Hp} {a C : Addr} {y : V}
    (I : L2.Inv X [] (startF supN [.ref a, y] [none]) H s) (hu : X.A.units < cLine) (ea : H a = some (exo a C none)) (G : SubOf X.K D C) (sh : Shows X.K H y) {Q : VK}
    (hq : ∀ d, H d = none → d ≠ a → Q .non (upd (upd H d (exd d [("value", y)])) a (exo a C (some d)))) (bd : List Stmt) (hl : (p2.endLine == p3.line) = true) :
    _root_.PySem.wpAt (model X.prog X.w) X.A (.func bd X.env) (execs (supB p0 p1 p2 p3 p4 p5 p6 p7 p8 p9 p10 p11) X.env) (SP X [] { nx := fun _ H' => Q .non H', rt := Q }) X.xe s := by
  have S : SupS X.env.scope := by rw [henv]; exact supSc_s
  have hf : X.env.func = some f := by rw [henv]
  have hco : X.env.code = .ref cda := by rw [henv]
  have hcc : X.env.cells.lookup ("__class__" : Str) = some cc := by rw [henv]; rfl
  have h0 : X.N[0]? = some ("self" : Str) := by rw [hN]; rfl
  have h1 : X.N[1]? = some ("value" : Str) := by rw [hN]; rfl
  have vself : Vis X.env.scope "self" := by rw [henv]; exact .inl supSc_self
  have vval : Vis X.env.scope "value" := by rw [henv]; exact .inl supSc_val
  have pself : ∀ p, PE X (.Name "self" p) (tVar 0) := fun p => pe_var h0 vself
  have pval : ∀ p, PE X (.Name "value" p) (tVar 1) := fun p => pe_var h1 vval
  refine PySem.ks_wpAt_execs_cons ?_
  refine PySem.ks_wpAt_mono (sup_first (e := .JoinedStr [.FormattedValue (.Name "value" p5) 114 none p6] p7) T S hf hco hcc h0 I rfl G ea (pe_joined1 (pe_fmtRA hu (pval p5))) ⟨y, rfl, sh, fun m => rfl⟩ (sup_mcall hl (by rw [henv]; rfl)) (by rw [henv]; rfl) (by rw [henv]; rfl) (by rw [henv]; rfl)) (fun fl s1 hfl => ?_) fun _ _ z => z
  obtain ⟨rfl, I1⟩ := hfl
  refine wpAt_of_wpAny ?_
  have P2 : PSs X [.Assign [.Attribute (.Name "self" p8) "value" p9] (.Name "value" p10) p11] _ := pss_one (ps_ost (pself p8) (pval p10) (by rw [henv]; rfl))
  refine P2.run [] s1 _ H { nx := fun _ H' => Q .non H', rt := Q } I1 ?_
  exact ⟨y, rfl, .ref a, rfl, a, C, rfl, G.ex, G.nov, .inl ⟨ea, fun dx n ne => hq dx n ne⟩⟩
theorem units_lt {k : Nat} {A : Around} (h : A.units + 16 * k + 200 < cLine) : A.units < cLine := by omega
variable {p0 p1 p2 p3 p4 p5 p6 p7 p8 p9 p10 p11 : Pos}
theorem sup_len (vs : List V) (H : Hp) (Q : VK) (E : XK) (h : spSupI K D vs H Q E) : vs.length = (["self", "value"] : List Str).length := by
  obtain ⟨a, C, y, rfl, _⟩ := h
  rfl
/-- CutError.__init__ -/
theorem ok_sup (lk : K.lookup f = some ⟨oc, od, .func (PySem.W.fnX nm q params (supB p0 p1 p2 p3 p4 p5 p6 p7 p8 p9 p10 p11) supSc [("__class__", cc)] dV kV doc pm an (.ref cda) ctv), osl⟩) (hcd : PySem.W.codeIn K (.ref cda) q = true) (T : SupT P K mg f cda cc D) (hl : (p2.endLine == p3.line) = true) :
    FnOk P w K mg base CX0 1 f (PySem.W.fnX nm q params (supB p0 p1 p2 p3 p4 p5 p6 p7 p8 p9 p10 p11) supSc [("__class__", cc)] dV kV doc pm an (.ref cda) ctv) ["self", "value"] (spSupI K D) := by
  refine ⟨sup_len, fun A outer s H args us vs Q E hr e0 hb r hsp => ?_⟩
  have hlen := sup_len vs H Q E hsp
  obtain ⟨a, C, y, rfl, ea, G, sh, hq⟩ := hsp
  have KX : K.In s.heap := e0.mod.kin.keeps fun b o e => (e0.bs b o e).1
  have lim : s.heap.NoLimit := e0.mod.nolimit.keeps fun b o e => (e0.bs b o e).1
  refine PySem.ks_codeAny_call_defAt (body := supB p0 p1 p2 p3 p4 p5 p6 p7 p8 p9 p10 p11) hr.depth (KX _ _ lk) rfl lim (PySem.W.codeRec_of KX hcd) rfl hb supSc_n.nocell (fun ⟨n, v⟩ hy => supSc_n.par n (List.of_mem_zip hy).1) (fun h₁ hns kp => ?_) rfl rfl rfl
  have I : L2.Inv (ncx CX0 P w K mg base supN (supF nm q params (supB p0 p1 p2 p3 p4 p5 p6 p7 p8 p9 p10 p11) cc cda) f A outer s H E) [] (startF supN [.ref a, y] [none]) H { s with heap := h₁, toks := s.toks + ((["self", "value"] : List Str).zip us).length } :=
    inv_startN (F := supF nm q params (supB p0 p1 p2 p3 p4 p5 p6 p7 p8 p9 p10 p11) cc cda) supSc_n hr.hd e0 hlen r (sup_cells T e0) hns kp
  have hu : (ncx CX0 P w K mg base supN (supF nm q params (supB p0 p1 p2 p3 p4 p5 p6 p7 p8 p9 p10 p11) cc cda) f A outer s H E).A.units < cLine := by
    have := hr.un
    show A.units + 3 < _
    omega
  refine PySem.ks_wpAt_mono (sup_body T rfl rfl I hu ea G sh hq _ hl) (fun fl s' hs => ?_) fun e s' z => z
  have fin : ∀ {σ' : L2.St} {H' : Hp} {v : V} {u : Value}, L2.Inv (ncx CX0 P w K mg base supN (supF nm q params (supB p0 p1 p2 p3 p4 p5 p6 p7 p8 p9 p10 p11) cc cda) f A outer s H E) [] σ' H' s' → L2.RelV v u → Q v H' → CE outer P w H s Q u s' :=
    fun {σ' H' v u} J rv q => ⟨v, H', J.os, J.bare, J.base, J.hok, rv, q⟩
  cases fl with
  | ret u =>
    obtain ⟨v, σ', H', J, rv, q⟩ := hs
    exact fin J rv q
  | next =>
    obtain ⟨σ', H', J, q⟩ := hs
    exact fin (v := V.non) (u := Value.none) J rfl q
  | brk =>
    obtain ⟨_, _, _, q⟩ := hs
    exact False.elim q
  | cont =>
    obtain ⟨_, _, _, q⟩ := hs
    exact False.elim q
/-- .. while an exception is handled -/
theorem ok_supH (lk : K.lookup f = some ⟨oc, od, .func (PySem.W.fnX nm q params (supB p0 p1 p2 p3 p4 p5 p6 p7 p8 p9 p10 p11) supSc [("__class__", cc)] dV kV doc pm an (.ref cda) ctv), osl⟩) (hcd : PySem.W.codeIn K (.ref cda) q = true) (T : SupT P K mg f cda cc D) (hl : (p2.endLine == p3.line) = true) :
    FnH P w K mg base CX0 1 f (PySem.W.fnX nm q params (supB p0 p1 p2 p3 p4 p5 p6 p7 p8 p9 p10 p11) supSc [("__class__", cc)] dV kV doc pm an (.ref cda) ctv) ["self", "value"] (spSupI K D) := by
  refine ⟨sup_len, fun A outer s H args us vs Q E p hr hot hpin e0 hb r hsp => ?_⟩
  have hlen := sup_len vs H Q E hsp
  obtain ⟨a, C, y, rfl, ea, G, sh, hq⟩ := hsp
  have KX : K.In s.heap := e0.mod.kin.keeps fun b o e => (e0.bs b o e).1
  have lim : s.heap.NoLimit := e0.mod.nolimit.keeps fun b o e => (e0.bs b o e).1
  refine PySem.ks_codeAny_call_defAt (body := supB p0 p1 p2 p3 p4 p5 p6 p7 p8 p9 p10 p11) hr.depth (KX _ _ lk) rfl lim (PySem.W.codeRec_of KX hcd) rfl hb supSc_n.nocell (fun ⟨n, v⟩ hy => supSc_n.par n (List.of_mem_zip hy).1) (fun h₁ hns kp => ?_) rfl rfl rfl
  have I : L2.Inv (ncxH CX0 P w K mg base supN (supF nm q params (supB p0 p1 p2 p3 p4 p5 p6 p7 p8 p9 p10 p11) cc cda) f A outer s H E p) [] (startF supN [.ref a, y] [none]) H { s with heap := h₁, toks := s.toks + ((["self", "value"] : List Str).zip us).length } :=
    inv_startNH (F := supF nm q params (supB p0 p1 p2 p3 p4 p5 p6 p7 p8 p9 p10 p11) cc cda) supSc_n hpin e0 hlen r (sup_cells T e0) hns kp
  have hu : (ncxH CX0 P w K mg base supN (supF nm q params (supB p0 p1 p2 p3 p4 p5 p6 p7 p8 p9 p10 p11) cc cda) f A outer s H E p).A.units < cLine := by
    have := hr.un
    show A.units + 3 < _
    omega
  refine PySem.ks_wpAt_mono (sup_body T rfl rfl I hu ea G sh hq _ hl) (fun fl s' hs => ?_) fun e s' z => z
  have fin : ∀ {σ' : L2.St} {H' : Hp} {v : V} {u : Value}, L2.Inv (ncxH CX0 P w K mg base supN (supF nm q params (supB p0 p1 p2 p3 p4 p5 p6 p7 p8 p9 p10 p11) cc cda) f A outer s H E p) [] σ' H' s' → L2.RelV v u → Q v H' → CE outer P w H s Q u s' :=
    fun {σ' H' v u} J rv q => ⟨v, H', J.os, J.bare, J.base, J.hok, rv, q⟩
  cases fl with
  | ret u =>
    obtain ⟨v, σ', H', J, rv, q⟩ := hs
    exact fin J rv q
  | next =>
    obtain ⟨σ', H', J, q⟩ := hs
    exact fin (v := V.non) (u := Value.none) J rfl q
  | brk =>
    obtain ⟨_, _, _, q⟩ := hs
    exact False.elim q
  | cont =>
    obtain ⟨_, _, _, q⟩ := hs
    exact False.elim q
end
end HC

namespace HC
open PySem PySem.Spec PyProof.Rows L2 NdefX L2H
/-! ## an own error made: its dict d is new, holds value -/
/-- what the text says of the error class at C -/
structure ErrC (K : PySem.W.Frag) (D C : Addr) : Prop where
  S : SubOf K D C
  hd : PySem.W.hasDictIn K C = true
  hk : PySem.W.findIn K (.ref C) "__getattr__" = some none
  hg : PySem.W.findIn K (.ref C) "__getattribute__" = some (some (.builtin "BaseException.__getattribute__"))
  ha : PySem.W.findIn K (.ref C) "__class__" = some (some (.builtin "object.__class__"))
  hm : PySem.W.mroIn K C (.type "object") = some true
/-- .. and of the name x -/
structure ErrT (K : PySem.W.Frag) (mg : Str → Option Value) (D fI : Addr) (x : Str) (C : Addr) : Prop where
  gC : mg x = some (.ref C)
  c : ErrC K D C
  iC : PySem.W.findIn K (.ref C) "__init__" = some (some (.ref fI))
  tI : PySem.W.typeIn K (.ref fI) = some (.type "function")
/-- C(e) -/
def tMkS (K : PySem.W.Frag) (C : Addr) (te : TE) : L2.St → Hp → XK → Prop := fun σ H Q => te σ H fun y H1 => Shows K H1 y ∧ ∀ d, H1 d = none → Q (.ref C) (some d) (upd H1 d (.xd [("value", y)]))
theorem shows_upd {K : PySem.W.Frag} {H : Hp} {y : V} {a : Addr} {o : HO} (h : Shows K H y) (n : H a = none) : Shows K (upd H a o) y := by
  cases h with
  | non => exact .non
  | str y h => exact .str y h
  | int i h => exact .int i h
  | tup b l h1 h2 h3 => exact .tup b l (h1.ext fun c u e => (upd_ne (ne_of_none e n)).trans e) h2 h3
theorem mkS_heap {H : Hp} {a d C : Addr} {y : V} (na : H a = none) (ne : d ≠ a) :
    upd (del (upd (upd (upd H a (exo a C none)) d (exd d [("value", y)])) a (exo a C (some d))) a) d (.xd [("value", y)]) = upd H d (.xd [("value", y)]) := by
  funext b
  by_cases hd : b = d
  · rw [hd, upd_same, upd_same]
  · rw [upd_ne hd, upd_ne hd]
    by_cases hb : b = a
    · rw [hb, del_same, na]
    · rw [del_ne hb, upd_ne hb, upd_ne hd, upd_ne hb]
/-- a reading with weaker wishes -/
def tUp (te : TE) : TE := fun σ H Q => ∃ Q0 : VK, te σ H Q0 ∧ ∀ v H', Q0 v H' → Q v H'
theorem pe_up {X : Cx} {e : Expr} {te : TE} (he : PE X e te) : PE X e (tUp te) := ⟨fun pins s σ H Q I ⟨Q0, h, k⟩ => thn (he.run pins s σ H Q0 I h) fun u s1 ⟨v, H1, I1, r1, q⟩ => ⟨v, H1, I1, r1, k v H1 q⟩⟩
theorem mkO_of {K : PySem.W.Frag} {C D : Addr} {te : TE} {σ : L2.St} {H : Hp} {Q : XK} (G : SubOf K D C) (h : tMkS K C te σ H Q) : tMkO C (spSupI K D) [] (tCons (tUp te) tNil) σ H Q := by
  refine ⟨_, h, fun y H1 ⟨sh, q⟩ => ?_⟩
  refine ⟨by show 1 ≤ 1000; decide, fun a na => ?_⟩
  refine ⟨a, C, y, rfl, upd_same, G, shows_upd sh na, fun d hd ne => ?_⟩
  rw [upd_ne ne] at hd
  refine ⟨rfl, d, [("value", y)], upd_same, ?_, hd, ?_⟩
  · rw [upd_ne ne, upd_same]
  · rw [mkS_heap na ne]
    exact q d hd
section
variable {X : Cx} {D fI C : Addr} {x : Str} {fd : FuncData} {e : Expr} {te : TE} {p pos : Pos} {k : Nat}
theorem PMk.imp {X : Cx} {e : Expr} {t t' : L2.St → Hp → XK → Prop} (h : L2.PMk X e t) (i : ∀ σ H Q, t' σ H Q → t σ H Q) : L2.PMk X e t' := fun pins s σ H Q I q => h pins s σ H Q I (i σ H Q q)
/-- C(e), to be raised -/
theorem pmk_sup (T : ErrT X.K X.mg D fI x C) (F1 : FnOk X.prog X.w X.K X.mg X.base CX0 1 fI fd ["self", "value"] (spSupI X.K D)) (hb : Binds X.K fd ["self", "value"] []) (hr : Room 2 X.A) (hg : Gl X x) (he : PE X e te)
    (hdb : (x == ("__debug__" : Str)) = false := by decide) (hse : starEach [e] X.env = (false, eval e X.env) :: starEach [] X.env := by rfl) :
    L2.PMk X (.Call (.Name x p) [e] [] pos) (tMkS X.K C te) :=
  PMk.imp (pmk_oex (ds := []) (dvs := []) T.c.S.ex T.iC T.tI F1 hr hb .nil (fun _ _ _ _ _ _ _ z => z.elim) hg T.gC (by exact (pa_cons (pe_up he) pa_nil hse)) hdb hse rfl) fun σ H Q h => mkO_of T.c.S h
/-- .. while an exception is handled -/
theorem pmk_supH (T : ErrT X.K X.mg D fI x C) (F1 : FnH X.prog X.w X.K X.mg X.base CX0 1 fI fd ["self", "value"] (spSupI X.K D)) (hb : Binds X.K fd ["self", "value"] []) (hr : RoomH 2 X.A) (hc : HotC X) (hg : Gl X x) (he : PE X e te)
    (hdb : (x == ("__debug__" : Str)) = false := by decide) (hse : starEach [e] X.env = (false, eval e X.env) :: starEach [] X.env := by rfl) :
    PMk5 X (.Call (.Name x p) [e] [] pos) (tMkS X.K C te) := fun pins s σ H Q I h =>
  pmk5_oexH T.c.S.ex T.iC T.tI F1 hr hc hb (fun _ _ _ _ _ _ _ z => z.elim) hg T.gC (by exact (pa_cons (pe_up he) pa_nil hse)) hdb hse rfl pins s σ H Q I (mkO_of T.c.S h)
/-- C(e), to be raised where nothing is handled; its context is None -/
theorem pmk5_oex {CX : CXT} {es : List Expr} {ta : TA} {ps : List Str} {sp : Sp} (T : OexC X.K C) (iC : PySem.W.findIn X.K (.ref C) "__init__" = some (some (.ref fI))) (tI : PySem.W.typeIn X.K (.ref fI) = some (.type "function"))
    (F1 : FnOk X.prog X.w X.K X.mg X.base CX k fI fd ps sp) (hr : Room (k + 1) X.A) (hb : Binds X.K fd ps []) (hx : Passes CX X (fun _ _ _ => False)) (hg : Gl X x) (hm : X.mg x = some (.ref C)) (ha : PA X (e :: es) ta)
    (hdb : (x == ("__debug__" : Str)) = false := by decide) (he : starEach (e :: es) X.env = (false, eval e X.env) :: starEach es X.env := by rfl) (hpl : (backTo pos (starEach es X.env)).any (·.1) = false := by rfl) :
    PMk5 X (.Call (.Name x p) (e :: es) [] pos) (tMkO C sp [] ta) := by
  intro pins s σ H Q I h
  obtain ⟨nm, q, N, bs, bm, sn, sub, ab, col, dd, k0, k1, k2, k3, k5, hC, hbm⟩ := T.cls
  refine wpAny_Call_Name_kw (ld_glob I hg hm ?_ hdb)
  refine PySem.W.callWith_K (h₀ := X.base) I.ok.mod.kin T.kC (thn (ha.run pos pins s σ H _ I h) fun us s1 ⟨vs, H1, I1, r1, hz, q1⟩ => ⟨I1.kIn, ?_⟩) he hpl
  show wpAny _ _ (call (.ref C) us) _ _ _
  obtain ⟨hp, g, dr, tk, os⟩ := s1
  have hsz : hp.objs.size ≤ hp.objs.size + 1 := Nat.le_succ _
  have hn : H1 (hp.objs.size + 1) = none := I1.hok.fresh hsz
  have hq := q1 (hp.objs.size + 1) hn
  rw [List.append_nil] at hq
  have kk : ∀ b o, hp.get? b = some o → ((hp.push (PySem.W.kdv_tup us)).push (PySem.HandSPX.excO C hp.objs.size)).get? b = some o := fun b o e => Heap.get?_push_of_some _ (Heap.get?_push_of_some _ e)
  have hget : ((hp.push (PySem.W.kdv_tup us)).push (PySem.HandSPX.excO C hp.objs.size)).get? (hp.objs.size + 1) = some (PySem.HandSPX.excO C hp.objs.size) := by heap_get
  have I2 : L2.Inv X pins σ (upd H1 (hp.objs.size + 1) (exo (hp.objs.size + 1) C none)) ⟨(hp.push (PySem.W.kdv_tup us)).push (PySem.HandSPX.excO C hp.objs.size), g, dr, tk, os⟩ :=
    I1.laid (t' := tk) (a := hp.objs.size + 1) (o := exo (hp.objs.size + 1) C none) (h' := (hp.push (PySem.W.kdv_tup us)).push (PySem.HandSPX.excO C hp.objs.size)) kk hsz (exo_ok hget)
  have r2 : Vals (V.ref (hp.objs.size + 1) :: vs) (Value.ref (hp.objs.size + 1) :: us) := .cons rfl r1
  have hl : (Value.ref (hp.objs.size + 1) :: us ++ []).length = ps.length := by
    have e := r2.length
    rw [F1.len _ _ _ _ hq] at e
    rw [List.append_nil]
    exact e.symm
  have hus : us.length ≤ sizeLine := by
    rw [← Paired.length r1, sizeLine_eq]
    omega
  have b2 := hb _ (Value.ref (hp.objs.size + 1) :: us) I2.kIn hl
  rw [List.append_nil] at b2
  refine wpAny_call (PySem.HandSPX.call_own F.excBase_ValueError (fun Y => PySem.HandSPX.refsVE_contains Y bm hbm) (I1.kIn _ _ hC) (PySem.W.looks_findIn I1.kIn iC) (fun self => PySem.W.bind_fn I1.kIn self tI) hus
    (codeAny_mono (F1.run _ X.stack _ _ ⟨Value.ref (hp.objs.size + 1) :: us, []⟩ (Value.ref (hp.objs.size + 1) :: us) _ _ (fun _ _ _ => False) (hr.make C us []) (I2.env0.make C us []) b2 r2 hq) fun r s' hq' => ?_))
  cases r with
  | error er => exact hx pins σ _ _ er s' I2 hq'
  | ok fl =>
    cases fl with
    | ret u =>
      obtain ⟨v, H2, os2, bare2, un2, hok2, rv, ev, d, fs, ea, ed, hd1, q2⟩ := hq'
      subst ev
      obtain ⟨h2, g2, d2, t2, os'⟩ := s'
      obtain ⟨t0, G, J, kG, ge, hoe, na⟩ := mk_end0 (d2 := d2) (t2 := t2) I1 hsz kk un2 hok2 os2 bare2 ea ed hd1
      refine ⟨rv, ⟨hp.objs.size + 1, _, _, ⟨G, g2, d2, t2, os'⟩, _, .ref C, some d, rfl, J, kG, ge, hoe, ⟨rfl, rfl, fun vs hv => ?_⟩, rfl, rfl, na, rfl, bare2, raises_own T.exC T.tyC, q2⟩, fun a oe vs ea2 hg2 hd2 => ?_⟩
      · cases hv
        rfl
      · cases ea2
        have hg3 : h2.get? (hp.objs.size + 1) = some oe := hg2
        rw [hoe] at hg3
        cases hg3
        cases hd2
        show (4 : Nat) < 6
        decide
    | next => exact False.elim hq'
    | brk => exact False.elim hq'
    | cont => exact False.elim hq'
theorem pmkN_sup (T : ErrT X.K X.mg D fI x C) (F1 : FnOk X.prog X.w X.K X.mg X.base CX0 1 fI fd ["self", "value"] (spSupI X.K D)) (hb : Binds X.K fd ["self", "value"] []) (hr : Room 2 X.A) (hg : Gl X x) (he : PE X e te)
    (hdb : (x == ("__debug__" : Str)) = false := by decide) (hse : starEach [e] X.env = (false, eval e X.env) :: starEach [] X.env := by rfl) :
    L2N.PMk X (.Call (.Name x p) [e] [] pos) (tMkS X.K C te) := fun pins s σ H Q I h =>
  (PMk5.pmk (pmk5_oex T.c.S.ex T.iC T.tI F1 hr hb (fun _ _ _ _ _ _ _ z => z.elim) hg T.gC (by exact (pa_cons (pe_up he) pa_nil hse)) hdb hse rfl)) pins s σ H Q I (mkO_of T.c.S h)
end
/-! ## what an except suite asks of such an error -/
theorem ErrC.xf {K : PySem.W.Frag} {D C : Addr} (T : ErrC K D C) : XfC K C := ⟨T.hg, T.hk, T.S.ex.exC, T.hd⟩
/-- what the text says of object.__class__ -/
structure ClsG (K : PySem.W.Frag) : Prop where
  hn : PySem.W.specialIn K (.builtin "object.__class__") "__get__" = some (some (.builtin "getset_descriptor.__get__"))
  ht : PySem.W.takesIn K (.builtin "object.__class__") = some true
section
variable {X : Cx} {D fI a : Addr} {x : Str} {oe : Obj} {cls : Value} {d : Option Addr} {pn : List (Addr × Obj)}
theorem kitx_err {K : PySem.W.Frag} {C : Addr} (T : ErrC K D C) (G : ClsG K) {ox : Obj} {od : Option Obj} : PySem.W.KitX K (.ref a) (.ref C) (fun h => PySem.W.InstAt h a ox C od) := by
  obtain ⟨cd, hc, _⟩ := PySem.W.any_some T.hd
  exact PySem.W.kitx_exc (by rw [hc]; rfl) T.hg T.hk T.S.ex.exC T.ha G.hn G.ht T.hm
/-- an own error of the class at C, its dict holding v -/
def ErrV (K : PySem.W.Frag) (D C : Addr) (cls : Value) (d : Option Addr) (v : V) (H : Hp) : Prop := cls = .ref C ∧ ErrC K D C ∧ ∃ dd, d = some dd ∧ H dd = some (.xd [("value", v)])
/-- e.value, e the error that the suite holds -/
def tEv (K : PySem.W.Frag) (D a : Addr) (cls : Value) (d : Option Addr) (te : TE) : TE := fun σ H Q => te σ H fun x H1 => x = .ref a ∧ ∃ C v, ErrV K D C cls d v H1 ∧ Q v H1
theorem pe_ev {e : Expr} {te : TE} {pos : Pos} (hz : Zc cls d oe) (hf : ∃ vs, oe.data = .fields vs) (he : PE (X.suite a ((a, oe) :: pn)) e te) (hb : attributeBase e "value" X.env (eval e X.env) = eval e X.env := by rfl) :
    PE (X.suite a ((a, oe) :: pn)) (.Attribute e "value" pos) (tEv X.K D a cls d te) := by
  refine ⟨fun pins s σ H Q I h => ?_⟩
  refine attr_of hb (thn (he.run pins s σ H _ I h) fun u s1 hh => ?_)
  obtain ⟨x, H1, I1, rx, ex, C, v, ⟨ec, T, dd, ed, ea⟩, q⟩ := hh
  subst ex
  obtain rfl : u = Value.ref a := rx
  subst ec
  subst ed
  obtain ⟨ha, _⟩ := I1.pin (a, oe) (List.mem_append_left _ List.mem_cons_self)
  obtain ⟨vs, hd⟩ := hf
  have hx : ObjOk X.prog X.w H1 s1.heap dd (.xd [("value", v)]) := I1.hok dd _ ea
  obtain ⟨mA, hns, hr⟩ := hx
  obtain ⟨od, ho, hl⟩ := lookIn_ns hns
  have l : List.lookup ("value" : Str) [(("value" : Str), v)] = some v := by simp [List.lookup]
  obtain ⟨u, hu, ru⟩ := RelO.some_of (v := v) (o := mA "value") (by rw [← l]; exact hr "value")
  have J : PySem.W.InstAt s1.heap a oe C (some od) := ⟨ha, hz.1, by unfold PySem.W.notCls; rw [hd] <;> rfl, by rw [hz.2]; exact ho⟩
  exact HandSPX.exc_get I1.kIn J T.hg T.hk T.S.ex.exC (PySem.W.findObj_own T.hd T.S.nov rfl (by rw [hl, hu])) (handed_of ru) ⟨v, H1, I1.tok _, ru, q⟩
/-- isinstance(e, c) -/
def rIsS (K : PySem.W.Frag) (D a : Addr) (cls : Value) (d : Option Addr) : List V → Hp → VK → Prop := fun xs H Q => ∃ (c : V) (cv : Value) (b : Bool) (C : Addr) (v : V), xs = [.ref a, c] ∧ (∀ u, RelV c u → u = cv) ∧ ErrV K D C cls d v H ∧ PySem.W.kitOne K (.ref C) cv = some b ∧ Q (.bl b) H
/-- isinstance(e, (c, ..)) -/
def rIsST (K : PySem.W.Frag) (D a : Addr) (cls : Value) (d : Option Addr) : List V → Hp → VK → Prop := fun xs H Q => ∃ (tp : Addr) (cs : List Addr) (b : Bool) (C : Addr) (v : V), xs = [.ref a, .ref tp] ∧ H tp = some (.tup (cs.map V.ref)) ∧ ErrV K D C cls d v H ∧ PySem.W.kitAny K (.ref C) (cs.map Value.ref) = some b ∧ Q (.bl b) H
theorem inst_err {pins : List (Addr × Obj)} {σ : L2.St} {H : Hp} {s : Shared} {fs : List (Str × V)} {C dd : Addr} (I : L2.Inv (X.suite a ((a, oe) :: pn)) pins σ H s) (hz : Zc (.ref C) (some dd) oe) (hf : ∃ vs, oe.data = .fields vs) (ed : H dd = some (.xd fs)) : ∃ od, PySem.W.InstAt s.heap a oe C (some od) := by
  obtain ⟨hget, _⟩ := I.pin (a, oe) (List.mem_append.mpr (.inl List.mem_cons_self))
  obtain ⟨vs, hv⟩ := hf
  have hx : ObjOk X.prog X.w H s.heap dd (.xd fs) := I.hok dd _ ed
  obtain ⟨mA, hns, hr⟩ := hx
  obtain ⟨od, ho, hl⟩ := lookIn_ns hns
  exact ⟨od, hget, hz.1, by unfold PySem.W.notCls; rw [hv] <;> rfl, by rw [hz.2]; exact ho⟩
theorem call_isS (G : ClsG X.K) (hz : Zc cls d oe) (hf : ∃ vs, oe.data = .fields vs) : CallR (X.suite a ((a, oe) :: pn)) (.builtin "isinstance") (rIsS X.K D a cls d) := by
  intro pins s σ H xs us Q I r h
  obtain ⟨c, cv, b, C, v, rfl, hcv, ⟨rfl, T, dd, rfl, ed⟩, e, q⟩ := h
  cases r with
  | cons rx rr =>
    cases rr with
    | cons rt rr =>
      cases rr
      cases rx
      have ec := hcv _ rt
      subst ec
      obtain ⟨od, J⟩ := inst_err I hz hf ed
      exact PySem.W.kia_one (kitx_err T G) I.kIn J e (fun z => nomatch z) fun tk => ⟨.bl b, H, I.kept (t' := tk) fun _ _ z => z, rfl, q⟩
theorem vals_refs : ∀ {cs : List Addr} {us : List Value}, Vals (cs.map V.ref) us → us = cs.map Value.ref
  | [], _, r => by cases r; rfl
  | c :: cs, _, r => by
    cases r with
    | cons a b =>
      cases a
      rw [vals_refs b]
      rfl
theorem call_isST (G : ClsG X.K) (hz : Zc cls d oe) (hf : ∃ vs, oe.data = .fields vs) : CallR (X.suite a ((a, oe) :: pn)) (.builtin "isinstance") (rIsST X.K D a cls d) := by
  intro pins s σ H xs us Q I r h
  obtain ⟨tp, cs, b, C, v, rfl, htp, ⟨rfl, T, dd, rfl, ed⟩, e, q⟩ := h
  cases r with
  | cons rx rr =>
    cases rr with
    | cons rt rr =>
      cases rr
      cases rx
      cases rt
      obtain ⟨od, J⟩ := inst_err I hz hf ed
      obtain ⟨its, rv, ⟨o, ho, hcl, n, hd⟩, _⟩ := I.tuple (SqT.of htp)
      have ei := vals_refs rv
      obtain ⟨c0, d0, dt0, sl0⟩ := o
      dsimp only at hcl hd
      subst hcl hd
      rw [ei] at ho
      exact PySem.W.kia_tup (its := cs.map Value.ref) (kitx_err T G) I.kIn J ho e (fun z => nomatch z) fun tk => ⟨.bl b, H, I.kept (t' := tk) fun _ _ z => z, rfl, q⟩
end
/-- the class C of the error is what the clause «except E» names, or not -/
theorem exm_err {K : PySem.W.Frag} {D C E : Addr} {b : Bool} (T : ErrC K D E) (h : PySem.W.subIn K (.ref C) (.ref E) = some b) : PySem.W.exmOne K (.ref C) (.ref E) = some b := PySem.W.exm_ref T.S.ex.exC T.hd T.S.ex.tyC h
/-! ## promises of defs that raise -/
/-- where no error is wished for -/
theorem passN {P : Program} {w : World} {X : Cx} : Passes (L2N.CX P w) X (fun _ _ _ => False) := fun _ _ _ _ _ _ _ z => by
  obtain ⟨_, _, _, _, _, _, _, _, _, _, _, _, q⟩ := z
  exact q.elim
theorem passX {P : Program} {w : World} {X : Cx} : Passes (L2.CX P w) X (fun _ _ _ => False) := fun _ _ _ _ _ _ _ z => by
  obtain ⟨_, _, _, _, _, _, _, _, _, _, _, _, q⟩ := z
  exact q.elim
theorem cx_n {P : Program} {w : World} {outer : List Env} {H : Hp} {s : Shared} {E : XK} {u : Value} {s' : Shared} (c : L2N.CX P w outer H s E u s') : L2.CX P w outer H s E u s' := by
  obtain ⟨a, B, H', cls, d, e, fl, hok, ub, na, os, ag, hE⟩ := c
  exact ⟨a, B, H', cls, d, e, flyingZ_imp (fun o z => z.zc) fl, hok, ub, na, os, ag, hE⟩
/-- errors whose context is None are errors -/
theorem FnOk.nx {P : Program} {w : World} {K : PySem.W.Frag} {mg : Str → Option Value} {base : Heap} {k : Nat} {f : Addr} {fd : FuncData} {ps : List Str} {sp : Sp} (F : FnOk P w K mg base (L2N.CX P w) k f fd ps sp) : FnOk P w K mg base (L2.CX P w) k f fd ps sp :=
  ⟨F.len, fun A outer s H args us vs Q E hr he hb hv hs => codeAny_mono (F.run A outer s H args us vs Q E hr he hb hv hs) fun r s' h => by
    cases r with
    | error e => exact cx_n h
    | ok fl => cases fl <;> exact h⟩
/-- a def that may raise -/
theorem Fun.okN {P : Program} {w : World} {K : PySem.W.Frag} {mg : Str → Option Value} {base : Heap} {x qual : Str} {st : Stmt} {f : Addr} {fd : FuncData} {N ps : List Str} {k : Nat} {sp : Sp} (F : Fun K x qual st f fd) (S : FnScope N ps (defScope st)) (len : ∀ vs H Q E, sp vs H Q E → vs.length = ps.length)
    (hbody : ∀ (cdv : Value) (A : Around) (outer : List Env) (s : Shared) (H : Hp) (vs : List V) (Q : VK) (E : XK), Room k (A.deeper (envOfC qual (defScope st) s.heap.objs.size f cdv)) → sp vs H Q E →
      ∃ t, PSs (cxOf (L2N.CX P w) P w K mg base N qual (defScope st) f cdv A outer s H E) (defBody st) t ∧ t { nx := fun _ H' => Q .non H', rt := Q } (start N vs) H) : FnOk P w K mg base (L2N.CX P w) (k + 1) f fd ps sp := by
  obtain ⟨oc, od, kV, doc, pm, an, cdv, ct, osl, rfl, lk, hcd⟩ := F.ex
  exact fn_of lk hcd S len fun A outer s H vs Q E hr hsp => hbody cdv A outer s H vs Q E hr hsp
theorem Fun.okXX {P : Program} {w : World} {K : PySem.W.Frag} {mg : Str → Option Value} {base : Heap} {x qual : Str} {st : Stmt} {f : Addr} {fd : FuncData} {N ps : List Str} {k : Nat} {sp : Sp} (F : Fun K x qual st f fd) (S : FnScope N ps (defScope st)) (len : ∀ vs H Q E, sp vs H Q E → vs.length = ps.length)
    (hbody : ∀ (cdv : Value) (A : Around) (outer : List Env) (s : Shared) (H : Hp) (vs : List V) (Q : VK) (E : XK), Room k (A.deeper (envOfC qual (defScope st) s.heap.objs.size f cdv)) → sp vs H Q E →
      ∃ t, PSs (cxOf (L2.CX P w) P w K mg base N qual (defScope st) f cdv A outer s H E) (defBody st) t ∧ t { nx := fun _ H' => Q .non H', rt := Q } (start N vs) H) : FnOk P w K mg base (L2.CX P w) (k + 1) f fd ps sp := by
  obtain ⟨oc, od, kV, doc, pm, an, cdv, ct, osl, rfl, lk, hcd⟩ := F.ex
  exact fn_of lk hcd S len fun A outer s H vs Q E hr hsp => hbody cdv A outer s H vs Q E hr hsp
/-- CutError.__init__, with its promise, where nothing is handled and where an error is -/
def HasI (P : Program) (w : World) (K : PySem.W.Frag) (mg : Str → Option Value) (base : Heap) (D fI : Addr) : Prop :=
  ∃ fd : FuncData, Binds K fd ["self", "value"] [] ∧ FnOk P w K mg base CX0 1 fI fd ["self", "value"] (spSupI K D) ∧ FnH P w K mg base CX0 1 fI fd ["self", "value"] (spSupI K D)
/-- a def of the top, with its promise, that may raise -/
def HasC (CX : CXT) (P : Program) (w : World) (K : PySem.W.Frag) (mg : Str → Option Value) (base : Heap) (x : Str) (k : Nat) (ps : List Str) (sp : Sp) : Prop :=
  ∃ (f : Addr) (fd : FuncData), mg x = some (.ref f) ∧ PySem.W.keepIn K (.ref f) = true ∧ Binds K fd ps [] ∧ FnOk P w K mg base CX k f fd ps sp
theorem exc_clsIn {K : PySem.W.Frag} {C N : Addr} {nm q : Str} {bs bm : List Value} {hd : Bool} {sn : List Str} {sub : List Value} {ab : Bool} {col : Option Bool} {dd : Option Addr} {k0 k1 k2 k3 k5 : Option Value} {i : String} (h : K.lookup C = some (excClassObj nm q C N bs bm hd sn sub ab col dd k0 k1 k2 k3 k5 i)) :
    PySem.W.clsIn K C = some { name := nm, bases := bs, mro := .ref C :: bm, ns := N, qualname := q, hasDict := hd, slotNames := sn, subclasses := sub, abstract := ab, collection := col, hasDel := false } := by
  unfold PySem.W.clsIn
  rw [h] <;> rfl
end HC

namespace HC
open PySem PySem.Spec PyProof.Rows L2 NdefX L2H
/-! ## an error that stays behind its suite -/
/-- an exception of the class cls, its dict d, at a -/
def ExK (cls : Value) (d : Option Addr) (a : Addr) : HO := .ext fun h => ∃ (oe : Obj) (vs : Array Value), h.get? a = some oe ∧ Zc cls d oe ∧ oe.data = .fields vs
theorem exK_ok {P : Program} {w : World} {H : Hp} {h : Heap} {a : Addr} {cls : Value} {d : Option Addr} {oe : Obj} {vs : Array Value} (e : h.get? a = some oe) (z : Zc cls d oe) (hd : oe.data = .fields vs) : ObjOk P w H h a (ExK cls d a) :=
  ⟨⟨oe, vs, e, z, hd⟩, ⟨oe, e⟩, fun _ _ ⟨o, v, q, r⟩ k => ⟨o, v, k o q, r⟩⟩
section
variable {X : Cx} {pins : List (Addr × Obj)} {σ : L2.St} {H : Hp} {s : Shared}
/-- an object of the state that is not tracked, is tracked from now on -/
theorem track {a : Addr} {o : HO} {oe : Obj} {vs : Array Value} (I : L2.Inv X pins σ H s) (na : H a = none) (h0 : X.s_0.heap.get? a = none) (hp : ∀ p ∈ X.pn ++ pins, p.1 ≠ a) (nL : a ≠ X.env.locals) (ha : s.heap.get? a = some oe) (hd : oe.data = .fields vs)
    (new : ObjOk X.prog X.w (upd H a o) s.heap a o) : L2.Inv X pins σ (upd H a o) s := by
  have neS : ∀ {b : Addr} {u : Obj}, X.s_0.heap.get? b = some u → b ≠ a := fun {b u} e z => by
    rw [z, h0] at e
    cases e
  refine ⟨I.ok, I.os, I.bare, ⟨I.base.keep, I.base.slot, fun b u e n hx => ?_, I.base.there, fun b xs e => ?_, fun b u v e => ?_, fun b ps e => ?_⟩, I.loc, I.cell, ?_, fun x c e => ?_, fun p hp' => ?_, ?_, I.len⟩
  · rw [upd_ne (neS e)]
    exact I.base.free b u e n hx
  · have z := I.base.tups b xs e
    rw [upd_ne (ne_of_none z na)]
    exact z
  · have z := I.base.frzs b u v e
    rw [upd_ne (ne_of_none z na)]
    exact z
  · obtain ⟨m, z⟩ := I.base.tbls b ps e
    exact ⟨m, by rw [upd_ne (ne_of_none z na)]; exact z⟩
  · rw [upd_ne nL.symm]
    exact I.free
  · have nc : c ≠ a := fun z => by
      obtain ⟨v, oc, h1, h2⟩ := I.cell x c e
      rw [z, ha] at h1
      cases h1
      rw [hd] at h2
      cases h2
    rw [upd_ne nc]
    exact I.freeC x c e
  · obtain ⟨e1, e2, e3⟩ := I.pin p hp'
    exact ⟨e1, by rw [upd_ne (hp p hp')]; exact e2, e3⟩
  · exact I.hok.laidN (fun _ _ e => e) na new
theorem unsuiteP {a : Addr} {q : Addr × Obj} {pn' : List (Addr × Obj)} (I : L2.Inv (X.suite a (q :: (X.pn ++ pins))) pn' σ H s) (ok : X.Ok) : L2.Inv X (q :: pins) σ H s :=
  ⟨ok, I.os, I.bare, I.base, I.loc, I.cell, I.free, I.freeC, fun p hp => I.pin p (List.mem_append_left _ (by
    rcases List.mem_append.mp hp with h | h
    · exact List.mem_cons_of_mem _ (List.mem_append_left _ h)
    · rcases List.mem_cons.mp h with h | h
      · rw [h]; exact List.mem_cons_self
      · exact List.mem_cons_of_mem _ (List.mem_append_right _ h))), I.hok, I.len⟩
end
/-- what the clause 'except x as n' wishes of an exception of the body, where the exception stays: slot i is n's -/
def wKeep (K : PySem.W.Frag) (c : Value) (i : Nat) (ts : Addr → Value → Option Addr → TS) (Wout : WX) (D : Ends) : WX := fun cls d σ H =>
  ∃ b, PySem.W.exmOne K cls c = some b ∧ (b = true → ∀ a, H a = none → ts a cls d { nx := fun σ' H' => D.nx (σ'.set i none) (upd H' a (ExK cls d a)), rt := D.rt, bk := fun σ' H' => D.bk (σ'.set i none) H', ct := fun σ' H' => D.ct (σ'.set i none) H' } (σ.set i (some (.ref a))) H) ∧
    (b = false → Wout cls d σ H)
section
variable {X : Cx} {x n : Str} {c : Value} {i : Nat} {body suite : List Stmt} {b₀ : Stmt} {np pos pos' : Pos} {tb : WX → TS} {ts : Addr → Value → Option Addr → TS} {Wout : WX}
theorem ps_try_keep (hs : X.stack = X.env :: X.outer) (hf : X.env.frame = some X.env.locals) (hex : X.ex = []) (hN : X.N.Nodup) (hi : X.N[i]? = some n) (hln : X.env.kindOf n = some .local) (hc : Names X x c) (tk : L2.Takes X Wout)
    (hb : ∀ (W : WX) (pn : List (Addr × Obj)) (xe : Value → Shared → Prop), L2.Takes (X.tr pn xe) W → PassesOwn (model X.prog X.w) X.A X.env xe → PSs (X.tr pn xe) body (tb W))
    (hsu : ∀ (a : Addr) (oe : Obj) (cls : Value) (d : Option Addr) (pn : List (Addr × Obj)), Zc cls d oe → (∃ vs, oe.data = .fields vs) → PSs (X.suite a ((a, oe) :: pn)) (b₀ :: suite) (ts a cls d)) :
    PS X (.Try body [.ExceptHandler (some (.Name x np)) (some n) (b₀ :: suite) pos'] [] [] pos) (fun D σ H => tb (wKeep X.K c i ts Wout D) D σ H) := by
  refine ⟨fun pins s σ H D I h => ?_⟩
  have ok := I.ok
  have hfr : X.A.frames = some (X.env :: X.outer) := by rw [ok.frames, hs]
  have hloc : Loc X.env.scope n := .inl hln
  refine wpAny_Try_except ?_
  refine wpAny_mono ((hb (wKeep X.K c i ts Wout D) (X.pn ++ pins) (fun e s₁ => wpAny (model X.prog X.w) X.A (noteFrame e X.env) (fun _ s₂ => wpAny (model X.prog X.w) X.A (setFlight e none) (fun _ s₃ =>
    wpAny (model X.prog X.w) X.A (handleBy e X.env [.ExceptHandler (some (.Name x np)) (some n) (b₀ :: suite) pos']) (SP X pins D) X.xe s₃) X.xe s₂) X.xe s₁) (fun u s' xx => ?_) PassesOwn.looking).run [] s σ H D (I.toTry _) h) (fun f s1 hsp => ?_) (fun e s1 he => he)
  · -- the catch
    obtain ⟨a, B, sI, pins', σ', H', cls, d, rfl, J', nb, up, sky, na, os, ag, b, hb1, hyes, hno⟩ := xx
    have J : L2.Inv X pins σ' H' sI := J'.ofTry ok
    have sky' : Sky B (X.env :: X.outer) a (Zc cls d) X.env.locals s'.heap := by rw [← hs]; exact sky
    show wpAny (model X.prog X.w) X.A (noteFrame (.ref a) X.env) _ _ _
    refine Sky.land Zc.steady hfr hf sky' fun h3 fl3 up3 => ?_
    have J3 : L2.Inv X pins σ' H' { s' with heap := h3 } := J.landed nb fl3.1 (up.trans up3) os ag
    obtain ⟨oe3, vs3, he3, hz3, hd3⟩ := fl3.there
    have notFr : ∀ {h : Heap} {o : Obj} {vs : Array Value}, h.FunFrames B (X.env :: X.outer) → h.get? a = some o → o.data = .fields vs → a ∉ frs (X.env :: X.outer) := fun {h o vs} ff e dd hm => by
      obtain ⟨_, o', e', hnf⟩ := ff.mem hm
      rw [e] at e'; cases e'
      exact hnf _ dd
    have nfr := notFr fl3.2.2.1 he3 hd3
    have nL : a ≠ X.env.locals := fun z => nfr (List.mem_filterMap.mpr ⟨X.env, List.mem_cons_self, by rw [hf, z]⟩)
    have nF : a ∉ X.fs := fun hm => by
      obtain ⟨e, he, q⟩ := List.mem_filterMap.mp hm
      exact nfr (List.mem_filterMap.mpr ⟨e, List.mem_cons_of_mem _ he, q⟩)
    have sIa : sI.heap.get? a = none := by
      cases q : sI.heap.get? a with
      | none => rfl
      | some o =>
        have z := nb a o q (by rw [hs]; exact nfr)
        rw [fl3.2.1] at z
        cases z
    have s0a : X.s_0.heap.get? a = none := by
      cases q : X.s_0.heap.get? a with
      | none => rfl
      | some o =>
        obtain ⟨o', z⟩ := J.base.there a o q (by rw [hex]; exact fun z => nomatch z)
        rw [sIa] at z
        cases z
    have npin : ∀ p ∈ X.pn ++ pins, p.1 ≠ a := fun p hp z => by
      have e := (J.pin p hp).1
      rw [z, sIa] at e
      cases e
    have S3 := J3.suite he3 hd3 na nL nF
    refine wpAny_handleBy_cons (codeAny_handlers_test ?_) (by intro q; cases q)
    have LT : PySem.W.Looks (model X.prog X.w) h3 (typeOf (.ref a)) cls := fun A Q E s k q => wpAny_typeOf_ref (k _ _ he3) (by rw [hz3.1]; exact q)
    have LM := PySem.W.exm_one (M := model X.prog X.w) (J3.kIn) LT hb1
    have test : ∀ {Q : Value → Shared → Prop} {E : Value → Shared → Prop}, Q c { s' with heap := h3 } → wpAny (model X.prog X.w) (X.A.mark (some (.ref a))) (eval (.Name x np) X.env) Q E { s' with heap := h3 } := fun {Q E} q => by
      obtain ⟨hg, hdbg, hm | ⟨hm, hv, hnn⟩⟩ := hc
      · exact ld_glob (X := X.suite a ((a, oe3) :: (X.pn ++ pins))) S3 hg hm q hdbg
      · exact ld_blt (X := X.suite a ((a, oe3) :: (X.pn ++ pins))) S3 hg hm hv q hnn hdbg
    refine test (LM.here ?_)
    cases b with
    | true =>
      refine codeAny_handlers_suite_as ?_
      refine HandSPX.lands_againZ fl3 fun h4 fl4 up4 => ?_
      have J4 : L2.Inv X pins σ' H' { s' with heap := h4 } := J.landed nb fl4.1 ((up.trans up3).trans up4) os ag
      obtain ⟨oe4, vs4, he4, hz4, hd4⟩ := fl4.there
      have S4 := J4.suite he4 hd4 na nL nF
      refine store_ok (X := X.suite a ((a, oe4) :: (X.pn ++ pins))) (v := .ref a) S4 hN hi hloc rfl (fun s5 S5 => ?_) (.inr hln)
      refine wpAny_mono ((hsu a oe4 cls d (X.pn ++ pins) hz4 ⟨_, hd4⟩).run [] s5 _ H' _ S5 (hyes rfl a na)) (fun f s6 hsp => ?_) (fun _ _ z => False.elim z)
      have end_ : ∀ {σ6 : L2.St} {H6 : Hp} {Q : Shared → Prop}, L2.Inv (X.suite a ((a, oe4) :: (X.pn ++ pins))) [] σ6 H6 s6 → (∀ s7, L2.Inv X pins (σ6.set i none) H6 s7 → Q s7) →
          wpAny (model X.prog X.w) X.A (do bindName X.env n .none; unbindBehindTheSuite X.env n pos') (fun _ s7 => Q s7) X.xe s6 := fun {σ6 H6 Q} S6 hq => gone_ok (S6.unsuite ok) hN hi hln hq
      cases f with
      | next =>
        obtain ⟨σ6, H6, S6, q6⟩ := hsp
        refine gone_ok (pins := (a, oe4) :: pins) (unsuiteP S6 ok) hN hi hln fun s7 J7 => ?_
        have ea := ClX.pin_at J7
        have en := ClX.pin_un J7
        exact ⟨_, _, track (ClX.unpin J7) en s0a npin nL ea hd4 (exK_ok ea hz4 hd4), q6⟩
      | brk =>
        obtain ⟨σ6, H6, S6, q6⟩ := hsp
        exact end_ S6 fun s7 J7 => ⟨_, _, J7, q6⟩
      | cont =>
        obtain ⟨σ6, H6, S6, q6⟩ := hsp
        exact end_ S6 fun s7 J7 => ⟨_, _, J7, q6⟩
      | ret u =>
        obtain ⟨v6, σ6, H6, S6, r6, q6⟩ := hsp
        exact end_ S6 fun s7 J7 => ⟨_, _, _, J7, r6, q6⟩
    | false =>
      show wpAny _ X.A (handleBy (.ref a) X.env []) _ _ _
      refine wpAny_handleBy_nil ?_
      obtain ⟨k1, k2, k3, oe, vs, T, oT, ts', he, hz, hd, h1, hr⟩ := id fl3
      unfold PySem.passOn
      refine wpAny_bind (wpAny_field he hd h1 ?_)
      rw [if_neg (show ¬ ((Value.ref T == Value.none) = true) from by simp)]
      have fin : wpAny (model X.prog X.w) X.A (setFlight (.ref a) X.env.frame) (fun _ s4 => wpAny (model X.prog X.w) X.A (throw (.ref a) : Sem Flow) (SP X pins D) X.xe s4) X.xe { s' with heap := h3 } := by
        rw [hf]
        refine HandSPX.setFlight_upZ fl3 fun h4 hh4 up4 => wpAny_throw (tk _ _ ?_)
        exact ⟨a, B, sI, pins, σ', H', cls, d, rfl, J, nb, (up.trans up3).trans up4, .inr (.inr (by rw [hs]; exact hh4)), na, os, ag, hno rfl⟩
      first
        | exact wpAny_bind (wpAny_pure (wpAny_bind fin))
        | exact wpAny_bind fin
  · cases f with
    | next =>
      obtain ⟨σ', H', J', q⟩ := hsp
      exact wpAny_execs_nil ⟨σ', H', J'.ofTry ok, q⟩
    | brk =>
      obtain ⟨σ', H', J', q⟩ := hsp
      exact ⟨σ', H', J'.ofTry ok, q⟩
    | cont =>
      obtain ⟨σ', H', J', q⟩ := hsp
      exact ⟨σ', H', J'.ofTry ok, q⟩
    | ret u =>
      obtain ⟨v, σ', H', J', r, q⟩ := hsp
      exact ⟨v, σ', H', J'.ofTry ok, r, q⟩
end
/-! ## asked of behind the suite -/
/-- a holds an own error of the class at C, its dict holding v -/
def ErrAt (K : PySem.W.Frag) (D C a : Addr) (v : V) (H : Hp) : Prop := ErrC K D C ∧ ∃ dd, H a = some (ExK (.ref C) (some dd) a) ∧ H dd = some (.xd [("value", v)])
theorem ErrAt.same {K : PySem.W.Frag} {D C a : Addr} {v : V} {H H' : Hp} (h : ErrAt K D C a v H) (s : Same H H') : ErrAt K D C a v H' := by
  obtain ⟨T, dd, h1, h2⟩ := h
  exact ⟨T, dd, s _ _ h1, s _ _ h2⟩
section
variable {X : Cx} {D : Addr}
theorem inst_errK {pins : List (Addr × Obj)} {σ : L2.St} {H : Hp} {s : Shared} {C a : Addr} {v : V} (I : L2.Inv X pins σ H s) (h : ErrAt X.K D C a v H) : ∃ oe od u, PySem.W.InstAt s.heap a oe C (some od) ∧ RelV v u ∧ (∀ (T : ErrC X.K D C), PySem.W.findObj X.K C (some od) "value" = some (.value u)) := by
  obtain ⟨T, dd, h1, h2⟩ := h
  obtain ⟨⟨oe, vs, ho, hz, hd⟩, _, _⟩ := I.hok a _ h1
  have hx : ObjOk X.prog X.w H s.heap dd (.xd [("value", v)]) := I.hok dd _ h2
  obtain ⟨mA, hns, hr⟩ := hx
  obtain ⟨od, hod, hl⟩ := lookIn_ns hns
  have l : List.lookup ("value" : Str) [(("value" : Str), v)] = some v := by simp [List.lookup]
  obtain ⟨u, hu, ru⟩ := RelO.some_of (v := v) (o := mA "value") (by rw [← l]; exact hr "value")
  exact ⟨oe, od, u, ⟨ho, hz.1, by unfold PySem.W.notCls; rw [hd] <;> rfl, by rw [hz.2]; exact hod⟩, ru, fun T => PySem.W.findObj_own T.hd T.S.nov rfl (by rw [hl, hu])⟩
/-- e.value -/
def tEk (K : PySem.W.Frag) (D : Addr) (te : TE) : TE := fun σ H Q => te σ H fun x H1 => ∃ a C v, x = .ref a ∧ ErrAt K D C a v H1 ∧ Q v H1
theorem pe_ek {e : Expr} {te : TE} {pos : Pos} (he : PE X e te) (hb : attributeBase e "value" X.env (eval e X.env) = eval e X.env := by rfl) : PE X (.Attribute e "value" pos) (tEk X.K D te) := by
  refine ⟨fun pins s σ H Q I h => ?_⟩
  refine attr_of hb (thn (he.run pins s σ H _ I h) fun u s1 hh => ?_)
  obtain ⟨x, H1, I1, rx, a, C, v, ex, ea, q⟩ := hh
  subst ex
  obtain rfl : u = Value.ref a := rx
  obtain ⟨oe, od, u, J, ru, hf⟩ := inst_errK I1 ea
  have T := ea.1
  exact HandSPX.exc_get I1.kIn J T.hg T.hk T.S.ex.exC (hf T) (handed_of ru) ⟨v, H1, I1.tok _, ru, q⟩
/-- isinstance(e, c) -/
def rIsK (K : PySem.W.Frag) (D : Addr) : List V → Hp → VK → Prop := fun xs H Q => ∃ (a : Addr) (c : V) (cv : Value) (b : Bool) (C : Addr) (v : V), xs = [.ref a, c] ∧ (∀ u, RelV c u → u = cv) ∧ ErrAt K D C a v H ∧ PySem.W.kitOne K (.ref C) cv = some b ∧ Q (.bl b) H
def rIsKT (K : PySem.W.Frag) (D : Addr) : List V → Hp → VK → Prop := fun xs H Q => ∃ (a tp : Addr) (cs : List Addr) (b : Bool) (C : Addr) (v : V), xs = [.ref a, .ref tp] ∧ H tp = some (.tup (cs.map V.ref)) ∧ ErrAt K D C a v H ∧ PySem.W.kitAny K (.ref C) (cs.map Value.ref) = some b ∧ Q (.bl b) H
theorem call_isK (G : ClsG X.K) : CallR X (.builtin "isinstance") (rIsK X.K D) := by
  intro pins s σ H xs us Q I r h
  obtain ⟨a, c, cv, b, C, v, rfl, hcv, ea, e, q⟩ := h
  cases r with
  | cons rx rr =>
    cases rr with
    | cons rt rr =>
      cases rr
      cases rx
      have ec := hcv _ rt
      subst ec
      obtain ⟨oe, od, u, J, _, _⟩ := inst_errK I ea
      exact PySem.W.kia_one (kitx_err ea.1 G) I.kIn J e (fun z => nomatch z) fun tk => ⟨.bl b, H, I.kept (t' := tk) fun _ _ z => z, rfl, q⟩
theorem call_isKT (G : ClsG X.K) : CallR X (.builtin "isinstance") (rIsKT X.K D) := by
  intro pins s σ H xs us Q I r h
  obtain ⟨a, tp, cs, b, C, v, rfl, htp, ea, e, q⟩ := h
  cases r with
  | cons rx rr =>
    cases rr with
    | cons rt rr =>
      cases rr
      cases rx
      cases rt
      obtain ⟨oe, od, u, J, _, _⟩ := inst_errK I ea
      obtain ⟨its, rv, ⟨o, ho, hcl, n, hd⟩, _⟩ := I.tuple (SqT.of htp)
      have ei := vals_refs rv
      obtain ⟨c0, d0, dt0, sl0⟩ := o
      dsimp only at hcl hd
      subst hcl hd
      rw [ei] at ho
      exact PySem.W.kia_tup (its := cs.map Value.ref) (kitx_err ea.1 G) I.kIn J ho e (fun z => nomatch z) fun tk => ⟨.bl b, H, I.kept (t' := tk) fun _ _ z => z, rfl, q⟩
end
end HC

/-! an own exception made by a call with keywords -/
namespace PySem
namespace HandSPX
open Builtin Builtin.ObjectAttr
section
variable {M : Model} {A : Around} {E : Value → Shared → Prop} {h : Heap} {g : Array GenState} {d : Drawn} {t : Nat} {os : OsState}
variable {nm q : Str} {C N : Addr} {bs bm bmB : List Value} {hdct : Bool} {sn : List Str} {sub : List Value} {ab : Bool} {col : Option Bool} {dd : Option Addr} {k0 k1 k2 k3 k5 : Option Value} {B newId initId : String} {kw : List (Str × Value)}
theorem check_new_ownK (F : ExcBaseFacts B newId initId bmB) (hT : ∀ X : String, bm.contains (.type X) = bmB.contains (.type X)) {rest : List Value} {Q : Unit → Shared → Prop}
    (hC : h.get? C = some (excClassObj nm q C N bs bm hdct sn sub ab col dd k0 k1 k2 k3 k5 newId)) (hq : Q () ⟨h, g, d, t, os⟩) : wpAny M A (checkBuiltinCall newId ⟨.ref C :: rest, kw⟩) Q E ⟨h, g, d, t, os⟩ := by
  have hcont : (Value.ref C :: bm).contains (.type B) = true := by rw [List.contains_cons, hT, F.hasB, Bool.or_true]
  have hstar := F.noStar
  simp only [checkBuiltinCall, F.newKind, F.newSplit, F.newRow]
  repeat (first | refine wpAny_loadPart_at hC ?_ | (refine wpAny_isSubtype_exc hC ?_; rw [hcont]) | refine wpAny_staticBase_exc hC ?_ | refine wpAny_madeBy_exc hC ?_ | simp only [bne_self_eq_false, Bool.false_eq_true, if_false] | wp_step)
  exact hq
end
section
variable {prog : Program} {w : World} {A : Around} {E : Value → Shared → Prop} {R : Result → Shared → Prop} {h : Heap} {g : Array GenState} {d : Drawn} {t : Nat} {os : OsState}
variable {nm q : Str} {C N : Addr} {bs bm bmB : List Value} {hdct : Bool} {sn : List Str} {sub : List Value} {ab : Bool} {col : Option Bool} {dd : Option Addr} {k0 k1 k2 k3 k5 : Option Value} {B newId initId : String} {kw : List (Str × Value)}
theorem new_ownK (F : ExcBaseFacts B newId initId bmB) (hT : ∀ X : String, bm.contains (.type X) = bmB.contains (.type X)) {rest : List Value}
    (hC : h.get? C = some (excClassObj nm q C N bs bm hdct sn sub ab col dd k0 k1 k2 k3 k5 newId))
    (hq : R (.ok (.ret (.ref (h.objs.size + 1)))) ⟨(h.push { cls := .type "tuple", data := .seq rest.toArray }).push
      { cls := .ref C, data := .fields #[.ref h.objs.size, .none, .none, .none, .bool false, .none] }, g, d, t, os⟩) (hrest : rest.length ≤ sizeLine) :
    codeAny (model prog w) A (.builtin newId ⟨.ref C :: rest, kw⟩) R ⟨h, g, d, t, os⟩ := by
  have hends := F.ends
  have hcB : (Value.ref C :: bm).contains (.type B) = true := by rw [List.contains_cons, hT, F.hasB, Bool.or_true]
  have hcA : (Value.ref C :: bm).contains (.type "AttributeError") = false := by rw [List.contains_cons, hT, F.noAttr]; rfl
  have hcN : (Value.ref C :: bm).contains (.type "NameError") = false := by rw [List.contains_cons, hT, F.noName]; rfl
  refine codeAny_builtinAt F.entry ?_
  unfold Builtin.«BaseException.__new__»
  refine wpAt_bind ?_
  show wpAt _ _ _ (stack >>= _) _ _ _
  refine wpAt_bind (wpAt_stack fun p below => wpAt_of_wpAny ?_)
  wp_walk
  refine wpAt_of_wpAny ?_
  rw [F.owner]
  repeat (first | with_reducible refine wpAny_madeHere_exc F.canon hC ?_ | with_reducible refine wpAny_loadPart_at hC ?_ | (with_reducible refine wpAny_isSubtype_exc hC ?_; first | rw [hcB] | rw [hcA] | rw [hcN]) | wp_step)
  show R _ _
  rw [Heap.size_push]
  exact hq
theorem type_call_ownK (F : ExcBaseFacts B newId initId bmB) (hT : ∀ X : String, bm.contains (.type X) = bmB.contains (.type X)) {rest : List Value} {fI : Addr} {Q : Fin → Shared → Prop}
    (hC : h.get? C = some (excClassObj nm q C N bs bm hdct sn sub ab col dd k0 k1 k2 k3 k5 newId))
    (hi : W.Looks (model prog w) h (typeLookup (.ref C) "__init__") (some (.ref fI))) (hb : ∀ self, W.Looks (model prog w) h (bindSpecial (.ref fI) self) (.ref fI, [self])) (hrest : rest.length ≤ sizeLine)
    (hq : codeAny (model prog w) A (.call (.ref fI) ⟨.ref (h.objs.size + 1) :: rest, kw⟩)
      (fun r s' => match r with | .ok (.ret v) => v = .none ∧ Q (.done (.ret (.ref (h.objs.size + 1)))) s' | .ok _ => False | .error e => E e s')
      ⟨(h.push (W.kdv_tup rest)).push (excO C h.objs.size), g, d, t, os⟩) :
    wpAny (model prog w) A (Builtin.«type.__call__» ⟨.ref C :: rest, kw⟩) Q E ⟨h, g, d, t, os⟩ := by
  repeat (first | with_reducible refine wpAny_loadPart_at hC ?_ | with_reducible refine wpAny_madeBy_exc hC ?_ | wp_step)
  refine codeAny_call_builtin_code (Code.quiet_builtin _ F.quiet) (check_new_ownK F hT hC ?_)
  refine new_ownK F hT hC ?_ hrest
  show wpAny _ _ _ _ _ _
  have k : ∀ b o, h.get? b = some o → ((h.push (W.kdv_tup rest)).push (excO C h.objs.size)).get? b = some o := fun b o e => Heap.get?_push_of_some _ (Heap.get?_push_of_some _ e)
  have hC₁ := k _ _ hC
  have hget : ((h.push (W.kdv_tup rest)).push (excO C h.objs.size)).get? (h.objs.size + 1) = some (excO C h.objs.size) := by heap_get
  have hcC : (Value.ref C :: bm).contains (.ref C) = true := by simp
  have i1 := hi.keeps k
  have b1 := (hb (.ref (h.objs.size + 1))).keeps k
  unfold isInstance
  repeat (first | with_reducible refine wpAny_loadPart_at hget ?_ | (with_reducible refine wpAny_isSubtype_exc hC₁ ?_; rw [hcC]) | wp_step)
  show wpAny _ _ (typeLookup (.ref C) _) _ _ _
  refine i1.at ?_
  refine wpAny_holding (wpAny_bind (b1.at ?_))
  refine wpAny_bind (wpAny_call (codeAny_mono hq fun r s' z => ?_))
  rcases r with e | (v | _ | _ | _) <;> first | exact z | exact z.elim | skip
  obtain ⟨rfl, z⟩ := z
  first
    | exact wpAny_pure (wpAny_pure z)
    | (wp_walk; exact z)
theorem call_ownK (F : ExcBaseFacts B newId initId bmB) (hT : ∀ X : String, bm.contains (.type X) = bmB.contains (.type X)) {rest : List Value} {fI : Addr}
    (hC : h.get? C = some (excClassObj nm q C N bs bm hdct sn sub ab col dd k0 k1 k2 k3 k5 newId))
    (hi : W.Looks (model prog w) h (typeLookup (.ref C) "__init__") (some (.ref fI))) (hb : ∀ self, W.Looks (model prog w) h (bindSpecial (.ref fI) self) (.ref fI, [self])) (hrest : rest.length ≤ sizeLine)
    (hq : codeAny (model prog w) (A.under (.builtin "type.__call__" ⟨.ref C :: rest, kw⟩)) (.call (.ref fI) ⟨.ref (h.objs.size + 1) :: rest, kw⟩) (W.InitBack (h.objs.size + 1) R)
      ⟨(h.push (W.kdv_tup rest)).push (excO C h.objs.size), g, d, t, os⟩) :
    codeAny (model prog w) A (.call (.ref C) ⟨rest, kw⟩) R ⟨h, g, d, t, os⟩ := by
  have f1 := tc_lookup
  have f2 := tc_bind (.ref C)
  have hTy : (⟨h, g, d, t, os⟩ : Shared).TypeIs (.ref C) "type" := ⟨_, hC, rfl⟩
  refine codeAny_of_tree ?_
  show wpAny _ _ (callAny (.ref C) _) _ _ _
  repeat (any_goals (first | assumption | with_reducible refine wpAny_loadPart_at hC ?_ | wp_step))
  refine ⟨rfl, ?_⟩
  refine codeAny_call_builtin_at (Code.quiet_builtin _ (by decide +kernel)) entry_typeCall (wpAny_check_type_call_sub hC (type_call_ownK F hT hC hi hb hrest ?_))
  refine codeAny_mono hq fun r s' z => ?_
  rcases r with e | (v | _ | _ | _) <;> exact z
end
end HandSPX
end PySem

namespace HC
open PySem PySem.Spec PyProof.Rows L2 NdefX L2H
/-! ## what repr shows, where nothing is being shown -/
def dLst : PyData := .list [.int 1, .str (T [48])]
def dTup : PyData := .tuple [.str (T [48]), .str (T [49])]
def dDic : PyData := .dict [(.str (T [97]), .int 1)]
inductive Sh (K : PySem.W.Frag) (H : Hp) : V → Str → Prop
  | non : Sh K H .non "None"
  | str (y : Str) (h : (reprText y).length ≤ sizeLine) : Sh K H (.str y) (reprText y)
  | int (i : Int) (h : i.natAbs.log2 < 1920) : Sh K H (.int i) (toString i : String)
  | lst (a : Addr) (h : H a = some (.lst [.int 1, .str (T [48])])) : Sh K H (.ref a) dLst.shown
  | tup (a : Addr) (h : H a = some (.tup [.str (T [48]), .str (T [49])])) : Sh K H (.ref a) dTup.shown
  | dic (a : Addr) (h : H a = some (.dK [(Sum.inr (T [97]), .int 1)])) : Sh K H (.ref a) dDic.shown
theorem Sh.same {K : PySem.W.Frag} {H H' : Hp} {x : V} {m : Str} (h : Sh K H x m) (s : Same H H') : Sh K H' x m := by
  cases h with
  | non => exact .non
  | str y h => exact .str y h
  | int i h => exact .int i h
  | lst a h => exact .lst a (s _ _ h)
  | tup a h => exact .tup a (s _ _ h)
  | dic a h => exact .dic a (s _ _ h)
theorem dLst_len : dLst.shown.length ≤ sizeLine := by decide +kernel
theorem dTup_len : dTup.shown.length ≤ sizeLine := by decide +kernel
theorem dDic_len : dDic.shown.length ≤ sizeLine := by decide +kernel
theorem Sh.len {K : PySem.W.Frag} {H : Hp} {x : V} {m : Str} (h : Sh K H x m) : m.length ≤ sizeLine := by
  cases h with
  | non => decide +kernel
  | str y h => exact h
  | int i h => exact int_text_fits h
  | lst a h => exact dLst_len
  | tup a h => exact dTup_len
  | dic a h => exact dDic_len
section
variable {X : Cx} {pins : List (Addr × Obj)} {σ : L2.St} {H : Hp} {s : Shared}
theorem dic_reads (I : L2.Inv X pins σ H s) {a : Addr} (h : H a = some (.dK [(Sum.inr (T [97]), .int 1)])) : ∃ as, Reads s.heap (.ref a) dDic as ∧ (dDic.hasDict = true → sysModules ∉ as) := by
  obtain ⟨_, hne, vs, kv, o, es, ep, ho, hex, hd, _, hp, _⟩ := dk_of I.hok h
  cases kv with
  | cons k1 k2 =>
    cases k2
    obtain ⟨e1, e2⟩ := k1
    generalize hes : es.toList = l at hp
    cases hp with
    | cons q1 q2 q3 =>
      cases q3
      rw [← e1] at q1
      rcases keyIs_shape (show keyIs (Sum.inr (T [97])) _ = true from q1) with ⟨i, t, z, _⟩ | ⟨x, t, z, ek⟩
      · cases z
      · cases z
        rw [← q2] at e2
        obtain ⟨t2, ev⟩ := e2
        refine ⟨_, Reads.dict (kvs := [(.str (T [97]), .int 1)]) ho hex.1 hd (as := []) (bs := []) ?_ ?_, fun _ hm => ?_⟩
        · rw [hes]
          rename_i e
          show ReadsAll s.heap [e.key] [.str (T [97])] []
          rw [ek]
          exact ReadsAll.cons (as := []) (bs := []) (Reads.str _ _) ReadsAll.nil
        · rw [hes]
          rename_i e
          show ReadsAll s.heap [e.val] [.int 1] []
          rw [ev]
          exact ReadsAll.cons (as := []) (bs := []) (Reads.int _ _) ReadsAll.nil
        · have : sysModules = a := by simpa using hm
          rw [← this] at hne
          simp at hne
theorem Sh.reads (I : L2.Inv X pins σ H s) {a : Addr} {m : Str} (h : Sh X.K H (.ref a) m) : ∃ as d, Reads s.heap (.ref a) d as ∧ (d.hasDict = true → sysModules ∉ as) ∧ d.showable = true ∧ d.depth ≤ 4 ∧ m = d.shown := by
  cases h with
  | lst a h =>
    obtain ⟨as, r⟩ := Dp.reads I dLst (.ref a) (.ref a) (.lst (SqL.of h) (.cons (.int 1) (.cons (.str _) .nil))) rfl
    exact ⟨as, dLst, r, PyData.noDict_hsm rfl, by decide +kernel, by decide +kernel, rfl⟩
  | tup a h =>
    obtain ⟨as, r⟩ := Dp.reads I dTup (.ref a) (.ref a) (.tup (SqT.of h) (.cons (.str _) (.cons (.str _) .nil))) rfl
    exact ⟨as, dTup, r, PyData.noDict_hsm rfl, by decide +kernel, by decide +kernel, rfl⟩
  | dic a h =>
    obtain ⟨as, r, q⟩ := dic_reads I h
    exact ⟨as, dDic, r, q, by decide +kernel, by decide +kernel, rfl⟩
theorem call_reprQ {k : Nat} (qa : Qt X.A) (hr : Room k X.A) : CallR X (.builtin "repr") (fun xs H Q => ∃ x m, xs = [x] ∧ Sh X.K H x m ∧ Q (.str m) H) := by
  intro pins s σ H xs us Q I r h
  obtain ⟨x, m, rfl, hs, q⟩ := h
  obtain ⟨u, rfl, ru⟩ := vals1 r
  have hu := hr.units
  have hl := hs.len
  cases x with
  | ref a =>
    cases ru
    obtain ⟨as, d, rd, hsm, hsh, hdp, e⟩ := hs.reads I
    subst e
    exact repr_of_reads' rd hsh hsm qa (by omega) (fun _ _ e => e) (fun h' u tk kp => ⟨.str d.shown, H, I.kept (t' := tk) kp, ⟨u, rfl⟩, q⟩) hl
  | non =>
    cases hs
    cases ru
    exact call_repr_gives (typeIs_none s) F.slot_NoneType_repr F.entry_NoneType_repr (F.args_NoneType_repr_1 _) gives_none_repr ⟨.str _, H, I.tok _, ⟨_, rfl⟩, q⟩ (hx := hl)
  | str y =>
    cases hs
    obtain ⟨t, rfl⟩ := ru
    exact call_repr_gives (typeIs_str s y t) F.slot_str_repr F.entry_str_repr (F.args_str_repr_1 _) (gives_str_repr y t) ⟨.str _, H, I.tok _, ⟨_, rfl⟩, q⟩ (hx := hl)
  | int i =>
    cases hs with
    | int i hz =>
      obtain ⟨t, rfl⟩ := ru
      exact PySem.P.repr_of_int hz ⟨.str _, H, I.tok _, ⟨_, rfl⟩, q⟩
  | _ => cases hs
def tFmtRQ (K : PySem.W.Frag) (te : TE) : TE := fun σ H Q => te σ H fun x H1 => ∃ m, Sh K H1 x m ∧ Q (.str m) H1
theorem pe_fmtRQ {e : Expr} {te : TE} {pos : Pos} (qa : Qt X.A) (hu : X.A.units + 100 < cLine) (he : PE X e te) : PE X (.FormattedValue e 114 none pos) (tFmtRQ X.K te) := by
  refine ⟨fun pins s σ H Q I h => ?_⟩
  refine wpAny_FormattedValue_repr (thn (he.run pins s σ H _ I h) fun v s1 hv => ?_)
  obtain ⟨x, H1, I1, r1, m, sh, q⟩ := hv
  have hl := sh.len
  have fin : ∀ (h' : Heap) (u tk : Tok), (∀ b o, s1.heap.get? b = some o → h'.get? b = some o) → wpAny (model X.prog X.w) X.A (formatField (.str m u) Str.empty) (EP X pins σ Q) X.xe { s1 with heap := h', toks := tk } := fun h' u tk kp =>
    wpAny_formatField_str ⟨.str m, H1, I1.kept (t' := tk) kp, ⟨_, rfl⟩, q⟩ ⟨.str m, H1, (I1.kept (t' := tk) kp).tok _, ⟨_, rfl⟩, q⟩ hl
  have fin0 : ∀ (u tk : Tok), wpAny (model X.prog X.w) X.A (formatField (.str m u) Str.empty) (EP X pins σ Q) X.xe { s1 with toks := tk } := fun u tk => fin s1.heap u tk fun _ _ z => z
  cases x with
  | ref a =>
    cases r1
    obtain ⟨as, d, rd, hsm, hsh, hdp, e⟩ := sh.reads I1
    subst e
    exact pyReprObj_of_reads rd hsh hsm qa (by omega) (fun _ _ e => e) (fun h' u tk kp => fin h' u tk kp) hl
  | non =>
    cases sh
    cases r1
    exact pyReprObj_none (fin0 _ _)
  | str y =>
    cases sh
    obtain ⟨t, rfl⟩ := r1
    exact pyReprObj_str (fin0 _ _) hl
  | int i =>
    cases sh with
    | int i hz =>
      obtain ⟨t, rfl⟩ := r1
      exact pyReprObj_int hz (fin0 _ _)
  | _ => cases sh
end
end HC

namespace HC
open PySem PySem.Spec PyProof.Rows L2 NdefX L2H
/-! ## CutError.__init__ where nothing is being shown -/
def spSupQ (K : PySem.W.Frag) (D : Addr) : Sp := fun vs H Q _ => ∃ (a C : Addr) (y : V) (m : Str), vs = [.ref a, y] ∧ H a = some (exo a C none) ∧ SubOf K D C ∧ Sh K H y m ∧ ∀ d, H d = none → d ≠ a → Q .non (upd (upd H d (exd d [("value", y)])) a (exo a C (some d)))
section
variable {P : Program} {w : World} {K : PySem.W.Frag} {mg : Str → Option Value} {base : Heap} {f cda cc D : Addr} {nm q : Str} {params : Arguments} {body : List Stmt} {dV kV doc pm ctv oc : Value} {an od : Option Addr} {osl : Array (Option Value)}
/-- the first statement, then the second, in any context of that frame -/
theorem sup_bodyQ {X : Cx} {L : Addr} {p0 p1 p2 p3 p4 p5 p6 p7 p8 p9 p10 p11 : Pos} (T : SupT X.prog X.K X.mg f cda cc D) (henv : X.env = PySem.W.envX q supSc L f (.ref cda) [("__class__", cc)]) (hN : X.N = supN) {s : Shared} {H : Hp} {a C : Addr} {y : V}
    (I : L2.Inv X [] (startF supN [.ref a, y] [none]) H s) (qa : Qt X.A) (hu : X.A.units + 100 < cLine) (ea : H a = some (exo a C none)) (G : SubOf X.K D C) {m : Str} (sh : Sh X.K H y m) {Q : VK}
    (hq : ∀ d, H d = none → d ≠ a → Q .non (upd (upd H d (exd d [("value", y)])) a (exo a C (some d)))) (bd : List Stmt) (hl : (p2.endLine == p3.line) = true) :
    _root_.PySem.wpAt (model X.prog X.w) X.A (.func bd X.env) (execs (supB p0 p1 p2 p3 p4 p5 p6 p7 p8 p9 p10 p11) X.env) (SP X [] { nx := fun _ H' => Q .non H', rt := Q }) X.xe s := by
  have S : SupS X.env.scope := by rw [henv]; exact supSc_s
  have hf : X.env.func = some f := by rw [henv]
  have hco : X.env.code = .ref cda := by rw [henv]
  have hcc : X.env.cells.lookup ("__class__" : Str) = some cc := by rw [henv]; rfl
  have h0 : X.N[0]? = some ("self" : Str) := by rw [hN]; rfl
  have h1 : X.N[1]? = some ("value" : Str) := by rw [hN]; rfl
  have vself : Vis X.env.scope "self" := by rw [henv]; exact .inl supSc_self
  have vval : Vis X.env.scope "value" := by rw [henv]; exact .inl supSc_val
  have pself : ∀ p, PE X (.Name "self" p) (tVar 0) := fun p => pe_var h0 vself
  have pval : ∀ p, PE X (.Name "value" p) (tVar 1) := fun p => pe_var h1 vval
  refine PySem.ks_wpAt_execs_cons ?_
  refine PySem.ks_wpAt_mono (sup_first (e := .JoinedStr [.FormattedValue (.Name "value" p5) 114 none p6] p7) T S hf hco hcc h0 I rfl G ea (pe_joined1 (pe_fmtRQ qa hu (pval p5))) ⟨y, rfl, m, sh, rfl⟩ (sup_mcall hl (by rw [henv]; rfl)) (by rw [henv]; rfl) (by rw [henv]; rfl) (by rw [henv]; rfl)) (fun fl s1 hfl => ?_) fun _ _ z => z
  obtain ⟨rfl, I1⟩ := hfl
  refine wpAt_of_wpAny ?_
  have P2 : PSs X [.Assign [.Attribute (.Name "self" p8) "value" p9] (.Name "value" p10) p11] _ := pss_one (ps_ost (pself p8) (pval p10) (by rw [henv]; rfl))
  refine P2.run [] s1 _ H { nx := fun _ H' => Q .non H', rt := Q } I1 ?_
  exact ⟨y, rfl, .ref a, rfl, a, C, rfl, G.ex, G.nov, .inl ⟨ea, fun dx n ne => hq dx n ne⟩⟩
variable {p0 p1 p2 p3 p4 p5 p6 p7 p8 p9 p10 p11 : Pos}
theorem sup_lenQ (vs : List V) (H : Hp) (Q : VK) (E : XK) (h : spSupQ K D vs H Q E) : vs.length = (["self", "value"] : List Str).length := by
  obtain ⟨a, C, y, m, rfl, _⟩ := h
  rfl
/-- CutError.__init__ -/
theorem ok_supQ (lk : K.lookup f = some ⟨oc, od, .func (PySem.W.fnX nm q params (supB p0 p1 p2 p3 p4 p5 p6 p7 p8 p9 p10 p11) supSc [("__class__", cc)] dV kV doc pm an (.ref cda) ctv), osl⟩) (hcd : PySem.W.codeIn K (.ref cda) q = true) (T : SupT P K mg f cda cc D) (hl : (p2.endLine == p3.line) = true) :
    FnQ P w K mg base 1 f (PySem.W.fnX nm q params (supB p0 p1 p2 p3 p4 p5 p6 p7 p8 p9 p10 p11) supSc [("__class__", cc)] dV kV doc pm an (.ref cda) ctv) ["self", "value"] (spSupQ K D) := by
  refine ⟨sup_lenQ, fun A qa outer s H args us vs Q E hr e0 hb r hsp => ?_⟩
  have hlen := sup_lenQ vs H Q E hsp
  obtain ⟨a, C, y, m, rfl, ea, G, sh, hq⟩ := hsp
  have KX : K.In s.heap := e0.mod.kin.keeps fun b o e => (e0.bs b o e).1
  have lim : s.heap.NoLimit := e0.mod.nolimit.keeps fun b o e => (e0.bs b o e).1
  refine PySem.ks_codeAny_call_defAt (body := supB p0 p1 p2 p3 p4 p5 p6 p7 p8 p9 p10 p11) hr.depth (KX _ _ lk) rfl lim (PySem.W.codeRec_of KX hcd) rfl hb supSc_n.nocell (fun ⟨n, v⟩ hy => supSc_n.par n (List.of_mem_zip hy).1) (fun h₁ hns kp => ?_) rfl rfl rfl
  have I : L2.Inv (ncx CX0 P w K mg base supN (supF nm q params (supB p0 p1 p2 p3 p4 p5 p6 p7 p8 p9 p10 p11) cc cda) f A outer s H E) [] (startF supN [.ref a, y] [none]) H { s with heap := h₁, toks := s.toks + ((["self", "value"] : List Str).zip us).length } :=
    inv_startN (F := supF nm q params (supB p0 p1 p2 p3 p4 p5 p6 p7 p8 p9 p10 p11) cc cda) supSc_n hr.hd e0 hlen r (sup_cells T e0) hns kp
  have hu : (ncx CX0 P w K mg base supN (supF nm q params (supB p0 p1 p2 p3 p4 p5 p6 p7 p8 p9 p10 p11) cc cda) f A outer s H E).A.units + 100 < cLine := by
    have := hr.un
    show A.units + 3 + 100 < _
    omega
  refine PySem.ks_wpAt_mono (sup_bodyQ T rfl rfl I qa hu ea G sh hq _ hl) (fun fl s' hs => ?_) fun e s' z => z
  have fin : ∀ {σ' : L2.St} {H' : Hp} {v : V} {u : Value}, L2.Inv (ncx CX0 P w K mg base supN (supF nm q params (supB p0 p1 p2 p3 p4 p5 p6 p7 p8 p9 p10 p11) cc cda) f A outer s H E) [] σ' H' s' → L2.RelV v u → Q v H' → CE outer P w H s Q u s' :=
    fun {σ' H' v u} J rv q => ⟨v, H', J.os, J.bare, J.base, J.hok, rv, q⟩
  cases fl with
  | ret u =>
    obtain ⟨v, σ', H', J, rv, q⟩ := hs
    exact fin J rv q
  | next =>
    obtain ⟨σ', H', J, q⟩ := hs
    exact fin (v := V.non) (u := Value.none) J rfl q
  | brk =>
    obtain ⟨_, _, _, q⟩ := hs
    exact False.elim q
  | cont =>
    obtain ⟨_, _, _, q⟩ := hs
    exact False.elim q
end
end HC

namespace HC
open PySem PySem.Spec PyProof.Rows L2 NdefX L2H
/-! ## own errors as values -/
/-- a holds an own error of the class at C, not raised, its dict holding v -/
def ErrO (K : PySem.W.Frag) (D C a : Addr) (v : V) (H : Hp) : Prop := ErrC K D C ∧ ∃ dd, H a = some (exo a C (some dd)) ∧ H dd = some (exd dd [("value", v)])
theorem ErrO.same {K : PySem.W.Frag} {D C a : Addr} {v : V} {H H' : Hp} (h : ErrO K D C a v H) (s : Same H H') : ErrO K D C a v H' := by
  obtain ⟨T, dd, h1, h2⟩ := h
  exact ⟨T, dd, s _ _ h1, s _ _ h2⟩
def tMkV (K : PySem.W.Frag) (D C : Addr) (te : TE) : TE := fun σ H Q => te σ H fun y H1 => ∃ m, Sh K H1 y m ∧ ∀ a H2, Same H1 H2 → ErrO K D C a y H2 → Q (.ref a) H2
theorem qt_under {A : Around} {c : Code} (h : Qt A) (hc : c.isGuard = false) : Qt (A.under c) := by
  unfold Qt at h ⊢
  simp [Around.under, Code.guards, hc, pushGuards, h]
theorem sh_new {K : PySem.W.Frag} {H : Hp} {y : V} {m : Str} {a : Addr} {o : HO} (h : Sh K H y m) (n : H a = none) : Sh K (L2.upd H a o) y m := h.same (Same.new n)
section
variable {X : Cx} {D fI C : Addr} {x : Str} {fd : FuncData} {e : Expr} {te : TE} {p pos : Pos}
/-- the call itself -/
theorem run_mkE {pins : List (Addr × Obj)} {σ : L2.St} {H1 : Hp} {s1 : Shared} {Q : VK} {us : List Value} {kw : List (Str × Value)} {u : Value} {y : V} {m : Str} (qa : Qt X.A) (T : ErrT X.K X.mg D fI x C) (F1 : FnQ X.prog X.w X.K X.mg X.base 1 fI fd ["self", "value"] (spSupQ X.K D)) (hr : Room 2 X.A)
    (I1 : L2.Inv X pins σ H1 s1) (ry : RelV y u) (sh : Sh X.K H1 y m) (hus : us.length ≤ 1) (hb : ∀ (s : Shared) (a : Value), X.K.In s.heap → BindsTo s fd ⟨a :: us, kw⟩ [("self", a), ("value", u)])
    (q : ∀ a H2, Same H1 H2 → ErrO X.K D C a y H2 → Q (.ref a) H2) : wpAny (model X.prog X.w) X.A (call (.ref C) us kw) (EP X pins σ Q) X.xe s1 := by
  obtain ⟨nm, qn, N, bs, bm, sn, sub, ab, col, dd, k0, k1, k2, k3, k5, hC, hbm⟩ := T.c.S.ex.cls
  obtain ⟨hp, g, dr, tk, os⟩ := s1
  have hsz : hp.objs.size ≤ hp.objs.size + 1 := Nat.le_succ _
  have hn : H1 (hp.objs.size + 1) = none := I1.hok.fresh hsz
  have kk : ∀ b o, hp.get? b = some o → ((hp.push (PySem.W.kdv_tup us)).push (PySem.HandSPX.excO C hp.objs.size)).get? b = some o := fun b o e => Heap.get?_push_of_some _ (Heap.get?_push_of_some _ e)
  have hget : ((hp.push (PySem.W.kdv_tup us)).push (PySem.HandSPX.excO C hp.objs.size)).get? (hp.objs.size + 1) = some (PySem.HandSPX.excO C hp.objs.size) := by heap_get
  have I2 : L2.Inv X pins σ (upd H1 (hp.objs.size + 1) (exo (hp.objs.size + 1) C none)) ⟨(hp.push (PySem.W.kdv_tup us)).push (PySem.HandSPX.excO C hp.objs.size), g, dr, tk, os⟩ :=
    I1.laid (t' := tk) (a := hp.objs.size + 1) (o := exo (hp.objs.size + 1) C none) (h' := (hp.push (PySem.W.kdv_tup us)).push (PySem.HandSPX.excO C hp.objs.size)) kk hsz (exo_ok hget)
  have b2 := hb _ (Value.ref (hp.objs.size + 1)) I2.kIn
  have want : spSupQ X.K D [.ref (hp.objs.size + 1), y] (upd H1 (hp.objs.size + 1) (exo (hp.objs.size + 1) C none)) (fun v H2 => v = .non ∧ Q (.ref (hp.objs.size + 1)) H2) E0 := by
    refine ⟨_, C, y, m, rfl, upd_same, T.c.S, sh_new sh hn, fun d hd ne => ⟨rfl, ?_⟩⟩
    rw [upd_ne ne] at hd
    refine q _ _ (fun b o hb => ?_) ⟨T.c, d, upd_same, ?_⟩
    · rw [upd_ne (ne_of_none hb hn), upd_ne (ne_of_none hb hd), upd_ne (ne_of_none hb hn)]
      exact hb
    · rw [upd_ne ne, upd_same]
  refine wpAny_call (PySem.HandSPX.call_ownK F.excBase_ValueError (fun Y => PySem.HandSPX.refsVE_contains Y bm hbm) (I1.kIn _ _ hC) (PySem.W.looks_findIn I1.kIn T.iC) (fun self => PySem.W.bind_fn I1.kIn self T.tI) (by rw [sizeLine_eq]; omega)
    (codeAny_mono (F1.run _ (qt_under qa (by show guardIds.contains "type.__call__" = false; decide +kernel)) X.stack _ _ ⟨Value.ref (hp.objs.size + 1) :: us, kw⟩ [Value.ref (hp.objs.size + 1), u] [V.ref (hp.objs.size + 1), y] _ E0 (hr.make C us kw) (I2.env0.make C us kw) b2 (.cons rfl (.cons ry .nil)) want) fun r s' hq' => ?_))
  cases r with
  | error er => exact False.elim hq'
  | ok fl =>
    cases fl with
    | ret u =>
      obtain ⟨v, H', I3, rv, ev, q3⟩ := I2.after hq'
      subst ev
      exact ⟨rv, ⟨V.ref _, H', I3, rfl, q3⟩⟩
    | next => exact False.elim hq'
    | brk => exact False.elim hq'
    | cont => exact False.elim hq'
theorem pe_mkE (qa : Qt X.A) (T : ErrT X.K X.mg D fI x C) (F1 : FnQ X.prog X.w X.K X.mg X.base 1 fI fd ["self", "value"] (spSupQ X.K D)) (hb : Binds X.K fd ["self", "value"] []) (hr : Room 2 X.A) (hg : Gl X x) (he : PE X e te)
    (hdb : (x == ("__debug__" : Str)) = false := by decide) (hse : starEach [e] X.env = (false, eval e X.env) :: starEach [] X.env := by rfl) : PE X (.Call (.Name x p) [e] [] pos) (tMkV X.K D C te) := by
  refine ⟨fun pins s σ H Q I h => ?_⟩
  refine wpAny_Call_Name_kw (ld_glob I hg T.gC ?_ hdb)
  refine PySem.W.callWith_K (h₀ := X.base) I.ok.mod.kin T.c.S.ex.kC ?_ hse (by rfl)
  rw [hse]
  show wpAny _ _ (spliced ((false, eval e X.env) :: backTo pos (starEach [] X.env))) _ _ s
  refine Calls.spliced_cons (thn (he.run pins s σ H _ I h) fun u s1 ⟨v, H1, I1, r1, m, sh, q1⟩ => ?_)
  refine Calls.spliced_nil ⟨I1.kIn, ?_⟩
  refine run_mkE (us := [u]) (kw := []) qa T F1 hr I1 r1 sh (by simp) (fun s a k => ?_) q1
  have b := hb s [a, u] k rfl
  rw [List.append_nil] at b
  exact b
/-- C(value = e) -/
theorem pe_mkEK {kp : Pos} (qa : Qt X.A) (T : ErrT X.K X.mg D fI x C) (F1 : FnQ X.prog X.w X.K X.mg X.base 1 fI fd ["self", "value"] (spSupQ X.K D)) (hb : ∀ a b : Value, bindArgs fd ⟨[a], [(("value" : Str), b)]⟩ = pure [(("self" : Str), a), (("value" : Str), b)]) (hr : Room 2 X.A) (hg : Gl X x) (he : PE X e te)
    (hdb : (x == ("__debug__" : Str)) = false := by decide) (hall : (backToKw pos (keywordEach [⟨some ("value" : Str), e, kp⟩] X.env)).all (·.1.isSome) = true := by rfl) (hks : (backToKw pos (keywordEach [⟨some ("value" : Str), e, kp⟩] X.env)).filterMap (·.1) = [("value" : Str)] := by rfl)
    (hpl : ((backTo pos (starEach [] X.env)).any (·.1) || (backToKw pos (keywordEach [⟨some ("value" : Str), e, kp⟩] X.env)).any (·.1.isNone)) = false := by rfl) :
    PE X (.Call (.Name x p) [] [⟨some ("value" : Str), e, kp⟩] pos) (tMkV X.K D C te) := by
  refine ⟨fun pins s σ H Q I h => ?_⟩
  refine wpAny_Call_Name_kw (ld_glob I hg T.gC ?_ hdb)
  refine PySem.W.callWith_KW0 (h₀ := X.base) I.ok.mod.kin T.c.S.ex.kC hall (thn ((pk_cons he pk_nil).run pos pins s σ H (fun vs H1 => match vs with | [y] => ∃ m, Sh X.K H1 y m ∧ ∀ a H2, Same H1 H2 → ErrO X.K D C a y H2 → Q (.ref a) H2 | _ => False) I h) fun ws s2 ⟨zs, H2, I2, rz, q2⟩ => ⟨I2.kIn, ?_⟩) hpl
  rw [hks]
  cases rz with
  | nil => exact False.elim q2
  | cons r1 r2 =>
    cases r2 with
    | nil =>
      obtain ⟨m, sh, q1⟩ := q2
      exact run_mkE (us := []) (kw := [("value", _)]) qa T F1 hr I2 r1 sh (by simp) (fun s a k => .of_eq (hb a _)) q1
    | cons _ _ => exact False.elim q2
end
section
variable {X : Cx} {D : Addr}
theorem inst_errO {pins : List (Addr × Obj)} {σ : L2.St} {H : Hp} {s : Shared} {C a : Addr} {v : V} (I : L2.Inv X pins σ H s) (h : ErrO X.K D C a v H) : ∃ oe od u, PySem.W.InstAt s.heap a oe C (some od) ∧ RelV v u ∧ (∀ (T : ErrC X.K D C), PySem.W.findObj X.K C (some od) "value" = some (.value u)) := by
  obtain ⟨T, dd, h1, h2⟩ := h
  obtain ⟨t1, ho⟩ := exo_at I.hok h1
  obtain ⟨mA, hns, hr⟩ := exd_at I.hok h2
  obtain ⟨od, hod, hl⟩ := lookIn_ns hns
  have l : List.lookup ("value" : Str) [(("value" : Str), v)] = some v := by simp [List.lookup]
  obtain ⟨u, hu, ru⟩ := RelO.some_of (v := v) (o := mA "value") (by rw [← l]; exact hr "value")
  exact ⟨_, od, u, ⟨ho, rfl, rfl, hod⟩, ru, fun T => PySem.W.findObj_own T.hd T.S.nov rfl (by rw [hl, hu])⟩
/-- e.value -/
def tEkO (K : PySem.W.Frag) (D : Addr) (te : TE) : TE := fun σ H Q => te σ H fun x H1 => ∃ a C v, x = .ref a ∧ ErrO K D C a v H1 ∧ Q v H1
theorem pe_ekO {e : Expr} {te : TE} {pos : Pos} (he : PE X e te) (hb : attributeBase e "value" X.env (eval e X.env) = eval e X.env := by rfl) : PE X (.Attribute e "value" pos) (tEkO X.K D te) := by
  refine ⟨fun pins s σ H Q I h => ?_⟩
  refine attr_of hb (thn (he.run pins s σ H _ I h) fun u s1 hh => ?_)
  obtain ⟨x, H1, I1, rx, a, C, v, ex, ea, q⟩ := hh
  subst ex
  obtain rfl : u = Value.ref a := rx
  obtain ⟨oe, od, u, J, ru, hf⟩ := inst_errO I1 ea
  have T := ea.1
  exact HandSPX.exc_get I1.kIn J T.hg T.hk T.S.ex.exC (hf T) (handed_of ru) ⟨v, H1, I1.tok _, ru, q⟩
/-- isinstance(e, c) -/
def rIsO (K : PySem.W.Frag) (D : Addr) : List V → Hp → VK → Prop := fun xs H Q => ∃ (a : Addr) (c : V) (cv : Value) (b : Bool) (C : Addr) (v : V), xs = [.ref a, c] ∧ (∀ u, RelV c u → u = cv) ∧ ErrO K D C a v H ∧ PySem.W.kitOne K (.ref C) cv = some b ∧ Q (.bl b) H
theorem call_isO (G : ClsG X.K) : CallR X (.builtin "isinstance") (rIsO X.K D) := by
  intro pins s σ H xs us Q I r h
  obtain ⟨a, c, cv, b, C, v, rfl, hcv, ea, e, q⟩ := h
  cases r with
  | cons rx rr =>
    cases rr with
    | cons rt rr =>
      cases rr
      cases rx
      have ec := hcv _ rt
      subst ec
      obtain ⟨oe, od, u, J, _, _⟩ := inst_errO I ea
      exact PySem.W.kia_one (kitx_err ea.1 G) I.kIn J e (fun z => nomatch z) fun tk => ⟨.bl b, H, I.kept (t' := tk) fun _ _ z => z, rfl, q⟩
end
end HC

namespace HC
open PySem PySem.Spec PyProof.Rows L2 NdefX L2H
abbrev s_CutError___init__ : Stmt := inClass (top 1) 0
abbrev s__law_classes : Stmt := top 15
abbrev N__law_classes : List Str := ["e"]
theorem sc__law_classes : FnScope N__law_classes ["e"] (defScope s__law_classes) := ⟨rfl, rfl, rfl, by decide +kernel, rfl, by decide +kernel, by decide +kernel⟩

abbrev s__law_made : Stmt := top 16
abbrev N__law_made : List Str := ["spot", "item", "by_name", "some"]
theorem sc__law_made : FnScope N__law_made ["spot", "item", "by_name"] (defScope s__law_made) := ⟨rfl, rfl, rfl, by decide +kernel, rfl, by decide +kernel, by decide +kernel⟩

/-! ## the law's defs -/
/-- p holds of each item, by its place from n on -/
def AllR (p : Nat → Addr → Prop) : List Addr → Nat → Prop
  | [], _ => True
  | x :: r, n => p n x ∧ AllR p r (n + 1)
theorem AllR.get {p : Nat → Addr → Prop} : ∀ {l : List Addr} {n j : Nat} {x : Addr}, AllR p l n → l[j]? = some x → p (n + j) x
  | [], _, _, _, _, h => by simp at h
  | y :: r, n, 0, x, ⟨h, _⟩, e => by
    obtain rfl : y = x := by simpa using e
    exact h
  | y :: r, n, j + 1, x, ⟨_, h⟩, e => by
    have := AllR.get (j := j) h (by simpa using e)
    rw [show n + (j + 1) = n + 1 + j by omega]
    exact this
/-- what isinstance says of the class C: of the classes cs it is the one at spot, or none -/
def KRow (K : PySem.W.Frag) (cs : List Addr) (C : Addr) (spot : Nat) : Prop := AllR (fun j x => PySem.W.kitOne K (.ref C) (.ref x) = some (decide (j = spot))) cs 0
def flags10 (spot : Nat) : List V := (List.range 10).map fun j => V.bl (decide (j = spot))
def spClasses (K : PySem.W.Frag) (D : Addr) (cs : List Addr) : Sp := fun vs H Q _ => ∃ (a C : Addr) (v : V) (spot : Nat), vs = [.ref a] ∧ ErrO K D C a v H ∧ KRow K cs C spot ∧ ∀ H' l, Same H H' → H' l = some (.lst (flags10 spot)) → Q (.ref l) H'
def spMade (K : PySem.W.Frag) (D : Addr) (al : List Addr) : Sp := fun vs H Q _ => ∃ (spot : Nat) (y : V) (b : Bool) (m : Str) (C : Addr), vs = [.int (spot : Int), y, .bl b] ∧ Sh K H y m ∧ al[spot]? = some C ∧ ∀ H' a, Same H H' → ErrO K D C a y H' → Q (.ref a) H'
/-- CutError.__init__, where nothing is being shown -/
def HasIQ (P : Program) (w : World) (K : PySem.W.Frag) (mg : Str → Option Value) (base : Heap) (D fI : Addr) : Prop :=
  ∃ fd : FuncData, Binds K fd ["self", "value"] [] ∧ (∀ a b : Value, bindArgs fd ⟨[a], [(("value" : Str), b)]⟩ = pure [(("self" : Str), a), (("value" : Str), b)]) ∧ FnQ P w K mg base 1 fI fd ["self", "value"] (spSupQ K D)
section

variable {P : Program} {w : World} {K : PySem.W.Frag} {mg : Str → Option Value} {base : Heap} {D fI C_InvalidWord C_InvalidMoment C_InvalidPairs C_InvalidNumber C_InvalidExponent C_NoOrder C_NoLoop C_NoMark C_NothingToUndo C_Unreadable C_CutError : Addr}
theorem ok__law_classes {f : Addr} {fd : FuncData} (F : Fun K "_law_classes" "_law_classes" s__law_classes f fd) (B : Blt mg) (T_InvalidWord : ErrT K mg D fI "InvalidWord" C_InvalidWord) (T_InvalidMoment : ErrT K mg D fI "InvalidMoment" C_InvalidMoment) (T_InvalidPairs : ErrT K mg D fI "InvalidPairs" C_InvalidPairs) (T_InvalidNumber : ErrT K mg D fI "InvalidNumber" C_InvalidNumber) (T_InvalidExponent : ErrT K mg D fI "InvalidExponent" C_InvalidExponent) (T_NoOrder : ErrT K mg D fI "NoOrder" C_NoOrder) (T_NoLoop : ErrT K mg D fI "NoLoop" C_NoLoop) (T_NoMark : ErrT K mg D fI "NoMark" C_NoMark) (T_NothingToUndo : ErrT K mg D fI "NothingToUndo" C_NothingToUndo) (T_Unreadable : ErrT K mg D fI "Unreadable" C_Unreadable) (CG : ClsG K) (ii : mg "isinstance" = none) : FnOk P w K mg base CX0 1 f fd ["e"] (spClasses K D [C_InvalidWord, C_InvalidMoment, C_InvalidPairs, C_InvalidNumber, C_InvalidExponent, C_NoOrder, C_NoLoop, C_NoMark, C_NothingToUndo, C_Unreadable]) := by
  have sc := sc__law_classes
  refine F.ok sc (fun vs H Q E h => ?_) (fun cdv A outer s H vs Q E hr h => ?_)
  · obtain ⟨a, C, v, spot, rfl, _⟩ := h
    rfl
  · obtain ⟨a, C, v, spot, rfl, he, kr, k⟩ := h
    refine ⟨_, (pss_one (ps_ret (pe_lst (pa_cons (pe_callB (call_isO (D := D) CG) (by rfl) ii (by decide +kernel) (pa_cons (pv 0) (pa_cons (C8.pe_gc (v := .ref C_InvalidWord) (by rfl) ⟨_, T_InvalidWord.gC, rfl⟩) pa_nil))) (pa_cons (pe_callB (call_isO (D := D) CG) (by rfl) ii (by decide +kernel) (pa_cons (pv 0) (pa_cons (C8.pe_gc (v := .ref C_InvalidMoment) (by rfl) ⟨_, T_InvalidMoment.gC, rfl⟩) pa_nil))) (pa_cons (pe_callB (call_isO (D := D) CG) (by rfl) ii (by decide +kernel) (pa_cons (pv 0) (pa_cons (C8.pe_gc (v := .ref C_InvalidPairs) (by rfl) ⟨_, T_InvalidPairs.gC, rfl⟩) pa_nil))) (pa_cons (pe_callB (call_isO (D := D) CG) (by rfl) ii (by decide +kernel) (pa_cons (pv 0) (pa_cons (C8.pe_gc (v := .ref C_InvalidNumber) (by rfl) ⟨_, T_InvalidNumber.gC, rfl⟩) pa_nil))) (pa_cons (pe_callB (call_isO (D := D) CG) (by rfl) ii (by decide +kernel) (pa_cons (pv 0) (pa_cons (C8.pe_gc (v := .ref C_InvalidExponent) (by rfl) ⟨_, T_InvalidExponent.gC, rfl⟩) pa_nil))) (pa_cons (pe_callB (call_isO (D := D) CG) (by rfl) ii (by decide +kernel) (pa_cons (pv 0) (pa_cons (C8.pe_gc (v := .ref C_NoOrder) (by rfl) ⟨_, T_NoOrder.gC, rfl⟩) pa_nil))) (pa_cons (pe_callB (call_isO (D := D) CG) (by rfl) ii (by decide +kernel) (pa_cons (pv 0) (pa_cons (C8.pe_gc (v := .ref C_NoLoop) (by rfl) ⟨_, T_NoLoop.gC, rfl⟩) pa_nil))) (pa_cons (pe_callB (call_isO (D := D) CG) (by rfl) ii (by decide +kernel) (pa_cons (pv 0) (pa_cons (C8.pe_gc (v := .ref C_NoMark) (by rfl) ⟨_, T_NoMark.gC, rfl⟩) pa_nil))) (pa_cons (pe_callB (call_isO (D := D) CG) (by rfl) ii (by decide +kernel) (pa_cons (pv 0) (pa_cons (C8.pe_gc (v := .ref C_NothingToUndo) (by rfl) ⟨_, T_NothingToUndo.gC, rfl⟩) pa_nil))) (pa_cons (pe_callB (call_isO (D := D) CG) (by rfl) ii (by decide +kernel) (pa_cons (pv 0) (pa_cons (C8.pe_gc (v := .ref C_Unreadable) (by rfl) ⟨_, T_Unreadable.gC, rfl⟩) pa_nil))) pa_nil))))))))))))), ?_⟩
    obtain ⟨q0, q1, q2, q3, q4, q5, q6, q7, q8, q9, _⟩ := kr
    refine ⟨_, rfl, a, _, _, _, C, v, rfl, fun u r => r, he, q0, ?_⟩
    refine ⟨_, rfl, a, _, _, _, C, v, rfl, fun u r => r, he, q1, ?_⟩
    refine ⟨_, rfl, a, _, _, _, C, v, rfl, fun u r => r, he, q2, ?_⟩
    refine ⟨_, rfl, a, _, _, _, C, v, rfl, fun u r => r, he, q3, ?_⟩
    refine ⟨_, rfl, a, _, _, _, C, v, rfl, fun u r => r, he, q4, ?_⟩
    refine ⟨_, rfl, a, _, _, _, C, v, rfl, fun u r => r, he, q5, ?_⟩
    refine ⟨_, rfl, a, _, _, _, C, v, rfl, fun u r => r, he, q6, ?_⟩
    refine ⟨_, rfl, a, _, _, _, C, v, rfl, fun u r => r, he, q7, ?_⟩
    refine ⟨_, rfl, a, _, _, _, C, v, rfl, fun u r => r, he, q8, ?_⟩
    refine ⟨_, rfl, a, _, _, _, C, v, rfl, fun u r => r, he, q9, ?_⟩
    refine ⟨(by show 10 ≤ sizeLine; decide), fun l hl => ?_⟩
    exact k _ l (Same.new hl) upd_same
theorem ok__law_made {f : Addr} {fd : FuncData} (F : Fun K "_law_made" "_law_made" s__law_made f fd) (h_I : HasIQ P w K mg base D fI) (T_InvalidWord : ErrT K mg D fI "InvalidWord" C_InvalidWord) (T_InvalidMoment : ErrT K mg D fI "InvalidMoment" C_InvalidMoment) (T_InvalidPairs : ErrT K mg D fI "InvalidPairs" C_InvalidPairs) (T_InvalidNumber : ErrT K mg D fI "InvalidNumber" C_InvalidNumber) (T_InvalidExponent : ErrT K mg D fI "InvalidExponent" C_InvalidExponent) (T_NoOrder : ErrT K mg D fI "NoOrder" C_NoOrder) (T_NoLoop : ErrT K mg D fI "NoLoop" C_NoLoop) (T_NoMark : ErrT K mg D fI "NoMark" C_NoMark) (T_NothingToUndo : ErrT K mg D fI "NothingToUndo" C_NothingToUndo) (T_Unreadable : ErrT K mg D fI "Unreadable" C_Unreadable) (T_CutError : ErrT K mg D fI "CutError" C_CutError) : FnQ P w K mg base 3 f fd ["spot", "item", "by_name"] (spMade K D [C_InvalidWord, C_InvalidMoment, C_InvalidPairs, C_InvalidNumber, C_InvalidExponent, C_NoOrder, C_NoLoop, C_NoMark, C_NothingToUndo, C_Unreadable, C_CutError]) := by
  have sc := sc__law_made
  obtain ⟨fd_I, b_I, kb_I, G_I⟩ := h_I
  refine fnQ F sc (fun vs H Q E h => ?_) (fun cdv A qa outer s H vs Q E hr h => ?_)
  · obtain ⟨spot, y, b, m, C, rfl, _⟩ := h
    rfl
  · obtain ⟨spot, y, b, m, C, rfl, sh, hC, k⟩ := h
    refine ⟨_, (pss_cons (ps_if (pt_val (pv 2)) (pss_cons (ps_set (i := 3) sc.nd rfl (by first | exact Or.inl rfl | exact Or.inr rfl) (pe_lst (pa_cons (pe_mkEK qa T_InvalidWord G_I kb_I (hr.mono (by decide)) (by rfl) (pv 1)) (pa_cons (pe_mkEK qa T_InvalidMoment G_I kb_I (hr.mono (by decide)) (by rfl) (pv 1)) (pa_cons (pe_mkEK qa T_InvalidPairs G_I kb_I (hr.mono (by decide)) (by rfl) (pv 1)) (pa_cons (pe_mkEK qa T_InvalidNumber G_I kb_I (hr.mono (by decide)) (by rfl) (pv 1)) pa_nil))))))
    (pss_cons (ps_set (i := 3) sc.nd rfl (by first | exact Or.inl rfl | exact Or.inr rfl) (pe_op op_cat (pv 3) (pe_lst (pa_cons (pe_mkEK qa T_InvalidExponent G_I kb_I (hr.mono (by decide)) (by rfl) (pv 1)) (pa_cons (pe_mkEK qa T_NoOrder G_I kb_I (hr.mono (by decide)) (by rfl) (pv 1)) (pa_cons (pe_mkEK qa T_NoLoop G_I kb_I (hr.mono (by decide)) (by rfl) (pv 1)) (pa_cons (pe_mkEK qa T_NoMark G_I kb_I (hr.mono (by decide)) (by rfl) (pv 1)) pa_nil)))))))
    (pss_one (ps_ret (pe_ix ix_list (pe_op op_cat (pv 3) (pe_lst (pa_cons (pe_mkEK qa T_NothingToUndo G_I kb_I (hr.mono (by decide)) (by rfl) (pv 1)) (pa_cons (pe_mkEK qa T_Unreadable G_I kb_I (hr.mono (by decide)) (by rfl) (pv 1)) (pa_cons (pe_mkEK qa T_CutError G_I kb_I (hr.mono (by decide)) (by rfl) (pv 1)) pa_nil))))) (pv 0) (fun _ _ => rfl)))))) pss_nil)
    (pss_cons (ps_set (i := 3) sc.nd rfl (by first | exact Or.inl rfl | exact Or.inr rfl) (pe_lst (pa_cons (pe_mkE qa T_InvalidWord G_I b_I (hr.mono (by decide)) (by rfl) (pv 1)) (pa_cons (pe_mkE qa T_InvalidMoment G_I b_I (hr.mono (by decide)) (by rfl) (pv 1)) (pa_cons (pe_mkE qa T_InvalidPairs G_I b_I (hr.mono (by decide)) (by rfl) (pv 1)) (pa_cons (pe_mkE qa T_InvalidNumber G_I b_I (hr.mono (by decide)) (by rfl) (pv 1)) (pa_cons (pe_mkE qa T_InvalidExponent G_I b_I (hr.mono (by decide)) (by rfl) (pv 1)) pa_nil)))))))
    (pss_cons (ps_set (i := 3) sc.nd rfl (by first | exact Or.inl rfl | exact Or.inr rfl) (pe_op op_cat (pv 3) (pe_lst (pa_cons (pe_mkE qa T_NoOrder G_I b_I (hr.mono (by decide)) (by rfl) (pv 1)) (pa_cons (pe_mkE qa T_NoLoop G_I b_I (hr.mono (by decide)) (by rfl) (pv 1)) (pa_cons (pe_mkE qa T_NoMark G_I b_I (hr.mono (by decide)) (by rfl) (pv 1)) (pa_cons (pe_mkE qa T_NothingToUndo G_I b_I (hr.mono (by decide)) (by rfl) (pv 1)) (pa_cons (pe_mkE qa T_Unreadable G_I b_I (hr.mono (by decide)) (by rfl) (pv 1)) pa_nil))))))))
    (pss_one (ps_ret (pe_ix ix_list (pe_op op_cat (pv 3) (pe_lst (pa_cons (pe_mkE qa T_CutError G_I b_I (hr.mono (by decide)) (by rfl) (pv 1)) pa_nil))) (pv 0) (fun _ _ => rfl))))))), ?_⟩
    refine ⟨_, rfl, b, rfl, ?_⟩
    cases b with
    | false =>
      refine iteF ?_
      have s0 : Same H H := Same.refl _
      refine ⟨_, rfl, m, sh.same s0, fun a0 H0 m0 e0 => ?_⟩
      have s1 := s0.trans m0
      refine ⟨_, rfl, m, sh.same s1, fun a1 H1 m1 e1 => ?_⟩
      have s2 := s1.trans m1
      refine ⟨_, rfl, m, sh.same s2, fun a2 H2 m2 e2 => ?_⟩
      have s3 := s2.trans m2
      refine ⟨_, rfl, m, sh.same s3, fun a3 H3 m3 e3 => ?_⟩
      have s4 := s3.trans m3
      refine ⟨_, rfl, m, sh.same s4, fun a4 H4 m4 e4 => ?_⟩
      have s5 := s4.trans m4
      refine ⟨(by show 5 ≤ sizeLine; decide), fun l0 hl0 => ?_⟩
      have n0 := Same.new hl0 (o := .lst [.ref a0, .ref a1, .ref a2, .ref a3, .ref a4])
      have s6 := s5.trans n0
      refine ⟨_, rfl, ?_⟩
      refine ⟨_, rfl, m, sh.same s6, fun a5 H5 m5 e5 => ?_⟩
      have s7 := s6.trans m5
      refine ⟨_, rfl, m, sh.same s7, fun a6 H6 m6 e6 => ?_⟩
      have s8 := s7.trans m6
      refine ⟨_, rfl, m, sh.same s8, fun a7 H7 m7 e7 => ?_⟩
      have s9 := s8.trans m7
      refine ⟨_, rfl, m, sh.same s9, fun a8 H8 m8 e8 => ?_⟩
      have s10 := s9.trans m8
      refine ⟨_, rfl, m, sh.same s10, fun a9 H9 m9 e9 => ?_⟩
      have s11 := s10.trans m9
      refine ⟨(by show 5 ≤ sizeLine; decide), fun l1 hl1 => ?_⟩
      have n1 := Same.new hl1 (o := .lst [.ref a5, .ref a6, .ref a7, .ref a8, .ref a9])
      have s12 := s11.trans n1
      have hc1 := (((((m5.trans m6).trans m7).trans m8).trans m9).trans n1) _ _ upd_same
      refine ⟨l0, l1, _, _, rfl, rfl, hc1, upd_same, (by show 10 ≤ sizeLine; decide), fun p1 hp1 => ?_⟩
      have t1 := Same.new hp1 (o := .lst [.ref a0, .ref a1, .ref a2, .ref a3, .ref a4, .ref a5, .ref a6, .ref a7, .ref a8, .ref a9])
      have s13 := s12.trans t1
      refine ⟨_, rfl, ?_⟩
      refine ⟨_, rfl, m, sh.same s13, fun a10 H10 m10 e10 => ?_⟩
      have s14 := s13.trans m10
      refine ⟨(by show 1 ≤ sizeLine; decide), fun l2 hl2 => ?_⟩
      have n2 := Same.new hl2 (o := .lst [.ref a10])
      have s15 := s14.trans n2
      have hc2 := (m10.trans n2) _ _ upd_same
      refine ⟨p1, l2, _, _, rfl, rfl, hc2, upd_same, (by show 11 ≤ sizeLine; decide), fun p2 hp2 => ?_⟩
      have t2 := Same.new hp2 (o := .lst [.ref a0, .ref a1, .ref a2, .ref a3, .ref a4, .ref a5, .ref a6, .ref a7, .ref a8, .ref a9, .ref a10])
      have s16 := s15.trans t2
      match spot, hC with
      | 0, hC =>
        cases hC
        exact ⟨_, rfl, p2, _, (0 : Nat), .ref a0, rfl, rfl, SqL.of upd_same, atI_of rfl, k _ a0 s16 (e0.same ((((((((((((((m1.trans m2).trans m3).trans m4).trans n0).trans m5).trans m6).trans m7).trans m8).trans m9).trans n1).trans t1).trans m10).trans n2).trans t2))⟩
      | 1, hC =>
        cases hC
        exact ⟨_, rfl, p2, _, (1 : Nat), .ref a1, rfl, rfl, SqL.of upd_same, atI_of rfl, k _ a1 s16 (e1.same (((((((((((((m2.trans m3).trans m4).trans n0).trans m5).trans m6).trans m7).trans m8).trans m9).trans n1).trans t1).trans m10).trans n2).trans t2))⟩
      | 2, hC =>
        cases hC
        exact ⟨_, rfl, p2, _, (2 : Nat), .ref a2, rfl, rfl, SqL.of upd_same, atI_of rfl, k _ a2 s16 (e2.same ((((((((((((m3.trans m4).trans n0).trans m5).trans m6).trans m7).trans m8).trans m9).trans n1).trans t1).trans m10).trans n2).trans t2))⟩
      | 3, hC =>
        cases hC
        exact ⟨_, rfl, p2, _, (3 : Nat), .ref a3, rfl, rfl, SqL.of upd_same, atI_of rfl, k _ a3 s16 (e3.same (((((((((((m4.trans n0).trans m5).trans m6).trans m7).trans m8).trans m9).trans n1).trans t1).trans m10).trans n2).trans t2))⟩
      | 4, hC =>
        cases hC
        exact ⟨_, rfl, p2, _, (4 : Nat), .ref a4, rfl, rfl, SqL.of upd_same, atI_of rfl, k _ a4 s16 (e4.same ((((((((((n0.trans m5).trans m6).trans m7).trans m8).trans m9).trans n1).trans t1).trans m10).trans n2).trans t2))⟩
      | 5, hC =>
        cases hC
        exact ⟨_, rfl, p2, _, (5 : Nat), .ref a5, rfl, rfl, SqL.of upd_same, atI_of rfl, k _ a5 s16 (e5.same ((((((((m6.trans m7).trans m8).trans m9).trans n1).trans t1).trans m10).trans n2).trans t2))⟩
      | 6, hC =>
        cases hC
        exact ⟨_, rfl, p2, _, (6 : Nat), .ref a6, rfl, rfl, SqL.of upd_same, atI_of rfl, k _ a6 s16 (e6.same (((((((m7.trans m8).trans m9).trans n1).trans t1).trans m10).trans n2).trans t2))⟩
      | 7, hC =>
        cases hC
        exact ⟨_, rfl, p2, _, (7 : Nat), .ref a7, rfl, rfl, SqL.of upd_same, atI_of rfl, k _ a7 s16 (e7.same ((((((m8.trans m9).trans n1).trans t1).trans m10).trans n2).trans t2))⟩
      | 8, hC =>
        cases hC
        exact ⟨_, rfl, p2, _, (8 : Nat), .ref a8, rfl, rfl, SqL.of upd_same, atI_of rfl, k _ a8 s16 (e8.same (((((m9.trans n1).trans t1).trans m10).trans n2).trans t2))⟩
      | 9, hC =>
        cases hC
        exact ⟨_, rfl, p2, _, (9 : Nat), .ref a9, rfl, rfl, SqL.of upd_same, atI_of rfl, k _ a9 s16 (e9.same ((((n1.trans t1).trans m10).trans n2).trans t2))⟩
      | 10, hC =>
        cases hC
        exact ⟨_, rfl, p2, _, (10 : Nat), .ref a10, rfl, rfl, SqL.of upd_same, atI_of rfl, k _ a10 s16 (e10.same (n2.trans t2))⟩
      | n + 11, hC => simp at hC
    | true =>
      refine iteT ?_
      have s0 : Same H H := Same.refl _
      refine ⟨_, rfl, m, sh.same s0, fun a0 H0 m0 e0 => ?_⟩
      have s1 := s0.trans m0
      refine ⟨_, rfl, m, sh.same s1, fun a1 H1 m1 e1 => ?_⟩
      have s2 := s1.trans m1
      refine ⟨_, rfl, m, sh.same s2, fun a2 H2 m2 e2 => ?_⟩
      have s3 := s2.trans m2
      refine ⟨_, rfl, m, sh.same s3, fun a3 H3 m3 e3 => ?_⟩
      have s4 := s3.trans m3
      refine ⟨(by show 4 ≤ sizeLine; decide), fun l0 hl0 => ?_⟩
      have n0 := Same.new hl0 (o := .lst [.ref a0, .ref a1, .ref a2, .ref a3])
      have s5 := s4.trans n0
      refine ⟨_, rfl, ?_⟩
      refine ⟨_, rfl, m, sh.same s5, fun a4 H4 m4 e4 => ?_⟩
      have s6 := s5.trans m4
      refine ⟨_, rfl, m, sh.same s6, fun a5 H5 m5 e5 => ?_⟩
      have s7 := s6.trans m5
      refine ⟨_, rfl, m, sh.same s7, fun a6 H6 m6 e6 => ?_⟩
      have s8 := s7.trans m6
      refine ⟨_, rfl, m, sh.same s8, fun a7 H7 m7 e7 => ?_⟩
      have s9 := s8.trans m7
      refine ⟨(by show 4 ≤ sizeLine; decide), fun l1 hl1 => ?_⟩
      have n1 := Same.new hl1 (o := .lst [.ref a4, .ref a5, .ref a6, .ref a7])
      have s10 := s9.trans n1
      have hc1 := ((((m4.trans m5).trans m6).trans m7).trans n1) _ _ upd_same
      refine ⟨l0, l1, _, _, rfl, rfl, hc1, upd_same, (by show 8 ≤ sizeLine; decide), fun p1 hp1 => ?_⟩
      have t1 := Same.new hp1 (o := .lst [.ref a0, .ref a1, .ref a2, .ref a3, .ref a4, .ref a5, .ref a6, .ref a7])
      have s11 := s10.trans t1
      refine ⟨_, rfl, ?_⟩
      refine ⟨_, rfl, m, sh.same s11, fun a8 H8 m8 e8 => ?_⟩
      have s12 := s11.trans m8
      refine ⟨_, rfl, m, sh.same s12, fun a9 H9 m9 e9 => ?_⟩
      have s13 := s12.trans m9
      refine ⟨_, rfl, m, sh.same s13, fun a10 H10 m10 e10 => ?_⟩
      have s14 := s13.trans m10
      refine ⟨(by show 3 ≤ sizeLine; decide), fun l2 hl2 => ?_⟩
      have n2 := Same.new hl2 (o := .lst [.ref a8, .ref a9, .ref a10])
      have s15 := s14.trans n2
      have hc2 := (((m8.trans m9).trans m10).trans n2) _ _ upd_same
      refine ⟨p1, l2, _, _, rfl, rfl, hc2, upd_same, (by show 11 ≤ sizeLine; decide), fun p2 hp2 => ?_⟩
      have t2 := Same.new hp2 (o := .lst [.ref a0, .ref a1, .ref a2, .ref a3, .ref a4, .ref a5, .ref a6, .ref a7, .ref a8, .ref a9, .ref a10])
      have s16 := s15.trans t2
      match spot, hC with
      | 0, hC =>
        cases hC
        exact ⟨_, rfl, p2, _, (0 : Nat), .ref a0, rfl, rfl, SqL.of upd_same, atI_of rfl, k _ a0 s16 (e0.same ((((((((((((((m1.trans m2).trans m3).trans n0).trans m4).trans m5).trans m6).trans m7).trans n1).trans t1).trans m8).trans m9).trans m10).trans n2).trans t2))⟩
      | 1, hC =>
        cases hC
        exact ⟨_, rfl, p2, _, (1 : Nat), .ref a1, rfl, rfl, SqL.of upd_same, atI_of rfl, k _ a1 s16 (e1.same (((((((((((((m2.trans m3).trans n0).trans m4).trans m5).trans m6).trans m7).trans n1).trans t1).trans m8).trans m9).trans m10).trans n2).trans t2))⟩
      | 2, hC =>
        cases hC
        exact ⟨_, rfl, p2, _, (2 : Nat), .ref a2, rfl, rfl, SqL.of upd_same, atI_of rfl, k _ a2 s16 (e2.same ((((((((((((m3.trans n0).trans m4).trans m5).trans m6).trans m7).trans n1).trans t1).trans m8).trans m9).trans m10).trans n2).trans t2))⟩
      | 3, hC =>
        cases hC
        exact ⟨_, rfl, p2, _, (3 : Nat), .ref a3, rfl, rfl, SqL.of upd_same, atI_of rfl, k _ a3 s16 (e3.same (((((((((((n0.trans m4).trans m5).trans m6).trans m7).trans n1).trans t1).trans m8).trans m9).trans m10).trans n2).trans t2))⟩
      | 4, hC =>
        cases hC
        exact ⟨_, rfl, p2, _, (4 : Nat), .ref a4, rfl, rfl, SqL.of upd_same, atI_of rfl, k _ a4 s16 (e4.same (((((((((m5.trans m6).trans m7).trans n1).trans t1).trans m8).trans m9).trans m10).trans n2).trans t2))⟩
      | 5, hC =>
        cases hC
        exact ⟨_, rfl, p2, _, (5 : Nat), .ref a5, rfl, rfl, SqL.of upd_same, atI_of rfl, k _ a5 s16 (e5.same ((((((((m6.trans m7).trans n1).trans t1).trans m8).trans m9).trans m10).trans n2).trans t2))⟩
      | 6, hC =>
        cases hC
        exact ⟨_, rfl, p2, _, (6 : Nat), .ref a6, rfl, rfl, SqL.of upd_same, atI_of rfl, k _ a6 s16 (e6.same (((((((m7.trans n1).trans t1).trans m8).trans m9).trans m10).trans n2).trans t2))⟩
      | 7, hC =>
        cases hC
        exact ⟨_, rfl, p2, _, (7 : Nat), .ref a7, rfl, rfl, SqL.of upd_same, atI_of rfl, k _ a7 s16 (e7.same ((((((n1.trans t1).trans m8).trans m9).trans m10).trans n2).trans t2))⟩
      | 8, hC =>
        cases hC
        exact ⟨_, rfl, p2, _, (8 : Nat), .ref a8, rfl, rfl, SqL.of upd_same, atI_of rfl, k _ a8 s16 (e8.same (((m9.trans m10).trans n2).trans t2))⟩
      | 9, hC =>
        cases hC
        exact ⟨_, rfl, p2, _, (9 : Nat), .ref a9, rfl, rfl, SqL.of upd_same, atI_of rfl, k _ a9 s16 (e9.same ((m10.trans n2).trans t2))⟩
      | 10, hC =>
        cases hC
        exact ⟨_, rfl, p2, _, (10 : Nat), .ref a10, rfl, rfl, SqL.of upd_same, atI_of rfl, k _ a10 s16 (e10.same (n2.trans t2))⟩
      | n + 11, hC => simp at hC
end
end HC

namespace HC
open PySem PySem.Spec PyProof.Rows L2 NdefX L2H
abbrev s_law : Stmt := top 17
abbrev N_law : List Str := ["script", "at", "pool", "spot", "item", "by_name", "caught", "place"]
theorem sc_law : FnScope N_law ["script"] (defScope s_law) := ⟨rfl, rfl, rfl, by decide +kernel, rfl, by decide +kernel, by decide +kernel⟩

def spLaw (K : PySem.W.Frag) : Sp := fun vs H Q _ => ∃ (a : Addr) (ns : List Int), vs = [.ref a] ∧ SqL K H a (ns.map V.int) ∧ ns.length ≤ 63 ∧ ∀ H', Q (.bl true) H'
theorem strTq (x : Str) : x = T x.cps.toList := by
  cases x
  unfold T
  simp
theorem same_dispW {H : Hp} {p : Addr} {x y : HO} (hp : H p = none) : Same H (L2.upd (L2.upd H p x) p y) := fun b o h => by
  have : b ≠ p := ne_of_none h hp
  rw [upd_ne this, upd_ne this]
  exact h
def bD (spot : Nat) : List Nat → List PyData
  | [] => []
  | j :: r => .bool (decide (j = spot)) :: bD spot r
theorem bD_dp {K : PySem.W.Frag} {H : Hp} {spot : Nat} : ∀ l : List Nat, DpAll K H (l.map fun j => V.bl (decide (j = spot))) (bD spot l)
  | [] => .nil
  | j :: r => .cons (.bl _) (bD_dp r)
theorem bD_lay {spot : Nat} : ∀ l : List Nat, PyData.canLayAll0 (bD spot l) = true
  | [] => by simp [bD, PyData.canLayAll0]
  | j :: r => by simp [bD, PyData.canLayAll0, PyData.canLay0, bD_lay r]
theorem bD_dep {spot : Nat} : ∀ l : List Nat, PyData.depthAll (bD spot l) ≤ 1
  | [] => by simp [bD, PyData.depthAll]
  | j :: r => by
    have := bD_dep (spot := spot) r
    simp only [bD, PyData.depthAll, PyData.depth]
    omega
theorem bD_ok {spot : Nat} (l : List Nat) : (PyData.list (bD spot l)).canLay0 = true := by simp [PyData.canLay0, bD_lay l]
theorem bD_shp {spot : Nat} (l : List Nat) : SeqAt.shaped (.list (bD spot l)) = true := by
  have a := bD_ok (spot := spot) l
  have b := bD_dep (spot := spot) l
  show ((PyData.list (bD spot l)).canLay0 && decide ((PyData.list (bD spot l)).depth ≤ 64)) = true
  rw [a, Bool.true_and]
  exact decide_eq_true (by simp only [PyData.depth]; omega)
/-- the seven items -/
def items7 (i : Int) (t l d : Addr) : List V := [.non, .int i, .str (T [48, 49]), .ref t, .str (T []), .ref l, .ref d]
theorem item_sh {K : PySem.W.Frag} {H : Hp} {i : Int} {t l d : Addr} {r : Nat} (hr : r < 7) (hi : i.natAbs.log2 < 1920) (ht : H t = some (.tup [.str (T [48]), .str (T [49])])) (hl : H l = some (.lst [.int 1, .str (T [48])])) (hd : H d = some (.dK [(Sum.inr (T [97]), .int 1)])) :
    ∃ y m, (items7 i t l d)[r]? = some y ∧ Sh K H y m := by
  match r, hr with
  | 0, _ => exact ⟨_, _, rfl, .non⟩
  | 1, _ => exact ⟨_, _, rfl, .int i hi⟩
  | 2, _ => exact ⟨_, _, rfl, .str _ (by decide +kernel)⟩
  | 3, _ => exact ⟨_, _, rfl, .tup t ht⟩
  | 4, _ => exact ⟨_, _, rfl, .str _ (by decide +kernel)⟩
  | 5, _ => exact ⟨_, _, rfl, .lst l hl⟩
  | 6, _ => exact ⟨_, _, rfl, .dic d hd⟩
section
variable {P : Program} {w : World} {K : PySem.W.Frag} {mg : Str → Option Value} {base : Heap} {D fI C_CutError : Addr} {cs al : List Addr}
theorem ok_law {f : Addr} {fd : FuncData} (F : Fun K "law" "law" s_law f fd) (B : Blt mg) (T_CutError : ErrT K mg D fI "CutError" C_CutError) (CG : ClsG K) (ii : mg "isinstance" = none) (rp : mg "repr" = none) (ve : mg "ValueError" = none)
    (KA : AllR (fun spot C => KRow K cs C spot ∧ PySem.W.kitOne K (.ref C) (.ref C_CutError) = some true ∧ PySem.W.kitOne K (.ref C) (.type "ValueError") = some true) al 0) (hal : al.length = 11)
    (h__law_pool : Has P w K mg base "_law_pool" 1 ["script", "at"] (spPool K)) (h__law_draw : Has P w K mg base "_law_draw" 1 ["pool", "many"] spDraw) (h__law_classes : Has P w K mg base "_law_classes" 1 ["e"] (spClasses K D cs)) (h__law_made : HasQ P w K mg base "_law_made" 3 ["spot", "item", "by_name"] (spMade K D al)) : FnQ P w K mg base 4 f fd ["script"] (spLaw K) := by
  have sc := sc_law
  obtain ⟨f__law_pool, fd__law_pool, mg__law_pool, kp__law_pool, b__law_pool, G__law_pool⟩ := h__law_pool
  obtain ⟨f__law_draw, fd__law_draw, mg__law_draw, kp__law_draw, b__law_draw, G__law_draw⟩ := h__law_draw
  obtain ⟨f__law_classes, fd__law_classes, mg__law_classes, kp__law_classes, b__law_classes, G__law_classes⟩ := h__law_classes
  obtain ⟨f__law_made, fd__law_made, mg__law_made, kp__law_made, b__law_made, G__law_made⟩ := h__law_made
  refine fnQ F sc (fun vs H Q E h => ?_) (fun cdv A qa outer s H vs Q E hr h => ?_)
  · obtain ⟨a, ns, rfl, _⟩ := h
    rfl
  · obtain ⟨a, ns, rfl, hS, hl, k⟩ := h
    refine ⟨_, (pss_cons (ps_for PassesOwn.never rfl (pi_range1 (by rfl) B.range (pa_cons (pe_callB (call_max2 rfl) (by rfl) B.max (by decide +kernel) (pa_cons pe_int (pa_cons (pe_callB (call_min2 rfl) (by rfl) B.min (by decide +kernel) (pa_cons pe_int (pa_cons (pe_callB call_len_seq (by rfl) B.len PySem.boot_len (pa_cons (pv 0) pa_nil)) pa_nil))) pa_nil))) pa_nil)) (pg_name (i := 1) sc.nd rfl (by first | exact Or.inl rfl | exact Or.inr rfl))
      (pss_cons (ps_set (i := 2) sc.nd rfl (by first | exact Or.inl rfl | exact Or.inr rfl) (pe_call G__law_pool (hr.mono (by decide)) (by rfl) mg__law_pool kp__law_pool b__law_pool .nil pass0 (pa_cons (pv 0) (pa_cons (pv 1) pa_nil))))
    (pss_one (ps_for PassesOwn.never rfl (pi_range1 (by rfl) B.range (pa_cons pe_int pa_nil)) (pg_name (i := 3) sc.nd rfl (by first | exact Or.inl rfl | exact Or.inr rfl))
      (pss_cons (ps_set (i := 4) sc.nd rfl (by first | exact Or.inl rfl | exact Or.inr rfl) (pe_ix ix_list (pe_lst (pa_cons pe_non (pa_cons (pe_op op_sub (pe_call G__law_draw (hr.mono (by decide)) (by rfl) mg__law_draw kp__law_draw b__law_draw .nil pass0 (pa_cons (pv 2) (pa_cons pe_int pa_nil))) pe_int) (pa_cons (pe_strT [48, 49] (by decide +kernel)) (pa_cons (pe_tup (pa_cons (pe_strT [48] (by decide +kernel)) (pa_cons (pe_strT [49] (by decide +kernel)) pa_nil))) (pa_cons (pe_strT [] (by decide +kernel)) (pa_cons (pe_lst (pa_cons pe_int (pa_cons (pe_strT [48] (by decide +kernel)) pa_nil))) (pa_cons (pe_disp (pps_cons (pe_strT [97] (by decide +kernel)) pe_int pps_nil) (by rfl) (by rfl) (fun z => by cases z) (by decide)) pa_nil)))))))) (pe_call G__law_draw (hr.mono (by decide)) (by rfl) mg__law_draw kp__law_draw b__law_draw .nil pass0 (pa_cons (pv 2) (pa_cons pe_int pa_nil))) (fun _ _ => rfl)))
    (pss_one (ps_for PassesOwn.never rfl (pi_tup (pe_tup (pa_cons pe_bl (pa_cons pe_bl pa_nil)))) (pg_name (i := 5) sc.nd rfl (by first | exact Or.inl rfl | exact Or.inr rfl))
      (pss_cons (ps_set (i := 6) sc.nd rfl (by first | exact Or.inl rfl | exact Or.inr rfl) (pe_callQ qa G__law_made (hr.mono (by decide)) (by rfl) mg__law_made kp__law_made b__law_made (pa_cons (pv 3) (pa_cons (pv 4) (pa_cons (pv 5) pa_nil)))))
    (pss_cons (ps_if (PW.pt (pw_or (pt_not (pt_val (pe_callB (call_isO (D := D) CG) (by rfl) ii (by decide +kernel) (pa_cons (pv 6) (pa_cons (C8.pe_gc (v := .ref C_CutError) (by rfl) ⟨_, T_CutError.gC, rfl⟩) pa_nil))))) (pw_or1 (pt_not (pt_val (pe_callB (call_isO (D := D) CG) (by rfl) ii (by decide +kernel) (pa_cons (pv 6) (pa_cons (pe_bltn (v := .ty "ValueError") (by rfl) ve (by decide +kernel) rfl) pa_nil)))))))) (pss_one (ps_ret pe_bl)) pss_nil)
    (pss_cons (ps_if (pt_cmpR op_neT (pe_callB (call_reprQ qa hr) (by rfl) rp (by decide +kernel) (pa_cons (pe_ekO (D := D) (pv 6)) pa_nil)) (pe_callB (call_reprQ qa hr) (by rfl) rp (by decide +kernel) (pa_cons (pv 4) pa_nil)) (nomark _)) (pss_one (ps_ret pe_bl)) pss_nil)
    (pss_one (ps_if (pt_cmpR (op_neD hr.units) (pe_call G__law_classes (hr.mono (by decide)) (by rfl) mg__law_classes kp__law_classes b__law_classes .nil pass0 (pa_cons (pv 6) pa_nil)) (pe_lc (own := [("place", 7)]) (g := gName 7) (by rfl) sc.nd (pi_range1 (by rfl) B.range (pa_cons pe_int pa_nil)) (blkOk_by (own := [("place", 7)]) (N := N_law) (sc := defScope s_law) (by decide +kernel)) (fun _ _ _ _ _ => pg_name (i := 7) sc.nd rfl (by first | exact Or.inl rfl | exact Or.inr rfl)) (fun _ _ _ _ _ => pts_nil) (fun _ _ _ _ _ => (pe_cmpR op_eq (pv 7) (pv 3) (nomark _)))) (nomark _)) (pss_one (ps_ret pe_bl)) pss_nil))))))))))))
    (pss_one (ps_ret pe_bl))), ?_⟩
    refine ⟨_, rfl, a, _, rfl, .inl hS, _, _, rfl, _, _, rfl, ?_⟩
    have hlen : ((ns.map V.int).length : Int) ≤ 63 := by rw [List.length_map]; omega
    refine ⟨_, rfl, ?_, ?_, ?_⟩
    · split <;> (try split) <;> omega
    · split <;> (try split) <;> omega
    generalize hmany : (if (if ((ns.map V.int).length : Int) < 8 then ((ns.map V.int).length : Int) else 8) > 1 then (if ((ns.map V.int).length : Int) < 8 then ((ns.map V.int).length : Int) else 8) else 1) = many
    have hmany2 : many ≤ 8 := by
      rw [← hmany]
      split <;> (try split) <;> omega
    refine for_range (lo := 0) (n := many.toNat) (fun i σ H' => Same H H' ∧ ∃ x1 x2 x3 x4 x5 x6 x7 : Option V, σ = [some (.ref a), x1, x2, x3, x4, x5, x6, x7]) ⟨Same.refl _, _, _, _, _, _, _, _, rfl⟩ ?_ ?_
    rotate_left
    · rintro σ H' ⟨sm, x1, x2, x3, x4, x5, x6, x7, rfl⟩
      exact k H'
    rintro i σ H' hi ⟨sm, x1, x2, x3, x4, x5, x6, x7, rfl⟩
    refine ⟨_, rfl, _, rfl, a, ns, i, by rw [Int.zero_add]; rfl, sm.seq hS, by omega, fun H1 p s1 hp p1 => ?_⟩
    refine ⟨11, rfl, by decide, by decide, ?_⟩
    refine for_range (lo := 0) (n := (11 : Int).toNat) (fun j σ H2 => SB p H1 H2 ∧ PoolAt H2 p (2 * j) ∧ ∃ x3 x4 x5 x6 x7 : Option V, σ = [some (.ref a), some (.int (0 + (i : Int))), some (.ref p), x3, x4, x5, x6, x7]) ⟨SB.refl, p1.mono (by omega), _, _, _, _, _, rfl⟩ ?_ ?_
    rotate_left
    · rintro σ H2 ⟨sb, pp, x3, x4, x5, x6, x7, rfl⟩
      refine ⟨fun b o hb => ?_, _, _, _, _, _, _, _, rfl⟩
      have hb2 := sm _ _ hb
      exact sb _ _ (s1 _ _ hb2) (ne_of_none hb2 hp)
    rintro j σ H2 hj ⟨sb, pp, x3, x4, x5, x6, x7, rfl⟩
    have hj2 : j < 11 := hj
    obtain ⟨C, hC⟩ : ∃ C, al[j]? = some C := ⟨al[j]'(by omega), List.getElem?_eq_getElem (by omega)⟩
    obtain ⟨kr, kc, kv⟩ := KA.get hC
    rw [Nat.zero_add] at kr
    refine ⟨_, rfl, p, 99, 2 * j, rfl, pp, by omega, by decide, by decide, fun H3 r1 s3 p3 hr1 => ?_⟩
    refine ⟨_, _, rfl, rfl, ?_⟩
    refine ⟨(by show 2 ≤ sizeLine; decide), fun t ht => ?_⟩
    have pt := p3.new (o := .tup [.str (T [48]), .str (T [49])]) ht
    refine ⟨(by show 2 ≤ sizeLine; decide), fun l hl2 => ?_⟩
    have pl := pt.new (o := .lst [.int 1, .str (T [48])]) hl2
    intro d hd
    have n1 := Same.new ht (o := .tup [.str (T [48]), .str (T [49])])
    have n2 := Same.new hl2 (o := .lst [.int 1, .str (T [48])])
    refine ⟨upd_same, [(.inr (T [97]), .int 1)], rfl, (by show 1 ≤ 15; decide), ?_⟩
    have em : mergeK [] [((Sum.inr (T [97]) : Key), V.int 1)] = [(Sum.inr (T [97]), V.int 1)] := rfl
    rw [em]
    have n3 := same_dispW (x := .dK []) (y := .dK [(Sum.inr (T [97]), V.int 1)]) hd
    have hd1 : (upd (upd (upd (upd H3 t (.tup [.str (T [48]), .str (T [49])])) l (.lst [.int 1, .str (T [48])])) d (.dK [])) d (.dK [(Sum.inr (T [97]), V.int 1)])) d = some (.dK [(Sum.inr (T [97]), V.int 1)]) := upd_same
    have ht1 := n3 _ _ (n2 _ _ (upd_same (H := H3) (a := t) (o := .tup [.str (T [48]), .str (T [49])])))
    have hl1 := n3 _ _ (upd_same (H := upd H3 t (.tup [.str (T [48]), .str (T [49])])) (a := l) (o := .lst [.int 1, .str (T [48])]))
    have pd := pl.same n3
    have s34 := s3.trans (SB.of (n1.trans (n2.trans n3)))
    have ntp := p3.ne ht
    have nlp := pt.ne hl2
    have ndp := pl.ne hd
    generalize (upd (upd (upd (upd H3 t (.tup [.str (T [48]), .str (T [49])])) l (.lst [.int 1, .str (T [48])])) d (.dK [])) d (.dK [(Sum.inr (T [97]), V.int 1)])) = H4 at hd1 ht1 hl1 pd s34 ⊢
    clear n1 n2 n3 pt pl ht hl2 hd
    refine ⟨(by show 7 ≤ sizeLine; decide), fun q hq => ?_⟩
    have n4 := Same.new hq (o := .lst (items7 (((r1 : Nat) : Int) - 50) t l d))
    have pq := pd.same n4
    have nqp := pd.ne hq
    refine ⟨_, rfl, p, 7, 2 * j + 1, rfl, pq, by omega, by decide, by decide, fun H5 r2 s5 p5 hr2 => ?_⟩
    have hi1 : ((((r1 : Nat) : Int) - 50)).natAbs.log2 < 1920 := by
      have : (((r1 : Nat) : Int) - 50).natAbs ≤ 50 := by omega
      have h2 := Nat.log2_le_self (((r1 : Nat) : Int) - 50).natAbs
      omega
    obtain ⟨y, m, ey, shy⟩ := item_sh (K := K) hr2 hi1 (s5 _ _ (n4 _ _ ht1) ntp) (s5 _ _ (n4 _ _ hl1) nlp) (s5 _ _ (n4 _ _ hd1) ndp)
    refine ⟨q, _, _, _, rfl, rfl, SqL.of (s5 _ _ (show _ = some (.lst (items7 _ t l d)) from upd_same) nqp), atI_of ey, ?_⟩
    have s15 := sb.trans (s34.trans ((SB.of n4).trans s5))
    clear s34 s5 n4 pq pd hd1 ht1 hl1 s3 p3 pp sb
    -- by place, then by name
    refine ⟨(by show 2 ≤ sizeLine; decide), fun tt htt => ?_⟩
    have n6 := Same.new htt (o := .tup [.bl false, .bl true])
    refine ⟨tt, rfl, ⟨_, SqT.of upd_same⟩, ?_⟩
    refine for_tup (K := K) (a := tt) (xs := [.bl false, .bl true]) (fun u σ G => Same (upd H5 tt (.tup [.bl false, .bl true])) G ∧ ∃ x5 x6 x7 : Option V, σ = [some (.ref a), some (.int (0 + (i : Int))), some (.ref p), some (.int (0 + (j : Int))), some y, x5, x6, x7]) ⟨Same.refl _, _, _, _, rfl⟩ (fun u σ G _ h => SqT.of (h.1 _ _ upd_same)) ?_ ?_
    rotate_left
    · rintro σ G ⟨sg, x5, x6, x7, rfl⟩
      exact ⟨s15.trans (SB.of (n6.trans sg)), (p5.same (n6.trans sg)).mono (by omega), _, _, _, _, _, rfl⟩
    rintro u v σ G hv ⟨sg, x5, x6, x7, rfl⟩
    obtain ⟨b, rfl⟩ : ∃ b, v = .bl b := by
      match u, hv with
      | 0, hv => exact ⟨false, by simpa using hv.symm⟩
      | 1, hv => exact ⟨true, by simpa using hv.symm⟩
      | n + 2, hv => simp at hv
    have shG := shy.same (n6.trans sg)
    refine ⟨_, rfl, _, rfl, _, rfl, j, y, b, m, C, by rw [Int.zero_add]; rfl, shG, hC, fun G2 e2 s2 he => ?_⟩
    refine ⟨_, rfl, e2, _, _, true, C, y, rfl, fun u r => r, he, kc, true, rfl, iteF ?_⟩
    refine ⟨_, rfl, e2, _, _, true, C, y, rfl, fun u r => r, he, kv, true, rfl, iteF ?_⟩
    have shG2 := shG.same s2
    refine ⟨_, rfl, e2, C, y, rfl, he, y, m, rfl, shG2, _, rfl, y, m, rfl, shG2, m.cps.toList, m.cps.toList, congrArg V.str (strTq m), congrArg V.str (strTq m), _, rfl, ?_⟩
    rw [show (!decide (m.cps.toList = m.cps.toList)) = false by simp]
    refine iteF ?_
    refine ⟨_, rfl, e2, C, y, j, rfl, he, kr, fun G3 l3 s3 hl3 => ?_⟩
    refine ⟨10, rfl, by decide, by decide, fun D3 hD3 => ?_⟩
    refine lc_range (lo := 0) (n := (10 : Int).toNat) (fun z G4 => Same G3 G4 ∧ G4 D3 = some (.lst ((List.range z).map fun x => V.bl (decide (x = j))))) ⟨Same.new hD3, upd_same⟩ ?_ ?_
    · rintro z G4 hz ⟨s4, h4⟩
      refine ⟨rfl, tYes_if ?_⟩
      refine ⟨_, rfl, _, rfl, rfl, ?_⟩
      refine ⟨_, h4, ?_, ?_, ?_⟩
      · rw [List.length_map, List.length_range]
        exact Nat.lt_of_lt_of_le (show z < 10 from hz) (by decide)
      · intro b o hb
        rw [upd_ne (ne_of_none hb hD3)]
        exact s4 _ _ hb
      · rw [upd_same, List.range_succ, List.map_append]
        have : decide (V.int (0 + (z : Int)) = V.int (0 + (j : Int))) = decide (z = j) := by
          by_cases c : z = j
          · subst c
            rw [decide_eq_true rfl, decide_eq_true rfl]
          · rw [decide_eq_false c, decide_eq_false (fun q => c (by injection q; omega))]
        rw [this]
        rfl
    rintro G4 ⟨s4, h4⟩
    have e1 : SqL K G4 l3 ((List.range 10).map fun x => V.bl (decide (x = j))) := SqL.of (s4 _ _ hl3)
    have e2' : SqL K G4 D3 ((List.range 10).map fun x => V.bl (decide (x = j))) := SqL.of h4
    refine ⟨.list (bD j (List.range 10)), .list (bD j (List.range 10)), .lst e1 (bD_dp _), .lst e2' (bD_dp _), bD_shp _, bD_shp _, _, rfl, ?_⟩
    rw [SeqAt.eqv_refl _ (bD_ok _)]
    refine iteF ?_
    exact ⟨sg.trans (s2.trans (s3.trans s4)), _, _, _, rfl⟩
end
end HC

namespace HC
open PySem PySem.Spec PyProof.Rows L2
section
theorem all_mk {P : Program} {w : World} {K : PySem.W.Frag} {h : Heap} {mg : Str → Option Value} {fa : Addr} (X : K.In h) (G : h.Ns mainGlobals mg) (hfa : mg "law" = some (.ref fa))
    {f__law_pool f__law_draw f__law_classes f__law_made f_law : Addr}
    {C_CutError N_CutError : Addr} {nm_CutError q_CutError : Str} {bs_CutError bm_CutError : List Value} {sn_CutError : List Str} {su_CutError : List Value} {ab_CutError : Bool} {co_CutError : Option Bool} {dd_CutError : Option Addr} {k0_CutError k1_CutError k2_CutError k3_CutError k5_CutError : Option Value}
    (eg_CutError : PySem.W.nsIn K mainGlobals "CutError" = some (some (.ref C_CutError)))
    (ec_CutError : K.lookup C_CutError = some (excClassObj nm_CutError q_CutError C_CutError N_CutError bs_CutError bm_CutError true sn_CutError su_CutError ab_CutError co_CutError dd_CutError k0_CutError k1_CutError k2_CutError k3_CutError k5_CutError "ValueError.__new__"))
    (eb_CutError : PySem.HandSPX.refsVE bm_CutError = true)
    {C_InvalidWord N_InvalidWord : Addr} {nm_InvalidWord q_InvalidWord : Str} {bs_InvalidWord bm_InvalidWord : List Value} {sn_InvalidWord : List Str} {su_InvalidWord : List Value} {ab_InvalidWord : Bool} {co_InvalidWord : Option Bool} {dd_InvalidWord : Option Addr} {k0_InvalidWord k1_InvalidWord k2_InvalidWord k3_InvalidWord k5_InvalidWord : Option Value}
    (eg_InvalidWord : PySem.W.nsIn K mainGlobals "InvalidWord" = some (some (.ref C_InvalidWord)))
    (ec_InvalidWord : K.lookup C_InvalidWord = some (excClassObj nm_InvalidWord q_InvalidWord C_InvalidWord N_InvalidWord bs_InvalidWord bm_InvalidWord true sn_InvalidWord su_InvalidWord ab_InvalidWord co_InvalidWord dd_InvalidWord k0_InvalidWord k1_InvalidWord k2_InvalidWord k3_InvalidWord k5_InvalidWord "ValueError.__new__"))
    (eb_InvalidWord : PySem.HandSPX.refsVE bm_InvalidWord = true)
    {C_InvalidMoment N_InvalidMoment : Addr} {nm_InvalidMoment q_InvalidMoment : Str} {bs_InvalidMoment bm_InvalidMoment : List Value} {sn_InvalidMoment : List Str} {su_InvalidMoment : List Value} {ab_InvalidMoment : Bool} {co_InvalidMoment : Option Bool} {dd_InvalidMoment : Option Addr} {k0_InvalidMoment k1_InvalidMoment k2_InvalidMoment k3_InvalidMoment k5_InvalidMoment : Option Value}
    (eg_InvalidMoment : PySem.W.nsIn K mainGlobals "InvalidMoment" = some (some (.ref C_InvalidMoment)))
    (ec_InvalidMoment : K.lookup C_InvalidMoment = some (excClassObj nm_InvalidMoment q_InvalidMoment C_InvalidMoment N_InvalidMoment bs_InvalidMoment bm_InvalidMoment true sn_InvalidMoment su_InvalidMoment ab_InvalidMoment co_InvalidMoment dd_InvalidMoment k0_InvalidMoment k1_InvalidMoment k2_InvalidMoment k3_InvalidMoment k5_InvalidMoment "ValueError.__new__"))
    (eb_InvalidMoment : PySem.HandSPX.refsVE bm_InvalidMoment = true)
    {C_InvalidPairs N_InvalidPairs : Addr} {nm_InvalidPairs q_InvalidPairs : Str} {bs_InvalidPairs bm_InvalidPairs : List Value} {sn_InvalidPairs : List Str} {su_InvalidPairs : List Value} {ab_InvalidPairs : Bool} {co_InvalidPairs : Option Bool} {dd_InvalidPairs : Option Addr} {k0_InvalidPairs k1_InvalidPairs k2_InvalidPairs k3_InvalidPairs k5_InvalidPairs : Option Value}
    (eg_InvalidPairs : PySem.W.nsIn K mainGlobals "InvalidPairs" = some (some (.ref C_InvalidPairs)))
    (ec_InvalidPairs : K.lookup C_InvalidPairs = some (excClassObj nm_InvalidPairs q_InvalidPairs C_InvalidPairs N_InvalidPairs bs_InvalidPairs bm_InvalidPairs true sn_InvalidPairs su_InvalidPairs ab_InvalidPairs co_InvalidPairs dd_InvalidPairs k0_InvalidPairs k1_InvalidPairs k2_InvalidPairs k3_InvalidPairs k5_InvalidPairs "ValueError.__new__"))
    (eb_InvalidPairs : PySem.HandSPX.refsVE bm_InvalidPairs = true)
    {C_InvalidNumber N_InvalidNumber : Addr} {nm_InvalidNumber q_InvalidNumber : Str} {bs_InvalidNumber bm_InvalidNumber : List Value} {sn_InvalidNumber : List Str} {su_InvalidNumber : List Value} {ab_InvalidNumber : Bool} {co_InvalidNumber : Option Bool} {dd_InvalidNumber : Option Addr} {k0_InvalidNumber k1_InvalidNumber k2_InvalidNumber k3_InvalidNumber k5_InvalidNumber : Option Value}
    (eg_InvalidNumber : PySem.W.nsIn K mainGlobals "InvalidNumber" = some (some (.ref C_InvalidNumber)))
    (ec_InvalidNumber : K.lookup C_InvalidNumber = some (excClassObj nm_InvalidNumber q_InvalidNumber C_InvalidNumber N_InvalidNumber bs_InvalidNumber bm_InvalidNumber true sn_InvalidNumber su_InvalidNumber ab_InvalidNumber co_InvalidNumber dd_InvalidNumber k0_InvalidNumber k1_InvalidNumber k2_InvalidNumber k3_InvalidNumber k5_InvalidNumber "ValueError.__new__"))
    (eb_InvalidNumber : PySem.HandSPX.refsVE bm_InvalidNumber = true)
    {C_InvalidExponent N_InvalidExponent : Addr} {nm_InvalidExponent q_InvalidExponent : Str} {bs_InvalidExponent bm_InvalidExponent : List Value} {sn_InvalidExponent : List Str} {su_InvalidExponent : List Value} {ab_InvalidExponent : Bool} {co_InvalidExponent : Option Bool} {dd_InvalidExponent : Option Addr} {k0_InvalidExponent k1_InvalidExponent k2_InvalidExponent k3_InvalidExponent k5_InvalidExponent : Option Value}
    (eg_InvalidExponent : PySem.W.nsIn K mainGlobals "InvalidExponent" = some (some (.ref C_InvalidExponent)))
    (ec_InvalidExponent : K.lookup C_InvalidExponent = some (excClassObj nm_InvalidExponent q_InvalidExponent C_InvalidExponent N_InvalidExponent bs_InvalidExponent bm_InvalidExponent true sn_InvalidExponent su_InvalidExponent ab_InvalidExponent co_InvalidExponent dd_InvalidExponent k0_InvalidExponent k1_InvalidExponent k2_InvalidExponent k3_InvalidExponent k5_InvalidExponent "ValueError.__new__"))
    (eb_InvalidExponent : PySem.HandSPX.refsVE bm_InvalidExponent = true)
    {C_NoOrder N_NoOrder : Addr} {nm_NoOrder q_NoOrder : Str} {bs_NoOrder bm_NoOrder : List Value} {sn_NoOrder : List Str} {su_NoOrder : List Value} {ab_NoOrder : Bool} {co_NoOrder : Option Bool} {dd_NoOrder : Option Addr} {k0_NoOrder k1_NoOrder k2_NoOrder k3_NoOrder k5_NoOrder : Option Value}
    (eg_NoOrder : PySem.W.nsIn K mainGlobals "NoOrder" = some (some (.ref C_NoOrder)))
    (ec_NoOrder : K.lookup C_NoOrder = some (excClassObj nm_NoOrder q_NoOrder C_NoOrder N_NoOrder bs_NoOrder bm_NoOrder true sn_NoOrder su_NoOrder ab_NoOrder co_NoOrder dd_NoOrder k0_NoOrder k1_NoOrder k2_NoOrder k3_NoOrder k5_NoOrder "ValueError.__new__"))
    (eb_NoOrder : PySem.HandSPX.refsVE bm_NoOrder = true)
    {C_NoLoop N_NoLoop : Addr} {nm_NoLoop q_NoLoop : Str} {bs_NoLoop bm_NoLoop : List Value} {sn_NoLoop : List Str} {su_NoLoop : List Value} {ab_NoLoop : Bool} {co_NoLoop : Option Bool} {dd_NoLoop : Option Addr} {k0_NoLoop k1_NoLoop k2_NoLoop k3_NoLoop k5_NoLoop : Option Value}
    (eg_NoLoop : PySem.W.nsIn K mainGlobals "NoLoop" = some (some (.ref C_NoLoop)))
    (ec_NoLoop : K.lookup C_NoLoop = some (excClassObj nm_NoLoop q_NoLoop C_NoLoop N_NoLoop bs_NoLoop bm_NoLoop true sn_NoLoop su_NoLoop ab_NoLoop co_NoLoop dd_NoLoop k0_NoLoop k1_NoLoop k2_NoLoop k3_NoLoop k5_NoLoop "ValueError.__new__"))
    (eb_NoLoop : PySem.HandSPX.refsVE bm_NoLoop = true)
    {C_NoMark N_NoMark : Addr} {nm_NoMark q_NoMark : Str} {bs_NoMark bm_NoMark : List Value} {sn_NoMark : List Str} {su_NoMark : List Value} {ab_NoMark : Bool} {co_NoMark : Option Bool} {dd_NoMark : Option Addr} {k0_NoMark k1_NoMark k2_NoMark k3_NoMark k5_NoMark : Option Value}
    (eg_NoMark : PySem.W.nsIn K mainGlobals "NoMark" = some (some (.ref C_NoMark)))
    (ec_NoMark : K.lookup C_NoMark = some (excClassObj nm_NoMark q_NoMark C_NoMark N_NoMark bs_NoMark bm_NoMark true sn_NoMark su_NoMark ab_NoMark co_NoMark dd_NoMark k0_NoMark k1_NoMark k2_NoMark k3_NoMark k5_NoMark "ValueError.__new__"))
    (eb_NoMark : PySem.HandSPX.refsVE bm_NoMark = true)
    {C_NothingToUndo N_NothingToUndo : Addr} {nm_NothingToUndo q_NothingToUndo : Str} {bs_NothingToUndo bm_NothingToUndo : List Value} {sn_NothingToUndo : List Str} {su_NothingToUndo : List Value} {ab_NothingToUndo : Bool} {co_NothingToUndo : Option Bool} {dd_NothingToUndo : Option Addr} {k0_NothingToUndo k1_NothingToUndo k2_NothingToUndo k3_NothingToUndo k5_NothingToUndo : Option Value}
    (eg_NothingToUndo : PySem.W.nsIn K mainGlobals "NothingToUndo" = some (some (.ref C_NothingToUndo)))
    (ec_NothingToUndo : K.lookup C_NothingToUndo = some (excClassObj nm_NothingToUndo q_NothingToUndo C_NothingToUndo N_NothingToUndo bs_NothingToUndo bm_NothingToUndo true sn_NothingToUndo su_NothingToUndo ab_NothingToUndo co_NothingToUndo dd_NothingToUndo k0_NothingToUndo k1_NothingToUndo k2_NothingToUndo k3_NothingToUndo k5_NothingToUndo "ValueError.__new__"))
    (eb_NothingToUndo : PySem.HandSPX.refsVE bm_NothingToUndo = true)
    {C_Unreadable N_Unreadable : Addr} {nm_Unreadable q_Unreadable : Str} {bs_Unreadable bm_Unreadable : List Value} {sn_Unreadable : List Str} {su_Unreadable : List Value} {ab_Unreadable : Bool} {co_Unreadable : Option Bool} {dd_Unreadable : Option Addr} {k0_Unreadable k1_Unreadable k2_Unreadable k3_Unreadable k5_Unreadable : Option Value}
    (eg_Unreadable : PySem.W.nsIn K mainGlobals "Unreadable" = some (some (.ref C_Unreadable)))
    (ec_Unreadable : K.lookup C_Unreadable = some (excClassObj nm_Unreadable q_Unreadable C_Unreadable N_Unreadable bs_Unreadable bm_Unreadable true sn_Unreadable su_Unreadable ab_Unreadable co_Unreadable dd_Unreadable k0_Unreadable k1_Unreadable k2_Unreadable k3_Unreadable k5_Unreadable "ValueError.__new__"))
    (eb_Unreadable : PySem.HandSPX.refsVE bm_Unreadable = true)
    {od_I an_I : Option Addr} {sl_I : Array (Option Value)} {oc_I kV_I dc_I pm_I ct_I : Value} {f_I cda_I cc_I : Addr} {ccl_I cl_I : Value} {cdd_I cld_I : Option Addr} {vs_I : Array Value} {ccs_I csl_I : Array (Option Value)} {file_I : Str} {tf_I : Tok}
    (ic_CutError : PySem.W.findIn K (.ref C_CutError) "__init__" = some (some (.ref f_I)))
    (l_I : K.lookup f_I = some ⟨oc_I, od_I, .func (PySem.W.fnX "__init__" "CutError.__init__" (defArgs s_CutError___init__) (defBody s_CutError___init__) (defScope s_CutError___init__) [("__class__", cc_I)] .none kV_I dc_I pm_I an_I (.ref cda_I) ct_I), sl_I⟩)
    (c_I : PySem.W.codeIn K (.ref cda_I) "CutError.__init__" = true) (lc_I : K.lookup cda_I = some ⟨ccl_I, cdd_I, .fields vs_I, ccs_I⟩) (v2_I : vs_I[2]? = some (.str file_I tf_I)) (fl_I : ((P.main.file : Str) == file_I) = true) (tp_I : (P.main.scope.names.lookup ("super" : Str)).isSome = false)
    (ce_I : K.lookup cc_I = some ⟨cl_I, cld_I, .cell (some (.ref C_CutError)), csl_I⟩) (z_super : PySem.W.nsIn K mainGlobals "super" = some none) (op_I : PySem.W.nsIn K cStatics "thirdparty.any" = some none) (ti_I : PySem.W.typeIn K (.ref f_I) = some (.type "function"))
    (hn_I : PySem.W.specialIn K (.builtin "object.__class__") "__get__" = some (some (.builtin "getset_descriptor.__get__"))) (ht_I : PySem.W.takesIn K (.builtin "object.__class__") = some true)
    (sa_CutError : PySem.W.findIn K (.ref C_CutError) "__setattr__" = some (some (.builtin "object.__setattr__"))) (ex_CutError : PySem.W.subIn K (.ref C_CutError) (.type "BaseException") = some true) (ty_CutError : PySem.W.typeIn K (.ref C_CutError) = some (.type "type")) (kp_CutError : PySem.W.keepIn K (.ref C_CutError) = true)
    (sb_CutError : PySem.W.mroIn K C_CutError (.ref C_CutError) = some true) (nx_CutError : PySem.W.ks_superIn K C_CutError C_CutError "__init__" = some (some (.builtin "ValueError.__init__"))) (ve_CutError : PySem.W.subIn K (.ref C_CutError) (.type "ValueError") = some true) (nv_CutError : PySem.W.findIn K (.ref C_CutError) "value" = some none)
    (hd_CutError : PySem.W.hasDictIn K C_CutError = true) (hk_CutError : PySem.W.findIn K (.ref C_CutError) "__getattr__" = some none) (hg_CutError : PySem.W.findIn K (.ref C_CutError) "__getattribute__" = some (some (.builtin "BaseException.__getattribute__"))) (ha_CutError : PySem.W.findIn K (.ref C_CutError) "__class__" = some (some (.builtin "object.__class__"))) (hm_CutError : PySem.W.mroIn K C_CutError (.type "object") = some true)
    (sa_InvalidWord : PySem.W.findIn K (.ref C_InvalidWord) "__setattr__" = some (some (.builtin "object.__setattr__"))) (ex_InvalidWord : PySem.W.subIn K (.ref C_InvalidWord) (.type "BaseException") = some true) (ty_InvalidWord : PySem.W.typeIn K (.ref C_InvalidWord) = some (.type "type")) (kp_InvalidWord : PySem.W.keepIn K (.ref C_InvalidWord) = true)
    (sb_InvalidWord : PySem.W.mroIn K C_InvalidWord (.ref C_CutError) = some true) (nx_InvalidWord : PySem.W.ks_superIn K C_InvalidWord C_CutError "__init__" = some (some (.builtin "ValueError.__init__"))) (ve_InvalidWord : PySem.W.subIn K (.ref C_InvalidWord) (.type "ValueError") = some true) (nv_InvalidWord : PySem.W.findIn K (.ref C_InvalidWord) "value" = some none)
    (hd_InvalidWord : PySem.W.hasDictIn K C_InvalidWord = true) (hk_InvalidWord : PySem.W.findIn K (.ref C_InvalidWord) "__getattr__" = some none) (hg_InvalidWord : PySem.W.findIn K (.ref C_InvalidWord) "__getattribute__" = some (some (.builtin "BaseException.__getattribute__"))) (ha_InvalidWord : PySem.W.findIn K (.ref C_InvalidWord) "__class__" = some (some (.builtin "object.__class__"))) (hm_InvalidWord : PySem.W.mroIn K C_InvalidWord (.type "object") = some true)
    (ic_InvalidWord : PySem.W.findIn K (.ref C_InvalidWord) "__init__" = some (some (.ref f_I)))
    (sa_InvalidMoment : PySem.W.findIn K (.ref C_InvalidMoment) "__setattr__" = some (some (.builtin "object.__setattr__"))) (ex_InvalidMoment : PySem.W.subIn K (.ref C_InvalidMoment) (.type "BaseException") = some true) (ty_InvalidMoment : PySem.W.typeIn K (.ref C_InvalidMoment) = some (.type "type")) (kp_InvalidMoment : PySem.W.keepIn K (.ref C_InvalidMoment) = true)
    (sb_InvalidMoment : PySem.W.mroIn K C_InvalidMoment (.ref C_CutError) = some true) (nx_InvalidMoment : PySem.W.ks_superIn K C_InvalidMoment C_CutError "__init__" = some (some (.builtin "ValueError.__init__"))) (ve_InvalidMoment : PySem.W.subIn K (.ref C_InvalidMoment) (.type "ValueError") = some true) (nv_InvalidMoment : PySem.W.findIn K (.ref C_InvalidMoment) "value" = some none)
    (hd_InvalidMoment : PySem.W.hasDictIn K C_InvalidMoment = true) (hk_InvalidMoment : PySem.W.findIn K (.ref C_InvalidMoment) "__getattr__" = some none) (hg_InvalidMoment : PySem.W.findIn K (.ref C_InvalidMoment) "__getattribute__" = some (some (.builtin "BaseException.__getattribute__"))) (ha_InvalidMoment : PySem.W.findIn K (.ref C_InvalidMoment) "__class__" = some (some (.builtin "object.__class__"))) (hm_InvalidMoment : PySem.W.mroIn K C_InvalidMoment (.type "object") = some true)
    (ic_InvalidMoment : PySem.W.findIn K (.ref C_InvalidMoment) "__init__" = some (some (.ref f_I)))
    (sa_InvalidPairs : PySem.W.findIn K (.ref C_InvalidPairs) "__setattr__" = some (some (.builtin "object.__setattr__"))) (ex_InvalidPairs : PySem.W.subIn K (.ref C_InvalidPairs) (.type "BaseException") = some true) (ty_InvalidPairs : PySem.W.typeIn K (.ref C_InvalidPairs) = some (.type "type")) (kp_InvalidPairs : PySem.W.keepIn K (.ref C_InvalidPairs) = true)
    (sb_InvalidPairs : PySem.W.mroIn K C_InvalidPairs (.ref C_CutError) = some true) (nx_InvalidPairs : PySem.W.ks_superIn K C_InvalidPairs C_CutError "__init__" = some (some (.builtin "ValueError.__init__"))) (ve_InvalidPairs : PySem.W.subIn K (.ref C_InvalidPairs) (.type "ValueError") = some true) (nv_InvalidPairs : PySem.W.findIn K (.ref C_InvalidPairs) "value" = some none)
    (hd_InvalidPairs : PySem.W.hasDictIn K C_InvalidPairs = true) (hk_InvalidPairs : PySem.W.findIn K (.ref C_InvalidPairs) "__getattr__" = some none) (hg_InvalidPairs : PySem.W.findIn K (.ref C_InvalidPairs) "__getattribute__" = some (some (.builtin "BaseException.__getattribute__"))) (ha_InvalidPairs : PySem.W.findIn K (.ref C_InvalidPairs) "__class__" = some (some (.builtin "object.__class__"))) (hm_InvalidPairs : PySem.W.mroIn K C_InvalidPairs (.type "object") = some true)
    (ic_InvalidPairs : PySem.W.findIn K (.ref C_InvalidPairs) "__init__" = some (some (.ref f_I)))
    (sa_InvalidNumber : PySem.W.findIn K (.ref C_InvalidNumber) "__setattr__" = some (some (.builtin "object.__setattr__"))) (ex_InvalidNumber : PySem.W.subIn K (.ref C_InvalidNumber) (.type "BaseException") = some true) (ty_InvalidNumber : PySem.W.typeIn K (.ref C_InvalidNumber) = some (.type "type")) (kp_InvalidNumber : PySem.W.keepIn K (.ref C_InvalidNumber) = true)
    (sb_InvalidNumber : PySem.W.mroIn K C_InvalidNumber (.ref C_CutError) = some true) (nx_InvalidNumber : PySem.W.ks_superIn K C_InvalidNumber C_CutError "__init__" = some (some (.builtin "ValueError.__init__"))) (ve_InvalidNumber : PySem.W.subIn K (.ref C_InvalidNumber) (.type "ValueError") = some true) (nv_InvalidNumber : PySem.W.findIn K (.ref C_InvalidNumber) "value" = some none)
    (hd_InvalidNumber : PySem.W.hasDictIn K C_InvalidNumber = true) (hk_InvalidNumber : PySem.W.findIn K (.ref C_InvalidNumber) "__getattr__" = some none) (hg_InvalidNumber : PySem.W.findIn K (.ref C_InvalidNumber) "__getattribute__" = some (some (.builtin "BaseException.__getattribute__"))) (ha_InvalidNumber : PySem.W.findIn K (.ref C_InvalidNumber) "__class__" = some (some (.builtin "object.__class__"))) (hm_InvalidNumber : PySem.W.mroIn K C_InvalidNumber (.type "object") = some true)
    (ic_InvalidNumber : PySem.W.findIn K (.ref C_InvalidNumber) "__init__" = some (some (.ref f_I)))
    (sa_InvalidExponent : PySem.W.findIn K (.ref C_InvalidExponent) "__setattr__" = some (some (.builtin "object.__setattr__"))) (ex_InvalidExponent : PySem.W.subIn K (.ref C_InvalidExponent) (.type "BaseException") = some true) (ty_InvalidExponent : PySem.W.typeIn K (.ref C_InvalidExponent) = some (.type "type")) (kp_InvalidExponent : PySem.W.keepIn K (.ref C_InvalidExponent) = true)
    (sb_InvalidExponent : PySem.W.mroIn K C_InvalidExponent (.ref C_CutError) = some true) (nx_InvalidExponent : PySem.W.ks_superIn K C_InvalidExponent C_CutError "__init__" = some (some (.builtin "ValueError.__init__"))) (ve_InvalidExponent : PySem.W.subIn K (.ref C_InvalidExponent) (.type "ValueError") = some true) (nv_InvalidExponent : PySem.W.findIn K (.ref C_InvalidExponent) "value" = some none)
    (hd_InvalidExponent : PySem.W.hasDictIn K C_InvalidExponent = true) (hk_InvalidExponent : PySem.W.findIn K (.ref C_InvalidExponent) "__getattr__" = some none) (hg_InvalidExponent : PySem.W.findIn K (.ref C_InvalidExponent) "__getattribute__" = some (some (.builtin "BaseException.__getattribute__"))) (ha_InvalidExponent : PySem.W.findIn K (.ref C_InvalidExponent) "__class__" = some (some (.builtin "object.__class__"))) (hm_InvalidExponent : PySem.W.mroIn K C_InvalidExponent (.type "object") = some true)
    (ic_InvalidExponent : PySem.W.findIn K (.ref C_InvalidExponent) "__init__" = some (some (.ref f_I)))
    (sa_NoOrder : PySem.W.findIn K (.ref C_NoOrder) "__setattr__" = some (some (.builtin "object.__setattr__"))) (ex_NoOrder : PySem.W.subIn K (.ref C_NoOrder) (.type "BaseException") = some true) (ty_NoOrder : PySem.W.typeIn K (.ref C_NoOrder) = some (.type "type")) (kp_NoOrder : PySem.W.keepIn K (.ref C_NoOrder) = true)
    (sb_NoOrder : PySem.W.mroIn K C_NoOrder (.ref C_CutError) = some true) (nx_NoOrder : PySem.W.ks_superIn K C_NoOrder C_CutError "__init__" = some (some (.builtin "ValueError.__init__"))) (ve_NoOrder : PySem.W.subIn K (.ref C_NoOrder) (.type "ValueError") = some true) (nv_NoOrder : PySem.W.findIn K (.ref C_NoOrder) "value" = some none)
    (hd_NoOrder : PySem.W.hasDictIn K C_NoOrder = true) (hk_NoOrder : PySem.W.findIn K (.ref C_NoOrder) "__getattr__" = some none) (hg_NoOrder : PySem.W.findIn K (.ref C_NoOrder) "__getattribute__" = some (some (.builtin "BaseException.__getattribute__"))) (ha_NoOrder : PySem.W.findIn K (.ref C_NoOrder) "__class__" = some (some (.builtin "object.__class__"))) (hm_NoOrder : PySem.W.mroIn K C_NoOrder (.type "object") = some true)
    (ic_NoOrder : PySem.W.findIn K (.ref C_NoOrder) "__init__" = some (some (.ref f_I)))
    (sa_NoLoop : PySem.W.findIn K (.ref C_NoLoop) "__setattr__" = some (some (.builtin "object.__setattr__"))) (ex_NoLoop : PySem.W.subIn K (.ref C_NoLoop) (.type "BaseException") = some true) (ty_NoLoop : PySem.W.typeIn K (.ref C_NoLoop) = some (.type "type")) (kp_NoLoop : PySem.W.keepIn K (.ref C_NoLoop) = true)
    (sb_NoLoop : PySem.W.mroIn K C_NoLoop (.ref C_CutError) = some true) (nx_NoLoop : PySem.W.ks_superIn K C_NoLoop C_CutError "__init__" = some (some (.builtin "ValueError.__init__"))) (ve_NoLoop : PySem.W.subIn K (.ref C_NoLoop) (.type "ValueError") = some true) (nv_NoLoop : PySem.W.findIn K (.ref C_NoLoop) "value" = some none)
    (hd_NoLoop : PySem.W.hasDictIn K C_NoLoop = true) (hk_NoLoop : PySem.W.findIn K (.ref C_NoLoop) "__getattr__" = some none) (hg_NoLoop : PySem.W.findIn K (.ref C_NoLoop) "__getattribute__" = some (some (.builtin "BaseException.__getattribute__"))) (ha_NoLoop : PySem.W.findIn K (.ref C_NoLoop) "__class__" = some (some (.builtin "object.__class__"))) (hm_NoLoop : PySem.W.mroIn K C_NoLoop (.type "object") = some true)
    (ic_NoLoop : PySem.W.findIn K (.ref C_NoLoop) "__init__" = some (some (.ref f_I)))
    (sa_NoMark : PySem.W.findIn K (.ref C_NoMark) "__setattr__" = some (some (.builtin "object.__setattr__"))) (ex_NoMark : PySem.W.subIn K (.ref C_NoMark) (.type "BaseException") = some true) (ty_NoMark : PySem.W.typeIn K (.ref C_NoMark) = some (.type "type")) (kp_NoMark : PySem.W.keepIn K (.ref C_NoMark) = true)
    (sb_NoMark : PySem.W.mroIn K C_NoMark (.ref C_CutError) = some true) (nx_NoMark : PySem.W.ks_superIn K C_NoMark C_CutError "__init__" = some (some (.builtin "ValueError.__init__"))) (ve_NoMark : PySem.W.subIn K (.ref C_NoMark) (.type "ValueError") = some true) (nv_NoMark : PySem.W.findIn K (.ref C_NoMark) "value" = some none)
    (hd_NoMark : PySem.W.hasDictIn K C_NoMark = true) (hk_NoMark : PySem.W.findIn K (.ref C_NoMark) "__getattr__" = some none) (hg_NoMark : PySem.W.findIn K (.ref C_NoMark) "__getattribute__" = some (some (.builtin "BaseException.__getattribute__"))) (ha_NoMark : PySem.W.findIn K (.ref C_NoMark) "__class__" = some (some (.builtin "object.__class__"))) (hm_NoMark : PySem.W.mroIn K C_NoMark (.type "object") = some true)
    (ic_NoMark : PySem.W.findIn K (.ref C_NoMark) "__init__" = some (some (.ref f_I)))
    (sa_NothingToUndo : PySem.W.findIn K (.ref C_NothingToUndo) "__setattr__" = some (some (.builtin "object.__setattr__"))) (ex_NothingToUndo : PySem.W.subIn K (.ref C_NothingToUndo) (.type "BaseException") = some true) (ty_NothingToUndo : PySem.W.typeIn K (.ref C_NothingToUndo) = some (.type "type")) (kp_NothingToUndo : PySem.W.keepIn K (.ref C_NothingToUndo) = true)
    (sb_NothingToUndo : PySem.W.mroIn K C_NothingToUndo (.ref C_CutError) = some true) (nx_NothingToUndo : PySem.W.ks_superIn K C_NothingToUndo C_CutError "__init__" = some (some (.builtin "ValueError.__init__"))) (ve_NothingToUndo : PySem.W.subIn K (.ref C_NothingToUndo) (.type "ValueError") = some true) (nv_NothingToUndo : PySem.W.findIn K (.ref C_NothingToUndo) "value" = some none)
    (hd_NothingToUndo : PySem.W.hasDictIn K C_NothingToUndo = true) (hk_NothingToUndo : PySem.W.findIn K (.ref C_NothingToUndo) "__getattr__" = some none) (hg_NothingToUndo : PySem.W.findIn K (.ref C_NothingToUndo) "__getattribute__" = some (some (.builtin "BaseException.__getattribute__"))) (ha_NothingToUndo : PySem.W.findIn K (.ref C_NothingToUndo) "__class__" = some (some (.builtin "object.__class__"))) (hm_NothingToUndo : PySem.W.mroIn K C_NothingToUndo (.type "object") = some true)
    (ic_NothingToUndo : PySem.W.findIn K (.ref C_NothingToUndo) "__init__" = some (some (.ref f_I)))
    (sa_Unreadable : PySem.W.findIn K (.ref C_Unreadable) "__setattr__" = some (some (.builtin "object.__setattr__"))) (ex_Unreadable : PySem.W.subIn K (.ref C_Unreadable) (.type "BaseException") = some true) (ty_Unreadable : PySem.W.typeIn K (.ref C_Unreadable) = some (.type "type")) (kp_Unreadable : PySem.W.keepIn K (.ref C_Unreadable) = true)
    (sb_Unreadable : PySem.W.mroIn K C_Unreadable (.ref C_CutError) = some true) (nx_Unreadable : PySem.W.ks_superIn K C_Unreadable C_CutError "__init__" = some (some (.builtin "ValueError.__init__"))) (ve_Unreadable : PySem.W.subIn K (.ref C_Unreadable) (.type "ValueError") = some true) (nv_Unreadable : PySem.W.findIn K (.ref C_Unreadable) "value" = some none)
    (hd_Unreadable : PySem.W.hasDictIn K C_Unreadable = true) (hk_Unreadable : PySem.W.findIn K (.ref C_Unreadable) "__getattr__" = some none) (hg_Unreadable : PySem.W.findIn K (.ref C_Unreadable) "__getattribute__" = some (some (.builtin "BaseException.__getattribute__"))) (ha_Unreadable : PySem.W.findIn K (.ref C_Unreadable) "__class__" = some (some (.builtin "object.__class__"))) (hm_Unreadable : PySem.W.mroIn K C_Unreadable (.type "object") = some true)
    (ic_Unreadable : PySem.W.findIn K (.ref C_Unreadable) "__init__" = some (some (.ref f_I)))
    (qo_InvalidWord_InvalidWord : PySem.W.kitOne K (.ref C_InvalidWord) (.ref C_InvalidWord) = some true)
    (qo_InvalidWord_InvalidMoment : PySem.W.kitOne K (.ref C_InvalidWord) (.ref C_InvalidMoment) = some false)
    (qo_InvalidWord_InvalidPairs : PySem.W.kitOne K (.ref C_InvalidWord) (.ref C_InvalidPairs) = some false)
    (qo_InvalidWord_InvalidNumber : PySem.W.kitOne K (.ref C_InvalidWord) (.ref C_InvalidNumber) = some false)
    (qo_InvalidWord_InvalidExponent : PySem.W.kitOne K (.ref C_InvalidWord) (.ref C_InvalidExponent) = some false)
    (qo_InvalidWord_NoOrder : PySem.W.kitOne K (.ref C_InvalidWord) (.ref C_NoOrder) = some false)
    (qo_InvalidWord_NoLoop : PySem.W.kitOne K (.ref C_InvalidWord) (.ref C_NoLoop) = some false)
    (qo_InvalidWord_NoMark : PySem.W.kitOne K (.ref C_InvalidWord) (.ref C_NoMark) = some false)
    (qo_InvalidWord_NothingToUndo : PySem.W.kitOne K (.ref C_InvalidWord) (.ref C_NothingToUndo) = some false)
    (qo_InvalidWord_Unreadable : PySem.W.kitOne K (.ref C_InvalidWord) (.ref C_Unreadable) = some false)
    (qo_InvalidMoment_InvalidWord : PySem.W.kitOne K (.ref C_InvalidMoment) (.ref C_InvalidWord) = some false)
    (qo_InvalidMoment_InvalidMoment : PySem.W.kitOne K (.ref C_InvalidMoment) (.ref C_InvalidMoment) = some true)
    (qo_InvalidMoment_InvalidPairs : PySem.W.kitOne K (.ref C_InvalidMoment) (.ref C_InvalidPairs) = some false)
    (qo_InvalidMoment_InvalidNumber : PySem.W.kitOne K (.ref C_InvalidMoment) (.ref C_InvalidNumber) = some false)
    (qo_InvalidMoment_InvalidExponent : PySem.W.kitOne K (.ref C_InvalidMoment) (.ref C_InvalidExponent) = some false)
    (qo_InvalidMoment_NoOrder : PySem.W.kitOne K (.ref C_InvalidMoment) (.ref C_NoOrder) = some false)
    (qo_InvalidMoment_NoLoop : PySem.W.kitOne K (.ref C_InvalidMoment) (.ref C_NoLoop) = some false)
    (qo_InvalidMoment_NoMark : PySem.W.kitOne K (.ref C_InvalidMoment) (.ref C_NoMark) = some false)
    (qo_InvalidMoment_NothingToUndo : PySem.W.kitOne K (.ref C_InvalidMoment) (.ref C_NothingToUndo) = some false)
    (qo_InvalidMoment_Unreadable : PySem.W.kitOne K (.ref C_InvalidMoment) (.ref C_Unreadable) = some false)
    (qo_InvalidPairs_InvalidWord : PySem.W.kitOne K (.ref C_InvalidPairs) (.ref C_InvalidWord) = some false)
    (qo_InvalidPairs_InvalidMoment : PySem.W.kitOne K (.ref C_InvalidPairs) (.ref C_InvalidMoment) = some false)
    (qo_InvalidPairs_InvalidPairs : PySem.W.kitOne K (.ref C_InvalidPairs) (.ref C_InvalidPairs) = some true)
    (qo_InvalidPairs_InvalidNumber : PySem.W.kitOne K (.ref C_InvalidPairs) (.ref C_InvalidNumber) = some false)
    (qo_InvalidPairs_InvalidExponent : PySem.W.kitOne K (.ref C_InvalidPairs) (.ref C_InvalidExponent) = some false)
    (qo_InvalidPairs_NoOrder : PySem.W.kitOne K (.ref C_InvalidPairs) (.ref C_NoOrder) = some false)
    (qo_InvalidPairs_NoLoop : PySem.W.kitOne K (.ref C_InvalidPairs) (.ref C_NoLoop) = some false)
    (qo_InvalidPairs_NoMark : PySem.W.kitOne K (.ref C_InvalidPairs) (.ref C_NoMark) = some false)
    (qo_InvalidPairs_NothingToUndo : PySem.W.kitOne K (.ref C_InvalidPairs) (.ref C_NothingToUndo) = some false)
    (qo_InvalidPairs_Unreadable : PySem.W.kitOne K (.ref C_InvalidPairs) (.ref C_Unreadable) = some false)
    (qo_InvalidNumber_InvalidWord : PySem.W.kitOne K (.ref C_InvalidNumber) (.ref C_InvalidWord) = some false)
    (qo_InvalidNumber_InvalidMoment : PySem.W.kitOne K (.ref C_InvalidNumber) (.ref C_InvalidMoment) = some false)
    (qo_InvalidNumber_InvalidPairs : PySem.W.kitOne K (.ref C_InvalidNumber) (.ref C_InvalidPairs) = some false)
    (qo_InvalidNumber_InvalidNumber : PySem.W.kitOne K (.ref C_InvalidNumber) (.ref C_InvalidNumber) = some true)
    (qo_InvalidNumber_InvalidExponent : PySem.W.kitOne K (.ref C_InvalidNumber) (.ref C_InvalidExponent) = some false)
    (qo_InvalidNumber_NoOrder : PySem.W.kitOne K (.ref C_InvalidNumber) (.ref C_NoOrder) = some false)
    (qo_InvalidNumber_NoLoop : PySem.W.kitOne K (.ref C_InvalidNumber) (.ref C_NoLoop) = some false)
    (qo_InvalidNumber_NoMark : PySem.W.kitOne K (.ref C_InvalidNumber) (.ref C_NoMark) = some false)
    (qo_InvalidNumber_NothingToUndo : PySem.W.kitOne K (.ref C_InvalidNumber) (.ref C_NothingToUndo) = some false)
    (qo_InvalidNumber_Unreadable : PySem.W.kitOne K (.ref C_InvalidNumber) (.ref C_Unreadable) = some false)
    (qo_InvalidExponent_InvalidWord : PySem.W.kitOne K (.ref C_InvalidExponent) (.ref C_InvalidWord) = some false)
    (qo_InvalidExponent_InvalidMoment : PySem.W.kitOne K (.ref C_InvalidExponent) (.ref C_InvalidMoment) = some false)
    (qo_InvalidExponent_InvalidPairs : PySem.W.kitOne K (.ref C_InvalidExponent) (.ref C_InvalidPairs) = some false)
    (qo_InvalidExponent_InvalidNumber : PySem.W.kitOne K (.ref C_InvalidExponent) (.ref C_InvalidNumber) = some false)
    (qo_InvalidExponent_InvalidExponent : PySem.W.kitOne K (.ref C_InvalidExponent) (.ref C_InvalidExponent) = some true)
    (qo_InvalidExponent_NoOrder : PySem.W.kitOne K (.ref C_InvalidExponent) (.ref C_NoOrder) = some false)
    (qo_InvalidExponent_NoLoop : PySem.W.kitOne K (.ref C_InvalidExponent) (.ref C_NoLoop) = some false)
    (qo_InvalidExponent_NoMark : PySem.W.kitOne K (.ref C_InvalidExponent) (.ref C_NoMark) = some false)
    (qo_InvalidExponent_NothingToUndo : PySem.W.kitOne K (.ref C_InvalidExponent) (.ref C_NothingToUndo) = some false)
    (qo_InvalidExponent_Unreadable : PySem.W.kitOne K (.ref C_InvalidExponent) (.ref C_Unreadable) = some false)
    (qo_NoOrder_InvalidWord : PySem.W.kitOne K (.ref C_NoOrder) (.ref C_InvalidWord) = some false)
    (qo_NoOrder_InvalidMoment : PySem.W.kitOne K (.ref C_NoOrder) (.ref C_InvalidMoment) = some false)
    (qo_NoOrder_InvalidPairs : PySem.W.kitOne K (.ref C_NoOrder) (.ref C_InvalidPairs) = some false)
    (qo_NoOrder_InvalidNumber : PySem.W.kitOne K (.ref C_NoOrder) (.ref C_InvalidNumber) = some false)
    (qo_NoOrder_InvalidExponent : PySem.W.kitOne K (.ref C_NoOrder) (.ref C_InvalidExponent) = some false)
    (qo_NoOrder_NoOrder : PySem.W.kitOne K (.ref C_NoOrder) (.ref C_NoOrder) = some true)
    (qo_NoOrder_NoLoop : PySem.W.kitOne K (.ref C_NoOrder) (.ref C_NoLoop) = some false)
    (qo_NoOrder_NoMark : PySem.W.kitOne K (.ref C_NoOrder) (.ref C_NoMark) = some false)
    (qo_NoOrder_NothingToUndo : PySem.W.kitOne K (.ref C_NoOrder) (.ref C_NothingToUndo) = some false)
    (qo_NoOrder_Unreadable : PySem.W.kitOne K (.ref C_NoOrder) (.ref C_Unreadable) = some false)
    (qo_NoLoop_InvalidWord : PySem.W.kitOne K (.ref C_NoLoop) (.ref C_InvalidWord) = some false)
    (qo_NoLoop_InvalidMoment : PySem.W.kitOne K (.ref C_NoLoop) (.ref C_InvalidMoment) = some false)
    (qo_NoLoop_InvalidPairs : PySem.W.kitOne K (.ref C_NoLoop) (.ref C_InvalidPairs) = some false)
    (qo_NoLoop_InvalidNumber : PySem.W.kitOne K (.ref C_NoLoop) (.ref C_InvalidNumber) = some false)
    (qo_NoLoop_InvalidExponent : PySem.W.kitOne K (.ref C_NoLoop) (.ref C_InvalidExponent) = some false)
    (qo_NoLoop_NoOrder : PySem.W.kitOne K (.ref C_NoLoop) (.ref C_NoOrder) = some false)
    (qo_NoLoop_NoLoop : PySem.W.kitOne K (.ref C_NoLoop) (.ref C_NoLoop) = some true)
    (qo_NoLoop_NoMark : PySem.W.kitOne K (.ref C_NoLoop) (.ref C_NoMark) = some false)
    (qo_NoLoop_NothingToUndo : PySem.W.kitOne K (.ref C_NoLoop) (.ref C_NothingToUndo) = some false)
    (qo_NoLoop_Unreadable : PySem.W.kitOne K (.ref C_NoLoop) (.ref C_Unreadable) = some false)
    (qo_NoMark_InvalidWord : PySem.W.kitOne K (.ref C_NoMark) (.ref C_InvalidWord) = some false)
    (qo_NoMark_InvalidMoment : PySem.W.kitOne K (.ref C_NoMark) (.ref C_InvalidMoment) = some false)
    (qo_NoMark_InvalidPairs : PySem.W.kitOne K (.ref C_NoMark) (.ref C_InvalidPairs) = some false)
    (qo_NoMark_InvalidNumber : PySem.W.kitOne K (.ref C_NoMark) (.ref C_InvalidNumber) = some false)
    (qo_NoMark_InvalidExponent : PySem.W.kitOne K (.ref C_NoMark) (.ref C_InvalidExponent) = some false)
    (qo_NoMark_NoOrder : PySem.W.kitOne K (.ref C_NoMark) (.ref C_NoOrder) = some false)
    (qo_NoMark_NoLoop : PySem.W.kitOne K (.ref C_NoMark) (.ref C_NoLoop) = some false)
    (qo_NoMark_NoMark : PySem.W.kitOne K (.ref C_NoMark) (.ref C_NoMark) = some true)
    (qo_NoMark_NothingToUndo : PySem.W.kitOne K (.ref C_NoMark) (.ref C_NothingToUndo) = some false)
    (qo_NoMark_Unreadable : PySem.W.kitOne K (.ref C_NoMark) (.ref C_Unreadable) = some false)
    (qo_NothingToUndo_InvalidWord : PySem.W.kitOne K (.ref C_NothingToUndo) (.ref C_InvalidWord) = some false)
    (qo_NothingToUndo_InvalidMoment : PySem.W.kitOne K (.ref C_NothingToUndo) (.ref C_InvalidMoment) = some false)
    (qo_NothingToUndo_InvalidPairs : PySem.W.kitOne K (.ref C_NothingToUndo) (.ref C_InvalidPairs) = some false)
    (qo_NothingToUndo_InvalidNumber : PySem.W.kitOne K (.ref C_NothingToUndo) (.ref C_InvalidNumber) = some false)
    (qo_NothingToUndo_InvalidExponent : PySem.W.kitOne K (.ref C_NothingToUndo) (.ref C_InvalidExponent) = some false)
    (qo_NothingToUndo_NoOrder : PySem.W.kitOne K (.ref C_NothingToUndo) (.ref C_NoOrder) = some false)
    (qo_NothingToUndo_NoLoop : PySem.W.kitOne K (.ref C_NothingToUndo) (.ref C_NoLoop) = some false)
    (qo_NothingToUndo_NoMark : PySem.W.kitOne K (.ref C_NothingToUndo) (.ref C_NoMark) = some false)
    (qo_NothingToUndo_NothingToUndo : PySem.W.kitOne K (.ref C_NothingToUndo) (.ref C_NothingToUndo) = some true)
    (qo_NothingToUndo_Unreadable : PySem.W.kitOne K (.ref C_NothingToUndo) (.ref C_Unreadable) = some false)
    (qo_Unreadable_InvalidWord : PySem.W.kitOne K (.ref C_Unreadable) (.ref C_InvalidWord) = some false)
    (qo_Unreadable_InvalidMoment : PySem.W.kitOne K (.ref C_Unreadable) (.ref C_InvalidMoment) = some false)
    (qo_Unreadable_InvalidPairs : PySem.W.kitOne K (.ref C_Unreadable) (.ref C_InvalidPairs) = some false)
    (qo_Unreadable_InvalidNumber : PySem.W.kitOne K (.ref C_Unreadable) (.ref C_InvalidNumber) = some false)
    (qo_Unreadable_InvalidExponent : PySem.W.kitOne K (.ref C_Unreadable) (.ref C_InvalidExponent) = some false)
    (qo_Unreadable_NoOrder : PySem.W.kitOne K (.ref C_Unreadable) (.ref C_NoOrder) = some false)
    (qo_Unreadable_NoLoop : PySem.W.kitOne K (.ref C_Unreadable) (.ref C_NoLoop) = some false)
    (qo_Unreadable_NoMark : PySem.W.kitOne K (.ref C_Unreadable) (.ref C_NoMark) = some false)
    (qo_Unreadable_NothingToUndo : PySem.W.kitOne K (.ref C_Unreadable) (.ref C_NothingToUndo) = some false)
    (qo_Unreadable_Unreadable : PySem.W.kitOne K (.ref C_Unreadable) (.ref C_Unreadable) = some true)
    (qo_CutError_InvalidWord : PySem.W.kitOne K (.ref C_CutError) (.ref C_InvalidWord) = some false)
    (qo_CutError_InvalidMoment : PySem.W.kitOne K (.ref C_CutError) (.ref C_InvalidMoment) = some false)
    (qo_CutError_InvalidPairs : PySem.W.kitOne K (.ref C_CutError) (.ref C_InvalidPairs) = some false)
    (qo_CutError_InvalidNumber : PySem.W.kitOne K (.ref C_CutError) (.ref C_InvalidNumber) = some false)
    (qo_CutError_InvalidExponent : PySem.W.kitOne K (.ref C_CutError) (.ref C_InvalidExponent) = some false)
    (qo_CutError_NoOrder : PySem.W.kitOne K (.ref C_CutError) (.ref C_NoOrder) = some false)
    (qo_CutError_NoLoop : PySem.W.kitOne K (.ref C_CutError) (.ref C_NoLoop) = some false)
    (qo_CutError_NoMark : PySem.W.kitOne K (.ref C_CutError) (.ref C_NoMark) = some false)
    (qo_CutError_NothingToUndo : PySem.W.kitOne K (.ref C_CutError) (.ref C_NothingToUndo) = some false)
    (qo_CutError_Unreadable : PySem.W.kitOne K (.ref C_CutError) (.ref C_Unreadable) = some false)
    (qo_InvalidWord_CutError : PySem.W.kitOne K (.ref C_InvalidWord) (.ref C_CutError) = some true)
    (qo_InvalidMoment_CutError : PySem.W.kitOne K (.ref C_InvalidMoment) (.ref C_CutError) = some true)
    (qo_InvalidPairs_CutError : PySem.W.kitOne K (.ref C_InvalidPairs) (.ref C_CutError) = some true)
    (qo_InvalidNumber_CutError : PySem.W.kitOne K (.ref C_InvalidNumber) (.ref C_CutError) = some true)
    (qo_InvalidExponent_CutError : PySem.W.kitOne K (.ref C_InvalidExponent) (.ref C_CutError) = some true)
    (qo_NoOrder_CutError : PySem.W.kitOne K (.ref C_NoOrder) (.ref C_CutError) = some true)
    (qo_NoLoop_CutError : PySem.W.kitOne K (.ref C_NoLoop) (.ref C_CutError) = some true)
    (qo_NoMark_CutError : PySem.W.kitOne K (.ref C_NoMark) (.ref C_CutError) = some true)
    (qo_NothingToUndo_CutError : PySem.W.kitOne K (.ref C_NothingToUndo) (.ref C_CutError) = some true)
    (qo_Unreadable_CutError : PySem.W.kitOne K (.ref C_Unreadable) (.ref C_CutError) = some true)
    (qo_CutError_CutError : PySem.W.kitOne K (.ref C_CutError) (.ref C_CutError) = some true)
    (qv_InvalidWord : PySem.W.kitOne K (.ref C_InvalidWord) (.type "ValueError") = some true)
    (qv_InvalidMoment : PySem.W.kitOne K (.ref C_InvalidMoment) (.type "ValueError") = some true)
    (qv_InvalidPairs : PySem.W.kitOne K (.ref C_InvalidPairs) (.type "ValueError") = some true)
    (qv_InvalidNumber : PySem.W.kitOne K (.ref C_InvalidNumber) (.type "ValueError") = some true)
    (qv_InvalidExponent : PySem.W.kitOne K (.ref C_InvalidExponent) (.type "ValueError") = some true)
    (qv_NoOrder : PySem.W.kitOne K (.ref C_NoOrder) (.type "ValueError") = some true)
    (qv_NoLoop : PySem.W.kitOne K (.ref C_NoLoop) (.type "ValueError") = some true)
    (qv_NoMark : PySem.W.kitOne K (.ref C_NoMark) (.type "ValueError") = some true)
    (qv_NothingToUndo : PySem.W.kitOne K (.ref C_NothingToUndo) (.type "ValueError") = some true)
    (qv_Unreadable : PySem.W.kitOne K (.ref C_Unreadable) (.type "ValueError") = some true)
    (qv_CutError : PySem.W.kitOne K (.ref C_CutError) (.type "ValueError") = some true)
    {od__law_pool an__law_pool : Option Addr} {sl__law_pool : Array (Option Value)} {oc__law_pool kV__law_pool dc__law_pool pm__law_pool cd__law_pool ct__law_pool : Value}
    (a__law_pool : PySem.W.nsIn K mainGlobals "_law_pool" = some (some (.ref f__law_pool))) (l__law_pool : K.lookup f__law_pool = some ⟨oc__law_pool, od__law_pool, .func (PySem.W.fnOf "_law_pool" "_law_pool" (defArgs s__law_pool) (defBody s__law_pool) (defScope s__law_pool) .none kV__law_pool dc__law_pool pm__law_pool an__law_pool cd__law_pool ct__law_pool), sl__law_pool⟩) (c__law_pool : PySem.W.codeIn K cd__law_pool "_law_pool" = true) (k__law_pool : PySem.W.keepIn K (.ref f__law_pool) = true)
    {od__law_draw an__law_draw : Option Addr} {sl__law_draw : Array (Option Value)} {oc__law_draw kV__law_draw dc__law_draw pm__law_draw cd__law_draw ct__law_draw : Value}
    (a__law_draw : PySem.W.nsIn K mainGlobals "_law_draw" = some (some (.ref f__law_draw))) (l__law_draw : K.lookup f__law_draw = some ⟨oc__law_draw, od__law_draw, .func (PySem.W.fnOf "_law_draw" "_law_draw" (defArgs s__law_draw) (defBody s__law_draw) (defScope s__law_draw) .none kV__law_draw dc__law_draw pm__law_draw an__law_draw cd__law_draw ct__law_draw), sl__law_draw⟩) (c__law_draw : PySem.W.codeIn K cd__law_draw "_law_draw" = true) (k__law_draw : PySem.W.keepIn K (.ref f__law_draw) = true)
    {od__law_classes an__law_classes : Option Addr} {sl__law_classes : Array (Option Value)} {oc__law_classes kV__law_classes dc__law_classes pm__law_classes cd__law_classes ct__law_classes : Value}
    (a__law_classes : PySem.W.nsIn K mainGlobals "_law_classes" = some (some (.ref f__law_classes))) (l__law_classes : K.lookup f__law_classes = some ⟨oc__law_classes, od__law_classes, .func (PySem.W.fnOf "_law_classes" "_law_classes" (defArgs s__law_classes) (defBody s__law_classes) (defScope s__law_classes) .none kV__law_classes dc__law_classes pm__law_classes an__law_classes cd__law_classes ct__law_classes), sl__law_classes⟩) (c__law_classes : PySem.W.codeIn K cd__law_classes "_law_classes" = true) (k__law_classes : PySem.W.keepIn K (.ref f__law_classes) = true)
    {od__law_made an__law_made : Option Addr} {sl__law_made : Array (Option Value)} {oc__law_made kV__law_made dc__law_made pm__law_made cd__law_made ct__law_made : Value}
    (a__law_made : PySem.W.nsIn K mainGlobals "_law_made" = some (some (.ref f__law_made))) (l__law_made : K.lookup f__law_made = some ⟨oc__law_made, od__law_made, .func (PySem.W.fnOf "_law_made" "_law_made" (defArgs s__law_made) (defBody s__law_made) (defScope s__law_made) .none kV__law_made dc__law_made pm__law_made an__law_made cd__law_made ct__law_made), sl__law_made⟩) (c__law_made : PySem.W.codeIn K cd__law_made "_law_made" = true) (k__law_made : PySem.W.keepIn K (.ref f__law_made) = true)
    {od_law an_law : Option Addr} {sl_law : Array (Option Value)} {oc_law kV_law dc_law pm_law cd_law ct_law : Value}
    (a_law : PySem.W.nsIn K mainGlobals "law" = some (some (.ref f_law))) (l_law : K.lookup f_law = some ⟨oc_law, od_law, .func (PySem.W.fnOf "law" "law" (defArgs s_law) (defBody s_law) (defScope s_law) .none kV_law dc_law pm_law an_law cd_law ct_law), sl_law⟩) (c_law : PySem.W.codeIn K cd_law "law" = true) (k_law : PySem.W.keepIn K (.ref f_law) = true)
    (z_len : PySem.W.nsIn K mainGlobals "len" = some none)
    (z_abs : PySem.W.nsIn K mainGlobals "abs" = some none)
    (z_max : PySem.W.nsIn K mainGlobals "max" = some none)
    (z_min : PySem.W.nsIn K mainGlobals "min" = some none)
    (z_range : PySem.W.nsIn K mainGlobals "range" = some none)
    (z_int : PySem.W.nsIn K mainGlobals "int" = some none)
    (z_list : PySem.W.nsIn K mainGlobals "list" = some none)
    (z_sorted : PySem.W.nsIn K mainGlobals "sorted" = some none)
    (z_isinstance : PySem.W.nsIn K mainGlobals "isinstance" = some none)
    (z_repr : PySem.W.nsIn K mainGlobals "repr" = some none)
    (z_ValueError : PySem.W.nsIn K mainGlobals "ValueError" = some none)
    : ∃ fd : FuncData, (∀ (s : Shared) (u : Value), BindsTo s fd ⟨[u], []⟩ [("script", u)]) ∧ ∀ base : Heap, K.In base → base.Ns mainGlobals mg → FnQ P w K mg base 4 fa fd ["script"] (spLaw K) := by
  have e := hfa.symm.trans (PySem.W.mg_of X G a_law)
  cases e
  have B : Blt mg := ⟨PySem.W.mg_none_of X G z_len, PySem.W.mg_none_of X G z_abs, PySem.W.mg_none_of X G z_max, PySem.W.mg_none_of X G z_min, PySem.W.mg_none_of X G z_range, PySem.W.mg_none_of X G z_int, PySem.W.mg_none_of X G z_list, PySem.W.mg_none_of X G z_sorted⟩
  have ii := PySem.W.mg_none_of X G z_isinstance
  have rp := PySem.W.mg_none_of X G z_repr
  have ve := PySem.W.mg_none_of X G z_ValueError
  have T_sup : SupT P K mg f_I cda_I cc_I C_CutError := ⟨⟨_, _, _, _, _, l_I, rfl, rfl⟩, ⟨_, _, _, _, _, _, lc_I, v2_I, fl_I⟩, ⟨_, _, _, ce_I⟩, ⟨_, exc_clsIn ec_CutError⟩, PySem.W.mg_none_of X G z_super, tp_I, op_I⟩
  have T_CutError : ErrT K mg C_CutError f_I "CutError" C_CutError := ⟨PySem.W.mg_of X G eg_CutError, ⟨⟨⟨⟨_, _, _, _, _, _, _, _, _, _, _, _, _, _, _, ec_CutError, eb_CutError⟩, sa_CutError, ex_CutError, ty_CutError, kp_CutError⟩, sb_CutError, nx_CutError, ve_CutError, nv_CutError⟩, hd_CutError, hk_CutError, hg_CutError, ha_CutError, hm_CutError⟩, ic_CutError, ti_I⟩
  have T_InvalidWord : ErrT K mg C_CutError f_I "InvalidWord" C_InvalidWord := ⟨PySem.W.mg_of X G eg_InvalidWord, ⟨⟨⟨⟨_, _, _, _, _, _, _, _, _, _, _, _, _, _, _, ec_InvalidWord, eb_InvalidWord⟩, sa_InvalidWord, ex_InvalidWord, ty_InvalidWord, kp_InvalidWord⟩, sb_InvalidWord, nx_InvalidWord, ve_InvalidWord, nv_InvalidWord⟩, hd_InvalidWord, hk_InvalidWord, hg_InvalidWord, ha_InvalidWord, hm_InvalidWord⟩, ic_InvalidWord, ti_I⟩
  have T_InvalidMoment : ErrT K mg C_CutError f_I "InvalidMoment" C_InvalidMoment := ⟨PySem.W.mg_of X G eg_InvalidMoment, ⟨⟨⟨⟨_, _, _, _, _, _, _, _, _, _, _, _, _, _, _, ec_InvalidMoment, eb_InvalidMoment⟩, sa_InvalidMoment, ex_InvalidMoment, ty_InvalidMoment, kp_InvalidMoment⟩, sb_InvalidMoment, nx_InvalidMoment, ve_InvalidMoment, nv_InvalidMoment⟩, hd_InvalidMoment, hk_InvalidMoment, hg_InvalidMoment, ha_InvalidMoment, hm_InvalidMoment⟩, ic_InvalidMoment, ti_I⟩
  have T_InvalidPairs : ErrT K mg C_CutError f_I "InvalidPairs" C_InvalidPairs := ⟨PySem.W.mg_of X G eg_InvalidPairs, ⟨⟨⟨⟨_, _, _, _, _, _, _, _, _, _, _, _, _, _, _, ec_InvalidPairs, eb_InvalidPairs⟩, sa_InvalidPairs, ex_InvalidPairs, ty_InvalidPairs, kp_InvalidPairs⟩, sb_InvalidPairs, nx_InvalidPairs, ve_InvalidPairs, nv_InvalidPairs⟩, hd_InvalidPairs, hk_InvalidPairs, hg_InvalidPairs, ha_InvalidPairs, hm_InvalidPairs⟩, ic_InvalidPairs, ti_I⟩
  have T_InvalidNumber : ErrT K mg C_CutError f_I "InvalidNumber" C_InvalidNumber := ⟨PySem.W.mg_of X G eg_InvalidNumber, ⟨⟨⟨⟨_, _, _, _, _, _, _, _, _, _, _, _, _, _, _, ec_InvalidNumber, eb_InvalidNumber⟩, sa_InvalidNumber, ex_InvalidNumber, ty_InvalidNumber, kp_InvalidNumber⟩, sb_InvalidNumber, nx_InvalidNumber, ve_InvalidNumber, nv_InvalidNumber⟩, hd_InvalidNumber, hk_InvalidNumber, hg_InvalidNumber, ha_InvalidNumber, hm_InvalidNumber⟩, ic_InvalidNumber, ti_I⟩
  have T_InvalidExponent : ErrT K mg C_CutError f_I "InvalidExponent" C_InvalidExponent := ⟨PySem.W.mg_of X G eg_InvalidExponent, ⟨⟨⟨⟨_, _, _, _, _, _, _, _, _, _, _, _, _, _, _, ec_InvalidExponent, eb_InvalidExponent⟩, sa_InvalidExponent, ex_InvalidExponent, ty_InvalidExponent, kp_InvalidExponent⟩, sb_InvalidExponent, nx_InvalidExponent, ve_InvalidExponent, nv_InvalidExponent⟩, hd_InvalidExponent, hk_InvalidExponent, hg_InvalidExponent, ha_InvalidExponent, hm_InvalidExponent⟩, ic_InvalidExponent, ti_I⟩
  have T_NoOrder : ErrT K mg C_CutError f_I "NoOrder" C_NoOrder := ⟨PySem.W.mg_of X G eg_NoOrder, ⟨⟨⟨⟨_, _, _, _, _, _, _, _, _, _, _, _, _, _, _, ec_NoOrder, eb_NoOrder⟩, sa_NoOrder, ex_NoOrder, ty_NoOrder, kp_NoOrder⟩, sb_NoOrder, nx_NoOrder, ve_NoOrder, nv_NoOrder⟩, hd_NoOrder, hk_NoOrder, hg_NoOrder, ha_NoOrder, hm_NoOrder⟩, ic_NoOrder, ti_I⟩
  have T_NoLoop : ErrT K mg C_CutError f_I "NoLoop" C_NoLoop := ⟨PySem.W.mg_of X G eg_NoLoop, ⟨⟨⟨⟨_, _, _, _, _, _, _, _, _, _, _, _, _, _, _, ec_NoLoop, eb_NoLoop⟩, sa_NoLoop, ex_NoLoop, ty_NoLoop, kp_NoLoop⟩, sb_NoLoop, nx_NoLoop, ve_NoLoop, nv_NoLoop⟩, hd_NoLoop, hk_NoLoop, hg_NoLoop, ha_NoLoop, hm_NoLoop⟩, ic_NoLoop, ti_I⟩
  have T_NoMark : ErrT K mg C_CutError f_I "NoMark" C_NoMark := ⟨PySem.W.mg_of X G eg_NoMark, ⟨⟨⟨⟨_, _, _, _, _, _, _, _, _, _, _, _, _, _, _, ec_NoMark, eb_NoMark⟩, sa_NoMark, ex_NoMark, ty_NoMark, kp_NoMark⟩, sb_NoMark, nx_NoMark, ve_NoMark, nv_NoMark⟩, hd_NoMark, hk_NoMark, hg_NoMark, ha_NoMark, hm_NoMark⟩, ic_NoMark, ti_I⟩
  have T_NothingToUndo : ErrT K mg C_CutError f_I "NothingToUndo" C_NothingToUndo := ⟨PySem.W.mg_of X G eg_NothingToUndo, ⟨⟨⟨⟨_, _, _, _, _, _, _, _, _, _, _, _, _, _, _, ec_NothingToUndo, eb_NothingToUndo⟩, sa_NothingToUndo, ex_NothingToUndo, ty_NothingToUndo, kp_NothingToUndo⟩, sb_NothingToUndo, nx_NothingToUndo, ve_NothingToUndo, nv_NothingToUndo⟩, hd_NothingToUndo, hk_NothingToUndo, hg_NothingToUndo, ha_NothingToUndo, hm_NothingToUndo⟩, ic_NothingToUndo, ti_I⟩
  have T_Unreadable : ErrT K mg C_CutError f_I "Unreadable" C_Unreadable := ⟨PySem.W.mg_of X G eg_Unreadable, ⟨⟨⟨⟨_, _, _, _, _, _, _, _, _, _, _, _, _, _, _, ec_Unreadable, eb_Unreadable⟩, sa_Unreadable, ex_Unreadable, ty_Unreadable, kp_Unreadable⟩, sb_Unreadable, nx_Unreadable, ve_Unreadable, nv_Unreadable⟩, hd_Unreadable, hk_Unreadable, hg_Unreadable, ha_Unreadable, hm_Unreadable⟩, ic_Unreadable, ti_I⟩
  have CG : ClsG K := ⟨hn_I, ht_I⟩
  have KA := (⟨⟨⟨qo_InvalidWord_InvalidWord, qo_InvalidWord_InvalidMoment, qo_InvalidWord_InvalidPairs, qo_InvalidWord_InvalidNumber, qo_InvalidWord_InvalidExponent, qo_InvalidWord_NoOrder, qo_InvalidWord_NoLoop, qo_InvalidWord_NoMark, qo_InvalidWord_NothingToUndo, qo_InvalidWord_Unreadable, trivial⟩, qo_InvalidWord_CutError, qv_InvalidWord⟩, ⟨⟨qo_InvalidMoment_InvalidWord, qo_InvalidMoment_InvalidMoment, qo_InvalidMoment_InvalidPairs, qo_InvalidMoment_InvalidNumber, qo_InvalidMoment_InvalidExponent, qo_InvalidMoment_NoOrder, qo_InvalidMoment_NoLoop, qo_InvalidMoment_NoMark, qo_InvalidMoment_NothingToUndo, qo_InvalidMoment_Unreadable, trivial⟩, qo_InvalidMoment_CutError, qv_InvalidMoment⟩, ⟨⟨qo_InvalidPairs_InvalidWord, qo_InvalidPairs_InvalidMoment, qo_InvalidPairs_InvalidPairs, qo_InvalidPairs_InvalidNumber, qo_InvalidPairs_InvalidExponent, qo_InvalidPairs_NoOrder, qo_InvalidPairs_NoLoop, qo_InvalidPairs_NoMark, qo_InvalidPairs_NothingToUndo, qo_InvalidPairs_Unreadable, trivial⟩, qo_InvalidPairs_CutError, qv_InvalidPairs⟩, ⟨⟨qo_InvalidNumber_InvalidWord, qo_InvalidNumber_InvalidMoment, qo_InvalidNumber_InvalidPairs, qo_InvalidNumber_InvalidNumber, qo_InvalidNumber_InvalidExponent, qo_InvalidNumber_NoOrder, qo_InvalidNumber_NoLoop, qo_InvalidNumber_NoMark, qo_InvalidNumber_NothingToUndo, qo_InvalidNumber_Unreadable, trivial⟩, qo_InvalidNumber_CutError, qv_InvalidNumber⟩, ⟨⟨qo_InvalidExponent_InvalidWord, qo_InvalidExponent_InvalidMoment, qo_InvalidExponent_InvalidPairs, qo_InvalidExponent_InvalidNumber, qo_InvalidExponent_InvalidExponent, qo_InvalidExponent_NoOrder, qo_InvalidExponent_NoLoop, qo_InvalidExponent_NoMark, qo_InvalidExponent_NothingToUndo, qo_InvalidExponent_Unreadable, trivial⟩, qo_InvalidExponent_CutError, qv_InvalidExponent⟩, ⟨⟨qo_NoOrder_InvalidWord, qo_NoOrder_InvalidMoment, qo_NoOrder_InvalidPairs, qo_NoOrder_InvalidNumber, qo_NoOrder_InvalidExponent, qo_NoOrder_NoOrder, qo_NoOrder_NoLoop, qo_NoOrder_NoMark, qo_NoOrder_NothingToUndo, qo_NoOrder_Unreadable, trivial⟩, qo_NoOrder_CutError, qv_NoOrder⟩, ⟨⟨qo_NoLoop_InvalidWord, qo_NoLoop_InvalidMoment, qo_NoLoop_InvalidPairs, qo_NoLoop_InvalidNumber, qo_NoLoop_InvalidExponent, qo_NoLoop_NoOrder, qo_NoLoop_NoLoop, qo_NoLoop_NoMark, qo_NoLoop_NothingToUndo, qo_NoLoop_Unreadable, trivial⟩, qo_NoLoop_CutError, qv_NoLoop⟩, ⟨⟨qo_NoMark_InvalidWord, qo_NoMark_InvalidMoment, qo_NoMark_InvalidPairs, qo_NoMark_InvalidNumber, qo_NoMark_InvalidExponent, qo_NoMark_NoOrder, qo_NoMark_NoLoop, qo_NoMark_NoMark, qo_NoMark_NothingToUndo, qo_NoMark_Unreadable, trivial⟩, qo_NoMark_CutError, qv_NoMark⟩, ⟨⟨qo_NothingToUndo_InvalidWord, qo_NothingToUndo_InvalidMoment, qo_NothingToUndo_InvalidPairs, qo_NothingToUndo_InvalidNumber, qo_NothingToUndo_InvalidExponent, qo_NothingToUndo_NoOrder, qo_NothingToUndo_NoLoop, qo_NothingToUndo_NoMark, qo_NothingToUndo_NothingToUndo, qo_NothingToUndo_Unreadable, trivial⟩, qo_NothingToUndo_CutError, qv_NothingToUndo⟩, ⟨⟨qo_Unreadable_InvalidWord, qo_Unreadable_InvalidMoment, qo_Unreadable_InvalidPairs, qo_Unreadable_InvalidNumber, qo_Unreadable_InvalidExponent, qo_Unreadable_NoOrder, qo_Unreadable_NoLoop, qo_Unreadable_NoMark, qo_Unreadable_NothingToUndo, qo_Unreadable_Unreadable, trivial⟩, qo_Unreadable_CutError, qv_Unreadable⟩, ⟨⟨qo_CutError_InvalidWord, qo_CutError_InvalidMoment, qo_CutError_InvalidPairs, qo_CutError_InvalidNumber, qo_CutError_InvalidExponent, qo_CutError_NoOrder, qo_CutError_NoLoop, qo_CutError_NoMark, qo_CutError_NothingToUndo, qo_CutError_Unreadable, trivial⟩, qo_CutError_CutError, qv_CutError⟩, trivial⟩ : AllR (fun spot C => KRow K [C_InvalidWord, C_InvalidMoment, C_InvalidPairs, C_InvalidNumber, C_InvalidExponent, C_NoOrder, C_NoLoop, C_NoMark, C_NothingToUndo, C_Unreadable] C spot ∧ PySem.W.kitOne K (.ref C) (.ref C_CutError) = some true ∧ PySem.W.kitOne K (.ref C) (.type "ValueError") = some true) [C_InvalidWord, C_InvalidMoment, C_InvalidPairs, C_InvalidNumber, C_InvalidExponent, C_NoOrder, C_NoLoop, C_NoMark, C_NothingToUndo, C_Unreadable, C_CutError] 0)
  have F__law_pool := fun_mk (st := s__law_pool) l__law_pool c__law_pool k__law_pool
  have b__law_pool := F__law_pool.binds (ps := ["script", "at"]) fun _ _ _ _ _ _ us hl => match us, hl with | [_, _], _ => rfl
  have F__law_draw := fun_mk (st := s__law_draw) l__law_draw c__law_draw k__law_draw
  have b__law_draw := F__law_draw.binds (ps := ["pool", "many"]) fun _ _ _ _ _ _ us hl => match us, hl with | [_, _], _ => rfl
  have F__law_classes := fun_mk (st := s__law_classes) l__law_classes c__law_classes k__law_classes
  have b__law_classes := F__law_classes.binds (ps := ["e"]) fun _ _ _ _ _ _ us hl => match us, hl with | [_], _ => rfl
  have F__law_made := fun_mk (st := s__law_made) l__law_made c__law_made k__law_made
  have b__law_made := F__law_made.binds (ps := ["spot", "item", "by_name"]) fun _ _ _ _ _ _ us hl => match us, hl with | [_, _, _], _ => rfl
  have F_law := fun_mk (st := s_law) l_law c_law k_law
  refine ⟨PySem.W.fnOf "law" "law" (defArgs s_law) (defBody s_law) (defScope s_law) .none kV_law dc_law pm_law an_law cd_law ct_law, fun s u => .of_eq rfl, fun base _ _ => ?_⟩
  have h_I : HasIQ P w K mg base C_CutError f_I := ⟨_, .all (fun us hl => match us, hl with | [_, _], _ => rfl), fun _ _ => rfl, ok_supQ l_I c_I T_sup rfl⟩
  have h__law_pool : Has P w K mg base "_law_pool" 1 ["script", "at"] (spPool K) := ⟨_, _, PySem.W.mg_of X G a__law_pool, k__law_pool, b__law_pool, ok__law_pool F__law_pool B⟩
  have h__law_draw : Has P w K mg base "_law_draw" 1 ["pool", "many"] (spDraw) := ⟨_, _, PySem.W.mg_of X G a__law_draw, k__law_draw, b__law_draw, ok__law_draw F__law_draw B⟩
  have h__law_classes : Has P w K mg base "_law_classes" 1 ["e"] (spClasses K C_CutError [C_InvalidWord, C_InvalidMoment, C_InvalidPairs, C_InvalidNumber, C_InvalidExponent, C_NoOrder, C_NoLoop, C_NoMark, C_NothingToUndo, C_Unreadable]) := ⟨_, _, PySem.W.mg_of X G a__law_classes, k__law_classes, b__law_classes, ok__law_classes F__law_classes B T_InvalidWord T_InvalidMoment T_InvalidPairs T_InvalidNumber T_InvalidExponent T_NoOrder T_NoLoop T_NoMark T_NothingToUndo T_Unreadable CG ii⟩
  have h__law_made : HasQ P w K mg base "_law_made" 3 ["spot", "item", "by_name"] (spMade K C_CutError [C_InvalidWord, C_InvalidMoment, C_InvalidPairs, C_InvalidNumber, C_InvalidExponent, C_NoOrder, C_NoLoop, C_NoMark, C_NothingToUndo, C_Unreadable, C_CutError]) := ⟨_, _, PySem.W.mg_of X G a__law_made, k__law_made, b__law_made, ok__law_made F__law_made h_I T_InvalidWord T_InvalidMoment T_InvalidPairs T_InvalidNumber T_InvalidExponent T_NoOrder T_NoLoop T_NoMark T_NothingToUndo T_Unreadable T_CutError⟩
  exact ok_law F_law B (cs := [C_InvalidWord, C_InvalidMoment, C_InvalidPairs, C_InvalidNumber, C_InvalidExponent, C_NoOrder, C_NoLoop, C_NoMark, C_NothingToUndo, C_Unreadable]) (al := [C_InvalidWord, C_InvalidMoment, C_InvalidPairs, C_InvalidNumber, C_InvalidExponent, C_NoOrder, C_NoLoop, C_NoMark, C_NothingToUndo, C_Unreadable, C_CutError]) T_CutError CG ii rp ve KA rfl h__law_pool h__law_draw h__law_classes h__law_made
theorem walk_law {l : PySem.W.OpenLaw} {q : Program} {loose : List Str} {XP : (Str → Option Value) → Heap → Prop} {YP : World → Heap → Prop} {d : DefRec} {K : Params → PySem.W.Frag} (hn : l.most = some 63) (hdf : d.params.defaults = [])
    (hY : ∀ (w : World) (h : Heap), YP w h → (K w.params).In h)
    (F : ∀ (w : World) (mg : Str → Option Value) (fa : Addr) (h : Heap), (K w.params).In h → h.Ns mainGlobals mg → mg d.name = some (.ref fa) →
      ∃ fd : FuncData, (∀ (s : Shared) (u : Value), BindsTo s fd ⟨[u], []⟩ [("script", u)]) ∧ ∀ base : Heap, (K w.params).In base → base.Ns mainGlobals mg → FnQ l.prog w (K w.params) mg base 4 fa fd ["script"] (spLaw (K w.params))) :
    PySem.W.WalkO q loose XP YP l.row.toRowW d [] (fun f vs => PySem.call f vs) :=
  walk_ofQ (n := 63) (k := 4) (x := "script") (sp := fun w => spLaw (K w.params)) hn (by decide) hdf ⟨rfl, by decide, by decide⟩ hY F (fun _ _ a ns hl _ hS => ⟨a, ns, rfl, hS, hl, fun _ => rfl⟩)
end
end HC
open PySem PySem.W PyProof.Rows in
set_option maxRecDepth 100000 in
set_option maxHeartbeats 0 in
theorem PySem.Challenge.cw_halfcuts_k01_errors_made_holds : PySem.Challenge.rw_halfcuts_k01_errors_made.Holds := by
  w_on; o_law; k_head; (case hw => w_witness2)
  k_fill
  refine HC.walk_law (l := PySem.Challenge.rw_halfcuts_k01_errors_made) rfl rfl (fun w h Y => PySem.W.kIn_of Y) ?F
  case F =>
    intro w mg fa h KX G hmg
    refine' HC.all_mk KX G hmg ?eg_CutError ?ec_CutError ?eb_CutError ?eg_InvalidWord ?ec_InvalidWord ?eb_InvalidWord ?eg_InvalidMoment ?ec_InvalidMoment ?eb_InvalidMoment ?eg_InvalidPairs ?ec_InvalidPairs ?eb_InvalidPairs ?eg_InvalidNumber ?ec_InvalidNumber ?eb_InvalidNumber ?eg_InvalidExponent ?ec_InvalidExponent ?eb_InvalidExponent ?eg_NoOrder ?ec_NoOrder ?eb_NoOrder ?eg_NoLoop ?ec_NoLoop ?eb_NoLoop ?eg_NoMark ?ec_NoMark ?eb_NoMark ?eg_NothingToUndo ?ec_NothingToUndo ?eb_NothingToUndo ?eg_Unreadable ?ec_Unreadable ?eb_Unreadable ?ic_CutError ?l_I ?c_I ?lc_I ?v2_I ?fl_I ?tp_I ?ce_I ?z_super ?op_I ?ti_I ?hn_I ?ht_I ?sa_CutError ?ex_CutError ?ty_CutError ?kp_CutError ?sb_CutError ?nx_CutError ?ve_CutError ?nv_CutError ?hd_CutError ?hk_CutError ?hg_CutError ?ha_CutError ?hm_CutError ?sa_InvalidWord ?ex_InvalidWord ?ty_InvalidWord ?kp_InvalidWord ?sb_InvalidWord ?nx_InvalidWord ?ve_InvalidWord ?nv_InvalidWord ?hd_InvalidWord ?hk_InvalidWord ?hg_InvalidWord ?ha_InvalidWord ?hm_InvalidWord ?ic_InvalidWord ?sa_InvalidMoment ?ex_InvalidMoment ?ty_InvalidMoment ?kp_InvalidMoment ?sb_InvalidMoment ?nx_InvalidMoment ?ve_InvalidMoment ?nv_InvalidMoment ?hd_InvalidMoment ?hk_InvalidMoment ?hg_InvalidMoment ?ha_InvalidMoment ?hm_InvalidMoment ?ic_InvalidMoment ?sa_InvalidPairs ?ex_InvalidPairs ?ty_InvalidPairs ?kp_InvalidPairs ?sb_InvalidPairs ?nx_InvalidPairs ?ve_InvalidPairs ?nv_InvalidPairs ?hd_InvalidPairs ?hk_InvalidPairs ?hg_InvalidPairs ?ha_InvalidPairs ?hm_InvalidPairs ?ic_InvalidPairs ?sa_InvalidNumber ?ex_InvalidNumber ?ty_InvalidNumber ?kp_InvalidNumber ?sb_InvalidNumber ?nx_InvalidNumber ?ve_InvalidNumber ?nv_InvalidNumber ?hd_InvalidNumber ?hk_InvalidNumber ?hg_InvalidNumber ?ha_InvalidNumber ?hm_InvalidNumber ?ic_InvalidNumber ?sa_InvalidExponent ?ex_InvalidExponent ?ty_InvalidExponent ?kp_InvalidExponent ?sb_InvalidExponent ?nx_InvalidExponent ?ve_InvalidExponent ?nv_InvalidExponent ?hd_InvalidExponent ?hk_InvalidExponent ?hg_InvalidExponent ?ha_InvalidExponent ?hm_InvalidExponent ?ic_InvalidExponent ?sa_NoOrder ?ex_NoOrder ?ty_NoOrder ?kp_NoOrder ?sb_NoOrder ?nx_NoOrder ?ve_NoOrder ?nv_NoOrder ?hd_NoOrder ?hk_NoOrder ?hg_NoOrder ?ha_NoOrder ?hm_NoOrder ?ic_NoOrder ?sa_NoLoop ?ex_NoLoop ?ty_NoLoop ?kp_NoLoop ?sb_NoLoop ?nx_NoLoop ?ve_NoLoop ?nv_NoLoop ?hd_NoLoop ?hk_NoLoop ?hg_NoLoop ?ha_NoLoop ?hm_NoLoop ?ic_NoLoop ?sa_NoMark ?ex_NoMark ?ty_NoMark ?kp_NoMark ?sb_NoMark ?nx_NoMark ?ve_NoMark ?nv_NoMark ?hd_NoMark ?hk_NoMark ?hg_NoMark ?ha_NoMark ?hm_NoMark ?ic_NoMark ?sa_NothingToUndo ?ex_NothingToUndo ?ty_NothingToUndo ?kp_NothingToUndo ?sb_NothingToUndo ?nx_NothingToUndo ?ve_NothingToUndo ?nv_NothingToUndo ?hd_NothingToUndo ?hk_NothingToUndo ?hg_NothingToUndo ?ha_NothingToUndo ?hm_NothingToUndo ?ic_NothingToUndo ?sa_Unreadable ?ex_Unreadable ?ty_Unreadable ?kp_Unreadable ?sb_Unreadable ?nx_Unreadable ?ve_Unreadable ?nv_Unreadable ?hd_Unreadable ?hk_Unreadable ?hg_Unreadable ?ha_Unreadable ?hm_Unreadable ?ic_Unreadable ?qo_InvalidWord_InvalidWord ?qo_InvalidWord_InvalidMoment ?qo_InvalidWord_InvalidPairs ?qo_InvalidWord_InvalidNumber ?qo_InvalidWord_InvalidExponent ?qo_InvalidWord_NoOrder ?qo_InvalidWord_NoLoop ?qo_InvalidWord_NoMark ?qo_InvalidWord_NothingToUndo ?qo_InvalidWord_Unreadable ?qo_InvalidMoment_InvalidWord ?qo_InvalidMoment_InvalidMoment ?qo_InvalidMoment_InvalidPairs ?qo_InvalidMoment_InvalidNumber ?qo_InvalidMoment_InvalidExponent ?qo_InvalidMoment_NoOrder ?qo_InvalidMoment_NoLoop ?qo_InvalidMoment_NoMark ?qo_InvalidMoment_NothingToUndo ?qo_InvalidMoment_Unreadable ?qo_InvalidPairs_InvalidWord ?qo_InvalidPairs_InvalidMoment ?qo_InvalidPairs_InvalidPairs ?qo_InvalidPairs_InvalidNumber ?qo_InvalidPairs_InvalidExponent ?qo_InvalidPairs_NoOrder ?qo_InvalidPairs_NoLoop ?qo_InvalidPairs_NoMark ?qo_InvalidPairs_NothingToUndo ?qo_InvalidPairs_Unreadable ?qo_InvalidNumber_InvalidWord ?qo_InvalidNumber_InvalidMoment ?qo_InvalidNumber_InvalidPairs ?qo_InvalidNumber_InvalidNumber ?qo_InvalidNumber_InvalidExponent ?qo_InvalidNumber_NoOrder ?qo_InvalidNumber_NoLoop ?qo_InvalidNumber_NoMark ?qo_InvalidNumber_NothingToUndo ?qo_InvalidNumber_Unreadable ?qo_InvalidExponent_InvalidWord ?qo_InvalidExponent_InvalidMoment ?qo_InvalidExponent_InvalidPairs ?qo_InvalidExponent_InvalidNumber ?qo_InvalidExponent_InvalidExponent ?qo_InvalidExponent_NoOrder ?qo_InvalidExponent_NoLoop ?qo_InvalidExponent_NoMark ?qo_InvalidExponent_NothingToUndo ?qo_InvalidExponent_Unreadable ?qo_NoOrder_InvalidWord ?qo_NoOrder_InvalidMoment ?qo_NoOrder_InvalidPairs ?qo_NoOrder_InvalidNumber ?qo_NoOrder_InvalidExponent ?qo_NoOrder_NoOrder ?qo_NoOrder_NoLoop ?qo_NoOrder_NoMark ?qo_NoOrder_NothingToUndo ?qo_NoOrder_Unreadable ?qo_NoLoop_InvalidWord ?qo_NoLoop_InvalidMoment ?qo_NoLoop_InvalidPairs ?qo_NoLoop_InvalidNumber ?qo_NoLoop_InvalidExponent ?qo_NoLoop_NoOrder ?qo_NoLoop_NoLoop ?qo_NoLoop_NoMark ?qo_NoLoop_NothingToUndo ?qo_NoLoop_Unreadable ?qo_NoMark_InvalidWord ?qo_NoMark_InvalidMoment ?qo_NoMark_InvalidPairs ?qo_NoMark_InvalidNumber ?qo_NoMark_InvalidExponent ?qo_NoMark_NoOrder ?qo_NoMark_NoLoop ?qo_NoMark_NoMark ?qo_NoMark_NothingToUndo ?qo_NoMark_Unreadable ?qo_NothingToUndo_InvalidWord ?qo_NothingToUndo_InvalidMoment ?qo_NothingToUndo_InvalidPairs ?qo_NothingToUndo_InvalidNumber ?qo_NothingToUndo_InvalidExponent ?qo_NothingToUndo_NoOrder ?qo_NothingToUndo_NoLoop ?qo_NothingToUndo_NoMark ?qo_NothingToUndo_NothingToUndo ?qo_NothingToUndo_Unreadable ?qo_Unreadable_InvalidWord ?qo_Unreadable_InvalidMoment ?qo_Unreadable_InvalidPairs ?qo_Unreadable_InvalidNumber ?qo_Unreadable_InvalidExponent ?qo_Unreadable_NoOrder ?qo_Unreadable_NoLoop ?qo_Unreadable_NoMark ?qo_Unreadable_NothingToUndo ?qo_Unreadable_Unreadable ?qo_CutError_InvalidWord ?qo_CutError_InvalidMoment ?qo_CutError_InvalidPairs ?qo_CutError_InvalidNumber ?qo_CutError_InvalidExponent ?qo_CutError_NoOrder ?qo_CutError_NoLoop ?qo_CutError_NoMark ?qo_CutError_NothingToUndo ?qo_CutError_Unreadable ?qo_InvalidWord_CutError ?qo_InvalidMoment_CutError ?qo_InvalidPairs_CutError ?qo_InvalidNumber_CutError ?qo_InvalidExponent_CutError ?qo_NoOrder_CutError ?qo_NoLoop_CutError ?qo_NoMark_CutError ?qo_NothingToUndo_CutError ?qo_Unreadable_CutError ?qo_CutError_CutError ?qv_InvalidWord ?qv_InvalidMoment ?qv_InvalidPairs ?qv_InvalidNumber ?qv_InvalidExponent ?qv_NoOrder ?qv_NoLoop ?qv_NoMark ?qv_NothingToUndo ?qv_Unreadable ?qv_CutError ?a__law_pool ?l__law_pool ?c__law_pool ?k__law_pool ?a__law_draw ?l__law_draw ?c__law_draw ?k__law_draw ?a__law_classes ?l__law_classes ?c__law_classes ?k__law_classes ?a__law_made ?l__law_made ?c__law_made ?k__law_made ?a_law ?l_law ?c_law ?k_law ?z_len ?z_abs ?z_max ?z_min ?z_range ?z_int ?z_list ?z_sorted ?z_isinstance ?z_repr ?z_ValueError
    (case eg_CutError => k_is)
    (case ec_CutError => k_is)
    (case eb_CutError => first | rfl | decide +kernel)
    (case eg_InvalidWord => k_is)
    (case ec_InvalidWord => k_is)
    (case eb_InvalidWord => first | rfl | decide +kernel)
    (case eg_InvalidMoment => k_is)
    (case ec_InvalidMoment => k_is)
    (case eb_InvalidMoment => first | rfl | decide +kernel)
    (case eg_InvalidPairs => k_is)
    (case ec_InvalidPairs => k_is)
    (case eb_InvalidPairs => first | rfl | decide +kernel)
    (case eg_InvalidNumber => k_is)
    (case ec_InvalidNumber => k_is)
    (case eb_InvalidNumber => first | rfl | decide +kernel)
    (case eg_InvalidExponent => k_is)
    (case ec_InvalidExponent => k_is)
    (case eb_InvalidExponent => first | rfl | decide +kernel)
    (case eg_NoOrder => k_is)
    (case ec_NoOrder => k_is)
    (case eb_NoOrder => first | rfl | decide +kernel)
    (case eg_NoLoop => k_is)
    (case ec_NoLoop => k_is)
    (case eb_NoLoop => first | rfl | decide +kernel)
    (case eg_NoMark => k_is)
    (case ec_NoMark => k_is)
    (case eb_NoMark => first | rfl | decide +kernel)
    (case eg_NothingToUndo => k_is)
    (case ec_NothingToUndo => k_is)
    (case eb_NothingToUndo => first | rfl | decide +kernel)
    (case eg_Unreadable => k_is)
    (case ec_Unreadable => k_is)
    (case eb_Unreadable => first | rfl | decide +kernel)
    (case ic_CutError => k_is)
    (case l_I => k_is)
    (case c_I => k_is)
    (case lc_I => k_is)
    (case v2_I => rfl)
    (case fl_I => first | rfl | decide +kernel)
    (case tp_I => first | rfl | decide +kernel)
    (case ce_I => k_is)
    (case z_super => k_is)
    (case op_I => k_is)
    (case ti_I => k_is)
    (case hn_I => k_is)
    (case ht_I => k_is)
    (case sa_CutError => k_is)
    (case ex_CutError => k_is)
    (case ty_CutError => k_is)
    (case kp_CutError => k_is)
    (case sb_CutError => k_is)
    (case nx_CutError => ks_is)
    (case ve_CutError => k_is)
    (case nv_CutError => k_is)
    (case hd_CutError => k_is)
    (case hk_CutError => k_is)
    (case hg_CutError => k_is)
    (case ha_CutError => k_is)
    (case hm_CutError => k_is)
    (case sa_InvalidWord => k_is)
    (case ex_InvalidWord => k_is)
    (case ty_InvalidWord => k_is)
    (case kp_InvalidWord => k_is)
    (case sb_InvalidWord => k_is)
    (case nx_InvalidWord => ks_is)
    (case ve_InvalidWord => k_is)
    (case nv_InvalidWord => k_is)
    (case hd_InvalidWord => k_is)
    (case hk_InvalidWord => k_is)
    (case hg_InvalidWord => k_is)
    (case ha_InvalidWord => k_is)
    (case hm_InvalidWord => k_is)
    (case ic_InvalidWord => k_is)
    (case sa_InvalidMoment => k_is)
    (case ex_InvalidMoment => k_is)
    (case ty_InvalidMoment => k_is)
    (case kp_InvalidMoment => k_is)
    (case sb_InvalidMoment => k_is)
    (case nx_InvalidMoment => ks_is)
    (case ve_InvalidMoment => k_is)
    (case nv_InvalidMoment => k_is)
    (case hd_InvalidMoment => k_is)
    (case hk_InvalidMoment => k_is)
    (case hg_InvalidMoment => k_is)
    (case ha_InvalidMoment => k_is)
    (case hm_InvalidMoment => k_is)
    (case ic_InvalidMoment => k_is)
    (case sa_InvalidPairs => k_is)
    (case ex_InvalidPairs => k_is)
    (case ty_InvalidPairs => k_is)
    (case kp_InvalidPairs => k_is)
    (case sb_InvalidPairs => k_is)
    (case nx_InvalidPairs => ks_is)
    (case ve_InvalidPairs => k_is)
    (case nv_InvalidPairs => k_is)
    (case hd_InvalidPairs => k_is)
    (case hk_InvalidPairs => k_is)
    (case hg_InvalidPairs => k_is)
    (case ha_InvalidPairs => k_is)
    (case hm_InvalidPairs => k_is)
    (case ic_InvalidPairs => k_is)
    (case sa_InvalidNumber => k_is)
    (case ex_InvalidNumber => k_is)
    (case ty_InvalidNumber => k_is)
    (case kp_InvalidNumber => k_is)
    (case sb_InvalidNumber => k_is)
    (case nx_InvalidNumber => ks_is)
    (case ve_InvalidNumber => k_is)
    (case nv_InvalidNumber => k_is)
    (case hd_InvalidNumber => k_is)
    (case hk_InvalidNumber => k_is)
    (case hg_InvalidNumber => k_is)
    (case ha_InvalidNumber => k_is)
    (case hm_InvalidNumber => k_is)
    (case ic_InvalidNumber => k_is)
    (case sa_InvalidExponent => k_is)
    (case ex_InvalidExponent => k_is)
    (case ty_InvalidExponent => k_is)
    (case kp_InvalidExponent => k_is)
    (case sb_InvalidExponent => k_is)
    (case nx_InvalidExponent => ks_is)
    (case ve_InvalidExponent => k_is)
    (case nv_InvalidExponent => k_is)
    (case hd_InvalidExponent => k_is)
    (case hk_InvalidExponent => k_is)
    (case hg_InvalidExponent => k_is)
    (case ha_InvalidExponent => k_is)
    (case hm_InvalidExponent => k_is)
    (case ic_InvalidExponent => k_is)
    (case sa_NoOrder => k_is)
    (case ex_NoOrder => k_is)
    (case ty_NoOrder => k_is)
    (case kp_NoOrder => k_is)
    (case sb_NoOrder => k_is)
    (case nx_NoOrder => ks_is)
    (case ve_NoOrder => k_is)
    (case nv_NoOrder => k_is)
    (case hd_NoOrder => k_is)
    (case hk_NoOrder => k_is)
    (case hg_NoOrder => k_is)
    (case ha_NoOrder => k_is)
    (case hm_NoOrder => k_is)
    (case ic_NoOrder => k_is)
    (case sa_NoLoop => k_is)
    (case ex_NoLoop => k_is)
    (case ty_NoLoop => k_is)
    (case kp_NoLoop => k_is)
    (case sb_NoLoop => k_is)
    (case nx_NoLoop => ks_is)
    (case ve_NoLoop => k_is)
    (case nv_NoLoop => k_is)
    (case hd_NoLoop => k_is)
    (case hk_NoLoop => k_is)
    (case hg_NoLoop => k_is)
    (case ha_NoLoop => k_is)
    (case hm_NoLoop => k_is)
    (case ic_NoLoop => k_is)
    (case sa_NoMark => k_is)
    (case ex_NoMark => k_is)
    (case ty_NoMark => k_is)
    (case kp_NoMark => k_is)
    (case sb_NoMark => k_is)
    (case nx_NoMark => ks_is)
    (case ve_NoMark => k_is)
    (case nv_NoMark => k_is)
    (case hd_NoMark => k_is)
    (case hk_NoMark => k_is)
    (case hg_NoMark => k_is)
    (case ha_NoMark => k_is)
    (case hm_NoMark => k_is)
    (case ic_NoMark => k_is)
    (case sa_NothingToUndo => k_is)
    (case ex_NothingToUndo => k_is)
    (case ty_NothingToUndo => k_is)
    (case kp_NothingToUndo => k_is)
    (case sb_NothingToUndo => k_is)
    (case nx_NothingToUndo => ks_is)
    (case ve_NothingToUndo => k_is)
    (case nv_NothingToUndo => k_is)
    (case hd_NothingToUndo => k_is)
    (case hk_NothingToUndo => k_is)
    (case hg_NothingToUndo => k_is)
    (case ha_NothingToUndo => k_is)
    (case hm_NothingToUndo => k_is)
    (case ic_NothingToUndo => k_is)
    (case sa_Unreadable => k_is)
    (case ex_Unreadable => k_is)
    (case ty_Unreadable => k_is)
    (case kp_Unreadable => k_is)
    (case sb_Unreadable => k_is)
    (case nx_Unreadable => ks_is)
    (case ve_Unreadable => k_is)
    (case nv_Unreadable => k_is)
    (case hd_Unreadable => k_is)
    (case hk_Unreadable => k_is)
    (case hg_Unreadable => k_is)
    (case ha_Unreadable => k_is)
    (case hm_Unreadable => k_is)
    (case ic_Unreadable => k_is)
    (case qo_InvalidWord_InvalidWord => kit_is)
    (case qo_InvalidWord_InvalidMoment => kit_is)
    (case qo_InvalidWord_InvalidPairs => kit_is)
    (case qo_InvalidWord_InvalidNumber => kit_is)
    (case qo_InvalidWord_InvalidExponent => kit_is)
    (case qo_InvalidWord_NoOrder => kit_is)
    (case qo_InvalidWord_NoLoop => kit_is)
    (case qo_InvalidWord_NoMark => kit_is)
    (case qo_InvalidWord_NothingToUndo => kit_is)
    (case qo_InvalidWord_Unreadable => kit_is)
    (case qo_InvalidMoment_InvalidWord => kit_is)
    (case qo_InvalidMoment_InvalidMoment => kit_is)
    (case qo_InvalidMoment_InvalidPairs => kit_is)
    (case qo_InvalidMoment_InvalidNumber => kit_is)
    (case qo_InvalidMoment_InvalidExponent => kit_is)
    (case qo_InvalidMoment_NoOrder => kit_is)
    (case qo_InvalidMoment_NoLoop => kit_is)
    (case qo_InvalidMoment_NoMark => kit_is)
    (case qo_InvalidMoment_NothingToUndo => kit_is)
    (case qo_InvalidMoment_Unreadable => kit_is)
    (case qo_InvalidPairs_InvalidWord => kit_is)
    (case qo_InvalidPairs_InvalidMoment => kit_is)
    (case qo_InvalidPairs_InvalidPairs => kit_is)
    (case qo_InvalidPairs_InvalidNumber => kit_is)
    (case qo_InvalidPairs_InvalidExponent => kit_is)
    (case qo_InvalidPairs_NoOrder => kit_is)
    (case qo_InvalidPairs_NoLoop => kit_is)
    (case qo_InvalidPairs_NoMark => kit_is)
    (case qo_InvalidPairs_NothingToUndo => kit_is)
    (case qo_InvalidPairs_Unreadable => kit_is)
    (case qo_InvalidNumber_InvalidWord => kit_is)
    (case qo_InvalidNumber_InvalidMoment => kit_is)
    (case qo_InvalidNumber_InvalidPairs => kit_is)
    (case qo_InvalidNumber_InvalidNumber => kit_is)
    (case qo_InvalidNumber_InvalidExponent => kit_is)
    (case qo_InvalidNumber_NoOrder => kit_is)
    (case qo_InvalidNumber_NoLoop => kit_is)
    (case qo_InvalidNumber_NoMark => kit_is)
    (case qo_InvalidNumber_NothingToUndo => kit_is)
    (case qo_InvalidNumber_Unreadable => kit_is)
    (case qo_InvalidExponent_InvalidWord => kit_is)
    (case qo_InvalidExponent_InvalidMoment => kit_is)
    (case qo_InvalidExponent_InvalidPairs => kit_is)
    (case qo_InvalidExponent_InvalidNumber => kit_is)
    (case qo_InvalidExponent_InvalidExponent => kit_is)
    (case qo_InvalidExponent_NoOrder => kit_is)
    (case qo_InvalidExponent_NoLoop => kit_is)
    (case qo_InvalidExponent_NoMark => kit_is)
    (case qo_InvalidExponent_NothingToUndo => kit_is)
    (case qo_InvalidExponent_Unreadable => kit_is)
    (case qo_NoOrder_InvalidWord => kit_is)
    (case qo_NoOrder_InvalidMoment => kit_is)
    (case qo_NoOrder_InvalidPairs => kit_is)
    (case qo_NoOrder_InvalidNumber => kit_is)
    (case qo_NoOrder_InvalidExponent => kit_is)
    (case qo_NoOrder_NoOrder => kit_is)
    (case qo_NoOrder_NoLoop => kit_is)
    (case qo_NoOrder_NoMark => kit_is)
    (case qo_NoOrder_NothingToUndo => kit_is)
    (case qo_NoOrder_Unreadable => kit_is)
    (case qo_NoLoop_InvalidWord => kit_is)
    (case qo_NoLoop_InvalidMoment => kit_is)
    (case qo_NoLoop_InvalidPairs => kit_is)
    (case qo_NoLoop_InvalidNumber => kit_is)
    (case qo_NoLoop_InvalidExponent => kit_is)
    (case qo_NoLoop_NoOrder => kit_is)
    (case qo_NoLoop_NoLoop => kit_is)
    (case qo_NoLoop_NoMark => kit_is)
    (case qo_NoLoop_NothingToUndo => kit_is)
    (case qo_NoLoop_Unreadable => kit_is)
    (case qo_NoMark_InvalidWord => kit_is)
    (case qo_NoMark_InvalidMoment => kit_is)
    (case qo_NoMark_InvalidPairs => kit_is)
    (case qo_NoMark_InvalidNumber => kit_is)
    (case qo_NoMark_InvalidExponent => kit_is)
    (case qo_NoMark_NoOrder => kit_is)
    (case qo_NoMark_NoLoop => kit_is)
    (case qo_NoMark_NoMark => kit_is)
    (case qo_NoMark_NothingToUndo => kit_is)
    (case qo_NoMark_Unreadable => kit_is)
    (case qo_NothingToUndo_InvalidWord => kit_is)
    (case qo_NothingToUndo_InvalidMoment => kit_is)
    (case qo_NothingToUndo_InvalidPairs => kit_is)
    (case qo_NothingToUndo_InvalidNumber => kit_is)
    (case qo_NothingToUndo_InvalidExponent => kit_is)
    (case qo_NothingToUndo_NoOrder => kit_is)
    (case qo_NothingToUndo_NoLoop => kit_is)
    (case qo_NothingToUndo_NoMark => kit_is)
    (case qo_NothingToUndo_NothingToUndo => kit_is)
    (case qo_NothingToUndo_Unreadable => kit_is)
    (case qo_Unreadable_InvalidWord => kit_is)
    (case qo_Unreadable_InvalidMoment => kit_is)
    (case qo_Unreadable_InvalidPairs => kit_is)
    (case qo_Unreadable_InvalidNumber => kit_is)
    (case qo_Unreadable_InvalidExponent => kit_is)
    (case qo_Unreadable_NoOrder => kit_is)
    (case qo_Unreadable_NoLoop => kit_is)
    (case qo_Unreadable_NoMark => kit_is)
    (case qo_Unreadable_NothingToUndo => kit_is)
    (case qo_Unreadable_Unreadable => kit_is)
    (case qo_CutError_InvalidWord => kit_is)
    (case qo_CutError_InvalidMoment => kit_is)
    (case qo_CutError_InvalidPairs => kit_is)
    (case qo_CutError_InvalidNumber => kit_is)
    (case qo_CutError_InvalidExponent => kit_is)
    (case qo_CutError_NoOrder => kit_is)
    (case qo_CutError_NoLoop => kit_is)
    (case qo_CutError_NoMark => kit_is)
    (case qo_CutError_NothingToUndo => kit_is)
    (case qo_CutError_Unreadable => kit_is)
    (case qo_InvalidWord_CutError => kit_is)
    (case qo_InvalidMoment_CutError => kit_is)
    (case qo_InvalidPairs_CutError => kit_is)
    (case qo_InvalidNumber_CutError => kit_is)
    (case qo_InvalidExponent_CutError => kit_is)
    (case qo_NoOrder_CutError => kit_is)
    (case qo_NoLoop_CutError => kit_is)
    (case qo_NoMark_CutError => kit_is)
    (case qo_NothingToUndo_CutError => kit_is)
    (case qo_Unreadable_CutError => kit_is)
    (case qo_CutError_CutError => kit_is)
    (case qv_InvalidWord => kit_is)
    (case qv_InvalidMoment => kit_is)
    (case qv_InvalidPairs => kit_is)
    (case qv_InvalidNumber => kit_is)
    (case qv_InvalidExponent => kit_is)
    (case qv_NoOrder => kit_is)
    (case qv_NoLoop => kit_is)
    (case qv_NoMark => kit_is)
    (case qv_NothingToUndo => kit_is)
    (case qv_Unreadable => kit_is)
    (case qv_CutError => kit_is)
    (case a__law_pool => k_is)
    (case l__law_pool => k_is)
    (case c__law_pool => k_is)
    (case k__law_pool => k_is)
    (case a__law_draw => k_is)
    (case l__law_draw => k_is)
    (case c__law_draw => k_is)
    (case k__law_draw => k_is)
    (case a__law_classes => k_is)
    (case l__law_classes => k_is)
    (case c__law_classes => k_is)
    (case k__law_classes => k_is)
    (case a__law_made => k_is)
    (case l__law_made => k_is)
    (case c__law_made => k_is)
    (case k__law_made => k_is)
    (case a_law => k_is)
    (case l_law => k_is)
    (case c_law => k_is)
    (case k_law => k_is)
    (case z_len => k_is)
    (case z_abs => k_is)
    (case z_max => k_is)
    (case z_min => k_is)
    (case z_range => k_is)
    (case z_int => k_is)
    (case z_list => k_is)
    (case z_sorted => k_is)
    (case z_isinstance => k_is)
    (case z_repr => k_is)
    (case z_ValueError => k_is)
