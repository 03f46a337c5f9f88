import PyProof.Rows.All
import Wide.All
import OpenK.AllK
import Wide.FinOn
import HandS.ForMost
import HandS.Wide
import HandS.StrMore
import PyProof.LongRange
import PySem.Challenge.RW_halfcuts_k03_plain_moments
set_option Elab.async false
set_option linter.all false
set_option maxRecDepth 100000
set_option maxHeartbeats 8000000
namespace HC
open PySem PySem.Spec PyProof.Rows L2
/-! ## texts as lists of codes -/
def T (l : List Nat) : Str := ⟨l.toArray⟩
theorem T_len (l : List Nat) : (T l).length = l.length := by
  show l.toArray.size = l.length
  simp
theorem T_list (l : List Nat) : (T l).cps.toList = l := by
  show l.toArray.toList = l
  simp
theorem T_inj {a b : List Nat} (h : T a = T b) : a = b := by
  have := congrArg (fun s : Str => s.cps.toList) h
  simpa [T_list] using this
theorem T_eq (a b : List Nat) : decide (V.str (T a) = V.str (T b)) = decide (a = b) := by
  by_cases h : a = b
  · subst h; simp
  · have h2 : ¬ V.str (T a) = V.str (T b) := fun q => h (T_inj (V.str.inj q))
    rw [decide_eq_false h, decide_eq_false h2]
theorem T_app (a b : List Nat) : T a ++ T b = T (a ++ b) := by
  show Str.append (T a) (T b) = T (a ++ b)
  unfold Str.append T
  simp
def rep (n : Nat) (a : List Nat) : List Nat := (List.replicate n a).flatten
theorem rep_zero (a : List Nat) : rep 0 a = [] := rfl
theorem rep_succ (n : Nat) (a : List Nat) : rep (n + 1) a = a ++ rep n a := by
  unfold rep
  rw [List.replicate_succ, List.flatten_cons]
theorem rep_nil (n : Nat) : rep n [] = [] := by
  induction n with
  | zero => rfl
  | succ n ih => rw [rep_succ, ih]; rfl
theorem rep_len (n : Nat) (a : List Nat) : (rep n a).length = n * a.length := by
  induction n with
  | zero => simp [rep_zero]
  | succ n ih => rw [rep_succ, List.length_append, ih, Nat.succ_mul, Nat.add_comm]
theorem foldl_T (n : Nat) (a : List Nat) : ∀ acc : Array Nat, (List.replicate n a.toArray).foldl (· ++ ·) acc = acc ++ (rep n a).toArray := by
  induction n with
  | zero => intro acc; simp [rep_zero]
  | succ n ih => intro acc; rw [List.replicate_succ, List.foldl_cons, ih, rep_succ]; simp
theorem mul_T (a : List Nat) (n : Nat) : Txt.mul (T a) (n : Int) = T (rep n a) := by
  unfold Txt.mul
  by_cases h1 : (n : Int) < 1
  · rw [if_pos h1]
    have : n = 0 := by omega
    subst this
    rfl
  · rw [if_neg h1]
    by_cases h2 : ((n : Int) == 1 || (T a).length == 0) = true
    · rw [if_pos h2]
      rw [Bool.or_eq_true] at h2
      rcases h2 with h2 | h2
      · have : n = 1 := by have := eq_of_beq h2; omega
        subst this
        rw [rep_succ, rep_zero, List.append_nil]
      · have h3 := eq_of_beq h2
        rw [T_len] at h3
        have : a = [] := List.eq_nil_of_length_eq_zero h3
        subst this
        rw [rep_nil]
    · rw [if_neg h2]
      show Str.mk ((List.replicate (n : Int).toNat a.toArray).foldl (· ++ ·) #[]) = T (rep n a)
      rw [Int.toNat_natCast, foldl_T]
      unfold T
      simp
theorem mulOk_T {a : List Nat} {n : Nat} (h : a.length * n ≤ 1000000) (hn : n < 1000000) : MulOk (T a) (n : Int) := by
  refine ⟨?_, ?_, ?_⟩
  · have h1 : ¬ ((n : Int) < -(2 ^ 63 : Int)) := by omega
    have h2 : ¬ ((n : Int) ≥ 2 ^ 63) := by omega
    rw [decide_eq_false h1, decide_eq_false h2]
    rfl
  · intro h1 h2 h3
    rw [T_len] at h3
    have hp : (0 : Int) < n := by omega
    have h4 : ((n : Int) * ((2 ^ 63 - 1) / (n : Int))) < (n : Int) * (a.length : Int) := Int.mul_lt_mul_of_pos_left h3 hp
    have h5 : (2 ^ 63 - 1 : Int) < (n : Int) * ((2 ^ 63 - 1) / (n : Int) + 1) := by
      have := Int.lt_mul_ediv_self_add (x := (2 ^ 63 - 1 : Int)) hp
      rw [Int.mul_add, Int.mul_one]
      omega
    have h6 : (n : Int) * ((2 ^ 63 - 1) / (n : Int) + 1) ≤ (n : Int) * (a.length : Int) := Int.mul_le_mul_of_nonneg_left (by omega) (by omega)
    have h7 : ((n : Int) * (a.length : Int)) ≤ 1000000 := by
      have : ((n * a.length : Nat) : Int) ≤ 1000000 := by rw [Nat.mul_comm]; omega
      simpa using this
    omega
  · intro _ _
    rw [T_len, Int.toNat_natCast]
    unfold Builtin.Str.tooLong
    have : sizeLine = 16777216 := by decide
    rw [this]
    exact decide_eq_false (by omega)
section
variable {X : Cx}
theorem opr_sub {f : Value → Value → Sem Value} {r r' : R2} (h : OpR X f r) (k : ∀ x y H Q, r' x y H Q → r x y H Q) : OpR X f r' := fun pins s σ H x y v u Q I rx ry q => h pins s σ H x y v u Q I rx ry (k _ _ _ _ q)
theorem mtr_sub {id : String} {r r' : V → List V → Hp → VK → Prop} (h : MtR X id r) (k : ∀ x y H Q, r' x y H Q → r x y H Q) : MtR X id r' := by
  intro pins s σ H x xs v us Q I rx rs
  first | (intro q; exact h pins s σ H x xs v us Q I rx rs (k _ _ _ _ q)) | (intro e q; exact h pins s σ H x xs v us Q I rx rs e (k _ _ _ _ q))
theorem slr_sub {r r' : V → Option Int → Option Int → Hp → VK → Prop} (h : SlR X r) (k : ∀ x y z H Q, r' x y z H Q → r x y z H Q) : SlR X r' := by
  intro pins s σ H x v vl vu lo hi sl Q I rx hs pl pu q
  exact h pins s σ H x v vl vu lo hi sl Q I rx hs pl pu (k _ _ _ _ _ q)
theorem ixr_sub {r r' : R2} (h : IxR X r) (k : ∀ x y H Q, r' x y H Q → r x y H Q) : IxR X r' := by
  intro value slice pins s σ H x y v u Q I rx ry q hs
  exact h value slice pins s σ H x y v u Q I rx ry (k _ _ _ _ q) hs
theorem pe_strT {x : Str} {j : Nat} {pos : Pos} (l : List Nat) (h : x = T l) : PE X (.Constant (.str x) j pos) (tC (.str (T l))) := by
  subst h
  exact pe_str
theorem op_addT : OpR X (binaryOp .Add) (fun x y H Q => ∃ a b, x = .str (T a) ∧ y = .str (T b) ∧ a.length + b.length ≤ sizeLine ∧ Q (.str (T (a ++ b))) H) :=
  opr_sub op_add_str fun x y H Q ⟨a, b, ha, hb, hl, q⟩ => ⟨_, _, ha, hb, by rw [T_len, T_len]; exact hl, by rw [T_app]; exact q⟩
theorem op_mulT : OpR X (binaryOp .Mult) (fun x y H Q => ∃ (a : List Nat) (n : Nat), x = .str (T a) ∧ y = .int (n : Int) ∧ a.length * n ≤ 1000000 ∧ n < 1000000 ∧ Q (.str (T (rep n a))) H) := by
  intro pins s σ H x y v u Q I rx ry h
  obtain ⟨a, n, rfl, rfl, hl, hn, q⟩ := h
  obtain ⟨t, rfl⟩ := rx
  obtain ⟨t', rfl⟩ := ry
  refine SB.mul (mulOk_T hl hn) fun t2 k => ?_
  rw [mul_T]
  exact ⟨.str _, H, I.tok _, ⟨_, rfl⟩, q⟩
theorem op_ltT' : OpR X (compareOp .Lt) (fun x y H Q => ∃ a b, x = .str (T a) ∧ y = .str (T b) ∧ Q (.bl (decide (a < b))) H) :=
  opr_sub op_lt_str fun x y H Q ⟨a, b, ha, hb, q⟩ => ⟨_, _, ha, hb, by rw [T_list, T_list]; exact q⟩
theorem op_eqT : OpR X (compareOp .Eq) (fun x y H Q => ∃ a b, x = .str (T a) ∧ y = .str (T b) ∧ Q (.bl (decide (a = b))) H) :=
  opr_sub op_eq fun x y H Q ⟨a, b, ha, hb, q⟩ => by
    subst ha hb
    exact ⟨rfl, by rw [T_eq]; exact q⟩
theorem op_neT : OpR X (compareOp .NotEq) (fun x y H Q => ∃ a b, x = .str (T a) ∧ y = .str (T b) ∧ Q (.bl (!decide (a = b))) H) :=
  opr_sub op_ne fun x y H Q ⟨a, b, ha, hb, q⟩ => by
    subst ha hb
    exact ⟨rfl, by rw [T_eq]; exact q⟩
def CPowX (i j : Int) : Prop := 0 ≤ j ∧ ∃ k : Nat, i.natAbs < 2 ^ k ∧ (k : Int) * j ≤ 2 ^ 27
theorem op_powX : OpR X (binaryOp .Pow) (rI CPowX fun i j => .int (i ^ j.toNat)) := opI fun i j _ _ _ _ _ hc q => by
  obtain ⟨h0, k, hk, hb⟩ := hc
  refine pow_int h0 ?_ q
  have h1 := intBits_le hk
  exact Int.le_trans (Int.mul_le_mul_of_nonneg_right (by omega) h0) hb
/-! slices of texts -/
def cutL (z : List Nat) (lo hi : Option Int) : List Nat := (z.drop (HT.sIx z.length 0 lo)).take (HT.sIx z.length z.length hi - HT.sIx z.length 0 lo)
theorem cut_T (z : List Nat) (lo hi : Option Int) : cutS (T z) lo hi = T (cutL z lo hi) := by
  unfold cutS
  rw [T_list, T_len]
  rfl
theorem sl_T : SlR X (fun x lo hi H Q => ∃ z, x = .str (T z) ∧ z.length ≤ sizeLine ∧ Q (.str (T (cutL z lo hi))) H) :=
  slr_sub sl_str fun x lo hi H Q ⟨z, hz, hl, q⟩ => ⟨_, hz, by rw [T_len]; exact hl, by rw [cut_T]; exact q⟩
theorem cut_hi (z : List Nat) (k : Nat) : cutL z none (some (k : Int)) = z.take k := by
  unfold cutL
  rw [HT.sIx_none, HT.sIx_nat, List.drop_zero, Nat.sub_zero]
  by_cases h : k ≤ z.length
  · rw [Nat.min_eq_left h]
  · rw [Nat.min_eq_right (by omega), List.take_length, List.take_of_length_le (by omega)]
theorem cut_lo (z : List Nat) (k : Nat) : cutL z (some (k : Int)) none = z.drop k := by
  unfold cutL
  rw [HT.sIx_none, HT.sIx_nat]
  by_cases h : k ≤ z.length
  · rw [Nat.min_eq_left h, List.take_of_length_le (by rw [List.length_drop]; omega)]
  · rw [Nat.min_eq_right (by omega), List.drop_length, List.drop_of_length_le (by omega)]
    simp
theorem cut_both (z : List Nat) (i j : Nat) : cutL z (some (i : Int)) (some (j : Int)) = (z.drop i).take (j - i) := by
  unfold cutL
  rw [HT.sIx_nat, HT.sIx_nat]
  by_cases h : i ≤ z.length
  · rw [Nat.min_eq_left h]
    by_cases h2 : j ≤ z.length
    · rw [Nat.min_eq_left h2]
    · rw [Nat.min_eq_right (a := j) (by omega), List.take_of_length_le (by rw [List.length_drop]; omega), List.take_of_length_le (by rw [List.length_drop]; omega)]
  · rw [Nat.min_eq_right (a := i) (by omega), List.drop_length, List.drop_of_length_le (by omega)]
    simp
theorem cut_last (z : List Nat) : cutL z none (some (-1)) = z.dropLast := by
  unfold cutL
  rw [HT.sIx_none, List.drop_zero, Nat.sub_zero, List.dropLast_eq_take]
  congr 1
  unfold HT.sIx
  split
  · rename_i h; cases h
  · rename_i v h
    cases h
    first | rfl | (split <;> omega) | omega
theorem ix_T : IxR X (fun x y H Q => ∃ z i c, x = .str (T z) ∧ y = .int i ∧ z.length ≤ sizeLine ∧ atI z i = some c ∧ Q (.str (T [c])) H) :=
  ixr_sub ix_str fun x y H Q ⟨z, i, c, hx, hy, hl, ha, q⟩ => ⟨_, i, c, hx, hy, by rw [T_len]; exact hl, by rw [T_list]; exact ha, q⟩
/-! joining with nothing between -/
theorem join_nil : ∀ ys : List (List Nat), Txt.join (T []) (ys.map T) = T ys.flatten := by
  intro ys
  show Builtin.Str.glued (T []) (ys.map T) = _
  rw [StrLaws.glued_eq_join]
  induction ys with
  | nil => rfl
  | cons a r ih =>
    cases r with
    | nil => show T a = T _; rw [List.flatten_cons]; simp
    | cons b r =>
      show T a ++ T [] ++ Str.join (T []) ((b :: r).map T) = _
      rw [ih, T_app, T_app, List.append_nil, ← List.flatten_cons]
theorem sum_T (ys : List (List Nat)) : ((ys.map T).map (·.length)).sum = ys.flatten.length := by
  induction ys with
  | nil => rfl
  | cons a r ih => simp only [List.map_cons, List.sum_cons, List.flatten_cons, List.length_append, T_len] at ih ⊢; omega
theorem mt_joinT : MtR X "str.join" (fun x xs H Q => ∃ p, ∃ ys : List (List Nat), x = .str (T []) ∧ xs = [.ref p] ∧ SqL X.K H p (ys.map fun y => V.str (T y)) ∧ ys.flatten.length ≤ 1000000 ∧ Q (.str (T ys.flatten)) H) :=
  mtr_sub mt_join fun x xs H Q ⟨p, ys, hx, hxs, hs, hl, q⟩ => by
    refine ⟨_, p, ys.map T, hx, hxs, .inl (by rw [List.map_map]; exact hs), ?_, by rw [join_nil]; exact q⟩
    rw [sum_T, T_len]
    show _ + _ * 0 ≤ _
    omega
/-! places of texts -/
/-- y stands in x at i -/
def At (x y : List Nat) (i : Nat) : Prop := (x.drop i).take y.length = y ∧ i + y.length ≤ x.length
theorem subAt_T (x y : List Nat) (i : Nat) : Builtin.Str.subAt (T x) (T y) i = true ↔ (x.drop i).take y.length = y := by
  unfold Builtin.Str.subAt
  rw [T_len]
  constructor
  · intro h
    have h2 := congrArg Array.toList (eq_of_beq h)
    rw [Array.toList_extract] at h2
    have e1 : (T x).cps.toList = x := T_list x
    have e2 : (T y).cps.toList = y := T_list y
    rw [e1, e2] at h2
    rw [List.extract_eq_take_drop] at h2
    rw [show i + y.length - i = y.length by omega] at h2
    exact h2
  · intro h
    refine beq_iff_eq.mpr ?_
    apply Array.ext'
    rw [Array.toList_extract]
    have e1 : (T x).cps.toList = x := T_list x
    have e2 : (T y).cps.toList = y := T_list y
    rw [e1, e2, List.extract_eq_take_drop]
    rw [show i + y.length - i = y.length by omega]
    exact h
theorem at_T (x y : List Nat) (i : Nat) : StrLaws.At (T x) (T y) (T x).length i ↔ At x y i := by
  unfold StrLaws.At At
  rw [subAt_T, T_len, T_len]
  exact And.comm
theorem op_inT : OpR X (compareOp .In) (fun x y H Q => ∃ a b, x = .str (T a) ∧ y = .str (T b) ∧ (∀ k, (k = true ↔ ∃ i, At b a i) → Q (.bl k) H)) :=
  opr_sub op_in_str fun x y H Q ⟨a, b, ha, hb, q⟩ => ⟨_, _, ha, hb, q _ (by
    rw [StrLaws.found_iff]
    constructor
    · rintro ⟨i, h1, h2⟩; exact ⟨i, (at_T b a i).mp ⟨h1, h2⟩⟩
    · rintro ⟨i, h⟩; have := (at_T b a i).mpr h; exact ⟨i, this.1, this.2⟩)⟩
/-- x.find(y, lo) where y stands at lo or behind -/
theorem mt_findT : MtR X "str.find" (fun x xs H Q => ∃ (a b : List Nat) (lo i : Nat), x = .str (T a) ∧ xs = [.str (T b), .int (lo : Int)] ∧ lo ≤ i ∧ At a b i ∧ (∀ k, lo ≤ k → k < i → ¬ At a b k) ∧ Q (.int (i : Int)) H) :=
  mtr_sub mt_find3 fun x xs H Q ⟨a, b, lo, i, hx, hxs, h1, h2, h3, q⟩ => by
    refine ⟨_, _, _, hx, hxs, ?_⟩
    have e : Txt.find3 (T a) (T b) (lo : Int) = (i : Int) := by
      unfold Txt.find3
      have e0 : fromIndex (T a).length (lo : Int) = lo := by unfold fromIndex; split <;> omega
      rw [e0]
      rcases StrLaws.occ_head_from (T a) (T b) lo 1 (Nat.le_refl _) with ⟨_, hn⟩ | ⟨j, r, e1, e2, e3, e4⟩
      · exact absurd ((at_T a b i).mpr h2) (hn i h1)
      · rw [e1]
        have e5 := (at_T a b j).mp e3
        have : j = i := by
          rcases Nat.lt_trichotomy j i with h | h | h
          · exact absurd e5 (h3 j e2 h)
          · exact h
          · exact absurd ((at_T a b i).mpr h2) (e4 i h1 h)
        rw [this]
    rw [e]
    exact q
def Bin (l : List Nat) : Prop := ∀ c ∈ l, c = 48 ∨ c = 49
theorem strip_T {a : List Nat} (h : Bin a) : Txt.stripChars (T a) (T [48, 49]) = T [] := by
  unfold Txt.stripChars Txt.stripBy
  have tw : ∀ l : List Nat, Bin l → l.takeWhile (T [48, 49]).cps.contains = l := by
    intro l hl
    induction l with
    | nil => rfl
    | cons c r ih =>
      have hc : (T [48, 49]).cps.contains c = true := by
        rcases hl c List.mem_cons_self with rfl | rfl <;> decide +kernel
      rw [List.takeWhile_cons, if_pos hc, ih fun d hd => hl d (List.mem_cons_of_mem _ hd)]
  have lo : stripLo (T [48, 49]).cps.contains true (T a) = a.length := by
    unfold stripLo
    rw [if_pos rfl, T_list, tw a h]
  unfold stripSame stripped
  rw [lo]
  by_cases h0 : a = []
  · subst h0
    split <;> rfl
  · have h1 : (a.length == 0) = false := by
      rw [beq_eq_false_iff_ne]
      exact fun q => h0 (List.eq_nil_of_length_eq_zero q)
    rw [h1, Bool.false_and, if_neg Bool.false_ne_true]
    unfold stripHi
    rw [if_pos rfl, T_list, T_len, List.drop_length]
    unfold Builtin.Str.strSub T
    simp
theorem mt_stripT : MtR X "str.strip" (fun x xs H Q => ∃ a, x = .str (T a) ∧ xs = [.str (T [48, 49])] ∧ Bin a ∧ a.length ≤ sizeLine ∧ Q (.str (T [])) H) :=
  mtr_sub mt_stripChars fun x xs H Q ⟨a, hx, hxs, hb, hl, q⟩ => ⟨_, _, hx, hxs, by rw [T_len]; exact hl, by rw [strip_T hb]; exact q⟩
theorem call_lenT : CallR X (.builtin "len") (fun xs H Q => ∃ z, xs = [.str (T z)] ∧ z.length ≤ sizeLine ∧ Q (.int (z.length : Int)) H) := by
  intro pins s σ H xs us Q I rx h
  obtain ⟨z, e, hl, q⟩ := h
  exact call_len_str pins s σ H xs us Q I rx ⟨_, e, by rw [T_len]; exact hl, by rw [T_len]; exact q⟩
end
end HC

namespace HC
open PySem PySem.Spec PyProof.Rows L2
/-! ## calls by keywords alone -/
section
variable {X : Cx} {CX : CXT} {k : Nat} {f : Addr} {fd : FuncData} {ps ks : List Str} {sp : Sp} {E : XK} {x : Str} {p pos : Pos} {kws : List Keyword} {tk : TA} {g : List Value → List Value → List Value} {gV : List V → List V → List V}
theorem pe_callK0 (F : FnOk X.prog X.w X.K X.mg X.base CX k f fd ps sp) (hr : Room k X.A) (hg : Gl X x) (hm : X.mg x = some (.ref f)) (hk : PySem.W.keepIn X.K (.ref f) = true) (hb : KBinds X.K fd ps ks g gV) (hx : Passes CX X E)
    (hkw : PK X kws tk) (hall : (backToKw pos (keywordEach kws X.env)).all (·.1.isSome) = true := by rfl) (hks : (backToKw pos (keywordEach kws X.env)).filterMap (·.1) = ks := by rfl)
    (hdb : (x == ("__debug__" : Str)) = false := by decide)
    (hpl : ((backTo pos (starEach [] X.env)).any (·.1) || (backToKw pos (keywordEach kws X.env)).any (·.1.isNone)) = false := by rfl) :
    PE X (.Call (.Name x p) [] kws pos) (tCallK sp gV E tNil tk) := by
  refine ⟨fun pins s σ H Q I h => ?_⟩
  refine wpAny_Call_Name_kw (ld_glob I hg hm ?_ hdb)
  refine PySem.W.callWith_KW0 (h₀ := X.base) I.ok.mod.kin hk hall (thn (hkw.run pos pins s σ H _ I h) fun ws s2 ⟨zs, H2, I2, rz, q2⟩ => ⟨I2.kIn, ?_⟩) hpl
  rw [hks]
  exact run_fnk (us := []) (vs := []) F hr hb hx I2 .nil rz q2
end
/-- two keywords, the other way round -/
def swG {α : Type} (us ws : List α) : List α := match us, ws with
  | [], [a, b] => [b, a]
  | _, _ => []
theorem swRel {vs : List V} {us : List Value} {zs : List V} {ws : List Value} (r : Vals vs us) (q : Vals zs ws) : Vals (swG vs zs) (swG us ws) := by
  cases r with
  | cons => exact .nil
  | nil =>
    cases q with
    | nil => exact .nil
    | cons q1 q =>
      cases q with
      | nil => exact .nil
      | cons q2 q =>
        cases q with
        | nil => exact .cons q2 (.cons q1 .nil)
        | cons => exact .nil
theorem kb_swap {K : PySem.W.Frag} {fd : FuncData} {p q : Str} (h : ∀ a b : Value, bindArgs fd ⟨[], [(q, a), (p, b)]⟩ = pure [(p, b), (q, a)]) : KBinds K fd [p, q] [q, p] swG swG where
  to := fun s us ws _ hl => by
    match us, ws, hl with
    | [], [a, b], _ => exact .of_eq (h a b)
    | [], [], hl => simp [swG] at hl
    | [], [_], hl => simp [swG] at hl
    | [], _ :: _ :: _ :: _, hl => simp [swG] at hl
    | _ :: _, _, hl => simp [swG] at hl
  rel := swRel
/-! ## the built-ins' names are free -/
structure Blt (mg : Str → Option Value) : Prop where
  len : mg "len" = none
  abs : mg "abs" = none
  max : mg "max" = none
  min : mg "min" = none
  range : mg "range" = none
  int : mg "int" = none
  list : mg "list" = none
  sorted : mg "sorted" = none
/-! ## heaps: all but the pool stays -/
def SB (p : Addr) (H H' : Hp) : Prop := ∀ b o, H b = some o → b ≠ p → H' b = some o
theorem SB.refl {p : Addr} {H : Hp} : SB p H H := fun _ _ h _ => h
theorem SB.trans {p : Addr} {H H1 H2 : Hp} (a : SB p H H1) (b : SB p H1 H2) : SB p H H2 := fun c o h n => b c o (a c o h n) n
theorem SB.of {p : Addr} {H H' : Hp} (s : Same H H') : SB p H H' := fun c o h _ => s c o h
theorem SB.upd {p : Addr} {H : Hp} {o : HO} : SB p H (upd H p o) := fun c u h n => by rw [upd_ne n]; exact h
theorem Same.new {H : Hp} {q : Addr} {o : HO} (hq : H q = none) : Same H (upd H q o) := fun c u h => by rw [upd_ne (ne_of_none h hq)]; exact h
/-- the pool of numbers that a law draws from, n of them drawn at most -/
def PoolAt (H : Hp) (p : Addr) (n : Nat) : Prop := ∃ (a b : Int) (c : Nat), H p = some (.lst [.int a, .int b, .int (c : Int)]) ∧ 0 ≤ a ∧ 0 ≤ b ∧ b < 2 ^ 62 ∧ c ≤ n
theorem PoolAt.mono {H : Hp} {p : Addr} {n m : Nat} (h : PoolAt H p n) (k : n ≤ m) : PoolAt H p m := by
  obtain ⟨a, b, c, h1, h2, h3, h4, h5⟩ := h
  exact ⟨a, b, c, h1, h2, h3, h4, Nat.le_trans h5 k⟩
theorem PoolAt.same {H H' : Hp} {p : Addr} {n : Nat} (h : PoolAt H p n) (s : Same H H') : PoolAt H' p n := by
  obtain ⟨a, b, c, h1, h2, h3, h4, h5⟩ := h
  exact ⟨a, b, c, s _ _ h1, h2, h3, h4, h5⟩
theorem PoolAt.new {H : Hp} {p q : Addr} {n : Nat} {o : HO} (h : PoolAt H p n) (hq : H q = none) : PoolAt (L2.upd H q o) p n := h.same (Same.new hq)
theorem PoolAt.ne {H : Hp} {p q : Addr} {n : Nat} (h : PoolAt H p n) (hq : H q = none) : q ≠ p := by
  obtain ⟨a, b, c, h1, _⟩ := h
  exact (ne_of_none h1 hq).symm
/-- a moment as a tuple -/
def MomAt (H : Hp) (t : Addr) (h r : List Nat) : Prop := H t = some (.tup [.str (T h), .str (T r)])
theorem MomAt.sb {H H' : Hp} {t p : Addr} {h r : List Nat} {n : Nat} (m : MomAt H t h r) (P : PoolAt H p n) (s : SB p H H') : MomAt H' t h r := by
  obtain ⟨a, b, c, h1, _⟩ := P
  exact s _ _ m (ne_of m h1 (by intro z; cases z))
theorem MomAt.same {H H' : Hp} {t : Addr} {h r : List Nat} (m : MomAt H t h r) (s : Same H H') : MomAt H' t h r := s _ _ m
theorem MomAt.new {H : Hp} {t q : Addr} {h r : List Nat} {o : HO} (m : MomAt H t h r) (hq : H q = none) : MomAt (L2.upd H q o) t h r := m.same (Same.new hq)
theorem atI_of {α : Type} {xs : List α} {i : Nat} {x : α} (h : xs[i]? = some x) : atI xs (i : Int) = some x := atI_nat h
/-! ## data of texts -/
def Cod (l : List Nat) : Prop := ∀ c ∈ l, c < 1114112
theorem Bin.cod {l : List Nat} (h : Bin l) : Cod l := fun c hc => by rcases h c hc with e | e <;> omega
theorem strOk_T {l : List Nat} (h : Cod l) : PyData.strOk (T l) = true := by
  unfold PyData.strOk T
  simp only [List.all_toArray, List.all_eq_true, decide_eq_true_eq]
  exact h
/-! ## promises of what draws -/
def spPool (K : PySem.W.Frag) : Sp := fun vs H Q _ => ∃ (a : Addr) (ns : List Int) (i : Nat), vs = [.ref a, .int (i : Int)] ∧ SqL K H a (ns.map V.int) ∧ i ≤ 1000 ∧
  ∀ H' p, Same H H' → H p = none → PoolAt H' p 0 → Q (.ref p) H'
def spDraw : Sp := fun vs H Q _ => ∃ (p : Addr) (m n : Nat), vs = [.ref p, .int (m : Int)] ∧ PoolAt H p n ∧ n < 2 ^ 30 ∧ 0 < m ∧ m < 2 ^ 200 ∧
  ∀ H' (r : Nat), SB p H H' → PoolAt H' p (n + 1) → r < m → Q (.int (r : Int)) H'
end HC

namespace HC
open PySem PySem.Spec PyProof.Rows L2
/-! ## ranges of great numbers -/
theorem long_turn {P : Program} {w : World} {K : PySem.W.Frag} {tg : Expr} (j : Addr) (lo : Int) (n : Nat) :
    Turn P w K tg (Itr lo n) [j] j (fun m h => IsLongIter h j (lo + (m : Nat) * 1) ((n : Int) - (m : Nat)) 1) where
  mem := List.mem_singleton.mpr rfl
  obj := fun m h st b hb => by
    obtain rfl : b = j := List.mem_singleton.mp hb
    exact ⟨_, st, fun c z => by
      have z2 : Data.fields _ = Data.cell c := z
      cases z2⟩
  keep := fun m h h2 st kk => kk j (List.mem_singleton.mpr rfl) _ st
  item := by
    intro Y e1 e2 e3 cm m pn s0 τ G F J fp st go
    subst e1 e2 e3
    obtain ⟨f0, f1, f2, f3, f4, f5⟩ := fp j (List.mem_singleton.mpr rfl)
    refine (Walks.longrange (prog := Y.prog) (w := Y.w) (J.ok.hd cm) j lo 1 n).item m s0 _ _ go st fun v h2 tk hv st2 kk => ?_
    obtain ⟨t, rfl⟩ := hv
    have J2 : L2.Inv Y pn τ G { s0 with heap := h2, toks := tk } := J.turned (fun b o hb e => kk b o (fun q => hb (List.mem_singleton.mp q)) e) f0 f1 f3 f4 f5
    refine ⟨_, rfl, go_of (s := { s0 with heap := h2, toks := tk }) (n := "longrange_iterator") st2 rfl rfl (by decide) ⟨.int (lo + m), G, J2, ⟨t, ?_⟩, ⟨rfl, rfl⟩, st2, fun b hb => (fp b hb).1⟩⟩
    rw [Int.mul_one]
  done := by
    intro Y e1 e2 e3 cm m pn s0 τ G F J fp st go
    subst e1 e2 e3
    obtain ⟨f0, f1, f2, f3, f4, f5⟩ := fp j (List.mem_singleton.mpr rfl)
    have go2 : n ≤ m := go
    exact wpAny_pyNext_long_end (J.ok.hd cm) st (by omega) fun h2 eb => ⟨rfl, J.turned (t' := s0.toks) (fun b o hb e => eb b o hb e) f0 f1 f3 f4 f5⟩
  self := fun _ _ _ _ _ st q => wpAny_pyIter_longiter st q
section
variable {X : Cx} {tg : Expr}
/-- range(a, b), both of any size -/
def iRngL (ta : TA) : TI := fun σ H R => ta σ H fun vs H1 => ∃ i j : Int, vs = [.int i, .int j] ∧ R (Itr i (j - i).toNat) H1
theorem long_it {pn : List (Addr × Obj)} {σ : L2.St} {H : Hp} {s : Shared} {R : It → Hp → Prop} {E : Value → Shared → Prop} {lo hi : Int} {t u v : Tok} {tk : Nat} (I : L2.Inv X pn σ H s) (q : R (Itr lo (hi - lo).toNat) H) :
    wpAny (model X.prog X.w) X.A (pyIter (.ref s.heap.objs.size)) (PIE X pn σ tg R) E { s with heap := s.heap.push { cls := .type "range", data := .fields #[.int lo t, .int hi u, .int 1 v] }, toks := tk } := by
  have J1 : L2.Inv X pn σ H { s with heap := s.heap.push { cls := .type "range", data := .fields #[.int lo t, .int hi u, .int 1 v] }, toks := tk } := I.kept fun b o e => Heap.get?_push_of_some _ e
  have e1 : lo + ((0 : Nat) : Int) * 1 = lo := by simp
  have e2 : (((hi - lo).toNat : Nat) : Int) - ((0 : Nat) : Int) = Builtin.Range.rangeSize lo hi 1 := by rw [rangeSize_one]; split <;> omega
  by_cases c : Builtin.Range.small lo hi 1 = true
  · refine wpAny_pyIter_range (IsRange.new ..) c ?_
    refine ⟨_, [_], _, _, H, rfl, J1.kept (t' := tk) fun b o e => Heap.get?_push_of_some _ e, turn_range _ lo (hi - lo).toNat, ?_, fun b hb => ?_, q⟩
    · show IsRangeIter _ _ (lo + ((0 : Nat) : Int) * 1) ((((hi - lo).toNat : Nat) : Int) - ((0 : Nat) : Int)) 1
      rw [e1, e2]
      exact Heap.get?_push_size _ rfl
    · obtain rfl := List.mem_singleton.mp hb
      exact J1.fpOk (Nat.le_refl _) (J1.hok.fresh (Nat.le_refl _))
  · refine wpAny_pyIter_longrange (IsRange.new ..) (by simpa using c) ?_
    refine ⟨_, [_], _, _, H, rfl, J1.kept (t' := tk) fun b o e => Heap.get?_push_of_some _ e, long_turn _ lo (hi - lo).toNat, ?_, fun b hb => ?_, q⟩
    · show IsLongIter _ _ (lo + ((0 : Nat) : Int) * 1) ((((hi - lo).toNat : Nat) : Int) - ((0 : Nat) : Int)) 1
      rw [e1, e2]
      exact Heap.get?_push_size _ rfl
    · obtain rfl := List.mem_singleton.mp hb
      exact J1.fpOk (Nat.le_refl _) (J1.hok.fresh (Nat.le_refl _))
theorem pi_rangeL {a b : Expr} {ta : TA} {p pos : Pos} (hg : Gl X "range") (hm : X.mg "range" = none) (ha : PA X [a, b] ta) (g1 : starEach [a, b] X.env = [(false, eval a X.env), (false, eval b X.env)] := by rfl) (g2 : starEach [b] X.env = [(false, eval b X.env)] := by rfl) :
    PI X tg (.Call (.Name "range" p) [a, b] [] pos) (iRngL ta) := by
  refine ⟨fun pn s σ H R I h => ?_⟩
  refine Call_ (ld_blt I hg hm boot_range (PyProof.Rows.callWith_type1 (thn (ha.run pos pn s σ H _ I h) fun us s1 ⟨vs, H1, I1, r1, q1⟩ => ?_) (by rw [g1, g2]) (by rw [g2]; rfl)))
  obtain ⟨i, j, e, q⟩ := q1
  subst e
  cases r1 with | cons ra rb => cases rb with | cons rc rd =>
    cases rd
    obtain ⟨ta1, rfl⟩ := ra
    obtain ⟨tb1, rfl⟩ := rc
    exact call_range_2 (long_it I1 q)
end
end HC

namespace HC
open PySem PySem.Spec PyProof.Rows L2
/-! ## sequences -/
theorem tYes_if {σ : L2.St} {H : Hp} {A B : Hp → Prop} (h : A H) : tYes σ H fun b H3 => if b = true then A H3 else B H3 := by
  show if true = true then A H else B H
  rw [if_pos rfl]
  exact h
/-- the signs of a ring, for ever -/
def cyc (r : List Nat) (i : Nat) : Nat := r.getD (i % r.length) 0
def val (h r : List Nat) (i : Nat) : Nat := if i < h.length then h.getD i 0 else cyc r (i - h.length)
/-- the first signs of a moment -/
def sg (h r : List Nat) (n : Nat) : List Nat := (h ++ rep (n / r.length + 1) r).take n
def L (n : Nat) (f : Nat → Nat) : List Nat := (List.range n).map f
theorem L_len (n : Nat) (f : Nat → Nat) : (L n f).length = n := by unfold L; simp
theorem L_get {n : Nat} {f : Nat → Nat} {i : Nat} (h : i < n) : (L n f)[i]? = some (f i) := by
  unfold L
  rw [List.getElem?_map, List.getElem?_range h]
  rfl
theorem L_ext {n : Nat} {f : Nat → Nat} {l : List Nat} (h1 : l.length = n) (h2 : ∀ i, i < n → l[i]? = some (f i)) : l = L n f := by
  apply List.ext_getElem?
  intro i
  by_cases h : i < n
  · rw [h2 i h, L_get h]
  · rw [List.getElem?_eq_none (by omega), List.getElem?_eq_none (by rw [L_len]; omega)]
theorem L_eq {n : Nat} {f g : Nat → Nat} : L n f = L n g ↔ ∀ i, i < n → f i = g i := by
  constructor
  · intro h i hi
    have := L_get (f := f) hi
    rw [h, L_get hi] at this
    exact (Option.some.inj this).symm
  · intro h
    exact L_ext (L_len n f) fun i hi => by rw [L_get hi, h i hi]
theorem cyc_get {r : List Nat} (hr : 1 ≤ r.length) (i : Nat) : r[i % r.length]? = some (cyc r i) := by
  have : i % r.length < r.length := Nat.mod_lt _ hr
  unfold cyc
  rw [List.getD_eq_getElem?_getD, List.getElem?_eq_getElem this]
  rfl
theorem cyc_lt {r : List Nat} {i : Nat} (h : i < r.length) : r[i]? = some (cyc r i) := by
  have := cyc_get (r := r) (by omega) i
  rwa [Nat.mod_eq_of_lt h] at this
theorem cyc_add (r : List Nat) (i : Nat) : cyc r (i + r.length) = cyc r i := by
  unfold cyc
  rw [Nat.add_mod_right]
theorem cyc_mul (r : List Nat) (i k : Nat) : cyc r (i + k * r.length) = cyc r i := by
  unfold cyc
  rw [Nat.add_mul_mod_self_right]
theorem cyc_mod (r : List Nat) (i : Nat) : cyc r (i % r.length) = cyc r i := by
  unfold cyc
  rw [Nat.mod_mod]
theorem rep_get {r : List Nat} : ∀ {n i : Nat}, i < n * r.length → (rep n r)[i]? = some (cyc r i)
  | 0, i, h => by simp at h
  | n + 1, i, h => by
    rw [rep_succ]
    by_cases hi : i < r.length
    · rw [List.getElem?_append_left hi]
      exact cyc_lt hi
    · rw [List.getElem?_append_right (by omega)]
      rw [Nat.succ_mul] at h
      rw [rep_get (n := n) (i := i - r.length) (by omega)]
      have : i = (i - r.length) + r.length := by omega
      rw [this, cyc_add, Nat.add_sub_cancel]
theorem sg_eq {h r : List Nat} (hr : 1 ≤ r.length) (n : Nat) : sg h r n = L n (val h r) := by
  have h0 : n < (n / r.length + 1) * r.length := by
    have := Nat.lt_div_mul_add (a := n) (show 0 < r.length by omega)
    rw [Nat.succ_mul]; omega
  apply L_ext
  · unfold sg
    rw [List.length_take, List.length_append, rep_len]
    omega
  · intro i hi
    unfold sg val
    rw [List.getElem?_take_of_lt hi]
    by_cases h1 : i < h.length
    · rw [List.getElem?_append_left h1, if_pos h1, List.getD_eq_getElem?_getD, List.getElem?_eq_getElem h1]
      rfl
    · rw [List.getElem?_append_right (by omega), if_neg h1]
      exact rep_get (by omega)
/-- two sequences that repeat, alike for as long as both rings together -/
theorem wilf {f g : Nat → Nat} {a p q : Nat} (hp : 1 ≤ p) (hq : 1 ≤ q) (hf : ∀ i, a ≤ i → f (i + p) = f i) (hg : ∀ i, a ≤ i → g (i + q) = g i) (h : ∀ i, i < a + p + q → f i = g i) : ∀ i, f i = g i := by
  intro i
  induction i using Nat.strongRecOn with
  | _ i ih =>
    by_cases hi : i < a + p + q
    · exact h i hi
    · have e1 : f i = f (i - p) := by have := hf (i - p) (by omega); rwa [Nat.sub_add_cancel (by omega)] at this
      have e2 : g (i - p) = g (i - p - q) := by have := hg (i - p - q) (by omega); rwa [Nat.sub_add_cancel (by omega)] at this
      have e3 : f (i - q) = f (i - q - p) := by have := hf (i - q - p) (by omega); rwa [Nat.sub_add_cancel (by omega)] at this
      have e4 : g i = g (i - q) := by have := hg (i - q) (by omega); rwa [Nat.sub_add_cancel (by omega)] at this
      have e5 : i - p - q = i - q - p := by omega
      rw [e1, ih (i - p) (by omega), e2, e5, ← ih (i - q - p) (by omega), ← e3, ih (i - q) (by omega), e4]
theorem val_per (h r : List Nat) {a i : Nat} (ha : h.length ≤ a) (hi : a ≤ i) : val h r (i + r.length) = val h r i := by
  unfold val
  rw [if_neg (by omega), if_neg (by omega)]
  have : i + r.length - h.length = (i - h.length) + r.length := by omega
  rw [this, cyc_add]
/-- the order by the first place that differs -/
theorem L_lt : ∀ {n : Nat} {f g : Nat → Nat}, L n f < L n g ↔ ∃ i, i < n ∧ (∀ j, j < i → f j = g j) ∧ f i < g i
  | 0, f, g => by
    constructor
    · intro h
      exact absurd h (List.lt_irrefl _)
    · rintro ⟨i, h, _⟩
      omega
  | n + 1, f, g => by
    have e : ∀ k : Nat → Nat, L (n + 1) k = k 0 :: L n (fun i => k (i + 1)) := fun k => by
      unfold L
      rw [List.range_succ_eq_map, List.map_cons, List.map_map]
      rfl
    rw [e f, e g, List.cons_lt_cons_iff, L_lt (n := n)]
    constructor
    · rintro (h | ⟨h, i, h1, h2, h3⟩)
      · exact ⟨0, by omega, fun j hj => by omega, h⟩
      · refine ⟨i + 1, by omega, fun j hj => ?_, h3⟩
        cases j with
        | zero => exact h
        | succ j => exact h2 j (by omega)
    · rintro ⟨i, h1, h2, h3⟩
      cases i with
      | zero => exact .inl h3
      | succ i => exact .inr ⟨h2 0 (by omega), i, by omega, fun j hj => h2 (j + 1) (by omega), h3⟩
/-- the sequence is ahead of the other -/
def Bef (f g : Nat → Nat) : Prop := ∃ i, (∀ j, j < i → f j = g j) ∧ f i < g i
theorem bef_iff {h1 r1 h2 r2 : List Nat} {m : Nat} (k1 : 1 ≤ r1.length) (k2 : 1 ≤ r2.length) (hm : max h1.length h2.length + r1.length + r2.length ≤ m) : sg h1 r1 m < sg h2 r2 m ↔ Bef (val h1 r1) (val h2 r2) := by
  rw [sg_eq k1, sg_eq k2, L_lt]
  constructor
  · rintro ⟨i, _, h⟩
    exact ⟨i, h⟩
  · rintro ⟨i, h3, h4⟩
    by_cases hi : i < m
    · exact ⟨i, hi, h3, h4⟩
    · have := wilf (a := max h1.length h2.length) k1 k2 (fun i hi => val_per h1 r1 (Nat.le_max_left _ _) hi) (fun i hi => val_per h2 r2 (Nat.le_max_right _ _) hi) (fun j hj => h3 j (by omega)) i
      omega
/-! ## rings that are turned -/
def Tail (a b : List Nat) : Prop := ∃ s, ∀ i, cyc a i = cyc b (i + s)
theorem Tail.refl (a : List Nat) : Tail a a := ⟨0, fun _ => rfl⟩
theorem Tail.symm {a b : List Nat} (hb : 1 ≤ b.length) (h : Tail a b) : Tail b a := by
  obtain ⟨s, h⟩ := h
  refine ⟨s * (b.length - 1), fun i => ?_⟩
  rw [h]
  have : i + s * (b.length - 1) + s = i + s * b.length := by
    have : s * b.length = s * (b.length - 1) + s := by
      conv => lhs; rw [show b.length = (b.length - 1) + 1 by omega]
      rw [Nat.mul_succ]
    omega
  rw [this, cyc_mul]
def Inv (r : List Nat) (k : Nat) : Prop := ∀ i, cyc r (i + k) = cyc r i
theorem dbl_get {r : List Nat} {i : Nat} (h : i < r.length + r.length) : (r ++ r)[i]? = some (cyc r i) := by
  by_cases h1 : i < r.length
  · rw [List.getElem?_append_left h1, cyc_lt h1]
  · rw [List.getElem?_append_right (by omega), cyc_lt (by omega)]
    have : i = (i - r.length) + r.length := by omega
    rw [this, cyc_add, Nat.add_sub_cancel]
/-- b stands in a, written twice, at k -/
theorem at_cyc {a b : List Nat} {k : Nat} (hk : k + b.length ≤ a.length + a.length) : At (a ++ a) b k ↔ ∀ i, i < b.length → cyc a (i + k) = cyc b i := by
  unfold At
  constructor
  · rintro ⟨h, _⟩ i hi
    have e : (((a ++ a).drop k).take b.length)[i]? = b[i]? := by rw [h]
    rw [List.getElem?_take_of_lt hi, List.getElem?_drop, dbl_get (by omega), cyc_lt hi, Nat.add_comm k i] at e
    exact Option.some.inj e
  · intro h
    refine ⟨?_, by rw [List.length_append]; exact hk⟩
    apply List.ext_getElem?
    intro i
    by_cases hi : i < b.length
    · rw [List.getElem?_take_of_lt hi, List.getElem?_drop, dbl_get (by omega), cyc_lt hi, Nat.add_comm k i, h i hi]
    · rw [List.getElem?_eq_none (by rw [List.length_take]; omega), List.getElem?_eq_none (by omega)]
theorem at_inv {r : List Nat} {k : Nat} (hr : 1 ≤ r.length) (hk : k ≤ r.length) : At (r ++ r) r k ↔ Inv r k := by
  rw [at_cyc (by omega)]
  constructor
  · intro h i
    have := h (i % r.length) (Nat.mod_lt _ hr)
    rw [cyc_mod] at this
    rw [← this]
    conv => lhs; rw [← Nat.mod_add_div i r.length]
    rw [Nat.mul_comm, show i % r.length + i / r.length * r.length + k = i % r.length + k + i / r.length * r.length by omega, cyc_mul]
  · intro h i _
    exact h i
/-- the shortest ring's length -/
structure Per (r : List Nat) (k : Nat) : Prop where
  pos : 1 ≤ k
  le : k ≤ r.length
  inv : Inv r k
  least : ∀ j, 1 ≤ j → j < k → ¬ Inv r j
theorem per_exists {r : List Nat} (hr : 1 ≤ r.length) : ∃ k, Per r k := by
  have key : ∀ n, (∃ k, k ≤ n ∧ 1 ≤ k ∧ Inv r k) → ∃ k, k ≤ n ∧ 1 ≤ k ∧ Inv r k ∧ ∀ j, 1 ≤ j → j < k → ¬ Inv r j := by
    intro n
    induction n with
    | zero =>
      rintro ⟨k, h1, h2, _⟩
      omega
    | succ n ih =>
      rintro ⟨k, h1, h2, h3⟩
      by_cases c : ∃ k, k ≤ n ∧ 1 ≤ k ∧ Inv r k
      · obtain ⟨k, a1, a2⟩ := ih c
        exact ⟨k, by omega, a2⟩
      · have : k = n + 1 := Classical.byContradiction fun hn => c ⟨k, by omega, h2, h3⟩
        subst this
        exact ⟨n + 1, Nat.le_refl _, h2, h3, fun j j1 j2 hj => c ⟨j, by omega, j1, hj⟩⟩
  obtain ⟨k, h1, h2, h3, h4⟩ := key r.length ⟨r.length, Nat.le_refl _, hr, cyc_add r⟩
  exact ⟨k, h2, h1, h3, h4⟩
theorem inv_mul {r : List Nat} {k : Nat} (h : Inv r k) (m i : Nat) : cyc r (i + m * k) = cyc r i := by
  induction m with
  | zero => rw [Nat.zero_mul, Nat.add_zero]
  | succ m ih => rw [Nat.succ_mul, ← Nat.add_assoc, h, ih]
theorem inv_mod {r : List Nat} {k : Nat} (h : Inv r k) (i : Nat) : cyc r (i % k) = cyc r i := by
  conv => rhs; rw [← Nat.mod_add_div i k, Nat.mul_comm, inv_mul h]
theorem Per.len {r : List Nat} {k : Nat} (p : Per r k) : (r.take k).length = k := by rw [List.length_take]; have := p.le; omega
theorem Per.cyc {r : List Nat} {k : Nat} (p : Per r k) (i : Nat) : cyc (r.take k) i = cyc r i := by
  have hk : i % k < k := Nat.mod_lt _ p.pos
  have h1 := cyc_get (r := r.take k) (by rw [p.len]; exact p.pos) i
  rw [p.len, List.getElem?_take_of_lt hk, cyc_lt (by have := p.le; omega), inv_mod p.inv] at h1
  exact (Option.some.inj h1).symm
theorem inv_tail {a b : List Nat} {k : Nat} (t : Tail a b) (h : Inv b k) : Inv a k := by
  obtain ⟨s, t⟩ := t
  intro i
  rw [t, t, show i + k + s = i + s + k by omega, h]
theorem per_tail {a b : List Nat} {j k : Nat} (hb : 1 ≤ b.length) (t : Tail a b) (p : Per a j) (q : Per b k) : j = k := by
  rcases Nat.lt_trichotomy j k with h | h | h
  · exact absurd (inv_tail (t.symm hb) p.inv) (q.least j p.pos h)
  · exact h
  · exact absurd (inv_tail t q.inv) (p.least k q.pos h)
/-- what the program asks is that the tails are one -/
theorem tail_iff {a b : List Nat} {j k : Nat} (hb : 1 ≤ b.length) (p : Per a j) (q : Per b k) : ((a.take j).length = (b.take k).length ∧ ∃ i, At (a.take j ++ a.take j) (b.take k) i) ↔ Tail a b := by
  rw [p.len, q.len]
  constructor
  · rintro ⟨rfl, i, h⟩
    have hi : i + (b.take j).length ≤ (a.take j).length + (a.take j).length := by have := h.2; rwa [List.length_append] at this
    have h2 := (at_cyc hi).mp h
    have ha : 1 ≤ a.length := by have := p.le; have := p.pos; omega
    refine Tail.symm ha ⟨i, fun m => ?_⟩
    have h3 := h2 (m % j) (by rw [q.len]; exact Nat.mod_lt _ p.pos)
    rw [q.cyc, inv_mod q.inv, p.cyc] at h3
    rw [← h3]
    conv => rhs; rw [← Nat.mod_add_div m j, Nat.mul_comm, show m % j + m / j * j + i = m % j + i + m / j * j by omega, inv_mul p.inv]
  · intro t
    have e := per_tail hb t p q
    subst e
    refine ⟨rfl, ?_⟩
    obtain ⟨s, hs⟩ := t.symm hb
    refine ⟨s % j, (at_cyc ?_).mpr ?_⟩
    · rw [p.len, q.len]
      have := Nat.mod_lt s p.pos
      omega
    · intro i _
      rw [p.cyc, q.cyc, hs]
      conv => rhs; rw [← Nat.mod_add_div s j, Nat.mul_comm, ← Nat.add_assoc, inv_mul p.inv]
theorem rot_cyc {r : List Nat} {s : Nat} (hr : 1 ≤ r.length) (hs : s ≤ r.length) (i : Nat) : cyc (r.drop s ++ r.take s) i = cyc r (i + s) := by
  have hl : (r.drop s ++ r.take s).length = r.length := by rw [List.length_append, List.length_drop, List.length_take]; omega
  have h1 := cyc_get (r := r.drop s ++ r.take s) (by omega) i
  rw [hl] at h1
  have hm : i % r.length < r.length := Nat.mod_lt _ hr
  have key : ∀ m, m < r.length → (r.drop s ++ r.take s)[m]? = some (cyc r (m + s)) := by
    intro m hm
    by_cases c : m < r.length - s
    · rw [List.getElem?_append_left (by rw [List.length_drop]; exact c), List.getElem?_drop, Nat.add_comm s m, cyc_lt (by omega)]
    · rw [List.getElem?_append_right (by rw [List.length_drop]; omega), List.length_drop, List.getElem?_take_of_lt (by omega), cyc_lt (by omega)]
      have : m + s = (m - (r.length - s)) + r.length := by omega
      rw [this, cyc_add]
  rw [key _ hm] at h1
  have h2 := Option.some.inj h1
  rw [← h2]
  conv => rhs; rw [← Nat.mod_add_div i r.length, Nat.mul_comm, show i % r.length + i / r.length * r.length + s = i % r.length + s + i / r.length * r.length by omega, cyc_mul]
/-- what the law asks, too -/
theorem turn_iff {a b : List Nat} (ha : 1 ≤ a.length) (hb : 1 ≤ b.length) (h : a.length + b.length ≤ 150) : (∃ s, s < b.length ∧ sg [] a 150 = sg [] (b.drop s ++ b.take s) 150) ↔ Tail a b := by
  have hv : ∀ r : List Nat, val [] r = cyc r := fun r => by
    funext i
    unfold val
    rw [if_neg (by simp)]
    rfl
  constructor
  · rintro ⟨s, hs, e⟩
    have hl : (b.drop s ++ b.take s).length = b.length := by rw [List.length_append, List.length_drop, List.length_take]; omega
    rw [sg_eq ha, sg_eq (by omega), hv, hv, L_eq] at e
    refine ⟨s, wilf (a := 0) ha hb (fun i _ => cyc_add a i) (fun i _ => ?_) (fun i hi => ?_)⟩
    · rw [show i + b.length + s = i + s + b.length by omega, cyc_add]
    · rw [e i (by omega), rot_cyc hb (by omega)]
  · rintro ⟨s, hs⟩
    have hm : s % b.length < b.length := Nat.mod_lt _ hb
    have hl : (b.drop (s % b.length) ++ b.take (s % b.length)).length = b.length := by rw [List.length_append, List.length_drop, List.length_take]; omega
    refine ⟨s % b.length, hm, ?_⟩
    rw [sg_eq ha, sg_eq (by omega), hv, hv, L_eq]
    intro i _
    rw [hs, rot_cyc hb (by omega)]
    conv => lhs; rw [← Nat.mod_add_div s b.length, Nat.mul_comm, ← Nat.add_assoc, cyc_mul]
end HC

namespace HC
open PySem PySem.Spec PyProof.Rows L2
/-! ## the plain form of a sequence -/
def CC (s : Nat → Nat) (b k : Nat) : Prop := ∀ i, b ≤ i → s (i + k) = s i
structure PlainS (s : Nat → Nat) (b k : Nat) : Prop where
  pos : 1 ≤ k
  c : CC s b k
  kmin : ∀ b2 k2, 1 ≤ k2 → CC s b2 k2 → k ≤ k2
  bmin : ∀ b2, CC s b2 k → b ≤ b2
theorem PlainS.uniq {s : Nat → Nat} {b k b2 k2 : Nat} (p : PlainS s b k) (q : PlainS s b2 k2) : b = b2 ∧ k = k2 := by
  have e : k = k2 := Nat.le_antisymm (p.kmin b2 k2 q.pos q.c) (q.kmin b k p.pos p.c)
  subst e
  exact ⟨Nat.le_antisymm (p.bmin b2 q.c) (q.bmin b p.c), rfl⟩
/-- the ring, run backwards, too -/
def EE (h r : List Nat) (k i : Nat) : Nat := cyc r (i + h.length * (k - 1))
theorem EE_per {h r : List Nat} {k : Nat} (p : Per r k) (i : Nat) : EE h r k (i + k) = EE h r k i := by
  unfold EE
  rw [show i + k + h.length * (k - 1) = i + h.length * (k - 1) + k by omega, p.inv]
theorem val_EE {h r : List Nat} {k : Nat} (p : Per r k) {i : Nat} (hi : h.length ≤ i) : val h r i = EE h r k i := by
  unfold val EE
  rw [if_neg (by omega)]
  have e : h.length * k = h.length * (k - 1) + h.length := by
    have := p.pos
    conv => lhs; rw [show k = (k - 1) + 1 by omega]
    rw [Nat.mul_succ]
  have : i + h.length * (k - 1) = (i - h.length) + h.length * k := by omega
  rw [this, inv_mul p.inv]
theorem CC_iff {h r : List Nat} {k b : Nat} (p : Per r k) (hb : b ≤ h.length) : CC (val h r) b k ↔ ∀ i, b ≤ i → i < h.length → val h r i = EE h r k i := by
  constructor
  · intro c i h1 h2
    have key : ∀ t, val h r (i + t * k) = val h r i := by
      intro t
      induction t with
      | zero => rw [Nat.zero_mul, Nat.add_zero]
      | succ t ih => rw [Nat.succ_mul, ← Nat.add_assoc, c _ (by omega), ih]
    have key2 : ∀ t, EE h r k (i + t * k) = EE h r k i := by
      intro t
      induction t with
      | zero => rw [Nat.zero_mul, Nat.add_zero]
      | succ t ih => rw [Nat.succ_mul, ← Nat.add_assoc, EE_per p, ih]
    have hk := p.pos
    have : h.length ≤ i + h.length * k := by
      have : h.length * 1 ≤ h.length * k := Nat.mul_le_mul_left _ hk
      omega
    rw [← key h.length, val_EE p this, key2]
  · intro c i hi
    have e : ∀ j, b ≤ j → val h r j = EE h r k j := fun j hj => by
      by_cases h2 : j < h.length
      · exact c j hj h2
      · exact val_EE p (by omega)
    rw [e _ (by omega), e _ hi, EE_per p]
theorem plain_of {h r : List Nat} {k b : Nat} (p : Per r k) (hb : b ≤ h.length) (hc : ∀ i, b ≤ i → i < h.length → val h r i = EE h r k i) (hm : b = 0 ∨ val h r (b - 1) ≠ EE h r k (b - 1)) : PlainS (val h r) b k := by
  have hr : 1 ≤ r.length := Nat.le_trans p.pos p.le
  refine ⟨p.pos, (CC_iff p hb).mpr hc, fun b2 k2 h1 c => ?_, fun b2 c => ?_⟩
  · have iv : Inv r k2 := by
      intro j
      have hbn : b2 ≤ b2 * r.length := by have := Nat.mul_le_mul_left b2 hr; omega
      have := c (h.length + j + b2 * r.length) (by omega)
      unfold val at this
      rw [if_neg (by omega), if_neg (by omega), show h.length + j + b2 * r.length + k2 - h.length = j + k2 + b2 * r.length by omega, show h.length + j + b2 * r.length - h.length = j + b2 * r.length by omega, cyc_mul, cyc_mul] at this
      exact this
    exact Nat.le_of_not_lt fun q => p.least k2 h1 q iv
  · refine Nat.le_of_not_lt fun q => ?_
    rcases hm with e | e
    · omega
    · exact e ((CC_iff p (by omega)).mp c (b - 1) (by omega) (by omega))
theorem plain_exists {h r : List Nat} {k : Nat} (p : Per r k) : ∃ b, b ≤ h.length ∧ PlainS (val h r) b k := by
  have key : ∀ n b, b ≤ h.length → b ≤ n → (∀ i, b ≤ i → i < h.length → val h r i = EE h r k i) → ∃ b, b ≤ h.length ∧ PlainS (val h r) b k := by
    intro n
    induction n with
    | zero =>
      intro b h1 h2 hc
      exact ⟨b, h1, plain_of p h1 hc (.inl (by omega))⟩
    | succ n ih =>
      intro b h1 h2 hc
      by_cases e : b = 0
      · exact ⟨b, h1, plain_of p h1 hc (.inl e)⟩
      · by_cases e2 : val h r (b - 1) = EE h r k (b - 1)
        · refine ih (b - 1) (by omega) (by omega) fun i a1 a2 => ?_
          by_cases e3 : i = b - 1
          · rw [e3, e2]
          · exact hc i (by omega) a2
        · exact ⟨b, h1, plain_of p h1 hc (.inr e2)⟩
  exact key h.length h.length (Nat.le_refl _) (Nat.le_refl _) fun i h1 h2 => by omega
theorem PlainS.le {h r : List Nat} {b k : Nat} (hr : 1 ≤ r.length) (q : PlainS (val h r) b k) : b ≤ h.length ∧ Per r k := by
  obtain ⟨k2, p⟩ := per_exists hr
  obtain ⟨b2, h1, q2⟩ := plain_exists (h := h) p
  obtain ⟨e1, e2⟩ := q.uniq q2
  subst e1 e2
  exact ⟨h1, p⟩
/-- the plain form as texts -/
def pH (s : Nat → Nat) (b : Nat) : List Nat := L b s
def pR (s : Nat → Nat) (b k : Nat) : List Nat := L k fun m => s (b + m)
theorem L_take {n m : Nat} {s : Nat → Nat} (h : m ≤ n) : (L n s).take m = L m s := by
  apply L_ext
  · rw [List.length_take, L_len]; omega
  · intro i hi
    rw [List.getElem?_take_of_lt hi, L_get (by omega)]
theorem L_drop {n m : Nat} {s : Nat → Nat} : (L n s).drop m = L (n - m) fun i => s (m + i) := by
  apply L_ext
  · rw [List.length_drop, L_len]
  · intro i hi
    rw [List.getElem?_drop, L_get (by omega)]
theorem list_L (l : List Nat) (f : Nat → Nat) (h : ∀ i, i < l.length → l[i]? = some (f i)) : l = L l.length f := L_ext rfl h
theorem head_L {h r : List Nat} {b : Nat} (hb : b ≤ h.length) : h.take b = L b (val h r) := by
  apply L_ext
  · rw [List.length_take]; omega
  · intro i hi
    rw [List.getElem?_take_of_lt hi]
    unfold val
    rw [if_pos (by omega), List.getD_eq_getElem?_getD, List.getElem?_eq_getElem (by omega)]
    rfl
/-- how the signs of a trial's moment go -/
theorem val_L {s : Nat → Nat} {b k : Nat} (hk : 1 ≤ k) (i : Nat) : val (L b s) (L k fun m => s (b + m)) i = if i < b then s i else s (b + (i - b) % k) := by
  unfold val
  rw [L_len]
  by_cases h : i < b
  · rw [if_pos h, if_pos h, List.getD_eq_getElem?_getD, L_get h]
    rfl
  · rw [if_neg h, if_neg h]
    have e := cyc_get (r := L k fun m => s (b + m)) (by rw [L_len]; exact hk) (i - b)
    rw [L_len, L_get (Nat.mod_lt _ hk)] at e
    exact (Option.some.inj e).symm
theorem CC_mod {s : Nat → Nat} {b k : Nat} (c : CC s b k) (m : Nat) : s (b + m % k) = s (b + m) := by
  have key : ∀ t x, s (b + x + t * k) = s (b + x) := by
    intro t
    induction t with
    | zero => intro x; rw [Nat.zero_mul, Nat.add_zero]
    | succ t ih => intro x; rw [Nat.succ_mul, ← Nat.add_assoc, c _ (by omega), ih]
  conv => rhs; rw [← Nat.mod_add_div m k, Nat.mul_comm, ← Nat.add_assoc, key]
/-- a trial: the first signs are those of the moment itself just if the sequence repeats from there on -/
theorem trial_iff {h r : List Nat} {b k many : Nat} (hr : 1 ≤ r.length) (hk : 1 ≤ k) (hb : b ≤ h.length) (hm : h.length + k + r.length ≤ many) :
    sg (L b (val h r)) (L k fun m => val h r (b + m)) many = L many (val h r) ↔ CC (val h r) b k := by
  rw [sg_eq (by rw [L_len]; exact hk), L_eq]
  constructor
  · intro e
    have per : ∀ i, h.length ≤ i → val (L b (val h r)) (L k fun m => val h r (b + m)) (i + k) = val (L b (val h r)) (L k fun m => val h r (b + m)) i := fun i hi => by
      have := val_per (L b (val h r)) (L k fun m => val h r (b + m)) (a := b) (i := i) (by rw [L_len]; exact Nat.le_refl _) (by omega)
      rwa [L_len] at this
    have all := wilf (a := h.length) hk hr per (fun i hi => val_per h r (Nat.le_refl _) hi) (fun i hi => e i (by omega))
    intro i hi
    have p2 := val_per (L b (val h r)) (L k fun m => val h r (b + m)) (a := b) (i := i) (by rw [L_len]; exact Nat.le_refl _) hi
    rw [L_len, all, all] at p2
    exact p2
  · intro c i _
    rw [val_L hk]
    by_cases hi : i < b
    · rw [if_pos hi]
    · rw [if_neg hi, CC_mod c, show b + (i - b) = i by omega]
/-- the ring as the program turns it -/
theorem turn_L {h r : List Nat} {k b : Nat} (p : Per r k) (hb : b ≤ h.length) (hc : ∀ i, b ≤ i → i < h.length → val h r i = EE h r k i) :
    (r.take k).drop (k - (h.length - b) % k) ++ (r.take k).take (k - (h.length - b) % k) = pR (val h r) b k := by
  have hk := p.pos
  have hle := p.le
  have hmod : (h.length - b) % k < k := Nat.mod_lt _ hk
  have hl : (r.take k).length = k := p.len
  generalize hu : (h.length - b) % k = u at hmod
  apply L_ext
  · rw [List.length_append, List.length_drop, List.length_take (l := r.take k), hl]; omega
  · intro m hm
    have e1 : val h r (b + m) = EE h r k (b + m) := by
      by_cases h2 : b + m < h.length
      · exact hc _ (by omega) h2
      · exact val_EE p (by omega)
    have rot := cyc_get (r := (r.take k).drop (k - u) ++ (r.take k).take (k - u)) (by rw [List.length_append, List.length_drop, List.length_take (l := r.take k), hl]; omega) m
    have hlen : ((r.take k).drop (k - u) ++ (r.take k).take (k - u)).length = k := by rw [List.length_append, List.length_drop, List.length_take (l := r.take k), hl]; omega
    rw [hlen, Nat.mod_eq_of_lt hm, rot_cyc (by omega) (by omega), p.cyc] at rot
    rw [rot, e1]
    congr 1
    unfold EE
    -- m + (k - u) and b + m + H (k - 1) are alike up to rounds
    have e2 : h.length * k = h.length * (k - 1) + h.length := by
      conv => lhs; rw [show k = (k - 1) + 1 by omega]
      rw [Nat.mul_succ]
    have e3 : h.length - b = u + (h.length - b) / k * k := by
      have := Nat.mod_add_div (h.length - b) k
      rw [hu, Nat.mul_comm] at this
      omega
    rw [← inv_mul p.inv h.length (m + (k - u)), ← inv_mul p.inv ((h.length - b) / k + 1) (b + m + h.length * (k - 1))]
    congr 1
    rw [Nat.succ_mul]
    omega
theorem Bin.app' {a b : List Nat} (h : Bin a) (g : Bin b) : Bin (a ++ b) := fun c hc => by
  rcases List.mem_append.mp hc with q | q
  · exact h c q
  · exact g c q
theorem val_bin {h r : List Nat} (bh : Bin h) (br : Bin r) (hr : 1 ≤ r.length) (i : Nat) : val h r i = 48 ∨ val h r i = 49 := by
  unfold val
  by_cases c : i < h.length
  · rw [if_pos c, List.getD_eq_getElem?_getD, List.getElem?_eq_getElem c]
    exact bh _ (List.getElem_mem c)
  · rw [if_neg c]
    exact br _ (List.mem_of_getElem? (cyc_get hr _))
theorem L_bin {n : Nat} {f : Nat → Nat} (h : ∀ i, f i = 48 ∨ f i = 49) : Bin (L n f) := fun c hc => by
  unfold L at hc
  obtain ⟨i, _, rfl⟩ := List.mem_map.mp hc
  exact h i
end HC

namespace HC
open PySem PySem.Spec PyProof.Rows L2
def top (i : Nat) : Stmt := PySem.Challenge.pw_halfcuts_k03_plain_moments.main.body.getD i (.Pass ⟨0, 0, 0, 0⟩)
abbrev s__law_pool : Stmt := top 17
abbrev N__law_pool : List Str := ["script", "at", "given"]
theorem sc__law_pool : FnScope N__law_pool ["script", "at"] (defScope s__law_pool) := ⟨rfl, rfl, rfl, by decide +kernel, rfl, by decide +kernel, by decide +kernel⟩

abbrev s__law_draw : Stmt := top 18
abbrev N__law_draw : List Str := ["pool", "many", "drawn", "mixed"]
theorem sc__law_draw : FnScope N__law_draw ["pool", "many"] (defScope s__law_draw) := ⟨rfl, rfl, rfl, by decide +kernel, rfl, by decide +kernel, by decide +kernel⟩

abbrev s__law_word : Stmt := top 19
abbrev N__law_word : List Str := ["pool", "most", "some", "size", "turn"]
theorem sc__law_word : FnScope N__law_word ["pool", "most"] (defScope s__law_word) := ⟨rfl, rfl, rfl, by decide +kernel, rfl, by decide +kernel, by decide +kernel⟩

abbrev s__law_moment : Stmt := top 20
abbrev N__law_moment : List Str := ["pool", "head"]
theorem sc__law_moment : FnScope N__law_moment ["pool"] (defScope s__law_moment) := ⟨rfl, rfl, rfl, by decide +kernel, rfl, by decide +kernel, by decide +kernel⟩

abbrev s__law_signs : Stmt := top 21
abbrev N__law_signs : List Str := ["head", "ring", "size"]
theorem sc__law_signs : FnScope N__law_signs ["head", "ring", "size"] (defScope s__law_signs) := ⟨rfl, rfl, rfl, by decide +kernel, rfl, by decide +kernel, by decide +kernel⟩

theorem max0 (x : Int) : 0 ≤ if x > 0 then x else 0 := by split <;> omega
theorem mul1 {c : Int} (h : 0 ≤ c) (h2 : c < 2 ^ 31) : CMulW 15488561 (c + 1) := wide_mul (a := 40) (b := 40) (by decide) (by omega) (by decide) (by decide) (by decide)
theorem mul2 {c : Int} (h : 0 ≤ c) (h2 : c < 2 ^ 31) : CMulW 32454379 (c + 1) := wide_mul (a := 40) (b := 40) (by decide) (by omega) (by decide) (by decide) (by decide)
theorem pow1 {b c : Int} (h0 : 0 ≤ b) (h1 : b < 2 ^ 62) (h : 0 ≤ c) (h2 : c < 2 ^ 31) : CPowX (b + 15488561 * (c + 1)) 3 := ⟨by decide, 64, by omega, by decide⟩
theorem pow2 {x c : Int} (h : 0 ≤ c) (h2 : c < 2 ^ 31) : CPowX (x % 162259276829213363391578010288127 + 32454379 * (c + 1)) 5 := ⟨by decide, 110, by omega, by decide⟩
theorem div1 {x : Int} : CDivW x 1048576 := wide_div (b := 40) (by decide) (by decide) (by decide) (by decide)
theorem rem_nat {Q : VK} {x : Int} {m : Nat} {H : Hp} (hm : 0 < m) (h : ∀ r : Nat, r < m → Q (.int (r : Int)) H) : Q (.int (x % (m : Int))) H := by
  have mpos : (0 : Int) < (m : Int) := by omega
  have e : x % (m : Int) = (((x % (m : Int)).toNat : Nat) : Int) := (Int.toNat_of_nonneg (Int.emod_nonneg _ (by omega))).symm
  rw [e]
  have := Int.emod_lt_of_pos x mpos
  exact h _ (by omega)
section
variable {P : Program} {w : World} {K : PySem.W.Frag} {mg : Str → Option Value} {base : Heap}
/-- a def of the top, with its promise -/
def Has (P : Program) (w : World) (K : PySem.W.Frag) (mg : Str → Option Value) (base : Heap) (x : Str) (k : Nat) (ps : List Str) (sp : Sp) : Prop :=
  ∃ (f : Addr) (fd : FuncData), mg x = some (.ref f) ∧ PySem.W.keepIn K (.ref f) = true ∧ Binds K fd ps [] ∧ FnOk P w K mg base CX0 k f fd ps sp
theorem ok__law_pool {f : Addr} {fd : FuncData} (F : Fun K "_law_pool" "_law_pool" s__law_pool f fd) (B : Blt mg) : FnOk P w K mg base CX0 1 f fd ["script", "at"] (spPool K) := by
  have sc := sc__law_pool
  refine F.ok sc (fun vs H Q E h => ?_) (fun cdv A outer s H vs Q E hr h => ?_)
  · obtain ⟨a, ns, i, rfl, _⟩ := h
    rfl
  · obtain ⟨a, ns, i, rfl, hS, hi, k⟩ := h
    refine ⟨_, (pss_cons (ps_set (i := 2) sc.nd rfl (by first | exact Or.inl rfl | exact Or.inr rfl) pe_int)
    (pss_cons (ps_if (pt_cmpR op_lt (pv 1) (pe_callB call_len_seq (by rfl) B.len PySem.boot_len (pa_cons (pv 0) pa_nil)) (nomark _)) (pss_one (ps_set (i := 2) sc.nd rfl (by first | exact Or.inl rfl | exact Or.inr rfl) (pe_ix ix_list (pv 0) (pv 1) (fun _ _ => rfl)))) pss_nil)
    (pss_one (ps_ret (pe_lst (pa_cons (pe_callB (call_max2 rfl) (by rfl) B.max (by decide +kernel) (pa_cons pe_int (pa_cons (pe_op op_sub (pe_callB call_abs (by rfl) B.abs (by decide +kernel) (pa_cons (pv 2) pa_nil)) (pe_op op_powX pe_int pe_int)) pa_nil))) (pa_cons (pe_op op_add (pe_op op_mod (pv 2) pe_int) (pe_op op_mulW pe_int (pe_op op_add (pv 1) pe_int))) (pa_cons pe_int pa_nil)))))))), ?_⟩
    have tl1 : CPowX 10 18 := ⟨by decide, 4, by decide, by decide⟩
    have tl2 : CMulW 3367900447 ((i : Int) + 1) := wide_mul (a := 40) (b := 40) (by decide) (by omega) (by decide) (by decide) (by decide)
    refine ⟨_, rfl, _, rfl, a, _, rfl, .inl hS, _, _, rfl, rfl, _, rfl, ?_⟩
    refine ite2 (fun c1 => ?_) (fun c1 => ?_)
    · have c2 := of_decide_eq_true c1
      rw [List.length_map] at c2
      obtain ⟨z, hz⟩ : ∃ z, ns[i]? = some z := ⟨ns[i]'(by omega), List.getElem?_eq_getElem (by omega)⟩
      refine ⟨_, rfl, _, rfl, a, _, _, _, rfl, rfl, hS, atI_of (x := .int z) (by rw [List.getElem?_map, hz]; rfl), ?_⟩
      refine ⟨_, rfl, _, rfl, _, _, rfl, rfl, tl1, _, _, rfl, rfl, _, _, rfl, ?_⟩
      refine ⟨_, rfl, _, _, rfl, rfl, (by show (0 : Int) < 2305843009213693951; decide), _, rfl, _, _, rfl, rfl, _, _, rfl, rfl, tl2, _, _, rfl, rfl, ?_⟩
      refine ⟨(by show 3 ≤ sizeLine; decide), fun p hp => k _ p (Same.new hp) hp ⟨_, _, 0, upd_same, ?_, ?_, ?_, Nat.le_refl _⟩⟩
      · exact max0 _
      · omega
      · omega
    · refine ⟨_, rfl, _, rfl, _, _, rfl, rfl, tl1, _, _, rfl, rfl, _, _, rfl, ?_⟩
      refine ⟨_, rfl, _, _, rfl, rfl, (by show (0 : Int) < 2305843009213693951; decide), _, rfl, _, _, rfl, rfl, _, _, rfl, rfl, tl2, _, _, rfl, rfl, ?_⟩
      refine ⟨(by show 3 ≤ sizeLine; decide), fun p hp => k _ p (Same.new hp) hp ⟨_, _, 0, upd_same, ?_, ?_, ?_, Nat.le_refl _⟩⟩
      · exact max0 _
      · omega
      · omega
theorem ok__law_draw {f : Addr} {fd : FuncData} (F : Fun K "_law_draw" "_law_draw" s__law_draw f fd) (B : Blt mg) : FnOk P w K mg base CX0 1 f fd ["pool", "many"] spDraw := by
  have sc := sc__law_draw
  refine F.ok sc (fun vs H Q E h => ?_) (fun cdv A outer s H vs Q E hr h => ?_)
  · obtain ⟨p, m, n, rfl, _⟩ := h
    rfl
  · obtain ⟨p, m, n, rfl, ⟨a, b, c, hp, ha, hb, hb2, hc⟩, hn, hm, hm2, k⟩ := h
    refine ⟨_, (pss_cons (ps_if (pt_cmpR op_gt (pe_ix ix_list (pv 0) pe_int (fun _ _ => rfl)) pe_int (nomark _)) (pss_cons (ps_set (i := 2) sc.nd rfl (by first | exact Or.inl rfl | exact Or.inr rfl) (pe_op op_mod (pe_ix ix_list (pv 0) pe_int (fun _ _ => rfl)) (pv 1)))
    (pss_cons (ps_asg (pe_op op_fdivW (pe_ix ix_list (pv 0) pe_int (fun _ _ => rfl)) (pv 1)) (pg_sub (pv 0) pe_int set_list))
    (pss_one (ps_ret (pv 2))))) pss_nil)
    (pss_cons (ps_asg (pe_op op_add (pe_ix ix_list (pv 0) pe_int (fun _ _ => rfl)) pe_int) (pg_sub (pv 0) pe_int set_list))
    (pss_cons (ps_set (i := 3) sc.nd rfl (by first | exact Or.inl rfl | exact Or.inr rfl) (pe_op op_mod (pe_op op_powX (pe_op op_add (pe_ix ix_list (pv 0) pe_int (fun _ _ => rfl)) (pe_op op_mulW pe_int (pe_ix ix_list (pv 0) pe_int (fun _ _ => rfl)))) pe_int) pe_int))
    (pss_cons (ps_set (i := 3) sc.nd rfl (by first | exact Or.inl rfl | exact Or.inr rfl) (pe_op op_mod (pe_op op_powX (pe_op op_add (pv 3) (pe_op op_mulW pe_int (pe_ix ix_list (pv 0) pe_int (fun _ _ => rfl)))) pe_int) pe_int))
    (pss_one (ps_ret (pe_op op_mod (pe_op op_fdivW (pv 3) pe_int) (pv 1)))))))), ?_⟩
    have mpos : (0 : Int) < (m : Int) := by omega
    refine ⟨_, rfl, p, _, _, _, rfl, rfl, SqL.of hp, atI_of (i := 0) rfl, _, _, rfl, rfl, _, rfl, ?_⟩
    refine ite2 (fun c1 => ?_) (fun c1 => ?_)
    · refine ⟨_, rfl, p, _, _, _, rfl, rfl, SqL.of hp, atI_of (i := 0) rfl, _, rfl, _, _, rfl, rfl, mpos, ?_⟩
      refine ⟨_, rfl, p, _, _, _, rfl, rfl, SqL.of hp, atI_of (i := 0) rfl, _, rfl, _, _, rfl, rfl, ?_, ?_⟩
      · exact wide_div mpos (b := 200) (by omega) (by decide) (by decide)
      refine ⟨_, rfl, p, _, _, 0, rfl, rfl, hp, rfl, ?_⟩
      refine ⟨_, rfl, ?_⟩
      show Q (.int (a % (m : Int))) _
      have e : a % (m : Int) = (((a % (m : Int)).toNat : Nat) : Int) := (Int.toNat_of_nonneg (Int.emod_nonneg _ (by omega))).symm
      rw [e]
      refine k _ _ SB.upd ⟨a / (m : Int), b, c, upd_same, ?_, hb, hb2, by omega⟩ ?_
      · exact Int.ediv_nonneg ha (by omega)
      · have := Int.emod_lt_of_pos a mpos
        omega
    · refine ⟨_, rfl, p, _, _, _, rfl, rfl, SqL.of hp, atI_of (i := 2) rfl, _, _, rfl, rfl, _, rfl, p, _, _, 2, rfl, rfl, hp, rfl, ?_⟩
      refine ⟨_, rfl, p, _, _, _, rfl, rfl, SqL.of upd_same, atI_of (i := 1) rfl, _, rfl, p, _, _, _, rfl, rfl, SqL.of upd_same, atI_of (i := 2) rfl, _, _, rfl, rfl, mul1 (by omega) (by omega), _, _, rfl, rfl, _, _, rfl, rfl, pow1 hb hb2 (by omega) (by omega), _, _, rfl, rfl, (by show (0 : Int) < 162259276829213363391578010288127; decide), ?_⟩
      refine ⟨_, rfl, _, rfl, p, _, _, _, rfl, rfl, SqL.of upd_same, atI_of (i := 2) rfl, _, _, rfl, rfl, mul2 (by omega) (by omega), _, _, rfl, rfl, _, _, rfl, rfl, pow2 (by omega) (by omega), _, _, rfl, rfl, (by show (0 : Int) < 170141183460469231731687303715884105727; decide), ?_⟩
      refine ⟨_, rfl, _, _, rfl, rfl, div1, _, rfl, _, _, rfl, rfl, mpos, ?_⟩
      refine rem_nat (m := m) hm fun r hr => k _ r SB.upd ⟨a, b, c + 1, upd_same, ha, hb, hb2, by omega⟩ hr
end

/-- a word: bits, at most so many -/
def spWord : Sp := fun vs H Q _ => ∃ (p : Addr) (m n : Nat), vs = [.ref p, .int (m : Int)] ∧ PoolAt H p n ∧ n + 100 < 2 ^ 30 ∧ m ≤ 90 ∧
  ∀ H' (l : List Nat), SB p H H' → PoolAt H' p (n + 100) → Bin l → l.length ≤ m → Q (.str (T l)) H'
theorem Bin.nil : Bin [] := fun _ h => nomatch h
theorem Bin.app {a b : List Nat} (h : Bin a) (g : Bin b) : Bin (a ++ b) := fun c hc => by
  rcases List.mem_append.mp hc with q | q
  · exact h c q
  · exact g c q
theorem Bin.take {a : List Nat} (h : Bin a) (n : Nat) : Bin (a.take n) := fun c hc => h c (List.mem_of_mem_take hc)
theorem Bin.drop {a : List Nat} (h : Bin a) (n : Nat) : Bin (a.drop n) := fun c hc => h c (List.mem_of_mem_drop hc)
theorem Bin.rep {a : List Nat} (h : Bin a) (n : Nat) : Bin (rep n a) := by
  induction n with
  | zero => exact Bin.nil
  | succ n ih => rw [rep_succ]; exact h.app ih
theorem bits4 {r : Nat} (h : r < 4) : ∃ l : List Nat, ([V.str (T [48]), V.str (T [49]), V.str (T [48, 49]), V.str (T [49, 48])])[r]? = some (.str (T l)) ∧ Bin l ∧ 1 ≤ l.length ∧ l.length ≤ 2 := by
  have b0 : Bin [48] := fun c hc => by simp at hc; omega
  have b1 : Bin [49] := fun c hc => by simp at hc; omega
  match r, h with
  | 0, _ => exact ⟨[48], rfl, b0, by decide, by decide⟩
  | 1, _ => exact ⟨[49], rfl, b1, by decide, by decide⟩
  | 2, _ => exact ⟨[48, 49], rfl, b0.app b1, by decide, by decide⟩
  | 3, _ => exact ⟨[49, 48], rfl, b1.app b0, by decide, by decide⟩
theorem bit2 {r : Nat} (h : r < 2) : ∃ c : Nat, ([48, 49] : List Nat)[r]? = some c ∧ Bin [c] := by
  match r, h with
  | 0, _ => exact ⟨48, rfl, fun c hc => by simp at hc; omega⟩
  | 1, _ => exact ⟨49, rfl, fun c hc => by simp at hc; omega⟩
section
variable {P : Program} {w : World} {K : PySem.W.Frag} {mg : Str → Option Value} {base : Heap}
theorem ok__law_word {f : Addr} {fd : FuncData} (F : Fun K "_law_word" "_law_word" s__law_word f fd) (B : Blt mg) (h__law_draw : Has P w K mg base "_law_draw" 1 ["pool", "many"] spDraw) : FnOk P w K mg base CX0 2 f fd ["pool", "most"] spWord := by
  have sc := sc__law_word
  obtain ⟨f__law_draw, fd__law_draw, mg__law_draw, kp__law_draw, b__law_draw, G__law_draw⟩ := h__law_draw
  refine F.ok sc (fun vs H Q E h => ?_) (fun cdv A outer s H vs Q E hr h => ?_)
  · obtain ⟨p, m, n, rfl, _⟩ := h
    rfl
  · obtain ⟨p, m, n, rfl, hp, hn, hm, k⟩ := h
    refine ⟨_, (pss_cons (ps_set (i := 2) sc.nd rfl (by first | exact Or.inl rfl | exact Or.inr rfl) (pe_ix ix_list (pe_lst (pa_cons (pe_strT [48] (by decide +kernel)) (pa_cons (pe_strT [49] (by decide +kernel)) (pa_cons (pe_strT [48, 49] (by decide +kernel)) (pa_cons (pe_strT [49, 48] (by decide +kernel)) pa_nil))))) (pe_call G__law_draw (hr.mono (by decide)) (by rfl) mg__law_draw kp__law_draw b__law_draw .nil pass0 (pa_cons (pv 0) (pa_cons pe_int pa_nil))) (fun _ _ => rfl)))
    (pss_cons (ps_set (i := 3) sc.nd rfl (by first | exact Or.inl rfl | exact Or.inr rfl) (pe_call G__law_draw (hr.mono (by decide)) (by rfl) mg__law_draw kp__law_draw b__law_draw .nil pass0 (pa_cons (pv 0) (pa_cons (pe_op op_add (pv 1) pe_int) pa_nil))))
    (pss_cons (ps_if (pt_cmpR op_eq (pe_call G__law_draw (hr.mono (by decide)) (by rfl) mg__law_draw kp__law_draw b__law_draw .nil pass0 (pa_cons (pv 0) (pa_cons pe_int pa_nil))) pe_int (nomark _)) (pss_one (ps_ret (pe_slice sl_T (pe_op op_mulT (pv 2) (pv 1)) po_none (po_some (pv 3))))) pss_nil)
    (pss_one (ps_ret (pe_bm PySem.F.plainAttrs_str PySem.F.slot_str_join PySem.F.type_str_join mt_joinT (pe_strT [] (by decide +kernel)) (pa_cons (pe_lc (own := [("turn", 4)]) (g := gName 4) (by rfl) sc.nd (pi_range1 (by rfl) B.range (pa_cons (pv 3) pa_nil)) (blkOk_by (own := [("turn", 4)]) (N := N__law_word) (sc := defScope s__law_word) (by decide +kernel)) (fun _ _ _ _ _ => pg_name (i := 4) sc.nd rfl (by first | exact Or.inl rfl | exact Or.inr rfl)) (fun _ _ _ _ _ => pts_nil) (fun _ _ _ _ _ => (pe_ix ix_T (pe_strT [48, 49] (by decide +kernel)) (pe_call G__law_draw (hr.mono (by decide)) (by rfl) mg__law_draw kp__law_draw b__law_draw .nil pass0 (pa_cons (pv 0) (pa_cons pe_int pa_nil))) (fun _ _ => rfl)))) pa_nil))))))), ?_⟩
    refine ⟨(by show 4 ≤ sizeLine; decide), fun l hl => ?_⟩
    refine ⟨_, rfl, p, 4, n, rfl, hp.new hl, by omega, by decide, by decide, fun H1 r s1 p1 hr1 => ?_⟩
    obtain ⟨l4, e4, b4, g1, g2⟩ := bits4 hr1
    have hl1 : H1 l = some (.lst [V.str (T [48]), V.str (T [49]), V.str (T [48, 49]), V.str (T [49, 48])]) := s1 _ _ upd_same (hp.ne hl)
    have sb1 : SB p H H1 := (SB.of (Same.new hl)).trans s1
    refine ⟨l, _, _, _, rfl, rfl, SqL.of hl1, atI_of e4, ?_⟩
    refine ⟨_, rfl, _, rfl, _, _, rfl, rfl, p, m + 1, n + 1, rfl, p1, by omega, by omega, by omega, fun H2 z s2 p2 hz => ?_⟩
    refine ⟨_, rfl, p, 3, n + 2, rfl, p2, by omega, by decide, by decide, fun H3 t s3 p3 ht => ?_⟩
    refine ⟨rfl, _, rfl, ?_⟩
    refine ite2 (fun c1 => ?_) (fun c1 => ?_)
    · refine ⟨_, rfl, _, rfl, _, _, rfl, rfl, ?_, by omega, _, rfl, _, rfl, _, rfl, ?_, ?_⟩
      · have : l4.length * m ≤ 2 * 90 := Nat.mul_le_mul g2 hm
        omega
      · rw [rep_len]
        have : m * l4.length ≤ 90 * 2 := Nat.mul_le_mul hm g2
        exact Nat.le_trans this (by decide)
      · show Q (.str (T (cutL (rep m l4) none (some (z : Int))))) _
        rw [cut_hi]
        refine k _ _ (sb1.trans (s2.trans s3)) (p3.mono (by omega)) ((b4.rep _).take _) ?_
        rw [List.length_take]
        omega
    · refine ⟨rfl, ?_⟩
      refine ⟨_, rfl, (z : Int), rfl, by omega, by omega, fun D hD => ?_⟩
      refine lc_range (lo := 0) (n := (z : Int).toNat) (fun i H' => ∃ ys : List (List Nat), H' D = some (.lst (ys.map fun y => V.str (T y))) ∧ ys.length = i ∧ ys.flatten.length = i ∧ Bin ys.flatten ∧ SB p H3 H' ∧ PoolAt H' p (n + 3 + i)) ?_ ?_ ?_
      · exact ⟨[], upd_same, rfl, rfl, Bin.nil, SB.of (Same.new hD), (p3.mono (by omega)).new hD⟩
      · rintro i H' hi ⟨ys, hy, hy1, hy2, hy3, sb, pp⟩
        refine ⟨rfl, ?_⟩
        refine tYes_if ?_
        refine ⟨_, rfl, p, 2, n + 3 + i, rfl, pp, by omega, by decide, by decide, fun H4 r s4 p4 hr4 => ?_⟩
        obtain ⟨c, ec, bc⟩ := bit2 hr4
        refine ⟨[48, 49], _, c, rfl, rfl, by decide, atI_of ec, ?_⟩
        have hy4 := s4 _ _ hy (p3.ne hD)
        refine ⟨_, hy4, ?_, ys ++ [[c]], ?_, ?_, ?_, ?_, ?_, ?_⟩
        · rw [List.length_map, hy1]
          exact small1000 (by omega)
        · rw [upd_same, List.map_append]
          rfl
        · rw [List.length_append, hy1]
          rfl
        · rw [List.flatten_append, List.length_append, hy2]
          rfl
        · rw [List.flatten_append]
          exact hy3.app (by simpa using bc)
        · intro b o hb nb
          have nD : b ≠ D := ne_of_none hb hD
          rw [upd_ne nD]
          exact s4 _ _ (sb _ _ hb nb) nb
        · obtain ⟨a1, b1, c1', q1, q2, q3, q4, q5⟩ := p4
          refine ⟨a1, b1, c1', ?_, q2, q3, q4, by omega⟩
          rw [upd_ne (p3.ne hD).symm]
          exact q1
      · rintro H' ⟨ys, hy, hy1, hy2, hy3, sb, pp⟩
        refine ⟨D, ys, rfl, rfl, SqL.of hy, by omega, ?_⟩
        refine k _ _ (sb1.trans (s2.trans (s3.trans sb))) (pp.mono (by omega)) hy3 ?_
        rw [hy2]
        omega
end

/-- a moment of a law: head, ring -/
def spMoment : Sp := fun vs H Q _ => ∃ (p : Addr) (n : Nat), vs = [.ref p] ∧ PoolAt H p n ∧ n + 300 < 2 ^ 30 ∧
  ∀ H' (t : Addr) (h r : List Nat), SB p H H' → PoolAt H' p (n + 300) → MomAt H' t h r → Bin h → Bin r → h.length ≤ 60 → 1 ≤ r.length → r.length ≤ 12 → Q (.ref t) H'
theorem pick3 {a b c r : Nat} (h : r < 3) : ∃ m : Nat, ([V.int (a : Int), V.int (b : Int), V.int (c : Int)])[r]? = some (.int (m : Int)) ∧ (m = a ∨ m = b ∨ m = c) := by
  match r, h with
  | 0, _ => exact ⟨a, rfl, .inl rfl⟩
  | 1, _ => exact ⟨b, rfl, .inr (.inl rfl)⟩
  | 2, _ => exact ⟨c, rfl, .inr (.inr rfl)⟩
section
variable {P : Program} {w : World} {K : PySem.W.Frag} {mg : Str → Option Value} {base : Heap}
theorem ok__law_moment {f : Addr} {fd : FuncData} (F : Fun K "_law_moment" "_law_moment" s__law_moment f fd) (h__law_draw : Has P w K mg base "_law_draw" 1 ["pool", "many"] spDraw) (h__law_word : Has P w K mg base "_law_word" 2 ["pool", "most"] spWord) :
    FnOk P w K mg base CX0 3 f fd ["pool"] spMoment := by
  have sc := sc__law_moment
  obtain ⟨f__law_word, fd__law_word, mg__law_word, kp__law_word, b__law_word, G__law_word⟩ := h__law_word
  obtain ⟨f__law_draw, fd__law_draw, mg__law_draw, kp__law_draw, b__law_draw, G__law_draw⟩ := h__law_draw
  refine F.ok sc (fun vs H Q E h => ?_) (fun cdv A outer s H vs Q E hr h => ?_)
  · obtain ⟨p, n, rfl, _⟩ := h
    rfl
  · obtain ⟨p, n, rfl, hp, hn, k⟩ := h
    refine ⟨_, (pss_cons (ps_set (i := 1) sc.nd rfl (by first | exact Or.inl rfl | exact Or.inr rfl) (pe_call G__law_word (hr.mono (by decide)) (by rfl) mg__law_word kp__law_word b__law_word .nil pass0 (pa_cons (pv 0) (pa_cons (pe_ix ix_list (pe_lst (pa_cons pe_int (pa_cons pe_int (pa_cons pe_int pa_nil)))) (pe_call G__law_draw (hr.mono (by decide)) (by rfl) mg__law_draw kp__law_draw b__law_draw .nil pass0 (pa_cons (pv 0) (pa_cons pe_int pa_nil))) (fun _ _ => rfl)) pa_nil))))
    (pss_one (ps_ret (pe_tup (pa_cons (pv 1) (pa_cons (pe_op op_addT (pe_call G__law_word (hr.mono (by decide)) (by rfl) mg__law_word kp__law_word b__law_word .nil pass0 (pa_cons (pv 0) (pa_cons (pe_ix ix_list (pe_lst (pa_cons pe_int (pa_cons pe_int (pa_cons pe_int pa_nil)))) (pe_call G__law_draw (hr.mono (by decide)) (by rfl) mg__law_draw kp__law_draw b__law_draw .nil pass0 (pa_cons (pv 0) (pa_cons pe_int pa_nil))) (fun _ _ => rfl)) pa_nil))) (pe_ix ix_T (pe_strT [48, 49] (by decide +kernel)) (pe_call G__law_draw (hr.mono (by decide)) (by rfl) mg__law_draw kp__law_draw b__law_draw .nil pass0 (pa_cons (pv 0) (pa_cons pe_int pa_nil))) (fun _ _ => rfl))) pa_nil)))))), ?_⟩
    -- head
    refine ⟨_, rfl, ?_⟩
    refine ⟨(by show 3 ≤ sizeLine; decide), fun l hl => ?_⟩
    refine ⟨_, rfl, p, 3, n, rfl, hp.new hl, by omega, by decide, by decide, fun H1 r s1 p1 hr1 => ?_⟩
    have sb1 : SB p H H1 := (SB.of (Same.new hl)).trans s1
    obtain ⟨m, em, hm⟩ := pick3 (a := 3) (b := 20) (c := 60) hr1
    refine ⟨l, _, _, _, rfl, rfl, SqL.of (s1 _ _ upd_same (hp.ne hl)), atI_of em, ?_⟩
    refine ⟨p, m, n + 1, rfl, p1, by omega, by omega, fun H2 hd s2 p2 bh lh => ?_⟩
    -- (head, ring)
    refine ⟨_, rfl, _, rfl, ?_⟩
    refine ⟨(by show 3 ≤ sizeLine; decide), fun l2 hl2 => ?_⟩
    refine ⟨_, rfl, p, 3, n + 101, rfl, p2.new hl2, by omega, by decide, by decide, fun H3 r3 s3 p3 hr3 => ?_⟩
    have sb3 : SB p H2 H3 := (SB.of (Same.new hl2)).trans s3
    obtain ⟨m3, em3, hm3⟩ := pick3 (a := 1) (b := 5) (c := 11) hr3
    refine ⟨l2, _, _, _, rfl, rfl, SqL.of (s3 _ _ upd_same (p2.ne hl2)), atI_of em3, ?_⟩
    refine ⟨p, m3, n + 102, rfl, p3, by omega, by omega, fun H4 rg s4 p4 br lr => ?_⟩
    refine ⟨_, rfl, p, 2, n + 202, rfl, p4, by omega, by decide, by decide, fun H5 r5 s5 p5 hr5 => ?_⟩
    obtain ⟨c, ec, bc⟩ := bit2 hr5
    refine ⟨[48, 49], _, c, rfl, rfl, by decide, atI_of ec, ?_⟩
    refine ⟨rg, [c], rfl, rfl, ?_, ?_⟩
    · exact Nat.le_trans (show rg.length + 1 ≤ 20 by omega) (by decide)
    refine ⟨(by show 2 ≤ sizeLine; decide), fun t ht => ?_⟩
    refine k _ t hd (rg ++ [c]) ?_ ((p5.mono (by omega)).new ht) upd_same bh (br.app bc) (by omega) ?_ ?_
    · exact sb1.trans (s2.trans (sb3.trans (s4.trans (s5.trans (SB.of (Same.new ht))))))
    · rw [List.length_append]; exact Nat.le_add_left 1 _
    · rw [List.length_append]; show rg.length + 1 ≤ 12; omega
end
def spSigns : Sp := fun vs H Q _ => ∃ (h r : List Nat) (n : Nat), vs = [.str (T h), .str (T r), .int (n : Int)] ∧ h.length ≤ 200 ∧ 1 ≤ r.length ∧ r.length ≤ 200 ∧ n ≤ 2000 ∧ Q (.str (T (sg h r n))) H
section
variable {P : Program} {w : World} {K : PySem.W.Frag} {mg : Str → Option Value} {base : Heap}
theorem ok__law_signs {f : Addr} {fd : FuncData} (F : Fun K "_law_signs" "_law_signs" s__law_signs f fd) (B : Blt mg) : FnOk P w K mg base CX0 1 f fd ["head", "ring", "size"] spSigns := by
  have sc := sc__law_signs
  refine F.ok sc (fun vs H Q E h => ?_) (fun cdv A outer s H vs Q E hr h => ?_)
  · obtain ⟨hd, r, n, rfl, _⟩ := h
    rfl
  · obtain ⟨hd, r, n, rfl, h1, h2, h3, h4, k⟩ := h
    refine ⟨_, (pss_one (ps_ret (pe_slice sl_T (pe_op op_addT (pv 0) (pe_op op_mulT (pv 1) (pe_op op_add (pe_op op_fdivW (pv 2) (pe_callB call_lenT (by rfl) B.len PySem.boot_len (pa_cons (pv 1) pa_nil))) pe_int))) po_none (po_some (pv 2))))), ?_⟩
    have hdiv : n / r.length ≤ n := Nat.div_le_self _ _
    have hmul : (n / r.length) * r.length ≤ n := Nat.div_mul_le_self _ _
    have hmul2 : r.length * (n / r.length + 1) ≤ 2200 := by rw [Nat.mul_add, Nat.mul_comm]; omega
    have hsz : (2400 : Nat) ≤ sizeLine := by decide
    refine ⟨_, rfl, _, rfl, _, rfl, _, rfl, r, rfl, by omega, _, _, rfl, rfl, ?_, _, _, rfl, rfl, ?_⟩
    · exact wide_div (b := 60) (by omega) (by omega) (by decide) (by decide)
    have e : ((n : Int) / (r.length : Int)) + 1 = ((n / r.length + 1 : Nat) : Int) := by simp
    refine ⟨r, n / r.length + 1, rfl, by rw [← e], by omega, by omega, hd, _, rfl, rfl, ?_, _, rfl, _, rfl, _, rfl, ?_, ?_⟩
    · rw [rep_len, Nat.mul_comm]; omega
    · rw [List.length_append, rep_len, Nat.mul_comm]; omega
    · rw [cut_hi]
      exact k
end
end HC

namespace HC
open PySem PySem.Spec PyProof.Rows L2
abbrev s_is_word : Stmt := top 5
abbrev N_is_word : List Str := ["text"]
theorem sc_is_word : FnScope N_is_word ["text"] (defScope s_is_word) := ⟨rfl, rfl, rfl, by decide +kernel, rfl, by decide +kernel, by decide +kernel⟩

abbrev s_check_moment : Stmt := top 6
abbrev N_check_moment : List Str := ["moment", "head", "ring"]
theorem sc_check_moment : FnScope N_check_moment ["moment"] (defScope s_check_moment) := ⟨rfl, rfl, rfl, by decide +kernel, rfl, by decide +kernel, by decide +kernel⟩


abbrev s_shortest_ring : Stmt := top 13
abbrev N_shortest_ring : List Str := ["ring"]
theorem sc_shortest_ring : FnScope N_shortest_ring ["ring"] (defScope s_shortest_ring) := ⟨rfl, rfl, rfl, by decide +kernel, rfl, by decide +kernel, by decide +kernel⟩



/-! ## promises of the program's defs, for arguments that are right -/
/-- a moment that is one, not too long -/
structure Mom (h r : List Nat) : Prop where
  bh : Bin h
  br : Bin r
  lh : h.length ≤ 200
  l1 : 1 ≤ r.length
  lr : r.length ≤ 50
def spIsWord : Sp := fun vs H Q _ => ∃ l : List Nat, vs = [.str (T l)] ∧ Bin l ∧ l.length ≤ 1000 ∧ Q (.bl true) H
def spCheckMoment : Sp := fun vs H Q _ => ∃ (t : Addr) (h r : List Nat), vs = [.ref t] ∧ MomAt H t h r ∧ Mom h r ∧ Q .non H
def spFirstSigns : Sp := fun vs H Q _ => ∃ (t : Addr) (h r : List Nat) (n : Nat), vs = [.ref t, .int (n : Int)] ∧ MomAt H t h r ∧ Mom h r ∧ n ≤ 2000 ∧ Q (.str (T (sg h r n))) H
def spShortest : Sp := fun vs H Q _ => ∃ (r : List Nat), vs = [.str (T r)] ∧ 1 ≤ r.length ∧ r.length ≤ 200 ∧ ∀ k, Per r k → Q (.str (T (r.take k))) H
def spIsBefore : Sp := fun vs H Q _ => ∃ (t u : Addr) (h1 r1 h2 r2 : List Nat), vs = [.ref t, .ref u] ∧ MomAt H t h1 r1 ∧ MomAt H u h2 r2 ∧ Mom h1 r1 ∧ Mom h2 r2 ∧
  ∀ b : Bool, (b = true ↔ Bef (val h1 r1) (val h2 r2)) → Q (.bl b) H
def spTail : Sp := fun vs H Q _ => ∃ (t u : Addr) (h1 r1 h2 r2 : List Nat), vs = [.ref t, .ref u] ∧ MomAt H t h1 r1 ∧ MomAt H u h2 r2 ∧ Mom h1 r1 ∧ Mom h2 r2 ∧
  ∀ b : Bool, (b = true ↔ Tail r1 r2) → Q (.bl b) H
theorem le_line {n : Nat} (h : n ≤ 16000000) : n ≤ sizeLine := Nat.le_trans h (by decide)
section
variable {P : Program} {w : World} {K : PySem.W.Frag} {mg : Str → Option Value} {base : Heap}
theorem MomAt.tup {H : Hp} {t : Addr} {h r : List Nat} (m : MomAt H t h r) : SqT K H t [.str (T h), .str (T r)] := SqT.of m
theorem ok_is_word {f : Addr} {fd : FuncData} (F : Fun K "is_word" "is_word" s_is_word f fd) : FnOk P w K mg base CX0 1 f fd ["text"] spIsWord := by
  have sc := sc_is_word
  refine F.ok sc (fun vs H Q E h => ?_) (fun cdv A outer s H vs Q E hr h => ?_)
  · obtain ⟨l, rfl, _⟩ := h
    rfl
  · obtain ⟨l, rfl, hb, hl, k⟩ := h
    refine ⟨_, (pss_one (ps_ret (pe_cmpR op_eqT (pe_bm PySem.F.plainAttrs_str PySem.F.slot_str_strip PySem.F.type_str_strip mt_stripT (pv 0) (pa_cons (pe_strT [48, 49] (by decide +kernel)) pa_nil)) (pe_strT [] (by decide +kernel)) (nomark _)))), ?_⟩
    exact ⟨_, rfl, rfl, l, rfl, rfl, hb, le_line (by omega), [], [], rfl, rfl, k⟩
theorem ok_check_moment {f : Addr} {fd : FuncData} (F : Fun K "check_moment" "check_moment" s_check_moment f fd) (h_is_word : Has P w K mg base "is_word" 1 ["text"] spIsWord) : FnOk P w K mg base CX0 2 f fd ["moment"] spCheckMoment := by
  have sc := sc_check_moment
  obtain ⟨f_is_word, fd_is_word, mg_is_word, kp_is_word, b_is_word, G_is_word⟩ := h_is_word
  refine F.ok sc (fun vs H Q E h => ?_) (fun cdv A outer s H vs Q E hr h => ?_)
  · obtain ⟨t, hd, r, rfl, _⟩ := h
    rfl
  · obtain ⟨t, hd, r, rfl, hm, m, k⟩ := h
    refine ⟨_, (pss_cons (ps_asg (pv 0) (pg_tup (by rfl) (pgs_cons (pg_name (i := 1) sc.nd rfl (by first | exact Or.inl rfl | exact Or.inr rfl)) (pgs_cons (pg_name (i := 2) sc.nd rfl (by first | exact Or.inl rfl | exact Or.inr rfl)) pgs_nil))))
    (pss_one (ps_if (PW.pt (pw_or (pt_not (pt_val (pe_call G_is_word (hr.mono (by decide)) (by rfl) mg_is_word kp_is_word b_is_word .nil pass0 (pa_cons (pv 1) pa_nil)))) (pw_or (pt_not (pt_val (pe_call G_is_word (hr.mono (by decide)) (by rfl) mg_is_word kp_is_word b_is_word .nil pass0 (pa_cons (pv 2) pa_nil)))) (pw_or1 (pt_cmpR op_eqT (pv 2) (pe_strT [] (by decide +kernel)) (nomark _)))))) (pss_one ps_never) pss_nil))), ?_⟩
    refine ⟨_, rfl, t, _, rfl, hm.tup, rfl, _, _, rfl, _, _, rfl, rfl, ?_⟩
    refine ⟨_, rfl, hd, rfl, m.bh, by have := m.lh; omega, true, rfl, iteF ?_⟩
    refine ⟨_, rfl, r, rfl, m.br, by have := m.lr; omega, true, rfl, iteF ?_⟩
    refine ⟨_, rfl, r, [], rfl, rfl, _, rfl, ?_⟩
    have e : decide (r = []) = false := decide_eq_false fun q => by have := m.l1; rw [q] at this; exact absurd this (by decide)
    rw [e]
    exact iteF k
theorem ok_shortest_ring {f : Addr} {fd : FuncData} (F : Fun K "shortest_ring" "shortest_ring" s_shortest_ring f fd) : FnOk P w K mg base CX0 1 f fd ["ring"] spShortest := by
  have sc := sc_shortest_ring
  refine F.ok sc (fun vs H Q E h => ?_) (fun cdv A outer s H vs Q E hr h => ?_)
  · obtain ⟨r, rfl, _⟩ := h
    rfl
  · obtain ⟨r, rfl, h1, h2, k⟩ := h
    refine ⟨_, (pss_one (ps_ret (pe_slice sl_T (pv 0) po_none (po_some (pe_bm PySem.F.plainAttrs_str PySem.F.slot_str_find PySem.F.type_str_find mt_findT (pe_op op_addT (pv 0) (pv 0)) (pa_cons (pv 0) (pa_cons pe_int pa_nil))))))), ?_⟩
    obtain ⟨j, p⟩ := per_exists h1
    refine ⟨_, rfl, _, rfl, _, rfl, r, r, rfl, rfl, le_line (by omega), rfl, _, rfl, r ++ r, r, 1, j, rfl, rfl, p.pos, (at_inv h1 p.le).mpr p.inv, fun i i1 i2 hi => p.least i i1 i2 ((at_inv h1 (by have := p.le; omega)).mp hi), _, rfl, r, rfl, le_line (by omega), ?_⟩
    rw [cut_hi]
    exact k j p
end
end HC

namespace HC
open PySem PySem.Spec PyProof.Rows L2
abbrev s_shared_end : Stmt := top 14
abbrev N_shared_end : List Str := ["head", "ring", "same"]
theorem sc_shared_end : FnScope N_shared_end ["head", "ring"] (defScope s_shared_end) := ⟨rfl, rfl, rfl, by decide +kernel, rfl, by decide +kernel, by decide +kernel⟩

abbrev s_plain : Stmt := top 12
abbrev N_plain : List Str := ["moment", "head", "ring", "same", "turn"]
theorem sc_plain : FnScope N_plain ["moment"] (defScope s_plain) := ⟨rfl, rfl, rfl, by decide +kernel, rfl, by decide +kernel, by decide +kernel⟩

abbrev s_sign_at : Stmt := top 10
abbrev N_sign_at : List Str := ["moment", "place", "head", "ring"]
theorem sc_sign_at : FnScope N_sign_at ["moment", "place"] (defScope s_sign_at) := ⟨rfl, rfl, rfl, by decide +kernel, rfl, by decide +kernel, by decide +kernel⟩

abbrev s_check_at_least : Stmt := top 7
abbrev N_check_at_least : List Str := ["number", "least"]
theorem sc_check_at_least : FnScope N_check_at_least ["number", "least"] (defScope s_check_at_least) := ⟨rfl, rfl, rfl, by decide +kernel, rfl, by decide +kernel, by decide +kernel⟩

abbrev s_check_places : Stmt := top 8
abbrev N_check_places : List Str := ["low", "high"]
theorem sc_check_places : FnScope N_check_places ["low", "high"] (defScope s_check_places) := ⟨rfl, rfl, rfl, by decide +kernel, rfl, by decide +kernel, by decide +kernel⟩

abbrev s_signs_between : Stmt := top 9
abbrev N_signs_between : List Str := ["moment", "low", "high", "place"]
theorem sc_signs_between : FnScope N_signs_between ["moment", "low", "high"] (defScope s_signs_between) := ⟨rfl, rfl, rfl, by decide +kernel, rfl, by decide +kernel, by decide +kernel⟩

abbrev s_letters : Stmt := top 15
abbrev N_letters : List Str := ["moment", "low", "high"]
theorem sc_letters : FnScope N_letters ["moment", "low", "high"] (defScope s_letters) := ⟨rfl, rfl, rfl, by decide +kernel, rfl, by decide +kernel, by decide +kernel⟩

/-- one keyword; three, the other way round -/
def oneG {α : Type} (us ws : List α) : List α := match us, ws with
  | [], [a] => [a]
  | _, _ => []
theorem oneRel {vs : List V} {us : List Value} {zs : List V} {ws : List Value} (r : Vals vs us) (q : Vals zs ws) : Vals (oneG vs zs) (oneG us ws) := by
  cases r with
  | cons => exact .nil
  | nil =>
    cases q with
    | nil => exact .nil
    | cons q1 q =>
      cases q with
      | nil => exact .cons q1 .nil
      | cons => exact .nil
theorem kb_one {K : PySem.W.Frag} {fd : FuncData} {p : Str} (h : ∀ a : Value, bindArgs fd ⟨[], [(p, a)]⟩ = pure [(p, a)]) : KBinds K fd [p] [p] oneG oneG where
  to := fun s us ws _ hl => by
    match us, ws, hl with
    | [], [a], _ => exact .of_eq (h a)
    | [], [], hl => simp [oneG] at hl
    | [], _ :: _ :: _, hl => simp [oneG] at hl
    | _ :: _, _, hl => simp [oneG] at hl
  rel := oneRel
def revG {α : Type} (us ws : List α) : List α := match us, ws with
  | [], [a, b, c] => [c, b, a]
  | _, _ => []
theorem revRel {vs : List V} {us : List Value} {zs : List V} {ws : List Value} (r : Vals vs us) (q : Vals zs ws) : Vals (revG vs zs) (revG us ws) := by
  cases r with
  | cons => exact .nil
  | nil =>
    cases q with
    | nil => exact .nil
    | cons q1 q =>
      cases q with
      | nil => exact .nil
      | cons q2 q =>
        cases q with
        | nil => exact .nil
        | cons q3 q =>
          cases q with
          | nil => exact .cons q3 (.cons q2 (.cons q1 .nil))
          | cons => exact .nil
theorem kb_rev3 {K : PySem.W.Frag} {fd : FuncData} {p q t : Str} (h : ∀ a b c : Value, bindArgs fd ⟨[], [(t, a), (q, b), (p, c)]⟩ = pure [(p, c), (q, b), (t, a)]) : KBinds K fd [p, q, t] [t, q, p] revG revG where
  to := fun s us ws _ hl => by
    match us, ws, hl with
    | [], [a, b, c], _ => exact .of_eq (h a b c)
    | [], [], hl => simp [revG] at hl
    | [], [_], hl => simp [revG] at hl
    | [], [_, _], hl => simp [revG] at hl
    | [], _ :: _ :: _ :: _ :: _, hl => simp [revG] at hl
    | _ :: _, _, hl => simp [revG] at hl
  rel := revRel
/-- a def of the top, with its promise, called by keywords, too -/
def HasG (ks : List Str) (g : {α : Type} → List α → List α → List α) (P : Program) (w : World) (K : PySem.W.Frag) (mg : Str → Option Value) (base : Heap) (x : Str) (k : Nat) (ps : List Str) (sp : Sp) : Prop :=
  ∃ (f : Addr) (fd : FuncData), mg x = some (.ref f) ∧ PySem.W.keepIn K (.ref f) = true ∧ Binds K fd ps [] ∧ KBinds K fd ps ks g g ∧ FnOk P w K mg base CX0 k f fd ps sp
theorem atI_neg {α : Type} {xs : List α} {j : Nat} {v : α} (hj : j < xs.length) (e : xs[xs.length - 1 - j]? = some v) : atI xs (-1 - (j : Int)) = some v := by
  have q : ixN xs.length (-1 - (j : Int)) = some (xs.length - 1 - j) := by
    unfold ixN
    rw [if_neg (by omega), if_pos (by omega)]
    congr 1
    omega
  unfold atI
  rw [q]
  exact e
def spShared : Sp := fun vs H Q _ => ∃ (h r : List Nat), vs = [.str (T h), .str (T r)] ∧ h.length ≤ 200 ∧ 1 ≤ r.length ∧ r.length ≤ 200 ∧
  ∀ same : Nat, same ≤ h.length → (∀ j, j < same → h[h.length - 1 - j]? = r[r.length - 1 - j % r.length]?) → (same = h.length ∨ h[h.length - 1 - same]? ≠ r[r.length - 1 - same % r.length]?) → Q (.int (same : Int)) H
def spPlain : Sp := fun vs H Q _ => ∃ (t : Addr) (h r : List Nat), vs = [.ref t] ∧ MomAt H t h r ∧ Mom h r ∧
  ∀ b k, PlainS (val h r) b k → ∀ H' u, Same H H' → MomAt H' u (pH (val h r) b) (pR (val h r) b k) → Q (.ref u) H'
def spSignAt : Sp := fun vs H Q _ => ∃ (t : Addr) (h r : List Nat) (n : Nat), vs = [.ref t, .int (n : Int)] ∧ MomAt H t h r ∧ Mom h r ∧ Q (.str (T [val h r n])) H
def spAtLeast : Sp := fun vs H Q _ => ∃ a b : Int, vs = [.int a, .int b] ∧ b ≤ a ∧ Q .non H
def spPlaces : Sp := fun vs H Q _ => ∃ a b : Int, vs = [.int a, .int b] ∧ 0 ≤ a ∧ a ≤ b ∧ Q .non H
def spLetters : Sp := fun vs H Q _ => ∃ (t : Addr) (h r : List Nat) (lo n : Nat), vs = [.ref t, .int (lo : Int), .int ((lo + n : Nat) : Int)] ∧ MomAt H t h r ∧ Mom h r ∧ n ≤ 1000 ∧
  ∀ H', Same H H' → Q (.str (T (L n fun i => val h r (lo + i)))) H'
section
variable {P : Program} {w : World} {K : PySem.W.Frag} {mg : Str → Option Value} {base : Heap}
theorem ok_shared_end {f : Addr} {fd : FuncData} (F : Fun K "shared_end" "shared_end" s_shared_end f fd) (B : Blt mg) : FnOk P w K mg base CX0 1 f fd ["head", "ring"] spShared := by
  have sc := sc_shared_end
  refine F.ok sc (fun vs H Q E h => ?_) (fun cdv A outer s H vs Q E hr h => ?_)
  · obtain ⟨hd, r, rfl, _⟩ := h
    rfl
  · obtain ⟨hd, r, rfl, h1, h2, h3, k⟩ := h
    refine ⟨_, (pss_cons (ps_set (i := 2) sc.nd rfl (by first | exact Or.inl rfl | exact Or.inr rfl) pe_int)
    (pss_cons (ps_while PassesOwn.never (PW.pt (pw_and (pt_cmpR op_lt (pv 2) (pe_callB call_lenT (by rfl) B.len PySem.boot_len (pa_cons (pv 0) pa_nil)) (nomark _)) (pw_and1 (pt_cmpR op_eqT (pe_ix ix_T (pv 0) (pe_op op_sub (pe_un un_neg pe_int) (pv 2)) (fun _ _ => rfl)) (pe_ix ix_T (pv 1) (pe_op op_sub (pe_un un_neg pe_int) (pe_op op_mod (pv 2) (pe_callB call_lenT (by rfl) B.len PySem.boot_len (pa_cons (pv 1) pa_nil)))) (fun _ _ => rfl)) (nomark _))))) (pss_one (ps_aug (i := 2) sc.nd rfl (by first | exact Or.inl rfl | exact Or.inr rfl) pe_int ip_add)))
    (pss_one (ps_ret (pv 2))))), ?_⟩
    refine ⟨fun m σ H' => H' = H ∧ ∃ same : Nat, m = hd.length - same ∧ same ≤ hd.length ∧ (∀ j, j < same → hd[hd.length - 1 - j]? = r[r.length - 1 - j % r.length]?) ∧ σ = [some (.str (T hd)), some (.str (T r)), some (.int (same : Int))], ⟨_, rfl, 0, rfl, by omega, fun j hj => by omega, rfl⟩, ?_⟩
    rintro m σ H' ⟨rfl, same, rfl, hs, hj, rfl⟩
    refine ⟨_, rfl, _, rfl, hd, rfl, le_line (by omega), _, _, rfl, rfl, _, rfl, ?_⟩
    refine ite2 (fun c1 => ?_) (fun c1 => ?_)
    · have c2 := of_decide_eq_true c1
      have hmod : same % r.length < r.length := Nat.mod_lt _ h2
      have l1 : hd.length - 1 - same < hd.length := by omega
      have l2 : r.length - 1 - same % r.length < r.length := by omega
      refine ⟨_, rfl, _, rfl, _, rfl, _, _, rfl, rfl, hd, _, hd[hd.length - 1 - same], rfl, rfl, le_line (by omega), atI_neg (by omega) (List.getElem?_eq_getElem l1), ?_⟩
      refine ⟨_, rfl, _, rfl, _, rfl, _, rfl, r, rfl, le_line (by omega), _, _, rfl, rfl, (by show (0 : Int) < (r.length : Int); omega), _, _, rfl, rfl, r, _, r[r.length - 1 - same % r.length], rfl, rfl, le_line (by omega), ?_, ?_⟩
      · exact atI_neg (j := same % r.length) hmod (List.getElem?_eq_getElem l2)
      refine ⟨_, _, rfl, rfl, _, rfl, ?_⟩
      have e1 : hd[hd.length - 1 - same]? = some hd[hd.length - 1 - same] := List.getElem?_eq_getElem l1
      have e2 : r[r.length - 1 - same % r.length]? = some r[r.length - 1 - same % r.length] := List.getElem?_eq_getElem l2
      refine ite2 (fun c3 => ?_) (fun c3 => ?_)
      · have c4 := of_decide_eq_true c3
        have c5 : hd[hd.length - 1 - same] = r[r.length - 1 - same % r.length] := by simpa using c4
        refine ⟨fun σ' H2 => H2 = H' ∧ σ' = [some (.str (T hd)), some (.str (T r)), some (.int ((same : Int) + 1))], fun σ' H2 ⟨q1, q2⟩ => ⟨_, ?_, q1, same + 1, rfl, by omega, ?_, by rw [q2]; rfl⟩, ?_⟩
        · omega
        · intro j j1
          by_cases e : j = same
          · rw [e, e1, e2, c5]
          · exact hj j (by omega)
        · exact ⟨_, rfl, _, _, rfl, rfl, rfl, rfl⟩
      · refine ⟨_, rfl, k same hs hj (.inr fun q => c3 (decide_eq_true ?_))⟩
        rw [e1, e2] at q
        rw [Option.some.inj q]
    · refine ⟨_, rfl, k same hs hj (.inl ?_)⟩
      have : ¬ ((same : Int) < (hd.length : Int)) := fun q => c1 (decide_eq_true q)
      omega
theorem ok_plain {f : Addr} {fd : FuncData} (F : Fun K "plain" "plain" s_plain f fd) (B : Blt mg) (h_check_moment : Has P w K mg base "check_moment" 2 ["moment"] spCheckMoment) (h_shortest_ring : Has P w K mg base "shortest_ring" 1 ["ring"] spShortest)
    (h_shared_end : Has P w K mg base "shared_end" 1 ["head", "ring"] spShared) : FnOk P w K mg base CX0 3 f fd ["moment"] spPlain := by
  have sc := sc_plain
  obtain ⟨f_check_moment, fd_check_moment, mg_check_moment, kp_check_moment, b_check_moment, G_check_moment⟩ := h_check_moment
  obtain ⟨f_shortest_ring, fd_shortest_ring, mg_shortest_ring, kp_shortest_ring, b_shortest_ring, G_shortest_ring⟩ := h_shortest_ring
  obtain ⟨f_shared_end, fd_shared_end, mg_shared_end, kp_shared_end, b_shared_end, G_shared_end⟩ := h_shared_end
  refine F.ok sc (fun vs H Q E h => ?_) (fun cdv A outer s H vs Q E hr h => ?_)
  · obtain ⟨t, hd, r, rfl, _⟩ := h
    rfl
  · obtain ⟨t, hd, r, rfl, g, m, kk⟩ := h
    refine ⟨_, (pss_cons (ps_expr (pe_call G_check_moment (hr.mono (by decide)) (by rfl) mg_check_moment kp_check_moment b_check_moment .nil pass0 (pa_cons (pv 0) pa_nil)))
    (pss_cons (ps_asg (pv 0) (pg_tup (by rfl) (pgs_cons (pg_name (i := 1) sc.nd rfl (by first | exact Or.inl rfl | exact Or.inr rfl)) (pgs_cons (pg_name (i := 2) sc.nd rfl (by first | exact Or.inl rfl | exact Or.inr rfl)) pgs_nil))))
    (pss_cons (ps_set (i := 2) sc.nd rfl (by first | exact Or.inl rfl | exact Or.inr rfl) (pe_call G_shortest_ring (hr.mono (by decide)) (by rfl) mg_shortest_ring kp_shortest_ring b_shortest_ring .nil pass0 (pa_cons (pv 2) pa_nil)))
    (pss_cons (ps_set (i := 3) sc.nd rfl (by first | exact Or.inl rfl | exact Or.inr rfl) (pe_call G_shared_end (hr.mono (by decide)) (by rfl) mg_shared_end kp_shared_end b_shared_end .nil pass0 (pa_cons (pv 1) (pa_cons (pv 2) pa_nil))))
    (pss_cons (ps_set (i := 4) sc.nd rfl (by first | exact Or.inl rfl | exact Or.inr rfl) (pe_op op_sub (pe_callB call_lenT (by rfl) B.len PySem.boot_len (pa_cons (pv 2) pa_nil)) (pe_op op_mod (pv 3) (pe_callB call_lenT (by rfl) B.len PySem.boot_len (pa_cons (pv 2) pa_nil)))))
    (pss_one (ps_ret (pe_tup (pa_cons (pe_slice sl_T (pv 1) po_none (po_some (pe_op op_sub (pe_callB call_lenT (by rfl) B.len PySem.boot_len (pa_cons (pv 1) pa_nil)) (pv 3)))) (pa_cons (pe_op op_addT (pe_slice sl_T (pv 2) (po_some (pv 4)) po_none) (pe_slice sl_T (pv 2) po_none (po_some (pv 4)))) pa_nil)))))))))), ?_⟩
    have a1 := m.lh
    have a2 := m.l1
    have a3 := m.lr
    refine ⟨_, rfl, t, hd, r, rfl, g, m, ?_⟩
    refine ⟨_, rfl, t, _, rfl, g.tup, rfl, _, _, rfl, _, _, rfl, rfl, ?_⟩
    refine ⟨_, rfl, r, rfl, a2, by omega, fun k p => ?_⟩
    have hk := p.pos
    have hle := p.le
    have hl := p.len
    refine ⟨_, rfl, _, rfl, hd, r.take k, rfl, a1, by rw [hl]; exact hk, by rw [hl]; omega, fun same s1 s2 s3 => ?_⟩
    have e0 : ∀ j, j < hd.length → (hd[hd.length - 1 - j]? = (r.take k)[(r.take k).length - 1 - j % (r.take k).length]? ↔ val hd r (hd.length - 1 - j) = EE hd r k (hd.length - 1 - j)) := by
      intro j hj
      have hmod : j % k < k := Nat.mod_lt _ hk
      have v1 : hd[hd.length - 1 - j]? = some (val hd r (hd.length - 1 - j)) := by
        unfold val
        rw [if_pos (by omega), List.getD_eq_getElem?_getD, List.getElem?_eq_getElem (by omega)]
        rfl
      have v2 : (r.take k)[(r.take k).length - 1 - j % (r.take k).length]? = some (EE hd r k (hd.length - 1 - j)) := by
        rw [hl, cyc_lt (by rw [hl]; omega), p.cyc]
        congr 1
        unfold EE
        have e2 : hd.length * k = hd.length * (k - 1) + hd.length := by
          conv => lhs; rw [show k = (k - 1) + 1 by omega]
          rw [Nat.mul_succ]
        have e3 := Nat.mod_add_div j k
        rw [Nat.mul_comm] at e3
        rw [← inv_mul p.inv hd.length (k - 1 - j % k), ← inv_mul p.inv (j / k + 1) (hd.length - 1 - j + hd.length * (k - 1))]
        congr 1
        rw [Nat.succ_mul]
        omega
      rw [v1, v2]
      exact ⟨fun q => Option.some.inj q, fun q => congrArg some q⟩
    have hb : hd.length - same ≤ hd.length := by omega
    have hc : ∀ i, hd.length - same ≤ i → i < hd.length → val hd r i = EE hd r k i := by
      intro i i1 i2
      have := (e0 (hd.length - 1 - i) (by omega)).mp (s2 _ (by omega))
      rwa [show hd.length - 1 - (hd.length - 1 - i) = i by omega] at this
    have hps : PlainS (val hd r) (hd.length - same) k := by
      refine plain_of p hb hc ?_
      rcases s3 with e | e
      · exact .inl (by omega)
      · by_cases z : same < hd.length
        · refine .inr fun q => e ((e0 same z).mpr ?_)
          rwa [show hd.length - 1 - same = hd.length - same - 1 by omega]
        · exact .inl (by omega)
    refine ⟨_, rfl, r.take k, rfl, le_line (by rw [hl]; omega), _, rfl, _, rfl, r.take k, rfl, le_line (by rw [hl]; omega), _, _, rfl, rfl, (by show (0 : Int) < ((r.take k).length : Int); rw [hl]; omega), _, _, rfl, rfl, ?_⟩
    have t1 : ((hd.length : Int) - (same : Int)) = ((hd.length - same : Nat) : Int) := by omega
    have t2 : (((r.take k).length : Int) - (same : Int) % ((r.take k).length : Int)) = ((k - same % k : Nat) : Int) := by
      rw [hl]
      have := Nat.mod_lt same (show 0 < k by omega)
      omega
    refine ⟨_, rfl, _, rfl, hd, rfl, le_line (by omega), _, rfl, _, _, rfl, rfl, ((hd.length - same : Nat) : Int), congrArg V.int t1, hd, rfl, le_line (by omega), ?_⟩
    refine ⟨_, rfl, _, rfl, ((k - same % k : Nat) : Int), congrArg V.int t2, r.take k, rfl, le_line (by rw [hl]; omega), _, rfl, _, rfl, ((k - same % k : Nat) : Int), congrArg V.int t2, r.take k, rfl, le_line (by rw [hl]; omega), _, _, rfl, rfl, ?_, ?_⟩
    · rw [cut_lo, cut_hi]
      simp only [List.length_drop, List.length_take]
      exact le_line (by omega)
    refine ⟨(by show 2 ≤ sizeLine; decide), fun u hu => ?_⟩
    refine kk _ k hps _ u (Same.new hu) ?_
    have e5 := turn_L p hb hc
    rw [show hd.length - (hd.length - same) = same by omega] at e5
    show L2.upd _ _ _ _ = _
    rw [upd_same, cut_hi, cut_lo, cut_hi, e5, head_L hb]
    rfl
theorem ok_sign_at {f : Addr} {fd : FuncData} (F : Fun K "sign_at" "sign_at" s_sign_at f fd) (B : Blt mg) : FnOk P w K mg base CX0 1 f fd ["moment", "place"] spSignAt := by
  have sc := sc_sign_at
  refine F.ok sc (fun vs H Q E h => ?_) (fun cdv A outer s H vs Q E hr h => ?_)
  · obtain ⟨t, hd, r, n, rfl, _⟩ := h
    rfl
  · obtain ⟨t, hd, r, n, rfl, g, m, k⟩ := h
    refine ⟨_, (pss_cons (ps_asg (pv 0) (pg_tup (by rfl) (pgs_cons (pg_name (i := 2) sc.nd rfl (by first | exact Or.inl rfl | exact Or.inr rfl)) (pgs_cons (pg_name (i := 3) sc.nd rfl (by first | exact Or.inl rfl | exact Or.inr rfl)) pgs_nil))))
    (pss_cons (ps_if (pt_cmpR op_lt (pv 1) (pe_callB call_lenT (by rfl) B.len PySem.boot_len (pa_cons (pv 2) pa_nil)) (nomark _)) (pss_one (ps_ret (pe_ix ix_T (pv 2) (pv 1) (fun _ _ => rfl)))) pss_nil)
    (pss_one (ps_ret (pe_ix ix_T (pv 3) (pe_op op_mod (pe_op op_sub (pv 1) (pe_callB call_lenT (by rfl) B.len PySem.boot_len (pa_cons (pv 2) pa_nil))) (pe_callB call_lenT (by rfl) B.len PySem.boot_len (pa_cons (pv 3) pa_nil))) (fun _ _ => rfl)))))), ?_⟩
    have a1 := m.lh
    have a2 := m.l1
    have a3 := m.lr
    refine ⟨_, rfl, t, _, rfl, g.tup, rfl, _, _, rfl, _, _, rfl, rfl, ?_⟩
    refine ⟨_, rfl, _, rfl, hd, rfl, le_line (by omega), _, _, rfl, rfl, _, rfl, ?_⟩
    refine ite2 (fun c1 => ?_) (fun c1 => ?_)
    · have c2 : n < hd.length := by have := of_decide_eq_true c1; omega
      refine ⟨_, rfl, _, rfl, hd, _, val hd r n, rfl, rfl, le_line (by omega), atI_of ?_, k⟩
      unfold val
      rw [if_pos c2, List.getD_eq_getElem?_getD, List.getElem?_eq_getElem c2]
      rfl
    · have c2 : ¬ n < hd.length := fun q => c1 (decide_eq_true (by omega))
      have e1 : ((n : Int) - (hd.length : Int)) % (r.length : Int) = (((n - hd.length) % r.length : Nat) : Int) := by
        rw [show (n : Int) - (hd.length : Int) = ((n - hd.length : Nat) : Int) by omega]
        rfl
      refine ⟨_, rfl, _, rfl, _, rfl, hd, rfl, le_line (by omega), _, _, rfl, rfl, _, rfl, r, rfl, le_line (by omega), _, _, rfl, rfl, (by show (0 : Int) < (r.length : Int); omega), r, (((n - hd.length) % r.length : Nat) : Int), val hd r n, rfl, congrArg V.int e1, le_line (by omega), atI_of ?_, k⟩
      unfold val
      rw [if_neg c2]
      exact cyc_get a2 _
theorem ok_check_at_least {f : Addr} {fd : FuncData} (F : Fun K "check_at_least" "check_at_least" s_check_at_least f fd) : FnOk P w K mg base CX0 1 f fd ["number", "least"] spAtLeast := by
  have sc := sc_check_at_least
  refine F.ok sc (fun vs H Q E h => ?_) (fun cdv A outer s H vs Q E hr h => ?_)
  · obtain ⟨a, b, rfl, _⟩ := h
    rfl
  · obtain ⟨a, b, rfl, hab, k⟩ := h
    refine ⟨_, (pss_one (ps_if (pt_cmpR op_lt (pv 0) (pv 1) (nomark _)) (pss_one ps_never) pss_nil)), ?_⟩
    refine ⟨_, rfl, _, rfl, _, _, rfl, rfl, _, rfl, ?_⟩
    rw [decide_eq_false (by omega : ¬ (a < b))]
    exact iteF k
theorem ok_check_places {f : Addr} {fd : FuncData} (F : Fun K "check_places" "check_places" s_check_places f fd) (h_check_at_least : Has P w K mg base "check_at_least" 1 ["number", "least"] spAtLeast) : FnOk P w K mg base CX0 2 f fd ["low", "high"] spPlaces := by
  have sc := sc_check_places
  obtain ⟨f_check_at_least, fd_check_at_least, mg_check_at_least, kp_check_at_least, b_check_at_least, G_check_at_least⟩ := h_check_at_least
  refine F.ok sc (fun vs H Q E h => ?_) (fun cdv A outer s H vs Q E hr h => ?_)
  · obtain ⟨a, b, rfl, _⟩ := h
    rfl
  · obtain ⟨a, b, rfl, h1, h2, k⟩ := h
    refine ⟨_, (pss_cons (ps_expr (pe_call G_check_at_least (hr.mono (by decide)) (by rfl) mg_check_at_least kp_check_at_least b_check_at_least .nil pass0 (pa_cons (pv 0) (pa_cons pe_int pa_nil))))
    (pss_one (ps_expr (pe_call G_check_at_least (hr.mono (by decide)) (by rfl) mg_check_at_least kp_check_at_least b_check_at_least .nil pass0 (pa_cons (pv 1) (pa_cons (pv 0) pa_nil)))))), ?_⟩
    exact ⟨_, rfl, _, _, rfl, h1, _, rfl, _, rfl, _, _, rfl, h2, k⟩
theorem ok_signs_between {f : Addr} {fd : FuncData} (F : Fun K "signs_between" "signs_between" s_signs_between f fd) (B : Blt mg) (h_sign_at : Has P w K mg base "sign_at" 1 ["moment", "place"] spSignAt) :
    FnOk P w K mg base CX0 2 f fd ["moment", "low", "high"] spLetters := by
  have sc := sc_signs_between
  obtain ⟨f_sign_at, fd_sign_at, mg_sign_at, kp_sign_at, b_sign_at, G_sign_at⟩ := h_sign_at
  refine F.ok sc (fun vs H Q E h => ?_) (fun cdv A outer s H vs Q E hr h => ?_)
  · obtain ⟨t, hd, r, lo, n, rfl, _⟩ := h
    rfl
  · obtain ⟨t, hd, r, lo, n, rfl, g, m, hn, k⟩ := h
    refine ⟨_, (pss_one (ps_ret (pe_bm PySem.F.plainAttrs_str PySem.F.slot_str_join PySem.F.type_str_join mt_joinT (pe_strT [] (by decide +kernel)) (pa_cons (pe_lc (own := [("place", 3)]) (g := gName 3) (by rfl) sc.nd (pi_rangeL (by rfl) B.range (pa_cons (pv 1) (pa_cons (pv 2) pa_nil))) (blkOk_by (own := [("place", 3)]) (N := N_signs_between) (sc := defScope s_signs_between) (by decide +kernel)) (fun _ _ _ _ _ => pg_name (i := 3) sc.nd rfl (by first | exact Or.inl rfl | exact Or.inr rfl)) (fun _ _ _ _ _ => pts_nil) (fun _ _ _ _ _ => (pe_call G_sign_at (hr.mono (by decide)) (by rfl) mg_sign_at kp_sign_at b_sign_at .nil pass0 (pa_cons (pv 0) (pa_cons (pv 3) pa_nil))))) pa_nil)))), ?_⟩
    refine ⟨rfl, ?_⟩
    refine ⟨_, rfl, _, rfl, (lo : Int), ((lo + n : Nat) : Int), rfl, fun D hD => ?_⟩
    have hcount : (((lo + n : Nat) : Int) - (lo : Int)).toNat = n := by omega
    rw [hcount]
    refine lc_range (lo := (lo : Int)) (n := n) (fun i H' => Same H H' ∧ H' D = some (.lst ((L i fun j => val hd r (lo + j)).map fun c => V.str (T [c])))) ?_ ?_ ?_
    · exact ⟨Same.new hD, upd_same⟩
    · rintro i H' hi ⟨sm, hy⟩
      refine ⟨rfl, ?_⟩
      refine tYes_if ?_
      refine ⟨_, rfl, _, rfl, t, hd, r, lo + i, by rw [show ((lo : Int) + (i : Int)) = ((lo + i : Nat) : Int) by omega]; rfl, g.same sm, m, _, hy, ?_, ?_, ?_⟩
      · rw [List.length_map, L_len]
        exact small1000 (by omega)
      · intro b o hb
        rw [upd_ne (ne_of_none hb hD)]
        exact sm _ _ hb
      · rw [upd_same]
        have : (L (i + 1) fun j => val hd r (lo + j)) = (L i fun j => val hd r (lo + j)) ++ [val hd r (lo + i)] := by
          unfold L
          rw [List.range_succ, List.map_append]
          rfl
        rw [this, List.map_append]
        rfl
    · rintro H' ⟨sm, hy⟩
      have e1 : ((L n fun j => val hd r (lo + j)).map fun c => V.str (T [c])) = ((L n fun j => val hd r (lo + j)).map fun c => [c]).map fun y => V.str (T y) := by
        rw [List.map_map]
        rfl
      have e2 : ∀ l : List Nat, (l.map fun c => [c]).flatten = l := by
        intro l
        induction l with
        | nil => rfl
        | cons a l ih => rw [List.map_cons, List.flatten_cons, ih]; rfl
      refine ⟨D, (L n fun j => val hd r (lo + j)).map fun c => [c], rfl, rfl, SqL.of (by rw [hy, e1]), by rw [e2, L_len]; omega, ?_⟩
      rw [e2]
      exact k _ sm
theorem ok_letters {f : Addr} {fd : FuncData} (F : Fun K "letters" "letters" s_letters f fd) (h_check_moment : Has P w K mg base "check_moment" 2 ["moment"] spCheckMoment) (h_check_places : Has P w K mg base "check_places" 2 ["low", "high"] spPlaces) (h_signs_between : Has P w K mg base "signs_between" 2 ["moment", "low", "high"] spLetters) :
    FnOk P w K mg base CX0 3 f fd ["moment", "low", "high"] spLetters := by
  have sc := sc_letters
  obtain ⟨f_check_moment, fd_check_moment, mg_check_moment, kp_check_moment, b_check_moment, G_check_moment⟩ := h_check_moment
  obtain ⟨f_check_places, fd_check_places, mg_check_places, kp_check_places, b_check_places, G_check_places⟩ := h_check_places
  obtain ⟨f_signs_between, fd_signs_between, mg_signs_between, kp_signs_between, b_signs_between, G_signs_between⟩ := h_signs_between
  refine F.ok sc (fun vs H Q E h => ?_) (fun cdv A outer s H vs Q E hr h => ?_)
  · obtain ⟨t, hd, r, lo, n, rfl, _⟩ := h
    rfl
  · obtain ⟨t, hd, r, lo, n, rfl, g, m, hn, k⟩ := h
    refine ⟨_, (pss_cons (ps_expr (pe_call G_check_moment (hr.mono (by decide)) (by rfl) mg_check_moment kp_check_moment b_check_moment .nil pass0 (pa_cons (pv 0) pa_nil)))
    (pss_cons (ps_expr (pe_call G_check_places (hr.mono (by decide)) (by rfl) mg_check_places kp_check_places b_check_places .nil pass0 (pa_cons (pv 1) (pa_cons (pv 2) pa_nil))))
    (pss_one (ps_ret (pe_call G_signs_between (hr.mono (by decide)) (by rfl) mg_signs_between kp_signs_between b_signs_between .nil pass0 (pa_cons (pv 0) (pa_cons (pv 1) (pa_cons (pv 2) pa_nil)))))))), ?_⟩
    refine ⟨_, rfl, t, hd, r, rfl, g, m, ?_⟩
    refine ⟨_, rfl, _, rfl, (lo : Int), ((lo + n : Nat) : Int), rfl, by omega, by omega, ?_⟩
    exact ⟨_, rfl, _, rfl, _, rfl, t, hd, r, lo, n, rfl, g, m, hn, k⟩
end
end HC

namespace HC
open PySem PySem.Spec PyProof.Rows L2
abbrev s__law_plain : Stmt := top 22
abbrev N__law_plain : List Str := ["head", "ring", "many", "text_here", "size", "begin", "some"]
theorem sc__law_plain : FnScope N__law_plain ["head", "ring"] (defScope s__law_plain) := ⟨rfl, rfl, rfl, by decide +kernel, rfl, by decide +kernel, by decide +kernel⟩

def spLawPlain : Sp := fun vs H Q _ => ∃ (h r : List Nat), vs = [.str (T h), .str (T r)] ∧ h.length ≤ 60 ∧ 1 ≤ r.length ∧ r.length ≤ 12 ∧
  ∀ b k, PlainS (val h r) b k → ∀ H' u, Same H H' → MomAt H' u (pH (val h r) b) (pR (val h r) b k) → Q (.ref u) H'
section
variable {P : Program} {w : World} {K : PySem.W.Frag} {mg : Str → Option Value} {base : Heap}
theorem ok__law_plain {f : Addr} {fd : FuncData} (F : Fun K "_law_plain" "_law_plain" s__law_plain f fd) (B : Blt mg) (h__law_signs : Has P w K mg base "_law_signs" 1 ["head", "ring", "size"] spSigns) : FnOk P w K mg base CX0 2 f fd ["head", "ring"] spLawPlain := by
  have sc := sc__law_plain
  obtain ⟨f__law_signs, fd__law_signs, mg__law_signs, kp__law_signs, b__law_signs, G__law_signs⟩ := h__law_signs
  refine F.ok sc (fun vs H Q E h => ?_) (fun cdv A outer s H vs Q E hr h => ?_)
  · obtain ⟨hd, r, rfl, _⟩ := h
    rfl
  · obtain ⟨hd, r, rfl, h1, h2, h3, kk⟩ := h
    refine ⟨_, (pss_cons (ps_set (i := 2) sc.nd rfl (by first | exact Or.inl rfl | exact Or.inr rfl) (pe_op op_add (pe_op op_add (pe_callB call_lenT (by rfl) B.len PySem.boot_len (pa_cons (pv 0) pa_nil)) (pe_op op_mulW pe_int (pe_callB call_lenT (by rfl) B.len PySem.boot_len (pa_cons (pv 1) pa_nil)))) pe_int))
    (pss_cons (ps_set (i := 3) sc.nd rfl (by first | exact Or.inl rfl | exact Or.inr rfl) (pe_call G__law_signs (hr.mono (by decide)) (by rfl) mg__law_signs kp__law_signs b__law_signs .nil pass0 (pa_cons (pv 0) (pa_cons (pv 1) (pa_cons (pe_op op_add (pv 2) (pe_callB call_lenT (by rfl) B.len PySem.boot_len (pa_cons (pv 1) pa_nil))) pa_nil)))))
    (pss_cons (ps_for PassesOwn.never rfl (pi_rangeL (by rfl) B.range (pa_cons pe_int (pa_cons (pe_op op_add (pe_callB call_lenT (by rfl) B.len PySem.boot_len (pa_cons (pv 1) pa_nil)) pe_int) pa_nil))) (pg_name (i := 4) sc.nd rfl (by first | exact Or.inl rfl | exact Or.inr rfl))
      (pss_one (ps_for PassesOwn.never rfl (pi_range1 (by rfl) B.range (pa_cons (pe_op op_add (pe_callB call_lenT (by rfl) B.len PySem.boot_len (pa_cons (pv 0) pa_nil)) pe_int) pa_nil)) (pg_name (i := 5) sc.nd rfl (by first | exact Or.inl rfl | exact Or.inr rfl))
      (pss_cons (ps_set (i := 6) sc.nd rfl (by first | exact Or.inl rfl | exact Or.inr rfl) (pe_tup (pa_cons (pe_slice sl_T (pv 3) po_none (po_some (pv 5))) (pa_cons (pe_slice sl_T (pv 3) (po_some (pv 5)) (po_some (pe_op op_add (pv 5) (pv 4)))) pa_nil))))
    (pss_one (ps_if (pt_cmpR op_eqT (pe_call G__law_signs (hr.mono (by decide)) (by rfl) mg__law_signs kp__law_signs b__law_signs .nil pass0 (pa_cons (pe_ix ix_tup (pv 6) pe_int (fun _ _ => rfl)) (pa_cons (pe_ix ix_tup (pv 6) pe_int (fun _ _ => rfl)) (pa_cons (pv 2) pa_nil)))) (pe_slice sl_T (pv 3) po_none (po_some (pv 2))) (nomark _)) (pss_one (ps_ret (pv 6))) pss_nil))))))
    (pss_one (ps_ret (pe_tup (pa_cons (pv 0) (pa_cons (pv 1) pa_nil)))))))), ?_⟩
    obtain ⟨k0, p0⟩ := per_exists h2
    obtain ⟨b0, hb0, q0⟩ := plain_exists (h := hd) p0
    have k1 := kk b0 k0 q0
    have hk0 := p0.le
    have hk1 := p0.pos
    refine ⟨_, rfl, hd, rfl, le_line (by omega), _, rfl, r, rfl, le_line (by omega), _, _, rfl, rfl, wide_mul (a := 4) (b := 10) (by decide) (by omega) (by decide) (by decide) (by decide), _, _, rfl, rfl, _, _, rfl, rfl, ?_⟩
    have emany : ((hd.length : Int) + 3 * (r.length : Int)) + 3 = ((hd.length + 3 * r.length + 3 : Nat) : Int) := by omega
    generalize hmany : hd.length + 3 * r.length + 3 = many at emany
    refine ⟨_, rfl, _, rfl, _, rfl, _, rfl, r, rfl, le_line (by omega), _, _, rfl, rfl, hd, r, many + r.length, ?_, by omega, h2, by omega, by omega, ?_⟩
    · show [V.str (T hd), V.str (T r), V.int (((hd.length : Int) + 3 * (r.length : Int)) + 3 + (r.length : Int))] ++ [] = _
      rw [emany]
      rfl
    rw [sg_eq h2]
    refine ⟨_, rfl, r, rfl, le_line (by omega), _, _, rfl, rfl, 1, (r.length : Int) + 1, rfl, ?_⟩
    have hcount : ((r.length : Int) + 1 - 1).toNat = r.length := by omega
    rw [hcount]
    refine for_range (lo := 1) (n := r.length) (fun i σ H' => Same H H' ∧ (∀ k b, 1 ≤ k → k < 1 + i → b ≤ hd.length → ¬ CC (val hd r) b k) ∧ ∃ v x y : Option V, σ = [some (.str (T hd)), some (.str (T r)), some (.int ((hd.length : Int) + 3 * (r.length : Int) + 3)), some (.str (T (L (many + r.length) (val hd r)))), v, x, y])
      ⟨Same.refl _, fun k b a1 a2 => by omega, _, _, _, rfl⟩ ?_ ?_
    · rintro i σ H' hi ⟨sm, no, v, x, y, rfl⟩
      have esz : (1 : Int) + (i : Int) = ((1 + i : Nat) : Int) := by omega
      rw [esz]
      refine ⟨_, rfl, hd, rfl, le_line (by omega), _, _, rfl, rfl, (hd.length : Int) + 1, rfl, by omega, by omega, ?_⟩
      have hc2 : ((hd.length : Int) + 1).toNat = hd.length + 1 := by omega
      rw [hc2]
      refine for_range (lo := 0) (n := hd.length + 1) (fun j σ H2 => Same H H2 ∧ (∀ b, b < j → ¬ CC (val hd r) b (1 + i)) ∧ ∃ x y : Option V, σ = [some (.str (T hd)), some (.str (T r)), some (.int ((hd.length : Int) + 3 * (r.length : Int) + 3)), some (.str (T (L (many + r.length) (val hd r)))), some (.int ((1 + i : Nat) : Int)), x, y])
        ⟨sm, fun b a => by omega, _, _, rfl⟩ ?_ ?_
      · rintro j σ H2 hj ⟨sm2, no2, x, y, rfl⟩
        have ej : (0 : Int) + (j : Int) = ((j : Nat) : Int) := by omega
        rw [ej]
        have ll : (L (many + r.length) (val hd r)).length = many + r.length := L_len _ _
        -- some
        refine ⟨_, rfl, _, rfl, ((j : Nat) : Int), rfl, _, rfl, le_line (by rw [ll]; omega), ?_⟩
        refine ⟨_, rfl, _, rfl, ((j : Nat) : Int), rfl, _, rfl, _, rfl, _, _, rfl, rfl, ((j + (1 + i) : Nat) : Int), ?_, _, rfl, le_line (by rw [ll]; omega), ?_⟩
        · exact congrArg V.int (by omega)
        refine ⟨(by show 2 ≤ sizeLine; decide), fun u hu => ?_⟩
        have g0 : MomAt (L2.upd H2 u (.tup [.str (T (cutL (L (many + r.length) (val hd r)) none (some ((j : Nat) : Int)))), .str (T (cutL (L (many + r.length) (val hd r)) (some ((j : Nat) : Int)) (some ((j + (1 + i) : Nat) : Int))))])) u (L j (val hd r)) (L (1 + i) fun m => val hd r (j + m)) := by
          show L2.upd _ _ _ _ = _
          rw [upd_same, cut_hi, cut_both, L_take (by omega), L_drop, L_take (by omega), show j + (1 + i) - j = 1 + i by omega]
        -- the test
        refine ⟨_, rfl, u, _, _, _, rfl, rfl, g0.tup, atI_of (i := 0) rfl, _, rfl, u, _, _, _, rfl, rfl, g0.tup, atI_of (i := 1) rfl, _, rfl, L j (val hd r), L (1 + i) fun m => val hd r (j + m), many, ?_, by rw [L_len]; omega, by rw [L_len]; omega, by rw [L_len]; omega, by omega, ?_⟩
        · show [_, _, V.int (((hd.length : Int) + 3 * (r.length : Int)) + 3)] ++ [] = _
          rw [emany]
          rfl
        refine ⟨_, rfl, _, rfl, (many : Int), congrArg V.int emany, _, rfl, le_line (by rw [ll]; omega), ?_⟩
        rw [cut_hi, L_take (by omega)]
        refine ⟨_, _, rfl, rfl, _, rfl, ?_⟩
        have ti := trial_iff (h := hd) (r := r) (b := j) (k := 1 + i) (many := many) h2 (by omega) (by omega) (by omega)
        refine ite2 (fun c => ?_) (fun c => ?_)
        · have c2 := ti.mp (of_decide_eq_true c)
          have e1 : k0 = 1 + i := by
            have a1 := q0.kmin j (1 + i) (by omega) c2
            refine Classical.byContradiction fun ne => no k0 b0 hk1 (by omega) hb0 q0.c
          subst e1
          have e2 : b0 = j := by
            have a1 := q0.bmin j c2
            exact Classical.byContradiction fun ne => no2 b0 (by omega) q0.c
          subst e2
          exact ⟨_, rfl, k1 _ u (sm2.trans (Same.new hu)) g0⟩
        · refine ⟨sm2.trans (Same.new hu), fun b hb => ?_, _, _, rfl⟩
          by_cases e : b = j
          · subst e
            exact fun q => c (decide_eq_true (ti.mpr q))
          · exact no2 b (by omega)
      · rintro σ H2 ⟨sm2, no2, x, y, rfl⟩
        refine ⟨sm2, fun k b a1 a2 a3 => ?_, _, _, _, rfl⟩
        by_cases e : k = 1 + i
        · subst e
          exact no2 b (by omega)
        · exact no k b a1 (by omega) a3
    · rintro σ H' ⟨sm, no, v, x, y, rfl⟩
      exact absurd q0.c (no k0 b0 hk1 (by omega) hb0)
end
end HC

namespace HC
open PySem PySem.Spec PyProof.Rows L2
abbrev s__law_right : Stmt := top 23
abbrev N__law_right : List Str := ["pool", "head", "ring", "due", "many", "times_here", "turned", "start", "end", "told", "far"]
theorem sc__law_right : FnScope N__law_right ["pool"] (defScope s__law_right) := ⟨rfl, rfl, rfl, by decide +kernel, rfl, by decide +kernel, by decide +kernel⟩

abbrev s_law : Stmt := top 24
abbrev N_law : List Str := ["script", "at", "pool", "turn"]
theorem sc_law : FnScope N_law ["script"] (defScope s_law) := ⟨rfl, rfl, rfl, by decide +kernel, rfl, by decide +kernel, by decide +kernel⟩

def m28 : Nat := 10 ^ 28
theorem m28_pos : 0 < m28 := by decide +kernel
theorem m28_lt : m28 < 2 ^ 200 := by decide +kernel
theorem m28_lt2 : m28 ≤ 2 ^ 110 := by decide +kernel
theorem e28 : (10 : Int) ^ (28 : Int).toNat = ((m28 : Nat) : Int) := by decide +kernel
def m30 : Nat := 10 ^ 30 - 400
theorem m30_lt : m30 < 2 ^ 110 := by decide +kernel
theorem e30 : (10 : Int) ^ (30 : Int).toNat - 400 = ((m30 : Nat) : Int) := by decide +kernel
theorem cyc_rep {x : List Nat} {t : Nat} (hx : 1 ≤ x.length) (ht : 1 ≤ t) (i : Nat) : cyc (rep t x) i = cyc x i := by
  have hl : (rep t x).length = t * x.length := rep_len t x
  have h1 : 1 ≤ t * x.length := Nat.mul_pos ht hx
  have e := cyc_get (r := rep t x) (by omega) i
  rw [hl, rep_get (Nat.mod_lt _ h1)] at e
  rw [← Option.some.inj e]
  unfold cyc
  rw [Nat.mod_mul_left_mod]
/-- the same sequence, written longer -/
theorem val_longer {h r : List Nat} {m t : Nat} (hr : 1 ≤ r.length) (hm : m ≤ 8) (ht : 1 ≤ t) :
    val (h ++ (rep 12 r).take m) (rep t (((rep 12 r).drop m).take r.length)) = val h r := by
  have l12 : (rep 12 r).length = 12 * r.length := rep_len 12 r
  have lt : (((rep 12 r).drop m).take r.length).length = r.length := by rw [List.length_take, List.length_drop, l12]; omega
  have ct : ∀ i, cyc (((rep 12 r).drop m).take r.length) i = cyc r (i + m) := by
    intro i
    have e := cyc_get (r := ((rep 12 r).drop m).take r.length) (by omega) i
    have hi : i % r.length < r.length := Nat.mod_lt _ hr
    rw [lt, List.getElem?_take_of_lt hi, List.getElem?_drop, rep_get (by omega)] at e
    rw [← Option.some.inj e]
    conv => rhs; rw [← Nat.mod_add_div i r.length, Nat.mul_comm, show i % r.length + i / r.length * r.length + m = m + i % r.length + i / r.length * r.length by omega, cyc_mul]
  have lh : (h ++ (rep 12 r).take m).length = h.length + m := by rw [List.length_append, List.length_take, l12]; omega
  funext i
  unfold val
  rw [lh]
  by_cases c1 : i < h.length
  · rw [if_pos c1, if_pos (by omega), List.getD_eq_getElem?_getD, List.getElem?_append_left c1, List.getD_eq_getElem?_getD]
  · rw [if_neg c1]
    by_cases c2 : i < h.length + m
    · rw [if_pos c2, List.getD_eq_getElem?_getD, List.getElem?_append_right (by omega), List.getElem?_take_of_lt (by omega), rep_get (by omega)]
      rfl
    · rw [if_neg c2, cyc_rep (by omega) ht, ct]
      congr 1
      omega
theorem Bin.longer {r : List Nat} (h : Bin r) (m t n : Nat) : Bin (HC.rep t (((HC.rep 12 r).drop m).take n)) := Bin.rep (Bin.take (Bin.drop (h.rep 12) m) n) t
def spRight : Sp := fun vs H Q _ => ∃ (p : Addr) (n : Nat), vs = [.ref p] ∧ PoolAt H p n ∧ n + 2000 < 2 ^ 30 ∧ ∀ H', SB p H H' → PoolAt H' p (n + 2000) → Q (.bl true) H'
def spLaw (K : PySem.W.Frag) : Sp := fun vs H Q _ => ∃ (a : Addr) (ns : List Int), vs = [.ref a] ∧ SqL K H a (ns.map V.int) ∧ ns.length ≤ 63 ∧ ∀ H', Q (.bl true) H'
theorem Mom.of {h r : List Nat} (bh : Bin h) (br : Bin r) (lh : h.length ≤ 60) (l1 : 1 ≤ r.length) (lr : r.length ≤ 12) : Mom h r := ⟨bh, br, by omega, l1, by omega⟩
theorem MomAt.dp {K : PySem.W.Frag} {H : Hp} {t : Addr} {h r : List Nat} (m : MomAt H t h r) : Dp K H (.ref t) (.tuple [.str (T h), .str (T r)]) := .tup (SqT.of m) (.cons (.str _) (.cons (.str _) .nil))
theorem pick2 {a b r : Nat} (h : r < 2) : ∃ m : Nat, ([V.int (a : Int), V.int (b : Int)])[r]? = some (.int (m : Int)) ∧ (m = a ∨ m = b) := by
  match r, h with
  | 0, _ => exact ⟨a, rfl, .inl rfl⟩
  | 1, _ => exact ⟨b, rfl, .inr rfl⟩
section
variable {P : Program} {w : World} {K : PySem.W.Frag} {mg : Str → Option Value} {base : Heap}
theorem ok__law_right {f : Addr} {fd : FuncData} (F : Fun K "_law_right" "_law_right" s__law_right f fd) (B : Blt mg) (h__law_draw : Has P w K mg base "_law_draw" 1 ["pool", "many"] spDraw) (h__law_moment : Has P w K mg base "_law_moment" 3 ["pool"] spMoment)
    (h__law_signs : Has P w K mg base "_law_signs" 1 ["head", "ring", "size"] spSigns) (h__law_plain : Has P w K mg base "_law_plain" 2 ["head", "ring"] spLawPlain)
    (h_plain : HasG ["moment"] @oneG P w K mg base "plain" 3 ["moment"] spPlain) (h_letters : HasG ["high", "low", "moment"] @revG P w K mg base "letters" 3 ["moment", "low", "high"] spLetters) : FnOk P w K mg base CX0 4 f fd ["pool"] spRight := by
  have sc := sc__law_right
  obtain ⟨f__law_draw, fd__law_draw, mg__law_draw, kp__law_draw, b__law_draw, G__law_draw⟩ := h__law_draw
  obtain ⟨f__law_moment, fd__law_moment, mg__law_moment, kp__law_moment, b__law_moment, G__law_moment⟩ := h__law_moment
  obtain ⟨f__law_signs, fd__law_signs, mg__law_signs, kp__law_signs, b__law_signs, G__law_signs⟩ := h__law_signs
  obtain ⟨f__law_plain, fd__law_plain, mg__law_plain, kp__law_plain, b__law_plain, G__law_plain⟩ := h__law_plain
  obtain ⟨f_plain, fd_plain, mg_plain, kp_plain, b_plain, KB_plain_moment, G_plain⟩ := h_plain
  obtain ⟨f_letters, fd_letters, mg_letters, kp_letters, b_letters, KB_letters_high_low_moment, G_letters⟩ := h_letters
  refine F.ok sc (fun vs H Q E h => ?_) (fun cdv A outer s H vs Q E hr h => ?_)
  · obtain ⟨p, n, rfl, _⟩ := h
    rfl
  · obtain ⟨p, n, rfl, hp, hn, kk⟩ := h
    refine ⟨_, (pss_cons (ps_asg (pe_call G__law_moment (hr.mono (by decide)) (by rfl) mg__law_moment kp__law_moment b__law_moment .nil pass0 (pa_cons (pv 0) pa_nil)) (pg_tup (by rfl) (pgs_cons (pg_name (i := 1) sc.nd rfl (by first | exact Or.inl rfl | exact Or.inr rfl)) (pgs_cons (pg_name (i := 2) sc.nd rfl (by first | exact Or.inl rfl | exact Or.inr rfl)) pgs_nil))))
    (pss_cons (ps_set (i := 3) sc.nd rfl (by first | exact Or.inl rfl | exact Or.inr rfl) (pe_call G__law_plain (hr.mono (by decide)) (by rfl) mg__law_plain kp__law_plain b__law_plain .nil pass0 (pa_cons (pv 1) (pa_cons (pv 2) pa_nil))))
    (pss_cons (ps_if (pt_cmpR (op_neD hr.units) (pe_lst (pa_cons (pe_call G_plain (hr.mono (by decide)) (by rfl) mg_plain kp_plain b_plain .nil pass0 (pa_cons (pe_tup (pa_cons (pv 1) (pa_cons (pv 2) pa_nil))) pa_nil)) (pa_cons (pe_callK0 G_plain (hr.mono (by decide)) (by rfl) mg_plain kp_plain KB_plain_moment pass0 (pk_cons (pe_tup (pa_cons (pv 1) (pa_cons (pv 2) pa_nil))) pk_nil)) pa_nil))) (pe_lst (pa_cons (pv 3) (pa_cons (pv 3) pa_nil))) (nomark _)) (pss_one (ps_ret pe_bl)) pss_nil)
    (pss_cons (ps_par (i := 4) (j := 5) (by rfl) sc.nd rfl rfl (by decide) rfl rfl (pa_cons (pe_call G__law_draw (hr.mono (by decide)) (by rfl) mg__law_draw kp__law_draw b__law_draw .nil pass0 (pa_cons (pv 0) (pa_cons (pe_callB (call_min2 rfl) (by rfl) B.min (by decide +kernel) (pa_cons pe_int (pa_cons (pe_op op_sub pe_int (pe_callB call_lenT (by rfl) B.len PySem.boot_len (pa_cons (pv 1) pa_nil))) pa_nil))) pa_nil))) (pa_cons (pe_op op_add pe_int (pe_call G__law_draw (hr.mono (by decide)) (by rfl) mg__law_draw kp__law_draw b__law_draw .nil pass0 (pa_cons (pv 0) (pa_cons (pe_op op_fdivW pe_int (pe_callB call_lenT (by rfl) B.len PySem.boot_len (pa_cons (pv 2) pa_nil))) pa_nil)))) pa_nil)) (by rfl))
    (pss_cons (ps_set (i := 6) sc.nd rfl (by first | exact Or.inl rfl | exact Or.inr rfl) (pe_slice sl_T (pe_op op_mulT (pv 2) pe_int) (po_some (pv 4)) (po_some (pe_op op_add (pv 4) (pe_callB call_lenT (by rfl) B.len PySem.boot_len (pa_cons (pv 2) pa_nil))))))
    (pss_cons (ps_if (pt_cmpR (op_neD hr.units) (pe_call G_plain (hr.mono (by decide)) (by rfl) mg_plain kp_plain b_plain .nil pass0 (pa_cons (pe_tup (pa_cons (pe_op op_addT (pv 1) (pe_slice sl_T (pe_op op_mulT (pv 2) pe_int) po_none (po_some (pv 4)))) (pa_cons (pe_op op_mulT (pv 6) (pv 5)) pa_nil))) pa_nil)) (pv 3) (nomark _)) (pss_one (ps_ret pe_bl)) pss_nil)
    (pss_cons (ps_set (i := 7) sc.nd rfl (by first | exact Or.inl rfl | exact Or.inr rfl) (pe_call G__law_draw (hr.mono (by decide)) (by rfl) mg__law_draw kp__law_draw b__law_draw .nil pass0 (pa_cons (pv 0) (pa_cons pe_int pa_nil))))
    (pss_cons (ps_set (i := 8) sc.nd rfl (by first | exact Or.inl rfl | exact Or.inr rfl) (pe_op op_add (pv 7) (pe_call G__law_draw (hr.mono (by decide)) (by rfl) mg__law_draw kp__law_draw b__law_draw .nil pass0 (pa_cons (pv 0) (pa_cons (pe_ix ix_list (pe_lst (pa_cons pe_int (pa_cons pe_int pa_nil))) (pe_call G__law_draw (hr.mono (by decide)) (by rfl) mg__law_draw kp__law_draw b__law_draw .nil pass0 (pa_cons (pv 0) (pa_cons pe_int pa_nil))) (fun _ _ => rfl)) pa_nil)))))
    (pss_cons (ps_set (i := 9) sc.nd rfl (by first | exact Or.inl rfl | exact Or.inr rfl) (pe_lst (pa_cons (pe_call G_letters (hr.mono (by decide)) (by rfl) mg_letters kp_letters b_letters .nil pass0 (pa_cons (pe_tup (pa_cons (pv 1) (pa_cons (pv 2) pa_nil))) (pa_cons (pv 7) (pa_cons (pv 8) pa_nil)))) (pa_cons (pe_callK0 G_letters (hr.mono (by decide)) (by rfl) mg_letters kp_letters KB_letters_high_low_moment pass0 (pk_cons (pv 8) (pk_cons (pv 7) (pk_cons (pe_tup (pa_cons (pv 1) (pa_cons (pv 2) pa_nil))) pk_nil)))) pa_nil))))
    (pss_cons (ps_if (pt_cmpR (op_neD hr.units) (pv 9) (pe_op op_rep (pe_lst (pa_cons (pe_slice sl_T (pe_call G__law_signs (hr.mono (by decide)) (by rfl) mg__law_signs kp__law_signs b__law_signs .nil pass0 (pa_cons (pv 1) (pa_cons (pv 2) (pa_cons (pv 8) pa_nil)))) (po_some (pv 7)) po_none) pa_nil)) pe_int) (nomark _)) (pss_one (ps_ret pe_bl)) pss_nil)
    (pss_cons (ps_set (i := 10) sc.nd rfl (by first | exact Or.inl rfl | exact Or.inr rfl) (pe_op op_add (pe_callB call_lenT (by rfl) B.len PySem.boot_len (pa_cons (pv 1) pa_nil)) (pe_op op_mulW (pe_callB call_lenT (by rfl) B.len PySem.boot_len (pa_cons (pv 2) pa_nil)) (pe_ix ix_list (pe_lst (pa_cons (pe_call G__law_draw (hr.mono (by decide)) (by rfl) mg__law_draw kp__law_draw b__law_draw .nil pass0 (pa_cons (pv 0) (pa_cons (pe_op op_powX pe_int pe_int) pa_nil))) (pa_cons (pe_op op_fdivW (pe_op op_sub (pe_op op_powX pe_int pe_int) pe_int) (pe_callB call_lenT (by rfl) B.len PySem.boot_len (pa_cons (pv 2) pa_nil))) pa_nil))) (pe_call G__law_draw (hr.mono (by decide)) (by rfl) mg__law_draw kp__law_draw b__law_draw .nil pass0 (pa_cons (pv 0) (pa_cons pe_int pa_nil))) (fun _ _ => rfl)))))
    (pss_cons (ps_if (pt_cmpR op_neT (pe_call G_letters (hr.mono (by decide)) (by rfl) mg_letters kp_letters b_letters .nil pass0 (pa_cons (pe_tup (pa_cons (pv 1) (pa_cons (pv 2) pa_nil))) (pa_cons (pe_op op_add (pv 10) (pv 7)) (pa_cons (pe_op op_add (pv 10) (pv 8)) pa_nil)))) (pe_slice sl_T (pe_call G__law_signs (hr.mono (by decide)) (by rfl) mg__law_signs kp__law_signs b__law_signs .nil pass0 (pa_cons (pe_strT [] (by decide +kernel)) (pa_cons (pv 2) (pa_cons (pv 8) pa_nil)))) (po_some (pv 7)) po_none) (nomark _)) (pss_one (ps_ret pe_bl)) pss_nil)
    (pss_one (ps_ret (pe_cmpR op_eqT (pe_call G_letters (hr.mono (by decide)) (by rfl) mg_letters kp_letters b_letters .nil pass0 (pa_cons (pe_tup (pa_cons (pv 1) (pa_cons (pv 2) pa_nil))) (pa_cons (pv 10) (pa_cons (pv 10) pa_nil)))) (pe_strT [] (by decide +kernel)) (nomark _)))))))))))))))), ?_⟩
    -- head, ring
    refine ⟨_, rfl, p, n, rfl, hp, by omega, fun H1 t hd r s1 p1 m1 bh br lh l1 lr => ⟨t, _, rfl, m1.tup, rfl, _, _, rfl, _, _, rfl, rfl, ?_⟩⟩
    have M : Mom hd r := .of bh br lh l1 lr
    have vb := val_bin bh br l1
    have o1 : ∀ b, PyData.strOk (T (pH (val hd r) b)) = true := fun b => strOk_T (L_bin vb).cod
    have o2 : ∀ b k, PyData.strOk (T (pR (val hd r) b k)) = true := fun b k => strOk_T (L_bin fun i => vb (b + i)).cod
    have o3 : ∀ e st, PyData.strOk (T (L e fun i => val hd r (st + i))) = true := fun e st => strOk_T (L_bin fun i => vb (st + i)).cod
    -- due
    refine ⟨_, rfl, _, rfl, hd, r, rfl, lh, l1, lr, fun b k q H2 u s2 m2 => ?_⟩
    -- told twice
    refine ⟨_, rfl, _, rfl, (by show 2 ≤ sizeLine; decide), fun t1 ht1 => ⟨t1, hd, r, rfl, upd_same, M, fun b2 k2 q2 H3 u1 s3 m3 => ?_⟩⟩
    obtain ⟨rfl, rfl⟩ := q.uniq q2
    refine ⟨_, rfl, _, rfl, (by show 2 ≤ sizeLine; decide), fun t2 ht2 => ⟨t2, hd, r, rfl, upd_same, M, fun b3 k3 q3 H4 u2 s4 m4 => ?_⟩⟩
    obtain ⟨rfl, rfl⟩ := q.uniq q3
    refine ⟨(by show 2 ≤ sizeLine; decide), fun la hla => ?_⟩
    refine ⟨_, rfl, _, rfl, (by show 2 ≤ sizeLine; decide), fun lb hlb => ?_⟩
    have s24 : Same H2 H4 := ((Same.new ht1).trans s3).trans ((Same.new ht2).trans s4)
    have s34 : Same H3 H4 := (Same.new ht2).trans s4
    have s5 : Same H4 (L2.upd (L2.upd H4 la (.lst [.ref u1, .ref u2])) lb (.lst [.ref u, .ref u])) := (Same.new hla).trans (Same.new hlb)
    have D1 : Dp K (L2.upd (L2.upd H4 la (.lst [.ref u1, .ref u2])) lb (.lst [.ref u, .ref u])) (.ref u1) _ := MomAt.dp (m3.same (s34.trans s5))
    have D2 : Dp K (L2.upd (L2.upd H4 la (.lst [.ref u1, .ref u2])) lb (.lst [.ref u, .ref u])) (.ref u2) _ := MomAt.dp (m4.same s5)
    have D3 : Dp K (L2.upd (L2.upd H4 la (.lst [.ref u1, .ref u2])) lb (.lst [.ref u, .ref u])) (.ref u) _ := MomAt.dp (m2.same (s24.trans s5))
    refine ⟨.list _, .list _, .lst (SqL.of (Same.new hlb _ _ upd_same)) (.cons D1 (.cons D2 .nil)), .lst (SqL.of upd_same) (.cons D3 (.cons D3 .nil)), (by simp [SeqAt.shaped, PyData.canLay0, PyData.canLayAll0, PyData.depth, PyData.depthAll, o1, o2, o3]), (by simp [SeqAt.shaped, PyData.canLay0, PyData.canLayAll0, PyData.depth, PyData.depthAll, o1, o2, o3]), _, rfl, ?_⟩
    have Ea : PyData.eqv (.list [.tuple [.str (T (pH (val hd r) b)), .str (T (pR (val hd r) b k))], .tuple [.str (T (pH (val hd r) b)), .str (T (pR (val hd r) b k))]]) (.list [.tuple [.str (T (pH (val hd r) b)), .str (T (pR (val hd r) b k))], .tuple [.str (T (pH (val hd r) b)), .str (T (pR (val hd r) b k))]]) = true := by
      simp [PyData.eqv, PyData.eqvAll]
    rw [Ea]
    refine iteF ?_
    generalize hH5 : L2.upd (L2.upd H4 la (.lst [.ref u1, .ref u2])) lb (.lst [.ref u, .ref u]) = H5 at s5 D1 D2 D3
    have p5 : PoolAt H5 p (n + 300) := p1.same ((s2.trans s24).trans s5)
    have m5 : MomAt H5 u _ _ := m2.same (s24.trans s5)
    have sb5 : SB p H H5 := s1.trans (SB.of ((s2.trans s24).trans s5))
    -- many, times
    have emin : (if (61 : Int) - (hd.length : Int) < 9 then (61 : Int) - (hd.length : Int) else 9) = ((min 9 (61 - hd.length) : Nat) : Int) := by split <;> omega
    have ediv : (12 : Int) / (r.length : Int) = ((12 / r.length : Nat) : Int) := by simp
    have dpos : 0 < 12 / r.length := Nat.div_pos lr (by omega)
    have dle : 12 / r.length * r.length ≤ 12 := Nat.div_mul_le_self _ _
    have dle2 : 12 / r.length ≤ 12 := Nat.div_le_self _ _
    refine ⟨_, rfl, _, rfl, hd, rfl, le_line (by omega), _, _, rfl, rfl, _, _, rfl, p, min 9 (61 - hd.length), n + 300, ?_, p5, by omega, by omega, by omega, fun H6 m s6 p6 hm => ?_⟩
    · show [V.ref p, V.int (if (61 : Int) - (hd.length : Int) < 9 then (61 : Int) - (hd.length : Int) else 9)] ++ [] = _
      rw [emin]
      rfl
    refine ⟨_, rfl, _, rfl, r, rfl, le_line (by omega), _, _, rfl, rfl, wide_div (b := 60) (by omega) (by omega) (by decide) (by decide), p, 12 / r.length, n + 301, ?_, p6, by omega, dpos, by omega, fun H7 tm s7 p7 htm => ?_⟩
    · show [V.ref p, V.int ((12 : Int) / (r.length : Int))] ++ [] = _
      rw [ediv]
      rfl
    refine ⟨_, _, rfl, rfl, _, _, rfl, ?_⟩
    have l12 : (rep 12 r).length = 12 * r.length := rep_len 12 r
    -- turned
    refine ⟨_, rfl, r, 12, rfl, rfl, by omega, by decide, _, rfl, (m : Int), rfl, _, rfl, _, rfl, r, rfl, le_line (by omega), _, _, rfl, rfl, ((m + r.length : Nat) : Int), rfl, _, rfl, le_line (by omega), ?_⟩
    rw [cut_both, show m + r.length - m = r.length by omega]
    -- plain of the longer one
    refine ⟨_, rfl, _, rfl, r, 12, rfl, rfl, by omega, by decide, _, rfl, (m : Int), rfl, _, rfl, le_line (by omega), ?_⟩
    rw [cut_hi]
    have lt : (((rep 12 r).drop m).take r.length).length = r.length := by rw [List.length_take, List.length_drop, l12]; omega
    have tml : (1 + tm) * r.length ≤ 12 := Nat.le_trans (Nat.mul_le_mul_right _ (by omega)) dle
    refine ⟨hd, _, rfl, rfl, le_line (by rw [List.length_take, l12]; omega), _, rfl, _, rfl, _, 1 + tm, rfl, ?_, ?_, by omega, ?_⟩
    · exact congrArg V.int (by omega)
    · rw [lt, Nat.mul_comm]; omega
    refine ⟨(by show 2 ≤ sizeLine; decide), fun t3 ht3 => ?_⟩
    have M2 : Mom (hd ++ (rep 12 r).take m) (rep (1 + tm) (((rep 12 r).drop m).take r.length)) := by
      refine ⟨bh.app ((br.rep 12).take m), br.longer m _ _, ?_, ?_, ?_⟩
      · rw [List.length_append, List.length_take, l12]; omega
      · rw [rep_len, lt]; exact Nat.mul_pos (by omega) l1
      · rw [rep_len, lt]; omega
    refine ⟨t3, _, _, rfl, upd_same, M2, fun b4 k4 q4 H8 u4 s8 m8 => ?_⟩
    rw [val_longer l1 (by omega) (by omega)] at q4 m8
    obtain ⟨rfl, rfl⟩ := q.uniq q4
    have m7 : MomAt H7 u _ _ := (m5.sb p5 s6).sb p6 s7
    have m8' : MomAt H8 u _ _ := (m7.new ht3).same s8
    refine ⟨_, rfl, _, _, m8.dp, m8'.dp, (by simp [SeqAt.shaped, PyData.canLay0, PyData.canLayAll0, PyData.depth, PyData.depthAll, o1, o2, o3]), (by simp [SeqAt.shaped, PyData.canLay0, PyData.canLayAll0, PyData.depth, PyData.depthAll, o1, o2, o3]), _, rfl, ?_⟩
    have Eb : PyData.eqv (.tuple [.str (T (pH (val hd r) b)), .str (T (pR (val hd r) b k))]) (.tuple [.str (T (pH (val hd r) b)), .str (T (pR (val hd r) b k))]) = true := by
      simp [PyData.eqv, PyData.eqvAll]
    rw [Eb]
    refine iteF ?_
    have p8 : PoolAt H8 p (n + 302) := (p7.new ht3).same s8
    have sb8 : SB p H H8 := sb5.trans (s6.trans (s7.trans ((SB.of (Same.new ht3)).trans (SB.of s8))))
    -- start, end
    refine ⟨_, rfl, p, 90, n + 302, rfl, p8, by omega, by decide, by decide, fun H9 st s9 p9 hst => ?_⟩
    refine ⟨_, rfl, _, rfl, (by show 2 ≤ sizeLine; decide), fun l2 hl2 => ⟨_, rfl, p, 2, n + 303, rfl, p9.new hl2, by omega, by decide, by decide, fun H10 z s10 p10 hz => ?_⟩⟩
    obtain ⟨top, et, ht⟩ := pick2 (a := 60) (b := 201) hz
    have sb10 : SB p H9 H10 := (SB.of (Same.new hl2)).trans s10
    refine ⟨l2, _, _, _, rfl, rfl, SqL.of (s10 _ _ upd_same (p9.ne hl2)), atI_of et, ?_⟩
    refine ⟨p, top, n + 304, rfl, p10, by omega, by omega, by omega, fun H11 e s11 p11 he => ⟨_, _, rfl, rfl, ?_⟩⟩
    -- letters
    refine ⟨_, rfl, _, rfl, (by show 2 ≤ sizeLine; decide), fun t5 ht5 => ⟨_, rfl, _, rfl, t5, hd, r, st, e, rfl, upd_same, M, by omega, fun H12 s12 => ?_⟩⟩
    refine ⟨_, rfl, _, rfl, _, rfl, _, rfl, (by show 2 ≤ sizeLine; decide), fun t6 ht6 => ⟨t6, hd, r, st, e, rfl, upd_same, M, by omega, fun H13 s13 => ?_⟩⟩
    refine ⟨(by show 2 ≤ sizeLine; decide), fun lc hlc => ?_⟩
    refine ⟨_, rfl, _, rfl, _, rfl, _, rfl, hd, r, st + e, rfl, by omega, l1, by omega, by omega, ?_⟩
    have ls : (sg hd r (st + e)).length = st + e := by rw [sg_eq l1, L_len]
    refine ⟨_, rfl, (st : Int), rfl, _, rfl, le_line (by omega), ?_⟩
    rw [cut_lo, sg_eq l1, L_drop, show st + e - st = e by omega]
    refine ⟨(by show 1 ≤ sizeLine; decide), fun ld hld => ?_⟩
    refine ⟨ld, 2, _, rfl, rfl, upd_same, by decide, by decide, (by show 2 ≤ sizeLine; decide), fun le hle => ?_⟩
    refine ⟨.list [.str (T (L e fun i => val hd r (st + i))), .str (T (L e fun i => val hd r (st + i)))], .list [.str (T (L e fun i => val hd r (st + i))), .str (T (L e fun i => val hd r (st + i)))],
      .lst (SqL.of (Same.new hle _ _ (Same.new hld _ _ upd_same))) (.cons (.str _) (.cons (.str _) .nil)), .lst (SqL.of upd_same) (.cons (.str _) (.cons (.str _) .nil)), (by simp [SeqAt.shaped, PyData.canLay0, PyData.canLayAll0, PyData.depth, PyData.depthAll, o3]), (by simp [SeqAt.shaped, PyData.canLay0, PyData.canLayAll0, PyData.depth, PyData.depthAll, o3]), _, rfl, ?_⟩
    have Ec : PyData.eqv (.list [.str (T (L e fun i => val hd r (st + i))), .str (T (L e fun i => val hd r (st + i)))]) (.list [.str (T (L e fun i => val hd r (st + i))), .str (T (L e fun i => val hd r (st + i)))]) = true := by
      simp [PyData.eqv, PyData.eqvAll]
    rw [Ec]
    refine iteF ?_
    have s14 : Same H11 (L2.upd (L2.upd (L2.upd H13 lc (.lst [.str (T (L e fun i => val hd r (st + i))), .str (T (L e fun i => val hd r (st + i)))])) ld (.lst [.str (T (L e fun i => val hd r (st + i)))])) le (.lst (List.replicate (2 : Int).toNat [V.str (T (L e fun i => val hd r (st + i)))]).flatten)) :=
      ((Same.new ht5).trans s12).trans (((Same.new ht6).trans s13).trans ((Same.new hlc).trans ((Same.new hld).trans (Same.new hle))))
    have p14 := p11.same s14
    have sb14 := sb8.trans (s9.trans (sb10.trans (s11.trans (SB.of s14))))
    -- far
    have c28 : CPowX 10 28 := ⟨by decide, 4, by decide, by decide⟩
    have n306 : n + 306 < 2 ^ 30 := by omega
    have c30 : CPowX 10 30 := ⟨by decide, 4, by decide, by decide⟩
    refine ⟨_, rfl, hd, rfl, le_line (by omega), _, rfl, r, rfl, le_line (by omega), ?_⟩
    refine ⟨_, rfl, _, _, rfl, rfl, c28, p, m28, n + 305, ?_, p14, by omega, m28_pos, m28_lt, fun H15 d s15 p15 hd1 => ?_⟩
    · show [V.ref p, V.int ((10 : Int) ^ (28 : Int).toNat)] ++ [] = _
      rw [e28]
      rfl
    refine ⟨_, _, rfl, rfl, c30, _, _, rfl, rfl, _, rfl, r, rfl, le_line (by omega), _, _, rfl, rfl, wide_div (b := 60) (by omega) (by omega) (by decide) (by decide), (by show 2 ≤ sizeLine; decide), fun l6 hl6 => ?_⟩
    refine ⟨_, rfl, p, 2, n + 306, rfl, p15.new hl6, n306, by decide, by decide, fun H16 z2 s16 p16 hz2 => ?_⟩
    have efar : ((10 : Int) ^ (30 : Int).toNat - 400) / (r.length : Int) = ((m30 / r.length : Nat) : Int) := by
      rw [e30]
      exact (Int.natCast_ediv m30 r.length).symm
    obtain ⟨y, ey, hy⟩ := pick2 (a := d) (b := m30 / r.length) hz2
    have hl16 : H16 l6 = some (.lst [.int (d : Int), .int (((10 : Int) ^ (30 : Int).toNat - 400) / (r.length : Int))]) := s16 _ _ upd_same (p15.ne hl6)
    rw [efar] at hl16
    have y1 : y < 2 ^ 110 := by
      have : m30 / r.length ≤ m30 := Nat.div_le_self _ _
      rcases hy with e | e
      · rw [e]; exact Nat.lt_of_lt_of_le hd1 m28_lt2
      · rw [e]; exact Nat.lt_of_le_of_lt this m30_lt
    clear hd1 hy efar
    refine ⟨l6, _, _, _, rfl, rfl, SqL.of hl16, atI_of ey, _, _, rfl, rfl, wide_mul (a := 10) (b := 120) (by omega) (by omega) (by decide) (by decide) (by decide), _, _, rfl, rfl, ?_⟩
    have sb16 : SB p H15 H16 := (SB.of (Same.new hl6)).trans s16
    -- far letters
    refine ⟨_, rfl, _, rfl, (by show 2 ≤ sizeLine; decide), fun t7 ht7 => ?_⟩
    refine ⟨_, rfl, _, rfl, _, _, rfl, rfl, _, rfl, _, rfl, _, _, rfl, rfl, t7, hd, r, hd.length + r.length * y + st, e, ?_, upd_same, M, by omega, fun H17 s17 => ?_⟩
    · have a1 : (hd.length : Int) + (r.length : Int) * (y : Int) + (st : Int) = ((hd.length + r.length * y + st : Nat) : Int) := by simp
      have a2 : (hd.length : Int) + (r.length : Int) * (y : Int) + ((st : Int) + (e : Int)) = ((hd.length + r.length * y + st + e : Nat) : Int) := by simp; omega
      show [V.ref t7, V.int ((hd.length : Int) + (r.length : Int) * (y : Int) + (st : Int)), V.int ((hd.length : Int) + (r.length : Int) * (y : Int) + ((st : Int) + (e : Int)))] ++ [] = _
      rw [a1, a2]
      rfl
    refine ⟨_, rfl, _, rfl, [], r, st + e, rfl, by decide, l1, by omega, by omega, ?_⟩
    have ls2 : (sg [] r (st + e)).length = st + e := by rw [sg_eq l1, L_len]
    refine ⟨_, rfl, (st : Int), rfl, _, rfl, le_line (by omega), ?_⟩
    rw [cut_lo, sg_eq l1, L_drop, show st + e - st = e by omega]
    refine ⟨_, _, rfl, rfl, _, rfl, ?_⟩
    have Ed : (L e fun i => val hd r (hd.length + r.length * y + st + i)) = (L e fun i => val [] r (st + i)) := by
      rw [L_eq]
      intro i _
      unfold val
      rw [if_neg (by omega), if_neg (by simp)]
      rw [show hd.length + r.length * y + st + i - hd.length = st + i + y * r.length by rw [Nat.mul_comm]; omega, cyc_mul]
      rfl
    rw [decide_eq_true Ed]
    refine iteF ?_
    refine ⟨_, rfl, _, rfl, (by show 2 ≤ sizeLine; decide), fun t8 ht8 => ?_⟩
    refine ⟨_, rfl, _, rfl, t8, hd, r, hd.length + r.length * y, 0, ?_, upd_same, M, by omega, fun H18 s18 => ?_⟩
    · have a1 : (hd.length : Int) + (r.length : Int) * (y : Int) = ((hd.length + r.length * y : Nat) : Int) := by simp
      show [V.ref t8, V.int ((hd.length : Int) + (r.length : Int) * (y : Int)), V.int ((hd.length : Int) + (r.length : Int) * (y : Int))] ++ [] = _
      rw [a1]
      rfl
    refine ⟨_, [], rfl, rfl, ?_⟩
    have s19 : Same H16 H18 := ((Same.new ht7).trans s17).trans ((Same.new ht8).trans s18)
    exact kk _ (sb14.trans (s15.trans (sb16.trans (SB.of s19)))) ((p16.same s19).mono (by omega))
end
end HC

namespace HC
open PySem PySem.Spec PyProof.Rows L2
theorem bit_0 : Bin [48] := fun c hc => by simp at hc; omega
theorem bit_1 : Bin [49] := fun c hc => by simp at hc; omega
theorem per_10 : Per [49, 48] 2 := ⟨by decide, by decide, (at_inv (by decide) (by decide)).mp ⟨rfl, by decide⟩, fun j h1 h2 iv => by
  obtain rfl : j = 1 := by omega
  exact absurd (iv 0) (by decide)⟩
theorem per_0 : Per [48] 1 := ⟨by decide, by decide, (at_inv (by decide) (by decide)).mp ⟨rfl, by decide⟩, fun j h1 h2 => by omega⟩
theorem per_0101 : Per [48, 49, 48, 49] 2 := ⟨by decide, by decide, (at_inv (by decide) (by decide)).mp ⟨rfl, by decide⟩, fun j h1 h2 iv => by
  obtain rfl : j = 1 := by omega
  exact absurd (iv 0) (by decide)⟩
theorem pl_a : PlainS (val [48] [49, 48]) 0 2 := plain_of per_10 (by decide) (fun i h1 h2 => by
  have h3 : i < 1 := h2
  obtain rfl : i = 0 := by omega
  decide) (.inl rfl)
theorem pl_b : PlainS (val [48, 48, 48, 48] [48]) 0 1 := plain_of per_0 (by decide) (fun i h1 h2 => by
  have h3 : i < 4 := h2
  match i, h3 with
  | 0, _ => decide
  | 1, _ => decide
  | 2, _ => decide
  | 3, _ => decide) (.inl rfl)
theorem pl_c : PlainS (val [] [48, 49, 48, 49]) 0 2 := plain_of per_0101 (by decide) (fun i h1 h2 => absurd h2 (Nat.not_lt_zero i)) (.inl rfl)
section
variable {P : Program} {w : World} {K : PySem.W.Frag} {mg : Str → Option Value} {base : Heap}
theorem ok_law {f : Addr} {fd : FuncData} (F : Fun K "law" "law" s_law f fd) (B : Blt mg) (h__law_pool : Has P w K mg base "_law_pool" 1 ["script", "at"] (spPool K)) (h__law_right : Has P w K mg base "_law_right" 4 ["pool"] spRight)
    (h_plain : HasG ["moment"] @oneG P w K mg base "plain" 3 ["moment"] spPlain) : FnOk P w K mg base CX0 5 f fd ["script"] (spLaw K) := by
  have sc := sc_law
  obtain ⟨f__law_pool, fd__law_pool, mg__law_pool, kp__law_pool, b__law_pool, G__law_pool⟩ := h__law_pool
  obtain ⟨f__law_right, fd__law_right, mg__law_right, kp__law_right, b__law_right, G__law_right⟩ := h__law_right
  obtain ⟨f_plain, fd_plain, mg_plain, kp_plain, b_plain, KB_plain_moment, G_plain⟩ := h_plain
  refine F.ok sc (fun vs H Q E h => ?_) (fun cdv A outer s H vs Q E hr h => ?_)
  · obtain ⟨a, ns, rfl, _⟩ := h
    rfl
  · obtain ⟨a, ns, rfl, hS, hl, k⟩ := h
    refine ⟨_, (pss_cons (ps_for PassesOwn.never rfl (pi_range1 (by rfl) B.range (pa_cons (pe_callB (call_max2 rfl) (by rfl) B.max (by decide +kernel) (pa_cons pe_int (pa_cons (pe_callB (call_min2 rfl) (by rfl) B.min (by decide +kernel) (pa_cons pe_int (pa_cons (pe_callB call_len_seq (by rfl) B.len PySem.boot_len (pa_cons (pv 0) pa_nil)) pa_nil))) pa_nil))) pa_nil)) (pg_name (i := 1) sc.nd rfl (by first | exact Or.inl rfl | exact Or.inr rfl))
      (pss_cons (ps_set (i := 2) sc.nd rfl (by first | exact Or.inl rfl | exact Or.inr rfl) (pe_call G__law_pool (hr.mono (by decide)) (by rfl) mg__law_pool kp__law_pool b__law_pool .nil pass0 (pa_cons (pv 0) (pa_cons (pv 1) pa_nil))))
    (pss_one (ps_for PassesOwn.never rfl (pi_range1 (by rfl) B.range (pa_cons pe_int pa_nil)) (pg_name (i := 3) sc.nd rfl (by first | exact Or.inl rfl | exact Or.inr rfl))
      (pss_one (ps_if (pt_not (pt_val (pe_call G__law_right (hr.mono (by decide)) (by rfl) mg__law_right kp__law_right b__law_right .nil pass0 (pa_cons (pv 2) pa_nil)))) (pss_one (ps_ret pe_bl)) pss_nil))))))
    (pss_one (ps_ret (pe_cmpR (op_eqD hr.units) (pe_lst (pa_cons (pe_call G_plain (hr.mono (by decide)) (by rfl) mg_plain kp_plain b_plain .nil pass0 (pa_cons (pe_tup (pa_cons (pe_strT [48] (by decide +kernel)) (pa_cons (pe_strT [49, 48] (by decide +kernel)) pa_nil))) pa_nil)) (pa_cons (pe_call G_plain (hr.mono (by decide)) (by rfl) mg_plain kp_plain b_plain .nil pass0 (pa_cons (pe_tup (pa_cons (pe_strT [48, 48, 48, 48] (by decide +kernel)) (pa_cons (pe_strT [48] (by decide +kernel)) pa_nil))) pa_nil)) (pa_cons (pe_call G_plain (hr.mono (by decide)) (by rfl) mg_plain kp_plain b_plain .nil pass0 (pa_cons (pe_tup (pa_cons (pe_strT [] (by decide +kernel)) (pa_cons (pe_strT [48, 49, 48, 49] (by decide +kernel)) pa_nil))) pa_nil)) pa_nil)))) (pe_lst (pa_cons (pe_tup (pa_cons (pe_strT [] (by decide +kernel)) (pa_cons (pe_strT [48, 49] (by decide +kernel)) pa_nil))) (pa_cons (pe_tup (pa_cons (pe_strT [] (by decide +kernel)) (pa_cons (pe_strT [48] (by decide +kernel)) pa_nil))) (pa_cons (pe_tup (pa_cons (pe_strT [] (by decide +kernel)) (pa_cons (pe_strT [48, 49] (by decide +kernel)) pa_nil))) pa_nil)))) (nomark _))))), ?_⟩
    refine ⟨_, rfl, a, _, rfl, .inl hS, _, _, rfl, _, _, rfl, ?_⟩
    have hlen : ((ns.map V.int).length : Int) ≤ 63 := by rw [List.length_map]; omega
    refine ⟨_, rfl, ?_, ?_, ?_⟩
    · split <;> (try split) <;> omega
    · split <;> (try split) <;> omega
    generalize hmany : (if (if ((ns.map V.int).length : Int) < 10 then ((ns.map V.int).length : Int) else 10) > 1 then (if ((ns.map V.int).length : Int) < 10 then ((ns.map V.int).length : Int) else 10) else 1) = many
    have hmany2 : many ≤ 10 := by
      rw [← hmany]
      split <;> (try split) <;> omega
    refine for_range (lo := 0) (n := many.toNat) (fun i σ H' => Same H H' ∧ ∃ v x y : Option V, σ = [some (.ref a), v, x, y]) ⟨Same.refl _, _, _, _, rfl⟩ ?_ ?_
    · rintro i σ H' hi ⟨sm, v, x, y, rfl⟩
      refine ⟨_, rfl, _, rfl, a, ns, i, by rw [Int.zero_add]; rfl, sm.seq hS, by omega, fun H1 p s1 hp p1 => ?_⟩
      refine ⟨10, rfl, by decide, by decide, ?_⟩
      refine for_range (lo := 0) (n := (10 : Int).toNat) (fun j σ H2 => SB p H1 H2 ∧ PoolAt H2 p (2000 * j) ∧ ∃ x : Option V, σ = [some (.ref a), some (.int (0 + (i : Int))), some (.ref p), x]) ⟨SB.refl, p1.mono (by omega), _, rfl⟩ ?_ ?_
      · rintro j σ H2 hj ⟨sb, pp, x, rfl⟩
        have hj2 : j < 10 := hj
        refine ⟨_, rfl, p, 2000 * j, rfl, pp, by omega, fun H3 s3 p3 => ⟨true, rfl, iteF ?_⟩⟩
        exact ⟨sb.trans s3, p3.mono (by omega), _, rfl⟩
      · rintro σ H2 ⟨sb, pp, x, rfl⟩
        refine ⟨fun b o hb => ?_, _, _, _, rfl⟩
        have hb2 := sm _ _ hb
        exact sb _ _ (s1 _ _ hb2) (ne_of_none hb2 hp)
    · rintro σ H' ⟨sm, v, x, y, rfl⟩
      refine ⟨(by show 2 ≤ sizeLine; decide), fun t1 ht1 => ⟨t1, [48], [49, 48], rfl, upd_same, ⟨bit_0, bit_1.app bit_0, by decide, by decide, by decide⟩, fun b1 k1 q1 H1 u1 s1 m1 => ?_⟩⟩
      obtain ⟨rfl, rfl⟩ := q1.uniq pl_a
      refine ⟨(by show 2 ≤ sizeLine; decide), fun t2 ht2 => ⟨t2, [48, 48, 48, 48], [48], rfl, upd_same, ⟨((bit_0.app bit_0).app bit_0).app bit_0, bit_0, by decide, by decide, by decide⟩, fun b2 k2 q2 H2 u2 s2 m2 => ?_⟩⟩
      obtain ⟨rfl, rfl⟩ := q2.uniq pl_b
      refine ⟨(by show 2 ≤ sizeLine; decide), fun t3 ht3 => ⟨t3, [], [48, 49, 48, 49], rfl, upd_same, ⟨Bin.nil, ((bit_0.app bit_1).app bit_0).app bit_1, by decide, by decide, by decide⟩, fun b3 k3 q3 H3 u3 s3 m3 => ?_⟩⟩
      obtain ⟨rfl, rfl⟩ := q3.uniq pl_c
      refine ⟨(by show 3 ≤ sizeLine; decide), fun l hl => ?_⟩
      refine ⟨(by show 2 ≤ sizeLine; decide), fun t4 ht4 => ⟨(by show 2 ≤ sizeLine; decide), fun t5 ht5 => ⟨(by show 2 ≤ sizeLine; decide), fun t6 ht6 => ⟨(by show 3 ≤ sizeLine; decide), fun l2 hl2 => ?_⟩⟩⟩⟩
      have n1 : MomAt H1 u1 [] [48, 49] := m1
      have n2 : MomAt H2 u2 [] [48] := m2
      have n3 : MomAt H3 u3 [] [48, 49] := m3
      have z1 := ((n1.new ht2).same s2).new ht3 |>.same s3
      have z2 := (n2.new ht3).same s3
      have y1 := ((((z1.new hl).new ht4).new ht5).new ht6).new (o := .lst [.ref t4, .ref t5, .ref t6]) hl2
      have y2 := ((((z2.new hl).new ht4).new ht5).new ht6).new (o := .lst [.ref t4, .ref t5, .ref t6]) hl2
      have y3 := ((((n3.new hl).new ht4).new ht5).new ht6).new (o := .lst [.ref t4, .ref t5, .ref t6]) hl2
      have o1 : PyData.strOk (T []) = true := strOk_T Bin.nil.cod
      have o2 : PyData.strOk (T [48]) = true := strOk_T bit_0.cod
      have o3 : PyData.strOk (T [48, 49]) = true := strOk_T (bit_0.app bit_1).cod
      refine ⟨.list _, .list [.tuple [.str (T []), .str (T [48, 49])], .tuple [.str (T []), .str (T [48])], .tuple [.str (T []), .str (T [48, 49])]], .lst (SqL.of (Same.new hl2 _ _ (Same.new ht6 _ _ (Same.new ht5 _ _ (Same.new ht4 _ _ upd_same))))) (.cons y1.dp (.cons y2.dp (.cons y3.dp .nil))),
        .lst (SqL.of upd_same) (.cons ?_ (.cons ?_ (.cons ?_ .nil))), by simp [SeqAt.shaped, PyData.canLay0, PyData.canLayAll0, PyData.depth, PyData.depthAll, o1, o2, o3], by simp [SeqAt.shaped, PyData.canLay0, PyData.canLayAll0, PyData.depth, PyData.depthAll, o1, o2, o3], ?_⟩
      · exact MomAt.dp (MomAt.new (MomAt.new (MomAt.new upd_same ht5) ht6) hl2)
      · exact MomAt.dp (MomAt.new (MomAt.new upd_same ht6) hl2)
      · exact MomAt.dp (MomAt.new upd_same hl2)
      have E : PyData.eqv (.list [.tuple [.str (T []), .str (T [48, 49])], .tuple [.str (T []), .str (T [48])], .tuple [.str (T []), .str (T [48, 49])]]) (.list [.tuple [.str (T []), .str (T [48, 49])], .tuple [.str (T []), .str (T [48])], .tuple [.str (T []), .str (T [48, 49])]]) = true := by
        simp [PyData.eqv, PyData.eqvAll]
      rw [E]
      exact k _
end
end HC

namespace HC
open PySem PySem.Spec PyProof.Rows L2
section
theorem all_mk {P : Program} {w : World} {K : PySem.W.Frag} {h : Heap} {mg : Str → Option Value} {fa : Addr} (X : K.In h) (G : h.Ns mainGlobals mg) (hfa : mg "law" = some (.ref fa))
    {f__law_pool f__law_draw f__law_word f__law_moment f__law_signs f_is_word f_check_moment f_shortest_ring f_shared_end f_plain f_sign_at f_check_at_least f_check_places f_signs_between f_letters f__law_plain f__law_right f_law : Addr}
    {od__law_pool an__law_pool : Option Addr} {sl__law_pool : Array (Option Value)} {oc__law_pool kV__law_pool dc__law_pool pm__law_pool cd__law_pool ct__law_pool : Value}
    (a__law_pool : PySem.W.nsIn K mainGlobals "_law_pool" = some (some (.ref f__law_pool))) (l__law_pool : K.lookup f__law_pool = some ⟨oc__law_pool, od__law_pool, .func (PySem.W.fnOf "_law_pool" "_law_pool" (defArgs s__law_pool) (defBody s__law_pool) (defScope s__law_pool) .none kV__law_pool dc__law_pool pm__law_pool an__law_pool cd__law_pool ct__law_pool), sl__law_pool⟩) (c__law_pool : PySem.W.codeIn K cd__law_pool "_law_pool" = true) (k__law_pool : PySem.W.keepIn K (.ref f__law_pool) = true)
    {od__law_draw an__law_draw : Option Addr} {sl__law_draw : Array (Option Value)} {oc__law_draw kV__law_draw dc__law_draw pm__law_draw cd__law_draw ct__law_draw : Value}
    (a__law_draw : PySem.W.nsIn K mainGlobals "_law_draw" = some (some (.ref f__law_draw))) (l__law_draw : K.lookup f__law_draw = some ⟨oc__law_draw, od__law_draw, .func (PySem.W.fnOf "_law_draw" "_law_draw" (defArgs s__law_draw) (defBody s__law_draw) (defScope s__law_draw) .none kV__law_draw dc__law_draw pm__law_draw an__law_draw cd__law_draw ct__law_draw), sl__law_draw⟩) (c__law_draw : PySem.W.codeIn K cd__law_draw "_law_draw" = true) (k__law_draw : PySem.W.keepIn K (.ref f__law_draw) = true)
    {od__law_word an__law_word : Option Addr} {sl__law_word : Array (Option Value)} {oc__law_word kV__law_word dc__law_word pm__law_word cd__law_word ct__law_word : Value}
    (a__law_word : PySem.W.nsIn K mainGlobals "_law_word" = some (some (.ref f__law_word))) (l__law_word : K.lookup f__law_word = some ⟨oc__law_word, od__law_word, .func (PySem.W.fnOf "_law_word" "_law_word" (defArgs s__law_word) (defBody s__law_word) (defScope s__law_word) .none kV__law_word dc__law_word pm__law_word an__law_word cd__law_word ct__law_word), sl__law_word⟩) (c__law_word : PySem.W.codeIn K cd__law_word "_law_word" = true) (k__law_word : PySem.W.keepIn K (.ref f__law_word) = true)
    {od__law_moment an__law_moment : Option Addr} {sl__law_moment : Array (Option Value)} {oc__law_moment kV__law_moment dc__law_moment pm__law_moment cd__law_moment ct__law_moment : Value}
    (a__law_moment : PySem.W.nsIn K mainGlobals "_law_moment" = some (some (.ref f__law_moment))) (l__law_moment : K.lookup f__law_moment = some ⟨oc__law_moment, od__law_moment, .func (PySem.W.fnOf "_law_moment" "_law_moment" (defArgs s__law_moment) (defBody s__law_moment) (defScope s__law_moment) .none kV__law_moment dc__law_moment pm__law_moment an__law_moment cd__law_moment ct__law_moment), sl__law_moment⟩) (c__law_moment : PySem.W.codeIn K cd__law_moment "_law_moment" = true) (k__law_moment : PySem.W.keepIn K (.ref f__law_moment) = true)
    {od__law_signs an__law_signs : Option Addr} {sl__law_signs : Array (Option Value)} {oc__law_signs kV__law_signs dc__law_signs pm__law_signs cd__law_signs ct__law_signs : Value}
    (a__law_signs : PySem.W.nsIn K mainGlobals "_law_signs" = some (some (.ref f__law_signs))) (l__law_signs : K.lookup f__law_signs = some ⟨oc__law_signs, od__law_signs, .func (PySem.W.fnOf "_law_signs" "_law_signs" (defArgs s__law_signs) (defBody s__law_signs) (defScope s__law_signs) .none kV__law_signs dc__law_signs pm__law_signs an__law_signs cd__law_signs ct__law_signs), sl__law_signs⟩) (c__law_signs : PySem.W.codeIn K cd__law_signs "_law_signs" = true) (k__law_signs : PySem.W.keepIn K (.ref f__law_signs) = true)
    {od_is_word an_is_word : Option Addr} {sl_is_word : Array (Option Value)} {oc_is_word kV_is_word dc_is_word pm_is_word cd_is_word ct_is_word : Value}
    (a_is_word : PySem.W.nsIn K mainGlobals "is_word" = some (some (.ref f_is_word))) (l_is_word : K.lookup f_is_word = some ⟨oc_is_word, od_is_word, .func (PySem.W.fnOf "is_word" "is_word" (defArgs s_is_word) (defBody s_is_word) (defScope s_is_word) .none kV_is_word dc_is_word pm_is_word an_is_word cd_is_word ct_is_word), sl_is_word⟩) (c_is_word : PySem.W.codeIn K cd_is_word "is_word" = true) (k_is_word : PySem.W.keepIn K (.ref f_is_word) = true)
    {od_check_moment an_check_moment : Option Addr} {sl_check_moment : Array (Option Value)} {oc_check_moment kV_check_moment dc_check_moment pm_check_moment cd_check_moment ct_check_moment : Value}
    (a_check_moment : PySem.W.nsIn K mainGlobals "check_moment" = some (some (.ref f_check_moment))) (l_check_moment : K.lookup f_check_moment = some ⟨oc_check_moment, od_check_moment, .func (PySem.W.fnOf "check_moment" "check_moment" (defArgs s_check_moment) (defBody s_check_moment) (defScope s_check_moment) .none kV_check_moment dc_check_moment pm_check_moment an_check_moment cd_check_moment ct_check_moment), sl_check_moment⟩) (c_check_moment : PySem.W.codeIn K cd_check_moment "check_moment" = true) (k_check_moment : PySem.W.keepIn K (.ref f_check_moment) = true)
    {od_shortest_ring an_shortest_ring : Option Addr} {sl_shortest_ring : Array (Option Value)} {oc_shortest_ring kV_shortest_ring dc_shortest_ring pm_shortest_ring cd_shortest_ring ct_shortest_ring : Value}
    (a_shortest_ring : PySem.W.nsIn K mainGlobals "shortest_ring" = some (some (.ref f_shortest_ring))) (l_shortest_ring : K.lookup f_shortest_ring = some ⟨oc_shortest_ring, od_shortest_ring, .func (PySem.W.fnOf "shortest_ring" "shortest_ring" (defArgs s_shortest_ring) (defBody s_shortest_ring) (defScope s_shortest_ring) .none kV_shortest_ring dc_shortest_ring pm_shortest_ring an_shortest_ring cd_shortest_ring ct_shortest_ring), sl_shortest_ring⟩) (c_shortest_ring : PySem.W.codeIn K cd_shortest_ring "shortest_ring" = true) (k_shortest_ring : PySem.W.keepIn K (.ref f_shortest_ring) = true)
    {od_shared_end an_shared_end : Option Addr} {sl_shared_end : Array (Option Value)} {oc_shared_end kV_shared_end dc_shared_end pm_shared_end cd_shared_end ct_shared_end : Value}
    (a_shared_end : PySem.W.nsIn K mainGlobals "shared_end" = some (some (.ref f_shared_end))) (l_shared_end : K.lookup f_shared_end = some ⟨oc_shared_end, od_shared_end, .func (PySem.W.fnOf "shared_end" "shared_end" (defArgs s_shared_end) (defBody s_shared_end) (defScope s_shared_end) .none kV_shared_end dc_shared_end pm_shared_end an_shared_end cd_shared_end ct_shared_end), sl_shared_end⟩) (c_shared_end : PySem.W.codeIn K cd_shared_end "shared_end" = true) (k_shared_end : PySem.W.keepIn K (.ref f_shared_end) = true)
    {od_plain an_plain : Option Addr} {sl_plain : Array (Option Value)} {oc_plain kV_plain dc_plain pm_plain cd_plain ct_plain : Value}
    (a_plain : PySem.W.nsIn K mainGlobals "plain" = some (some (.ref f_plain))) (l_plain : K.lookup f_plain = some ⟨oc_plain, od_plain, .func (PySem.W.fnOf "plain" "plain" (defArgs s_plain) (defBody s_plain) (defScope s_plain) .none kV_plain dc_plain pm_plain an_plain cd_plain ct_plain), sl_plain⟩) (c_plain : PySem.W.codeIn K cd_plain "plain" = true) (k_plain : PySem.W.keepIn K (.ref f_plain) = true)
    {od_sign_at an_sign_at : Option Addr} {sl_sign_at : Array (Option Value)} {oc_sign_at kV_sign_at dc_sign_at pm_sign_at cd_sign_at ct_sign_at : Value}
    (a_sign_at : PySem.W.nsIn K mainGlobals "sign_at" = some (some (.ref f_sign_at))) (l_sign_at : K.lookup f_sign_at = some ⟨oc_sign_at, od_sign_at, .func (PySem.W.fnOf "sign_at" "sign_at" (defArgs s_sign_at) (defBody s_sign_at) (defScope s_sign_at) .none kV_sign_at dc_sign_at pm_sign_at an_sign_at cd_sign_at ct_sign_at), sl_sign_at⟩) (c_sign_at : PySem.W.codeIn K cd_sign_at "sign_at" = true) (k_sign_at : PySem.W.keepIn K (.ref f_sign_at) = true)
    {od_check_at_least an_check_at_least : Option Addr} {sl_check_at_least : Array (Option Value)} {oc_check_at_least kV_check_at_least dc_check_at_least pm_check_at_least cd_check_at_least ct_check_at_least : Value}
    (a_check_at_least : PySem.W.nsIn K mainGlobals "check_at_least" = some (some (.ref f_check_at_least))) (l_check_at_least : K.lookup f_check_at_least = some ⟨oc_check_at_least, od_check_at_least, .func (PySem.W.fnOf "check_at_least" "check_at_least" (defArgs s_check_at_least) (defBody s_check_at_least) (defScope s_check_at_least) .none kV_check_at_least dc_check_at_least pm_check_at_least an_check_at_least cd_check_at_least ct_check_at_least), sl_check_at_least⟩) (c_check_at_least : PySem.W.codeIn K cd_check_at_least "check_at_least" = true) (k_check_at_least : PySem.W.keepIn K (.ref f_check_at_least) = true)
    {od_check_places an_check_places : Option Addr} {sl_check_places : Array (Option Value)} {oc_check_places kV_check_places dc_check_places pm_check_places cd_check_places ct_check_places : Value}
    (a_check_places : PySem.W.nsIn K mainGlobals "check_places" = some (some (.ref f_check_places))) (l_check_places : K.lookup f_check_places = some ⟨oc_check_places, od_check_places, .func (PySem.W.fnOf "check_places" "check_places" (defArgs s_check_places) (defBody s_check_places) (defScope s_check_places) .none kV_check_places dc_check_places pm_check_places an_check_places cd_check_places ct_check_places), sl_check_places⟩) (c_check_places : PySem.W.codeIn K cd_check_places "check_places" = true) (k_check_places : PySem.W.keepIn K (.ref f_check_places) = true)
    {od_signs_between an_signs_between : Option Addr} {sl_signs_between : Array (Option Value)} {oc_signs_between kV_signs_between dc_signs_between pm_signs_between cd_signs_between ct_signs_between : Value}
    (a_signs_between : PySem.W.nsIn K mainGlobals "signs_between" = some (some (.ref f_signs_between))) (l_signs_between : K.lookup f_signs_between = some ⟨oc_signs_between, od_signs_between, .func (PySem.W.fnOf "signs_between" "signs_between" (defArgs s_signs_between) (defBody s_signs_between) (defScope s_signs_between) .none kV_signs_between dc_signs_between pm_signs_between an_signs_between cd_signs_between ct_signs_between), sl_signs_between⟩) (c_signs_between : PySem.W.codeIn K cd_signs_between "signs_between" = true) (k_signs_between : PySem.W.keepIn K (.ref f_signs_between) = true)
    {od_letters an_letters : Option Addr} {sl_letters : Array (Option Value)} {oc_letters kV_letters dc_letters pm_letters cd_letters ct_letters : Value}
    (a_letters : PySem.W.nsIn K mainGlobals "letters" = some (some (.ref f_letters))) (l_letters : K.lookup f_letters = some ⟨oc_letters, od_letters, .func (PySem.W.fnOf "letters" "letters" (defArgs s_letters) (defBody s_letters) (defScope s_letters) .none kV_letters dc_letters pm_letters an_letters cd_letters ct_letters), sl_letters⟩) (c_letters : PySem.W.codeIn K cd_letters "letters" = true) (k_letters : PySem.W.keepIn K (.ref f_letters) = true)
    {od__law_plain an__law_plain : Option Addr} {sl__law_plain : Array (Option Value)} {oc__law_plain kV__law_plain dc__law_plain pm__law_plain cd__law_plain ct__law_plain : Value}
    (a__law_plain : PySem.W.nsIn K mainGlobals "_law_plain" = some (some (.ref f__law_plain))) (l__law_plain : K.lookup f__law_plain = some ⟨oc__law_plain, od__law_plain, .func (PySem.W.fnOf "_law_plain" "_law_plain" (defArgs s__law_plain) (defBody s__law_plain) (defScope s__law_plain) .none kV__law_plain dc__law_plain pm__law_plain an__law_plain cd__law_plain ct__law_plain), sl__law_plain⟩) (c__law_plain : PySem.W.codeIn K cd__law_plain "_law_plain" = true) (k__law_plain : PySem.W.keepIn K (.ref f__law_plain) = true)
    {od__law_right an__law_right : Option Addr} {sl__law_right : Array (Option Value)} {oc__law_right kV__law_right dc__law_right pm__law_right cd__law_right ct__law_right : Value}
    (a__law_right : PySem.W.nsIn K mainGlobals "_law_right" = some (some (.ref f__law_right))) (l__law_right : K.lookup f__law_right = some ⟨oc__law_right, od__law_right, .func (PySem.W.fnOf "_law_right" "_law_right" (defArgs s__law_right) (defBody s__law_right) (defScope s__law_right) .none kV__law_right dc__law_right pm__law_right an__law_right cd__law_right ct__law_right), sl__law_right⟩) (c__law_right : PySem.W.codeIn K cd__law_right "_law_right" = true) (k__law_right : PySem.W.keepIn K (.ref f__law_right) = true)
    {od_law an_law : Option Addr} {sl_law : Array (Option Value)} {oc_law kV_law dc_law pm_law cd_law ct_law : Value}
    (a_law : PySem.W.nsIn K mainGlobals "law" = some (some (.ref f_law))) (l_law : K.lookup f_law = some ⟨oc_law, od_law, .func (PySem.W.fnOf "law" "law" (defArgs s_law) (defBody s_law) (defScope s_law) .none kV_law dc_law pm_law an_law cd_law ct_law), sl_law⟩) (c_law : PySem.W.codeIn K cd_law "law" = true) (k_law : PySem.W.keepIn K (.ref f_law) = true)
    (z_len : PySem.W.nsIn K mainGlobals "len" = some none)
    (z_abs : PySem.W.nsIn K mainGlobals "abs" = some none)
    (z_max : PySem.W.nsIn K mainGlobals "max" = some none)
    (z_min : PySem.W.nsIn K mainGlobals "min" = some none)
    (z_range : PySem.W.nsIn K mainGlobals "range" = some none)
    (z_int : PySem.W.nsIn K mainGlobals "int" = some none)
    (z_list : PySem.W.nsIn K mainGlobals "list" = some none)
    (z_sorted : PySem.W.nsIn K mainGlobals "sorted" = some none)
    : ∃ fd : FuncData, (∀ (s : Shared) (u : Value), BindsTo s fd ⟨[u], []⟩ [("script", u)]) ∧ ∀ base : Heap, K.In base → base.Ns mainGlobals mg → FnOk P w K mg base CX0 5 fa fd ["script"] (spLaw K) := by
  have e := hfa.symm.trans (PySem.W.mg_of X G a_law)
  cases e
  have B : Blt mg := ⟨PySem.W.mg_none_of X G z_len, PySem.W.mg_none_of X G z_abs, PySem.W.mg_none_of X G z_max, PySem.W.mg_none_of X G z_min, PySem.W.mg_none_of X G z_range, PySem.W.mg_none_of X G z_int, PySem.W.mg_none_of X G z_list, PySem.W.mg_none_of X G z_sorted⟩
  have F__law_pool := fun_mk (st := s__law_pool) l__law_pool c__law_pool k__law_pool
  have b__law_pool := F__law_pool.binds (ps := ["script", "at"]) fun _ _ _ _ _ _ us hl => match us, hl with | [_, _], _ => rfl
  have F__law_draw := fun_mk (st := s__law_draw) l__law_draw c__law_draw k__law_draw
  have b__law_draw := F__law_draw.binds (ps := ["pool", "many"]) fun _ _ _ _ _ _ us hl => match us, hl with | [_, _], _ => rfl
  have F__law_word := fun_mk (st := s__law_word) l__law_word c__law_word k__law_word
  have b__law_word := F__law_word.binds (ps := ["pool", "most"]) fun _ _ _ _ _ _ us hl => match us, hl with | [_, _], _ => rfl
  have F__law_moment := fun_mk (st := s__law_moment) l__law_moment c__law_moment k__law_moment
  have b__law_moment := F__law_moment.binds (ps := ["pool"]) fun _ _ _ _ _ _ us hl => match us, hl with | [_], _ => rfl
  have F__law_signs := fun_mk (st := s__law_signs) l__law_signs c__law_signs k__law_signs
  have b__law_signs := F__law_signs.binds (ps := ["head", "ring", "size"]) fun _ _ _ _ _ _ us hl => match us, hl with | [_, _, _], _ => rfl
  have F_is_word := fun_mk (st := s_is_word) l_is_word c_is_word k_is_word
  have b_is_word := F_is_word.binds (ps := ["text"]) fun _ _ _ _ _ _ us hl => match us, hl with | [_], _ => rfl
  have F_check_moment := fun_mk (st := s_check_moment) l_check_moment c_check_moment k_check_moment
  have b_check_moment := F_check_moment.binds (ps := ["moment"]) fun _ _ _ _ _ _ us hl => match us, hl with | [_], _ => rfl
  have F_shortest_ring := fun_mk (st := s_shortest_ring) l_shortest_ring c_shortest_ring k_shortest_ring
  have b_shortest_ring := F_shortest_ring.binds (ps := ["ring"]) fun _ _ _ _ _ _ us hl => match us, hl with | [_], _ => rfl
  have F_shared_end := fun_mk (st := s_shared_end) l_shared_end c_shared_end k_shared_end
  have b_shared_end := F_shared_end.binds (ps := ["head", "ring"]) fun _ _ _ _ _ _ us hl => match us, hl with | [_, _], _ => rfl
  have F_plain := fun_mk (st := s_plain) l_plain c_plain k_plain
  have b_plain := F_plain.binds (ps := ["moment"]) fun _ _ _ _ _ _ us hl => match us, hl with | [_], _ => rfl
  have F_sign_at := fun_mk (st := s_sign_at) l_sign_at c_sign_at k_sign_at
  have b_sign_at := F_sign_at.binds (ps := ["moment", "place"]) fun _ _ _ _ _ _ us hl => match us, hl with | [_, _], _ => rfl
  have F_check_at_least := fun_mk (st := s_check_at_least) l_check_at_least c_check_at_least k_check_at_least
  have b_check_at_least := F_check_at_least.binds (ps := ["number", "least"]) fun _ _ _ _ _ _ us hl => match us, hl with | [_, _], _ => rfl
  have F_check_places := fun_mk (st := s_check_places) l_check_places c_check_places k_check_places
  have b_check_places := F_check_places.binds (ps := ["low", "high"]) fun _ _ _ _ _ _ us hl => match us, hl with | [_, _], _ => rfl
  have F_signs_between := fun_mk (st := s_signs_between) l_signs_between c_signs_between k_signs_between
  have b_signs_between := F_signs_between.binds (ps := ["moment", "low", "high"]) fun _ _ _ _ _ _ us hl => match us, hl with | [_, _, _], _ => rfl
  have F_letters := fun_mk (st := s_letters) l_letters c_letters k_letters
  have b_letters := F_letters.binds (ps := ["moment", "low", "high"]) fun _ _ _ _ _ _ us hl => match us, hl with | [_, _, _], _ => rfl
  have F__law_plain := fun_mk (st := s__law_plain) l__law_plain c__law_plain k__law_plain
  have b__law_plain := F__law_plain.binds (ps := ["head", "ring"]) fun _ _ _ _ _ _ us hl => match us, hl with | [_, _], _ => rfl
  have F__law_right := fun_mk (st := s__law_right) l__law_right c__law_right k__law_right
  have b__law_right := F__law_right.binds (ps := ["pool"]) fun _ _ _ _ _ _ us hl => match us, hl with | [_], _ => rfl
  have F_law := fun_mk (st := s_law) l_law c_law k_law
  refine ⟨PySem.W.fnOf "law" "law" (defArgs s_law) (defBody s_law) (defScope s_law) .none kV_law dc_law pm_law an_law cd_law ct_law, fun s u => .of_eq rfl, fun base _ _ => ?_⟩
  have h__law_pool : Has P w K mg base "_law_pool" 1 ["script", "at"] (spPool K) := ⟨_, _, PySem.W.mg_of X G a__law_pool, k__law_pool, b__law_pool, ok__law_pool F__law_pool B⟩
  have h__law_draw : Has P w K mg base "_law_draw" 1 ["pool", "many"] (spDraw) := ⟨_, _, PySem.W.mg_of X G a__law_draw, k__law_draw, b__law_draw, ok__law_draw F__law_draw B⟩
  have h__law_word : Has P w K mg base "_law_word" 2 ["pool", "most"] (spWord) := ⟨_, _, PySem.W.mg_of X G a__law_word, k__law_word, b__law_word, ok__law_word F__law_word B h__law_draw⟩
  have h__law_moment : Has P w K mg base "_law_moment" 3 ["pool"] (spMoment) := ⟨_, _, PySem.W.mg_of X G a__law_moment, k__law_moment, b__law_moment, ok__law_moment F__law_moment h__law_draw h__law_word⟩
  have h__law_signs : Has P w K mg base "_law_signs" 1 ["head", "ring", "size"] (spSigns) := ⟨_, _, PySem.W.mg_of X G a__law_signs, k__law_signs, b__law_signs, ok__law_signs F__law_signs B⟩
  have h_is_word : Has P w K mg base "is_word" 1 ["text"] (spIsWord) := ⟨_, _, PySem.W.mg_of X G a_is_word, k_is_word, b_is_word, ok_is_word F_is_word ⟩
  have h_check_moment : Has P w K mg base "check_moment" 2 ["moment"] (spCheckMoment) := ⟨_, _, PySem.W.mg_of X G a_check_moment, k_check_moment, b_check_moment, ok_check_moment F_check_moment h_is_word⟩
  have h_shortest_ring : Has P w K mg base "shortest_ring" 1 ["ring"] (spShortest) := ⟨_, _, PySem.W.mg_of X G a_shortest_ring, k_shortest_ring, b_shortest_ring, ok_shortest_ring F_shortest_ring ⟩
  have h_shared_end : Has P w K mg base "shared_end" 1 ["head", "ring"] (spShared) := ⟨_, _, PySem.W.mg_of X G a_shared_end, k_shared_end, b_shared_end, ok_shared_end F_shared_end B⟩
  have h_plain : HasG ["moment"] @oneG P w K mg base "plain" 3 ["moment"] (spPlain) := ⟨_, _, PySem.W.mg_of X G a_plain, k_plain, b_plain, kb_one fun _ => rfl, ok_plain F_plain B h_check_moment h_shortest_ring h_shared_end⟩
  have h_sign_at : Has P w K mg base "sign_at" 1 ["moment", "place"] (spSignAt) := ⟨_, _, PySem.W.mg_of X G a_sign_at, k_sign_at, b_sign_at, ok_sign_at F_sign_at B⟩
  have h_check_at_least : Has P w K mg base "check_at_least" 1 ["number", "least"] (spAtLeast) := ⟨_, _, PySem.W.mg_of X G a_check_at_least, k_check_at_least, b_check_at_least, ok_check_at_least F_check_at_least ⟩
  have h_check_places : Has P w K mg base "check_places" 2 ["low", "high"] (spPlaces) := ⟨_, _, PySem.W.mg_of X G a_check_places, k_check_places, b_check_places, ok_check_places F_check_places h_check_at_least⟩
  have h_signs_between : Has P w K mg base "signs_between" 2 ["moment", "low", "high"] (spLetters) := ⟨_, _, PySem.W.mg_of X G a_signs_between, k_signs_between, b_signs_between, ok_signs_between F_signs_between B h_sign_at⟩
  have h_letters : HasG ["high", "low", "moment"] @revG P w K mg base "letters" 3 ["moment", "low", "high"] (spLetters) := ⟨_, _, PySem.W.mg_of X G a_letters, k_letters, b_letters, kb_rev3 fun _ _ _ => rfl, ok_letters F_letters h_check_moment h_check_places h_signs_between⟩
  have h__law_plain : Has P w K mg base "_law_plain" 2 ["head", "ring"] (spLawPlain) := ⟨_, _, PySem.W.mg_of X G a__law_plain, k__law_plain, b__law_plain, ok__law_plain F__law_plain B h__law_signs⟩
  have h__law_right : Has P w K mg base "_law_right" 4 ["pool"] (spRight) := ⟨_, _, PySem.W.mg_of X G a__law_right, k__law_right, b__law_right, ok__law_right F__law_right B h__law_draw h__law_moment h__law_signs h__law_plain h_plain h_letters⟩
  exact ok_law F_law B h__law_pool h__law_right h_plain
theorem walk_law {l : PySem.W.OpenLaw} {q : Program} {loose : List Str} {XP : (Str → Option Value) → Heap → Prop} {YP : World → Heap → Prop} {d : DefRec} {K : Params → PySem.W.Frag} (hn : l.most = some 63) (hdf : d.params.defaults = [])
    (hY : ∀ (w : World) (h : Heap), YP w h → (K w.params).In h)
    (F : ∀ (w : World) (mg : Str → Option Value) (fa : Addr) (h : Heap), (K w.params).In h → h.Ns mainGlobals mg → mg d.name = some (.ref fa) →
      ∃ fd : FuncData, (∀ (s : Shared) (u : Value), BindsTo s fd ⟨[u], []⟩ [("script", u)]) ∧ ∀ base : Heap, (K w.params).In base → base.Ns mainGlobals mg → FnOk l.prog w (K w.params) mg base CX0 5 fa fd ["script"] (spLaw (K w.params))) :
    PySem.W.WalkO q loose XP YP l.row.toRowW d [] (fun f vs => PySem.call f vs) :=
  L2.walk_of (n := 63) (k := 5) (x := "script") (CX := fun _ => CX0) (sp := fun w => spLaw (K w.params)) hn (by decide) hdf ⟨rfl, by decide, by decide⟩ hY F (fun _ _ a ns hl _ hS => ⟨a, ns, rfl, hS, hl, fun _ => rfl⟩) fun _ _ _ _ _ z => z
end
end HC
open PySem PySem.W PyProof.Rows in
set_option maxRecDepth 100000 in
set_option maxHeartbeats 0 in
theorem PySem.Challenge.cw_halfcuts_k03_plain_moments_holds : PySem.Challenge.rw_halfcuts_k03_plain_moments.Holds := by
  w_on; o_law; k_head; (case hw => w_witness2)
  k_fill
  refine HC.walk_law (l := PySem.Challenge.rw_halfcuts_k03_plain_moments) rfl rfl (fun w h Y => PySem.W.kIn_of Y) ?F
  case F =>
    intro w mg fa h KX G hmg
    refine' HC.all_mk KX G hmg ?a__law_pool ?l__law_pool ?c__law_pool ?k__law_pool ?a__law_draw ?l__law_draw ?c__law_draw ?k__law_draw ?a__law_word ?l__law_word ?c__law_word ?k__law_word ?a__law_moment ?l__law_moment ?c__law_moment ?k__law_moment ?a__law_signs ?l__law_signs ?c__law_signs ?k__law_signs ?a_is_word ?l_is_word ?c_is_word ?k_is_word ?a_check_moment ?l_check_moment ?c_check_moment ?k_check_moment ?a_shortest_ring ?l_shortest_ring ?c_shortest_ring ?k_shortest_ring ?a_shared_end ?l_shared_end ?c_shared_end ?k_shared_end ?a_plain ?l_plain ?c_plain ?k_plain ?a_sign_at ?l_sign_at ?c_sign_at ?k_sign_at ?a_check_at_least ?l_check_at_least ?c_check_at_least ?k_check_at_least ?a_check_places ?l_check_places ?c_check_places ?k_check_places ?a_signs_between ?l_signs_between ?c_signs_between ?k_signs_between ?a_letters ?l_letters ?c_letters ?k_letters ?a__law_plain ?l__law_plain ?c__law_plain ?k__law_plain ?a__law_right ?l__law_right ?c__law_right ?k__law_right ?a_law ?l_law ?c_law ?k_law ?z_len ?z_abs ?z_max ?z_min ?z_range ?z_int ?z_list ?z_sorted
    (case a__law_pool => k_is)
    (case l__law_pool => k_is)
    (case c__law_pool => k_is)
    (case k__law_pool => k_is)
    (case a__law_draw => k_is)
    (case l__law_draw => k_is)
    (case c__law_draw => k_is)
    (case k__law_draw => k_is)
    (case a__law_word => k_is)
    (case l__law_word => k_is)
    (case c__law_word => k_is)
    (case k__law_word => k_is)
    (case a__law_moment => k_is)
    (case l__law_moment => k_is)
    (case c__law_moment => k_is)
    (case k__law_moment => k_is)
    (case a__law_signs => k_is)
    (case l__law_signs => k_is)
    (case c__law_signs => k_is)
    (case k__law_signs => k_is)
    (case a_is_word => k_is)
    (case l_is_word => k_is)
    (case c_is_word => k_is)
    (case k_is_word => k_is)
    (case a_check_moment => k_is)
    (case l_check_moment => k_is)
    (case c_check_moment => k_is)
    (case k_check_moment => k_is)
    (case a_shortest_ring => k_is)
    (case l_shortest_ring => k_is)
    (case c_shortest_ring => k_is)
    (case k_shortest_ring => k_is)
    (case a_shared_end => k_is)
    (case l_shared_end => k_is)
    (case c_shared_end => k_is)
    (case k_shared_end => k_is)
    (case a_plain => k_is)
    (case l_plain => k_is)
    (case c_plain => k_is)
    (case k_plain => k_is)
    (case a_sign_at => k_is)
    (case l_sign_at => k_is)
    (case c_sign_at => k_is)
    (case k_sign_at => k_is)
    (case a_check_at_least => k_is)
    (case l_check_at_least => k_is)
    (case c_check_at_least => k_is)
    (case k_check_at_least => k_is)
    (case a_check_places => k_is)
    (case l_check_places => k_is)
    (case c_check_places => k_is)
    (case k_check_places => k_is)
    (case a_signs_between => k_is)
    (case l_signs_between => k_is)
    (case c_signs_between => k_is)
    (case k_signs_between => k_is)
    (case a_letters => k_is)
    (case l_letters => k_is)
    (case c_letters => k_is)
    (case k_letters => k_is)
    (case a__law_plain => k_is)
    (case l__law_plain => k_is)
    (case c__law_plain => k_is)
    (case k__law_plain => k_is)
    (case a__law_right => k_is)
    (case l__law_right => k_is)
    (case c__law_right => k_is)
    (case k__law_right => k_is)
    (case a_law => k_is)
    (case l_law => k_is)
    (case c_law => k_is)
    (case k_law => k_is)
    (case z_len => k_is)
    (case z_abs => k_is)
    (case z_max => k_is)
    (case z_min => k_is)
    (case z_range => k_is)
    (case z_int => k_is)
    (case z_list => k_is)
    (case z_sorted => k_is)
