import PyProof.Rows.All
import Wide.All
import OpenK.AllK
import Wide.FinOn
import HandS.ForMost
import HandS.Wide
import HandS.StrMore
import PyProof.LongRange
import PySem.Challenge.RW_halfcuts_k05_sequences_and_tails
set_option Elab.async false
set_option linter.all false
set_option maxRecDepth 100000
set_option maxHeartbeats 8000000
namespace HC
open PySem PySem.Spec PyProof.Rows L2
/-! ## texts as lists of codes -/
def T (l : List Nat) : Str := ⟨l.toArray⟩
theorem T_len (l : List Nat) : (T l).length = l.length := by
  show l.toArray.size = l.length
  simp
theorem T_list (l : List Nat) : (T l).cps.toList = l := by
  show l.toArray.toList = l
  simp
theorem T_inj {a b : List Nat} (h : T a = T b) : a = b := by
  have := congrArg (fun s : Str => s.cps.toList) h
  simpa [T_list] using this
theorem T_eq (a b : List Nat) : decide (V.str (T a) = V.str (T b)) = decide (a = b) := by
  by_cases h : a = b
  · subst h; simp
  · have h2 : ¬ V.str (T a) = V.str (T b) := fun q => h (T_inj (V.str.inj q))
    rw [decide_eq_false h, decide_eq_false h2]
theorem T_app (a b : List Nat) : T a ++ T b = T (a ++ b) := by
  show Str.append (T a) (T b) = T (a ++ b)
  unfold Str.append T
  simp
def rep (n : Nat) (a : List Nat) : List Nat := (List.replicate n a).flatten
theorem rep_zero (a : List Nat) : rep 0 a = [] := rfl
theorem rep_succ (n : Nat) (a : List Nat) : rep (n + 1) a = a ++ rep n a := by
  unfold rep
  rw [List.replicate_succ, List.flatten_cons]
theorem rep_nil (n : Nat) : rep n [] = [] := by
  induction n with
  | zero => rfl
  | succ n ih => rw [rep_succ, ih]; rfl
theorem rep_len (n : Nat) (a : List Nat) : (rep n a).length = n * a.length := by
  induction n with
  | zero => simp [rep_zero]
  | succ n ih => rw [rep_succ, List.length_append, ih, Nat.succ_mul, Nat.add_comm]
theorem foldl_T (n : Nat) (a : List Nat) : ∀ acc : Array Nat, (List.replicate n a.toArray).foldl (· ++ ·) acc = acc ++ (rep n a).toArray := by
  induction n with
  | zero => intro acc; simp [rep_zero]
  | succ n ih => intro acc; rw [List.replicate_succ, List.foldl_cons, ih, rep_succ]; simp
theorem mul_T (a : List Nat) (n : Nat) : Txt.mul (T a) (n : Int) = T (rep n a) := by
  unfold Txt.mul
  by_cases h1 : (n : Int) < 1
  · rw [if_pos h1]
    have : n = 0 := by omega
    subst this
    rfl
  · rw [if_neg h1]
    by_cases h2 : ((n : Int) == 1 || (T a).length == 0) = true
    · rw [if_pos h2]
      rw [Bool.or_eq_true] at h2
      rcases h2 with h2 | h2
      · have : n = 1 := by have := eq_of_beq h2; omega
        subst this
        rw [rep_succ, rep_zero, List.append_nil]
      · have h3 := eq_of_beq h2
        rw [T_len] at h3
        have : a = [] := List.eq_nil_of_length_eq_zero h3
        subst this
        rw [rep_nil]
    · rw [if_neg h2]
      show Str.mk ((List.replicate (n : Int).toNat a.toArray).foldl (· ++ ·) #[]) = T (rep n a)
      rw [Int.toNat_natCast, foldl_T]
      unfold T
      simp
theorem mulOk_T {a : List Nat} {n : Nat} (h : a.length * n ≤ 1000000) (hn : n < 1000000) : MulOk (T a) (n : Int) := by
  refine ⟨?_, ?_, ?_⟩
  · have h1 : ¬ ((n : Int) < -(2 ^ 63 : Int)) := by omega
    have h2 : ¬ ((n : Int) ≥ 2 ^ 63) := by omega
    rw [decide_eq_false h1, decide_eq_false h2]
    rfl
  · intro h1 h2 h3
    rw [T_len] at h3
    have hp : (0 : Int) < n := by omega
    have h4 : ((n : Int) * ((2 ^ 63 - 1) / (n : Int))) < (n : Int) * (a.length : Int) := Int.mul_lt_mul_of_pos_left h3 hp
    have h5 : (2 ^ 63 - 1 : Int) < (n : Int) * ((2 ^ 63 - 1) / (n : Int) + 1) := by
      have := Int.lt_mul_ediv_self_add (x := (2 ^ 63 - 1 : Int)) hp
      rw [Int.mul_add, Int.mul_one]
      omega
    have h6 : (n : Int) * ((2 ^ 63 - 1) / (n : Int) + 1) ≤ (n : Int) * (a.length : Int) := Int.mul_le_mul_of_nonneg_left (by omega) (by omega)
    have h7 : ((n : Int) * (a.length : Int)) ≤ 1000000 := by
      have : ((n * a.length : Nat) : Int) ≤ 1000000 := by rw [Nat.mul_comm]; omega
      simpa using this
    omega
  · intro _ _
    rw [T_len, Int.toNat_natCast]
    unfold Builtin.Str.tooLong
    have : sizeLine = 16777216 := by decide
    rw [this]
    exact decide_eq_false (by omega)
section
variable {X : Cx}
theorem opr_sub {f : Value → Value → Sem Value} {r r' : R2} (h : OpR X f r) (k : ∀ x y H Q, r' x y H Q → r x y H Q) : OpR X f r' := fun pins s σ H x y v u Q I rx ry q => h pins s σ H x y v u Q I rx ry (k _ _ _ _ q)
theorem mtr_sub {id : String} {r r' : V → List V → Hp → VK → Prop} (h : MtR X id r) (k : ∀ x y H Q, r' x y H Q → r x y H Q) : MtR X id r' := by
  intro pins s σ H x xs v us Q I rx rs
  first | (intro q; exact h pins s σ H x xs v us Q I rx rs (k _ _ _ _ q)) | (intro e q; exact h pins s σ H x xs v us Q I rx rs e (k _ _ _ _ q))
theorem slr_sub {r r' : V → Option Int → Option Int → Hp → VK → Prop} (h : SlR X r) (k : ∀ x y z H Q, r' x y z H Q → r x y z H Q) : SlR X r' := by
  intro pins s σ H x v vl vu lo hi sl Q I rx hs pl pu q
  exact h pins s σ H x v vl vu lo hi sl Q I rx hs pl pu (k _ _ _ _ _ q)
theorem ixr_sub {r r' : R2} (h : IxR X r) (k : ∀ x y H Q, r' x y H Q → r x y H Q) : IxR X r' := by
  intro value slice pins s σ H x y v u Q I rx ry q hs
  exact h value slice pins s σ H x y v u Q I rx ry (k _ _ _ _ q) hs
theorem pe_strT {x : Str} {j : Nat} {pos : Pos} (l : List Nat) (h : x = T l) : PE X (.Constant (.str x) j pos) (tC (.str (T l))) := by
  subst h
  exact pe_str
theorem op_addT : OpR X (binaryOp .Add) (fun x y H Q => ∃ a b, x = .str (T a) ∧ y = .str (T b) ∧ a.length + b.length ≤ sizeLine ∧ Q (.str (T (a ++ b))) H) :=
  opr_sub op_add_str fun x y H Q ⟨a, b, ha, hb, hl, q⟩ => ⟨_, _, ha, hb, by rw [T_len, T_len]; exact hl, by rw [T_app]; exact q⟩
theorem op_mulT : OpR X (binaryOp .Mult) (fun x y H Q => ∃ (a : List Nat) (n : Nat), x = .str (T a) ∧ y = .int (n : Int) ∧ a.length * n ≤ 1000000 ∧ n < 1000000 ∧ Q (.str (T (rep n a))) H) := by
  intro pins s σ H x y v u Q I rx ry h
  obtain ⟨a, n, rfl, rfl, hl, hn, q⟩ := h
  obtain ⟨t, rfl⟩ := rx
  obtain ⟨t', rfl⟩ := ry
  refine SB.mul (mulOk_T hl hn) fun t2 k => ?_
  rw [mul_T]
  exact ⟨.str _, H, I.tok _, ⟨_, rfl⟩, q⟩
theorem op_ltT' : OpR X (compareOp .Lt) (fun x y H Q => ∃ a b, x = .str (T a) ∧ y = .str (T b) ∧ Q (.bl (decide (a < b))) H) :=
  opr_sub op_lt_str fun x y H Q ⟨a, b, ha, hb, q⟩ => ⟨_, _, ha, hb, by rw [T_list, T_list]; exact q⟩
theorem op_eqT : OpR X (compareOp .Eq) (fun x y H Q => ∃ a b, x = .str (T a) ∧ y = .str (T b) ∧ Q (.bl (decide (a = b))) H) :=
  opr_sub op_eq fun x y H Q ⟨a, b, ha, hb, q⟩ => by
    subst ha hb
    exact ⟨rfl, by rw [T_eq]; exact q⟩
theorem op_neT : OpR X (compareOp .NotEq) (fun x y H Q => ∃ a b, x = .str (T a) ∧ y = .str (T b) ∧ Q (.bl (!decide (a = b))) H) :=
  opr_sub op_ne fun x y H Q ⟨a, b, ha, hb, q⟩ => by
    subst ha hb
    exact ⟨rfl, by rw [T_eq]; exact q⟩
def CPowX (i j : Int) : Prop := 0 ≤ j ∧ ∃ k : Nat, i.natAbs < 2 ^ k ∧ (k : Int) * j ≤ 2 ^ 27
theorem op_powX : OpR X (binaryOp .Pow) (rI CPowX fun i j => .int (i ^ j.toNat)) := opI fun i j _ _ _ _ _ hc q => by
  obtain ⟨h0, k, hk, hb⟩ := hc
  refine pow_int h0 ?_ q
  have h1 := intBits_le hk
  exact Int.le_trans (Int.mul_le_mul_of_nonneg_right (by omega) h0) hb
/-! slices of texts -/
def cutL (z : List Nat) (lo hi : Option Int) : List Nat := (z.drop (HT.sIx z.length 0 lo)).take (HT.sIx z.length z.length hi - HT.sIx z.length 0 lo)
theorem cut_T (z : List Nat) (lo hi : Option Int) : cutS (T z) lo hi = T (cutL z lo hi) := by
  unfold cutS
  rw [T_list, T_len]
  rfl
theorem sl_T : SlR X (fun x lo hi H Q => ∃ z, x = .str (T z) ∧ z.length ≤ sizeLine ∧ Q (.str (T (cutL z lo hi))) H) :=
  slr_sub sl_str fun x lo hi H Q ⟨z, hz, hl, q⟩ => ⟨_, hz, by rw [T_len]; exact hl, by rw [cut_T]; exact q⟩
theorem cut_hi (z : List Nat) (k : Nat) : cutL z none (some (k : Int)) = z.take k := by
  unfold cutL
  rw [HT.sIx_none, HT.sIx_nat, List.drop_zero, Nat.sub_zero]
  by_cases h : k ≤ z.length
  · rw [Nat.min_eq_left h]
  · rw [Nat.min_eq_right (by omega), List.take_length, List.take_of_length_le (by omega)]
theorem cut_lo (z : List Nat) (k : Nat) : cutL z (some (k : Int)) none = z.drop k := by
  unfold cutL
  rw [HT.sIx_none, HT.sIx_nat]
  by_cases h : k ≤ z.length
  · rw [Nat.min_eq_left h, List.take_of_length_le (by rw [List.length_drop]; omega)]
  · rw [Nat.min_eq_right (by omega), List.drop_length, List.drop_of_length_le (by omega)]
    simp
theorem cut_both (z : List Nat) (i j : Nat) : cutL z (some (i : Int)) (some (j : Int)) = (z.drop i).take (j - i) := by
  unfold cutL
  rw [HT.sIx_nat, HT.sIx_nat]
  by_cases h : i ≤ z.length
  · rw [Nat.min_eq_left h]
    by_cases h2 : j ≤ z.length
    · rw [Nat.min_eq_left h2]
    · rw [Nat.min_eq_right (a := j) (by omega), List.take_of_length_le (by rw [List.length_drop]; omega), List.take_of_length_le (by rw [List.length_drop]; omega)]
  · rw [Nat.min_eq_right (a := i) (by omega), List.drop_length, List.drop_of_length_le (by omega)]
    simp
theorem cut_last (z : List Nat) : cutL z none (some (-1)) = z.dropLast := by
  unfold cutL
  rw [HT.sIx_none, List.drop_zero, Nat.sub_zero, List.dropLast_eq_take]
  congr 1
  unfold HT.sIx
  split
  · rename_i h; cases h
  · rename_i v h
    cases h
    first | rfl | (split <;> omega) | omega
theorem ix_T : IxR X (fun x y H Q => ∃ z i c, x = .str (T z) ∧ y = .int i ∧ z.length ≤ sizeLine ∧ atI z i = some c ∧ Q (.str (T [c])) H) :=
  ixr_sub ix_str fun x y H Q ⟨z, i, c, hx, hy, hl, ha, q⟩ => ⟨_, i, c, hx, hy, by rw [T_len]; exact hl, by rw [T_list]; exact ha, q⟩
/-! joining with nothing between -/
theorem join_nil : ∀ ys : List (List Nat), Txt.join (T []) (ys.map T) = T ys.flatten := by
  intro ys
  show Builtin.Str.glued (T []) (ys.map T) = _
  rw [StrLaws.glued_eq_join]
  induction ys with
  | nil => rfl
  | cons a r ih =>
    cases r with
    | nil => show T a = T _; rw [List.flatten_cons]; simp
    | cons b r =>
      show T a ++ T [] ++ Str.join (T []) ((b :: r).map T) = _
      rw [ih, T_app, T_app, List.append_nil, ← List.flatten_cons]
theorem sum_T (ys : List (List Nat)) : ((ys.map T).map (·.length)).sum = ys.flatten.length := by
  induction ys with
  | nil => rfl
  | cons a r ih => simp only [List.map_cons, List.sum_cons, List.flatten_cons, List.length_append, T_len] at ih ⊢; omega
theorem mt_joinT : MtR X "str.join" (fun x xs H Q => ∃ p, ∃ ys : List (List Nat), x = .str (T []) ∧ xs = [.ref p] ∧ SqL X.K H p (ys.map fun y => V.str (T y)) ∧ ys.flatten.length ≤ 1000000 ∧ Q (.str (T ys.flatten)) H) :=
  mtr_sub mt_join fun x xs H Q ⟨p, ys, hx, hxs, hs, hl, q⟩ => by
    refine ⟨_, p, ys.map T, hx, hxs, .inl (by rw [List.map_map]; exact hs), ?_, by rw [join_nil]; exact q⟩
    rw [sum_T, T_len]
    show _ + _ * 0 ≤ _
    omega
/-! places of texts -/
/-- y stands in x at i -/
def At (x y : List Nat) (i : Nat) : Prop := (x.drop i).take y.length = y ∧ i + y.length ≤ x.length
theorem subAt_T (x y : List Nat) (i : Nat) : Builtin.Str.subAt (T x) (T y) i = true ↔ (x.drop i).take y.length = y := by
  unfold Builtin.Str.subAt
  rw [T_len]
  constructor
  · intro h
    have h2 := congrArg Array.toList (eq_of_beq h)
    rw [Array.toList_extract] at h2
    have e1 : (T x).cps.toList = x := T_list x
    have e2 : (T y).cps.toList = y := T_list y
    rw [e1, e2] at h2
    rw [List.extract_eq_take_drop] at h2
    rw [show i + y.length - i = y.length by omega] at h2
    exact h2
  · intro h
    refine beq_iff_eq.mpr ?_
    apply Array.ext'
    rw [Array.toList_extract]
    have e1 : (T x).cps.toList = x := T_list x
    have e2 : (T y).cps.toList = y := T_list y
    rw [e1, e2, List.extract_eq_take_drop]
    rw [show i + y.length - i = y.length by omega]
    exact h
theorem at_T (x y : List Nat) (i : Nat) : StrLaws.At (T x) (T y) (T x).length i ↔ At x y i := by
  unfold StrLaws.At At
  rw [subAt_T, T_len, T_len]
  exact And.comm
theorem op_inT : OpR X (compareOp .In) (fun x y H Q => ∃ a b, x = .str (T a) ∧ y = .str (T b) ∧ (∀ k, (k = true ↔ ∃ i, At b a i) → Q (.bl k) H)) :=
  opr_sub op_in_str fun x y H Q ⟨a, b, ha, hb, q⟩ => ⟨_, _, ha, hb, q _ (by
    rw [StrLaws.found_iff]
    constructor
    · rintro ⟨i, h1, h2⟩; exact ⟨i, (at_T b a i).mp ⟨h1, h2⟩⟩
    · rintro ⟨i, h⟩; have := (at_T b a i).mpr h; exact ⟨i, this.1, this.2⟩)⟩
/-- x.find(y, lo) where y stands at lo or behind -/
theorem mt_findT : MtR X "str.find" (fun x xs H Q => ∃ (a b : List Nat) (lo i : Nat), x = .str (T a) ∧ xs = [.str (T b), .int (lo : Int)] ∧ lo ≤ i ∧ At a b i ∧ (∀ k, lo ≤ k → k < i → ¬ At a b k) ∧ Q (.int (i : Int)) H) :=
  mtr_sub mt_find3 fun x xs H Q ⟨a, b, lo, i, hx, hxs, h1, h2, h3, q⟩ => by
    refine ⟨_, _, _, hx, hxs, ?_⟩
    have e : Txt.find3 (T a) (T b) (lo : Int) = (i : Int) := by
      unfold Txt.find3
      have e0 : fromIndex (T a).length (lo : Int) = lo := by unfold fromIndex; split <;> omega
      rw [e0]
      rcases StrLaws.occ_head_from (T a) (T b) lo 1 (Nat.le_refl _) with ⟨_, hn⟩ | ⟨j, r, e1, e2, e3, e4⟩
      · exact absurd ((at_T a b i).mpr h2) (hn i h1)
      · rw [e1]
        have e5 := (at_T a b j).mp e3
        have : j = i := by
          rcases Nat.lt_trichotomy j i with h | h | h
          · exact absurd e5 (h3 j e2 h)
          · exact h
          · exact absurd ((at_T a b i).mpr h2) (e4 i h1 h)
        rw [this]
    rw [e]
    exact q
def Bin (l : List Nat) : Prop := ∀ c ∈ l, c = 48 ∨ c = 49
theorem strip_T {a : List Nat} (h : Bin a) : Txt.stripChars (T a) (T [48, 49]) = T [] := by
  unfold Txt.stripChars Txt.stripBy
  have tw : ∀ l : List Nat, Bin l → l.takeWhile (T [48, 49]).cps.contains = l := by
    intro l hl
    induction l with
    | nil => rfl
    | cons c r ih =>
      have hc : (T [48, 49]).cps.contains c = true := by
        rcases hl c List.mem_cons_self with rfl | rfl <;> decide +kernel
      rw [List.takeWhile_cons, if_pos hc, ih fun d hd => hl d (List.mem_cons_of_mem _ hd)]
  have lo : stripLo (T [48, 49]).cps.contains true (T a) = a.length := by
    unfold stripLo
    rw [if_pos rfl, T_list, tw a h]
  unfold stripSame stripped
  rw [lo]
  by_cases h0 : a = []
  · subst h0
    split <;> rfl
  · have h1 : (a.length == 0) = false := by
      rw [beq_eq_false_iff_ne]
      exact fun q => h0 (List.eq_nil_of_length_eq_zero q)
    rw [h1, Bool.false_and, if_neg Bool.false_ne_true]
    unfold stripHi
    rw [if_pos rfl, T_list, T_len, List.drop_length]
    unfold Builtin.Str.strSub T
    simp
theorem mt_stripT : MtR X "str.strip" (fun x xs H Q => ∃ a, x = .str (T a) ∧ xs = [.str (T [48, 49])] ∧ Bin a ∧ a.length ≤ sizeLine ∧ Q (.str (T [])) H) :=
  mtr_sub mt_stripChars fun x xs H Q ⟨a, hx, hxs, hb, hl, q⟩ => ⟨_, _, hx, hxs, by rw [T_len]; exact hl, by rw [strip_T hb]; exact q⟩
theorem call_lenT : CallR X (.builtin "len") (fun xs H Q => ∃ z, xs = [.str (T z)] ∧ z.length ≤ sizeLine ∧ Q (.int (z.length : Int)) H) := by
  intro pins s σ H xs us Q I rx h
  obtain ⟨z, e, hl, q⟩ := h
  exact call_len_str pins s σ H xs us Q I rx ⟨_, e, by rw [T_len]; exact hl, by rw [T_len]; exact q⟩
end
end HC

namespace HC
open PySem PySem.Spec PyProof.Rows L2
/-! ## calls by keywords alone -/
section
variable {X : Cx} {CX : CXT} {k : Nat} {f : Addr} {fd : FuncData} {ps ks : List Str} {sp : Sp} {E : XK} {x : Str} {p pos : Pos} {kws : List Keyword} {tk : TA} {g : List Value → List Value → List Value} {gV : List V → List V → List V}
theorem pe_callK0 (F : FnOk X.prog X.w X.K X.mg X.base CX k f fd ps sp) (hr : Room k X.A) (hg : Gl X x) (hm : X.mg x = some (.ref f)) (hk : PySem.W.keepIn X.K (.ref f) = true) (hb : KBinds X.K fd ps ks g gV) (hx : Passes CX X E)
    (hkw : PK X kws tk) (hall : (backToKw pos (keywordEach kws X.env)).all (·.1.isSome) = true := by rfl) (hks : (backToKw pos (keywordEach kws X.env)).filterMap (·.1) = ks := by rfl)
    (hdb : (x == ("__debug__" : Str)) = false := by decide)
    (hpl : ((backTo pos (starEach [] X.env)).any (·.1) || (backToKw pos (keywordEach kws X.env)).any (·.1.isNone)) = false := by rfl) :
    PE X (.Call (.Name x p) [] kws pos) (tCallK sp gV E tNil tk) := by
  refine ⟨fun pins s σ H Q I h => ?_⟩
  refine wpAny_Call_Name_kw (ld_glob I hg hm ?_ hdb)
  refine PySem.W.callWith_KW0 (h₀ := X.base) I.ok.mod.kin hk hall (thn (hkw.run pos pins s σ H _ I h) fun ws s2 ⟨zs, H2, I2, rz, q2⟩ => ⟨I2.kIn, ?_⟩) hpl
  rw [hks]
  exact run_fnk (us := []) (vs := []) F hr hb hx I2 .nil rz q2
end
/-- two keywords, the other way round -/
def swG {α : Type} (us ws : List α) : List α := match us, ws with
  | [], [a, b] => [b, a]
  | _, _ => []
theorem swRel {vs : List V} {us : List Value} {zs : List V} {ws : List Value} (r : Vals vs us) (q : Vals zs ws) : Vals (swG vs zs) (swG us ws) := by
  cases r with
  | cons => exact .nil
  | nil =>
    cases q with
    | nil => exact .nil
    | cons q1 q =>
      cases q with
      | nil => exact .nil
      | cons q2 q =>
        cases q with
        | nil => exact .cons q2 (.cons q1 .nil)
        | cons => exact .nil
theorem kb_swap {K : PySem.W.Frag} {fd : FuncData} {p q : Str} (h : ∀ a b : Value, bindArgs fd ⟨[], [(q, a), (p, b)]⟩ = pure [(p, b), (q, a)]) : KBinds K fd [p, q] [q, p] swG swG where
  to := fun s us ws _ hl => by
    match us, ws, hl with
    | [], [a, b], _ => exact .of_eq (h a b)
    | [], [], hl => simp [swG] at hl
    | [], [_], hl => simp [swG] at hl
    | [], _ :: _ :: _ :: _, hl => simp [swG] at hl
    | _ :: _, _, hl => simp [swG] at hl
  rel := swRel
/-! ## the built-ins' names are free -/
structure Blt (mg : Str → Option Value) : Prop where
  len : mg "len" = none
  abs : mg "abs" = none
  max : mg "max" = none
  min : mg "min" = none
  range : mg "range" = none
  int : mg "int" = none
  list : mg "list" = none
  sorted : mg "sorted" = none
/-! ## heaps: all but the pool stays -/
def SB (p : Addr) (H H' : Hp) : Prop := ∀ b o, H b = some o → b ≠ p → H' b = some o
theorem SB.refl {p : Addr} {H : Hp} : SB p H H := fun _ _ h _ => h
theorem SB.trans {p : Addr} {H H1 H2 : Hp} (a : SB p H H1) (b : SB p H1 H2) : SB p H H2 := fun c o h n => b c o (a c o h n) n
theorem SB.of {p : Addr} {H H' : Hp} (s : Same H H') : SB p H H' := fun c o h _ => s c o h
theorem SB.upd {p : Addr} {H : Hp} {o : HO} : SB p H (upd H p o) := fun c u h n => by rw [upd_ne n]; exact h
theorem Same.new {H : Hp} {q : Addr} {o : HO} (hq : H q = none) : Same H (upd H q o) := fun c u h => by rw [upd_ne (ne_of_none h hq)]; exact h
/-- the pool of numbers that a law draws from, n of them drawn at most -/
def PoolAt (H : Hp) (p : Addr) (n : Nat) : Prop := ∃ (a b : Int) (c : Nat), H p = some (.lst [.int a, .int b, .int (c : Int)]) ∧ 0 ≤ a ∧ 0 ≤ b ∧ b < 2 ^ 62 ∧ c ≤ n
theorem PoolAt.mono {H : Hp} {p : Addr} {n m : Nat} (h : PoolAt H p n) (k : n ≤ m) : PoolAt H p m := by
  obtain ⟨a, b, c, h1, h2, h3, h4, h5⟩ := h
  exact ⟨a, b, c, h1, h2, h3, h4, Nat.le_trans h5 k⟩
theorem PoolAt.same {H H' : Hp} {p : Addr} {n : Nat} (h : PoolAt H p n) (s : Same H H') : PoolAt H' p n := by
  obtain ⟨a, b, c, h1, h2, h3, h4, h5⟩ := h
  exact ⟨a, b, c, s _ _ h1, h2, h3, h4, h5⟩
theorem PoolAt.new {H : Hp} {p q : Addr} {n : Nat} {o : HO} (h : PoolAt H p n) (hq : H q = none) : PoolAt (L2.upd H q o) p n := h.same (Same.new hq)
theorem PoolAt.ne {H : Hp} {p q : Addr} {n : Nat} (h : PoolAt H p n) (hq : H q = none) : q ≠ p := by
  obtain ⟨a, b, c, h1, _⟩ := h
  exact (ne_of_none h1 hq).symm
/-- a moment as a tuple -/
def MomAt (H : Hp) (t : Addr) (h r : List Nat) : Prop := H t = some (.tup [.str (T h), .str (T r)])
theorem MomAt.sb {H H' : Hp} {t p : Addr} {h r : List Nat} {n : Nat} (m : MomAt H t h r) (P : PoolAt H p n) (s : SB p H H') : MomAt H' t h r := by
  obtain ⟨a, b, c, h1, _⟩ := P
  exact s _ _ m (ne_of m h1 (by intro z; cases z))
theorem MomAt.same {H H' : Hp} {t : Addr} {h r : List Nat} (m : MomAt H t h r) (s : Same H H') : MomAt H' t h r := s _ _ m
theorem MomAt.new {H : Hp} {t q : Addr} {h r : List Nat} {o : HO} (m : MomAt H t h r) (hq : H q = none) : MomAt (L2.upd H q o) t h r := m.same (Same.new hq)
theorem atI_of {α : Type} {xs : List α} {i : Nat} {x : α} (h : xs[i]? = some x) : atI xs (i : Int) = some x := atI_nat h
/-! ## data of texts -/
def Cod (l : List Nat) : Prop := ∀ c ∈ l, c < 1114112
theorem Bin.cod {l : List Nat} (h : Bin l) : Cod l := fun c hc => by rcases h c hc with e | e <;> omega
theorem strOk_T {l : List Nat} (h : Cod l) : PyData.strOk (T l) = true := by
  unfold PyData.strOk T
  simp only [List.all_toArray, List.all_eq_true, decide_eq_true_eq]
  exact h
/-! ## promises of what draws -/
def spPool (K : PySem.W.Frag) : Sp := fun vs H Q _ => ∃ (a : Addr) (ns : List Int) (i : Nat), vs = [.ref a, .int (i : Int)] ∧ SqL K H a (ns.map V.int) ∧ i ≤ 1000 ∧
  ∀ H' p, Same H H' → H p = none → PoolAt H' p 0 → Q (.ref p) H'
def spDraw : Sp := fun vs H Q _ => ∃ (p : Addr) (m n : Nat), vs = [.ref p, .int (m : Int)] ∧ PoolAt H p n ∧ n < 2 ^ 30 ∧ 0 < m ∧ m < 2 ^ 200 ∧
  ∀ H' (r : Nat), SB p H H' → PoolAt H' p (n + 1) → r < m → Q (.int (r : Int)) H'
end HC

namespace HC
open PySem PySem.Spec PyProof.Rows L2
/-! ## ranges of great numbers -/
theorem long_turn {P : Program} {w : World} {K : PySem.W.Frag} {tg : Expr} (j : Addr) (lo : Int) (n : Nat) :
    Turn P w K tg (Itr lo n) [j] j (fun m h => IsLongIter h j (lo + (m : Nat) * 1) ((n : Int) - (m : Nat)) 1) where
  mem := List.mem_singleton.mpr rfl
  obj := fun m h st b hb => by
    obtain rfl : b = j := List.mem_singleton.mp hb
    exact ⟨_, st, fun c z => by
      have z2 : Data.fields _ = Data.cell c := z
      cases z2⟩
  keep := fun m h h2 st kk => kk j (List.mem_singleton.mpr rfl) _ st
  item := by
    intro Y e1 e2 e3 cm m pn s0 τ G F J fp st go
    subst e1 e2 e3
    obtain ⟨f0, f1, f2, f3, f4, f5⟩ := fp j (List.mem_singleton.mpr rfl)
    refine (Walks.longrange (prog := Y.prog) (w := Y.w) (J.ok.hd cm) j lo 1 n).item m s0 _ _ go st fun v h2 tk hv st2 kk => ?_
    obtain ⟨t, rfl⟩ := hv
    have J2 : L2.Inv Y pn τ G { s0 with heap := h2, toks := tk } := J.turned (fun b o hb e => kk b o (fun q => hb (List.mem_singleton.mp q)) e) f0 f1 f3 f4 f5
    refine ⟨_, rfl, go_of (s := { s0 with heap := h2, toks := tk }) (n := "longrange_iterator") st2 rfl rfl (by decide) ⟨.int (lo + m), G, J2, ⟨t, ?_⟩, ⟨rfl, rfl⟩, st2, fun b hb => (fp b hb).1⟩⟩
    rw [Int.mul_one]
  done := by
    intro Y e1 e2 e3 cm m pn s0 τ G F J fp st go
    subst e1 e2 e3
    obtain ⟨f0, f1, f2, f3, f4, f5⟩ := fp j (List.mem_singleton.mpr rfl)
    have go2 : n ≤ m := go
    exact wpAny_pyNext_long_end (J.ok.hd cm) st (by omega) fun h2 eb => ⟨rfl, J.turned (t' := s0.toks) (fun b o hb e => eb b o hb e) f0 f1 f3 f4 f5⟩
  self := fun _ _ _ _ _ st q => wpAny_pyIter_longiter st q
section
variable {X : Cx} {tg : Expr}
/-- range(a, b), both of any size -/
def iRngL (ta : TA) : TI := fun σ H R => ta σ H fun vs H1 => ∃ i j : Int, vs = [.int i, .int j] ∧ R (Itr i (j - i).toNat) H1
theorem long_it {pn : List (Addr × Obj)} {σ : L2.St} {H : Hp} {s : Shared} {R : It → Hp → Prop} {E : Value → Shared → Prop} {lo hi : Int} {t u v : Tok} {tk : Nat} (I : L2.Inv X pn σ H s) (q : R (Itr lo (hi - lo).toNat) H) :
    wpAny (model X.prog X.w) X.A (pyIter (.ref s.heap.objs.size)) (PIE X pn σ tg R) E { s with heap := s.heap.push { cls := .type "range", data := .fields #[.int lo t, .int hi u, .int 1 v] }, toks := tk } := by
  have J1 : L2.Inv X pn σ H { s with heap := s.heap.push { cls := .type "range", data := .fields #[.int lo t, .int hi u, .int 1 v] }, toks := tk } := I.kept fun b o e => Heap.get?_push_of_some _ e
  have e1 : lo + ((0 : Nat) : Int) * 1 = lo := by simp
  have e2 : (((hi - lo).toNat : Nat) : Int) - ((0 : Nat) : Int) = Builtin.Range.rangeSize lo hi 1 := by rw [rangeSize_one]; split <;> omega
  by_cases c : Builtin.Range.small lo hi 1 = true
  · refine wpAny_pyIter_range (IsRange.new ..) c ?_
    refine ⟨_, [_], _, _, H, rfl, J1.kept (t' := tk) fun b o e => Heap.get?_push_of_some _ e, turn_range _ lo (hi - lo).toNat, ?_, fun b hb => ?_, q⟩
    · show IsRangeIter _ _ (lo + ((0 : Nat) : Int) * 1) ((((hi - lo).toNat : Nat) : Int) - ((0 : Nat) : Int)) 1
      rw [e1, e2]
      exact Heap.get?_push_size _ rfl
    · obtain rfl := List.mem_singleton.mp hb
      exact J1.fpOk (Nat.le_refl _) (J1.hok.fresh (Nat.le_refl _))
  · refine wpAny_pyIter_longrange (IsRange.new ..) (by simpa using c) ?_
    refine ⟨_, [_], _, _, H, rfl, J1.kept (t' := tk) fun b o e => Heap.get?_push_of_some _ e, long_turn _ lo (hi - lo).toNat, ?_, fun b hb => ?_, q⟩
    · show IsLongIter _ _ (lo + ((0 : Nat) : Int) * 1) ((((hi - lo).toNat : Nat) : Int) - ((0 : Nat) : Int)) 1
      rw [e1, e2]
      exact Heap.get?_push_size _ rfl
    · obtain rfl := List.mem_singleton.mp hb
      exact J1.fpOk (Nat.le_refl _) (J1.hok.fresh (Nat.le_refl _))
theorem pi_rangeL {a b : Expr} {ta : TA} {p pos : Pos} (hg : Gl X "range") (hm : X.mg "range" = none) (ha : PA X [a, b] ta) (g1 : starEach [a, b] X.env = [(false, eval a X.env), (false, eval b X.env)] := by rfl) (g2 : starEach [b] X.env = [(false, eval b X.env)] := by rfl) :
    PI X tg (.Call (.Name "range" p) [a, b] [] pos) (iRngL ta) := by
  refine ⟨fun pn s σ H R I h => ?_⟩
  refine Call_ (ld_blt I hg hm boot_range (PyProof.Rows.callWith_type1 (thn (ha.run pos pn s σ H _ I h) fun us s1 ⟨vs, H1, I1, r1, q1⟩ => ?_) (by rw [g1, g2]) (by rw [g2]; rfl)))
  obtain ⟨i, j, e, q⟩ := q1
  subst e
  cases r1 with | cons ra rb => cases rb with | cons rc rd =>
    cases rd
    obtain ⟨ta1, rfl⟩ := ra
    obtain ⟨tb1, rfl⟩ := rc
    exact call_range_2 (long_it I1 q)
end
end HC

namespace HC
open PySem PySem.Spec PyProof.Rows L2
/-! ## sequences -/
theorem tYes_if {σ : L2.St} {H : Hp} {A B : Hp → Prop} (h : A H) : tYes σ H fun b H3 => if b = true then A H3 else B H3 := by
  show if true = true then A H else B H
  rw [if_pos rfl]
  exact h
/-- the signs of a ring, for ever -/
def cyc (r : List Nat) (i : Nat) : Nat := r.getD (i % r.length) 0
def val (h r : List Nat) (i : Nat) : Nat := if i < h.length then h.getD i 0 else cyc r (i - h.length)
/-- the first signs of a moment -/
def sg (h r : List Nat) (n : Nat) : List Nat := (h ++ rep (n / r.length + 1) r).take n
def L (n : Nat) (f : Nat → Nat) : List Nat := (List.range n).map f
theorem L_len (n : Nat) (f : Nat → Nat) : (L n f).length = n := by unfold L; simp
theorem L_get {n : Nat} {f : Nat → Nat} {i : Nat} (h : i < n) : (L n f)[i]? = some (f i) := by
  unfold L
  rw [List.getElem?_map, List.getElem?_range h]
  rfl
theorem L_ext {n : Nat} {f : Nat → Nat} {l : List Nat} (h1 : l.length = n) (h2 : ∀ i, i < n → l[i]? = some (f i)) : l = L n f := by
  apply List.ext_getElem?
  intro i
  by_cases h : i < n
  · rw [h2 i h, L_get h]
  · rw [List.getElem?_eq_none (by omega), List.getElem?_eq_none (by rw [L_len]; omega)]
theorem L_eq {n : Nat} {f g : Nat → Nat} : L n f = L n g ↔ ∀ i, i < n → f i = g i := by
  constructor
  · intro h i hi
    have := L_get (f := f) hi
    rw [h, L_get hi] at this
    exact (Option.some.inj this).symm
  · intro h
    exact L_ext (L_len n f) fun i hi => by rw [L_get hi, h i hi]
theorem cyc_get {r : List Nat} (hr : 1 ≤ r.length) (i : Nat) : r[i % r.length]? = some (cyc r i) := by
  have : i % r.length < r.length := Nat.mod_lt _ hr
  unfold cyc
  rw [List.getD_eq_getElem?_getD, List.getElem?_eq_getElem this]
  rfl
theorem cyc_lt {r : List Nat} {i : Nat} (h : i < r.length) : r[i]? = some (cyc r i) := by
  have := cyc_get (r := r) (by omega) i
  rwa [Nat.mod_eq_of_lt h] at this
theorem cyc_add (r : List Nat) (i : Nat) : cyc r (i + r.length) = cyc r i := by
  unfold cyc
  rw [Nat.add_mod_right]
theorem cyc_mul (r : List Nat) (i k : Nat) : cyc r (i + k * r.length) = cyc r i := by
  unfold cyc
  rw [Nat.add_mul_mod_self_right]
theorem cyc_mod (r : List Nat) (i : Nat) : cyc r (i % r.length) = cyc r i := by
  unfold cyc
  rw [Nat.mod_mod]
theorem rep_get {r : List Nat} : ∀ {n i : Nat}, i < n * r.length → (rep n r)[i]? = some (cyc r i)
  | 0, i, h => by simp at h
  | n + 1, i, h => by
    rw [rep_succ]
    by_cases hi : i < r.length
    · rw [List.getElem?_append_left hi]
      exact cyc_lt hi
    · rw [List.getElem?_append_right (by omega)]
      rw [Nat.succ_mul] at h
      rw [rep_get (n := n) (i := i - r.length) (by omega)]
      have : i = (i - r.length) + r.length := by omega
      rw [this, cyc_add, Nat.add_sub_cancel]
theorem sg_eq {h r : List Nat} (hr : 1 ≤ r.length) (n : Nat) : sg h r n = L n (val h r) := by
  have h0 : n < (n / r.length + 1) * r.length := by
    have := Nat.lt_div_mul_add (a := n) (show 0 < r.length by omega)
    rw [Nat.succ_mul]; omega
  apply L_ext
  · unfold sg
    rw [List.length_take, List.length_append, rep_len]
    omega
  · intro i hi
    unfold sg val
    rw [List.getElem?_take_of_lt hi]
    by_cases h1 : i < h.length
    · rw [List.getElem?_append_left h1, if_pos h1, List.getD_eq_getElem?_getD, List.getElem?_eq_getElem h1]
      rfl
    · rw [List.getElem?_append_right (by omega), if_neg h1]
      exact rep_get (by omega)
/-- two sequences that repeat, alike for as long as both rings together -/
theorem wilf {f g : Nat → Nat} {a p q : Nat} (hp : 1 ≤ p) (hq : 1 ≤ q) (hf : ∀ i, a ≤ i → f (i + p) = f i) (hg : ∀ i, a ≤ i → g (i + q) = g i) (h : ∀ i, i < a + p + q → f i = g i) : ∀ i, f i = g i := by
  intro i
  induction i using Nat.strongRecOn with
  | _ i ih =>
    by_cases hi : i < a + p + q
    · exact h i hi
    · have e1 : f i = f (i - p) := by have := hf (i - p) (by omega); rwa [Nat.sub_add_cancel (by omega)] at this
      have e2 : g (i - p) = g (i - p - q) := by have := hg (i - p - q) (by omega); rwa [Nat.sub_add_cancel (by omega)] at this
      have e3 : f (i - q) = f (i - q - p) := by have := hf (i - q - p) (by omega); rwa [Nat.sub_add_cancel (by omega)] at this
      have e4 : g i = g (i - q) := by have := hg (i - q) (by omega); rwa [Nat.sub_add_cancel (by omega)] at this
      have e5 : i - p - q = i - q - p := by omega
      rw [e1, ih (i - p) (by omega), e2, e5, ← ih (i - q - p) (by omega), ← e3, ih (i - q) (by omega), e4]
theorem val_per (h r : List Nat) {a i : Nat} (ha : h.length ≤ a) (hi : a ≤ i) : val h r (i + r.length) = val h r i := by
  unfold val
  rw [if_neg (by omega), if_neg (by omega)]
  have : i + r.length - h.length = (i - h.length) + r.length := by omega
  rw [this, cyc_add]
/-- the order by the first place that differs -/
theorem L_lt : ∀ {n : Nat} {f g : Nat → Nat}, L n f < L n g ↔ ∃ i, i < n ∧ (∀ j, j < i → f j = g j) ∧ f i < g i
  | 0, f, g => by
    constructor
    · intro h
      exact absurd h (List.lt_irrefl _)
    · rintro ⟨i, h, _⟩
      omega
  | n + 1, f, g => by
    have e : ∀ k : Nat → Nat, L (n + 1) k = k 0 :: L n (fun i => k (i + 1)) := fun k => by
      unfold L
      rw [List.range_succ_eq_map, List.map_cons, List.map_map]
      rfl
    rw [e f, e g, List.cons_lt_cons_iff, L_lt (n := n)]
    constructor
    · rintro (h | ⟨h, i, h1, h2, h3⟩)
      · exact ⟨0, by omega, fun j hj => by omega, h⟩
      · refine ⟨i + 1, by omega, fun j hj => ?_, h3⟩
        cases j with
        | zero => exact h
        | succ j => exact h2 j (by omega)
    · rintro ⟨i, h1, h2, h3⟩
      cases i with
      | zero => exact .inl h3
      | succ i => exact .inr ⟨h2 0 (by omega), i, by omega, fun j hj => h2 (j + 1) (by omega), h3⟩
/-- the sequence is ahead of the other -/
def Bef (f g : Nat → Nat) : Prop := ∃ i, (∀ j, j < i → f j = g j) ∧ f i < g i
theorem bef_iff {h1 r1 h2 r2 : List Nat} {m : Nat} (k1 : 1 ≤ r1.length) (k2 : 1 ≤ r2.length) (hm : max h1.length h2.length + r1.length + r2.length ≤ m) : sg h1 r1 m < sg h2 r2 m ↔ Bef (val h1 r1) (val h2 r2) := by
  rw [sg_eq k1, sg_eq k2, L_lt]
  constructor
  · rintro ⟨i, _, h⟩
    exact ⟨i, h⟩
  · rintro ⟨i, h3, h4⟩
    by_cases hi : i < m
    · exact ⟨i, hi, h3, h4⟩
    · have := wilf (a := max h1.length h2.length) k1 k2 (fun i hi => val_per h1 r1 (Nat.le_max_left _ _) hi) (fun i hi => val_per h2 r2 (Nat.le_max_right _ _) hi) (fun j hj => h3 j (by omega)) i
      omega
/-! ## rings that are turned -/
def Tail (a b : List Nat) : Prop := ∃ s, ∀ i, cyc a i = cyc b (i + s)
theorem Tail.refl (a : List Nat) : Tail a a := ⟨0, fun _ => rfl⟩
theorem Tail.symm {a b : List Nat} (hb : 1 ≤ b.length) (h : Tail a b) : Tail b a := by
  obtain ⟨s, h⟩ := h
  refine ⟨s * (b.length - 1), fun i => ?_⟩
  rw [h]
  have : i + s * (b.length - 1) + s = i + s * b.length := by
    have : s * b.length = s * (b.length - 1) + s := by
      conv => lhs; rw [show b.length = (b.length - 1) + 1 by omega]
      rw [Nat.mul_succ]
    omega
  rw [this, cyc_mul]
def Inv (r : List Nat) (k : Nat) : Prop := ∀ i, cyc r (i + k) = cyc r i
theorem dbl_get {r : List Nat} {i : Nat} (h : i < r.length + r.length) : (r ++ r)[i]? = some (cyc r i) := by
  by_cases h1 : i < r.length
  · rw [List.getElem?_append_left h1, cyc_lt h1]
  · rw [List.getElem?_append_right (by omega), cyc_lt (by omega)]
    have : i = (i - r.length) + r.length := by omega
    rw [this, cyc_add, Nat.add_sub_cancel]
/-- b stands in a, written twice, at k -/
theorem at_cyc {a b : List Nat} {k : Nat} (hk : k + b.length ≤ a.length + a.length) : At (a ++ a) b k ↔ ∀ i, i < b.length → cyc a (i + k) = cyc b i := by
  unfold At
  constructor
  · rintro ⟨h, _⟩ i hi
    have e : (((a ++ a).drop k).take b.length)[i]? = b[i]? := by rw [h]
    rw [List.getElem?_take_of_lt hi, List.getElem?_drop, dbl_get (by omega), cyc_lt hi, Nat.add_comm k i] at e
    exact Option.some.inj e
  · intro h
    refine ⟨?_, by rw [List.length_append]; exact hk⟩
    apply List.ext_getElem?
    intro i
    by_cases hi : i < b.length
    · rw [List.getElem?_take_of_lt hi, List.getElem?_drop, dbl_get (by omega), cyc_lt hi, Nat.add_comm k i, h i hi]
    · rw [List.getElem?_eq_none (by rw [List.length_take]; omega), List.getElem?_eq_none (by omega)]
theorem at_inv {r : List Nat} {k : Nat} (hr : 1 ≤ r.length) (hk : k ≤ r.length) : At (r ++ r) r k ↔ Inv r k := by
  rw [at_cyc (by omega)]
  constructor
  · intro h i
    have := h (i % r.length) (Nat.mod_lt _ hr)
    rw [cyc_mod] at this
    rw [← this]
    conv => lhs; rw [← Nat.mod_add_div i r.length]
    rw [Nat.mul_comm, show i % r.length + i / r.length * r.length + k = i % r.length + k + i / r.length * r.length by omega, cyc_mul]
  · intro h i _
    exact h i
/-- the shortest ring's length -/
structure Per (r : List Nat) (k : Nat) : Prop where
  pos : 1 ≤ k
  le : k ≤ r.length
  inv : Inv r k
  least : ∀ j, 1 ≤ j → j < k → ¬ Inv r j
theorem per_exists {r : List Nat} (hr : 1 ≤ r.length) : ∃ k, Per r k := by
  have key : ∀ n, (∃ k, k ≤ n ∧ 1 ≤ k ∧ Inv r k) → ∃ k, k ≤ n ∧ 1 ≤ k ∧ Inv r k ∧ ∀ j, 1 ≤ j → j < k → ¬ Inv r j := by
    intro n
    induction n with
    | zero =>
      rintro ⟨k, h1, h2, _⟩
      omega
    | succ n ih =>
      rintro ⟨k, h1, h2, h3⟩
      by_cases c : ∃ k, k ≤ n ∧ 1 ≤ k ∧ Inv r k
      · obtain ⟨k, a1, a2⟩ := ih c
        exact ⟨k, by omega, a2⟩
      · have : k = n + 1 := Classical.byContradiction fun hn => c ⟨k, by omega, h2, h3⟩
        subst this
        exact ⟨n + 1, Nat.le_refl _, h2, h3, fun j j1 j2 hj => c ⟨j, by omega, j1, hj⟩⟩
  obtain ⟨k, h1, h2, h3, h4⟩ := key r.length ⟨r.length, Nat.le_refl _, hr, cyc_add r⟩
  exact ⟨k, h2, h1, h3, h4⟩
theorem inv_mul {r : List Nat} {k : Nat} (h : Inv r k) (m i : Nat) : cyc r (i + m * k) = cyc r i := by
  induction m with
  | zero => rw [Nat.zero_mul, Nat.add_zero]
  | succ m ih => rw [Nat.succ_mul, ← Nat.add_assoc, h, ih]
theorem inv_mod {r : List Nat} {k : Nat} (h : Inv r k) (i : Nat) : cyc r (i % k) = cyc r i := by
  conv => rhs; rw [← Nat.mod_add_div i k, Nat.mul_comm, inv_mul h]
theorem Per.len {r : List Nat} {k : Nat} (p : Per r k) : (r.take k).length = k := by rw [List.length_take]; have := p.le; omega
theorem Per.cyc {r : List Nat} {k : Nat} (p : Per r k) (i : Nat) : cyc (r.take k) i = cyc r i := by
  have hk : i % k < k := Nat.mod_lt _ p.pos
  have h1 := cyc_get (r := r.take k) (by rw [p.len]; exact p.pos) i
  rw [p.len, List.getElem?_take_of_lt hk, cyc_lt (by have := p.le; omega), inv_mod p.inv] at h1
  exact (Option.some.inj h1).symm
theorem inv_tail {a b : List Nat} {k : Nat} (t : Tail a b) (h : Inv b k) : Inv a k := by
  obtain ⟨s, t⟩ := t
  intro i
  rw [t, t, show i + k + s = i + s + k by omega, h]
theorem per_tail {a b : List Nat} {j k : Nat} (hb : 1 ≤ b.length) (t : Tail a b) (p : Per a j) (q : Per b k) : j = k := by
  rcases Nat.lt_trichotomy j k with h | h | h
  · exact absurd (inv_tail (t.symm hb) p.inv) (q.least j p.pos h)
  · exact h
  · exact absurd (inv_tail t q.inv) (p.least k q.pos h)
/-- what the program asks is that the tails are one -/
theorem tail_iff {a b : List Nat} {j k : Nat} (hb : 1 ≤ b.length) (p : Per a j) (q : Per b k) : ((a.take j).length = (b.take k).length ∧ ∃ i, At (a.take j ++ a.take j) (b.take k) i) ↔ Tail a b := by
  rw [p.len, q.len]
  constructor
  · rintro ⟨rfl, i, h⟩
    have hi : i + (b.take j).length ≤ (a.take j).length + (a.take j).length := by have := h.2; rwa [List.length_append] at this
    have h2 := (at_cyc hi).mp h
    have ha : 1 ≤ a.length := by have := p.le; have := p.pos; omega
    refine Tail.symm ha ⟨i, fun m => ?_⟩
    have h3 := h2 (m % j) (by rw [q.len]; exact Nat.mod_lt _ p.pos)
    rw [q.cyc, inv_mod q.inv, p.cyc] at h3
    rw [← h3]
    conv => rhs; rw [← Nat.mod_add_div m j, Nat.mul_comm, show m % j + m / j * j + i = m % j + i + m / j * j by omega, inv_mul p.inv]
  · intro t
    have e := per_tail hb t p q
    subst e
    refine ⟨rfl, ?_⟩
    obtain ⟨s, hs⟩ := t.symm hb
    refine ⟨s % j, (at_cyc ?_).mpr ?_⟩
    · rw [p.len, q.len]
      have := Nat.mod_lt s p.pos
      omega
    · intro i _
      rw [p.cyc, q.cyc, hs]
      conv => rhs; rw [← Nat.mod_add_div s j, Nat.mul_comm, ← Nat.add_assoc, inv_mul p.inv]
theorem rot_cyc {r : List Nat} {s : Nat} (hr : 1 ≤ r.length) (hs : s ≤ r.length) (i : Nat) : cyc (r.drop s ++ r.take s) i = cyc r (i + s) := by
  have hl : (r.drop s ++ r.take s).length = r.length := by rw [List.length_append, List.length_drop, List.length_take]; omega
  have h1 := cyc_get (r := r.drop s ++ r.take s) (by omega) i
  rw [hl] at h1
  have hm : i % r.length < r.length := Nat.mod_lt _ hr
  have key : ∀ m, m < r.length → (r.drop s ++ r.take s)[m]? = some (cyc r (m + s)) := by
    intro m hm
    by_cases c : m < r.length - s
    · rw [List.getElem?_append_left (by rw [List.length_drop]; exact c), List.getElem?_drop, Nat.add_comm s m, cyc_lt (by omega)]
    · rw [List.getElem?_append_right (by rw [List.length_drop]; omega), List.length_drop, List.getElem?_take_of_lt (by omega), cyc_lt (by omega)]
      have : m + s = (m - (r.length - s)) + r.length := by omega
      rw [this, cyc_add]
  rw [key _ hm] at h1
  have h2 := Option.some.inj h1
  rw [← h2]
  conv => rhs; rw [← Nat.mod_add_div i r.length, Nat.mul_comm, show i % r.length + i / r.length * r.length + s = i % r.length + s + i / r.length * r.length by omega, cyc_mul]
/-- what the law asks, too -/
theorem turn_iff {a b : List Nat} (ha : 1 ≤ a.length) (hb : 1 ≤ b.length) (h : a.length + b.length ≤ 150) : (∃ s, s < b.length ∧ sg [] a 150 = sg [] (b.drop s ++ b.take s) 150) ↔ Tail a b := by
  have hv : ∀ r : List Nat, val [] r = cyc r := fun r => by
    funext i
    unfold val
    rw [if_neg (by simp)]
    rfl
  constructor
  · rintro ⟨s, hs, e⟩
    have hl : (b.drop s ++ b.take s).length = b.length := by rw [List.length_append, List.length_drop, List.length_take]; omega
    rw [sg_eq ha, sg_eq (by omega), hv, hv, L_eq] at e
    refine ⟨s, wilf (a := 0) ha hb (fun i _ => cyc_add a i) (fun i _ => ?_) (fun i hi => ?_)⟩
    · rw [show i + b.length + s = i + s + b.length by omega, cyc_add]
    · rw [e i (by omega), rot_cyc hb (by omega)]
  · rintro ⟨s, hs⟩
    have hm : s % b.length < b.length := Nat.mod_lt _ hb
    have hl : (b.drop (s % b.length) ++ b.take (s % b.length)).length = b.length := by rw [List.length_append, List.length_drop, List.length_take]; omega
    refine ⟨s % b.length, hm, ?_⟩
    rw [sg_eq ha, sg_eq (by omega), hv, hv, L_eq]
    intro i _
    rw [hs, rot_cyc hb (by omega)]
    conv => lhs; rw [← Nat.mod_add_div s b.length, Nat.mul_comm, ← Nat.add_assoc, cyc_mul]
end HC

namespace HC
open PySem PySem.Spec PyProof.Rows L2
def top (i : Nat) : Stmt := PySem.Challenge.pw_halfcuts_k05_sequences_and_tails.main.body.getD i (.Pass ⟨0, 0, 0, 0⟩)
abbrev s__law_pool : Stmt := top 12
abbrev N__law_pool : List Str := ["script", "at", "given"]
theorem sc__law_pool : FnScope N__law_pool ["script", "at"] (defScope s__law_pool) := ⟨rfl, rfl, rfl, by decide +kernel, rfl, by decide +kernel, by decide +kernel⟩

abbrev s__law_draw : Stmt := top 13
abbrev N__law_draw : List Str := ["pool", "many", "drawn", "mixed"]
theorem sc__law_draw : FnScope N__law_draw ["pool", "many"] (defScope s__law_draw) := ⟨rfl, rfl, rfl, by decide +kernel, rfl, by decide +kernel, by decide +kernel⟩

abbrev s__law_word : Stmt := top 14
abbrev N__law_word : List Str := ["pool", "most", "some", "size", "turn"]
theorem sc__law_word : FnScope N__law_word ["pool", "most"] (defScope s__law_word) := ⟨rfl, rfl, rfl, by decide +kernel, rfl, by decide +kernel, by decide +kernel⟩

abbrev s__law_moment : Stmt := top 15
abbrev N__law_moment : List Str := ["pool", "head"]
theorem sc__law_moment : FnScope N__law_moment ["pool"] (defScope s__law_moment) := ⟨rfl, rfl, rfl, by decide +kernel, rfl, by decide +kernel, by decide +kernel⟩

abbrev s__law_signs : Stmt := top 16
abbrev N__law_signs : List Str := ["head", "ring", "size"]
theorem sc__law_signs : FnScope N__law_signs ["head", "ring", "size"] (defScope s__law_signs) := ⟨rfl, rfl, rfl, by decide +kernel, rfl, by decide +kernel, by decide +kernel⟩

theorem max0 (x : Int) : 0 ≤ if x > 0 then x else 0 := by split <;> omega
theorem mul1 {c : Int} (h : 0 ≤ c) (h2 : c < 2 ^ 31) : CMulW 15488561 (c + 1) := wide_mul (a := 40) (b := 40) (by decide) (by omega) (by decide) (by decide) (by decide)
theorem mul2 {c : Int} (h : 0 ≤ c) (h2 : c < 2 ^ 31) : CMulW 32454379 (c + 1) := wide_mul (a := 40) (b := 40) (by decide) (by omega) (by decide) (by decide) (by decide)
theorem pow1 {b c : Int} (h0 : 0 ≤ b) (h1 : b < 2 ^ 62) (h : 0 ≤ c) (h2 : c < 2 ^ 31) : CPowX (b + 15488561 * (c + 1)) 3 := ⟨by decide, 64, by omega, by decide⟩
theorem pow2 {x c : Int} (h : 0 ≤ c) (h2 : c < 2 ^ 31) : CPowX (x % 162259276829213363391578010288127 + 32454379 * (c + 1)) 5 := ⟨by decide, 110, by omega, by decide⟩
theorem div1 {x : Int} : CDivW x 1048576 := wide_div (b := 40) (by decide) (by decide) (by decide) (by decide)
theorem rem_nat {Q : VK} {x : Int} {m : Nat} {H : Hp} (hm : 0 < m) (h : ∀ r : Nat, r < m → Q (.int (r : Int)) H) : Q (.int (x % (m : Int))) H := by
  have mpos : (0 : Int) < (m : Int) := by omega
  have e : x % (m : Int) = (((x % (m : Int)).toNat : Nat) : Int) := (Int.toNat_of_nonneg (Int.emod_nonneg _ (by omega))).symm
  rw [e]
  have := Int.emod_lt_of_pos x mpos
  exact h _ (by omega)
section
variable {P : Program} {w : World} {K : PySem.W.Frag} {mg : Str → Option Value} {base : Heap}
/-- a def of the top, with its promise -/
def Has (P : Program) (w : World) (K : PySem.W.Frag) (mg : Str → Option Value) (base : Heap) (x : Str) (k : Nat) (ps : List Str) (sp : Sp) : Prop :=
  ∃ (f : Addr) (fd : FuncData), mg x = some (.ref f) ∧ PySem.W.keepIn K (.ref f) = true ∧ Binds K fd ps [] ∧ FnOk P w K mg base CX0 k f fd ps sp
theorem ok__law_pool {f : Addr} {fd : FuncData} (F : Fun K "_law_pool" "_law_pool" s__law_pool f fd) (B : Blt mg) : FnOk P w K mg base CX0 1 f fd ["script", "at"] (spPool K) := by
  have sc := sc__law_pool
  refine F.ok sc (fun vs H Q E h => ?_) (fun cdv A outer s H vs Q E hr h => ?_)
  · obtain ⟨a, ns, i, rfl, _⟩ := h
    rfl
  · obtain ⟨a, ns, i, rfl, hS, hi, k⟩ := h
    refine ⟨_, (pss_cons (ps_set (i := 2) sc.nd rfl (by first | exact Or.inl rfl | exact Or.inr rfl) pe_int)
    (pss_cons (ps_if (pt_cmpR op_lt (pv 1) (pe_callB call_len_seq (by rfl) B.len PySem.boot_len (pa_cons (pv 0) pa_nil)) (nomark _)) (pss_one (ps_set (i := 2) sc.nd rfl (by first | exact Or.inl rfl | exact Or.inr rfl) (pe_ix ix_list (pv 0) (pv 1) (fun _ _ => rfl)))) pss_nil)
    (pss_one (ps_ret (pe_lst (pa_cons (pe_callB (call_max2 rfl) (by rfl) B.max (by decide +kernel) (pa_cons pe_int (pa_cons (pe_op op_sub (pe_callB call_abs (by rfl) B.abs (by decide +kernel) (pa_cons (pv 2) pa_nil)) (pe_op op_powX pe_int pe_int)) pa_nil))) (pa_cons (pe_op op_add (pe_op op_mod (pv 2) pe_int) (pe_op op_mulW pe_int (pe_op op_add (pv 1) pe_int))) (pa_cons pe_int pa_nil)))))))), ?_⟩
    have tl1 : CPowX 10 18 := ⟨by decide, 4, by decide, by decide⟩
    have tl2 : CMulW 3367900447 ((i : Int) + 1) := wide_mul (a := 40) (b := 40) (by decide) (by omega) (by decide) (by decide) (by decide)
    refine ⟨_, rfl, _, rfl, a, _, rfl, .inl hS, _, _, rfl, rfl, _, rfl, ?_⟩
    refine ite2 (fun c1 => ?_) (fun c1 => ?_)
    · have c2 := of_decide_eq_true c1
      rw [List.length_map] at c2
      obtain ⟨z, hz⟩ : ∃ z, ns[i]? = some z := ⟨ns[i]'(by omega), List.getElem?_eq_getElem (by omega)⟩
      refine ⟨_, rfl, _, rfl, a, _, _, _, rfl, rfl, hS, atI_of (x := .int z) (by rw [List.getElem?_map, hz]; rfl), ?_⟩
      refine ⟨_, rfl, _, rfl, _, _, rfl, rfl, tl1, _, _, rfl, rfl, _, _, rfl, ?_⟩
      refine ⟨_, rfl, _, _, rfl, rfl, (by show (0 : Int) < 2305843009213693951; decide), _, rfl, _, _, rfl, rfl, _, _, rfl, rfl, tl2, _, _, rfl, rfl, ?_⟩
      refine ⟨(by show 3 ≤ sizeLine; decide), fun p hp => k _ p (Same.new hp) hp ⟨_, _, 0, upd_same, ?_, ?_, ?_, Nat.le_refl _⟩⟩
      · exact max0 _
      · omega
      · omega
    · refine ⟨_, rfl, _, rfl, _, _, rfl, rfl, tl1, _, _, rfl, rfl, _, _, rfl, ?_⟩
      refine ⟨_, rfl, _, _, rfl, rfl, (by show (0 : Int) < 2305843009213693951; decide), _, rfl, _, _, rfl, rfl, _, _, rfl, rfl, tl2, _, _, rfl, rfl, ?_⟩
      refine ⟨(by show 3 ≤ sizeLine; decide), fun p hp => k _ p (Same.new hp) hp ⟨_, _, 0, upd_same, ?_, ?_, ?_, Nat.le_refl _⟩⟩
      · exact max0 _
      · omega
      · omega
theorem ok__law_draw {f : Addr} {fd : FuncData} (F : Fun K "_law_draw" "_law_draw" s__law_draw f fd) (B : Blt mg) : FnOk P w K mg base CX0 1 f fd ["pool", "many"] spDraw := by
  have sc := sc__law_draw
  refine F.ok sc (fun vs H Q E h => ?_) (fun cdv A outer s H vs Q E hr h => ?_)
  · obtain ⟨p, m, n, rfl, _⟩ := h
    rfl
  · obtain ⟨p, m, n, rfl, ⟨a, b, c, hp, ha, hb, hb2, hc⟩, hn, hm, hm2, k⟩ := h
    refine ⟨_, (pss_cons (ps_if (pt_cmpR op_gt (pe_ix ix_list (pv 0) pe_int (fun _ _ => rfl)) pe_int (nomark _)) (pss_cons (ps_set (i := 2) sc.nd rfl (by first | exact Or.inl rfl | exact Or.inr rfl) (pe_op op_mod (pe_ix ix_list (pv 0) pe_int (fun _ _ => rfl)) (pv 1)))
    (pss_cons (ps_asg (pe_op op_fdivW (pe_ix ix_list (pv 0) pe_int (fun _ _ => rfl)) (pv 1)) (pg_sub (pv 0) pe_int set_list))
    (pss_one (ps_ret (pv 2))))) pss_nil)
    (pss_cons (ps_asg (pe_op op_add (pe_ix ix_list (pv 0) pe_int (fun _ _ => rfl)) pe_int) (pg_sub (pv 0) pe_int set_list))
    (pss_cons (ps_set (i := 3) sc.nd rfl (by first | exact Or.inl rfl | exact Or.inr rfl) (pe_op op_mod (pe_op op_powX (pe_op op_add (pe_ix ix_list (pv 0) pe_int (fun _ _ => rfl)) (pe_op op_mulW pe_int (pe_ix ix_list (pv 0) pe_int (fun _ _ => rfl)))) pe_int) pe_int))
    (pss_cons (ps_set (i := 3) sc.nd rfl (by first | exact Or.inl rfl | exact Or.inr rfl) (pe_op op_mod (pe_op op_powX (pe_op op_add (pv 3) (pe_op op_mulW pe_int (pe_ix ix_list (pv 0) pe_int (fun _ _ => rfl)))) pe_int) pe_int))
    (pss_one (ps_ret (pe_op op_mod (pe_op op_fdivW (pv 3) pe_int) (pv 1)))))))), ?_⟩
    have mpos : (0 : Int) < (m : Int) := by omega
    refine ⟨_, rfl, p, _, _, _, rfl, rfl, SqL.of hp, atI_of (i := 0) rfl, _, _, rfl, rfl, _, rfl, ?_⟩
    refine ite2 (fun c1 => ?_) (fun c1 => ?_)
    · refine ⟨_, rfl, p, _, _, _, rfl, rfl, SqL.of hp, atI_of (i := 0) rfl, _, rfl, _, _, rfl, rfl, mpos, ?_⟩
      refine ⟨_, rfl, p, _, _, _, rfl, rfl, SqL.of hp, atI_of (i := 0) rfl, _, rfl, _, _, rfl, rfl, ?_, ?_⟩
      · exact wide_div mpos (b := 200) (by omega) (by decide) (by decide)
      refine ⟨_, rfl, p, _, _, 0, rfl, rfl, hp, rfl, ?_⟩
      refine ⟨_, rfl, ?_⟩
      show Q (.int (a % (m : Int))) _
      have e : a % (m : Int) = (((a % (m : Int)).toNat : Nat) : Int) := (Int.toNat_of_nonneg (Int.emod_nonneg _ (by omega))).symm
      rw [e]
      refine k _ _ SB.upd ⟨a / (m : Int), b, c, upd_same, ?_, hb, hb2, by omega⟩ ?_
      · exact Int.ediv_nonneg ha (by omega)
      · have := Int.emod_lt_of_pos a mpos
        omega
    · refine ⟨_, rfl, p, _, _, _, rfl, rfl, SqL.of hp, atI_of (i := 2) rfl, _, _, rfl, rfl, _, rfl, p, _, _, 2, rfl, rfl, hp, rfl, ?_⟩
      refine ⟨_, rfl, p, _, _, _, rfl, rfl, SqL.of upd_same, atI_of (i := 1) rfl, _, rfl, p, _, _, _, rfl, rfl, SqL.of upd_same, atI_of (i := 2) rfl, _, _, rfl, rfl, mul1 (by omega) (by omega), _, _, rfl, rfl, _, _, rfl, rfl, pow1 hb hb2 (by omega) (by omega), _, _, rfl, rfl, (by show (0 : Int) < 162259276829213363391578010288127; decide), ?_⟩
      refine ⟨_, rfl, _, rfl, p, _, _, _, rfl, rfl, SqL.of upd_same, atI_of (i := 2) rfl, _, _, rfl, rfl, mul2 (by omega) (by omega), _, _, rfl, rfl, _, _, rfl, rfl, pow2 (by omega) (by omega), _, _, rfl, rfl, (by show (0 : Int) < 170141183460469231731687303715884105727; decide), ?_⟩
      refine ⟨_, rfl, _, _, rfl, rfl, div1, _, rfl, _, _, rfl, rfl, mpos, ?_⟩
      refine rem_nat (m := m) hm fun r hr => k _ r SB.upd ⟨a, b, c + 1, upd_same, ha, hb, hb2, by omega⟩ hr
end

/-- a word: bits, at most so many -/
def spWord : Sp := fun vs H Q _ => ∃ (p : Addr) (m n : Nat), vs = [.ref p, .int (m : Int)] ∧ PoolAt H p n ∧ n + 100 < 2 ^ 30 ∧ m ≤ 90 ∧
  ∀ H' (l : List Nat), SB p H H' → PoolAt H' p (n + 100) → Bin l → l.length ≤ m → Q (.str (T l)) H'
theorem Bin.nil : Bin [] := fun _ h => nomatch h
theorem Bin.app {a b : List Nat} (h : Bin a) (g : Bin b) : Bin (a ++ b) := fun c hc => by
  rcases List.mem_append.mp hc with q | q
  · exact h c q
  · exact g c q
theorem Bin.take {a : List Nat} (h : Bin a) (n : Nat) : Bin (a.take n) := fun c hc => h c (List.mem_of_mem_take hc)
theorem Bin.drop {a : List Nat} (h : Bin a) (n : Nat) : Bin (a.drop n) := fun c hc => h c (List.mem_of_mem_drop hc)
theorem Bin.rep {a : List Nat} (h : Bin a) (n : Nat) : Bin (rep n a) := by
  induction n with
  | zero => exact Bin.nil
  | succ n ih => rw [rep_succ]; exact h.app ih
theorem bits4 {r : Nat} (h : r < 4) : ∃ l : List Nat, ([V.str (T [48]), V.str (T [49]), V.str (T [48, 49]), V.str (T [49, 48])])[r]? = some (.str (T l)) ∧ Bin l ∧ 1 ≤ l.length ∧ l.length ≤ 2 := by
  have b0 : Bin [48] := fun c hc => by simp at hc; omega
  have b1 : Bin [49] := fun c hc => by simp at hc; omega
  match r, h with
  | 0, _ => exact ⟨[48], rfl, b0, by decide, by decide⟩
  | 1, _ => exact ⟨[49], rfl, b1, by decide, by decide⟩
  | 2, _ => exact ⟨[48, 49], rfl, b0.app b1, by decide, by decide⟩
  | 3, _ => exact ⟨[49, 48], rfl, b1.app b0, by decide, by decide⟩
theorem bit2 {r : Nat} (h : r < 2) : ∃ c : Nat, ([48, 49] : List Nat)[r]? = some c ∧ Bin [c] := by
  match r, h with
  | 0, _ => exact ⟨48, rfl, fun c hc => by simp at hc; omega⟩
  | 1, _ => exact ⟨49, rfl, fun c hc => by simp at hc; omega⟩
section
variable {P : Program} {w : World} {K : PySem.W.Frag} {mg : Str → Option Value} {base : Heap}
theorem ok__law_word {f : Addr} {fd : FuncData} (F : Fun K "_law_word" "_law_word" s__law_word f fd) (B : Blt mg) (h__law_draw : Has P w K mg base "_law_draw" 1 ["pool", "many"] spDraw) : FnOk P w K mg base CX0 2 f fd ["pool", "most"] spWord := by
  have sc := sc__law_word
  obtain ⟨f__law_draw, fd__law_draw, mg__law_draw, kp__law_draw, b__law_draw, G__law_draw⟩ := h__law_draw
  refine F.ok sc (fun vs H Q E h => ?_) (fun cdv A outer s H vs Q E hr h => ?_)
  · obtain ⟨p, m, n, rfl, _⟩ := h
    rfl
  · obtain ⟨p, m, n, rfl, hp, hn, hm, k⟩ := h
    refine ⟨_, (pss_cons (ps_set (i := 2) sc.nd rfl (by first | exact Or.inl rfl | exact Or.inr rfl) (pe_ix ix_list (pe_lst (pa_cons (pe_strT [48] (by decide +kernel)) (pa_cons (pe_strT [49] (by decide +kernel)) (pa_cons (pe_strT [48, 49] (by decide +kernel)) (pa_cons (pe_strT [49, 48] (by decide +kernel)) pa_nil))))) (pe_call G__law_draw (hr.mono (by decide)) (by rfl) mg__law_draw kp__law_draw b__law_draw .nil pass0 (pa_cons (pv 0) (pa_cons pe_int pa_nil))) (fun _ _ => rfl)))
    (pss_cons (ps_set (i := 3) sc.nd rfl (by first | exact Or.inl rfl | exact Or.inr rfl) (pe_call G__law_draw (hr.mono (by decide)) (by rfl) mg__law_draw kp__law_draw b__law_draw .nil pass0 (pa_cons (pv 0) (pa_cons (pe_op op_add (pv 1) pe_int) pa_nil))))
    (pss_cons (ps_if (pt_cmpR op_eq (pe_call G__law_draw (hr.mono (by decide)) (by rfl) mg__law_draw kp__law_draw b__law_draw .nil pass0 (pa_cons (pv 0) (pa_cons pe_int pa_nil))) pe_int (nomark _)) (pss_one (ps_ret (pe_slice sl_T (pe_op op_mulT (pv 2) (pv 1)) po_none (po_some (pv 3))))) pss_nil)
    (pss_one (ps_ret (pe_bm PySem.F.plainAttrs_str PySem.F.slot_str_join PySem.F.type_str_join mt_joinT (pe_strT [] (by decide +kernel)) (pa_cons (pe_lc (own := [("turn", 4)]) (g := gName 4) (by rfl) sc.nd (pi_range1 (by rfl) B.range (pa_cons (pv 3) pa_nil)) (blkOk_by (own := [("turn", 4)]) (N := N__law_word) (sc := defScope s__law_word) (by decide +kernel)) (fun _ _ _ _ _ => pg_name (i := 4) sc.nd rfl (by first | exact Or.inl rfl | exact Or.inr rfl)) (fun _ _ _ _ _ => pts_nil) (fun _ _ _ _ _ => (pe_ix ix_T (pe_strT [48, 49] (by decide +kernel)) (pe_call G__law_draw (hr.mono (by decide)) (by rfl) mg__law_draw kp__law_draw b__law_draw .nil pass0 (pa_cons (pv 0) (pa_cons pe_int pa_nil))) (fun _ _ => rfl)))) pa_nil))))))), ?_⟩
    refine ⟨(by show 4 ≤ sizeLine; decide), fun l hl => ?_⟩
    refine ⟨_, rfl, p, 4, n, rfl, hp.new hl, by omega, by decide, by decide, fun H1 r s1 p1 hr1 => ?_⟩
    obtain ⟨l4, e4, b4, g1, g2⟩ := bits4 hr1
    have hl1 : H1 l = some (.lst [V.str (T [48]), V.str (T [49]), V.str (T [48, 49]), V.str (T [49, 48])]) := s1 _ _ upd_same (hp.ne hl)
    have sb1 : SB p H H1 := (SB.of (Same.new hl)).trans s1
    refine ⟨l, _, _, _, rfl, rfl, SqL.of hl1, atI_of e4, ?_⟩
    refine ⟨_, rfl, _, rfl, _, _, rfl, rfl, p, m + 1, n + 1, rfl, p1, by omega, by omega, by omega, fun H2 z s2 p2 hz => ?_⟩
    refine ⟨_, rfl, p, 3, n + 2, rfl, p2, by omega, by decide, by decide, fun H3 t s3 p3 ht => ?_⟩
    refine ⟨rfl, _, rfl, ?_⟩
    refine ite2 (fun c1 => ?_) (fun c1 => ?_)
    · refine ⟨_, rfl, _, rfl, _, _, rfl, rfl, ?_, by omega, _, rfl, _, rfl, _, rfl, ?_, ?_⟩
      · have : l4.length * m ≤ 2 * 90 := Nat.mul_le_mul g2 hm
        omega
      · rw [rep_len]
        have : m * l4.length ≤ 90 * 2 := Nat.mul_le_mul hm g2
        exact Nat.le_trans this (by decide)
      · show Q (.str (T (cutL (rep m l4) none (some (z : Int))))) _
        rw [cut_hi]
        refine k _ _ (sb1.trans (s2.trans s3)) (p3.mono (by omega)) ((b4.rep _).take _) ?_
        rw [List.length_take]
        omega
    · refine ⟨rfl, ?_⟩
      refine ⟨_, rfl, (z : Int), rfl, by omega, by omega, fun D hD => ?_⟩
      refine lc_range (lo := 0) (n := (z : Int).toNat) (fun i H' => ∃ ys : List (List Nat), H' D = some (.lst (ys.map fun y => V.str (T y))) ∧ ys.length = i ∧ ys.flatten.length = i ∧ Bin ys.flatten ∧ SB p H3 H' ∧ PoolAt H' p (n + 3 + i)) ?_ ?_ ?_
      · exact ⟨[], upd_same, rfl, rfl, Bin.nil, SB.of (Same.new hD), (p3.mono (by omega)).new hD⟩
      · rintro i H' hi ⟨ys, hy, hy1, hy2, hy3, sb, pp⟩
        refine ⟨rfl, ?_⟩
        refine tYes_if ?_
        refine ⟨_, rfl, p, 2, n + 3 + i, rfl, pp, by omega, by decide, by decide, fun H4 r s4 p4 hr4 => ?_⟩
        obtain ⟨c, ec, bc⟩ := bit2 hr4
        refine ⟨[48, 49], _, c, rfl, rfl, by decide, atI_of ec, ?_⟩
        have hy4 := s4 _ _ hy (p3.ne hD)
        refine ⟨_, hy4, ?_, ys ++ [[c]], ?_, ?_, ?_, ?_, ?_, ?_⟩
        · rw [List.length_map, hy1]
          exact small1000 (by omega)
        · rw [upd_same, List.map_append]
          rfl
        · rw [List.length_append, hy1]
          rfl
        · rw [List.flatten_append, List.length_append, hy2]
          rfl
        · rw [List.flatten_append]
          exact hy3.app (by simpa using bc)
        · intro b o hb nb
          have nD : b ≠ D := ne_of_none hb hD
          rw [upd_ne nD]
          exact s4 _ _ (sb _ _ hb nb) nb
        · obtain ⟨a1, b1, c1', q1, q2, q3, q4, q5⟩ := p4
          refine ⟨a1, b1, c1', ?_, q2, q3, q4, by omega⟩
          rw [upd_ne (p3.ne hD).symm]
          exact q1
      · rintro H' ⟨ys, hy, hy1, hy2, hy3, sb, pp⟩
        refine ⟨D, ys, rfl, rfl, SqL.of hy, by omega, ?_⟩
        refine k _ _ (sb1.trans (s2.trans (s3.trans sb))) (pp.mono (by omega)) hy3 ?_
        rw [hy2]
        omega
end

/-- a moment of a law: head, ring -/
def spMoment : Sp := fun vs H Q _ => ∃ (p : Addr) (n : Nat), vs = [.ref p] ∧ PoolAt H p n ∧ n + 300 < 2 ^ 30 ∧
  ∀ H' (t : Addr) (h r : List Nat), SB p H H' → PoolAt H' p (n + 300) → MomAt H' t h r → Bin h → Bin r → h.length ≤ 60 → 1 ≤ r.length → r.length ≤ 12 → Q (.ref t) H'
theorem pick3 {a b c r : Nat} (h : r < 3) : ∃ m : Nat, ([V.int (a : Int), V.int (b : Int), V.int (c : Int)])[r]? = some (.int (m : Int)) ∧ (m = a ∨ m = b ∨ m = c) := by
  match r, h with
  | 0, _ => exact ⟨a, rfl, .inl rfl⟩
  | 1, _ => exact ⟨b, rfl, .inr (.inl rfl)⟩
  | 2, _ => exact ⟨c, rfl, .inr (.inr rfl)⟩
section
variable {P : Program} {w : World} {K : PySem.W.Frag} {mg : Str → Option Value} {base : Heap}
theorem ok__law_moment {f : Addr} {fd : FuncData} (F : Fun K "_law_moment" "_law_moment" s__law_moment f fd) (h__law_draw : Has P w K mg base "_law_draw" 1 ["pool", "many"] spDraw) (h__law_word : Has P w K mg base "_law_word" 2 ["pool", "most"] spWord) :
    FnOk P w K mg base CX0 3 f fd ["pool"] spMoment := by
  have sc := sc__law_moment
  obtain ⟨f__law_word, fd__law_word, mg__law_word, kp__law_word, b__law_word, G__law_word⟩ := h__law_word
  obtain ⟨f__law_draw, fd__law_draw, mg__law_draw, kp__law_draw, b__law_draw, G__law_draw⟩ := h__law_draw
  refine F.ok sc (fun vs H Q E h => ?_) (fun cdv A outer s H vs Q E hr h => ?_)
  · obtain ⟨p, n, rfl, _⟩ := h
    rfl
  · obtain ⟨p, n, rfl, hp, hn, k⟩ := h
    refine ⟨_, (pss_cons (ps_set (i := 1) sc.nd rfl (by first | exact Or.inl rfl | exact Or.inr rfl) (pe_call G__law_word (hr.mono (by decide)) (by rfl) mg__law_word kp__law_word b__law_word .nil pass0 (pa_cons (pv 0) (pa_cons (pe_ix ix_list (pe_lst (pa_cons pe_int (pa_cons pe_int (pa_cons pe_int pa_nil)))) (pe_call G__law_draw (hr.mono (by decide)) (by rfl) mg__law_draw kp__law_draw b__law_draw .nil pass0 (pa_cons (pv 0) (pa_cons pe_int pa_nil))) (fun _ _ => rfl)) pa_nil))))
    (pss_one (ps_ret (pe_tup (pa_cons (pv 1) (pa_cons (pe_op op_addT (pe_call G__law_word (hr.mono (by decide)) (by rfl) mg__law_word kp__law_word b__law_word .nil pass0 (pa_cons (pv 0) (pa_cons (pe_ix ix_list (pe_lst (pa_cons pe_int (pa_cons pe_int (pa_cons pe_int pa_nil)))) (pe_call G__law_draw (hr.mono (by decide)) (by rfl) mg__law_draw kp__law_draw b__law_draw .nil pass0 (pa_cons (pv 0) (pa_cons pe_int pa_nil))) (fun _ _ => rfl)) pa_nil))) (pe_ix ix_T (pe_strT [48, 49] (by decide +kernel)) (pe_call G__law_draw (hr.mono (by decide)) (by rfl) mg__law_draw kp__law_draw b__law_draw .nil pass0 (pa_cons (pv 0) (pa_cons pe_int pa_nil))) (fun _ _ => rfl))) pa_nil)))))), ?_⟩
    -- head
    refine ⟨_, rfl, ?_⟩
    refine ⟨(by show 3 ≤ sizeLine; decide), fun l hl => ?_⟩
    refine ⟨_, rfl, p, 3, n, rfl, hp.new hl, by omega, by decide, by decide, fun H1 r s1 p1 hr1 => ?_⟩
    have sb1 : SB p H H1 := (SB.of (Same.new hl)).trans s1
    obtain ⟨m, em, hm⟩ := pick3 (a := 3) (b := 20) (c := 60) hr1
    refine ⟨l, _, _, _, rfl, rfl, SqL.of (s1 _ _ upd_same (hp.ne hl)), atI_of em, ?_⟩
    refine ⟨p, m, n + 1, rfl, p1, by omega, by omega, fun H2 hd s2 p2 bh lh => ?_⟩
    -- (head, ring)
    refine ⟨_, rfl, _, rfl, ?_⟩
    refine ⟨(by show 3 ≤ sizeLine; decide), fun l2 hl2 => ?_⟩
    refine ⟨_, rfl, p, 3, n + 101, rfl, p2.new hl2, by omega, by decide, by decide, fun H3 r3 s3 p3 hr3 => ?_⟩
    have sb3 : SB p H2 H3 := (SB.of (Same.new hl2)).trans s3
    obtain ⟨m3, em3, hm3⟩ := pick3 (a := 1) (b := 5) (c := 11) hr3
    refine ⟨l2, _, _, _, rfl, rfl, SqL.of (s3 _ _ upd_same (p2.ne hl2)), atI_of em3, ?_⟩
    refine ⟨p, m3, n + 102, rfl, p3, by omega, by omega, fun H4 rg s4 p4 br lr => ?_⟩
    refine ⟨_, rfl, p, 2, n + 202, rfl, p4, by omega, by decide, by decide, fun H5 r5 s5 p5 hr5 => ?_⟩
    obtain ⟨c, ec, bc⟩ := bit2 hr5
    refine ⟨[48, 49], _, c, rfl, rfl, by decide, atI_of ec, ?_⟩
    refine ⟨rg, [c], rfl, rfl, ?_, ?_⟩
    · exact Nat.le_trans (show rg.length + 1 ≤ 20 by omega) (by decide)
    refine ⟨(by show 2 ≤ sizeLine; decide), fun t ht => ?_⟩
    refine k _ t hd (rg ++ [c]) ?_ ((p5.mono (by omega)).new ht) upd_same bh (br.app bc) (by omega) ?_ ?_
    · exact sb1.trans (s2.trans (sb3.trans (s4.trans (s5.trans (SB.of (Same.new ht))))))
    · rw [List.length_append]; exact Nat.le_add_left 1 _
    · rw [List.length_append]; show rg.length + 1 ≤ 12; omega
end
def spSigns : Sp := fun vs H Q _ => ∃ (h r : List Nat) (n : Nat), vs = [.str (T h), .str (T r), .int (n : Int)] ∧ h.length ≤ 200 ∧ 1 ≤ r.length ∧ r.length ≤ 200 ∧ n ≤ 2000 ∧ Q (.str (T (sg h r n))) H
section
variable {P : Program} {w : World} {K : PySem.W.Frag} {mg : Str → Option Value} {base : Heap}
theorem ok__law_signs {f : Addr} {fd : FuncData} (F : Fun K "_law_signs" "_law_signs" s__law_signs f fd) (B : Blt mg) : FnOk P w K mg base CX0 1 f fd ["head", "ring", "size"] spSigns := by
  have sc := sc__law_signs
  refine F.ok sc (fun vs H Q E h => ?_) (fun cdv A outer s H vs Q E hr h => ?_)
  · obtain ⟨hd, r, n, rfl, _⟩ := h
    rfl
  · obtain ⟨hd, r, n, rfl, h1, h2, h3, h4, k⟩ := h
    refine ⟨_, (pss_one (ps_ret (pe_slice sl_T (pe_op op_addT (pv 0) (pe_op op_mulT (pv 1) (pe_op op_add (pe_op op_fdivW (pv 2) (pe_callB call_lenT (by rfl) B.len PySem.boot_len (pa_cons (pv 1) pa_nil))) pe_int))) po_none (po_some (pv 2))))), ?_⟩
    have hdiv : n / r.length ≤ n := Nat.div_le_self _ _
    have hmul : (n / r.length) * r.length ≤ n := Nat.div_mul_le_self _ _
    have hmul2 : r.length * (n / r.length + 1) ≤ 2200 := by rw [Nat.mul_add, Nat.mul_comm]; omega
    have hsz : (2400 : Nat) ≤ sizeLine := by decide
    refine ⟨_, rfl, _, rfl, _, rfl, _, rfl, r, rfl, by omega, _, _, rfl, rfl, ?_, _, _, rfl, rfl, ?_⟩
    · exact wide_div (b := 60) (by omega) (by omega) (by decide) (by decide)
    have e : ((n : Int) / (r.length : Int)) + 1 = ((n / r.length + 1 : Nat) : Int) := by simp
    refine ⟨r, n / r.length + 1, rfl, by rw [← e], by omega, by omega, hd, _, rfl, rfl, ?_, _, rfl, _, rfl, _, rfl, ?_, ?_⟩
    · rw [rep_len, Nat.mul_comm]; omega
    · rw [List.length_append, rep_len, Nat.mul_comm]; omega
    · rw [cut_hi]
      exact k
end
end HC

namespace HC
open PySem PySem.Spec PyProof.Rows L2
abbrev s_is_word : Stmt := top 4
abbrev N_is_word : List Str := ["text"]
theorem sc_is_word : FnScope N_is_word ["text"] (defScope s_is_word) := ⟨rfl, rfl, rfl, by decide +kernel, rfl, by decide +kernel, by decide +kernel⟩

abbrev s_check_moment : Stmt := top 5
abbrev N_check_moment : List Str := ["moment", "head", "ring"]
theorem sc_check_moment : FnScope N_check_moment ["moment"] (defScope s_check_moment) := ⟨rfl, rfl, rfl, by decide +kernel, rfl, by decide +kernel, by decide +kernel⟩

abbrev s_first_signs : Stmt := top 6
abbrev N_first_signs : List Str := ["moment", "many", "head", "ring"]
theorem sc_first_signs : FnScope N_first_signs ["moment", "many"] (defScope s_first_signs) := ⟨rfl, rfl, rfl, by decide +kernel, rfl, by decide +kernel, by decide +kernel⟩

abbrev s_shortest_ring : Stmt := top 8
abbrev N_shortest_ring : List Str := ["ring"]
theorem sc_shortest_ring : FnScope N_shortest_ring ["ring"] (defScope s_shortest_ring) := ⟨rfl, rfl, rfl, by decide +kernel, rfl, by decide +kernel, by decide +kernel⟩

abbrev s_is_before : Stmt := top 9
abbrev N_is_before : List Str := ["first", "second", "many"]
theorem sc_is_before : FnScope N_is_before ["first", "second"] (defScope s_is_before) := ⟨rfl, rfl, rfl, by decide +kernel, rfl, by decide +kernel, by decide +kernel⟩

abbrev s_have_common_tail : Stmt := top 10
abbrev N_have_common_tail : List Str := ["first", "second", "ring", "other"]
theorem sc_have_common_tail : FnScope N_have_common_tail ["first", "second"] (defScope s_have_common_tail) := ⟨rfl, rfl, rfl, by decide +kernel, rfl, by decide +kernel, by decide +kernel⟩

/-! ## promises of the program's defs, for arguments that are right -/
/-- a moment that is one, not too long -/
structure Mom (h r : List Nat) : Prop where
  bh : Bin h
  br : Bin r
  lh : h.length ≤ 200
  l1 : 1 ≤ r.length
  lr : r.length ≤ 50
def spIsWord : Sp := fun vs H Q _ => ∃ l : List Nat, vs = [.str (T l)] ∧ Bin l ∧ l.length ≤ 1000 ∧ Q (.bl true) H
def spCheckMoment : Sp := fun vs H Q _ => ∃ (t : Addr) (h r : List Nat), vs = [.ref t] ∧ MomAt H t h r ∧ Mom h r ∧ Q .non H
def spFirstSigns : Sp := fun vs H Q _ => ∃ (t : Addr) (h r : List Nat) (n : Nat), vs = [.ref t, .int (n : Int)] ∧ MomAt H t h r ∧ Mom h r ∧ n ≤ 2000 ∧ Q (.str (T (sg h r n))) H
def spShortest : Sp := fun vs H Q _ => ∃ (r : List Nat), vs = [.str (T r)] ∧ 1 ≤ r.length ∧ r.length ≤ 200 ∧ ∀ k, Per r k → Q (.str (T (r.take k))) H
def spIsBefore : Sp := fun vs H Q _ => ∃ (t u : Addr) (h1 r1 h2 r2 : List Nat), vs = [.ref t, .ref u] ∧ MomAt H t h1 r1 ∧ MomAt H u h2 r2 ∧ Mom h1 r1 ∧ Mom h2 r2 ∧
  ∀ b : Bool, (b = true ↔ Bef (val h1 r1) (val h2 r2)) → Q (.bl b) H
def spTail : Sp := fun vs H Q _ => ∃ (t u : Addr) (h1 r1 h2 r2 : List Nat), vs = [.ref t, .ref u] ∧ MomAt H t h1 r1 ∧ MomAt H u h2 r2 ∧ Mom h1 r1 ∧ Mom h2 r2 ∧
  ∀ b : Bool, (b = true ↔ Tail r1 r2) → Q (.bl b) H
theorem le_line {n : Nat} (h : n ≤ 16000000) : n ≤ sizeLine := Nat.le_trans h (by decide)
section
variable {P : Program} {w : World} {K : PySem.W.Frag} {mg : Str → Option Value} {base : Heap}
theorem MomAt.tup {H : Hp} {t : Addr} {h r : List Nat} (m : MomAt H t h r) : SqT K H t [.str (T h), .str (T r)] := SqT.of m
theorem ok_is_word {f : Addr} {fd : FuncData} (F : Fun K "is_word" "is_word" s_is_word f fd) : FnOk P w K mg base CX0 1 f fd ["text"] spIsWord := by
  have sc := sc_is_word
  refine F.ok sc (fun vs H Q E h => ?_) (fun cdv A outer s H vs Q E hr h => ?_)
  · obtain ⟨l, rfl, _⟩ := h
    rfl
  · obtain ⟨l, rfl, hb, hl, k⟩ := h
    refine ⟨_, (pss_one (ps_ret (pe_cmpR op_eqT (pe_bm PySem.F.plainAttrs_str PySem.F.slot_str_strip PySem.F.type_str_strip mt_stripT (pv 0) (pa_cons (pe_strT [48, 49] (by decide +kernel)) pa_nil)) (pe_strT [] (by decide +kernel)) (nomark _)))), ?_⟩
    exact ⟨_, rfl, rfl, l, rfl, rfl, hb, le_line (by omega), [], [], rfl, rfl, k⟩
theorem ok_check_moment {f : Addr} {fd : FuncData} (F : Fun K "check_moment" "check_moment" s_check_moment f fd) (h_is_word : Has P w K mg base "is_word" 1 ["text"] spIsWord) : FnOk P w K mg base CX0 2 f fd ["moment"] spCheckMoment := by
  have sc := sc_check_moment
  obtain ⟨f_is_word, fd_is_word, mg_is_word, kp_is_word, b_is_word, G_is_word⟩ := h_is_word
  refine F.ok sc (fun vs H Q E h => ?_) (fun cdv A outer s H vs Q E hr h => ?_)
  · obtain ⟨t, hd, r, rfl, _⟩ := h
    rfl
  · obtain ⟨t, hd, r, rfl, hm, m, k⟩ := h
    refine ⟨_, (pss_cons (ps_asg (pv 0) (pg_tup (by rfl) (pgs_cons (pg_name (i := 1) sc.nd rfl (by first | exact Or.inl rfl | exact Or.inr rfl)) (pgs_cons (pg_name (i := 2) sc.nd rfl (by first | exact Or.inl rfl | exact Or.inr rfl)) pgs_nil))))
    (pss_one (ps_if (PW.pt (pw_or (pt_not (pt_val (pe_call G_is_word (hr.mono (by decide)) (by rfl) mg_is_word kp_is_word b_is_word .nil pass0 (pa_cons (pv 1) pa_nil)))) (pw_or (pt_not (pt_val (pe_call G_is_word (hr.mono (by decide)) (by rfl) mg_is_word kp_is_word b_is_word .nil pass0 (pa_cons (pv 2) pa_nil)))) (pw_or1 (pt_cmpR op_eqT (pv 2) (pe_strT [] (by decide +kernel)) (nomark _)))))) (pss_one ps_never) pss_nil))), ?_⟩
    refine ⟨_, rfl, t, _, rfl, hm.tup, rfl, _, _, rfl, _, _, rfl, rfl, ?_⟩
    refine ⟨_, rfl, hd, rfl, m.bh, by have := m.lh; omega, true, rfl, iteF ?_⟩
    refine ⟨_, rfl, r, rfl, m.br, by have := m.lr; omega, true, rfl, iteF ?_⟩
    refine ⟨_, rfl, r, [], rfl, rfl, _, rfl, ?_⟩
    have e : decide (r = []) = false := decide_eq_false fun q => by have := m.l1; rw [q] at this; exact absurd this (by decide)
    rw [e]
    exact iteF k
theorem ok_first_signs {f : Addr} {fd : FuncData} (F : Fun K "first_signs" "first_signs" s_first_signs f fd) (B : Blt mg) : FnOk P w K mg base CX0 1 f fd ["moment", "many"] spFirstSigns := by
  have sc := sc_first_signs
  refine F.ok sc (fun vs H Q E h => ?_) (fun cdv A outer s H vs Q E hr h => ?_)
  · obtain ⟨t, hd, r, n, rfl, _⟩ := h
    rfl
  · obtain ⟨t, hd, r, n, rfl, hm, ⟨_, _, h1, h2, h3⟩, h4, k⟩ := h
    refine ⟨_, (pss_cons (ps_asg (pv 0) (pg_tup (by rfl) (pgs_cons (pg_name (i := 2) sc.nd rfl (by first | exact Or.inl rfl | exact Or.inr rfl)) (pgs_cons (pg_name (i := 3) sc.nd rfl (by first | exact Or.inl rfl | exact Or.inr rfl)) pgs_nil))))
    (pss_one (ps_ret (pe_slice sl_T (pe_op op_addT (pv 2) (pe_op op_mulT (pv 3) (pe_op op_add (pe_op op_fdivW (pv 1) (pe_callB call_lenT (by rfl) B.len PySem.boot_len (pa_cons (pv 3) pa_nil))) pe_int))) po_none (po_some (pv 1)))))), ?_⟩
    have hdiv : n / r.length ≤ n := Nat.div_le_self _ _
    have hmul : (n / r.length) * r.length ≤ n := Nat.div_mul_le_self _ _
    have hmul2 : r.length * (n / r.length + 1) ≤ 2200 := by rw [Nat.mul_add, Nat.mul_comm]; omega
    have hsz : (2400 : Nat) ≤ sizeLine := by decide
    refine ⟨_, rfl, t, _, rfl, hm.tup, rfl, _, _, rfl, _, _, rfl, rfl, ?_⟩
    refine ⟨_, rfl, _, rfl, _, rfl, _, rfl, r, rfl, by omega, _, _, rfl, rfl, ?_, _, _, rfl, rfl, ?_⟩
    · exact wide_div (b := 60) (by omega) (by omega) (by decide) (by decide)
    have e : ((n : Int) / (r.length : Int)) + 1 = ((n / r.length + 1 : Nat) : Int) := by simp
    refine ⟨r, n / r.length + 1, rfl, by rw [← e], by omega, by omega, hd, _, rfl, rfl, ?_, _, rfl, _, rfl, _, rfl, ?_, ?_⟩
    · rw [rep_len, Nat.mul_comm]; omega
    · rw [List.length_append, rep_len, Nat.mul_comm]; omega
    · rw [cut_hi]
      exact k
theorem ok_shortest_ring {f : Addr} {fd : FuncData} (F : Fun K "shortest_ring" "shortest_ring" s_shortest_ring f fd) : FnOk P w K mg base CX0 1 f fd ["ring"] spShortest := by
  have sc := sc_shortest_ring
  refine F.ok sc (fun vs H Q E h => ?_) (fun cdv A outer s H vs Q E hr h => ?_)
  · obtain ⟨r, rfl, _⟩ := h
    rfl
  · obtain ⟨r, rfl, h1, h2, k⟩ := h
    refine ⟨_, (pss_one (ps_ret (pe_slice sl_T (pv 0) po_none (po_some (pe_bm PySem.F.plainAttrs_str PySem.F.slot_str_find PySem.F.type_str_find mt_findT (pe_op op_addT (pv 0) (pv 0)) (pa_cons (pv 0) (pa_cons pe_int pa_nil))))))), ?_⟩
    obtain ⟨j, p⟩ := per_exists h1
    refine ⟨_, rfl, _, rfl, _, rfl, r, r, rfl, rfl, le_line (by omega), rfl, _, rfl, r ++ r, r, 1, j, rfl, rfl, p.pos, (at_inv h1 p.le).mpr p.inv, fun i i1 i2 hi => p.least i i1 i2 ((at_inv h1 (by have := p.le; omega)).mp hi), _, rfl, r, rfl, le_line (by omega), ?_⟩
    rw [cut_hi]
    exact k j p
theorem ok_is_before {f : Addr} {fd : FuncData} (F : Fun K "is_before" "is_before" s_is_before f fd) (B : Blt mg) (h_check_moment : Has P w K mg base "check_moment" 2 ["moment"] spCheckMoment) (h_first_signs : Has P w K mg base "first_signs" 1 ["moment", "many"] spFirstSigns) :
    FnOk P w K mg base CX0 3 f fd ["first", "second"] spIsBefore := by
  have sc := sc_is_before
  obtain ⟨f_check_moment, fd_check_moment, mg_check_moment, kp_check_moment, b_check_moment, G_check_moment⟩ := h_check_moment
  obtain ⟨f_first_signs, fd_first_signs, mg_first_signs, kp_first_signs, b_first_signs, G_first_signs⟩ := h_first_signs
  refine F.ok sc (fun vs H Q E h => ?_) (fun cdv A outer s H vs Q E hr h => ?_)
  · obtain ⟨t, u, h1, r1, h2, r2, rfl, _⟩ := h
    rfl
  · obtain ⟨t, u, h1, r1, h2, r2, rfl, g1, g2, m1, m2, k⟩ := h
    refine ⟨_, (pss_cons (ps_expr (pe_call G_check_moment (hr.mono (by decide)) (by rfl) mg_check_moment kp_check_moment b_check_moment .nil pass0 (pa_cons (pv 0) pa_nil)))
    (pss_cons (ps_expr (pe_call G_check_moment (hr.mono (by decide)) (by rfl) mg_check_moment kp_check_moment b_check_moment .nil pass0 (pa_cons (pv 1) pa_nil)))
    (pss_cons (ps_set (i := 2) sc.nd rfl (by first | exact Or.inl rfl | exact Or.inr rfl) (pe_op op_add (pe_op op_add (pe_callB (call_max2 rfl) (by rfl) B.max (by decide +kernel) (pa_cons (pe_callB call_lenT (by rfl) B.len PySem.boot_len (pa_cons (pe_ix ix_tup (pv 0) pe_int (fun _ _ => rfl)) pa_nil)) (pa_cons (pe_callB call_lenT (by rfl) B.len PySem.boot_len (pa_cons (pe_ix ix_tup (pv 1) pe_int (fun _ _ => rfl)) pa_nil)) pa_nil))) (pe_callB call_lenT (by rfl) B.len PySem.boot_len (pa_cons (pe_ix ix_tup (pv 0) pe_int (fun _ _ => rfl)) pa_nil))) (pe_callB call_lenT (by rfl) B.len PySem.boot_len (pa_cons (pe_ix ix_tup (pv 1) pe_int (fun _ _ => rfl)) pa_nil))))
    (pss_one (ps_ret (pe_cmpR op_ltT' (pe_call G_first_signs (hr.mono (by decide)) (by rfl) mg_first_signs kp_first_signs b_first_signs .nil pass0 (pa_cons (pv 0) (pa_cons (pv 2) pa_nil))) (pe_call G_first_signs (hr.mono (by decide)) (by rfl) mg_first_signs kp_first_signs b_first_signs .nil pass0 (pa_cons (pv 1) (pa_cons (pv 2) pa_nil))) (nomark _))))))), ?_⟩
    have a1 := m1.lh
    have a2 := m2.lh
    have a3 := m1.lr
    have a4 := m2.lr
    refine ⟨_, rfl, t, h1, r1, rfl, g1, m1, ?_⟩
    refine ⟨_, rfl, u, h2, r2, rfl, g2, m2, ?_⟩
    refine ⟨_, rfl, t, _, _, _, rfl, rfl, g1.tup, atI_of (i := 0) rfl, h1, rfl, le_line (by omega), ?_⟩
    refine ⟨_, rfl, u, _, _, _, rfl, rfl, g2.tup, atI_of (i := 0) rfl, h2, rfl, le_line (by omega), _, _, rfl, ?_⟩
    refine ⟨_, rfl, t, _, _, _, rfl, rfl, g1.tup, atI_of (i := 1) rfl, r1, rfl, le_line (by omega), _, _, rfl, rfl, ?_⟩
    refine ⟨_, rfl, u, _, _, _, rfl, rfl, g2.tup, atI_of (i := 1) rfl, r2, rfl, le_line (by omega), _, _, rfl, rfl, ?_⟩
    have e : ((if (h2.length : Int) > (h1.length : Int) then (h2.length : Int) else (h1.length : Int)) + (r1.length : Int) + (r2.length : Int)) = ((max h1.length h2.length + r1.length + r2.length : Nat) : Int) := by
      split <;> omega
    refine ⟨_, rfl, _, rfl, t, h1, r1, max h1.length h2.length + r1.length + r2.length, by rw [← e]; rfl, g1, m1, by omega, ?_⟩
    refine ⟨_, rfl, _, rfl, u, h2, r2, max h1.length h2.length + r1.length + r2.length, by rw [← e]; rfl, g2, m2, by omega, _, _, rfl, rfl, ?_⟩
    refine k _ ?_
    rw [decide_eq_true_iff]
    exact bef_iff m1.l1 m2.l1 (Nat.le_refl _)
theorem ok_have_common_tail {f : Addr} {fd : FuncData} (F : Fun K "have_common_tail" "have_common_tail" s_have_common_tail f fd) (B : Blt mg) (h_check_moment : Has P w K mg base "check_moment" 2 ["moment"] spCheckMoment) (h_shortest_ring : Has P w K mg base "shortest_ring" 1 ["ring"] spShortest) :
    FnOk P w K mg base CX0 3 f fd ["first", "second"] spTail := by
  have sc := sc_have_common_tail
  obtain ⟨f_check_moment, fd_check_moment, mg_check_moment, kp_check_moment, b_check_moment, G_check_moment⟩ := h_check_moment
  obtain ⟨f_shortest_ring, fd_shortest_ring, mg_shortest_ring, kp_shortest_ring, b_shortest_ring, G_shortest_ring⟩ := h_shortest_ring
  refine F.ok sc (fun vs H Q E h => ?_) (fun cdv A outer s H vs Q E hr h => ?_)
  · obtain ⟨t, u, h1, r1, h2, r2, rfl, _⟩ := h
    rfl
  · obtain ⟨t, u, h1, r1, h2, r2, rfl, g1, g2, m1, m2, k⟩ := h
    refine ⟨_, (pss_cons (ps_expr (pe_call G_check_moment (hr.mono (by decide)) (by rfl) mg_check_moment kp_check_moment b_check_moment .nil pass0 (pa_cons (pv 0) pa_nil)))
    (pss_cons (ps_expr (pe_call G_check_moment (hr.mono (by decide)) (by rfl) mg_check_moment kp_check_moment b_check_moment .nil pass0 (pa_cons (pv 1) pa_nil)))
    (pss_cons (ps_par (i := 2) (j := 3) (by rfl) sc.nd rfl rfl (by decide) rfl rfl (pa_cons (pe_call G_shortest_ring (hr.mono (by decide)) (by rfl) mg_shortest_ring kp_shortest_ring b_shortest_ring .nil pass0 (pa_cons (pe_ix ix_tup (pv 0) pe_int (fun _ _ => rfl)) pa_nil)) (pa_cons (pe_call G_shortest_ring (hr.mono (by decide)) (by rfl) mg_shortest_ring kp_shortest_ring b_shortest_ring .nil pass0 (pa_cons (pe_ix ix_tup (pv 1) pe_int (fun _ _ => rfl)) pa_nil)) pa_nil)) (by rfl))
    (pss_one (ps_ret (pe_and (pe_cmpR op_eq (pe_callB call_lenT (by rfl) B.len PySem.boot_len (pa_cons (pv 2) pa_nil)) (pe_callB call_lenT (by rfl) B.len PySem.boot_len (pa_cons (pv 3) pa_nil)) (nomark _)) (pe_one (pe_cmpR op_inT (pv 3) (pe_op op_addT (pv 2) (pv 2)) rfl)))))))), ?_⟩
    have a3 := m1.lr
    have a4 := m2.lr
    refine ⟨_, rfl, t, h1, r1, rfl, g1, m1, ?_⟩
    refine ⟨_, rfl, u, h2, r2, rfl, g2, m2, ?_⟩
    refine ⟨_, rfl, t, _, _, _, rfl, rfl, g1.tup, atI_of (i := 1) rfl, r1, rfl, m1.l1, by omega, fun j p => ?_⟩
    refine ⟨_, rfl, u, _, _, _, rfl, rfl, g2.tup, atI_of (i := 1) rfl, r2, rfl, m2.l1, by omega, fun i q => ?_⟩
    have e := tail_iff m2.l1 p q
    have l1 := p.le
    have l2 := q.le
    refine ⟨_, _, rfl, _, rfl, r1.take j, rfl, le_line (by rw [List.length_take]; omega), _, rfl, r2.take i, rfl, le_line (by rw [List.length_take]; omega), rfl, _, rfl, ?_⟩
    refine ite2 (fun c => ?_) (fun c => ?_)
    · have c2 : (r1.take j).length = (r2.take i).length := by
        have := V.int.inj (of_decide_eq_true c)
        omega
      refine ⟨_, rfl, _, rfl, _, rfl, _, _, rfl, rfl, le_line (by rw [List.length_take]; omega), r2.take i, _, rfl, rfl, fun b hb => k b ?_⟩
      rw [hb, ← e]
      exact ⟨fun x => ⟨c2, x⟩, fun x => x.2⟩
    · refine k false ⟨fun x => Bool.noConfusion x, fun x => absurd (e.mpr x).1 fun y => c (decide_eq_true ?_)⟩
      rw [y]
end
end HC

namespace HC
open PySem PySem.Spec PyProof.Rows L2
abbrev s__law_other : Stmt := top 17
abbrev N__law_other : List Str := ["pool", "head", "ring", "way", "spot"]
theorem sc__law_other : FnScope N__law_other ["pool", "head", "ring"] (defScope s__law_other) := ⟨rfl, rfl, rfl, by decide +kernel, rfl, by decide +kernel, by decide +kernel⟩

abbrev s__law_tails : Stmt := top 18
abbrev N__law_tails : List Str := ["near", "last", "spot", "turned"]
theorem sc__law_tails : FnScope N__law_tails ["near", "last"] (defScope s__law_tails) := ⟨rfl, rfl, rfl, by decide +kernel, rfl, by decide +kernel, by decide +kernel⟩

abbrev s__law_right : Stmt := top 19
abbrev N__law_right : List Str := ["pool", "one", "two", "signs", "told"]
theorem sc__law_right : FnScope N__law_right ["pool"] (defScope s__law_right) := ⟨rfl, rfl, rfl, by decide +kernel, rfl, by decide +kernel, by decide +kernel⟩

abbrev s_law : Stmt := top 20
abbrev N_law : List Str := ["script", "at", "pool", "turn", "told"]
theorem sc_law : FnScope N_law ["script"] (defScope s_law) := ⟨rfl, rfl, rfl, by decide +kernel, rfl, by decide +kernel, by decide +kernel⟩

def spOther : Sp := fun vs H Q _ => ∃ (p : Addr) (h r : List Nat) (n : Nat), vs = [.ref p, .str (T h), .str (T r)] ∧ PoolAt H p n ∧ n + 500 < 2 ^ 30 ∧ Bin h ∧ Bin r ∧ h.length ≤ 60 ∧ 1 ≤ r.length ∧ r.length ≤ 12 ∧
  ∀ H' (t : Addr) (h2 r2 : List Nat), SB p H H' → PoolAt H' p (n + 500) → MomAt H' t h2 r2 → Bin h2 → Bin r2 → h2.length ≤ 60 → 1 ≤ r2.length → r2.length ≤ 12 → Q (.ref t) H'
def spTails : Sp := fun vs H Q _ => ∃ (t u : Addr) (h1 r1 h2 r2 : List Nat), vs = [.ref t, .ref u] ∧ MomAt H t h1 r1 ∧ MomAt H u h2 r2 ∧ 1 ≤ r1.length ∧ r1.length ≤ 12 ∧ 1 ≤ r2.length ∧ r2.length ≤ 12 ∧
  ∀ b : Bool, (b = true ↔ Tail r1 r2) → Q (.bl b) H
section
variable {P : Program} {w : World} {K : PySem.W.Frag} {mg : Str → Option Value} {base : Heap}
theorem ok__law_other {f : Addr} {fd : FuncData} (F : Fun K "_law_other" "_law_other" s__law_other f fd) (B : Blt mg) (h__law_draw : Has P w K mg base "_law_draw" 1 ["pool", "many"] spDraw) (h__law_moment : Has P w K mg base "_law_moment" 3 ["pool"] spMoment) (h__law_word : Has P w K mg base "_law_word" 2 ["pool", "most"] spWord) :
    FnOk P w K mg base CX0 4 f fd ["pool", "head", "ring"] spOther := by
  have sc := sc__law_other
  obtain ⟨f__law_draw, fd__law_draw, mg__law_draw, kp__law_draw, b__law_draw, G__law_draw⟩ := h__law_draw
  obtain ⟨f__law_moment, fd__law_moment, mg__law_moment, kp__law_moment, b__law_moment, G__law_moment⟩ := h__law_moment
  obtain ⟨f__law_word, fd__law_word, mg__law_word, kp__law_word, b__law_word, G__law_word⟩ := h__law_word
  refine F.ok sc (fun vs H Q E h => ?_) (fun cdv A outer s H vs Q E hr h => ?_)
  · obtain ⟨p, hd, r, n, rfl, _⟩ := h
    rfl
  · obtain ⟨p, hd, r, n, rfl, hp, hn, bh, br, lh, l1, lr, k⟩ := h
    refine ⟨_, (pss_cons (ps_set (i := 3) sc.nd rfl (by first | exact Or.inl rfl | exact Or.inr rfl) (pe_call G__law_draw (hr.mono (by decide)) (by rfl) mg__law_draw kp__law_draw b__law_draw .nil pass0 (pa_cons (pv 0) (pa_cons pe_int pa_nil))))
    (pss_cons (ps_if (pt_cmpR op_eq (pv 3) pe_int (nomark _)) (pss_one (ps_ret (pe_call G__law_moment (hr.mono (by decide)) (by rfl) mg__law_moment kp__law_moment b__law_moment .nil pass0 (pa_cons (pv 0) pa_nil)))) pss_nil)
    (pss_cons (ps_if (pt_cmpR op_eq (pv 3) pe_int (nomark _)) (pss_one (ps_ret (pe_tup (pa_cons (pe_slice sl_T (pe_op op_addT (pv 1) (pv 2)) po_none (po_some pe_int)) (pa_cons (pv 2) pa_nil))))) pss_nil)
    (pss_cons (ps_set (i := 4) sc.nd rfl (by first | exact Or.inl rfl | exact Or.inr rfl) (pe_call G__law_draw (hr.mono (by decide)) (by rfl) mg__law_draw kp__law_draw b__law_draw .nil pass0 (pa_cons (pv 0) (pa_cons (pe_callB call_lenT (by rfl) B.len PySem.boot_len (pa_cons (pv 2) pa_nil)) pa_nil))))
    (pss_cons (ps_if (pt_cmpR op_eq (pv 3) pe_int (nomark _)) (pss_one (ps_ret (pe_tup (pa_cons (pe_call G__law_word (hr.mono (by decide)) (by rfl) mg__law_word kp__law_word b__law_word .nil pass0 (pa_cons (pv 0) (pa_cons pe_int pa_nil))) (pa_cons (pe_op op_addT (pe_slice sl_T (pv 2) (po_some (pv 4)) po_none) (pe_slice sl_T (pv 2) po_none (po_some (pv 4)))) pa_nil))))) pss_nil)
    (pss_one (ps_ret (pe_tup (pa_cons (pe_op op_addT (pe_slice sl_T (pv 1) po_none (po_some (pe_un un_neg pe_int))) (pe_ix ix_T (pe_strT [48, 49] (by decide +kernel)) (pe_call G__law_draw (hr.mono (by decide)) (by rfl) mg__law_draw kp__law_draw b__law_draw .nil pass0 (pa_cons (pv 0) (pa_cons pe_int pa_nil))) (fun _ _ => rfl))) (pa_cons (pv 2) pa_nil)))))))))), ?_⟩
    refine ⟨_, rfl, p, 4, n, rfl, hp, by omega, by decide, by decide, fun H1 way s1 p1 hw => ?_⟩
    refine ⟨_, rfl, rfl, _, rfl, ?_⟩
    refine ite2 (fun c1 => ?_) (fun c1 => ?_)
    · refine ⟨_, rfl, p, n + 1, rfl, p1, by omega, fun H2 t h2 r2 s2 p2 m2 b1 b2 g1 g2 g3 => ?_⟩
      exact k _ t h2 r2 (s1.trans s2) (p2.mono (by omega)) m2 b1 b2 g1 g2 g3
    refine ⟨_, rfl, rfl, _, rfl, ?_⟩
    refine ite2 (fun c2 => ?_) (fun c2 => ?_)
    · refine ⟨_, rfl, _, rfl, hd, r, rfl, rfl, le_line (by omega), _, rfl, _, rfl, le_line (by rw [List.length_append]; omega), ?_⟩
      rw [show cutL (hd ++ r) none (some 60) = (hd ++ r).take 60 from cut_hi (hd ++ r) 60]
      refine ⟨_, rfl, (by show 2 ≤ sizeLine; decide), fun t ht => ?_⟩
      refine k _ t _ r (s1.trans (SB.of (Same.new ht))) ((p1.mono (by omega)).new ht) upd_same ((bh.app br).take _) br (by rw [List.length_take]; omega) l1 lr
    refine ⟨_, rfl, _, rfl, r, rfl, le_line (by omega), p, r.length, n + 1, rfl, p1, by omega, by omega, by omega, fun H2 z s2 p2 hz => ?_⟩
    refine ⟨_, rfl, rfl, _, rfl, ?_⟩
    refine ite2 (fun c3 => ?_) (fun c3 => ?_)
    · refine ⟨_, rfl, p, 9, n + 2, rfl, p2, by omega, by decide, fun H3 l s3 p3 bl ll => ?_⟩
      refine ⟨_, rfl, _, rfl, _, rfl, r, rfl, le_line (by omega), ?_⟩
      rw [cut_lo]
      refine ⟨_, rfl, _, rfl, _, rfl, r, rfl, le_line (by omega), ?_⟩
      rw [cut_hi]
      refine ⟨_, _, rfl, rfl, le_line (by rw [List.length_drop, List.length_take]; omega), (by show 2 ≤ sizeLine; decide), fun t ht => ?_⟩
      refine k _ t l _ (s1.trans (s2.trans (s3.trans (SB.of (Same.new ht))))) ((p3.mono (by omega)).new ht) upd_same bl ((br.drop _).app (br.take _)) (by omega) ?_ ?_
      · rw [List.length_append, List.length_drop, List.length_take]; omega
      · rw [List.length_append, List.length_drop, List.length_take]; omega
    · refine ⟨_, rfl, _, rfl, _, rfl, hd, rfl, le_line (by omega), ?_⟩
      rw [show cutL hd none (some (-1)) = hd.dropLast from cut_last hd]
      refine ⟨_, rfl, p, 2, n + 2, rfl, p2, by omega, by decide, by decide, fun H5 r5 s5 p5 hr5 => ?_⟩
      obtain ⟨c, ec, bc⟩ := bit2 hr5
      refine ⟨[48, 49], _, c, rfl, rfl, by decide, atI_of ec, ?_⟩
      refine ⟨hd.dropLast, [c], rfl, rfl, le_line (by rw [List.length_dropLast]; show _ + 1 ≤ _; omega), _, rfl, (by show 2 ≤ sizeLine; decide), fun t ht => ?_⟩
      refine k _ t (hd.dropLast ++ [c]) r (s1.trans (s2.trans (s5.trans (SB.of (Same.new ht))))) ((p5.mono (by omega)).new ht) upd_same ?_ br ?_ l1 lr
      · rw [List.dropLast_eq_take]
        exact (bh.take _).app bc
      · rw [List.length_append, List.length_dropLast]; show _ + 1 ≤ _; omega

theorem ok__law_tails {f : Addr} {fd : FuncData} (F : Fun K "_law_tails" "_law_tails" s__law_tails f fd) (B : Blt mg) (h__law_signs : Has P w K mg base "_law_signs" 1 ["head", "ring", "size"] spSigns) :
    FnOk P w K mg base CX0 2 f fd ["near", "last"] spTails := by
  have sc := sc__law_tails
  obtain ⟨f__law_signs, fd__law_signs, mg__law_signs, kp__law_signs, b__law_signs, G__law_signs⟩ := h__law_signs
  refine F.ok sc (fun vs H Q E h => ?_) (fun cdv A outer s H vs Q E hr h => ?_)
  · obtain ⟨t, u, h1, r1, h2, r2, rfl, _⟩ := h
    rfl
  · obtain ⟨t, u, h1, r1, h2, r2, rfl, g1, g2, a1, a2, a3, a4, k⟩ := h
    refine ⟨_, (pss_cons (ps_for PassesOwn.never rfl (pi_range1 (by rfl) B.range (pa_cons (pe_callB call_lenT (by rfl) B.len PySem.boot_len (pa_cons (pe_ix ix_tup (pv 1) pe_int (fun _ _ => rfl)) pa_nil)) pa_nil)) (pg_name (i := 2) sc.nd rfl (by first | exact Or.inl rfl | exact Or.inr rfl))
      (pss_cons (ps_set (i := 3) sc.nd rfl (by first | exact Or.inl rfl | exact Or.inr rfl) (pe_op op_addT (pe_slice sl_T (pe_ix ix_tup (pv 1) pe_int (fun _ _ => rfl)) (po_some (pv 2)) po_none) (pe_slice sl_T (pe_ix ix_tup (pv 1) pe_int (fun _ _ => rfl)) po_none (po_some (pv 2)))))
    (pss_one (ps_if (pt_cmpR op_eqT (pe_call G__law_signs (hr.mono (by decide)) (by rfl) mg__law_signs kp__law_signs b__law_signs .nil pass0 (pa_cons (pe_strT [] (by decide +kernel)) (pa_cons (pe_ix ix_tup (pv 0) pe_int (fun _ _ => rfl)) (pa_cons pe_int pa_nil)))) (pe_call G__law_signs (hr.mono (by decide)) (by rfl) mg__law_signs kp__law_signs b__law_signs .nil pass0 (pa_cons (pe_strT [] (by decide +kernel)) (pa_cons (pv 3) (pa_cons pe_int pa_nil)))) (nomark _)) (pss_one (ps_ret pe_bl)) pss_nil))))
    (pss_one (ps_ret pe_bl))), ?_⟩
    have ti := turn_iff a1 a3 (by omega)
    refine ⟨_, rfl, u, _, _, _, rfl, rfl, g2.tup, atI_of (i := 1) rfl, r2, rfl, le_line (by omega), (r2.length : Int), rfl, by omega, by omega, ?_⟩
    refine for_range (lo := 0) (n := (r2.length : Int).toNat) (fun i σ H' => H' = H ∧ (∃ v x : Option V, σ = [some (.ref t), some (.ref u), v, x]) ∧ ∀ j, j < i → ¬ sg [] r1 150 = sg [] (r2.drop j ++ r2.take j) 150) ⟨rfl, ⟨none, none, rfl⟩, fun j hj => by omega⟩ ?_ ?_
    · rintro i σ H' hi ⟨rfl, ⟨v, x, rfl⟩, hj⟩
      have e0 : (0 + (i : Int)) = ((i : Nat) : Int) := by omega
      rw [e0]
      refine ⟨_, rfl, u, _, _, _, rfl, rfl, g2.tup, atI_of (i := 1) rfl, _, rfl, _, rfl, r2, rfl, le_line (by omega), ?_⟩
      rw [cut_lo]
      refine ⟨_, rfl, u, _, _, _, rfl, rfl, g2.tup, atI_of (i := 1) rfl, _, rfl, _, rfl, r2, rfl, le_line (by omega), ?_⟩
      rw [cut_hi]
      refine ⟨_, _, rfl, rfl, le_line (by rw [List.length_drop, List.length_take]; omega), ?_⟩
      have hl : (r2.drop i ++ r2.take i).length = r2.length := by rw [List.length_append, List.length_drop, List.length_take]; omega
      refine ⟨_, rfl, t, _, _, _, rfl, rfl, g1.tup, atI_of (i := 1) rfl, [], r1, 150, rfl, by decide, a1, by omega, by decide, ?_⟩
      refine ⟨_, rfl, [], r2.drop i ++ r2.take i, 150, rfl, by decide, by omega, by omega, by decide, _, _, rfl, rfl, _, rfl, ?_⟩
      refine ite2 (fun c => ?_) (fun c => ?_)
      · refine k true ⟨fun _ => ti.mp ⟨i, by omega, of_decide_eq_true c⟩, fun _ => rfl⟩
      · refine ⟨rfl, ⟨_, _, rfl⟩, fun j hj2 => ?_⟩
        by_cases e : j = i
        · subst e
          exact fun q => c (decide_eq_true q)
        · exact hj j (by omega)
    · rintro σ H' ⟨rfl, ⟨v, x, rfl⟩, hj⟩
      refine k false ⟨fun z => Bool.noConfusion z, fun z => ?_⟩
      obtain ⟨j, h1, h2⟩ := ti.mpr z
      exact absurd h2 (hj j (by omega))
end
end HC

namespace HC
open PySem PySem.Spec PyProof.Rows L2
def spRight : Sp := fun vs H Q _ => ∃ (p : Addr) (n : Nat), vs = [.ref p] ∧ PoolAt H p n ∧ n + 2000 < 2 ^ 30 ∧ ∀ H', SB p H H' → PoolAt H' p (n + 2000) → Q (.bl true) H'
def spLaw (K : PySem.W.Frag) : Sp := fun vs H Q _ => ∃ (a : Addr) (ns : List Int), vs = [.ref a] ∧ SqL K H a (ns.map V.int) ∧ ns.length ≤ 63 ∧ ∀ H', Q (.bl true) H'
theorem bool_of {b : Bool} {p : Prop} [Decidable p] (h : b = true ↔ p) : b = decide p := by
  rw [Bool.eq_iff_iff, h, decide_eq_true_iff]
theorem Mom.of {h r : List Nat} (bh : Bin h) (br : Bin r) (lh : h.length ≤ 60) (l1 : 1 ≤ r.length) (lr : r.length ≤ 12) : Mom h r := ⟨bh, br, by omega, l1, by omega⟩
section
variable {P : Program} {w : World} {K : PySem.W.Frag} {mg : Str → Option Value} {base : Heap}
/-- a def of the top, with its promise, called by both keywords the other way round, too -/
def HasS (P : Program) (w : World) (K : PySem.W.Frag) (mg : Str → Option Value) (base : Heap) (x : Str) (k : Nat) (ps : List Str) (sp : Sp) : Prop :=
  ∃ (f : Addr) (fd : FuncData), mg x = some (.ref f) ∧ PySem.W.keepIn K (.ref f) = true ∧ Binds K fd ps [] ∧ KBinds K fd ps ps.reverse swG swG ∧ FnOk P w K mg base CX0 k f fd ps sp
theorem ok__law_right {f : Addr} {fd : FuncData} (F : Fun K "_law_right" "_law_right" s__law_right f fd) (h__law_moment : Has P w K mg base "_law_moment" 3 ["pool"] spMoment) (h__law_other : Has P w K mg base "_law_other" 4 ["pool", "head", "ring"] spOther)
    (h__law_signs : Has P w K mg base "_law_signs" 1 ["head", "ring", "size"] spSigns) (h_is_before : HasS P w K mg base "is_before" 3 ["first", "second"] spIsBefore) (h_have_common_tail : HasS P w K mg base "have_common_tail" 3 ["first", "second"] spTail)
    (h__law_tails : Has P w K mg base "_law_tails" 2 ["near", "last"] spTails) : FnOk P w K mg base CX0 5 f fd ["pool"] spRight := by
  have sc := sc__law_right
  obtain ⟨f__law_moment, fd__law_moment, mg__law_moment, kp__law_moment, b__law_moment, G__law_moment⟩ := h__law_moment
  obtain ⟨f__law_other, fd__law_other, mg__law_other, kp__law_other, b__law_other, G__law_other⟩ := h__law_other
  obtain ⟨f__law_signs, fd__law_signs, mg__law_signs, kp__law_signs, b__law_signs, G__law_signs⟩ := h__law_signs
  obtain ⟨f__law_tails, fd__law_tails, mg__law_tails, kp__law_tails, b__law_tails, G__law_tails⟩ := h__law_tails
  obtain ⟨f_is_before, fd_is_before, mg_is_before, kp_is_before, b_is_before, KB_is_before_second_first, G_is_before⟩ := h_is_before
  obtain ⟨f_have_common_tail, fd_have_common_tail, mg_have_common_tail, kp_have_common_tail, b_have_common_tail, KB_have_common_tail_second_first, G_have_common_tail⟩ := h_have_common_tail
  refine F.ok sc (fun vs H Q E h => ?_) (fun cdv A outer s H vs Q E hr h => ?_)
  · obtain ⟨p, n, rfl, _⟩ := h
    rfl
  · obtain ⟨p, n, rfl, hp, hn, k⟩ := h
    refine ⟨_, (pss_cons (ps_set (i := 1) sc.nd rfl (by first | exact Or.inl rfl | exact Or.inr rfl) (pe_call G__law_moment (hr.mono (by decide)) (by rfl) mg__law_moment kp__law_moment b__law_moment .nil pass0 (pa_cons (pv 0) pa_nil)))
    (pss_cons (ps_set (i := 2) sc.nd rfl (by first | exact Or.inl rfl | exact Or.inr rfl) (pe_call G__law_other (hr.mono (by decide)) (by rfl) mg__law_other kp__law_other b__law_other .nil pass0 (pa_cons (pv 0) (pa_cons (pe_ix ix_tup (pv 1) pe_int (fun _ _ => rfl)) (pa_cons (pe_ix ix_tup (pv 1) pe_int (fun _ _ => rfl)) pa_nil)))))
    (pss_cons (ps_set (i := 3) sc.nd rfl (by first | exact Or.inl rfl | exact Or.inr rfl) (pe_lst (pa_cons (pe_call G__law_signs (hr.mono (by decide)) (by rfl) mg__law_signs kp__law_signs b__law_signs .nil pass0 (pa_cons (pe_ix ix_tup (pv 1) pe_int (fun _ _ => rfl)) (pa_cons (pe_ix ix_tup (pv 1) pe_int (fun _ _ => rfl)) (pa_cons pe_int pa_nil)))) (pa_cons (pe_call G__law_signs (hr.mono (by decide)) (by rfl) mg__law_signs kp__law_signs b__law_signs .nil pass0 (pa_cons (pe_ix ix_tup (pv 2) pe_int (fun _ _ => rfl)) (pa_cons (pe_ix ix_tup (pv 2) pe_int (fun _ _ => rfl)) (pa_cons pe_int pa_nil)))) pa_nil))))
    (pss_cons (ps_set (i := 4) sc.nd rfl (by first | exact Or.inl rfl | exact Or.inr rfl) (pe_lst (pa_cons (pe_call G_is_before (hr.mono (by decide)) (by rfl) mg_is_before kp_is_before b_is_before .nil pass0 (pa_cons (pv 1) (pa_cons (pv 2) pa_nil))) (pa_cons (pe_call G_is_before (hr.mono (by decide)) (by rfl) mg_is_before kp_is_before b_is_before .nil pass0 (pa_cons (pv 2) (pa_cons (pv 1) pa_nil))) (pa_cons (pe_callK0 G_is_before (hr.mono (by decide)) (by rfl) mg_is_before kp_is_before KB_is_before_second_first pass0 (pk_cons (pv 2) (pk_cons (pv 1) pk_nil))) (pa_cons (pe_call G_is_before (hr.mono (by decide)) (by rfl) mg_is_before kp_is_before b_is_before .nil pass0 (pa_cons (pv 1) (pa_cons (pv 1) pa_nil))) pa_nil))))))
    (pss_cons (ps_if (pt_cmpR (op_neD hr.units) (pv 4) (pe_lst (pa_cons (pe_cmpR op_ltT' (pe_ix ix_list (pv 3) pe_int (fun _ _ => rfl)) (pe_ix ix_list (pv 3) pe_int (fun _ _ => rfl)) (nomark _)) (pa_cons (pe_cmpR op_ltT' (pe_ix ix_list (pv 3) pe_int (fun _ _ => rfl)) (pe_ix ix_list (pv 3) pe_int (fun _ _ => rfl)) (nomark _)) (pa_cons (pe_cmpR op_ltT' (pe_ix ix_list (pv 3) pe_int (fun _ _ => rfl)) (pe_ix ix_list (pv 3) pe_int (fun _ _ => rfl)) (nomark _)) (pa_cons pe_bl pa_nil))))) (nomark _)) (pss_one (ps_ret pe_bl)) pss_nil)
    (pss_cons (ps_set (i := 4) sc.nd rfl (by first | exact Or.inl rfl | exact Or.inr rfl) (pe_lst (pa_cons (pe_call G_have_common_tail (hr.mono (by decide)) (by rfl) mg_have_common_tail kp_have_common_tail b_have_common_tail .nil pass0 (pa_cons (pv 1) (pa_cons (pv 2) pa_nil))) (pa_cons (pe_call G_have_common_tail (hr.mono (by decide)) (by rfl) mg_have_common_tail kp_have_common_tail b_have_common_tail .nil pass0 (pa_cons (pv 2) (pa_cons (pv 1) pa_nil))) (pa_cons (pe_callK0 G_have_common_tail (hr.mono (by decide)) (by rfl) mg_have_common_tail kp_have_common_tail KB_have_common_tail_second_first pass0 (pk_cons (pv 2) (pk_cons (pv 1) pk_nil))) pa_nil)))))
    (pss_one (ps_ret (pe_and (pe_cmpR (op_eqD hr.units) (pv 4) (pe_op op_rep (pe_lst (pa_cons (pe_call G__law_tails (hr.mono (by decide)) (by rfl) mg__law_tails kp__law_tails b__law_tails .nil pass0 (pa_cons (pv 1) (pa_cons (pv 2) pa_nil))) pa_nil)) pe_int) (nomark _)) (pe_one (pe_call G_have_common_tail (hr.mono (by decide)) (by rfl) mg_have_common_tail kp_have_common_tail b_have_common_tail .nil pass0 (pa_cons (pv 1) (pa_cons (pv 1) pa_nil))))))))))))), ?_⟩
    refine ⟨_, rfl, p, n, rfl, hp, by omega, fun H1 t h1 r1 s1 p1 m1 bh1 br1 lh1 l11 lr1 => ?_⟩
    refine ⟨_, rfl, _, rfl, t, _, _, _, rfl, rfl, m1.tup, atI_of (i := 0) rfl, _, rfl, t, _, _, _, rfl, rfl, m1.tup, atI_of (i := 1) rfl, p, h1, r1, n + 300, rfl, p1, by omega, bh1, br1, lh1, l11, lr1, fun H2 u h2 r2 s2 p2 m2 bh2 br2 lh2 l12 lr2 => ?_⟩
    have m1' := m1.sb p1 s2
    have M1 : Mom h1 r1 := .of bh1 br1 lh1 l11 lr1
    have M2 : Mom h2 r2 := .of bh2 br2 lh2 l12 lr2
    refine ⟨_, rfl, t, _, _, _, rfl, rfl, m1'.tup, atI_of (i := 0) rfl, _, rfl, t, _, _, _, rfl, rfl, m1'.tup, atI_of (i := 1) rfl, h1, r1, 200, rfl, by omega, l11, by omega, by decide, ?_⟩
    refine ⟨_, rfl, u, _, _, _, rfl, rfl, m2.tup, atI_of (i := 0) rfl, _, rfl, u, _, _, _, rfl, rfl, m2.tup, atI_of (i := 1) rfl, h2, r2, 200, rfl, by omega, l12, by omega, by decide, ?_⟩
    refine ⟨(by show 2 ≤ sizeLine; decide), fun S hS => ?_⟩
    have n1 := m1'.new (o := .lst [.str (T (sg h1 r1 200)), .str (T (sg h2 r2 200))]) hS
    have n2 := m2.new (o := .lst [.str (T (sg h1 r1 200)), .str (T (sg h2 r2 200))]) hS
    refine ⟨_, rfl, _, rfl, t, u, h1, r1, h2, r2, rfl, n1, n2, M1, M2, fun b1 e1 => ?_⟩
    refine ⟨_, rfl, _, rfl, u, t, h2, r2, h1, r1, rfl, n2, n1, M2, M1, fun b2 e2 => ?_⟩
    refine ⟨_, rfl, _, rfl, t, u, h1, r1, h2, r2, rfl, n1, n2, M1, M2, fun b3 e3 => ?_⟩
    refine ⟨_, rfl, _, rfl, t, t, h1, r1, h1, r1, rfl, n1, n1, M1, M1, fun b4 e4 => ?_⟩
    refine ⟨(by show 4 ≤ sizeLine; decide), fun l hl => ?_⟩
    have hS2 : upd (upd H2 S (.lst [.str (T (sg h1 r1 200)), .str (T (sg h2 r2 200))])) l (.lst [.bl b1, .bl b2, .bl b3, .bl b4]) S = some (.lst [.str (T (sg h1 r1 200)), .str (T (sg h2 r2 200))]) := Same.new hl _ _ upd_same
    refine ⟨_, rfl, _, rfl, S, _, _, _, rfl, rfl, SqL.of hS2, atI_of (i := 0) rfl, _, rfl, S, _, _, _, rfl, rfl, SqL.of hS2, atI_of (i := 1) rfl, _, _, rfl, rfl, ?_⟩
    refine ⟨_, rfl, S, _, _, _, rfl, rfl, SqL.of hS2, atI_of (i := 1) rfl, _, rfl, S, _, _, _, rfl, rfl, SqL.of hS2, atI_of (i := 0) rfl, _, _, rfl, rfl, ?_⟩
    refine ⟨_, rfl, S, _, _, _, rfl, rfl, SqL.of hS2, atI_of (i := 0) rfl, _, rfl, S, _, _, _, rfl, rfl, SqL.of hS2, atI_of (i := 1) rfl, _, _, rfl, rfl, ?_⟩
    refine ⟨(by show 4 ≤ sizeLine; decide), fun q hq => ?_⟩
    have i1 : b1 = decide (sg h1 r1 200 < sg h2 r2 200) := bool_of (e1.trans (bef_iff l11 l12 (by omega)).symm)
    have i2 : b2 = decide (sg h2 r2 200 < sg h1 r1 200) := bool_of (e2.trans (bef_iff l12 l11 (by omega)).symm)
    have i3 : b3 = decide (sg h1 r1 200 < sg h2 r2 200) := bool_of (e3.trans (bef_iff l11 l12 (by omega)).symm)
    have i4 : b4 = false := by
      cases b4 with
      | false => rfl
      | true =>
        obtain ⟨i, _, hi⟩ := e4.mp rfl
        omega
    refine ⟨.list [.bool b1, .bool b2, .bool b3, .bool b4], .list [.bool (decide (sg h1 r1 200 < sg h2 r2 200)), .bool (decide (sg h2 r2 200 < sg h1 r1 200)), .bool (decide (sg h1 r1 200 < sg h2 r2 200)), .bool false],
      .lst (SqL.of (Same.new hq _ _ upd_same)) (.cons (.bl _) (.cons (.bl _) (.cons (.bl _) (.cons (.bl _) .nil)))), .lst (SqL.of upd_same) (.cons (.bl _) (.cons (.bl _) (.cons (.bl _) (.cons (.bl _) .nil)))), rfl, rfl, _, rfl, ?_⟩
    have E1 : PyData.eqv (.list [.bool b1, .bool b2, .bool b3, .bool b4]) (.list [.bool (decide (sg h1 r1 200 < sg h2 r2 200)), .bool (decide (sg h2 r2 200 < sg h1 r1 200)), .bool (decide (sg h1 r1 200 < sg h2 r2 200)), .bool false]) = true := by
      rw [← i1, ← i2, i4]
      have : b3 = b1 := i3.trans i1.symm
      rw [this]
      simp [PyData.eqv, PyData.eqvAll]
    rw [E1]
    refine iteF ?_
    -- told again
    have sm : Same (upd H2 S (.lst [.str (T (sg h1 r1 200)), .str (T (sg h2 r2 200))])) _ := (Same.new hl).trans (Same.new hq (o := .lst [.bl (decide (sg h1 r1 200 < sg h2 r2 200)), .bl (decide (sg h2 r2 200 < sg h1 r1 200)), .bl (decide (sg h1 r1 200 < sg h2 r2 200)), .bl false]))
    have o1 := n1.same sm
    have o2 := n2.same sm
    refine ⟨_, rfl, _, rfl, t, u, h1, r1, h2, r2, rfl, o1, o2, M1, M2, fun c1 d1 => ?_⟩
    refine ⟨_, rfl, _, rfl, u, t, h2, r2, h1, r1, rfl, o2, o1, M2, M1, fun c2 d2 => ?_⟩
    refine ⟨_, rfl, _, rfl, t, u, h1, r1, h2, r2, rfl, o1, o2, M1, M2, fun c3 d3 => ?_⟩
    refine ⟨(by show 3 ≤ sizeLine; decide), fun v hv => ?_⟩
    have o1' := o1.new (o := .lst [.bl c1, .bl c2, .bl c3]) hv
    have o2' := o2.new (o := .lst [.bl c1, .bl c2, .bl c3]) hv
    refine ⟨_, rfl, _, rfl, _, rfl, t, u, h1, r1, h2, r2, rfl, o1', o2', l11, lr1, l12, lr2, fun c4 d4 => ?_⟩
    refine ⟨(by show 1 ≤ sizeLine; decide), fun x hx => ?_⟩
    refine ⟨x, 3, _, rfl, rfl, upd_same, by decide, by decide, (by show 3 ≤ sizeLine; decide), fun y hy => ?_⟩
    refine ⟨.list [.bool c1, .bool c2, .bool c3], .list [.bool c4, .bool c4, .bool c4],
      .lst (SqL.of (Same.new hy _ _ (Same.new hx _ _ upd_same))) (.cons (.bl _) (.cons (.bl _) (.cons (.bl _) .nil))), .lst (SqL.of upd_same) (.cons (.bl _) (.cons (.bl _) (.cons (.bl _) .nil))), rfl, rfl, _, rfl, ?_⟩
    have j1 : c1 = c4 := Bool.eq_iff_iff.mpr (d1.trans d4.symm)
    have j2 : c2 = c4 := Bool.eq_iff_iff.mpr (d2.trans ⟨fun z => d4.mpr (z.symm l11), fun z => (d4.mp z).symm l12⟩)
    have j3 : c3 = c4 := Bool.eq_iff_iff.mpr (d3.trans d4.symm)
    have E2 : PyData.eqv (.list [.bool c1, .bool c2, .bool c3]) (.list [.bool c4, .bool c4, .bool c4]) = true := by
      rw [j1, j2, j3]
      simp [PyData.eqv, PyData.eqvAll]
    rw [E2]
    refine iteT ?_
    have sm2 := (Same.new hv (o := .lst [.bl c1, .bl c2, .bl c3])).trans ((Same.new hx (o := .lst [.bl c4])).trans (Same.new hy (o := .lst (List.replicate (3 : Int).toNat [V.bl c4]).flatten)))
    refine ⟨_, rfl, _, rfl, t, t, h1, r1, h1, r1, rfl, o1.same sm2, o1.same sm2, M1, M1, fun c5 d5 => ?_⟩
    have e5 : c5 = true := d5.mpr (Tail.refl _)
    rw [e5]
    have sm3 := (Same.new hS).trans (sm.trans sm2)
    refine k _ (s1.trans (s2.trans (SB.of sm3))) ((p2.same sm3).mono (by omega))

theorem bef_01 : Bef (val [48] [49]) (val [49] [48]) := ⟨0, fun j hj => absurd hj (by omega), by decide⟩
theorem bef_10 : ¬ Bef (val [49] [48]) (val [48] [49]) := by
  rintro ⟨i, h1, h2⟩
  cases i with
  | zero => exact absurd h2 (by decide)
  | succ i => exact absurd (h1 0 (by omega)) (by decide)
theorem bit_0 : Bin [48] := fun c hc => by simp at hc; omega
theorem bit_1 : Bin [49] := fun c hc => by simp at hc; omega
theorem bit_01 : Bin [48, 49] := fun c hc => by simp at hc; omega
theorem ok_law {f : Addr} {fd : FuncData} (F : Fun K "law" "law" s_law f fd) (B : Blt mg) (h__law_pool : Has P w K mg base "_law_pool" 1 ["script", "at"] (spPool K)) (h__law_right : Has P w K mg base "_law_right" 5 ["pool"] spRight)
    (h_is_before : HasS P w K mg base "is_before" 3 ["first", "second"] spIsBefore) (h_have_common_tail : HasS P w K mg base "have_common_tail" 3 ["first", "second"] spTail) : FnOk P w K mg base CX0 6 f fd ["script"] (spLaw K) := by
  have sc := sc_law
  obtain ⟨f__law_pool, fd__law_pool, mg__law_pool, kp__law_pool, b__law_pool, G__law_pool⟩ := h__law_pool
  obtain ⟨f__law_right, fd__law_right, mg__law_right, kp__law_right, b__law_right, G__law_right⟩ := h__law_right
  obtain ⟨f_is_before, fd_is_before, mg_is_before, kp_is_before, b_is_before, KB_is_before_second_first, G_is_before⟩ := h_is_before
  obtain ⟨f_have_common_tail, fd_have_common_tail, mg_have_common_tail, kp_have_common_tail, b_have_common_tail, KB_have_common_tail_second_first, G_have_common_tail⟩ := h_have_common_tail
  refine F.ok sc (fun vs H Q E h => ?_) (fun cdv A outer s H vs Q E hr h => ?_)
  · obtain ⟨a, ns, rfl, _⟩ := h
    rfl
  · obtain ⟨a, ns, rfl, hS, hl, k⟩ := h
    refine ⟨_, (pss_cons (ps_for PassesOwn.never rfl (pi_range1 (by rfl) B.range (pa_cons (pe_callB (call_max2 rfl) (by rfl) B.max (by decide +kernel) (pa_cons pe_int (pa_cons (pe_callB (call_min2 rfl) (by rfl) B.min (by decide +kernel) (pa_cons pe_int (pa_cons (pe_callB call_len_seq (by rfl) B.len PySem.boot_len (pa_cons (pv 0) pa_nil)) pa_nil))) pa_nil))) pa_nil)) (pg_name (i := 1) sc.nd rfl (by first | exact Or.inl rfl | exact Or.inr rfl))
      (pss_cons (ps_set (i := 2) sc.nd rfl (by first | exact Or.inl rfl | exact Or.inr rfl) (pe_call G__law_pool (hr.mono (by decide)) (by rfl) mg__law_pool kp__law_pool b__law_pool .nil pass0 (pa_cons (pv 0) (pa_cons (pv 1) pa_nil))))
    (pss_one (ps_for PassesOwn.never rfl (pi_range1 (by rfl) B.range (pa_cons pe_int pa_nil)) (pg_name (i := 3) sc.nd rfl (by first | exact Or.inl rfl | exact Or.inr rfl))
      (pss_one (ps_if (pt_not (pt_val (pe_call G__law_right (hr.mono (by decide)) (by rfl) mg__law_right kp__law_right b__law_right .nil pass0 (pa_cons (pv 2) pa_nil)))) (pss_one (ps_ret pe_bl)) pss_nil))))))
    (pss_cons (ps_set (i := 4) sc.nd rfl (by first | exact Or.inl rfl | exact Or.inr rfl) (pe_lst (pa_cons (pe_call G_is_before (hr.mono (by decide)) (by rfl) mg_is_before kp_is_before b_is_before .nil pass0 (pa_cons (pe_tup (pa_cons (pe_strT [48] (by decide +kernel)) (pa_cons (pe_strT [49] (by decide +kernel)) pa_nil))) (pa_cons (pe_tup (pa_cons (pe_strT [49] (by decide +kernel)) (pa_cons (pe_strT [48] (by decide +kernel)) pa_nil))) pa_nil))) (pa_cons (pe_call G_is_before (hr.mono (by decide)) (by rfl) mg_is_before kp_is_before b_is_before .nil pass0 (pa_cons (pe_tup (pa_cons (pe_strT [49] (by decide +kernel)) (pa_cons (pe_strT [48] (by decide +kernel)) pa_nil))) (pa_cons (pe_tup (pa_cons (pe_strT [48] (by decide +kernel)) (pa_cons (pe_strT [49] (by decide +kernel)) pa_nil))) pa_nil))) pa_nil))))
    (pss_one (ps_ret (pe_cmpR (op_eqD hr.units) (pe_op op_cat (pv 4) (pe_lst (pa_cons (pe_call G_have_common_tail (hr.mono (by decide)) (by rfl) mg_have_common_tail kp_have_common_tail b_have_common_tail .nil pass0 (pa_cons (pe_tup (pa_cons (pe_strT [] (by decide +kernel)) (pa_cons (pe_strT [48, 49] (by decide +kernel)) pa_nil))) (pa_cons (pe_tup (pa_cons (pe_strT [49] (by decide +kernel)) (pa_cons (pe_strT [48, 49] (by decide +kernel)) pa_nil))) pa_nil))) pa_nil))) (pe_lst (pa_cons pe_bl (pa_cons pe_bl (pa_cons pe_bl pa_nil)))) (nomark _)))))), ?_⟩
    refine ⟨_, rfl, a, _, rfl, .inl hS, _, _, rfl, _, _, rfl, ?_⟩
    have hlen : ((ns.map V.int).length : Int) ≤ 63 := by rw [List.length_map]; omega
    refine ⟨_, rfl, ?_, ?_, ?_⟩
    · split <;> (try split) <;> omega
    · split <;> (try split) <;> omega
    generalize hmany : (if (if ((ns.map V.int).length : Int) < 10 then ((ns.map V.int).length : Int) else 10) > 1 then (if ((ns.map V.int).length : Int) < 10 then ((ns.map V.int).length : Int) else 10) else 1) = many
    have hmany2 : many ≤ 10 := by
      rw [← hmany]
      split <;> (try split) <;> omega
    refine for_range (lo := 0) (n := many.toNat) (fun i σ H' => Same H H' ∧ ∃ v x y z : Option V, σ = [some (.ref a), v, x, y, z]) ⟨Same.refl _, _, _, _, _, rfl⟩ ?_ ?_
    · rintro i σ H' hi ⟨sm, v, x, y, z, rfl⟩
      refine ⟨_, rfl, _, rfl, a, ns, i, by rw [Int.zero_add]; rfl, sm.seq hS, by omega, fun H1 p s1 hp p1 => ?_⟩
      refine ⟨10, rfl, by decide, by decide, ?_⟩
      refine for_range (lo := 0) (n := (10 : Int).toNat) (fun j σ H2 => SB p H1 H2 ∧ PoolAt H2 p (2000 * j) ∧ ∃ x z : Option V, σ = [some (.ref a), some (.int (0 + (i : Int))), some (.ref p), x, z]) ⟨SB.refl, p1.mono (by omega), _, _, rfl⟩ ?_ ?_
      · rintro j σ H2 hj ⟨sb, pp, x, z, rfl⟩
        have hj2 : j < 10 := hj
        refine ⟨_, rfl, p, 2000 * j, rfl, pp, by omega, fun H3 s3 p3 => ⟨true, rfl, iteF ?_⟩⟩
        exact ⟨sb.trans s3, p3.mono (by omega), _, _, rfl⟩
      · rintro σ H2 ⟨sb, pp, x, z, rfl⟩
        refine ⟨fun b o hb => ?_, _, _, _, _, rfl⟩
        have hb2 := sm _ _ hb
        exact sb _ _ (s1 _ _ hb2) (ne_of_none hb2 hp)
    · rintro σ H' ⟨sm, v, x, y, z, rfl⟩
      have M01 : Mom [48] [49] := ⟨bit_0, bit_1, by decide, by decide, by decide⟩
      have M10 : Mom [49] [48] := ⟨bit_1, bit_0, by decide, by decide, by decide⟩
      refine ⟨(by show 2 ≤ sizeLine; decide), fun t1 ht1 => ⟨(by show 2 ≤ sizeLine; decide), fun t2 ht2 => ?_⟩⟩
      have m1 : MomAt (upd H' t1 (.tup [.str (T [48]), .str (T [49])])) t1 [48] [49] := upd_same
      refine ⟨t1, t2, [48], [49], [49], [48], rfl, m1.new ht2, upd_same, M01, M10, fun b1 e1 => ?_⟩
      refine ⟨(by show 2 ≤ sizeLine; decide), fun t3 ht3 => ⟨(by show 2 ≤ sizeLine; decide), fun t4 ht4 => ?_⟩⟩
      refine ⟨t3, t4, [49], [48], [48], [49], rfl, MomAt.new (H := upd _ t3 _) upd_same ht4, upd_same, M10, M01, fun b2 e2 => ?_⟩
      have f1 : b1 = true := e1.mpr bef_01
      have f2 : b2 = false := by
        cases b2 with
        | false => rfl
        | true => exact absurd (e2.mp rfl) bef_10
      refine ⟨(by show 2 ≤ sizeLine; decide), fun l hl => ?_⟩
      refine ⟨_, rfl, ?_⟩
      refine ⟨(by show 2 ≤ sizeLine; decide), fun t5 ht5 => ⟨(by show 2 ≤ sizeLine; decide), fun t6 ht6 => ?_⟩⟩
      refine ⟨t5, t6, [], [48, 49], [49], [48, 49], rfl, MomAt.new (H := upd _ t5 _) upd_same ht6, upd_same, ⟨Bin.nil, bit_01, by decide, by decide, by decide⟩, ⟨bit_1, bit_01, by decide, by decide, by decide⟩, fun b3 e3 => ?_⟩
      have f3 : b3 = true := e3.mpr (Tail.refl _)
      refine ⟨(by show 1 ≤ sizeLine; decide), fun q hq => ?_⟩
      refine ⟨l, q, _, _, rfl, rfl, Same.new hq _ _ (Same.new ht6 _ _ (Same.new ht5 _ _ upd_same)), upd_same, (by show 3 ≤ sizeLine; decide), fun y hy => ?_⟩
      refine ⟨(by show 3 ≤ sizeLine; decide), fun u hu => ?_⟩
      refine ⟨.list [.bool b1, .bool b2, .bool b3], .list [.bool true, .bool false, .bool true],
        .lst (SqL.of (Same.new hu _ _ upd_same)) (.cons (.bl _) (.cons (.bl _) (.cons (.bl _) .nil))), .lst (SqL.of upd_same) (.cons (.bl _) (.cons (.bl _) (.cons (.bl _) .nil))), rfl, rfl, ?_⟩
      rw [f1, f2, f3]
      have E : PyData.eqv (.list [.bool true, .bool false, .bool true]) (.list [.bool true, .bool false, .bool true]) = true := by simp [PyData.eqv, PyData.eqvAll]
      rw [E]
      exact k _
end
end HC

namespace HC
open PySem PySem.Spec PyProof.Rows L2
section
theorem all_mk {P : Program} {w : World} {K : PySem.W.Frag} {h : Heap} {mg : Str → Option Value} {fa : Addr} (X : K.In h) (G : h.Ns mainGlobals mg) (hfa : mg "law" = some (.ref fa))
    {f__law_pool f__law_draw f__law_word f__law_moment f__law_signs f_is_word f_check_moment f_first_signs f_shortest_ring f_is_before f_have_common_tail f__law_other f__law_tails f__law_right f_law : Addr}
    {od__law_pool an__law_pool : Option Addr} {sl__law_pool : Array (Option Value)} {oc__law_pool kV__law_pool dc__law_pool pm__law_pool cd__law_pool ct__law_pool : Value}
    (a__law_pool : PySem.W.nsIn K mainGlobals "_law_pool" = some (some (.ref f__law_pool))) (l__law_pool : K.lookup f__law_pool = some ⟨oc__law_pool, od__law_pool, .func (PySem.W.fnOf "_law_pool" "_law_pool" (defArgs s__law_pool) (defBody s__law_pool) (defScope s__law_pool) .none kV__law_pool dc__law_pool pm__law_pool an__law_pool cd__law_pool ct__law_pool), sl__law_pool⟩) (c__law_pool : PySem.W.codeIn K cd__law_pool "_law_pool" = true) (k__law_pool : PySem.W.keepIn K (.ref f__law_pool) = true)
    {od__law_draw an__law_draw : Option Addr} {sl__law_draw : Array (Option Value)} {oc__law_draw kV__law_draw dc__law_draw pm__law_draw cd__law_draw ct__law_draw : Value}
    (a__law_draw : PySem.W.nsIn K mainGlobals "_law_draw" = some (some (.ref f__law_draw))) (l__law_draw : K.lookup f__law_draw = some ⟨oc__law_draw, od__law_draw, .func (PySem.W.fnOf "_law_draw" "_law_draw" (defArgs s__law_draw) (defBody s__law_draw) (defScope s__law_draw) .none kV__law_draw dc__law_draw pm__law_draw an__law_draw cd__law_draw ct__law_draw), sl__law_draw⟩) (c__law_draw : PySem.W.codeIn K cd__law_draw "_law_draw" = true) (k__law_draw : PySem.W.keepIn K (.ref f__law_draw) = true)
    {od__law_word an__law_word : Option Addr} {sl__law_word : Array (Option Value)} {oc__law_word kV__law_word dc__law_word pm__law_word cd__law_word ct__law_word : Value}
    (a__law_word : PySem.W.nsIn K mainGlobals "_law_word" = some (some (.ref f__law_word))) (l__law_word : K.lookup f__law_word = some ⟨oc__law_word, od__law_word, .func (PySem.W.fnOf "_law_word" "_law_word" (defArgs s__law_word) (defBody s__law_word) (defScope s__law_word) .none kV__law_word dc__law_word pm__law_word an__law_word cd__law_word ct__law_word), sl__law_word⟩) (c__law_word : PySem.W.codeIn K cd__law_word "_law_word" = true) (k__law_word : PySem.W.keepIn K (.ref f__law_word) = true)
    {od__law_moment an__law_moment : Option Addr} {sl__law_moment : Array (Option Value)} {oc__law_moment kV__law_moment dc__law_moment pm__law_moment cd__law_moment ct__law_moment : Value}
    (a__law_moment : PySem.W.nsIn K mainGlobals "_law_moment" = some (some (.ref f__law_moment))) (l__law_moment : K.lookup f__law_moment = some ⟨oc__law_moment, od__law_moment, .func (PySem.W.fnOf "_law_moment" "_law_moment" (defArgs s__law_moment) (defBody s__law_moment) (defScope s__law_moment) .none kV__law_moment dc__law_moment pm__law_moment an__law_moment cd__law_moment ct__law_moment), sl__law_moment⟩) (c__law_moment : PySem.W.codeIn K cd__law_moment "_law_moment" = true) (k__law_moment : PySem.W.keepIn K (.ref f__law_moment) = true)
    {od__law_signs an__law_signs : Option Addr} {sl__law_signs : Array (Option Value)} {oc__law_signs kV__law_signs dc__law_signs pm__law_signs cd__law_signs ct__law_signs : Value}
    (a__law_signs : PySem.W.nsIn K mainGlobals "_law_signs" = some (some (.ref f__law_signs))) (l__law_signs : K.lookup f__law_signs = some ⟨oc__law_signs, od__law_signs, .func (PySem.W.fnOf "_law_signs" "_law_signs" (defArgs s__law_signs) (defBody s__law_signs) (defScope s__law_signs) .none kV__law_signs dc__law_signs pm__law_signs an__law_signs cd__law_signs ct__law_signs), sl__law_signs⟩) (c__law_signs : PySem.W.codeIn K cd__law_signs "_law_signs" = true) (k__law_signs : PySem.W.keepIn K (.ref f__law_signs) = true)
    {od_is_word an_is_word : Option Addr} {sl_is_word : Array (Option Value)} {oc_is_word kV_is_word dc_is_word pm_is_word cd_is_word ct_is_word : Value}
    (a_is_word : PySem.W.nsIn K mainGlobals "is_word" = some (some (.ref f_is_word))) (l_is_word : K.lookup f_is_word = some ⟨oc_is_word, od_is_word, .func (PySem.W.fnOf "is_word" "is_word" (defArgs s_is_word) (defBody s_is_word) (defScope s_is_word) .none kV_is_word dc_is_word pm_is_word an_is_word cd_is_word ct_is_word), sl_is_word⟩) (c_is_word : PySem.W.codeIn K cd_is_word "is_word" = true) (k_is_word : PySem.W.keepIn K (.ref f_is_word) = true)
    {od_check_moment an_check_moment : Option Addr} {sl_check_moment : Array (Option Value)} {oc_check_moment kV_check_moment dc_check_moment pm_check_moment cd_check_moment ct_check_moment : Value}
    (a_check_moment : PySem.W.nsIn K mainGlobals "check_moment" = some (some (.ref f_check_moment))) (l_check_moment : K.lookup f_check_moment = some ⟨oc_check_moment, od_check_moment, .func (PySem.W.fnOf "check_moment" "check_moment" (defArgs s_check_moment) (defBody s_check_moment) (defScope s_check_moment) .none kV_check_moment dc_check_moment pm_check_moment an_check_moment cd_check_moment ct_check_moment), sl_check_moment⟩) (c_check_moment : PySem.W.codeIn K cd_check_moment "check_moment" = true) (k_check_moment : PySem.W.keepIn K (.ref f_check_moment) = true)
    {od_first_signs an_first_signs : Option Addr} {sl_first_signs : Array (Option Value)} {oc_first_signs kV_first_signs dc_first_signs pm_first_signs cd_first_signs ct_first_signs : Value}
    (a_first_signs : PySem.W.nsIn K mainGlobals "first_signs" = some (some (.ref f_first_signs))) (l_first_signs : K.lookup f_first_signs = some ⟨oc_first_signs, od_first_signs, .func (PySem.W.fnOf "first_signs" "first_signs" (defArgs s_first_signs) (defBody s_first_signs) (defScope s_first_signs) .none kV_first_signs dc_first_signs pm_first_signs an_first_signs cd_first_signs ct_first_signs), sl_first_signs⟩) (c_first_signs : PySem.W.codeIn K cd_first_signs "first_signs" = true) (k_first_signs : PySem.W.keepIn K (.ref f_first_signs) = true)
    {od_shortest_ring an_shortest_ring : Option Addr} {sl_shortest_ring : Array (Option Value)} {oc_shortest_ring kV_shortest_ring dc_shortest_ring pm_shortest_ring cd_shortest_ring ct_shortest_ring : Value}
    (a_shortest_ring : PySem.W.nsIn K mainGlobals "shortest_ring" = some (some (.ref f_shortest_ring))) (l_shortest_ring : K.lookup f_shortest_ring = some ⟨oc_shortest_ring, od_shortest_ring, .func (PySem.W.fnOf "shortest_ring" "shortest_ring" (defArgs s_shortest_ring) (defBody s_shortest_ring) (defScope s_shortest_ring) .none kV_shortest_ring dc_shortest_ring pm_shortest_ring an_shortest_ring cd_shortest_ring ct_shortest_ring), sl_shortest_ring⟩) (c_shortest_ring : PySem.W.codeIn K cd_shortest_ring "shortest_ring" = true) (k_shortest_ring : PySem.W.keepIn K (.ref f_shortest_ring) = true)
    {od_is_before an_is_before : Option Addr} {sl_is_before : Array (Option Value)} {oc_is_before kV_is_before dc_is_before pm_is_before cd_is_before ct_is_before : Value}
    (a_is_before : PySem.W.nsIn K mainGlobals "is_before" = some (some (.ref f_is_before))) (l_is_before : K.lookup f_is_before = some ⟨oc_is_before, od_is_before, .func (PySem.W.fnOf "is_before" "is_before" (defArgs s_is_before) (defBody s_is_before) (defScope s_is_before) .none kV_is_before dc_is_before pm_is_before an_is_before cd_is_before ct_is_before), sl_is_before⟩) (c_is_before : PySem.W.codeIn K cd_is_before "is_before" = true) (k_is_before : PySem.W.keepIn K (.ref f_is_before) = true)
    {od_have_common_tail an_have_common_tail : Option Addr} {sl_have_common_tail : Array (Option Value)} {oc_have_common_tail kV_have_common_tail dc_have_common_tail pm_have_common_tail cd_have_common_tail ct_have_common_tail : Value}
    (a_have_common_tail : PySem.W.nsIn K mainGlobals "have_common_tail" = some (some (.ref f_have_common_tail))) (l_have_common_tail : K.lookup f_have_common_tail = some ⟨oc_have_common_tail, od_have_common_tail, .func (PySem.W.fnOf "have_common_tail" "have_common_tail" (defArgs s_have_common_tail) (defBody s_have_common_tail) (defScope s_have_common_tail) .none kV_have_common_tail dc_have_common_tail pm_have_common_tail an_have_common_tail cd_have_common_tail ct_have_common_tail), sl_have_common_tail⟩) (c_have_common_tail : PySem.W.codeIn K cd_have_common_tail "have_common_tail" = true) (k_have_common_tail : PySem.W.keepIn K (.ref f_have_common_tail) = true)
    {od__law_other an__law_other : Option Addr} {sl__law_other : Array (Option Value)} {oc__law_other kV__law_other dc__law_other pm__law_other cd__law_other ct__law_other : Value}
    (a__law_other : PySem.W.nsIn K mainGlobals "_law_other" = some (some (.ref f__law_other))) (l__law_other : K.lookup f__law_other = some ⟨oc__law_other, od__law_other, .func (PySem.W.fnOf "_law_other" "_law_other" (defArgs s__law_other) (defBody s__law_other) (defScope s__law_other) .none kV__law_other dc__law_other pm__law_other an__law_other cd__law_other ct__law_other), sl__law_other⟩) (c__law_other : PySem.W.codeIn K cd__law_other "_law_other" = true) (k__law_other : PySem.W.keepIn K (.ref f__law_other) = true)
    {od__law_tails an__law_tails : Option Addr} {sl__law_tails : Array (Option Value)} {oc__law_tails kV__law_tails dc__law_tails pm__law_tails cd__law_tails ct__law_tails : Value}
    (a__law_tails : PySem.W.nsIn K mainGlobals "_law_tails" = some (some (.ref f__law_tails))) (l__law_tails : K.lookup f__law_tails = some ⟨oc__law_tails, od__law_tails, .func (PySem.W.fnOf "_law_tails" "_law_tails" (defArgs s__law_tails) (defBody s__law_tails) (defScope s__law_tails) .none kV__law_tails dc__law_tails pm__law_tails an__law_tails cd__law_tails ct__law_tails), sl__law_tails⟩) (c__law_tails : PySem.W.codeIn K cd__law_tails "_law_tails" = true) (k__law_tails : PySem.W.keepIn K (.ref f__law_tails) = true)
    {od__law_right an__law_right : Option Addr} {sl__law_right : Array (Option Value)} {oc__law_right kV__law_right dc__law_right pm__law_right cd__law_right ct__law_right : Value}
    (a__law_right : PySem.W.nsIn K mainGlobals "_law_right" = some (some (.ref f__law_right))) (l__law_right : K.lookup f__law_right = some ⟨oc__law_right, od__law_right, .func (PySem.W.fnOf "_law_right" "_law_right" (defArgs s__law_right) (defBody s__law_right) (defScope s__law_right) .none kV__law_right dc__law_right pm__law_right an__law_right cd__law_right ct__law_right), sl__law_right⟩) (c__law_right : PySem.W.codeIn K cd__law_right "_law_right" = true) (k__law_right : PySem.W.keepIn K (.ref f__law_right) = true)
    {od_law an_law : Option Addr} {sl_law : Array (Option Value)} {oc_law kV_law dc_law pm_law cd_law ct_law : Value}
    (a_law : PySem.W.nsIn K mainGlobals "law" = some (some (.ref f_law))) (l_law : K.lookup f_law = some ⟨oc_law, od_law, .func (PySem.W.fnOf "law" "law" (defArgs s_law) (defBody s_law) (defScope s_law) .none kV_law dc_law pm_law an_law cd_law ct_law), sl_law⟩) (c_law : PySem.W.codeIn K cd_law "law" = true) (k_law : PySem.W.keepIn K (.ref f_law) = true)
    (z_len : PySem.W.nsIn K mainGlobals "len" = some none)
    (z_abs : PySem.W.nsIn K mainGlobals "abs" = some none)
    (z_max : PySem.W.nsIn K mainGlobals "max" = some none)
    (z_min : PySem.W.nsIn K mainGlobals "min" = some none)
    (z_range : PySem.W.nsIn K mainGlobals "range" = some none)
    (z_int : PySem.W.nsIn K mainGlobals "int" = some none)
    (z_list : PySem.W.nsIn K mainGlobals "list" = some none)
    (z_sorted : PySem.W.nsIn K mainGlobals "sorted" = some none)
    : ∃ fd : FuncData, (∀ (s : Shared) (u : Value), BindsTo s fd ⟨[u], []⟩ [("script", u)]) ∧ ∀ base : Heap, K.In base → base.Ns mainGlobals mg → FnOk P w K mg base CX0 6 fa fd ["script"] (spLaw K) := by
  have e := hfa.symm.trans (PySem.W.mg_of X G a_law)
  cases e
  have B : Blt mg := ⟨PySem.W.mg_none_of X G z_len, PySem.W.mg_none_of X G z_abs, PySem.W.mg_none_of X G z_max, PySem.W.mg_none_of X G z_min, PySem.W.mg_none_of X G z_range, PySem.W.mg_none_of X G z_int, PySem.W.mg_none_of X G z_list, PySem.W.mg_none_of X G z_sorted⟩
  have F__law_pool := fun_mk (st := s__law_pool) l__law_pool c__law_pool k__law_pool
  have b__law_pool := F__law_pool.binds (ps := ["script", "at"]) fun _ _ _ _ _ _ us hl => match us, hl with | [_, _], _ => rfl
  have F__law_draw := fun_mk (st := s__law_draw) l__law_draw c__law_draw k__law_draw
  have b__law_draw := F__law_draw.binds (ps := ["pool", "many"]) fun _ _ _ _ _ _ us hl => match us, hl with | [_, _], _ => rfl
  have F__law_word := fun_mk (st := s__law_word) l__law_word c__law_word k__law_word
  have b__law_word := F__law_word.binds (ps := ["pool", "most"]) fun _ _ _ _ _ _ us hl => match us, hl with | [_, _], _ => rfl
  have F__law_moment := fun_mk (st := s__law_moment) l__law_moment c__law_moment k__law_moment
  have b__law_moment := F__law_moment.binds (ps := ["pool"]) fun _ _ _ _ _ _ us hl => match us, hl with | [_], _ => rfl
  have F__law_signs := fun_mk (st := s__law_signs) l__law_signs c__law_signs k__law_signs
  have b__law_signs := F__law_signs.binds (ps := ["head", "ring", "size"]) fun _ _ _ _ _ _ us hl => match us, hl with | [_, _, _], _ => rfl
  have F_is_word := fun_mk (st := s_is_word) l_is_word c_is_word k_is_word
  have b_is_word := F_is_word.binds (ps := ["text"]) fun _ _ _ _ _ _ us hl => match us, hl with | [_], _ => rfl
  have F_check_moment := fun_mk (st := s_check_moment) l_check_moment c_check_moment k_check_moment
  have b_check_moment := F_check_moment.binds (ps := ["moment"]) fun _ _ _ _ _ _ us hl => match us, hl with | [_], _ => rfl
  have F_first_signs := fun_mk (st := s_first_signs) l_first_signs c_first_signs k_first_signs
  have b_first_signs := F_first_signs.binds (ps := ["moment", "many"]) fun _ _ _ _ _ _ us hl => match us, hl with | [_, _], _ => rfl
  have F_shortest_ring := fun_mk (st := s_shortest_ring) l_shortest_ring c_shortest_ring k_shortest_ring
  have b_shortest_ring := F_shortest_ring.binds (ps := ["ring"]) fun _ _ _ _ _ _ us hl => match us, hl with | [_], _ => rfl
  have F_is_before := fun_mk (st := s_is_before) l_is_before c_is_before k_is_before
  have b_is_before := F_is_before.binds (ps := ["first", "second"]) fun _ _ _ _ _ _ us hl => match us, hl with | [_, _], _ => rfl
  have F_have_common_tail := fun_mk (st := s_have_common_tail) l_have_common_tail c_have_common_tail k_have_common_tail
  have b_have_common_tail := F_have_common_tail.binds (ps := ["first", "second"]) fun _ _ _ _ _ _ us hl => match us, hl with | [_, _], _ => rfl
  have F__law_other := fun_mk (st := s__law_other) l__law_other c__law_other k__law_other
  have b__law_other := F__law_other.binds (ps := ["pool", "head", "ring"]) fun _ _ _ _ _ _ us hl => match us, hl with | [_, _, _], _ => rfl
  have F__law_tails := fun_mk (st := s__law_tails) l__law_tails c__law_tails k__law_tails
  have b__law_tails := F__law_tails.binds (ps := ["near", "last"]) fun _ _ _ _ _ _ us hl => match us, hl with | [_, _], _ => rfl
  have F__law_right := fun_mk (st := s__law_right) l__law_right c__law_right k__law_right
  have b__law_right := F__law_right.binds (ps := ["pool"]) fun _ _ _ _ _ _ us hl => match us, hl with | [_], _ => rfl
  have F_law := fun_mk (st := s_law) l_law c_law k_law
  refine ⟨PySem.W.fnOf "law" "law" (defArgs s_law) (defBody s_law) (defScope s_law) .none kV_law dc_law pm_law an_law cd_law ct_law, fun s u => .of_eq rfl, fun base _ _ => ?_⟩
  have h__law_pool : Has P w K mg base "_law_pool" 1 ["script", "at"] (spPool K) := ⟨_, _, PySem.W.mg_of X G a__law_pool, k__law_pool, b__law_pool, ok__law_pool F__law_pool B⟩
  have h__law_draw : Has P w K mg base "_law_draw" 1 ["pool", "many"] (spDraw) := ⟨_, _, PySem.W.mg_of X G a__law_draw, k__law_draw, b__law_draw, ok__law_draw F__law_draw B⟩
  have h__law_word : Has P w K mg base "_law_word" 2 ["pool", "most"] (spWord) := ⟨_, _, PySem.W.mg_of X G a__law_word, k__law_word, b__law_word, ok__law_word F__law_word B h__law_draw⟩
  have h__law_moment : Has P w K mg base "_law_moment" 3 ["pool"] (spMoment) := ⟨_, _, PySem.W.mg_of X G a__law_moment, k__law_moment, b__law_moment, ok__law_moment F__law_moment h__law_draw h__law_word⟩
  have h__law_signs : Has P w K mg base "_law_signs" 1 ["head", "ring", "size"] (spSigns) := ⟨_, _, PySem.W.mg_of X G a__law_signs, k__law_signs, b__law_signs, ok__law_signs F__law_signs B⟩
  have h_is_word : Has P w K mg base "is_word" 1 ["text"] (spIsWord) := ⟨_, _, PySem.W.mg_of X G a_is_word, k_is_word, b_is_word, ok_is_word F_is_word ⟩
  have h_check_moment : Has P w K mg base "check_moment" 2 ["moment"] (spCheckMoment) := ⟨_, _, PySem.W.mg_of X G a_check_moment, k_check_moment, b_check_moment, ok_check_moment F_check_moment h_is_word⟩
  have h_first_signs : Has P w K mg base "first_signs" 1 ["moment", "many"] (spFirstSigns) := ⟨_, _, PySem.W.mg_of X G a_first_signs, k_first_signs, b_first_signs, ok_first_signs F_first_signs B⟩
  have h_shortest_ring : Has P w K mg base "shortest_ring" 1 ["ring"] (spShortest) := ⟨_, _, PySem.W.mg_of X G a_shortest_ring, k_shortest_ring, b_shortest_ring, ok_shortest_ring F_shortest_ring ⟩
  have h_is_before : HasS P w K mg base "is_before" 3 ["first", "second"] (spIsBefore) := ⟨_, _, PySem.W.mg_of X G a_is_before, k_is_before, b_is_before, kb_swap fun _ _ => rfl, ok_is_before F_is_before B h_check_moment h_first_signs⟩
  have h_have_common_tail : HasS P w K mg base "have_common_tail" 3 ["first", "second"] (spTail) := ⟨_, _, PySem.W.mg_of X G a_have_common_tail, k_have_common_tail, b_have_common_tail, kb_swap fun _ _ => rfl, ok_have_common_tail F_have_common_tail B h_check_moment h_shortest_ring⟩
  have h__law_other : Has P w K mg base "_law_other" 4 ["pool", "head", "ring"] (spOther) := ⟨_, _, PySem.W.mg_of X G a__law_other, k__law_other, b__law_other, ok__law_other F__law_other B h__law_draw h__law_moment h__law_word⟩
  have h__law_tails : Has P w K mg base "_law_tails" 2 ["near", "last"] (spTails) := ⟨_, _, PySem.W.mg_of X G a__law_tails, k__law_tails, b__law_tails, ok__law_tails F__law_tails B h__law_signs⟩
  have h__law_right : Has P w K mg base "_law_right" 5 ["pool"] (spRight) := ⟨_, _, PySem.W.mg_of X G a__law_right, k__law_right, b__law_right, ok__law_right F__law_right h__law_moment h__law_other h__law_signs h_is_before h_have_common_tail h__law_tails⟩
  exact ok_law F_law B h__law_pool h__law_right h_is_before h_have_common_tail
theorem walk_law {l : PySem.W.OpenLaw} {q : Program} {loose : List Str} {XP : (Str → Option Value) → Heap → Prop} {YP : World → Heap → Prop} {d : DefRec} {K : Params → PySem.W.Frag} (hn : l.most = some 63) (hdf : d.params.defaults = [])
    (hY : ∀ (w : World) (h : Heap), YP w h → (K w.params).In h)
    (F : ∀ (w : World) (mg : Str → Option Value) (fa : Addr) (h : Heap), (K w.params).In h → h.Ns mainGlobals mg → mg d.name = some (.ref fa) →
      ∃ fd : FuncData, (∀ (s : Shared) (u : Value), BindsTo s fd ⟨[u], []⟩ [("script", u)]) ∧ ∀ base : Heap, (K w.params).In base → base.Ns mainGlobals mg → FnOk l.prog w (K w.params) mg base CX0 6 fa fd ["script"] (spLaw (K w.params))) :
    PySem.W.WalkO q loose XP YP l.row.toRowW d [] (fun f vs => PySem.call f vs) :=
  L2.walk_of (n := 63) (k := 6) (x := "script") (CX := fun _ => CX0) (sp := fun w => spLaw (K w.params)) hn (by decide) hdf ⟨rfl, by decide, by decide⟩ hY F (fun _ _ a ns hl _ hS => ⟨a, ns, rfl, hS, hl, fun _ => rfl⟩) fun _ _ _ _ _ z => z
end
end HC
open PySem PySem.W PyProof.Rows in
set_option maxRecDepth 100000 in
set_option maxHeartbeats 0 in
theorem PySem.Challenge.cw_halfcuts_k05_sequences_and_tails_holds : PySem.Challenge.rw_halfcuts_k05_sequences_and_tails.Holds := by
  w_on; o_law; k_head; (case hw => w_witness2)
  k_fill
  refine HC.walk_law (l := PySem.Challenge.rw_halfcuts_k05_sequences_and_tails) rfl rfl (fun w h Y => PySem.W.kIn_of Y) ?F
  case F =>
    intro w mg fa h KX G hmg
    refine' HC.all_mk KX G hmg ?a__law_pool ?l__law_pool ?c__law_pool ?k__law_pool ?a__law_draw ?l__law_draw ?c__law_draw ?k__law_draw ?a__law_word ?l__law_word ?c__law_word ?k__law_word ?a__law_moment ?l__law_moment ?c__law_moment ?k__law_moment ?a__law_signs ?l__law_signs ?c__law_signs ?k__law_signs ?a_is_word ?l_is_word ?c_is_word ?k_is_word ?a_check_moment ?l_check_moment ?c_check_moment ?k_check_moment ?a_first_signs ?l_first_signs ?c_first_signs ?k_first_signs ?a_shortest_ring ?l_shortest_ring ?c_shortest_ring ?k_shortest_ring ?a_is_before ?l_is_before ?c_is_before ?k_is_before ?a_have_common_tail ?l_have_common_tail ?c_have_common_tail ?k_have_common_tail ?a__law_other ?l__law_other ?c__law_other ?k__law_other ?a__law_tails ?l__law_tails ?c__law_tails ?k__law_tails ?a__law_right ?l__law_right ?c__law_right ?k__law_right ?a_law ?l_law ?c_law ?k_law ?z_len ?z_abs ?z_max ?z_min ?z_range ?z_int ?z_list ?z_sorted
    (case a__law_pool => k_is)
    (case l__law_pool => k_is)
    (case c__law_pool => k_is)
    (case k__law_pool => k_is)
    (case a__law_draw => k_is)
    (case l__law_draw => k_is)
    (case c__law_draw => k_is)
    (case k__law_draw => k_is)
    (case a__law_word => k_is)
    (case l__law_word => k_is)
    (case c__law_word => k_is)
    (case k__law_word => k_is)
    (case a__law_moment => k_is)
    (case l__law_moment => k_is)
    (case c__law_moment => k_is)
    (case k__law_moment => k_is)
    (case a__law_signs => k_is)
    (case l__law_signs => k_is)
    (case c__law_signs => k_is)
    (case k__law_signs => k_is)
    (case a_is_word => k_is)
    (case l_is_word => k_is)
    (case c_is_word => k_is)
    (case k_is_word => k_is)
    (case a_check_moment => k_is)
    (case l_check_moment => k_is)
    (case c_check_moment => k_is)
    (case k_check_moment => k_is)
    (case a_first_signs => k_is)
    (case l_first_signs => k_is)
    (case c_first_signs => k_is)
    (case k_first_signs => k_is)
    (case a_shortest_ring => k_is)
    (case l_shortest_ring => k_is)
    (case c_shortest_ring => k_is)
    (case k_shortest_ring => k_is)
    (case a_is_before => k_is)
    (case l_is_before => k_is)
    (case c_is_before => k_is)
    (case k_is_before => k_is)
    (case a_have_common_tail => k_is)
    (case l_have_common_tail => k_is)
    (case c_have_common_tail => k_is)
    (case k_have_common_tail => k_is)
    (case a__law_other => k_is)
    (case l__law_other => k_is)
    (case c__law_other => k_is)
    (case k__law_other => k_is)
    (case a__law_tails => k_is)
    (case l__law_tails => k_is)
    (case c__law_tails => k_is)
    (case k__law_tails => k_is)
    (case a__law_right => k_is)
    (case l__law_right => k_is)
    (case c__law_right => k_is)
    (case k__law_right => k_is)
    (case a_law => k_is)
    (case l_law => k_is)
    (case c_law => k_is)
    (case k_law => k_is)
    (case z_len => k_is)
    (case z_abs => k_is)
    (case z_max => k_is)
    (case z_min => k_is)
    (case z_range => k_is)
    (case z_int => k_is)
    (case z_list => k_is)
    (case z_sorted => k_is)
