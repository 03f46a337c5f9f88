import PyProof.Rows.All
import Wide.All
import OpenK.AllK
import Wide.FinOn
import HandS.ForMost
import HandS.Wide
import HandS.StrMore
import PyProof.LongRange
import HandS.Star
import HandS.IntHex
import HandS.Gcd
import HandS.WideBits
import HandS.RaiseMore
import PySem.Challenge.RW_halfcuts_k04_values
set_option Elab.async false
set_option linter.all false
set_option maxRecDepth 100000
set_option maxHeartbeats 8000000
namespace HC
open PySem PySem.Spec PyProof.Rows L2
/-! ## texts as lists of codes -/
def T (l : List Nat) : Str := ⟨l.toArray⟩
theorem T_len (l : List Nat) : (T l).length = l.length := by
  show l.toArray.size = l.length
  simp
theorem T_list (l : List Nat) : (T l).cps.toList = l := by
  show l.toArray.toList = l
  simp
theorem T_inj {a b : List Nat} (h : T a = T b) : a = b := by
  have := congrArg (fun s : Str => s.cps.toList) h
  simpa [T_list] using this
theorem T_eq (a b : List Nat) : decide (V.str (T a) = V.str (T b)) = decide (a = b) := by
  by_cases h : a = b
  · subst h; simp
  · have h2 : ¬ V.str (T a) = V.str (T b) := fun q => h (T_inj (V.str.inj q))
    rw [decide_eq_false h, decide_eq_false h2]
theorem T_app (a b : List Nat) : T a ++ T b = T (a ++ b) := by
  show Str.append (T a) (T b) = T (a ++ b)
  unfold Str.append T
  simp
def rep (n : Nat) (a : List Nat) : List Nat := (List.replicate n a).flatten
theorem rep_zero (a : List Nat) : rep 0 a = [] := rfl
theorem rep_succ (n : Nat) (a : List Nat) : rep (n + 1) a = a ++ rep n a := by
  unfold rep
  rw [List.replicate_succ, List.flatten_cons]
theorem rep_nil (n : Nat) : rep n [] = [] := by
  induction n with
  | zero => rfl
  | succ n ih => rw [rep_succ, ih]; rfl
theorem rep_len (n : Nat) (a : List Nat) : (rep n a).length = n * a.length := by
  induction n with
  | zero => simp [rep_zero]
  | succ n ih => rw [rep_succ, List.length_append, ih, Nat.succ_mul, Nat.add_comm]
theorem foldl_T (n : Nat) (a : List Nat) : ∀ acc : Array Nat, (List.replicate n a.toArray).foldl (· ++ ·) acc = acc ++ (rep n a).toArray := by
  induction n with
  | zero => intro acc; simp [rep_zero]
  | succ n ih => intro acc; rw [List.replicate_succ, List.foldl_cons, ih, rep_succ]; simp
theorem mul_T (a : List Nat) (n : Nat) : Txt.mul (T a) (n : Int) = T (rep n a) := by
  unfold Txt.mul
  by_cases h1 : (n : Int) < 1
  · rw [if_pos h1]
    have : n = 0 := by omega
    subst this
    rfl
  · rw [if_neg h1]
    by_cases h2 : ((n : Int) == 1 || (T a).length == 0) = true
    · rw [if_pos h2]
      rw [Bool.or_eq_true] at h2
      rcases h2 with h2 | h2
      · have : n = 1 := by have := eq_of_beq h2; omega
        subst this
        rw [rep_succ, rep_zero, List.append_nil]
      · have h3 := eq_of_beq h2
        rw [T_len] at h3
        have : a = [] := List.eq_nil_of_length_eq_zero h3
        subst this
        rw [rep_nil]
    · rw [if_neg h2]
      show Str.mk ((List.replicate (n : Int).toNat a.toArray).foldl (· ++ ·) #[]) = T (rep n a)
      rw [Int.toNat_natCast, foldl_T]
      unfold T
      simp
theorem mulOk_T {a : List Nat} {n : Nat} (h : a.length * n ≤ 1000000) (hn : n < 1000000) : MulOk (T a) (n : Int) := by
  refine ⟨?_, ?_, ?_⟩
  · have h1 : ¬ ((n : Int) < -(2 ^ 63 : Int)) := by omega
    have h2 : ¬ ((n : Int) ≥ 2 ^ 63) := by omega
    rw [decide_eq_false h1, decide_eq_false h2]
    rfl
  · intro h1 h2 h3
    rw [T_len] at h3
    have hp : (0 : Int) < n := by omega
    have h4 : ((n : Int) * ((2 ^ 63 - 1) / (n : Int))) < (n : Int) * (a.length : Int) := Int.mul_lt_mul_of_pos_left h3 hp
    have h5 : (2 ^ 63 - 1 : Int) < (n : Int) * ((2 ^ 63 - 1) / (n : Int) + 1) := by
      have := Int.lt_mul_ediv_self_add (x := (2 ^ 63 - 1 : Int)) hp
      rw [Int.mul_add, Int.mul_one]
      omega
    have h6 : (n : Int) * ((2 ^ 63 - 1) / (n : Int) + 1) ≤ (n : Int) * (a.length : Int) := Int.mul_le_mul_of_nonneg_left (by omega) (by omega)
    have h7 : ((n : Int) * (a.length : Int)) ≤ 1000000 := by
      have : ((n * a.length : Nat) : Int) ≤ 1000000 := by rw [Nat.mul_comm]; omega
      simpa using this
    omega
  · intro _ _
    rw [T_len, Int.toNat_natCast]
    unfold Builtin.Str.tooLong
    have : sizeLine = 16777216 := by decide
    rw [this]
    exact decide_eq_false (by omega)
section
variable {X : Cx}
theorem opr_sub {f : Value → Value → Sem Value} {r r' : R2} (h : OpR X f r) (k : ∀ x y H Q, r' x y H Q → r x y H Q) : OpR X f r' := fun pins s σ H x y v u Q I rx ry q => h pins s σ H x y v u Q I rx ry (k _ _ _ _ q)
theorem mtr_sub {id : String} {r r' : V → List V → Hp → VK → Prop} (h : MtR X id r) (k : ∀ x y H Q, r' x y H Q → r x y H Q) : MtR X id r' := by
  intro pins s σ H x xs v us Q I rx rs
  first | (intro q; exact h pins s σ H x xs v us Q I rx rs (k _ _ _ _ q)) | (intro e q; exact h pins s σ H x xs v us Q I rx rs e (k _ _ _ _ q))
theorem slr_sub {r r' : V → Option Int → Option Int → Hp → VK → Prop} (h : SlR X r) (k : ∀ x y z H Q, r' x y z H Q → r x y z H Q) : SlR X r' := by
  intro pins s σ H x v vl vu lo hi sl Q I rx hs pl pu q
  exact h pins s σ H x v vl vu lo hi sl Q I rx hs pl pu (k _ _ _ _ _ q)
theorem ixr_sub {r r' : R2} (h : IxR X r) (k : ∀ x y H Q, r' x y H Q → r x y H Q) : IxR X r' := by
  intro value slice pins s σ H x y v u Q I rx ry q hs
  exact h value slice pins s σ H x y v u Q I rx ry (k _ _ _ _ q) hs
theorem pe_strT {x : Str} {j : Nat} {pos : Pos} (l : List Nat) (h : x = T l) : PE X (.Constant (.str x) j pos) (tC (.str (T l))) := by
  subst h
  exact pe_str
theorem op_addT : OpR X (binaryOp .Add) (fun x y H Q => ∃ a b, x = .str (T a) ∧ y = .str (T b) ∧ a.length + b.length ≤ sizeLine ∧ Q (.str (T (a ++ b))) H) :=
  opr_sub op_add_str fun x y H Q ⟨a, b, ha, hb, hl, q⟩ => ⟨_, _, ha, hb, by rw [T_len, T_len]; exact hl, by rw [T_app]; exact q⟩
theorem op_mulT : OpR X (binaryOp .Mult) (fun x y H Q => ∃ (a : List Nat) (n : Nat), x = .str (T a) ∧ y = .int (n : Int) ∧ a.length * n ≤ 1000000 ∧ n < 1000000 ∧ Q (.str (T (rep n a))) H) := by
  intro pins s σ H x y v u Q I rx ry h
  obtain ⟨a, n, rfl, rfl, hl, hn, q⟩ := h
  obtain ⟨t, rfl⟩ := rx
  obtain ⟨t', rfl⟩ := ry
  refine SB.mul (mulOk_T hl hn) fun t2 k => ?_
  rw [mul_T]
  exact ⟨.str _, H, I.tok _, ⟨_, rfl⟩, q⟩
theorem op_ltT' : OpR X (compareOp .Lt) (fun x y H Q => ∃ a b, x = .str (T a) ∧ y = .str (T b) ∧ Q (.bl (decide (a < b))) H) :=
  opr_sub op_lt_str fun x y H Q ⟨a, b, ha, hb, q⟩ => ⟨_, _, ha, hb, by rw [T_list, T_list]; exact q⟩
theorem op_eqT : OpR X (compareOp .Eq) (fun x y H Q => ∃ a b, x = .str (T a) ∧ y = .str (T b) ∧ Q (.bl (decide (a = b))) H) :=
  opr_sub op_eq fun x y H Q ⟨a, b, ha, hb, q⟩ => by
    subst ha hb
    exact ⟨rfl, by rw [T_eq]; exact q⟩
theorem op_neT : OpR X (compareOp .NotEq) (fun x y H Q => ∃ a b, x = .str (T a) ∧ y = .str (T b) ∧ Q (.bl (!decide (a = b))) H) :=
  opr_sub op_ne fun x y H Q ⟨a, b, ha, hb, q⟩ => by
    subst ha hb
    exact ⟨rfl, by rw [T_eq]; exact q⟩
def CPowX (i j : Int) : Prop := 0 ≤ j ∧ ∃ k : Nat, i.natAbs < 2 ^ k ∧ (k : Int) * j ≤ 2 ^ 27
theorem op_powX : OpR X (binaryOp .Pow) (rI CPowX fun i j => .int (i ^ j.toNat)) := opI fun i j _ _ _ _ _ hc q => by
  obtain ⟨h0, k, hk, hb⟩ := hc
  refine pow_int h0 ?_ q
  have h1 := intBits_le hk
  exact Int.le_trans (Int.mul_le_mul_of_nonneg_right (by omega) h0) hb
/-! slices of texts -/
def cutL (z : List Nat) (lo hi : Option Int) : List Nat := (z.drop (HT.sIx z.length 0 lo)).take (HT.sIx z.length z.length hi - HT.sIx z.length 0 lo)
theorem cut_T (z : List Nat) (lo hi : Option Int) : cutS (T z) lo hi = T (cutL z lo hi) := by
  unfold cutS
  rw [T_list, T_len]
  rfl
theorem sl_T : SlR X (fun x lo hi H Q => ∃ z, x = .str (T z) ∧ z.length ≤ sizeLine ∧ Q (.str (T (cutL z lo hi))) H) :=
  slr_sub sl_str fun x lo hi H Q ⟨z, hz, hl, q⟩ => ⟨_, hz, by rw [T_len]; exact hl, by rw [cut_T]; exact q⟩
theorem cut_hi (z : List Nat) (k : Nat) : cutL z none (some (k : Int)) = z.take k := by
  unfold cutL
  rw [HT.sIx_none, HT.sIx_nat, List.drop_zero, Nat.sub_zero]
  by_cases h : k ≤ z.length
  · rw [Nat.min_eq_left h]
  · rw [Nat.min_eq_right (by omega), List.take_length, List.take_of_length_le (by omega)]
theorem cut_lo (z : List Nat) (k : Nat) : cutL z (some (k : Int)) none = z.drop k := by
  unfold cutL
  rw [HT.sIx_none, HT.sIx_nat]
  by_cases h : k ≤ z.length
  · rw [Nat.min_eq_left h, List.take_of_length_le (by rw [List.length_drop]; omega)]
  · rw [Nat.min_eq_right (by omega), List.drop_length, List.drop_of_length_le (by omega)]
    simp
theorem cut_both (z : List Nat) (i j : Nat) : cutL z (some (i : Int)) (some (j : Int)) = (z.drop i).take (j - i) := by
  unfold cutL
  rw [HT.sIx_nat, HT.sIx_nat]
  by_cases h : i ≤ z.length
  · rw [Nat.min_eq_left h]
    by_cases h2 : j ≤ z.length
    · rw [Nat.min_eq_left h2]
    · rw [Nat.min_eq_right (a := j) (by omega), List.take_of_length_le (by rw [List.length_drop]; omega), List.take_of_length_le (by rw [List.length_drop]; omega)]
  · rw [Nat.min_eq_right (a := i) (by omega), List.drop_length, List.drop_of_length_le (by omega)]
    simp
theorem cut_last (z : List Nat) : cutL z none (some (-1)) = z.dropLast := by
  unfold cutL
  rw [HT.sIx_none, List.drop_zero, Nat.sub_zero, List.dropLast_eq_take]
  congr 1
  unfold HT.sIx
  split
  · rename_i h; cases h
  · rename_i v h
    cases h
    first | rfl | (split <;> omega) | omega
theorem ix_T : IxR X (fun x y H Q => ∃ z i c, x = .str (T z) ∧ y = .int i ∧ z.length ≤ sizeLine ∧ atI z i = some c ∧ Q (.str (T [c])) H) :=
  ixr_sub ix_str fun x y H Q ⟨z, i, c, hx, hy, hl, ha, q⟩ => ⟨_, i, c, hx, hy, by rw [T_len]; exact hl, by rw [T_list]; exact ha, q⟩
/-! joining with nothing between -/
theorem join_nil : ∀ ys : List (List Nat), Txt.join (T []) (ys.map T) = T ys.flatten := by
  intro ys
  show Builtin.Str.glued (T []) (ys.map T) = _
  rw [StrLaws.glued_eq_join]
  induction ys with
  | nil => rfl
  | cons a r ih =>
    cases r with
    | nil => show T a = T _; rw [List.flatten_cons]; simp
    | cons b r =>
      show T a ++ T [] ++ Str.join (T []) ((b :: r).map T) = _
      rw [ih, T_app, T_app, List.append_nil, ← List.flatten_cons]
theorem sum_T (ys : List (List Nat)) : ((ys.map T).map (·.length)).sum = ys.flatten.length := by
  induction ys with
  | nil => rfl
  | cons a r ih => simp only [List.map_cons, List.sum_cons, List.flatten_cons, List.length_append, T_len] at ih ⊢; omega
theorem mt_joinT : MtR X "str.join" (fun x xs H Q => ∃ p, ∃ ys : List (List Nat), x = .str (T []) ∧ xs = [.ref p] ∧ SqL X.K H p (ys.map fun y => V.str (T y)) ∧ ys.flatten.length ≤ 1000000 ∧ Q (.str (T ys.flatten)) H) :=
  mtr_sub mt_join fun x xs H Q ⟨p, ys, hx, hxs, hs, hl, q⟩ => by
    refine ⟨_, p, ys.map T, hx, hxs, .inl (by rw [List.map_map]; exact hs), ?_, by rw [join_nil]; exact q⟩
    rw [sum_T, T_len]
    show _ + _ * 0 ≤ _
    omega
/-! places of texts -/
/-- y stands in x at i -/
def At (x y : List Nat) (i : Nat) : Prop := (x.drop i).take y.length = y ∧ i + y.length ≤ x.length
theorem subAt_T (x y : List Nat) (i : Nat) : Builtin.Str.subAt (T x) (T y) i = true ↔ (x.drop i).take y.length = y := by
  unfold Builtin.Str.subAt
  rw [T_len]
  constructor
  · intro h
    have h2 := congrArg Array.toList (eq_of_beq h)
    rw [Array.toList_extract] at h2
    have e1 : (T x).cps.toList = x := T_list x
    have e2 : (T y).cps.toList = y := T_list y
    rw [e1, e2] at h2
    rw [List.extract_eq_take_drop] at h2
    rw [show i + y.length - i = y.length by omega] at h2
    exact h2
  · intro h
    refine beq_iff_eq.mpr ?_
    apply Array.ext'
    rw [Array.toList_extract]
    have e1 : (T x).cps.toList = x := T_list x
    have e2 : (T y).cps.toList = y := T_list y
    rw [e1, e2, List.extract_eq_take_drop]
    rw [show i + y.length - i = y.length by omega]
    exact h
theorem at_T (x y : List Nat) (i : Nat) : StrLaws.At (T x) (T y) (T x).length i ↔ At x y i := by
  unfold StrLaws.At At
  rw [subAt_T, T_len, T_len]
  exact And.comm
theorem op_inT : OpR X (compareOp .In) (fun x y H Q => ∃ a b, x = .str (T a) ∧ y = .str (T b) ∧ (∀ k, (k = true ↔ ∃ i, At b a i) → Q (.bl k) H)) :=
  opr_sub op_in_str fun x y H Q ⟨a, b, ha, hb, q⟩ => ⟨_, _, ha, hb, q _ (by
    rw [StrLaws.found_iff]
    constructor
    · rintro ⟨i, h1, h2⟩; exact ⟨i, (at_T b a i).mp ⟨h1, h2⟩⟩
    · rintro ⟨i, h⟩; have := (at_T b a i).mpr h; exact ⟨i, this.1, this.2⟩)⟩
/-- x.find(y, lo) where y stands at lo or behind -/
theorem mt_findT : MtR X "str.find" (fun x xs H Q => ∃ (a b : List Nat) (lo i : Nat), x = .str (T a) ∧ xs = [.str (T b), .int (lo : Int)] ∧ lo ≤ i ∧ At a b i ∧ (∀ k, lo ≤ k → k < i → ¬ At a b k) ∧ Q (.int (i : Int)) H) :=
  mtr_sub mt_find3 fun x xs H Q ⟨a, b, lo, i, hx, hxs, h1, h2, h3, q⟩ => by
    refine ⟨_, _, _, hx, hxs, ?_⟩
    have e : Txt.find3 (T a) (T b) (lo : Int) = (i : Int) := by
      unfold Txt.find3
      have e0 : fromIndex (T a).length (lo : Int) = lo := by unfold fromIndex; split <;> omega
      rw [e0]
      rcases StrLaws.occ_head_from (T a) (T b) lo 1 (Nat.le_refl _) with ⟨_, hn⟩ | ⟨j, r, e1, e2, e3, e4⟩
      · exact absurd ((at_T a b i).mpr h2) (hn i h1)
      · rw [e1]
        have e5 := (at_T a b j).mp e3
        have : j = i := by
          rcases Nat.lt_trichotomy j i with h | h | h
          · exact absurd e5 (h3 j e2 h)
          · exact h
          · exact absurd ((at_T a b i).mpr h2) (e4 i h1 h)
        rw [this]
    rw [e]
    exact q
def Bin (l : List Nat) : Prop := ∀ c ∈ l, c = 48 ∨ c = 49
theorem strip_T {a : List Nat} (h : Bin a) : Txt.stripChars (T a) (T [48, 49]) = T [] := by
  unfold Txt.stripChars Txt.stripBy
  have tw : ∀ l : List Nat, Bin l → l.takeWhile (T [48, 49]).cps.contains = l := by
    intro l hl
    induction l with
    | nil => rfl
    | cons c r ih =>
      have hc : (T [48, 49]).cps.contains c = true := by
        rcases hl c List.mem_cons_self with rfl | rfl <;> decide +kernel
      rw [List.takeWhile_cons, if_pos hc, ih fun d hd => hl d (List.mem_cons_of_mem _ hd)]
  have lo : stripLo (T [48, 49]).cps.contains true (T a) = a.length := by
    unfold stripLo
    rw [if_pos rfl, T_list, tw a h]
  unfold stripSame stripped
  rw [lo]
  by_cases h0 : a = []
  · subst h0
    split <;> rfl
  · have h1 : (a.length == 0) = false := by
      rw [beq_eq_false_iff_ne]
      exact fun q => h0 (List.eq_nil_of_length_eq_zero q)
    rw [h1, Bool.false_and, if_neg Bool.false_ne_true]
    unfold stripHi
    rw [if_pos rfl, T_list, T_len, List.drop_length]
    unfold Builtin.Str.strSub T
    simp
theorem mt_stripT : MtR X "str.strip" (fun x xs H Q => ∃ a, x = .str (T a) ∧ xs = [.str (T [48, 49])] ∧ Bin a ∧ a.length ≤ sizeLine ∧ Q (.str (T [])) H) :=
  mtr_sub mt_stripChars fun x xs H Q ⟨a, hx, hxs, hb, hl, q⟩ => ⟨_, _, hx, hxs, by rw [T_len]; exact hl, by rw [strip_T hb]; exact q⟩
theorem call_lenT : CallR X (.builtin "len") (fun xs H Q => ∃ z, xs = [.str (T z)] ∧ z.length ≤ sizeLine ∧ Q (.int (z.length : Int)) H) := by
  intro pins s σ H xs us Q I rx h
  obtain ⟨z, e, hl, q⟩ := h
  exact call_len_str pins s σ H xs us Q I rx ⟨_, e, by rw [T_len]; exact hl, by rw [T_len]; exact q⟩
end
end HC

namespace HC
open PySem PySem.Spec PyProof.Rows L2
/-! ## calls by keywords alone -/
section
variable {X : Cx} {CX : CXT} {k : Nat} {f : Addr} {fd : FuncData} {ps ks : List Str} {sp : Sp} {E : XK} {x : Str} {p pos : Pos} {kws : List Keyword} {tk : TA} {g : List Value → List Value → List Value} {gV : List V → List V → List V}
theorem pe_callK0 (F : FnOk X.prog X.w X.K X.mg X.base CX k f fd ps sp) (hr : Room k X.A) (hg : Gl X x) (hm : X.mg x = some (.ref f)) (hk : PySem.W.keepIn X.K (.ref f) = true) (hb : KBinds X.K fd ps ks g gV) (hx : Passes CX X E)
    (hkw : PK X kws tk) (hall : (backToKw pos (keywordEach kws X.env)).all (·.1.isSome) = true := by rfl) (hks : (backToKw pos (keywordEach kws X.env)).filterMap (·.1) = ks := by rfl)
    (hdb : (x == ("__debug__" : Str)) = false := by decide)
    (hpl : ((backTo pos (starEach [] X.env)).any (·.1) || (backToKw pos (keywordEach kws X.env)).any (·.1.isNone)) = false := by rfl) :
    PE X (.Call (.Name x p) [] kws pos) (tCallK sp gV E tNil tk) := by
  refine ⟨fun pins s σ H Q I h => ?_⟩
  refine wpAny_Call_Name_kw (ld_glob I hg hm ?_ hdb)
  refine PySem.W.callWith_KW0 (h₀ := X.base) I.ok.mod.kin hk hall (thn (hkw.run pos pins s σ H _ I h) fun ws s2 ⟨zs, H2, I2, rz, q2⟩ => ⟨I2.kIn, ?_⟩) hpl
  rw [hks]
  exact run_fnk (us := []) (vs := []) F hr hb hx I2 .nil rz q2
end
/-- two keywords, the other way round -/
def swG {α : Type} (us ws : List α) : List α := match us, ws with
  | [], [a, b] => [b, a]
  | _, _ => []
theorem swRel {vs : List V} {us : List Value} {zs : List V} {ws : List Value} (r : Vals vs us) (q : Vals zs ws) : Vals (swG vs zs) (swG us ws) := by
  cases r with
  | cons => exact .nil
  | nil =>
    cases q with
    | nil => exact .nil
    | cons q1 q =>
      cases q with
      | nil => exact .nil
      | cons q2 q =>
        cases q with
        | nil => exact .cons q2 (.cons q1 .nil)
        | cons => exact .nil
theorem kb_swap {K : PySem.W.Frag} {fd : FuncData} {p q : Str} (h : ∀ a b : Value, bindArgs fd ⟨[], [(q, a), (p, b)]⟩ = pure [(p, b), (q, a)]) : KBinds K fd [p, q] [q, p] swG swG where
  to := fun s us ws _ hl => by
    match us, ws, hl with
    | [], [a, b], _ => exact .of_eq (h a b)
    | [], [], hl => simp [swG] at hl
    | [], [_], hl => simp [swG] at hl
    | [], _ :: _ :: _ :: _, hl => simp [swG] at hl
    | _ :: _, _, hl => simp [swG] at hl
  rel := swRel
/-! ## the built-ins' names are free -/
structure Blt (mg : Str → Option Value) : Prop where
  len : mg "len" = none
  abs : mg "abs" = none
  max : mg "max" = none
  min : mg "min" = none
  range : mg "range" = none
  int : mg "int" = none
  list : mg "list" = none
  sorted : mg "sorted" = none
/-! ## heaps: all but the pool stays -/
def SB (p : Addr) (H H' : Hp) : Prop := ∀ b o, H b = some o → b ≠ p → H' b = some o
theorem SB.refl {p : Addr} {H : Hp} : SB p H H := fun _ _ h _ => h
theorem SB.trans {p : Addr} {H H1 H2 : Hp} (a : SB p H H1) (b : SB p H1 H2) : SB p H H2 := fun c o h n => b c o (a c o h n) n
theorem SB.of {p : Addr} {H H' : Hp} (s : Same H H') : SB p H H' := fun c o h _ => s c o h
theorem SB.upd {p : Addr} {H : Hp} {o : HO} : SB p H (upd H p o) := fun c u h n => by rw [upd_ne n]; exact h
theorem Same.new {H : Hp} {q : Addr} {o : HO} (hq : H q = none) : Same H (upd H q o) := fun c u h => by rw [upd_ne (ne_of_none h hq)]; exact h
/-- the pool of numbers that a law draws from, n of them drawn at most -/
def PoolAt (H : Hp) (p : Addr) (n : Nat) : Prop := ∃ (a b : Int) (c : Nat), H p = some (.lst [.int a, .int b, .int (c : Int)]) ∧ 0 ≤ a ∧ 0 ≤ b ∧ b < 2 ^ 62 ∧ c ≤ n
theorem PoolAt.mono {H : Hp} {p : Addr} {n m : Nat} (h : PoolAt H p n) (k : n ≤ m) : PoolAt H p m := by
  obtain ⟨a, b, c, h1, h2, h3, h4, h5⟩ := h
  exact ⟨a, b, c, h1, h2, h3, h4, Nat.le_trans h5 k⟩
theorem PoolAt.same {H H' : Hp} {p : Addr} {n : Nat} (h : PoolAt H p n) (s : Same H H') : PoolAt H' p n := by
  obtain ⟨a, b, c, h1, h2, h3, h4, h5⟩ := h
  exact ⟨a, b, c, s _ _ h1, h2, h3, h4, h5⟩
theorem PoolAt.new {H : Hp} {p q : Addr} {n : Nat} {o : HO} (h : PoolAt H p n) (hq : H q = none) : PoolAt (L2.upd H q o) p n := h.same (Same.new hq)
theorem PoolAt.ne {H : Hp} {p q : Addr} {n : Nat} (h : PoolAt H p n) (hq : H q = none) : q ≠ p := by
  obtain ⟨a, b, c, h1, _⟩ := h
  exact (ne_of_none h1 hq).symm
/-- a moment as a tuple -/
def MomAt (H : Hp) (t : Addr) (h r : List Nat) : Prop := H t = some (.tup [.str (T h), .str (T r)])
theorem MomAt.sb {H H' : Hp} {t p : Addr} {h r : List Nat} {n : Nat} (m : MomAt H t h r) (P : PoolAt H p n) (s : SB p H H') : MomAt H' t h r := by
  obtain ⟨a, b, c, h1, _⟩ := P
  exact s _ _ m (ne_of m h1 (by intro z; cases z))
theorem MomAt.same {H H' : Hp} {t : Addr} {h r : List Nat} (m : MomAt H t h r) (s : Same H H') : MomAt H' t h r := s _ _ m
theorem MomAt.new {H : Hp} {t q : Addr} {h r : List Nat} {o : HO} (m : MomAt H t h r) (hq : H q = none) : MomAt (L2.upd H q o) t h r := m.same (Same.new hq)
theorem atI_of {α : Type} {xs : List α} {i : Nat} {x : α} (h : xs[i]? = some x) : atI xs (i : Int) = some x := atI_nat h
/-! ## data of texts -/
def Cod (l : List Nat) : Prop := ∀ c ∈ l, c < 1114112
theorem Bin.cod {l : List Nat} (h : Bin l) : Cod l := fun c hc => by rcases h c hc with e | e <;> omega
theorem strOk_T {l : List Nat} (h : Cod l) : PyData.strOk (T l) = true := by
  unfold PyData.strOk T
  simp only [List.all_toArray, List.all_eq_true, decide_eq_true_eq]
  exact h
/-! ## promises of what draws -/
def spPool (K : PySem.W.Frag) : Sp := fun vs H Q _ => ∃ (a : Addr) (ns : List Int) (i : Nat), vs = [.ref a, .int (i : Int)] ∧ SqL K H a (ns.map V.int) ∧ i ≤ 1000 ∧
  ∀ H' p, Same H H' → H p = none → PoolAt H' p 0 → Q (.ref p) H'
def spDraw : Sp := fun vs H Q _ => ∃ (p : Addr) (m n : Nat), vs = [.ref p, .int (m : Int)] ∧ PoolAt H p n ∧ n < 2 ^ 30 ∧ 0 < m ∧ m < 2 ^ 200 ∧
  ∀ H' (r : Nat), SB p H H' → PoolAt H' p (n + 1) → r < m → Q (.int (r : Int)) H'
end HC

namespace HC
open PySem PySem.Spec PyProof.Rows L2
/-! ## ranges of great numbers -/
theorem long_turn {P : Program} {w : World} {K : PySem.W.Frag} {tg : Expr} (j : Addr) (lo : Int) (n : Nat) :
    Turn P w K tg (Itr lo n) [j] j (fun m h => IsLongIter h j (lo + (m : Nat) * 1) ((n : Int) - (m : Nat)) 1) where
  mem := List.mem_singleton.mpr rfl
  obj := fun m h st b hb => by
    obtain rfl : b = j := List.mem_singleton.mp hb
    exact ⟨_, st, fun c z => by
      have z2 : Data.fields _ = Data.cell c := z
      cases z2⟩
  keep := fun m h h2 st kk => kk j (List.mem_singleton.mpr rfl) _ st
  item := by
    intro Y e1 e2 e3 cm m pn s0 τ G F J fp st go
    subst e1 e2 e3
    obtain ⟨f0, f1, f2, f3, f4, f5⟩ := fp j (List.mem_singleton.mpr rfl)
    refine (Walks.longrange (prog := Y.prog) (w := Y.w) (J.ok.hd cm) j lo 1 n).item m s0 _ _ go st fun v h2 tk hv st2 kk => ?_
    obtain ⟨t, rfl⟩ := hv
    have J2 : L2.Inv Y pn τ G { s0 with heap := h2, toks := tk } := J.turned (fun b o hb e => kk b o (fun q => hb (List.mem_singleton.mp q)) e) f0 f1 f3 f4 f5
    refine ⟨_, rfl, go_of (s := { s0 with heap := h2, toks := tk }) (n := "longrange_iterator") st2 rfl rfl (by decide) ⟨.int (lo + m), G, J2, ⟨t, ?_⟩, ⟨rfl, rfl⟩, st2, fun b hb => (fp b hb).1⟩⟩
    rw [Int.mul_one]
  done := by
    intro Y e1 e2 e3 cm m pn s0 τ G F J fp st go
    subst e1 e2 e3
    obtain ⟨f0, f1, f2, f3, f4, f5⟩ := fp j (List.mem_singleton.mpr rfl)
    have go2 : n ≤ m := go
    exact wpAny_pyNext_long_end (J.ok.hd cm) st (by omega) fun h2 eb => ⟨rfl, J.turned (t' := s0.toks) (fun b o hb e => eb b o hb e) f0 f1 f3 f4 f5⟩
  self := fun _ _ _ _ _ st q => wpAny_pyIter_longiter st q
section
variable {X : Cx} {tg : Expr}
/-- range(a, b), both of any size -/
def iRngL (ta : TA) : TI := fun σ H R => ta σ H fun vs H1 => ∃ i j : Int, vs = [.int i, .int j] ∧ R (Itr i (j - i).toNat) H1
theorem long_it {pn : List (Addr × Obj)} {σ : L2.St} {H : Hp} {s : Shared} {R : It → Hp → Prop} {E : Value → Shared → Prop} {lo hi : Int} {t u v : Tok} {tk : Nat} (I : L2.Inv X pn σ H s) (q : R (Itr lo (hi - lo).toNat) H) :
    wpAny (model X.prog X.w) X.A (pyIter (.ref s.heap.objs.size)) (PIE X pn σ tg R) E { s with heap := s.heap.push { cls := .type "range", data := .fields #[.int lo t, .int hi u, .int 1 v] }, toks := tk } := by
  have J1 : L2.Inv X pn σ H { s with heap := s.heap.push { cls := .type "range", data := .fields #[.int lo t, .int hi u, .int 1 v] }, toks := tk } := I.kept fun b o e => Heap.get?_push_of_some _ e
  have e1 : lo + ((0 : Nat) : Int) * 1 = lo := by simp
  have e2 : (((hi - lo).toNat : Nat) : Int) - ((0 : Nat) : Int) = Builtin.Range.rangeSize lo hi 1 := by rw [rangeSize_one]; split <;> omega
  by_cases c : Builtin.Range.small lo hi 1 = true
  · refine wpAny_pyIter_range (IsRange.new ..) c ?_
    refine ⟨_, [_], _, _, H, rfl, J1.kept (t' := tk) fun b o e => Heap.get?_push_of_some _ e, turn_range _ lo (hi - lo).toNat, ?_, fun b hb => ?_, q⟩
    · show IsRangeIter _ _ (lo + ((0 : Nat) : Int) * 1) ((((hi - lo).toNat : Nat) : Int) - ((0 : Nat) : Int)) 1
      rw [e1, e2]
      exact Heap.get?_push_size _ rfl
    · obtain rfl := List.mem_singleton.mp hb
      exact J1.fpOk (Nat.le_refl _) (J1.hok.fresh (Nat.le_refl _))
  · refine wpAny_pyIter_longrange (IsRange.new ..) (by simpa using c) ?_
    refine ⟨_, [_], _, _, H, rfl, J1.kept (t' := tk) fun b o e => Heap.get?_push_of_some _ e, long_turn _ lo (hi - lo).toNat, ?_, fun b hb => ?_, q⟩
    · show IsLongIter _ _ (lo + ((0 : Nat) : Int) * 1) ((((hi - lo).toNat : Nat) : Int) - ((0 : Nat) : Int)) 1
      rw [e1, e2]
      exact Heap.get?_push_size _ rfl
    · obtain rfl := List.mem_singleton.mp hb
      exact J1.fpOk (Nat.le_refl _) (J1.hok.fresh (Nat.le_refl _))
theorem pi_rangeL {a b : Expr} {ta : TA} {p pos : Pos} (hg : Gl X "range") (hm : X.mg "range" = none) (ha : PA X [a, b] ta) (g1 : starEach [a, b] X.env = [(false, eval a X.env), (false, eval b X.env)] := by rfl) (g2 : starEach [b] X.env = [(false, eval b X.env)] := by rfl) :
    PI X tg (.Call (.Name "range" p) [a, b] [] pos) (iRngL ta) := by
  refine ⟨fun pn s σ H R I h => ?_⟩
  refine Call_ (ld_blt I hg hm boot_range (PyProof.Rows.callWith_type1 (thn (ha.run pos pn s σ H _ I h) fun us s1 ⟨vs, H1, I1, r1, q1⟩ => ?_) (by rw [g1, g2]) (by rw [g2]; rfl)))
  obtain ⟨i, j, e, q⟩ := q1
  subst e
  cases r1 with | cons ra rb => cases rb with | cons rc rd =>
    cases rd
    obtain ⟨ta1, rfl⟩ := ra
    obtain ⟨tb1, rfl⟩ := rc
    exact call_range_2 (long_it I1 q)
end
end HC

namespace HC
open PySem PySem.Spec PyProof.Rows L2
/-! ## sequences -/
theorem tYes_if {σ : L2.St} {H : Hp} {A B : Hp → Prop} (h : A H) : tYes σ H fun b H3 => if b = true then A H3 else B H3 := by
  show if true = true then A H else B H
  rw [if_pos rfl]
  exact h
/-- the signs of a ring, for ever -/
def cyc (r : List Nat) (i : Nat) : Nat := r.getD (i % r.length) 0
def val (h r : List Nat) (i : Nat) : Nat := if i < h.length then h.getD i 0 else cyc r (i - h.length)
/-- the first signs of a moment -/
def sg (h r : List Nat) (n : Nat) : List Nat := (h ++ rep (n / r.length + 1) r).take n
def L (n : Nat) (f : Nat → Nat) : List Nat := (List.range n).map f
theorem L_len (n : Nat) (f : Nat → Nat) : (L n f).length = n := by unfold L; simp
theorem L_get {n : Nat} {f : Nat → Nat} {i : Nat} (h : i < n) : (L n f)[i]? = some (f i) := by
  unfold L
  rw [List.getElem?_map, List.getElem?_range h]
  rfl
theorem L_ext {n : Nat} {f : Nat → Nat} {l : List Nat} (h1 : l.length = n) (h2 : ∀ i, i < n → l[i]? = some (f i)) : l = L n f := by
  apply List.ext_getElem?
  intro i
  by_cases h : i < n
  · rw [h2 i h, L_get h]
  · rw [List.getElem?_eq_none (by omega), List.getElem?_eq_none (by rw [L_len]; omega)]
theorem L_eq {n : Nat} {f g : Nat → Nat} : L n f = L n g ↔ ∀ i, i < n → f i = g i := by
  constructor
  · intro h i hi
    have := L_get (f := f) hi
    rw [h, L_get hi] at this
    exact (Option.some.inj this).symm
  · intro h
    exact L_ext (L_len n f) fun i hi => by rw [L_get hi, h i hi]
theorem cyc_get {r : List Nat} (hr : 1 ≤ r.length) (i : Nat) : r[i % r.length]? = some (cyc r i) := by
  have : i % r.length < r.length := Nat.mod_lt _ hr
  unfold cyc
  rw [List.getD_eq_getElem?_getD, List.getElem?_eq_getElem this]
  rfl
theorem cyc_lt {r : List Nat} {i : Nat} (h : i < r.length) : r[i]? = some (cyc r i) := by
  have := cyc_get (r := r) (by omega) i
  rwa [Nat.mod_eq_of_lt h] at this
theorem cyc_add (r : List Nat) (i : Nat) : cyc r (i + r.length) = cyc r i := by
  unfold cyc
  rw [Nat.add_mod_right]
theorem cyc_mul (r : List Nat) (i k : Nat) : cyc r (i + k * r.length) = cyc r i := by
  unfold cyc
  rw [Nat.add_mul_mod_self_right]
theorem cyc_mod (r : List Nat) (i : Nat) : cyc r (i % r.length) = cyc r i := by
  unfold cyc
  rw [Nat.mod_mod]
theorem rep_get {r : List Nat} : ∀ {n i : Nat}, i < n * r.length → (rep n r)[i]? = some (cyc r i)
  | 0, i, h => by simp at h
  | n + 1, i, h => by
    rw [rep_succ]
    by_cases hi : i < r.length
    · rw [List.getElem?_append_left hi]
      exact cyc_lt hi
    · rw [List.getElem?_append_right (by omega)]
      rw [Nat.succ_mul] at h
      rw [rep_get (n := n) (i := i - r.length) (by omega)]
      have : i = (i - r.length) + r.length := by omega
      rw [this, cyc_add, Nat.add_sub_cancel]
theorem sg_eq {h r : List Nat} (hr : 1 ≤ r.length) (n : Nat) : sg h r n = L n (val h r) := by
  have h0 : n < (n / r.length + 1) * r.length := by
    have := Nat.lt_div_mul_add (a := n) (show 0 < r.length by omega)
    rw [Nat.succ_mul]; omega
  apply L_ext
  · unfold sg
    rw [List.length_take, List.length_append, rep_len]
    omega
  · intro i hi
    unfold sg val
    rw [List.getElem?_take_of_lt hi]
    by_cases h1 : i < h.length
    · rw [List.getElem?_append_left h1, if_pos h1, List.getD_eq_getElem?_getD, List.getElem?_eq_getElem h1]
      rfl
    · rw [List.getElem?_append_right (by omega), if_neg h1]
      exact rep_get (by omega)
/-- two sequences that repeat, alike for as long as both rings together -/
theorem wilf {f g : Nat → Nat} {a p q : Nat} (hp : 1 ≤ p) (hq : 1 ≤ q) (hf : ∀ i, a ≤ i → f (i + p) = f i) (hg : ∀ i, a ≤ i → g (i + q) = g i) (h : ∀ i, i < a + p + q → f i = g i) : ∀ i, f i = g i := by
  intro i
  induction i using Nat.strongRecOn with
  | _ i ih =>
    by_cases hi : i < a + p + q
    · exact h i hi
    · have e1 : f i = f (i - p) := by have := hf (i - p) (by omega); rwa [Nat.sub_add_cancel (by omega)] at this
      have e2 : g (i - p) = g (i - p - q) := by have := hg (i - p - q) (by omega); rwa [Nat.sub_add_cancel (by omega)] at this
      have e3 : f (i - q) = f (i - q - p) := by have := hf (i - q - p) (by omega); rwa [Nat.sub_add_cancel (by omega)] at this
      have e4 : g i = g (i - q) := by have := hg (i - q) (by omega); rwa [Nat.sub_add_cancel (by omega)] at this
      have e5 : i - p - q = i - q - p := by omega
      rw [e1, ih (i - p) (by omega), e2, e5, ← ih (i - q - p) (by omega), ← e3, ih (i - q) (by omega), e4]
theorem val_per (h r : List Nat) {a i : Nat} (ha : h.length ≤ a) (hi : a ≤ i) : val h r (i + r.length) = val h r i := by
  unfold val
  rw [if_neg (by omega), if_neg (by omega)]
  have : i + r.length - h.length = (i - h.length) + r.length := by omega
  rw [this, cyc_add]
/-- the order by the first place that differs -/
theorem L_lt : ∀ {n : Nat} {f g : Nat → Nat}, L n f < L n g ↔ ∃ i, i < n ∧ (∀ j, j < i → f j = g j) ∧ f i < g i
  | 0, f, g => by
    constructor
    · intro h
      exact absurd h (List.lt_irrefl _)
    · rintro ⟨i, h, _⟩
      omega
  | n + 1, f, g => by
    have e : ∀ k : Nat → Nat, L (n + 1) k = k 0 :: L n (fun i => k (i + 1)) := fun k => by
      unfold L
      rw [List.range_succ_eq_map, List.map_cons, List.map_map]
      rfl
    rw [e f, e g, List.cons_lt_cons_iff, L_lt (n := n)]
    constructor
    · rintro (h | ⟨h, i, h1, h2, h3⟩)
      · exact ⟨0, by omega, fun j hj => by omega, h⟩
      · refine ⟨i + 1, by omega, fun j hj => ?_, h3⟩
        cases j with
        | zero => exact h
        | succ j => exact h2 j (by omega)
    · rintro ⟨i, h1, h2, h3⟩
      cases i with
      | zero => exact .inl h3
      | succ i => exact .inr ⟨h2 0 (by omega), i, by omega, fun j hj => h2 (j + 1) (by omega), h3⟩
/-- the sequence is ahead of the other -/
def Bef (f g : Nat → Nat) : Prop := ∃ i, (∀ j, j < i → f j = g j) ∧ f i < g i
theorem bef_iff {h1 r1 h2 r2 : List Nat} {m : Nat} (k1 : 1 ≤ r1.length) (k2 : 1 ≤ r2.length) (hm : max h1.length h2.length + r1.length + r2.length ≤ m) : sg h1 r1 m < sg h2 r2 m ↔ Bef (val h1 r1) (val h2 r2) := by
  rw [sg_eq k1, sg_eq k2, L_lt]
  constructor
  · rintro ⟨i, _, h⟩
    exact ⟨i, h⟩
  · rintro ⟨i, h3, h4⟩
    by_cases hi : i < m
    · exact ⟨i, hi, h3, h4⟩
    · have := wilf (a := max h1.length h2.length) k1 k2 (fun i hi => val_per h1 r1 (Nat.le_max_left _ _) hi) (fun i hi => val_per h2 r2 (Nat.le_max_right _ _) hi) (fun j hj => h3 j (by omega)) i
      omega
/-! ## rings that are turned -/
def Tail (a b : List Nat) : Prop := ∃ s, ∀ i, cyc a i = cyc b (i + s)
theorem Tail.refl (a : List Nat) : Tail a a := ⟨0, fun _ => rfl⟩
theorem Tail.symm {a b : List Nat} (hb : 1 ≤ b.length) (h : Tail a b) : Tail b a := by
  obtain ⟨s, h⟩ := h
  refine ⟨s * (b.length - 1), fun i => ?_⟩
  rw [h]
  have : i + s * (b.length - 1) + s = i + s * b.length := by
    have : s * b.length = s * (b.length - 1) + s := by
      conv => lhs; rw [show b.length = (b.length - 1) + 1 by omega]
      rw [Nat.mul_succ]
    omega
  rw [this, cyc_mul]
def Inv (r : List Nat) (k : Nat) : Prop := ∀ i, cyc r (i + k) = cyc r i
theorem dbl_get {r : List Nat} {i : Nat} (h : i < r.length + r.length) : (r ++ r)[i]? = some (cyc r i) := by
  by_cases h1 : i < r.length
  · rw [List.getElem?_append_left h1, cyc_lt h1]
  · rw [List.getElem?_append_right (by omega), cyc_lt (by omega)]
    have : i = (i - r.length) + r.length := by omega
    rw [this, cyc_add, Nat.add_sub_cancel]
/-- b stands in a, written twice, at k -/
theorem at_cyc {a b : List Nat} {k : Nat} (hk : k + b.length ≤ a.length + a.length) : At (a ++ a) b k ↔ ∀ i, i < b.length → cyc a (i + k) = cyc b i := by
  unfold At
  constructor
  · rintro ⟨h, _⟩ i hi
    have e : (((a ++ a).drop k).take b.length)[i]? = b[i]? := by rw [h]
    rw [List.getElem?_take_of_lt hi, List.getElem?_drop, dbl_get (by omega), cyc_lt hi, Nat.add_comm k i] at e
    exact Option.some.inj e
  · intro h
    refine ⟨?_, by rw [List.length_append]; exact hk⟩
    apply List.ext_getElem?
    intro i
    by_cases hi : i < b.length
    · rw [List.getElem?_take_of_lt hi, List.getElem?_drop, dbl_get (by omega), cyc_lt hi, Nat.add_comm k i, h i hi]
    · rw [List.getElem?_eq_none (by rw [List.length_take]; omega), List.getElem?_eq_none (by omega)]
theorem at_inv {r : List Nat} {k : Nat} (hr : 1 ≤ r.length) (hk : k ≤ r.length) : At (r ++ r) r k ↔ Inv r k := by
  rw [at_cyc (by omega)]
  constructor
  · intro h i
    have := h (i % r.length) (Nat.mod_lt _ hr)
    rw [cyc_mod] at this
    rw [← this]
    conv => lhs; rw [← Nat.mod_add_div i r.length]
    rw [Nat.mul_comm, show i % r.length + i / r.length * r.length + k = i % r.length + k + i / r.length * r.length by omega, cyc_mul]
  · intro h i _
    exact h i
/-- the shortest ring's length -/
structure Per (r : List Nat) (k : Nat) : Prop where
  pos : 1 ≤ k
  le : k ≤ r.length
  inv : Inv r k
  least : ∀ j, 1 ≤ j → j < k → ¬ Inv r j
theorem per_exists {r : List Nat} (hr : 1 ≤ r.length) : ∃ k, Per r k := by
  have key : ∀ n, (∃ k, k ≤ n ∧ 1 ≤ k ∧ Inv r k) → ∃ k, k ≤ n ∧ 1 ≤ k ∧ Inv r k ∧ ∀ j, 1 ≤ j → j < k → ¬ Inv r j := by
    intro n
    induction n with
    | zero =>
      rintro ⟨k, h1, h2, _⟩
      omega
    | succ n ih =>
      rintro ⟨k, h1, h2, h3⟩
      by_cases c : ∃ k, k ≤ n ∧ 1 ≤ k ∧ Inv r k
      · obtain ⟨k, a1, a2⟩ := ih c
        exact ⟨k, by omega, a2⟩
      · have : k = n + 1 := Classical.byContradiction fun hn => c ⟨k, by omega, h2, h3⟩
        subst this
        exact ⟨n + 1, Nat.le_refl _, h2, h3, fun j j1 j2 hj => c ⟨j, by omega, j1, hj⟩⟩
  obtain ⟨k, h1, h2, h3, h4⟩ := key r.length ⟨r.length, Nat.le_refl _, hr, cyc_add r⟩
  exact ⟨k, h2, h1, h3, h4⟩
theorem inv_mul {r : List Nat} {k : Nat} (h : Inv r k) (m i : Nat) : cyc r (i + m * k) = cyc r i := by
  induction m with
  | zero => rw [Nat.zero_mul, Nat.add_zero]
  | succ m ih => rw [Nat.succ_mul, ← Nat.add_assoc, h, ih]
theorem inv_mod {r : List Nat} {k : Nat} (h : Inv r k) (i : Nat) : cyc r (i % k) = cyc r i := by
  conv => rhs; rw [← Nat.mod_add_div i k, Nat.mul_comm, inv_mul h]
theorem Per.len {r : List Nat} {k : Nat} (p : Per r k) : (r.take k).length = k := by rw [List.length_take]; have := p.le; omega
theorem Per.cyc {r : List Nat} {k : Nat} (p : Per r k) (i : Nat) : cyc (r.take k) i = cyc r i := by
  have hk : i % k < k := Nat.mod_lt _ p.pos
  have h1 := cyc_get (r := r.take k) (by rw [p.len]; exact p.pos) i
  rw [p.len, List.getElem?_take_of_lt hk, cyc_lt (by have := p.le; omega), inv_mod p.inv] at h1
  exact (Option.some.inj h1).symm
theorem inv_tail {a b : List Nat} {k : Nat} (t : Tail a b) (h : Inv b k) : Inv a k := by
  obtain ⟨s, t⟩ := t
  intro i
  rw [t, t, show i + k + s = i + s + k by omega, h]
theorem per_tail {a b : List Nat} {j k : Nat} (hb : 1 ≤ b.length) (t : Tail a b) (p : Per a j) (q : Per b k) : j = k := by
  rcases Nat.lt_trichotomy j k with h | h | h
  · exact absurd (inv_tail (t.symm hb) p.inv) (q.least j p.pos h)
  · exact h
  · exact absurd (inv_tail t q.inv) (p.least k q.pos h)
/-- what the program asks is that the tails are one -/
theorem tail_iff {a b : List Nat} {j k : Nat} (hb : 1 ≤ b.length) (p : Per a j) (q : Per b k) : ((a.take j).length = (b.take k).length ∧ ∃ i, At (a.take j ++ a.take j) (b.take k) i) ↔ Tail a b := by
  rw [p.len, q.len]
  constructor
  · rintro ⟨rfl, i, h⟩
    have hi : i + (b.take j).length ≤ (a.take j).length + (a.take j).length := by have := h.2; rwa [List.length_append] at this
    have h2 := (at_cyc hi).mp h
    have ha : 1 ≤ a.length := by have := p.le; have := p.pos; omega
    refine Tail.symm ha ⟨i, fun m => ?_⟩
    have h3 := h2 (m % j) (by rw [q.len]; exact Nat.mod_lt _ p.pos)
    rw [q.cyc, inv_mod q.inv, p.cyc] at h3
    rw [← h3]
    conv => rhs; rw [← Nat.mod_add_div m j, Nat.mul_comm, show m % j + m / j * j + i = m % j + i + m / j * j by omega, inv_mul p.inv]
  · intro t
    have e := per_tail hb t p q
    subst e
    refine ⟨rfl, ?_⟩
    obtain ⟨s, hs⟩ := t.symm hb
    refine ⟨s % j, (at_cyc ?_).mpr ?_⟩
    · rw [p.len, q.len]
      have := Nat.mod_lt s p.pos
      omega
    · intro i _
      rw [p.cyc, q.cyc, hs]
      conv => rhs; rw [← Nat.mod_add_div s j, Nat.mul_comm, ← Nat.add_assoc, inv_mul p.inv]
theorem rot_cyc {r : List Nat} {s : Nat} (hr : 1 ≤ r.length) (hs : s ≤ r.length) (i : Nat) : cyc (r.drop s ++ r.take s) i = cyc r (i + s) := by
  have hl : (r.drop s ++ r.take s).length = r.length := by rw [List.length_append, List.length_drop, List.length_take]; omega
  have h1 := cyc_get (r := r.drop s ++ r.take s) (by omega) i
  rw [hl] at h1
  have hm : i % r.length < r.length := Nat.mod_lt _ hr
  have key : ∀ m, m < r.length → (r.drop s ++ r.take s)[m]? = some (cyc r (m + s)) := by
    intro m hm
    by_cases c : m < r.length - s
    · rw [List.getElem?_append_left (by rw [List.length_drop]; exact c), List.getElem?_drop, Nat.add_comm s m, cyc_lt (by omega)]
    · rw [List.getElem?_append_right (by rw [List.length_drop]; omega), List.length_drop, List.getElem?_take_of_lt (by omega), cyc_lt (by omega)]
      have : m + s = (m - (r.length - s)) + r.length := by omega
      rw [this, cyc_add]
  rw [key _ hm] at h1
  have h2 := Option.some.inj h1
  rw [← h2]
  conv => rhs; rw [← Nat.mod_add_div i r.length, Nat.mul_comm, show i % r.length + i / r.length * r.length + s = i % r.length + s + i / r.length * r.length by omega, cyc_mul]
/-- what the law asks, too -/
theorem turn_iff {a b : List Nat} (ha : 1 ≤ a.length) (hb : 1 ≤ b.length) (h : a.length + b.length ≤ 150) : (∃ s, s < b.length ∧ sg [] a 150 = sg [] (b.drop s ++ b.take s) 150) ↔ Tail a b := by
  have hv : ∀ r : List Nat, val [] r = cyc r := fun r => by
    funext i
    unfold val
    rw [if_neg (by simp)]
    rfl
  constructor
  · rintro ⟨s, hs, e⟩
    have hl : (b.drop s ++ b.take s).length = b.length := by rw [List.length_append, List.length_drop, List.length_take]; omega
    rw [sg_eq ha, sg_eq (by omega), hv, hv, L_eq] at e
    refine ⟨s, wilf (a := 0) ha hb (fun i _ => cyc_add a i) (fun i _ => ?_) (fun i hi => ?_)⟩
    · rw [show i + b.length + s = i + s + b.length by omega, cyc_add]
    · rw [e i (by omega), rot_cyc hb (by omega)]
  · rintro ⟨s, hs⟩
    have hm : s % b.length < b.length := Nat.mod_lt _ hb
    have hl : (b.drop (s % b.length) ++ b.take (s % b.length)).length = b.length := by rw [List.length_append, List.length_drop, List.length_take]; omega
    refine ⟨s % b.length, hm, ?_⟩
    rw [sg_eq ha, sg_eq (by omega), hv, hv, L_eq]
    intro i _
    rw [hs, rot_cyc hb (by omega)]
    conv => lhs; rw [← Nat.mod_add_div s b.length, Nat.mul_comm, ← Nat.add_assoc, cyc_mul]
end HC

namespace HC
open PySem PySem.Spec PyProof.Rows L2
/-! ## the plain form of a sequence -/
def CC (s : Nat → Nat) (b k : Nat) : Prop := ∀ i, b ≤ i → s (i + k) = s i
structure PlainS (s : Nat → Nat) (b k : Nat) : Prop where
  pos : 1 ≤ k
  c : CC s b k
  kmin : ∀ b2 k2, 1 ≤ k2 → CC s b2 k2 → k ≤ k2
  bmin : ∀ b2, CC s b2 k → b ≤ b2
theorem PlainS.uniq {s : Nat → Nat} {b k b2 k2 : Nat} (p : PlainS s b k) (q : PlainS s b2 k2) : b = b2 ∧ k = k2 := by
  have e : k = k2 := Nat.le_antisymm (p.kmin b2 k2 q.pos q.c) (q.kmin b k p.pos p.c)
  subst e
  exact ⟨Nat.le_antisymm (p.bmin b2 q.c) (q.bmin b p.c), rfl⟩
/-- the ring, run backwards, too -/
def EE (h r : List Nat) (k i : Nat) : Nat := cyc r (i + h.length * (k - 1))
theorem EE_per {h r : List Nat} {k : Nat} (p : Per r k) (i : Nat) : EE h r k (i + k) = EE h r k i := by
  unfold EE
  rw [show i + k + h.length * (k - 1) = i + h.length * (k - 1) + k by omega, p.inv]
theorem val_EE {h r : List Nat} {k : Nat} (p : Per r k) {i : Nat} (hi : h.length ≤ i) : val h r i = EE h r k i := by
  unfold val EE
  rw [if_neg (by omega)]
  have e : h.length * k = h.length * (k - 1) + h.length := by
    have := p.pos
    conv => lhs; rw [show k = (k - 1) + 1 by omega]
    rw [Nat.mul_succ]
  have : i + h.length * (k - 1) = (i - h.length) + h.length * k := by omega
  rw [this, inv_mul p.inv]
theorem CC_iff {h r : List Nat} {k b : Nat} (p : Per r k) (hb : b ≤ h.length) : CC (val h r) b k ↔ ∀ i, b ≤ i → i < h.length → val h r i = EE h r k i := by
  constructor
  · intro c i h1 h2
    have key : ∀ t, val h r (i + t * k) = val h r i := by
      intro t
      induction t with
      | zero => rw [Nat.zero_mul, Nat.add_zero]
      | succ t ih => rw [Nat.succ_mul, ← Nat.add_assoc, c _ (by omega), ih]
    have key2 : ∀ t, EE h r k (i + t * k) = EE h r k i := by
      intro t
      induction t with
      | zero => rw [Nat.zero_mul, Nat.add_zero]
      | succ t ih => rw [Nat.succ_mul, ← Nat.add_assoc, EE_per p, ih]
    have hk := p.pos
    have : h.length ≤ i + h.length * k := by
      have : h.length * 1 ≤ h.length * k := Nat.mul_le_mul_left _ hk
      omega
    rw [← key h.length, val_EE p this, key2]
  · intro c i hi
    have e : ∀ j, b ≤ j → val h r j = EE h r k j := fun j hj => by
      by_cases h2 : j < h.length
      · exact c j hj h2
      · exact val_EE p (by omega)
    rw [e _ (by omega), e _ hi, EE_per p]
theorem plain_of {h r : List Nat} {k b : Nat} (p : Per r k) (hb : b ≤ h.length) (hc : ∀ i, b ≤ i → i < h.length → val h r i = EE h r k i) (hm : b = 0 ∨ val h r (b - 1) ≠ EE h r k (b - 1)) : PlainS (val h r) b k := by
  have hr : 1 ≤ r.length := Nat.le_trans p.pos p.le
  refine ⟨p.pos, (CC_iff p hb).mpr hc, fun b2 k2 h1 c => ?_, fun b2 c => ?_⟩
  · have iv : Inv r k2 := by
      intro j
      have hbn : b2 ≤ b2 * r.length := by have := Nat.mul_le_mul_left b2 hr; omega
      have := c (h.length + j + b2 * r.length) (by omega)
      unfold val at this
      rw [if_neg (by omega), if_neg (by omega), show h.length + j + b2 * r.length + k2 - h.length = j + k2 + b2 * r.length by omega, show h.length + j + b2 * r.length - h.length = j + b2 * r.length by omega, cyc_mul, cyc_mul] at this
      exact this
    exact Nat.le_of_not_lt fun q => p.least k2 h1 q iv
  · refine Nat.le_of_not_lt fun q => ?_
    rcases hm with e | e
    · omega
    · exact e ((CC_iff p (by omega)).mp c (b - 1) (by omega) (by omega))
theorem plain_exists {h r : List Nat} {k : Nat} (p : Per r k) : ∃ b, b ≤ h.length ∧ PlainS (val h r) b k := by
  have key : ∀ n b, b ≤ h.length → b ≤ n → (∀ i, b ≤ i → i < h.length → val h r i = EE h r k i) → ∃ b, b ≤ h.length ∧ PlainS (val h r) b k := by
    intro n
    induction n with
    | zero =>
      intro b h1 h2 hc
      exact ⟨b, h1, plain_of p h1 hc (.inl (by omega))⟩
    | succ n ih =>
      intro b h1 h2 hc
      by_cases e : b = 0
      · exact ⟨b, h1, plain_of p h1 hc (.inl e)⟩
      · by_cases e2 : val h r (b - 1) = EE h r k (b - 1)
        · refine ih (b - 1) (by omega) (by omega) fun i a1 a2 => ?_
          by_cases e3 : i = b - 1
          · rw [e3, e2]
          · exact hc i (by omega) a2
        · exact ⟨b, h1, plain_of p h1 hc (.inr e2)⟩
  exact key h.length h.length (Nat.le_refl _) (Nat.le_refl _) fun i h1 h2 => by omega
theorem PlainS.le {h r : List Nat} {b k : Nat} (hr : 1 ≤ r.length) (q : PlainS (val h r) b k) : b ≤ h.length ∧ Per r k := by
  obtain ⟨k2, p⟩ := per_exists hr
  obtain ⟨b2, h1, q2⟩ := plain_exists (h := h) p
  obtain ⟨e1, e2⟩ := q.uniq q2
  subst e1 e2
  exact ⟨h1, p⟩
/-- the plain form as texts -/
def pH (s : Nat → Nat) (b : Nat) : List Nat := L b s
def pR (s : Nat → Nat) (b k : Nat) : List Nat := L k fun m => s (b + m)
theorem L_take {n m : Nat} {s : Nat → Nat} (h : m ≤ n) : (L n s).take m = L m s := by
  apply L_ext
  · rw [List.length_take, L_len]; omega
  · intro i hi
    rw [List.getElem?_take_of_lt hi, L_get (by omega)]
theorem L_drop {n m : Nat} {s : Nat → Nat} : (L n s).drop m = L (n - m) fun i => s (m + i) := by
  apply L_ext
  · rw [List.length_drop, L_len]
  · intro i hi
    rw [List.getElem?_drop, L_get (by omega)]
theorem list_L (l : List Nat) (f : Nat → Nat) (h : ∀ i, i < l.length → l[i]? = some (f i)) : l = L l.length f := L_ext rfl h
theorem head_L {h r : List Nat} {b : Nat} (hb : b ≤ h.length) : h.take b = L b (val h r) := by
  apply L_ext
  · rw [List.length_take]; omega
  · intro i hi
    rw [List.getElem?_take_of_lt hi]
    unfold val
    rw [if_pos (by omega), List.getD_eq_getElem?_getD, List.getElem?_eq_getElem (by omega)]
    rfl
/-- how the signs of a trial's moment go -/
theorem val_L {s : Nat → Nat} {b k : Nat} (hk : 1 ≤ k) (i : Nat) : val (L b s) (L k fun m => s (b + m)) i = if i < b then s i else s (b + (i - b) % k) := by
  unfold val
  rw [L_len]
  by_cases h : i < b
  · rw [if_pos h, if_pos h, List.getD_eq_getElem?_getD, L_get h]
    rfl
  · rw [if_neg h, if_neg h]
    have e := cyc_get (r := L k fun m => s (b + m)) (by rw [L_len]; exact hk) (i - b)
    rw [L_len, L_get (Nat.mod_lt _ hk)] at e
    exact (Option.some.inj e).symm
theorem CC_mod {s : Nat → Nat} {b k : Nat} (c : CC s b k) (m : Nat) : s (b + m % k) = s (b + m) := by
  have key : ∀ t x, s (b + x + t * k) = s (b + x) := by
    intro t
    induction t with
    | zero => intro x; rw [Nat.zero_mul, Nat.add_zero]
    | succ t ih => intro x; rw [Nat.succ_mul, ← Nat.add_assoc, c _ (by omega), ih]
  conv => rhs; rw [← Nat.mod_add_div m k, Nat.mul_comm, ← Nat.add_assoc, key]
/-- a trial: the first signs are those of the moment itself just if the sequence repeats from there on -/
theorem trial_iff {h r : List Nat} {b k many : Nat} (hr : 1 ≤ r.length) (hk : 1 ≤ k) (hb : b ≤ h.length) (hm : h.length + k + r.length ≤ many) :
    sg (L b (val h r)) (L k fun m => val h r (b + m)) many = L many (val h r) ↔ CC (val h r) b k := by
  rw [sg_eq (by rw [L_len]; exact hk), L_eq]
  constructor
  · intro e
    have per : ∀ i, h.length ≤ i → val (L b (val h r)) (L k fun m => val h r (b + m)) (i + k) = val (L b (val h r)) (L k fun m => val h r (b + m)) i := fun i hi => by
      have := val_per (L b (val h r)) (L k fun m => val h r (b + m)) (a := b) (i := i) (by rw [L_len]; exact Nat.le_refl _) (by omega)
      rwa [L_len] at this
    have all := wilf (a := h.length) hk hr per (fun i hi => val_per h r (Nat.le_refl _) hi) (fun i hi => e i (by omega))
    intro i hi
    have p2 := val_per (L b (val h r)) (L k fun m => val h r (b + m)) (a := b) (i := i) (by rw [L_len]; exact Nat.le_refl _) hi
    rw [L_len, all, all] at p2
    exact p2
  · intro c i _
    rw [val_L hk]
    by_cases hi : i < b
    · rw [if_pos hi]
    · rw [if_neg hi, CC_mod c, show b + (i - b) = i by omega]
/-- the ring as the program turns it -/
theorem turn_L {h r : List Nat} {k b : Nat} (p : Per r k) (hb : b ≤ h.length) (hc : ∀ i, b ≤ i → i < h.length → val h r i = EE h r k i) :
    (r.take k).drop (k - (h.length - b) % k) ++ (r.take k).take (k - (h.length - b) % k) = pR (val h r) b k := by
  have hk := p.pos
  have hle := p.le
  have hmod : (h.length - b) % k < k := Nat.mod_lt _ hk
  have hl : (r.take k).length = k := p.len
  generalize hu : (h.length - b) % k = u at hmod
  apply L_ext
  · rw [List.length_append, List.length_drop, List.length_take (l := r.take k), hl]; omega
  · intro m hm
    have e1 : val h r (b + m) = EE h r k (b + m) := by
      by_cases h2 : b + m < h.length
      · exact hc _ (by omega) h2
      · exact val_EE p (by omega)
    have rot := cyc_get (r := (r.take k).drop (k - u) ++ (r.take k).take (k - u)) (by rw [List.length_append, List.length_drop, List.length_take (l := r.take k), hl]; omega) m
    have hlen : ((r.take k).drop (k - u) ++ (r.take k).take (k - u)).length = k := by rw [List.length_append, List.length_drop, List.length_take (l := r.take k), hl]; omega
    rw [hlen, Nat.mod_eq_of_lt hm, rot_cyc (by omega) (by omega), p.cyc] at rot
    rw [rot, e1]
    congr 1
    unfold EE
    -- m + (k - u) and b + m + H (k - 1) are alike up to rounds
    have e2 : h.length * k = h.length * (k - 1) + h.length := by
      conv => lhs; rw [show k = (k - 1) + 1 by omega]
      rw [Nat.mul_succ]
    have e3 : h.length - b = u + (h.length - b) / k * k := by
      have := Nat.mod_add_div (h.length - b) k
      rw [hu, Nat.mul_comm] at this
      omega
    rw [← inv_mul p.inv h.length (m + (k - u)), ← inv_mul p.inv ((h.length - b) / k + 1) (b + m + h.length * (k - 1))]
    congr 1
    rw [Nat.succ_mul]
    omega
theorem Bin.app' {a b : List Nat} (h : Bin a) (g : Bin b) : Bin (a ++ b) := fun c hc => by
  rcases List.mem_append.mp hc with q | q
  · exact h c q
  · exact g c q
theorem val_bin {h r : List Nat} (bh : Bin h) (br : Bin r) (hr : 1 ≤ r.length) (i : Nat) : val h r i = 48 ∨ val h r i = 49 := by
  unfold val
  by_cases c : i < h.length
  · rw [if_pos c, List.getD_eq_getElem?_getD, List.getElem?_eq_getElem c]
    exact bh _ (List.getElem_mem c)
  · rw [if_neg c]
    exact br _ (List.mem_of_getElem? (cyc_get hr _))
theorem L_bin {n : Nat} {f : Nat → Nat} (h : ∀ i, f i = 48 ∨ f i = 49) : Bin (L n f) := fun c hc => by
  unfold L at hc
  obtain ⟨i, _, rfl⟩ := List.mem_map.mp hc
  exact h i
end HC

namespace HC
open PySem PySem.Spec PyProof.Rows L2
/-! ## values -/
/-- a word as a number -/
def num : List Nat → Nat
  | [] => 0
  | c :: l => (c - 48) * 2 ^ l.length + num l
theorem num_app : ∀ (a b : List Nat), num (a ++ b) = num a * 2 ^ b.length + num b
  | [], b => by show num b = 0 * _ + num b; rw [Nat.zero_mul, Nat.zero_add]
  | c :: a, b => by
    show (c - 48) * 2 ^ (a ++ b).length + num (a ++ b) = ((c - 48) * 2 ^ a.length + num a) * 2 ^ b.length + num b
    rw [num_app a b, List.length_append, Nat.pow_add, Nat.add_mul, Nat.mul_assoc, Nat.add_assoc]
theorem num_lt : ∀ {l : List Nat}, Bin l → num l < 2 ^ l.length
  | [], _ => Nat.one_pos
  | c :: l, h => by
    have ih := num_lt (l := l) fun d hd => h d (List.mem_cons_of_mem _ hd)
    show (c - 48) * 2 ^ l.length + num l < 2 ^ (l.length + 1)
    rw [Nat.pow_succ]
    rcases h c List.mem_cons_self with e | e <;> subst e <;> omega
def WW (r : List Nat) : Nat := 2 ^ r.length - 1
theorem WW_pos {r : List Nat} (h : 1 ≤ r.length) : 1 ≤ WW r := by
  unfold WW
  have : 2 ^ 1 ≤ 2 ^ r.length := Nat.pow_le_pow_right (by decide) h
  omega
def VT (h r : List Nat) : Nat := num h * WW r + num r
def VB (h r : List Nat) : Nat := WW r * 2 ^ h.length
theorem VB_pos {h r : List Nat} (hr : 1 ≤ r.length) : 1 ≤ VB h r := Nat.mul_pos (WW_pos hr) (Nat.pow_pos (by decide))
theorem VT_le {h r : List Nat} (bh : Bin h) (br : Bin r) : VT h r ≤ VB h r := by
  unfold VT VB
  have h1 := num_lt bh
  have h2 := num_lt br
  have h3 : num r ≤ WW r := by unfold WW; omega
  have h4 : (num h + 1) * WW r ≤ 2 ^ h.length * WW r := Nat.mul_le_mul_right _ h1
  rw [Nat.add_mul, Nat.one_mul] at h4
  rw [Nat.mul_comm (WW r)]
  omega
def AA (m : Nat) (f : Nat → Nat) : Nat := num (L m f)
theorem AA_succ (m : Nat) (f : Nat → Nat) : AA (m + 1) f = (f 0 - 48) * 2 ^ m + AA m (fun i => f (i + 1)) := by
  unfold AA
  have e : L (m + 1) f = f 0 :: L m (fun i => f (i + 1)) := by
    unfold L
    rw [List.range_succ_eq_map, List.map_cons, List.map_map]
    rfl
  rw [e]
  show (f 0 - 48) * 2 ^ (L m fun i => f (i + 1)).length + _ = _
  rw [L_len]
/-- the signs as a number come as near to the value as they are many -/
theorem bracket : ∀ (m : Nat) {h r : List Nat}, Bin h → Bin r → 1 ≤ r.length → AA m (val h r) * VB h r ≤ VT h r * 2 ^ m ∧ VT h r * 2 ^ m ≤ (AA m (val h r) + 1) * VB h r
  | 0, h, r, bh, br, hr => by
    have e : AA 0 (val h r) = 0 := rfl
    rw [e, Nat.zero_mul, Nat.pow_zero, Nat.mul_one, Nat.zero_add, Nat.one_mul]
    exact ⟨Nat.zero_le _, VT_le bh br⟩
  | m + 1, h, r, bh, br, hr => by
    -- the tail behind the first sign
    have core : ∀ (b TT BB T2 B2 A2 : Nat), 1 ≤ B2 → 2 * TT * B2 = (b * B2 + T2) * BB → A2 * B2 ≤ T2 * 2 ^ m → T2 * 2 ^ m ≤ (A2 + 1) * B2 →
        (b * 2 ^ m + A2) * BB ≤ TT * 2 ^ (m + 1) ∧ TT * 2 ^ (m + 1) ≤ (b * 2 ^ m + A2 + 1) * BB := by
      intro b TT BB T2 B2 A2 hB rel l1 l2
      have e0 : TT * 2 ^ (m + 1) * B2 = (b * 2 ^ m * B2 + T2 * 2 ^ m) * BB := by
        calc TT * 2 ^ (m + 1) * B2 = (2 * TT * B2) * 2 ^ m := by rw [Nat.pow_succ]; simp only [Nat.mul_assoc, Nat.mul_comm, Nat.mul_left_comm]
          _ = (b * B2 + T2) * BB * 2 ^ m := by rw [rel]
          _ = (b * 2 ^ m * B2 + T2 * 2 ^ m) * BB := by simp only [Nat.add_mul, Nat.mul_assoc, Nat.mul_comm, Nat.mul_left_comm]
      constructor
      · refine Nat.le_of_mul_le_mul_right (c := B2) ?_ hB
        rw [e0]
        calc (b * 2 ^ m + A2) * BB * B2 = (b * 2 ^ m * B2 + A2 * B2) * BB := by rw [Nat.mul_right_comm, Nat.add_mul]
          _ ≤ (b * 2 ^ m * B2 + T2 * 2 ^ m) * BB := Nat.mul_le_mul_right _ (Nat.add_le_add_left l1 _)
      · refine Nat.le_of_mul_le_mul_right (c := B2) ?_ hB
        rw [e0]
        calc (b * 2 ^ m * B2 + T2 * 2 ^ m) * BB ≤ (b * 2 ^ m * B2 + (A2 + 1) * B2) * BB := Nat.mul_le_mul_right _ (Nat.add_le_add_left l2 _)
          _ = (b * 2 ^ m + A2 + 1) * BB * B2 := by rw [← Nat.add_mul, ← Nat.add_assoc, Nat.mul_right_comm]
    rw [AA_succ]
    cases h with
    | cons c h =>
      have bh2 : Bin h := fun d hd => bh d (List.mem_cons_of_mem _ hd)
      have es : (fun i => val (c :: h) r (i + 1)) = val h r := by
        funext i
        unfold val
        rw [List.length_cons]
        by_cases q : i < h.length
        · rw [if_pos q, if_pos (by omega)]
          rfl
        · rw [if_neg q, if_neg (by omega)]
          congr 1
          omega
      have e0 : val (c :: h) r 0 = c := by
        unfold val
        rw [if_pos (by rw [List.length_cons]; omega)]
        rfl
      rw [es, e0]
      obtain ⟨l1, l2⟩ := bracket m bh2 br hr
      refine core _ _ _ _ _ _ (VB_pos hr) ?_ l1 l2
      unfold VT VB
      show 2 * (((c - 48) * 2 ^ h.length + num h) * WW r + num r) * (WW r * 2 ^ h.length) = ((c - 48) * (WW r * 2 ^ h.length) + (num h * WW r + num r)) * (WW r * 2 ^ (h.length + 1))
      rw [Nat.pow_succ]
      simp only [Nat.add_mul, Nat.mul_add, Nat.mul_assoc, Nat.mul_comm, Nat.mul_left_comm, Nat.add_assoc]
    | nil =>
      cases r with
      | nil => exact absurd hr (by decide)
      | cons c r =>
        have br2 : Bin (r ++ [c]) := Bin.app' (fun d hd => br d (List.mem_cons_of_mem _ hd)) (fun d hd => by rw [List.mem_singleton.mp hd]; exact br c List.mem_cons_self)
        have hl : (r ++ [c]).length = (c :: r).length := by rw [List.length_append]; rfl
        have v0 : ∀ x : List Nat, val [] x = cyc x := fun x => by
          funext i
          unfold val
          rw [if_neg (by simp)]
          rfl
        have es : (fun i => val [] (c :: r) (i + 1)) = val [] (r ++ [c]) := by
          rw [v0, v0]
          funext i
          exact (rot_cyc (r := c :: r) (s := 1) hr hr i).symm
        have e0 : val [] (c :: r) 0 = c := by
          rw [v0]
          unfold cyc
          rw [Nat.zero_mod]
          rfl
        rw [es, e0]
        obtain ⟨l1, l2⟩ := bracket m (h := []) (r := r ++ [c]) bh br2 (by rw [hl]; exact hr)
        refine core _ _ _ _ _ _ (VB_pos (by rw [hl]; exact hr)) ?_ l1 l2
        have eW : WW (r ++ [c]) = WW (c :: r) := by unfold WW; rw [hl]
        have eT : ∀ x, VT [] x = num x := fun x => by unfold VT; show 0 * _ + num x = num x; rw [Nat.zero_mul, Nat.zero_add]
        have eB : ∀ x, VB [] x = WW x := fun x => by unfold VB; show WW x * 1 = WW x; rw [Nat.mul_one]
        rw [eT, eT, eB, eB, eW]
        have key : 2 * num (c :: r) = (c - 48) * WW (c :: r) + num (r ++ [c]) := by
          rw [num_app]
          show 2 * ((c - 48) * 2 ^ r.length + num r) = (c - 48) * (2 ^ (r.length + 1) - 1) + (num r * 2 ^ 1 + ((c - 48) * 2 ^ 0 + 0))
          rw [Nat.pow_succ, Nat.mul_sub]
          have : (c - 48) * 1 ≤ (c - 48) * (2 ^ r.length * 2) := Nat.mul_le_mul_left _ (by have := Nat.pow_pos (n := r.length) (show 0 < 2 by decide); omega)
          have e2 : (c - 48) * (2 ^ r.length * 2) = 2 * ((c - 48) * 2 ^ r.length) := by rw [← Nat.mul_assoc, Nat.mul_comm]
          omega
        rw [key]
theorem AA_le : ∀ (m : Nat) {f g : Nat → Nat}, (∀ i, f i = 48 ∨ f i = 49) → (∀ i, g i = 48 ∨ g i = 49) → ¬ Bef g f → AA m f ≤ AA m g
  | 0, _, _, _, _, _ => Nat.le_refl _
  | m + 1, f, g, hf, hg, h => by
    rw [AA_succ, AA_succ]
    have bf : AA m (fun i => f (i + 1)) < 2 ^ m := by
      have := num_lt (l := L m fun i => f (i + 1)) (L_bin fun i => hf (i + 1))
      rwa [L_len] at this
    by_cases e : f 0 = g 0
    · rw [e]
      refine Nat.add_le_add_left (AA_le m (fun i => hf (i + 1)) (fun i => hg (i + 1)) fun ⟨i, h1, h2⟩ => h ⟨i + 1, fun j hj => ?_, h2⟩) _
      cases j with
      | zero => exact e.symm
      | succ j => exact h1 j (by omega)
    · have lt : f 0 < g 0 := by
        rcases Nat.lt_or_gt_of_ne e with q | q
        · exact q
        · exact absurd ⟨0, fun j hj => by omega, q⟩ h
      have e1 : f 0 = 48 := by rcases hf 0 with q | q <;> rcases hg 0 with q2 | q2 <;> omega
      have e2 : g 0 = 49 := by rcases hf 0 with q | q <;> rcases hg 0 with q2 | q2 <;> omega
      rw [e1, e2]
      omega
/-- values do not descend -/
theorem value_le {h r h2 r2 : List Nat} (bh : Bin h) (br : Bin r) (hr : 1 ≤ r.length) (bh2 : Bin h2) (br2 : Bin r2) (hr2 : 1 ≤ r2.length) (no : ¬ Bef (val h2 r2) (val h r)) : VT h r * VB h2 r2 ≤ VT h2 r2 * VB h r := by
  refine Nat.le_of_not_lt fun q => ?_
  have key : ∀ m, 2 ^ m ≤ VB h r * VB h2 r2 := by
    intro m
    have a1 := (bracket m bh br hr).2
    have a2 := (bracket m bh2 br2 hr2).1
    have a3 := AA_le m (val_bin bh br hr) (val_bin bh2 br2 hr2) no
    generalize AA m (val h r) = A1 at a1 a3
    generalize AA m (val h2 r2) = A2 at a2 a3
    generalize VT h r = T1 at a1 q
    generalize VT h2 r2 = T2 at a2 q
    generalize VB h r = B1 at a1 q
    generalize VB h2 r2 = B2 at a2 q
    generalize 2 ^ m = M at a1 a2
    have b1 : T1 * M * B2 ≤ (A1 + 1) * B1 * B2 := Nat.mul_le_mul_right _ a1
    have b2 : (A1 + 1) * B1 * B2 ≤ (A2 + 1) * B1 * B2 := Nat.mul_le_mul_right _ (Nat.mul_le_mul_right _ (by omega))
    have b3 : A2 * B2 * B1 ≤ T2 * M * B1 := Nat.mul_le_mul_right _ a2
    have c1 : T1 * M * B2 = (T1 * B2) * M := by rw [Nat.mul_assoc, Nat.mul_comm M, ← Nat.mul_assoc]
    have c2 : T2 * M * B1 = (T2 * B1) * M := by rw [Nat.mul_assoc, Nat.mul_comm M, ← Nat.mul_assoc]
    have c3 : (A2 + 1) * B1 * B2 = A2 * B2 * B1 + B1 * B2 := by rw [Nat.add_mul, Nat.add_mul, Nat.one_mul, Nat.mul_assoc, Nat.mul_comm B1, ← Nat.mul_assoc]
    have d : (T2 * B1 + 1) * M ≤ (T1 * B2) * M := Nat.mul_le_mul_right _ q
    rw [Nat.add_mul, Nat.one_mul] at d
    omega
  have := key (VB h r * VB h2 r2)
  have h2 : VB h r * VB h2 r2 < 2 ^ (VB h r * VB h2 r2) := Nat.lt_two_pow_self
  omega
theorem bef_no {f g : Nat → Nat} (h : Bef f g) : ¬ Bef g f := by
  obtain ⟨i, h1, h2⟩ := h
  rintro ⟨j, g1, g2⟩
  rcases Nat.lt_trichotomy i j with q | q | q
  · have := g1 i q
    omega
  · subst q
    omega
  · have := h1 j q
    omega
theorem bef_eq {f g : Nat → Nat} (h1 : ¬ Bef f g) (h2 : ¬ Bef g f) : f = g := by
  funext i
  induction i using Nat.strongRecOn with
  | _ i ih =>
    rcases Nat.lt_trichotomy (f i) (g i) with q | q | q
    · exact absurd ⟨i, fun j hj => ih j hj, q⟩ h1
    · exact q
    · exact absurd ⟨i, fun j hj => (ih j hj).symm, q⟩ h2
theorem bef_irr (f : Nat → Nat) : ¬ Bef f f := fun ⟨i, _, h⟩ => Nat.lt_irrefl _ h
/-- plain forms are the same just if the sequences are -/
theorem plain_eq {f g : Nat → Nat} {b k b2 k2 : Nat} (p : PlainS f b k) (q : PlainS g b2 k2) : (pH f b = pH g b2 ∧ pR f b k = pR g b2 k2) ↔ f = g := by
  constructor
  · rintro ⟨e1, e2⟩
    have l1 := congrArg List.length e1
    have l2 := congrArg List.length e2
    unfold pH at l1 e1
    unfold pR at l2 e2
    rw [L_len, L_len] at l1 l2
    subst l1 l2
    funext i
    have hf := val_L (s := f) (b := b) p.pos i
    have hg := val_L (s := g) (b := b) p.pos i
    rw [e1, e2, hg] at hf
    by_cases c : i < b
    · rw [if_pos c, if_pos c] at hf
      exact hf.symm
    · rw [if_neg c, if_neg c, CC_mod p.c, CC_mod q.c, show b + (i - b) = i by omega] at hf
      exact hf.symm
  · intro e
    subst e
    obtain ⟨rfl, rfl⟩ := p.uniq q
    exact ⟨rfl, rfl⟩
end HC

namespace HC
open PySem PySem.Spec PyProof.Rows L2
/-! ## int(text, 2) -/
namespace B2
open PySem.NumText PySem.Calls
theorem dig {c : Nat} (h : c = 48 ∨ c = 49) : digit? c = some (c - 48) := by
  rcases h with rfl | rfl <;> rfl
theorem stp {da : Array Nat} {fl : Bool} {c : Nat} (h : c = 48 ∨ c = 49) : PySem.NumText.step 2 (da, fl) c = some (da.push (c - 48), true) := by
  unfold PySem.NumText.step
  rw [if_neg (by rw [beq_iff_eq]; omega), dig h]
  exact if_pos (by omega)
def pu (l : List Nat) (da : Array Nat) : Array Nat := l.foldl (fun z c => z.push (c - 48)) da
theorem fold2 : ∀ (l : List Nat) (da : Array Nat), Bin l → l.foldlM (PySem.NumText.step 2) (da, true) = some (pu l da, true)
  | [], _, _ => rfl
  | c :: l, da, h => by
    rw [List.foldlM_cons, stp (h c List.mem_cons_self)]
    show l.foldlM (PySem.NumText.step 2) (da.push (c - 48), true) = some (pu l (da.push (c - 48)), true)
    exact fold2 l _ fun d hd => h d (List.mem_cons_of_mem _ hd)
theorem digs {l : List Nat} (h : Bin l) (h0 : l ≠ []) : digits? 2 l = some (pu l #[]) := by
  cases l with
  | nil => exact absurd rfl h0
  | cons c l =>
    unfold digits?
    rw [List.foldlM_cons, stp (h c List.mem_cons_self)]
    show (l.foldlM (PySem.NumText.step 2) ((#[] : Array Nat).push (c - 48), true)).bind _ = some (pu (c :: l) #[])
    rw [fold2 l _ fun d hd => h d (List.mem_cons_of_mem _ hd)]
    rfl
def sm (da : Array Nat) : Nat := da.foldl (fun x d => x * 2 + d) 0
theorem sm_push (da : Array Nat) (d : Nat) : sm (da.push d) = sm da * 2 + d := by
  unfold sm
  simp
theorem pu_num : ∀ (l : List Nat) (da : Array Nat), sm (pu l da) = sm da * 2 ^ l.length + num l
  | [], da => by show sm da = sm da * 1 + 0; omega
  | c :: l, da => by
    show sm (pu l (da.push (c - 48))) = sm da * 2 ^ (l.length + 1) + ((c - 48) * 2 ^ l.length + num l)
    rw [pu_num l, sm_push, Nat.add_mul, Nat.pow_succ, Nat.mul_assoc, Nat.mul_comm 2]
    omega
theorem noBlank {l : List Nat} (h : Bin l) : l.dropWhile blank = l := by
  cases l with
  | nil => rfl
  | cons c l => exact dropWhile_of (by have := h c List.mem_cons_self; omega)
theorem noSign {l : List Nat} (h : Bin l) : sign l = (false, l) := by
  cases l with
  | nil => rfl
  | cons c l =>
    have := h c List.mem_cons_self
    exact sign_of (by omega) (by omega)
theorem based2 {l : List Nat} (h : Bin l) : based 2 l = (2, false, l) := by
  match l, h with
  | [], _ => rfl
  | [a], h => rcases h a List.mem_cons_self with e | e <;> subst e <;> rfl
  | a :: c :: r, h =>
    have h2 := h c (List.mem_cons_of_mem _ List.mem_cons_self)
    rcases h a List.mem_cons_self with e | e <;> subst e <;> rcases h2 with e | e <;> subst e <;> rfl
theorem bin_rev {l : List Nat} (h : Bin l) : Bin l.reverse := fun c hc => h c (List.mem_reverse.mp hc)
theorem read2 {l : List Nat} (h : Bin l) (h0 : l ≠ []) : (int_private% "readNumeral") 0 2 l = (int_private% "Numeral.value") ((num l : Nat) : Int) := by
  refine (readNumeral_eq 0 2 l).trans ?_
  rw [noBlank h, noSign h]
  show judge 0 false (based 2 l).1 (based 2 l).2.1 (digits? (based 2 l).1 (((based 2 l).2.2.reverse.dropWhile blank).reverse)) = (int_private% "Numeral.value") _
  rw [based2 h]
  show judge 0 false 2 false (digits? 2 ((l.reverse.dropWhile blank).reverse)) = (int_private% "Numeral.value") _
  rw [noBlank (bin_rev h), List.reverse_reverse, digs h h0]
  show (int_private% "Numeral.value") ((sm (pu l #[]) : Nat) : Int) = (int_private% "Numeral.value") ((num l : Nat) : Int)
  rw [pu_num]
  have : sm (#[] : Array Nat) = 0 := rfl
  rw [this, Nat.zero_mul, Nat.zero_add]
theorem seen2 {l : List Nat} (h : Bin l) : numTextOf (T l) = l ∧ numSeenOf (T l) = l := by
  have e1 : numTextOf (T l) = l := by
    refine (if_pos ?_).trans (T_list l)
    rw [← Array.all_toList, List.all_eq_true]
    intro c hc
    have hc2 : c ∈ l := by
      have := T_list l
      rw [this] at hc
      exact hc
    have := h c hc2
    exact decide_eq_true (by omega)
  refine ⟨e1, ?_⟩
  show (numTextOf (T l)).takeWhile _ = l
  rw [e1]
  refine takeWhile_all fun c hc => ?_
  have := h c hc
  exact bne_iff_ne.mpr (by omega)
theorem gives2 {l : List Nat} {u t : Tok} (hl : l.length ≤ 640) (h : Bin l) (h0 : l ≠ []) :
    Gives (Builtin.«int.__new__» ⟨[.type "int", .str (T l) u, .int 2 t], []⟩) (.int ((num l : Nat) : Int)) :=
  .of_wp fun M A E s Q hQ => by
    obtain ⟨h1, g1, d1, k1, o1⟩ := s
    have f1 := F.conv_sub_int
    have f2 := F.madeHere_int
    have f6 : typeOf (.str (T l) u) = pure (.type "str") := rfl
    obtain ⟨e1, e2⟩ := seen2 h
    have q1 : (numSeenOf (T l)).length ≤ 640 := by
      rw [e2]
      exact hl
    have q2 : (int_private% "readNumeral") 0 2 (numSeenOf (T l)) = (int_private% "Numeral.value") ((num l : Nat) : Int) := by
      rw [e2]
      exact read2 h h0
    have q3 : ((numSeenOf (T l)).length == (numTextOf (T l)).length) = true := by
      rw [e1, e2]
      exact beq_self_eq_true _
    have hk := L2.Hx.Hid.mk (And.intro q1 (And.intro q2 q3))
    clear q1 q2 q3 e1 e2 hl h h0
    repeat (any_goals (first
      | assumption
      | ((with_reducible show wpAny _ _ ((int_private% "intFromText") _ _ _) _ _ _); refine L2.Hx.wp_textB hk.out.1 hk.out.2.1 hk.out.2.2 ?_)
      | wp_step))
    all_goals first | exact ⟨_, rfl, hQ⟩ | skip
theorem callI {prog : Program} {w : World} {A : Around} {E : Value → Shared → Prop} {s : Shared} {Q : Value → Shared → Prop} {l : List Nat} {u t : Tok} (hl : l.length ≤ 640) (h : Bin l) (h0 : l ≠ [])
    (hQ : Q (.int ((num l : Nat) : Int) s.toks) { s with toks := s.toks + 1 }) : wpAny (model prog w) A (call (.type "int") [.str (T l) u, .int 2 t]) Q E s :=
  callType_new F.called_int F.newNe_int (L2.Hx.typeCall_int_2 _ _) (L2.Hx.newCall_int_2 _ _) (fun obj => F.initArgs_range_2 obj _ _) F.entry_int_new (gives2 hl h h0).meets (show (Made.int ((num l : Nat) : Int)).post _ s from ⟨rfl, hQ⟩)
end B2
theorem call_int2 {X : Cx} : CallR X (.type "int") (fun xs H Q => ∃ l : List Nat, xs = [.str (T l), .int 2] ∧ l ≠ [] ∧ l.length ≤ 640 ∧ Bin l ∧ Q (.int ((num l : Nat) : Int)) H) := by
  intro pn s σ H xs us Q I r h
  obtain ⟨l, rfl, h0, hl, hb, q⟩ := h
  cases r with | cons ra rb => cases rb with | cons rc rd =>
    cases rd
    obtain ⟨ta1, rfl⟩ := ra
    obtain ⟨tb1, rfl⟩ := rc
    exact B2.callI hl hb h0 ⟨.int ((num l : Nat) : Int), H, I.tok _, ⟨_, rfl⟩, q⟩
end HC

namespace HC
open PySem PySem.Spec PyProof.Rows L2
def top (i : Nat) : Stmt := PySem.Challenge.pw_halfcuts_k04_values.main.body.getD i (.Pass ⟨0, 0, 0, 0⟩)
abbrev s__law_pool : Stmt := top 23
abbrev N__law_pool : List Str := ["script", "at", "given"]
theorem sc__law_pool : FnScope N__law_pool ["script", "at"] (defScope s__law_pool) := ⟨rfl, rfl, rfl, by decide +kernel, rfl, by decide +kernel, by decide +kernel⟩

abbrev s__law_draw : Stmt := top 24
abbrev N__law_draw : List Str := ["pool", "many", "drawn", "mixed"]
theorem sc__law_draw : FnScope N__law_draw ["pool", "many"] (defScope s__law_draw) := ⟨rfl, rfl, rfl, by decide +kernel, rfl, by decide +kernel, by decide +kernel⟩

abbrev s__law_word : Stmt := top 25
abbrev N__law_word : List Str := ["pool", "most", "some", "size", "turn"]
theorem sc__law_word : FnScope N__law_word ["pool", "most"] (defScope s__law_word) := ⟨rfl, rfl, rfl, by decide +kernel, rfl, by decide +kernel, by decide +kernel⟩

abbrev s__law_moment : Stmt := top 26
abbrev N__law_moment : List Str := ["pool", "head"]
theorem sc__law_moment : FnScope N__law_moment ["pool"] (defScope s__law_moment) := ⟨rfl, rfl, rfl, by decide +kernel, rfl, by decide +kernel, by decide +kernel⟩

abbrev s__law_signs : Stmt := top 27
abbrev N__law_signs : List Str := ["head", "ring", "size"]
theorem sc__law_signs : FnScope N__law_signs ["head", "ring", "size"] (defScope s__law_signs) := ⟨rfl, rfl, rfl, by decide +kernel, rfl, by decide +kernel, by decide +kernel⟩

theorem max0 (x : Int) : 0 ≤ if x > 0 then x else 0 := by split <;> omega
theorem mul1 {c : Int} (h : 0 ≤ c) (h2 : c < 2 ^ 31) : CMulW 15488561 (c + 1) := wide_mul (a := 40) (b := 40) (by decide) (by omega) (by decide) (by decide) (by decide)
theorem mul2 {c : Int} (h : 0 ≤ c) (h2 : c < 2 ^ 31) : CMulW 32454379 (c + 1) := wide_mul (a := 40) (b := 40) (by decide) (by omega) (by decide) (by decide) (by decide)
theorem pow1 {b c : Int} (h0 : 0 ≤ b) (h1 : b < 2 ^ 62) (h : 0 ≤ c) (h2 : c < 2 ^ 31) : CPowX (b + 15488561 * (c + 1)) 3 := ⟨by decide, 64, by omega, by decide⟩
theorem pow2 {x c : Int} (h : 0 ≤ c) (h2 : c < 2 ^ 31) : CPowX (x % 162259276829213363391578010288127 + 32454379 * (c + 1)) 5 := ⟨by decide, 110, by omega, by decide⟩
theorem div1 {x : Int} : CDivW x 1048576 := wide_div (b := 40) (by decide) (by decide) (by decide) (by decide)
theorem rem_nat {Q : VK} {x : Int} {m : Nat} {H : Hp} (hm : 0 < m) (h : ∀ r : Nat, r < m → Q (.int (r : Int)) H) : Q (.int (x % (m : Int))) H := by
  have mpos : (0 : Int) < (m : Int) := by omega
  have e : x % (m : Int) = (((x % (m : Int)).toNat : Nat) : Int) := (Int.toNat_of_nonneg (Int.emod_nonneg _ (by omega))).symm
  rw [e]
  have := Int.emod_lt_of_pos x mpos
  exact h _ (by omega)
section
variable {P : Program} {w : World} {K : PySem.W.Frag} {mg : Str → Option Value} {base : Heap}
/-- a def of the top, with its promise -/
def Has (P : Program) (w : World) (K : PySem.W.Frag) (mg : Str → Option Value) (base : Heap) (x : Str) (k : Nat) (ps : List Str) (sp : Sp) : Prop :=
  ∃ (f : Addr) (fd : FuncData), mg x = some (.ref f) ∧ PySem.W.keepIn K (.ref f) = true ∧ Binds K fd ps [] ∧ FnOk P w K mg base CX0 k f fd ps sp
theorem ok__law_pool {f : Addr} {fd : FuncData} (F : Fun K "_law_pool" "_law_pool" s__law_pool f fd) (B : Blt mg) : FnOk P w K mg base CX0 1 f fd ["script", "at"] (spPool K) := by
  have sc := sc__law_pool
  refine F.ok sc (fun vs H Q E h => ?_) (fun cdv A outer s H vs Q E hr h => ?_)
  · obtain ⟨a, ns, i, rfl, _⟩ := h
    rfl
  · obtain ⟨a, ns, i, rfl, hS, hi, k⟩ := h
    refine ⟨_, (pss_cons (ps_set (i := 2) sc.nd rfl (by first | exact Or.inl rfl | exact Or.inr rfl) pe_int)
    (pss_cons (ps_if (pt_cmpR op_lt (pv 1) (pe_callB call_len_seq (by rfl) B.len PySem.boot_len (pa_cons (pv 0) pa_nil)) (nomark _)) (pss_one (ps_set (i := 2) sc.nd rfl (by first | exact Or.inl rfl | exact Or.inr rfl) (pe_ix ix_list (pv 0) (pv 1) (fun _ _ => rfl)))) pss_nil)
    (pss_one (ps_ret (pe_lst (pa_cons (pe_callB (call_max2 rfl) (by rfl) B.max (by decide +kernel) (pa_cons pe_int (pa_cons (pe_op op_sub (pe_callB call_abs (by rfl) B.abs (by decide +kernel) (pa_cons (pv 2) pa_nil)) (pe_op op_powX pe_int pe_int)) pa_nil))) (pa_cons (pe_op op_add (pe_op op_mod (pv 2) pe_int) (pe_op op_mulW pe_int (pe_op op_add (pv 1) pe_int))) (pa_cons pe_int pa_nil)))))))), ?_⟩
    have tl1 : CPowX 10 18 := ⟨by decide, 4, by decide, by decide⟩
    have tl2 : CMulW 3367900447 ((i : Int) + 1) := wide_mul (a := 40) (b := 40) (by decide) (by omega) (by decide) (by decide) (by decide)
    refine ⟨_, rfl, _, rfl, a, _, rfl, .inl hS, _, _, rfl, rfl, _, rfl, ?_⟩
    refine ite2 (fun c1 => ?_) (fun c1 => ?_)
    · have c2 := of_decide_eq_true c1
      rw [List.length_map] at c2
      obtain ⟨z, hz⟩ : ∃ z, ns[i]? = some z := ⟨ns[i]'(by omega), List.getElem?_eq_getElem (by omega)⟩
      refine ⟨_, rfl, _, rfl, a, _, _, _, rfl, rfl, hS, atI_of (x := .int z) (by rw [List.getElem?_map, hz]; rfl), ?_⟩
      refine ⟨_, rfl, _, rfl, _, _, rfl, rfl, tl1, _, _, rfl, rfl, _, _, rfl, ?_⟩
      refine ⟨_, rfl, _, _, rfl, rfl, (by show (0 : Int) < 2305843009213693951; decide), _, rfl, _, _, rfl, rfl, _, _, rfl, rfl, tl2, _, _, rfl, rfl, ?_⟩
      refine ⟨(by show 3 ≤ sizeLine; decide), fun p hp => k _ p (Same.new hp) hp ⟨_, _, 0, upd_same, ?_, ?_, ?_, Nat.le_refl _⟩⟩
      · exact max0 _
      · omega
      · omega
    · refine ⟨_, rfl, _, rfl, _, _, rfl, rfl, tl1, _, _, rfl, rfl, _, _, rfl, ?_⟩
      refine ⟨_, rfl, _, _, rfl, rfl, (by show (0 : Int) < 2305843009213693951; decide), _, rfl, _, _, rfl, rfl, _, _, rfl, rfl, tl2, _, _, rfl, rfl, ?_⟩
      refine ⟨(by show 3 ≤ sizeLine; decide), fun p hp => k _ p (Same.new hp) hp ⟨_, _, 0, upd_same, ?_, ?_, ?_, Nat.le_refl _⟩⟩
      · exact max0 _
      · omega
      · omega
theorem ok__law_draw {f : Addr} {fd : FuncData} (F : Fun K "_law_draw" "_law_draw" s__law_draw f fd) (B : Blt mg) : FnOk P w K mg base CX0 1 f fd ["pool", "many"] spDraw := by
  have sc := sc__law_draw
  refine F.ok sc (fun vs H Q E h => ?_) (fun cdv A outer s H vs Q E hr h => ?_)
  · obtain ⟨p, m, n, rfl, _⟩ := h
    rfl
  · obtain ⟨p, m, n, rfl, ⟨a, b, c, hp, ha, hb, hb2, hc⟩, hn, hm, hm2, k⟩ := h
    refine ⟨_, (pss_cons (ps_if (pt_cmpR op_gt (pe_ix ix_list (pv 0) pe_int (fun _ _ => rfl)) pe_int (nomark _)) (pss_cons (ps_set (i := 2) sc.nd rfl (by first | exact Or.inl rfl | exact Or.inr rfl) (pe_op op_mod (pe_ix ix_list (pv 0) pe_int (fun _ _ => rfl)) (pv 1)))
    (pss_cons (ps_asg (pe_op op_fdivW (pe_ix ix_list (pv 0) pe_int (fun _ _ => rfl)) (pv 1)) (pg_sub (pv 0) pe_int set_list))
    (pss_one (ps_ret (pv 2))))) pss_nil)
    (pss_cons (ps_asg (pe_op op_add (pe_ix ix_list (pv 0) pe_int (fun _ _ => rfl)) pe_int) (pg_sub (pv 0) pe_int set_list))
    (pss_cons (ps_set (i := 3) sc.nd rfl (by first | exact Or.inl rfl | exact Or.inr rfl) (pe_op op_mod (pe_op op_powX (pe_op op_add (pe_ix ix_list (pv 0) pe_int (fun _ _ => rfl)) (pe_op op_mulW pe_int (pe_ix ix_list (pv 0) pe_int (fun _ _ => rfl)))) pe_int) pe_int))
    (pss_cons (ps_set (i := 3) sc.nd rfl (by first | exact Or.inl rfl | exact Or.inr rfl) (pe_op op_mod (pe_op op_powX (pe_op op_add (pv 3) (pe_op op_mulW pe_int (pe_ix ix_list (pv 0) pe_int (fun _ _ => rfl)))) pe_int) pe_int))
    (pss_one (ps_ret (pe_op op_mod (pe_op op_fdivW (pv 3) pe_int) (pv 1)))))))), ?_⟩
    have mpos : (0 : Int) < (m : Int) := by omega
    refine ⟨_, rfl, p, _, _, _, rfl, rfl, SqL.of hp, atI_of (i := 0) rfl, _, _, rfl, rfl, _, rfl, ?_⟩
    refine ite2 (fun c1 => ?_) (fun c1 => ?_)
    · refine ⟨_, rfl, p, _, _, _, rfl, rfl, SqL.of hp, atI_of (i := 0) rfl, _, rfl, _, _, rfl, rfl, mpos, ?_⟩
      refine ⟨_, rfl, p, _, _, _, rfl, rfl, SqL.of hp, atI_of (i := 0) rfl, _, rfl, _, _, rfl, rfl, ?_, ?_⟩
      · exact wide_div mpos (b := 200) (by omega) (by decide) (by decide)
      refine ⟨_, rfl, p, _, _, 0, rfl, rfl, hp, rfl, ?_⟩
      refine ⟨_, rfl, ?_⟩
      show Q (.int (a % (m : Int))) _
      have e : a % (m : Int) = (((a % (m : Int)).toNat : Nat) : Int) := (Int.toNat_of_nonneg (Int.emod_nonneg _ (by omega))).symm
      rw [e]
      refine k _ _ SB.upd ⟨a / (m : Int), b, c, upd_same, ?_, hb, hb2, by omega⟩ ?_
      · exact Int.ediv_nonneg ha (by omega)
      · have := Int.emod_lt_of_pos a mpos
        omega
    · refine ⟨_, rfl, p, _, _, _, rfl, rfl, SqL.of hp, atI_of (i := 2) rfl, _, _, rfl, rfl, _, rfl, p, _, _, 2, rfl, rfl, hp, rfl, ?_⟩
      refine ⟨_, rfl, p, _, _, _, rfl, rfl, SqL.of upd_same, atI_of (i := 1) rfl, _, rfl, p, _, _, _, rfl, rfl, SqL.of upd_same, atI_of (i := 2) rfl, _, _, rfl, rfl, mul1 (by omega) (by omega), _, _, rfl, rfl, _, _, rfl, rfl, pow1 hb hb2 (by omega) (by omega), _, _, rfl, rfl, (by show (0 : Int) < 162259276829213363391578010288127; decide), ?_⟩
      refine ⟨_, rfl, _, rfl, p, _, _, _, rfl, rfl, SqL.of upd_same, atI_of (i := 2) rfl, _, _, rfl, rfl, mul2 (by omega) (by omega), _, _, rfl, rfl, _, _, rfl, rfl, pow2 (by omega) (by omega), _, _, rfl, rfl, (by show (0 : Int) < 170141183460469231731687303715884105727; decide), ?_⟩
      refine ⟨_, rfl, _, _, rfl, rfl, div1, _, rfl, _, _, rfl, rfl, mpos, ?_⟩
      refine rem_nat (m := m) hm fun r hr => k _ r SB.upd ⟨a, b, c + 1, upd_same, ha, hb, hb2, by omega⟩ hr
end

/-- a word: bits, at most so many -/
def spWord : Sp := fun vs H Q _ => ∃ (p : Addr) (m n : Nat), vs = [.ref p, .int (m : Int)] ∧ PoolAt H p n ∧ n + 100 < 2 ^ 30 ∧ m ≤ 90 ∧
  ∀ H' (l : List Nat), SB p H H' → PoolAt H' p (n + 100) → Bin l → l.length ≤ m → Q (.str (T l)) H'
theorem Bin.nil : Bin [] := fun _ h => nomatch h
theorem Bin.app {a b : List Nat} (h : Bin a) (g : Bin b) : Bin (a ++ b) := fun c hc => by
  rcases List.mem_append.mp hc with q | q
  · exact h c q
  · exact g c q
theorem Bin.take {a : List Nat} (h : Bin a) (n : Nat) : Bin (a.take n) := fun c hc => h c (List.mem_of_mem_take hc)
theorem Bin.drop {a : List Nat} (h : Bin a) (n : Nat) : Bin (a.drop n) := fun c hc => h c (List.mem_of_mem_drop hc)
theorem Bin.rep {a : List Nat} (h : Bin a) (n : Nat) : Bin (rep n a) := by
  induction n with
  | zero => exact Bin.nil
  | succ n ih => rw [rep_succ]; exact h.app ih
theorem bits4 {r : Nat} (h : r < 4) : ∃ l : List Nat, ([V.str (T [48]), V.str (T [49]), V.str (T [48, 49]), V.str (T [49, 48])])[r]? = some (.str (T l)) ∧ Bin l ∧ 1 ≤ l.length ∧ l.length ≤ 2 := by
  have b0 : Bin [48] := fun c hc => by simp at hc; omega
  have b1 : Bin [49] := fun c hc => by simp at hc; omega
  match r, h with
  | 0, _ => exact ⟨[48], rfl, b0, by decide, by decide⟩
  | 1, _ => exact ⟨[49], rfl, b1, by decide, by decide⟩
  | 2, _ => exact ⟨[48, 49], rfl, b0.app b1, by decide, by decide⟩
  | 3, _ => exact ⟨[49, 48], rfl, b1.app b0, by decide, by decide⟩
theorem bit2 {r : Nat} (h : r < 2) : ∃ c : Nat, ([48, 49] : List Nat)[r]? = some c ∧ Bin [c] := by
  match r, h with
  | 0, _ => exact ⟨48, rfl, fun c hc => by simp at hc; omega⟩
  | 1, _ => exact ⟨49, rfl, fun c hc => by simp at hc; omega⟩
section
variable {P : Program} {w : World} {K : PySem.W.Frag} {mg : Str → Option Value} {base : Heap}
theorem ok__law_word {f : Addr} {fd : FuncData} (F : Fun K "_law_word" "_law_word" s__law_word f fd) (B : Blt mg) (h__law_draw : Has P w K mg base "_law_draw" 1 ["pool", "many"] spDraw) : FnOk P w K mg base CX0 2 f fd ["pool", "most"] spWord := by
  have sc := sc__law_word
  obtain ⟨f__law_draw, fd__law_draw, mg__law_draw, kp__law_draw, b__law_draw, G__law_draw⟩ := h__law_draw
  refine F.ok sc (fun vs H Q E h => ?_) (fun cdv A outer s H vs Q E hr h => ?_)
  · obtain ⟨p, m, n, rfl, _⟩ := h
    rfl
  · obtain ⟨p, m, n, rfl, hp, hn, hm, k⟩ := h
    refine ⟨_, (pss_cons (ps_set (i := 2) sc.nd rfl (by first | exact Or.inl rfl | exact Or.inr rfl) (pe_ix ix_list (pe_lst (pa_cons (pe_strT [48] (by decide +kernel)) (pa_cons (pe_strT [49] (by decide +kernel)) (pa_cons (pe_strT [48, 49] (by decide +kernel)) (pa_cons (pe_strT [49, 48] (by decide +kernel)) pa_nil))))) (pe_call G__law_draw (hr.mono (by decide)) (by rfl) mg__law_draw kp__law_draw b__law_draw .nil pass0 (pa_cons (pv 0) (pa_cons pe_int pa_nil))) (fun _ _ => rfl)))
    (pss_cons (ps_set (i := 3) sc.nd rfl (by first | exact Or.inl rfl | exact Or.inr rfl) (pe_call G__law_draw (hr.mono (by decide)) (by rfl) mg__law_draw kp__law_draw b__law_draw .nil pass0 (pa_cons (pv 0) (pa_cons (pe_op op_add (pv 1) pe_int) pa_nil))))
    (pss_cons (ps_if (pt_cmpR op_eq (pe_call G__law_draw (hr.mono (by decide)) (by rfl) mg__law_draw kp__law_draw b__law_draw .nil pass0 (pa_cons (pv 0) (pa_cons pe_int pa_nil))) pe_int (nomark _)) (pss_one (ps_ret (pe_slice sl_T (pe_op op_mulT (pv 2) (pv 1)) po_none (po_some (pv 3))))) pss_nil)
    (pss_one (ps_ret (pe_bm PySem.F.plainAttrs_str PySem.F.slot_str_join PySem.F.type_str_join mt_joinT (pe_strT [] (by decide +kernel)) (pa_cons (pe_lc (own := [("turn", 4)]) (g := gName 4) (by rfl) sc.nd (pi_range1 (by rfl) B.range (pa_cons (pv 3) pa_nil)) (blkOk_by (own := [("turn", 4)]) (N := N__law_word) (sc := defScope s__law_word) (by decide +kernel)) (fun _ _ _ _ _ => pg_name (i := 4) sc.nd rfl (by first | exact Or.inl rfl | exact Or.inr rfl)) (fun _ _ _ _ _ => pts_nil) (fun _ _ _ _ _ => (pe_ix ix_T (pe_strT [48, 49] (by decide +kernel)) (pe_call G__law_draw (hr.mono (by decide)) (by rfl) mg__law_draw kp__law_draw b__law_draw .nil pass0 (pa_cons (pv 0) (pa_cons pe_int pa_nil))) (fun _ _ => rfl)))) pa_nil))))))), ?_⟩
    refine ⟨(by show 4 ≤ sizeLine; decide), fun l hl => ?_⟩
    refine ⟨_, rfl, p, 4, n, rfl, hp.new hl, by omega, by decide, by decide, fun H1 r s1 p1 hr1 => ?_⟩
    obtain ⟨l4, e4, b4, g1, g2⟩ := bits4 hr1
    have hl1 : H1 l = some (.lst [V.str (T [48]), V.str (T [49]), V.str (T [48, 49]), V.str (T [49, 48])]) := s1 _ _ upd_same (hp.ne hl)
    have sb1 : SB p H H1 := (SB.of (Same.new hl)).trans s1
    refine ⟨l, _, _, _, rfl, rfl, SqL.of hl1, atI_of e4, ?_⟩
    refine ⟨_, rfl, _, rfl, _, _, rfl, rfl, p, m + 1, n + 1, rfl, p1, by omega, by omega, by omega, fun H2 z s2 p2 hz => ?_⟩
    refine ⟨_, rfl, p, 3, n + 2, rfl, p2, by omega, by decide, by decide, fun H3 t s3 p3 ht => ?_⟩
    refine ⟨rfl, _, rfl, ?_⟩
    refine ite2 (fun c1 => ?_) (fun c1 => ?_)
    · refine ⟨_, rfl, _, rfl, _, _, rfl, rfl, ?_, by omega, _, rfl, _, rfl, _, rfl, ?_, ?_⟩
      · have : l4.length * m ≤ 2 * 90 := Nat.mul_le_mul g2 hm
        omega
      · rw [rep_len]
        have : m * l4.length ≤ 90 * 2 := Nat.mul_le_mul hm g2
        exact Nat.le_trans this (by decide)
      · show Q (.str (T (cutL (rep m l4) none (some (z : Int))))) _
        rw [cut_hi]
        refine k _ _ (sb1.trans (s2.trans s3)) (p3.mono (by omega)) ((b4.rep _).take _) ?_
        rw [List.length_take]
        omega
    · refine ⟨rfl, ?_⟩
      refine ⟨_, rfl, (z : Int), rfl, by omega, by omega, fun D hD => ?_⟩
      refine lc_range (lo := 0) (n := (z : Int).toNat) (fun i H' => ∃ ys : List (List Nat), H' D = some (.lst (ys.map fun y => V.str (T y))) ∧ ys.length = i ∧ ys.flatten.length = i ∧ Bin ys.flatten ∧ SB p H3 H' ∧ PoolAt H' p (n + 3 + i)) ?_ ?_ ?_
      · exact ⟨[], upd_same, rfl, rfl, Bin.nil, SB.of (Same.new hD), (p3.mono (by omega)).new hD⟩
      · rintro i H' hi ⟨ys, hy, hy1, hy2, hy3, sb, pp⟩
        refine ⟨rfl, ?_⟩
        refine tYes_if ?_
        refine ⟨_, rfl, p, 2, n + 3 + i, rfl, pp, by omega, by decide, by decide, fun H4 r s4 p4 hr4 => ?_⟩
        obtain ⟨c, ec, bc⟩ := bit2 hr4
        refine ⟨[48, 49], _, c, rfl, rfl, by decide, atI_of ec, ?_⟩
        have hy4 := s4 _ _ hy (p3.ne hD)
        refine ⟨_, hy4, ?_, ys ++ [[c]], ?_, ?_, ?_, ?_, ?_, ?_⟩
        · rw [List.length_map, hy1]
          exact small1000 (by omega)
        · rw [upd_same, List.map_append]
          rfl
        · rw [List.length_append, hy1]
          rfl
        · rw [List.flatten_append, List.length_append, hy2]
          rfl
        · rw [List.flatten_append]
          exact hy3.app (by simpa using bc)
        · intro b o hb nb
          have nD : b ≠ D := ne_of_none hb hD
          rw [upd_ne nD]
          exact s4 _ _ (sb _ _ hb nb) nb
        · obtain ⟨a1, b1, c1', q1, q2, q3, q4, q5⟩ := p4
          refine ⟨a1, b1, c1', ?_, q2, q3, q4, by omega⟩
          rw [upd_ne (p3.ne hD).symm]
          exact q1
      · rintro H' ⟨ys, hy, hy1, hy2, hy3, sb, pp⟩
        refine ⟨D, ys, rfl, rfl, SqL.of hy, by omega, ?_⟩
        refine k _ _ (sb1.trans (s2.trans (s3.trans sb))) (pp.mono (by omega)) hy3 ?_
        rw [hy2]
        omega
end

/-- a moment of a law: head, ring -/
def spMoment : Sp := fun vs H Q _ => ∃ (p : Addr) (n : Nat), vs = [.ref p] ∧ PoolAt H p n ∧ n + 300 < 2 ^ 30 ∧
  ∀ H' (t : Addr) (h r : List Nat), SB p H H' → PoolAt H' p (n + 300) → MomAt H' t h r → Bin h → Bin r → h.length ≤ 60 → 1 ≤ r.length → r.length ≤ 12 → Q (.ref t) H'
theorem pick3 {a b c r : Nat} (h : r < 3) : ∃ m : Nat, ([V.int (a : Int), V.int (b : Int), V.int (c : Int)])[r]? = some (.int (m : Int)) ∧ (m = a ∨ m = b ∨ m = c) := by
  match r, h with
  | 0, _ => exact ⟨a, rfl, .inl rfl⟩
  | 1, _ => exact ⟨b, rfl, .inr (.inl rfl)⟩
  | 2, _ => exact ⟨c, rfl, .inr (.inr rfl)⟩
section
variable {P : Program} {w : World} {K : PySem.W.Frag} {mg : Str → Option Value} {base : Heap}
theorem ok__law_moment {f : Addr} {fd : FuncData} (F : Fun K "_law_moment" "_law_moment" s__law_moment f fd) (h__law_draw : Has P w K mg base "_law_draw" 1 ["pool", "many"] spDraw) (h__law_word : Has P w K mg base "_law_word" 2 ["pool", "most"] spWord) :
    FnOk P w K mg base CX0 3 f fd ["pool"] spMoment := by
  have sc := sc__law_moment
  obtain ⟨f__law_word, fd__law_word, mg__law_word, kp__law_word, b__law_word, G__law_word⟩ := h__law_word
  obtain ⟨f__law_draw, fd__law_draw, mg__law_draw, kp__law_draw, b__law_draw, G__law_draw⟩ := h__law_draw
  refine F.ok sc (fun vs H Q E h => ?_) (fun cdv A outer s H vs Q E hr h => ?_)
  · obtain ⟨p, n, rfl, _⟩ := h
    rfl
  · obtain ⟨p, n, rfl, hp, hn, k⟩ := h
    refine ⟨_, (pss_cons (ps_set (i := 1) sc.nd rfl (by first | exact Or.inl rfl | exact Or.inr rfl) (pe_call G__law_word (hr.mono (by decide)) (by rfl) mg__law_word kp__law_word b__law_word .nil pass0 (pa_cons (pv 0) (pa_cons (pe_ix ix_list (pe_lst (pa_cons pe_int (pa_cons pe_int (pa_cons pe_int pa_nil)))) (pe_call G__law_draw (hr.mono (by decide)) (by rfl) mg__law_draw kp__law_draw b__law_draw .nil pass0 (pa_cons (pv 0) (pa_cons pe_int pa_nil))) (fun _ _ => rfl)) pa_nil))))
    (pss_one (ps_ret (pe_tup (pa_cons (pv 1) (pa_cons (pe_op op_addT (pe_call G__law_word (hr.mono (by decide)) (by rfl) mg__law_word kp__law_word b__law_word .nil pass0 (pa_cons (pv 0) (pa_cons (pe_ix ix_list (pe_lst (pa_cons pe_int (pa_cons pe_int (pa_cons pe_int pa_nil)))) (pe_call G__law_draw (hr.mono (by decide)) (by rfl) mg__law_draw kp__law_draw b__law_draw .nil pass0 (pa_cons (pv 0) (pa_cons pe_int pa_nil))) (fun _ _ => rfl)) pa_nil))) (pe_ix ix_T (pe_strT [48, 49] (by decide +kernel)) (pe_call G__law_draw (hr.mono (by decide)) (by rfl) mg__law_draw kp__law_draw b__law_draw .nil pass0 (pa_cons (pv 0) (pa_cons pe_int pa_nil))) (fun _ _ => rfl))) pa_nil)))))), ?_⟩
    -- head
    refine ⟨_, rfl, ?_⟩
    refine ⟨(by show 3 ≤ sizeLine; decide), fun l hl => ?_⟩
    refine ⟨_, rfl, p, 3, n, rfl, hp.new hl, by omega, by decide, by decide, fun H1 r s1 p1 hr1 => ?_⟩
    have sb1 : SB p H H1 := (SB.of (Same.new hl)).trans s1
    obtain ⟨m, em, hm⟩ := pick3 (a := 3) (b := 20) (c := 60) hr1
    refine ⟨l, _, _, _, rfl, rfl, SqL.of (s1 _ _ upd_same (hp.ne hl)), atI_of em, ?_⟩
    refine ⟨p, m, n + 1, rfl, p1, by omega, by omega, fun H2 hd s2 p2 bh lh => ?_⟩
    -- (head, ring)
    refine ⟨_, rfl, _, rfl, ?_⟩
    refine ⟨(by show 3 ≤ sizeLine; decide), fun l2 hl2 => ?_⟩
    refine ⟨_, rfl, p, 3, n + 101, rfl, p2.new hl2, by omega, by decide, by decide, fun H3 r3 s3 p3 hr3 => ?_⟩
    have sb3 : SB p H2 H3 := (SB.of (Same.new hl2)).trans s3
    obtain ⟨m3, em3, hm3⟩ := pick3 (a := 1) (b := 5) (c := 11) hr3
    refine ⟨l2, _, _, _, rfl, rfl, SqL.of (s3 _ _ upd_same (p2.ne hl2)), atI_of em3, ?_⟩
    refine ⟨p, m3, n + 102, rfl, p3, by omega, by omega, fun H4 rg s4 p4 br lr => ?_⟩
    refine ⟨_, rfl, p, 2, n + 202, rfl, p4, by omega, by decide, by decide, fun H5 r5 s5 p5 hr5 => ?_⟩
    obtain ⟨c, ec, bc⟩ := bit2 hr5
    refine ⟨[48, 49], _, c, rfl, rfl, by decide, atI_of ec, ?_⟩
    refine ⟨rg, [c], rfl, rfl, ?_, ?_⟩
    · exact Nat.le_trans (show rg.length + 1 ≤ 20 by omega) (by decide)
    refine ⟨(by show 2 ≤ sizeLine; decide), fun t ht => ?_⟩
    refine k _ t hd (rg ++ [c]) ?_ ((p5.mono (by omega)).new ht) upd_same bh (br.app bc) (by omega) ?_ ?_
    · exact sb1.trans (s2.trans (sb3.trans (s4.trans (s5.trans (SB.of (Same.new ht))))))
    · rw [List.length_append]; exact Nat.le_add_left 1 _
    · rw [List.length_append]; show rg.length + 1 ≤ 12; omega
end
def spSigns : Sp := fun vs H Q _ => ∃ (h r : List Nat) (n : Nat), vs = [.str (T h), .str (T r), .int (n : Int)] ∧ h.length ≤ 200 ∧ 1 ≤ r.length ∧ r.length ≤ 200 ∧ n ≤ 2000 ∧ Q (.str (T (sg h r n))) H
section
variable {P : Program} {w : World} {K : PySem.W.Frag} {mg : Str → Option Value} {base : Heap}
theorem ok__law_signs {f : Addr} {fd : FuncData} (F : Fun K "_law_signs" "_law_signs" s__law_signs f fd) (B : Blt mg) : FnOk P w K mg base CX0 1 f fd ["head", "ring", "size"] spSigns := by
  have sc := sc__law_signs
  refine F.ok sc (fun vs H Q E h => ?_) (fun cdv A outer s H vs Q E hr h => ?_)
  · obtain ⟨hd, r, n, rfl, _⟩ := h
    rfl
  · obtain ⟨hd, r, n, rfl, h1, h2, h3, h4, k⟩ := h
    refine ⟨_, (pss_one (ps_ret (pe_slice sl_T (pe_op op_addT (pv 0) (pe_op op_mulT (pv 1) (pe_op op_add (pe_op op_fdivW (pv 2) (pe_callB call_lenT (by rfl) B.len PySem.boot_len (pa_cons (pv 1) pa_nil))) pe_int))) po_none (po_some (pv 2))))), ?_⟩
    have hdiv : n / r.length ≤ n := Nat.div_le_self _ _
    have hmul : (n / r.length) * r.length ≤ n := Nat.div_mul_le_self _ _
    have hmul2 : r.length * (n / r.length + 1) ≤ 2200 := by rw [Nat.mul_add, Nat.mul_comm]; omega
    have hsz : (2400 : Nat) ≤ sizeLine := by decide
    refine ⟨_, rfl, _, rfl, _, rfl, _, rfl, r, rfl, by omega, _, _, rfl, rfl, ?_, _, _, rfl, rfl, ?_⟩
    · exact wide_div (b := 60) (by omega) (by omega) (by decide) (by decide)
    have e : ((n : Int) / (r.length : Int)) + 1 = ((n / r.length + 1 : Nat) : Int) := by simp
    refine ⟨r, n / r.length + 1, rfl, by rw [← e], by omega, by omega, hd, _, rfl, rfl, ?_, _, rfl, _, rfl, _, rfl, ?_, ?_⟩
    · rw [rep_len, Nat.mul_comm]; omega
    · rw [List.length_append, rep_len, Nat.mul_comm]; omega
    · rw [cut_hi]
      exact k
end
end HC

namespace HC
open PySem PySem.Spec PyProof.Rows L2
abbrev s_is_word : Stmt := top 6
abbrev N_is_word : List Str := ["text"]
theorem sc_is_word : FnScope N_is_word ["text"] (defScope s_is_word) := ⟨rfl, rfl, rfl, by decide +kernel, rfl, by decide +kernel, by decide +kernel⟩

abbrev s_check_moment : Stmt := top 7
abbrev N_check_moment : List Str := ["moment", "head", "ring"]
theorem sc_check_moment : FnScope N_check_moment ["moment"] (defScope s_check_moment) := ⟨rfl, rfl, rfl, by decide +kernel, rfl, by decide +kernel, by decide +kernel⟩

abbrev s_first_signs : Stmt := top 10
abbrev N_first_signs : List Str := ["moment", "many", "head", "ring"]
theorem sc_first_signs : FnScope N_first_signs ["moment", "many"] (defScope s_first_signs) := ⟨rfl, rfl, rfl, by decide +kernel, rfl, by decide +kernel, by decide +kernel⟩

abbrev s_shortest_ring : Stmt := top 15
abbrev N_shortest_ring : List Str := ["ring"]
theorem sc_shortest_ring : FnScope N_shortest_ring ["ring"] (defScope s_shortest_ring) := ⟨rfl, rfl, rfl, by decide +kernel, rfl, by decide +kernel, by decide +kernel⟩

abbrev s_is_before : Stmt := top 21
abbrev N_is_before : List Str := ["first", "second", "many"]
theorem sc_is_before : FnScope N_is_before ["first", "second"] (defScope s_is_before) := ⟨rfl, rfl, rfl, by decide +kernel, rfl, by decide +kernel, by decide +kernel⟩


/-! ## promises of the program's defs, for arguments that are right -/
/-- a moment that is one, not too long -/
structure Mom (h r : List Nat) : Prop where
  bh : Bin h
  br : Bin r
  lh : h.length ≤ 20000
  l1 : 1 ≤ r.length
  lr : r.length ≤ 20000
def spIsWord : Sp := fun vs H Q _ => ∃ l : List Nat, vs = [.str (T l)] ∧ Bin l ∧ l.length ≤ 30000 ∧ Q (.bl true) H
def spCheckMoment : Sp := fun vs H Q _ => ∃ (t : Addr) (h r : List Nat), vs = [.ref t] ∧ MomAt H t h r ∧ Mom h r ∧ Q .non H
def spFirstSigns : Sp := fun vs H Q _ => ∃ (t : Addr) (h r : List Nat) (n : Nat), vs = [.ref t, .int (n : Int)] ∧ MomAt H t h r ∧ Mom h r ∧ n ≤ 100000 ∧ Q (.str (T (sg h r n))) H
def spShortest : Sp := fun vs H Q _ => ∃ (r : List Nat), vs = [.str (T r)] ∧ 1 ≤ r.length ∧ r.length ≤ 20000 ∧ ∀ k, Per r k → Q (.str (T (r.take k))) H
def spIsBefore : Sp := fun vs H Q _ => ∃ (t u : Addr) (h1 r1 h2 r2 : List Nat), vs = [.ref t, .ref u] ∧ MomAt H t h1 r1 ∧ MomAt H u h2 r2 ∧ Mom h1 r1 ∧ Mom h2 r2 ∧
  ∀ b : Bool, (b = true ↔ Bef (val h1 r1) (val h2 r2)) → Q (.bl b) H
def spTail : Sp := fun vs H Q _ => ∃ (t u : Addr) (h1 r1 h2 r2 : List Nat), vs = [.ref t, .ref u] ∧ MomAt H t h1 r1 ∧ MomAt H u h2 r2 ∧ Mom h1 r1 ∧ Mom h2 r2 ∧
  ∀ b : Bool, (b = true ↔ Tail r1 r2) → Q (.bl b) H
theorem le_line {n : Nat} (h : n ≤ 16000000) : n ≤ sizeLine := Nat.le_trans h (by decide)
section
variable {P : Program} {w : World} {K : PySem.W.Frag} {mg : Str → Option Value} {base : Heap}
theorem MomAt.tup {H : Hp} {t : Addr} {h r : List Nat} (m : MomAt H t h r) : SqT K H t [.str (T h), .str (T r)] := SqT.of m
theorem ok_is_word {f : Addr} {fd : FuncData} (F : Fun K "is_word" "is_word" s_is_word f fd) : FnOk P w K mg base CX0 1 f fd ["text"] spIsWord := by
  have sc := sc_is_word
  refine F.ok sc (fun vs H Q E h => ?_) (fun cdv A outer s H vs Q E hr h => ?_)
  · obtain ⟨l, rfl, _⟩ := h
    rfl
  · obtain ⟨l, rfl, hb, hl, k⟩ := h
    refine ⟨_, (pss_one (ps_ret (pe_cmpR op_eqT (pe_bm PySem.F.plainAttrs_str PySem.F.slot_str_strip PySem.F.type_str_strip mt_stripT (pv 0) (pa_cons (pe_strT [48, 49] (by decide +kernel)) pa_nil)) (pe_strT [] (by decide +kernel)) (nomark _)))), ?_⟩
    exact ⟨_, rfl, rfl, l, rfl, rfl, hb, le_line (by omega), [], [], rfl, rfl, k⟩
theorem ok_check_moment {f : Addr} {fd : FuncData} (F : Fun K "check_moment" "check_moment" s_check_moment f fd) (h_is_word : Has P w K mg base "is_word" 1 ["text"] spIsWord) : FnOk P w K mg base CX0 2 f fd ["moment"] spCheckMoment := by
  have sc := sc_check_moment
  obtain ⟨f_is_word, fd_is_word, mg_is_word, kp_is_word, b_is_word, G_is_word⟩ := h_is_word
  refine F.ok sc (fun vs H Q E h => ?_) (fun cdv A outer s H vs Q E hr h => ?_)
  · obtain ⟨t, hd, r, rfl, _⟩ := h
    rfl
  · obtain ⟨t, hd, r, rfl, hm, m, k⟩ := h
    refine ⟨_, (pss_cons (ps_asg (pv 0) (pg_tup (by rfl) (pgs_cons (pg_name (i := 1) sc.nd rfl (by first | exact Or.inl rfl | exact Or.inr rfl)) (pgs_cons (pg_name (i := 2) sc.nd rfl (by first | exact Or.inl rfl | exact Or.inr rfl)) pgs_nil))))
    (pss_one (ps_if (PW.pt (pw_or (pt_not (pt_val (pe_call G_is_word (hr.mono (by decide)) (by rfl) mg_is_word kp_is_word b_is_word .nil pass0 (pa_cons (pv 1) pa_nil)))) (pw_or (pt_not (pt_val (pe_call G_is_word (hr.mono (by decide)) (by rfl) mg_is_word kp_is_word b_is_word .nil pass0 (pa_cons (pv 2) pa_nil)))) (pw_or1 (pt_cmpR op_eqT (pv 2) (pe_strT [] (by decide +kernel)) (nomark _)))))) (pss_one ps_never) pss_nil))), ?_⟩
    refine ⟨_, rfl, t, _, rfl, hm.tup, rfl, _, _, rfl, _, _, rfl, rfl, ?_⟩
    refine ⟨_, rfl, hd, rfl, m.bh, by have := m.lh; omega, true, rfl, iteF ?_⟩
    refine ⟨_, rfl, r, rfl, m.br, by have := m.lr; omega, true, rfl, iteF ?_⟩
    refine ⟨_, rfl, r, [], rfl, rfl, _, rfl, ?_⟩
    have e : decide (r = []) = false := decide_eq_false fun q => by have := m.l1; rw [q] at this; exact absurd this (by decide)
    rw [e]
    exact iteF k
theorem ok_first_signs {f : Addr} {fd : FuncData} (F : Fun K "first_signs" "first_signs" s_first_signs f fd) (B : Blt mg) : FnOk P w K mg base CX0 1 f fd ["moment", "many"] spFirstSigns := by
  have sc := sc_first_signs
  refine F.ok sc (fun vs H Q E h => ?_) (fun cdv A outer s H vs Q E hr h => ?_)
  · obtain ⟨t, hd, r, n, rfl, _⟩ := h
    rfl
  · obtain ⟨t, hd, r, n, rfl, hm, ⟨_, _, h1, h2, h3⟩, h4, k⟩ := h
    refine ⟨_, (pss_cons (ps_asg (pv 0) (pg_tup (by rfl) (pgs_cons (pg_name (i := 2) sc.nd rfl (by first | exact Or.inl rfl | exact Or.inr rfl)) (pgs_cons (pg_name (i := 3) sc.nd rfl (by first | exact Or.inl rfl | exact Or.inr rfl)) pgs_nil))))
    (pss_one (ps_ret (pe_slice sl_T (pe_op op_addT (pv 2) (pe_op op_mulT (pv 3) (pe_op op_add (pe_op op_fdivW (pv 1) (pe_callB call_lenT (by rfl) B.len PySem.boot_len (pa_cons (pv 3) pa_nil))) pe_int))) po_none (po_some (pv 1)))))), ?_⟩
    have hdiv : n / r.length ≤ n := Nat.div_le_self _ _
    have hmul : (n / r.length) * r.length ≤ n := Nat.div_mul_le_self _ _
    have hmul2 : r.length * (n / r.length + 1) ≤ 120000 := by rw [Nat.mul_add, Nat.mul_comm]; omega
    have hsz : (150000 : Nat) ≤ sizeLine := by decide
    refine ⟨_, rfl, t, _, rfl, hm.tup, rfl, _, _, rfl, _, _, rfl, rfl, ?_⟩
    refine ⟨_, rfl, _, rfl, _, rfl, _, rfl, r, rfl, by omega, _, _, rfl, rfl, ?_, _, _, rfl, rfl, ?_⟩
    · exact wide_div (b := 60) (by omega) (by omega) (by decide) (by decide)
    have e : ((n : Int) / (r.length : Int)) + 1 = ((n / r.length + 1 : Nat) : Int) := by simp
    refine ⟨r, n / r.length + 1, rfl, by rw [← e], by omega, by omega, hd, _, rfl, rfl, ?_, _, rfl, _, rfl, _, rfl, ?_, ?_⟩
    · rw [rep_len, Nat.mul_comm]; omega
    · rw [List.length_append, rep_len, Nat.mul_comm]; omega
    · rw [cut_hi]
      exact k
theorem ok_shortest_ring {f : Addr} {fd : FuncData} (F : Fun K "shortest_ring" "shortest_ring" s_shortest_ring f fd) : FnOk P w K mg base CX0 1 f fd ["ring"] spShortest := by
  have sc := sc_shortest_ring
  refine F.ok sc (fun vs H Q E h => ?_) (fun cdv A outer s H vs Q E hr h => ?_)
  · obtain ⟨r, rfl, _⟩ := h
    rfl
  · obtain ⟨r, rfl, h1, h2, k⟩ := h
    refine ⟨_, (pss_one (ps_ret (pe_slice sl_T (pv 0) po_none (po_some (pe_bm PySem.F.plainAttrs_str PySem.F.slot_str_find PySem.F.type_str_find mt_findT (pe_op op_addT (pv 0) (pv 0)) (pa_cons (pv 0) (pa_cons pe_int pa_nil))))))), ?_⟩
    obtain ⟨j, p⟩ := per_exists h1
    refine ⟨_, rfl, _, rfl, _, rfl, r, r, rfl, rfl, le_line (by omega), rfl, _, rfl, r ++ r, r, 1, j, rfl, rfl, p.pos, (at_inv h1 p.le).mpr p.inv, fun i i1 i2 hi => p.least i i1 i2 ((at_inv h1 (by have := p.le; omega)).mp hi), _, rfl, r, rfl, le_line (by omega), ?_⟩
    rw [cut_hi]
    exact k j p
theorem ok_is_before {f : Addr} {fd : FuncData} (F : Fun K "is_before" "is_before" s_is_before f fd) (B : Blt mg) (h_check_moment : Has P w K mg base "check_moment" 2 ["moment"] spCheckMoment) (h_first_signs : Has P w K mg base "first_signs" 1 ["moment", "many"] spFirstSigns) :
    FnOk P w K mg base CX0 3 f fd ["first", "second"] spIsBefore := by
  have sc := sc_is_before
  obtain ⟨f_check_moment, fd_check_moment, mg_check_moment, kp_check_moment, b_check_moment, G_check_moment⟩ := h_check_moment
  obtain ⟨f_first_signs, fd_first_signs, mg_first_signs, kp_first_signs, b_first_signs, G_first_signs⟩ := h_first_signs
  refine F.ok sc (fun vs H Q E h => ?_) (fun cdv A outer s H vs Q E hr h => ?_)
  · obtain ⟨t, u, h1, r1, h2, r2, rfl, _⟩ := h
    rfl
  · obtain ⟨t, u, h1, r1, h2, r2, rfl, g1, g2, m1, m2, k⟩ := h
    refine ⟨_, (pss_cons (ps_expr (pe_call G_check_moment (hr.mono (by decide)) (by rfl) mg_check_moment kp_check_moment b_check_moment .nil pass0 (pa_cons (pv 0) pa_nil)))
    (pss_cons (ps_expr (pe_call G_check_moment (hr.mono (by decide)) (by rfl) mg_check_moment kp_check_moment b_check_moment .nil pass0 (pa_cons (pv 1) pa_nil)))
    (pss_cons (ps_set (i := 2) sc.nd rfl (by first | exact Or.inl rfl | exact Or.inr rfl) (pe_op op_add (pe_op op_add (pe_callB (call_max2 rfl) (by rfl) B.max (by decide +kernel) (pa_cons (pe_callB call_lenT (by rfl) B.len PySem.boot_len (pa_cons (pe_ix ix_tup (pv 0) pe_int (fun _ _ => rfl)) pa_nil)) (pa_cons (pe_callB call_lenT (by rfl) B.len PySem.boot_len (pa_cons (pe_ix ix_tup (pv 1) pe_int (fun _ _ => rfl)) pa_nil)) pa_nil))) (pe_callB call_lenT (by rfl) B.len PySem.boot_len (pa_cons (pe_ix ix_tup (pv 0) pe_int (fun _ _ => rfl)) pa_nil))) (pe_callB call_lenT (by rfl) B.len PySem.boot_len (pa_cons (pe_ix ix_tup (pv 1) pe_int (fun _ _ => rfl)) pa_nil))))
    (pss_one (ps_ret (pe_cmpR op_ltT' (pe_call G_first_signs (hr.mono (by decide)) (by rfl) mg_first_signs kp_first_signs b_first_signs .nil pass0 (pa_cons (pv 0) (pa_cons (pv 2) pa_nil))) (pe_call G_first_signs (hr.mono (by decide)) (by rfl) mg_first_signs kp_first_signs b_first_signs .nil pass0 (pa_cons (pv 1) (pa_cons (pv 2) pa_nil))) (nomark _))))))), ?_⟩
    have a1 := m1.lh
    have a2 := m2.lh
    have a3 := m1.lr
    have a4 := m2.lr
    refine ⟨_, rfl, t, h1, r1, rfl, g1, m1, ?_⟩
    refine ⟨_, rfl, u, h2, r2, rfl, g2, m2, ?_⟩
    refine ⟨_, rfl, t, _, _, _, rfl, rfl, g1.tup, atI_of (i := 0) rfl, h1, rfl, le_line (by omega), ?_⟩
    refine ⟨_, rfl, u, _, _, _, rfl, rfl, g2.tup, atI_of (i := 0) rfl, h2, rfl, le_line (by omega), _, _, rfl, ?_⟩
    refine ⟨_, rfl, t, _, _, _, rfl, rfl, g1.tup, atI_of (i := 1) rfl, r1, rfl, le_line (by omega), _, _, rfl, rfl, ?_⟩
    refine ⟨_, rfl, u, _, _, _, rfl, rfl, g2.tup, atI_of (i := 1) rfl, r2, rfl, le_line (by omega), _, _, rfl, rfl, ?_⟩
    have e : ((if (h2.length : Int) > (h1.length : Int) then (h2.length : Int) else (h1.length : Int)) + (r1.length : Int) + (r2.length : Int)) = ((max h1.length h2.length + r1.length + r2.length : Nat) : Int) := by
      split <;> omega
    refine ⟨_, rfl, _, rfl, t, h1, r1, max h1.length h2.length + r1.length + r2.length, by rw [← e]; rfl, g1, m1, by omega, ?_⟩
    refine ⟨_, rfl, _, rfl, u, h2, r2, max h1.length h2.length + r1.length + r2.length, by rw [← e]; rfl, g2, m2, by omega, _, _, rfl, rfl, ?_⟩
    refine k _ ?_
    rw [decide_eq_true_iff]
    exact bef_iff m1.l1 m2.l1 (Nat.le_refl _)
end
end HC

namespace HC
open PySem PySem.Spec PyProof.Rows L2
abbrev s_shared_end : Stmt := top 16
abbrev N_shared_end : List Str := ["head", "ring", "same"]
theorem sc_shared_end : FnScope N_shared_end ["head", "ring"] (defScope s_shared_end) := ⟨rfl, rfl, rfl, by decide +kernel, rfl, by decide +kernel, by decide +kernel⟩

abbrev s_plain : Stmt := top 14
abbrev N_plain : List Str := ["moment", "head", "ring", "same", "turn"]
theorem sc_plain : FnScope N_plain ["moment"] (defScope s_plain) := ⟨rfl, rfl, rfl, by decide +kernel, rfl, by decide +kernel, by decide +kernel⟩


abbrev s_check_at_least : Stmt := top 8
abbrev N_check_at_least : List Str := ["number", "least"]
theorem sc_check_at_least : FnScope N_check_at_least ["number", "least"] (defScope s_check_at_least) := ⟨rfl, rfl, rfl, by decide +kernel, rfl, by decide +kernel, by decide +kernel⟩




/-- one keyword; three, the other way round -/
def oneG {α : Type} (us ws : List α) : List α := match us, ws with
  | [], [a] => [a]
  | _, _ => []
theorem oneRel {vs : List V} {us : List Value} {zs : List V} {ws : List Value} (r : Vals vs us) (q : Vals zs ws) : Vals (oneG vs zs) (oneG us ws) := by
  cases r with
  | cons => exact .nil
  | nil =>
    cases q with
    | nil => exact .nil
    | cons q1 q =>
      cases q with
      | nil => exact .cons q1 .nil
      | cons => exact .nil
theorem kb_one {K : PySem.W.Frag} {fd : FuncData} {p : Str} (h : ∀ a : Value, bindArgs fd ⟨[], [(p, a)]⟩ = pure [(p, a)]) : KBinds K fd [p] [p] oneG oneG where
  to := fun s us ws _ hl => by
    match us, ws, hl with
    | [], [a], _ => exact .of_eq (h a)
    | [], [], hl => simp [oneG] at hl
    | [], _ :: _ :: _, hl => simp [oneG] at hl
    | _ :: _, _, hl => simp [oneG] at hl
  rel := oneRel
def revG {α : Type} (us ws : List α) : List α := match us, ws with
  | [], [a, b, c] => [c, b, a]
  | _, _ => []
theorem revRel {vs : List V} {us : List Value} {zs : List V} {ws : List Value} (r : Vals vs us) (q : Vals zs ws) : Vals (revG vs zs) (revG us ws) := by
  cases r with
  | cons => exact .nil
  | nil =>
    cases q with
    | nil => exact .nil
    | cons q1 q =>
      cases q with
      | nil => exact .nil
      | cons q2 q =>
        cases q with
        | nil => exact .nil
        | cons q3 q =>
          cases q with
          | nil => exact .cons q3 (.cons q2 (.cons q1 .nil))
          | cons => exact .nil
theorem kb_rev3 {K : PySem.W.Frag} {fd : FuncData} {p q t : Str} (h : ∀ a b c : Value, bindArgs fd ⟨[], [(t, a), (q, b), (p, c)]⟩ = pure [(p, c), (q, b), (t, a)]) : KBinds K fd [p, q, t] [t, q, p] revG revG where
  to := fun s us ws _ hl => by
    match us, ws, hl with
    | [], [a, b, c], _ => exact .of_eq (h a b c)
    | [], [], hl => simp [revG] at hl
    | [], [_], hl => simp [revG] at hl
    | [], [_, _], hl => simp [revG] at hl
    | [], _ :: _ :: _ :: _ :: _, hl => simp [revG] at hl
    | _ :: _, _, hl => simp [revG] at hl
  rel := revRel
/-- a def of the top, with its promise, called by keywords, too -/
def HasG (ks : List Str) (g : {α : Type} → List α → List α → List α) (P : Program) (w : World) (K : PySem.W.Frag) (mg : Str → Option Value) (base : Heap) (x : Str) (k : Nat) (ps : List Str) (sp : Sp) : Prop :=
  ∃ (f : Addr) (fd : FuncData), mg x = some (.ref f) ∧ PySem.W.keepIn K (.ref f) = true ∧ Binds K fd ps [] ∧ KBinds K fd ps ks g g ∧ FnOk P w K mg base CX0 k f fd ps sp
theorem atI_neg {α : Type} {xs : List α} {j : Nat} {v : α} (hj : j < xs.length) (e : xs[xs.length - 1 - j]? = some v) : atI xs (-1 - (j : Int)) = some v := by
  have q : ixN xs.length (-1 - (j : Int)) = some (xs.length - 1 - j) := by
    unfold ixN
    rw [if_neg (by omega), if_pos (by omega)]
    congr 1
    omega
  unfold atI
  rw [q]
  exact e
def spShared : Sp := fun vs H Q _ => ∃ (h r : List Nat), vs = [.str (T h), .str (T r)] ∧ h.length ≤ 20000 ∧ 1 ≤ r.length ∧ r.length ≤ 20000 ∧
  ∀ same : Nat, same ≤ h.length → (∀ j, j < same → h[h.length - 1 - j]? = r[r.length - 1 - j % r.length]?) → (same = h.length ∨ h[h.length - 1 - same]? ≠ r[r.length - 1 - same % r.length]?) → Q (.int (same : Int)) H
def spPlain : Sp := fun vs H Q _ => ∃ (t : Addr) (h r : List Nat), vs = [.ref t] ∧ MomAt H t h r ∧ Mom h r ∧
  ∀ b k, PlainS (val h r) b k → ∀ H' u, Same H H' → MomAt H' u (pH (val h r) b) (pR (val h r) b k) → Q (.ref u) H'
def spSignAt : Sp := fun vs H Q _ => ∃ (t : Addr) (h r : List Nat) (n : Nat), vs = [.ref t, .int (n : Int)] ∧ MomAt H t h r ∧ Mom h r ∧ Q (.str (T [val h r n])) H
def spAtLeast : Sp := fun vs H Q _ => ∃ a b : Int, vs = [.int a, .int b] ∧ b ≤ a ∧ Q .non H
def spPlaces : Sp := fun vs H Q _ => ∃ a b : Int, vs = [.int a, .int b] ∧ 0 ≤ a ∧ a ≤ b ∧ Q .non H
def spLetters : Sp := fun vs H Q _ => ∃ (t : Addr) (h r : List Nat) (lo n : Nat), vs = [.ref t, .int (lo : Int), .int ((lo + n : Nat) : Int)] ∧ MomAt H t h r ∧ Mom h r ∧ n ≤ 1000 ∧
  ∀ H', Same H H' → Q (.str (T (L n fun i => val h r (lo + i)))) H'
section
variable {P : Program} {w : World} {K : PySem.W.Frag} {mg : Str → Option Value} {base : Heap}
theorem ok_shared_end {f : Addr} {fd : FuncData} (F : Fun K "shared_end" "shared_end" s_shared_end f fd) (B : Blt mg) : FnOk P w K mg base CX0 1 f fd ["head", "ring"] spShared := by
  have sc := sc_shared_end
  refine F.ok sc (fun vs H Q E h => ?_) (fun cdv A outer s H vs Q E hr h => ?_)
  · obtain ⟨hd, r, rfl, _⟩ := h
    rfl
  · obtain ⟨hd, r, rfl, h1, h2, h3, k⟩ := h
    refine ⟨_, (pss_cons (ps_set (i := 2) sc.nd rfl (by first | exact Or.inl rfl | exact Or.inr rfl) pe_int)
    (pss_cons (ps_while PassesOwn.never (PW.pt (pw_and (pt_cmpR op_lt (pv 2) (pe_callB call_lenT (by rfl) B.len PySem.boot_len (pa_cons (pv 0) pa_nil)) (nomark _)) (pw_and1 (pt_cmpR op_eqT (pe_ix ix_T (pv 0) (pe_op op_sub (pe_un un_neg pe_int) (pv 2)) (fun _ _ => rfl)) (pe_ix ix_T (pv 1) (pe_op op_sub (pe_un un_neg pe_int) (pe_op op_mod (pv 2) (pe_callB call_lenT (by rfl) B.len PySem.boot_len (pa_cons (pv 1) pa_nil)))) (fun _ _ => rfl)) (nomark _))))) (pss_one (ps_aug (i := 2) sc.nd rfl (by first | exact Or.inl rfl | exact Or.inr rfl) pe_int ip_add)))
    (pss_one (ps_ret (pv 2))))), ?_⟩
    refine ⟨fun m σ H' => H' = H ∧ ∃ same : Nat, m = hd.length - same ∧ same ≤ hd.length ∧ (∀ j, j < same → hd[hd.length - 1 - j]? = r[r.length - 1 - j % r.length]?) ∧ σ = [some (.str (T hd)), some (.str (T r)), some (.int (same : Int))], ⟨_, rfl, 0, rfl, by omega, fun j hj => by omega, rfl⟩, ?_⟩
    rintro m σ H' ⟨rfl, same, rfl, hs, hj, rfl⟩
    refine ⟨_, rfl, _, rfl, hd, rfl, le_line (by omega), _, _, rfl, rfl, _, rfl, ?_⟩
    refine ite2 (fun c1 => ?_) (fun c1 => ?_)
    · have c2 := of_decide_eq_true c1
      have hmod : same % r.length < r.length := Nat.mod_lt _ h2
      have l1 : hd.length - 1 - same < hd.length := by omega
      have l2 : r.length - 1 - same % r.length < r.length := by omega
      refine ⟨_, rfl, _, rfl, _, rfl, _, _, rfl, rfl, hd, _, hd[hd.length - 1 - same], rfl, rfl, le_line (by omega), atI_neg (by omega) (List.getElem?_eq_getElem l1), ?_⟩
      refine ⟨_, rfl, _, rfl, _, rfl, _, rfl, r, rfl, le_line (by omega), _, _, rfl, rfl, (by show (0 : Int) < (r.length : Int); omega), _, _, rfl, rfl, r, _, r[r.length - 1 - same % r.length], rfl, rfl, le_line (by omega), ?_, ?_⟩
      · exact atI_neg (j := same % r.length) hmod (List.getElem?_eq_getElem l2)
      refine ⟨_, _, rfl, rfl, _, rfl, ?_⟩
      have e1 : hd[hd.length - 1 - same]? = some hd[hd.length - 1 - same] := List.getElem?_eq_getElem l1
      have e2 : r[r.length - 1 - same % r.length]? = some r[r.length - 1 - same % r.length] := List.getElem?_eq_getElem l2
      refine ite2 (fun c3 => ?_) (fun c3 => ?_)
      · have c4 := of_decide_eq_true c3
        have c5 : hd[hd.length - 1 - same] = r[r.length - 1 - same % r.length] := by simpa using c4
        refine ⟨fun σ' H2 => H2 = H' ∧ σ' = [some (.str (T hd)), some (.str (T r)), some (.int ((same : Int) + 1))], fun σ' H2 ⟨q1, q2⟩ => ⟨_, ?_, q1, same + 1, rfl, by omega, ?_, by rw [q2]; rfl⟩, ?_⟩
        · omega
        · intro j j1
          by_cases e : j = same
          · rw [e, e1, e2, c5]
          · exact hj j (by omega)
        · exact ⟨_, rfl, _, _, rfl, rfl, rfl, rfl⟩
      · refine ⟨_, rfl, k same hs hj (.inr fun q => c3 (decide_eq_true ?_))⟩
        rw [e1, e2] at q
        rw [Option.some.inj q]
    · refine ⟨_, rfl, k same hs hj (.inl ?_)⟩
      have : ¬ ((same : Int) < (hd.length : Int)) := fun q => c1 (decide_eq_true q)
      omega
theorem ok_plain {f : Addr} {fd : FuncData} (F : Fun K "plain" "plain" s_plain f fd) (B : Blt mg) (h_check_moment : Has P w K mg base "check_moment" 2 ["moment"] spCheckMoment) (h_shortest_ring : Has P w K mg base "shortest_ring" 1 ["ring"] spShortest)
    (h_shared_end : Has P w K mg base "shared_end" 1 ["head", "ring"] spShared) : FnOk P w K mg base CX0 3 f fd ["moment"] spPlain := by
  have sc := sc_plain
  obtain ⟨f_check_moment, fd_check_moment, mg_check_moment, kp_check_moment, b_check_moment, G_check_moment⟩ := h_check_moment
  obtain ⟨f_shortest_ring, fd_shortest_ring, mg_shortest_ring, kp_shortest_ring, b_shortest_ring, G_shortest_ring⟩ := h_shortest_ring
  obtain ⟨f_shared_end, fd_shared_end, mg_shared_end, kp_shared_end, b_shared_end, G_shared_end⟩ := h_shared_end
  refine F.ok sc (fun vs H Q E h => ?_) (fun cdv A outer s H vs Q E hr h => ?_)
  · obtain ⟨t, hd, r, rfl, _⟩ := h
    rfl
  · obtain ⟨t, hd, r, rfl, g, m, kk⟩ := h
    refine ⟨_, (pss_cons (ps_expr (pe_call G_check_moment (hr.mono (by decide)) (by rfl) mg_check_moment kp_check_moment b_check_moment .nil pass0 (pa_cons (pv 0) pa_nil)))
    (pss_cons (ps_asg (pv 0) (pg_tup (by rfl) (pgs_cons (pg_name (i := 1) sc.nd rfl (by first | exact Or.inl rfl | exact Or.inr rfl)) (pgs_cons (pg_name (i := 2) sc.nd rfl (by first | exact Or.inl rfl | exact Or.inr rfl)) pgs_nil))))
    (pss_cons (ps_set (i := 2) sc.nd rfl (by first | exact Or.inl rfl | exact Or.inr rfl) (pe_call G_shortest_ring (hr.mono (by decide)) (by rfl) mg_shortest_ring kp_shortest_ring b_shortest_ring .nil pass0 (pa_cons (pv 2) pa_nil)))
    (pss_cons (ps_set (i := 3) sc.nd rfl (by first | exact Or.inl rfl | exact Or.inr rfl) (pe_call G_shared_end (hr.mono (by decide)) (by rfl) mg_shared_end kp_shared_end b_shared_end .nil pass0 (pa_cons (pv 1) (pa_cons (pv 2) pa_nil))))
    (pss_cons (ps_set (i := 4) sc.nd rfl (by first | exact Or.inl rfl | exact Or.inr rfl) (pe_op op_sub (pe_callB call_lenT (by rfl) B.len PySem.boot_len (pa_cons (pv 2) pa_nil)) (pe_op op_mod (pv 3) (pe_callB call_lenT (by rfl) B.len PySem.boot_len (pa_cons (pv 2) pa_nil)))))
    (pss_one (ps_ret (pe_tup (pa_cons (pe_slice sl_T (pv 1) po_none (po_some (pe_op op_sub (pe_callB call_lenT (by rfl) B.len PySem.boot_len (pa_cons (pv 1) pa_nil)) (pv 3)))) (pa_cons (pe_op op_addT (pe_slice sl_T (pv 2) (po_some (pv 4)) po_none) (pe_slice sl_T (pv 2) po_none (po_some (pv 4)))) pa_nil)))))))))), ?_⟩
    have a1 := m.lh
    have a2 := m.l1
    have a3 := m.lr
    refine ⟨_, rfl, t, hd, r, rfl, g, m, ?_⟩
    refine ⟨_, rfl, t, _, rfl, g.tup, rfl, _, _, rfl, _, _, rfl, rfl, ?_⟩
    refine ⟨_, rfl, r, rfl, a2, by omega, fun k p => ?_⟩
    have hk := p.pos
    have hle := p.le
    have hl := p.len
    refine ⟨_, rfl, _, rfl, hd, r.take k, rfl, a1, by rw [hl]; exact hk, by rw [hl]; omega, fun same s1 s2 s3 => ?_⟩
    have e0 : ∀ j, j < hd.length → (hd[hd.length - 1 - j]? = (r.take k)[(r.take k).length - 1 - j % (r.take k).length]? ↔ val hd r (hd.length - 1 - j) = EE hd r k (hd.length - 1 - j)) := by
      intro j hj
      have hmod : j % k < k := Nat.mod_lt _ hk
      have v1 : hd[hd.length - 1 - j]? = some (val hd r (hd.length - 1 - j)) := by
        unfold val
        rw [if_pos (by omega), List.getD_eq_getElem?_getD, List.getElem?_eq_getElem (by omega)]
        rfl
      have v2 : (r.take k)[(r.take k).length - 1 - j % (r.take k).length]? = some (EE hd r k (hd.length - 1 - j)) := by
        rw [hl, cyc_lt (by rw [hl]; omega), p.cyc]
        congr 1
        unfold EE
        have e2 : hd.length * k = hd.length * (k - 1) + hd.length := by
          conv => lhs; rw [show k = (k - 1) + 1 by omega]
          rw [Nat.mul_succ]
        have e3 := Nat.mod_add_div j k
        rw [Nat.mul_comm] at e3
        rw [← inv_mul p.inv hd.length (k - 1 - j % k), ← inv_mul p.inv (j / k + 1) (hd.length - 1 - j + hd.length * (k - 1))]
        congr 1
        rw [Nat.succ_mul]
        omega
      rw [v1, v2]
      exact ⟨fun q => Option.some.inj q, fun q => congrArg some q⟩
    have hb : hd.length - same ≤ hd.length := by omega
    have hc : ∀ i, hd.length - same ≤ i → i < hd.length → val hd r i = EE hd r k i := by
      intro i i1 i2
      have := (e0 (hd.length - 1 - i) (by omega)).mp (s2 _ (by omega))
      rwa [show hd.length - 1 - (hd.length - 1 - i) = i by omega] at this
    have hps : PlainS (val hd r) (hd.length - same) k := by
      refine plain_of p hb hc ?_
      rcases s3 with e | e
      · exact .inl (by omega)
      · by_cases z : same < hd.length
        · refine .inr fun q => e ((e0 same z).mpr ?_)
          rwa [show hd.length - 1 - same = hd.length - same - 1 by omega]
        · exact .inl (by omega)
    refine ⟨_, rfl, r.take k, rfl, le_line (by rw [hl]; omega), _, rfl, _, rfl, r.take k, rfl, le_line (by rw [hl]; omega), _, _, rfl, rfl, (by show (0 : Int) < ((r.take k).length : Int); rw [hl]; omega), _, _, rfl, rfl, ?_⟩
    have t1 : ((hd.length : Int) - (same : Int)) = ((hd.length - same : Nat) : Int) := by omega
    have t2 : (((r.take k).length : Int) - (same : Int) % ((r.take k).length : Int)) = ((k - same % k : Nat) : Int) := by
      rw [hl]
      have := Nat.mod_lt same (show 0 < k by omega)
      omega
    refine ⟨_, rfl, _, rfl, hd, rfl, le_line (by omega), _, rfl, _, _, rfl, rfl, ((hd.length - same : Nat) : Int), congrArg V.int t1, hd, rfl, le_line (by omega), ?_⟩
    refine ⟨_, rfl, _, rfl, ((k - same % k : Nat) : Int), congrArg V.int t2, r.take k, rfl, le_line (by rw [hl]; omega), _, rfl, _, rfl, ((k - same % k : Nat) : Int), congrArg V.int t2, r.take k, rfl, le_line (by rw [hl]; omega), _, _, rfl, rfl, ?_, ?_⟩
    · rw [cut_lo, cut_hi]
      simp only [List.length_drop, List.length_take]
      exact le_line (by omega)
    refine ⟨(by show 2 ≤ sizeLine; decide), fun u hu => ?_⟩
    refine kk _ k hps _ u (Same.new hu) ?_
    have e5 := turn_L p hb hc
    rw [show hd.length - (hd.length - same) = same by omega] at e5
    show L2.upd _ _ _ _ = _
    rw [upd_same, cut_hi, cut_lo, cut_hi, e5, head_L hb]
    rfl
theorem ok_check_at_least {f : Addr} {fd : FuncData} (F : Fun K "check_at_least" "check_at_least" s_check_at_least f fd) : FnOk P w K mg base CX0 1 f fd ["number", "least"] spAtLeast := by
  have sc := sc_check_at_least
  refine F.ok sc (fun vs H Q E h => ?_) (fun cdv A outer s H vs Q E hr h => ?_)
  · obtain ⟨a, b, rfl, _⟩ := h
    rfl
  · obtain ⟨a, b, rfl, hab, k⟩ := h
    refine ⟨_, (pss_one (ps_if (pt_cmpR op_lt (pv 0) (pv 1) (nomark _)) (pss_one ps_never) pss_nil)), ?_⟩
    refine ⟨_, rfl, _, rfl, _, _, rfl, rfl, _, rfl, ?_⟩
    rw [decide_eq_false (by omega : ¬ (a < b))]
    exact iteF k
end
end HC

namespace HC
open PySem PySem.Spec PyProof.Rows L2
/-! ## defs that show containers as texts: none is being shown when they are called -/
/-- nothing is being shown -/
def Qt (A : Around) : Prop := A.guards = some []
/-- a promise that is kept wherever nothing is being shown -/
structure FnQ (P : Program) (w : World) (K : PySem.W.Frag) (mg : Str → Option Value) (base : Heap) (k : Nat) (f : Addr) (fd : FuncData) (ps : List Str) (sp : Sp) : Prop where
  len : ∀ vs H Q E, sp vs H Q E → vs.length = ps.length
  run : ∀ (A : Around), Qt A → ∀ (fr : List Env) (s : Shared) (H : Hp) (ar : Args) (us : List Value) (vs : List V) (Q : VK) (E : XK), Room k A → Env0 P w K mg base A fr s H →
    BindsTo s fd ar (ps.zip us) → Vals vs us → sp vs H Q E → codeAny (model P w) A (.call (.ref f) ar) (CR CX0 fr P w H s Q E) s
theorem FnQ.of {P : Program} {w : World} {K : PySem.W.Frag} {mg : Str → Option Value} {base : Heap} {k : Nat} {f : Addr} {fd : FuncData} {ps : List Str} {sp : Sp}
    (F : FnOk P w K mg base CX0 k f fd ps sp) : FnQ P w K mg base k f fd ps sp := ⟨F.len, fun A _ => F.run A⟩
section
variable {P : Program} {w : World} {K : PySem.W.Frag} {mg : Str → Option Value} {base : Heap}
/-- a def by its body -/
theorem fnQ {x qual : Str} {st : Stmt} {f : Addr} {fd : FuncData} {N ps : List Str} {k : Nat} {sp : Sp} (F : Fun K x qual st f fd) (S : FnScope N ps (defScope st)) (len : ∀ vs H Q E, sp vs H Q E → vs.length = ps.length)
    (hbody : ∀ (cdv : Value) (A : Around), Qt A → ∀ (fr : List Env) (s : Shared) (H : Hp) (vs : List V) (Q : VK) (E : XK),
      Room k (A.deeper (envOfC qual (defScope st) s.heap.objs.size f cdv)) → sp vs H Q E →
      ∃ t, PSs (cxOf CX0 P w K mg base N qual (defScope st) f cdv A fr s H E).nox (defBody st) t ∧ t { nx := fun _ H' => Q .non H', rt := Q } (start N vs) H) : FnQ P w K mg base (k + 1) f fd ps sp := by
  obtain ⟨oc, od, kV, doc, pm, an, cdv, ct, osl, rfl, lk, hcd⟩ := F.ex
  refine ⟨len, ?_⟩
  intro A qa fr s H ar us vs Q E room e0 bnd rel want
  have inK : K.In s.heap := fun b o e => (e0.bs b o (e0.mod.kin b o e)).1
  have many := len _ _ _ _ want
  obtain ⟨t, der, rd⟩ := hbody cdv A qa fr s H vs Q E (Room.deeper room _) want
  have kinds : ∀ y ∈ ps.zip us, (defScope st).names.lookup y.1 = some .local ∨ ((defScope st).names.lookup y.1 = some .cell ∧ ((cellsFrom (s.heap.objs.size + 1) (defScope st).names []).lookup y.1).isSome = true) := by
    rintro ⟨y, v⟩ hy
    cases S.par y (List.of_mem_zip hy).1 with
    | inl q => exact Or.inl q
    | inr q => exact Or.inr (And.intro q (PySem.W.cellsFrom_some _ _ _ (Or.inl q)))
  have nol : s.heap.NoLimit := Heap.NoLimit.keeps e0.mod.nolimit (fun b o e => (e0.bs b o e).1)
  refine codeAny_call_function (Room.depth room) (inK _ _ lk) rfl S.co S.gen rfl (PySem.W.codeRec_of inK hcd) (bnd _ _ _ _ ?_)
  refine wpAny_newFunctionEnv_cells S.kind kinds ?_
  rintro env rfl s1 into
  refine And.intro (nol.keeps into.toInCall.keep) (codeAny_func ?_)
  have J : L2.Inv (cxOf CX0 P w K mg base N qual (defScope st) f cdv A fr s H E) [] (start N vs) H s1 := inv_start S room.hd e0 many rel into
  have back : ∀ {τ : L2.St} {G : Hp} {v : V} {u : Value} {s' : Shared}, L2.Inv (cxOf CX0 P w K mg base N qual (defScope st) f cdv A fr s H E) [] τ G s' → RelV v u → Q v G → CE fr P w H s Q u s' := by
    intro τ G v u s' Z rv q
    exact Exists.intro v (Exists.intro G ⟨Z.os, Z.bare, Z.base, Z.hok, rv, q⟩)
  refine wpAny_mono (PSs.run (PSs.nox der) [] s1 (start N vs) H _ J rd) ?_ (fun _ _ z => z)
  intro flow s' fin
  cases flow with
  | ret u => exact (fun ⟨v, _, _, Z, rv, q⟩ => back Z rv q) fin
  | next => exact (fun ⟨_, _, Z, q⟩ => back (v := V.non) (u := Value.none) Z rfl q) fin
  | brk => exact (fun ⟨_, _, _, q⟩ => q.elim) fin
  | cont => exact (fun ⟨_, _, _, q⟩ => q.elim) fin
end
/-- a def of the top with such a promise -/
def HasQ (P : Program) (w : World) (K : PySem.W.Frag) (mg : Str → Option Value) (base : Heap) (x : Str) (k : Nat) (ps : List Str) (sp : Sp) : Prop :=
  ∃ (f : Addr) (fd : FuncData), mg x = some (.ref f) ∧ PySem.W.keepIn K (.ref f) = true ∧ Binds K fd ps [] ∧ FnQ P w K mg base k f fd ps sp
theorem qt_deeper {A : Around} {e : Env} (h : Qt A) : Qt (A.deeper e) := h
section
variable {X : Cx} {k : Nat} {f : Addr} {fd : FuncData} {ps : List Str} {sp : Sp} {x : Str} {p pos : Pos} {e : Expr} {es : List Expr} {t : TA}
/-- such a def is called -/
theorem pe_callQ (qa : Qt X.A) (F : FnQ X.prog X.w X.K X.mg X.base k f fd ps sp) (hr : Room k X.A) (hg : Gl X x) (hm : X.mg x = some (.ref f)) (hk : PySem.W.keepIn X.K (.ref f) = true) (hb : Binds X.K fd ps [])
    (ha : PA X (e :: es) t) (hdb : (x == ("__debug__" : Str)) = false := by decide) (he : starEach (e :: es) X.env = (false, eval e X.env) :: starEach es X.env := by rfl) (hpl : (backTo pos (starEach es X.env)).any (·.1) = false := by rfl) :
    PE X (.Call (.Name x p) (e :: es) [] pos) (tCall sp [] E0 t) := by
  constructor
  intro pins s σ H Q I h
  refine wpAny_Call_Name_kw (ld_glob I hg hm (PySem.W.callWith_K (h₀ := X.base) I.ok.mod.kin hk (thn (ha.run pos pins s σ H _ I h) ?_) he hpl) hdb)
  rintro us s1 ⟨vs, H1, I1, r, q⟩
  rw [List.append_nil] at q
  have hl : (us ++ []).length = ps.length := by
    rw [List.append_nil, ← Paired.length r]
    exact F.len _ _ _ _ q
  have bd := hb s1 us I1.kIn hl
  rw [List.append_nil] at bd
  refine And.intro I1.kIn (wpAny_call (codeAny_mono (F.run X.A qa X.stack s1 H1 ⟨us, []⟩ us vs Q E0 hr I1.env0 bd r q) ?_))
  intro res s2 fin
  match res, fin with
  | .ok (.ret u), fin => exact I1.after fin
  | .ok .next, fin => exact False.elim fin
  | .ok .brk, fin => exact False.elim fin
  | .ok .cont, fin => exact False.elim fin
  | .error _, fin => exact False.elim fin
end
end HC

namespace HC
open PySem PySem.Spec PyProof.Rows L2
theorem strT (x : Str) : x = T x.cps.toList := by
  cases x
  unfold T
  simp
/-- the text of what is nested -/
def shT (d : PyData) : List Nat := d.shown.cps.toList
section
variable {X : Cx}
theorem op_neDk {K : PySem.W.Frag} (hK : X.K = K) (hu : X.A.units + 64 < cLine) : OpR X (compareOp .NotEq) (rNeD K) := hK ▸ op_neD hu
theorem op_eqDk {K : PySem.W.Frag} (hK : X.K = K) (hu : X.A.units + 64 < cLine) : OpR X (compareOp .Eq) (rEqD K) := hK ▸ op_eqD hu
theorem op_fdivP : OpR X (binaryOp .FloorDiv) (rI CDivP fun i j => .int (i / j)) := opI fun i j _ _ _ _ _ hc q => by
  have h1 : (0 : Int) < j := hc.1
  refine floordiv_int (by omega) ?_ (.inl hc.2)
  rw [Int.fdiv_eq_ediv_of_nonneg i (by omega)]
  exact q
/-- repr of what is nested -/
theorem call_reprD {k : Nat} (qa : Qt X.A) (hr : Room k X.A) : CallR X (.builtin "repr") (fun xs H Q => ∃ (a : Addr) (d : PyData), xs = [.ref a] ∧ Dp X.K H (.ref a) d ∧ d.showable = true ∧ d.hasDict = false ∧ d.depth ≤ 10 ∧ d.shown.length ≤ sizeLine ∧ Q (.str (T (shT d))) H) := by
  intro pins s σ H xs us Q I r h
  obtain ⟨a, d, rfl, hd, h1, h2, h3, h4, q⟩ := h
  obtain ⟨u, rfl, ru⟩ := vals1 r
  cases ru
  obtain ⟨as, rd⟩ := Dp.reads I d _ _ hd rfl
  have hu := hr.units
  refine repr_of_reads' rd h1 (PyData.noDict_hsm h2) qa (by omega) (fun _ _ e => e) (fun h' u tk kp => ?_) h4
  rw [← show d.shown = T (shT d) from strT _] at q
  exact ⟨.str d.shown, H, I.kept (t' := tk) kp, ⟨u, rfl⟩, q⟩
end
/-! ## int(text, 2), long texts -/
namespace B2
open PySem.NumText PySem.Calls
theorem read2L {l : List Nat} (m : Nat) (h : Bin l) (h0 : l ≠ []) : (int_private% "readNumeral") m 2 l = (int_private% "Numeral.value") ((num l : Nat) : Int) := by
  refine (readNumeral_eq m 2 l).trans ?_
  rw [noBlank h, noSign h]
  show judge m false (based 2 l).1 (based 2 l).2.1 (digits? (based 2 l).1 (((based 2 l).2.2.reverse.dropWhile blank).reverse)) = (int_private% "Numeral.value") _
  rw [based2 h]
  show judge m false 2 false (digits? 2 ((l.reverse.dropWhile blank).reverse)) = (int_private% "Numeral.value") _
  rw [noBlank (bin_rev h), List.reverse_reverse, digs h h0]
  show (int_private% "Numeral.value") ((sm (pu l #[]) : Nat) : Int) = (int_private% "Numeral.value") ((num l : Nat) : Int)
  rw [pu_num]
  have : sm (#[] : Array Nat) = 0 := rfl
  rw [this, Nat.zero_mul, Nat.zero_add]
end B2
end HC

namespace HC
open PySem PySem.Spec PyProof.Rows L2
namespace B2
open PySem.NumText PySem.Calls
theorem wp_digits {M : Model} {A : Around} {E : Value → Shared → Prop} {h : Heap} {g : Array GenState} {d : Drawn} {t : Nat} {os : OsState} {Q : Nat → Shared → Prop} (D : PySem.W.Looks M h (nsGet cStatics "sys.int_max_str_digits") none)
    (q : Q 4300 ⟨h, g, d, t, os⟩) : wpAny M A Builtin.intMaxStrDigits Q E ⟨h, g, d, t, os⟩ := by
  unfold Builtin.intMaxStrDigits
  exact wpAny_bind (D.at (wpAny_pure q))
theorem wp_textL {M : Model} {A : Around} {E : Value → Shared → Prop} {s : Shared} {Q : Value → Shared → Prop} {v : Value} {text : List Nat} {n : Int} (D : PySem.W.Looks M s.heap (nsGet cStatics "sys.int_max_str_digits") none)
    (hr : ∀ m, (int_private% "readNumeral") m 2 (text.takeWhile (· != 0)) = (int_private% "Numeral.value") n)
    (ha : ((text.takeWhile (· != 0)).length == text.length) = true) (h : Q (.int n s.toks) { s with toks := s.toks + 1 }) :
    wpAny M A ((int_private% "intFromText") v text 2) Q E s := by
  by_cases hs : (text.takeWhile (· != 0)).length ≤ 640
  · exact L2.Hx.wp_textB hs (hr 0) ha h
  · obtain ⟨hp, g, d, tk, os⟩ := s
    have hr2 := hr 4300
    repeat (any_goals (first
      | assumption
      | (with_reducible refine wpAny_ite_false (by simpa using hs) ?_)
      | (with_reducible refine wp_digits D ?_)
      | (with_reducible refine wpAny_ite_true (decide_eq_true ha) ?_)
      | wp_step))
    all_goals (try rw [hr2])
    all_goals (try dsimp only)
    repeat (any_goals (first
      | assumption
      | (with_reducible refine wpAny_ite_true (decide_eq_true ha) ?_)
      | wp_step))
/-- what int(text, 2) asks and gives -/
def S2 (l : List Nat) : PySem.Spec := fun _ R s => (∀ M : Model, PySem.W.Looks M s.heap (nsGet cStatics "sys.int_max_str_digits") none) ∧ R (.ok (.ret (.int ((num l : Nat) : Int) s.toks))) { s with toks := s.toks + 1 }
theorem meets2 {l : List Nat} {u t : Tok} (h : Bin l) (h0 : l ≠ []) : Meets (Builtin.«int.__new__» ⟨[.type "int", .str (T l) u, .int 2 t], []⟩) (S2 l) := by
  intro prog w A R s hq
  obtain ⟨h1, g1, d1, k1, o1⟩ := s
  obtain ⟨D, hQ⟩ := hq
  have D2 := D (model prog w)
  have f1 := F.conv_sub_int
  have f2 := F.madeHere_int
  have f6 : typeOf (.str (T l) u) = pure (.type "str") := rfl
  obtain ⟨e1, e2⟩ := seen2 h
  have q2 : ∀ m, (int_private% "readNumeral") m 2 (numSeenOf (T l)) = (int_private% "Numeral.value") ((num l : Nat) : Int) := by
    intro m
    rw [e2]
    exact read2L m h h0
  have q3 : ((numSeenOf (T l)).length == (numTextOf (T l)).length) = true := by
    rw [e1, e2]
    exact beq_self_eq_true _
  have hk := L2.Hx.Hid.mk (And.intro q2 q3)
  clear q2 q3 e1 e2 h h0 D
  repeat (any_goals (first
    | assumption
    | ((with_reducible show wpAny _ _ ((int_private% "intFromText") _ _ _) _ _ _); refine wp_textL D2 hk.out.1 hk.out.2 ?_)
    | wp_step))
theorem callL {prog : Program} {w : World} {A : Around} {E : Value → Shared → Prop} {s : Shared} {Q : Value → Shared → Prop} {l : List Nat} {u t : Tok} (h : Bin l) (h0 : l ≠ [])
    (D : ∀ M : Model, PySem.W.Looks M s.heap (nsGet cStatics "sys.int_max_str_digits") none)
    (hQ : Q (.int ((num l : Nat) : Int) s.toks) { s with toks := s.toks + 1 }) : wpAny (model prog w) A (call (.type "int") [.str (T l) u, .int 2 t]) Q E s :=
  callType_new F.called_int F.newNe_int (L2.Hx.typeCall_int_2 _ _) (L2.Hx.newCall_int_2 _ _) (fun obj => F.initArgs_range_2 obj _ _) F.entry_int_new (meets2 h h0) ⟨D, rfl, hQ⟩
end B2
theorem call_int2b {X : Cx} (dg : PySem.W.nsIn X.K cStatics "sys.int_max_str_digits" = some none) : CallR X (.type "int") (fun xs H Q => ∃ l : List Nat, xs = [.str (T l), .int 2] ∧ l ≠ [] ∧ Bin l ∧ Q (.int ((num l : Nat) : Int)) H) := by
  intro pn s σ H xs us Q I r h
  obtain ⟨l, rfl, h0, hb, q⟩ := h
  cases r with | cons ra rb => cases rb with | cons rc rd =>
    cases rd
    obtain ⟨ta1, rfl⟩ := ra
    obtain ⟨tb1, rfl⟩ := rc
    exact B2.callL hb h0 (fun M => PySem.W.looks_nsIn I.kIn dg) ⟨.int ((num l : Nat) : Int), H, I.tok _, ⟨_, rfl⟩, q⟩
end HC

namespace HC
open PySem PySem.Spec PyProof.Rows L2
/-! ## division by halves -/
def Rs (t b : Nat) : Nat → Nat
  | 0 => t
  | i + 1 => (Rs t b i * 2) % b
def Ds (t b i : Nat) : Nat := (Rs t b i * 2) / b
def DD (t b i : Nat) : Nat := 48 + Ds t b i
theorem Rs_lt {t b : Nat} (h : t < b) : ∀ i, Rs t b i < b
  | 0 => h
  | i + 1 => Nat.mod_lt _ (by omega)
theorem Ds_le {t b : Nat} (h : t < b) (i : Nat) : Ds t b i ≤ 1 := by
  have := Rs_lt h i
  unfold Ds
  have h2 : Rs t b i * 2 / b < 2 := Nat.div_lt_of_lt_mul (by rw [Nat.mul_comm]; omega)
  omega
theorem Rs_tail (t b i : Nat) : ∀ m, Rs t b (i + m) = Rs (Rs t b i) b m
  | 0 => rfl
  | m + 1 => by
    show (Rs t b (i + m) * 2) % b = (Rs (Rs t b i) b m * 2) % b
    rw [Rs_tail t b i m]
theorem DD_tail (t b i m : Nat) : DD t b (i + m) = DD (Rs t b i) b m := by
  unfold DD Ds
  rw [Rs_tail]
theorem L_snoc4 (n : Nat) (f : Nat → Nat) : L (n + 1) f = L n f ++ [f n] := by
  unfold L
  rw [List.range_succ, List.map_append]
  rfl
theorem num_D (t b : Nat) : ∀ m, t * 2 ^ m = num (L m (DD t b)) * b + Rs t b m
  | 0 => by show t * 1 = 0 * b + t; omega
  | m + 1 => by
    have ih := num_D t b m
    rw [L_snoc4, num_app]
    have e1 : num [DD t b m] = Ds t b m := by
      show (48 + Ds t b m - 48) * 2 ^ 0 + 0 = _
      simp
    have e2 : b * (Rs t b m * 2 / b) + Rs t b m * 2 % b = Rs t b m * 2 := Nat.div_add_mod _ _
    rw [e1]
    show t * 2 ^ (m + 1) = (num (L m (DD t b)) * 2 ^ 1 + Ds t b m) * b + (Rs t b m * 2) % b
    rw [Nat.pow_succ, ← Nat.mul_assoc, ih, Nat.add_mul, Nat.add_mul, Nat.pow_one]
    have e3 : Ds t b m * b = b * (Rs t b m * 2 / b) := Nat.mul_comm _ _
    have e4 : num (L m (DD t b)) * b * 2 = num (L m (DD t b)) * 2 * b := Nat.mul_right_comm _ _ _
    omega
theorem Rs_digits {t u b : Nat} (ht : t < b) (hu : u < b) (h : ∀ i, DD t b i = DD u b i) : t = u := by
  have key : ∀ {x y : Nat}, x < b → y < b → (∀ i, DD x b i = DD y b i) → ¬ x < y := by
    intro x y hx hy h lt
    have h1 := num_D x b b
    have h2 := num_D y b b
    have e : L b (DD x b) = L b (DD y b) := L_eq.mpr fun i _ => h i
    rw [e] at h1
    have l1 := Rs_lt hy b
    have h3 : (x + 1) * 2 ^ b ≤ y * 2 ^ b := Nat.mul_le_mul_right _ lt
    rw [Nat.add_mul, Nat.one_mul] at h3
    have h4 : b < 2 ^ b := Nat.lt_two_pow_self
    omega
  rcases Nat.lt_trichotomy t u with q | q | q
  · exact absurd q (key ht hu h)
  · exact q
  · exact absurd q (key hu ht fun i => (h i).symm)
/-- the first rest that occurs again: it was there at j -/
structure FR (t b i j : Nat) : Prop where
  lt : j < i
  eq : Rs t b i = Rs t b j
  inj : ∀ x y, x < y → y < i → Rs t b x ≠ Rs t b y
theorem FR.uniq {t b i j i2 j2 : Nat} (p : FR t b i j) (q : FR t b i2 j2) : i = i2 ∧ j = j2 := by
  have key : ∀ {i j i2 j2 : Nat}, FR t b i j → FR t b i2 j2 → ¬ i < i2 := fun p q h => q.inj _ _ p.lt h p.eq.symm
  have e : i = i2 := by
    rcases Nat.lt_trichotomy i i2 with h | h | h
    · exact absurd h (key p q)
    · exact h
    · exact absurd h (key q p)
  subst e
  refine ⟨rfl, ?_⟩
  rcases Nat.lt_trichotomy j j2 with h | h | h
  · exact absurd (p.eq.symm.trans q.eq) (p.inj _ _ h q.lt)
  · exact h
  · exact absurd (q.eq.symm.trans p.eq) (p.inj _ _ h p.lt)
theorem pigeon : ∀ (b n : Nat) (f : Nat → Nat), (∀ x, x < n → f x < b) → (∀ x y, x < y → y < n → f x ≠ f y) → n ≤ b
  | 0, n, f, h, _ => by
    rcases Nat.eq_zero_or_pos n with e | e
    · omega
    · exact absurd (h 0 e) (Nat.not_lt_zero _)
  | b + 1, 0, f, _, _ => by omega
  | b + 1, n + 1, f, h, hi => by
    -- leave out the place of f n
    have := pigeon b n (fun x => if f x < f n then f x else f x - 1) (fun x hx => by
      have h1 := h x (by omega)
      have h2 := h n (by omega)
      have h3 := hi x n hx (by omega)
      show (if f x < f n then f x else f x - 1) < b
      split <;> omega) (fun x y hxy hy => by
      have h1 := hi x y hxy (by omega)
      have h2 := hi x n (by omega) (by omega)
      have h3 := hi y n hy (by omega)
      show (if f x < f n then f x else f x - 1) ≠ (if f y < f n then f y else f y - 1)
      split <;> split <;> omega)
    omega
theorem FR.per {t b i j : Nat} (p : FR t b i j) {x : Nat} (hx : j ≤ x) : ∀ n, Rs t b (x + n * (i - j)) = Rs t b x
  | 0 => by rw [Nat.zero_mul, Nat.add_zero]
  | n + 1 => by
    have hl := p.lt
    rw [Nat.succ_mul, ← Nat.add_assoc]
    have e : ∀ z, j ≤ z → Rs t b (z + (i - j)) = Rs t b z := fun z hz => by
      rw [show z + (i - j) = i + (z - j) by omega, Rs_tail, p.eq, ← Rs_tail, show j + (z - j) = z by omega]
    rw [e _ (by omega), p.per hx n]
theorem FR.key {t b i j x y : Nat} (p : FR t b i j) (hxy : x < y) (he : Rs t b x = Rs t b y) : j ≤ x ∧ (i - j) ∣ (y - x) := by
  have hl := p.lt
  have hk : 0 < i - j := by omega
  have c : ∀ z, ∃ w, w < i ∧ Rs t b w = Rs t b z ∧ (z < j → w = z) ∧ (j ≤ z → w = j + (z - j) % (i - j)) := by
    intro z
    by_cases h : z < j
    · exact ⟨z, by omega, rfl, fun _ => rfl, fun q => by omega⟩
    · refine ⟨j + (z - j) % (i - j), ?_, ?_, fun q => absurd q h, fun _ => rfl⟩
      · have := Nat.mod_lt (z - j) hk
        omega
      · have h1 := Nat.mod_add_div (z - j) (i - j)
        rw [Nat.mul_comm] at h1
        have h2 := p.per (x := j + (z - j) % (i - j)) (by omega) ((z - j) / (i - j))
        rw [show j + (z - j) % (i - j) + (z - j) / (i - j) * (i - j) = z by omega] at h2
        exact h2.symm
  obtain ⟨u, u1, u2, u3, u4⟩ := c x
  obtain ⟨v, v1, v2, v3, v4⟩ := c y
  have e : u = v := by
    have e2 : Rs t b u = Rs t b v := u2.trans (he.trans v2.symm)
    rcases Nat.lt_trichotomy u v with q | q | q
    · exact absurd e2 (p.inj _ _ q v1)
    · exact q
    · exact absurd e2.symm (p.inj _ _ q u1)
  by_cases hx : x < j
  · have h1 := u3 hx
    by_cases hy : y < j
    · have := v3 hy
      omega
    · have := v4 (by omega)
      omega
  · have h1 := u4 (by omega)
    have h2 := v4 (by omega)
    refine ⟨by omega, ?_⟩
    have h3 : (y - j) % (i - j) = (x - j) % (i - j) := by omega
    have h4 := Nat.sub_mod_eq_zero_of_mod_eq h3
    rw [show y - j - (x - j) = y - x by omega] at h4
    exact Nat.dvd_of_mod_eq_zero h4
theorem FR.plain {t b i j : Nat} (p : FR t b i j) (ht : t < b) : PlainS (DD t b) j (i - j) := by
  have hl := p.lt
  have rep : ∀ b2 k2, CC (DD t b) b2 k2 → Rs t b b2 = Rs t b (b2 + k2) := by
    intro b2 k2 c
    refine Rs_digits (Rs_lt ht _) (Rs_lt ht _) fun m => ?_
    rw [← DD_tail, ← DD_tail, show b2 + k2 + m = b2 + m + k2 by omega, c _ (by omega)]
  refine ⟨by omega, fun x hx => ?_, fun b2 k2 h1 c => ?_, fun b2 c => ?_⟩
  · have := p.per hx 1
    rw [Nat.one_mul] at this
    unfold DD Ds
    rw [this]
  · exact Nat.le_of_dvd h1 (by have := (p.key (show b2 < b2 + k2 by omega) (rep b2 k2 c)).2; rwa [show b2 + k2 - b2 = k2 by omega] at this)
  · exact (p.key (show b2 < b2 + (i - j) by omega) (rep b2 _ c)).1
theorem DD_bin {t b : Nat} (ht : t < b) (i : Nat) : DD t b i = 48 ∨ DD t b i = 49 := by
  have := Ds_le ht i
  unfold DD
  omega
theorem FR.val {t b i j : Nat} (p : FR t b i j) : VT (L j (DD t b)) (L (i - j) fun m => DD t b (j + m)) * b = t * VB (L j (DD t b)) (L (i - j) fun m => DD t b (j + m)) := by
  have hl := p.lt
  have h1 := num_D t b j
  have h2 := num_D (Rs t b j) b (i - j)
  rw [← Rs_tail, show j + (i - j) = i by omega, p.eq] at h2
  have e : (L (i - j) fun m => DD t b (j + m)) = L (i - j) (DD (Rs t b j) b) := L_eq.mpr fun m _ => DD_tail t b j m
  rw [e]
  unfold VT VB WW
  rw [L_len, L_len]
  have hp : 1 ≤ 2 ^ (i - j) := Nat.pow_pos (by decide)
  generalize num (L j (DD t b)) = nh at *
  generalize num (L (i - j) (DD (Rs t b j) b)) = nr at *
  generalize Rs t b j = R at *
  have h3 : R * (2 ^ (i - j) - 1) = nr * b := by
    rw [Nat.mul_sub, Nat.mul_one]
    omega
  generalize 2 ^ (i - j) - 1 = W at *
  calc (nh * W + nr) * b = nh * W * b + R * W := by rw [Nat.add_mul, h3]
    _ = (nh * b + R) * W := by rw [Nat.add_mul, Nat.mul_right_comm]
    _ = t * 2 ^ j * W := by rw [← h1]
    _ = t * (W * 2 ^ j) := by rw [Nat.mul_assoc, Nat.mul_comm W]
theorem pow2_of_dvd : ∀ (j x : Nat), x ∣ 2 ^ j → ∃ e, x = 2 ^ e
  | 0, x, h => ⟨0, Nat.dvd_one.mp h⟩
  | j + 1, x, h => by
    by_cases h2 : 2 ∣ x
    · obtain ⟨y, rfl⟩ := h2
      rw [Nat.pow_succ, Nat.mul_comm (2 ^ j)] at h
      obtain ⟨e, rfl⟩ := pow2_of_dvd j y (Nat.dvd_of_mul_dvd_mul_left (by decide : 0 < 2) h)
      exact ⟨e + 1, by rw [Nat.pow_succ, Nat.mul_comm]⟩
    · have hc : Nat.Coprime x 2 := by
        have h3 : Nat.gcd x 2 ∣ 2 := Nat.gcd_dvd_right _ _
        have h4 : Nat.gcd x 2 ≤ 2 := Nat.le_of_dvd (by decide) h3
        have h5 : 0 < Nat.gcd x 2 := Nat.gcd_pos_of_pos_right _ (by decide)
        have h6 : Nat.gcd x 2 ≠ 2 := fun q => h2 (by rw [← q]; exact Nat.gcd_dvd_left _ _)
        show Nat.gcd x 2 = 1
        omega
      rw [Nat.pow_succ] at h
      exact pow2_of_dvd j x (hc.dvd_of_dvd_mul_right h)
/-- in lowest terms there is one fraction -/
theorem lowest {p q t b : Nat} (hc : Nat.gcd p q = 1) (hq : 1 ≤ q) (hb : 1 ≤ b) (h : p * b = t * q) : p = t / Nat.gcd t b ∧ q = b / Nat.gcd t b := by
  have hg : 0 < Nat.gcd t b := Nat.gcd_pos_of_pos_right _ hb
  have c1 : Nat.Coprime q p := by rw [Nat.coprime_comm]; exact hc
  have d1 : q ∣ b := c1.dvd_of_dvd_mul_left (by rw [h]; exact Nat.dvd_mul_left _ _)
  obtain ⟨g, rfl⟩ := d1
  have hg0 : 0 < g := Nat.pos_of_ne_zero fun e => by rw [e] at hb; simp at hb
  have e1 : p * g = t := by
    refine Nat.eq_of_mul_eq_mul_right (Nat.pos_of_ne_zero (by omega) : 0 < q) ?_
    rw [← h, Nat.mul_assoc, Nat.mul_comm g]
  subst e1
  have e2 : Nat.gcd (p * g) (q * g) = g := by rw [Nat.gcd_mul_right, hc, Nat.one_mul]
  rw [e2, Nat.mul_div_cancel _ hg0, Nat.mul_div_cancel _ hg0]
  exact ⟨rfl, rfl⟩
theorem FR.half {t b i j : Nat} (p : FR t b i j) (h0 : 0 < t) (ht : t < b) (hb : b ≤ 10000) : (i - j = 1 ∧ DD t b j = 48) ↔ (b / Nat.gcd t b) ∣ 8192 := by
  have hl := p.lt
  have hg : 0 < Nat.gcd t b := Nat.gcd_pos_of_pos_left _ h0
  have ht2 : t / Nat.gcd t b * Nat.gcd t b = t := Nat.div_mul_cancel (Nat.gcd_dvd_left t b)
  have hb2 : b / Nat.gcd t b * Nat.gcd t b = b := Nat.div_mul_cancel (Nat.gcd_dvd_right t b)
  have cop : Nat.Coprime (t / Nat.gcd t b) (b / Nat.gcd t b) := Nat.coprime_div_gcd_div_gcd hg
  have bpos : 0 < b := by omega
  constructor
  · rintro ⟨k1, d0⟩
    have r0 : Rs t b j = 0 := by
      have e1 : Rs t b j = (Rs t b j * 2) % b := by
        have := p.eq
        rw [show i = j + 1 by omega] at this
        exact this.symm
      have e2 : Rs t b j * 2 / b = 0 := by
        unfold DD Ds at d0
        omega
      have e3 := Nat.div_add_mod (Rs t b j * 2) b
      rw [e2, Nat.mul_zero] at e3
      omega
    have e4 := num_D t b j
    rw [r0, Nat.add_zero] at e4
    have d1 : b / Nat.gcd t b ∣ t / Nat.gcd t b * 2 ^ j := by
      refine Nat.dvd_of_mul_dvd_mul_right hg ?_
      rw [hb2, Nat.mul_right_comm, ht2, e4]
      exact Nat.dvd_mul_left _ _
    have d2 : b / Nat.gcd t b ∣ 2 ^ j := cop.symm.dvd_of_dvd_mul_left d1
    obtain ⟨e, he⟩ := pow2_of_dvd j _ d2
    have hle : b / Nat.gcd t b ≤ b := Nat.div_le_self _ _
    have he14 : e < 14 := by
      refine Nat.lt_of_not_le fun q => ?_
      have : 2 ^ 14 ≤ 2 ^ e := Nat.pow_le_pow_right (by decide) q
      omega
    rw [he]
    exact (Nat.pow_dvd_pow_iff_le_right (by decide : 1 < 2)).mpr (by omega : e ≤ 13)
  · intro hd
    have d1 : b ∣ t * 2 ^ 13 := by
      have h1 : b / Nat.gcd t b * Nat.gcd t b ∣ 8192 * t := Nat.mul_dvd_mul hd (Nat.gcd_dvd_left t b)
      rw [hb2, Nat.mul_comm] at h1
      exact h1
    have e1 := num_D t b 13
    have r13 : Rs t b 13 = 0 := by
      have h1 := Rs_lt ht 13
      rw [e1] at d1
      have h2 : b ∣ Rs t b 13 := (Nat.dvd_add_right (Nat.dvd_mul_left _ _)).mp d1
      rcases Nat.eq_zero_or_pos (Rs t b 13) with q | q
      · exact q
      · have := Nat.le_of_dvd q h2
        omega
    have r14 : Rs t b 14 = 0 := by
      show (Rs t b 13 * 2) % b = 0
      rw [r13, Nat.zero_mul, Nat.zero_mod]
    obtain ⟨k1, k2⟩ := p.key (show 13 < 14 by decide) (r13.trans r14.symm)
    have k3 := Nat.le_of_dvd (by decide) k2
    have k4 : i - j = 1 := by omega
    have rj : Rs t b j = 0 := by
      have := p.per (Nat.le_refl j) (13 - j)
      rw [k4, Nat.mul_one, show j + (13 - j) = 13 by omega, r13] at this
      exact this.symm
    refine ⟨k4, ?_⟩
    unfold DD Ds
    rw [rj, Nat.zero_mul, Nat.zero_div]
end HC

namespace HC
open PySem PySem.Spec PyProof.Rows L2
abbrev s_number_of : Stmt := top 18
abbrev N_number_of : List Str := ["word"]
theorem sc_number_of : FnScope N_number_of ["word"] (defScope s_number_of) := ⟨rfl, rfl, rfl, by decide +kernel, rfl, by decide +kernel, by decide +kernel⟩

abbrev s_ratio : Stmt := top 12
abbrev N_ratio : List Str := ["top", "bottom", "common"]
theorem sc_ratio : FnScope N_ratio ["top", "bottom"] (defScope s_ratio) := ⟨rfl, rfl, rfl, by decide +kernel, rfl, by decide +kernel, by decide +kernel⟩

abbrev s_value : Stmt := top 17
abbrev N_value : List Str := ["moment", "head", "ring", "whole"]
theorem sc_value : FnScope N_value ["moment"] (defScope s_value) := ⟨rfl, rfl, rfl, by decide +kernel, rfl, by decide +kernel, by decide +kernel⟩

theorem lt_pow2 {a b n : Nat} (h : a < 2 ^ b) (hb : b ≤ n) : a < 2 ^ n := Nat.lt_of_lt_of_le h (Nat.pow_le_pow_right (by decide) hb)
/-- how many bits a number has -/
theorem bits_mul {g q n : Nat} (hg : 0 < g) (hq : q < 2 ^ n) : Builtin.Int.intBits ((g * q : Nat) : Int) ≤ Builtin.Int.intBits ((g : Nat) : Int) + n := by
  have h1 : g < 2 ^ Builtin.Int.intBits ((g : Nat) : Int) := by
    unfold Builtin.Int.intBits
    rw [if_neg (by simp; omega)]
    exact Nat.lt_log2_self
  refine PyProof.Rows.intBits_le ?_
  rw [Int.natAbs_natCast, Nat.pow_add]
  exact Nat.mul_lt_mul'' h1 hq
theorem divp_nat {g q : Nat} (hg : 0 < g) (hq : q < 2 ^ 4000) : CDivP ((g * q : Nat) : Int) ((g : Nat) : Int) := divp_ok (by omega) (bits_mul hg hq)
def spNumberOf : Sp := fun vs H Q _ => ∃ l : List Nat, vs = [.str (T l)] ∧ Bin l ∧ l.length ≤ 30000 ∧ Q (.int ((num l : Nat) : Int)) H
/-- top / bottom, both a common factor times terms that have none in common -/
def spRatio : Sp := fun vs H Q _ => ∃ g p q : Nat, vs = [.int ((g * p : Nat) : Int), .int ((g * q : Nat) : Int)] ∧ 0 < g ∧ Nat.gcd p q = 1 ∧ p < 2 ^ 4000 ∧ q < 2 ^ 4000 ∧
  ∀ H' u, Same H H' → H' u = some (.tup [.int ((p : Nat) : Int), .int ((q : Nat) : Int)]) → Q (.ref u) H'
/-- the value: its lowest terms; a fraction with small terms is given -/
def spValue : Sp := fun vs H Q _ => ∃ (t : Addr) (h r : List Nat) (a b : Nat), vs = [.ref t] ∧ MomAt H t h r ∧ Mom h r ∧ 1 ≤ b ∧ b < 2 ^ 1000 ∧ a * VB h r = b * VT h r ∧
  ∀ H' u, Same H H' → H' u = some (.tup [.int ((a / Nat.gcd a b : Nat) : Int), .int ((b / Nat.gcd a b : Nat) : Int)]) → Q (.ref u) H'
section
variable {P : Program} {w : World} {K : PySem.W.Frag} {mg : Str → Option Value} {base : Heap}
theorem ok_number_of {f : Addr} {fd : FuncData} (F : Fun K "number_of" "number_of" s_number_of f fd) (B : Blt mg) (dg : PySem.W.nsIn K cStatics "sys.int_max_str_digits" = some none) : FnOk P w K mg base CX0 1 f fd ["word"] spNumberOf := by
  have sc := sc_number_of
  refine F.ok sc (fun vs H Q E h => ?_) (fun cdv A outer s H vs Q E hr h => ?_)
  · obtain ⟨l, rfl, _⟩ := h
    rfl
  · obtain ⟨l, rfl, hb, hl, k⟩ := h
    refine ⟨_, (pss_one (ps_ret (pe_callTy (call_int2b dg) (by rfl) B.int (by decide +kernel) (pa_cons (pe_op op_addT (pe_strT [48] (by decide +kernel)) (pv 0)) (pa_cons pe_int pa_nil))))), ?_⟩
    refine ⟨_, rfl, [48], l, rfl, rfl, le_line (by show 1 + _ ≤ _; omega), 48 :: l, rfl, by simp, ?_, ?_⟩
    · intro c hc
      rcases List.mem_cons.mp hc with e | e
      · exact .inl e
      · exact hb c e
    · have : num (48 :: l) = num l := by
        show 0 * _ + num l = num l
        rw [Nat.zero_mul, Nat.zero_add]
      rw [this]
      exact k
theorem ok_ratio {f : Addr} {fd : FuncData} (F : Fun K "ratio" "ratio" s_ratio f fd) (mg_gcd : mg "gcd" = some (.builtin "math.gcd")) : FnOk P w K mg base CX0 1 f fd ["top", "bottom"] spRatio := by
  have sc := sc_ratio
  refine F.ok sc (fun vs H Q E h => ?_) (fun cdv A outer s H vs Q E hr h => ?_)
  · obtain ⟨g, p, q, rfl, _⟩ := h
    rfl
  · obtain ⟨g, p, q, rfl, hg, hc, hp, hq, k⟩ := h
    refine ⟨_, (pss_cons (ps_set (i := 2) sc.nd rfl (by first | exact Or.inl rfl | exact Or.inr rfl) (pe_callBfun cr_gcd (by rfl) mg_gcd (pa_cons (pv 0) (pa_cons (pv 1) pa_nil))))
    (pss_one (ps_ret (pe_tup (pa_cons (pe_op op_fdivP (pv 0) (pv 2)) (pa_cons (pe_op op_fdivP (pv 1) (pv 2)) pa_nil)))))), ?_⟩
    refine ⟨_, rfl, _, rfl, ((g * p : Nat) : Int), ((g * q : Nat) : Int), rfl, ?_⟩
    rw [Int.natAbs_natCast, Int.natAbs_natCast, Nat.gcd_mul_left, hc, Nat.mul_one]
    refine ⟨_, rfl, _, rfl, ((g * p : Nat) : Int), ((g : Nat) : Int), rfl, rfl, divp_nat hg hp, _, rfl, _, rfl, ((g * q : Nat) : Int), ((g : Nat) : Int), rfl, rfl, divp_nat hg hq, (by show 2 ≤ sizeLine; decide), fun u hu => ?_⟩
    refine k _ u (Same.new hu) ?_
    rw [upd_same]
    show some (HO.tup [V.int (((g * p : Nat) : Int) / ((g : Nat) : Int)), V.int (((g * q : Nat) : Int) / ((g : Nat) : Int))]) = _
    rw [← Int.natCast_ediv, ← Int.natCast_ediv, Nat.mul_div_cancel_left _ hg, Nat.mul_div_cancel_left _ hg]
theorem ok_value {f : Addr} {fd : FuncData} (F : Fun K "value" "value" s_value f fd) (B : Blt mg) (h_ratio : Has P w K mg base "ratio" 1 ["top", "bottom"] spRatio) (h_check_moment : Has P w K mg base "check_moment" 2 ["moment"] spCheckMoment) (h_number_of : Has P w K mg base "number_of" 1 ["word"] spNumberOf) :
    FnOk P w K mg base CX0 3 f fd ["moment"] spValue := by
  have sc := sc_value
  obtain ⟨f_check_moment, fd_check_moment, mg_check_moment, kp_check_moment, b_check_moment, G_check_moment⟩ := h_check_moment
  obtain ⟨f_ratio, fd_ratio, mg_ratio, kp_ratio, b_ratio, G_ratio⟩ := h_ratio
  obtain ⟨f_number_of, fd_number_of, mg_number_of, kp_number_of, b_number_of, G_number_of⟩ := h_number_of
  refine F.ok sc (fun vs H Q E h => ?_) (fun cdv A outer s H vs Q E hr h => ?_)
  · obtain ⟨t, hd, r, a, b, rfl, _⟩ := h
    rfl
  · obtain ⟨t, hd, r, a, b, rfl, g, m, hb1, hb2, hab, k⟩ := h
    refine ⟨_, (pss_cons (ps_expr (pe_call G_check_moment (hr.mono (by decide)) (by rfl) mg_check_moment kp_check_moment b_check_moment .nil pass0 (pa_cons (pv 0) pa_nil)))
    (pss_cons (ps_asg (pv 0) (pg_tup (by rfl) (pgs_cons (pg_name (i := 1) sc.nd rfl (by first | exact Or.inl rfl | exact Or.inr rfl)) (pgs_cons (pg_name (i := 2) sc.nd rfl (by first | exact Or.inl rfl | exact Or.inr rfl)) pgs_nil))))
    (pss_cons (ps_set (i := 3) sc.nd rfl (by first | exact Or.inl rfl | exact Or.inr rfl) (pe_op op_sub (pe_op op_shlN pe_int (pe_callB call_lenT (by rfl) B.len PySem.boot_len (pa_cons (pv 2) pa_nil))) pe_int))
    (pss_one (ps_ret (pe_call G_ratio (hr.mono (by decide)) (by rfl) mg_ratio kp_ratio b_ratio .nil pass0 (pa_cons (pe_op op_add (pe_op op_mulW (pe_call G_number_of (hr.mono (by decide)) (by rfl) mg_number_of kp_number_of b_number_of .nil pass0 (pa_cons (pv 1) pa_nil)) (pv 3)) (pe_call G_number_of (hr.mono (by decide)) (by rfl) mg_number_of kp_number_of b_number_of .nil pass0 (pa_cons (pv 2) pa_nil))) (pa_cons (pe_op op_shlN (pv 3) (pe_callB call_lenT (by rfl) B.len PySem.boot_len (pa_cons (pv 1) pa_nil))) pa_nil)))))))), ?_⟩
    have a1 := m.lh
    have a2 := m.l1
    have a3 := m.lr
    have p0 : 1 ≤ 2 ^ r.length := Nat.pow_pos (by decide)
    have hW : WW r < 2 ^ 20000 := lt_pow2 (b := r.length) (by unfold WW; omega) a3
    have hn : num hd < 2 ^ 20000 := lt_pow2 (num_lt m.bh) a1
    have hVB := VB_pos (h := hd) a2
    refine ⟨_, rfl, t, hd, r, rfl, g, m, ?_⟩
    refine ⟨_, rfl, t, _, rfl, g.tup, rfl, _, _, rfl, _, _, rfl, rfl, ?_⟩
    have eW : (1 : Int) * 2 ^ r.length - 1 = ((WW r : Nat) : Int) := by
      rw [Int.one_mul]
      unfold WW
      rw [Int.ofNat_sub p0]
      simp
    refine ⟨_, rfl, r, rfl, le_line (by omega), _, r.length, rfl, rfl, shl_ok (n := 1) (by decide) (by omega), _, _, rfl, rfl, ?_⟩
    refine ⟨_, rfl, hd, rfl, m.bh, by omega, _, rfl, _, ((WW r : Nat) : Int), rfl, congrArg V.int eW, ?_, ?_⟩
    · refine wide_mul (a := 20000) (b := 20000) ?_ ?_ (by decide) (by decide) (by decide)
      · rw [Int.natAbs_natCast]; exact hn
      · rw [Int.natAbs_natCast]; exact hW
    refine ⟨_, rfl, r, rfl, m.br, by omega, _, _, rfl, rfl, ?_⟩
    have eT : ((num hd : Nat) : Int) * ((WW r : Nat) : Int) + ((num r : Nat) : Int) = ((VT hd r : Nat) : Int) := by
      unfold VT
      simp
    have eB : ((WW r : Nat) : Int) * 2 ^ hd.length = ((VB hd r : Nat) : Int) := by
      unfold VB
      simp
    refine ⟨_, rfl, _, rfl, hd, rfl, le_line (by omega), ((WW r : Nat) : Int), hd.length, congrArg V.int eW, rfl, shl_ok (n := 20000) (by rw [Int.natAbs_natCast]; exact hW) (by omega), ?_⟩
    have gpos : 0 < Nat.gcd (VT hd r) (VB hd r) := Nat.gcd_pos_of_pos_right _ hVB
    have cop : Nat.gcd (VT hd r / Nat.gcd (VT hd r) (VB hd r)) (VB hd r / Nat.gcd (VT hd r) (VB hd r)) = 1 := Nat.coprime_div_gcd_div_gcd gpos
    have g1 : Nat.gcd (VT hd r) (VB hd r) * (VT hd r / Nat.gcd (VT hd r) (VB hd r)) = VT hd r := Nat.mul_div_cancel' (Nat.gcd_dvd_left _ _)
    have g2 : Nat.gcd (VT hd r) (VB hd r) * (VB hd r / Nat.gcd (VT hd r) (VB hd r)) = VB hd r := Nat.mul_div_cancel' (Nat.gcd_dvd_right _ _)
    have qpos : 1 ≤ VB hd r / Nat.gcd (VT hd r) (VB hd r) := Nat.div_pos (Nat.le_of_dvd hVB (Nat.gcd_dvd_right _ _)) gpos
    have low := lowest (t := a) (b := b) cop qpos hb1 (by
      refine Nat.eq_of_mul_eq_mul_left gpos ?_
      rw [← Nat.mul_assoc, g1, Nat.mul_left_comm, g2, hab, Nat.mul_comm])
    have hT := VT_le m.bh m.br (h := hd) (r := r)
    generalize hg : Nat.gcd (VT hd r) (VB hd r) = gg at *
    generalize hp : VT hd r / gg = p at *
    generalize hq : VB hd r / gg = q at *
    have hqb : q < 2 ^ 4000 := by
      have : q ≤ b := by rw [low.2]; exact Nat.div_le_self _ _
      exact lt_pow2 (b := 1000) (Nat.lt_of_le_of_lt this hb2) (by decide)
    have hpq : p ≤ q := by
      have h9 : gg * p ≤ gg * q := by
        rw [g1, g2]
        exact hT
      exact Nat.le_of_mul_le_mul_left h9 gpos
    refine ⟨gg, p, q, ?_, gpos, cop, by omega, hqb, fun H' u s2 hu => ?_⟩
    · show [V.int (((num hd : Nat) : Int) * ((WW r : Nat) : Int) + ((num r : Nat) : Int)), V.int (((WW r : Nat) : Int) * 2 ^ hd.length)] = _
      rw [eT, eB, g1, g2]
    refine k _ u s2 ?_
    rw [hu, low.1, low.2]
end
end HC

namespace HC
open PySem PySem.Spec PyProof.Rows L2
abbrev s_check_between : Stmt := top 9
abbrev N_check_between : List Str := ["number", "least", "most"]
theorem sc_check_between : FnScope N_check_between ["number", "least", "most"] (defScope s_check_between) := ⟨rfl, rfl, rfl, by decide +kernel, rfl, by decide +kernel, by decide +kernel⟩

abbrev s_expansion : Stmt := top 20
abbrev N_expansion : List Str := ["top", "bottom", "places", "signs", "rest", "sign", "word"]
theorem sc_expansion : FnScope N_expansion ["top", "bottom"] (defScope s_expansion) := ⟨rfl, rfl, rfl, by decide +kernel, rfl, by decide +kernel, by decide +kernel⟩

abbrev s_moments_at : Stmt := top 19
abbrev N_moments_at : List Str := ["top", "bottom", "head", "ring"]
theorem sc_moments_at : FnScope N_moments_at ["top", "bottom"] (defScope s_moments_at) := ⟨rfl, rfl, rfl, by decide +kernel, rfl, by decide +kernel, by decide +kernel⟩

/-! ## digits of a fraction, read one by one -/
/-- the places of the rests so far -/
def rp (t b : Nat) (i : Nat) : List (Key × V) := (List.range i).map fun m => (Sum.inl ((Rs t b m : Nat) : Int), V.int ((m : Nat) : Int))
theorem rp_succ (t b i : Nat) : rp t b (i + 1) = rp t b i ++ [(Sum.inl ((Rs t b i : Nat) : Int), V.int ((i : Nat) : Int))] := by
  unfold rp
  rw [List.range_succ, List.map_append]
  rfl
theorem valV_app (a b : List (Key × V)) (k : Key) : valV (a ++ b) k = (valV a k).or (valV b k) := by
  unfold valV
  rw [List.find?_append]
  cases List.find? (fun kv => decide (kv.1 = k)) a <;> rfl
theorem rp_none {t b : Nat} {x : Nat} : ∀ i, (∀ m, m < i → Rs t b m ≠ x) → valV (rp t b i) (Sum.inl ((x : Nat) : Int)) = none
  | 0, _ => rfl
  | i + 1, h => by
    rw [rp_succ, valV_app, rp_none i fun m hm => h m (by omega)]
    have : ¬ (Sum.inl ((Rs t b i : Nat) : Int) : Key) = Sum.inl ((x : Nat) : Int) := fun e => h i (by omega) (by have := Sum.inl.inj e; omega)
    rw [valV_neg this]
    rfl
theorem rp_some {t b : Nat} {j : Nat} : ∀ i, j < i → (∀ x y, x < y → y < i → Rs t b x ≠ Rs t b y) → valV (rp t b i) (Sum.inl ((Rs t b j : Nat) : Int)) = some (.int ((j : Nat) : Int))
  | 0, h, _ => absurd h (Nat.not_lt_zero _)
  | i + 1, h, hi => by
    rw [rp_succ, valV_app]
    by_cases e : j = i
    · subst e
      rw [rp_none j fun m hm => hi m j hm (by omega), valV_pos rfl]
      rfl
    · rw [rp_some i (by omega) fun x y h1 h2 => hi x y h1 (by omega)]
      rfl
theorem rp_put {t b i : Nat} (h : ∀ m, m < i → Rs t b m ≠ Rs t b i) : putK (rp t b i) (Sum.inl ((Rs t b i : Nat) : Int)) (V.int ((i : Nat) : Int)) = rp t b (i + 1) := by
  unfold putK
  rw [valV_any, rp_none i h, rp_succ]
  rfl
theorem rp_len (t b i : Nat) : (rp t b i).length = i := by unfold rp; simp
def sgl (t b : Nat) (i : Nat) : List V := (List.range i).map fun m => V.str (T [DD t b m])
theorem sgl_succ (t b i : Nat) : sgl t b (i + 1) = sgl t b i ++ [V.str (T [DD t b i])] := by
  unfold sgl
  rw [List.range_succ, List.map_append]
  rfl
theorem sgl_len (t b i : Nat) : (sgl t b i).length = i := by unfold sgl; simp
/-- the moments with a value, as tuples -/
def MomsL (H : Hp) : List Addr → List (List Nat × List Nat) → Prop
  | [], [] => True
  | a :: as, m :: ms => MomAt H a m.1 m.2 ∧ MomsL H as ms
  | _, _ => False
def MomsAt (H : Hp) (l : Addr) (ms : List (List Nat × List Nat)) : Prop := ∃ as : List Addr, H l = some (.lst (as.map V.ref)) ∧ MomsL H as ms
/-- which moments have the value t / b -/
def msAt (t b i j : Nat) : List (List Nat × List Nat) :=
  if t = b then [([], [49])] else if i - j = 1 ∧ DD t b j = 48 ∧ j ≠ 0 then [((L j (DD t b)).dropLast ++ [48], [49]), (L j (DD t b), [48])] else [(L j (DD t b), L (i - j) fun m => DD t b (j + m))]
def spBetween : Sp := fun vs H Q _ => ∃ n a b : Int, vs = [.int n, .int a, .int b] ∧ a ≤ n ∧ n ≤ b ∧ Q .non H
theorem ok_check_between {P : Program} {w : World} {K : PySem.W.Frag} {mg : Str → Option Value} {base : Heap} {f : Addr} {fd : FuncData} (F : Fun K "check_between" "check_between" s_check_between f fd) : FnOk P w K mg base CX0 1 f fd ["number", "least", "most"] spBetween := by
  have sc := sc_check_between
  refine F.ok sc (fun vs H Q E h => ?_) (fun cdv A outer s H vs Q E hr h => ?_)
  · obtain ⟨n, a, b, rfl, _⟩ := h
    rfl
  · obtain ⟨n, a, b, rfl, h1, h2, k⟩ := h
    refine ⟨_, (pss_one (ps_if (PW.pt (pw_or (pt_cmpR op_lt (pv 0) (pv 1) (nomark _)) (pw_or1 (pt_cmpR op_gt (pv 0) (pv 2) (nomark _))))) (pss_one ps_never) pss_nil)), ?_⟩
    refine ⟨_, rfl, _, rfl, _, _, rfl, rfl, _, rfl, ?_⟩
    rw [decide_eq_false (by omega : ¬ (n < a))]
    refine iteF ⟨_, rfl, _, rfl, _, _, rfl, rfl, _, rfl, ?_⟩
    rw [decide_eq_false (by omega : ¬ (n > b))]
    exact iteF k
def spExpansion : Sp := fun vs H Q _ => ∃ t b : Nat, vs = [.int (t : Int), .int (b : Int)] ∧ t < b ∧ b ≤ 10000 ∧
  ∀ H' u i j, FR t b i j → i ≤ b → Same H H' → MomAt H' u (L j (DD t b)) (L (i - j) fun m => DD t b (j + m)) → Q (.ref u) H'
def spMomentsAt : Sp := fun vs H Q _ => ∃ t b : Nat, vs = [.int (t : Int), .int (b : Int)] ∧ t ≤ b ∧ 1 ≤ b ∧ b ≤ 10000 ∧
  ∀ H' l i j, (t < b → FR t b i j ∧ i ≤ b) → Same H H' → H l = none → MomsAt H' l (msAt t b i j) → Q (.ref l) H'
theorem str01 {c : Nat} (h : c ≤ 1) : Str.ofString (toString ((c : Nat) : Int)) = T [48 + c] := by
  rcases (show c = 0 ∨ c = 1 by omega) with rfl | rfl <;> decide +kernel
section
variable {P : Program} {w : World} {K : PySem.W.Frag} {mg : Str → Option Value} {base : Heap}
theorem ok_expansion {f : Addr} {fd : FuncData} (F : Fun K "expansion" "expansion" s_expansion f fd) (B : Blt mg) (dm : mg "divmod" = none) (sr : mg "str" = none) : FnOk P w K mg base CX0 1 f fd ["top", "bottom"] spExpansion := by
  have sc := sc_expansion
  refine F.ok sc (fun vs H Q E h => ?_) (fun cdv A outer s H vs Q E hr h => ?_)
  · obtain ⟨t, b, rfl, _⟩ := h
    rfl
  · obtain ⟨t, b, rfl, ht, hb, k⟩ := h
    refine ⟨_, (pss_cons (ps_set (i := 2) sc.nd rfl (by first | exact Or.inl rfl | exact Or.inr rfl) pe_dnewK)
    (pss_cons (ps_set (i := 3) sc.nd rfl (by first | exact Or.inl rfl | exact Or.inr rfl) (pe_lst pa_nil))
    (pss_cons (ps_set (i := 4) sc.nd rfl (by first | exact Or.inl rfl | exact Or.inr rfl) (pv 0))
    (pss_cons (ps_while PassesOwn.never (pt_cmp (pc_dnotin (hu_of hr) (pv 4) (pv 2))) (pss_cons (ps_dput (hu_of hr) (pv 2) (pv 4) (pe_callB call_len_seq (by rfl) B.len PySem.boot_len (pa_cons (pv 3) pa_nil)) rfl)
    (pss_cons (ps_asg (pe_callB call_divmodW (by rfl) dm (by decide +kernel) (pa_cons (pe_op op_mulW (pv 4) pe_int) (pa_cons (pv 1) pa_nil))) (pg_tup (by rfl) (pgs_cons (pg_name (i := 5) sc.nd rfl (by first | exact Or.inl rfl | exact Or.inr rfl)) (pgs_cons (pg_name (i := 4) sc.nd rfl (by first | exact Or.inl rfl | exact Or.inr rfl)) pgs_nil))))
    (pss_one (ps_expr (pe_bm PySem.F.plainAttrs_list PySem.F.slot_list_append PySem.F.type_list_append mt_append (pv 3) (pa_cons (pe_callTy call_str_int (by rfl) sr (by decide +kernel) (pa_cons (pv 5) pa_nil)) pa_nil)))))))
    (pss_cons (ps_set (i := 6) sc.nd rfl (by first | exact Or.inl rfl | exact Or.inr rfl) (pe_bm PySem.F.plainAttrs_str PySem.F.slot_str_join PySem.F.type_str_join mt_joinT (pe_strT [] (by decide +kernel)) (pa_cons (pv 3) pa_nil)))
    (pss_one (ps_ret (pe_tup (pa_cons (pe_slice sl_T (pv 6) po_none (po_some (pe_dget (hu_of hr) (pv 2) (pv 4) (fun _ _ => rfl)))) (pa_cons (pe_slice sl_T (pv 6) (po_some (pe_dget (hu_of hr) (pv 2) (pv 4) (fun _ _ => rfl))) po_none) pa_nil)))))))))), ?_⟩
    refine fun d hd => ?_
    refine ⟨Nat.zero_le _, fun l hl => ?_⟩
    have hdl : d ≠ l := ne_of_none upd_same hl
    refine ⟨_, rfl, ?_⟩
    refine ⟨fun m σ H' => ∃ (i : Nat) (x y : Option V), m + i = b ∧ Same H H' ∧ H' d = some (.dK (rp t b i)) ∧ H' l = some (.lst (sgl t b i)) ∧ (∀ x y, x < y → y < i → Rs t b x ≠ Rs t b y) ∧
        σ = [some (.int (t : Int)), some (.int (b : Int)), some (.ref d), some (.ref l), some (.int ((Rs t b i : Nat) : Int)), x, y], ⟨b, 0, none, none, by omega, fun c o hc => ?_, ?_, ?_, fun x y h1 h2 => absurd h2 (Nat.not_lt_zero _), rfl⟩, ?_⟩
    · rw [upd_ne (ne_of_none (Same.new hd _ _ hc) hl), upd_ne (ne_of_none hc hd)]
      exact hc
    · rw [upd_ne hdl, upd_same]
      rfl
    · rw [upd_same]
      rfl
    rintro m σ H' ⟨i, x, y, hm, sm, h1, h2, hi, rfl⟩
    have hrl := Rs_lt ht i
    refine ⟨_, rfl, _, rfl, d, _, rfl, DGet.k (k := Sum.inl ((Rs t b i : Nat) : Int)) h1, ?_⟩
    by_cases hex : ∃ j, j < i ∧ Rs t b j = Rs t b i
    · obtain ⟨j, j1, j2⟩ := hex
      have fr : FR t b i j := ⟨j1, j2.symm, hi⟩
      have hv := rp_some (t := t) (b := b) i j1 hi
      rw [j2] at hv
      rw [hv]
      refine ⟨_, rfl, iteF ?_⟩
      have hfl : ∀ n, ((List.range n).map fun m => [DD t b m]).flatten = L n (DD t b) := by
        intro n
        unfold L
        induction n with
        | zero => rfl
        | succ n ih => rw [List.range_succ, List.map_append, List.flatten_append, ih, List.map_append]; rfl
      have hs2 : sgl t b i = ((List.range i).map fun m => [DD t b m]).map fun y => V.str (T y) := by
        unfold sgl
        rw [List.map_map]
        rfl
      refine ⟨rfl, _, rfl, l, (List.range i).map fun m => [DD t b m], rfl, rfl, SqL.of (by rw [h2, hs2]), by rw [hfl, L_len]; omega, ?_⟩
      rw [hfl]
      have hg : DGet H' d (.int ((Rs t b i : Nat) : Int)) (some (.int ((j : Nat) : Int))) := by
        have := DGet.k (k := Sum.inl ((Rs t b i : Nat) : Int)) h1
        rw [hv] at this
        exact this
      refine ⟨_, rfl, _, rfl, _, rfl, d, _, rfl, hg, _, rfl, L i (DD t b), rfl, le_line (by rw [L_len]; omega), ?_⟩
      refine ⟨_, rfl, _, rfl, _, rfl, d, _, rfl, hg, _, rfl, L i (DD t b), rfl, le_line (by rw [L_len]; omega), (by show 2 ≤ sizeLine; decide), fun u hu => ?_⟩
      refine k _ u i j fr (by omega) (sm.trans (Same.new hu)) ?_
      show L2.upd _ _ _ _ = _
      rw [upd_same, cut_hi, cut_lo]
      have e1 : (L i (DD t b)).take j = L j (DD t b) := by
        unfold L
        rw [← List.map_take, List.take_range, Nat.min_eq_left (by omega)]
      have e2 : (L i (DD t b)).drop j = L (i - j) fun m => DD t b (j + m) := by
        refine L_ext (by rw [List.length_drop, L_len]) fun m hm => ?_
        rw [List.getElem?_drop, L_get (by omega)]
      rw [e1, e2]
    · have hno : ∀ m, m < i → Rs t b m ≠ Rs t b i := fun m h e => hex ⟨m, h, e⟩
      rw [rp_none i hno]
      refine ⟨_, rfl, iteT ?_⟩
      have hi2 : ∀ x y, x < y → y < i + 1 → Rs t b x ≠ Rs t b y := fun x y h3 h4 => by
        by_cases e : y = i
        · rw [e]; exact hno x (by omega)
        · exact hi x y h3 (by omega)
      have hib := pigeon b (i + 1) (Rs t b) (fun x _ => Rs_lt ht x) hi2
      have hlen : (rp t b i).length < sizeLine := by rw [rp_len]; exact Nat.lt_of_lt_of_le (show i < 20000 by omega) (by decide)
      refine ⟨fun σ' H2 => ∃ (x y : Option V), Same H H2 ∧ H2 d = some (.dK (rp t b (i + 1))) ∧ H2 l = some (.lst (sgl t b (i + 1))) ∧
        σ' = [some (.int (t : Int)), some (.int (b : Int)), some (.ref d), some (.ref l), some (.int ((Rs t b (i + 1) : Nat) : Int)), x, y],
        fun σ' H2 ⟨x, y, q1, q2, q3, q4⟩ => ⟨m - 1, by omega, i + 1, x, y, by omega, q1, q2, q3, hi2, q4⟩, ?_⟩
      refine ⟨_, rfl, l, _, rfl, .inl (SqL.of h2), ?_⟩
      rw [sgl_len]
      refine ⟨_, rfl, _, rfl, d, _, rfl, DPut.k (k := Sum.inl ((Rs t b i : Nat) : Int)) h1 hlen, ?_⟩
      rw [rp_put hno]
      have hdl2 : d ≠ l := hdl
      have h2' : L2.upd H' d (.dK (rp t b (i + 1))) l = some (.lst (sgl t b i)) := by rw [upd_ne hdl2.symm]; exact h2
      refine ⟨_, rfl, _, _, rfl, rfl, ?_, _, rfl, _, _, rfl, ?_, fun p hp => ?_⟩
      · exact wide_mul (a := 60) (b := 60) (by rw [Int.natAbs_natCast]; omega) (by decide) (by decide) (by decide) (by decide)
      · refine divp_ok (by omega) ?_
        have b1 : Builtin.Int.intBits (((Rs t b i : Nat) : Int) * 2) ≤ 20 := PyProof.Rows.intBits_le (by omega)
        omega
      have e1 : (((Rs t b i : Nat) : Int) * 2) / ((b : Nat) : Int) = ((Ds t b i : Nat) : Int) := rfl
      have e2 : (((Rs t b i : Nat) : Int) * 2) % ((b : Nat) : Int) = ((Rs t b (i + 1) : Nat) : Int) := rfl
      rw [e1, e2]
      refine ⟨p, _, rfl, SqT.of upd_same, rfl, _, _, rfl, _, _, rfl, rfl, ?_⟩
      have hpl : p ≠ l := fun e => by rw [e, h2'] at hp; cases hp
      have hpd : p ≠ d := fun e => by rw [e, upd_same] at hp; cases hp
      have hc := Ds_le ht i
      refine ⟨_, rfl, .inl ⟨rfl, _, SqL.of (by rw [upd_ne hpl.symm]; exact h2')⟩, ?_⟩
      refine ⟨_, rfl, _, rfl, ?_, ?_⟩
      · rw [Int.natAbs_natCast]
        have : Nat.log2 (Ds t b i) ≤ Ds t b i := Nat.log2_le_self _
        omega
      rw [str01 hc]
      refine ⟨l, _, _, rfl, rfl, by rw [upd_ne hpl.symm]; exact h2', ?_, ?_⟩
      · rw [sgl_len]; exact Nat.lt_of_lt_of_le (show i < 20000 by omega) (by decide)
      refine ⟨_, _, fun c o hc0 => ?_, ?_, ?_, rfl⟩
      · have c1 : c ≠ l := fun e => by rw [e] at hc0; exact absurd (hl ▸ Same.new hd _ _ hc0) (by simp)
        have c2 : c ≠ d := ne_of_none hc0 hd
        have c3 : L2.upd H' d (.dK (rp t b (i + 1))) c = some o := by rw [upd_ne c2]; exact sm _ _ hc0
        rw [upd_ne c1, upd_ne (ne_of_none c3 hp)]
        exact c3
      · rw [upd_ne hdl2, upd_ne hpd.symm, upd_same]
      · rw [upd_same, sgl_succ]
        rfl
theorem ok_moments_at {f : Addr} {fd : FuncData} (F : Fun K "moments_at" "moments_at" s_moments_at f fd) (h_check_at_least : Has P w K mg base "check_at_least" 1 ["number", "least"] spAtLeast) (h_check_between : Has P w K mg base "check_between" 1 ["number", "least", "most"] spBetween) (h_expansion : Has P w K mg base "expansion" 1 ["top", "bottom"] spExpansion) :
    FnOk P w K mg base CX0 2 f fd ["top", "bottom"] spMomentsAt := by
  have sc := sc_moments_at
  obtain ⟨f_check_at_least, fd_check_at_least, mg_check_at_least, kp_check_at_least, b_check_at_least, G_check_at_least⟩ := h_check_at_least
  obtain ⟨f_check_between, fd_check_between, mg_check_between, kp_check_between, b_check_between, G_check_between⟩ := h_check_between
  obtain ⟨f_expansion, fd_expansion, mg_expansion, kp_expansion, b_expansion, G_expansion⟩ := h_expansion
  refine F.ok sc (fun vs H Q E h => ?_) (fun cdv A outer s H vs Q E hr h => ?_)
  · obtain ⟨t, b, rfl, _⟩ := h
    rfl
  · obtain ⟨t, b, rfl, h1, h2, h3, k⟩ := h
    refine ⟨_, (pss_cons (ps_expr (pe_call G_check_at_least (hr.mono (by decide)) (by rfl) mg_check_at_least kp_check_at_least b_check_at_least .nil pass0 (pa_cons (pv 1) (pa_cons pe_int pa_nil))))
    (pss_cons (ps_expr (pe_call G_check_between (hr.mono (by decide)) (by rfl) mg_check_between kp_check_between b_check_between .nil pass0 (pa_cons (pv 0) (pa_cons pe_int (pa_cons (pv 1) pa_nil)))))
    (pss_cons (ps_if (pt_cmpR op_eq (pv 0) (pv 1) (nomark _)) (pss_one (ps_ret (pe_lst (pa_cons (pe_tup (pa_cons (pe_strT [] (by decide +kernel)) (pa_cons (pe_strT [49] (by decide +kernel)) pa_nil))) pa_nil)))) pss_nil)
    (pss_cons (ps_asg (pe_call G_expansion (hr.mono (by decide)) (by rfl) mg_expansion kp_expansion b_expansion .nil pass0 (pa_cons (pv 0) (pa_cons (pv 1) pa_nil))) (pg_tup (by rfl) (pgs_cons (pg_name (i := 2) sc.nd rfl (by first | exact Or.inl rfl | exact Or.inr rfl)) (pgs_cons (pg_name (i := 3) sc.nd rfl (by first | exact Or.inl rfl | exact Or.inr rfl)) pgs_nil))))
    (pss_cons (ps_if (PW.pt (pw_or (pt_cmpR op_neT (pv 3) (pe_strT [48] (by decide +kernel)) (nomark _)) (pw_or1 (pt_cmpR op_eqT (pv 2) (pe_strT [] (by decide +kernel)) (nomark _))))) (pss_one (ps_ret (pe_lst (pa_cons (pe_tup (pa_cons (pv 2) (pa_cons (pv 3) pa_nil))) pa_nil)))) pss_nil)
    (pss_one (ps_ret (pe_lst (pa_cons (pe_tup (pa_cons (pe_op op_addT (pe_slice sl_T (pv 2) po_none (po_some (pe_un un_neg pe_int))) (pe_strT [48] (by decide +kernel))) (pa_cons (pe_strT [49] (by decide +kernel)) pa_nil))) (pa_cons (pe_tup (pa_cons (pv 2) (pa_cons (pe_strT [48] (by decide +kernel)) pa_nil))) pa_nil)))))))))), ?_⟩
    refine ⟨_, rfl, _, _, rfl, by omega, ?_⟩
    refine ⟨_, rfl, _, rfl, _, _, _, rfl, by omega, by omega, ?_⟩
    refine ⟨_, rfl, _, rfl, rfl, _, rfl, ?_⟩
    refine ite2 (fun c => ?_) (fun c => ?_)
    · have e : t = b := by have := V.int.inj (of_decide_eq_true c); omega
      refine ⟨(by show 2 ≤ sizeLine; decide), fun u hu => ⟨(by show 1 ≤ sizeLine; decide), fun l hl => ?_⟩⟩
      have hul : u ≠ l := ne_of_none upd_same hl
      refine k _ l 0 0 (fun q => by omega) (fun c o hc => ?_) ?_ ⟨[u], upd_same, ?_⟩
      · rw [upd_ne (ne_of_none (Same.new hu _ _ hc) hl), upd_ne (ne_of_none hc hu)]
        exact hc
      · cases q : H l with
        | none => rfl
        | some o => exact absurd (hl ▸ Same.new hu _ _ q) (by simp)
      · unfold msAt
        rw [if_pos e]
        refine ⟨?_, True.intro⟩
        show L2.upd _ _ _ _ = _
        rw [upd_ne hul, upd_same]
    · have hne : t ≠ b := fun e => c (decide_eq_true (by rw [e]))
      have hlt : t < b := by omega
      refine ⟨_, rfl, _, rfl, t, b, rfl, hlt, h3, fun H1 u i j fr hib s1 hm => ?_⟩
      refine ⟨u, _, rfl, hm.tup, rfl, _, _, rfl, _, _, rfl, rfl, ?_⟩
      have hl0 : ∀ {l : Addr}, H1 l = none → H l = none := fun {l} hl => by
        cases q : H l with
        | none => rfl
        | some o => exact absurd (hl ▸ s1 _ _ q) (by simp)
      have e48 : ((L (i - j) fun m => DD t b (j + m)) = [48]) ↔ (i - j = 1 ∧ DD t b j = 48) := by
        constructor
        · intro e
          have e1 := congrArg List.length e
          rw [L_len] at e1
          have e2 : i - j = 1 := e1
          have e3 := L_get (f := fun m => DD t b (j + m)) (show 0 < i - j by omega)
          rw [e] at e3
          exact ⟨e2, (Option.some.inj e3).symm⟩
        · rintro ⟨e1, e2⟩
          rw [e1]
          show [DD t b (j + 0)] = [48]
          rw [Nat.add_zero, e2]
      have ej : (L j (DD t b) = []) ↔ j = 0 := by
        constructor
        · intro e
          have := congrArg List.length e
          rw [L_len] at this
          exact this
        · rintro rfl
          rfl
      have one : ∀ (hcase : ¬ (i - j = 1 ∧ DD t b j = 48 ∧ j ≠ 0)), (2 ≤ sizeLine ∧ ∀ p, H1 p = none → (1 ≤ sizeLine ∧ ∀ q, L2.upd H1 p (.tup [.str (T (L j (DD t b))), .str (T (L (i - j) fun m => DD t b (j + m)))]) q = none →
          Q (.ref q) (L2.upd (L2.upd H1 p (.tup [.str (T (L j (DD t b))), .str (T (L (i - j) fun m => DD t b (j + m)))])) q (.lst [.ref p])))) := by
        intro hcase
        refine ⟨by decide, fun p hp => ⟨by decide, fun q hq => ?_⟩⟩
        have hpq : p ≠ q := ne_of_none upd_same hq
        have hq1 : H1 q = none := by rw [upd_ne hpq.symm] at hq; exact hq
        refine k _ q i j (fun _ => ⟨fr, hib⟩) (fun c o hc => ?_) (hl0 hq1) ⟨[p], upd_same, ?_⟩
        · rw [upd_ne (ne_of_none (s1 _ _ hc) hq1), upd_ne (ne_of_none (s1 _ _ hc) hp)]
          exact s1 _ _ hc
        · unfold msAt
          rw [if_neg hne, if_neg hcase]
          refine ⟨?_, True.intro⟩
          show L2.upd _ _ _ _ = _
          rw [upd_ne hpq, upd_same]
      refine ⟨_, rfl, _, _, rfl, rfl, _, rfl, ?_⟩
      by_cases c1 : (L (i - j) fun m => DD t b (j + m)) = [48]
      · rw [decide_eq_true c1]
        refine iteF ⟨_, rfl, _, _, rfl, rfl, _, rfl, ?_⟩
        by_cases c2 : L j (DD t b) = []
        · rw [decide_eq_true c2]
          refine iteT ?_
          have := one (fun q => q.2.2 (ej.mp c2))
          exact ⟨_, rfl, _, rfl, this⟩
        · rw [decide_eq_false c2]
          refine iteF ?_
          have hj : j ≠ 0 := fun q => c2 (ej.mpr q)
          obtain ⟨k1, k2⟩ := e48.mp c1
          have hjb : j ≤ 10000 := by have := fr.lt; omega
          refine ⟨_, rfl, _, rfl, _, rfl, L j (DD t b), rfl, le_line (by rw [L_len]; omega), ?_⟩
          rw [show cutL (L j (DD t b)) none (some (-1)) = (L j (DD t b)).dropLast from cut_last _]
          refine ⟨_, [48], rfl, rfl, le_line (by rw [List.length_dropLast, L_len]; show _ + 1 ≤ _; omega), (by show 2 ≤ sizeLine; decide), fun p hp => ?_⟩
          refine ⟨_, rfl, (by show 2 ≤ sizeLine; decide), fun p2 hp2 => ⟨(by show 2 ≤ sizeLine; decide), fun q hq => ?_⟩⟩
          have n1 : p ≠ p2 := ne_of_none upd_same hp2
          have hp21 : H1 p2 = none := by rw [upd_ne n1.symm] at hp2; exact hp2
          have n2 : p2 ≠ q := ne_of_none upd_same hq
          have hq1 : L2.upd H1 p (.tup [.str (T ((L j (DD t b)).dropLast ++ [48])), .str (T [49])]) q = none := by rw [upd_ne n2.symm] at hq; exact hq
          have n3 : p ≠ q := ne_of_none upd_same hq1
          have hq2 : H1 q = none := by rw [upd_ne n3.symm] at hq1; exact hq1
          refine k _ q i j (fun _ => ⟨fr, hib⟩) (fun c o hc => ?_) (hl0 hq2) ⟨[p, p2], upd_same, ?_⟩
          · rw [upd_ne (ne_of_none (s1 _ _ hc) hq2), upd_ne (ne_of_none (s1 _ _ hc) hp21), upd_ne (ne_of_none (s1 _ _ hc) hp)]
            exact s1 _ _ hc
          · unfold msAt
            rw [if_neg hne, if_pos ⟨k1, k2, hj⟩]
            refine ⟨?_, ?_, True.intro⟩
            · show L2.upd _ _ _ _ = _
              rw [upd_ne n3, upd_ne n1, upd_same]
            · show L2.upd _ _ _ _ = _
              rw [upd_ne n2, upd_same]
      · rw [decide_eq_false c1]
        refine iteT ?_
        have := one (fun q => c1 (e48.mpr ⟨q.1, q.2.1⟩))
        exact ⟨_, rfl, _, rfl, this⟩
end
end HC

namespace HC
open PySem PySem.Spec PyProof.Rows L2
abbrev s__law_two : Stmt := top 29
abbrev N__law_two : List Str := ["size"]
theorem sc__law_two : FnScope N__law_two ["size"] (defScope s__law_two) := ⟨rfl, rfl, rfl, by decide +kernel, rfl, by decide +kernel, by decide +kernel⟩

abbrev s__law_divisor : Stmt := top 30
abbrev N__law_divisor : List Str := ["one", "other"]
theorem sc__law_divisor : FnScope N__law_divisor ["one", "other"] (defScope s__law_divisor) := ⟨rfl, rfl, rfl, by decide +kernel, rfl, by decide +kernel, by decide +kernel⟩

abbrev s__law_value_right : Stmt := top 31
abbrev N__law_value_right : List Str := ["pool", "head", "ring", "numer", "denom", "size", "number_here", "sign", "rest"]
theorem sc__law_value_right : FnScope N__law_value_right ["pool"] (defScope s__law_value_right) := ⟨rfl, rfl, rfl, by decide +kernel, rfl, by decide +kernel, by decide +kernel⟩

/-! ## walks over texts -/
theorem for_its {z : List Nat} {g : TG} {tb : TS} {D : Ends} {σ : L2.St} {H : Hp} (Pv : Nat → L2.St → Hp → Prop) (h0 : Pv 0 σ H)
    (hs : ∀ i c σ H, z[i]? = some c → Pv i σ H → g (.str (T [c])) σ H fun σ2 H2 => tb { D with nx := Pv (i + 1), ct := Pv (i + 1), bk := D.nx } σ2 H2) (hd : ∀ σ H, Pv z.length σ H → D.nx σ H) :
    ∃ W : Nat → Nat → L2.St → Hp → Prop, (∃ m, W 0 m σ H) ∧ ∀ i m σ H, W i m σ H →
      ((Its (T z)).stop i H ∧ D.nx σ H) ∨ ((Its (T z)).go i H ∧ ∃ N : L2.St → Hp → Prop, (∀ σ' H', N σ' H' → ∃ m', m' < m ∧ W (i + 1) m' σ' H') ∧ ∀ x H', (Its (T z)).yld i H x H' → g x σ H' fun σ2 H2 => tb { D with nx := N, ct := N, bk := D.nx } σ2 H2) := by
  have hz : (T z).cps.size = z.length := by
    show z.toArray.size = z.length
    simp
  refine ⟨fun i m σ H => m = z.length - i ∧ i ≤ z.length ∧ Pv i σ H, ⟨z.length, by omega, Nat.zero_le _, h0⟩, ?_⟩
  rintro i m σ H ⟨rfl, hi, p⟩
  by_cases hlt : i < z.length
  · refine .inr ⟨show i < (T z).cps.size by rw [hz]; exact hlt, Pv (i + 1), fun σ' H' q => ⟨z.length - (i + 1), by omega, rfl, hlt, q⟩, ?_⟩
    rintro x H' ⟨rfl, c, hc, rfl⟩
    refine hs i c σ _ ?_ p
    have : (T z).cps[i]? = z[i]? := by
      show z.toArray[i]? = z[i]?
      simp
    rw [← this]
    exact hc
  · obtain rfl : i = z.length := by omega
    exact .inl ⟨show (T z).cps.size ≤ z.length by rw [hz]; exact Nat.le_refl _, hd σ H p⟩
theorem MomAt.dp4 {K : PySem.W.Frag} {H : Hp} {t : Addr} {h r : List Nat} (m : MomAt H t h r) : Dp K H (.ref t) (.tuple [.str (T h), .str (T r)]) := .tup (SqT.of m) (.cons (.str _) (.cons (.str _) .nil))
/-! ## promises of the law's defs -/
def spTwo : Sp := fun vs H Q _ => ∃ n : Nat, vs = [.int (n : Int)] ∧ n ≤ 500 ∧ Q (.int ((2 ^ n : Nat) : Int)) H
def spDivisor : Sp := fun vs H Q _ => ∃ a b : Nat, vs = [.int (a : Int), .int (b : Int)] ∧ Q (.int ((Nat.gcd a b : Nat) : Int)) H
def spValueRight : Sp := fun vs H Q _ => ∃ (p : Addr) (n : Nat), vs = [.ref p] ∧ PoolAt H p n ∧ n + 2000 < 2 ^ 30 ∧ ∀ H', SB p H H' → PoolAt H' p (n + 1000) → Q (.bl true) H'
theorem rep1 (n c : Nat) : rep n [c] = List.replicate n c := by
  unfold rep
  induction n with
  | zero => rfl
  | succ n ih => rw [List.replicate_succ, List.flatten_cons, ih, List.replicate_succ]; rfl
theorem num_zeros (n : Nat) : num (List.replicate n 48) = 0 := by
  induction n with
  | zero => rfl
  | succ n ih =>
    rw [List.replicate_succ]
    show (48 - 48) * 2 ^ _ + num (List.replicate n 48) = 0
    rw [ih]
    simp
theorem num_two (n : Nat) : num (49 :: List.replicate n 48) = 2 ^ n := by
  show (49 - 48) * 2 ^ (List.replicate n 48).length + num (List.replicate n 48) = 2 ^ n
  rw [num_zeros, List.length_replicate]
  simp
theorem bin_zeros (n : Nat) : Bin (List.replicate n 48) := fun c hc => .inl (List.eq_of_mem_replicate hc)
section
variable {P : Program} {w : World} {K : PySem.W.Frag} {mg : Str → Option Value} {base : Heap}
theorem ok__law_two {f : Addr} {fd : FuncData} (F : Fun K "_law_two" "_law_two" s__law_two f fd) (B : Blt mg) (dg : PySem.W.nsIn K cStatics "sys.int_max_str_digits" = some none) : FnOk P w K mg base CX0 1 f fd ["size"] spTwo := by
  have sc := sc__law_two
  refine F.ok sc (fun vs H Q E h => ?_) (fun cdv A outer s H vs Q E hr h => ?_)
  · obtain ⟨n, rfl, _⟩ := h
    rfl
  · obtain ⟨n, rfl, hn, k⟩ := h
    refine ⟨_, (pss_one (ps_ret (pe_callTy (call_int2b dg) (by rfl) B.int (by decide +kernel) (pa_cons (pe_op op_addT (pe_strT [49] (by decide +kernel)) (pe_op op_mulT (pe_strT [48] (by decide +kernel)) (pv 0))) (pa_cons pe_int pa_nil))))), ?_⟩
    refine ⟨_, rfl, [48], n, rfl, rfl, by show 1 * n ≤ _; omega, by omega, [49], _, rfl, rfl, ?_, 49 :: rep n [48], rfl, by simp, ?_, ?_⟩
    · rw [rep1, List.length_replicate]; exact le_line (by show 1 + n ≤ _; omega)
    · rw [rep1]
      intro c hc
      rcases List.mem_cons.mp hc with e | e
      · exact .inr e
      · exact bin_zeros n c e
    · rw [rep1, num_two]
      exact k
theorem ok__law_divisor {f : Addr} {fd : FuncData} (F : Fun K "_law_divisor" "_law_divisor" s__law_divisor f fd) : FnOk P w K mg base CX0 1 f fd ["one", "other"] spDivisor := by
  have sc := sc__law_divisor
  refine F.ok sc (fun vs H Q E h => ?_) (fun cdv A outer s H vs Q E hr h => ?_)
  · obtain ⟨a, b, rfl, _⟩ := h
    rfl
  · obtain ⟨a, b, rfl, k⟩ := h
    refine ⟨_, (pss_cons (ps_while PassesOwn.never (pt_cmpR op_gt (pv 1) pe_int (nomark _)) (pss_one (ps_par (i := 0) (j := 1) (by rfl) sc.nd rfl rfl (by decide) rfl rfl (pa_cons (pv 1) (pa_cons (pe_op op_mod (pv 0) (pv 1)) pa_nil)) (by rfl))))
    (pss_one (ps_ret (pv 0)))), ?_⟩
    refine ⟨fun m σ H' => H' = H ∧ ∃ x : Nat, Nat.gcd x m = Nat.gcd a b ∧ σ = [some (.int (x : Int)), some (.int (m : Int))], ⟨b, rfl, a, rfl, rfl⟩, ?_⟩
    rintro m σ H' ⟨rfl, x, hg, rfl⟩
    refine ⟨_, rfl, _, _, rfl, rfl, _, rfl, ?_⟩
    refine ite2 (fun c1 => ?_) (fun c1 => ?_)
    · have c2 : 0 < m := by have := of_decide_eq_true c1; omega
      refine ⟨fun σ' H2 => H2 = H' ∧ σ' = [some (.int (m : Int)), some (.int ((x % m : Nat) : Int))], fun σ' H2 ⟨q1, q2⟩ => ⟨x % m, Nat.mod_lt _ c2, q1, m, ?_, q2⟩, ?_⟩
      · rw [← hg, Nat.gcd_comm m, ← Nat.gcd_rec, Nat.gcd_comm]
      · exact ⟨_, rfl, _, rfl, _, rfl, _, _, rfl, rfl, (by show (0 : Int) < (m : Int); omega), _, _, rfl, rfl, rfl⟩
    · have c2 : m = 0 := by
        have : ¬ ((m : Int) > 0) := fun q => c1 (decide_eq_true q)
        omega
      subst c2
      rw [Nat.gcd_zero_right] at hg
      refine ⟨_, rfl, ?_⟩
      rw [hg]
      exact k
theorem val01 {c : Nat} (h : c = 48 ∨ c = 49) : PySem.intText? (T [c]) = some ((c - 48 : Nat) : Int) := by
  rcases h with rfl | rfl <;> decide +kernel
def pairD (p q : Nat) : PyData := .tuple [.int (p : Int), .int (q : Int)]
theorem shown_pair (p q : Nat) : (pairD p q).shown = ("(" : Str) ++ Str.join ", " [((toString ((p : Nat) : Int) : String) : Str), ((toString ((q : Nat) : Int) : String) : Str)] ++ (")" : Str) := rfl
theorem sh_pair (p q : Nat) : shT (pairD p q) = [40] ++ TL.numL p ++ [44, 32] ++ TL.numL q ++ [41] := by
  have e1 : ∀ n : Nat, ((toString ((n : Nat) : Int) : String) : Str) = T (TL.numL n) := fun n => by
    rw [strT (Str.ofString (toString ((n : Nat) : Int)))]
    exact congrArg T (TL.tl_num n)
  have e2 : ("(" : Str) = T [40] := rfl
  have e3 : (", " : Str) = T [44, 32] := rfl
  have e4 : (")" : Str) = T [41] := rfl
  unfold shT
  rw [shown_pair, e1, e1, e2, e3, e4]
  show ((T [40] ++ (T (TL.numL p) ++ T [44, 32] ++ Str.join (T [44, 32]) [T (TL.numL q)])) ++ T [41]).cps.toList = _
  show ((T [40] ++ (T (TL.numL p) ++ T [44, 32] ++ T (TL.numL q))) ++ T [41]).cps.toList = _
  rw [T_app, T_app, T_app, T_app, T_list]
  simp
theorem pair_ok {p q : Nat} (hp : p < 2 ^ 1000) (hq : q < 2 ^ 1000) : (pairD p q).showable = true ∧ (pairD p q).hasDict = false ∧ (pairD p q).depth ≤ 10 ∧ (pairD p q).shown.length ≤ sizeLine := by
  have l1 : ∀ {n : Nat}, n < 2 ^ 1000 → n.log2 < 1920 := fun {n} h => by
    by_cases h0 : n = 0
    · rw [h0]; decide
    · have := (Nat.log2_lt h0).mpr h
      omega
  have l2 : ∀ {n : Nat}, n < 2 ^ 1000 → (TL.numL n).length ≤ 1000 := fun {n} h => TL.numL_len (by decide) (Nat.lt_of_lt_of_le h (Nat.pow_le_pow_left (by decide) _))
  refine ⟨?_, rfl, by simp [pairD, PyData.depth, PyData.depthAll], ?_⟩
  · simp [pairD, PyData.showable, PyData.showableAll, l1 hp, l1 hq]
  · have e := strT (pairD p q).shown
    have e2 : (pairD p q).shown.length = (shT (pairD p q)).length := by
      conv => lhs; rw [e]
      rw [T_len]
      rfl
    rw [e2, sh_pair]
    have := l2 hp
    have := l2 hq
    simp only [List.length_append, List.length_cons, List.length_nil]
    exact le_line (by omega)
theorem no_e (p q : Nat) (i : Nat) : ¬ At (shT (pairD p q)) [101] i := by
  rintro ⟨h, _⟩
  have hm : 101 ∈ shT (pairD p q) := by
    have h2 : (101 : Nat) ∈ ((shT (pairD p q)).drop i).take [101].length := by rw [h]; exact List.mem_singleton.mpr rfl
    exact List.mem_of_mem_drop (List.mem_of_mem_take h2)
  rw [sh_pair] at hm
  simp only [List.mem_append] at hm
  have f : ∀ n, 101 ∉ TL.numL n := fun n => TL.numL_free (.inr (by decide))
  rcases hm with (((h | h) | h) | h) | h
  · simp at h
  · exact f p h
  · simp at h
  · exact f q h
  · simp at h
theorem ok__law_value_right {f : Addr} {fd : FuncData} (F : Fun K "_law_value_right" "_law_value_right" s__law_value_right f fd) (B : Blt mg) (rp : mg "repr" = none) (dg : PySem.W.nsIn K cStatics "sys.int_max_str_digits" = some none)
    (h__law_moment : Has P w K mg base "_law_moment" 3 ["pool"] spMoment) (h_value : HasG ["moment"] @oneG P w K mg base "value" 3 ["moment"] spValue) (h__law_divisor : Has P w K mg base "_law_divisor" 1 ["one", "other"] spDivisor)
    (h__law_signs : Has P w K mg base "_law_signs" 1 ["head", "ring", "size"] spSigns) (h__law_two : Has P w K mg base "_law_two" 1 ["size"] spTwo) : FnQ P w K mg base 4 f fd ["pool"] spValueRight := by
  have sc := sc__law_value_right
  obtain ⟨f__law_moment, fd__law_moment, mg__law_moment, kp__law_moment, b__law_moment, G__law_moment⟩ := h__law_moment
  obtain ⟨f_value, fd_value, mg_value, kp_value, b_value, KB_value_moment, G_value⟩ := h_value
  obtain ⟨f__law_divisor, fd__law_divisor, mg__law_divisor, kp__law_divisor, b__law_divisor, G__law_divisor⟩ := h__law_divisor
  obtain ⟨f__law_signs, fd__law_signs, mg__law_signs, kp__law_signs, b__law_signs, G__law_signs⟩ := h__law_signs
  obtain ⟨f__law_two, fd__law_two, mg__law_two, kp__law_two, b__law_two, G__law_two⟩ := h__law_two
  refine fnQ F sc (fun vs H Q E h => ?_) (fun cdv A qa outer s H vs Q E hr h => ?_)
  · obtain ⟨p, n, rfl, _⟩ := h
    rfl
  · obtain ⟨p, n, rfl, hp, hn, k⟩ := h
    refine ⟨_, (pss_cons (ps_asg (pe_call G__law_moment (hr.mono (by decide)) (by rfl) mg__law_moment kp__law_moment b__law_moment .nil pass0 (pa_cons (pv 0) pa_nil)) (pg_tup (by rfl) (pgs_cons (pg_name (i := 1) sc.nd rfl (by first | exact Or.inl rfl | exact Or.inr rfl)) (pgs_cons (pg_name (i := 2) sc.nd rfl (by first | exact Or.inl rfl | exact Or.inr rfl)) pgs_nil))))
    (pss_cons (ps_asg (pe_call G_value (hr.mono (by decide)) (by rfl) mg_value kp_value b_value .nil pass0 (pa_cons (pe_tup (pa_cons (pv 1) (pa_cons (pv 2) pa_nil))) pa_nil)) (pg_tup (by rfl) (pgs_cons (pg_name (i := 3) sc.nd rfl (by first | exact Or.inl rfl | exact Or.inr rfl)) (pgs_cons (pg_name (i := 4) sc.nd rfl (by first | exact Or.inl rfl | exact Or.inr rfl)) pgs_nil))))
    (pss_cons (ps_if (PW.pt (pw_or (pt_cmpR op_neT (pe_callB (call_reprD qa hr) (by rfl) rp (by decide +kernel) (pa_cons (pe_callK0 G_value (hr.mono (by decide)) (by rfl) mg_value kp_value KB_value_moment pass0 (pk_cons (pe_tup (pa_cons (pv 1) (pa_cons (pv 2) pa_nil))) pk_nil)) pa_nil)) (pe_callB (call_reprD qa hr) (by rfl) rp (by decide +kernel) (pa_cons (pe_tup (pa_cons (pv 3) (pa_cons (pv 4) pa_nil))) pa_nil)) (nomark _)) (pw_or1 (pt_cmpR op_inT (pe_strT [101] (by decide +kernel)) (pe_callB (call_reprD qa hr) (by rfl) rp (by decide +kernel) (pa_cons (pe_tup (pa_cons (pv 3) (pa_cons (pv 4) pa_nil))) pa_nil)) rfl)))) (pss_one (ps_ret pe_bl)) pss_nil)
    (pss_cons (ps_if (PW.pt (pw_or (pt_cmpR op_ne (pe_call G__law_divisor (hr.mono (by decide)) (by rfl) mg__law_divisor kp__law_divisor b__law_divisor .nil pass0 (pa_cons (pv 3) (pa_cons (pv 4) pa_nil))) pe_int (nomark _)) (pw_or1 (pt_cmpR op_lt (pv 4) pe_int (nomark _))))) (pss_one (ps_ret pe_bl)) pss_nil)
    (pss_cons (ps_for PassesOwn.never rfl (pi_tup (pe_tup (pa_cons (pe_callB call_lenT (by rfl) B.len PySem.boot_len (pa_cons (pv 1) pa_nil)) (pa_cons (pe_op op_add (pe_callB call_lenT (by rfl) B.len PySem.boot_len (pa_cons (pv 1) pa_nil)) (pe_callB call_lenT (by rfl) B.len PySem.boot_len (pa_cons (pv 2) pa_nil))) (pa_cons (pe_op op_add (pe_op op_add (pe_callB call_lenT (by rfl) B.len PySem.boot_len (pa_cons (pv 1) pa_nil)) (pe_op op_mulW pe_int (pe_callB call_lenT (by rfl) B.len PySem.boot_len (pa_cons (pv 2) pa_nil)))) pe_int) pa_nil))))) (pg_name (i := 5) sc.nd rfl (by first | exact Or.inl rfl | exact Or.inr rfl))
      (pss_cons (ps_set (i := 6) sc.nd rfl (by first | exact Or.inl rfl | exact Or.inr rfl) pe_int)
    (pss_cons (ps_for PassesOwn.never rfl (pi_str (pe_call G__law_signs (hr.mono (by decide)) (by rfl) mg__law_signs kp__law_signs b__law_signs .nil pass0 (pa_cons (pv 1) (pa_cons (pv 2) (pa_cons (pv 5) pa_nil))))) (pg_name (i := 7) sc.nd rfl (by first | exact Or.inl rfl | exact Or.inr rfl))
      (pss_one (ps_set (i := 6) sc.nd rfl (by first | exact Or.inl rfl | exact Or.inr rfl) (pe_op op_add (pe_op op_mulW pe_int (pv 6)) (pe_callTy call_int_str (by rfl) B.int (by decide +kernel) (pa_cons (pv 7) pa_nil))))))
    (pss_one (ps_if (pt_not (pt_chain op_le op_le (pe_op op_mulW (pv 6) (pv 4)) (pe_op op_mulW (pv 3) (pe_call G__law_two (hr.mono (by decide)) (by rfl) mg__law_two kp__law_two b__law_two .nil pass0 (pa_cons (pv 5) pa_nil))) (pe_op op_mulW (pe_op op_add (pv 6) pe_int) (pv 4)))) (pss_one (ps_ret pe_bl)) pss_nil)))))
    (pss_cons (ps_set (i := 8) sc.nd rfl (by first | exact Or.inl rfl | exact Or.inr rfl) (pe_op op_sub (pe_op op_mulW (pv 3) (pe_call G__law_two (hr.mono (by decide)) (by rfl) mg__law_two kp__law_two b__law_two .nil pass0 (pa_cons (pe_callB call_lenT (by rfl) B.len PySem.boot_len (pa_cons (pv 1) pa_nil)) pa_nil))) (pe_op op_mulW (pv 4) (pe_callTy (call_int2b dg) (by rfl) B.int (by decide +kernel) (pa_cons (pe_op op_addT (pe_strT [48] (by decide +kernel)) (pv 1)) (pa_cons pe_int pa_nil))))))
    (pss_one (ps_ret (pe_cmpR op_eq (pe_op op_sub (pe_op op_mulW (pv 8) (pe_call G__law_two (hr.mono (by decide)) (by rfl) mg__law_two kp__law_two b__law_two .nil pass0 (pa_cons (pe_callB call_lenT (by rfl) B.len PySem.boot_len (pa_cons (pv 2) pa_nil)) pa_nil))) (pe_op op_mulW (pv 4) (pe_callTy (call_int2b dg) (by rfl) B.int (by decide +kernel) (pa_cons (pv 2) (pa_cons pe_int pa_nil))))) (pv 8) (nomark _)))))))))), ?_⟩
    refine ⟨_, rfl, p, n, rfl, hp, by omega, fun H1 t hd r s1 p1 mm bh br lh l1 lr => ?_⟩
    refine ⟨t, _, rfl, SqT.of mm, rfl, _, _, rfl, _, _, rfl, rfl, ?_⟩
    have M : Mom hd r := ⟨bh, br, by omega, l1, by omega⟩
    have hVB0 := VB_pos (h := hd) l1
    have hW : WW r < 2 ^ 12 := lt_pow2 (b := r.length) (by unfold WW; have := Nat.pow_pos (n := r.length) (show 0 < 2 by decide); omega) lr
    have hVB : VB hd r < 2 ^ 72 := by
      unfold VB
      have : 2 ^ hd.length ≤ 2 ^ 60 := Nat.pow_le_pow_right (by decide) lh
      calc WW r * 2 ^ hd.length ≤ (2 ^ 12 - 1) * 2 ^ 60 := Nat.mul_le_mul (by omega) this
        _ < 2 ^ 72 := by decide
    have hVT := VT_le bh br (h := hd) (r := r)
    have gpos : 0 < Nat.gcd (VT hd r) (VB hd r) := Nat.gcd_pos_of_pos_right _ hVB0
    have g1 : Nat.gcd (VT hd r) (VB hd r) * (VT hd r / Nat.gcd (VT hd r) (VB hd r)) = VT hd r := Nat.mul_div_cancel' (Nat.gcd_dvd_left _ _)
    have g2 : Nat.gcd (VT hd r) (VB hd r) * (VB hd r / Nat.gcd (VT hd r) (VB hd r)) = VB hd r := Nat.mul_div_cancel' (Nat.gcd_dvd_right _ _)
    have cop : Nat.gcd (VT hd r / Nat.gcd (VT hd r) (VB hd r)) (VB hd r / Nat.gcd (VT hd r) (VB hd r)) = 1 := Nat.coprime_div_gcd_div_gcd gpos
    refine ⟨_, rfl, _, rfl, (by show 2 ≤ sizeLine; decide), fun u hu => ?_⟩
    refine ⟨u, hd, r, VT hd r, VB hd r, rfl, upd_same, M, hVB0, lt_pow2 hVB (by decide), Nat.mul_comm _ _, fun H2 v s2 hv => ?_⟩
    generalize hpp : VT hd r / Nat.gcd (VT hd r) (VB hd r) = pp at *
    generalize hqq : VB hd r / Nat.gcd (VT hd r) (VB hd r) = qq at *
    generalize hgg : Nat.gcd (VT hd r) (VB hd r) = gg at *
    have hpq : pp ≤ qq := by
      have h9 : gg * pp ≤ gg * qq := by rw [g1, g2]; exact hVT
      exact Nat.le_of_mul_le_mul_left h9 gpos
    have hq72 : qq < 2 ^ 72 := by
      have : 1 * qq ≤ gg * qq := Nat.mul_le_mul_right _ gpos
      omega
    have hq1 : 1 ≤ qq := by
      refine Nat.pos_of_ne_zero fun q => ?_
      rw [q, Nat.mul_zero] at g2
      omega
    have P4 := pair_ok (p := pp) (q := qq) (lt_pow2 (b := 72) (by omega) (by decide)) (lt_pow2 hq72 (by decide))
    have dp : ∀ {G : Hp} {a : Addr}, G a = some (.tup [.int (pp : Int), .int (qq : Int)]) → Dp K G (.ref a) (pairD pp qq) := fun h => .tup (SqT.of h) (.cons (.int _) (.cons (.int _) .nil))
    refine ⟨v, _, rfl, SqT.of hv, rfl, _, _, rfl, _, _, rfl, rfl, ?_⟩
    refine ⟨_, rfl, _, rfl, (by show 2 ≤ sizeLine; decide), fun u2 hu2 => ⟨u2, hd, r, VT hd r, VB hd r, rfl, upd_same, M, hVB0, lt_pow2 hVB (by decide), Nat.mul_comm _ _, fun H3 v2 s3 hv2 => ?_⟩⟩
    rw [hgg, hpp, hqq] at hv2
    refine ⟨v2, pairD pp qq, rfl, dp hv2, P4.1, P4.2.1, P4.2.2.1, P4.2.2.2, ?_⟩
    refine ⟨_, rfl, _, rfl, (by show 2 ≤ sizeLine; decide), fun u3 hu3 => ⟨u3, pairD pp qq, rfl, dp upd_same, P4.1, P4.2.1, P4.2.2.1, P4.2.2.2, ?_⟩⟩
    refine ⟨_, _, rfl, rfl, _, rfl, ?_⟩
    rw [decide_eq_true rfl]
    refine iteF ?_
    refine ⟨_, rfl, _, rfl, (by show 2 ≤ sizeLine; decide), fun u4 hu4 => ⟨u4, pairD pp qq, rfl, dp upd_same, P4.1, P4.2.1, P4.2.2.1, P4.2.2.2, ?_⟩⟩
    refine ⟨[101], shT (pairD pp qq), rfl, rfl, fun b hb => ?_⟩
    have hbf : b = false := by
      cases b with
      | false => rfl
      | true =>
        obtain ⟨i, hi⟩ := hb.mp rfl
        exact absurd hi (no_e _ _ _)
    subst hbf
    refine ⟨_, rfl, iteF ?_⟩
    -- lowest terms
    refine ⟨_, rfl, _, rfl, pp, qq, rfl, rfl, _, rfl, ?_⟩
    rw [cop]
    refine iteNS rfl ?_
    refine ⟨_, rfl, _, _, rfl, rfl, _, rfl, ?_⟩
    rw [decide_eq_false (by omega : ¬ ((qq : Int) < 1))]
    refine iteF ?_
    -- the three sizes
    refine ⟨_, rfl, hd, rfl, le_line (by omega), _, rfl, hd, rfl, le_line (by omega), _, rfl, r, rfl, le_line (by omega), _, _, rfl, rfl, ?_⟩
    refine ⟨_, rfl, hd, rfl, le_line (by omega), _, rfl, r, rfl, le_line (by omega), _, _, rfl, rfl, ?_, _, _, rfl, rfl, _, _, rfl, rfl, (by show 3 ≤ sizeLine; decide), fun tt htt => ?_⟩
    · exact wide_mul (a := 10) (b := 60) (by decide) (by rw [Int.natAbs_natCast]; omega) (by decide) (by decide) (by decide)
    refine ⟨tt, rfl, ⟨_, SqT.of upd_same⟩, ?_⟩
    have fin : ∀ (G : Hp), SB p H G → PoolAt G p (n + 1000) → Q (.bl true) G := k
    have nx1 : ∀ {c : Addr} {o : HO}, H3 c = some o → L2.upd (L2.upd (L2.upd H3 u3 (.tup [.int (pp : Int), .int (qq : Int)])) u4 (.tup [.int (pp : Int), .int (qq : Int)])) tt (.tup [.int (hd.length : Int), .int ((hd.length : Int) + (r.length : Int)), .int ((hd.length : Int) + 7 * (r.length : Int) + 5)]) c = some o := fun {c o} hc => by
      exact Same.new htt _ _ (Same.new hu4 _ _ (Same.new hu3 _ _ hc))
    have hH : SB p H (L2.upd (L2.upd (L2.upd H3 u3 (.tup [.int (pp : Int), .int (qq : Int)])) u4 (.tup [.int (pp : Int), .int (qq : Int)])) tt (.tup [.int (hd.length : Int), .int ((hd.length : Int) + (r.length : Int)), .int ((hd.length : Int) + 7 * (r.length : Int) + 5)])) := fun c o hc nc => nx1 (s3 _ _ (Same.new hu2 _ _ (s2 _ _ (Same.new hu _ _ (s1 _ _ hc nc)))))
    have hP : PoolAt (L2.upd (L2.upd (L2.upd H3 u3 (.tup [.int (pp : Int), .int (qq : Int)])) u4 (.tup [.int (pp : Int), .int (qq : Int)])) tt (.tup [.int (hd.length : Int), .int ((hd.length : Int) + (r.length : Int)), .int ((hd.length : Int) + 7 * (r.length : Int) + 5)])) p (n + 1000) :=
      ((p1.mono (by omega)).same (fun c o hc => nx1 (s3 _ _ (Same.new hu2 _ _ (s2 _ _ (Same.new hu _ _ hc))))))
    have hSq : SqT K (L2.upd (L2.upd (L2.upd H3 u3 (.tup [.int (pp : Int), .int (qq : Int)])) u4 (.tup [.int (pp : Int), .int (qq : Int)])) tt (.tup [.int (hd.length : Int), .int ((hd.length : Int) + (r.length : Int)), .int ((hd.length : Int) + 7 * (r.length : Int) + 5)])) tt [.int (hd.length : Int), .int ((hd.length : Int) + (r.length : Int)), .int ((hd.length : Int) + 7 * (r.length : Int) + 5)] := SqT.of upd_same
    generalize L2.upd (L2.upd (L2.upd H3 u3 (.tup [.int (pp : Int), .int (qq : Int)])) u4 (.tup [.int (pp : Int), .int (qq : Int)])) tt (.tup [.int (hd.length : Int), .int ((hd.length : Int) + (r.length : Int)), .int ((hd.length : Int) + 7 * (r.length : Int) + 5)]) = G at hH hP hSq ⊢
    refine for_tup (K := K) (a := tt) (xs := [.int (hd.length : Int), .int ((hd.length : Int) + (r.length : Int)), .int ((hd.length : Int) + 7 * (r.length : Int) + 5)])
      (fun i σ G' => G' = G ∧ ∃ x5 x6 x7 x8 : Option V, σ = [some (.ref p), some (.str (T hd)), some (.str (T r)), some (.int (pp : Int)), some (.int (qq : Int)), x5, x6, x7, x8]) ⟨rfl, _, _, _, _, rfl⟩ (fun i σ G' _ ⟨e, _⟩ => by rw [e]; exact hSq) ?_ ?_
    · rintro i x σ G' hi ⟨rfl, x5, x6, x7, x8, rfl⟩
      obtain ⟨sz, rfl, hsz⟩ : ∃ sz : Nat, x = .int (sz : Int) ∧ sz ≤ 150 := by
        match i, hi with
        | 0, hi => exact ⟨hd.length, (Option.some.inj hi).symm, by omega⟩
        | 1, hi => exact ⟨hd.length + r.length, (Option.some.inj hi).symm.trans (by simp), by omega⟩
        | 2, hi => exact ⟨hd.length + 7 * r.length + 5, (Option.some.inj hi).symm.trans (by simp), by omega⟩
        | i + 3, hi => exact absurd hi (by simp)
      refine ⟨_, rfl, _, rfl, _, rfl, hd, r, sz, rfl, by omega, l1, by omega, by omega, ?_⟩
      refine ⟨_, rfl, ?_⟩
      have hsl : (sg hd r sz).length = sz := by rw [sg_eq l1, L_len]
      have hbin : Bin (sg hd r sz) := by rw [sg_eq l1]; exact L_bin (val_bin bh br l1)
      refine for_its (z := sg hd r sz) (fun i σ G2 => G2 = G' ∧ ∃ x7 x8 : Option V, σ = [some (.ref p), some (.str (T hd)), some (.str (T r)), some (.int (pp : Int)), some (.int (qq : Int)), some (.int (sz : Int)), some (.int ((num ((sg hd r sz).take i) : Nat) : Int)), x7, x8]) ⟨rfl, _, _, rfl⟩ ?_ ?_
      · rintro j c σ G2 hj ⟨rfl, x7, x8, rfl⟩
        have hjl : j < (sg hd r sz).length := (List.getElem?_eq_some_iff.mp hj).1
        have hc := hbin c (List.mem_of_getElem? hj)
        have hb2 : num ((sg hd r sz).take j) < 2 ^ 150 := lt_pow2 (num_lt (hbin.take j)) (by rw [List.length_take]; omega)
        refine ⟨_, rfl, _, _, rfl, rfl, wide_mul (a := 10) (b := 150) (by decide) (by rw [Int.natAbs_natCast]; exact hb2) (by decide) (by decide) (by decide), _, rfl, _, _, rfl, val01 hc, by rw [T_len]; show 1 ≤ 640; decide, _, _, rfl, rfl, ?_⟩
        refine ⟨rfl, some (.str (T [c])), x8, ?_⟩
        have e : (2 : Int) * ((num ((sg hd r sz).take j) : Nat) : Int) + ((c - 48 : Nat) : Int) = ((num ((sg hd r sz).take (j + 1)) : Nat) : Int) := by
          have e1 : (sg hd r sz).take (j + 1) = (sg hd r sz).take j ++ [c] := by
            rw [List.take_add_one, hj]
            rfl
          rw [e1, num_app]
          have e2 : num [c] = c - 48 := by
            show (c - 48) * 2 ^ 0 + 0 = _
            simp
          rw [e2, List.length_singleton, Nat.pow_one, Int.natCast_add, Int.natCast_mul, Int.mul_comm]
          rfl
        rw [← e]
        rfl
      · rintro σ G2 ⟨rfl, x7, x8, rfl⟩
        rw [List.take_length, sg_eq l1]
        obtain ⟨b1, b2⟩ := bracket sz bh br l1
        have c1 : AA sz (val hd r) * qq ≤ pp * 2 ^ sz := by
          have h9 : gg * (AA sz (val hd r) * qq) ≤ gg * (pp * 2 ^ sz) := by
            rw [Nat.mul_left_comm, g2, ← Nat.mul_assoc, g1]
            exact b1
          exact Nat.le_of_mul_le_mul_left h9 gpos
        have c2 : pp * 2 ^ sz ≤ (AA sz (val hd r) + 1) * qq := by
          have h9 : gg * (pp * 2 ^ sz) ≤ gg * ((AA sz (val hd r) + 1) * qq) := by
            rw [Nat.mul_left_comm gg (AA sz (val hd r) + 1), g2, ← Nat.mul_assoc, g1]
            exact b2
          exact Nat.le_of_mul_le_mul_left h9 gpos
        have hA : AA sz (val hd r) < 2 ^ 150 := lt_pow2 (b := sz) (by have := num_lt (l := L sz (val hd r)) (L_bin (val_bin bh br l1)); rwa [L_len] at this) hsz
        have h2s : 2 ^ sz < 2 ^ 151 := Nat.pow_lt_pow_right (by decide) (by omega)
        have eA : num (L sz (val hd r)) = AA sz (val hd r) := rfl
        rw [eA]
        generalize AA sz (val hd r) = Az at *
        have q80 : ((qq : Nat) : Int).natAbs < 2 ^ 80 := by rw [Int.natAbs_natCast]; omega
        have p80 : ((pp : Nat) : Int).natAbs < 2 ^ 80 := by rw [Int.natAbs_natCast]; omega
        have a160 : ((Az : Nat) : Int).natAbs < 2 ^ 160 := by rw [Int.natAbs_natCast]; omega
        have t160 : ((2 ^ sz : Nat) : Int).natAbs < 2 ^ 160 := by rw [Int.natAbs_natCast]; omega
        refine ⟨_, rfl, _, rfl, _, _, rfl, rfl, wide_mul a160 q80 (by decide) (by decide) (by decide), ?_⟩
        refine ⟨_, rfl, _, rfl, sz, rfl, by omega, _, _, rfl, rfl, wide_mul p80 t160 (by decide) (by decide) (by decide), _, _, rfl, rfl, _, rfl, ?_⟩
        rw [decide_eq_true (show ((Az : Nat) : Int) * ((qq : Nat) : Int) ≤ ((pp : Nat) : Int) * ((2 ^ sz : Nat) : Int) by exact_mod_cast c1)]
        refine iteT ⟨_, rfl, _, _, rfl, rfl, _, rfl, _, _, rfl, rfl, wide_mul (a := 160) (by omega) q80 (by decide) (by decide) (by decide), _, _, rfl, rfl, _, rfl, ?_⟩
        rw [decide_eq_true (show ((pp : Nat) : Int) * ((2 ^ sz : Nat) : Int) ≤ (((Az : Nat) : Int) + 1) * ((qq : Nat) : Int) by exact_mod_cast c2)]
        exact iteF ⟨rfl, _, _, _, _, rfl⟩
    · rintro σ G' ⟨rfl, x5, x6, x7, x8, rfl⟩
      have hnb : num hd < 2 ^ 60 := lt_pow2 (num_lt bh) lh
      have hrb : num r < 2 ^ 12 := lt_pow2 (num_lt br) lr
      have h2h : 2 ^ hd.length < 2 ^ 61 := Nat.pow_lt_pow_right (by decide) (by omega)
      have h2r : 2 ^ r.length < 2 ^ 13 := Nat.pow_lt_pow_right (by decide) (by omega)
      have q80 : ((qq : Nat) : Int).natAbs < 2 ^ 80 := by rw [Int.natAbs_natCast]; omega
      have p80 : ((pp : Nat) : Int).natAbs < 2 ^ 80 := by rw [Int.natAbs_natCast]; omega
      have th : ((2 ^ hd.length : Nat) : Int).natAbs < 2 ^ 80 := by rw [Int.natAbs_natCast]; omega
      have tr : ((2 ^ r.length : Nat) : Int).natAbs < 2 ^ 80 := by rw [Int.natAbs_natCast]; omega
      have nh : ((num hd : Nat) : Int).natAbs < 2 ^ 80 := by rw [Int.natAbs_natCast]; omega
      have nr : ((num r : Nat) : Int).natAbs < 2 ^ 80 := by rw [Int.natAbs_natCast]; omega
      have e48 : num (48 :: hd) = num hd := by
        show 0 * _ + num hd = num hd
        rw [Nat.zero_mul, Nat.zero_add]
      have m1 := wide_lt p80 th
      have m2 := wide_lt q80 nh
      refine ⟨_, rfl, _, rfl, hd, rfl, le_line (by omega), hd.length, rfl, by omega, _, _, rfl, rfl, wide_mul p80 th (by decide) (by decide) (by decide), ?_⟩
      refine ⟨_, rfl, _, rfl, [48], hd, rfl, rfl, le_line (by show 1 + _ ≤ _; omega), 48 :: hd, rfl, by simp, ?_, ?_⟩
      · intro c hc
        rcases List.mem_cons.mp hc with e | e
        · exact .inl e
        · exact bh c e
      rw [e48]
      refine ⟨_, _, rfl, rfl, wide_mul q80 nh (by decide) (by decide) (by decide), _, _, rfl, rfl, ?_⟩
      refine ⟨_, rfl, _, rfl, r, rfl, le_line (by omega), r.length, rfl, by omega, _, _, rfl, rfl, wide_mul (a := 170) (by omega) tr (by decide) (by decide) (by decide), ?_⟩
      refine ⟨_, rfl, _, rfl, r, rfl, fun e => by rw [e] at l1; exact absurd l1 (by decide), br, _, _, rfl, rfl, wide_mul q80 nr (by decide) (by decide) (by decide), _, _, rfl, rfl, _, rfl, rfl, ?_⟩
      have key : ((pp : Nat) : Int) * ((2 ^ hd.length : Nat) : Int) * (((2 ^ r.length : Nat) : Int) - 1) = ((qq : Nat) : Int) * ((num hd : Nat) : Int) * (((2 ^ r.length : Nat) : Int) - 1) + ((qq : Nat) : Int) * ((num r : Nat) : Int) := by
        have e1 : pp * VB hd r = qq * VT hd r := by rw [← g1, ← g2, Nat.mul_left_comm, Nat.mul_left_comm qq, Nat.mul_comm qq]
        unfold VB VT at e1
        have e2 : ((WW r : Nat) : Int) = ((2 ^ r.length : Nat) : Int) - 1 := by
          unfold WW
          have := Nat.pow_pos (n := r.length) (show 0 < 2 by decide)
          omega
        have e3 : ((pp * (WW r * 2 ^ hd.length) : Nat) : Int) = ((qq * (num hd * WW r + num r) : Nat) : Int) := congrArg _ e1
        rw [← e2]
        simp only [Int.natCast_mul, Int.natCast_add] at e3
        rw [Int.mul_assoc, Int.mul_comm ((2 ^ hd.length : Nat) : Int), e3, Int.mul_add, Int.mul_assoc]
      have fin2 : (((pp : Nat) : Int) * ((2 ^ hd.length : Nat) : Int) - ((qq : Nat) : Int) * ((num hd : Nat) : Int)) * ((2 ^ r.length : Nat) : Int) - ((qq : Nat) : Int) * ((num r : Nat) : Int) = ((pp : Nat) : Int) * ((2 ^ hd.length : Nat) : Int) - ((qq : Nat) : Int) * ((num hd : Nat) : Int) := by
        generalize ((pp : Nat) : Int) * ((2 ^ hd.length : Nat) : Int) = A1 at *
        generalize ((qq : Nat) : Int) * ((num hd : Nat) : Int) = A2 at *
        generalize ((qq : Nat) : Int) * ((num r : Nat) : Int) = A3 at *
        generalize ((2 ^ r.length : Nat) : Int) = A4 at *
        rw [Int.mul_sub, Int.mul_sub, Int.mul_one, Int.mul_one] at key
        rw [Int.sub_mul]
        omega
      show Q (.bl (decide (V.int _ = V.int _))) _
      rw [decide_eq_true (congrArg V.int fin2)]
      exact fin _ hH hP
end
end HC

namespace HC
open PySem PySem.Spec PyProof.Rows L2
/-! ## the moments with a value -/
theorem L_val_h (h r : List Nat) : L h.length (val h r) = h := (L_ext rfl fun i hi => by
  unfold val
  rw [if_pos hi, List.getD_eq_getElem?_getD, List.getElem?_eq_getElem hi]
  rfl).symm
theorem L_val_r {h r : List Nat} : L r.length (fun i => val h r (h.length + i)) = r := (L_ext rfl fun i hi => by
  unfold val
  rw [if_neg (by omega), show h.length + i - h.length = i by omega]
  exact cyc_lt hi).symm
/-- a plain moment with the value t / b -/
structure GoodM (t b : Nat) (m : List Nat × List Nat) : Prop where
  bh : Bin m.1
  br : Bin m.2
  lh : m.1.length ≤ 10000
  l1 : 1 ≤ m.2.length
  lr : m.2.length ≤ 10000
  ps : PlainS (val m.1 m.2) m.1.length m.2.length
  ve : t * VB m.1 m.2 = b * VT m.1 m.2
theorem per1 (c : Nat) : Per [c] 1 := ⟨Nat.le_refl _, Nat.le_refl _, fun i => by
  have e : ∀ i, cyc [c] i = c := fun i => by
    unfold cyc
    have : i % [c].length = 0 := Nat.mod_one i
    rw [this]
    rfl
  rw [e, e], fun j h1 h2 => by omega⟩
theorem cyc1 (c i : Nat) : cyc [c] i = c := by
  unfold cyc
  have : i % [c].length = 0 := Nat.mod_one i
  rw [this]
  rfl
theorem good_end {b : Nat} (hb : 1 ≤ b) : GoodM b b ([], [49]) where
  bh := Bin.nil
  br := fun c hc => .inr (List.mem_singleton.mp hc)
  lh := Nat.zero_le _
  l1 := Nat.le_refl _
  lr := by decide
  ps := plain_of (h := []) (r := [49]) (per1 49) (Nat.le_refl _) (fun i _ h2 => absurd h2 (Nat.not_lt_zero _)) (.inl rfl)
  ve := by
    have e1 : VB [] [49] = 1 := by decide
    have e2 : VT [] [49] = 1 := by decide
    show b * VB [] [49] = b * VT [] [49]
    rw [e1, e2]
theorem val_DD {t b i j : Nat} (p : FR t b i j) (ht : t < b) : val (L j (DD t b)) (L (i - j) fun m => DD t b (j + m)) = DD t b := by
  have ps := p.plain ht
  funext x
  have := val_L (s := DD t b) (b := j) ps.pos x
  rw [this]
  by_cases c : x < j
  · rw [if_pos c]
  · rw [if_neg c, CC_mod ps.c, show j + (x - j) = x by omega]
theorem good_one {t b i j : Nat} (p : FR t b i j) (ht : t < b) (hi : i ≤ b) (hb : b ≤ 10000) : GoodM t b (L j (DD t b), L (i - j) fun m => DD t b (j + m)) where
  bh := L_bin (DD_bin ht)
  br := L_bin fun m => DD_bin ht _
  lh := by have := p.lt; show (L j _).length ≤ _; rw [L_len]; omega
  l1 := by have := p.lt; show 1 ≤ (L (i - j) _).length; rw [L_len]; omega
  lr := by show (L (i - j) _).length ≤ _; rw [L_len]; omega
  ps := by
    show PlainS (val (L j (DD t b)) (L (i - j) fun m => DD t b (j + m))) (L j (DD t b)).length (L (i - j) fun m => DD t b (j + m)).length
    rw [val_DD p ht, L_len, L_len]
    exact p.plain ht
  ve := by
    rw [Nat.mul_comm b]
    exact p.val.symm
/-- where the ring is 0, the last sign ahead of it is 1 -/
theorem last1 {t b i j : Nat} (p : FR t b i j) (ht : t < b) (k1 : i - j = 1) (d0 : DD t b j = 48) (hj : j ≠ 0) : DD t b (j - 1) = 49 := by
  have ps := p.plain ht
  rcases DD_bin ht (j - 1) with e | e
  · have c0 : ∀ x, j ≤ x → DD t b x = 48 := by
      intro x hx
      have : ∀ n, DD t b (j + n) = 48 := by
        intro n
        induction n with
        | zero => exact d0
        | succ n ih =>
          have := ps.c (j + n) (by omega)
          rw [k1] at this
          rw [← Nat.add_assoc, this, ih]
      have := this (x - j)
      rwa [show j + (x - j) = x by omega] at this
    have : CC (DD t b) (j - 1) (i - j) := by
      intro x hx
      rw [k1]
      by_cases q : x = j - 1
      · rw [q, e, c0 _ (by omega)]
      · rw [c0 x (by omega), c0 (x + 1) (by omega)]
    have := ps.bmin _ this
    omega
  · exact e
theorem good_two {t b i j : Nat} (p : FR t b i j) (ht : t < b) (hi : i ≤ b) (hb : b ≤ 10000) (k1 : i - j = 1) (d0 : DD t b j = 48) (hj : j ≠ 0) :
    GoodM t b ((L j (DD t b)).dropLast ++ [48], [49]) ∧ Bef (val ((L j (DD t b)).dropLast ++ [48]) [49]) (val (L j (DD t b)) [48]) ∧ (L (i - j) fun m => DD t b (j + m)) = [48] := by
  have er : (L (i - j) fun m => DD t b (j + m)) = [48] := by
    rw [k1]
    show [DD t b (j + 0)] = [48]
    rw [Nat.add_zero, d0]
  obtain ⟨n, rfl⟩ : ∃ n, j = n + 1 := ⟨j - 1, by omega⟩
  have h49 : DD t b n = 49 := last1 p ht k1 d0 hj
  have e1 : L (n + 1) (DD t b) = L n (DD t b) ++ [49] := by rw [L_snoc4, h49]
  have e2 : (L (n + 1) (DD t b)).dropLast = L n (DD t b) := by rw [e1, List.dropLast_concat]
  have bn : Bin (L n (DD t b)) := L_bin (DD_bin ht)
  have gv := (good_one p ht hi hb).ve
  rw [er] at gv
  rw [e2]
  have v1 : ∀ x, x < n → val (L n (DD t b) ++ [48]) [49] x = DD t b x := fun x hx => by
    unfold val
    rw [if_pos (by rw [List.length_append, L_len]; omega), List.getD_eq_getElem?_getD, List.getElem?_append_left (by rw [L_len]; exact hx), L_get hx]
    rfl
  have v2 : val (L n (DD t b) ++ [48]) [49] n = 48 := by
    unfold val
    rw [if_pos (by rw [List.length_append, L_len]; exact Nat.lt_succ_self n), List.getD_eq_getElem?_getD, List.getElem?_append_right (by rw [L_len]; exact Nat.le_refl _), L_len, Nat.sub_self]
    rfl
  refine ⟨⟨bn.app fun c hc => .inl (List.mem_singleton.mp hc), fun c hc => .inr (List.mem_singleton.mp hc), ?_, Nat.le_refl _, (by show 1 ≤ 10000; decide), ?_, ?_⟩, ?_, er⟩
  · show (L n (DD t b) ++ [48]).length ≤ _
    rw [List.length_append, L_len]
    have := p.lt
    show n + 1 ≤ 10000
    omega
  · show PlainS (val (L n (DD t b) ++ [48]) [49]) (L n (DD t b) ++ [48]).length 1
    refine plain_of (per1 49) (Nat.le_refl _) (fun i h1 h2 => by omega) (.inr ?_)
    rw [List.length_append, L_len]
    show val _ _ n ≠ EE _ _ 1 n
    rw [v2]
    unfold EE
    rw [cyc1]
    decide
  · show t * VB (L n (DD t b) ++ [48]) [49] = b * VT (L n (DD t b) ++ [48]) [49]
    have f1 : VB (L n (DD t b) ++ [48]) [49] = VB (L (n + 1) (DD t b)) [48] := by
      unfold VB
      rw [List.length_append, L_len, L_len]
      rfl
    have f2 : VT (L n (DD t b) ++ [48]) [49] = VT (L (n + 1) (DD t b)) [48] := by
      unfold VT
      rw [e1, num_app, num_app]
      have w1 : WW [49] = 1 := by decide
      have w2 : WW [48] = 1 := by decide
      have n1 : num [48] = 0 := by decide
      have n2 : num [49] = 1 := by decide
      rw [w1, w2, n1, n2, List.length_singleton, List.length_singleton]
      omega
    rw [f1, f2]
    exact gv
  · refine ⟨n, fun x hx => ?_, ?_⟩
    · rw [v1 x hx]
      unfold val
      rw [if_pos (by rw [L_len]; omega), List.getD_eq_getElem?_getD, L_get (by omega)]
      rfl
    · rw [v2]
      unfold val
      rw [if_pos (by rw [L_len]; exact Nat.lt_succ_self n), List.getD_eq_getElem?_getD, L_get (Nat.lt_succ_self n)]
      show 48 < DD t b n
      rw [h49]
      decide
/-- one moment, or two -/
def IsH (t b : Nat) : Prop := 0 < t ∧ t < b ∧ 8192 % (b / Nat.gcd t b) = 0
theorem ms_cases {t b i j : Nat} (htb : t ≤ b) (h1 : 1 ≤ b) (hb : b ≤ 10000) (fr : t < b → FR t b i j ∧ i ≤ b) :
    (IsH t b ∧ ∃ m n, msAt t b i j = [m, n] ∧ GoodM t b m ∧ GoodM t b n ∧ Bef (val m.1 m.2) (val n.1 n.2)) ∨ (¬ IsH t b ∧ ∃ m, msAt t b i j = [m] ∧ GoodM t b m) := by
  by_cases e : t = b
  · subst e
    refine .inr ⟨fun q => Nat.lt_irrefl _ q.2.1, ([], [49]), ?_, good_end h1⟩
    unfold msAt
    rw [if_pos rfl]
  · have hlt : t < b := by omega
    obtain ⟨p, hi⟩ := fr hlt
    have key : IsH t b ↔ (i - j = 1 ∧ DD t b j = 48 ∧ j ≠ 0) := by
      constructor
      · rintro ⟨t0, _, hd⟩
        obtain ⟨k1, k2⟩ := (p.half t0 hlt hb).mpr (Nat.dvd_of_mod_eq_zero hd)
        refine ⟨k1, k2, fun j0 => ?_⟩
        subst j0
        have i1 : i = 1 := by omega
        subst i1
        have r1 : Rs t b 1 = Rs t b 0 := p.eq
        have e1 : (t * 2) % b = t := r1
        have e2 : t * 2 / b = 0 := by
          have : DD t b 0 = 48 := k2
          unfold DD Ds at this
          have : Rs t b 0 * 2 / b = 0 := by omega
          exact this
        have e3 := Nat.div_add_mod (t * 2) b
        rw [e1, e2, Nat.mul_zero] at e3
        omega
      · rintro ⟨k1, k2, k3⟩
        have t0 : 0 < t := by
          refine Nat.pos_of_ne_zero fun q => k3 ?_
          subst q
          have z : FR 0 b 1 0 := ⟨by decide, by show (0 * 2) % b = 0; rw [Nat.zero_mul, Nat.zero_mod], fun x y h1 h2 => by omega⟩
          exact (p.uniq z).2
        exact ⟨t0, hlt, Nat.mod_eq_zero_of_dvd ((p.half t0 hlt hb).mp ⟨k1, k2⟩)⟩
    by_cases c : i - j = 1 ∧ DD t b j = 48 ∧ j ≠ 0
    · obtain ⟨g1, g2, g3⟩ := good_two p hlt hi hb c.1 c.2.1 c.2.2
      have g4 := good_one p hlt hi hb
      rw [g3] at g4
      refine .inl ⟨key.mpr c, _, _, ?_, g1, g4, g2⟩
      unfold msAt
      rw [if_neg e, if_pos c]
    · refine .inr ⟨fun q => c (key.mp q), _, ?_, good_one p hlt hi hb⟩
      unfold msAt
      rw [if_neg e, if_neg c]
theorem ms_same {t b i j i2 j2 : Nat} (p : t < b → FR t b i j ∧ i ≤ b) (q : t < b → FR t b i2 j2 ∧ i2 ≤ b) (htb : t ≤ b) : msAt t b i2 j2 = msAt t b i j := by
  by_cases e : t = b
  · unfold msAt
    rw [if_pos e, if_pos e]
  · obtain ⟨rfl, rfl⟩ := (p (by omega)).1.uniq (q (by omega)).1
    rfl
/-- as data -/
def mD (m : List Nat × List Nat) : PyData := .tuple [.str (T m.1), .str (T m.2)]
def msD (ms : List (List Nat × List Nat)) : PyData := .list (ms.map mD)
theorem MomsL.dp {K : PySem.W.Frag} {H : Hp} : ∀ {as : List Addr} {ms : List (List Nat × List Nat)}, MomsL H as ms → DpAll K H (as.map V.ref) (ms.map mD)
  | [], [], _ => .nil
  | a :: as, m :: ms, h => .cons (.tup (SqT.of h.1) (.cons (.str _) (.cons (.str _) .nil))) (MomsL.dp h.2)
  | [], _ :: _, h => h.elim
  | _ :: _, [], h => h.elim
theorem MomsAt.dp {K : PySem.W.Frag} {H : Hp} {l : Addr} {ms : List (List Nat × List Nat)} (h : MomsAt H l ms) : Dp K H (.ref l) (msD ms) := by
  obtain ⟨as, h1, h2⟩ := h
  exact .lst (SqL.of h1) h2.dp
theorem MomsL.same {H H' : Hp} (s : Same H H') : ∀ {as : List Addr} {ms : List (List Nat × List Nat)}, MomsL H as ms → MomsL H' as ms
  | [], [], _ => True.intro
  | a :: as, m :: ms, h => ⟨h.1.same s, MomsL.same s h.2⟩
  | [], _ :: _, h => h.elim
  | _ :: _, [], h => h.elim
theorem MomsAt.same {H H' : Hp} {l : Addr} {ms : List (List Nat × List Nat)} (h : MomsAt H l ms) (s : Same H H') : MomsAt H' l ms := by
  obtain ⟨as, h1, h2⟩ := h
  exact ⟨as, s _ _ h1, h2.same s⟩
theorem mD_ok {m : List Nat × List Nat} (h1 : Bin m.1) (h2 : Bin m.2) : SeqAt.shaped (mD m) = true := by
  have o1 := strOk_T h1.cod
  have o2 := strOk_T h2.cod
  simp [mD, SeqAt.shaped, PyData.canLay0, PyData.canLayAll0, PyData.depth, PyData.depthAll, o1, o2]
theorem msD_ok1 {m : List Nat × List Nat} (h1 : Bin m.1) (h2 : Bin m.2) : SeqAt.shaped (msD [m]) = true := by
  have o1 := strOk_T h1.cod
  have o2 := strOk_T h2.cod
  simp [msD, mD, SeqAt.shaped, PyData.canLay0, PyData.canLayAll0, PyData.depth, PyData.depthAll, o1, o2]
theorem msD_ok2 {m n : List Nat × List Nat} (h1 : Bin m.1) (h2 : Bin m.2) (h3 : Bin n.1) (h4 : Bin n.2) : SeqAt.shaped (msD [m, n]) = true := by
  have o1 := strOk_T h1.cod
  have o2 := strOk_T h2.cod
  have o3 := strOk_T h3.cod
  have o4 := strOk_T h4.cod
  simp [msD, mD, SeqAt.shaped, PyData.canLay0, PyData.canLayAll0, PyData.depth, PyData.depthAll, o1, o2, o3, o4]
theorem mD_eqv (m : List Nat × List Nat) : PyData.eqv (mD m) (mD m) = true := by simp [mD, PyData.eqv, PyData.eqvAll]
theorem msD_eqv1 (m : List Nat × List Nat) : PyData.eqv (msD [m]) (msD [m]) = true := by simp [msD, mD, PyData.eqv, PyData.eqvAll]
theorem msD_eqv2 (m n : List Nat × List Nat) : PyData.eqv (msD [m, n]) (msD [m, n]) = true := by simp [msD, mD, PyData.eqv, PyData.eqvAll]
end HC

namespace HC
open PySem PySem.Spec PyProof.Rows L2
abbrev s__law_at_right : Stmt := top 32
abbrev N__law_at_right : List Str := ["pool", "denom", "numer", "told", "divisor", "is_half", "one"]
theorem sc__law_at_right : FnScope N__law_at_right ["pool"] (defScope s__law_at_right) := ⟨rfl, rfl, rfl, by decide +kernel, rfl, by decide +kernel, by decide +kernel⟩


def spAtRight : Sp := fun vs H Q _ => ∃ (p : Addr) (n : Nat), vs = [.ref p] ∧ PoolAt H p n ∧ n + 2000 < 2 ^ 30 ∧ ∀ H', SB p H H' → PoolAt H' p (n + 1000) → Q (.bl true) H'
theorem pick4 {a b c d r : Nat} (h : r < 4) : ∃ m : Nat, ([V.int (a : Int), V.int (b : Int), V.int (c : Int), V.int (d : Int)])[r]? = some (.int (m : Int)) ∧ (m = a ∨ m = b ∨ m = c ∨ m = d) := by
  match r, h with
  | 0, _ => exact ⟨a, rfl, .inl rfl⟩
  | 1, _ => exact ⟨b, rfl, .inr (.inl rfl)⟩
  | 2, _ => exact ⟨c, rfl, .inr (.inr (.inl rfl))⟩
  | 3, _ => exact ⟨d, rfl, .inr (.inr (.inr rfl))⟩
theorem GoodM.mom {t b : Nat} {m : List Nat × List Nat} (g : GoodM t b m) : Mom m.1 m.2 := ⟨g.bh, g.br, by have := g.lh; omega, g.l1, by have := g.lr; omega⟩
theorem GoodM.plain {t b : Nat} {m : List Nat × List Nat} (g : GoodM t b m) {b2 k2 : Nat} (q : PlainS (val m.1 m.2) b2 k2) : pH (val m.1 m.2) b2 = m.1 ∧ pR (val m.1 m.2) b2 k2 = m.2 := by
  obtain ⟨rfl, rfl⟩ := q.uniq g.ps
  exact ⟨L_val_h _ _, L_val_r⟩
theorem MomsL.get {H : Hp} : ∀ {as : List Addr} {ms : List (List Nat × List Nat)} {i : Nat} {a : Addr}, MomsL H as ms → as[i]? = some a → ∃ m, ms[i]? = some m ∧ MomAt H a m.1 m.2
  | [], _, i, a, _, h => by simp at h
  | _ :: _, [], _, _, h, _ => h.elim
  | x :: as, m :: ms, 0, a, h, e => by
    obtain rfl : x = a := Option.some.inj e
    exact ⟨m, rfl, h.1⟩
  | x :: as, m :: ms, i + 1, a, h, e => MomsL.get (i := i) h.2 e
theorem MomsL.len {H : Hp} : ∀ {as : List Addr} {ms : List (List Nat × List Nat)}, MomsL H as ms → as.length = ms.length
  | [], [], _ => rfl
  | _ :: _, _ :: _, h => congrArg (· + 1) (MomsL.len h.2)
  | [], _ :: _, h => h.elim
  | _ :: _, [], h => h.elim
/-- what is known of the told moments -/
structure MF (t b : Nat) (ms : List (List Nat × List Nat)) (hb : Bool) : Prop where
  good : ∀ (i : Nat) m, ms[i]? = some m → GoodM t b m
  sh : SeqAt.shaped (msD ms) = true
  eqv : PyData.eqv (msD ms) (msD ms) = true
  iff : hb = true ↔ IsH t b
  len : ms.length = 1 + (if hb then 1 else 0)
  two : hb = true → ∃ m n, ms = [m, n] ∧ Bef (val m.1 m.2) (val n.1 n.2)
theorem ms_facts {t b i j : Nat} (htb : t ≤ b) (h1 : 1 ≤ b) (hb : b ≤ 10000) (fr : t < b → FR t b i j ∧ i ≤ b) : ∃ hb, MF t b (msAt t b i j) hb := by
  rcases ms_cases htb h1 hb fr with ⟨c, m, n, e, g1, g2, bf⟩ | ⟨c, m, e, g1⟩
  · rw [e]
    refine ⟨true, ⟨fun i x hx => ?_, msD_ok2 g1.bh g1.br g2.bh g2.br, msD_eqv2 m n, iff_of_true rfl c, rfl, fun _ => ⟨m, n, rfl, bf⟩⟩⟩
    match i, hx with
    | 0, hx => rw [← Option.some.inj hx]; exact g1
    | 1, hx => rw [← Option.some.inj hx]; exact g2
    | i + 2, hx => exact absurd hx (by simp)
  · rw [e]
    refine ⟨false, ⟨fun i x hx => ?_, msD_ok1 g1.bh g1.br, msD_eqv1 m, iff_of_false Bool.false_ne_true c, rfl, fun q => Bool.noConfusion q⟩⟩
    match i, hx with
    | 0, hx => rw [← Option.some.inj hx]; exact g1
    | i + 1, hx => exact absurd hx (by simp)
theorem nil_ok : SeqAt.shaped (.list []) = true := by simp [SeqAt.shaped, PyData.canLay0, PyData.canLayAll0, PyData.depth, PyData.depthAll]
theorem nil_eqv : PyData.eqv (.list []) (.list []) = true := by simp [PyData.eqv, PyData.eqvAll]
def pD (x y : Nat) : PyData := .tuple [.int (x : Int), .int (y : Int)]
theorem pD_ok (x y : Nat) : SeqAt.shaped (pD x y) = true := by simp [pD, SeqAt.shaped, PyData.canLay0, PyData.canLayAll0, PyData.depth, PyData.depthAll]
theorem pD_eqv (x y : Nat) : PyData.eqv (pD x y) (pD x y) = true := by simp [pD, PyData.eqv, PyData.eqvAll]
section
variable {P : Program} {w : World} {K : PySem.W.Frag} {mg : Str → Option Value} {base : Heap}
theorem ok__law_at_right {f : Addr} {fd : FuncData} (F : Fun K "_law_at_right" "_law_at_right" s__law_at_right f fd) (B : Blt mg) (h__law_draw : Has P w K mg base "_law_draw" 1 ["pool", "many"] spDraw) (h__law_two : Has P w K mg base "_law_two" 1 ["size"] spTwo)
    (h__law_divisor : Has P w K mg base "_law_divisor" 1 ["one", "other"] spDivisor) (h_moments_at : HasG ["bottom", "top"] @swG P w K mg base "moments_at" 2 ["top", "bottom"] spMomentsAt) (h_plain : Has P w K mg base "plain" 3 ["moment"] spPlain)
    (h_value : HasG ["moment"] @oneG P w K mg base "value" 3 ["moment"] spValue) (h_is_before : Has P w K mg base "is_before" 3 ["first", "second"] spIsBefore) : FnOk P w K mg base CX0 4 f fd ["pool"] spAtRight := by
  have sc := sc__law_at_right
  obtain ⟨f__law_draw, fd__law_draw, mg__law_draw, kp__law_draw, b__law_draw, G__law_draw⟩ := h__law_draw
  obtain ⟨f__law_two, fd__law_two, mg__law_two, kp__law_two, b__law_two, G__law_two⟩ := h__law_two
  obtain ⟨f__law_divisor, fd__law_divisor, mg__law_divisor, kp__law_divisor, b__law_divisor, G__law_divisor⟩ := h__law_divisor
  obtain ⟨f_moments_at, fd_moments_at, mg_moments_at, kp_moments_at, b_moments_at, KB_moments_at_bottom_top, G_moments_at⟩ := h_moments_at
  obtain ⟨f_plain, fd_plain, mg_plain, kp_plain, b_plain, G_plain⟩ := h_plain
  obtain ⟨f_value, fd_value, mg_value, kp_value, b_value, KB_value_moment, G_value⟩ := h_value
  obtain ⟨f_is_before, fd_is_before, mg_is_before, kp_is_before, b_is_before, G_is_before⟩ := h_is_before
  refine F.ok sc (fun vs H Q E h => ?_) (fun cdv A outer s H vs Q E hr h => ?_)
  · obtain ⟨p, n, rfl, _⟩ := h
    rfl
  · obtain ⟨p, n, rfl, hp, hn, k⟩ := h
    refine ⟨_, (pss_cons (ps_set (i := 1) sc.nd rfl (by first | exact Or.inl rfl | exact Or.inr rfl) (pe_ix ix_list (pe_lst (pa_cons (pe_op op_add pe_int (pe_call G__law_draw (hr.mono (by decide)) (by rfl) mg__law_draw kp__law_draw b__law_draw .nil pass0 (pa_cons (pv 0) (pa_cons pe_int pa_nil)))) (pa_cons (pe_call G__law_two (hr.mono (by decide)) (by rfl) mg__law_two kp__law_two b__law_two .nil pass0 (pa_cons (pe_call G__law_draw (hr.mono (by decide)) (by rfl) mg__law_draw kp__law_draw b__law_draw .nil pass0 (pa_cons (pv 0) (pa_cons pe_int pa_nil))) pa_nil)) (pa_cons (pe_op op_add pe_int (pe_call G__law_draw (hr.mono (by decide)) (by rfl) mg__law_draw kp__law_draw b__law_draw .nil pass0 (pa_cons (pv 0) (pa_cons (pe_op op_powX pe_int pe_int) pa_nil)))) pa_nil)))) (pe_call G__law_draw (hr.mono (by decide)) (by rfl) mg__law_draw kp__law_draw b__law_draw .nil pass0 (pa_cons (pv 0) (pa_cons pe_int pa_nil))) (fun _ _ => rfl)))
    (pss_cons (ps_set (i := 2) sc.nd rfl (by first | exact Or.inl rfl | exact Or.inr rfl) (pe_ix ix_list (pe_lst (pa_cons (pe_call G__law_draw (hr.mono (by decide)) (by rfl) mg__law_draw kp__law_draw b__law_draw .nil pass0 (pa_cons (pv 0) (pa_cons (pe_op op_add (pv 1) pe_int) pa_nil))) (pa_cons (pe_call G__law_draw (hr.mono (by decide)) (by rfl) mg__law_draw kp__law_draw b__law_draw .nil pass0 (pa_cons (pv 0) (pa_cons (pe_op op_add (pv 1) pe_int) pa_nil))) (pa_cons pe_int (pa_cons (pv 1) pa_nil))))) (pe_call G__law_draw (hr.mono (by decide)) (by rfl) mg__law_draw kp__law_draw b__law_draw .nil pass0 (pa_cons (pv 0) (pa_cons pe_int pa_nil))) (fun _ _ => rfl)))
    (pss_cons (ps_asg (pe_tup (pa_cons (pe_call G_moments_at (hr.mono (by decide)) (by rfl) mg_moments_at kp_moments_at b_moments_at .nil pass0 (pa_cons (pv 2) (pa_cons (pv 1) pa_nil))) (pa_cons (pe_call G__law_divisor (hr.mono (by decide)) (by rfl) mg__law_divisor kp__law_divisor b__law_divisor .nil pass0 (pa_cons (pv 2) (pa_cons (pv 1) pa_nil))) pa_nil))) (pg_tup (by rfl) (pgs_cons (pg_name (i := 3) sc.nd rfl (by first | exact Or.inl rfl | exact Or.inr rfl)) (pgs_cons (pg_name (i := 4) sc.nd rfl (by first | exact Or.inl rfl | exact Or.inr rfl)) pgs_nil))))
    (pss_cons (ps_if (PW.pt (pw_or (pt_cmpR (op_neD hr.units) (pv 3) (pe_callK0 G_moments_at (hr.mono (by decide)) (by rfl) mg_moments_at kp_moments_at KB_moments_at_bottom_top pass0 (pk_cons (pv 1) (pk_cons (pv 2) pk_nil))) (nomark _)) (pw_or1 (pt_cmpR (op_neD hr.units) (pe_lc (own := [("one", 6)]) (g := gName 6) (by rfl) sc.nd (pi_list (pv 3)) (blkOk_by (own := [("one", 6)]) (N := N__law_at_right) (sc := defScope s__law_at_right) (by decide +kernel)) (fun _ _ _ _ _ => pg_name (i := 6) sc.nd rfl (by first | exact Or.inl rfl | exact Or.inr rfl)) (fun _ _ _ _ _ => pts_one (pt_cmpR (op_neDk (K := K) rfl hr.units) (pe_call G_plain (hr.mono (by decide)) (by rfl) mg_plain kp_plain b_plain .nil pass0 (pa_cons (pv 6) pa_nil)) (pv 6) (nomark _))) (fun _ _ _ _ _ => (pv 6))) (pe_lst pa_nil) (nomark _))))) (pss_one (ps_ret pe_bl)) pss_nil)
    (pss_cons (ps_if (pt_cmpR (op_neD hr.units) (pe_lc (own := [("one", 6)]) (g := gName 6) (by rfl) sc.nd (pi_list (pv 3)) (blkOk_by (own := [("one", 6)]) (N := N__law_at_right) (sc := defScope s__law_at_right) (by decide +kernel)) (fun _ _ _ _ _ => pg_name (i := 6) sc.nd rfl (by first | exact Or.inl rfl | exact Or.inr rfl)) (fun _ _ _ _ _ => pts_one (pt_cmpR (op_neDk (K := K) rfl hr.units) (pe_call G_value (hr.mono (by decide)) (by rfl) mg_value kp_value b_value .nil pass0 (pa_cons (pv 6) pa_nil)) (pe_tup (pa_cons (pe_op op_fdivW (pv 2) (pv 4)) (pa_cons (pe_op op_fdivW (pv 1) (pv 4)) pa_nil))) (nomark _))) (fun _ _ _ _ _ => (pv 6))) (pe_lst pa_nil) (nomark _)) (pss_one (ps_ret pe_bl)) pss_nil)
    (pss_cons (ps_set (i := 5) sc.nd rfl (by first | exact Or.inl rfl | exact Or.inr rfl) (pe_and (pe_chain op_lt op_lt pe_int (pv 2) (pv 1)) (pe_one (pe_cmpR op_eq (pe_op op_mod pe_int (pe_op op_fdivW (pv 1) (pv 4))) pe_int (nomark _)))))
    (pss_cons (ps_if (PW.pt (pw_or (pt_cmpR op_ne (pe_callB call_len_seq (by rfl) B.len PySem.boot_len (pa_cons (pv 3) pa_nil)) (pe_op op_add pe_int (pe_callTy call_int1 (by rfl) B.int (by decide +kernel) (pa_cons (pv 5) pa_nil))) (nomark _)) (pw_or1 (PW.pt (pw_and (pt_val (pv 5)) (pw_and1 (pt_not (pt_val (pe_call G_is_before (hr.mono (by decide)) (by rfl) mg_is_before kp_is_before b_is_before .nil pass0 (pa_cons (pe_ix ix_list (pv 3) pe_int (fun _ _ => rfl)) (pa_cons (pe_ix ix_list (pv 3) pe_int (fun _ _ => rfl)) pa_nil))))))))))) (pss_one (ps_ret pe_bl)) pss_nil)
    (pss_cons (ps_expr (pe_bm PySem.F.plainAttrs_list PySem.F.slot_list_append PySem.F.type_list_append mt_append (pv 3) (pa_cons pe_non pa_nil)))
    (pss_one (ps_ret (pe_cmpR op_eq (pe_callB call_len_seq (by rfl) B.len PySem.boot_len (pa_cons (pe_call G_moments_at (hr.mono (by decide)) (by rfl) mg_moments_at kp_moments_at b_moments_at .nil pass0 (pa_cons (pv 2) (pa_cons (pv 1) pa_nil))) pa_nil)) (pe_op op_add pe_int (pe_callTy call_int1 (by rfl) B.int (by decide +kernel) (pa_cons (pv 5) pa_nil))) (nomark _)))))))))))), ?_⟩
    -- the denominator
    refine ⟨_, rfl, p, 99, n, rfl, hp, by omega, by decide, by decide, fun H1 r1 s1 p1 hr1 => ⟨_, _, rfl, rfl, ?_⟩⟩
    refine ⟨_, rfl, p, 13, n + 1, rfl, p1, by omega, by decide, by decide, fun H2 r2 s2 p2 hr2 => ⟨r2, rfl, by omega, ?_⟩⟩
    refine ⟨_, rfl, _, _, rfl, rfl, ⟨by decide, 4, by decide, by decide⟩, p, 10000, n + 2, rfl, p2, by omega, by decide, by decide, fun H3 r3 s3 p3 hr3 => ⟨_, _, rfl, rfl, (by show 3 ≤ sizeLine; decide), fun l1 hl1 => ?_⟩⟩
    refine ⟨_, rfl, p, 3, n + 3, rfl, p3.new hl1, by omega, by decide, by decide, fun H4 r4 s4 p4 hr4 => ?_⟩
    have e3 : ([V.int (1 + (r1 : Int)), V.int ((2 ^ r2 : Nat) : Int), V.int (1 + (r3 : Int))] : List V) = [V.int ((1 + r1 : Nat) : Int), V.int ((2 ^ r2 : Nat) : Int), V.int ((1 + r3 : Nat) : Int)] := by simp
    obtain ⟨b, eb, hb⟩ := pick3 (a := 1 + r1) (b := 2 ^ r2) (c := 1 + r3) hr4
    have hl4 : H4 l1 = some (.lst [V.int ((1 + r1 : Nat) : Int), V.int ((2 ^ r2 : Nat) : Int), V.int ((1 + r3 : Nat) : Int)]) := by
      rw [← e3]
      exact s4 _ _ upd_same (p3.ne hl1)
    have hb1 : 1 ≤ b ∧ b ≤ 10000 := by
      have h2 : 2 ^ r2 ≤ 2 ^ 12 := Nat.pow_le_pow_right (by decide) (by omega)
      have h3 : 1 ≤ 2 ^ r2 := Nat.pow_pos (by decide)
      omega
    refine ⟨l1, _, _, _, rfl, rfl, SqL.of hl4, atI_of eb, ?_⟩
    have sb4 : SB p H H4 := s1.trans (s2.trans (s3.trans ((SB.of (Same.new hl1)).trans s4)))
    -- the numerator
    have eb1 : (b : Int) + 1 = ((b + 1 : Nat) : Int) := by omega
    refine ⟨_, rfl, _, rfl, _, _, rfl, rfl, p, b + 1, n + 4, congrArg (fun z => [V.ref p, V.int z]) eb1, p4, by omega, by omega, by omega, fun H5 r5 s5 p5 hr5 => ?_⟩
    refine ⟨_, rfl, _, rfl, _, _, rfl, rfl, p, b + 1, n + 5, congrArg (fun z => [V.ref p, V.int z]) eb1, p5, by omega, by omega, by omega, fun H6 r6 s6 p6 hr6 => ?_⟩
    refine ⟨_, rfl, (by show 4 ≤ sizeLine; decide), fun l2 hl2 => ?_⟩
    refine ⟨_, rfl, p, 4, n + 6, rfl, p6.new hl2, by omega, by decide, by decide, fun H7 r7 s7 p7 hr7 => ?_⟩
    obtain ⟨t, et, ht⟩ := pick4 (a := r5) (b := r6) (c := 0) (d := b) hr7
    have hl7 : H7 l2 = some (.lst [V.int (r5 : Int), V.int (r6 : Int), V.int ((0 : Nat) : Int), V.int (b : Int)]) := s7 _ _ upd_same (p6.ne hl2)
    have htb : t ≤ b := by omega
    refine ⟨l2, _, _, _, rfl, rfl, SqL.of hl7, atI_of et, ?_⟩
    have sb7 : SB p H H7 := sb4.trans (s5.trans (s6.trans ((SB.of (Same.new hl2)).trans s7)))
    clear hl4 e3 eb hl7 et
    -- told, divisor
    refine ⟨_, rfl, _, rfl, t, b, rfl, htb, hb1.1, hb1.2, fun H8 l i j fr s8 hfresh hms => ?_⟩
    refine ⟨_, rfl, _, rfl, t, b, rfl, (by show 2 ≤ sizeLine; decide), fun tu htu => ⟨tu, _, rfl, SqT.of upd_same, rfl, _, _, rfl, _, _, rfl, rfl, ?_⟩⟩
    obtain ⟨hb, mf⟩ := ms_facts htb hb1.1 hb1.2 fr
    have gpos : 0 < Nat.gcd t b := Nat.gcd_pos_of_pos_right _ hb1.1
    have gle : Nat.gcd t b ≤ b := Nat.le_of_dvd hb1.1 (Nat.gcd_dvd_right _ _)
    have cd : ∀ x : Int, CDivW x ((Nat.gcd t b : Nat) : Int) := fun x => wide_div (b := 60) (by omega) (by rw [Int.natAbs_natCast]; omega) (by decide) (by decide)
    -- told again
    refine ⟨_, rfl, _, rfl, _, rfl, t, b, rfl, htb, hb1.1, hb1.2, fun H10 l3 i2 j2 fr2 s10 hl3 hms2 => ?_⟩
    rw [ms_same fr fr2 htb] at hms2
    have sm1 : Same H8 H10 := (Same.new htu).trans s10
    have hmsA := hms.same sm1
    generalize hmse : msAt t b i j = ms at *
    refine ⟨msD ms, msD ms, hmsA.dp, hms2.dp, mf.sh, mf.sh, _, rfl, ?_⟩
    rw [mf.eqv]
    refine iteF ?_
    obtain ⟨as, ha, hL⟩ := hmsA
    -- each is plain
    refine ⟨_, rfl, l, rfl, ⟨_, SqL.of ha⟩, fun D hD => ?_⟩
    refine lc_list (K := K) (a := l) (xs := as.map V.ref) (fun i G => Same H10 G ∧ G D = some (.lst [])) ⟨Same.new hD, upd_same⟩ (fun i G _ ⟨q1, _⟩ => SqL.of (q1 _ _ ha)) ?_ ?_
    · rintro i y G hi ⟨q1, q2⟩
      rw [List.getElem?_map] at hi
      obtain ⟨a, ea, rfl⟩ := Option.map_eq_some_iff.mp hi
      obtain ⟨m, em, hm⟩ := hL.get ea
      have gm := mf.good _ _ em
      refine ⟨rfl, ?_⟩
      refine ⟨_, rfl, a, m.1, m.2, rfl, hm.same q1, gm.mom, fun b2 k2 ps G2 u q3 hu => ?_⟩
      obtain ⟨z1, z2⟩ := gm.plain ps
      rw [z1, z2] at hu
      have dp1 : Dp K G2 (.ref u) (mD m) := .tup (SqT.of hu) (.cons (.str _) (.cons (.str _) .nil))
      have dp2 : Dp K G2 (.ref a) (mD m) := .tup (SqT.of ((hm.same q1).same q3)) (.cons (.str _) (.cons (.str _) .nil))
      refine ⟨_, rfl, mD m, mD m, dp1, dp2, mD_ok gm.bh gm.br, mD_ok gm.bh gm.br, ?_⟩
      refine ⟨_, rfl, ?_⟩
      rw [mD_eqv]
      exact iteF ⟨q1.trans q3, q3 _ _ q2⟩
    · rintro G ⟨q1, q2⟩
      refine ⟨Nat.zero_le _, fun l0 hl0 => ?_⟩
      refine ⟨.list [], .list [], .lst (SqL.of (Same.new hl0 _ _ q2)) .nil, .lst (SqL.of upd_same) .nil, nil_ok, nil_ok, _, rfl, ?_⟩
      rw [nil_eqv]
      refine iteF ?_
      have sm2 : Same H10 (L2.upd G l0 (.lst [])) := q1.trans (Same.new hl0)
      generalize L2.upd G l0 (.lst []) = G1 at sm2 ⊢
      have ha1 := sm2 _ _ ha
      have hL1 := hL.same sm2
      -- each has the value
      refine ⟨_, rfl, l, rfl, ⟨_, SqL.of ha1⟩, fun D2 hD2 => ?_⟩
      refine lc_list (K := K) (a := l) (xs := as.map V.ref) (fun i G => Same G1 G ∧ G D2 = some (.lst [])) ⟨Same.new hD2, upd_same⟩ (fun i G _ ⟨q1, _⟩ => SqL.of (q1 _ _ ha1)) ?_ ?_
      · rintro i y G2 hi ⟨q1, q2⟩
        rw [List.getElem?_map] at hi
        obtain ⟨a, ea, rfl⟩ := Option.map_eq_some_iff.mp hi
        obtain ⟨m, em, hm⟩ := hL1.get ea
        have gm := mf.good _ _ em
        refine ⟨rfl, ?_⟩
        refine ⟨_, rfl, a, m.1, m.2, t, b, rfl, hm.same q1, gm.mom, hb1.1, lt_pow2 (b := 60) (by omega) (by decide), gm.ve, fun G3 u q3 hu => ?_⟩
        refine ⟨_, rfl, _, rfl, _, _, rfl, rfl, cd _, _, rfl, _, rfl, _, _, rfl, rfl, cd _, (by show 2 ≤ sizeLine; decide), fun u2 hu2 => ?_⟩
        have e1 : ((t : Nat) : Int) / ((Nat.gcd t b : Nat) : Int) = ((t / Nat.gcd t b : Nat) : Int) := rfl
        have e2 : ((b : Nat) : Int) / ((Nat.gcd t b : Nat) : Int) = ((b / Nat.gcd t b : Nat) : Int) := rfl
        refine ⟨pD (t / Nat.gcd t b) (b / Nat.gcd t b), pD (t / Nat.gcd t b) (b / Nat.gcd t b), .tup (SqT.of (Same.new hu2 _ _ hu)) (.cons (.int _) (.cons (.int _) .nil)), .tup (SqT.of upd_same) (.cons (.int _) (.cons (.int _) .nil)), pD_ok _ _, pD_ok _ _, _, rfl, ?_⟩
        rw [pD_eqv]
        exact iteF ⟨q1.trans (q3.trans (Same.new hu2)), Same.new hu2 _ _ (q3 _ _ q2)⟩
      · rintro G2 ⟨q1, q2⟩
        refine ⟨Nat.zero_le _, fun l4 hl4 => ?_⟩
        refine ⟨.list [], .list [], .lst (SqL.of (Same.new hl4 _ _ q2)) .nil, .lst (SqL.of upd_same) .nil, nil_ok, nil_ok, _, rfl, ?_⟩
        rw [nil_eqv]
        refine iteF ?_
        have sm3 : Same G1 (L2.upd G2 l4 (.lst [])) := q1.trans (Same.new hl4)
        generalize L2.upd G2 l4 (.lst []) = G5 at sm3 ⊢
        have ha5 := sm3 _ _ ha1
        have hL5 := hL1.same sm3
        have hlen := hL5.len
        have sbAll : SB p H G5 := sb7.trans ((SB.of s8).trans (SB.of (sm1.trans (sm2.trans sm3))))
        have pAll : PoolAt G5 p (n + 7) := p7.same (s8.trans (sm1.trans (sm2.trans sm3)))
        have hlp : l ≠ p := fun e => by
          obtain ⟨_, _, _, q, _⟩ := p7
          rw [e] at hfresh
          rw [hfresh] at q
          cases q
        -- is it half?
        have e2 : ((b : Nat) : Int) / ((Nat.gcd t b : Nat) : Int) = ((b / Nat.gcd t b : Nat) : Int) := rfl
        have qpos : 0 < b / Nat.gcd t b := Nat.div_pos gle gpos
        have e3 : (8192 : Int) % ((b / Nat.gcd t b : Nat) : Int) = ((8192 % (b / Nat.gcd t b) : Nat) : Int) := rfl
        have fin2 : ∀ (o : HO) (H11 : Hp), Same (L2.upd G5 l o) H11 → Q (.bl true) H11 := fun o H11 s11 => by
          refine k _ (fun c oc hc nc => ?_) (PoolAt.mono ?_ (show n + 7 ≤ n + 1000 by omega))
          · have h7 := sb7 _ _ hc nc
            have hcl : c ≠ l := ne_of_none h7 hfresh
            exact s11 _ _ (by rw [upd_ne hcl]; exact sbAll _ _ hc nc)
          · obtain ⟨z1, z2, z3, z4, z5, z6, z7, z8⟩ := pAll
            exact ⟨z1, z2, z3, s11 _ _ (by rw [upd_ne hlp.symm]; exact z4), z5, z6, z7, z8⟩
        cases hb with
        | true =>
          obtain ⟨c1, c2, c3⟩ := mf.iff.mp rfl
          refine ⟨_, rfl, _, _, rfl, rfl, _, rfl, ?_⟩
          rw [decide_eq_true (show (0 : Int) < (t : Int) by omega)]
          refine iteT ⟨_, rfl, _, _, rfl, rfl, _, rfl, ?_⟩
          rw [decide_eq_true (show (t : Int) < (b : Int) by omega)]
          refine iteT ?_
          refine ⟨_, rfl, _, rfl, _, _, rfl, rfl, cd _, _, _, rfl, rfl, ?_, rfl, ?_⟩
          · show (0 : Int) < ((b / Nat.gcd t b : Nat) : Int)
            omega
          have ed : decide (V.int ((8192 : Int) % (((b : Nat) : Int) / ((Nat.gcd t b : Nat) : Int))) = V.int 0) = true := by
            rw [e2, e3, c3]
            rfl
          rw [ed]
          obtain ⟨m, m2, rfl, bf⟩ := mf.two rfl
          refine ⟨_, rfl, l, _, rfl, .inl (SqL.of ha5), _, rfl, .inr ⟨_, rfl, _, _, rfl, rfl, rfl, _, rfl, ?_⟩⟩
          rw [List.length_map, hlen]
          refine iteNS rfl ?_
          refine ⟨_, rfl, true, rfl, iteT ?_⟩
          have gm1 := mf.good 0 _ rfl
          have gm2 := mf.good 1 _ rfl
          match as, hlen, ha5, hL5 with
          | [a1, a2], _, ha5, hL5 =>
            refine ⟨_, rfl, l, _, _, _, rfl, rfl, SqL.of ha5, atI_of (i := 0) rfl, ?_⟩
            refine ⟨_, rfl, l, _, _, _, rfl, rfl, SqL.of ha5, atI_of (i := 1) rfl, ?_⟩
            refine ⟨a1, a2, m.1, m.2, m2.1, m2.2, rfl, hL5.1, hL5.2.1, gm1.mom, gm2.mom, fun bb hbb => ?_⟩
            have ebb : bb = true := hbb.mpr bf
            subst ebb
            refine ⟨true, rfl, iteF ?_⟩
            refine ⟨_, rfl, .inl ⟨rfl, _, SqL.of ha5⟩, l, _, _, rfl, rfl, ha5, by show 2 < sizeLine; decide, ?_⟩
            refine ⟨_, rfl, _, rfl, t, b, rfl, htb, hb1.1, hb1.2, fun H11 l9 i3 j3 fr3 s11 hl9 hms3 => ?_⟩
            rw [ms_same fr fr3 htb, hmse] at hms3
            obtain ⟨as3, ha3, hL3⟩ := hms3
            refine ⟨l9, _, rfl, .inl (SqL.of ha3), _, rfl, .inr ⟨_, rfl, _, _, rfl, rfl, rfl, ?_⟩⟩
            rw [List.length_map, hL3.len]
            exact fin2 _ _ s11
        | false =>
          have qp : (0 : Int) < ((b / Nat.gcd t b : Nat) : Int) := by omega
          have nh : (0 : Int) < (t : Int) → (t : Int) < (b : Int) → decide (V.int ((8192 : Int) % (((b : Nat) : Int) / ((Nat.gcd t b : Nat) : Int))) = V.int 0) = false := fun c1 c2 => by
            rw [e2, e3]
            refine decide_eq_false fun q => ?_
            have q2 := V.int.inj q
            exact Bool.false_ne_true (mf.iff.mpr ⟨by omega, by omega, by omega⟩)
          suffices fin : _ by
            by_cases c1 : (0 : Int) < (t : Int)
            · refine ⟨_, rfl, _, _, rfl, rfl, _, rfl, ?_⟩
              rw [decide_eq_true c1]
              refine iteT ⟨_, rfl, _, _, rfl, rfl, _, rfl, ?_⟩
              by_cases c2 : (t : Int) < (b : Int)
              · rw [decide_eq_true c2]
                refine iteT ?_
                refine ⟨_, rfl, _, rfl, _, _, rfl, rfl, cd _, _, _, rfl, rfl, qp, rfl, ?_⟩
                rw [nh c1 c2]
                exact fin
              · rw [decide_eq_false c2]
                exact iteF fin
            · refine ⟨_, rfl, _, _, rfl, rfl, _, rfl, ?_⟩
              rw [decide_eq_false c1]
              exact iteF ⟨_, rfl, iteF fin⟩
          refine ⟨_, rfl, l, _, rfl, .inl (SqL.of ha5), _, rfl, .inr ⟨_, rfl, _, _, rfl, rfl, rfl, _, rfl, ?_⟩⟩
          rw [List.length_map, hlen, mf.len]
          refine iteNS rfl ?_
          refine ⟨_, rfl, false, rfl, iteF ?_⟩
          refine ⟨_, rfl, .inl ⟨rfl, _, SqL.of ha5⟩, l, _, _, rfl, rfl, ha5, by rw [List.length_map, hlen, mf.len]; show 1 < sizeLine; decide, ?_⟩
          refine ⟨_, rfl, _, rfl, t, b, rfl, htb, hb1.1, hb1.2, fun H11 l9 i3 j3 fr3 s11 hl9 hms3 => ?_⟩
          rw [ms_same fr fr3 htb, hmse] at hms3
          obtain ⟨as3, ha3, hL3⟩ := hms3
          refine ⟨l9, _, rfl, .inl (SqL.of ha3), _, rfl, .inr ⟨_, rfl, _, _, rfl, rfl, rfl, ?_⟩⟩
          rw [List.length_map, hL3.len, mf.len]
          exact fin2 _ _ s11
end
end HC

namespace HC
open PySem PySem.Spec PyProof.Rows L2
/-! ## the law's def, called from the top -/
section
variable {P : Program} {w : World} {K : PySem.W.Frag} {mg mb : Str → Option Value} {a : Addr} {s : Shared} {vs : List Value} {ns : List Int}
/-- the heap as the call finds it: only the script may be tracked -/
structure Top (P : Program) (w : World) (K : PySem.W.Frag) (a : Addr) (ns : List Int) (s : Shared) (H : Hp) : Prop where
  only : Only H
  sq : SqL K H a (ns.map V.int)
  ok : HOk P w H s.heap
  at_ : ∀ b, H b ≠ none → b = a
  out : H a ≠ none → K.lookup a = none
theorem top_ex (KX : K.In s.heap) (ha : s.heap.get? a = some { cls := .type "list", data := .seq vs.toArray }) (hi : IntsAre vs ns) (hl : ns.length ≤ sizeLine) : ∃ H, Top P w K a ns s H := by
  have rv := vals_ints hi
  have hn := hi.length
  by_cases hk : ∃ o, K.lookup a = some o
  · obtain ⟨o, hk⟩ := hk
    have e : s.heap.get? a = some o := KX a o hk
    rw [ha] at e
    injection e with e
    subst e
    have hsz : vs.toArray.size ≤ sizeLine := by rw [List.size_toArray, hn]; exact hl
    refine ⟨fun _ => none, ⟨fun _ => Or.inl rfl, Or.inr ⟨_, vs.toArray, _, hk, rfl, rfl, rfl, hsz, by simpa using rv⟩, ?_, fun b q => absurd rfl q, fun q => absurd rfl q⟩⟩
    intro b u q
    exact nomatch (show (none : Option HO) = some u from q)
  · have hk2 : K.lookup a = none := by
      cases q : K.lookup a with
      | none => rfl
      | some o => exact absurd ⟨o, q⟩ hk
    let fr : HO := .frz { cls := .type "list", data := .seq vs.toArray } (.lst (ns.map V.int))
    have g1 : ∀ b u, (if b = a then some fr else none) = some u → b = a ∧ fr = u := by
      intro b u q
      by_cases c : b = a
      · rw [if_pos c] at q
        exact ⟨c, Option.some.inj q⟩
      · rw [if_neg c] at q
        exact nomatch q
    refine ⟨fun b => if b = a then some fr else none, ⟨fun b => ?_, Or.inl (Or.inr ⟨_, if_pos rfl⟩), fun b u q => ?_, fun b q => ?_, fun _ => hk2⟩⟩
    · by_cases c : b = a
      · exact Or.inr ⟨_, _, if_pos c⟩
      · exact Or.inl (if_neg c)
    · obtain ⟨rfl, rfl⟩ := g1 b u q
      exact ⟨ha, by rw [List.length_map]; exact hl, vs, _, rv, ha⟩
    · exact Decidable.byContradiction fun c => q (if_neg c)
theorem Top.env {H : Hp} (T : Top P w K a ns s H) (KX : K.In s.heap) (hns : s.heap.Ns mainGlobals mg) (hb : s.heap.Ns builtinsNs mb) (hbb : ∀ x : Str, x ≠ "__name__" → mb x = bootBuiltins x) (hlim : s.heap.NoLimit) (hg : s.gens = #[])
    (ha : s.heap.get? a = some { cls := .type "list", data := .seq vs.toArray }) : Env0 P w K mg (hidT s.heap H) callerA [] s H := by
  have keepD : ∀ {b : Addr} {o : Obj}, s.heap.get? b = some o → (∃ es ep, o.data = .dict es ep) → (hidT s.heap H).get? b = some o := by
    intro b o e hd
    refine hidT_get e ?_
    cases q : H b with
    | none => rfl
    | some u =>
      have := T.at_ b (by rw [q]; exact fun z => nomatch z)
      subst this
      rw [ha] at e
      injection e with e
      subst e
      obtain ⟨es, ep, hd⟩ := hd
      exact nomatch (show Data.seq vs.toArray _ = Data.dict es ep from hd)
  have mv : ∀ {b : Addr} {m : Str → Option Value}, s.heap.Ns b m → (hidT s.heap H).Ns b m := by
    rintro b m ⟨o, es, ep, e, d, r⟩
    exact ⟨o, es, ep, keepD e ⟨es, ep, d⟩, d, r⟩
  have inK : K.In (hidT s.heap H) := by
    intro b o e
    refine hidT_get (KX b o e) ?_
    cases q : H b with
    | none => rfl
    | some u =>
      have := T.at_ b (by rw [q]; exact fun z => nomatch z)
      subst this
      rw [T.out (by rw [q]; exact fun z => nomatch z)] at e
      exact nomatch e
  obtain ⟨mc, l1, l2⟩ := hlim
  exact { frames := rfl, mod := ⟨inK, mv hns, ⟨mb, mv hb, hbb⟩, ⟨mc, mv l1, l2⟩⟩, bs := fun b o e => of_hidT e, bsz := Nat.le_of_eq (hidT_size _ _), funs := trivial, frf := (fun b q => absurd (show b ∈ ([] : List Addr) from q) (List.not_mem_nil)), hok := T.ok, bare := AllBare.of_eq hg }
end
theorem law_callQ {P : Program} {w : World} {K : PySem.W.Frag} {mg mb : Str → Option Value} {k : Nat} {fa a : Addr} {fd : FuncData} {x : Str} {sp : Sp} {s : Shared} {vs : List Value} {ns : List Int}
    (KX : K.In s.heap) (hns : s.heap.Ns mainGlobals mg) (hb : s.heap.Ns builtinsNs mb) (hbb : ∀ x : Str, x ≠ "__name__" → mb x = bootBuiltins x) (hlim : s.heap.NoLimit) (hg : s.gens = #[])
    (ha : s.heap.get? a = some { cls := .type "list", data := .seq vs.toArray }) (hi : IntsAre vs ns) (hl : ns.length ≤ sizeLine) (hr : Room k callerA)
    (F : ∀ base : Heap, K.In base → base.Ns mainGlobals mg → FnQ P w K mg base k fa fd [x] sp) (bnd : ∀ (s : Shared) (u : Value), BindsTo s fd ⟨[u], []⟩ [(x, u)])
    (want : ∀ H : Hp, Only H → SqL K H a (ns.map V.int) → sp [.ref a] H (fun v _ => v = .bl true) fun _ _ _ => False) :
    codeAny (model P w) callerA (.call (.ref fa) ⟨[.ref a], []⟩) (fun r s' => r = .ok (.ret (.bool true)) ∧ OldK s.heap s'.heap ∧ s'.os = s.os ∧ AllBare s'.gens) s := by
  obtain ⟨H, T⟩ := top_ex (P := P) (w := w) KX ha hi hl
  have E := T.env (mg := mg) (mb := mb) KX hns hb hbb hlim hg ha
  have run := (F _ E.mod.kin E.mod.glob).run callerA rfl [] s H ⟨[.ref a], []⟩ [.ref a] [.ref a] _ _ hr E (bnd s (.ref a)) (.cons rfl .nil) (want H T.only T.sq)
  refine codeAny_mono run ?_
  intro res s' fin
  match res, fin with
  | .error _, fin => exact False.elim fin
  | .ok .next, fin => exact False.elim fin
  | .ok .brk, fin => exact False.elim fin
  | .ok .cont, fin => exact False.elim fin
  | .ok (.ret u), ⟨v, H', os, bare, un, ok2, rel, (q : v = .bl true)⟩ =>
    subst q
    have eu : u = Value.bool true := rel
    subst eu
    refine ⟨rfl, OldK.of_keep ?_, os, bare⟩
    intro b o e
    match hb : H b with
    | none => exact un.keep b o e hb (fun z => nomatch (show b ∈ ([] : List Addr) from z)) (fun z => nomatch z)
    | some u =>
      rcases T.only b with z | ⟨ob, xs, z⟩
      · exact nomatch hb.symm.trans z
      · have o1 := (T.ok b _ z).1
        have o2 := (ok2 b _ (un.frzs b ob _ z)).1
        rw [e] at o1
        injection o1 with o1
        rw [o1]
        exact o2
theorem walk_ofQ {l : PySem.W.OpenLaw} {n k : Nat} {q : Program} {loose : List Str} {XP : (Str → Option Value) → Heap → Prop} {YP : World → Heap → Prop} {d : DefRec} {K : Params → PySem.W.Frag} {sp : World → Sp} {x : Str}
    (most : l.most = some n) (small : n ≤ sizeLine) (nodef : d.params.defaults = []) (hr : Room k callerA) (hY : ∀ (w : World) (h : Heap), YP w h → (K w.params).In h)
    (F : ∀ (w : World) (mg : Str → Option Value) (fa : Addr) (h : Heap), (K w.params).In h → h.Ns mainGlobals mg → mg d.name = some (.ref fa) →
      ∃ fd : FuncData, (∀ (s : Shared) (u : Value), BindsTo s fd ⟨[u], []⟩ [(x, u)]) ∧ ∀ base : Heap, (K w.params).In base → base.Ns mainGlobals mg → FnQ l.prog w (K w.params) mg base k fa fd [x] (sp w))
    (want : ∀ (w : World) (H : Hp) (a : Addr) (ns : List Int), ns.length ≤ n → Only H → SqL (K w.params) H a (ns.map V.int) → sp w [.ref a] H (fun v _ => v = .bl true) fun _ _ _ => False) :
    PySem.W.WalkO q loose XP YP l.row.toRowW d [] (fun f vs => PySem.call f vs) := by
  apply Att.attach_call most nodef
  intro w s₀ s₁ mg mb fa o pm cd doc a vs ns G Y ho hd hcd hmg hobj hints hlen hg
  obtain ⟨fd, bnd, hF⟩ := F w mg fa _ (hY w _ Y) G.T.g hmg
  exact law_callQ (hY w _ Y) G.T.g G.T.b G.T.builtins G.T.nolimit hg hobj hints (Nat.le_trans hlen small) hr hF bnd (fun H h1 h2 => want w H a ns hlen h1 h2)
end HC

namespace HC
open PySem PySem.Spec PyProof.Rows L2
abbrev s_law : Stmt := top 33
abbrev N_law : List Str := ["script", "at", "pool", "turn"]
theorem sc_law : FnScope N_law ["script"] (defScope s_law) := ⟨rfl, rfl, rfl, by decide +kernel, rfl, by decide +kernel, by decide +kernel⟩

def spLaw (K : PySem.W.Frag) : Sp := fun vs H Q _ => ∃ (a : Addr) (ns : List Int), vs = [.ref a] ∧ SqL K H a (ns.map V.int) ∧ ns.length ≤ 63 ∧ ∀ H', Q (.bl true) H'
theorem fr24 : FR 2 4 2 1 := ⟨by decide, by decide, fun x y h1 h2 => by
  obtain rfl : y = 1 := by omega
  obtain rfl : x = 0 := by omega
  decide⟩
theorem fr13 : FR 1 3 2 0 := ⟨by decide, by decide, fun x y h1 h2 => by
  obtain rfl : y = 1 := by omega
  obtain rfl : x = 0 := by omega
  decide⟩
theorem ms24 : msAt 2 4 2 1 = [([48], [49]), ([49], [48])] := by decide
theorem ms13 : msAt 1 3 2 0 = [([], [48, 49])] := by decide
section
variable {P : Program} {w : World} {K : PySem.W.Frag} {mg : Str → Option Value} {base : Heap}
theorem ok_law {f : Addr} {fd : FuncData} (F : Fun K "law" "law" s_law f fd) (B : Blt mg) (h__law_pool : Has P w K mg base "_law_pool" 1 ["script", "at"] (spPool K)) (h__law_value_right : HasQ P w K mg base "_law_value_right" 4 ["pool"] spValueRight)
    (h__law_at_right : Has P w K mg base "_law_at_right" 4 ["pool"] spAtRight) (h_value : HasG ["moment"] @oneG P w K mg base "value" 3 ["moment"] spValue) (h_moments_at : HasG ["bottom", "top"] @swG P w K mg base "moments_at" 2 ["top", "bottom"] spMomentsAt) : FnQ P w K mg base 5 f fd ["script"] (spLaw K) := by
  have sc := sc_law
  obtain ⟨f__law_pool, fd__law_pool, mg__law_pool, kp__law_pool, b__law_pool, G__law_pool⟩ := h__law_pool
  obtain ⟨f__law_value_right, fd__law_value_right, mg__law_value_right, kp__law_value_right, b__law_value_right, G__law_value_right⟩ := h__law_value_right
  obtain ⟨f__law_at_right, fd__law_at_right, mg__law_at_right, kp__law_at_right, b__law_at_right, G__law_at_right⟩ := h__law_at_right
  obtain ⟨f_value, fd_value, mg_value, kp_value, b_value, KB_value_moment, G_value⟩ := h_value
  obtain ⟨f_moments_at, fd_moments_at, mg_moments_at, kp_moments_at, b_moments_at, KB_moments_at_bottom_top, G_moments_at⟩ := h_moments_at
  refine fnQ F sc (fun vs H Q E h => ?_) (fun cdv A qa outer s H vs Q E hr h => ?_)
  · obtain ⟨a, ns, rfl, _⟩ := h
    rfl
  · obtain ⟨a, ns, rfl, hS, hl, k⟩ := h
    refine ⟨_, (pss_cons (ps_for PassesOwn.never rfl (pi_range1 (by rfl) B.range (pa_cons (pe_callB (call_max2 rfl) (by rfl) B.max (by decide +kernel) (pa_cons pe_int (pa_cons (pe_callB (call_min2 rfl) (by rfl) B.min (by decide +kernel) (pa_cons pe_int (pa_cons (pe_callB call_len_seq (by rfl) B.len PySem.boot_len (pa_cons (pv 0) pa_nil)) pa_nil))) pa_nil))) pa_nil)) (pg_name (i := 1) sc.nd rfl (by first | exact Or.inl rfl | exact Or.inr rfl))
      (pss_cons (ps_set (i := 2) sc.nd rfl (by first | exact Or.inl rfl | exact Or.inr rfl) (pe_call G__law_pool (hr.mono (by decide)) (by rfl) mg__law_pool kp__law_pool b__law_pool .nil pass0 (pa_cons (pv 0) (pa_cons (pv 1) pa_nil))))
    (pss_one (ps_for PassesOwn.never rfl (pi_range1 (by rfl) B.range (pa_cons pe_int pa_nil)) (pg_name (i := 3) sc.nd rfl (by first | exact Or.inl rfl | exact Or.inr rfl))
      (pss_one (ps_if (PW.pt (pw_or (pt_not (pt_val (pe_callQ qa G__law_value_right (hr.mono (by decide)) (by rfl) mg__law_value_right kp__law_value_right b__law_value_right (pa_cons (pv 2) pa_nil)))) (pw_or1 (pt_not (pt_val (pe_call G__law_at_right (hr.mono (by decide)) (by rfl) mg__law_at_right kp__law_at_right b__law_at_right .nil pass0 (pa_cons (pv 2) pa_nil))))))) (pss_one (ps_ret pe_bl)) pss_nil))))))
    (pss_one (ps_ret (pe_cmpR (op_eqD hr.units) (pe_lst (pa_cons (pe_call G_value (hr.mono (by decide)) (by rfl) mg_value kp_value b_value .nil pass0 (pa_cons (pe_tup (pa_cons (pe_strT [] (by decide +kernel)) (pa_cons (pe_strT [48, 49] (by decide +kernel)) pa_nil))) pa_nil)) (pa_cons (pe_call G_moments_at (hr.mono (by decide)) (by rfl) mg_moments_at kp_moments_at b_moments_at .nil pass0 (pa_cons pe_int (pa_cons pe_int pa_nil))) (pa_cons (pe_call G_moments_at (hr.mono (by decide)) (by rfl) mg_moments_at kp_moments_at b_moments_at .nil pass0 (pa_cons pe_int (pa_cons pe_int pa_nil))) pa_nil)))) (pe_lst (pa_cons (pe_tup (pa_cons pe_int (pa_cons pe_int pa_nil))) (pa_cons (pe_lst (pa_cons (pe_tup (pa_cons (pe_strT [48] (by decide +kernel)) (pa_cons (pe_strT [49] (by decide +kernel)) pa_nil))) (pa_cons (pe_tup (pa_cons (pe_strT [49] (by decide +kernel)) (pa_cons (pe_strT [48] (by decide +kernel)) pa_nil))) pa_nil))) (pa_cons (pe_lst (pa_cons (pe_tup (pa_cons (pe_strT [] (by decide +kernel)) (pa_cons (pe_strT [48, 49] (by decide +kernel)) pa_nil))) pa_nil)) pa_nil)))) (nomark _))))), ?_⟩
    refine ⟨_, rfl, a, _, rfl, .inl hS, _, _, rfl, _, _, rfl, ?_⟩
    have hlen : ((ns.map V.int).length : Int) ≤ 63 := by rw [List.length_map]; omega
    refine ⟨_, rfl, ?_, ?_, ?_⟩
    · split <;> (try split) <;> omega
    · split <;> (try split) <;> omega
    generalize hmany : (if (if ((ns.map V.int).length : Int) < 10 then ((ns.map V.int).length : Int) else 10) > 1 then (if ((ns.map V.int).length : Int) < 10 then ((ns.map V.int).length : Int) else 10) else 1) = many
    have hmany2 : many ≤ 10 := by
      rw [← hmany]
      split <;> (try split) <;> omega
    refine for_range (lo := 0) (n := many.toNat) (fun i σ H' => Same H H' ∧ ∃ v x y : Option V, σ = [some (.ref a), v, x, y]) ⟨Same.refl _, _, _, _, rfl⟩ ?_ ?_
    · rintro i σ H' hi ⟨sm, v, x, y, rfl⟩
      refine ⟨_, rfl, _, rfl, a, ns, i, by rw [Int.zero_add]; rfl, sm.seq hS, by omega, fun H1 p s1 hp p1 => ?_⟩
      refine ⟨8, rfl, by decide, by decide, ?_⟩
      refine for_range (lo := 0) (n := (8 : Int).toNat) (fun j σ H2 => SB p H1 H2 ∧ PoolAt H2 p (2000 * j) ∧ ∃ x : Option V, σ = [some (.ref a), some (.int (0 + (i : Int))), some (.ref p), x]) ⟨SB.refl, p1.mono (by omega), _, rfl⟩ ?_ ?_
      · rintro j σ H2 hj ⟨sb, pp, x, rfl⟩
        have hj2 : j < 8 := hj
        refine ⟨_, rfl, p, 2000 * j, rfl, pp, by omega, fun H3 s3 p3 => ⟨true, rfl, iteF ?_⟩⟩
        refine ⟨_, rfl, p, 2000 * j + 1000, rfl, p3, by omega, fun H4 s4 p4 => ⟨true, rfl, iteF ?_⟩⟩
        exact ⟨sb.trans (s3.trans s4), p4.mono (by omega), _, rfl⟩
      · rintro σ H2 ⟨sb, pp, x, rfl⟩
        refine ⟨fun b o hb => ?_, _, _, _, rfl⟩
        have hb2 := sm _ _ hb
        exact sb _ _ (s1 _ _ hb2) (ne_of_none hb2 hp)
    · rintro σ H' ⟨sm, v, x, y, rfl⟩
      have b01 : Bin [48, 49] := fun c hc => by simp at hc; omega
      have z0 : Bin [48] := fun c hc => by simp at hc; omega
      have z1 : Bin [49] := fun c hc => by simp at hc; omega
      refine ⟨(by show 2 ≤ sizeLine; decide), fun t1 ht1 => ⟨t1, [], [48, 49], 1, 3, rfl, upd_same, ⟨Bin.nil, b01, by decide, by decide, by decide⟩, by decide, by decide, by decide, fun H1 u1 s1 m1 => ?_⟩⟩
      refine ⟨2, 4, rfl, by decide, by decide, by decide, fun H2 l2 i2 j2 fr2 s2 hl2 ms2 => ?_⟩
      obtain ⟨rfl, rfl⟩ := (fr2 (by decide)).1.uniq fr24
      rw [ms24] at ms2
      refine ⟨1, 3, rfl, by decide, by decide, by decide, fun H3 l3 i3 j3 fr3 s3 hl3 ms3 => ?_⟩
      obtain ⟨rfl, rfl⟩ := (fr3 (by decide)).1.uniq fr13
      rw [ms13] at ms3
      refine ⟨(by show 3 ≤ sizeLine; decide), fun q hq => ?_⟩
      refine ⟨(by show 2 ≤ sizeLine; decide), fun t4 ht4 => ?_⟩
      refine ⟨(by show 2 ≤ sizeLine; decide), fun t5 ht5 => ⟨(by show 2 ≤ sizeLine; decide), fun t6 ht6 => ⟨(by show 2 ≤ sizeLine; decide), fun l7 hl7 => ?_⟩⟩⟩
      refine ⟨(by show 2 ≤ sizeLine; decide), fun t8 ht8 => ⟨(by show 1 ≤ sizeLine; decide), fun l9 hl9 => ⟨(by show 3 ≤ sizeLine; decide), fun l10 hl10 => ?_⟩⟩⟩
      have f10 := Same.new (o := .lst [.ref t4, .ref l7, .ref l9]) hl10
      have f9 := (Same.new (o := .lst [.ref t8]) hl9).trans f10
      have f8 := (Same.new (o := .tup [.str (T []), .str (T [48, 49])]) ht8).trans f9
      have f7 := (Same.new (o := .lst [.ref t5, .ref t6]) hl7).trans f8
      have f6 := (Same.new (o := .tup [.str (T [49]), .str (T [48])]) ht6).trans f7
      have f5 := (Same.new (o := .tup [.str (T [48]), .str (T [49])]) ht5).trans f6
      have f4 := (Same.new (o := .tup [.int 1, .int 3]) ht4).trans f5
      have f3 := (Same.new (o := .lst [.ref u1, .ref l2, .ref l3]) hq).trans f4
      have e13 : H1 u1 = some (.tup [.int ((1 : Nat) : Int), .int ((3 : Nat) : Int)]) := m1
      have D1 : PyData.eqv (.list [pD 1 3, msD [([48], [49]), ([49], [48])], msD [([], [48, 49])]]) (.list [pD 1 3, msD [([48], [49]), ([49], [48])], msD [([], [48, 49])]]) = true := by
        simp [pD, msD, mD, PyData.eqv, PyData.eqvAll]
      have o1 : PyData.strOk (T []) = true := strOk_T Bin.nil.cod
      have o2 : PyData.strOk (T [48]) = true := strOk_T z0.cod
      have o3 : PyData.strOk (T [49]) = true := strOk_T z1.cod
      have o4 : PyData.strOk (T [48, 49]) = true := strOk_T b01.cod
      have D2 : SeqAt.shaped (.list [pD 1 3, msD [([48], [49]), ([49], [48])], msD [([], [48, 49])]]) = true := by
        simp [pD, msD, mD, SeqAt.shaped, PyData.canLay0, PyData.canLayAll0, PyData.depth, PyData.depthAll, o1, o2, o3, o4]
      refine ⟨.list [pD 1 3, msD [([48], [49]), ([49], [48])], msD [([], [48, 49])]], .list [pD 1 3, msD [([48], [49]), ([49], [48])], msD [([], [48, 49])]],
        .lst (SqL.of (f4 _ _ upd_same)) (.cons ?_ (.cons ?_ (.cons ?_ .nil))), .lst (SqL.of upd_same) (.cons ?_ (.cons ?_ (.cons ?_ .nil))), D2, D2, ?_⟩
      · exact .tup (SqT.of (f3 _ _ (s3 _ _ (s2 _ _ e13)))) (.cons (.int _) (.cons (.int _) .nil))
      · exact (ms2.same (s3.trans f3)).dp
      · exact (ms3.same f3).dp
      · exact .tup (SqT.of (f5 _ _ upd_same)) (.cons (.int _) (.cons (.int _) .nil))
      · refine .lst (xs := [.ref t5, .ref t6]) (SqL.of (f8 _ _ upd_same)) (.cons ?_ (.cons ?_ .nil))
        · exact .tup (SqT.of (f6 _ _ upd_same)) (.cons (.str _) (.cons (.str _) .nil))
        · exact .tup (SqT.of (f7 _ _ upd_same)) (.cons (.str _) (.cons (.str _) .nil))
      · refine .lst (xs := [.ref t8]) (SqL.of (f10 _ _ upd_same)) (.cons ?_ .nil)
        exact .tup (SqT.of (f9 _ _ upd_same)) (.cons (.str _) (.cons (.str _) .nil))
      · rw [D1]
        exact k _
end
end HC

namespace HC
open PySem PySem.Spec PyProof.Rows L2
section
theorem all_mk {P : Program} {w : World} {K : PySem.W.Frag} {h : Heap} {mg : Str → Option Value} {fa : Addr} (X : K.In h) (G : h.Ns mainGlobals mg) (hfa : mg "law" = some (.ref fa))
    {f__law_pool f__law_draw f__law_word f__law_moment f__law_signs f_is_word f_check_moment f_check_at_least f_first_signs f_shortest_ring f_shared_end f_plain f_number_of f_ratio f_value f_expansion f_check_between f_moments_at f_is_before f__law_two f__law_divisor f__law_value_right f__law_at_right f_law : Addr}
    {od__law_pool an__law_pool : Option Addr} {sl__law_pool : Array (Option Value)} {oc__law_pool kV__law_pool dc__law_pool pm__law_pool cd__law_pool ct__law_pool : Value}
    (a__law_pool : PySem.W.nsIn K mainGlobals "_law_pool" = some (some (.ref f__law_pool))) (l__law_pool : K.lookup f__law_pool = some ⟨oc__law_pool, od__law_pool, .func (PySem.W.fnOf "_law_pool" "_law_pool" (defArgs s__law_pool) (defBody s__law_pool) (defScope s__law_pool) .none kV__law_pool dc__law_pool pm__law_pool an__law_pool cd__law_pool ct__law_pool), sl__law_pool⟩) (c__law_pool : PySem.W.codeIn K cd__law_pool "_law_pool" = true) (k__law_pool : PySem.W.keepIn K (.ref f__law_pool) = true)
    {od__law_draw an__law_draw : Option Addr} {sl__law_draw : Array (Option Value)} {oc__law_draw kV__law_draw dc__law_draw pm__law_draw cd__law_draw ct__law_draw : Value}
    (a__law_draw : PySem.W.nsIn K mainGlobals "_law_draw" = some (some (.ref f__law_draw))) (l__law_draw : K.lookup f__law_draw = some ⟨oc__law_draw, od__law_draw, .func (PySem.W.fnOf "_law_draw" "_law_draw" (defArgs s__law_draw) (defBody s__law_draw) (defScope s__law_draw) .none kV__law_draw dc__law_draw pm__law_draw an__law_draw cd__law_draw ct__law_draw), sl__law_draw⟩) (c__law_draw : PySem.W.codeIn K cd__law_draw "_law_draw" = true) (k__law_draw : PySem.W.keepIn K (.ref f__law_draw) = true)
    {od__law_word an__law_word : Option Addr} {sl__law_word : Array (Option Value)} {oc__law_word kV__law_word dc__law_word pm__law_word cd__law_word ct__law_word : Value}
    (a__law_word : PySem.W.nsIn K mainGlobals "_law_word" = some (some (.ref f__law_word))) (l__law_word : K.lookup f__law_word = some ⟨oc__law_word, od__law_word, .func (PySem.W.fnOf "_law_word" "_law_word" (defArgs s__law_word) (defBody s__law_word) (defScope s__law_word) .none kV__law_word dc__law_word pm__law_word an__law_word cd__law_word ct__law_word), sl__law_word⟩) (c__law_word : PySem.W.codeIn K cd__law_word "_law_word" = true) (k__law_word : PySem.W.keepIn K (.ref f__law_word) = true)
    {od__law_moment an__law_moment : Option Addr} {sl__law_moment : Array (Option Value)} {oc__law_moment kV__law_moment dc__law_moment pm__law_moment cd__law_moment ct__law_moment : Value}
    (a__law_moment : PySem.W.nsIn K mainGlobals "_law_moment" = some (some (.ref f__law_moment))) (l__law_moment : K.lookup f__law_moment = some ⟨oc__law_moment, od__law_moment, .func (PySem.W.fnOf "_law_moment" "_law_moment" (defArgs s__law_moment) (defBody s__law_moment) (defScope s__law_moment) .none kV__law_moment dc__law_moment pm__law_moment an__law_moment cd__law_moment ct__law_moment), sl__law_moment⟩) (c__law_moment : PySem.W.codeIn K cd__law_moment "_law_moment" = true) (k__law_moment : PySem.W.keepIn K (.ref f__law_moment) = true)
    {od__law_signs an__law_signs : Option Addr} {sl__law_signs : Array (Option Value)} {oc__law_signs kV__law_signs dc__law_signs pm__law_signs cd__law_signs ct__law_signs : Value}
    (a__law_signs : PySem.W.nsIn K mainGlobals "_law_signs" = some (some (.ref f__law_signs))) (l__law_signs : K.lookup f__law_signs = some ⟨oc__law_signs, od__law_signs, .func (PySem.W.fnOf "_law_signs" "_law_signs" (defArgs s__law_signs) (defBody s__law_signs) (defScope s__law_signs) .none kV__law_signs dc__law_signs pm__law_signs an__law_signs cd__law_signs ct__law_signs), sl__law_signs⟩) (c__law_signs : PySem.W.codeIn K cd__law_signs "_law_signs" = true) (k__law_signs : PySem.W.keepIn K (.ref f__law_signs) = true)
    {od_is_word an_is_word : Option Addr} {sl_is_word : Array (Option Value)} {oc_is_word kV_is_word dc_is_word pm_is_word cd_is_word ct_is_word : Value}
    (a_is_word : PySem.W.nsIn K mainGlobals "is_word" = some (some (.ref f_is_word))) (l_is_word : K.lookup f_is_word = some ⟨oc_is_word, od_is_word, .func (PySem.W.fnOf "is_word" "is_word" (defArgs s_is_word) (defBody s_is_word) (defScope s_is_word) .none kV_is_word dc_is_word pm_is_word an_is_word cd_is_word ct_is_word), sl_is_word⟩) (c_is_word : PySem.W.codeIn K cd_is_word "is_word" = true) (k_is_word : PySem.W.keepIn K (.ref f_is_word) = true)
    {od_check_moment an_check_moment : Option Addr} {sl_check_moment : Array (Option Value)} {oc_check_moment kV_check_moment dc_check_moment pm_check_moment cd_check_moment ct_check_moment : Value}
    (a_check_moment : PySem.W.nsIn K mainGlobals "check_moment" = some (some (.ref f_check_moment))) (l_check_moment : K.lookup f_check_moment = some ⟨oc_check_moment, od_check_moment, .func (PySem.W.fnOf "check_moment" "check_moment" (defArgs s_check_moment) (defBody s_check_moment) (defScope s_check_moment) .none kV_check_moment dc_check_moment pm_check_moment an_check_moment cd_check_moment ct_check_moment), sl_check_moment⟩) (c_check_moment : PySem.W.codeIn K cd_check_moment "check_moment" = true) (k_check_moment : PySem.W.keepIn K (.ref f_check_moment) = true)
    {od_check_at_least an_check_at_least : Option Addr} {sl_check_at_least : Array (Option Value)} {oc_check_at_least kV_check_at_least dc_check_at_least pm_check_at_least cd_check_at_least ct_check_at_least : Value}
    (a_check_at_least : PySem.W.nsIn K mainGlobals "check_at_least" = some (some (.ref f_check_at_least))) (l_check_at_least : K.lookup f_check_at_least = some ⟨oc_check_at_least, od_check_at_least, .func (PySem.W.fnOf "check_at_least" "check_at_least" (defArgs s_check_at_least) (defBody s_check_at_least) (defScope s_check_at_least) .none kV_check_at_least dc_check_at_least pm_check_at_least an_check_at_least cd_check_at_least ct_check_at_least), sl_check_at_least⟩) (c_check_at_least : PySem.W.codeIn K cd_check_at_least "check_at_least" = true) (k_check_at_least : PySem.W.keepIn K (.ref f_check_at_least) = true)
    {od_first_signs an_first_signs : Option Addr} {sl_first_signs : Array (Option Value)} {oc_first_signs kV_first_signs dc_first_signs pm_first_signs cd_first_signs ct_first_signs : Value}
    (a_first_signs : PySem.W.nsIn K mainGlobals "first_signs" = some (some (.ref f_first_signs))) (l_first_signs : K.lookup f_first_signs = some ⟨oc_first_signs, od_first_signs, .func (PySem.W.fnOf "first_signs" "first_signs" (defArgs s_first_signs) (defBody s_first_signs) (defScope s_first_signs) .none kV_first_signs dc_first_signs pm_first_signs an_first_signs cd_first_signs ct_first_signs), sl_first_signs⟩) (c_first_signs : PySem.W.codeIn K cd_first_signs "first_signs" = true) (k_first_signs : PySem.W.keepIn K (.ref f_first_signs) = true)
    {od_shortest_ring an_shortest_ring : Option Addr} {sl_shortest_ring : Array (Option Value)} {oc_shortest_ring kV_shortest_ring dc_shortest_ring pm_shortest_ring cd_shortest_ring ct_shortest_ring : Value}
    (a_shortest_ring : PySem.W.nsIn K mainGlobals "shortest_ring" = some (some (.ref f_shortest_ring))) (l_shortest_ring : K.lookup f_shortest_ring = some ⟨oc_shortest_ring, od_shortest_ring, .func (PySem.W.fnOf "shortest_ring" "shortest_ring" (defArgs s_shortest_ring) (defBody s_shortest_ring) (defScope s_shortest_ring) .none kV_shortest_ring dc_shortest_ring pm_shortest_ring an_shortest_ring cd_shortest_ring ct_shortest_ring), sl_shortest_ring⟩) (c_shortest_ring : PySem.W.codeIn K cd_shortest_ring "shortest_ring" = true) (k_shortest_ring : PySem.W.keepIn K (.ref f_shortest_ring) = true)
    {od_shared_end an_shared_end : Option Addr} {sl_shared_end : Array (Option Value)} {oc_shared_end kV_shared_end dc_shared_end pm_shared_end cd_shared_end ct_shared_end : Value}
    (a_shared_end : PySem.W.nsIn K mainGlobals "shared_end" = some (some (.ref f_shared_end))) (l_shared_end : K.lookup f_shared_end = some ⟨oc_shared_end, od_shared_end, .func (PySem.W.fnOf "shared_end" "shared_end" (defArgs s_shared_end) (defBody s_shared_end) (defScope s_shared_end) .none kV_shared_end dc_shared_end pm_shared_end an_shared_end cd_shared_end ct_shared_end), sl_shared_end⟩) (c_shared_end : PySem.W.codeIn K cd_shared_end "shared_end" = true) (k_shared_end : PySem.W.keepIn K (.ref f_shared_end) = true)
    {od_plain an_plain : Option Addr} {sl_plain : Array (Option Value)} {oc_plain kV_plain dc_plain pm_plain cd_plain ct_plain : Value}
    (a_plain : PySem.W.nsIn K mainGlobals "plain" = some (some (.ref f_plain))) (l_plain : K.lookup f_plain = some ⟨oc_plain, od_plain, .func (PySem.W.fnOf "plain" "plain" (defArgs s_plain) (defBody s_plain) (defScope s_plain) .none kV_plain dc_plain pm_plain an_plain cd_plain ct_plain), sl_plain⟩) (c_plain : PySem.W.codeIn K cd_plain "plain" = true) (k_plain : PySem.W.keepIn K (.ref f_plain) = true)
    {od_number_of an_number_of : Option Addr} {sl_number_of : Array (Option Value)} {oc_number_of kV_number_of dc_number_of pm_number_of cd_number_of ct_number_of : Value}
    (a_number_of : PySem.W.nsIn K mainGlobals "number_of" = some (some (.ref f_number_of))) (l_number_of : K.lookup f_number_of = some ⟨oc_number_of, od_number_of, .func (PySem.W.fnOf "number_of" "number_of" (defArgs s_number_of) (defBody s_number_of) (defScope s_number_of) .none kV_number_of dc_number_of pm_number_of an_number_of cd_number_of ct_number_of), sl_number_of⟩) (c_number_of : PySem.W.codeIn K cd_number_of "number_of" = true) (k_number_of : PySem.W.keepIn K (.ref f_number_of) = true)
    {od_ratio an_ratio : Option Addr} {sl_ratio : Array (Option Value)} {oc_ratio kV_ratio dc_ratio pm_ratio cd_ratio ct_ratio : Value}
    (a_ratio : PySem.W.nsIn K mainGlobals "ratio" = some (some (.ref f_ratio))) (l_ratio : K.lookup f_ratio = some ⟨oc_ratio, od_ratio, .func (PySem.W.fnOf "ratio" "ratio" (defArgs s_ratio) (defBody s_ratio) (defScope s_ratio) .none kV_ratio dc_ratio pm_ratio an_ratio cd_ratio ct_ratio), sl_ratio⟩) (c_ratio : PySem.W.codeIn K cd_ratio "ratio" = true) (k_ratio : PySem.W.keepIn K (.ref f_ratio) = true)
    {od_value an_value : Option Addr} {sl_value : Array (Option Value)} {oc_value kV_value dc_value pm_value cd_value ct_value : Value}
    (a_value : PySem.W.nsIn K mainGlobals "value" = some (some (.ref f_value))) (l_value : K.lookup f_value = some ⟨oc_value, od_value, .func (PySem.W.fnOf "value" "value" (defArgs s_value) (defBody s_value) (defScope s_value) .none kV_value dc_value pm_value an_value cd_value ct_value), sl_value⟩) (c_value : PySem.W.codeIn K cd_value "value" = true) (k_value : PySem.W.keepIn K (.ref f_value) = true)
    {od_expansion an_expansion : Option Addr} {sl_expansion : Array (Option Value)} {oc_expansion kV_expansion dc_expansion pm_expansion cd_expansion ct_expansion : Value}
    (a_expansion : PySem.W.nsIn K mainGlobals "expansion" = some (some (.ref f_expansion))) (l_expansion : K.lookup f_expansion = some ⟨oc_expansion, od_expansion, .func (PySem.W.fnOf "expansion" "expansion" (defArgs s_expansion) (defBody s_expansion) (defScope s_expansion) .none kV_expansion dc_expansion pm_expansion an_expansion cd_expansion ct_expansion), sl_expansion⟩) (c_expansion : PySem.W.codeIn K cd_expansion "expansion" = true) (k_expansion : PySem.W.keepIn K (.ref f_expansion) = true)
    {od_check_between an_check_between : Option Addr} {sl_check_between : Array (Option Value)} {oc_check_between kV_check_between dc_check_between pm_check_between cd_check_between ct_check_between : Value}
    (a_check_between : PySem.W.nsIn K mainGlobals "check_between" = some (some (.ref f_check_between))) (l_check_between : K.lookup f_check_between = some ⟨oc_check_between, od_check_between, .func (PySem.W.fnOf "check_between" "check_between" (defArgs s_check_between) (defBody s_check_between) (defScope s_check_between) .none kV_check_between dc_check_between pm_check_between an_check_between cd_check_between ct_check_between), sl_check_between⟩) (c_check_between : PySem.W.codeIn K cd_check_between "check_between" = true) (k_check_between : PySem.W.keepIn K (.ref f_check_between) = true)
    {od_moments_at an_moments_at : Option Addr} {sl_moments_at : Array (Option Value)} {oc_moments_at kV_moments_at dc_moments_at pm_moments_at cd_moments_at ct_moments_at : Value}
    (a_moments_at : PySem.W.nsIn K mainGlobals "moments_at" = some (some (.ref f_moments_at))) (l_moments_at : K.lookup f_moments_at = some ⟨oc_moments_at, od_moments_at, .func (PySem.W.fnOf "moments_at" "moments_at" (defArgs s_moments_at) (defBody s_moments_at) (defScope s_moments_at) .none kV_moments_at dc_moments_at pm_moments_at an_moments_at cd_moments_at ct_moments_at), sl_moments_at⟩) (c_moments_at : PySem.W.codeIn K cd_moments_at "moments_at" = true) (k_moments_at : PySem.W.keepIn K (.ref f_moments_at) = true)
    {od_is_before an_is_before : Option Addr} {sl_is_before : Array (Option Value)} {oc_is_before kV_is_before dc_is_before pm_is_before cd_is_before ct_is_before : Value}
    (a_is_before : PySem.W.nsIn K mainGlobals "is_before" = some (some (.ref f_is_before))) (l_is_before : K.lookup f_is_before = some ⟨oc_is_before, od_is_before, .func (PySem.W.fnOf "is_before" "is_before" (defArgs s_is_before) (defBody s_is_before) (defScope s_is_before) .none kV_is_before dc_is_before pm_is_before an_is_before cd_is_before ct_is_before), sl_is_before⟩) (c_is_before : PySem.W.codeIn K cd_is_before "is_before" = true) (k_is_before : PySem.W.keepIn K (.ref f_is_before) = true)
    {od__law_two an__law_two : Option Addr} {sl__law_two : Array (Option Value)} {oc__law_two kV__law_two dc__law_two pm__law_two cd__law_two ct__law_two : Value}
    (a__law_two : PySem.W.nsIn K mainGlobals "_law_two" = some (some (.ref f__law_two))) (l__law_two : K.lookup f__law_two = some ⟨oc__law_two, od__law_two, .func (PySem.W.fnOf "_law_two" "_law_two" (defArgs s__law_two) (defBody s__law_two) (defScope s__law_two) .none kV__law_two dc__law_two pm__law_two an__law_two cd__law_two ct__law_two), sl__law_two⟩) (c__law_two : PySem.W.codeIn K cd__law_two "_law_two" = true) (k__law_two : PySem.W.keepIn K (.ref f__law_two) = true)
    {od__law_divisor an__law_divisor : Option Addr} {sl__law_divisor : Array (Option Value)} {oc__law_divisor kV__law_divisor dc__law_divisor pm__law_divisor cd__law_divisor ct__law_divisor : Value}
    (a__law_divisor : PySem.W.nsIn K mainGlobals "_law_divisor" = some (some (.ref f__law_divisor))) (l__law_divisor : K.lookup f__law_divisor = some ⟨oc__law_divisor, od__law_divisor, .func (PySem.W.fnOf "_law_divisor" "_law_divisor" (defArgs s__law_divisor) (defBody s__law_divisor) (defScope s__law_divisor) .none kV__law_divisor dc__law_divisor pm__law_divisor an__law_divisor cd__law_divisor ct__law_divisor), sl__law_divisor⟩) (c__law_divisor : PySem.W.codeIn K cd__law_divisor "_law_divisor" = true) (k__law_divisor : PySem.W.keepIn K (.ref f__law_divisor) = true)
    {od__law_value_right an__law_value_right : Option Addr} {sl__law_value_right : Array (Option Value)} {oc__law_value_right kV__law_value_right dc__law_value_right pm__law_value_right cd__law_value_right ct__law_value_right : Value}
    (a__law_value_right : PySem.W.nsIn K mainGlobals "_law_value_right" = some (some (.ref f__law_value_right))) (l__law_value_right : K.lookup f__law_value_right = some ⟨oc__law_value_right, od__law_value_right, .func (PySem.W.fnOf "_law_value_right" "_law_value_right" (defArgs s__law_value_right) (defBody s__law_value_right) (defScope s__law_value_right) .none kV__law_value_right dc__law_value_right pm__law_value_right an__law_value_right cd__law_value_right ct__law_value_right), sl__law_value_right⟩) (c__law_value_right : PySem.W.codeIn K cd__law_value_right "_law_value_right" = true) (k__law_value_right : PySem.W.keepIn K (.ref f__law_value_right) = true)
    {od__law_at_right an__law_at_right : Option Addr} {sl__law_at_right : Array (Option Value)} {oc__law_at_right kV__law_at_right dc__law_at_right pm__law_at_right cd__law_at_right ct__law_at_right : Value}
    (a__law_at_right : PySem.W.nsIn K mainGlobals "_law_at_right" = some (some (.ref f__law_at_right))) (l__law_at_right : K.lookup f__law_at_right = some ⟨oc__law_at_right, od__law_at_right, .func (PySem.W.fnOf "_law_at_right" "_law_at_right" (defArgs s__law_at_right) (defBody s__law_at_right) (defScope s__law_at_right) .none kV__law_at_right dc__law_at_right pm__law_at_right an__law_at_right cd__law_at_right ct__law_at_right), sl__law_at_right⟩) (c__law_at_right : PySem.W.codeIn K cd__law_at_right "_law_at_right" = true) (k__law_at_right : PySem.W.keepIn K (.ref f__law_at_right) = true)
    {od_law an_law : Option Addr} {sl_law : Array (Option Value)} {oc_law kV_law dc_law pm_law cd_law ct_law : Value}
    (a_law : PySem.W.nsIn K mainGlobals "law" = some (some (.ref f_law))) (l_law : K.lookup f_law = some ⟨oc_law, od_law, .func (PySem.W.fnOf "law" "law" (defArgs s_law) (defBody s_law) (defScope s_law) .none kV_law dc_law pm_law an_law cd_law ct_law), sl_law⟩) (c_law : PySem.W.codeIn K cd_law "law" = true) (k_law : PySem.W.keepIn K (.ref f_law) = true)
    (z_len : PySem.W.nsIn K mainGlobals "len" = some none)
    (z_abs : PySem.W.nsIn K mainGlobals "abs" = some none)
    (z_max : PySem.W.nsIn K mainGlobals "max" = some none)
    (z_min : PySem.W.nsIn K mainGlobals "min" = some none)
    (z_range : PySem.W.nsIn K mainGlobals "range" = some none)
    (z_int : PySem.W.nsIn K mainGlobals "int" = some none)
    (z_list : PySem.W.nsIn K mainGlobals "list" = some none)
    (z_sorted : PySem.W.nsIn K mainGlobals "sorted" = some none)
    (z_repr : PySem.W.nsIn K mainGlobals "repr" = some none)
    (z_divmod : PySem.W.nsIn K mainGlobals "divmod" = some none)
    (z_str : PySem.W.nsIn K mainGlobals "str" = some none)
    (z_gcd : PySem.W.nsIn K mainGlobals "gcd" = some (some (.builtin "math.gcd")))
    (dg : PySem.W.nsIn K cStatics "sys.int_max_str_digits" = some none)
    : ∃ fd : FuncData, (∀ (s : Shared) (u : Value), BindsTo s fd ⟨[u], []⟩ [("script", u)]) ∧ ∀ base : Heap, K.In base → base.Ns mainGlobals mg → FnQ P w K mg base 5 fa fd ["script"] (spLaw K) := by
  have e := hfa.symm.trans (PySem.W.mg_of X G a_law)
  cases e
  have B : Blt mg := ⟨PySem.W.mg_none_of X G z_len, PySem.W.mg_none_of X G z_abs, PySem.W.mg_none_of X G z_max, PySem.W.mg_none_of X G z_min, PySem.W.mg_none_of X G z_range, PySem.W.mg_none_of X G z_int, PySem.W.mg_none_of X G z_list, PySem.W.mg_none_of X G z_sorted⟩
  have rp := PySem.W.mg_none_of X G z_repr
  have dm := PySem.W.mg_none_of X G z_divmod
  have sr := PySem.W.mg_none_of X G z_str
  have mg_gcd := PySem.W.mg_of X G z_gcd
  have F__law_pool := fun_mk (st := s__law_pool) l__law_pool c__law_pool k__law_pool
  have b__law_pool := F__law_pool.binds (ps := ["script", "at"]) fun _ _ _ _ _ _ us hl => match us, hl with | [_, _], _ => rfl
  have F__law_draw := fun_mk (st := s__law_draw) l__law_draw c__law_draw k__law_draw
  have b__law_draw := F__law_draw.binds (ps := ["pool", "many"]) fun _ _ _ _ _ _ us hl => match us, hl with | [_, _], _ => rfl
  have F__law_word := fun_mk (st := s__law_word) l__law_word c__law_word k__law_word
  have b__law_word := F__law_word.binds (ps := ["pool", "most"]) fun _ _ _ _ _ _ us hl => match us, hl with | [_, _], _ => rfl
  have F__law_moment := fun_mk (st := s__law_moment) l__law_moment c__law_moment k__law_moment
  have b__law_moment := F__law_moment.binds (ps := ["pool"]) fun _ _ _ _ _ _ us hl => match us, hl with | [_], _ => rfl
  have F__law_signs := fun_mk (st := s__law_signs) l__law_signs c__law_signs k__law_signs
  have b__law_signs := F__law_signs.binds (ps := ["head", "ring", "size"]) fun _ _ _ _ _ _ us hl => match us, hl with | [_, _, _], _ => rfl
  have F_is_word := fun_mk (st := s_is_word) l_is_word c_is_word k_is_word
  have b_is_word := F_is_word.binds (ps := ["text"]) fun _ _ _ _ _ _ us hl => match us, hl with | [_], _ => rfl
  have F_check_moment := fun_mk (st := s_check_moment) l_check_moment c_check_moment k_check_moment
  have b_check_moment := F_check_moment.binds (ps := ["moment"]) fun _ _ _ _ _ _ us hl => match us, hl with | [_], _ => rfl
  have F_check_at_least := fun_mk (st := s_check_at_least) l_check_at_least c_check_at_least k_check_at_least
  have b_check_at_least := F_check_at_least.binds (ps := ["number", "least"]) fun _ _ _ _ _ _ us hl => match us, hl with | [_, _], _ => rfl
  have F_first_signs := fun_mk (st := s_first_signs) l_first_signs c_first_signs k_first_signs
  have b_first_signs := F_first_signs.binds (ps := ["moment", "many"]) fun _ _ _ _ _ _ us hl => match us, hl with | [_, _], _ => rfl
  have F_shortest_ring := fun_mk (st := s_shortest_ring) l_shortest_ring c_shortest_ring k_shortest_ring
  have b_shortest_ring := F_shortest_ring.binds (ps := ["ring"]) fun _ _ _ _ _ _ us hl => match us, hl with | [_], _ => rfl
  have F_shared_end := fun_mk (st := s_shared_end) l_shared_end c_shared_end k_shared_end
  have b_shared_end := F_shared_end.binds (ps := ["head", "ring"]) fun _ _ _ _ _ _ us hl => match us, hl with | [_, _], _ => rfl
  have F_plain := fun_mk (st := s_plain) l_plain c_plain k_plain
  have b_plain := F_plain.binds (ps := ["moment"]) fun _ _ _ _ _ _ us hl => match us, hl with | [_], _ => rfl
  have F_number_of := fun_mk (st := s_number_of) l_number_of c_number_of k_number_of
  have b_number_of := F_number_of.binds (ps := ["word"]) fun _ _ _ _ _ _ us hl => match us, hl with | [_], _ => rfl
  have F_ratio := fun_mk (st := s_ratio) l_ratio c_ratio k_ratio
  have b_ratio := F_ratio.binds (ps := ["top", "bottom"]) fun _ _ _ _ _ _ us hl => match us, hl with | [_, _], _ => rfl
  have F_value := fun_mk (st := s_value) l_value c_value k_value
  have b_value := F_value.binds (ps := ["moment"]) fun _ _ _ _ _ _ us hl => match us, hl with | [_], _ => rfl
  have F_expansion := fun_mk (st := s_expansion) l_expansion c_expansion k_expansion
  have b_expansion := F_expansion.binds (ps := ["top", "bottom"]) fun _ _ _ _ _ _ us hl => match us, hl with | [_, _], _ => rfl
  have F_check_between := fun_mk (st := s_check_between) l_check_between c_check_between k_check_between
  have b_check_between := F_check_between.binds (ps := ["number", "least", "most"]) fun _ _ _ _ _ _ us hl => match us, hl with | [_, _, _], _ => rfl
  have F_moments_at := fun_mk (st := s_moments_at) l_moments_at c_moments_at k_moments_at
  have b_moments_at := F_moments_at.binds (ps := ["top", "bottom"]) fun _ _ _ _ _ _ us hl => match us, hl with | [_, _], _ => rfl
  have F_is_before := fun_mk (st := s_is_before) l_is_before c_is_before k_is_before
  have b_is_before := F_is_before.binds (ps := ["first", "second"]) fun _ _ _ _ _ _ us hl => match us, hl with | [_, _], _ => rfl
  have F__law_two := fun_mk (st := s__law_two) l__law_two c__law_two k__law_two
  have b__law_two := F__law_two.binds (ps := ["size"]) fun _ _ _ _ _ _ us hl => match us, hl with | [_], _ => rfl
  have F__law_divisor := fun_mk (st := s__law_divisor) l__law_divisor c__law_divisor k__law_divisor
  have b__law_divisor := F__law_divisor.binds (ps := ["one", "other"]) fun _ _ _ _ _ _ us hl => match us, hl with | [_, _], _ => rfl
  have F__law_value_right := fun_mk (st := s__law_value_right) l__law_value_right c__law_value_right k__law_value_right
  have b__law_value_right := F__law_value_right.binds (ps := ["pool"]) fun _ _ _ _ _ _ us hl => match us, hl with | [_], _ => rfl
  have F__law_at_right := fun_mk (st := s__law_at_right) l__law_at_right c__law_at_right k__law_at_right
  have b__law_at_right := F__law_at_right.binds (ps := ["pool"]) fun _ _ _ _ _ _ us hl => match us, hl with | [_], _ => rfl
  have F_law := fun_mk (st := s_law) l_law c_law k_law
  refine ⟨PySem.W.fnOf "law" "law" (defArgs s_law) (defBody s_law) (defScope s_law) .none kV_law dc_law pm_law an_law cd_law ct_law, fun s u => .of_eq rfl, fun base _ _ => ?_⟩
  have h__law_pool : Has P w K mg base "_law_pool" 1 ["script", "at"] (spPool K) := ⟨_, _, PySem.W.mg_of X G a__law_pool, k__law_pool, b__law_pool, ok__law_pool F__law_pool B⟩
  have h__law_draw : Has P w K mg base "_law_draw" 1 ["pool", "many"] (spDraw) := ⟨_, _, PySem.W.mg_of X G a__law_draw, k__law_draw, b__law_draw, ok__law_draw F__law_draw B⟩
  have h__law_word : Has P w K mg base "_law_word" 2 ["pool", "most"] (spWord) := ⟨_, _, PySem.W.mg_of X G a__law_word, k__law_word, b__law_word, ok__law_word F__law_word B h__law_draw⟩
  have h__law_moment : Has P w K mg base "_law_moment" 3 ["pool"] (spMoment) := ⟨_, _, PySem.W.mg_of X G a__law_moment, k__law_moment, b__law_moment, ok__law_moment F__law_moment h__law_draw h__law_word⟩
  have h__law_signs : Has P w K mg base "_law_signs" 1 ["head", "ring", "size"] (spSigns) := ⟨_, _, PySem.W.mg_of X G a__law_signs, k__law_signs, b__law_signs, ok__law_signs F__law_signs B⟩
  have h_is_word : Has P w K mg base "is_word" 1 ["text"] (spIsWord) := ⟨_, _, PySem.W.mg_of X G a_is_word, k_is_word, b_is_word, ok_is_word F_is_word ⟩
  have h_check_moment : Has P w K mg base "check_moment" 2 ["moment"] (spCheckMoment) := ⟨_, _, PySem.W.mg_of X G a_check_moment, k_check_moment, b_check_moment, ok_check_moment F_check_moment h_is_word⟩
  have h_check_at_least : Has P w K mg base "check_at_least" 1 ["number", "least"] (spAtLeast) := ⟨_, _, PySem.W.mg_of X G a_check_at_least, k_check_at_least, b_check_at_least, ok_check_at_least F_check_at_least ⟩
  have h_first_signs : Has P w K mg base "first_signs" 1 ["moment", "many"] (spFirstSigns) := ⟨_, _, PySem.W.mg_of X G a_first_signs, k_first_signs, b_first_signs, ok_first_signs F_first_signs B⟩
  have h_shortest_ring : Has P w K mg base "shortest_ring" 1 ["ring"] (spShortest) := ⟨_, _, PySem.W.mg_of X G a_shortest_ring, k_shortest_ring, b_shortest_ring, ok_shortest_ring F_shortest_ring ⟩
  have h_shared_end : Has P w K mg base "shared_end" 1 ["head", "ring"] (spShared) := ⟨_, _, PySem.W.mg_of X G a_shared_end, k_shared_end, b_shared_end, ok_shared_end F_shared_end B⟩
  have h_plain : Has P w K mg base "plain" 3 ["moment"] (spPlain) := ⟨_, _, PySem.W.mg_of X G a_plain, k_plain, b_plain, ok_plain F_plain B h_check_moment h_shortest_ring h_shared_end⟩
  have h_number_of : Has P w K mg base "number_of" 1 ["word"] (spNumberOf) := ⟨_, _, PySem.W.mg_of X G a_number_of, k_number_of, b_number_of, ok_number_of F_number_of B dg⟩
  have h_ratio : Has P w K mg base "ratio" 1 ["top", "bottom"] (spRatio) := ⟨_, _, PySem.W.mg_of X G a_ratio, k_ratio, b_ratio, ok_ratio F_ratio mg_gcd⟩
  have h_value : HasG ["moment"] @oneG P w K mg base "value" 3 ["moment"] (spValue) := ⟨_, _, PySem.W.mg_of X G a_value, k_value, b_value, kb_one fun _ => rfl, ok_value F_value B h_ratio h_check_moment h_number_of⟩
  have h_expansion : Has P w K mg base "expansion" 1 ["top", "bottom"] (spExpansion) := ⟨_, _, PySem.W.mg_of X G a_expansion, k_expansion, b_expansion, ok_expansion F_expansion B dm sr⟩
  have h_check_between : Has P w K mg base "check_between" 1 ["number", "least", "most"] (spBetween) := ⟨_, _, PySem.W.mg_of X G a_check_between, k_check_between, b_check_between, ok_check_between F_check_between ⟩
  have h_moments_at : HasG ["bottom", "top"] @swG P w K mg base "moments_at" 2 ["top", "bottom"] (spMomentsAt) := ⟨_, _, PySem.W.mg_of X G a_moments_at, k_moments_at, b_moments_at, kb_swap fun _ _ => rfl, ok_moments_at F_moments_at h_check_at_least h_check_between h_expansion⟩
  have h_is_before : Has P w K mg base "is_before" 3 ["first", "second"] (spIsBefore) := ⟨_, _, PySem.W.mg_of X G a_is_before, k_is_before, b_is_before, ok_is_before F_is_before B h_check_moment h_first_signs⟩
  have h__law_two : Has P w K mg base "_law_two" 1 ["size"] (spTwo) := ⟨_, _, PySem.W.mg_of X G a__law_two, k__law_two, b__law_two, ok__law_two F__law_two B dg⟩
  have h__law_divisor : Has P w K mg base "_law_divisor" 1 ["one", "other"] (spDivisor) := ⟨_, _, PySem.W.mg_of X G a__law_divisor, k__law_divisor, b__law_divisor, ok__law_divisor F__law_divisor ⟩
  have h__law_value_right : HasQ P w K mg base "_law_value_right" 4 ["pool"] (spValueRight) := ⟨_, _, PySem.W.mg_of X G a__law_value_right, k__law_value_right, b__law_value_right, ok__law_value_right F__law_value_right B rp dg h__law_moment h_value h__law_divisor h__law_signs h__law_two⟩
  have h__law_at_right : Has P w K mg base "_law_at_right" 4 ["pool"] (spAtRight) := ⟨_, _, PySem.W.mg_of X G a__law_at_right, k__law_at_right, b__law_at_right, ok__law_at_right F__law_at_right B h__law_draw h__law_two h__law_divisor h_moments_at h_plain h_value h_is_before⟩
  exact ok_law F_law B h__law_pool h__law_value_right h__law_at_right h_value h_moments_at
theorem walk_law {l : PySem.W.OpenLaw} {q : Program} {loose : List Str} {XP : (Str → Option Value) → Heap → Prop} {YP : World → Heap → Prop} {d : DefRec} {K : Params → PySem.W.Frag} (hn : l.most = some 63) (hdf : d.params.defaults = [])
    (hY : ∀ (w : World) (h : Heap), YP w h → (K w.params).In h)
    (F : ∀ (w : World) (mg : Str → Option Value) (fa : Addr) (h : Heap), (K w.params).In h → h.Ns mainGlobals mg → mg d.name = some (.ref fa) →
      ∃ fd : FuncData, (∀ (s : Shared) (u : Value), BindsTo s fd ⟨[u], []⟩ [("script", u)]) ∧ ∀ base : Heap, (K w.params).In base → base.Ns mainGlobals mg → FnQ l.prog w (K w.params) mg base 5 fa fd ["script"] (spLaw (K w.params))) :
    PySem.W.WalkO q loose XP YP l.row.toRowW d [] (fun f vs => PySem.call f vs) :=
  walk_ofQ (n := 63) (k := 5) (x := "script") (sp := fun w => spLaw (K w.params)) hn (by decide) hdf ⟨rfl, by decide, by decide⟩ hY F (fun _ _ a ns hl _ hS => ⟨a, ns, rfl, hS, hl, fun _ => rfl⟩)
end
end HC
open PySem PySem.W PyProof.Rows in
set_option maxRecDepth 100000 in
set_option maxHeartbeats 0 in
theorem PySem.Challenge.cw_halfcuts_k04_values_holds : PySem.Challenge.rw_halfcuts_k04_values.Holds := by
  w_on; o_law; k_head; (case hw => w_witness2)
  k_fill
  refine HC.walk_law (l := PySem.Challenge.rw_halfcuts_k04_values) rfl rfl (fun w h Y => PySem.W.kIn_of Y) ?F
  case F =>
    intro w mg fa h KX G hmg
    refine' HC.all_mk KX G hmg ?a__law_pool ?l__law_pool ?c__law_pool ?k__law_pool ?a__law_draw ?l__law_draw ?c__law_draw ?k__law_draw ?a__law_word ?l__law_word ?c__law_word ?k__law_word ?a__law_moment ?l__law_moment ?c__law_moment ?k__law_moment ?a__law_signs ?l__law_signs ?c__law_signs ?k__law_signs ?a_is_word ?l_is_word ?c_is_word ?k_is_word ?a_check_moment ?l_check_moment ?c_check_moment ?k_check_moment ?a_check_at_least ?l_check_at_least ?c_check_at_least ?k_check_at_least ?a_first_signs ?l_first_signs ?c_first_signs ?k_first_signs ?a_shortest_ring ?l_shortest_ring ?c_shortest_ring ?k_shortest_ring ?a_shared_end ?l_shared_end ?c_shared_end ?k_shared_end ?a_plain ?l_plain ?c_plain ?k_plain ?a_number_of ?l_number_of ?c_number_of ?k_number_of ?a_ratio ?l_ratio ?c_ratio ?k_ratio ?a_value ?l_value ?c_value ?k_value ?a_expansion ?l_expansion ?c_expansion ?k_expansion ?a_check_between ?l_check_between ?c_check_between ?k_check_between ?a_moments_at ?l_moments_at ?c_moments_at ?k_moments_at ?a_is_before ?l_is_before ?c_is_before ?k_is_before ?a__law_two ?l__law_two ?c__law_two ?k__law_two ?a__law_divisor ?l__law_divisor ?c__law_divisor ?k__law_divisor ?a__law_value_right ?l__law_value_right ?c__law_value_right ?k__law_value_right ?a__law_at_right ?l__law_at_right ?c__law_at_right ?k__law_at_right ?a_law ?l_law ?c_law ?k_law ?z_len ?z_abs ?z_max ?z_min ?z_range ?z_int ?z_list ?z_sorted ?z_repr ?z_divmod ?z_str ?z_gcd ?dg
    (case a__law_pool => k_is)
    (case l__law_pool => k_is)
    (case c__law_pool => k_is)
    (case k__law_pool => k_is)
    (case a__law_draw => k_is)
    (case l__law_draw => k_is)
    (case c__law_draw => k_is)
    (case k__law_draw => k_is)
    (case a__law_word => k_is)
    (case l__law_word => k_is)
    (case c__law_word => k_is)
    (case k__law_word => k_is)
    (case a__law_moment => k_is)
    (case l__law_moment => k_is)
    (case c__law_moment => k_is)
    (case k__law_moment => k_is)
    (case a__law_signs => k_is)
    (case l__law_signs => k_is)
    (case c__law_signs => k_is)
    (case k__law_signs => k_is)
    (case a_is_word => k_is)
    (case l_is_word => k_is)
    (case c_is_word => k_is)
    (case k_is_word => k_is)
    (case a_check_moment => k_is)
    (case l_check_moment => k_is)
    (case c_check_moment => k_is)
    (case k_check_moment => k_is)
    (case a_check_at_least => k_is)
    (case l_check_at_least => k_is)
    (case c_check_at_least => k_is)
    (case k_check_at_least => k_is)
    (case a_first_signs => k_is)
    (case l_first_signs => k_is)
    (case c_first_signs => k_is)
    (case k_first_signs => k_is)
    (case a_shortest_ring => k_is)
    (case l_shortest_ring => k_is)
    (case c_shortest_ring => k_is)
    (case k_shortest_ring => k_is)
    (case a_shared_end => k_is)
    (case l_shared_end => k_is)
    (case c_shared_end => k_is)
    (case k_shared_end => k_is)
    (case a_plain => k_is)
    (case l_plain => k_is)
    (case c_plain => k_is)
    (case k_plain => k_is)
    (case a_number_of => k_is)
    (case l_number_of => k_is)
    (case c_number_of => k_is)
    (case k_number_of => k_is)
    (case a_ratio => k_is)
    (case l_ratio => k_is)
    (case c_ratio => k_is)
    (case k_ratio => k_is)
    (case a_value => k_is)
    (case l_value => k_is)
    (case c_value => k_is)
    (case k_value => k_is)
    (case a_expansion => k_is)
    (case l_expansion => k_is)
    (case c_expansion => k_is)
    (case k_expansion => k_is)
    (case a_check_between => k_is)
    (case l_check_between => k_is)
    (case c_check_between => k_is)
    (case k_check_between => k_is)
    (case a_moments_at => k_is)
    (case l_moments_at => k_is)
    (case c_moments_at => k_is)
    (case k_moments_at => k_is)
    (case a_is_before => k_is)
    (case l_is_before => k_is)
    (case c_is_before => k_is)
    (case k_is_before => k_is)
    (case a__law_two => k_is)
    (case l__law_two => k_is)
    (case c__law_two => k_is)
    (case k__law_two => k_is)
    (case a__law_divisor => k_is)
    (case l__law_divisor => k_is)
    (case c__law_divisor => k_is)
    (case k__law_divisor => k_is)
    (case a__law_value_right => k_is)
    (case l__law_value_right => k_is)
    (case c__law_value_right => k_is)
    (case k__law_value_right => k_is)
    (case a__law_at_right => k_is)
    (case l__law_at_right => k_is)
    (case c__law_at_right => k_is)
    (case k__law_at_right => k_is)
    (case a_law => k_is)
    (case l_law => k_is)
    (case c_law => k_is)
    (case k_law => k_is)
    (case z_len => k_is)
    (case z_abs => k_is)
    (case z_max => k_is)
    (case z_min => k_is)
    (case z_range => k_is)
    (case z_int => k_is)
    (case z_list => k_is)
    (case z_sorted => k_is)
    (case z_repr => k_is)
    (case z_divmod => k_is)
    (case z_str => k_is)
    (case z_gcd => k_is)
    (case dg => k_is)
