/-
  Bits of an address, its prefixes, and when one holds or covers another; no walk.
  Conditions: none but that bytes are bytes.
-/
import Derived.Test.YtnadendhboiliaaGreatA
import Derived.Laws.BitsAllLaws
namespace Go.Proofs.YtnadendhboiliaaGreat
open Go.ChangeShapes Go.WideShapes Go.ChangeAt Go.RowKit
set_option linter.unusedVariables false

/-- Bit i of a row of bytes. -/
def bitX (xs : List Nat) (i : Nat) : Nat := (xs.getD (i / 8) 0) / 2 ^ (7 - i % 8) % 2
/-- A byte without one of its bits. -/
def offB (x m : Nat) : Nat := x - x / 2 ^ m % 2 * 2 ^ m
/-- A row of bytes without bit i. -/
def clr (xs : List Nat) (i : Nat) : List Nat := xs.set (i / 8) (offB (xs.getD (i / 8) 0) (7 - i % 8))
/-- A row of bytes without the k bits from bit n on. -/
def clrs (xs : List Nat) (n : Nat) : Nat → List Nat
  | 0 => xs
  | k + 1 => clr (clrs xs n k) (n + k)

theorem offB_le (x m : Nat) : offB x m ≤ x := Nat.sub_le _ _
theorem offB_all : (List.range 256).all (fun x => (List.range 8).all fun m => (List.range 8).all fun j => offB x m / 2 ^ j % 2 == if j = m then 0 else x / 2 ^ j % 2) = true := by decide +kernel
theorem offB_bit {x m j : Nat} (hx : x < 256) (hm : m < 8) (hj : j < 8) : offB x m / 2 ^ j % 2 = if j = m then 0 else x / 2 ^ j % 2 := by
  have h := List.all_eq_true.1 offB_all x (List.mem_range.2 hx)
  have h := List.all_eq_true.1 h m (List.mem_range.2 hm)
  have h := List.all_eq_true.1 h j (List.mem_range.2 hj)
  exact eq_of_beq h

theorem getD_lt {xs : List Nat} (h : ∀ x ∈ xs, x < 256) (i : Nat) : xs.getD i 0 < 256 := by
  rw [List.getD_eq_getElem?_getD]
  cases hi : xs[i]? with
  | none => simp
  | some x => simpa using h x (List.mem_of_getElem? hi)
theorem clr_bytes {xs : List Nat} (h : Bytes xs) (i : Nat) : Bytes (clr xs i) := by
  refine ⟨by rw [clr, List.length_set, h.1], fun x hx => ?_⟩
  rcases List.mem_or_eq_of_mem_set hx with h1 | h1
  · exact h.2 x h1
  · rw [h1]; exact Nat.lt_of_le_of_lt (offB_le _ _) (getD_lt h.2 _)
theorem clrs_bytes {xs : List Nat} (h : Bytes xs) (n : Nat) : ∀ k, Bytes (clrs xs n k)
  | 0 => h
  | k + 1 => clr_bytes (clrs_bytes h n k) _
theorem bit_clr {xs : List Nat} (h : Bytes xs) {i j : Nat} (hi : i < 128) : bitX (clr xs i) j = if j = i then 0 else bitX xs j := by
  unfold bitX clr
  by_cases hb : i / 8 = j / 8
  · have e : (xs.set (i / 8) (offB (xs.getD (i / 8) 0) (7 - i % 8))).getD (j / 8) 0 = offB (xs.getD (j / 8) 0) (7 - i % 8) := by
      rw [List.getD_eq_getElem?_getD, hb, List.getElem?_set_self (by rw [h.1]; omega)]
      rfl
    rw [e, offB_bit (getD_lt h.2 _) (by omega) (by omega)]
    by_cases hj : j = i
    · rw [if_pos (by omega), if_pos hj]
    · rw [if_neg (by omega), if_neg hj]
  · have e : (xs.set (i / 8) (offB (xs.getD (i / 8) 0) (7 - i % 8))).getD (j / 8) 0 = xs.getD (j / 8) 0 := by
      rw [List.getD_eq_getElem?_getD, List.getElem?_set_ne hb, List.getD_eq_getElem?_getD]
    rw [e, if_neg (by intro h; rw [h] at hb; exact hb rfl)]
theorem bit_clrs {xs : List Nat} (h : Bytes xs) (n : Nat) : ∀ (k j : Nat), n + k ≤ 128 → bitX (clrs xs n k) j = if n ≤ j ∧ j < n + k then 0 else bitX xs j
  | 0, j, _ => by rw [clrs, if_neg (by omega)]
  | k + 1, j, hk => by
    rw [clrs, bit_clr (clrs_bytes h n k) (by omega), bit_clrs h n k j (by omega)]
    by_cases h1 : j = n + k
    · rw [if_pos h1, if_pos (by omega)]
    · rw [if_neg h1]
      by_cases h2 : n ≤ j ∧ j < n + k
      · rw [if_pos h2, if_pos (by omega)]
      · rw [if_neg h2, if_neg (by omega)]
theorem byte_ext {x y : Nat} (hx : x < 256) (hy : y < 256) (h : ∀ m, m < 8 → x / 2 ^ m % 2 = y / 2 ^ m % 2) : x = y := by
  have h0 := h 0 (by omega)
  have h1 := h 1 (by omega)
  have h2 := h 2 (by omega)
  have h3 := h 3 (by omega)
  have h4 := h 4 (by omega)
  have h5 := h 5 (by omega)
  have h6 := h 6 (by omega)
  have h7 := h 7 (by omega)
  simp only [show (2:Nat)^0 = 1 from rfl, show (2:Nat)^1 = 2 from rfl, show (2:Nat)^2 = 4 from rfl, show (2:Nat)^3 = 8 from rfl, show (2:Nat)^4 = 16 from rfl, show (2:Nat)^5 = 32 from rfl, show (2:Nat)^6 = 64 from rfl, show (2:Nat)^7 = 128 from rfl] at *
  omega
theorem bits_ext {xs ys : List Nat} (hx : Bytes xs) (hy : Bytes ys) (h : ∀ i, i < 128 → bitX xs i = bitX ys i) : xs = ys := by
  apply List.ext_getElem (by rw [hx.1, hy.1])
  intro i h1 h2
  have hi : i < 16 := by rw [hx.1] at h1; exact h1
  refine byte_ext (hx.2 _ (List.getElem_mem h1)) (hy.2 _ (List.getElem_mem h2)) fun m hm => ?_
  have := h (8 * i + (7 - m)) (by omega)
  unfold bitX at this
  rw [show (8 * i + (7 - m)) / 8 = i by omega, show 7 - (8 * i + (7 - m)) % 8 = m by omega, List.getD_eq_getElem?_getD, List.getD_eq_getElem?_getD, List.getElem?_eq_getElem h1, List.getElem?_eq_getElem h2] at this
  exact this

theorem bitsOf_le (b : Bool) : 0 ≤ bitsOf b ∧ bitsOf b ≤ 128 := by cases b <;> decide
theorem valid_bit {b : Bool} {xs : List Nat} (hx : Bytes xs) (h : validA b xs = true) {i : Nat} (hi : bitsOf b ≤ i) : bitX xs i = 0 := by
  unfold bitX
  have hz : xs.getD (i / 8) 0 = 0 := by
    rw [List.getD_eq_getElem?_getD]
    cases hg : xs[i / 8]? with
    | none => rfl
    | some x =>
      have hl := (List.getElem?_eq_some_iff.1 hg).1
      rw [hx.1] at hl
      cases b with
      | true => rw [show bitsOf true = 128 from rfl] at hi; omega
      | false =>
        rw [show bitsOf false = 32 from rfl] at hi
        unfold validA at h
        rw [Bool.false_or, List.all_eq_true] at h
        have hm : x ∈ xs.drop 4 := by
          apply List.mem_of_getElem? (i := i / 8 - 4)
          rw [List.getElem?_drop, show 4 + (i / 8 - 4) = i / 8 by omega]
          exact hg
        simpa using h x hm
  rw [hz, Nat.zero_div]
theorem valid_of_bits {b : Bool} {xs : List Nat} (hx : Bytes xs) (h : ∀ i : Nat, i < 128 → bitsOf b ≤ i → bitX xs i = 0) : validA b xs = true := by
  cases b with
  | true => rfl
  | false =>
    unfold validA
    rw [Bool.false_or, List.all_eq_true]
    intro x hm
    obtain ⟨k, hk⟩ := List.mem_iff_getElem?.1 hm
    rw [List.getElem?_drop] at hk
    have hl := (List.getElem?_eq_some_iff.1 hk).1
    rw [hx.1] at hl
    have hx0 : x = 0 := byte_ext (hx.2 x (List.mem_of_getElem? hk)) (by omega) fun m hm => by
      have := h (8 * (4 + k) + (7 - m)) (by omega) (by rw [show bitsOf false = 32 from rfl]; omega)
      unfold bitX at this
      rw [show (8 * (4 + k) + (7 - m)) / 8 = 4 + k by omega, show 7 - (8 * (4 + k) + (7 - m)) % 8 = m by omega, List.getD_eq_getElem?_getD, hk] at this
      rw [Nat.zero_div]
      exact this
    simp [hx0]

/-- All bits behind the prefix are zero. -/
def tailZ (b : Bool) (xs : List Nat) (n : Int) : Bool := (List.range 128).all fun i => !(decide (n ≤ (i : Int)) && decide ((i : Int) < bitsOf b)) || bitX xs i == 0
/-- The first bits agree. -/
def agree (xs ys : List Nat) (n : Int) : Bool := (List.range 128).all fun i => !decide ((i : Int) < n) || bitX xs i == bitX ys i
/-- Whether a prefix is valid. -/
def validP (b : Bool) (xs : List Nat) (n : Int) : Bool := validA b xs && decide (0 ≤ n) && decide (n ≤ bitsOf b) && tailZ b xs n
/-- Whether an address belongs to a prefix. -/
def contP (b : Bool) (xs : List Nat) (n : Int) (c : Bool) (ys : List Nat) : Bool := validP b xs n && validA c ys && decide (b = c) && agree xs ys n
/-- Whether an address has a prefix of this length, and its bytes. -/
def pofB (b : Bool) (xs : List Nat) (n : Int) : Bool := validA b xs && decide (0 ≤ n) && decide (n ≤ bitsOf b)
def pofX (b : Bool) (xs : List Nat) (n : Int) : List Nat := clrs xs n.toNat (bitsOf b - n).toNat

theorem tailZ_iff {b : Bool} {xs : List Nat} {n : Int} : tailZ b xs n = true ↔ ∀ i : Nat, i < 128 → n ≤ i → (i : Int) < bitsOf b → bitX xs i = 0 := by
  unfold tailZ
  rw [List.all_eq_true]
  constructor
  · intro h i hi h1 h2
    have := h i (List.mem_range.2 hi)
    rw [decide_eq_true h1, decide_eq_true h2] at this
    simpa using this
  · intro h i hi
    by_cases h1 : n ≤ (i : Int)
    · by_cases h2 : (i : Int) < bitsOf b
      · simp [h i (List.mem_range.1 hi) h1 h2]
      · simp [h2]
    · simp [h1]
theorem agree_iff {xs ys : List Nat} {n : Int} : agree xs ys n = true ↔ ∀ i : Nat, i < 128 → (i : Int) < n → bitX xs i = bitX ys i := by
  unfold agree
  rw [List.all_eq_true]
  constructor
  · intro h i hi h1
    have := h i (List.mem_range.2 hi)
    rw [decide_eq_true h1] at this
    simpa using this
  · intro h i hi
    by_cases h1 : (i : Int) < n
    · simp [h i (List.mem_range.1 hi) h1]
    · simp [h1]
theorem pofX_bytes {b : Bool} {xs : List Nat} (hx : Bytes xs) (n : Int) : Bytes (pofX b xs n) := clrs_bytes hx _ _
theorem pofX_bit {b : Bool} {xs : List Nat} {n : Int} (hx : Bytes xs) (h0 : 0 ≤ n) (h1 : n ≤ bitsOf b) (j : Nat) : bitX (pofX b xs n) j = if n ≤ (j : Int) ∧ (j : Int) < bitsOf b then 0 else bitX xs j := by
  have hb := bitsOf_le b
  rw [pofX, bit_clrs hx _ _ _ (by omega)]
  by_cases h : n ≤ (j : Int) ∧ (j : Int) < bitsOf b
  · rw [if_pos h, if_pos (by omega)]
  · rw [if_neg h, if_neg (by omega)]
theorem pof_parts {b : Bool} {xs : List Nat} {n : Int} (h : pofB b xs n = true) : validA b xs = true ∧ 0 ≤ n ∧ n ≤ bitsOf b := by
  unfold pofB at h
  simp only [Bool.and_eq_true, decide_eq_true_eq] at h
  exact ⟨h.1.1, h.1.2, h.2⟩
/-- The prefix of an address is valid. -/
theorem pof_valid {b : Bool} {xs : List Nat} {n : Int} (hx : Bytes xs) (h : pofB b xs n = true) : validP b (pofX b xs n) n = true := by
  obtain ⟨hv, h0, h1⟩ := pof_parts h
  have hva : validA b (pofX b xs n) = true := valid_of_bits (pofX_bytes hx n) fun i hi hb => by
    rw [pofX_bit hx h0 h1, if_neg (by omega)]
    exact valid_bit hx hv hb
  have ht : tailZ b (pofX b xs n) n = true := tailZ_iff.2 fun i hi h2 h3 => by rw [pofX_bit hx h0 h1, if_pos ⟨h2, h3⟩]
  unfold validP
  rw [hva, ht, decide_eq_true h0, decide_eq_true h1]
  rfl
/-- Contains, as the program asks it: the prefix of the address is the prefix. -/
theorem cont_eq {b c : Bool} {xs ys : List Nat} {n : Int} (hx : Bytes xs) (hy : Bytes ys) : contP b xs n c ys = (pofB c ys n && decide (b = c ∧ xs = pofX c ys n)) := by
  rw [Bool.eq_iff_iff]
  constructor
  · intro h
    unfold contP validP at h
    simp only [Bool.and_eq_true, decide_eq_true_eq] at h
    obtain ⟨⟨⟨⟨⟨⟨hva, h0⟩, h1⟩, ht⟩, hvc⟩, rfl⟩, ha⟩ := h
    have he : xs = pofX b ys n := bits_ext hx (pofX_bytes hy n) fun i hi => by
      rw [pofX_bit hy h0 h1]
      by_cases h2 : n ≤ (i : Int)
      · by_cases h3 : (i : Int) < bitsOf b
        · rw [if_pos ⟨h2, h3⟩]; exact tailZ_iff.1 ht i hi h2 h3
        · rw [if_neg (by omega), valid_bit hx hva (by omega), valid_bit hy hvc (by omega)]
      · rw [if_neg (by omega)]; exact agree_iff.1 ha i hi (by omega)
    unfold pofB
    rw [hvc, decide_eq_true h0, decide_eq_true h1, decide_eq_true ⟨rfl, he⟩]
    rfl
  · intro h
    rw [Bool.and_eq_true, decide_eq_true_eq] at h
    obtain ⟨hp, rfl, he⟩ := h
    obtain ⟨hv, h0, h1⟩ := pof_parts hp
    have hpv := pof_valid hy hp
    rw [← he] at hpv
    have ha : agree xs ys n = true := agree_iff.2 fun i hi h2 => by rw [he, pofX_bit hy h0 h1, if_neg (by omega)]
    unfold contP
    rw [hpv, hv, ha, decide_eq_true rfl]
    rfl
/-- Valid, as the program asks it. -/
theorem valid_cont {b : Bool} {xs : List Nat} {n : Int} : contP b xs n b xs = validP b xs n := by
  unfold contP
  rw [decide_eq_true rfl, agree_iff.2 fun i hi h => rfl]
  cases hv : validP b xs n with
  | false => rfl
  | true =>
    unfold validP at hv
    simp only [Bool.and_eq_true] at hv
    rw [hv.1.1.1]; rfl
/-- Whether a prefix covers another. -/
def covP (b : Bool) (xs : List Nat) (n : Int) (c : Bool) (ys : List Nat) (m : Int) : Bool := validP c ys m && decide (n ≤ m) && contP b xs n c ys
theorem validP_parts {b : Bool} {xs : List Nat} {n : Int} (h : validP b xs n = true) : validA b xs = true ∧ 0 ≤ n ∧ n ≤ bitsOf b ∧ ∀ i : Nat, i < 128 → n ≤ i → (i : Int) < bitsOf b → bitX xs i = 0 := by
  unfold validP at h
  simp only [Bool.and_eq_true, decide_eq_true_eq] at h
  exact ⟨h.1.1.1, h.1.1.2, h.1.2, tailZ_iff.1 h.2⟩
theorem contP_iff {b c : Bool} {xs ys : List Nat} {n : Int} : contP b xs n c ys = true ↔ validP b xs n = true ∧ validA c ys = true ∧ b = c ∧ ∀ i : Nat, i < 128 → (i : Int) < n → bitX xs i = bitX ys i := by
  unfold contP
  simp only [Bool.and_eq_true, decide_eq_true_eq]
  rw [agree_iff]
  exact ⟨fun h => ⟨h.1.1.1, h.1.1.2, h.1.2, h.2⟩, fun h => ⟨⟨⟨h.1, h.2.1⟩, h.2.2.1⟩, h.2.2.2⟩⟩
theorem covP_iff {b c : Bool} {xs ys : List Nat} {n m : Int} : covP b xs n c ys m = true ↔ validP c ys m = true ∧ n ≤ m ∧ contP b xs n c ys = true := by
  unfold covP
  simp only [Bool.and_eq_true, decide_eq_true_eq]
  exact ⟨fun h => ⟨h.1.1, h.1.2, h.2⟩, fun h => ⟨⟨h.1, h.2.1⟩, h.2.2⟩⟩
theorem pof_cont {b : Bool} {xs : List Nat} {n : Int} (hx : Bytes xs) (h : pofB b xs n = true) : contP b (pofX b xs n) n b xs = true := by
  rw [cont_eq (pofX_bytes hx n) hx, h, decide_eq_true ⟨rfl, rfl⟩]; rfl
theorem cov_cont {b c d : Bool} {xs ys zs : List Nat} {n m : Int} (hcov : covP b xs n c ys m = true) (h : contP c ys m d zs = true) : contP b xs n d zs = true := by
  obtain ⟨_, hnm, hc⟩ := covP_iff.1 hcov
  obtain ⟨h1, h2, h3, h4⟩ := contP_iff.1 hc
  obtain ⟨k1, k2, k3, k4⟩ := contP_iff.1 h
  exact contP_iff.2 ⟨h1, k2, h3.trans k3, fun i hi hin => (h4 i hi hin).trans (k4 i hi (by omega))⟩
/-- Two valid prefixes that hold one address are nested. -/
theorem nested {b c d : Bool} {xs ys zs : List Nat} {n m : Int} (h1 : contP b xs n d zs = true) (h2 : contP c ys m d zs = true) : covP b xs n c ys m = true ∨ covP c ys m b xs n = true := by
  obtain ⟨a1, a2, a3, a4⟩ := contP_iff.1 h1
  obtain ⟨b1, b2, b3, b4⟩ := contP_iff.1 h2
  by_cases h : n ≤ m
  · exact .inl (covP_iff.2 ⟨b1, h, contP_iff.2 ⟨a1, (validP_parts b1).1, a3.trans b3.symm, fun i hi hin => (a4 i hi hin).trans (b4 i hi (by omega)).symm⟩⟩)
  · exact .inr (covP_iff.2 ⟨a1, by omega, contP_iff.2 ⟨b1, (validP_parts a1).1, b3.trans a3.symm, fun i hi hin => (b4 i hi hin).trans (a4 i hi (by omega)).symm⟩⟩)
theorem off_all : (List.range 256).all (fun x => (List.range 8).all fun m => x &&& (255 - 2 ^ m) == offB x m) = true := by decide +kernel
theorem off_and {x m : Nat} (hx : x < 256) (hm : m < 8) : x &&& (255 - 2 ^ m) = offB x m := by
  have h := List.all_eq_true.1 off_all x (List.mem_range.2 hx)
  have h := List.all_eq_true.1 h m (List.mem_range.2 hm)
  exact eq_of_beq h
theorem pow_lt_256 {m : Nat} (hm : m < 8) : 2 ^ m < 256 := Nat.lt_of_lt_of_le (Nat.pow_lt_pow_right (by decide) hm) (by decide)
theorem bits_off {x m : Nat} (hx : x < 256) (hm : m < 8) : bits .andNot .u8 (x : Int) ((2 ^ m : Nat) : Int) = ((offB x m : Nat) : Int) := by
  rw [u8_andNot_nat x (2 ^ m) hx (pow_lt_256 hm), off_and hx hm]
theorem shr_128 : (List.range 8).all (fun m => 128 / 2 ^ m == 2 ^ (7 - m)) = true := by decide
theorem shr_pow {m : Nat} (hm : m < 8) : 128 / 2 ^ m = 2 ^ (7 - m) := eq_of_beq (List.all_eq_true.1 shr_128 m (List.mem_range.2 hm))
/-- A prefix as cells. -/
def pfx (b : Bool) (xs : List Nat) (n : Int) : List Value := adr b xs ++ [.int .i64 n]
theorem pfx_length {b : Bool} {xs : List Nat} {n : Int} (h : xs.length = 16) : (pfx b xs n).length = 18 := by
  rw [pfx, List.length_append, adr_length, h]; rfl
theorem pfx_one (b : Bool) (xs : List Nat) (n : Int) : ∀ u ∈ pfx b xs n, u.oneCell' = true := by
  intro u hu
  rcases List.mem_append.1 hu with hu | hu
  · exact adr_one _ _ u hu
  · rw [List.mem_singleton.1 hu]; rfl
/-- A prefix as a letter. -/
theorem pfx_letter (b : Bool) (xs : List Nat) (n : Int) (hx : Bytes xs) : ∃ T : Array Value, (pfx b xs n).toArray = T ∧ T[0]? = some (.bool b) ∧ T[17]? = some (.int .i64 n) ∧ T.size = 18 ∧ (∀ (j : Nat) v, (adr b xs).toArray[j]? = some v → T[j]? = some v) ∧ ∀ u ∈ T.toList, u.oneCell' = true := by
  have h17 : (adr b xs).length = 17 := by rw [adr_length, hx.1]
  refine ⟨_, rfl, ?_, ?_, by rw [List.size_toArray]; exact pfx_length hx.1, ?_, by intro u hu; exact pfx_one _ _ _ u (by simpa using hu)⟩
  · rfl
  · rw [List.getElem?_toArray, pfx, List.getElem?_append_right (by omega), h17]; rfl
  · intro j v hj
    rw [List.getElem?_toArray] at hj ⊢
    rw [pfx, List.getElem?_append_left (List.getElem?_eq_some_iff.1 hj).1]
    exact hj
end Go.Proofs.YtnadendhboiliaaGreat
