/-
  Which addresses the blocked prefixes hold, byte by byte; no walk.
  Conditions: as each theorem says.
-/
import Derived.Test.YtgbbgkbpafpnbaaBa
namespace Go.Proofs.Ytgbbgkbpafpnbaa
open Go.ChangeShapes Go.WideShapes Go.ChangeAt Go.RowKit
set_option linter.unusedVariables false

theorem agree_no {xs ys : List Nat} {n : Int} (i : Nat) (hi : i < 128) (hn : (i : Int) < n) (h : bitX xs i ≠ bitX ys i) : agree xs ys n = false := by
  cases ha : agree xs ys n with
  | false => rfl
  | true => exact absurd (agree_iff.1 ha i hi hn) h
theorem agree_take {xs ys : List Nat} (k : Nat) (h : xs.take k = ys.take k) : agree xs ys (8 * k : Nat) = true := by
  rw [agree_iff]
  intro i hi hn
  have hk : i / 8 < k := by omega
  have e : xs[i / 8]? = ys[i / 8]? := by
    have h2 := congrArg (fun l => l[i / 8]?) h
    simp only [List.getElem?_take, hk, if_true] at h2
    exact h2
  unfold bitX
  rw [List.getD_eq_getElem?_getD, List.getD_eq_getElem?_getD, e]
theorem has_of {p : Px} {c : Bool} {ys : List Nat} (hp : okP p) (hv : validA c ys = true) (hc : p.b = c) : has p c ys = agree p.xs ys p.n := by
  unfold has contP
  rw [hp.2, hv, decide_eq_true hc]
  simp
theorem has_other {p : Px} {c : Bool} {ys : List Nat} (hc : p.b ≠ c) : has p c ys = false := by
  unfold has contP
  rw [decide_eq_false hc]
  simp
theorem ag3 {x a b c d : Nat} (hx : x < 256) (ha : a < 256) : agree (v4Of x 0 0 0) (v4Of a b c d) 3 = decide (a / 32 = x / 32) := by
  rw [Bool.eq_iff_iff, agree_iff, decide_eq_true_iff]
  constructor
  · intro h
    have h0 : x / 128 % 2 = a / 128 % 2 := h 0 (by omega) (by omega)
    have h1 : x / 64 % 2 = a / 64 % 2 := h 1 (by omega) (by omega)
    have h2 : x / 32 % 2 = a / 32 % 2 := h 2 (by omega) (by omega)
    omega
  · intro h i hi hn
    have : i = 0 ∨ i = 1 ∨ i = 2 := by omega
    rcases this with rfl | rfl | rfl
    · show x / 128 % 2 = a / 128 % 2
      omega
    · show x / 64 % 2 = a / 64 % 2
      omega
    · show x / 32 % 2 = a / 32 % 2
      omega
theorem ag8 {x a b c d : Nat} (hx : x < 256) (ha : a < 256) : agree (v4Of x 0 0 0) (v4Of a b c d) 8 = decide (a = x) := by
  rw [Bool.eq_iff_iff, agree_iff, decide_eq_true_iff]
  constructor
  · intro h
    have h0 : x / 128 % 2 = a / 128 % 2 := h 0 (by omega) (by omega)
    have h1 : x / 64 % 2 = a / 64 % 2 := h 1 (by omega) (by omega)
    have h2 : x / 32 % 2 = a / 32 % 2 := h 2 (by omega) (by omega)
    have h3 : x / 16 % 2 = a / 16 % 2 := h 3 (by omega) (by omega)
    have h4 : x / 8 % 2 = a / 8 % 2 := h 4 (by omega) (by omega)
    have h5 : x / 4 % 2 = a / 4 % 2 := h 5 (by omega) (by omega)
    have h6 : x / 2 % 2 = a / 2 % 2 := h 6 (by omega) (by omega)
    have h7 : x / 1 % 2 = a / 1 % 2 := h 7 (by omega) (by omega)
    omega
  · intro h i hi hn
    subst h
    unfold bitX
    rw [show i / 8 = 0 by omega]
    rfl
/-- The bits of the second byte. -/
theorem ag_second {x y a b c d n : Nat} (hx : x < 256) (ha : a < 256) (hn : 8 ≤ n) (hn2 : n ≤ 16) : agree (v4Of x y 0 0) (v4Of a b c d) (n : Int) = true ↔ a = x ∧ ∀ k, k < n - 8 → y / 2 ^ (7 - k) % 2 = b / 2 ^ (7 - k) % 2 := by
  rw [agree_iff]
  constructor
  · intro h
    have h0 : x / 128 % 2 = a / 128 % 2 := h 0 (by omega) (by omega)
    have h1 : x / 64 % 2 = a / 64 % 2 := h 1 (by omega) (by omega)
    have h2 : x / 32 % 2 = a / 32 % 2 := h 2 (by omega) (by omega)
    have h3 : x / 16 % 2 = a / 16 % 2 := h 3 (by omega) (by omega)
    have h4 : x / 8 % 2 = a / 8 % 2 := h 4 (by omega) (by omega)
    have h5 : x / 4 % 2 = a / 4 % 2 := h 5 (by omega) (by omega)
    have h6 : x / 2 % 2 = a / 2 % 2 := h 6 (by omega) (by omega)
    have h7 : x / 1 % 2 = a / 1 % 2 := h 7 (by omega) (by omega)
    refine ⟨by omega, fun k hk => ?_⟩
    have h8 := h (8 + k) (by omega) (by omega)
    unfold bitX at h8
    rw [show (8 + k) / 8 = 1 by omega, show (8 + k) % 8 = k by omega] at h8
    exact h8
  · rintro ⟨rfl, h⟩ i hi hi2
    unfold bitX
    by_cases h8 : i < 8
    · rw [show i / 8 = 0 by omega]
      rfl
    · rw [show i / 8 = 1 by omega, show i % 8 = i - 8 by omega]
      exact h (i - 8) (by omega)
theorem ag10 {x y a b c d : Nat} (hx : x < 256) (ha : a < 256) (hy : y < 256) (hb : b < 256) : agree (v4Of x y 0 0) (v4Of a b c d) 10 = decide (a = x ∧ b / 64 = y / 64) := by
  rw [Bool.eq_iff_iff, decide_eq_true_iff]
  refine (ag_second (n := 10) hx ha (by omega) (by omega)).trans ⟨fun ⟨h, h2⟩ => ⟨h, ?_⟩, fun ⟨h, h2⟩ => ⟨h, fun k hk => ?_⟩⟩
  · have h0 : y / 128 % 2 = b / 128 % 2 := h2 0 (by omega)
    have h1 : y / 64 % 2 = b / 64 % 2 := h2 1 (by omega)
    omega
  · have : k = 0 ∨ k = 1 := by omega
    rcases this with rfl | rfl
    · show y / 128 % 2 = b / 128 % 2
      omega
    · show y / 64 % 2 = b / 64 % 2
      omega
theorem ag12 {x y a b c d : Nat} (hx : x < 256) (ha : a < 256) (hy : y < 256) (hb : b < 256) : agree (v4Of x y 0 0) (v4Of a b c d) 12 = decide (a = x ∧ b / 16 = y / 16) := by
  rw [Bool.eq_iff_iff, decide_eq_true_iff]
  refine (ag_second (n := 12) hx ha (by omega) (by omega)).trans ⟨fun ⟨h, h2⟩ => ⟨h, ?_⟩, fun ⟨h, h2⟩ => ⟨h, fun k hk => ?_⟩⟩
  · have h0 : y / 128 % 2 = b / 128 % 2 := h2 0 (by omega)
    have h1 : y / 64 % 2 = b / 64 % 2 := h2 1 (by omega)
    have h3 : y / 32 % 2 = b / 32 % 2 := h2 2 (by omega)
    have h4 : y / 16 % 2 = b / 16 % 2 := h2 3 (by omega)
    omega
  · have : k = 0 ∨ k = 1 ∨ k = 2 ∨ k = 3 := by omega
    rcases this with rfl | rfl | rfl | rfl
    · show y / 128 % 2 = b / 128 % 2
      omega
    · show y / 64 % 2 = b / 64 % 2
      omega
    · show y / 32 % 2 = b / 32 % 2
      omega
    · show y / 16 % 2 = b / 16 % 2
      omega
theorem ag16 {x y a b c d : Nat} (hx : x < 256) (ha : a < 256) (hy : y < 256) (hb : b < 256) : agree (v4Of x y 0 0) (v4Of a b c d) 16 = decide (a = x ∧ b = y) := by
  rw [Bool.eq_iff_iff, decide_eq_true_iff]
  refine (ag_second (n := 16) hx ha (by omega) (by omega)).trans ⟨fun ⟨h, h2⟩ => ⟨h, ?_⟩, fun ⟨h, h2⟩ => ⟨h, fun k hk => by rw [h2]⟩⟩
  have h0 : y / 128 % 2 = b / 128 % 2 := h2 0 (by omega)
  have h1 : y / 64 % 2 = b / 64 % 2 := h2 1 (by omega)
  have h3 : y / 32 % 2 = b / 32 % 2 := h2 2 (by omega)
  have h4 : y / 16 % 2 = b / 16 % 2 := h2 3 (by omega)
  have h5 : y / 8 % 2 = b / 8 % 2 := h2 4 (by omega)
  have h6 : y / 4 % 2 = b / 4 % 2 := h2 5 (by omega)
  have h7 : y / 2 % 2 = b / 2 % 2 := h2 6 (by omega)
  have h8 : y / 1 % 2 = b / 1 % 2 := h2 7 (by omega)
  omega
theorem bIdx_any (c : Bool) (ys : List Nat) : 0 ≤ bIdx c ys ↔ ∃ p ∈ PL, has p c ys = true := by
  constructor
  · intro h
    unfold bIdx at h
    cases hf : PL.findIdx? fun p => has p c ys with
    | none => rw [hf] at h; exact absurd h (by decide)
    | some i =>
      rw [List.findIdx?_eq_some_iff_getElem] at hf
      obtain ⟨h1, h2, -⟩ := hf
      exact ⟨_, List.getElem_mem h1, h2⟩
  · rintro ⟨p, hp, hh⟩
    unfold bIdx
    cases hf : PL.findIdx? fun p => has p c ys with
    | none =>
      rw [List.findIdx?_eq_none_iff] at hf
      rw [hf p hp] at hh
      cases hh
    | some i => exact Int.natCast_nonneg i
theorem v4_valid (a b c d : Nat) : validA false (v4Of a b c d) = true := rfl
theorem idx4 {a b c d : Nat} (ha : a < 256) (hb : b < 256) : 0 ≤ bIdx false (v4Of a b c d) ↔ (a = 0 ∨ a = 10 ∨ (a = 100 ∧ b / 64 = 1) ∨ a = 127 ∨ (a = 169 ∧ b = 254) ∨ (a = 172 ∧ b / 16 = 1) ∨ (a = 192 ∧ b = 168) ∨ a / 32 = 7) := by
  have e0 : has bp0 false (v4Of a b c d) = decide (a = 0) := (has_of bp0_ok rfl rfl).trans (ag8 (x := 0) (by omega) ha)
  have e1 : has bp1 false (v4Of a b c d) = decide (a = 10) := (has_of bp1_ok rfl rfl).trans (ag8 (x := 10) (by omega) ha)
  have e2 : has bp2 false (v4Of a b c d) = decide (a = 100 ∧ b / 64 = 64 / 64) := (has_of bp2_ok rfl rfl).trans (ag10 (x := 100) (y := 64) (by omega) ha (by omega) hb)
  have e3 : has bp3 false (v4Of a b c d) = decide (a = 127) := (has_of bp3_ok rfl rfl).trans (ag8 (x := 127) (by omega) ha)
  have e4 : has bp4 false (v4Of a b c d) = decide (a = 169 ∧ b = 254) := (has_of bp4_ok rfl rfl).trans (ag16 (x := 169) (y := 254) (by omega) ha (by omega) hb)
  have e5 : has bp5 false (v4Of a b c d) = decide (a = 172 ∧ b / 16 = 16 / 16) := (has_of bp5_ok rfl rfl).trans (ag12 (x := 172) (y := 16) (by omega) ha (by omega) hb)
  have e6 : has bp6 false (v4Of a b c d) = decide (a = 192 ∧ b = 168) := (has_of bp6_ok rfl rfl).trans (ag16 (x := 192) (y := 168) (by omega) ha (by omega) hb)
  have e7 : has bp7 false (v4Of a b c d) = decide (a / 32 = 224 / 32) := (has_of bp7_ok rfl rfl).trans (ag3 (x := 224) (by omega) ha)
  have o : ∀ p ∈ [bp8, bp9, bp10, bp11, bp12, bp13, bp14], has p false (v4Of a b c d) = false := fun p hp => has_other (by
    simp only [List.mem_cons, List.not_mem_nil, or_false] at hp
    rcases hp with rfl | rfl | rfl | rfl | rfl | rfl | rfl <;> decide)
  rw [bIdx_any]
  constructor
  · rintro ⟨p, hp, hh⟩
    simp only [PL, List.mem_cons, List.not_mem_nil, or_false] at hp
    rcases hp with rfl | rfl | rfl | rfl | rfl | rfl | rfl | rfl | hp
    · rw [e0, decide_eq_true_iff] at hh; omega
    · rw [e1, decide_eq_true_iff] at hh; omega
    · rw [e2, decide_eq_true_iff] at hh; omega
    · rw [e3, decide_eq_true_iff] at hh; omega
    · rw [e4, decide_eq_true_iff] at hh; omega
    · rw [e5, decide_eq_true_iff] at hh; omega
    · rw [e6, decide_eq_true_iff] at hh; omega
    · rw [e7, decide_eq_true_iff] at hh; omega
    · rw [o p (by simpa using hp)] at hh; cases hh
  · rintro (h | h | h | h | h | h | h | h)
    · exact ⟨bp0, by simp [PL], by rw [e0, decide_eq_true_iff]; exact h⟩
    · exact ⟨bp1, by simp [PL], by rw [e1, decide_eq_true_iff]; exact h⟩
    · exact ⟨bp2, by simp [PL], by rw [e2, decide_eq_true_iff]; exact h⟩
    · exact ⟨bp3, by simp [PL], by rw [e3, decide_eq_true_iff]; exact h⟩
    · exact ⟨bp4, by simp [PL], by rw [e4, decide_eq_true_iff]; exact h⟩
    · exact ⟨bp5, by simp [PL], by rw [e5, decide_eq_true_iff]; exact h⟩
    · exact ⟨bp6, by simp [PL], by rw [e6, decide_eq_true_iff]; exact h⟩
    · exact ⟨bp7, by simp [PL], by rw [e7, decide_eq_true_iff]; exact h⟩
/-- An IPv4-mapped address; an IPv4 address behind NAT64. -/
def mapX (a b c d : Nat) : List Nat := [0, 0, 0, 0, 0, 0, 0, 0, 0, 0, 255, 255, a, b, c, d]
def natX (a b c d : Nat) : List Nat := [0, 100, 255, 155, 0, 0, 0, 0, 0, 0, 0, 0, a, b, c, d]
theorem low_other {j : Nat} {q : Px} (hj : j < 8) (hq : PL[j]? = some q) (ys : List Nat) : has q true ys = false := has_other (by
  match j, hj with
  | 0, _ | 1, _ | 2, _ | 3, _ | 4, _ | 5, _ | 6, _ | 7, _ => cases hq; decide)
theorem idxM (a b c d : Nat) : bIdx true (mapX a b c d) = 10 := by
  refine bIdx_some (i := 10) (p := bp10) rfl ?_ fun j q hj hq => ?_
  · exact (has_of bp10_ok rfl rfl).trans (agree_take 12 rfl)
  · by_cases h8 : j < 8
    · exact low_other h8 hq _
    · have : j = 8 ∨ j = 9 := by omega
      rcases this with rfl | rfl
      · cases hq
        exact (has_of bp8_ok rfl rfl).trans (agree_no 80 (by omega) (by decide) (by rw [show bitX bp8.xs 80 = 0 by kernel_rfl, show bitX (mapX a b c d) 80 = 1 by kernel_rfl]; decide))
      · cases hq
        exact (has_of bp9_ok rfl rfl).trans (agree_no 80 (by omega) (by decide) (by rw [show bitX bp9.xs 80 = 0 by kernel_rfl, show bitX (mapX a b c d) 80 = 1 by kernel_rfl]; decide))
theorem idxN (a b c d : Nat) : bIdx true (natX a b c d) = 11 := by
  refine bIdx_some (i := 11) (p := bp11) rfl ?_ fun j q hj hq => ?_
  · exact (has_of bp11_ok rfl rfl).trans (agree_take 12 rfl)
  · by_cases h8 : j < 8
    · exact low_other h8 hq _
    · have : j = 8 ∨ j = 9 ∨ j = 10 := by omega
      rcases this with rfl | rfl | rfl
      · cases hq
        exact (has_of bp8_ok rfl rfl).trans (agree_no 9 (by omega) (by decide) (by rw [show bitX bp8.xs 9 = 0 by kernel_rfl, show bitX (natX a b c d) 9 = 1 by kernel_rfl]; decide))
      · cases hq
        exact (has_of bp9_ok rfl rfl).trans (agree_no 9 (by omega) (by decide) (by rw [show bitX bp9.xs 9 = 0 by kernel_rfl, show bitX (natX a b c d) 9 = 1 by kernel_rfl]; decide))
      · cases hq
        exact (has_of bp10_ok rfl rfl).trans (agree_no 9 (by omega) (by decide) (by rw [show bitX bp10.xs 9 = 0 by kernel_rfl, show bitX (natX a b c d) 9 = 1 by kernel_rfl]; decide))
end Go.Proofs.Ytgbbgkbpafpnbaa
