/-
  What Parse gives, on lists of bytes; no walk.
  Conditions: as each theorem says.
-/
import Derived.Test.YtdnfmilihfkhmaaDoorW
import Derived.Lib.IndexMore
import Derived.Lib.ParseIntB
namespace Go.Proofs.YtdnfmilihfkhmaaDoor
open Go.ChangeShapes Go.WideShapes Go.ChangeAt Go.RowKit
set_option linter.unusedVariables false

/-- Bytes as a string. -/
def bs (l : List UInt8) : ByteArray := ⟨l.toArray⟩
theorem bs_list (l : List UInt8) : (bs l).data.toList = l := rfl
theorem bs_size (l : List UInt8) : (bs l).size = l.length := rfl
theorem bs_of (s : ByteArray) : s = bs s.data.toList := by
  obtain ⟨⟨l⟩⟩ := s
  rfl
theorem bs_inj {l m : List UInt8} (h : bs l = bs m) : l = m := by
  have := congrArg (fun s : ByteArray => s.data.toList) h
  simpa [bs] using this

/-- The text before and behind the first c. -/
def cutc (c : UInt8) : List UInt8 → Option (List UInt8 × List UInt8)
  | [] => none
  | x :: l => if x = c then some ([], l) else (cutc c l).map fun p => (x :: p.1, p.2)
/-- The text before and behind the first two colons. -/
def cut2 : List UInt8 → Option (List UInt8 × List UInt8)
  | [] => none
  | x :: l => if [58, 58].isPrefixOf (x :: l) then some ([], l.drop 1) else (cut2 l).map fun p => (x :: p.1, p.2)

/-- What Cut hands back. -/
def cutR (l : List UInt8) : Option (List UInt8 × List UInt8) → List UInt8 × List UInt8 × Bool
  | none => (l, [], false)
  | some (a, b) => (a, b, true)

theorem cut_cons (x : UInt8) (l sep : List UInt8) : Lib.cut (x :: l) sep = if sep.isPrefixOf (x :: l) then ([], (x :: l).drop sep.length, true) else if (Lib.cut l sep).2.2 then (x :: (Lib.cut l sep).1, (Lib.cut l sep).2.1, true) else (x :: l, [], false) := by
  have h1 := Lib.index_ge l sep
  unfold Lib.cut
  rw [Lib.index]
  by_cases hp : sep.isPrefixOf (x :: l) = true
  · simp [hp]
  · rw [if_neg hp, if_neg hp]
    by_cases hm : Lib.index l sep = -1
    · simp [hm]
    · have h0 : 0 ≤ Lib.index l sep := by omega
      have e : (Lib.index l sep + 1).toNat = (Lib.index l sep).toNat + 1 := by omega
      have e2 : (Lib.index l sep).toNat + 1 + sep.length = ((Lib.index l sep).toNat + sep.length) + 1 := by omega
      have hne : (Lib.index l sep == -1) = false := by simpa using hm
      simp only [hne, h0, if_true, Bool.false_eq_true, if_false]
      rw [if_pos (by omega), e, e2]
      simp

theorem cut_one (c : UInt8) : ∀ l : List UInt8, Lib.cut l [c] = cutR l (cutc c l)
  | [] => by simp [Lib.cut, Lib.index, cutc, cutR]
  | x :: l => by
    rw [cut_cons, cut_one c l]
    by_cases h : x = c
    · subst h
      simp [cutc, cutR, List.isPrefixOf]
    · have hp : [c].isPrefixOf (x :: l) = false := by simp [List.isPrefixOf]; exact fun e => h e.symm
      rw [hp, cutc, if_neg h]
      cases hc : cutc c l with
      | none => simp [cutR]
      | some p => simp [cutR]

theorem cut_two : ∀ l : List UInt8, Lib.cut l [58, 58] = cutR l (cut2 l)
  | [] => by simp [Lib.cut, Lib.index, cut2, cutR]
  | x :: l => by
    rw [cut_cons, cut_two l, cut2]
    by_cases hp : [58, 58].isPrefixOf (x :: l) = true
    · simp [hp, cutR]
    · rw [if_neg hp, if_neg hp]
      cases hc : cut2 l with
      | none => simp [cutR]
      | some p => simp [cutR]

theorem contains_one (c : UInt8) : ∀ l : List UInt8, decide (0 ≤ Lib.indexByte l c) = l.contains c
  | [] => by simp [Lib.indexByte]
  | x :: l => by
    have ih := contains_one c l
    have h1 := Lib.indexByte_ge l c
    rw [Lib.indexByte]
    by_cases h : x = c
    · subst h; simp
    · have hx : (x == c) = false := by simpa using h
      rw [hx, List.contains_cons, show (c == x) = false by simpa using fun e : c = x => h e.symm, ← ih]
      by_cases hm : Lib.indexByte l c = -1
      · simp [hm]
      · have hne : (Lib.indexByte l c == -1) = false := by simpa using hm
        rw [hne]
        simp
        omega

/-- The number from 0 to 255 that decimal digits without a leading zero spell. -/
def decV (l : List UInt8) : Option Nat :=
  if 1 < l.length ∧ l.head? = some 48 then none else match Lib.parseUintB 8 l with
    | .ok u => some u
    | _ => none

def hexDig (c : UInt8) : Option Nat :=
  if 48 ≤ c.toNat ∧ c.toNat ≤ 57 then some (c.toNat - 48) else if 97 ≤ c.toNat ∧ c.toNat ≤ 102 then some (c.toNat - 87) else if 65 ≤ c.toNat ∧ c.toNat ≤ 70 then some (c.toNat - 55) else none
def hexGo : Nat → List UInt8 → Option Nat
  | acc, [] => some acc
  | acc, c :: r => match hexDig c with
    | some d => hexGo (acc * 16 + d) r
    | none => none
/-- The number that one to four hexadecimal digits spell. -/
def hexV (l : List UInt8) : Option Nat := if l = [] ∨ 4 < l.length then none else hexGo 0 l

/-- k + 1 numbers with dots between them. -/
def par : Nat → List UInt8 → Option (List Nat)
  | 0, l => match cutc 46 l with
    | some _ => none
    | none => (decV l).map fun x => [x]
  | k + 1, l => match cutc 46 l with
    | none => none
    | some (a, b) => match decV a, par k b with
      | some x, some r => some (x :: r)
      | _, _ => none

theorem par_length : ∀ (k : Nat) (l : List UInt8) (xs : List Nat), par k l = some xs → xs.length = k + 1
  | 0, l, xs, h => by
    rw [par] at h
    split at h
    · cases h
    · obtain ⟨x, -, rfl⟩ := Option.map_eq_some_iff.1 h
      rfl
  | k + 1, l, xs, h => by
    rw [par] at h
    split at h
    · cases h
    · split at h
      · rename_i hr
        cases h
        simp [par_length k _ _ hr]
      · cases h

/-- The two groups that four bytes make. -/
def two : List Nat → List Nat
  | [a, b, c, d] => [a * 256 + b, c * 256 + d]
  | _ => []

/-- The parts between the occurrences of c. -/
def splitc (c : UInt8) : List UInt8 → List (List UInt8)
  | [] => [[]]
  | x :: l => if x = c then [] :: splitc c l else match splitc c l with
    | [] => [[x]]
    | h :: t => (x :: h) :: t

theorem split_cut (c : UInt8) : ∀ l : List UInt8, splitc c l = match cutc c l with
    | none => [l]
    | some (a, b) => a :: splitc c b
  | [] => rfl
  | x :: l => by
    have ih := split_cut c l
    rw [splitc, cutc]
    by_cases h : x = c
    · rw [if_pos h, if_pos h]
    · rw [if_neg h, if_neg h, ih]
      cases cutc c l with
      | none => rfl
      | some p => rfl
theorem split_ne (c : UInt8) (l : List UInt8) : splitc c l ≠ [] := by
  rw [split_cut]
  split <;> simp

/-- The groups that the parts make. -/
def grpGo (last : Bool) : List (List UInt8) → Option (List Nat)
  | [] => some []
  | [p] => match (if last then par 3 p else none) with
    | some xs => some (two xs)
    | none => (hexV p).map fun g => [g]
  | p :: q :: r => match hexV p, grpGo last (q :: r) with
    | some g, some gs => some (g :: gs)
    | _, _ => none
/-- The groups of a text. -/
def grpP (last : Bool) (l : List UInt8) : Option (List Nat) := if l = [] then some [] else grpGo last (splitc 58 l)

/-- Eight groups, or none. -/
def eight : Option (List Nat) → Option (List Nat)
  | some gs => if gs.length = 8 then some gs else none
  | none => none
/-- Groups before and behind the two colons. -/
def fill : Option (List Nat) → Option (List Nat) → Option (List Nat)
  | some g, some h => if g.length + h.length ≤ 7 then some (g ++ (List.replicate (8 - g.length - h.length) 0 ++ h)) else none
  | _, _ => none
def parse6 (l : List UInt8) : Option (List Nat) := match cut2 l with
  | none => eight (grpP true l)
  | some (a, b) => fill (grpP false a) (grpP true b)

/-- What Parse gives: the family and the bytes, or nothing. -/
def parseS (l : List UInt8) : Option (Bool × List Nat) := if l.contains 58 then (parse6 l).map fun gs => (true, pack gs) else (par 3 l).map fun xs => (false, xs ++ [0, 0, 0, 0, 0, 0, 0, 0, 0, 0, 0, 0])

def resB : Option (Bool × List Nat) → Bool
  | some (b, _) => b
  | none => false
def resX : Option (Bool × List Nat) → List Nat
  | some (_, xs) => xs
  | none => zeros

theorem cutc_length {c : UInt8} : ∀ {l a b : List UInt8}, cutc c l = some (a, b) → a.length + b.length + 1 = l.length
  | [], a, b, h => by cases h
  | x :: l, a, b, h => by
    rw [cutc] at h
    split at h
    · cases h; simp
    · obtain ⟨p, hp, he⟩ := Option.map_eq_some_iff.1 h
      cases he
      have := cutc_length (a := p.1) (b := p.2) hp
      simp; omega
theorem cut2_length : ∀ {l a b : List UInt8}, cut2 l = some (a, b) → a.length + b.length + 2 = l.length
  | [], a, b, h => by cases h
  | x :: l, a, b, h => by
    rw [cut2] at h
    split at h
    · rename_i hp
      cases h
      cases l with
      | nil => simp [List.isPrefixOf] at hp
      | cons y l => simp
    · obtain ⟨p, hp, he⟩ := Option.map_eq_some_iff.1 h
      cases he
      have := cut2_length (a := p.1) (b := p.2) hp
      simp; omega

theorem parseUintM_le (M : Nat) : ∀ (l : List UInt8) (acc u : Nat), acc ≤ M → Lib.parseUintM M acc l = .ok u → u ≤ M
  | [], acc, u, h, e => by rw [Lib.parseUintM] at e; cases e; exact h
  | c :: r, acc, u, h, e => by
    rw [Lib.parseUintM] at e
    split at e
    · split at e
      · cases e
      · split at e
        · cases e
        · rename_i h3
          exact parseUintM_le M r _ u (by omega) e
    · cases e
theorem decV_lt {l : List UInt8} {x : Nat} (h : decV l = some x) : x < 256 := by
  unfold decV at h
  split at h
  · cases h
  · split at h
    · rename_i u hu
      cases h
      unfold Lib.parseUintB at hu
      split at hu
      · cases hu
      · have := parseUintM_le _ _ _ _ (by omega) hu
        omega
    · cases h
theorem par_lt : ∀ (k : Nat) (l : List UInt8) (xs : List Nat), par k l = some xs → ∀ x ∈ xs, x < 256
  | 0, l, xs, h => by
    rw [par] at h
    split at h
    · cases h
    · obtain ⟨x, hx, rfl⟩ := Option.map_eq_some_iff.1 h
      intro y hy
      simp at hy
      subst hy
      exact decV_lt hx
  | k + 1, l, xs, h => by
    rw [par] at h
    split at h
    · cases h
    · split at h
      · rename_i hd hr
        cases h
        intro y hy
        rcases List.mem_cons.1 hy with rfl | hy
        · exact decV_lt hd
        · exact par_lt k _ _ hr y hy
      · cases h
theorem hexDig_lt {c : UInt8} {d : Nat} (h : hexDig c = some d) : d < 16 := by
  unfold hexDig at h
  split at h
  · cases h; omega
  · split at h
    · cases h; omega
    · split at h
      · cases h; omega
      · cases h
theorem hexGo_lt : ∀ (l : List UInt8) (acc x : Nat), hexGo acc l = some x → x < (acc + 1) * 16 ^ l.length
  | [], acc, x, h => by rw [hexGo] at h; cases h; simp
  | c :: r, acc, x, h => by
    rw [hexGo] at h
    split at h
    · rename_i d hd
      have h1 := hexGo_lt r _ x h
      have h2 := hexDig_lt hd
      refine Nat.lt_of_lt_of_le h1 ?_
      rw [List.length_cons, Nat.pow_succ, Nat.mul_comm (16 ^ r.length) 16, ← Nat.mul_assoc]
      exact Nat.mul_le_mul_right _ (by omega)
    · cases h
theorem hexV_lt {l : List UInt8} {x : Nat} (h : hexV l = some x) : x < 65536 := by
  unfold hexV at h
  split at h
  · cases h
  · have h1 := hexGo_lt l 0 x h
    have : 16 ^ l.length ≤ 16 ^ 4 := Nat.pow_le_pow_right (by decide) (by omega)
    have e : (16 : Nat) ^ 4 = 65536 := by decide
    omega
theorem two_lt {xs : List Nat} (h : ∀ x ∈ xs, x < 256) : ∀ g ∈ two xs, g < 65536 := by
  intro g hg
  unfold two at hg
  split at hg
  · rename_i a b c d
    have ha := h a (by simp); have hb := h b (by simp); have hc := h c (by simp); have hd := h d (by simp)
    simp at hg
    omega
  · cases hg
theorem grpGo_lt (last : Bool) : ∀ (ps : List (List UInt8)) (gs : List Nat), grpGo last ps = some gs → ∀ g ∈ gs, g < 65536
  | [], gs, h => by rw [grpGo] at h; cases h; intro g hg; cases hg
  | [p], gs, h => by
    rw [grpGo] at h
    split at h
    · rename_i xs hx
      cases h
      cases last with
      | false => cases hx
      | true => exact two_lt (par_lt 3 p xs hx)
    · obtain ⟨x, hx, rfl⟩ := Option.map_eq_some_iff.1 h
      intro g hg
      simp at hg
      subst hg
      exact hexV_lt hx
  | p :: q :: r, gs, h => by
    rw [grpGo] at h
    split at h
    · rename_i hd hr
      cases h
      intro g hg
      rcases List.mem_cons.1 hg with rfl | hg
      · exact hexV_lt hd
      · exact grpGo_lt last (q :: r) _ hr g hg
    · cases h
theorem grpP_lt {last : Bool} {l : List UInt8} {gs : List Nat} (h : grpP last l = some gs) : ∀ g ∈ gs, g < 65536 := by
  unfold grpP at h
  split at h
  · cases h; intro g hg; cases hg
  · exact grpGo_lt last _ _ h
end Go.Proofs.YtdnfmilihfkhmaaDoor
