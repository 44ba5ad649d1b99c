/-
  CONTRACTS of strings.Cut, parseByte and parseV4, over this seat's translation: what each call returns.
  Conditions: the string is shorter than 2 to the 31; the package variables are as Glob says.
  CONTRACTS of parseV4, over this seat's translation: what the call returns.
  Conditions: the string is shorter than 2 to the 31; the package variables are as Glob says.
  CONTRACTS of strconv.ParseUint to the base 16 and of parseGroup, over this seat's translation: what each call returns.
  Conditions: the package variables are as Glob says.
  CONTRACTS of appendV4 and parseGroups, over this seat's translation: what each call returns.
  Conditions: the string is shorter than 2 to the 31; the package variables are as Glob says.
  CONTRACTS of parseGroups, over this seat's translation: what the call returns.
  Conditions: the string is shorter than 2 to the 31; the package variables are as Glob says.
  CONTRACTS of parseV6 and Parse, over this seat's translation: what each call returns.
  Conditions: the string is shorter than 2 to the 31; the package variables are as Glob says.
  CONTRACTS of Parse, over this seat's translation: what the call returns; and what the pure functions give at the texts of the fixed example.
  Conditions: the string is shorter than 2 to the 31; the package variables are as Glob says.
-/
import Derived.Test.YtnadendhboiliaaGreatA
import Derived.Test.YtnadendhboiliaaGreatH3
import Derived.Lib.AtoiErrMem
import Derived.Shelf.Pu.ToError
import Derived.Shelf.Pu.Lower
import Derived.Shelf.Pu.ParseUintEmpty
import Derived.Test.YtnadendhboiliaaGreatGr
namespace Go.Proofs.YtnadendhboiliaaGreat
open Go.ChangeShapes Go.WideShapes Go.ChangeAt Go.RowKit
set_option linter.unusedVariables false

end Go.Proofs.YtnadendhboiliaaGreat
namespace Go.Proofs.YtnadendhboiliaaGreat
open Go.ChangeShapes Go.WideShapes Go.ChangeAt Go.RowKit
set_option linter.unusedVariables false

/-- What parseV4 gives: four bytes, or nothing. -/
def quad : Option (List Nat) → List Nat
  | some [a, b, c, d] => v4Of a b c d
  | _ => zeros
def isQ : Option (List Nat) → Bool
  | some _ => true
  | none => false

/-- Where the loop is: what is left to parse, what is read. -/
def Inv4 (l r : List UInt8) (ns : List Nat) (i : Nat) : Prop := ns.length = i ∧ r.length ≤ l.length ∧ (∀ x ∈ ns, x < 256) ∧ ((i = 4 ∧ par 3 l = some ns) ∨ (i ≤ 3 ∧ par 3 l = (par (3 - i) r).map fun t => ns ++ t))

theorem Inv4.more {l r a b : List UInt8} {ns : List Nat} (h : Inv4 l r ns 3) (hc : cutc 46 r = some (a, b)) : par 3 l = none := by
  obtain ⟨_, _, _, ⟨h4, _⟩ | ⟨_, h3⟩⟩ := h
  · omega
  · rw [h3, show 3 - 3 = 0 from rfl, par, hc]; rfl
theorem Inv4.last {l r : List UInt8} {ns : List Nat} {x : Nat} (h : Inv4 l r ns 3) (hc : cutc 46 r = none) (hd : decV r = some x) : Inv4 l [] (ns ++ [x]) 4 := by
  obtain ⟨h1, h2, hb, ⟨h4, _⟩ | ⟨_, h3⟩⟩ := h
  · omega
  · refine ⟨by simp [h1], by simp, ?_, .inl ⟨rfl, ?_⟩⟩
    · intro y hy
      rcases List.mem_append.1 hy with hy | hy
      · exact hb y hy
      · simp at hy; subst hy; exact decV_lt hd
    · rw [h3, show 3 - 3 = 0 from rfl, par, hc, hd]; rfl

end Go.Proofs.YtnadendhboiliaaGreat
namespace Go.Proofs.YtnadendhboiliaaGreat
open Go.ChangeShapes Go.WideShapes Go.ChangeAt Go.RowKit
set_option linter.unusedVariables false

theorem bs_toList (l : List UInt8) : (bs l).toList = l := by rw [ByteArray.toList_eq]; rfl
theorem bs_eq (l m : List UInt8) : ((bs l).toList == (bs m).toList) = decide (l = m) := by
  rw [bs_toList, bs_toList, Bool.eq_iff_iff]
  simp

def low (n : Nat) : Nat := n ||| 32

theorem hexGo_step {l : List UInt8} {i acc : Nat} {c : UInt8} (h : l[i]? = some c) : hexGo acc (l.drop i) = match hexDig c with
    | some d => hexGo (acc * 16 + d) (l.drop (i + 1))
    | none => none := by
  obtain ⟨h1, e1⟩ := List.getElem?_eq_some_iff.1 h
  rw [List.drop_eq_getElem_cons h1, e1]
  rfl

theorem pow16_le {i : Nat} (h : i ≤ 3) : 16 ^ i * 16 ≤ 65536 := by
  have : i = 0 ∨ i = 1 ∨ i = 2 ∨ i = 3 := by omega
  rcases this with rfl | rfl | rfl | rfl <;> decide

end Go.Proofs.YtnadendhboiliaaGreat
namespace Go.Proofs.YtnadendhboiliaaGreat
open Go.ChangeShapes Go.WideShapes Go.ChangeAt Go.RowKit
set_option linter.unusedVariables false

end Go.Proofs.YtnadendhboiliaaGreat
namespace Go.Proofs.YtnadendhboiliaaGreat
open Go.ChangeShapes Go.WideShapes Go.ChangeAt Go.RowKit
set_option linter.unusedVariables false

theorem two_length (xs : List Nat) : (two xs).length ≤ 2 := by
  unfold two
  split <;> simp

/-- Where the loop is. -/
def InvG (mixed : Bool) (l r : List UInt8) (gs : List Nat) (more : Bool) : Prop := r.length ≤ l.length ∧ (∀ g ∈ gs, g < 65536) ∧ (more = false → grpP mixed l = some gs) ∧ (more = true → grpP mixed l = (grpGo mixed (splitc 58 r)).map fun t => gs ++ t)

theorem InvG.start (mixed : Bool) (l : List UInt8) : InvG mixed l l [] (decide (l ≠ [])) := by
  refine ⟨Nat.le_refl _, by simp, ?_, ?_⟩
  · intro h
    have : l = [] := by simpa using h
    subst this
    rfl
  · intro h
    have : l ≠ [] := by simpa using h
    rw [grpP, if_neg this]
    simp

end Go.Proofs.YtnadendhboiliaaGreat
namespace Go.Proofs.YtnadendhboiliaaGreat
open Go.ChangeShapes Go.WideShapes Go.ChangeAt Go.RowKit
set_option linter.unusedVariables false

/-- What parseV6 gives. -/
def oct : Option (List Nat) → List Nat
  | some gs => pack gs
  | none => zeros

theorem row_At {w0 w : World} {gs : List Nat} {a : Option Addr} {n cap : Nat} (h : w.ownsRow w0.heap.size 109 1 (.slice a n cap) n (nums .u16 gs)) : At w a (nums .u16 gs) ∧ (a = none → cap = 0) := by
  obtain ⟨a', c', he, hc, hn, _⟩ := row_any h
  cases he
  exact ⟨At.own h, hn⟩

end Go.Proofs.YtnadendhboiliaaGreat
namespace Go.Proofs.YtnadendhboiliaaGreat
open Go.ChangeShapes Go.WideShapes Go.ChangeAt Go.RowKit
set_option linter.unusedVariables false

theorem res6 {l : List UInt8} (h : l.contains 58 = true) : resB (parseS l) = isQ (parse6 l) ∧ resX (parseS l) = oct (parse6 l) ∧ (parseS l).isSome = isQ (parse6 l) := by
  rw [parseS, if_pos h]
  cases parse6 l <;> exact ⟨rfl, rfl, rfl⟩
theorem res4 {l : List UInt8} (h : l.contains 58 = false) : resB (parseS l) = false ∧ resX (parseS l) = quad (par 3 l) ∧ (parseS l).isSome = isQ (par 3 l) := by
  rw [parseS, h, if_neg (by simp)]
  cases hp : par 3 l with
  | none => exact ⟨rfl, rfl, rfl⟩
  | some xs =>
    have h4 := par_length 3 l xs hp
    match xs, h4 with
    | [a, b, c, d], _ => exact ⟨rfl, rfl, rfl⟩
theorem resX_bytes (l : List UInt8) : Bytes (resX (parseS l)) := by
  cases h : l.contains 58 with
  | true =>
    rw [(res6 h).2.1]
    cases hp : parse6 l with
    | none => exact zeros_bytes
    | some gs =>
      have hl : gs.length = 8 ∧ ∀ g ∈ gs, g < 65536 := by
        unfold parse6 at hp
        split at hp
        · cases hg : grpP true l with
          | none => rw [hg] at hp; cases hp
          | some hs =>
            rw [hg] at hp
            unfold eight at hp
            split at hp
            · rename_i h1
              cases h1
              split at hp
              · rename_i h8; cases hp; exact ⟨h8, grpP_lt hg⟩
              · cases hp
            · cases hp
        · rename_i a b hc
          cases hg : grpP false a with
          | none => rw [hg] at hp; cases hp
          | some gs1 =>
            cases hh : grpP true b with
            | none => rw [hg, hh] at hp; cases hp
            | some gs2 =>
              rw [hg, hh] at hp
              have e : fill (some gs1) (some gs2) = if gs1.length + gs2.length ≤ 7 then some (gs1 ++ (List.replicate (8 - gs1.length - gs2.length) 0 ++ gs2)) else none := rfl
              rw [e] at hp
              split at hp
              · rename_i h7
                cases hp
                refine ⟨by simp; omega, ?_⟩
                intro g hg'
                rcases List.mem_append.1 hg' with hg' | hg'
                · exact grpP_lt hg g hg'
                · rcases List.mem_append.1 hg' with hg' | hg'
                  · have := List.eq_of_mem_replicate hg'; omega
                  · exact grpP_lt hh g hg'
              · cases hp
      exact ⟨by rw [oct, pack_length, hl.1], pack_bytes hl.2⟩
  | false =>
    rw [(res4 h).2.1]
    cases hp : par 3 l with
    | none => exact zeros_bytes
    | some xs =>
      have h4 := par_length 3 l xs hp
      have hlt := par_lt 3 l xs hp
      match xs, h4 with
      | [a, b, c, d], _ => exact v4_bytes (hlt a (by simp)) (hlt b (by simp)) (hlt c (by simp)) (hlt d (by simp))

end Go.Proofs.YtnadendhboiliaaGreat
