/-
  CONTRACTS of package host's isDigit, isLowerLetter, allDigits, isLabel and isName, over this seat's translation: what each call returns.
  Conditions: none.
  CONTRACT of package host's isName, over this seat's translation: what the call returns.
  Conditions: none.
  CONTRACT of package host's lower, over this seat's translation: what the call returns.
  Conditions: the string is shorter than 2 to the 62.
  CONTRACT of package host's ParseName, over this seat's translation: what the call returns.
  Conditions: the string is shorter than 2 to the 31.
  CONTRACTS of the library's strings.HasSuffix, strings.Count at one byte and strings.LastIndexByte, over this seat's translation: what each call returns.
  Conditions: none.
  CONTRACT of package host's ParsePort, over this seat's translation: what the call returns.
  Conditions: the string is shorter than 2 to the 31.
  CONTRACTS of package host's IsSubdomain and LabelCount, over this seat's translation: what each call returns.
  Conditions: the strings are shorter than 2 to the 31.
  CONTRACT of package host's parseAddr, over this seat's translation: what the call returns.
  Conditions: the string is shorter than 2 to the 31; the package variables are as Glob says.
  CONTRACT of package host's parseHost, over this seat's translation: what the call returns.
  Conditions: the string is shorter than 2 to the 31; the package variables are as Glob says.
  CONTRACT of package host's ParseTarget, over this seat's translation: what the call returns.
  Conditions: the string is shorter than 2 to the 31; the package variables are as Glob says.
  CONTRACTS of package host's Valid and formatHost, over this seat's translation: what each call returns.
  Conditions: the address is one; the package variables are as Gl says.
  CONTRACT of package host's Format, over this seat's translation: what the call returns.
  Conditions: the address is one; the package variables are as Gl says.
  What the pure functions give at the texts of package host's fixed example; equality of targets; no walk.
  Conditions: none.
  CONTRACT of the fixed example of the laws about package host, over this seat's translation: the call returns true.
  Conditions: the package variables are as Gl says.
-/
import Derived.Test.YtnadendhboiliaaGreatR2
import Derived.Test.YtnadendhboiliaaGreatP
import Derived.Lib.Bytealg
import Derived.Test.YtnadendhboiliaaGreatA
import Derived.Test.YtnadendhboiliaaGreatPf
namespace Go.Proofs.YtnadendhboiliaaGreat
open Go.ChangeShapes Go.WideShapes Go.ChangeAt Go.RowKit
set_option linter.unusedVariables false

def isDig (c : UInt8) : Bool := decide (48 ≤ c.toNat) && decide (c.toNat ≤ 57)
def isLow (c : UInt8) : Bool := decide (97 ≤ c.toNat) && decide (c.toNat ≤ 122)
def isLab (c : UInt8) : Bool := isDig c || isLow c || decide (c = 45)
/-- Whether these bytes are a label. -/
def labV (x : List UInt8) : Bool := decide (1 ≤ x.length) && decide (x.length ≤ 63) && decide (x.head? ≠ some 45) && decide (x.getLast? ≠ some 45) && x.all isLab
/-- Whether these bytes are a host name. -/
def nameV (l : List UInt8) : Bool := decide (l.length ≤ 253) && (splitc 46 l).all labV && !((splitc 46 l).getLastD []).all isDig

theorem all_no {p : UInt8 → Bool} {l : List UInt8} {i : Nat} {c : UInt8} (h : l[i]? = some c) (hc : p c = false) : l.all p = false := by
  cases ha : l.all p with
  | false => rfl
  | true => rw [List.all_eq_true.1 ha c (List.mem_of_getElem? h)] at hc; cases hc
theorem all_yes {p : UInt8 → Bool} {l : List UInt8} (h : ∀ j c, j < l.length → l[j]? = some c → p c = true) : l.all p = true := by
  rw [List.all_eq_true]
  intro c hc
  obtain ⟨k, hk, he⟩ := List.mem_iff_getElem.1 hc
  exact h k c hk (by rw [List.getElem?_eq_getElem hk, he])

end Go.Proofs.YtnadendhboiliaaGreat
namespace Go.Proofs.YtnadendhboiliaaGreat
open Go.ChangeShapes Go.WideShapes Go.ChangeAt Go.RowKit
set_option linter.unusedVariables false

theorem name_end {l x : List UInt8} {done : List (List UInt8)} (hl : l.length ≤ 253) (hs : splitc 46 l = done ++ [x]) (hd : done.all labV = true) : nameV l = (labV x && !x.all isDig) := by
  unfold nameV
  rw [decide_eq_true hl, hs, List.all_append, hd, List.getLastD_concat]
  simp
theorem name_bad {l x : List UInt8} {done r : List (List UInt8)} (hs : splitc 46 l = (done ++ [x]) ++ r) (hx : labV x = false) : nameV l = false := by
  unfold nameV
  rw [hs, List.all_append, List.all_append]
  simp [hx]

end Go.Proofs.YtnadendhboiliaaGreat
namespace Go.Proofs.YtnadendhboiliaaGreat
open Go.ChangeShapes Go.WideShapes Go.ChangeAt Go.RowKit
set_option linter.unusedVariables false

/-- A letter from A to Z made small. -/
def lowC (c : UInt8) : UInt8 := if 65 ≤ c.toNat ∧ c.toNat ≤ 90 then UInt8.ofNat (c.toNat + 32) else c
def lowV (l : List UInt8) : List UInt8 := l.map lowC

/-- The bytes that the loop has made small so far. -/
def LowTo (l : List UInt8) (n i : Nat) (w : World) : Prop := ∀ j c, l[j]? = some c → w.cell? ⟨n, j, none⟩ = some (.int .u8 ((if j < i then lowC c else c).toNat : Int)) ∧ w.frozen? ⟨n, j, none⟩ = false
theorem LowTo.same {l : List UInt8} {n i : Nat} {w : World} (h : LowTo l n i w) {x : UInt8} (hx : l[i]? = some x) (he : lowC x = x) : LowTo l n (i + 1) w := fun j c hc => by
  refine ⟨?_, (h j c hc).2⟩
  rw [(h j c hc).1]
  by_cases hj : j = i
  · subst hj; rw [hx] at hc; cases hc; rw [if_neg (Nat.lt_irrefl _), if_pos (by omega), he]
  · by_cases h2 : j < i
    · rw [if_pos h2, if_pos (by omega)]
    · rw [if_neg h2, if_neg (by omega)]
theorem LowTo.set {l : List UInt8} {n i : Nat} {w : World} (h : LowTo l n i w) {x : UInt8} (hx : l[i]? = some x) {v : Int} (he : ((lowC x).toNat : Int) = v) : LowTo l n (i + 1) (w.setCell ⟨n, i, none⟩ (.int .u8 v)) := fun j c hc => by
  refine ⟨?_, (World.frozen?_setCell _ _ _ _).trans (h j c hc).2⟩
  by_cases hj : j = i
  · subst hj; rw [hx] at hc; cases hc; rw [if_pos (by omega), World.cell?_setCell_same _ _ _ (h j x hx).1, he]
  · rw [World.cell?_setCell_other _ _ _ _ (by intro e; cases e; exact hj rfl), (h j c hc).1]
    by_cases h2 : j < i
    · rw [if_pos h2, if_pos (by omega)]
    · rw [if_neg h2, if_neg (by omega)]
end Go.Proofs.YtnadendhboiliaaGreat
namespace Go.Proofs.YtnadendhboiliaaGreat
open Go.ChangeShapes Go.WideShapes Go.ChangeAt Go.RowKit
set_option linter.unusedVariables false

/-- These bytes without the dot that may end them. -/
def trimV (l : List UInt8) : List UInt8 := if l.getLast? = some 46 then l.dropLast else l
/-- The host name that these bytes are written for. -/
def nameP (l : List UInt8) : Option (List UInt8) := if nameV (lowV (trimV l)) then some (lowV (trimV l)) else none
end Go.Proofs.YtnadendhboiliaaGreat
namespace Go.Proofs.YtnadendhboiliaaGreat
open Go.ChangeShapes Go.WideShapes Go.ChangeAt Go.RowKit
set_option linter.unusedVariables false

/-- Whether the first bytes end with the second. -/
def sufV (l m : List UInt8) : Bool := decide (m.length ≤ l.length) && decide (l.drop (l.length - m.length) = m)

/-- Where a byte stands last. -/
def lastc (c : UInt8) : List UInt8 → Option Nat
  | [] => none
  | x :: r => match lastc c r with
    | some i => some (i + 1)
    | none => if x = c then some 0 else none
end Go.Proofs.YtnadendhboiliaaGreat
namespace Go.Proofs.YtnadendhboiliaaGreat
open Go.ChangeShapes Go.WideShapes Go.ChangeAt Go.RowKit
set_option linter.unusedVariables false

end Go.Proofs.YtnadendhboiliaaGreat
namespace Go.Proofs.YtnadendhboiliaaGreat
open Go.ChangeShapes Go.WideShapes Go.ChangeAt Go.RowKit
set_option linter.unusedVariables false

/-- Whether a name is a suffix or below it. -/
def subV (a b : List UInt8) : Bool := nameV a && nameV b && (decide (a = b) || sufV a (46 :: b))
/-- A name's labels. -/
def cntV (a : List UInt8) : Nat := if nameV a then (splitc 46 a).length else 0

theorem splitc_count (c : UInt8) : ∀ l : List UInt8, (splitc c l).length = l.count c + 1
  | [] => by simp [splitc]
  | x :: l => by
    have ih := splitc_count c l
    rw [splitc]
    by_cases h : x = c
    · subst h
      simp [ih]
    · rw [List.count_cons_of_ne (by simpa using h)]
      split
      · rename_i h2; exact absurd h2 h
      · split
        · rename_i e; rw [e] at ih; simp at ih
        · rename_i a t e; rw [e] at ih; simpa using ih
theorem bs_append (a b : List UInt8) : bs a ++ bs b = bs (a ++ b) := by
  apply ByteArray.ext
  apply Array.toList_inj.1
  simp [bs]

end Go.Proofs.YtnadendhboiliaaGreat
namespace Go.Proofs.YtnadendhboiliaaGreat
open Go.ChangeShapes Go.WideShapes Go.ChangeAt Go.RowKit
set_option linter.unusedVariables false

/-- A target's cells. -/
def tgt (n : ByteArray) (b : Bool) (xs : List Nat) (p : Int) : List Value := .string n :: (adr b xs ++ [.int .i64 p])
theorem tgt_length (n : ByteArray) (b : Bool) (xs : List Nat) (p : Int) (h : xs.length = 16) : (tgt n b xs p).length = 19 := by simp [tgt, adr_length, h]
theorem tgt_one (n : ByteArray) (b : Bool) (xs : List Nat) (p : Int) : ∀ u ∈ tgt n b xs p, u.oneCell' = true := by
  intro u hu
  rcases List.mem_cons.1 hu with rfl | hu
  · rfl
  · rcases List.mem_append.1 hu with hu | hu
    · exact adr_one _ _ u hu
    · cases List.mem_singleton.1 hu; rfl
def noT : List Value := tgt ⟨#[]⟩ false zeros 0
/-- The target without a port that these bytes, an address, are written for. -/
def pa (l : List UInt8) (v6 : Bool) : Bool := (parseS l).isSome && decide (resB (parseS l) = v6)
def paT (l : List UInt8) (v6 : Bool) : List Value := if pa l v6 then tgt ⟨#[]⟩ (resB (parseS l)) (resX (parseS l)) 0 else noT

end Go.Proofs.YtnadendhboiliaaGreat
namespace Go.Proofs.YtnadendhboiliaaGreat
open Go.ChangeShapes Go.WideShapes Go.ChangeAt Go.RowKit
set_option linter.unusedVariables false

/-- Whether these bytes stand in brackets. -/
def brk (l : List UInt8) : Bool := decide (2 ≤ l.length) && decide (l.head? = some 91) && decide (l.getLast? = some 93)
/-- What stands between the first byte and the last. -/
def mid (l : List UInt8) : List UInt8 := (l.drop 1).take (l.length - 2)
/-- What a name, where there is one, is as a string. -/
def nmS : Option (List UInt8) → ByteArray
  | some n => bs n
  | none => ⟨#[]⟩
/-- The target without a port that these bytes are written for, and whether there is one. -/
def phT (l : List UInt8) : List Value := if brk l then paT (mid l) true else if pa l false then paT l false else tgt (nmS (nameP l)) false zeros 0
def phB (l : List UInt8) : Bool := if brk l then pa (mid l) true else if pa l false then true else (nameP l).isSome
end Go.Proofs.YtnadendhboiliaaGreat
namespace Go.Proofs.YtnadendhboiliaaGreat
open Go.ChangeShapes Go.WideShapes Go.ChangeAt Go.RowKit
set_option linter.unusedVariables false

/-- A target with another port. -/
def withP (T : List Value) (p : Nat) : List Value := T.set 18 (.int .i64 p)
theorem withP_tgt (n : ByteArray) (b : Bool) (xs : List Nat) (h : xs.length = 16) (p : Nat) : withP (tgt n b xs 0) p = tgt n b xs p := by
  have h17 : (adr b xs).length = 17 := by rw [adr_length, h]
  unfold withP tgt
  rw [List.set_cons_succ, List.set_append_right _ _ (by omega), h17]
  rfl
/-- The target that these bytes are written for, and whether there is one. -/
def ptB (l : List UInt8) : Bool := match lastc 58 l with
  | some i => phB (l.take i) && (portV (l.drop (i + 1))).isSome
  | none => false
def ptT (l : List UInt8) : List Value := match lastc 58 l with
  | some i => if phB (l.take i) && (portV (l.drop (i + 1))).isSome then withP (phT (l.take i)) (portN (portV (l.drop (i + 1)))) else noT
  | none => noT
end Go.Proofs.YtnadendhboiliaaGreat
namespace Go.Proofs.YtnadendhboiliaaGreat
open Go.ChangeShapes Go.WideShapes Go.ChangeAt Go.RowKit
set_option linter.unusedVariables false

theorem tgt_letter (n : ByteArray) (b : Bool) (xs : List Nat) (p : Int) (hx : Bytes xs) : ∃ T : Array Value, (tgt n b xs p).toArray = T ∧ T[0]? = some (.string n) ∧ T[1]? = some (.bool b) ∧ T[18]? = some (.int .i64 p) ∧ T.size = 19 ∧ (∀ j v, (adr b xs).toArray[j]? = some v → T[1 + j]? = some v) ∧ ∀ u ∈ T.toList, u.oneCell' = true := by
  have h17 : (adr b xs).length = 17 := by rw [adr_length, hx.1]
  refine ⟨_, rfl, rfl, rfl, ?_, by rw [List.size_toArray]; exact tgt_length _ _ _ _ hx.1, ?_, by intro u hu; exact tgt_one _ _ _ _ u (by simpa using hu)⟩
  · rw [List.getElem?_toArray, tgt, List.getElem?_cons_succ, List.getElem?_append_right (by omega), h17]; rfl
  · intro j v hj
    rw [List.getElem?_toArray] at hj ⊢
    rw [tgt, Nat.add_comm, List.getElem?_cons_succ]
    rw [List.getElem?_append_left (List.getElem?_eq_some_iff.1 hj).1]
    exact hj

/-- Whether a target is valid. -/
def vT (nl : List UInt8) (b : Bool) (xs : List Nat) (p : Int) : Bool := decide (1 ≤ p) && decide (p ≤ 65535) && (if nl = [] then validA b xs else nameV nl && decide (b = false ∧ xs = zeros))
theorem bs_empty (l : List UInt8) : (bs l).toList.isEmpty = decide (l = []) := by
  rw [bs_toList]; cases l <;> rfl

/-- What stands before the port. -/
def fhV (nl : List UInt8) (b : Bool) (xs : List Nat) : List UInt8 := if nl = [] then (if b then 91 :: (oct8 (fmtA b xs) ++ [93]) else oct8 (fmtA b xs)) else nl
end Go.Proofs.YtnadendhboiliaaGreat
namespace Go.Proofs.YtnadendhboiliaaGreat
open Go.ChangeShapes Go.WideShapes Go.ChangeAt Go.RowKit
set_option linter.unusedVariables false

/-- The notation of a target. -/
def fT (nl : List UInt8) (b : Bool) (xs : List Nat) (p : Int) : List UInt8 := if vT nl b xs p then fhV nl b xs ++ 58 :: oct8 (decN p.toNat) else []

end Go.Proofs.YtnadendhboiliaaGreat
namespace Go.Proofs.YtnadendhboiliaaGreat
open Go.ChangeShapes Go.WideShapes Go.ChangeAt Go.RowKit
set_option linter.unusedVariables false

def hxW : List UInt8 := [87, 87, 87, 46, 69, 120, 97, 109, 112, 108, 101, 46, 111, 114, 103, 46]
def hxN : List UInt8 := [119, 119, 119, 46, 101, 120, 97, 109, 112, 108, 101, 46, 111, 114, 103]
def hxA : List UInt8 := [91, 58, 58, 49, 93, 58, 52, 52, 51]
def hxB : List UInt8 := [49, 46, 50, 46, 51, 58, 52]
def hxOne : List Nat := [0, 0, 0, 0, 0, 0, 0, 0, 0, 0, 0, 0, 0, 0, 0, 1]

theorem hx1 : nameP hxW = some hxN := by decide +kernel
theorem hx2a : lastc 58 hxA = some 5 := by decide +kernel
theorem hx2b : brk (hxA.take 5) = true := by decide +kernel
theorem hx2c : parseS (mid (hxA.take 5)) = some (true, hxOne) := by decide +kernel
theorem hx2d : portV (hxA.drop 6) = some 443 := by decide +kernel
theorem hx2e : pa (mid (hxA.take 5)) true = true := by unfold pa; rw [hx2c]; rfl
theorem hx2f : phT (hxA.take 5) = tgt ⟨#[]⟩ true hxOne 0 ∧ phB (hxA.take 5) = true := by
  refine ⟨?_, ?_⟩
  · rw [phT, if_pos hx2b, paT, if_pos hx2e, hx2c]; rfl
  · rw [phB, if_pos hx2b]; exact hx2e
theorem hx2 : ptT hxA = tgt ⟨#[]⟩ true hxOne 443 ∧ ptB hxA = true := by
  refine ⟨?_, ?_⟩
  · rw [ptT, hx2a]
    show (if phB (hxA.take 5) && (portV (hxA.drop 6)).isSome then withP (phT (hxA.take 5)) (portN (portV (hxA.drop 6))) else noT) = _
    rw [hx2d, hx2f.1, hx2f.2]
    exact withP_tgt _ _ _ rfl _
  · rw [ptB, hx2a]
    show (phB (hxA.take 5) && (portV (hxA.drop 6)).isSome) = true
    rw [hx2d, hx2f.2]; rfl
theorem hx3a : lastc 58 hxB = some 5 := by decide +kernel
theorem hx3b : phB (hxB.take 5) = false := by decide +kernel
theorem hx3 : ptB hxB = false ∧ ptT hxB = noT := by
  refine ⟨?_, ?_⟩
  · rw [ptB, hx3a]
    show (phB (hxB.take 5) && _) = false
    rw [hx3b]; rfl
  · rw [ptT, hx3a]
    show (if phB (hxB.take 5) && (portV (hxB.drop 6)).isSome then withP (phT (hxB.take 5)) (portN (portV (hxB.drop 6))) else noT) = _
    rw [hx3b]; rfl
theorem hx5 : subV [97, 98, 46, 99] [98, 46, 99] = false := by decide +kernel
theorem hx7 : vT [] true hxOne 443 = true := by decide +kernel
theorem hx8 : fT [] true hxOne 443 = hxA := by
  rw [fT, if_pos hx7]
  simp [fhV, fmtA, validA, fmt6, hxOne, grps, grp, scanZ, joinN, hexN, hexD, oct8, decN, hxA]

end Go.Proofs.YtnadendhboiliaaGreat
namespace Go.Proofs.YtnadendhboiliaaGreat
open Go.ChangeShapes Go.WideShapes Go.ChangeAt Go.RowKit
set_option linter.unusedVariables false

theorem zero23 : ∀ w, (zeroValue 23).run Tryz.prog w = .ok (.agg (nums .u8 zeros).toArray) w := by
  intro w
  kernel_rfl
end Go.Proofs.YtnadendhboiliaaGreat
