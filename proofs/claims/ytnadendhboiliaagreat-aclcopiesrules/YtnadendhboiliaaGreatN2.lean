/-
  CONTRACTS of package host's isDigit, isLowerLetter, allDigits, isLabel and isName, over this seat's translation: what each call returns.
  Conditions: none.
  CONTRACT of package host's isName, over this seat's translation: what the call returns.
  Conditions: none.
  CONTRACT of package host's lower, over this seat's translation: what the call returns.
  Conditions: the string is shorter than 2 to the 62.
  CONTRACT of package host's ParseName, over this seat's translation: what the call returns.
  Conditions: the string is shorter than 2 to the 31.
  CONTRACTS of the library's strings.HasSuffix, strings.Count at one byte and strings.LastIndexByte, over this seat's translation: what each call returns.
  Conditions: none.
  CONTRACT of package host's ParsePort, over this seat's translation: what the call returns.
  Conditions: the string is shorter than 2 to the 31.
  CONTRACTS of package host's IsSubdomain and LabelCount, over this seat's translation: what each call returns.
  Conditions: the strings are shorter than 2 to the 31.
  CONTRACT of package host's parseAddr, over this seat's translation: what the call returns.
  Conditions: the string is shorter than 2 to the 31; the package variables are as Glob says.
  CONTRACT of package host's parseHost, over this seat's translation: what the call returns.
  Conditions: the string is shorter than 2 to the 31; the package variables are as Glob says.
  CONTRACT of package host's ParseTarget, over this seat's translation: what the call returns.
  Conditions: the string is shorter than 2 to the 31; the package variables are as Glob says.
  CONTRACTS of package host's Valid and formatHost, over this seat's translation: what each call returns.
  Conditions: the address is one; the package variables are as Gl says.
  CONTRACT of package host's Format, over this seat's translation: what the call returns.
  Conditions: the address is one; the package variables are as Gl says.
  What the pure functions give at the texts of package host's fixed example; equality of targets; no walk.
  Conditions: none.
  CONTRACT of the fixed example of the laws about package host, over this seat's translation: the call returns true.
  Conditions: the package variables are as Gl says.
-/
import Derived.Test.YtnadendhboiliaaGreatR2
import Derived.Test.YtnadendhboiliaaGreatP
import Derived.Lib.Bytealg
import Derived.Test.YtnadendhboiliaaGreatA
import Derived.Test.YtnadendhboiliaaGreatPf
namespace Go.Proofs.YtnadendhboiliaaGreat
open Go.ChangeShapes Go.WideShapes Go.ChangeAt Go.RowKit
set_option linter.unusedVariables false

def isDig (c : UInt8) : Bool := decide (48 ≤ c.toNat) && decide (c.toNat ≤ 57)
def isLow (c : UInt8) : Bool := decide (97 ≤ c.toNat) && decide (c.toNat ≤ 122)
def isLab (c : UInt8) : Bool := isDig c || isLow c || decide (c = 45)
/-- Whether these bytes are a label. -/
def labV (x : List UInt8) : Bool := decide (1 ≤ x.length) && decide (x.length ≤ 63) && decide (x.head? ≠ some 45) && decide (x.getLast? ≠ some 45) && x.all isLab
/-- Whether these bytes are a host name. -/
def nameV (l : List UInt8) : Bool := decide (l.length ≤ 253) && (splitc 46 l).all labV && !((splitc 46 l).getLastD []).all isDig

theorem all_no {p : UInt8 → Bool} {l : List UInt8} {i : Nat} {c : UInt8} (h : l[i]? = some c) (hc : p c = false) : l.all p = false := by
  cases ha : l.all p with
  | false => rfl
  | true => rw [List.all_eq_true.1 ha c (List.mem_of_getElem? h)] at hc; cases hc
theorem all_yes {p : UInt8 → Bool} {l : List UInt8} (h : ∀ j c, j < l.length → l[j]? = some c → p c = true) : l.all p = true := by
  rw [List.all_eq_true]
  intro c hc
  obtain ⟨k, hk, he⟩ := List.mem_iff_getElem.1 hc
  exact h k c hk (by rw [List.getElem?_eq_getElem hk, he])

end Go.Proofs.YtnadendhboiliaaGreat
namespace Go.Proofs.YtnadendhboiliaaGreat
open Go.ChangeShapes Go.WideShapes Go.ChangeAt Go.RowKit
set_option linter.unusedVariables false

theorem name_end {l x : List UInt8} {done : List (List UInt8)} (hl : l.length ≤ 253) (hs : splitc 46 l = done ++ [x]) (hd : done.all labV = true) : nameV l = (labV x && !x.all isDig) := by
  unfold nameV
  rw [decide_eq_true hl, hs, List.all_append, hd, List.getLastD_concat]
  simp
theorem name_bad {l x : List UInt8} {done r : List (List UInt8)} (hs : splitc 46 l = (done ++ [x]) ++ r) (hx : labV x = false) : nameV l = false := by
  unfold nameV
  rw [hs, List.all_append, List.all_append]
  simp [hx]

end Go.Proofs.YtnadendhboiliaaGreat
namespace Go.Proofs.YtnadendhboiliaaGreat
open Go.ChangeShapes Go.WideShapes Go.ChangeAt Go.RowKit
set_option linter.unusedVariables false

/-- A letter from A to Z made small. -/
def lowC (c : UInt8) : UInt8 := if 65 ≤ c.toNat ∧ c.toNat ≤ 90 then UInt8.ofNat (c.toNat + 32) else c
def lowV (l : List UInt8) : List UInt8 := l.map lowC

theorem lowC_in {c : UInt8} (h1 : 65 ≤ c.toNat) (h2 : c.toNat ≤ 90) : (lowC c).toNat = c.toNat + 32 := by
  rw [lowC, if_pos ⟨h1, h2⟩]; simp; omega
theorem lowC_out {c : UInt8} (h : ¬ (65 ≤ c.toNat ∧ c.toNat ≤ 90)) : lowC c = c := by rw [lowC, if_neg h]
theorem strOfNums_low (l : List UInt8) : strOfNums (l.map fun c => ((lowC c).toNat : Int)) = bs (lowV l) := by
  rw [strOfNums, bs, lowV, List.map_map]
  congr 2
  apply List.map_congr_left
  intro c _
  simp

/-- The bytes that the loop has made small so far. -/
def LowTo (l : List UInt8) (n i : Nat) (w : World) : Prop := ∀ j c, l[j]? = some c → w.cell? ⟨n, j, none⟩ = some (.int .u8 ((if j < i then lowC c else c).toNat : Int)) ∧ w.frozen? ⟨n, j, none⟩ = false
theorem LowTo.same {l : List UInt8} {n i : Nat} {w : World} (h : LowTo l n i w) {x : UInt8} (hx : l[i]? = some x) (he : lowC x = x) : LowTo l n (i + 1) w := fun j c hc => by
  refine ⟨?_, (h j c hc).2⟩
  rw [(h j c hc).1]
  by_cases hj : j = i
  · subst hj; rw [hx] at hc; cases hc; rw [if_neg (Nat.lt_irrefl _), if_pos (by omega), he]
  · by_cases h2 : j < i
    · rw [if_pos h2, if_pos (by omega)]
    · rw [if_neg h2, if_neg (by omega)]
theorem LowTo.set {l : List UInt8} {n i : Nat} {w : World} (h : LowTo l n i w) {x : UInt8} (hx : l[i]? = some x) {v : Int} (he : ((lowC x).toNat : Int) = v) : LowTo l n (i + 1) (w.setCell ⟨n, i, none⟩ (.int .u8 v)) := fun j c hc => by
  refine ⟨?_, (World.frozen?_setCell _ _ _ _).trans (h j c hc).2⟩
  by_cases hj : j = i
  · subst hj; rw [hx] at hc; cases hc; rw [if_pos (by omega), World.cell?_setCell_same _ _ _ (h j x hx).1, he]
  · rw [World.cell?_setCell_other _ _ _ _ (by intro e; cases e; exact hj rfl), (h j c hc).1]
    by_cases h2 : j < i
    · rw [if_pos h2, if_pos (by omega)]
    · rw [if_neg h2, if_neg (by omega)]
theorem bytes_thaw (w : World) (t : TypeId) (s : ByteArray) {j : Nat} {v : Value} (h : (Lib.bytesWorld w t s).cell? ⟨w.heap.size, j, none⟩ = some v) : (Lib.bytesWorld w t s).frozen? ⟨w.heap.size, j, none⟩ = false := by
  have hb := Lib.bytesWorld_at_new w t s
  have hj : j < (Lib.bytesCells w t s).size := by
    simp only [World.cell?, hb] at h
    rcases Nat.lt_or_ge j (Lib.bytesCells w t s).size with h1 | h1
    · exact h1
    · simp [Array.getElem?_eq_none h1] at h
  simp only [World.frozen?, hb]
  simp; omega

end Go.Proofs.YtnadendhboiliaaGreat
namespace Go.Proofs.YtnadendhboiliaaGreat
open Go.ChangeShapes Go.WideShapes Go.ChangeAt Go.RowKit
set_option linter.unusedVariables false

/-- These bytes without the dot that may end them. -/
def trimV (l : List UInt8) : List UInt8 := if l.getLast? = some 46 then l.dropLast else l
/-- The host name that these bytes are written for. -/
def nameP (l : List UInt8) : Option (List UInt8) := if nameV (lowV (trimV l)) then some (lowV (trimV l)) else none
/-- A string and whether there is one. -/
def ansN : Option (List UInt8) → Value
  | some n => .tuple #[.string (bs n), .bool true]
  | none => .tuple #[.string ⟨#[]⟩, .bool false]

theorem nameP_of {l m : List UInt8} (hm : trimV l = m) (h : nameV (lowV m) = true) : nameP l = some (lowV m) := by rw [nameP, hm, if_pos h]
theorem nameP_no {l m : List UInt8} (hm : trimV l = m) (h : nameV (lowV m) = false) : nameP l = none := by rw [nameP, hm, if_neg (by rw [h]; simp)]
theorem nameV_long {m : List UInt8} (h : 253 < m.length) : nameV (lowV m) = false := by
  unfold nameV
  rw [decide_eq_false (by rw [lowV, List.length_map]; omega)]; rfl

end Go.Proofs.YtnadendhboiliaaGreat
namespace Go.Proofs.YtnadendhboiliaaGreat
open Go.ChangeShapes Go.WideShapes Go.ChangeAt Go.RowKit
set_option linter.unusedVariables false

/-- Whether the first bytes end with the second. -/
def sufV (l m : List UInt8) : Bool := decide (m.length ≤ l.length) && decide (l.drop (l.length - m.length) = m)

/-- Where a byte stands last. -/
def lastc (c : UInt8) : List UInt8 → Option Nat
  | [] => none
  | x :: r => match lastc c r with
    | some i => some (i + 1)
    | none => if x = c then some 0 else none
def lastN : Option Nat → Int
  | some i => i
  | none => -1
theorem lastc_none {c : UInt8} : ∀ {l : List UInt8}, (∀ (j : Nat) (x : UInt8), l[j]? = some x → x ≠ c) → lastc c l = none
  | [], h => rfl
  | x :: r, h => by
    have ih := lastc_none (c := c) (l := r) (fun (j : Nat) (y : UInt8) hy => h (j + 1) y (by rw [List.getElem?_cons_succ]; exact hy))
    rw [lastc, ih]
    exact if_neg (h 0 x rfl)
theorem lastc_some {c : UInt8} : ∀ {l : List UInt8} {i : Nat}, l[i]? = some c → (∀ (j : Nat) (x : UInt8), i < j → l[j]? = some x → x ≠ c) → lastc c l = some i
  | x :: r, 0, h, hn => by
    have ih := lastc_none (c := c) (l := r) (fun (j : Nat) (y : UInt8) hy => hn (j + 1) y (by omega) (by rw [List.getElem?_cons_succ]; exact hy))
    rw [lastc, ih]
    cases h
    exact if_pos rfl
  | x :: r, i + 1, h, hn => by
    rw [List.getElem?_cons_succ] at h
    have ih := lastc_some (c := c) (l := r) h (fun (j : Nat) (y : UInt8) hj hy => hn (j + 1) y (by omega) (by rw [List.getElem?_cons_succ]; exact hy))
    rw [lastc, ih]
theorem lastc_lt {c : UInt8} : ∀ {l : List UInt8} {i : Nat}, lastc c l = some i → l[i]? = some c
  | x :: r, i, h => by
    rw [lastc] at h
    cases hr : lastc c r with
    | some k => rw [hr] at h; cases h; rw [List.getElem?_cons_succ]; exact lastc_lt hr
    | none =>
      rw [hr] at h
      by_cases hx : x = c
      · rw [if_pos hx] at h; cases h; rw [hx]; rfl
      · rw [if_neg hx] at h; cases h

end Go.Proofs.YtnadendhboiliaaGreat
namespace Go.Proofs.YtnadendhboiliaaGreat
open Go.ChangeShapes Go.WideShapes Go.ChangeAt Go.RowKit
set_option linter.unusedVariables false

/-- A port and whether there is one. -/
def ansP (o : Option Nat) : Value := .tuple #[.int .i64 (portN o : Nat), .bool o.isSome]

end Go.Proofs.YtnadendhboiliaaGreat
namespace Go.Proofs.YtnadendhboiliaaGreat
open Go.ChangeShapes Go.WideShapes Go.ChangeAt Go.RowKit
set_option linter.unusedVariables false

/-- Whether a name is a suffix or below it. -/
def subV (a b : List UInt8) : Bool := nameV a && nameV b && (decide (a = b) || sufV a (46 :: b))
/-- A name's labels. -/
def cntV (a : List UInt8) : Nat := if nameV a then (splitc 46 a).length else 0

theorem splitc_count (c : UInt8) : ∀ l : List UInt8, (splitc c l).length = l.count c + 1
  | [] => by simp [splitc]
  | x :: l => by
    have ih := splitc_count c l
    rw [splitc]
    by_cases h : x = c
    · subst h
      simp [ih]
    · rw [List.count_cons_of_ne (by simpa using h)]
      split
      · rename_i h2; exact absurd h2 h
      · split
        · rename_i e; rw [e] at ih; simp at ih
        · rename_i a t e; rw [e] at ih; simpa using ih
theorem bs_append (a b : List UInt8) : bs a ++ bs b = bs (a ++ b) := by
  apply ByteArray.ext
  apply Array.toList_inj.1
  simp [bs]

end Go.Proofs.YtnadendhboiliaaGreat
namespace Go.Proofs.YtnadendhboiliaaGreat
open Go.ChangeShapes Go.WideShapes Go.ChangeAt Go.RowKit
set_option linter.unusedVariables false

/-- A target's cells. -/
def tgt (n : ByteArray) (b : Bool) (xs : List Nat) (p : Int) : List Value := .string n :: (adr b xs ++ [.int .i64 p])
theorem tgt_length (n : ByteArray) (b : Bool) (xs : List Nat) (p : Int) (h : xs.length = 16) : (tgt n b xs p).length = 19 := by simp [tgt, adr_length, h]
theorem tgt_one (n : ByteArray) (b : Bool) (xs : List Nat) (p : Int) : ∀ u ∈ tgt n b xs p, u.oneCell' = true := by
  intro u hu
  rcases List.mem_cons.1 hu with rfl | hu
  · rfl
  · rcases List.mem_append.1 hu with hu | hu
    · exact adr_one _ _ u hu
    · cases List.mem_singleton.1 hu; rfl
def noT : List Value := tgt ⟨#[]⟩ false zeros 0
set_option maxRecDepth 10000 in
theorem put16 (b : Bool) (a0 a1 a2 a3 a4 a5 a6 a7 a8 a9 a10 a11 a12 a13 a14 a15 : Nat) : Array.foldl (fun (cs : Array Value) (x : Value × Nat) => cs.setIfInBounds (1 + x.snd) x.fst) noT.toArray (adr b [a0, a1, a2, a3, a4, a5, a6, a7, a8, a9, a10, a11, a12, a13, a14, a15]).toArray.zipIdx 0 17 = (tgt ⟨#[]⟩ b [a0, a1, a2, a3, a4, a5, a6, a7, a8, a9, a10, a11, a12, a13, a14, a15] 0).toArray := by
  kernel_rfl
theorem put_addr (b : Bool) (xs : List Nat) (h : xs.length = 16) : Array.foldl (fun (cs : Array Value) (x : Value × Nat) => cs.setIfInBounds (1 + x.snd) x.fst) noT.toArray (adr b xs).toArray.zipIdx 0 17 = (tgt ⟨#[]⟩ b xs 0).toArray := by
  match xs, h with
  | [a0, a1, a2, a3, a4, a5, a6, a7, a8, a9, a10, a11, a12, a13, a14, a15], _ => exact put16 b a0 a1 a2 a3 a4 a5 a6 a7 a8 a9 a10 a11 a12 a13 a14 a15
/-- The target without a port that these bytes, an address, are written for. -/
def pa (l : List UInt8) (v6 : Bool) : Bool := (parseS l).isSome && decide (resB (parseS l) = v6)
def paT (l : List UInt8) (v6 : Bool) : List Value := if pa l v6 then tgt ⟨#[]⟩ (resB (parseS l)) (resX (parseS l)) 0 else noT

end Go.Proofs.YtnadendhboiliaaGreat
namespace Go.Proofs.YtnadendhboiliaaGreat
open Go.ChangeShapes Go.WideShapes Go.ChangeAt Go.RowKit
set_option linter.unusedVariables false

/-- Whether these bytes stand in brackets. -/
def brk (l : List UInt8) : Bool := decide (2 ≤ l.length) && decide (l.head? = some 91) && decide (l.getLast? = some 93)
/-- What stands between the first byte and the last. -/
def mid (l : List UInt8) : List UInt8 := (l.drop 1).take (l.length - 2)
/-- What a name, where there is one, is as a string. -/
def nmS : Option (List UInt8) → ByteArray
  | some n => bs n
  | none => ⟨#[]⟩
/-- The target without a port that these bytes are written for, and whether there is one. -/
def phT (l : List UInt8) : List Value := if brk l then paT (mid l) true else if pa l false then paT l false else tgt (nmS (nameP l)) false zeros 0
def phB (l : List UInt8) : Bool := if brk l then pa (mid l) true else if pa l false then true else (nameP l).isSome
theorem ansN_eq (o : Option (List UInt8)) : ansN o = .tuple #[.string (nmS o), .bool o.isSome] := by cases o <;> rfl
theorem paT_tgt (l : List UInt8) (v6 : Bool) : ∃ b xs, paT l v6 = tgt ⟨#[]⟩ b xs 0 ∧ Bytes xs := by
  by_cases h : pa l v6 = true
  · exact ⟨_, _, by rw [paT, if_pos h], resX_bytes l⟩
  · exact ⟨false, zeros, by rw [paT, if_neg h]; rfl, zeros_bytes⟩
theorem phT_tgt (l : List UInt8) : ∃ n b xs, phT l = tgt n b xs 0 ∧ Bytes xs := by
  unfold phT
  split
  · obtain ⟨b, xs, h, k⟩ := paT_tgt (mid l) true; exact ⟨_, b, xs, h, k⟩
  · split
    · obtain ⟨b, xs, h, k⟩ := paT_tgt l false; exact ⟨_, b, xs, h, k⟩
    · exact ⟨_, false, zeros, rfl, zeros_bytes⟩
theorem paT_len (l : List UInt8) (v6 : Bool) : (paT l v6).toArray.size = 19 ∧ ∀ u ∈ (paT l v6).toArray.toList, u.oneCell' = true := by
  obtain ⟨b, xs, h, k⟩ := paT_tgt l v6
  rw [h]
  exact ⟨by rw [List.size_toArray]; exact tgt_length _ _ _ _ k.1, by intro u hu; exact tgt_one _ _ _ _ u (by simpa using hu)⟩

end Go.Proofs.YtnadendhboiliaaGreat
namespace Go.Proofs.YtnadendhboiliaaGreat
open Go.ChangeShapes Go.WideShapes Go.ChangeAt Go.RowKit
set_option linter.unusedVariables false

/-- A target with another port. -/
def withP (T : List Value) (p : Nat) : List Value := T.set 18 (.int .i64 p)
theorem withP_tgt (n : ByteArray) (b : Bool) (xs : List Nat) (h : xs.length = 16) (p : Nat) : withP (tgt n b xs 0) p = tgt n b xs p := by
  have h17 : (adr b xs).length = 17 := by rw [adr_length, h]
  unfold withP tgt
  rw [List.set_cons_succ, List.set_append_right _ _ (by omega), h17]
  rfl
/-- The target that these bytes are written for, and whether there is one. -/
def ptB (l : List UInt8) : Bool := match lastc 58 l with
  | some i => phB (l.take i) && (portV (l.drop (i + 1))).isSome
  | none => false
def ptT (l : List UInt8) : List Value := match lastc 58 l with
  | some i => if phB (l.take i) && (portV (l.drop (i + 1))).isSome then withP (phT (l.take i)) (portN (portV (l.drop (i + 1)))) else noT
  | none => noT
theorem phT_len (l : List UInt8) : (phT l).toArray.size = 19 ∧ ∀ u ∈ (phT l).toArray.toList, u.oneCell' = true := by
  obtain ⟨n, b, xs, h, k⟩ := phT_tgt l
  rw [h]
  exact ⟨by rw [List.size_toArray]; exact tgt_length _ _ _ _ k.1, by intro u hu; exact tgt_one _ _ _ _ u (by simpa using hu)⟩

end Go.Proofs.YtnadendhboiliaaGreat
namespace Go.Proofs.YtnadendhboiliaaGreat
open Go.ChangeShapes Go.WideShapes Go.ChangeAt Go.RowKit
set_option linter.unusedVariables false

theorem tgt_letter (n : ByteArray) (b : Bool) (xs : List Nat) (p : Int) (hx : Bytes xs) : ∃ T : Array Value, (tgt n b xs p).toArray = T ∧ T[0]? = some (.string n) ∧ T[1]? = some (.bool b) ∧ T[18]? = some (.int .i64 p) ∧ T.size = 19 ∧ (∀ j v, (adr b xs).toArray[j]? = some v → T[1 + j]? = some v) ∧ ∀ u ∈ T.toList, u.oneCell' = true := by
  have h17 : (adr b xs).length = 17 := by rw [adr_length, hx.1]
  refine ⟨_, rfl, rfl, rfl, ?_, by rw [List.size_toArray]; exact tgt_length _ _ _ _ hx.1, ?_, by intro u hu; exact tgt_one _ _ _ _ u (by simpa using hu)⟩
  · rw [List.getElem?_toArray, tgt, List.getElem?_cons_succ, List.getElem?_append_right (by omega), h17]; rfl
  · intro j v hj
    rw [List.getElem?_toArray] at hj ⊢
    rw [tgt, Nat.add_comm, List.getElem?_cons_succ]
    rw [List.getElem?_append_left (List.getElem?_eq_some_iff.1 hj).1]
    exact hj

/-- Whether a target is valid. -/
def vT (nl : List UInt8) (b : Bool) (xs : List Nat) (p : Int) : Bool := decide (1 ≤ p) && decide (p ≤ 65535) && (if nl = [] then validA b xs else nameV nl && decide (b = false ∧ xs = zeros))
theorem bs_empty (l : List UInt8) : (bs l).toList.isEmpty = decide (l = []) := by
  rw [bs_toList]; cases l <;> rfl

/-- What stands before the port. -/
def fhV (nl : List UInt8) (b : Bool) (xs : List Nat) : List UInt8 := if nl = [] then (if b then 91 :: (oct8 (fmtA b xs) ++ [93]) else oct8 (fmtA b xs)) else nl
theorem bs_app (a b : List UInt8) : bs a ++ bs b = bs (a ++ b) := by
  apply ByteArray.ext
  apply Array.toList_inj.1
  simp [bs]

end Go.Proofs.YtnadendhboiliaaGreat
namespace Go.Proofs.YtnadendhboiliaaGreat
open Go.ChangeShapes Go.WideShapes Go.ChangeAt Go.RowKit
set_option linter.unusedVariables false

/-- The notation of a target. -/
def fT (nl : List UInt8) (b : Bool) (xs : List Nat) (p : Int) : List UInt8 := if vT nl b xs p then fhV nl b xs ++ 58 :: oct8 (decN p.toNat) else []

theorem decN_len (n : Nat) : (decN n).length ≤ n + 1 := by
  induction n using Nat.strongRecOn with
  | ind n ih =>
    by_cases h : n < 10
    · rw [decN_small h]; simp
    · have := ih (n / 10) (by omega)
      rw [decN_big (by omega), List.length_append]; simp; omega
theorem nameV_len {l : List UInt8} (h : nameV l = true) : l.length ≤ 253 := by
  unfold nameV at h
  simp at h
  exact h.1.1
theorem vT_parts {nl : List UInt8} {b : Bool} {xs : List Nat} {p : Int} (h : vT nl b xs p = true) (hx : Bytes xs) : 1 ≤ p ∧ p ≤ 65535 ∧ (fhV nl b xs).length ≤ 253 := by
  unfold vT at h
  simp only [Bool.and_eq_true, decide_eq_true_eq] at h
  refine ⟨h.1.1, h.1.2, ?_⟩
  have hf := fmtA_length (b := b) hx
  unfold fhV
  by_cases hn : nl = []
  · rw [if_pos hn]
    split
    · simp [oct8_length]; omega
    · rw [oct8_length]; omega
  · rw [if_neg hn]
    have h2 := h.2
    rw [if_neg hn, Bool.and_eq_true] at h2
    exact nameV_len h2.1

end Go.Proofs.YtnadendhboiliaaGreat
namespace Go.Proofs.YtnadendhboiliaaGreat
open Go.ChangeShapes Go.WideShapes Go.ChangeAt Go.RowKit
set_option linter.unusedVariables false

def hxW : List UInt8 := [87, 87, 87, 46, 69, 120, 97, 109, 112, 108, 101, 46, 111, 114, 103, 46]
def hxN : List UInt8 := [119, 119, 119, 46, 101, 120, 97, 109, 112, 108, 101, 46, 111, 114, 103]
def hxA : List UInt8 := [91, 58, 58, 49, 93, 58, 52, 52, 51]
def hxB : List UInt8 := [49, 46, 50, 46, 51, 58, 52]
def hxOne : List Nat := [0, 0, 0, 0, 0, 0, 0, 0, 0, 0, 0, 0, 0, 0, 0, 1]

theorem hx1 : nameP hxW = some hxN := by decide +kernel
theorem hx2a : lastc 58 hxA = some 5 := by decide +kernel
theorem hx2b : brk (hxA.take 5) = true := by decide +kernel
theorem hx2c : parseS (mid (hxA.take 5)) = some (true, hxOne) := by decide +kernel
theorem hx2d : portV (hxA.drop 6) = some 443 := by decide +kernel
theorem hx2e : pa (mid (hxA.take 5)) true = true := by unfold pa; rw [hx2c]; rfl
theorem hx2f : phT (hxA.take 5) = tgt ⟨#[]⟩ true hxOne 0 ∧ phB (hxA.take 5) = true := by
  refine ⟨?_, ?_⟩
  · rw [phT, if_pos hx2b, paT, if_pos hx2e, hx2c]; rfl
  · rw [phB, if_pos hx2b]; exact hx2e
theorem hx2 : ptT hxA = tgt ⟨#[]⟩ true hxOne 443 ∧ ptB hxA = true := by
  refine ⟨?_, ?_⟩
  · rw [ptT, hx2a]
    show (if phB (hxA.take 5) && (portV (hxA.drop 6)).isSome then withP (phT (hxA.take 5)) (portN (portV (hxA.drop 6))) else noT) = _
    rw [hx2d, hx2f.1, hx2f.2]
    exact withP_tgt _ _ _ rfl _
  · rw [ptB, hx2a]
    show (phB (hxA.take 5) && (portV (hxA.drop 6)).isSome) = true
    rw [hx2d, hx2f.2]; rfl
theorem hx3a : lastc 58 hxB = some 5 := by decide +kernel
theorem hx3b : phB (hxB.take 5) = false := by decide +kernel
theorem hx3 : ptB hxB = false ∧ ptT hxB = noT := by
  refine ⟨?_, ?_⟩
  · rw [ptB, hx3a]
    show (phB (hxB.take 5) && _) = false
    rw [hx3b]; rfl
  · rw [ptT, hx3a]
    show (if phB (hxB.take 5) && (portV (hxB.drop 6)).isSome then withP (phT (hxB.take 5)) (portN (portV (hxB.drop 6))) else noT) = _
    rw [hx3b]; rfl
theorem hx4 : subV [97, 46, 98, 46, 99] [98, 46, 99] = true := by decide +kernel
theorem hx5 : subV [97, 98, 46, 99] [98, 46, 99] = false := by decide +kernel
theorem hx6 : cntV [97, 46, 98, 46, 99] = 3 := by decide +kernel
theorem hx7 : vT [] true hxOne 443 = true := by decide +kernel
theorem hx8 : fT [] true hxOne 443 = hxA := by
  rw [fT, if_pos hx7]
  simp [fhV, fmtA, validA, fmt6, hxOne, grps, grp, scanZ, joinN, hexN, hexD, oct8, decN, hxA]

theorem adr_eq1 {b c : Bool} {xs ys : List Nat} (hx : Bytes xs) (hy : Bytes ys) (w : World) : Sem.run Tryz.prog (Op.equalIn 9999 25 (.agg (adr b xs).toArray) (.agg (adr c ys).toArray)) w = .ok (decide (b = c ∧ xs = ys)) w := by
  have hS : Tryz.prog.underlying 25 = some (.struct (Tryz.prog.fieldsOf 25)) := by kernel_rfl
  have hF : Tryz.prog.fieldsOf 25 = #[{ name := "IPv6", type := 4, offset := 0, embedded := false, tag := "", pkgPath := "", byteOffset := 0 }, { name := "Bytes", type := 23, offset := 1, embedded := false, tag := "", pkgPath := "", byteOffset := 1 }] := by kernel_rfl
  have ex : ∀ (b : Bool) (xs : List Nat), Bytes xs → (adr b xs).toArray.extract 1 (1 + 16) = ((xs.map UInt8.ofNat).map Extern.Stop.cell).toArray := by
    intro b xs hx
    rw [← nums_u8 hx.2]
    apply Array.ext'
    simp [adr]
    rw [List.take_of_length_le (by rw [nums_length, hx.1]; omega)]
  have hE : Sem.run Tryz.prog (Op.equalIn 9998 23 (.agg ((adr b xs).toArray.extract 1 (1 + 16))) (.agg ((adr c ys).toArray.extract 1 (1 + 16)))) w = .ok (decide (xs = ys)) w := by
    rw [ex b xs hx, ex c ys hy, run_equalIn_bytes w 9996 23 5 16 Tryz.underlying23 Tryz.underlying5 Tryz.sizeOf5 _ _ (by simpa using hx.1) (by simpa using hy.1), ofNat_inj hx.2 hy.2]
  have hB : Sem.run Tryz.prog (Op.equalIn 9998 4 (.bool b) (.bool c)) w = .ok (b == c) w := by rw [run_equalIn_bool' w 9997 4 b c Tryz.underlying4]
  have h0 : ∀ (b : Bool) (xs : List Nat), (adr b xs).toArray[0]? = some (.bool b) := fun b xs => rfl
  rw [show (9999 : Nat) = 9998 + 1 from rfl, run_equalIn_agg w 9998 25 _ _ hS Tryz.stoodInHeld25, hF]
  have e1 : ∀ (b : Bool) (xs : List Nat), (adr b xs).toArray.extract 1 17 = (List.take 16 (adr b xs).tail).toArray := fun b xs => by apply Array.ext'; simp [adr]
  rw [show 1 + 16 = 17 from rfl, e1 b xs, e1 c ys] at hE
  simp [Op.eqFields, Go.part, Tryz.isAgg4, Tryz.isAgg23, Tryz.sizeOf23, h0, hB, hE]
  by_cases hxy : xs = ys <;> cases b <;> cases c <;> simp [hxy]

end Go.Proofs.YtnadendhboiliaaGreat
namespace Go.Proofs.YtnadendhboiliaaGreat
open Go.ChangeShapes Go.WideShapes Go.ChangeAt Go.RowKit
set_option linter.unusedVariables false

theorem zero23 : ∀ w, (zeroValue 23).run Tryz.prog w = .ok (.agg (nums .u8 zeros).toArray) w := by
  intro w
  kernel_rfl
set_option maxRecDepth 10000 in
theorem hxB1 : (nums .u8 zeros).toArray.setIfInBounds 15 (.int .u8 1) = (nums .u8 hxOne).toArray := by kernel_rfl
set_option maxRecDepth 10000 in
theorem hxE1 : Array.foldl (fun (cs : Array Value) (x : Value × Nat) => cs.setIfInBounds (1 + x.snd) x.fst) ((adr false zeros).toArray.setIfInBounds 0 (.bool true)) (nums .u8 hxOne).toArray.zipIdx 0 16 = (adr true hxOne).toArray := by kernel_rfl
theorem hxM1 : Array.foldl (fun (cs : Array Value) (x : Value × Nat) => cs.setIfInBounds (1 + x.snd) x.fst) noT.toArray (adr true hxOne).toArray.zipIdx 0 17 = (tgt ⟨#[]⟩ true hxOne 0).toArray := put_addr true hxOne rfl
set_option maxRecDepth 10000 in
theorem hxT1 : (tgt ⟨#[]⟩ true hxOne 0).toArray.setIfInBounds 18 (.int .i64 443) = (tgt ⟨#[]⟩ true hxOne 443).toArray := by kernel_rfl
theorem hxOne_bytes : Bytes hxOne := ⟨rfl, by decide⟩

end Go.Proofs.YtnadendhboiliaaGreat
