/-
  CONTRACTS of strings.Cut, parseByte and parseV4, over this seat's translation: what each call returns.
  Conditions: the string is shorter than 2 to the 31; the package variables are as Glob says.
  CONTRACTS of parseV4, over this seat's translation: what the call returns.
  Conditions: the string is shorter than 2 to the 31; the package variables are as Glob says.
  CONTRACTS of strconv.ParseUint to the base 16 and of parseGroup, over this seat's translation: what each call returns.
  Conditions: the package variables are as Glob says.
  CONTRACTS of appendV4 and parseGroups, over this seat's translation: what each call returns.
  Conditions: the string is shorter than 2 to the 31; the package variables are as Glob says.
  CONTRACTS of parseGroups, over this seat's translation: what the call returns.
  Conditions: the string is shorter than 2 to the 31; the package variables are as Glob says.
  CONTRACTS of parseV6 and Parse, over this seat's translation: what each call returns.
  Conditions: the string is shorter than 2 to the 31; the package variables are as Glob says.
  CONTRACTS of Parse, over this seat's translation: what the call returns; and what the pure functions give at the texts of the fixed example.
  Conditions: the string is shorter than 2 to the 31; the package variables are as Glob says.
-/
import Derived.Test.YtnadendhboiliaaGreatA
import Derived.Test.YtnadendhboiliaaGreatH3
import Derived.Lib.AtoiErrMem
import Derived.Shelf.Pu.ToError
import Derived.Shelf.Pu.Lower
import Derived.Shelf.Pu.ParseUintEmpty
import Derived.Test.YtnadendhboiliaaGreatGr
namespace Go.Proofs.YtnadendhboiliaaGreat
open Go.ChangeShapes Go.WideShapes Go.ChangeAt Go.RowKit
set_option linter.unusedVariables false

theorem Fr.bytesWorld (w : World) (t : TypeId) (s : ByteArray) : Fr No w (Lib.bytesWorld w t s) := Fr.ofBelow (Lib.bytesWorld_below w t s)

/-- What a parser of numbers hands back. -/
def optV : Option Nat → Nat
  | some x => x
  | none => 0
def optB : Option Nat → Bool
  | some _ => true
  | none => false

end Go.Proofs.YtnadendhboiliaaGreat
namespace Go.Proofs.YtnadendhboiliaaGreat
open Go.ChangeShapes Go.WideShapes Go.ChangeAt Go.RowKit
set_option linter.unusedVariables false

/-- What parseV4 gives: four bytes, or nothing. -/
def quad : Option (List Nat) → List Nat
  | some [a, b, c, d] => v4Of a b c d
  | _ => zeros
def isQ : Option (List Nat) → Bool
  | some _ => true
  | none => false

/-- The numbers when the first ones have been written. -/
def npart (ns : List Nat) : List Nat := ns ++ List.replicate (4 - ns.length) 0
theorem npart_length {ns : List Nat} (h : ns.length ≤ 4) : (npart ns).length = 4 := by
  rw [npart, List.length_append, List.length_replicate]; omega
theorem npart_step {ns : List Nat} {x i : Nat} (h : ns.length = i) (hi : i < 4) : (npart ns).set i x = npart (ns ++ [x]) := by
  rw [npart, npart, List.set_append_right _ _ (by omega), h, Nat.sub_self, show 4 - i = (4 - (i + 1)) + 1 by omega, List.replicate_succ, List.set_cons_zero, List.length_append, h]
  simp

/-- Where the loop is: what is left to parse, what is read. -/
def Inv4 (l r : List UInt8) (ns : List Nat) (i : Nat) : Prop := ns.length = i ∧ r.length ≤ l.length ∧ (∀ x ∈ ns, x < 256) ∧ ((i = 4 ∧ par 3 l = some ns) ∨ (i ≤ 3 ∧ par 3 l = (par (3 - i) r).map fun t => ns ++ t))

theorem Inv4.miss {l r : List UInt8} {ns : List Nat} {i : Nat} (h : Inv4 l r ns i) (hi : i < 3) (hc : cutc 46 r = none) : par 3 l = none := by
  obtain ⟨_, _, _, ⟨h4, _⟩ | ⟨_, h3⟩⟩ := h
  · omega
  · rw [h3, show 3 - i = (2 - i) + 1 by omega, par, hc]; rfl
theorem Inv4.more {l r a b : List UInt8} {ns : List Nat} (h : Inv4 l r ns 3) (hc : cutc 46 r = some (a, b)) : par 3 l = none := by
  obtain ⟨_, _, _, ⟨h4, _⟩ | ⟨_, h3⟩⟩ := h
  · omega
  · rw [h3, show 3 - 3 = 0 from rfl, par, hc]; rfl
theorem Inv4.bad {l r : List UInt8} {ns : List Nat} {i : Nat} (h : Inv4 l r ns i) (hi : i ≤ 3) (hd : decV (cutR r (cutc 46 r)).1 = none) : par 3 l = none := by
  obtain ⟨_, _, _, ⟨h4, _⟩ | ⟨_, h3⟩⟩ := h
  · omega
  · rw [h3]
    cases hc : cutc 46 r with
    | none =>
      rw [hc] at hd
      by_cases h : i = 3
      · subst h
        rw [show 3 - 3 = 0 from rfl, par, hc]
        have : decV r = none := hd
        simp [this]
      · rw [show 3 - i = (2 - i) + 1 by omega, par, hc]; rfl
    | some p =>
      rw [hc] at hd
      have hd' : decV p.1 = none := hd
      by_cases h : i = 3
      · subst h
        rw [show 3 - 3 = 0 from rfl, par, hc]; rfl
      · rw [show 3 - i = (2 - i) + 1 by omega, par, hc]
        simp [hd']
theorem Inv4.step {l r a b : List UInt8} {ns : List Nat} {i x : Nat} (h : Inv4 l r ns i) (hi : i < 3) (hc : cutc 46 r = some (a, b)) (hd : decV a = some x) : Inv4 l b (ns ++ [x]) (i + 1) := by
  obtain ⟨h1, h2, hb, ⟨h4, _⟩ | ⟨_, h3⟩⟩ := h
  · omega
  · have := cutc_length hc
    refine ⟨by simp [h1], by omega, ?_, .inr ⟨by omega, ?_⟩⟩
    · intro y hy
      rcases List.mem_append.1 hy with hy | hy
      · exact hb y hy
      · simp at hy; subst hy; exact decV_lt hd
    · rw [h3, show 3 - i = (2 - i) + 1 by omega, par, hc, show 3 - (i + 1) = 2 - i by omega]
      simp only [hd]
      cases par (2 - i) b with
      | none => rfl
      | some t => simp
theorem Inv4.last {l r : List UInt8} {ns : List Nat} {x : Nat} (h : Inv4 l r ns 3) (hc : cutc 46 r = none) (hd : decV r = some x) : Inv4 l [] (ns ++ [x]) 4 := by
  obtain ⟨h1, h2, hb, ⟨h4, _⟩ | ⟨_, h3⟩⟩ := h
  · omega
  · refine ⟨by simp [h1], by simp, ?_, .inl ⟨rfl, ?_⟩⟩
    · intro y hy
      rcases List.mem_append.1 hy with hy | hy
      · exact hb y hy
      · simp at hy; subst hy; exact decV_lt hd
    · rw [h3, show 3 - 3 = 0 from rfl, par, hc, hd]; rfl

end Go.Proofs.YtnadendhboiliaaGreat
namespace Go.Proofs.YtnadendhboiliaaGreat
open Go.ChangeShapes Go.WideShapes Go.ChangeAt Go.RowKit
set_option linter.unusedVariables false

theorem bs_toList (l : List UInt8) : (bs l).toList = l := by rw [ByteArray.toList_eq]; rfl
theorem bs_eq (l m : List UInt8) : ((bs l).toList == (bs m).toList) = decide (l = m) := by
  rw [bs_toList, bs_toList, Bool.eq_iff_iff]
  simp

def low (n : Nat) : Nat := n ||| 32

theorem low_bits {n : Nat} (h : n < 256) : bits .or .u8 (n : Int) 32 = ((low n : Nat) : Int) :=
  (bits_nat .u8 8 (by decide) wraps_u8 n 32 (by omega) (by omega)).2

/-- The value of a sign as the program finds it. -/
def digN (n : Nat) : Option Nat := if 48 ≤ n ∧ n ≤ 57 then some (n - 48) else if 97 ≤ low n ∧ low n ≤ 122 then (if low n - 87 < 16 then some (low n - 87) else none) else none

set_option maxRecDepth 100000 in
theorem digN_all : ∀ n, n < 256 → digN n = (if 48 ≤ n ∧ n ≤ 57 then some (n - 48) else if 97 ≤ n ∧ n ≤ 102 then some (n - 87) else if 65 ≤ n ∧ n ≤ 70 then some (n - 55) else none) ∧ low n < 256 := by decide +kernel

theorem hexDig_digN (c : UInt8) : hexDig c = digN c.toNat := (digN_all c.toNat c.toNat_lt).1.symm

theorem hexGo_step {l : List UInt8} {i acc : Nat} {c : UInt8} (h : l[i]? = some c) : hexGo acc (l.drop i) = match hexDig c with
    | some d => hexGo (acc * 16 + d) (l.drop (i + 1))
    | none => none := by
  obtain ⟨h1, e1⟩ := List.getElem?_eq_some_iff.1 h
  rw [List.drop_eq_getElem_cons h1, e1]
  rfl

theorem pow16_le {i : Nat} (h : i ≤ 3) : 16 ^ i * 16 ≤ 65536 := by
  have : i = 0 ∨ i = 1 ∨ i = 2 ∨ i = 3 := by omega
  rcases this with rfl | rfl | rfl | rfl <;> decide

end Go.Proofs.YtnadendhboiliaaGreat
namespace Go.Proofs.YtnadendhboiliaaGreat
open Go.ChangeShapes Go.WideShapes Go.ChangeAt Go.RowKit
set_option linter.unusedVariables false

/-- Groups in memory that is new. -/
def GrpR (w0 w : World) (gs : List Nat) (e : Ending) : Prop := ∃ a n cap, gs.length = n ∧ e = .returned (.tuple #[.slice a n cap, .bool true]) ∧ w.ownsRow w0.heap.size 109 1 (.slice a n cap) n (nums .u16 gs)

/-- Groups in memory that is new, or nothing. -/
def GrpO (w0 w : World) (o : Option (List Nat)) (e : Ending) : Prop := (∃ gs, o = some gs ∧ gs.length ≤ 10 ∧ GrpR w0 w gs e) ∨ (e = .returned (.tuple #[.slice none 0 0, .bool false]) ∧ ∀ gs, o = some gs → 8 < gs.length)

end Go.Proofs.YtnadendhboiliaaGreat
namespace Go.Proofs.YtnadendhboiliaaGreat
open Go.ChangeShapes Go.WideShapes Go.ChangeAt Go.RowKit
set_option linter.unusedVariables false

theorem hexGo_dot : ∀ (l : List UInt8) (acc : Nat), l.contains 46 = true → hexGo acc l = none
  | [], acc, h => by simp at h
  | c :: r, acc, h => by
    rw [hexGo]
    by_cases hc : c = 46
    · subst hc; rfl
    · have hr : r.contains 46 = true := by
        rw [List.contains_cons] at h
        simpa [show ¬ (46 : UInt8) = c from fun e => hc e.symm] using h
      cases hexDig c with
      | none => rfl
      | some d => exact hexGo_dot r _ hr
theorem hexV_dot {l : List UInt8} (h : l.contains 46 = true) : hexV l = none := by
  unfold hexV
  split
  · rfl
  · exact hexGo_dot l 0 h
theorem cutc_contains {c : UInt8} : ∀ {l : List UInt8} {p : List UInt8 × List UInt8}, cutc c l = some p → l.contains c = true
  | [], p, h => by cases h
  | x :: l, p, h => by
    rw [cutc] at h
    rw [List.contains_cons]
    split at h
    · rename_i hx; subst hx; simp
    · obtain ⟨q, hq, _⟩ := Option.map_eq_some_iff.1 h
      rw [cutc_contains hq]; simp
theorem par_dot {l : List UInt8} {xs : List Nat} (h : par 3 l = some xs) : l.contains 46 = true := by
  rw [par] at h
  split at h
  · cases h
  · rename_i hc
    exact cutc_contains hc

theorem two_length (xs : List Nat) : (two xs).length ≤ 2 := by
  unfold two
  split <;> simp

/-- The last part. -/
theorem grp_last {mixed : Bool} {r : List UInt8} (hc : cutc 58 r = none) : grpGo mixed (splitc 58 r) = match (if mixed then par 3 r else none) with
    | some xs => some (two xs)
    | none => (hexV r).map fun g => [g] := by
  rw [split_cut, hc]
  rfl
theorem grp_more {mixed : Bool} {r a b : List UInt8} (hc : cutc 58 r = some (a, b)) : grpGo mixed (splitc 58 r) = match hexV a, grpGo mixed (splitc 58 b) with
    | some g, some gs => some (g :: gs)
    | _, _ => none := by
  rw [split_cut, hc]
  simp only []
  cases hs : splitc 58 b with
  | nil => exact absurd hs (split_ne _ _)
  | cons q t => rfl

/-- Where the loop is. -/
def InvG (mixed : Bool) (l r : List UInt8) (gs : List Nat) (more : Bool) : Prop := r.length ≤ l.length ∧ (∀ g ∈ gs, g < 65536) ∧ (more = false → grpP mixed l = some gs) ∧ (more = true → grpP mixed l = (grpGo mixed (splitc 58 r)).map fun t => gs ++ t)

theorem InvG.start (mixed : Bool) (l : List UInt8) : InvG mixed l l [] (decide (l ≠ [])) := by
  refine ⟨Nat.le_refl _, by simp, ?_, ?_⟩
  · intro h
    have : l = [] := by simpa using h
    subst this
    rfl
  · intro h
    have : l ≠ [] := by simpa using h
    rw [grpP, if_neg this]
    simp

theorem tup_some {o : Option (List Nat)} {gs ys : List Nat} (h : o = some ys) : o.map (fun t => gs ++ t) = some (gs ++ ys) := by rw [h]; rfl

end Go.Proofs.YtnadendhboiliaaGreat
namespace Go.Proofs.YtnadendhboiliaaGreat
open Go.ChangeShapes Go.WideShapes Go.ChangeAt Go.RowKit
set_option linter.unusedVariables false

/-- What parseV6 gives. -/
def oct : Option (List Nat) → List Nat
  | some gs => pack gs
  | none => zeros

theorem row_At {w0 w : World} {gs : List Nat} {a : Option Addr} {n cap : Nat} (h : w.ownsRow w0.heap.size 109 1 (.slice a n cap) n (nums .u16 gs)) : At w a (nums .u16 gs) ∧ (a = none → cap = 0) := by
  obtain ⟨a', c', he, hc, hn, _⟩ := row_any h
  cases he
  exact ⟨At.own h, hn⟩

theorem eight_any {o : Option (List Nat)} {gs : List Nat} (h : o = some gs) : isQ (eight o) = decide (gs.length = 8) ∧ oct (eight o) = v6Of gs := by
  subst h
  have e : eight (some gs) = if gs.length = 8 then some gs else none := rfl
  unfold v6Of
  by_cases h8 : gs.length = 8
  · rw [e, if_pos h8, if_pos h8]; exact ⟨by rw [decide_eq_true h8]; rfl, rfl⟩
  · rw [e, if_neg h8, if_neg h8]; exact ⟨by rw [decide_eq_false h8]; rfl, rfl⟩
theorem eight_none {o : Option (List Nat)} (h : ∀ gs, o = some gs → 8 < gs.length) : eight o = none := by
  cases o with
  | none => rfl
  | some gs => have := h gs rfl; rw [eight, if_neg (by omega)]
theorem fill_none1 {o p : Option (List Nat)} (h : ∀ gs, o = some gs → 8 < gs.length) : fill o p = none := by
  cases o with
  | none => rfl
  | some gs =>
    cases p with
    | none => rfl
    | some hs => have := h gs rfl; rw [fill, if_neg (by omega)]
theorem fill_none2 {o p : Option (List Nat)} (h : ∀ gs, p = some gs → 8 < gs.length) : fill o p = none := by
  cases o with
  | none => rfl
  | some gs =>
    cases p with
    | none => rfl
    | some hs => have := h hs rfl; rw [fill, if_neg (by omega)]

theorem make16 (z : Nat) (w : World) (hz : z ≤ 8) : ∃ w', Sem.run PD (Instr.makeSlice 105 (.int .i64 z) (.int .i64 z)) w = .ok (.slice (some ⟨w.heap.size, 0, none⟩) z z) w' ∧ w'.ownsRow w.heap.size 109 1 (.slice (some ⟨w.heap.size, 0, none⟩) z z) z (nums .u16 (List.replicate z 0)) ∧ Fr No w w' := by
  have hinfo : (Tryz.prog.info? 109).map (fun i => (i.zero, i.size, i.bytes)) = some (some (.int .u16 0), 1, 2) := by kernel_rfl
  obtain ⟨i0, hi, hz0, hz1, hz2⟩ := info_parts hinfo
  obtain ⟨w', h1, h2, h3⟩ := run_makeSlice_full (P := Tryz.prog) w w.heap.size 105 109 i0 _ 1 Tryz.underlying105 hi hz0 hz1 .i64 .i64 z (by omega) (by rw [hz2]; omega) (by unfold maxLen; omega) (Nat.le_refl _)
  refine ⟨w', h1, ?_, Fr.grown h3 (fun k hk => by cases hk)⟩
  have e : (madeCells (Value.int .u16 0).cells (z * 1)).toList = nums .u16 (List.replicate z 0) := by
    simp [madeCells, Value.cells, nums]
    apply List.ext_getElem
    · simp
    · intro i h1 h2
      simp [Nat.mod_one]
  rw [e] at h2
  exact h2

end Go.Proofs.YtnadendhboiliaaGreat
namespace Go.Proofs.YtnadendhboiliaaGreat
open Go.ChangeShapes Go.WideShapes Go.ChangeAt Go.RowKit
set_option linter.unusedVariables false

theorem res6 {l : List UInt8} (h : l.contains 58 = true) : resB (parseS l) = isQ (parse6 l) ∧ resX (parseS l) = oct (parse6 l) ∧ (parseS l).isSome = isQ (parse6 l) := by
  rw [parseS, if_pos h]
  cases parse6 l <;> exact ⟨rfl, rfl, rfl⟩
theorem res4 {l : List UInt8} (h : l.contains 58 = false) : resB (parseS l) = false ∧ resX (parseS l) = quad (par 3 l) ∧ (parseS l).isSome = isQ (par 3 l) := by
  rw [parseS, h, if_neg (by simp)]
  cases hp : par 3 l with
  | none => exact ⟨rfl, rfl, rfl⟩
  | some xs =>
    have h4 := par_length 3 l xs hp
    match xs, h4 with
    | [a, b, c, d], _ => exact ⟨rfl, rfl, rfl⟩
theorem resX_bytes (l : List UInt8) : Bytes (resX (parseS l)) := by
  cases h : l.contains 58 with
  | true =>
    rw [(res6 h).2.1]
    cases hp : parse6 l with
    | none => exact zeros_bytes
    | some gs =>
      have hl : gs.length = 8 ∧ ∀ g ∈ gs, g < 65536 := by
        unfold parse6 at hp
        split at hp
        · cases hg : grpP true l with
          | none => rw [hg] at hp; cases hp
          | some hs =>
            rw [hg] at hp
            unfold eight at hp
            split at hp
            · rename_i h1
              cases h1
              split at hp
              · rename_i h8; cases hp; exact ⟨h8, grpP_lt hg⟩
              · cases hp
            · cases hp
        · rename_i a b hc
          cases hg : grpP false a with
          | none => rw [hg] at hp; cases hp
          | some gs1 =>
            cases hh : grpP true b with
            | none => rw [hg, hh] at hp; cases hp
            | some gs2 =>
              rw [hg, hh] at hp
              have e : fill (some gs1) (some gs2) = if gs1.length + gs2.length ≤ 7 then some (gs1 ++ (List.replicate (8 - gs1.length - gs2.length) 0 ++ gs2)) else none := rfl
              rw [e] at hp
              split at hp
              · rename_i h7
                cases hp
                refine ⟨by simp; omega, ?_⟩
                intro g hg'
                rcases List.mem_append.1 hg' with hg' | hg'
                · exact grpP_lt hg g hg'
                · rcases List.mem_append.1 hg' with hg' | hg'
                  · have := List.eq_of_mem_replicate hg'; omega
                  · exact grpP_lt hh g hg'
              · cases hp
      exact ⟨by rw [oct, pack_length, hl.1], pack_bytes hl.2⟩
  | false =>
    rw [(res4 h).2.1]
    cases hp : par 3 l with
    | none => exact zeros_bytes
    | some xs =>
      have h4 := par_length 3 l xs hp
      have hlt := par_lt 3 l xs hp
      match xs, h4 with
      | [a, b, c, d], _ => exact v4_bytes (hlt a (by simp)) (hlt b (by simp)) (hlt c (by simp)) (hlt d (by simp))

end Go.Proofs.YtnadendhboiliaaGreat
