/-
  The list of blocked prefixes, on numbers; which of them holds an address; no walk.
  Conditions: none.
-/
import Derived.Test.YtnadendhboiliaaGreatMa
import Derived.Test.YtnadendhboiliaaGreatDa
namespace Go.Proofs.YtnadendhboiliaaGreat
open Go.ChangeShapes Go.WideShapes Go.ChangeAt Go.RowKit
set_option linter.unusedVariables false

def bp0 : Px := ⟨false, [0, 0, 0, 0, 0, 0, 0, 0, 0, 0, 0, 0, 0, 0, 0, 0], 8⟩
def bt0 : List UInt8 := [48, 46, 48, 46, 48, 46, 48, 47, 56]
def bp1 : Px := ⟨false, [10, 0, 0, 0, 0, 0, 0, 0, 0, 0, 0, 0, 0, 0, 0, 0], 8⟩
def bt1 : List UInt8 := [49, 48, 46, 48, 46, 48, 46, 48, 47, 56]
def bp2 : Px := ⟨false, [100, 64, 0, 0, 0, 0, 0, 0, 0, 0, 0, 0, 0, 0, 0, 0], 10⟩
def bt2 : List UInt8 := [49, 48, 48, 46, 54, 52, 46, 48, 46, 48, 47, 49, 48]
def bp3 : Px := ⟨false, [127, 0, 0, 0, 0, 0, 0, 0, 0, 0, 0, 0, 0, 0, 0, 0], 8⟩
def bt3 : List UInt8 := [49, 50, 55, 46, 48, 46, 48, 46, 48, 47, 56]
def bp4 : Px := ⟨false, [169, 254, 0, 0, 0, 0, 0, 0, 0, 0, 0, 0, 0, 0, 0, 0], 16⟩
def bt4 : List UInt8 := [49, 54, 57, 46, 50, 53, 52, 46, 48, 46, 48, 47, 49, 54]
def bp5 : Px := ⟨false, [172, 16, 0, 0, 0, 0, 0, 0, 0, 0, 0, 0, 0, 0, 0, 0], 12⟩
def bt5 : List UInt8 := [49, 55, 50, 46, 49, 54, 46, 48, 46, 48, 47, 49, 50]
def bp6 : Px := ⟨false, [192, 168, 0, 0, 0, 0, 0, 0, 0, 0, 0, 0, 0, 0, 0, 0], 16⟩
def bt6 : List UInt8 := [49, 57, 50, 46, 49, 54, 56, 46, 48, 46, 48, 47, 49, 54]
def bp7 : Px := ⟨false, [224, 0, 0, 0, 0, 0, 0, 0, 0, 0, 0, 0, 0, 0, 0, 0], 3⟩
def bt7 : List UInt8 := [50, 50, 52, 46, 48, 46, 48, 46, 48, 47, 51]
def bp8 : Px := ⟨true, [0, 0, 0, 0, 0, 0, 0, 0, 0, 0, 0, 0, 0, 0, 0, 0], 128⟩
def bt8 : List UInt8 := [58, 58, 47, 49, 50, 56]
def bp9 : Px := ⟨true, [0, 0, 0, 0, 0, 0, 0, 0, 0, 0, 0, 0, 0, 0, 0, 1], 128⟩
def bt9 : List UInt8 := [58, 58, 49, 47, 49, 50, 56]
def bp10 : Px := ⟨true, [0, 0, 0, 0, 0, 0, 0, 0, 0, 0, 255, 255, 0, 0, 0, 0], 96⟩
def bt10 : List UInt8 := [58, 58, 102, 102, 102, 102, 58, 48, 58, 48, 47, 57, 54]
def bp11 : Px := ⟨true, [0, 100, 255, 155, 0, 0, 0, 0, 0, 0, 0, 0, 0, 0, 0, 0], 96⟩
def bt11 : List UInt8 := [54, 52, 58, 102, 102, 57, 98, 58, 58, 47, 57, 54]
def bp12 : Px := ⟨true, [252, 0, 0, 0, 0, 0, 0, 0, 0, 0, 0, 0, 0, 0, 0, 0], 7⟩
def bt12 : List UInt8 := [102, 99, 48, 48, 58, 58, 47, 55]
def bp13 : Px := ⟨true, [254, 128, 0, 0, 0, 0, 0, 0, 0, 0, 0, 0, 0, 0, 0, 0], 10⟩
def bt13 : List UInt8 := [102, 101, 56, 48, 58, 58, 47, 49, 48]
def bp14 : Px := ⟨true, [255, 0, 0, 0, 0, 0, 0, 0, 0, 0, 0, 0, 0, 0, 0, 0], 8⟩
def bt14 : List UInt8 := [102, 102, 48, 48, 58, 58, 47, 56]
def PL : List Px := [bp0, bp1, bp2, bp3, bp4, bp5, bp6, bp7, bp8, bp9, bp10, bp11, bp12, bp13, bp14]
def TL : List (List UInt8) := [bt0, bt1, bt2, bt3, bt4, bt5, bt6, bt7, bt8, bt9, bt10, bt11, bt12, bt13, bt14]
theorem bp0_parse : cpT bt0 = pfx bp0.b bp0.xs bp0.n ∧ cpB bt0 = true := ⟨by kernel_rfl, by kernel_rfl⟩
theorem bp0_ok : okP bp0 := ⟨⟨rfl, by decide⟩, by kernel_rfl⟩
theorem bp1_parse : cpT bt1 = pfx bp1.b bp1.xs bp1.n ∧ cpB bt1 = true := ⟨by kernel_rfl, by kernel_rfl⟩
theorem bp1_ok : okP bp1 := ⟨⟨rfl, by decide⟩, by kernel_rfl⟩
theorem bp2_parse : cpT bt2 = pfx bp2.b bp2.xs bp2.n ∧ cpB bt2 = true := ⟨by kernel_rfl, by kernel_rfl⟩
theorem bp2_ok : okP bp2 := ⟨⟨rfl, by decide⟩, by kernel_rfl⟩
theorem bp3_parse : cpT bt3 = pfx bp3.b bp3.xs bp3.n ∧ cpB bt3 = true := ⟨by kernel_rfl, by kernel_rfl⟩
theorem bp3_ok : okP bp3 := ⟨⟨rfl, by decide⟩, by kernel_rfl⟩
theorem bp4_parse : cpT bt4 = pfx bp4.b bp4.xs bp4.n ∧ cpB bt4 = true := ⟨by kernel_rfl, by kernel_rfl⟩
theorem bp4_ok : okP bp4 := ⟨⟨rfl, by decide⟩, by kernel_rfl⟩
theorem bp5_parse : cpT bt5 = pfx bp5.b bp5.xs bp5.n ∧ cpB bt5 = true := ⟨by kernel_rfl, by kernel_rfl⟩
theorem bp5_ok : okP bp5 := ⟨⟨rfl, by decide⟩, by kernel_rfl⟩
theorem bp6_parse : cpT bt6 = pfx bp6.b bp6.xs bp6.n ∧ cpB bt6 = true := ⟨by kernel_rfl, by kernel_rfl⟩
theorem bp6_ok : okP bp6 := ⟨⟨rfl, by decide⟩, by kernel_rfl⟩
theorem bp7_parse : cpT bt7 = pfx bp7.b bp7.xs bp7.n ∧ cpB bt7 = true := ⟨by kernel_rfl, by kernel_rfl⟩
theorem bp7_ok : okP bp7 := ⟨⟨rfl, by decide⟩, by kernel_rfl⟩
theorem bp8_parse : cpT bt8 = pfx bp8.b bp8.xs bp8.n ∧ cpB bt8 = true := ⟨by kernel_rfl, by kernel_rfl⟩
theorem bp8_ok : okP bp8 := ⟨⟨rfl, by decide⟩, by kernel_rfl⟩
theorem bp9_parse : cpT bt9 = pfx bp9.b bp9.xs bp9.n ∧ cpB bt9 = true := ⟨by kernel_rfl, by kernel_rfl⟩
theorem bp9_ok : okP bp9 := ⟨⟨rfl, by decide⟩, by kernel_rfl⟩
theorem bp10_parse : cpT bt10 = pfx bp10.b bp10.xs bp10.n ∧ cpB bt10 = true := ⟨by kernel_rfl, by kernel_rfl⟩
theorem bp10_ok : okP bp10 := ⟨⟨rfl, by decide⟩, by kernel_rfl⟩
theorem bp11_parse : cpT bt11 = pfx bp11.b bp11.xs bp11.n ∧ cpB bt11 = true := ⟨by kernel_rfl, by kernel_rfl⟩
theorem bp11_ok : okP bp11 := ⟨⟨rfl, by decide⟩, by kernel_rfl⟩
theorem bp12_parse : cpT bt12 = pfx bp12.b bp12.xs bp12.n ∧ cpB bt12 = true := ⟨by kernel_rfl, by kernel_rfl⟩
theorem bp12_ok : okP bp12 := ⟨⟨rfl, by decide⟩, by kernel_rfl⟩
theorem bp13_parse : cpT bt13 = pfx bp13.b bp13.xs bp13.n ∧ cpB bt13 = true := ⟨by kernel_rfl, by kernel_rfl⟩
theorem bp13_ok : okP bp13 := ⟨⟨rfl, by decide⟩, by kernel_rfl⟩
theorem bp14_parse : cpT bt14 = pfx bp14.b bp14.xs bp14.n ∧ cpB bt14 = true := ⟨by kernel_rfl, by kernel_rfl⟩
theorem bp14_ok : okP bp14 := ⟨⟨rfl, by decide⟩, by kernel_rfl⟩
theorem PL_ok : ∀ p ∈ PL, okP p := by
  intro p hp
  simp only [PL, List.mem_cons, List.not_mem_nil, or_false] at hp
  rcases hp with rfl | rfl | rfl | rfl | rfl | rfl | rfl | rfl | rfl | rfl | rfl | rfl | rfl | rfl | rfl
  · exact bp0_ok
  · exact bp1_ok
  · exact bp2_ok
  · exact bp3_ok
  · exact bp4_ok
  · exact bp5_ok
  · exact bp6_ok
  · exact bp7_ok
  · exact bp8_ok
  · exact bp9_ok
  · exact bp10_ok
  · exact bp11_ok
  · exact bp12_ok
  · exact bp13_ok
  · exact bp14_ok
theorem bl_at {i : Nat} (h : i < 15) : ∃ (t : List UInt8) (p : Px), TL[i]? = some t ∧ PL[i]? = some p ∧ cpT t = pfx p.b p.xs p.n ∧ cpB t = true ∧ t.length < 100 ∧ okP p := by
  match i, h with
  | 0, _ => exact ⟨bt0, bp0, rfl, rfl, bp0_parse.1, bp0_parse.2, by decide, bp0_ok⟩
  | 1, _ => exact ⟨bt1, bp1, rfl, rfl, bp1_parse.1, bp1_parse.2, by decide, bp1_ok⟩
  | 2, _ => exact ⟨bt2, bp2, rfl, rfl, bp2_parse.1, bp2_parse.2, by decide, bp2_ok⟩
  | 3, _ => exact ⟨bt3, bp3, rfl, rfl, bp3_parse.1, bp3_parse.2, by decide, bp3_ok⟩
  | 4, _ => exact ⟨bt4, bp4, rfl, rfl, bp4_parse.1, bp4_parse.2, by decide, bp4_ok⟩
  | 5, _ => exact ⟨bt5, bp5, rfl, rfl, bp5_parse.1, bp5_parse.2, by decide, bp5_ok⟩
  | 6, _ => exact ⟨bt6, bp6, rfl, rfl, bp6_parse.1, bp6_parse.2, by decide, bp6_ok⟩
  | 7, _ => exact ⟨bt7, bp7, rfl, rfl, bp7_parse.1, bp7_parse.2, by decide, bp7_ok⟩
  | 8, _ => exact ⟨bt8, bp8, rfl, rfl, bp8_parse.1, bp8_parse.2, by decide, bp8_ok⟩
  | 9, _ => exact ⟨bt9, bp9, rfl, rfl, bp9_parse.1, bp9_parse.2, by decide, bp9_ok⟩
  | 10, _ => exact ⟨bt10, bp10, rfl, rfl, bp10_parse.1, bp10_parse.2, by decide, bp10_ok⟩
  | 11, _ => exact ⟨bt11, bp11, rfl, rfl, bp11_parse.1, bp11_parse.2, by decide, bp11_ok⟩
  | 12, _ => exact ⟨bt12, bp12, rfl, rfl, bp12_parse.1, bp12_parse.2, by decide, bp12_ok⟩
  | 13, _ => exact ⟨bt13, bp13, rfl, rfl, bp13_parse.1, bp13_parse.2, by decide, bp13_ok⟩
  | 14, _ => exact ⟨bt14, bp14, rfl, rfl, bp14_parse.1, bp14_parse.2, by decide, bp14_ok⟩
  | n + 15, h => omega
/-- The index of the blocked prefix that holds an address. -/
def bIdx (c : Bool) (ys : List Nat) : Int := match PL.findIdx? fun p => has p c ys with
  | some i => (i : Int)
  | none => -1
theorem bIdx_none {c : Bool} {ys : List Nat} (h : ∀ (i : Nat) (p : Px), PL[i]? = some p → has p c ys = false) : bIdx c ys = -1 := by
  have : PL.findIdx? (fun p => has p c ys) = none := by
    rw [List.findIdx?_eq_none_iff]
    intro p hp
    obtain ⟨i, hi⟩ := List.mem_iff_getElem?.1 hp
    exact h i p hi
  unfold bIdx
  rw [this]
theorem bIdx_some {c : Bool} {ys : List Nat} {i : Nat} {p : Px} (hp : PL[i]? = some p) (hh : has p c ys = true) (h : ∀ (j : Nat) (q : Px), j < i → PL[j]? = some q → has q c ys = false) : bIdx c ys = (i : Int) := by
  have : PL.findIdx? (fun p => has p c ys) = some i := by
    rw [List.findIdx?_eq_some_iff_getElem]
    have hlt := (List.getElem?_eq_some_iff.1 hp).1
    refine ⟨hlt, by rw [(List.getElem?_eq_some_iff.1 hp).2]; exact hh, fun j hj => ?_⟩
    have := h j _ hj (List.getElem?_eq_getElem (by omega))
    simp [this]
  unfold bIdx
  rw [this]
theorem bIdx_two (c : Bool) (ys : List Nat) : bIdx c ys = -1 ∨ ∃ i : Nat, i < 15 ∧ bIdx c ys = (i : Int) := by
  unfold bIdx
  cases h : PL.findIdx? fun p => has p c ys with
  | none => exact .inl rfl
  | some i =>
    rw [List.findIdx?_eq_some_iff_getElem] at h
    obtain ⟨h1, -⟩ := h
    exact .inr ⟨i, h1, rfl⟩
end Go.Proofs.YtnadendhboiliaaGreat
