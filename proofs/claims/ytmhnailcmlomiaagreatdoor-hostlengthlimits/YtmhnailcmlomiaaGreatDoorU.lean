/-
  CONTRACTS of Unmap and of the reference's Unmap and Valid, over this seat's translation: what each call returns.
  Conditions: the argument is an address.
-/
import Derived.Test.YtmhnailcmlomiaaGreatDoorA
import Derived.Test.YtmhnailcmlomiaaGreatDoorShelf
import Derived.Deep.RegionHeld3
namespace Go.Proofs.YtmhnailcmlomiaaGreatDoor
open Go.ChangeShapes Go.WideShapes Go.ChangeAt Go.RowKit
set_option linter.unusedVariables false

/-- The first twelve bytes of a mapped address. -/
def mapped : List Nat := [0, 0, 0, 0, 0, 0, 0, 0, 0, 0, 255, 255]
/-- Whether an address is a mapped one. -/
def isMapped (b : Bool) (xs : List Nat) : Bool := b && decide (xs.take 12 = mapped)
/-- What Unmap gives. -/
def unmapB (b : Bool) (xs : List Nat) : Bool := if isMapped b xs then false else b
def unmapX (b : Bool) (xs : List Nat) : List Nat := if isMapped b xs then v4Of (xs.getD 12 0) (xs.getD 13 0) (xs.getD 14 0) (xs.getD 15 0) else xs

theorem unmap_bytes {b : Bool} {xs : List Nat} (hx : Bytes xs) : Bytes (unmapX b xs) := by
  unfold unmapX
  split
  · have h : ∀ i, xs.getD i 0 < 256 := fun i => by
      rw [List.getD]
      cases hi : xs[i]? with
      | none => simp
      | some x => exact hx.2 x (List.mem_of_getElem? hi)
    exact v4_bytes (h _) (h _) (h _) (h _)
  · exact hx

theorem getD_get {xs : List Nat} {i : Nat} (h : i < xs.length) : xs[i]? = some (xs.getD i 0) := by
  rw [List.getD, List.getElem?_eq_getElem h]; rfl

theorem prefix_mapped {xs : List Nat} (hx : Bytes xs) : Lib.hasPrefix (Lib.bytesOf (xs.map fun (x : Nat) => (x : Int))) (Lib.bytesOf (mapped.map fun (x : Nat) => (x : Int))) = decide (xs.take 12 = mapped) := by
  have e : ∀ zs : List Nat, Lib.bytesOf (zs.map fun (x : Nat) => (x : Int)) = zs.map UInt8.ofNat := by
    intro zs
    rw [Lib.bytesOf, List.map_map]
    rfl
  rw [e, e, Lib.hasPrefix]
  obtain ⟨hl, hb⟩ := hx
  have key : ∀ a b : Nat, a < 256 → b < 256 → ((UInt8.ofNat a == UInt8.ofNat b) = decide (b = a)) := by
    intro a b ha hb
    rw [Bool.eq_iff_iff]
    simp only [beq_iff_eq, decide_eq_true_eq, ← UInt8.toNat_inj]
    simp [Nat.mod_eq_of_lt ha, Nat.mod_eq_of_lt hb]
    omega
  match xs, hl with
  | [x0, x1, x2, x3, x4, x5, x6, x7, x8, x9, x10, x11, x12, x13, x14, x15], _ =>
    have k := fun x (hx : x ∈ [x0, x1, x2, x3, x4, x5, x6, x7, x8, x9, x10, x11, x12, x13, x14, x15]) => hb x hx
    simp only [mapped, List.map_cons, List.map_nil, List.isPrefixOf]
    rw [key 0 x0 (by omega) (k _ (by simp)), key 0 x1 (by omega) (k _ (by simp)), key 0 x2 (by omega) (k _ (by simp)), key 0 x3 (by omega) (k _ (by simp)), key 0 x4 (by omega) (k _ (by simp)), key 0 x5 (by omega) (k _ (by simp)), key 0 x6 (by omega) (k _ (by simp)), key 0 x7 (by omega) (k _ (by simp)), key 0 x8 (by omega) (k _ (by simp)), key 0 x9 (by omega) (k _ (by simp)), key 255 x10 (by omega) (k _ (by simp)), key 255 x11 (by omega) (k _ (by simp))]
    rw [Bool.eq_iff_iff]
    simp

theorem zero24u : ∀ w, (zeroValue 30).run Tryz.prog w = .ok (.agg (adr false [0, 0, 0, 0, 0, 0, 0, 0, 0, 0, 0, 0, 0, 0, 0, 0]).toArray) w := by
  intro w
  kernel_rfl

end Go.Proofs.YtmhnailcmlomiaaGreatDoor
