/-
  CONTRACTS of Compare, of bytes.Compare and of the reference's Compare, over this seat's translation: what each call returns.
  Conditions: the arguments are addresses.
-/
import Derived.Test.YtmhnailcmlomiaaGreatDoorA
import Derived.Lib.BytesEntry
import Derived.Lib.Bytealg
import Derived.Deep.RegionHeld3
namespace Go.Proofs.YtmhnailcmlomiaaGreatDoor
open Go.ChangeShapes Go.WideShapes Go.ChangeAt Go.RowKit
set_option linter.unusedVariables false

/-- The order of lists of numbers. -/
def cmpN : List Nat → List Nat → Int
  | [], [] => 0
  | [], _ :: _ => -1
  | _ :: _, [] => 1
  | a :: l, b :: m => if a < b then -1 else if b < a then 1 else cmpN l m

theorem cmpN_bytes : ∀ (xs ys : List Nat), (∀ x ∈ xs, x < 256) → (∀ x ∈ ys, x < 256) → Lib.compareBytes (xs.map UInt8.ofNat) (ys.map UInt8.ofNat) = cmpN xs ys
  | [], [], _, _ => rfl
  | [], _ :: _, _, _ => rfl
  | _ :: _, [], _, _ => rfl
  | a :: l, b :: m, hx, hy => by
    have ih := cmpN_bytes l m (fun x h => hx x (by simp [h])) (fun x h => hy x (by simp [h]))
    have ha := hx a (by simp)
    have hb := hy b (by simp)
    have e1 : UInt8.ofNat a < UInt8.ofNat b ↔ a < b := by rw [UInt8.lt_iff_toNat_lt]; simp [Nat.mod_eq_of_lt ha, Nat.mod_eq_of_lt hb]
    have e2 : UInt8.ofNat b < UInt8.ofNat a ↔ b < a := by rw [UInt8.lt_iff_toNat_lt]; simp [Nat.mod_eq_of_lt ha, Nat.mod_eq_of_lt hb]
    simp only [List.map_cons, Lib.compareBytes, cmpN, e1, e2, ih]

/-- What Compare gives. -/
def cmpA (b c : Bool) (xs ys : List Nat) : Int := if b = c then cmpN xs ys else if c then -1 else 1

theorem nums_bytes {xs : List Nat} {w : World} {ad : Addr} {n : Nat} (h : At w (some ad) (nums .u8 xs)) (hn : xs.length = n) (hb : ∀ x ∈ xs, x < 256) (P : Program) : (Extern.Bytes.loadBytes ad n .empty).run P w = .ok ⟨(xs.map UInt8.ofNat).toArray⟩ w := by
  subst hn
  have h1 := Lib.run_loadBytesX (P := P) w (xs.map fun (x : Nat) => (x : Int)) ad .empty (fun j x hj => by
    rw [List.getElem?_map] at hj
    obtain ⟨y, hy, rfl⟩ := Option.map_eq_some_iff.1 hj
    exact h.src j _ (nums_get hy))
  rw [List.length_map] at h1
  rw [h1]
  congr 2
  simp [Lib.bytesOf, ByteArray.empty, ByteArray.emptyWithCapacity]
  rfl

set_option maxHeartbeats 1000000 in
set_option maxRecDepth 100000 in
theorem bcompare_any (a1 a2 : Addr) (n c1 c2 : Nat) (xs ys : List Nat) (w : World) (hx : At w (some a1) (nums .u8 xs)) (hy : At w (some a2) (nums .u8 ys)) (hxl : xs.length = n) (hyl : ys.length = n) (hxb : ∀ x ∈ xs, x < 256) (hyb : ∀ x ∈ ys, x < 256) :
    Calls Tryz.prog 86 #[.slice (some a1) n c1, .slice (some a2) n c2] w fun e w' => e = .returned (.int .i64 (cmpN xs ys)) ∧ w' = w := by
  have hr : ∀ P : Program, (Extern.BytealgCompare.compare #[.slice (some a1) n c1, .slice (some a2) n c2]).run P w = .ok (.int .i64 (cmpN xs ys)) w := by
    intro P
    change Sem.run P (do pure (goInt (Extern.BytealgCompare.cmp (← Extern.Bytes.bytesOf (.slice (some a1) n c1)) (← Extern.Bytes.bytesOf (.slice (some a2) n c2))))) w = _
    simp only [Extern.Bytes.bytesOf, Sem.run_bind, Sem.run_pure, nums_bytes hx hxl hxb P, nums_bytes hy hyl hyb P, Result.andThen]
    rw [Lib.cmp_eq, ← cmpN_bytes xs ys hxb hyb]
    rfl
  have HR := Lib.hid hr
  clear hr hx hy hxl hyl hxb hyb
  go_enter Tryz.func86, Tryz.ntmps86
  go_wp2
  rw [run_callFunc_extern Tryz.func103 (by kernel_rfl) (by kernel_rfl) (by kernel_rfl) (e := Extern.BytealgCompare.compare) (by kernel_rfl), HR.out]
  simp only [Result.andThen]
  rw [Oper.upon_value]
  go_wp2
  go_ret
  exact ⟨rfl, rfl⟩

theorem adr_at {w : World} {bk : Nat} {b : Bool} {xs : List Nat} {t : TypeId} {fr : Nat × Nat} (h : w.heap[bk]? = some (.cells (adr b xs).toArray t fr)) : At w (some ⟨bk, 1, none⟩) (nums .u8 xs) := by
  have h1 := (At.block h).drop 1
  simpa [adr] using h1

set_option maxHeartbeats 1000000 in
set_option maxRecDepth 100000 in
theorem compare_any (b c : Bool) (xs ys : List Nat) (hx : Bytes xs) (hy : Bytes ys) (w : World) :
    Calls Tryz.prog 60 #[.agg (adr b xs).toArray, .agg (adr c ys).toArray] w fun e w' => e = .returned (.int .i64 (cmpA b c xs ys)) ∧ Fr No w w' := by
  have hb1 : ((w.alloc (.cells (adr b xs).toArray 30)).alloc (.cells (adr c ys).toArray 30)).heap[w.heap.size]? = some (.cells (adr b xs).toArray 30 (0, 0)) := (Fr.alloc No _ _).keep (heap_alloc_new w _)
  have hb2 : ((w.alloc (.cells (adr b xs).toArray 30)).alloc (.cells (adr c ys).toArray 30)).heap[w.heap.size + 1]? = some (.cells (adr c ys).toArray 30 (0, 0)) := by
    have := heap_alloc_new (w.alloc (.cells (adr b xs).toArray 30)) (.cells (adr c ys).toArray 30)
    simpa using this
  have HF : Hid (Fr No w ((w.alloc (.cells (adr b xs).toArray 30)).alloc (.cells (adr c ys).toArray 30))) := (Fr.alloc No _ _).trans (Fr.alloc No _ _)
  obtain ⟨A, hA, h0, -, -⟩ := adr_letter b xs hx
  obtain ⟨B, hB, g0, -, -⟩ := adr_letter c ys hy
  have HB := Lib.hid (And.intro hb1 hb2)
  have k0 : ((w.alloc (.cells A 30)).alloc (.cells B 30)).cell? ⟨w.heap.size, 0, none⟩ = some (.bool b) := by rw [← hA, ← hB, cell_of_row _ _ _ _ _ _ hb1, hA]; exact h0
  have j0 : ((w.alloc (.cells A 30)).alloc (.cells B 30)).cell? ⟨w.heap.size + 1, 0, none⟩ = some (.bool c) := by rw [← hA, ← hB, cell_of_row _ _ _ _ _ _ hb2, hB]; exact g0
  have HA : Hid ((adr b xs).toArray = A ∧ (adr c ys).toArray = B) := ⟨hA, hB⟩
  rw [hA, hB] at HF ⊢
  clear hb1 hb2 hA hB
  by_cases hbc : b = c
  · subst hbc
    rw [show cmpA b b xs ys = cmpN xs ys by rw [cmpA, if_pos rfl]]
    go_enter Tryz.func60, Tryz.ntmps60
    go_wp2_with fail
    have HA1 : Hid (((w.alloc (.cells A 30)).alloc (.cells B 30)).heap[w.heap.size]? = some (.cells (adr b xs).toArray 30 (0, 0)) ∧ ((w.alloc (.cells A 30)).alloc (.cells B 30)).heap[w.heap.size + 1]? = some (.cells (adr b ys).toArray 30 (0, 0))) := by
      rw [← HA.out.1, ← HA.out.2]; exact HB.out
    clear HB k0 j0
    generalize (w.alloc (.cells A 30)).alloc (.cells B 30) = w1 at HF HA1 ⊢
    have hS : Fr No w1 w1.drew := Fr.drew No _
    go_region_held3 (fun w' => Fr No w1 w') (exact hS) (first | (go_at_call 86; refine (bcompare_any _ _ 16 16 16 xs ys _ ((adr_at HA1.out.1).frNo hS) ((adr_at HA1.out.2).frNo hS) hx.1 hy.1 hx.2 hy.2).mono ?_; rintro e w2 ⟨rfl, rfl⟩))
    go_wp2_with fail
    go_ret
    exact ⟨rfl, HF.out.trans hS⟩
  · have hv : cmpA b c xs ys = if c then -1 else 1 := by rw [cmpA, if_neg hbc]
    rw [hv]
    clear hv
    cases c
    · obtain rfl : b = true := by cases b <;> simp_all
      go_enter Tryz.func60, Tryz.ntmps60
      go_wp2_with fail
      go_ret
      exact ⟨rfl, HF.out⟩
    · obtain rfl : b = false := by cases b <;> simp_all
      go_enter Tryz.func60, Tryz.ntmps60
      go_wp2_with fail
      go_ret
      exact ⟨rfl, HF.out⟩

theorem cmpN_step {i : Nat} {xs ys : List Nat} {x y : Nat} (hx : xs[i]? = some x) (hy : ys[i]? = some y) : cmpN (xs.drop i) (ys.drop i) = if x < y then -1 else if y < x then 1 else cmpN (xs.drop (i + 1)) (ys.drop (i + 1)) := by
  obtain ⟨h1, e1⟩ := List.getElem?_eq_some_iff.1 hx
  obtain ⟨h2, e2⟩ := List.getElem?_eq_some_iff.1 hy
  rw [List.drop_eq_getElem_cons h1, List.drop_eq_getElem_cons h2, e1, e2]
  rfl

end Go.Proofs.YtmhnailcmlomiaaGreatDoor
