/-
  CONTRACT of a Start that is refused of the reference's timers over this seat's translation.
  Conditions: the reference's timers lie in memory as RefAt says; fewer than 900 have been started.
-/
import Derived.Test.YtbgddldkpjeieaaGreatRef3
import Derived.Deep.RegionLaw
import Derived.Maps.AppendAt
namespace Go.Proofs.YtbgddldkpjeieaaGreat
open Go.ChangeShapes Go.WideShapes Go.ChangeAt Go.RowKit Go.Maps
set_option linter.unusedVariables false

theorem infoR : (Tryz.prog.info? 58).map (fun i => (i.zero, i.size, i.bytes)) = some (some (.agg #[.int .i64 0, .int .i64 0, .int .u64 0, .int .i64 0, .int .i64 0, .int .i64 0]), 6, 48) := by kernel_rfl

theorem ref_store {w w2 : World} {xb : Nat} {iv iv' : Value} {L K : List Rec} {last : Int} (h : RefAt w xb iv L last) (hb : w2.heap[xb]? = w.heap[xb]?) (hrow : w2.ownsRow 0 58 6 iv' K.length (flat6 K)) (hK : Shrub K last) (hv : ∀ r ∈ K, IsTag r.val) (hap : ∀ k, iv'.ownBlock = some k → k ≠ xb) : RefAt (w2.setCell ⟨xb, 0, none⟩ iv') xb iv' K last := by
  refine ⟨?_, row6_keep hrow fun k hk => heap_setCell_other _ _ _ _ (hap k hk), hK, hv, h.top⟩
  rw [heap_setCell_same w2 xb 0 _ _ iv' (hb.trans h.hdr)]
  rfl

theorem ref_last {w : World} {xb : Nat} {iv : Value} {L : List Rec} {last : Int} (h : RefAt w xb iv L last) (hl : last < 900) : RefAt (w.setCell ⟨xb, 1, none⟩ (.int .i64 (last + 1))) xb iv L (last + 1) := by
  have ht := h.top
  refine ⟨?_, row6_keep h.row (fun k hk => heap_setCell_other _ _ _ _ (fun e => h.apart (by rw [hk]; simp [e]))), ⟨h.shrub.asc, fun r hr => by have := h.shrub.id r hr; omega, h.shrub.due, by have := h.shrub.len; omega⟩, h.val, by omega⟩
  rw [heap_setCell_same w xb 1 _ _ _ h.hdr]
  rfl

theorem start_ref_miss (X : Nat → Prop) (xb : Nat) (L : List Rec) (last d k : Int) (ta t2 tc : Int) (w : World) (h : Rf X w xb L last) (hk0 : k ≠ 0) (hno : ∀ r ∈ L, r.id ≠ k) :
    Calls Tryz.prog 9 #[.pointer (some ⟨xb, 0, none⟩), .int .i64 k, .int .u64 d, .agg #[.int .i64 ta, .int .i64 t2, .int .i64 tc]] w fun e w' => e = .returned (.tuple #[.int .i64 0, .bool false]) ∧ Fr No w w' := by
  obtain ⟨iv, h, hwd, hX⟩ := h
  have h := h.frNo (Fr.alloc No w (.cells #[.int .i64 ta, .int .i64 t2, .int .i64 tc] 26))
  have HS := Lib.hid (And.intro h hno)
  clear h hno hX hwd
  go_enter Tryz.func9, Tryz.ntmps9
  go_wp2_with fail
  refine (find_miss xb _ L last k _ HS.out.1 HS.out.2).mono ?_
  rintro e w1 ⟨rfl, rfl⟩
  go_wp2_with fail
  refine bodyPost_ret_by (by simp [results]; rfl) rfl ?_
  exact ⟨rfl, Fr.alloc No w _⟩

end Go.Proofs.YtbgddldkpjeieaaGreat
