/-
  CONTRACTS of the methods New, Len and Push of the heap at addresses, over this seat's translation: what each call returns, what it leaves in memory.
  Conditions: the heap lies in memory as HeapAt says, in order.
-/
import Derived.Test.YtbobokhlcbojkaaA2
import Derived.Deep.RegionLaw
namespace Go.Proofs.Ytbobokhlcbojkaa.A
open Go.ChangeShapes Go.WideShapes Go.ChangeAt Go.RowKit Go.Maps
set_option linter.unusedVariables false

theorem infoE : (Try.prog.info? 102).map (fun i => (i.zero, i.size, i.bytes)) = some (some (.agg #[.int .u64 0, .int .i64 0, .bool false, .int .u8 0, .int .u8 0, .int .u8 0, .int .u8 0, .int .u8 0, .int .u8 0, .int .u8 0, .int .u8 0, .int .u8 0, .int .u8 0, .int .u8 0, .int .u8 0, .int .u8 0, .int .u8 0, .int .u8 0, .int .u8 0]), 19, 40) := by kernel_rfl

theorem new_any (w : World) : Calls Try.prog 32 #[] w fun e w' => ∃ hb mb, e = .returned (.pointer (some ⟨hb, 0, none⟩)) ∧ HA w' hb mb (.slice none 0 0) [] 0 ∧ Fr No w w' ∧ w.heap.size ≤ hb ∧ w.heap.size ≤ mb := by
  have hmm := @run_makeMap Try.prog
  go_enter Try.func32, Try.ntmps32
  go_wp2
  go_ret
  refine ⟨w.heap.size + 1, w.heap.size, rfl, ⟨⟨.map [], ⟨?_, World.ownsRow_nil _ _ _ _, (World.ownsMap_made w _ _ _).alloc _, by simp [Value.ownBlock]⟩, Tied.empty⟩, ⟨fun i e h => by simp at h, fun i e h => by simp at h, fun i e h => by simp at h, by simp, by omega⟩⟩, (Fr.alloc No w _).trans (Fr.alloc No _ _), by omega, by omega⟩
  have := heap_alloc2_new w (.map #[] 0) (.cells #[.slice none 0 0, .map (some w.heap.size), .int .i64 0] 97)
  simpa using this

theorem len_any (hb mb : Nat) (sv : Value) (A : List Ent) (last : Int) (w : World) (h : HA w hb mb sv A last) :
    Calls Try.prog 39 #[.pointer (some ⟨hb, 0, none⟩)] w fun e w' => e = .returned (.int .i64 A.length) ∧ w' = w := by
  obtain ⟨⟨D, hr, ht⟩, hg⟩ := h
  obtain ⟨c0, -, -⟩ := hr.hcell
  obtain ⟨a, cap, rfl⟩ : ∃ a cap, sv = .slice a A.length cap := by
    rcases hr.row.2 with ⟨hv, hn⟩ | ⟨g, cap, cur, hv, _⟩
    · exact ⟨none, 0, by rw [hv, hn]⟩
    · exact ⟨_, cap, hv⟩
  clear hr ht hg
  go_enter Try.func39, Try.ntmps39
  go_wp2
  go_ret
  exact ⟨rfl, rfl⟩

end Go.Proofs.Ytbobokhlcbojkaa.A
