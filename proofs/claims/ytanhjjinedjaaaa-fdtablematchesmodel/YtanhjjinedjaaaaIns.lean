/-
  CONTRACT of slices.Insert of one descriptor, over this seat's translation: it returns the row with that descriptor at the place.
  Conditions: the row lies in memory; the place lies within it or at its end; the descriptor lies in a block of its own.
-/
import Derived.Test.YtanhjjinedjaaaaDel
namespace Go.Proofs.Ytanhjjinedjaaaa
open Go.ChangeShapes Go.WideShapes Go.ChangeAt Go.RowKit
set_option linter.unusedVariables false

def One (w : World) (vb : Nat) (d : D) : Prop := w.heap[vb]? = some (.cells (ints d.enc).toArray 61 (0, 0))

theorem One.at_ {w : World} {vb : Nat} {d : D} (h : One w vb d) : At w (some ⟨vb, 0, none⟩) d.enc := At.block h

/-- What Insert gives. -/
def Inserted (w w' : World) (sv : Value) (n : Nat) (L : List D) (e : Ending) : Prop :=
  ∃ a cap, e = .returned (.slice a (n + 1) cap) ∧ Row 61 w' (.slice a (n + 1) cap) L ∧ Fr (fun k => sv.ownBlock = some k) w w' ∧ ∀ k, (Value.slice a (n + 1) cap).ownBlock = some k → sv.ownBlock = some k ∨ w.heap.size ≤ k

theorem row_of {w : World} {a : Option Addr} {n cap : Nat} {L : List D} (h : Row 61 w (.slice a n cap) L) : w.ownsRow 0 61 4 (.slice a n cap) n (ints (flat L)) := by
  have hl := h.len
  rw [Row, ← hl] at h
  exact h

theorem inserted_append {w w' : World} {a a2 : Option Addr} {n cap cap2 : Nat} {L : List D} {d : D} (hl : n = L.length) (hown : w'.ownsRow 0 61 4 (.slice a2 (n + 1) cap2) (n + 1) (ints (flat L ++ d.enc))) (hgr : w.grownBy w' (Value.slice a n cap).ownBlock)
    (hat : (Value.slice a2 (n + 1) cap2).ownBlock = (Value.slice a n cap).ownBlock ∨ (Value.slice a2 (n + 1) cap2).ownBlock = some w.heap.size) : Inserted w w' (.slice a n cap) n (L ++ [d]) (.returned (.slice a2 (n + 1) cap2)) := by
  refine ⟨a2, cap2, rfl, ?_, Fr.grown hgr (fun k hk => hk), fun k hk => ?_⟩
  · unfold Row
    rw [List.length_append, ← hl, flat_append]
    simpa [flat] using hown
  · rcases hat with h | h
    · exact .inl (h ▸ hk)
    · rw [h] at hk; cases hk; exact .inr (Nat.le_refl _)

set_option maxHeartbeats 1000000 in
set_option maxRecDepth 100000 in
theorem insert_nil (vb : Nat) (d : D) (w : World) (hv : One w vb d) :
    Calls Try.prog 41 #[.slice none 0 0, .int .i64 0, .slice (some ⟨vb, 0, none⟩) 1 1] w fun e w' => Inserted w w' (.slice none 0 0) 0 [d] e := by
  have HV := Lib.hid hv
  have HR : Hid (w.ownsRow 0 61 4 (.slice none 0 0) 0 (ints [])) := World.ownsRow_nil _ _ _ _
  clear hv
  go_enter Try.func41, Try.ntmps41
  go_wp2_with (first | (at_builtin; ((with_reducible refine wpList_append_wide elt57 (by omega) rfl (.tmp 23) (.tmp 24) rfl 0 (.slice none 0 0) 0 [] rfl HR.out (some ⟨vb, 0, none⟩) 1 1 d.enc rfl rfl HV.out.at_ (fun h => by cases h) (by omega) (Nat.zero_le _) ?_); intro a2 cap2 w2 hown hgr hat; have H2 := Lib.hid (And.intro hown (And.intro hgr hat)); clear hown hgr hat)) | fail)
  go_ret
  exact inserted_append (L := []) rfl H2.out.1 H2.out.2.1 H2.out.2.2

set_option maxHeartbeats 1000000 in
set_option maxRecDepth 100000 in
theorem insert_end (g n cap vb : Nat) (d : D) (L : List D) (w : World) (h : Row 61 w (.slice (some ⟨g, 0, none⟩) n cap) L) (hv : One w vb d) (hn : n ≤ 255) (hnc : n ≤ cap) :
    Calls Try.prog 41 #[.slice (some ⟨g, 0, none⟩) n cap, .int .i64 n, .slice (some ⟨vb, 0, none⟩) 1 1] w fun e w' => Inserted w w' (.slice (some ⟨g, 0, none⟩) n cap) n (L ++ [d]) e := by
  have HV := Lib.hid hv
  have HR := Lib.hid (And.intro (row_of h) h.len)
  have q0 : (0 : Int) ≤ (n : Int) := by omega
  have q1 : (n : Int) ≤ (n : Int) := by omega
  obtain ⟨AC, hAC⟩ : ∃ AC, (if cap = n then some (⟨g, 0, none⟩ : Addr) else some ⟨g, n * 4, none⟩) = AC := ⟨_, rfl⟩
  clear hv h
  go_enter Try.func41, Try.ntmps41
  go_wp2_with (first | (at_builtin; ((with_reducible refine wpList_append_wide elt57 (by omega) rfl (.tmp 23) (.tmp 24) rfl 0 (.slice (some ⟨g, 0, none⟩) n cap) n (flat L) rfl HR.out.1 (some ⟨vb, 0, none⟩) 1 1 d.enc rfl rfl HV.out.at_ (fun h => by cases h) (by omega) (Nat.zero_le _) ?_); intro a2 cap2 w2 hown hgr hat; have H2 := Lib.hid (And.intro hown (And.intro hgr hat)); clear hown hgr hat)) | fail)
  all_goals (
    go_ret
    exact inserted_append HR.out.2 H2.out.1 H2.out.2.1 H2.out.2.2)

end Go.Proofs.Ytanhjjinedjaaaa
