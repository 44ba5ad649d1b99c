/-
  CONTRACTS of Start, Deadline, Reset, Cancel and Descendants of the timers of integers at any handle, over this seat's translation; chains of timers.
  Conditions: the timers lie in memory as Tim says; fewer than 900 have been started.
-/
import Derived.Test.YtbgddldkpjeieaaRow
import Derived.Test.YtbgddldkpjeieaaNT5
import Derived.Test.YtbgddldkpjeieaaNT2
namespace Go.Proofs.Ytbgddldkpjeieaa
open Go.ChangeShapes Go.WideShapes Go.ChangeAt Go.RowKit Go.Maps
set_option linter.unusedVariables false

namespace N
theorem start_at (S : Nat → Prop) (tb : Nat) (L : List Rec) (last d k : Int) (x : Int) (w : World) (h : TI S w tb L last) (hk : k = 0 ∨ ∃ q ∈ L, q.id = k) (hS : ∀ k, w.heap.size ≤ k → S k) (hl : last < 900) (hd : 0 ≤ d ∧ d ≤ 18446744073709551615) :
    Calls Try.prog 8 #[.pointer (some ⟨tb, 0, none⟩), .int .i64 k, .int .u64 d, .int .i64 x] w fun e w' => e = .returned (.tuple #[.int .i64 (last + 1), .bool true]) ∧ TI S w' tb (L ++ [⟨last + 1, d, k, .int .i64 x⟩]) (last + 1) ∧ Fr S w w' := by
  rcases hk with rfl | ⟨q, hq, rfl⟩
  · exact start_root S tb L last d x w h hS hl hd
  · exact start_child S tb L last d q x w h hq hS hl hd

theorem deadline_at (S : Nat → Prop) (tb : Nat) (L : List Rec) (last k : Int) (w : World) (h : TI S w tb L last) (hk : ∃ q ∈ L, q.id = k) :
    Calls Try.prog 9 #[.pointer (some ⟨tb, 0, none⟩), .int .i64 k] w fun e w' => ∃ d, e = .returned (.tuple #[.int .u64 d, .bool true]) ∧ Dl L k d ∧ Fr No w w' := by
  obtain ⟨q, hq, rfl⟩ := hk
  exact deadline_hit S tb L last q w h hq

theorem deadline_either (S : Nat → Prop) (tb : Nat) (L : List Rec) (last k : Int) (w : World) (h : TI S w tb L last) (hk : (Lit.int .i64 k).wf = true) :
    Calls Try.prog 9 #[.pointer (some ⟨tb, 0, none⟩), .int .i64 k] w fun e w' => ∃ (d : Int) (b : Bool), (b = true ↔ ∃ q ∈ L, q.id = k) ∧ e = .returned (.tuple #[.int .u64 d, .bool b]) ∧ Fr No w w' := by
  by_cases hq : ∃ q ∈ L, q.id = k
  · obtain ⟨q, hq, rfl⟩ := hq
    refine (deadline_hit S tb L last q w h hq).mono ?_
    rintro e w' ⟨d, rfl, _, hf⟩
    exact ⟨d, true, by simp; exact ⟨q, hq, rfl⟩, rfl, hf⟩
  · refine (deadline_miss S tb L last k w h hk fun r hr e => hq ⟨r, hr, e⟩).mono ?_
    rintro e w' ⟨rfl, rfl⟩
    exact ⟨0, false, by simpa using hq, rfl, Fr.refl _ _⟩

theorem reset_at (S : Nat → Prop) (tb : Nat) (L : List Rec) (last d k : Int) (w : World) (h : TI S w tb L last) (hk : ∃ q ∈ L, q.id = k) (hd : 0 ≤ d ∧ d ≤ 18446744073709551615) :
    Calls Try.prog 10 #[.pointer (some ⟨tb, 0, none⟩), .int .i64 k, .int .u64 d] w fun e w' => e = .returned (.bool true) ∧ TI S w' tb (L.map (redue k d)) last ∧ Fr S w w' := by
  obtain ⟨q, hq, rfl⟩ := hk
  exact reset_hit S tb L last d q w h hq hd

theorem cancel_at (S : Nat → Prop) (tb : Nat) (L : List Rec) (last k : Int) (w : World) (h : TI S w tb L last) (hk : ∃ q ∈ L, q.id = k) :
    Calls Try.prog 16 #[.pointer (some ⟨tb, 0, none⟩), .int .i64 k] w fun e w' => e = .returned (.int .i64 (fam L k).length) ∧ TI S w' tb (rest L k) last ∧ Fr S w w' := by
  obtain ⟨q, hq, rfl⟩ := hk
  exact cancel_hit S tb L last q w h hq

theorem desc_at (S : Nat → Prop) (tb : Nat) (L : List Rec) (last k : Int) (w : World) (h : TI S w tb L last) (hk : ∃ q ∈ L, q.id = k) :
    Calls Try.prog 13 #[.pointer (some ⟨tb, 0, none⟩), .int .i64 k] w fun e w' => ∃ a n cap, n + 1 = (fam L k).length ∧ e = .returned (.slice a n cap) ∧ Fr No w w' := by
  obtain ⟨q, hq, rfl⟩ := hk
  refine (desc_hit S tb L last q w h hq).mono ?_
  rintro e w' ⟨g, o, n, cap, h1, h2, _, _, h3⟩
  exact ⟨_, n, cap, h1, h2, h3⟩
end N

structure Chain (L : List Rec) (n : Nat) : Prop where
  len : L.length = n
  par : ∀ r ∈ L, r.par = r.id - 1
  has : ∀ k : Int, 1 ≤ k → k ≤ n → ∃ r ∈ L, r.id = k

theorem Chain.nil : Chain [] 0 := ⟨rfl, by simp, fun k h1 h2 => by omega⟩

theorem Chain.start {L : List Rec} {n : Nat} (h : Chain L n) (d : Int) (v : Value) : Chain (L ++ [⟨(n : Int) + 1, d, n, v⟩]) (n + 1) := by
  refine ⟨by simp [h.len], fun r hr => ?_, fun k h1 h2 => ?_⟩
  · rcases List.mem_append.1 hr with hr | hr
    · exact h.par r hr
    · simp at hr; subst hr; show (n : Int) = (n : Int) + 1 - 1; omega
  · by_cases hk : k = (n : Int) + 1
    · exact ⟨⟨(n : Int) + 1, d, n, v⟩, by simp, hk.symm⟩
    · obtain ⟨r, hr, he⟩ := h.has k h1 (by omega)
      exact ⟨r, List.mem_append_left _ hr, he⟩

theorem Chain.reset {L : List Rec} {n : Nat} (h : Chain L n) (k d : Int) : Chain (L.map (redue k d)) n := by
  refine ⟨by simp [h.len], fun r hr => ?_, fun j h1 h2 => ?_⟩
  · obtain ⟨q, hq, rfl⟩ := List.mem_map.1 hr
    rw [redue_id, redue_par]; exact h.par q hq
  · obtain ⟨r, hr, he⟩ := h.has j h1 h2
    exact ⟨_, List.mem_map_of_mem hr, by rw [redue_id]; exact he⟩

theorem Chain.under {L : List Rec} {n : Nat} {last : Int} (h : Chain L n) (hw : Wood L last) : ∀ (m : Nat) (r : Rec), r ∈ L → r.id = (m : Int) → Under L 1 r.id := by
  intro m
  induction m with
  | zero => intro r hr he; have := hw.id r hr; omega
  | succ m ih =>
    intro r hr he
    by_cases hm : m = 0
    · subst hm
      rw [show r.id = 1 by omega]; exact .self
    · have hp := h.par r hr
      rcases hw.par r hr with h0 | ⟨_, q, hq, hqe⟩
      · omega
      · exact .step r hr (hqe ▸ ih q hq (by omega))

theorem Chain.fam {L : List Rec} {n : Nat} {last : Int} (h : Chain L n) (hw : Wood L last) : (Ytbgddldkpjeieaa.fam L 1).length = n := by
  have : Ytbgddldkpjeieaa.fam L 1 = L := List.filter_eq_self.2 fun r hr => isU_iff.2 (h.under hw r.id.toNat r hr (by have := hw.id r hr; omega))
  rw [this, h.len]

theorem Chain.next {L : List Rec} {n : Nat} {last : Int} (h : Chain L n) (hw : Wood L last) {k d was : Int} (hk : k ≠ 1) (hd : Dl L k d) (hp : Dl L (k - 1) was) : d ≤ was := by
  cases hd with
  | root r hr h0 => have := h.par r hr; omega
  | step r hr h0 d' hd' =>
    rw [h.par r hr] at hd'
    have := Dl.uniq hw hd' hp
    omega

end Go.Proofs.Ytbgddldkpjeieaa
