/-
  CONTRACTS of New, Len, Free, TotalOpened, State and Number of the descriptor table, over this seat's translation: what each call returns, what it leaves in memory.
  Conditions: the table lies in memory as TabAt says.
-/
import Derived.Test.YtanhjjinedjaaaaPure
namespace Go.Proofs.Ytanhjjinedjaaaa
open Go.ChangeShapes Go.WideShapes Go.ChangeAt Go.RowKit
set_option linter.unusedVariables false

theorem new_ok (S : Nat → Prop) (n : Nat) (w : World) (h1 : 1 ≤ n) (h2 : n ≤ 256) (hS : ∀ k, w.heap.size ≤ k → S k) :
    Calls Try.prog 8 #[.int .i64 n] w fun e w' => ∃ hb, e = .returned (.tuple #[.pointer (some ⟨hb, 0, none⟩), .int .i64 0]) ∧ TabAt S w' hb [] n 0 ∧ Fr No w w' := by
  have p1 : ¬ ((n : Int) < 1) := by omega
  have p2 : ¬ (256 < (n : Int)) := by omega
  go_enter Try.func8, Try.ntmps8
  go_wp2
  go_ret2
  refine ⟨w.heap.size, rfl, ⟨⟨.slice none 0 0, ⟨heap_alloc_new w _, World.ownsRow_nil _ _ _ _, by simp [Value.ownBlock]⟩, ?_⟩, ⟨List.Pairwise.nil, Nat.zero_le _, h2, fun d hd => by simp at hd, List.Pairwise.nil⟩⟩, Fr.alloc _ _ _⟩
  rintro k (rfl | hk)
  · exact hS _ (Nat.le_refl _)
  · simp [Value.ownBlock] at hk

theorem new_bad (n : Int) (w : World) (h : n < 1 ∨ 256 < n) :
    Calls Try.prog 8 #[.int .i64 n] w fun e w' => e = .returned (.tuple #[.pointer none, .int .i64 1]) ∧ w' = w := by
  by_cases p1 : n < 1
  · go_enter Try.func8, Try.ntmps8
    go_wp2
    go_ret2
    exact ⟨rfl, rfl⟩
  · have p2 : 256 < n := by omega
    go_enter Try.func8, Try.ntmps8
    go_wp2
    go_ret2
    exact ⟨rfl, rfl⟩

theorem len_any (S : Nat → Prop) (hb : Nat) (L : List D) (size op n : Nat) (w : World) (h : TabAt S w hb L size op) (hn : L.length = n) :
    Calls Try.prog 11 #[.pointer (some ⟨hb, 0, none⟩)] w fun e w' => e = .returned (.int .i64 (n : Nat)) ∧ w' = w := by
  obtain ⟨⟨sv, hr, _⟩, _⟩ := h
  obtain ⟨a, cap, rfl, -, -⟩ := hr.row.any
  rw [hn] at hr
  obtain ⟨c0, c1, c2⟩ := hr.hcell
  clear hr hn
  go_enter Try.func11, Try.ntmps11
  go_wp2
  go_ret
  exact ⟨rfl, rfl⟩

theorem total_any (S : Nat → Prop) (hb : Nat) (L : List D) (size op : Nat) (w : World) (h : TabAt S w hb L size op) :
    Calls Try.prog 12 #[.pointer (some ⟨hb, 0, none⟩)] w fun e w' => e = .returned (.int .i64 (op : Nat)) ∧ w' = w := by
  obtain ⟨⟨sv, hr, _⟩, _⟩ := h
  obtain ⟨c0, c1, c2⟩ := hr.hcell
  clear hr
  go_enter Try.func12, Try.ntmps12
  go_wp2
  go_ret
  exact ⟨rfl, rfl⟩

theorem free_any (S : Nat → Prop) (hb : Nat) (L : List D) (size op n m : Nat) (w : World) (h : TabAt S w hb L size op) (hn : L.length = n) (hm : size - n = m) :
    Calls Try.prog 10 #[.pointer (some ⟨hb, 0, none⟩)] w fun e w' => e = .returned (.int .i64 (m : Nat)) ∧ Fr No w w' := by
  obtain ⟨⟨sv, hr, _⟩, hg⟩ := h
  have h1 := hg.len
  have h2 := hg.small
  obtain ⟨a, cap, rfl, -, -⟩ := hr.row.any
  rw [hn] at hr h1
  obtain ⟨c0, c1, c2⟩ := hr.hcell
  have e1 : (size : Int) - (n : Int) = (m : Int) := by omega
  clear hr hn hm hg
  go_enter Try.func10, Try.ntmps10
  go_wp2_with fail
  go_quiet (fail)
  go_wp2_with fail
  go_ret
  exact ⟨rfl, Fr.drewN _ _ _⟩

/-- What is known of the entry with a key, or z. -/
def Ask (f : D → Int) (z : Int) (L : List D) (x : Int × Int) (v : Int) : Prop := ((∀ d ∈ L, d.key ≠ x) ∧ v = z) ∨ ∃ d ∈ L, d.key = x ∧ v = f d

theorem Ask.same {f : D → Int} {z : Int} {L M : List D} {x : Int × Int} {u v : Int} (hs : Sorted L) (hp : L.Perm M) (h : Ask f z L x u) (k : Ask f z M x v) : u = v := by
  rcases h with ⟨h1, rfl⟩ | ⟨d, hd, hk, rfl⟩ <;> rcases k with ⟨k1, rfl⟩ | ⟨e, he, hke, rfl⟩
  · rfl
  · exact absurd hke (h1 e (hp.mem_iff.2 he))
  · exact absurd hk (k1 d (hp.mem_iff.1 hd))
  · rw [key_inj hs hd (hp.mem_iff.2 he) (hk.trans hke.symm)]

theorem x_cells {w w' : World} {x y : Value} {t : TypeId} (hf : Fr No (w.alloc (.cells #[x, y] t)) w') : w'.cell? ⟨w.heap.size, 0, none⟩ = some x ∧ w'.cell? ⟨w.heap.size, 1, none⟩ = some y := by
  have h1 := (hf.block w.heap.size (by simp) (fun h => h)).trans (heap_alloc_new w (.cells #[x, y] t))
  refine ⟨?_, ?_⟩ <;> rw [cell_of_row _ _ _ _ _ _ h1] <;> rfl

set_option maxHeartbeats 1000000 in
set_option maxRecDepth 100000 in
theorem state_any (S : Nat → Prop) (hb : Nat) (L : List D) (size op : Nat) (xc xa : Int) (w : World) (h : TabAt S w hb L size op) :
    Calls Try.prog 22 #[.pointer (some ⟨hb, 0, none⟩), .agg #[.int .i64 xc, .int .i64 xa]] w fun e w' => ∃ v, e = .returned (.int .i64 v) ∧ Ask D.st 0 L (xc, xa) v ∧ Fr No w w' := by
  obtain ⟨⟨sv, hr, _⟩, hg⟩ := h
  have hr1 := hr.frNo (Fr.alloc No w (.cells #[.int .i64 xc, .int .i64 xa] 38))
  have h256 : L.length ≤ 256 := Nat.le_trans hg.len hg.small
  have HS := Lib.hid (And.intro hr1 (And.intro hg h256))
  have HF : Hid (Fr No w (w.alloc (.cells #[.int .i64 xc, .int .i64 xa] 38))) := Fr.alloc No _ _
  clear hr hr1 hg h256
  go_enter Try.func22, Try.ntmps22
  go_wp2_with fail
  refine (search_any hb sv L size op xc xa _ HS.out.1 HS.out.2.1.sorted HS.out.2.2).mono ?_
  rintro e w1 ⟨i, b, rfl, hp, hh, hf1⟩
  have hr2 := HS.out.1.frNo hf1
  have H1 := Lib.hid (And.intro hp (And.intro hh (HF.out.trans hf1)))
  clear hf1 hh hp
  cases b with
  | false =>
    clear hr2
    go_wp2_with fail
    go_ret
    exact ⟨0, rfl, .inl ⟨no_hit HS.out.2.1.sorted H1.out.1 H1.out.2.1, rfl⟩, H1.out.2.2⟩
  | true =>
    obtain ⟨d, hd, hk⟩ := H1.out.2.1.1 rfl
    have hil := (List.getElem?_eq_some_iff.1 hd).1
    obtain ⟨a, cap, rfl, -, -⟩ := hr2.row.any
    obtain ⟨g, rfl, _⟩ := hr2.row.form (by omega)
    obtain ⟨c0, -, -⟩ := hr2.hcell
    obtain ⟨d0, d1, d2, d3⟩ := hr2.row.cells hd
    have q1 : (0 : Int) ≤ (i : Int) := by omega
    have q2 : (i : Int) < (L.length : Int) := by omega
    have HD : Hid (Ask D.st 0 L (xc, xa) d.st) := .inr ⟨d, List.mem_of_getElem? hd, hk, rfl⟩
    obtain ⟨v, hv⟩ : ∃ v, d.st = v := ⟨_, rfl⟩
    rw [hv] at HD d3
    obtain ⟨n, hn⟩ : ∃ n, L.length = n := ⟨_, rfl⟩
    rw [hn] at c0 q2
    clear hd hk hr2 d0 d1 d2 hil hv hn
    go_wp2_with fail
    go_ret
    exact ⟨v, rfl, HD.out, H1.out.2.2⟩

set_option maxHeartbeats 1000000 in
set_option maxRecDepth 100000 in
theorem number_any (S : Nat → Prop) (hb : Nat) (L : List D) (size op : Nat) (xc xa : Int) (w : World) (h : TabAt S w hb L size op) :
    Calls Try.prog 23 #[.pointer (some ⟨hb, 0, none⟩), .agg #[.int .i64 xc, .int .i64 xa]] w fun e w' => ∃ v, e = .returned (.int .i64 v) ∧ Ask (fun d => (d.no : Int)) (-1) L (xc, xa) v ∧ Fr No w w' := by
  obtain ⟨⟨sv, hr, _⟩, hg⟩ := h
  have hr1 := hr.frNo (Fr.alloc No w (.cells #[.int .i64 xc, .int .i64 xa] 38))
  have h256 : L.length ≤ 256 := Nat.le_trans hg.len hg.small
  have HS := Lib.hid (And.intro hr1 (And.intro hg h256))
  have HF : Hid (Fr No w (w.alloc (.cells #[.int .i64 xc, .int .i64 xa] 38))) := Fr.alloc No _ _
  clear hr hr1 hg h256
  go_enter Try.func23, Try.ntmps23
  go_wp2_with fail
  refine (search_any hb sv L size op xc xa _ HS.out.1 HS.out.2.1.sorted HS.out.2.2).mono ?_
  rintro e w1 ⟨i, b, rfl, hp, hh, hf1⟩
  have hr2 := HS.out.1.frNo hf1
  have H1 := Lib.hid (And.intro hp (And.intro hh (HF.out.trans hf1)))
  clear hf1 hh hp
  cases b with
  | false =>
    clear hr2
    go_wp2_with fail
    go_ret
    exact ⟨-1, rfl, .inl ⟨no_hit HS.out.2.1.sorted H1.out.1 H1.out.2.1, rfl⟩, H1.out.2.2⟩
  | true =>
    obtain ⟨d, hd, hk⟩ := H1.out.2.1.1 rfl
    have hil := (List.getElem?_eq_some_iff.1 hd).1
    obtain ⟨a, cap, rfl, -, -⟩ := hr2.row.any
    obtain ⟨g, rfl, _⟩ := hr2.row.form (by omega)
    obtain ⟨c0, -, -⟩ := hr2.hcell
    obtain ⟨d0, d1, d2, d3⟩ := hr2.row.cells hd
    have q1 : (0 : Int) ≤ (i : Int) := by omega
    have q2 : (i : Int) < (L.length : Int) := by omega
    have HD : Hid (Ask (fun d => (d.no : Int)) (-1) L (xc, xa) d.no) := .inr ⟨d, List.mem_of_getElem? hd, hk, rfl⟩
    obtain ⟨v, hv⟩ : ∃ v, (d.no : Int) = v := ⟨_, rfl⟩
    rw [hv] at HD d2
    obtain ⟨n, hn⟩ : ∃ n, L.length = n := ⟨_, rfl⟩
    rw [hn] at c0 q2
    clear hd hk hr2 d0 d1 d3 hil hv hn
    go_wp2_with fail
    go_ret
    exact ⟨v, rfl, HD.out, H1.out.2.2⟩

end Go.Proofs.Ytanhjjinedjaaaa
