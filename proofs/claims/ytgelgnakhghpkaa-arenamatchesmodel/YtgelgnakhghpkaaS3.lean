/-
  CONTRACTS of Set and Free of the arena of strings, over this seat's translation: what each call returns, what it leaves in memory.
  Conditions: the arena lies in memory as ArenaAt says.
-/
import Derived.Test.YtgelgnakhghpkaaS2
namespace Go.Proofs.Ytgelgnakhghpkaa.S
open Go.ChangeShapes Go.WideShapes Go.ChangeAt Go.RowKit
set_option linter.unusedVariables false

theorem free_miss (S : Nat → Prop) (hb : Nat) (A : List Slot) (size : Nat) (B ix gn : Int) (w : World) (h : AI S w hb A size B) (hl : ∀ i s, ¬ Live A ix gn i s) :
    Calls Try.prog 29 #[.pointer (some ⟨hb, 0, none⟩), .agg #[.int .i64 ix, .int .i64 gn]] w fun e w' => e = .returned (.bool false) ∧ Fr No w w' := by
  have hl4 : A.length ≤ 4096 := Nat.le_trans h.good.len h.good.size
  obtain ⟨⟨sv, hr, _⟩, _⟩ := h
  have HS := Lib.hid (And.intro (hr.frNo (Fr.alloc No w (.cells #[.int .i64 ix, .int .i64 gn] 38))) (And.intro hl4 hl))
  clear hr hl hl4
  go_enter Try.func29, Try.ntmps29
  go_wp2_with fail
  refine (find_miss hb sv A size (cnt A) ix gn _ HS.out.1 HS.out.2.1 HS.out.2.2).mono ?_
  rintro e w1 ⟨rfl, hf1⟩
  have H1 := Lib.hid hf1
  clear hf1
  go_wp2_with fail
  go_ret
  exact ⟨rfl, (Fr.alloc No w _).trans H1.out⟩

theorem set_get {A : List Slot} {i : Nat} {t s : Slot} (h : A[i]? = some t) : (A.set i s)[i]? = some s := List.getElem?_set_self (List.getElem?_eq_some_iff.1 h).1

theorem own_row {hb g n cap : Nat} : Own hb (.slice (some ⟨g, 0, none⟩) n cap) g := .inr rfl

theorem free_hit (S : Nat → Prop) (hb : Nat) (A : List Slot) (size : Nat) (B ix gn : Int) (i : Nat) (x : ByteArray) (w : World) (h : AI S w hb A size B) (hl : Live A ix gn i ⟨true, gn, [.string x]⟩) :
    Calls Try.prog 29 #[.pointer (some ⟨hb, 0, none⟩), .agg #[.int .i64 ix, .int .i64 gn]] w fun e w' => e = .returned (.bool true) ∧ AI S w' hb (A.set i ⟨false, gn, zs⟩) size B ∧ Fr S w w' := by
  have hl4 : A.length ≤ 4096 := Nat.le_trans h.good.len h.good.size
  have hi := hl.2.1
  have hil : i < A.length := (List.getElem?_eq_some_iff.1 hi).1
  obtain ⟨⟨sv, hr, hS⟩, hg⟩ := h
  obtain ⟨n, hn⟩ : ∃ n, A.length = n := ⟨_, rfl⟩
  obtain ⟨g, cap, rfl⟩ := hr.form (by omega)
  rw [hn] at hr hl4 hil hS
  have HS := Lib.hid (And.intro (hr.frNo (Fr.alloc No w (.cells #[.int .i64 ix, .int .i64 gn] 38))) (And.intro hl4 (And.intro hl (And.intro hn (And.intro hi (And.intro hS hg))))))
  clear hr hl hl4 hn hi hS hg
  go_enter Try.func29, Try.ntmps29
  go_wp2_with fail
  refine (find_hit hb g n cap A size (cnt A) ix gn i _ _ HS.out.1 HS.out.2.2.2.1 HS.out.2.1 HS.out.2.2.1).mono ?_
  rintro e w1 ⟨rfl, hf1⟩
  have hr1 := HS.out.1.frNo hf1
  have HF1 : Hid (Fr No w w1) := (Fr.alloc No w _).trans hf1
  obtain ⟨c0, c1, c2⟩ := hr1.hcell
  have e0 := hr1.ecells HS.out.2.2.2.2.1 0 _ rfl
  have e2 := hr1.ecells HS.out.2.2.2.2.1 2 _ rfl
  have f0 := hr1.efrozen HS.out.2.2.2.1 (i * 3)
  have f2 := hr1.efrozen HS.out.2.2.2.1 (i * 3 + 2)
  have fc := hr1.hfrozen 2
  have hgb : g ≠ hb := fun e => hr1.apart (by simp [Value.ownBlock, e])
  have hbg : hb ≠ g := Ne.symm hgb
  have n02 : i * 3 ≠ i * 3 + 2 := by omega
  rw [Nat.add_zero] at e0
  have HR1 := Lib.hid hr1
  obtain ⟨c, hc⟩ : ∃ c, cnt A = c + 1 := by
    have := cnt_set i _ ⟨false, gn, []⟩ HS.out.2.2.2.2.1
    simp at this
    exact ⟨_, this.symm⟩
  rw [hc] at c2
  have HC := Lib.hid hc
  have hc4 : c ≤ 4096 := by
    have h1 := cnt_le A
    have h2 := HS.out.2.1
    have h3 := HS.out.2.2.2.1
    omega
  have hsub : ((c + 1 : Nat) : Int) - 1 = (c : Int) := by omega
  clear hf1 hr1 hc
  go_wp2_with fail
  go_ret
  obtain ⟨hr, hl4, hl, hn, hi, hS, hg⟩ := HS.out
  have r1 := HR1.out
  have r2 := r1.put hn (j := 2) (v := .string { data := #[] }) (s' := ⟨true, gn, zs⟩) hi rfl (by omega)
  have r3 := r2.put (by simpa using hn) (j := 0) (i := i) (s := ⟨true, gn, zs⟩) (v := .bool false) (s' := ⟨false, gn, zs⟩) (set_get hi) rfl (by omega)
  have r4 := r3.setCount (c : Int)
  simp only [List.set_set, Nat.add_zero] at r4
  have hcc : cnt (A.set i ⟨false, gn, zs⟩) = c := by
    have := cnt_set i _ ⟨false, gn, zs⟩ hi
    have h2 := HC.out
    simp at this
    omega
  refine ⟨rfl, ⟨⟨_, by rw [hcc]; exact r4, hS⟩, ⟨?_, ?_, by simpa using hg.len, hg.size⟩⟩, ?_⟩
  · intro s hs
    rcases List.mem_or_eq_of_mem_set hs with h1 | rfl
    · exact hg.gen s h1
    · have := hg.gen _ (List.mem_of_getElem? hi); exact this
  · intro s hs
    rcases List.mem_or_eq_of_mem_set hs with h1 | rfl
    · exact hg.val s h1
    · exact zs_ok
  · exact ((HF1.out.no.trans (Fr.setCell _ _ _ _ (hS g own_row))).trans (Fr.setCell _ _ _ _ (hS g own_row))).trans (Fr.setCell _ _ _ _ (hS hb (.inl rfl)))



end Go.Proofs.Ytgelgnakhghpkaa.S
