/-
  CONTRACTS of Connected, RemoteShutdown and LocalShutdown of the reference table, over this seat's translation.
  Conditions: the reference table lies in memory as RefAt says.
-/
import Derived.Test.YtanhjjinedjaaaaRef1
namespace Go.Proofs.Ytanhjjinedjaaaa
open Go.ChangeShapes Go.WideShapes Go.ChangeAt Go.RowKit
set_option linter.unusedVariables false

set_option maxHeartbeats 1000000 in
set_option maxRecDepth 100000 in
theorem connected_ref (S : Nat → Prop) (rb : Nat) (M : List D) (k tot : Nat) (xc xa : Int) (w : World) (h : RefAt S w rb M k tot) :
    Calls Try.prog 32 #[.pointer (some ⟨rb, 0, none⟩), .agg #[.int .i64 xc, .int .i64 xa]] w fun e w' => ∃ r M', e = .returned (.int .i64 r) ∧ Ap 0 M (xc, xa) r M' ∧ RefAt S w' rb M' k tot ∧ Fr S w w' := by
  obtain ⟨⟨sv, hr, hS⟩, h256, hk⟩ := h
  have hr1 := hr.frNo (Fr.alloc No w (.cells #[.int .i64 xc, .int .i64 xa] 38))
  have HS := Lib.hid (And.intro hr1 (And.intro h256 hk))
  have HF : Hid (Fr No w (w.alloc (.cells #[.int .i64 xc, .int .i64 xa] 38))) := Fr.alloc No _ _
  have HOS := Lib.hid hS
  clear hr hr1 h256 hS hk
  go_enter Try.func32, Try.ntmps32
  go_wp2_with fail
  refine (find_any rb sv M k tot xc xa _ HS.out.1 HS.out.2.1).mono ?_
  rintro e w1 ⟨v, rfl, hv, hf1⟩
  have hr2 := HS.out.1.frNo hf1
  have H1 := Lib.hid (And.intro (HF.out.trans hf1) hr2)
  clear hf1
  rcases hv with ⟨hno, rfl⟩ | ⟨i, d, rfl, hd, hk⟩
  · have HN := Lib.hid hno
    clear hr2 hno
    go_wp2_with fail
    go_ret
    exact ⟨4, M, rfl, .inl ⟨HN.out, rfl, rfl⟩, ⟨⟨sv, H1.out.2, HOS.out⟩, HS.out.2.1, HS.out.2.2⟩, H1.out.1.no⟩
  · have hil := (List.getElem?_eq_some_iff.1 hd).1
    obtain ⟨a, cap, rfl, -, -⟩ := hr2.row.any
    obtain ⟨g, rfl, _⟩ := hr2.row.form (by omega)
    obtain ⟨-, c0, -⟩ := hr2.hcell
    obtain ⟨d0, d1, d2, d3⟩ := hr2.row.cells hd
    have z3 := hr2.row.frozen (i * 4 + 3)
    have q0 : ¬ ((i : Int) < 0) := by omega
    have q1 : (0 : Int) ≤ (i : Int) := by omega
    have q2 : (i : Int) < (M.length : Int) := by omega
    obtain ⟨n, hn⟩ : ∃ n, M.length = n := ⟨_, rfl⟩
    rw [hn] at c0 q2
    have HD := Lib.hid (And.intro hd (And.intro hk hn))
    obtain ⟨dc, da, dn, ds⟩ := d
    simp only at d0 d1 d2 d3
    clear hd hk hr2 d0 d1 d2 hil hn
    have HOK : ∀ s : Int, Hid (nx 0 ds = some s → ∃ M', Ap 0 M (xc, xa) 0 M' ∧ RefAt S (w1.setCell ⟨g, i * 4 + 3, none⟩ (.int .i64 s)) rb M' k tot ∧ Fr S w (w1.setCell ⟨g, i * 4 + 3, none⟩ (.int .i64 s))) := by
      intro s hx
      obtain ⟨hd, hk, hn⟩ := HD.out
      obtain ⟨hf, hr⟩ := H1.out
      have hp := hr.row.put hd s
      have hgh : g ≠ rb := fun e => hr.apart (by simp [Value.ownBlock, e])
      refine ⟨_, .inr (.inr ⟨_, s, _, perm_at hd, hk, hx, rfl, perm_set hd _⟩), ⟨⟨_, ⟨(heap_setCell_other _ _ _ _ hgh.symm).trans hr.hdr, ?_, hr.apart⟩, HOS.out⟩, by rw [List.length_set]; exact HS.out.2.1, HS.out.2.2⟩, ?_⟩
      · rw [hn] at hp ⊢
        exact hp
      · exact (hf.no).trans (Fr.setCell S _ ⟨g, i * 4 + 3, none⟩ (.int .i64 s) (HOS.out g (.inr rfl)))
    have HNO : Hid (nx 0 ds = none → Ap 0 M (xc, xa) 7 M ∧ RefAt S w1 rb M k tot ∧ Fr S w w1) := fun hx => ⟨.inr (.inl ⟨_, List.mem_of_getElem? HD.out.1, HD.out.2.1, hx, rfl, rfl⟩), ⟨⟨_, H1.out.2, HOS.out⟩, HS.out.2.1, HS.out.2.2⟩, H1.out.1.no⟩
    by_cases s1 : ds = 1
    · subst s1
      go_wp2_with fail
      go_ret
      obtain ⟨M', h1, h2, h3⟩ := (HOK 2).out rfl
      exact ⟨0, M', rfl, h1, h2, h3⟩
    · go_wp2_with fail
      go_ret
      obtain ⟨h1, h2, h3⟩ := HNO.out (by simp [nx, s1])
      exact ⟨7, M, rfl, h1, h2, h3⟩

set_option maxHeartbeats 1000000 in
set_option maxRecDepth 100000 in
theorem remote_ref (S : Nat → Prop) (rb : Nat) (M : List D) (k tot : Nat) (xc xa : Int) (w : World) (h : RefAt S w rb M k tot) :
    Calls Try.prog 33 #[.pointer (some ⟨rb, 0, none⟩), .agg #[.int .i64 xc, .int .i64 xa]] w fun e w' => ∃ r M', e = .returned (.int .i64 r) ∧ Ap 1 M (xc, xa) r M' ∧ RefAt S w' rb M' k tot ∧ Fr S w w' := by
  obtain ⟨⟨sv, hr, hS⟩, h256, hk⟩ := h
  have hr1 := hr.frNo (Fr.alloc No w (.cells #[.int .i64 xc, .int .i64 xa] 38))
  have HS := Lib.hid (And.intro hr1 (And.intro h256 hk))
  have HF : Hid (Fr No w (w.alloc (.cells #[.int .i64 xc, .int .i64 xa] 38))) := Fr.alloc No _ _
  have HOS := Lib.hid hS
  clear hr hr1 h256 hS hk
  go_enter Try.func33, Try.ntmps33
  go_wp2_with fail
  refine (find_any rb sv M k tot xc xa _ HS.out.1 HS.out.2.1).mono ?_
  rintro e w1 ⟨v, rfl, hv, hf1⟩
  have hr2 := HS.out.1.frNo hf1
  have H1 := Lib.hid (And.intro (HF.out.trans hf1) hr2)
  clear hf1
  rcases hv with ⟨hno, rfl⟩ | ⟨i, d, rfl, hd, hk⟩
  · have HN := Lib.hid hno
    clear hr2 hno
    go_wp2_with fail
    go_ret
    exact ⟨4, M, rfl, .inl ⟨HN.out, rfl, rfl⟩, ⟨⟨sv, H1.out.2, HOS.out⟩, HS.out.2.1, HS.out.2.2⟩, H1.out.1.no⟩
  · have hil := (List.getElem?_eq_some_iff.1 hd).1
    obtain ⟨a, cap, rfl, -, -⟩ := hr2.row.any
    obtain ⟨g, rfl, _⟩ := hr2.row.form (by omega)
    obtain ⟨-, c0, -⟩ := hr2.hcell
    obtain ⟨d0, d1, d2, d3⟩ := hr2.row.cells hd
    have z3 := hr2.row.frozen (i * 4 + 3)
    have q0 : ¬ ((i : Int) < 0) := by omega
    have q1 : (0 : Int) ≤ (i : Int) := by omega
    have q2 : (i : Int) < (M.length : Int) := by omega
    obtain ⟨n, hn⟩ : ∃ n, M.length = n := ⟨_, rfl⟩
    rw [hn] at c0 q2
    have HD := Lib.hid (And.intro hd (And.intro hk hn))
    obtain ⟨dc, da, dn, ds⟩ := d
    simp only at d0 d1 d2 d3
    clear hd hk hr2 d0 d1 d2 hil hn
    have HOK : ∀ s : Int, Hid (nx 1 ds = some s → ∃ M', Ap 1 M (xc, xa) 0 M' ∧ RefAt S (w1.setCell ⟨g, i * 4 + 3, none⟩ (.int .i64 s)) rb M' k tot ∧ Fr S w (w1.setCell ⟨g, i * 4 + 3, none⟩ (.int .i64 s))) := by
      intro s hx
      obtain ⟨hd, hk, hn⟩ := HD.out
      obtain ⟨hf, hr⟩ := H1.out
      have hp := hr.row.put hd s
      have hgh : g ≠ rb := fun e => hr.apart (by simp [Value.ownBlock, e])
      refine ⟨_, .inr (.inr ⟨_, s, _, perm_at hd, hk, hx, rfl, perm_set hd _⟩), ⟨⟨_, ⟨(heap_setCell_other _ _ _ _ hgh.symm).trans hr.hdr, ?_, hr.apart⟩, HOS.out⟩, by rw [List.length_set]; exact HS.out.2.1, HS.out.2.2⟩, ?_⟩
      · rw [hn] at hp ⊢
        exact hp
      · exact (hf.no).trans (Fr.setCell S _ ⟨g, i * 4 + 3, none⟩ (.int .i64 s) (HOS.out g (.inr rfl)))
    have HNO : Hid (nx 1 ds = none → Ap 1 M (xc, xa) 7 M ∧ RefAt S w1 rb M k tot ∧ Fr S w w1) := fun hx => ⟨.inr (.inl ⟨_, List.mem_of_getElem? HD.out.1, HD.out.2.1, hx, rfl, rfl⟩), ⟨⟨_, H1.out.2, HOS.out⟩, HS.out.2.1, HS.out.2.2⟩, H1.out.1.no⟩
    by_cases s1 : ds = 2
    · subst s1
      go_wp2_with fail
      go_ret
      obtain ⟨M', h1, h2, h3⟩ := (HOK 3).out rfl
      exact ⟨0, M', rfl, h1, h2, h3⟩
    · by_cases s2 : ds = 4
      · subst s2
        go_wp2_with fail
        go_ret
        obtain ⟨M', h1, h2, h3⟩ := (HOK 5).out rfl
        exact ⟨0, M', rfl, h1, h2, h3⟩
      · go_wp2_with fail
        go_ret
        obtain ⟨h1, h2, h3⟩ := HNO.out (by simp [nx, s1, s2])
        exact ⟨7, M, rfl, h1, h2, h3⟩

set_option maxHeartbeats 1000000 in
set_option maxRecDepth 100000 in
theorem local__ref (S : Nat → Prop) (rb : Nat) (M : List D) (k tot : Nat) (xc xa : Int) (w : World) (h : RefAt S w rb M k tot) :
    Calls Try.prog 34 #[.pointer (some ⟨rb, 0, none⟩), .agg #[.int .i64 xc, .int .i64 xa]] w fun e w' => ∃ r M', e = .returned (.int .i64 r) ∧ Ap 2 M (xc, xa) r M' ∧ RefAt S w' rb M' k tot ∧ Fr S w w' := by
  obtain ⟨⟨sv, hr, hS⟩, h256, hk⟩ := h
  have hr1 := hr.frNo (Fr.alloc No w (.cells #[.int .i64 xc, .int .i64 xa] 38))
  have HS := Lib.hid (And.intro hr1 (And.intro h256 hk))
  have HF : Hid (Fr No w (w.alloc (.cells #[.int .i64 xc, .int .i64 xa] 38))) := Fr.alloc No _ _
  have HOS := Lib.hid hS
  clear hr hr1 h256 hS hk
  go_enter Try.func34, Try.ntmps34
  go_wp2_with fail
  refine (find_any rb sv M k tot xc xa _ HS.out.1 HS.out.2.1).mono ?_
  rintro e w1 ⟨v, rfl, hv, hf1⟩
  have hr2 := HS.out.1.frNo hf1
  have H1 := Lib.hid (And.intro (HF.out.trans hf1) hr2)
  clear hf1
  rcases hv with ⟨hno, rfl⟩ | ⟨i, d, rfl, hd, hk⟩
  · have HN := Lib.hid hno
    clear hr2 hno
    go_wp2_with fail
    go_ret
    exact ⟨4, M, rfl, .inl ⟨HN.out, rfl, rfl⟩, ⟨⟨sv, H1.out.2, HOS.out⟩, HS.out.2.1, HS.out.2.2⟩, H1.out.1.no⟩
  · have hil := (List.getElem?_eq_some_iff.1 hd).1
    obtain ⟨a, cap, rfl, -, -⟩ := hr2.row.any
    obtain ⟨g, rfl, _⟩ := hr2.row.form (by omega)
    obtain ⟨-, c0, -⟩ := hr2.hcell
    obtain ⟨d0, d1, d2, d3⟩ := hr2.row.cells hd
    have z3 := hr2.row.frozen (i * 4 + 3)
    have q0 : ¬ ((i : Int) < 0) := by omega
    have q1 : (0 : Int) ≤ (i : Int) := by omega
    have q2 : (i : Int) < (M.length : Int) := by omega
    obtain ⟨n, hn⟩ : ∃ n, M.length = n := ⟨_, rfl⟩
    rw [hn] at c0 q2
    have HD := Lib.hid (And.intro hd (And.intro hk hn))
    obtain ⟨dc, da, dn, ds⟩ := d
    simp only at d0 d1 d2 d3
    clear hd hk hr2 d0 d1 d2 hil hn
    have HOK : ∀ s : Int, Hid (nx 2 ds = some s → ∃ M', Ap 2 M (xc, xa) 0 M' ∧ RefAt S (w1.setCell ⟨g, i * 4 + 3, none⟩ (.int .i64 s)) rb M' k tot ∧ Fr S w (w1.setCell ⟨g, i * 4 + 3, none⟩ (.int .i64 s))) := by
      intro s hx
      obtain ⟨hd, hk, hn⟩ := HD.out
      obtain ⟨hf, hr⟩ := H1.out
      have hp := hr.row.put hd s
      have hgh : g ≠ rb := fun e => hr.apart (by simp [Value.ownBlock, e])
      refine ⟨_, .inr (.inr ⟨_, s, _, perm_at hd, hk, hx, rfl, perm_set hd _⟩), ⟨⟨_, ⟨(heap_setCell_other _ _ _ _ hgh.symm).trans hr.hdr, ?_, hr.apart⟩, HOS.out⟩, by rw [List.length_set]; exact HS.out.2.1, HS.out.2.2⟩, ?_⟩
      · rw [hn] at hp ⊢
        exact hp
      · exact (hf.no).trans (Fr.setCell S _ ⟨g, i * 4 + 3, none⟩ (.int .i64 s) (HOS.out g (.inr rfl)))
    have HNO : Hid (nx 2 ds = none → Ap 2 M (xc, xa) 7 M ∧ RefAt S w1 rb M k tot ∧ Fr S w w1) := fun hx => ⟨.inr (.inl ⟨_, List.mem_of_getElem? HD.out.1, HD.out.2.1, hx, rfl, rfl⟩), ⟨⟨_, H1.out.2, HOS.out⟩, HS.out.2.1, HS.out.2.2⟩, H1.out.1.no⟩
    by_cases s1 : ds = 2
    · subst s1
      go_wp2_with fail
      go_ret
      obtain ⟨M', h1, h2, h3⟩ := (HOK 4).out rfl
      exact ⟨0, M', rfl, h1, h2, h3⟩
    · by_cases s2 : ds = 3
      · subst s2
        go_wp2_with fail
        go_ret
        obtain ⟨M', h1, h2, h3⟩ := (HOK 5).out rfl
        exact ⟨0, M', rfl, h1, h2, h3⟩
      · go_wp2_with fail
        go_ret
        obtain ⟨h1, h2, h3⟩ := HNO.out (by simp [nx, s1, s2])
        exact ⟨7, M, rfl, h1, h2, h3⟩

end Go.Proofs.Ytanhjjinedjaaaa
