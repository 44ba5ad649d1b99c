/-
  CONTRACTS of next, apply, Connected, RemoteShutdown, LocalShutdown and Close of the descriptor table, over this seat's translation: what each call returns, what it leaves in memory.
  Conditions: the table lies in memory as TabAt says.
-/
import Derived.Test.YtanhjjinedjaaaaT1
import Derived.Test.YtanhjjinedjaaaaDel
namespace Go.Proofs.Ytanhjjinedjaaaa
open Go.ChangeShapes Go.WideShapes Go.ChangeAt Go.RowKit
set_option linter.unusedVariables false

set_option maxHeartbeats 1000000 in
theorem next_some (c st s : Int) (w : World) (hc : c = 0 ∨ c = 1 ∨ c = 2) (h : nx c st = some s) : Calls Try.prog 51 #[.int .i64 st, .int .i64 c] w fun e w' => e = .returned (.tuple #[.int .i64 s, .bool true]) ∧ w' = w := by
  rcases hc with rfl | rfl | rfl
  · by_cases h1 : st = 1
    · subst h1; cases h
      go_enter Try.func51, Try.ntmps51
      go_wp2
      go_ret2
      exact ⟨rfl, rfl⟩
    · simp [nx, h1] at h
  · by_cases h1 : st = 2
    · subst h1; cases h
      go_enter Try.func51, Try.ntmps51
      go_wp2
      go_ret2
      exact ⟨rfl, rfl⟩
    · by_cases h2 : st = 4
      · subst h2; cases h
        go_enter Try.func51, Try.ntmps51
        go_wp2
        go_ret2
        exact ⟨rfl, rfl⟩
      · simp [nx, h1, h2] at h
  · by_cases h1 : st = 2
    · subst h1; cases h
      go_enter Try.func51, Try.ntmps51
      go_wp2
      go_ret2
      exact ⟨rfl, rfl⟩
    · by_cases h2 : st = 3
      · subst h2; cases h
        go_enter Try.func51, Try.ntmps51
        go_wp2
        go_ret2
        exact ⟨rfl, rfl⟩
      · simp [nx, h1, h2] at h

set_option maxHeartbeats 1000000 in
theorem next_none (c st : Int) (w : World) (hc : c = 0 ∨ c = 1 ∨ c = 2) (h : nx c st = none) : Calls Try.prog 51 #[.int .i64 st, .int .i64 c] w fun e w' => e = .returned (.tuple #[.int .i64 0, .bool false]) ∧ w' = w := by
  rcases hc with rfl | rfl | rfl
  · have h1 : ¬ (st = 1) := fun e => by subst e; cases h
    clear h
    go_enter Try.func51, Try.ntmps51
    go_wp2
    go_ret2
    exact ⟨rfl, rfl⟩
  · have h1 : ¬ (st = 2) := fun e => by subst e; cases h
    have h2 : ¬ (st = 4) := fun e => by subst e; cases h
    clear h
    go_enter Try.func51, Try.ntmps51
    go_wp2
    go_ret2
    exact ⟨rfl, rfl⟩
  · have h1 : ¬ (st = 2) := fun e => by subst e; cases h
    have h2 : ¬ (st = 3) := fun e => by subst e; cases h
    clear h
    go_enter Try.func51, Try.ntmps51
    go_wp2
    go_ret2
    exact ⟨rfl, rfl⟩

set_option maxHeartbeats 1000000 in
set_option maxRecDepth 100000 in
theorem apply_any (S : Nat → Prop) (hb : Nat) (L : List D) (size op : Nat) (c xc xa : Int) (w : World) (h : TabAt S w hb L size op) (hc : c = 0 ∨ c = 1 ∨ c = 2) :
    Calls Try.prog 42 #[.pointer (some ⟨hb, 0, none⟩), .int .i64 c, .agg #[.int .i64 xc, .int .i64 xa]] w fun e w' => ∃ r L', e = .returned (.int .i64 r) ∧ Ap c L (xc, xa) r L' ∧ TabAt S w' hb L' size op ∧ Fr S w w' := by
  obtain ⟨⟨sv, hr, hS⟩, hg⟩ := h
  have hr1 := hr.frNo (Fr.alloc No w (.cells #[.int .i64 xc, .int .i64 xa] 38))
  have h256 : L.length ≤ 256 := Nat.le_trans hg.len hg.small
  have HS := Lib.hid (And.intro hr1 (And.intro hg h256))
  have HF : Hid (Fr No w (w.alloc (.cells #[.int .i64 xc, .int .i64 xa] 38))) := Fr.alloc No _ _
  have HOS := Lib.hid hS
  have HC := Lib.hid hc
  clear hr hr1 hg h256 hS hc
  go_enter Try.func42, Try.ntmps42
  go_wp2_with fail
  refine (search_any hb sv L size op xc xa _ HS.out.1 HS.out.2.1.sorted HS.out.2.2).mono ?_
  rintro e w1 ⟨i, b, rfl, hp, hh, hf1⟩
  have hr2 := HS.out.1.frNo hf1
  have H1 := Lib.hid (And.intro hp (And.intro hh (And.intro (HF.out.trans hf1) hr2)))
  clear hf1 hh hp
  cases b with
  | false =>
    clear hr2
    go_wp2_with fail
    go_ret
    exact ⟨4, L, rfl, .inl ⟨no_hit HS.out.2.1.sorted H1.out.1 H1.out.2.1, rfl, rfl⟩, ⟨⟨sv, H1.out.2.2.2, HOS.out⟩, HS.out.2.1⟩, H1.out.2.2.1.no⟩
  | true =>
    obtain ⟨d, hd, hk⟩ := H1.out.2.1.1 rfl
    have hil := (List.getElem?_eq_some_iff.1 hd).1
    obtain ⟨a, cap, rfl, -, -⟩ := hr2.row.any
    obtain ⟨g, rfl, _⟩ := hr2.row.form (by omega)
    obtain ⟨c0, -, -⟩ := hr2.hcell
    obtain ⟨d0, d1, d2, d3⟩ := hr2.row.cells hd
    have z3 := hr2.row.frozen (i * 4 + 3)
    have q1 : (0 : Int) ≤ (i : Int) := by omega
    have q2 : (i : Int) < (L.length : Int) := by omega
    obtain ⟨n, hn⟩ : ∃ n, L.length = n := ⟨_, rfl⟩
    rw [hn] at c0 q2
    have HD := Lib.hid (And.intro hd (And.intro hk hn))
    obtain ⟨dc, da, dn, ds⟩ := d
    simp only at d0 d1 d2 d3
    clear hd hk hr2 d0 d1 d2 hil hn
    cases hx : nx c ds with
    | none =>
      have HX := Lib.hid hx
      clear hx z3
      go_wp2_with fail
      refine (next_none c ds _ HC.out HX.out).mono ?_
      rintro e w2 ⟨rfl, hw⟩
      have HW := Lib.hid hw
      clear hw
      go_wp2_with fail
      go_ret
      rw [HW.out]
      exact ⟨7, L, rfl, .inr (.inl ⟨_, List.mem_of_getElem? HD.out.1, HD.out.2.1, HX.out, rfl, rfl⟩), ⟨⟨_, H1.out.2.2.2, HOS.out⟩, HS.out.2.1⟩, H1.out.2.2.1.no⟩
    | some s =>
      have HX := Lib.hid hx
      clear hx
      go_wp2_with fail
      refine (next_some c ds s _ HC.out HX.out).mono ?_
      rintro e w2 ⟨rfl, hw⟩
      have hw' := hw.symm
      subst hw'
      clear hw
      go_wp2_with fail
      go_ret
      obtain ⟨hd, hk, hn⟩ := HD.out
      obtain ⟨-, -, hf, hr⟩ := H1.out
      have hp := hr.row.put hd s
      have hgh : g ≠ hb := fun e => hr.apart (by simp [Value.ownBlock, e])
      refine ⟨0, _, rfl, .inr (.inr ⟨_, s, _, perm_at hd, hk, HX.out, rfl, perm_set hd _⟩), ⟨⟨_, ⟨(heap_setCell_other _ _ _ _ hgh.symm).trans hr.hdr, ?_, hr.apart⟩, HOS.out⟩, HS.out.2.1.set hd s⟩, ?_⟩
      · rw [hn] at hp ⊢
        exact hp
      · exact (hf.no).trans (Fr.setCell S _ ⟨g, i * 4 + 3, none⟩ (.int .i64 s) (HOS.out g (.inr rfl)))

set_option maxHeartbeats 1000000 in
set_option maxRecDepth 100000 in
theorem close_any (S : Nat → Prop) (hb : Nat) (L : List D) (size op : Nat) (xc xa : Int) (w : World) (h : TabAt S w hb L size op) :
    Calls Try.prog 29 #[.pointer (some ⟨hb, 0, none⟩), .agg #[.int .i64 xc, .int .i64 xa]] w fun e w' => ∃ r L', e = .returned (.int .i64 r) ∧ Cl L (xc, xa) r L' ∧ TabAt S w' hb L' size op ∧ Fr S w w' := by
  obtain ⟨⟨sv, hr, hS⟩, hg⟩ := h
  have hr1 := hr.frNo (Fr.alloc No w (.cells #[.int .i64 xc, .int .i64 xa] 38))
  have h256 : L.length ≤ 256 := Nat.le_trans hg.len hg.small
  have HS := Lib.hid (And.intro hr1 (And.intro hg h256))
  have HF : Hid (Fr No w (w.alloc (.cells #[.int .i64 xc, .int .i64 xa] 38))) := Fr.alloc No _ _
  have HOS := Lib.hid hS
  clear hr hr1 hg h256 hS
  go_enter Try.func29, Try.ntmps29
  go_wp2_with fail
  refine (search_any hb sv L size op xc xa _ HS.out.1 HS.out.2.1.sorted HS.out.2.2).mono ?_
  rintro e w1 ⟨i, b, rfl, hp, hh, hf1⟩
  have hr2 := HS.out.1.frNo hf1
  have H1 := Lib.hid (And.intro hp (And.intro hh (And.intro (HF.out.trans hf1) hr2)))
  clear hf1 hh hp
  cases b with
  | false =>
    clear hr2
    go_wp2_with fail
    go_ret
    exact ⟨4, L, rfl, .inl ⟨no_hit HS.out.2.1.sorted H1.out.1 H1.out.2.1, rfl, rfl⟩, ⟨⟨sv, H1.out.2.2.2, HOS.out⟩, HS.out.2.1⟩, H1.out.2.2.1.no⟩
  | true =>
    obtain ⟨d, hd, hk⟩ := H1.out.2.1.1 rfl
    have hil := (List.getElem?_eq_some_iff.1 hd).1
    obtain ⟨a, cap, rfl, -, -⟩ := hr2.row.any
    obtain ⟨g, rfl, _⟩ := hr2.row.form (by omega)
    obtain ⟨c0, -, -⟩ := hr2.hcell
    obtain ⟨n, hn⟩ : ∃ n, L.length = n := ⟨_, rfl⟩
    rw [hn] at c0 H1
    obtain ⟨m, hm⟩ : ∃ m, m + 1 = n := ⟨n - 1, by omega⟩
    obtain ⟨j, hj⟩ : ∃ j, i + 1 = j := ⟨_, rfl⟩
    have e1 : (i : Int) + 1 = (j : Int) := by omega
    have hin : i < n := by omega
    have hn256 : n ≤ 256 := by have := HS.out.2.2; omega
    have HD := Lib.hid (And.intro hd (And.intro hk (And.intro hn (And.intro hm hj))))
    have hj2 : j ≤ 256 := by omega
    clear hd hk hr2 hil hn hm hj
    go_wp2_with fail
    refine (delete_any g n cap i j m L _ H1.out.2.2.2.row hin HD.out.2.2.2.2 HD.out.2.2.2.1 hn256).mono ?_
    rintro e w2 ⟨rfl, hrow, hf2⟩
    obtain ⟨c0', -, -⟩ := (H1.out.2.2.2).hcell
    have hgh : g ≠ hb := fun e => H1.out.2.2.2.apart (by simp [Value.ownBlock, e])
    have hhdr := (hf2.block hb H1.out.2.2.2.lt (Ne.symm hgh)).trans H1.out.2.2.2.hdr
    have k0 : w2.cell? ⟨hb, 0, none⟩ = some (.slice (some ⟨g, 0, none⟩) n cap) := by rw [cell_of_row w2 hb _ _ _ _ hhdr]; rfl
    have z0 : w2.frozen? ⟨hb, 0, none⟩ = false := frozen_of_row _ _ _ _ _ hhdr
    have H2 := Lib.hid (And.intro hrow hf2)
    clear hrow hf2 c0 c0' hhdr
    go_wp2_with fail
    go_ret
    obtain ⟨hd, hk, hn, hm, hj⟩ := HD.out
    have hf2 : Fr (fun k => (Value.slice (some ⟨g, 0, none⟩) n cap).ownBlock = some k) w1 w2 := H2.out.2.mono fun k _ hk => by simp [Value.ownBlock, hk]
    have hraw := H1.out.2.2.2.setRow hf2 H2.out.1 (fun k hk => .inl hk)
    have hSg : S g := HOS.out g (.inr rfl)
    refine ⟨0, _, rfl, .inr ⟨d, ?_, hk, rfl⟩, ⟨⟨_, hraw, ?_⟩, ?_⟩, ?_⟩
    · rw [← hj]; exact perm_at hd
    · rintro k (rfl | hk)
      · exact HOS.out _ (.inl rfl)
      · exact HOS.out k (.inr hk)
    · rw [← hj]; exact HS.out.2.1.cut
    · exact ((H1.out.2.2.1.no).trans (H2.out.2.mono fun k _ hk => by rw [hk]; exact hSg)).trans (Fr.setCell S _ ⟨hb, 0, none⟩ _ (HOS.out hb (.inl rfl)))

set_option maxHeartbeats 1000000 in
theorem remote_any (S : Nat → Prop) (hb : Nat) (L : List D) (size op : Nat) (xc xa : Int) (w : World) (h : TabAt S w hb L size op) :
    Calls Try.prog 25 #[.pointer (some ⟨hb, 0, none⟩), .agg #[.int .i64 xc, .int .i64 xa]] w fun e w' => ∃ r L', e = .returned (.int .i64 r) ∧ Ap 1 L (xc, xa) r L' ∧ TabAt S w' hb L' size op ∧ Fr S w w' := by
  have HS := Lib.hid (h.frNo (Fr.alloc No w (.cells #[.int .i64 xc, .int .i64 xa] 38)))
  have HF : Hid (Fr No w (w.alloc (.cells #[.int .i64 xc, .int .i64 xa] 38))) := Fr.alloc No _ _
  clear h
  go_enter Try.func25, Try.ntmps25
  go_wp2_with fail
  refine (apply_any S hb L size op 1 xc xa _ HS.out (by omega)).mono ?_
  rintro e w1 ⟨r, L', rfl, hA, hT, hf⟩
  have H1 := Lib.hid (And.intro hA (And.intro hT hf))
  clear hA hT hf
  go_wp2_with fail
  go_ret
  exact ⟨r, L', rfl, H1.out.1, H1.out.2.1, (HF.out.no).trans H1.out.2.2⟩

set_option maxHeartbeats 1000000 in
theorem local__any (S : Nat → Prop) (hb : Nat) (L : List D) (size op : Nat) (xc xa : Int) (w : World) (h : TabAt S w hb L size op) :
    Calls Try.prog 26 #[.pointer (some ⟨hb, 0, none⟩), .agg #[.int .i64 xc, .int .i64 xa]] w fun e w' => ∃ r L', e = .returned (.int .i64 r) ∧ Ap 2 L (xc, xa) r L' ∧ TabAt S w' hb L' size op ∧ Fr S w w' := by
  have HS := Lib.hid (h.frNo (Fr.alloc No w (.cells #[.int .i64 xc, .int .i64 xa] 38)))
  have HF : Hid (Fr No w (w.alloc (.cells #[.int .i64 xc, .int .i64 xa] 38))) := Fr.alloc No _ _
  clear h
  go_enter Try.func26, Try.ntmps26
  go_wp2_with fail
  refine (apply_any S hb L size op 2 xc xa _ HS.out (by omega)).mono ?_
  rintro e w1 ⟨r, L', rfl, hA, hT, hf⟩
  have H1 := Lib.hid (And.intro hA (And.intro hT hf))
  clear hA hT hf
  go_wp2_with fail
  go_ret
  exact ⟨r, L', rfl, H1.out.1, H1.out.2.1, (HF.out.no).trans H1.out.2.2⟩

set_option maxHeartbeats 1000000 in
theorem connected_any (S : Nat → Prop) (hb : Nat) (L : List D) (size op : Nat) (xc xa : Int) (w : World) (h : TabAt S w hb L size op) :
    Calls Try.prog 27 #[.pointer (some ⟨hb, 0, none⟩), .agg #[.int .i64 xc, .int .i64 xa]] w fun e w' => ∃ r L', e = .returned (.int .i64 r) ∧ Ap 0 L (xc, xa) r L' ∧ TabAt S w' hb L' size op ∧ Fr S w w' := by
  have HS := Lib.hid (h.frNo (Fr.alloc No w (.cells #[.int .i64 xc, .int .i64 xa] 38)))
  have HF : Hid (Fr No w (w.alloc (.cells #[.int .i64 xc, .int .i64 xa] 38))) := Fr.alloc No _ _
  clear h
  go_enter Try.func27, Try.ntmps27
  go_wp2_with fail
  refine (apply_any S hb L size op 0 xc xa _ HS.out (by omega)).mono ?_
  rintro e w1 ⟨r, L', rfl, hA, hT, hf⟩
  have H1 := Lib.hid (And.intro hA (And.intro hT hf))
  clear hA hT hf
  go_wp2_with fail
  go_ret
  exact ⟨r, L', rfl, H1.out.1, H1.out.2.1, (HF.out.no).trans H1.out.2.2⟩

end Go.Proofs.Ytanhjjinedjaaaa
