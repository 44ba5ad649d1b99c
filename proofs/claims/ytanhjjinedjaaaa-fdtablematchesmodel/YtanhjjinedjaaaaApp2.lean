/-
  CONTRACT of applyBoth, over this seat's translation: both sides answer the same and keep the same entries.
  Conditions: table and reference lie in memory side by side and have the same entries.
-/
import Derived.Test.YtanhjjinedjaaaaApp
namespace Go.Proofs.Ytanhjjinedjaaaa
open Go.ChangeShapes Go.WideShapes Go.ChangeAt Go.RowKit
set_option linter.unusedVariables false

theorem four_cells {w : World} {b : Nat} {x y z u : Value} {t : TypeId} (h : w.heap[b]? = some (.cells #[x, y, z, u] t (0, 0))) : w.cell? ⟨b, 0, none⟩ = some x ∧ w.cell? ⟨b, 1, none⟩ = some y ∧ w.cell? ⟨b, 2, none⟩ = some z ∧ w.cell? ⟨b, 3, none⟩ = some u := by
  refine ⟨?_, ?_, ?_, ?_⟩ <;> rw [cell_of_row _ _ _ _ _ _ h] <;> rfl

/-- The table and the reference have the same entries. -/
structure Pr (w0 w : World) (Z : Nat → Prop) (hb rb : Nat) (L M : List D) (size op : Nat) : Prop where
  duo : Duo w0 w Z (Tab hb L size op) (Ref rb M size op)
  perm : L.Perm M

theorem Pr.frNo {w0 w w' : World} {Z : Nat → Prop} {hb rb : Nat} {L M : List D} {size op : Nat} (h : Pr w0 w Z hb rb L M size op) (hf : Fr No w w') : Pr w0 w' Z hb rb L M size op := ⟨h.duo.frNo hf, h.perm⟩

set_option maxHeartbeats 2000000 in
set_option maxRecDepth 100000 in
theorem applyBoth_any (w0 w : World) (Z : Nat → Prop) (hb rb : Nat) (L M : List D) (size op : Nat) (kd xc xa : Int) (p : Bool) (h : Pr w0 w Z hb rb L M size op) (hop : op ≤ 1000)
    (bk : -9223372036854775808 ≤ kd ∧ kd ≤ 9223372036854775807) (bx : -9223372036854775808 ≤ xc ∧ xc ≤ 9223372036854775807) (by_ : -9223372036854775808 ≤ xa ∧ xa ≤ 9223372036854775807) :
    Calls Try.prog 16 #[.pointer (some ⟨hb, 0, none⟩), .pointer (some ⟨rb, 0, none⟩), .agg #[.int .i64 kd, .int .i64 xc, .int .i64 xa, .bool p]] w fun e w' => e = .returned (.bool true) ∧ ∃ L' M' op', op' ≤ op + 1 ∧ Pr w0 w' Z hb rb L' M' size op' ∧ ∀ k, Z k → w'.heap[k]? = w.heap[k]? := by
  obtain ⟨m, hm, hM⟩ := mod_fix kd 9 9 rfl (by omega) (by omega) bk
  have HM := Lib.hid hM
  have HBX := Lib.hid (And.intro bx by_)
  have HP : Hid (Pr w0 (w.alloc (.cells #[.int .i64 kd, .int .i64 xc, .int .i64 xa, .bool p] 41)) (fun k => Z k ∨ k = w.heap.size) hb rb L M size op) := ⟨h.duo.box _, h.perm⟩
  have HK : Hid (∀ k, Z k → (w.alloc (.cells #[.int .i64 kd, .int .i64 xc, .int .i64 xa, .bool p] 41)).heap[k]? = w.heap[k]?) := fun k hk => (Fr.alloc No w _).block k (h.duo.zlt hk).2 (fun h => h)
  have HB : Hid ((w.alloc (.cells #[.int .i64 kd, .int .i64 xc, .int .i64 xa, .bool p] 41)).heap[w.heap.size]? = some (.cells #[.int .i64 kd, .int .i64 xc, .int .i64 xa, .bool p] 41 (0, 0))) := heap_alloc_new w _
  clear hM bk bx by_ h
  go_enter Try.func16, Try.ntmps16
  go_wp2_with fail
  obtain ⟨ob, hob⟩ : ∃ ob, w.heap.size = ob := ⟨_, rfl⟩
  rw [hob] at HP HB ⊢
  clear hob
  revert HB; revert HK; revert HP
  generalize w.alloc (.cells #[.int .i64 kd, .int .i64 xc, .int .i64 xa, .bool p] 41) = y
  intro HP HK HB
  refine (someEnd_any xc xa _ HBX.out.1 HBX.out.2).mono ?_
  rintro e w1 ⟨c, a, rfl, hf1⟩
  have HP1 : Hid (Pr w0 (w1.alloc (.cells #[.int .i64 c, .int .i64 a] 38)) (fun k => (Z k ∨ k = ob) ∨ k = w1.heap.size) hb rb L M size op) := ⟨(HP.out.frNo hf1).duo.box _, HP.out.perm⟩
  have HK1 : Hid (∀ k, Z k → (w1.alloc (.cells #[.int .i64 c, .int .i64 a] 38)).heap[k]? = w.heap[k]?) := by
    intro k hk
    have hf2 := hf1.trans (Fr.alloc No w1 (.cells #[.int .i64 c, .int .i64 a] 38))
    exact (hf2.block k (HP.out.duo.zlt (.inl hk)).2 (fun h => h)).trans (HK.out k hk)
  have HN : Hid ((w1.alloc (.cells #[.int .i64 c, .int .i64 a] 38)).heap[w1.heap.size]? = some (.cells #[.int .i64 c, .int .i64 a] 38 (0, 0))) := heap_alloc_new w1 _
  have HB1 : Hid ((w1.alloc (.cells #[.int .i64 c, .int .i64 a] 38)).heap[ob]? = some (.cells #[.int .i64 kd, .int .i64 xc, .int .i64 xa, .bool p] 41 (0, 0))) := by
    have hf2 := hf1.trans (Fr.alloc No w1 (.cells #[.int .i64 c, .int .i64 a] 38))
    exact (hf2.block ob (Array.getElem?_eq_some_iff.1 HB.out).1 (fun h => h)).trans HB.out
  obtain ⟨o0, -, -, o3⟩ := four_cells HB1.out
  clear hf1 HP HK HB
  go_wp2_with fail
  clear o0 o3
  obtain ⟨nb, hnb⟩ : ∃ nb, w1.heap.size = nb := ⟨_, rfl⟩
  rw [hnb] at HP1 HN ⊢
  clear hnb
  revert HB1; revert HN; revert HK1; revert HP1
  generalize w1.alloc (.cells #[.int .i64 c, .int .i64 a] 38) = y2
  intro HP1 HK1 HN HB1
  refine (HM.out _).mono ?_
  rintro e w2 ⟨rfl, hw⟩
  have hw' := hw.symm
  subst hw'
  clear hw
  obtain ⟨n0, n1⟩ := pair_cells HN.out
  obtain ⟨-, -, -, o3⟩ := four_cells HB1.out
  by_cases h4 : m < 4
  · have p1 : (m : Int) < 4 := by omega
    go_wp2_with fail
    refine (duo_open HP1.out.duo c a p (by omega)).mono ?_
    rintro e w3 ⟨no, r, L', k1, rfl, hO, hD, hK⟩
    have hn3 := (hK nb (.inr rfl)).trans HN.out
    have hb3 := (hK ob (.inl (.inr rfl))).trans HB1.out
    obtain ⟨n0', n1'⟩ := pair_cells hn3
    obtain ⟨-, -, -, o3'⟩ := four_cells hb3
    have H3 := Lib.hid (And.intro hO (And.intro hD hK))
    clear hO hD hK hn3 hb3 n0 n1 o3
    go_wp2_with fail
    refine (rduo_open H3.out.2.1 c a p (by have h1 := HP1.out.perm.length_eq; have h2 := HP1.out.duo.good.len; omega) (by omega)).mono ?_
    rintro e w4 ⟨no2, r2, M', k2, rfl, hO2, hD2, hK2⟩
    obtain ⟨h1, h2, h3, h5⟩ := Opn.same HP1.out.duo.good.sorted HP1.out.perm H3.out.1 hO2
    subst h1 h2 h5
    have hk1 : k1 ≤ 1 := by
      rcases hO2 with h | h | h | h
      · have := h.2.2.2.2; omega
      · have := h.2.2.2.2.2; omega
      · have := h.2.2.2.2.2.2; omega
      · have := h.2.2.2.2.2.2; omega
    have H4 := Lib.hid (And.intro hk1 (And.intro hD2 (And.intro h3 (fun k (hk : Z k) => ((hK2 k (.inl (.inl hk))).trans (H3.out.2.2 k (.inl (.inl hk)))).trans (HK1.out k hk)))))
    clear hO2 hD2 hK2 h3 H3 hk1 n0' n1' o3'
    go_wp2_with fail
    go_ret
    exact ⟨rfl, L', M', op + k1, by have := H4.out.1; omega, ⟨H4.out.2.1.less fun k hk => .inl (.inl hk), H4.out.2.2.1⟩, H4.out.2.2.2⟩
  · have p1 : ¬ ((m : Int) < 4) := by omega
    by_cases h5 : m = 4
    · have p2 : (m : Int) = 4 := by omega
      clear h5
      go_wp2_with fail
      have HQ : Hid (∀ z : World, (∀ k, (Z k ∨ k = ob) ∨ k = nb → z.heap[k]? = y2.heap[k]?) → z.cell? ⟨nb, 0, none⟩ = some (.int .i64 c) ∧ z.cell? ⟨nb, 1, none⟩ = some (.int .i64 a)) := fun z hz => pair_cells ((hz nb (.inr rfl)).trans HN.out)
      go_region_held3 (fun w' => w'.cell? ⟨nb, 0, none⟩ = some (.int .i64 c) ∧ w'.cell? ⟨nb, 1, none⟩ = some (.int .i64 a)) (go_keep) (first
        | (go_at_call 27; (with_reducible refine (duo_connected (HP1.out.duo.frNo (Fr.drew No _)) c a).mono ?_); rintro e w3 ⟨r, L', rfl, hO, hD, hK⟩; obtain ⟨k0, k1⟩ := HQ.out w3 hK; have H3 := Lib.hid (And.intro hO (And.intro hD hK)); clear hO hD hK)
        | (go_at_call 32; (with_reducible refine (rduo_connected H3.out.2.1 c a).mono ?_); rintro e w4 ⟨r2, M', rfl, hO2, hD2, hK2⟩; obtain ⟨h1, h2⟩ := Ap.same HP1.out.duo.good.sorted HP1.out.perm H3.out.1 hO2; subst h1; have hK3 := (fun k hk => (hK2 k hk).trans (H3.out.2.2 k hk)); obtain ⟨j0, j1⟩ := HQ.out w4 hK3; have H4 := Lib.hid (And.intro hD2 (And.intro h2 hK3)); clear hO2 hD2 hK2 h2 hK3)
        | (go_at_call 32; (with_reducible refine (rduo_connected (HP1.out.duo.frNo (Fr.drew No _)) c a).mono ?_); rintro e w3 ⟨r2, M', rfl, hO2, hD2, hK2⟩; obtain ⟨k0, k1⟩ := HQ.out w3 hK2; have H5 := Lib.hid (And.intro hO2 (And.intro hD2 hK2)); clear hO2 hD2 hK2)
        | (go_at_call 27; (with_reducible refine (duo_connected H5.out.2.1 c a).mono ?_); rintro e w4 ⟨r, L', rfl, hO, hD, hK⟩; obtain ⟨h1, h2⟩ := Ap.same HP1.out.duo.good.sorted HP1.out.perm hO H5.out.1; subst h1; have hK3 := (fun k hk => (hK k hk).trans (H5.out.2.2 k hk)); obtain ⟨j0, j1⟩ := HQ.out w4 hK3; have H4 := Lib.hid (And.intro hD (And.intro h2 hK3)); clear hO hD hK h2 hK3))
      all_goals (
        go_wp2_with fail
        go_ret
        exact ⟨rfl, L', M', op, by omega, ⟨H4.out.1.less fun k hk => .inl (.inl hk), H4.out.2.1⟩, fun k hk => (H4.out.2.2 k (.inl (.inl hk))).trans (HK1.out k hk)⟩)
    · have p2 : ¬ ((m : Int) = 4) := by omega
      by_cases h6 : m = 5
      · have p3 : (m : Int) = 5 := by omega
        clear h6
        go_wp2_with fail
        have HQ : Hid (∀ z : World, (∀ k, (Z k ∨ k = ob) ∨ k = nb → z.heap[k]? = y2.heap[k]?) → z.cell? ⟨nb, 0, none⟩ = some (.int .i64 c) ∧ z.cell? ⟨nb, 1, none⟩ = some (.int .i64 a)) := fun z hz => pair_cells ((hz nb (.inr rfl)).trans HN.out)
        go_region_held3 (fun w' => w'.cell? ⟨nb, 0, none⟩ = some (.int .i64 c) ∧ w'.cell? ⟨nb, 1, none⟩ = some (.int .i64 a)) (go_keep) (first
          | (go_at_call 25; (with_reducible refine (duo_remote (HP1.out.duo.frNo (Fr.drew No _)) c a).mono ?_); rintro e w3 ⟨r, L', rfl, hO, hD, hK⟩; obtain ⟨k0, k1⟩ := HQ.out w3 hK; have H3 := Lib.hid (And.intro hO (And.intro hD hK)); clear hO hD hK)
          | (go_at_call 33; (with_reducible refine (rduo_remote H3.out.2.1 c a).mono ?_); rintro e w4 ⟨r2, M', rfl, hO2, hD2, hK2⟩; obtain ⟨h1, h2⟩ := Ap.same HP1.out.duo.good.sorted HP1.out.perm H3.out.1 hO2; subst h1; have hK3 := (fun k hk => (hK2 k hk).trans (H3.out.2.2 k hk)); obtain ⟨j0, j1⟩ := HQ.out w4 hK3; have H4 := Lib.hid (And.intro hD2 (And.intro h2 hK3)); clear hO2 hD2 hK2 h2 hK3)
          | (go_at_call 33; (with_reducible refine (rduo_remote (HP1.out.duo.frNo (Fr.drew No _)) c a).mono ?_); rintro e w3 ⟨r2, M', rfl, hO2, hD2, hK2⟩; obtain ⟨k0, k1⟩ := HQ.out w3 hK2; have H5 := Lib.hid (And.intro hO2 (And.intro hD2 hK2)); clear hO2 hD2 hK2)
          | (go_at_call 25; (with_reducible refine (duo_remote H5.out.2.1 c a).mono ?_); rintro e w4 ⟨r, L', rfl, hO, hD, hK⟩; obtain ⟨h1, h2⟩ := Ap.same HP1.out.duo.good.sorted HP1.out.perm hO H5.out.1; subst h1; have hK3 := (fun k hk => (hK k hk).trans (H5.out.2.2 k hk)); obtain ⟨j0, j1⟩ := HQ.out w4 hK3; have H4 := Lib.hid (And.intro hD (And.intro h2 hK3)); clear hO hD hK h2 hK3))
        all_goals (
          go_wp2_with fail
          go_ret
          exact ⟨rfl, L', M', op, by omega, ⟨H4.out.1.less fun k hk => .inl (.inl hk), H4.out.2.1⟩, fun k hk => (H4.out.2.2 k (.inl (.inl hk))).trans (HK1.out k hk)⟩)
      · have p3 : ¬ ((m : Int) = 5) := by omega
        by_cases h7 : m = 6
        · have p4 : (m : Int) = 6 := by omega
          clear h7
          go_wp2_with fail
          have HQ : Hid (∀ z : World, (∀ k, (Z k ∨ k = ob) ∨ k = nb → z.heap[k]? = y2.heap[k]?) → z.cell? ⟨nb, 0, none⟩ = some (.int .i64 c) ∧ z.cell? ⟨nb, 1, none⟩ = some (.int .i64 a)) := fun z hz => pair_cells ((hz nb (.inr rfl)).trans HN.out)
          go_region_held3 (fun w' => w'.cell? ⟨nb, 0, none⟩ = some (.int .i64 c) ∧ w'.cell? ⟨nb, 1, none⟩ = some (.int .i64 a)) (go_keep) (first
            | (go_at_call 26; (with_reducible refine (duo_local_ (HP1.out.duo.frNo (Fr.drew No _)) c a).mono ?_); rintro e w3 ⟨r, L', rfl, hO, hD, hK⟩; obtain ⟨k0, k1⟩ := HQ.out w3 hK; have H3 := Lib.hid (And.intro hO (And.intro hD hK)); clear hO hD hK)
            | (go_at_call 34; (with_reducible refine (rduo_local_ H3.out.2.1 c a).mono ?_); rintro e w4 ⟨r2, M', rfl, hO2, hD2, hK2⟩; obtain ⟨h1, h2⟩ := Ap.same HP1.out.duo.good.sorted HP1.out.perm H3.out.1 hO2; subst h1; have hK3 := (fun k hk => (hK2 k hk).trans (H3.out.2.2 k hk)); obtain ⟨j0, j1⟩ := HQ.out w4 hK3; have H4 := Lib.hid (And.intro hD2 (And.intro h2 hK3)); clear hO2 hD2 hK2 h2 hK3)
            | (go_at_call 34; (with_reducible refine (rduo_local_ (HP1.out.duo.frNo (Fr.drew No _)) c a).mono ?_); rintro e w3 ⟨r2, M', rfl, hO2, hD2, hK2⟩; obtain ⟨k0, k1⟩ := HQ.out w3 hK2; have H5 := Lib.hid (And.intro hO2 (And.intro hD2 hK2)); clear hO2 hD2 hK2)
            | (go_at_call 26; (with_reducible refine (duo_local_ H5.out.2.1 c a).mono ?_); rintro e w4 ⟨r, L', rfl, hO, hD, hK⟩; obtain ⟨h1, h2⟩ := Ap.same HP1.out.duo.good.sorted HP1.out.perm hO H5.out.1; subst h1; have hK3 := (fun k hk => (hK k hk).trans (H5.out.2.2 k hk)); obtain ⟨j0, j1⟩ := HQ.out w4 hK3; have H4 := Lib.hid (And.intro hD (And.intro h2 hK3)); clear hO hD hK h2 hK3))
          all_goals (
            go_wp2_with fail
            go_ret
            exact ⟨rfl, L', M', op, by omega, ⟨H4.out.1.less fun k hk => .inl (.inl hk), H4.out.2.1⟩, fun k hk => (H4.out.2.2 k (.inl (.inl hk))).trans (HK1.out k hk)⟩)
        · have p4 : ¬ ((m : Int) = 6) := by omega
          go_wp2_with fail
          have HQ : Hid (∀ z : World, (∀ k, (Z k ∨ k = ob) ∨ k = nb → z.heap[k]? = y2.heap[k]?) → z.cell? ⟨nb, 0, none⟩ = some (.int .i64 c) ∧ z.cell? ⟨nb, 1, none⟩ = some (.int .i64 a)) := fun z hz => pair_cells ((hz nb (.inr rfl)).trans HN.out)
          go_region_held3 (fun w' => w'.cell? ⟨nb, 0, none⟩ = some (.int .i64 c) ∧ w'.cell? ⟨nb, 1, none⟩ = some (.int .i64 a)) (go_keep) (first
            | (go_at_call 29; (with_reducible refine (duo_close (HP1.out.duo.frNo (Fr.drew No _)) c a).mono ?_); rintro e w3 ⟨r, L', rfl, hO, hD, hK⟩; obtain ⟨k0, k1⟩ := HQ.out w3 hK; have H3 := Lib.hid (And.intro hO (And.intro hD hK)); clear hO hD hK)
            | (go_at_call 35; (with_reducible refine (rduo_close H3.out.2.1 c a).mono ?_); rintro e w4 ⟨r2, M', rfl, hO2, hD2, hK2⟩; obtain ⟨h1, h2⟩ := Cl.same HP1.out.duo.good.sorted HP1.out.perm H3.out.1 hO2; subst h1; have hK3 := (fun k hk => (hK2 k hk).trans (H3.out.2.2 k hk)); obtain ⟨j0, j1⟩ := HQ.out w4 hK3; have H4 := Lib.hid (And.intro hD2 (And.intro h2 hK3)); clear hO2 hD2 hK2 h2 hK3)
            | (go_at_call 35; (with_reducible refine (rduo_close (HP1.out.duo.frNo (Fr.drew No _)) c a).mono ?_); rintro e w3 ⟨r2, M', rfl, hO2, hD2, hK2⟩; obtain ⟨k0, k1⟩ := HQ.out w3 hK2; have H5 := Lib.hid (And.intro hO2 (And.intro hD2 hK2)); clear hO2 hD2 hK2)
            | (go_at_call 29; (with_reducible refine (duo_close H5.out.2.1 c a).mono ?_); rintro e w4 ⟨r, L', rfl, hO, hD, hK⟩; obtain ⟨h1, h2⟩ := Cl.same HP1.out.duo.good.sorted HP1.out.perm hO H5.out.1; subst h1; have hK3 := (fun k hk => (hK k hk).trans (H5.out.2.2 k hk)); obtain ⟨j0, j1⟩ := HQ.out w4 hK3; have H4 := Lib.hid (And.intro hD (And.intro h2 hK3)); clear hO hD hK h2 hK3))
          all_goals (
            go_wp2_with fail
            go_ret
            exact ⟨rfl, L', M', op, by omega, ⟨H4.out.1.less fun k hk => .inl (.inl hk), H4.out.2.1⟩, fun k hk => (H4.out.2.2 k (.inl (.inl hk))).trans (HK1.out k hk)⟩)

end Go.Proofs.Ytanhjjinedjaaaa
