/-
  CONTRACT of awake, over this seat's translation: it returns true.
  Conditions: none.
-/
import Derived.Test.YtanhjjinedjaaaaDuo
namespace Go.Proofs.Ytanhjjinedjaaaa
open Go.ChangeShapes Go.WideShapes Go.ChangeAt Go.RowKit
set_option linter.unusedVariables false

theorem Duo.good {w0 w : World} {Z : Nat → Prop} {hb size op : Nat} {L : List D} {B : (Nat → Prop) → World → Prop} (h : Duo w0 w Z (Tab hb L size op) B) : Sound L size := by
  obtain ⟨S, hA⟩ := h.atA
  exact TabAt.good hA

section
variable {w0 w : World} {Z : Nat → Prop} {hb size op : Nat} {L : List D} {B : (Nat → Prop) → World → Prop}

theorem duo_open (h : Duo w0 w Z (Tab hb L size op) B) (xc xa : Int) (p : Bool) (hop : op ≤ 100000) :
    Calls Try.prog 24 #[.pointer (some ⟨hb, 0, none⟩), .agg #[.int .i64 xc, .int .i64 xa], .bool p] w fun e w' => ∃ no r L' k, e = .returned (.tuple #[.int .i64 (no : Nat), .int .i64 r]) ∧ Opn L (xc, xa) (stOf p) size no r L' k ∧ Duo w0 w' Z (Tab hb L' size (op + k)) B ∧ ∀ k, Z k → w'.heap[k]? = w.heap[k]? := by
  obtain ⟨S, hA, hS, hZ, hT⟩ := h.a
  refine (open_any S hb L size op xc xa p w hA hS hop).mono ?_
  rintro e w' ⟨no, r, L', k, rfl, hO, hA', hf⟩
  obtain ⟨h1, h2⟩ := hT w' (Tab hb L' size (op + k)) (tab_mov _ _ _ _) hA' hf
  exact ⟨no, r, L', k, rfl, hO, h1, h2⟩

theorem duo_close (h : Duo w0 w Z (Tab hb L size op) B) (xc xa : Int) :
    Calls Try.prog 29 #[.pointer (some ⟨hb, 0, none⟩), .agg #[.int .i64 xc, .int .i64 xa]] w fun e w' => ∃ r L', e = .returned (.int .i64 r) ∧ Cl L (xc, xa) r L' ∧ Duo w0 w' Z (Tab hb L' size op) B ∧ ∀ k, Z k → w'.heap[k]? = w.heap[k]? := by
  obtain ⟨S, hA, hS, hZ, hT⟩ := h.a
  refine (close_any S hb L size op xc xa w hA).mono ?_
  rintro e w' ⟨r, L', rfl, hO, hA', hf⟩
  obtain ⟨h1, h2⟩ := hT w' (Tab hb L' size op) (tab_mov _ _ _ _) hA' hf
  exact ⟨r, L', rfl, hO, h1, h2⟩

theorem duo_remote (h : Duo w0 w Z (Tab hb L size op) B) (xc xa : Int) :
    Calls Try.prog 25 #[.pointer (some ⟨hb, 0, none⟩), .agg #[.int .i64 xc, .int .i64 xa]] w fun e w' => ∃ r L', e = .returned (.int .i64 r) ∧ Ap 1 L (xc, xa) r L' ∧ Duo w0 w' Z (Tab hb L' size op) B ∧ ∀ k, Z k → w'.heap[k]? = w.heap[k]? := by
  obtain ⟨S, hA, hS, hZ, hT⟩ := h.a
  refine (remote_any S hb L size op xc xa w hA).mono ?_
  rintro e w' ⟨r, L', rfl, hO, hA', hf⟩
  obtain ⟨h1, h2⟩ := hT w' (Tab hb L' size op) (tab_mov _ _ _ _) hA' hf
  exact ⟨r, L', rfl, hO, h1, h2⟩

theorem duo_local_ (h : Duo w0 w Z (Tab hb L size op) B) (xc xa : Int) :
    Calls Try.prog 26 #[.pointer (some ⟨hb, 0, none⟩), .agg #[.int .i64 xc, .int .i64 xa]] w fun e w' => ∃ r L', e = .returned (.int .i64 r) ∧ Ap 2 L (xc, xa) r L' ∧ Duo w0 w' Z (Tab hb L' size op) B ∧ ∀ k, Z k → w'.heap[k]? = w.heap[k]? := by
  obtain ⟨S, hA, hS, hZ, hT⟩ := h.a
  refine (local__any S hb L size op xc xa w hA).mono ?_
  rintro e w' ⟨r, L', rfl, hO, hA', hf⟩
  obtain ⟨h1, h2⟩ := hT w' (Tab hb L' size op) (tab_mov _ _ _ _) hA' hf
  exact ⟨r, L', rfl, hO, h1, h2⟩

theorem duo_connected (h : Duo w0 w Z (Tab hb L size op) B) (xc xa : Int) :
    Calls Try.prog 27 #[.pointer (some ⟨hb, 0, none⟩), .agg #[.int .i64 xc, .int .i64 xa]] w fun e w' => ∃ r L', e = .returned (.int .i64 r) ∧ Ap 0 L (xc, xa) r L' ∧ Duo w0 w' Z (Tab hb L' size op) B ∧ ∀ k, Z k → w'.heap[k]? = w.heap[k]? := by
  obtain ⟨S, hA, hS, hZ, hT⟩ := h.a
  refine (connected_any S hb L size op xc xa w hA).mono ?_
  rintro e w' ⟨r, L', rfl, hO, hA', hf⟩
  obtain ⟨h1, h2⟩ := hT w' (Tab hb L' size op) (tab_mov _ _ _ _) hA' hf
  exact ⟨r, L', rfl, hO, h1, h2⟩

theorem duo_state (h : Duo w0 w Z (Tab hb L size op) B) (xc xa : Int) :
    Calls Try.prog 22 #[.pointer (some ⟨hb, 0, none⟩), .agg #[.int .i64 xc, .int .i64 xa]] w fun e w' => ∃ v, e = .returned (.int .i64 v) ∧ Ask D.st 0 L (xc, xa) v ∧ Fr No w w' := by
  obtain ⟨S, hA⟩ := h.atA
  exact state_any S hb L size op xc xa w hA
theorem duo_number (h : Duo w0 w Z (Tab hb L size op) B) (xc xa : Int) :
    Calls Try.prog 23 #[.pointer (some ⟨hb, 0, none⟩), .agg #[.int .i64 xc, .int .i64 xa]] w fun e w' => ∃ v, e = .returned (.int .i64 v) ∧ Ask (fun d => (d.no : Int)) (-1) L (xc, xa) v ∧ Fr No w w' := by
  obtain ⟨S, hA⟩ := h.atA
  exact number_any S hb L size op xc xa w hA
theorem duo_len (h : Duo w0 w Z (Tab hb L size op) B) (n : Nat) (hn : L.length = n) : Calls Try.prog 11 #[.pointer (some ⟨hb, 0, none⟩)] w fun e w' => e = .returned (.int .i64 (n : Nat)) ∧ w' = w := by
  obtain ⟨S, hA⟩ := h.atA
  exact len_any S hb L size op n w hA hn
theorem duo_total (h : Duo w0 w Z (Tab hb L size op) B) : Calls Try.prog 12 #[.pointer (some ⟨hb, 0, none⟩)] w fun e w' => e = .returned (.int .i64 (op : Nat)) ∧ w' = w := by
  obtain ⟨S, hA⟩ := h.atA
  exact total_any S hb L size op w hA
theorem duo_free (h : Duo w0 w Z (Tab hb L size op) B) (n m : Nat) (hn : L.length = n) (hm : size - n = m) : Calls Try.prog 10 #[.pointer (some ⟨hb, 0, none⟩)] w fun e w' => e = .returned (.int .i64 (m : Nat)) ∧ Fr No w w' := by
  obtain ⟨S, hA⟩ := h.atA
  exact free_any S hb L size op n m w hA hn hm
theorem duo_ends (h : Duo w0 w Z (Tab hb L size op) B) : Calls Try.prog 13 #[.pointer (some ⟨hb, 0, none⟩)] w fun e w' => ∃ a n cap, e = .returned (.slice a n cap) ∧ Ends w' w.heap.size a n cap (L.map D.key) ∧ Fr No w w' := by
  obtain ⟨S, hA⟩ := h.atA
  exact endpoints_any S hb L size op w hA
theorem duo_ofConn (h : Duo w0 w Z (Tab hb L size op) B) (x : Int) : Calls Try.prog 19 #[.pointer (some ⟨hb, 0, none⟩), .int .i64 x] w fun e w' => ∃ a n cap, e = .returned (.slice a n cap) ∧ Ends w' w.heap.size a n cap (ofConn x (L.map D.key)) ∧ Fr No w w' := by
  obtain ⟨S, hA⟩ := h.atA
  exact ofConn_any S hb L size op x w hA
end

theorem pair_cells {w : World} {b : Nat} {x y : Value} {t : TypeId} (h : w.heap[b]? = some (.cells #[x, y] t (0, 0))) : w.cell? ⟨b, 0, none⟩ = some x ∧ w.cell? ⟨b, 1, none⟩ = some y := by
  refine ⟨?_, ?_⟩ <;> rw [cell_of_row _ _ _ _ _ _ h] <;> rfl

/-- Two boxes of the law stay as they are. -/
structure Bx (w : World) (ab bb : Nat) (a0 a1 b0 b1 : Int) : Prop where
  a : w.heap[ab]? = some (.cells #[.int .i64 a0, .int .i64 a1] 38 (0, 0))
  b : w.heap[bb]? = some (.cells #[.int .i64 b0, .int .i64 b1] 38 (0, 0))

theorem Bx.keep {w w' : World} {ab bb : Nat} {a0 a1 b0 b1 : Int} (h : Bx w ab bb a0 a1 b0 b1) (hk : ∀ k, k = ab ∨ k = bb → w'.heap[k]? = w.heap[k]?) : Bx w' ab bb a0 a1 b0 b1 :=
  ⟨(hk ab (.inl rfl)).trans h.a, (hk bb (.inr rfl)).trans h.b⟩
theorem Bx.frNo {w w' : World} {ab bb : Nat} {a0 a1 b0 b1 : Int} (h : Bx w ab bb a0 a1 b0 b1) (hf : Fr No w w') : Bx w' ab bb a0 a1 b0 b1 :=
  ⟨(hf.block ab (Array.getElem?_eq_some_iff.1 h.a).1 (fun h => h)).trans h.a, (hf.block bb (Array.getElem?_eq_some_iff.1 h.b).1 (fun h => h)).trans h.b⟩

set_option maxHeartbeats 2000000 in
set_option maxRecDepth 100000 in
theorem awake_any (w : World) : Calls Try.prog 9 #[] w fun e w' => e = .returned (.bool true) ∧ Fr No w w' := by
  go_enter Try.func9, Try.ntmps9
  go_wp2_with fail
  refine (new_ok (fun k => w.heap.size ≤ k) 2 _ (by omega) (by omega) (fun k hk => hk)).mono ?_
  rintro e w1 ⟨hb, rfl, hA1, hf1⟩
  have H1 : Hid (Duo w w1 No (Tab hb [] 2 0) Nil) := (duo_born (tab_mov hb [] 2 0) hA1 (fun k hk => hk) hf1 (Fr.refl _ _)).less fun k hk => hk.elim
  clear hA1 hf1
  go_wp2_with fail
  refine (new_bad 0 _ (by omega)).mono ?_
  rintro e w2 ⟨rfl, hw⟩
  have hw' := hw.symm
  subst hw'
  clear hw
  have H2 : Hid (Duo w ((w1.alloc (.cells #[.int .i64 7, .int .i64 0] 38)).alloc (.cells #[.int .i64 7, .int .i64 1] 38)) (fun k => k = w1.heap.size ∨ k = w1.heap.size + 1) (Tab hb [] 2 0) Nil ∧ Bx ((w1.alloc (.cells #[.int .i64 7, .int .i64 0] 38)).alloc (.cells #[.int .i64 7, .int .i64 1] 38)) w1.heap.size (w1.heap.size + 1) 7 0 7 1) := by
    refine ⟨((H1.out.box _).box _).less fun k hk => ?_, ?_, ?_⟩
    · rcases hk with rfl | rfl
      · exact .inl (.inr rfl)
      · exact .inr (by simp)
    · exact ((Fr.alloc No (w1.alloc (.cells #[.int .i64 7, .int .i64 0] 38)) _).block w1.heap.size (by simp) (fun h => h)).trans (heap_alloc_new w1 _)
    · have := heap_alloc_new (w1.alloc (.cells #[.int .i64 7, .int .i64 0] 38)) (.cells #[.int .i64 7, .int .i64 1] 38)
      simpa using this
  clear H1
  go_wp2_with fail
  obtain ⟨ab, hab⟩ : ∃ ab, w1.heap.size = ab := ⟨_, rfl⟩
  rw [hab] at H2 ⊢
  clear hab
  revert H2
  generalize (w1.alloc (.cells #[.int .i64 7, .int .i64 0] 38)).alloc (.cells #[.int .i64 7, .int .i64 1] 38) = w3
  intro H2
  refine (duo_open H2.out.1 7 0 false (by omega)).mono ?_
  rintro e w4 ⟨no, r, L4, k4, rfl, hO, hD, hK⟩
  obtain ⟨rfl, rfl, rfl, rfl⟩ := hO.first (by decide) (by omega)
  have hB4 := H2.out.2.keep hK
  obtain ⟨b0, b1⟩ := pair_cells hB4.b
  have H4 := Lib.hid (And.intro hD hB4)
  clear hO hD hK H2 hB4
  go_wp2_with fail
  refine (duo_open H4.out.1 7 1 true (by omega)).mono ?_
  rintro e w5 ⟨no, r, L5, k5, rfl, hO, hD, hK⟩
  have hO' := hO.good (by decide) (by intro d hd; simp at hd; subst hd; decide) (by simp)
  obtain ⟨rfl, hl5, hp5, rfl⟩ := hO'
  obtain rfl : no = 1 := by
    have h0 := hl5.1 _ (List.mem_singleton.2 rfl)
    have h1 : ¬ (1 < no) := fun h => by
      obtain ⟨d, hd, he⟩ := hl5.2 1 h
      simp at hd; subst hd; cases he
    simp at h0
    omega
  have hB5 := H4.out.2.keep hK
  obtain ⟨a0, a1⟩ := pair_cells hB5.a
  obtain ⟨b0', b1'⟩ := pair_cells hB5.b
  have H5 := Lib.hid (And.intro hD (And.intro hB5 hp5))
  clear hO hD hK H4 hB5 hl5 hp5 b0 b1 a0 a1
  go_wp2_with fail
  refine (duo_state H5.out.1 7 1).mono ?_
  rintro e w6 ⟨v, rfl, hv, hf⟩
  obtain rfl : v = 1 := hv.mem H5.out.1.good.sorted (H5.out.2.2.mem_iff.2 (List.mem_cons_self ..)) rfl
  have hB6 := H5.out.2.1.frNo hf
  obtain ⟨a0, a1⟩ := pair_cells hB6.a
  have H6 := Lib.hid (And.intro (H5.out.1.frNo hf) (And.intro hB6 H5.out.2.2))
  clear hv hf H5 hB6 b0' b1'
  go_wp2_with fail
  refine (duo_close H6.out.1 7 0).mono ?_
  rintro e w7 ⟨r, L7, rfl, hC, hD, hK⟩
  have hC' : r = 0 ∧ L7 = [⟨7, 1, 1, 1⟩] := by
    have h1 : Cl [⟨7, 0, 0, 2⟩, ⟨7, 1, 1, 1⟩] (7, 0) 0 [⟨7, 1, 1, 1⟩] := .inr ⟨⟨7, 0, 0, 2⟩, List.Perm.refl _, rfl, rfl⟩
    obtain ⟨h2, h3⟩ := hC.same H6.out.1.good.sorted (H6.out.2.2.trans (List.Perm.swap ..)) h1
    exact ⟨h2, List.perm_singleton.1 h3⟩
  obtain ⟨rfl, rfl⟩ := hC'
  have hB7 := H6.out.2.1.keep hK
  have H7 := Lib.hid (And.intro hD hB7)
  clear hC hD hK H6 hB7 a0 a1
  go_wp2_with fail
  refine (duo_open H7.out.1 9 0 false (by omega)).mono ?_
  rintro e w8 ⟨no, r, L8, k8, rfl, hO, hD, hK⟩
  have hO' := hO.good (by decide) (by intro d hd; simp at hd; subst hd; decide) (by simp)
  obtain ⟨rfl, hl8, hp8, rfl⟩ := hO'
  obtain rfl : no = 0 := by
    rcases Nat.eq_zero_or_pos no with h0 | h0
    · exact h0
    · obtain ⟨d, hd, he⟩ := hl8.2 0 h0
      simp at hd; subst hd; cases he
  have H8 := Lib.hid (And.intro hD (And.intro (H7.out.2.keep hK) hp8))
  clear hO hD hK H7 hl8 hp8
  go_wp2_with fail
  refine (duo_len H8.out.1 2 (by rw [H8.out.2.2.length_eq]; rfl)).mono ?_
  rintro e w9 ⟨rfl, hw⟩
  have hw' := hw.symm
  subst hw'
  clear hw
  go_wp2_with fail
  refine (duo_free H8.out.1 2 0 (by rw [H8.out.2.2.length_eq]; rfl) rfl).mono ?_
  rintro e w10 ⟨rfl, hf⟩
  have H10 := Lib.hid (And.intro (H8.out.1.frNo hf) (And.intro (H8.out.2.1.frNo hf) H8.out.2.2))
  clear hf H8
  go_wp2_with fail
  refine (duo_total H10.out.1).mono ?_
  rintro e w11 ⟨rfl, hw⟩
  have hw' := hw.symm
  subst hw'
  clear hw
  obtain ⟨a0, a1⟩ := pair_cells H10.out.2.1.a
  go_wp2_with fail
  refine (duo_number H10.out.1 7 0).mono ?_
  rintro e w12 ⟨v, rfl, hv, hf⟩
  obtain rfl : v = -1 := hv.none (fun d hd => by
    have := H10.out.2.2.mem_iff.1 hd
    simp at this
    rcases this with rfl | rfl <;> decide)
  have hB12 := H10.out.2.1.frNo hf
  obtain ⟨b0, b1⟩ := pair_cells hB12.b
  have H12 := Lib.hid (And.intro (H10.out.1.frNo hf) (And.intro hB12 H10.out.2.2))
  clear hf H10 hv hB12 a0 a1
  go_wp2_with fail
  refine (duo_number H12.out.1 7 1).mono ?_
  rintro e w13 ⟨v, rfl, hv, hf⟩
  have hv1 := hv.mem (d := ⟨7, 1, 1, 1⟩) H12.out.1.good.sorted (H12.out.2.2.mem_iff.2 (List.mem_cons_of_mem _ (List.mem_singleton.2 rfl))) rfl
  obtain rfl : v = 1 := hv1
  have H13 := Lib.hid (H12.out.1.frNo hf)
  clear hf H12 hv b0 b1
  go_wp2_with fail
  go_ret
  exact ⟨rfl, fr_base H13.out.fr⟩

end Go.Proofs.Ytanhjjinedjaaaa
