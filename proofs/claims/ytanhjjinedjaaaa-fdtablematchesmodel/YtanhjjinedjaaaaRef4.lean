/-
  CONTRACT of Open of the reference table, over this seat's translation.
  Conditions: the reference table lies in memory as RefAt says.
-/
import Derived.Test.YtanhjjinedjaaaaRef2
import Derived.Deep.DeepCutAuto
import Derived.Deep.CutBlock
namespace Go.Proofs.Ytanhjjinedjaaaa
open Go.ChangeShapes Go.WideShapes Go.ChangeAt Go.RowKit
set_option linter.unusedVariables false

def One47 (w : World) (vb : Nat) (d : D) : Prop := w.heap[vb]? = some (.cells (ints d.enc).toArray 47 (0, 0))

theorem cells47 {w : World} {b : Nat} {c a st : Int} {r : Nat} (h : One47 w b ⟨c, a, r, st⟩) : w.cell? ⟨b, 0, none⟩ = some (.int .i64 c) ∧ w.cell? ⟨b, 1, none⟩ = some (.int .i64 a) ∧ w.cell? ⟨b, 2, none⟩ = some (.int .i64 r) ∧ w.cell? ⟨b, 3, none⟩ = some (.int .i64 st) ∧ w.frozen? ⟨b, 3, none⟩ = false := by
  refine ⟨?_, ?_, ?_, ?_, frozen_of_row _ _ _ _ _ h⟩ <;> rw [cell_of_row _ _ _ _ _ _ h] <;> rfl

theorem behind47 {z w6 : World} {rb n cap k tot : Nat} {a : Option Addr} {M : List D} (hraw : RefRaw z rb (.slice a n cap) M k tot) (hf : Fr (fun q => (Value.slice a n cap).ownBlock = some q) z w6) :
    w6.cell? ⟨rb, 1, none⟩ = some (.slice a n cap) ∧ w6.cell? ⟨rb, 2, none⟩ = some (.int .i64 tot) ∧ w6.frozen? ⟨rb, 1, none⟩ = false ∧ w6.frozen? ⟨rb, 2, none⟩ = false := by
  have h1 := (hf.block rb hraw.lt hraw.apart).trans hraw.hdr
  refine ⟨?_, ?_, frozen_of_row _ _ _ _ _ h1, frozen_of_row _ _ _ _ _ h1⟩ <;> rw [cell_of_row _ _ _ _ _ _ h1] <;> rfl

set_option maxHeartbeats 2000000 in
set_option maxRecDepth 100000 in
theorem open_ref (S : Nat → Prop) (rb : Nat) (M : List D) (k tot : Nat) (xc xa : Int) (p : Bool) (w : World) (h : RefAt S w rb M k tot) (hnew : ∀ j, w.heap.size ≤ j → S j) (hlen : M.length ≤ k) (htot : tot ≤ 100000) :
    Calls Try.prog 31 #[.pointer (some ⟨rb, 0, none⟩), .agg #[.int .i64 xc, .int .i64 xa], .bool p] w fun e w' => ∃ no r M' q, e = .returned (.tuple #[.int .i64 (no : Nat), .int .i64 r]) ∧ Opn M (xc, xa) (stOf p) k no r M' q ∧ RefAt S w' rb M' k (tot + q) ∧ Fr S w w' := by
  have HS := Lib.hid (And.intro (h.frNo (Fr.alloc No w (.cells #[.int .i64 xc, .int .i64 xa] 38))) hnew)
  have HX : Hid ((w.alloc (.cells #[.int .i64 xc, .int .i64 xa] 38)).heap[w.heap.size]? = some (.cells #[.int .i64 xc, .int .i64 xa] 38 (0, 0))) := heap_alloc_new w _
  have HF : Hid (Fr No w (w.alloc (.cells #[.int .i64 xc, .int .i64 xa] 38))) := Fr.alloc No _ _
  clear h hnew
  go_enter Try.func31, Try.ntmps31
  go_wp2_with fail
  obtain ⟨xb, hxb⟩ : ∃ xb, w.heap.size = xb := ⟨_, rfl⟩
  rw [hxb] at HX HS ⊢
  have HXB := Lib.hid hxb
  clear hxb
  revert HX; revert HF; revert HS
  generalize w.alloc (.cells #[.int .i64 xc, .int .i64 xa] 38) = y
  intro HS HF HX
  by_cases hv : Valid (xc, xa)
  · have HV := Lib.hid hv
    clear hv
    refine (refValid_yes xc xa _ HV.out).mono ?_
    rintro e w1 ⟨rfl, hf1⟩
    have hx1 := (hf1.block xb (Array.getElem?_eq_some_iff.1 HX.out).1 (fun h => h)).trans HX.out
    have x0 : w1.cell? ⟨xb, 0, none⟩ = some (.int .i64 xc) := by rw [cell_of_row _ xb _ _ _ _ hx1]; rfl
    have x1 : w1.cell? ⟨xb, 1, none⟩ = some (.int .i64 xa) := by rw [cell_of_row _ xb _ _ _ _ hx1]; rfl
    have H1 := Lib.hid (And.intro hx1 (And.intro (HF.out.trans hf1) (HS.out.1.frNo hf1)))
    clear hx1 hf1 HF HX
    go_wp2_with fail
    obtain ⟨⟨sv, hr, hO⟩, h256, hk⟩ := H1.out.2.2
    refine (find_any rb sv M k tot xc xa _ hr h256).mono ?_
    rintro e w2 ⟨v, rfl, hv, hf2⟩
    have hx2 := (hf2.block xb (Array.getElem?_eq_some_iff.1 H1.out.1).1 (fun h => h)).trans H1.out.1
    have hr2 := hr.frNo hf2
    have HP := Lib.hid (And.intro hO (And.intro h256 hk))
    have H2 := Lib.hid (And.intro hx2 (And.intro (H1.out.2.1.trans hf2) hr2))
    clear hO hr hf2 H1 x0 x1
    rcases hv with ⟨hno, rfl⟩ | ⟨i, d, rfl, hd, hkey⟩
    · have HN := Lib.hid hno
      obtain ⟨a, cap, rfl, -, -⟩ := hr2.row.any
      obtain ⟨c0, c1, c2⟩ := hr2.hcell
      obtain ⟨n, hn⟩ : ∃ n, M.length = n := ⟨_, rfl⟩
      rw [hn] at c1 H2 h256 hlen HP
      have HL := Lib.hid hn
      by_cases hfull : k ≤ n
      · have hfull' : (k : Int) ≤ (n : Int) := by omega
        clear hx2 hr2 hn hno
        go_wp2_with fail
        go_quiet (fail)
        go_wp2_with fail
        go_ret2
        exact ⟨0, 6, M, 0, rfl, .inr (.inr (.inl ⟨HV.out, HN.out, by have := HL.out; omega, rfl, rfl, rfl, rfl⟩)), ⟨⟨_, H2.out.2.2.frNo (Fr.drewN _ _ _), HP.out.1⟩, by rw [HL.out]; exact HP.out.2.1, HP.out.2.2⟩, (H2.out.2.1.trans (Fr.drewN _ _ _)).no⟩
      · have hfull' : ¬ ((k : Int) ≤ (n : Int)) := by omega
        clear hx2 hr2 hn hno
        go_wp2_with fail
        go_quiet (fail)
        go_wp2_with fail
        generalize hy : w2.drewN _ = y2
        have HY : Hid (y2.heap[xb]? = some (.cells #[.int .i64 xc, .int .i64 xa] 38 (0, 0)) ∧ Fr No w y2 ∧ RefRaw y2 rb (.slice a n cap) M k tot) := by
          subst hy
          exact ⟨H2.out.1, H2.out.2.1.trans (Fr.drewN _ _ _), H2.out.2.2.frNo (Fr.drewN _ _ _)⟩
        clear hy H2 c0 c1 c2
        go_loopg [8, 9] (n + 3) (fun g s8 s9 wr => ∃ (no : Nat) (b : Bool), s8 = .int .i64 no ∧ s9 = .bool b ∧ no ≤ n ∧ (if b then n + 2 - no else 0) < g ∧ Hid (wr = y2 ∧ (∀ m, m < no → ∃ d ∈ M, d.no = m) ∧ (b = false → ∀ d ∈ M, d.no ≠ no)))
        case atStart => exact ⟨0, true, by go_num, rfl, by omega, by simp, rfl, (fun m hm => by omega), fun h => by cases h⟩
        case round =>
          obtain ⟨no, b, rfl, rfl, hnon, hg, HR⟩ := hrel
          cases b with
          | true =>
            simp only [if_true] at hg
            go_wp2_with fail
            go_loopg [8, 9, 10] (n + 1) (fun g2 s8 s9 s10 wr2 => ∃ i : Nat, s8 = .int .i64 no ∧ s9 = .bool false ∧ s10 = .int .i64 i ∧ i ≤ n ∧ n - i < g2 ∧ Hid (wr2 = y2 ∧ ∀ (j : Nat) (d : D), j < i → M[j]? = some d → d.no ≠ no))
            case atStart => exact ⟨0, rfl, rfl, by go_num, by omega, by omega, HR.out.1, fun j d hj => by omega⟩
            case round =>
              obtain ⟨i, rfl, rfl, rfl, hin, hig, HR2⟩ := hrel
              have hr := HY.out.2.2
              rw [← HR2.out.1] at hr
              obtain ⟨-, c1, -⟩ := hr.hcell
              by_cases hi : i < n
              · obtain ⟨d, hd⟩ : ∃ d, M[i]? = some d := ⟨_, List.getElem?_eq_getElem (by have := HL.out; omega)⟩
                obtain ⟨gb, hgb, _⟩ := hr.row.form (by have := HL.out; omega)
                subst hgb
                obtain ⟨-, -, d2, -⟩ := hr.row.cells hd
                have HD := Lib.hid hd
                have q1 : (0 : Int) ≤ (i : Int) := by omega
                have q2 : (i : Int) < (n : Int) := by omega
                obtain ⟨dc, da, dn, ds⟩ := d
                simp only at d2
                clear hr hd
                by_cases hdn : dn = no
                · subst hdn
                  have hpg : dn + 1 ≤ n := by
                    have := pigeon (dn + 1) M (fun m hm => by
                      by_cases hmn : m = dn
                      · exact ⟨_, List.mem_of_getElem? HD.out, by simp [hmn]⟩
                      · exact HR.out.2.1 m (by omega))
                    have := HL.out
                    omega
                  have hdn2 : dn ≤ 256 := by omega
                  go_wp2_with fail
                  go_roundg (n + 2 - dn)
                  case measure => exact hg
                  case rel =>
                    refine ⟨dn + 1, true, by go_num, rfl, hpg, by simp only [if_true]; omega, HR2.out.1, fun m hm => ?_, fun h => by cases h⟩
                    by_cases hmn : m = dn
                    · exact ⟨_, List.mem_of_getElem? HD.out, by simp [hmn]⟩
                    · exact HR.out.2.1 m (by omega)
                · have hdn' : ¬ ((dn : Int) = (no : Int)) := by omega
                  go_wp2_with fail
                  go_roundg (n - i)
                  case measure => exact hig
                  case rel =>
                    refine ⟨i + 1, rfl, rfl, by go_num, by omega, by omega, HR2.out.1, fun j e hj he => ?_⟩
                    by_cases hji : j = i
                    · subst hji; rw [HD.out] at he; cases he; exact hdn
                    · exact HR2.out.2 j e (by omega) he
              · obtain rfl : i = n := by omega
                have q2 : ¬ ((i : Int) < (i : Int)) := by omega
                clear hr
                go_wp2_with fail
                go_roundg (i + 2 - no)
                case measure => exact hg
                case rel =>
                  refine ⟨no, false, rfl, rfl, hnon, by simp; omega, HR2.out.1, HR.out.2.1, fun _ d hd => ?_⟩
                  obtain ⟨j, hj⟩ := List.mem_iff_getElem?.1 hd
                  exact HR2.out.2 j d (by have := (List.getElem?_eq_some_iff.1 hj).1; have := HL.out; omega) hj
          | false =>
            have HLS : Hid (Least M no) := ⟨HR.out.2.2 rfl, HR.out.2.1⟩
            have hwr := HR.out.1.symm
            clear HR hg
            subst hwr
            obtain ⟨tot1, htot1⟩ : ∃ t, t = tot + 1 := ⟨_, rfl⟩
            have e1 : (tot : Int) + 1 = (tot1 : Int) := by omega
            have ht2 : tot1 ≤ 100001 := by omega
            have HT := Lib.hid htot1
            have hn1 : n + 1 ≤ 100000 := by omega
            have hx0 : y2.cell? ⟨xb, 0, none⟩ = some (.int .i64 xc) := by rw [cell_of_row _ xb _ _ _ _ HY.out.1]; rfl
            have hx1 : y2.cell? ⟨xb, 1, none⟩ = some (.int .i64 xa) := by rw [cell_of_row _ xb _ _ _ _ HY.out.1]; rfl
            clear htot1
            have HONE : ∀ st : Int, Hid (One47 (y2.alloc (.cells #[.int .i64 xc, .int .i64 xa, .int .i64 no, .int .i64 st] 47)) y2.heap.size ⟨xc, xa, no, st⟩ ∧ Fr No w (y2.alloc (.cells #[.int .i64 xc, .int .i64 xa, .int .i64 no, .int .i64 st] 47)) ∧ RefRaw (y2.alloc (.cells #[.int .i64 xc, .int .i64 xa, .int .i64 no, .int .i64 st] 47)) rb (.slice a n cap) M k tot) := fun st =>
              ⟨heap_alloc_new y2 _, HY.out.2.1.trans (Fr.alloc No _ _), HY.out.2.2.frNo (Fr.alloc No _ _)⟩
            cases p with
            | true =>
              have HO1 := HONE 1
              clear HONE
              go_wp2_with fail
              clear hx0 hx1
              obtain ⟨db, hdb⟩ : ∃ db, y2.heap.size = db := ⟨_, rfl⟩
              rw [hdb] at HO1 ⊢
              clear hdb
              generalize y2.alloc (.cells #[.int .i64 xc, .int .i64 xa, .int .i64 no, .int .i64 1] 47) = z at HO1 ⊢
              obtain ⟨c0, c1, c2⟩ := HO1.out.2.2.hcell
              obtain ⟨d0, d1, d2, d3, d4⟩ := cells47 HO1.out.1
              have c1' := (HO1.out.2.2.frNo (Fr.alloc No z (.cells #[.int .i64 xc, .int .i64 xa, .int .i64 no, .int .i64 1] 47))).hcell.2.1
              have HAT : Hid (At (z.alloc (.cells #[.int .i64 xc, .int .i64 xa, .int .i64 no, .int .i64 1] 47)).drew (some ⟨z.heap.size, 0, none⟩) [xc, xa, (no : Int), 1]) := At.block (xs := [xc, xa, (no : Int), 1]) (t := 47) (heap_alloc_new z _)
              have HOWN : Hid ((z.alloc (.cells #[.int .i64 xc, .int .i64 xa, .int .i64 no, .int .i64 1] 47)).drew.ownsRow 0 47 4 (.slice a n cap) n (ints (flat M))) := by
                have h1 := (HO1.out.2.2.frNo ((Fr.alloc No z (.cells #[.int .i64 xc, .int .i64 xa, .int .i64 no, .int .i64 1] 47)).trans (Fr.drew No _))).row
                have hl := h1.len
                rw [Row, ← hl] at h1
                exact h1
              go_region_law (first | (refine step_append_wide elt34 (by omega) (by rfl) (.tmp 60) (.tmp 62) (by rfl) 0 (.slice a n cap) n (flat M) (by simp [Act.eval]) HOWN.out (some ⟨z.heap.size, 0, none⟩) 1 1 [xc, xa, (no : Int), 1] (by simp [Act.eval]) rfl HAT.out (fun h => by cases h) hn1 (Nat.zero_le _) ?_; intro a2 cap2 w6 hown hgr hat; have hf7 : Fr (fun q => (Value.slice a n cap).ownBlock = some q) z w6 := (((Fr.alloc No z (.cells #[.int .i64 xc, .int .i64 xa, .int .i64 no, .int .i64 1] 47)).trans (Fr.drew No _)).no).trans (Fr.grown hgr (fun k hk => hk)); obtain ⟨m1, m2, f1, f2⟩ := behind47 HO1.out.2.2 hf7; have H6 := Lib.hid (And.intro hown (And.intro hf7 hat)); clear hown hgr hat hf7))
              all_goals (
                go_wp2_with fail
                go_ret2
                obtain ⟨hown, hf7, hat⟩ := H6.out
                obtain ⟨hone, hfz, hraw⟩ := HO1.out
                have hrow : Row 47 w6 (.slice a2 (n + 1) cap2) (M ++ [⟨xc, xa, no, 1⟩]) := by
                  unfold Row
                  rw [List.length_append, HL.out, flat_append]
                  exact hown
                have hat' : ∀ q, (Value.slice a2 (n + 1) cap2).ownBlock = some q → (Value.slice a n cap).ownBlock = some q ∨ z.heap.size ≤ q := by
                  intro q hq
                  rcases hat with h1 | h1
                  · exact .inl (h1 ▸ hq)
                  · rw [h1] at hq; cases hq
                    exact .inr (by simp [World.drew])
                have hraw2 := (hraw.setRow hf7 hrow hat').setTotal tot1
                refine ⟨no, 0, _, 1, rfl, .inr (.inr (.inr ⟨HV.out, HN.out, by have := HL.out; omega, rfl, HLS.out, List.perm_append_comm (l₁ := M) (l₂ := [⟨xc, xa, no, 1⟩]), rfl⟩)), ⟨⟨_, by rw [← HT.out]; exact hraw2, ?_⟩, ?_, HP.out.2.2⟩, ?_⟩
                · rintro q (rfl | hq)
                  · exact HP.out.1 _ (.inl rfl)
                  · rcases hat' q hq with h1 | h1
                    · exact HP.out.1 q (.inr h1)
                    · exact HS.out.2 q (by have := hfz.size; have := HXB.out; omega)
                · rw [List.length_append, HL.out]; have := HP.out.2.2; simp; omega
                · have hSr : S rb := HP.out.1 rb (.inl rfl)
                  have hf8 : Fr S w w6 := (hfz.no).trans (hf7.mono fun q _ hq => HP.out.1 q (.inr hq))
                  exact (hf8.trans (Fr.setCell S _ ⟨rb, 1, none⟩ _ hSr)).trans (Fr.setCell S _ ⟨rb, 2, none⟩ _ hSr))
            | false =>
              have HO1 := HONE 2
              clear HONE
              go_wp2_with fail
              clear hx0 hx1
              obtain ⟨db, hdb⟩ : ∃ db, y2.heap.size = db := ⟨_, rfl⟩
              rw [hdb] at HO1 ⊢
              clear hdb
              generalize y2.alloc (.cells #[.int .i64 xc, .int .i64 xa, .int .i64 no, .int .i64 2] 47) = z at HO1 ⊢
              obtain ⟨c0, c1, c2⟩ := HO1.out.2.2.hcell
              obtain ⟨d0, d1, d2, d3, d4⟩ := cells47 HO1.out.1
              have c1' := (HO1.out.2.2.frNo (Fr.alloc No z (.cells #[.int .i64 xc, .int .i64 xa, .int .i64 no, .int .i64 2] 47))).hcell.2.1
              have HAT : Hid (At (z.alloc (.cells #[.int .i64 xc, .int .i64 xa, .int .i64 no, .int .i64 2] 47)).drew (some ⟨z.heap.size, 0, none⟩) [xc, xa, (no : Int), 2]) := At.block (xs := [xc, xa, (no : Int), 2]) (t := 47) (heap_alloc_new z _)
              have HOWN : Hid ((z.alloc (.cells #[.int .i64 xc, .int .i64 xa, .int .i64 no, .int .i64 2] 47)).drew.ownsRow 0 47 4 (.slice a n cap) n (ints (flat M))) := by
                have h1 := (HO1.out.2.2.frNo ((Fr.alloc No z (.cells #[.int .i64 xc, .int .i64 xa, .int .i64 no, .int .i64 2] 47)).trans (Fr.drew No _))).row
                have hl := h1.len
                rw [Row, ← hl] at h1
                exact h1
              go_region_law (first | (refine step_append_wide elt34 (by omega) (by rfl) (.tmp 60) (.tmp 62) (by rfl) 0 (.slice a n cap) n (flat M) (by simp [Act.eval]) HOWN.out (some ⟨z.heap.size, 0, none⟩) 1 1 [xc, xa, (no : Int), 2] (by simp [Act.eval]) rfl HAT.out (fun h => by cases h) hn1 (Nat.zero_le _) ?_; intro a2 cap2 w6 hown hgr hat; have hf7 : Fr (fun q => (Value.slice a n cap).ownBlock = some q) z w6 := (((Fr.alloc No z (.cells #[.int .i64 xc, .int .i64 xa, .int .i64 no, .int .i64 2] 47)).trans (Fr.drew No _)).no).trans (Fr.grown hgr (fun k hk => hk)); obtain ⟨m1, m2, f1, f2⟩ := behind47 HO1.out.2.2 hf7; have H6 := Lib.hid (And.intro hown (And.intro hf7 hat)); clear hown hgr hat hf7))
              all_goals (
                go_wp2_with fail
                go_ret2
                obtain ⟨hown, hf7, hat⟩ := H6.out
                obtain ⟨hone, hfz, hraw⟩ := HO1.out
                have hrow : Row 47 w6 (.slice a2 (n + 1) cap2) (M ++ [⟨xc, xa, no, 2⟩]) := by
                  unfold Row
                  rw [List.length_append, HL.out, flat_append]
                  exact hown
                have hat' : ∀ q, (Value.slice a2 (n + 1) cap2).ownBlock = some q → (Value.slice a n cap).ownBlock = some q ∨ z.heap.size ≤ q := by
                  intro q hq
                  rcases hat with h1 | h1
                  · exact .inl (h1 ▸ hq)
                  · rw [h1] at hq; cases hq
                    exact .inr (by simp [World.drew])
                have hraw2 := (hraw.setRow hf7 hrow hat').setTotal tot1
                refine ⟨no, 0, _, 1, rfl, .inr (.inr (.inr ⟨HV.out, HN.out, by have := HL.out; omega, rfl, HLS.out, List.perm_append_comm (l₁ := M) (l₂ := [⟨xc, xa, no, 2⟩]), rfl⟩)), ⟨⟨_, by rw [← HT.out]; exact hraw2, ?_⟩, ?_, HP.out.2.2⟩, ?_⟩
                · rintro q (rfl | hq)
                  · exact HP.out.1 _ (.inl rfl)
                  · rcases hat' q hq with h1 | h1
                    · exact HP.out.1 q (.inr h1)
                    · exact HS.out.2 q (by have := hfz.size; have := HXB.out; omega)
                · rw [List.length_append, HL.out]; have := HP.out.2.2; simp; omega
                · have hSr : S rb := HP.out.1 rb (.inl rfl)
                  have hf8 : Fr S w w6 := (hfz.no).trans (hf7.mono fun q _ hq => HP.out.1 q (.inr hq))
                  exact (hf8.trans (Fr.setCell S _ ⟨rb, 1, none⟩ _ hSr)).trans (Fr.setCell S _ ⟨rb, 2, none⟩ _ hSr))
    · have HK := Lib.hid (And.intro hd hkey)
      have q0 : (0 : Int) ≤ (i : Int) := by omega
      clear hx2 hr2 hd hkey
      go_wp2_with fail
      go_ret2
      exact ⟨0, 5, M, 0, rfl, .inr (.inl ⟨HV.out, ⟨d, List.mem_of_getElem? HK.out.1, HK.out.2⟩, rfl, rfl, rfl, rfl⟩), ⟨⟨sv, H2.out.2.2, HP.out.1⟩, HP.out.2.1, HP.out.2.2⟩, H2.out.2.1.no⟩
  · have HV := Lib.hid hv
    clear hv
    refine (refValid_no xc xa _ HV.out).mono ?_
    rintro e w1 ⟨rfl, hf1⟩
    have H1 := Lib.hid (And.intro (HF.out.trans hf1) (HS.out.1.frNo hf1))
    clear hf1
    go_wp2_with fail
    go_ret2
    exact ⟨0, 1, M, 0, rfl, .inl ⟨HV.out, rfl, rfl, rfl, rfl⟩, H1.out.2, H1.out.1.no⟩

end Go.Proofs.Ytanhjjinedjaaaa
