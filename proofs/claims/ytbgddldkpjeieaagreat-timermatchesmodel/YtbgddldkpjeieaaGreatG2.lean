/-
  CONTRACTS of moveUp, moveDown and restore of the heap at one element type, over this seat's translation: what each call leaves in memory.
  Conditions: the heap lies in memory as HeapAt says; the indices are in range; the order is broken at one index at most.
-/
import Derived.Test.YtbgddldkpjeieaaGreatG1
namespace Go.Proofs.YtbgddldkpjeieaaGreat.G
open Go.ChangeShapes Go.WideShapes Go.ChangeAt Go.RowKit Go.Maps
set_option linter.unusedVariables false

set_option maxHeartbeats 2000000 in
set_option maxRecDepth 100000 in
theorem moveUp_any (hb mb : Nat) (sv : Value) (A : List Ent) (last : Int) (i : Nat) (w : World) (h : HA w hb mb sv A last) (hi : i < A.length) (hE : Ex i A) :
    Calls Tryz.prog 42 #[.pointer (some ⟨hb, 0, none⟩), .int .i64 i] w fun e w' => e = .returned (.tuple #[]) ∧ ∃ A', HA w' hb mb sv A' last ∧ A'.Perm A ∧ DownOK i A' ∧ Fr (Own hb mb sv) w w' := by
  have hlen := h.good.len
  have HS := Lib.hid (And.intro hi (And.intro h hE))
  have hi2 : i < 1000 := by omega
  clear h hE hi hlen
  go_enter Tryz.func42, Tryz.ntmps42
  go_wp2_with fail
  go_loopg [1] (i + 1) (fun g si wr => ∃ (k : Nat) (A1 : List Ent), si = .int .i64 k ∧ k < g ∧ k < 1000 ∧ Hid (k < A1.length ∧ HA wr hb mb sv A1 last ∧ A1.Perm A ∧ Ex k A1 ∧ (k = i ∨ Kids k A1) ∧ Fr (Own hb mb sv) w wr))
  case atStart => exact ⟨i, A, rfl, by omega, hi2, HS.out.1, HS.out.2.1, List.Perm.refl _, HS.out.2.2, Or.inl rfl, Fr.refl _ _⟩
  case round =>
    obtain ⟨k, A1, rfl, hkg, hk2, HR⟩ := hrel
    clear HS
    by_cases hk : k = 0
    · subst hk
      go_wp2_with fail
      go_end0
      obtain ⟨h1, h2, h3, h4, h5, h6⟩ := HR.out
      exact ⟨rfl, A1, h2, h3, up_end h4 h5 (Or.inl rfl), h6⟩
    · obtain ⟨p, hp⟩ : ∃ p, (k - 1) / 2 = p := ⟨_, rfl⟩
      have hpk : p < k := by omega
      have hq : ((k : Int) - 1).tdiv 2 = (p : Int) := by rw [Int.tdiv_eq_ediv_of_nonneg (by omega)]; omega
      have hk0 : (0 : Int) < (k : Int) := by omega
      obtain ⟨ek, ep, gk, gp⟩ : ∃ ek ep, A1[k]? = some ek ∧ A1[p]? = some ep := ⟨A1[k]'HR.out.1, A1[p]'(by have := HR.out.1; omega), List.getElem?_eq_getElem _, List.getElem?_eq_getElem _⟩
      have HG := Lib.hid (And.intro gk (And.intro gp hp))
      clear gk gp hp
      by_cases hlt : ek.lt ep
      · have hd : decide (ek.lt ep) = true := decide_eq_true hlt
        go_wp2_with fail
        refine (precedes_any hb mb sv A1 last k p ek ep _ HR.out.2.1 HG.out.1 HG.out.2.1).mono ?_
        rintro e w1 ⟨rfl, hf1⟩
        have H1 := Lib.hid (And.intro (HR.out.2.1.frNo hf1) (HR.out.2.2.2.2.2.trans hf1.no))
        clear hf1
        go_wp2_with fail
        refine (swap_any hb mb sv A1 last k p ek ep _ H1.out.1 HG.out.1 HG.out.2.1).mono ?_
        rintro e w2 ⟨rfl, hh2, hf2⟩
        have H2 := Lib.hid (And.intro hh2 (H1.out.2.trans hf2))
        clear hh2 hf2
        go_wp2_with fail
        go_roundg k
        case measure => exact hkg
        case rel =>
          obtain ⟨h1, h2, h3, h4, h5, h6⟩ := HR.out
          obtain ⟨gk, gp, hp⟩ := HG.out
          have hu := up_step gk gp hp.symm (by omega) h4 hlt
          exact ⟨p, swp A1 k p ek ep, rfl, hpk, by omega, by rw [swp_length]; omega, H2.out.1, (swp_perm gk gp).trans h3, hu.1, Or.inr hu.2, H2.out.2⟩
      · have hd : decide (ek.lt ep) = false := decide_eq_false hlt
        go_wp2_with fail
        refine (precedes_any hb mb sv A1 last k p ek ep _ HR.out.2.1 HG.out.1 HG.out.2.1).mono ?_
        rintro e w1 ⟨rfl, hf1⟩
        have H1 := Lib.hid (And.intro (HR.out.2.1.frNo hf1) (HR.out.2.2.2.2.2.trans hf1.no))
        clear hf1
        go_wp2_with fail
        refine bodyPost_ret (results_none rfl _ _ _) rfl ?_
        obtain ⟨h1, h2, h3, h4, h5, h6⟩ := HR.out
        obtain ⟨gk, gp, hp⟩ := HG.out
        refine ⟨rfl, A1, H1.out.1, h3, up_end h4 h5 (Or.inr ?_), H1.out.2⟩
        intro a b ha hb
        rw [gk] at ha
        rw [hp, gp] at hb
        cases ha
        cases hb
        exact hlt

set_option maxHeartbeats 4000000 in
set_option maxRecDepth 100000 in
theorem moveDown_any (hb mb : Nat) (sv : Value) (A : List Ent) (last : Int) (i : Nat) (w : World) (h : HA w hb mb sv A last) (hi : i < A.length) (hD : DownOK i A) :
    Calls Tryz.prog 59 #[.pointer (some ⟨hb, 0, none⟩), .int .i64 i] w fun e w' => e = .returned (.tuple #[]) ∧ ∃ A', HA w' hb mb sv A' last ∧ A'.Perm A ∧ Ordered A' ∧ Fr (Own hb mb sv) w w' := by
  have hlen := h.good.len
  obtain ⟨gg, cap, rfl⟩ := h.form (by omega)
  obtain ⟨n, hn⟩ : ∃ n, A.length = n := ⟨_, rfl⟩
  rw [hn] at h hi hlen ⊢
  have HS : Hid (HA w hb mb (.slice (some ⟨gg, 0, none⟩) n cap) A last ∧ A.Perm A ∧ DownOK i A ∧ Fr (Own hb mb (.slice (some ⟨gg, 0, none⟩) n cap)) w w) := ⟨h, List.Perm.refl _, hD, Fr.refl _ _⟩
  have HN := Lib.hid hn
  clear h hD hn
  go_enter Tryz.func59, Tryz.ntmps59
  go_wp2_with fail
  go_loopg [1] (n - i + 1) (fun g si wr => ∃ (k : Nat) (A1 : List Ent), si = .int .i64 k ∧ n - k < g ∧ k < n ∧ Hid (HA wr hb mb (.slice (some ⟨gg, 0, none⟩) n cap) A1 last ∧ A1.Perm A ∧ DownOK k A1 ∧ Fr (Own hb mb (.slice (some ⟨gg, 0, none⟩) n cap)) w wr))
  case atStart => exact ⟨i, A, rfl, by omega, hi, HS⟩
  case round =>
    obtain ⟨k, A1, rfl, hkg, hkn, HR⟩ := hrel
    rename World => wo
    clear HS
    go_wp2_with fail
    go_loopg [4, 5] 3 (fun g sf sd wr2 => ∃ (f d : Nat), sf = .int .i64 f ∧ sd = .int .i64 d ∧ 2 * k + 3 - d < g ∧ 2 * k + 1 ≤ d ∧ d ≤ 2 * k + 3 ∧ f < n ∧ Hid (Fr No wo wr2 ∧ (f = k ∨ (0 < f ∧ (f - 1) / 2 = k)) ∧ ∀ c a b, (c = k ∨ (2 * k + 1 ≤ c ∧ c < d)) → A1[c]? = some a → A1[f]? = some b → ¬ a.lt b))
    case atStart =>
      refine ⟨k, 2 * k + 1, by go_num, by go_num, by omega, by omega, by omega, hkn, Fr.refl _ _, Or.inl rfl, ?_⟩
      intro c a b hc ha hb
      rcases hc with rfl | hc
      · rw [ha] at hb; cases hb; exact lt_irrefl' _
      · omega
    case round =>
      obtain ⟨f, d, rfl, rfl, hdg, hd1, hd3, hfn, H2⟩ := hrel
      obtain ⟨HA2, HF2⟩ : Hid (HA wr hb mb (.slice (some ⟨gg, 0, none⟩) n cap) A1 last) ∧ Hid (Fr (Own hb mb (.slice (some ⟨gg, 0, none⟩) n cap)) w wr) := ⟨HR.out.1.frNo H2.out.1, HR.out.2.2.2.trans H2.out.1.no⟩
      have c0 : wr.cell? ⟨hb, 0, none⟩ = some (.slice (some ⟨gg, 0, none⟩) n cap) := by obtain ⟨⟨D, hr, _⟩, _⟩ := HA2.out; exact hr.hcell.1
      have hA1 : Hid (A1.length = n) := HR.out.2.1.length_eq.trans HN.out
      by_cases hin : d ≤ 2 * k + 2 ∧ d < n
      · obtain ⟨hin1, hin2⟩ := hin
        have q1 : (d : Int) ≤ 2 * (k : Int) + 2 := by omega
        have q2 : (d : Int) < (n : Int) := by omega
        obtain ⟨ed, gd⟩ : ∃ e, A1[d]? = some e := ⟨_, List.getElem?_eq_getElem (by have := hA1.out; omega)⟩
        obtain ⟨ef, gf⟩ : ∃ e, A1[f]? = some e := ⟨_, List.getElem?_eq_getElem (by have := hA1.out; omega)⟩
        have HG := Lib.hid (And.intro gd gf)
        clear gd gf
        by_cases hlt : ed.lt ef
        · have hdec : decide (ed.lt ef) = true := decide_eq_true hlt
          go_wp2_with fail
          refine (precedes_any hb mb _ A1 last d f ed ef _ HA2.out HG.out.1 HG.out.2).mono ?_
          rintro e w1 ⟨rfl, hf1⟩
          have H1 := Lib.hid hf1
          clear hf1
          go_wp2_with fail
          go_roundg (2 * k + 3 - d)
          case measure => omega
          case rel =>
            refine ⟨d, d + 1, rfl, by go_num, by omega, by omega, by omega, by omega, H2.out.1.trans H1.out, Or.inr (by omega), ?_⟩
            intro c a b hc ha hb
            rw [HG.out.1] at hb
            cases hb
            by_cases hcd : c = d
            · subst hcd; rw [HG.out.1] at ha; cases ha; exact lt_irrefl' _
            · exact nlt_lt (H2.out.2.2 c a ef (by omega) ha HG.out.2) hlt
        · have hdec : decide (ed.lt ef) = false := decide_eq_false hlt
          go_wp2_with fail
          refine (precedes_any hb mb _ A1 last d f ed ef _ HA2.out HG.out.1 HG.out.2).mono ?_
          rintro e w1 ⟨rfl, hf1⟩
          have H1 := Lib.hid hf1
          clear hf1
          go_wp2_with fail
          go_roundg (2 * k + 3 - d)
          case measure => omega
          case rel =>
            refine ⟨f, d + 1, rfl, by go_num, by omega, by omega, by omega, hfn, H2.out.1.trans H1.out, H2.out.2.1, ?_⟩
            intro c a b hc ha hb
            by_cases hcd : c = d
            · subst hcd; rw [HG.out.1] at ha; cases ha; rw [HG.out.2] at hb; cases hb; exact hlt
            · exact H2.out.2.2 c a b (by omega) ha hb
      · have hout : d = 2 * k + 3 ∨ n ≤ d := by omega
        obtain ⟨ek, gk⟩ : ∃ e, A1[k]? = some e := ⟨_, List.getElem?_eq_getElem (by have := hA1.out; omega)⟩
        obtain ⟨ef, gf⟩ : ∃ e, A1[f]? = some e := ⟨_, List.getElem?_eq_getElem (by have := hA1.out; omega)⟩
        have hmin : ∀ j a, 0 < j → (j - 1) / 2 = k → A1[j]? = some a → ¬ a.lt ef := by
          intro j a hj hjk ha
          have hjl : j < A1.length := (List.getElem?_eq_some_iff.1 ha).1
          have := hA1.out
          exact H2.out.2.2 j a ef (Or.inr (by omega)) ha gf
        have hself : ¬ ek.lt ef := H2.out.2.2 k ek ef (Or.inl rfl) gk gf
        have hside := H2.out.2.1
        have HG := Lib.hid (And.intro gk (And.intro gf (And.intro hmin (And.intro hself hside))))
        clear gk gf hmin hself hside hin
        have q2 : d = 2 * k + 3 ∨ (d ≤ 2 * k + 2 ∧ n ≤ d) := by omega
        clear hout
        by_cases hfk : f = k
        · subst hfk
          rcases q2 with q2 | ⟨q3, q4⟩
          · have q1 : ¬ ((d : Int) ≤ 2 * (f : Int) + 2) := by omega
            go_wp2_with fail
            refine bodyPost_ret (results_none rfl _ _ _) rfl ?_
            obtain ⟨gk, gf, hmin, hself, hside⟩ := HG.out
            exact ⟨rfl, A1, HA2.out, HR.out.2.1, down_end gf HR.out.2.2.1 hmin, HF2.out⟩
          · have q1 : (d : Int) ≤ 2 * (f : Int) + 2 := by omega
            have q2 : ¬ ((d : Int) < (n : Int)) := by omega
            go_wp2_with fail
            refine bodyPost_ret (results_none rfl _ _ _) rfl ?_
            obtain ⟨gk, gf, hmin, hself, hside⟩ := HG.out
            exact ⟨rfl, A1, HA2.out, HR.out.2.1, down_end gf HR.out.2.2.1 hmin, HF2.out⟩
        · have hfk' : ((f : Int) == (k : Int)) = false := by simpa using (by omega : ¬ (f : Int) = (k : Int))
          rcases q2 with q2 | ⟨q3, q4⟩
          · have q1 : ¬ ((d : Int) ≤ 2 * (k : Int) + 2) := by omega
            go_wp2_with fail
            refine (swap_any hb mb _ A1 last k f ek ef _ HA2.out HG.out.1 HG.out.2.1).mono ?_
            rintro e w2 ⟨rfl, hh2, hf2⟩
            have H3 := Lib.hid (And.intro hh2 (HF2.out.trans hf2))
            clear hh2 hf2
            go_wp2_with fail
            go_roundg (n - k)
            case measure =>
              obtain ⟨gk, gf, hmin, hself, hside⟩ := HG.out
              omega
            case rel =>
              obtain ⟨gk, gf, hmin, hself, hside⟩ := HG.out
              have hlt : ef.lt ek := by
                have hA := HA2.out
                obtain ⟨⟨D, hr, ht⟩, hg⟩ := hA
                have hne : ef.id ≠ ek.id := fun e => hfk (ht.inj gf gk e)
                unfold Ent.lt at hself ⊢
                omega
              exact ⟨f, swp A1 k f ek ef, rfl, by omega, hfn, H3.out.1, (swp_perm gk gf).trans HR.out.2.1, down_step gk gf (by omega) (by omega) HR.out.2.2.1 hlt hmin, H3.out.2⟩
          · have q1 : (d : Int) ≤ 2 * (k : Int) + 2 := by omega
            have q2 : ¬ ((d : Int) < (n : Int)) := by omega
            go_wp2_with fail
            refine (swap_any hb mb _ A1 last k f ek ef _ HA2.out HG.out.1 HG.out.2.1).mono ?_
            rintro e w2 ⟨rfl, hh2, hf2⟩
            have H3 := Lib.hid (And.intro hh2 (HF2.out.trans hf2))
            clear hh2 hf2
            go_wp2_with fail
            go_roundg (n - k)
            case measure =>
              obtain ⟨gk, gf, hmin, hself, hside⟩ := HG.out
              omega
            case rel =>
              obtain ⟨gk, gf, hmin, hself, hside⟩ := HG.out
              have hlt : ef.lt ek := by
                have hA := HA2.out
                obtain ⟨⟨D, hr, ht⟩, hg⟩ := hA
                have hne : ef.id ≠ ek.id := fun e => hfk (ht.inj gf gk e)
                unfold Ent.lt at hself ⊢
                omega
              exact ⟨f, swp A1 k f ek ef, rfl, by omega, hfn, H3.out.1, (swp_perm gk gf).trans HR.out.2.1, down_step gk gf (by omega) (by omega) HR.out.2.2.1 hlt hmin, H3.out.2⟩

theorem restore_any (hb mb : Nat) (sv : Value) (A : List Ent) (last : Int) (i : Nat) (w : World) (h : HA w hb mb sv A last) (hi : i < A.length) (hE : Ex i A) :
    Calls Tryz.prog 43 #[.pointer (some ⟨hb, 0, none⟩), .int .i64 i] w fun e w' => e = .returned (.tuple #[]) ∧ ∃ A', HA w' hb mb sv A' last ∧ A'.Perm A ∧ Ordered A' ∧ Fr (Own hb mb sv) w w' := by
  have hlen := h.good.len
  have HS := Lib.hid (And.intro h (And.intro hi hE))
  have hi2 : i < 1000 := by omega
  clear h hi hE
  go_enter Tryz.func43, Tryz.ntmps43
  go_wp2_with fail
  refine (moveUp_any hb mb sv A last i _ HS.out.1 HS.out.2.1 HS.out.2.2).mono ?_
  rintro e w1 ⟨rfl, A1, h1, h2, h3, h4⟩
  have H1 := Lib.hid (And.intro h1 (And.intro h2 (And.intro h3 h4)))
  clear h1 h2 h3 h4
  go_wp2_with fail
  refine (moveDown_any hb mb sv A1 last i _ H1.out.1 (by rw [H1.out.2.1.length_eq]; exact HS.out.2.1) H1.out.2.2.1).mono ?_
  rintro e w2 ⟨rfl, A2, h1, h2, h3, h4⟩
  have H2 := Lib.hid (And.intro h1 (And.intro h2 (And.intro h3 h4)))
  clear h1 h2 h3 h4
  go_wp2_with fail
  go_end0
  exact ⟨rfl, A2, H2.out.1, H2.out.2.1.trans H1.out.2.1, H2.out.2.2.1, H1.out.2.2.2.trans H2.out.2.2.2⟩
end Go.Proofs.YtbgddldkpjeieaaGreat.G
