/-
  CONTRACT of Endpoints of the reference table, over this seat's translation: it returns a new slice of the keys, in order.
  Conditions: the reference table lies in memory; no two of its entries have the same key.
-/
import Derived.Test.YtanhjjinedjaaaaEq
namespace Go.Proofs.Ytanhjjinedjaaaa
open Go.ChangeShapes Go.WideShapes Go.ChangeAt Go.RowKit
set_option linter.unusedVariables false

theorem flatP_take (K : List (Int × Int)) : ∀ i, flatP (K.take i) = (flatP K).take (i * 2) := by
  induction K with
  | nil => intro i; simp [flatP]
  | cons p K ih =>
    intro i
    cases i with
    | zero => simp [flatP]
    | succ i => rw [List.take_succ_cons, flatP, flatP, ih, show (i + 1) * 2 = i * 2 + 1 + 1 by omega, List.take_succ_cons, List.take_succ_cons]
theorem flatP_drop (K : List (Int × Int)) : ∀ i, flatP (K.drop i) = (flatP K).drop (i * 2) := by
  induction K with
  | nil => intro i; simp [flatP]
  | cons p K ih =>
    intro i
    cases i with
    | zero => simp
    | succ i => rw [List.drop_succ_cons, flatP, ih, show (i + 1) * 2 = i * 2 + 1 + 1 by omega, List.drop_succ_cons, List.drop_succ_cons]

def SortedP (K : List (Int × Int)) : Prop := K.Pairwise lt

theorem sortedP_get {K : List (Int × Int)} (h : SortedP K) {i j : Nat} {p q : Int × Int} (hij : i < j) (hi : K[i]? = some p) (hj : K[j]? = some q) : lt p q := by
  unfold SortedP at h
  rw [List.pairwise_iff_getElem] at h
  obtain ⟨h1, rfl⟩ := List.getElem?_eq_some_iff.1 hi
  obtain ⟨h2, rfl⟩ := List.getElem?_eq_some_iff.1 hj
  exact h i j h1 h2 hij

theorem sortedP_unique : ∀ (A B : List (Int × Int)), SortedP A → SortedP B → A.Perm B → A = B := by
  intro A
  induction A with
  | nil => intro B _ _ h; exact (List.nil_perm.1 h).symm
  | cons a A ih =>
    intro B hA hB h
    cases B with
    | nil => exact absurd h.length_eq (by simp)
    | cons b B =>
      obtain ⟨hA1, hA2⟩ := List.pairwise_cons.1 hA
      obtain ⟨hB1, hB2⟩ := List.pairwise_cons.1 hB
      have hab : a = b := by
        rcases List.mem_cons.1 (h.mem_iff.1 (List.mem_cons_self ..)) with h1 | h1
        · exact h1
        · rcases List.mem_cons.1 (h.mem_iff.2 (List.mem_cons_self ..)) with h2 | h2
          · exact h2.symm
          · exact absurd (lt_trans (hA1 b h2) (hB1 a h1)) (lt_irrefl _)
      subst hab
      rw [ih B hA2 hB2 (List.Perm.cons_inv h)]

theorem sortedP_insert {K : List (Int × Int)} {x : Int × Int} {k : Nat} (hs : SortedP K) (hlow : ∀ (j : Nat) (p : Int × Int), j < k → K[j]? = some p → lt p x) (hhi : ∀ p, K[k]? = some p → ¬ lt p x) (hn : ∀ p ∈ K, p ≠ x) : SortedP (K.take k ++ x :: K.drop k) := by
  unfold SortedP
  rw [List.pairwise_append, List.pairwise_cons]
  refine ⟨hs.sublist (List.take_sublist _ _), ⟨fun d hd => ?_, hs.sublist (List.drop_sublist _ _)⟩, fun d hd e he => ?_⟩
  · obtain ⟨j, hj⟩ := List.mem_iff_getElem?.1 hd
    rw [List.getElem?_drop] at hj
    have h1 : ¬ lt d x := by
      by_cases hj0 : j = 0
      · subst hj0; exact hhi d hj
      · obtain ⟨q, hq⟩ : ∃ q, K[k]? = some q := ⟨_, List.getElem?_eq_getElem (by have := (List.getElem?_eq_some_iff.1 hj).1; omega)⟩
        have h2 := sortedP_get hs (show k < k + j by omega) hq hj
        exact fun h => hhi q hq (lt_trans h2 h)
    rcases lt_tri d x with h | h | h
    · exact absurd h h1
    · exact absurd h (hn d (List.mem_of_getElem? hj))
    · exact h
  · obtain ⟨j, hj⟩ := List.mem_iff_getElem?.1 hd
    rw [List.getElem?_take] at hj
    split at hj
    · rename_i hji
      have h1 := hlow j d hji hj
      rcases List.mem_cons.1 he with rfl | he
      · exact h1
      · obtain ⟨q, hq⟩ := List.mem_iff_getElem?.1 he
        rw [List.getElem?_drop] at hq
        exact sortedP_get hs (by omega) hj hq
    · cases hj

theorem row_base {w : World} {e : TypeId} {K : Nat} {sv : Value} {xs : List Value} {m base base' : Nat} (h : w.ownsRow base' e K sv m xs) (hb : base ≤ base') : w.ownsRow base e K sv m xs := by
  refine ⟨h.1, ?_⟩
  rcases h.2 with h1 | ⟨g, cap, cur, hv, hb', hr⟩
  · exact .inl h1
  · exact .inr ⟨g, cap, cur, hv, Nat.le_trans hb hb', hr⟩

set_option maxHeartbeats 4000000 in
set_option maxRecDepth 100000 in
theorem ends_ref (rb : Nat) (sv : Value) (M : List D) (k tot : Nat) (w : World) (h : RefRaw w rb sv M k tot) (h256 : M.length ≤ 256) (hdis : M.Pairwise (fun d e => d.key ≠ e.key)) :
    Calls Try.prog 18 #[.pointer (some ⟨rb, 0, none⟩)] w fun e w' => ∃ a n cap, e = .returned (.slice a n cap) ∧ ∃ K, Ends w' w.heap.size a n cap K ∧ SortedP K ∧ K.Perm (M.map D.key) ∧ Fr No w w' := by
  obtain ⟨a, cap, rfl, -, -⟩ := h.row.any
  obtain ⟨n, hn⟩ : ∃ n, M.length = n := ⟨_, rfl⟩
  rw [hn] at h h256
  have HS := Lib.hid (And.intro h (And.intro hn hdis))
  clear h hn hdis
  go_enter Try.func18, Try.ntmps18
  go_wp2_with fail
  go_loopg [3, 4] (n + 1) (fun g s3 s4 wr => ∃ (i m cp : Nat) (ra : Option Addr) (K : List (Int × Int)), s3 = .slice ra m cp ∧ s4 = .int .i64 i ∧ i ≤ n ∧ n - i < g ∧ m = i ∧ Hid (Ends wr w.heap.size ra m cp K ∧ SortedP K ∧ K.Perm ((M.take i).map D.key) ∧ Fr No w wr))
  case atStart => exact ⟨0, 0, 0, none, [], rfl, by go_num, by omega, by omega, rfl, World.ownsRow_nil _ _ _ _, List.Pairwise.nil, by simp, Fr.refl _ _⟩
  case round =>
    obtain ⟨i, m, cp, ra, K, rfl, rfl, hin, hig, hmi, HR⟩ := hrel
    subst hmi
    have hr := HS.out.1.frNo HR.out.2.2.2
    obtain ⟨-, c1, -⟩ := hr.hcell
    by_cases hi : m < n
    · obtain ⟨d, hd⟩ : ∃ d, M[m]? = some d := ⟨_, List.getElem?_eq_getElem (by have := HS.out.2.1; omega)⟩
      obtain ⟨gb, rfl, _⟩ := hr.row.form (by have := HS.out.2.1; omega)
      obtain ⟨d0, d1, -, -⟩ := hr.row.cells hd
      have HD := Lib.hid hd
      obtain ⟨xc, xa, dn, ds⟩ := d
      simp only at d0 d1
      have q1 : (0 : Int) ≤ (m : Int) := by omega
      have q2 : (m : Int) < (n : Int) := by omega
      have HNX : Hid (∀ p ∈ K, p ≠ (xc, xa)) := by
        intro p hp he
        obtain ⟨e, he1, he2⟩ := List.mem_map.1 (HR.out.2.2.1.mem_iff.1 hp)
        obtain ⟨j, hj⟩ := List.mem_iff_getElem?.1 he1
        rw [List.getElem?_take] at hj
        split at hj
        · rename_i hlt
          have h3 := HS.out.2.2
          rw [List.pairwise_iff_getElem] at h3
          obtain ⟨g1, rfl⟩ := List.getElem?_eq_some_iff.1 hj
          obtain ⟨g2, hd2⟩ := List.getElem?_eq_some_iff.1 HD.out
          have h4 := h3 j m g1 g2 hlt
          rw [hd2, he2, he] at h4
          exact h4 rfl
        · cases hj
      have hKl := HR.out.1.len
      have HB1 : Hid (Ends (wr.alloc (.cells #[.int .i64 xc, .int .i64 xa] 38)) w.heap.size ra m cp K ∧ Fr No w (wr.alloc (.cells #[.int .i64 xc, .int .i64 xa] 38)) ∧ m = K.length) := ⟨HR.out.1.frNo (Fr.alloc No _ _), HR.out.2.2.2.trans (Fr.alloc No _ _), hKl⟩
      have HX1 : Hid ((wr.alloc (.cells #[.int .i64 xc, .int .i64 xa] 38)).heap[wr.heap.size]? = some (.cells #[.int .i64 xc, .int .i64 xa] 38 (0, 0))) := heap_alloc_new wr _
      have HSP := Lib.hid (And.intro HR.out.2.1 HR.out.2.2.1)
      clear hr hd hKl
      go_wp2_with fail
      clear c1 d0 d1 HR
      obtain ⟨xb, hxb⟩ : ∃ xb, wr.heap.size = xb := ⟨_, rfl⟩
      rw [hxb] at HX1 ⊢
      clear hxb
      revert HX1; revert HB1
      generalize wr.alloc (.cells #[.int .i64 xc, .int .i64 xa] 38) = y
      intro HB1 HX1
      go_loopg [6] (m + 1) (fun g2 s6 wr2 => ∃ kk : Nat, s6 = .int .i64 kk ∧ kk ≤ m ∧ m - kk < g2 ∧ Hid (Fr No y wr2 ∧ ∀ (j : Nat) (p : Int × Int), j < kk → K[j]? = some p → lt p (xc, xa)))
      case atStart => exact ⟨0, by go_num, by omega, by omega, Fr.refl _ _, fun j p hj => by omega⟩
      case round =>
        obtain ⟨kk, rfl, hkm, hkg, HR2⟩ := hrel
        have hx2 := (HR2.out.1.block xb (Array.getElem?_eq_some_iff.1 HX1.out).1 (fun h => h)).trans HX1.out
        obtain ⟨x0, x1⟩ := pair_cells hx2
        have hE2 := HB1.out.1.frNo HR2.out.1
        have HX2 := Lib.hid hx2
        have HE2 := Lib.hid hE2
        clear hx2 hE2
        by_cases hk : kk < m
        · obtain ⟨⟨q1c, q1a⟩, hq⟩ : ∃ q, K[kk]? = some q := ⟨_, List.getElem?_eq_getElem (by have := HB1.out.2.2; omega)⟩
          obtain ⟨eb, rfl, e0, e1⟩ := HE2.out.cells hq
          simp only at e0 e1
          have HQ := Lib.hid hq
          have r0 : (0 : Int) ≤ (kk : Int) := by omega
          have r1 : (kk : Int) < (m : Int) := by omega
          have r1' : decide ((kk : Int) < (m : Int)) = true := decide_eq_true r1
          clear hq
          by_cases hlt : lt (q1c, q1a) (xc, xa)
          · have HLT := Lib.hid hlt
            by_cases hc : q1c < xc
            · have r2 : decide (q1c < xc) = true := decide_eq_true hc
              clear hlt
              go_wp2_with fail
              go_quiet (fail)
              go_wp2_with fail
              go_roundg (m - kk)
              case measure => exact hkg
              case rel =>
                refine ⟨kk + 1, by go_num, by omega, by omega, HR2.out.1.trans (Fr.drewN _ _ _), fun j p hj hp => ?_⟩
                by_cases hjk : j = kk
                · subst hjk; rw [HQ.out] at hp; cases hp; exact HLT.out
                · exact HR2.out.2 j p (by omega) hp
            · have hce : q1c = xc := by unfold lt at hlt; simp only at hlt; omega
              have hca : q1a < xa := by unfold lt at hlt; simp only at hlt; omega
              subst hce
              have r2 : decide (q1c < q1c) = false := decide_eq_false hc
              have r3 : decide (q1a < xa) = true := decide_eq_true hca
              clear hlt
              go_wp2_with fail
              go_quiet (fail)
              go_wp2_with fail
              go_roundg (m - kk)
              case measure => exact hkg
              case rel =>
                refine ⟨kk + 1, by go_num, by omega, by omega, HR2.out.1.trans (Fr.drewN _ _ _), fun j p hj hp => ?_⟩
                by_cases hjk : j = kk
                · subst hjk; rw [HQ.out] at hp; cases hp; exact HLT.out
                · exact HR2.out.2 j p (by omega) hp
          · have HHI : Hid (∀ p, K[kk]? = some p → ¬ lt p (xc, xa)) := by
              intro p hp
              rw [HQ.out] at hp; cases hp
              exact hlt
            have hc : ¬ (q1c < xc) := fun h => hlt (.inl h)
            have r2 : decide (q1c < xc) = false := decide_eq_false hc
            by_cases hce : q1c = xc
            · subst hce
              have hca : ¬ (q1a < xa) := fun h => hlt (.inr ⟨rfl, h⟩)
              have r3 : decide (q1a < xa) = false := decide_eq_false hca
              clear hlt HQ
              go_wp2_with fail
              go_quiet (fail)
              go_wp2_with fail
              generalize hy3 : World.drewN _ _ = y3
              have HY3 : Hid (y3.heap[xb]? = some (.cells #[.int .i64 q1c, .int .i64 xa] 38 (0, 0)) ∧ Ends y3 w.heap.size (some ⟨eb, 0, none⟩) m cp K ∧ Fr No w y3) := by
                subst hy3
                exact ⟨HX2.out, HE2.out.frNo (Fr.drewN _ _ _), (HB1.out.2.1.trans HR2.out.1).trans (Fr.drewN _ _ _)⟩
              clear hy3 x0 x1
              clear e0 e1
              obtain ⟨x0, x1⟩ := pair_cells HY3.out.1
              obtain ⟨pp, hpp⟩ : ∃ pp, m - kk = pp := ⟨_, rfl⟩
              obtain ⟨X, hX⟩ : ∃ X, flatP (K.take kk) = X := ⟨_, rfl⟩
              obtain ⟨Y, hY⟩ : ∃ Y, flatP (K.drop kk) = Y := ⟨_, rfl⟩
              have hml := HB1.out.2.2
              have HXl : Hid (X.length = kk * 2) := by show _ = _; rw [← hX, flatP_length, List.length_take]; omega
              have HYl : Hid (Y.length = pp * 2) := by show _ = _; rw [← hY, flatP_length, List.length_drop]; omega
              have hAt := At.own HY3.out.2.1
              have HA1 : Hid (∀ z, Fr No y3 z → At z (some ⟨eb, 0, none⟩) X) := by
                intro z hf
                have := (hAt.frNo hf).take (kk * 2)
                rw [← flatP_take, hX] at this
                exact this
              obtain ⟨AD, hAD, HA2⟩ : ∃ AD, (if cp = kk then some (⟨eb, 0, none⟩ : Addr) else some ⟨eb, kk * 2, none⟩) = some AD ∧ Hid (∀ z, Fr No y3 z → At z (some AD) Y) := by
                by_cases hjc : cp = kk
                · refine ⟨⟨eb, 0, none⟩, if_pos hjc, ?_⟩
                  intro z hf
                  rw [← hY, List.drop_of_length_le (by have := (row_block HY3.out.2.1).choose_spec.2.2.2.1; omega)]
                  exact At.nil _ _
                · refine ⟨⟨eb, kk * 2, none⟩, if_neg hjc, ?_⟩
                  intro z hf
                  have := (hAt.frNo hf).drop (kk * 2)
                  rw [Nat.zero_add, ← flatP_drop, hY] at this
                  exact this
              have hcp9 : cp ≤ 9223372036854775807 := by have := (row_block HY3.out.2.1).choose_spec.2.2.2.2.1; unfold maxLen at this; exact this
              have q5 : (0 : Int) ≤ (kk : Int) := by omega
              have q6 : (kk : Int) ≤ (cp : Int) := by have := (row_block HY3.out.2.1).choose_spec.2.2.2.1; omega
              have q7 : (kk : Int) ≤ (m : Int) := by omega
              have hs1 : w.heap.size ≤ y3.heap.size := HY3.out.2.2.size
              have HK1 := Lib.hid (And.intro hpp (And.intro hX (And.intro hY hml)))
              have hk1 : 0 + kk ≤ 100000 := by omega
              have hk2 : kk + 1 ≤ 100000 := by omega
              have hk3 : kk + 1 + pp ≤ 100000 := by omega
              have hxy : ¬ (xb = y3.heap.size) := by have := (Array.getElem?_eq_some_iff.1 HY3.out.1).1; omega
              have HBB : Hid ((y3.alloc (.cells #[.int .i64 q1c, .int .i64 xa] 38)).heap[y3.heap.size]? = some (.cells #[.int .i64 q1c, .int .i64 xa] 38 (0, 0))) := heap_alloc_new y3 _
              have x0' : (y3.alloc (.cells #[.int .i64 q1c, .int .i64 xa] 38)).cell? ⟨xb, 0, none⟩ = some (.int .i64 q1c) := (pair_cells (((Fr.alloc No y3 _).block xb (Array.getElem?_eq_some_iff.1 HY3.out.1).1 (fun h => h)).trans HY3.out.1)).1
              have HXX : Hid (∀ z : World, Fr No y3 z → z.cell? ⟨xb, 0, none⟩ = some (.int .i64 q1c) ∧ z.cell? ⟨xb, 1, none⟩ = some (.int .i64 xa)) := fun z hf => pair_cells ((hf.block xb (Array.getElem?_eq_some_iff.1 HY3.out.1).1 (fun h => h)).trans HY3.out.1)
              clear hpp hX hY hAt hml x0'
              go_region_law (first
                | (refine step_append_wide elt28 (by omega) (by rfl) (.const (.slice none 0 0)) (.tmp 62) (by rfl) y3.heap.size (.slice none 0 0) 0 [] (by simp [Act.eval]) (World.ownsRow_nil _ _ _ _) (some ⟨eb, 0, none⟩) kk cp X (by simp [Act.eval, Act.put]) HXl.out (HA1.out _ (Fr.drew No _)) (fun h => by cases h) hk1 (Nat.le_refl _) ?_; intro a2 cap2 w2 hown hgr hat; rw [Nat.zero_add] at hown; have hf2 := grown_no (Fr.drew No y3) rfl hgr (fun k hk => by cases hk); obtain ⟨k0, k1⟩ := HXX.out _ hf2; have HBW : Hid ((w2.alloc (.cells #[.int .i64 q1c, .int .i64 xa] 38)).heap[w2.heap.size]? = some (.cells #[.int .i64 q1c, .int .i64 xa] 38 (0, 0))) := heap_alloc_new w2 _; have H2 := Lib.hid (And.intro hown hf2); clear hown hgr hat hf2; simp only [Nat.zero_add])
                | (refine step_append_wide elt28 (by omega) (by rfl) (.const (.slice none 0 0)) (.tmp 62) (by rfl) y3.heap.size (.slice none 0 0) 0 [] (by simp [Act.eval]) (World.ownsRow_nil _ _ _ _) (some ⟨eb, 0, none⟩) kk cp X (by simp [Act.eval]) HXl.out (HA1.out (y3.alloc (.cells #[.int .i64 q1c, .int .i64 xa] 38)).drew ((Fr.alloc No _ _).trans (Fr.drew No _))) (fun h => by cases h) hk1 (by simp [World.drew]) ?_; intro a2 cap2 w2 hown hgr hat; rw [Nat.zero_add] at hown; have hf2' := grown_no (Fr.drew No (y3.alloc (.cells #[.int .i64 q1c, .int .i64 xa] 38))) rfl hgr (fun k hk => by cases hk); have HBV : Hid (w2.heap[y3.heap.size]? = some (.cells #[.int .i64 q1c, .int .i64 xa] 38 (0, 0))) := (hf2'.block _ (by simp) (fun h => h)).trans HBB.out; have hf2 := (Fr.alloc No y3 (.cells #[.int .i64 q1c, .int .i64 xa] 38)).trans hf2'; have H2 := Lib.hid (And.intro hown hf2); clear hown hgr hat hf2 hf2'; simp only [Nat.zero_add])
                | (refine step_append_wide elt28 (by omega) (by rfl) (.tmp 63) (.tmp 65) (by rfl) y3.heap.size (.slice a2 kk cap2) kk X (by simp [Act.eval]) (row_frNo H2.out.1 (Fr.alloc No w2 (.cells #[.int .i64 q1c, .int .i64 xa] 38))) (some ⟨w2.heap.size, 0, none⟩) 1 1 [q1c, xa] (by simp [Act.eval]) rfl (At.block (xs := [q1c, xa]) (t := 38) HBW.out) (fun h => by cases h) hk2 (Nat.le_trans H2.out.2.size (by simp)) ?_; intro a3 cap3 w3 hown hgr hat; have hf3 := grown_no (H2.out.2.trans (Fr.alloc No w2 (.cells #[.int .i64 q1c, .int .i64 xa] 38))) rfl hgr (fun k hk => (H2.out.1.lt k hk).1); have H3 := Lib.hid (And.intro hown hf3); clear hown hgr hat hf3)
                | (refine step_append_wide elt28 (by omega) (by rfl) (.tmp 63) (.tmp 65) (by rfl) y3.heap.size (.slice a2 kk cap2) kk X (by simp [Act.eval]) H2.out.1 (some ⟨y3.heap.size, 0, none⟩) 1 1 [q1c, xa] (by simp [Act.eval]) rfl (At.block (xs := [q1c, xa]) (t := 38) HBV.out) (fun h => by cases h) hk2 H2.out.2.size ?_; intro a3 cap3 w3 hown hgr hat; have hf3 := grown_no H2.out.2 rfl hgr (fun k hk => (H2.out.1.lt k hk).1); have H3 := Lib.hid (And.intro hown hf3); clear hown hgr hat hf3)
                | (refine step_append_wide elt28 (by omega) (by rfl) (.tmp 66) (.tmp 69) (by rfl) y3.heap.size (.slice a3 (kk + 1) cap3) (kk + 1) (X ++ [q1c, xa]) (by simp [Act.eval]) H3.out.1 (some AD) pp (cp - kk) Y (by simp [Act.eval]; have := HK1.out.1; omega) HYl.out (HA2.out _ H3.out.2) (fun h => by cases h) hk3 H3.out.2.size ?_; intro a4 cap4 w4 hown hgr hat; have hf4 := grown_no H3.out.2 rfl hgr (fun k hk => (H3.out.1.lt k hk).1); have H4 := Lib.hid (And.intro hown hf4); clear hown hgr hat hf4))
              all_goals (
                go_wp2_with fail
                go_roundg (n - m)
                case measure => exact hig
                case rel =>
                  obtain ⟨hpp, hX, hY, hml⟩ := HK1.out
                  have hm1 : kk + 1 + pp = m + 1 := by omega
                  have hE : Ends w4 w.heap.size a4 (kk + 1 + pp) cap4 (K.take kk ++ (q1c, xa) :: K.drop kk) := by
                    unfold Ends
                    rw [flatP_append, flatP, hX, hY]
                    have := row_base H4.out.1 hs1
                    simpa using this
                  refine ⟨m + 1, kk + 1 + pp, cap4, a4, _, rfl, by go_num, by omega, by omega, hm1, hE, sortedP_insert HSP.out.1 HR2.out.2 HHI.out HNX.out, ?_, HY3.out.2.2.trans H4.out.2⟩
                  have hp1 : (K.take kk ++ (q1c, xa) :: K.drop kk).Perm ((q1c, xa) :: K) := by
                    have h1 : (K.take kk ++ (q1c, xa) :: K.drop kk).Perm ((q1c, xa) :: (K.take kk ++ K.drop kk)) := List.perm_middle
                    rw [List.take_append_drop] at h1
                    exact h1
                  refine hp1.trans ((List.Perm.cons _ HSP.out.2).trans ?_)
                  rw [take_map HD.out]
                  exact (List.perm_append_comm (l₁ := (M.take m).map D.key) (l₂ := [D.key ⟨q1c, xa, dn, ds⟩])).symm)
            · have r3 : (q1c == xc) = false := by simp [hce]
              clear hlt HQ
              go_wp2_with fail
              go_quiet (fail)
              go_wp2_with fail
              generalize hy3 : World.drewN _ _ = y3
              have HY3 : Hid (y3.heap[xb]? = some (.cells #[.int .i64 xc, .int .i64 xa] 38 (0, 0)) ∧ Ends y3 w.heap.size (some ⟨eb, 0, none⟩) m cp K ∧ Fr No w y3) := by
                subst hy3
                exact ⟨HX2.out, HE2.out.frNo (Fr.drewN _ _ _), (HB1.out.2.1.trans HR2.out.1).trans (Fr.drewN _ _ _)⟩
              clear hy3 x0 x1
              clear e0 e1
              obtain ⟨x0, x1⟩ := pair_cells HY3.out.1
              obtain ⟨pp, hpp⟩ : ∃ pp, m - kk = pp := ⟨_, rfl⟩
              obtain ⟨X, hX⟩ : ∃ X, flatP (K.take kk) = X := ⟨_, rfl⟩
              obtain ⟨Y, hY⟩ : ∃ Y, flatP (K.drop kk) = Y := ⟨_, rfl⟩
              have hml := HB1.out.2.2
              have HXl : Hid (X.length = kk * 2) := by show _ = _; rw [← hX, flatP_length, List.length_take]; omega
              have HYl : Hid (Y.length = pp * 2) := by show _ = _; rw [← hY, flatP_length, List.length_drop]; omega
              have hAt := At.own HY3.out.2.1
              have HA1 : Hid (∀ z, Fr No y3 z → At z (some ⟨eb, 0, none⟩) X) := by
                intro z hf
                have := (hAt.frNo hf).take (kk * 2)
                rw [← flatP_take, hX] at this
                exact this
              obtain ⟨AD, hAD, HA2⟩ : ∃ AD, (if cp = kk then some (⟨eb, 0, none⟩ : Addr) else some ⟨eb, kk * 2, none⟩) = some AD ∧ Hid (∀ z, Fr No y3 z → At z (some AD) Y) := by
                by_cases hjc : cp = kk
                · refine ⟨⟨eb, 0, none⟩, if_pos hjc, ?_⟩
                  intro z hf
                  rw [← hY, List.drop_of_length_le (by have := (row_block HY3.out.2.1).choose_spec.2.2.2.1; omega)]
                  exact At.nil _ _
                · refine ⟨⟨eb, kk * 2, none⟩, if_neg hjc, ?_⟩
                  intro z hf
                  have := (hAt.frNo hf).drop (kk * 2)
                  rw [Nat.zero_add, ← flatP_drop, hY] at this
                  exact this
              have hcp9 : cp ≤ 9223372036854775807 := by have := (row_block HY3.out.2.1).choose_spec.2.2.2.2.1; unfold maxLen at this; exact this
              have q5 : (0 : Int) ≤ (kk : Int) := by omega
              have q6 : (kk : Int) ≤ (cp : Int) := by have := (row_block HY3.out.2.1).choose_spec.2.2.2.1; omega
              have q7 : (kk : Int) ≤ (m : Int) := by omega
              have hs1 : w.heap.size ≤ y3.heap.size := HY3.out.2.2.size
              have HK1 := Lib.hid (And.intro hpp (And.intro hX (And.intro hY hml)))
              have hk1 : 0 + kk ≤ 100000 := by omega
              have hk2 : kk + 1 ≤ 100000 := by omega
              have hk3 : kk + 1 + pp ≤ 100000 := by omega
              have hxy : ¬ (xb = y3.heap.size) := by have := (Array.getElem?_eq_some_iff.1 HY3.out.1).1; omega
              have HBB : Hid ((y3.alloc (.cells #[.int .i64 xc, .int .i64 xa] 38)).heap[y3.heap.size]? = some (.cells #[.int .i64 xc, .int .i64 xa] 38 (0, 0))) := heap_alloc_new y3 _
              have x0' : (y3.alloc (.cells #[.int .i64 xc, .int .i64 xa] 38)).cell? ⟨xb, 0, none⟩ = some (.int .i64 xc) := (pair_cells (((Fr.alloc No y3 _).block xb (Array.getElem?_eq_some_iff.1 HY3.out.1).1 (fun h => h)).trans HY3.out.1)).1
              have HXX : Hid (∀ z : World, Fr No y3 z → z.cell? ⟨xb, 0, none⟩ = some (.int .i64 xc) ∧ z.cell? ⟨xb, 1, none⟩ = some (.int .i64 xa)) := fun z hf => pair_cells ((hf.block xb (Array.getElem?_eq_some_iff.1 HY3.out.1).1 (fun h => h)).trans HY3.out.1)
              clear hpp hX hY hAt hml x0'
              go_region_law (first
                | (refine step_append_wide elt28 (by omega) (by rfl) (.const (.slice none 0 0)) (.tmp 62) (by rfl) y3.heap.size (.slice none 0 0) 0 [] (by simp [Act.eval]) (World.ownsRow_nil _ _ _ _) (some ⟨eb, 0, none⟩) kk cp X (by simp [Act.eval, Act.put]) HXl.out (HA1.out _ (Fr.drew No _)) (fun h => by cases h) hk1 (Nat.le_refl _) ?_; intro a2 cap2 w2 hown hgr hat; rw [Nat.zero_add] at hown; have hf2 := grown_no (Fr.drew No y3) rfl hgr (fun k hk => by cases hk); obtain ⟨k0, k1⟩ := HXX.out _ hf2; have HBW : Hid ((w2.alloc (.cells #[.int .i64 xc, .int .i64 xa] 38)).heap[w2.heap.size]? = some (.cells #[.int .i64 xc, .int .i64 xa] 38 (0, 0))) := heap_alloc_new w2 _; have H2 := Lib.hid (And.intro hown hf2); clear hown hgr hat hf2; simp only [Nat.zero_add])
                | (refine step_append_wide elt28 (by omega) (by rfl) (.const (.slice none 0 0)) (.tmp 62) (by rfl) y3.heap.size (.slice none 0 0) 0 [] (by simp [Act.eval]) (World.ownsRow_nil _ _ _ _) (some ⟨eb, 0, none⟩) kk cp X (by simp [Act.eval]) HXl.out (HA1.out (y3.alloc (.cells #[.int .i64 xc, .int .i64 xa] 38)).drew ((Fr.alloc No _ _).trans (Fr.drew No _))) (fun h => by cases h) hk1 (by simp [World.drew]) ?_; intro a2 cap2 w2 hown hgr hat; rw [Nat.zero_add] at hown; have hf2' := grown_no (Fr.drew No (y3.alloc (.cells #[.int .i64 xc, .int .i64 xa] 38))) rfl hgr (fun k hk => by cases hk); have HBV : Hid (w2.heap[y3.heap.size]? = some (.cells #[.int .i64 xc, .int .i64 xa] 38 (0, 0))) := (hf2'.block _ (by simp) (fun h => h)).trans HBB.out; have hf2 := (Fr.alloc No y3 (.cells #[.int .i64 xc, .int .i64 xa] 38)).trans hf2'; have H2 := Lib.hid (And.intro hown hf2); clear hown hgr hat hf2 hf2'; simp only [Nat.zero_add])
                | (refine step_append_wide elt28 (by omega) (by rfl) (.tmp 63) (.tmp 65) (by rfl) y3.heap.size (.slice a2 kk cap2) kk X (by simp [Act.eval]) (row_frNo H2.out.1 (Fr.alloc No w2 (.cells #[.int .i64 xc, .int .i64 xa] 38))) (some ⟨w2.heap.size, 0, none⟩) 1 1 [xc, xa] (by simp [Act.eval]) rfl (At.block (xs := [xc, xa]) (t := 38) HBW.out) (fun h => by cases h) hk2 (Nat.le_trans H2.out.2.size (by simp)) ?_; intro a3 cap3 w3 hown hgr hat; have hf3 := grown_no (H2.out.2.trans (Fr.alloc No w2 (.cells #[.int .i64 xc, .int .i64 xa] 38))) rfl hgr (fun k hk => (H2.out.1.lt k hk).1); have H3 := Lib.hid (And.intro hown hf3); clear hown hgr hat hf3)
                | (refine step_append_wide elt28 (by omega) (by rfl) (.tmp 63) (.tmp 65) (by rfl) y3.heap.size (.slice a2 kk cap2) kk X (by simp [Act.eval]) H2.out.1 (some ⟨y3.heap.size, 0, none⟩) 1 1 [xc, xa] (by simp [Act.eval]) rfl (At.block (xs := [xc, xa]) (t := 38) HBV.out) (fun h => by cases h) hk2 H2.out.2.size ?_; intro a3 cap3 w3 hown hgr hat; have hf3 := grown_no H2.out.2 rfl hgr (fun k hk => (H2.out.1.lt k hk).1); have H3 := Lib.hid (And.intro hown hf3); clear hown hgr hat hf3)
                | (refine step_append_wide elt28 (by omega) (by rfl) (.tmp 66) (.tmp 69) (by rfl) y3.heap.size (.slice a3 (kk + 1) cap3) (kk + 1) (X ++ [xc, xa]) (by simp [Act.eval]) H3.out.1 (some AD) pp (cp - kk) Y (by simp [Act.eval]; have := HK1.out.1; omega) HYl.out (HA2.out _ H3.out.2) (fun h => by cases h) hk3 H3.out.2.size ?_; intro a4 cap4 w4 hown hgr hat; have hf4 := grown_no H3.out.2 rfl hgr (fun k hk => (H3.out.1.lt k hk).1); have H4 := Lib.hid (And.intro hown hf4); clear hown hgr hat hf4))
              all_goals (
                go_wp2_with fail
                go_roundg (n - m)
                case measure => exact hig
                case rel =>
                  obtain ⟨hpp, hX, hY, hml⟩ := HK1.out
                  have hm1 : kk + 1 + pp = m + 1 := by omega
                  have hE : Ends w4 w.heap.size a4 (kk + 1 + pp) cap4 (K.take kk ++ (xc, xa) :: K.drop kk) := by
                    unfold Ends
                    rw [flatP_append, flatP, hX, hY]
                    have := row_base H4.out.1 hs1
                    simpa using this
                  refine ⟨m + 1, kk + 1 + pp, cap4, a4, _, rfl, by go_num, by omega, by omega, hm1, hE, sortedP_insert HSP.out.1 HR2.out.2 HHI.out HNX.out, ?_, HY3.out.2.2.trans H4.out.2⟩
                  have hp1 : (K.take kk ++ (xc, xa) :: K.drop kk).Perm ((xc, xa) :: K) := by
                    have h1 : (K.take kk ++ (xc, xa) :: K.drop kk).Perm ((xc, xa) :: (K.take kk ++ K.drop kk)) := List.perm_middle
                    rw [List.take_append_drop] at h1
                    exact h1
                  refine hp1.trans ((List.Perm.cons _ HSP.out.2).trans ?_)
                  rw [take_map HD.out]
                  exact (List.perm_append_comm (l₁ := (M.take m).map D.key) (l₂ := [D.key ⟨xc, xa, dn, ds⟩])).symm)
        · obtain rfl : kk = m := by omega
          have r1 : ¬ ((kk : Int) < (kk : Int)) := by omega
          have r1' : decide ((kk : Int) < (kk : Int)) = false := decide_eq_false r1
          have HHI : Hid (∀ p, K[kk]? = some p → ¬ lt p (xc, xa)) := by
            intro p hp
            have := (List.getElem?_eq_some_iff.1 hp).1
            have := HB1.out.2.2
            omega
          rcases (HE2.out).2 with ⟨hv0, h0⟩ | ⟨eb, cap', cur, hv0, _, _, hcc, _⟩
          · cases hv0
            go_wp2_with fail
            go_quiet (fail)
            go_wp2_with fail
            generalize hy3 : World.drewN _ _ = y3
            have HY3 : Hid (y3.heap[xb]? = some (.cells #[.int .i64 xc, .int .i64 xa] 38 (0, 0)) ∧ Ends y3 w.heap.size none 0 0 K ∧ Fr No w y3) := by
              subst hy3
              exact ⟨HX2.out, HE2.out.frNo (Fr.drewN _ _ _), (HB1.out.2.1.trans HR2.out.1).trans (Fr.drewN _ _ _)⟩
            clear hy3 x0 x1
            obtain ⟨x0, x1⟩ := pair_cells HY3.out.1
            obtain ⟨pp, hpp⟩ : ∃ pp, 0 - 0 = pp := ⟨_, rfl⟩
            obtain ⟨X, hX⟩ : ∃ X, flatP (K.take 0) = X := ⟨_, rfl⟩
            obtain ⟨Y, hY⟩ : ∃ Y, flatP (K.drop 0) = Y := ⟨_, rfl⟩
            have hml := HB1.out.2.2
            have HXl : Hid (X.length = 0 * 2) := by show _ = _; rw [← hX, flatP_length, List.length_take]; omega
            have HYl : Hid (Y.length = pp * 2) := by show _ = _; rw [← hY, flatP_length, List.length_drop]; omega
            have hAt := At.own HY3.out.2.1
            have HA1 : Hid (∀ z, Fr No y3 z → At z none X) := by
              intro z hf
              have := (hAt.frNo hf).take (0 * 2)
              rw [← flatP_take, hX] at this
              exact this
            have HA2 : Hid (∀ z, Fr No y3 z → At z none Y) := by
              intro z hf
              rw [← hY, List.drop_of_length_le (by omega)]
              exact At.nil _ _
            have q5 : (0 : Int) ≤ (0 : Int) := by omega
            have q6 : (0 : Int) ≤ (0 : Int) := by omega
            have q7 : (0 : Int) ≤ (0 : Int) := by omega
            have hs1 : w.heap.size ≤ y3.heap.size := HY3.out.2.2.size
            have HK1 := Lib.hid (And.intro hpp (And.intro hX (And.intro hY hml)))
            have hk1 : 0 + 0 ≤ 100000 := by omega
            have hk2 : 0 + 1 ≤ 100000 := by omega
            have hk3 : 0 + 1 + pp ≤ 100000 := by omega
            have hxy : ¬ (xb = y3.heap.size) := by have := (Array.getElem?_eq_some_iff.1 HY3.out.1).1; omega
            have HBB : Hid ((y3.alloc (.cells #[.int .i64 xc, .int .i64 xa] 38)).heap[y3.heap.size]? = some (.cells #[.int .i64 xc, .int .i64 xa] 38 (0, 0))) := heap_alloc_new y3 _
            have x0' : (y3.alloc (.cells #[.int .i64 xc, .int .i64 xa] 38)).cell? ⟨xb, 0, none⟩ = some (.int .i64 xc) := (pair_cells (((Fr.alloc No y3 _).block xb (Array.getElem?_eq_some_iff.1 HY3.out.1).1 (fun h => h)).trans HY3.out.1)).1
            have HXX : Hid (∀ z : World, Fr No y3 z → z.cell? ⟨xb, 0, none⟩ = some (.int .i64 xc) ∧ z.cell? ⟨xb, 1, none⟩ = some (.int .i64 xa)) := fun z hf => pair_cells ((hf.block xb (Array.getElem?_eq_some_iff.1 HY3.out.1).1 (fun h => h)).trans HY3.out.1)
            clear hpp hX hY hAt hml x0'
            go_region_law (first
              | (refine step_append_wide elt28 (by omega) (by rfl) (.const (.slice none 0 0)) (.tmp 62) (by rfl) y3.heap.size (.slice none 0 0) 0 [] (by simp [Act.eval]) (World.ownsRow_nil _ _ _ _) none 0 0 X (by simp [Act.eval, Act.put]) HXl.out (HA1.out _ (Fr.drew No _)) (fun _ => ⟨rfl, rfl⟩) hk1 (Nat.le_refl _) ?_; intro a2 cap2 w2 hown hgr hat; rw [Nat.zero_add] at hown; have hf2 := grown_no (Fr.drew No y3) rfl hgr (fun k hk => by cases hk); obtain ⟨k0, k1⟩ := HXX.out _ hf2; have HBW : Hid ((w2.alloc (.cells #[.int .i64 xc, .int .i64 xa] 38)).heap[w2.heap.size]? = some (.cells #[.int .i64 xc, .int .i64 xa] 38 (0, 0))) := heap_alloc_new w2 _; have H2 := Lib.hid (And.intro hown hf2); clear hown hgr hat hf2; simp only [Nat.zero_add])
              | (refine step_append_wide elt28 (by omega) (by rfl) (.const (.slice none 0 0)) (.tmp 62) (by rfl) y3.heap.size (.slice none 0 0) 0 [] (by simp [Act.eval]) (World.ownsRow_nil _ _ _ _) none 0 0 X (by simp [Act.eval]) HXl.out (HA1.out (y3.alloc (.cells #[.int .i64 xc, .int .i64 xa] 38)).drew ((Fr.alloc No _ _).trans (Fr.drew No _))) (fun _ => ⟨rfl, rfl⟩) hk1 (by simp [World.drew]) ?_; intro a2 cap2 w2 hown hgr hat; rw [Nat.zero_add] at hown; have hf2' := grown_no (Fr.drew No (y3.alloc (.cells #[.int .i64 xc, .int .i64 xa] 38))) rfl hgr (fun k hk => by cases hk); have HBV : Hid (w2.heap[y3.heap.size]? = some (.cells #[.int .i64 xc, .int .i64 xa] 38 (0, 0))) := (hf2'.block _ (by simp) (fun h => h)).trans HBB.out; have hf2 := (Fr.alloc No y3 (.cells #[.int .i64 xc, .int .i64 xa] 38)).trans hf2'; have H2 := Lib.hid (And.intro hown hf2); clear hown hgr hat hf2 hf2'; simp only [Nat.zero_add])
              | (refine step_append_wide elt28 (by omega) (by rfl) (.tmp 63) (.tmp 65) (by rfl) y3.heap.size (.slice a2 0 cap2) 0 X (by simp [Act.eval]) (row_frNo H2.out.1 (Fr.alloc No w2 (.cells #[.int .i64 xc, .int .i64 xa] 38))) (some ⟨w2.heap.size, 0, none⟩) 1 1 [xc, xa] (by simp [Act.eval]) rfl (At.block (xs := [xc, xa]) (t := 38) HBW.out) (fun h => by cases h) hk2 (Nat.le_trans H2.out.2.size (by simp)) ?_; intro a3 cap3 w3 hown hgr hat; have hf3 := grown_no (H2.out.2.trans (Fr.alloc No w2 (.cells #[.int .i64 xc, .int .i64 xa] 38))) rfl hgr (fun k hk => (H2.out.1.lt k hk).1); have H3 := Lib.hid (And.intro hown hf3); clear hown hgr hat hf3)
              | (refine step_append_wide elt28 (by omega) (by rfl) (.tmp 63) (.tmp 65) (by rfl) y3.heap.size (.slice a2 0 cap2) 0 X (by simp [Act.eval]) H2.out.1 (some ⟨y3.heap.size, 0, none⟩) 1 1 [xc, xa] (by simp [Act.eval]) rfl (At.block (xs := [xc, xa]) (t := 38) HBV.out) (fun h => by cases h) hk2 H2.out.2.size ?_; intro a3 cap3 w3 hown hgr hat; have hf3 := grown_no H2.out.2 rfl hgr (fun k hk => (H2.out.1.lt k hk).1); have H3 := Lib.hid (And.intro hown hf3); clear hown hgr hat hf3)
              | (refine step_append_wide elt28 (by omega) (by rfl) (.tmp 66) (.tmp 69) (by rfl) y3.heap.size (.slice a3 (0 + 1) cap3) (0 + 1) (X ++ [xc, xa]) (by simp [Act.eval]) H3.out.1 none pp (0 - 0) Y (by simp [Act.eval]; have := HK1.out.1; omega) HYl.out (HA2.out _ H3.out.2) (fun _ => ⟨by have := HK1.out.1; omega, rfl⟩) hk3 H3.out.2.size ?_; intro a4 cap4 w4 hown hgr hat; have hf4 := grown_no H3.out.2 rfl hgr (fun k hk => (H3.out.1.lt k hk).1); have H4 := Lib.hid (And.intro hown hf4); clear hown hgr hat hf4))
            all_goals (
              go_wp2_with fail
              go_roundg (n - 0)
              case measure => exact hig
              case rel =>
                obtain ⟨hpp, hX, hY, hml⟩ := HK1.out
                have hm1 : 0 + 1 + pp = 0 + 1 := by omega
                have hE : Ends w4 w.heap.size a4 (0 + 1 + pp) cap4 (K.take 0 ++ (xc, xa) :: K.drop 0) := by
                  unfold Ends
                  rw [flatP_append, flatP, hX, hY]
                  have := row_base H4.out.1 hs1
                  simpa using this
                refine ⟨0 + 1, 0 + 1 + pp, cap4, a4, _, rfl, by go_num, by omega, by omega, hm1, hE, sortedP_insert HSP.out.1 HR2.out.2 HHI.out HNX.out, ?_, HY3.out.2.2.trans H4.out.2⟩
                have hp1 : (K.take 0 ++ (xc, xa) :: K.drop 0).Perm ((xc, xa) :: K) := by
                  have h1 : (K.take 0 ++ (xc, xa) :: K.drop 0).Perm ((xc, xa) :: (K.take 0 ++ K.drop 0)) := List.perm_middle
                  rw [List.take_append_drop] at h1
                  exact h1
                refine hp1.trans ((List.Perm.cons _ HSP.out.2).trans ?_)
                rw [take_map HD.out]
                exact (List.perm_append_comm (l₁ := (M.take 0).map D.key) (l₂ := [D.key ⟨xc, xa, dn, ds⟩])).symm)
          · cases hv0
            go_wp2_with fail
            go_quiet (fail)
            go_wp2_with fail
            generalize hy3 : World.drewN _ _ = y3
            have HY3 : Hid (y3.heap[xb]? = some (.cells #[.int .i64 xc, .int .i64 xa] 38 (0, 0)) ∧ Ends y3 w.heap.size (some ⟨eb, 0, none⟩) kk cp K ∧ Fr No w y3) := by
              subst hy3
              exact ⟨HX2.out, HE2.out.frNo (Fr.drewN _ _ _), (HB1.out.2.1.trans HR2.out.1).trans (Fr.drewN _ _ _)⟩
            clear hy3 x0 x1
            obtain ⟨x0, x1⟩ := pair_cells HY3.out.1
            obtain ⟨pp, hpp⟩ : ∃ pp, kk - kk = pp := ⟨_, rfl⟩
            obtain ⟨X, hX⟩ : ∃ X, flatP (K.take kk) = X := ⟨_, rfl⟩
            obtain ⟨Y, hY⟩ : ∃ Y, flatP (K.drop kk) = Y := ⟨_, rfl⟩
            have hml := HB1.out.2.2
            have HXl : Hid (X.length = kk * 2) := by show _ = _; rw [← hX, flatP_length, List.length_take]; omega
            have HYl : Hid (Y.length = pp * 2) := by show _ = _; rw [← hY, flatP_length, List.length_drop]; omega
            have hAt := At.own HY3.out.2.1
            have HA1 : Hid (∀ z, Fr No y3 z → At z (some ⟨eb, 0, none⟩) X) := by
              intro z hf
              have := (hAt.frNo hf).take (kk * 2)
              rw [← flatP_take, hX] at this
              exact this
            obtain ⟨AD, hAD, HA2⟩ : ∃ AD, (if cp = kk then some (⟨eb, 0, none⟩ : Addr) else some ⟨eb, kk * 2, none⟩) = some AD ∧ Hid (∀ z, Fr No y3 z → At z (some AD) Y) := by
              by_cases hjc : cp = kk
              · refine ⟨⟨eb, 0, none⟩, if_pos hjc, ?_⟩
                intro z hf
                rw [← hY, List.drop_of_length_le (by have := (row_block HY3.out.2.1).choose_spec.2.2.2.1; omega)]
                exact At.nil _ _
              · refine ⟨⟨eb, kk * 2, none⟩, if_neg hjc, ?_⟩
                intro z hf
                have := (hAt.frNo hf).drop (kk * 2)
                rw [Nat.zero_add, ← flatP_drop, hY] at this
                exact this
            have hcp9 : cp ≤ 9223372036854775807 := by have := (row_block HY3.out.2.1).choose_spec.2.2.2.2.1; unfold maxLen at this; exact this
            have q5 : (0 : Int) ≤ (kk : Int) := by omega
            have q6 : (kk : Int) ≤ (cp : Int) := by have := (row_block HY3.out.2.1).choose_spec.2.2.2.1; omega
            have q7 : (kk : Int) ≤ (kk : Int) := by omega
            have hs1 : w.heap.size ≤ y3.heap.size := HY3.out.2.2.size
            have HK1 := Lib.hid (And.intro hpp (And.intro hX (And.intro hY hml)))
            have hk1 : 0 + kk ≤ 100000 := by omega
            have hk2 : kk + 1 ≤ 100000 := by omega
            have hk3 : kk + 1 + pp ≤ 100000 := by omega
            have hxy : ¬ (xb = y3.heap.size) := by have := (Array.getElem?_eq_some_iff.1 HY3.out.1).1; omega
            have HBB : Hid ((y3.alloc (.cells #[.int .i64 xc, .int .i64 xa] 38)).heap[y3.heap.size]? = some (.cells #[.int .i64 xc, .int .i64 xa] 38 (0, 0))) := heap_alloc_new y3 _
            have x0' : (y3.alloc (.cells #[.int .i64 xc, .int .i64 xa] 38)).cell? ⟨xb, 0, none⟩ = some (.int .i64 xc) := (pair_cells (((Fr.alloc No y3 _).block xb (Array.getElem?_eq_some_iff.1 HY3.out.1).1 (fun h => h)).trans HY3.out.1)).1
            have HXX : Hid (∀ z : World, Fr No y3 z → z.cell? ⟨xb, 0, none⟩ = some (.int .i64 xc) ∧ z.cell? ⟨xb, 1, none⟩ = some (.int .i64 xa)) := fun z hf => pair_cells ((hf.block xb (Array.getElem?_eq_some_iff.1 HY3.out.1).1 (fun h => h)).trans HY3.out.1)
            clear hpp hX hY hAt hml x0'
            go_region_law (first
              | (refine step_append_wide elt28 (by omega) (by rfl) (.const (.slice none 0 0)) (.tmp 62) (by rfl) y3.heap.size (.slice none 0 0) 0 [] (by simp [Act.eval]) (World.ownsRow_nil _ _ _ _) (some ⟨eb, 0, none⟩) kk cp X (by simp [Act.eval, Act.put]) HXl.out (HA1.out _ (Fr.drew No _)) (fun h => by cases h) hk1 (Nat.le_refl _) ?_; intro a2 cap2 w2 hown hgr hat; rw [Nat.zero_add] at hown; have hf2 := grown_no (Fr.drew No y3) rfl hgr (fun k hk => by cases hk); obtain ⟨k0, k1⟩ := HXX.out _ hf2; have HBW : Hid ((w2.alloc (.cells #[.int .i64 xc, .int .i64 xa] 38)).heap[w2.heap.size]? = some (.cells #[.int .i64 xc, .int .i64 xa] 38 (0, 0))) := heap_alloc_new w2 _; have H2 := Lib.hid (And.intro hown hf2); clear hown hgr hat hf2; simp only [Nat.zero_add])
              | (refine step_append_wide elt28 (by omega) (by rfl) (.const (.slice none 0 0)) (.tmp 62) (by rfl) y3.heap.size (.slice none 0 0) 0 [] (by simp [Act.eval]) (World.ownsRow_nil _ _ _ _) (some ⟨eb, 0, none⟩) kk cp X (by simp [Act.eval]) HXl.out (HA1.out (y3.alloc (.cells #[.int .i64 xc, .int .i64 xa] 38)).drew ((Fr.alloc No _ _).trans (Fr.drew No _))) (fun h => by cases h) hk1 (by simp [World.drew]) ?_; intro a2 cap2 w2 hown hgr hat; rw [Nat.zero_add] at hown; have hf2' := grown_no (Fr.drew No (y3.alloc (.cells #[.int .i64 xc, .int .i64 xa] 38))) rfl hgr (fun k hk => by cases hk); have HBV : Hid (w2.heap[y3.heap.size]? = some (.cells #[.int .i64 xc, .int .i64 xa] 38 (0, 0))) := (hf2'.block _ (by simp) (fun h => h)).trans HBB.out; have hf2 := (Fr.alloc No y3 (.cells #[.int .i64 xc, .int .i64 xa] 38)).trans hf2'; have H2 := Lib.hid (And.intro hown hf2); clear hown hgr hat hf2 hf2'; simp only [Nat.zero_add])
              | (refine step_append_wide elt28 (by omega) (by rfl) (.tmp 63) (.tmp 65) (by rfl) y3.heap.size (.slice a2 kk cap2) kk X (by simp [Act.eval]) (row_frNo H2.out.1 (Fr.alloc No w2 (.cells #[.int .i64 xc, .int .i64 xa] 38))) (some ⟨w2.heap.size, 0, none⟩) 1 1 [xc, xa] (by simp [Act.eval]) rfl (At.block (xs := [xc, xa]) (t := 38) HBW.out) (fun h => by cases h) hk2 (Nat.le_trans H2.out.2.size (by simp)) ?_; intro a3 cap3 w3 hown hgr hat; have hf3 := grown_no (H2.out.2.trans (Fr.alloc No w2 (.cells #[.int .i64 xc, .int .i64 xa] 38))) rfl hgr (fun k hk => (H2.out.1.lt k hk).1); have H3 := Lib.hid (And.intro hown hf3); clear hown hgr hat hf3)
              | (refine step_append_wide elt28 (by omega) (by rfl) (.tmp 63) (.tmp 65) (by rfl) y3.heap.size (.slice a2 kk cap2) kk X (by simp [Act.eval]) H2.out.1 (some ⟨y3.heap.size, 0, none⟩) 1 1 [xc, xa] (by simp [Act.eval]) rfl (At.block (xs := [xc, xa]) (t := 38) HBV.out) (fun h => by cases h) hk2 H2.out.2.size ?_; intro a3 cap3 w3 hown hgr hat; have hf3 := grown_no H2.out.2 rfl hgr (fun k hk => (H2.out.1.lt k hk).1); have H3 := Lib.hid (And.intro hown hf3); clear hown hgr hat hf3)
              | (refine step_append_wide elt28 (by omega) (by rfl) (.tmp 66) (.tmp 69) (by rfl) y3.heap.size (.slice a3 (kk + 1) cap3) (kk + 1) (X ++ [xc, xa]) (by simp [Act.eval]) H3.out.1 (some AD) pp (cp - kk) Y (by simp [Act.eval]; have := HK1.out.1; omega) HYl.out (HA2.out _ H3.out.2) (fun h => by cases h) hk3 H3.out.2.size ?_; intro a4 cap4 w4 hown hgr hat; have hf4 := grown_no H3.out.2 rfl hgr (fun k hk => (H3.out.1.lt k hk).1); have H4 := Lib.hid (And.intro hown hf4); clear hown hgr hat hf4))
            all_goals (
              go_wp2_with fail
              go_roundg (n - kk)
              case measure => exact hig
              case rel =>
                obtain ⟨hpp, hX, hY, hml⟩ := HK1.out
                have hm1 : kk + 1 + pp = kk + 1 := by omega
                have hE : Ends w4 w.heap.size a4 (kk + 1 + pp) cap4 (K.take kk ++ (xc, xa) :: K.drop kk) := by
                  unfold Ends
                  rw [flatP_append, flatP, hX, hY]
                  have := row_base H4.out.1 hs1
                  simpa using this
                refine ⟨kk + 1, kk + 1 + pp, cap4, a4, _, rfl, by go_num, by omega, by omega, hm1, hE, sortedP_insert HSP.out.1 HR2.out.2 HHI.out HNX.out, ?_, HY3.out.2.2.trans H4.out.2⟩
                have hp1 : (K.take kk ++ (xc, xa) :: K.drop kk).Perm ((xc, xa) :: K) := by
                  have h1 : (K.take kk ++ (xc, xa) :: K.drop kk).Perm ((xc, xa) :: (K.take kk ++ K.drop kk)) := List.perm_middle
                  rw [List.take_append_drop] at h1
                  exact h1
                refine hp1.trans ((List.Perm.cons _ HSP.out.2).trans ?_)
                rw [take_map HD.out]
                exact (List.perm_append_comm (l₁ := (M.take kk).map D.key) (l₂ := [D.key ⟨xc, xa, dn, ds⟩])).symm)
    · obtain rfl : m = n := by omega
      have q2 : ¬ ((m : Int) < (m : Int)) := by omega
      clear hr
      go_wp2_with fail
      go_ret
      obtain ⟨h1, h2, h3, h4⟩ := HR.out
      rw [List.take_of_length_le (by have := HS.out.2.1; omega)] at h3
      exact ⟨ra, m, cp, rfl, K, h1, h2, h3, h4⟩

end Go.Proofs.Ytanhjjinedjaaaa
