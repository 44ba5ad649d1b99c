/-
  Tries in memory: a trie once a prefix is put in or taken away; its list; no walk.
  Conditions: none.
-/
import Derived.Test.YtnbohhiooigmbaaTp
namespace Go.Proofs.Ytnbohhiooigmbaa
open Go.ChangeShapes Go.WideShapes Go.ChangeAt Go.RowKit
set_option linter.unusedVariables false

theorem putL_len {p : Px} {x : Value} : ∀ {L : List (Px × Value)}, Srt L → (putL p x L).length = if (valL L p).isSome then L.length else L.length + 1
  | [], _ => rfl
  | e :: L, hs => by
    obtain ⟨he, hL⟩ := List.pairwise_cons.1 hs
    have hno : (Lt p e.1 ∨ e.1 = p) → ∀ x ∈ L, x.1 ≠ p := fun hp x hx hc => by
      have h1 := he x hx
      rw [hc] at h1
      rcases hp with hp | hp
      · exact lt_asymm h1 hp
      · rw [hp] at h1; exact lt_irr _ h1
    rw [putL]
    by_cases h1 : cmpX e.1 p = -1
    · rw [if_pos h1, List.length_cons, putL_len hL]
      have hne : e.1 ≠ p := fun hc => by rw [hc] at h1; exact lt_irr _ h1
      have hv : valL (e :: L) p = valL L p := by unfold valL; rw [List.find?_cons, decide_eq_false hne]
      rw [hv]
      split <;> rfl
    · rw [if_neg h1]
      by_cases h2 : e.1 = p
      · rw [if_pos h2]
        have hv : valL (e :: L) p = some e.2 := by unfold valL; rw [List.find?_cons, decide_eq_true h2]; rfl
        rw [hv]; rfl
      · rw [if_neg h2]
        have hlt : Lt p e.1 := by
          rcases cmpX_cases e.1 p with h | h | h
          · exact absurd h h1
          · exact absurd h h2
          · exact h.1
        have hv : valL (e :: L) p = none := valL_none.2 fun x hx => by
          rcases List.mem_cons.1 hx with h | h
          · rw [h]; exact h2
          · exact hno (.inl hlt) x h
        rw [hv]; rfl
/-- The tree of a family, and the other. -/
def mine (p : Px) (t4 t6 : Tr) : Tr := if p.b = true then t6 else t4
def other (p : Px) (t4 t6 : Tr) : Tr := if p.b = true then t4 else t6
theorem Tri.mine_wf {N V T : TypeId} {w : World} {a : Nat} {t4 t6 : Tr} (h : Tri N V T w a t4 t6) (p : Px) : Wf (mine p t4 t6) ∧ (∀ q ∈ (mine p t4 t6).all, q.b = p.b) ∧ (blk (mine p t4 t6)).Nodup ∧ a ∉ blk (mine p t4 t6) ∧ In N V w (mine p t4 t6) := by
  have hnd := h.nd
  rw [List.nodup_cons, List.nodup_append] at hnd
  obtain ⟨h1, h2, h3, h4⟩ := hnd
  unfold mine
  cases hp : p.b with
  | true => rw [if_pos rfl]; exact ⟨h.w6, h.f6, h3, fun hc => h1 (List.mem_append.2 (.inr hc)), h.i6⟩
  | false => rw [if_neg (by decide)]; exact ⟨h.w4, h.f4, h2, fun hc => h1 (List.mem_append.2 (.inl hc)), h.i4⟩
/-- What is found is the value of the key. -/
theorem get_val {N V T : TypeId} {w : World} {a : Nat} {t4 t6 : Tr} (h : Tri N V T w a t4 t6) (p : Px) : (getT (mine p t4 t6) p).map (·.2) = valL (t4.toL ++ t6.toL) p := by
  have hs := both_srt h.w4 h.w6 h.f4 h.f6
  obtain ⟨m1, m2, -⟩ := h.mine_wf p
  have hin : ∀ x, (p, x) ∈ t4.toL ++ t6.toL ↔ (p, x) ∈ (mine p t4 t6).toL := fun x => by
    rw [List.mem_append]
    unfold mine
    cases hp : p.b with
    | true =>
      rw [if_pos rfl]
      exact ⟨fun hc => by
        rcases hc with hc | hc
        · have := h.f4 _ (toL_all hc); rw [hp] at this; cases this
        · exact hc, .inr⟩
    | false =>
      rw [if_neg (by decide)]
      exact ⟨fun hc => by
        rcases hc with hc | hc
        · exact hc
        · have := h.f6 _ (toL_all hc); rw [hp] at this; exact Bool.noConfusion this, .inl⟩
  by_cases hp : okP p
  · cases hg : getT (mine p t4 t6) p with
    | none =>
      symm
      refine valL_none.2 fun e he hc => ?_
      have h1 : (p, e.2) ∈ t4.toL ++ t6.toL := by rw [← hc]; exact he
      obtain ⟨vb, h2⟩ := (get_mem hp m1).1 ((hin _).1 h1)
      rw [hg] at h2; cases h2
    | some u =>
      obtain ⟨vb, x⟩ := u
      symm
      exact (valL_iff hs).2 ((hin x).2 ((get_mem hp m1).2 ⟨vb, hg⟩))
  · have hno : ∀ e ∈ t4.toL ++ t6.toL, e.1 ≠ p := fun e he hc => by
      rcases List.mem_append.1 he with h1 | h1
      · exact hp (hc ▸ h.w4.ok _ (toL_all h1))
      · exact hp (hc ▸ h.w6.ok _ (toL_all h1))
    rw [valL_none.2 hno]
    have hgn : getT (mine p t4 t6) p = none := by
      unfold getT
      have hall : ∀ (t : Tr) (ds : List Bool), Wf t → Wf (sub t ds) := by
        intro t
        induction t with
        | nil => intro ds h; cases ds <;> exact h
        | node g q v l r ihl ihr =>
          intro ds h
          cases ds with
          | nil => exact h
          | cons d ds =>
            rw [sub]
            split
            · exact ihr ds h.2.2.2.2
            · exact ihl ds h.2.2.2.1
      have hw := hall (mine p t4 t6) (fp (mine p t4 t6) p) m1
      cases hs : sub (mine p t4 t6) (fp (mine p t4 t6) p) with
      | nil => rfl
      | node g q v l r =>
        rw [hs] at hw
        have hne : q ≠ p := fun hc => hp (by rw [← hc]; exact hw.1)
        exact if_neg hne
    rw [hgn]; rfl
theorem tri_ins {N V T : TypeId} {w w5 : World} {a : Nat} {t4 t6 : Tr} (hT : Tri N V T w a t4 t6) {p : Px} (hp : okP p) {v : Nat × Value} {g1 g2 : Nat} (d1 : v.1 ≠ g1) (d2 : v.1 ≠ g2) (d3 : g1 ≠ g2) (f1 : w.heap.size ≤ v.1) (f2 : w.heap.size ≤ g1) (f3 : w.heap.size ≤ g2)
    (hin : In N V w5 (ins p v g1 g2 (mine p t4 t6))) (ho : In N V w5 (other p t4 t6))
    (hh : w5.heap[a]? = some (.cells #[rt (if p.b = true then t4 else ins p v g1 g2 t4), rt (if p.b = true then ins p v g1 g2 t6 else t6), .int .i64 ((putL p v.2 (t4.toL ++ t6.toL)).length : Nat)] T (0, 0))) :
    Tri N V T w5 a (if p.b = true then t4 else ins p v g1 g2 t4) (if p.b = true then ins p v g1 g2 t6 else t6) ∧ (if p.b = true then t4 else ins p v g1 g2 t4).toL ++ (if p.b = true then ins p v g1 g2 t6 else t6).toL = putL p v.2 (t4.toL ++ t6.toL) ∧ ∀ k, own a (if p.b = true then t4 else ins p v g1 g2 t4) (if p.b = true then ins p v g1 g2 t6 else t6) k → own a t4 t6 k ∨ w.heap.size ≤ k := by
  have hs := both_srt hT.w4 hT.w6 hT.f4 hT.f6
  have hlt := fun {k} (hk : own a t4 t6 k) => hT.lt hk
  have hnd := hT.nd
  rw [List.nodup_cons, List.nodup_append] at hnd
  obtain ⟨n1, n2, n3, n4⟩ := hnd
  unfold mine at hin
  unfold other at ho
  cases hb : p.b with
  | true =>
    rw [hb] at hin ho hh
    simp only [if_true] at hin ho hh ⊢
    have hbt : ∀ q ∈ t6.all, q.b = p.b := fun q hq => (hT.f6 q hq).trans hb.symm
    have hfam := ins_fam (p := p) (v := v) (g1 := g1) (g2 := g2) hbt
    have hwf := ins_wf (v := v) (g1 := g1) (g2 := g2) hp hT.w6 hbt
    have hls : t4.toL ++ (ins p v g1 g2 t6).toL = putL p v.2 (t4.toL ++ t6.toL) := by
      refine srt_ext (both_srt hT.w4 hwf hT.f4 fun q hq => (hfam q hq).trans hb) (putL_srt hs) fun e => ?_
      rw [putL_mem hs, List.mem_append, List.mem_append, ins_mem hp hT.w6 hbt]
      constructor
      · rintro (h | h | ⟨h1, h2⟩)
        · refine .inr ⟨fun hc => ?_, .inl h⟩
          have := hT.f4 _ (toL_all h); rw [hc, hb] at this; cases this
        · exact .inl h
        · exact .inr ⟨h1, .inr h2⟩
      · rintro (h | ⟨h1, h | h⟩)
        · exact .inr (.inl h)
        · exact .inl h
        · exact .inr (.inr ⟨h1, h⟩)
    refine ⟨⟨by rw [hls]; exact hh, ho, hin, ?_, hT.w4, hwf, hT.f4, fun q hq => (hfam q hq).trans hb⟩, hls, fun k hk => ?_⟩
    · refine List.nodup_cons.2 ⟨fun hc => ?_, List.nodup_append.2 ⟨n2, ins_nodup d1 d2 d3 n3 (fun hc => by have := hlt (.inr (.inr hc)); omega) (fun hc => by have := hlt (.inr (.inr hc)); omega) (fun hc => by have := hlt (.inr (.inr hc)); omega), fun x hx y hy hxy => ?_⟩⟩
      · rcases List.mem_append.1 hc with hc | hc
        · exact n1 (List.mem_append.2 (.inl hc))
        · have ha := hlt (k := a) (.inl rfl)
          rcases ins_blk hc with h | h | h | h
          · exact n1 (List.mem_append.2 (.inr h))
          · omega
          · omega
          · omega
      · subst hxy
        have hx' := hlt (k := x) (.inr (.inl hx))
        rcases ins_blk hy with h | h | h | h
        · exact n4 x hx x h rfl
        · omega
        · omega
        · omega
    · rcases hk with h | h | h
      · exact .inl (.inl h)
      · exact .inl (.inr (.inl h))
      · rcases ins_blk h with h | h | h | h
        · exact .inl (.inr (.inr h))
        · exact .inr (by omega)
        · exact .inr (by omega)
        · exact .inr (by omega)
  | false =>
    rw [hb] at hin ho hh
    simp only [Bool.false_eq_true, if_false] at hin ho hh ⊢
    have hbt : ∀ q ∈ t4.all, q.b = p.b := fun q hq => (hT.f4 q hq).trans hb.symm
    have hfam := ins_fam (p := p) (v := v) (g1 := g1) (g2 := g2) hbt
    have hwf := ins_wf (v := v) (g1 := g1) (g2 := g2) hp hT.w4 hbt
    have hls : (ins p v g1 g2 t4).toL ++ t6.toL = putL p v.2 (t4.toL ++ t6.toL) := by
      refine srt_ext (both_srt hwf hT.w6 (fun q hq => (hfam q hq).trans hb) hT.f6) (putL_srt hs) fun e => ?_
      rw [putL_mem hs, List.mem_append, List.mem_append, ins_mem hp hT.w4 hbt]
      constructor
      · rintro ((h | ⟨h1, h2⟩) | h)
        · exact .inl h
        · exact .inr ⟨h1, .inl h2⟩
        · refine .inr ⟨fun hc => ?_, .inr h⟩
          have := hT.f6 _ (toL_all h); rw [hc, hb] at this; cases this
      · rintro (h | ⟨h1, h | h⟩)
        · exact .inl (.inl h)
        · exact .inl (.inr ⟨h1, h⟩)
        · exact .inr h
    refine ⟨⟨by rw [hls]; exact hh, hin, ho, ?_, hwf, hT.w6, fun q hq => (hfam q hq).trans hb, hT.f6⟩, hls, fun k hk => ?_⟩
    · refine List.nodup_cons.2 ⟨fun hc => ?_, List.nodup_append.2 ⟨ins_nodup d1 d2 d3 n2 (fun hc => by have := hlt (.inr (.inl hc)); omega) (fun hc => by have := hlt (.inr (.inl hc)); omega) (fun hc => by have := hlt (.inr (.inl hc)); omega), n3, fun x hx y hy hxy => ?_⟩⟩
      · rcases List.mem_append.1 hc with hc | hc
        · have ha := hlt (k := a) (.inl rfl)
          rcases ins_blk hc with h | h | h | h
          · exact n1 (List.mem_append.2 (.inl h))
          · omega
          · omega
          · omega
        · exact n1 (List.mem_append.2 (.inr hc))
      · subst hxy
        have hx' := hlt (k := x) (.inr (.inr hy))
        rcases ins_blk hx with h | h | h | h
        · exact n4 x h x hy rfl
        · omega
        · omega
        · omega
    · rcases hk with h | h | h
      · exact .inl (.inl h)
      · rcases ins_blk h with h | h | h | h
        · exact .inl (.inr (.inl h))
        · exact .inr (by omega)
        · exact .inr (by omega)
        · exact .inr (by omega)
      · exact .inl (.inr (.inr h))
/-- Where the place lies. -/
theorem place {N V T : TypeId} {w : World} {a : Nat} {t4 t6 : Tr} (hT : Tri N V T w a t4 t6) {p : Px} {ao sb so : Nat} {ds : List Bool} (ho : okW (mine p t4 t6) ds) (hsl : slotOf ⟨a, ao, none⟩ (mine p t4 t6) ds = ⟨sb, so, none⟩) : own a t4 t6 sb ∧ sb ∉ blk (other p t4 t6) ∧ (ds = [] → sb = a ∧ so = ao) ∧ (ds ≠ [] → sb ≠ a) := by
  have hnd := hT.nd
  rw [List.nodup_cons, List.nodup_append] at hnd
  obtain ⟨n1, n2, n3, n4⟩ := hnd
  by_cases he : ds = []
  · subst he
    rw [slotOf] at hsl
    cases hsl
    refine ⟨.inl rfl, fun hc => ?_, fun _ => ⟨rfl, rfl⟩, fun h => absurd rfl h⟩
    unfold other at hc
    split at hc
    · exact n1 (List.mem_append.2 (.inl hc))
    · exact n1 (List.mem_append.2 (.inr hc))
  · obtain ⟨h1, -⟩ := slot_block (A := ⟨a, ao, none⟩) he ho
    rw [hsl] at h1
    unfold mine at h1
    refine ⟨?_, fun hc => ?_, fun h => absurd h he, fun _ hc => ?_⟩
    · split at h1
      · exact .inr (.inr h1)
      · exact .inr (.inl h1)
    · unfold other at hc
      split at h1
      · rename_i hb; rw [if_pos hb] at hc; exact n4 sb hc sb h1 rfl
      · rename_i hb; rw [if_neg hb] at hc; exact n4 sb h1 sb hc rfl
    · have h2 : sb ∈ blk (mine p t4 t6) := h1
      rw [hc] at h2
      exact (hT.mine_wf p).2.2.2.1 h2
theorem prov_head {N V T : TypeId} {w w' : World} {a : Nat} {t4 t6 : Tr} (hT : Tri N V T w a t4 t6) {p : Px} {v : Nat × Value} {g1 g2 ao sb so : Nat} (hao : (if p.b = true then 1 else 0 : Nat) = ao) (hsl : slotOf ⟨a, ao, none⟩ (mine p t4 t6) (fp (mine p t4 t6) p) = ⟨sb, so, none⟩) (hF : Fr (fun k => k = sb) w w')
    (hslot : ∀ cs T, w.heap[sb]? = some (.cells cs T (0, 0)) → w'.heap[sb]? = some (.cells (cs.setIfInBounds so (rt (top p v g1 g2 (sub (mine p t4 t6) (fp (mine p t4 t6) p))))) T (0, 0))) :
    w'.heap[a]? = some (.cells #[rt (if p.b = true then t4 else ins p v g1 g2 t4), rt (if p.b = true then ins p v g1 g2 t6 else t6), .int .i64 ((t4.toL ++ t6.toL).length : Nat)] T (0, 0)) := by
  obtain ⟨-, -, h1, h2⟩ := place hT (fp_ok _ p) hsl
  by_cases he : fp (mine p t4 t6) p = []
  · obtain ⟨rfl, rfl⟩ := h1 he
    have h3 := hslot _ _ hT.head
    rw [← ins_rt_nil he] at h3
    rw [h3, ← hao]
    unfold mine
    cases hb : p.b with
    | true => simp
    | false => simp
  · rw [hF.block a (some_lt hT.head) (fun hc => h2 he hc.symm), hT.head]
    have h3 := ins_rt (a := a) (ao := ao) (v := v) (g1 := g1) (g2 := g2) he
    unfold mine at h3
    cases hb : p.b with
    | true => rw [hb] at h3; simp only [if_true] at h3 ⊢; rw [h3]
    | false => rw [hb] at h3; simp only [Bool.false_eq_true, if_false] at h3 ⊢; rw [h3]
theorem own_mine {a : Nat} {p : Px} {t4 t6 : Tr} {k : Nat} (h : k ∈ blk (mine p t4 t6)) : own a t4 t6 k := by
  unfold mine at h
  split at h
  · exact .inr (.inr h)
  · exact .inr (.inl h)
theorem mine_other {N V T : TypeId} {w : World} {a : Nat} {t4 t6 : Tr} (hT : Tri N V T w a t4 t6) {p : Px} {k : Nat} (h : k ∈ blk (mine p t4 t6)) : k ∉ blk (other p t4 t6) ∧ k ≠ a := by
  have hnd := hT.nd
  rw [List.nodup_cons, List.nodup_append] at hnd
  obtain ⟨n1, n2, n3, n4⟩ := hnd
  refine ⟨fun hc => ?_, fun hc => (hT.mine_wf p).2.2.2.1 (hc ▸ h)⟩
  unfold mine at h
  unfold other at hc
  split at h
  · rename_i hb; rw [if_pos hb] at hc; exact n4 k hc k h rfl
  · rename_i hb; rw [if_neg hb] at hc; exact n4 k h k hc rfl
theorem other_in {N V T : TypeId} {w : World} {a : Nat} {t4 t6 : Tr} (hT : Tri N V T w a t4 t6) (p : Px) : In N V w (other p t4 t6) ∧ a ∉ blk (other p t4 t6) := by
  have hnd := hT.nd
  rw [List.nodup_cons, List.nodup_append] at hnd
  obtain ⟨n1, n2, n3, n4⟩ := hnd
  unfold other
  split
  · exact ⟨hT.i4, fun hc => n1 (List.mem_append.2 (.inl hc))⟩
  · exact ⟨hT.i6, fun hc => n1 (List.mem_append.2 (.inr hc))⟩
theorem del_len {p : Px} : ∀ {L : List (Px × Value)}, Srt L → (valL L p).isSome = true → (del p L).length + 1 = L.length
  | [], _, h => by cases h
  | e :: L, hs, h => by
    obtain ⟨he, hL⟩ := List.pairwise_cons.1 hs
    unfold del
    rw [List.filter_cons]
    by_cases h1 : e.1 = p
    · rw [decide_eq_true h1]
      have hno : del p L = L := del_none fun x hx hc => by
        have h2 := he x hx
        rw [h1, hc] at h2
        exact lt_irr _ h2
      unfold del at hno
      rw [hno]
      rfl
    · rw [decide_eq_false h1]
      have hv : valL (e :: L) p = valL L p := by unfold valL; rw [List.find?_cons, decide_eq_false h1]
      rw [hv] at h
      have ih := del_len hL h
      unfold del at ih
      simp only [Bool.not_false, if_true, List.length_cons]
      omega
theorem tri_del {N V T : TypeId} {w w5 : World} {a : Nat} {t4 t6 : Tr} (hT : Tri N V T w a t4 t6) {p : Px} (hp : okP p) (hm : p ∈ (mine p t4 t6).all)
    (hin : In N V w5 (wo p (mine p t4 t6))) (ho : In N V w5 (other p t4 t6))
    (hh : w5.heap[a]? = some (.cells #[rt (if p.b = true then t4 else wo p t4), rt (if p.b = true then wo p t6 else t6), .int .i64 ((del p (t4.toL ++ t6.toL)).length : Nat)] T (0, 0))) :
    Tri N V T w5 a (if p.b = true then t4 else wo p t4) (if p.b = true then wo p t6 else t6) ∧ (if p.b = true then t4 else wo p t4).toL ++ (if p.b = true then wo p t6 else t6).toL = del p (t4.toL ++ t6.toL) ∧ ∀ k, own a (if p.b = true then t4 else wo p t4) (if p.b = true then wo p t6 else t6) k → own a t4 t6 k := by
  have hnd := hT.nd
  rw [List.nodup_cons, List.nodup_append] at hnd
  obtain ⟨n1, n2, n3, n4⟩ := hnd
  unfold mine at hin hm
  unfold other at ho
  cases hb : p.b with
  | true =>
    rw [hb] at hin ho hh hm
    simp only [if_true] at hin ho hh hm ⊢
    have hl4 : del p t4.toL = t4.toL := del_none fun e he hc => by have := hT.f4 _ (toL_all he); rw [hc, hb] at this; cases this
    have hls : t4.toL ++ (wo p t6).toL = del p (t4.toL ++ t6.toL) := by rw [del_append, hl4, wo_toL hp hT.w6 hm]
    have hsub := fun {k} (hk : k ∈ blk (wo p t6)) => (wo_sub (p := p) t6).subset hk
    refine ⟨⟨by rw [hls]; exact hh, ho, hin, ?_, hT.w4, wo_wf hT.w6, hT.f4, fun q hq => hT.f6 q (wo_all hq)⟩, hls, fun k hk => ?_⟩
    · refine List.nodup_cons.2 ⟨fun hc => ?_, List.nodup_append.2 ⟨n2, n3.sublist (wo_sub t6), fun x hx y hy => n4 x hx y (hsub hy)⟩⟩
      rcases List.mem_append.1 hc with hc | hc
      · exact n1 (List.mem_append.2 (.inl hc))
      · exact n1 (List.mem_append.2 (.inr (hsub hc)))
    · rcases hk with h | h | h
      · exact .inl h
      · exact .inr (.inl h)
      · exact .inr (.inr (hsub h))
  | false =>
    rw [hb] at hin ho hh hm
    simp only [Bool.false_eq_true, if_false] at hin ho hh hm ⊢
    have hl6 : del p t6.toL = t6.toL := del_none fun e he hc => by have := hT.f6 _ (toL_all he); rw [hc, hb] at this; cases this
    have hls : (wo p t4).toL ++ t6.toL = del p (t4.toL ++ t6.toL) := by rw [del_append, hl6, wo_toL hp hT.w4 hm]
    have hsub := fun {k} (hk : k ∈ blk (wo p t4)) => (wo_sub (p := p) t4).subset hk
    refine ⟨⟨by rw [hls]; exact hh, hin, ho, ?_, wo_wf hT.w4, hT.w6, fun q hq => hT.f4 q (wo_all hq), hT.f6⟩, hls, fun k hk => ?_⟩
    · refine List.nodup_cons.2 ⟨fun hc => ?_, List.nodup_append.2 ⟨n2.sublist (wo_sub t4), n3, fun x hx y hy => n4 x (hsub hx) y hy⟩⟩
      rcases List.mem_append.1 hc with hc | hc
      · exact n1 (List.mem_append.2 (.inl (hsub hc)))
      · exact n1 (List.mem_append.2 (.inr hc))
    · rcases hk with h | h | h
      · exact .inl h
      · exact .inr (.inl (hsub h))
      · exact .inr (.inr h)
theorem get_in {p : Px} {t : Tr} {vb : Nat} {x : Value} (h : getT t p = some (vb, x)) : p ∈ t.all := by
  have hall : ∀ (t : Tr) (ds : List Bool), ∀ y ∈ (sub t ds).all, y ∈ t.all := by
    intro t
    induction t with
    | nil => intro ds y hy; cases ds <;> exact hy
    | node g q v l r ihl ihr =>
      intro ds y hy
      cases ds with
      | nil => exact hy
      | cons d ds =>
        rw [sub] at hy
        refine List.mem_cons_of_mem _ (List.mem_append.2 ?_)
        split at hy
        · exact .inr (ihr ds y hy)
        · exact .inl (ihl ds y hy)
  unfold getT at h
  cases hs : sub t (fp t p) with
  | nil => rw [hs] at h; cases h
  | node g q v l r =>
    rw [hs] at h
    by_cases he : q = p
    · refine hall t (fp t p) p ?_
      rw [hs, ← he]
      exact List.mem_cons_self
    · rw [show getN p (.node g q v l r) = none from if_neg he] at h
      cases h
end Go.Proofs.Ytnbohhiooigmbaa
