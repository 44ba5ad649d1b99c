/-
  CONTRACT of Handles of the reference heap over this seat's translation: the handles in the order of due time and handle.
  Conditions: the reference heap lies in memory as RefAt says.
-/
import Derived.Test.YtbobokhlcbojkaaRef5
namespace Go.Proofs.Ytbobokhlcbojkaa
open Go.ChangeShapes Go.WideShapes Go.ChangeAt Go.RowKit Go.Maps
set_option linter.unusedVariables false

def idv (e : Ent) : Value := .int .i64 e.id

/-- Where the loop of Handles stands: K are the handles given out, M is what is left. -/
structure Out (w wr : World) (cb : Nat) (iv : Value) (ao : Option Addr) (co : Nat) (L K M : List Ent) : Prop where
  fr : Fr No w wr
  ref : RefAt wr cb iv M 0
  own : ∀ k, OwnR cb iv k → w.heap.size ≤ k
  row : wr.ownsRow w.heap.size 3 1 (.slice ao K.length co) K.length (K.map idv)
  perm : (K ++ M).Perm L
  srt : K.Pairwise (fun a b => a.lt b)
  cross : ∀ k ∈ K, ∀ e ∈ M, k.lt e

theorem row1_block {w : World} {base : Nat} {v : Value} {n : Nat} {xs : List Value} (h : w.ownsRow base 3 1 v n xs) {k : Nat} (hk : v.ownBlock = some k) : ∃ c, w.heap[k]? = some (.cells c 3 (0, 0)) := by
  rcases h.2 with ⟨hv, _⟩ | ⟨g, cap, cur, hv, _, hg, _⟩
  · rw [hv] at hk; cases hk
  · rw [hv] at hk
    simp [Value.ownBlock] at hk
    subst hk
    exact ⟨cur, hg⟩

theorem row1_keep {w w' : World} {base : Nat} {v : Value} {n : Nat} {xs : List Value} (h : w.ownsRow base 3 1 v n xs) (hw : ∀ k, v.ownBlock = some k → w'.heap[k]? = w.heap[k]?) : w'.ownsRow base 3 1 v n xs := by
  refine ⟨h.1, ?_⟩
  rcases h.2 with h1 | ⟨g, cap, cur, hv, hb', hg, hr⟩
  · exact .inl h1
  · exact .inr ⟨g, cap, cur, hv, hb', (hw g (by rw [hv]; rfl)).trans hg, hr⟩

theorem apart1 {w : World} {base cb : Nat} {v iv : Value} {n : Nat} {xs : List Value} {M : List Ent} {last : Int} (h : w.ownsRow base 3 1 v n xs) (x : RefAt w cb iv M last) {k : Nat} (hk : v.ownBlock = some k) : ¬ OwnR cb iv k := by
  obtain ⟨c, hc⟩ := row1_block h hk
  rintro (rfl | hx)
  · rw [x.hdr] at hc; cases hc
  · obtain ⟨c', hc'⟩ := row_block x.row hx
    rw [hc'] at hc; cases hc

/-- One handle is given out: the append, then the removal. -/
theorem Out.step {w wr w3 w4 : World} {cb : Nat} {iv iv' : Value} {ao : Option Addr} {co g cap a : Nat} {L K M : List Ent} {en : Ent} (h : Out w wr cb iv ao co L K M) (o : Obj) (hown : w3.ownsRow w.heap.size 3 1 (.slice (some ⟨g, 0, none⟩) (K.length + 1) cap) (K.length + 1) (K.map idv ++ [idv en])) (hgrow : (wr.alloc o).grownBy w3 (Value.slice ao K.length co).ownBlock)
    (hL : Least M M.length a en) (h4 : RefAt w4 cb iv' (M.eraseIdx a) 0) (f4 : Fr (OwnR cb iv) w3 w4) (s4 : ∀ k, iv'.ownBlock = some k → w3.heap.size ≤ k) (hr3 : RefAt w3 cb iv M 0) : Out w w4 cb iv' (some ⟨g, 0, none⟩) cap L (K ++ [en]) (M.eraseIdx a) := by
  have f3 : Fr No w w3 := app_fr h.fr h.row o hgrow
  have hperm := erase_perm hL.1
  have hmem : ∀ e ∈ M.eraseIdx a, e ∈ M := fun e he => List.mem_of_mem_eraseIdx he
  refine ⟨f3.ofNew f4 (fun k hk => .inr (h.own k hk)), h4, fun k hk => ?_, ?_, ?_, ?_, ?_⟩
  · rcases hk with rfl | hk
    · exact h.own _ (.inl rfl)
    · exact Nat.le_trans f3.size (s4 k hk)
  · have e1 : (K ++ [en]).length = K.length + 1 := by simp
    have e2 : (K ++ [en]).map idv = K.map idv ++ [idv en] := by simp
    rw [e1, e2]
    exact row1_keep hown fun k hk => f4.block k (hown.lt k hk).2 (apart1 hown hr3 hk)
  · rw [List.append_assoc]
    exact (List.Perm.append_left K hperm).trans h.perm
  · rw [List.pairwise_append]
    exact ⟨h.srt, by simp, fun x hx y hy => by simp at hy; subst hy; exact h.cross x hx _ (List.mem_of_getElem? hL.1)⟩
  · intro k hk e he
    rcases List.mem_append.1 hk with hk | hk
    · exact h.cross k hk e (hmem e he)
    · simp at hk
      subst hk
      obtain ⟨j, hj⟩ := mem_get (hmem e he)
      have h1 := hL.not_lt (Nat.le_refl _) h.ref.lst.inc j e hj
      have hnd : ((k :: M.eraseIdx a).map Ent.id).Nodup := by
        refine (hperm.map Ent.id).nodup_iff.2 ?_
        have := List.pairwise_map.2 h.ref.lst.inc
        exact this.imp (fun h => by intro e; omega)
      have h2 : e.id ≠ k.id := fun e' => (List.nodup_cons.1 hnd).1 (List.mem_map.2 ⟨e, he, e'⟩)
      unfold Ent.lt at h1 ⊢
      omega

theorem Out.keep {w wr w' : World} {cb : Nat} {iv : Value} {ao : Option Addr} {co : Nat} {L K M : List Ent} (h : Out w wr cb iv ao co L K M) (hf : Fr No wr w') : Out w w' cb iv ao co L K M :=
  ⟨h.fr.trans hf, h.ref.frNo hf, h.own, row1_keep h.row (fun k hk => hf.block k (h.row.lt k hk).2 (fun h => h)), h.perm, h.srt, h.cross⟩

theorem Out.born {w w1 : World} {a1 : Option Addr} {cap1 : Nat} {L : List Ent} (hown : w1.ownsRow w.heap.size 43 3 (.slice a1 L.length cap1) L.length (flatR L)) (hf : Fr No w w1) (hl : Lst L) : Out w (w1.alloc (.cells #[.slice a1 L.length cap1, .int .i64 0] 28)) w1.heap.size (.slice a1 L.length cap1) none 0 L [] L := by
  refine ⟨hf.trans (Fr.alloc _ _ _), ⟨heap_alloc_new w1 _, own_base (hown.alloc _) (Nat.zero_le _), ?_, hl⟩, ?_, World.ownsRow_nil _ _ _ _, List.Perm.refl _, List.Pairwise.nil, fun k hk => by simp at hk⟩
  · intro e
    have := (hown.lt _ e).2
    omega
  · intro k hk
    rcases hk with rfl | hk
    · exact hf.size
    · exact (hown.lt _ hk).1

theorem Out.ints {w wr : World} {cb : Nat} {iv : Value} {ao : Option Addr} {co : Nat} {L K M : List Ent} (h : Out w wr cb iv ao co L K M) : IntsAt wr ao K.length (K.map Ent.id) := by
  refine ⟨by simp, fun i x hx => ?_⟩
  rw [List.getElem?_map] at hx
  obtain ⟨e, he, rfl⟩ := Option.map_eq_some_iff.1 hx
  have hl := (List.getElem?_eq_some_iff.1 he).1
  obtain ⟨g, cap, hv, _⟩ := h.row.form (by omega)
  cases hv
  refine ⟨g, rfl, ?_⟩
  rw [h.row.cellAt i (by omega), List.getElem?_map, he]
  rfl

set_option maxHeartbeats 4000000 in
set_option maxRecDepth 1000000 in
theorem handles_ref (xb : Nat) (iv : Value) (L : List Ent) (last : Int) (w : World) (h : RefAt w xb iv L last) :
    Calls Try.prog 24 #[.pointer (some ⟨xb, 0, none⟩)] w fun e w' => ∃ (a : Option Addr) (c : Nat) (T : List Ent), e = .returned (.slice a T.length c) ∧ T.Perm L ∧ T.Pairwise (fun a b => a.lt b) ∧ IntsAt w' a T.length (T.map Ent.id) ∧ Fr No w w' := by
  have hlen := h.lst.len
  have c0 := h.hcell.1
  obtain ⟨a, cap, rfl⟩ := h.form0
  obtain ⟨i0, hi0, hz0, hz1, hz2⟩ := info_parts (show (Try.prog.info? 3).map (fun i => (i.zero, i.size, i.bytes)) = some (some (.int .i64 0), 1, 8) by kernel_rfl)
  have HS := Lib.hid h
  clear h
  go_enter Try.func24, Try.ntmps24
  go_wp2_with (at_builtin; refine wpList_copy rfl _ _ rfl xb _ L last HS.out rfl rfl ?_; intro a1 cap1 w1 hown1 hf1; have H1 := Lib.hid (And.intro hown1 hf1); clear hown1 hf1)
  have HO0 := Lib.hid (Out.born H1.out.1 H1.out.2 HS.out.lst)
  clear H1 c0
  obtain ⟨cb, hcb⟩ : ∃ cb, w1.heap.size = cb := ⟨_, rfl⟩
  rw [hcb] at HO0 ⊢
  clear hcb
  revert HO0
  generalize w1.alloc (.cells #[.slice a1 L.length cap1, .int .i64 0] 28) = w2
  intro HO0
  refine (first_any cb _ L 0 _ HO0.out.ref).mono ?_
  rintro e w3 ⟨hf3, hfirst⟩
  obtain ⟨t, rfl, ht⟩ : ∃ t : Int, e = .returned (.int .i64 t) ∧ ((t = -1 ∧ L = []) ∨ ∃ (a : Nat) (en : Ent), t = (a : Int) ∧ Least L L.length a en) := by
    rcases hfirst with ⟨h1, h2⟩ | ⟨b, en, h1, h2⟩
    · exact ⟨-1, h1, .inl ⟨rfl, h2⟩⟩
    · exact ⟨b, h1, .inr ⟨b, en, rfl, h2⟩⟩
  have HO3 := Lib.hid (And.intro (HO0.out.keep hf3) ht)
  clear hf3 hfirst ht HO0
  go_wp2_with fail
  go_loopg [4, 5] (L.length + 1) (fun g so si wr => ∃ (K M : List Ent) (ao : Option Addr) (co : Nat) (iv' : Value) (t : Int), so = .slice ao K.length co ∧ si = .int .i64 t ∧ M.length < g ∧ K.length + M.length ≤ 1000 ∧ Hid (Out w wr cb iv' ao co L K M ∧ ((t = -1 ∧ M = []) ∨ ∃ (a : Nat) (en : Ent), t = (a : Int) ∧ Least M M.length a en)))
  case atStart => exact ⟨[], L, none, 0, _, t, by go_num, rfl, by omega, by simpa using hlen, HO3.out⟩
  case round =>
    obtain ⟨K, M, ao, co, iv', t, rfl, rfl, hMg, hKM, HR⟩ := hrel
    clear HO3
    rcases HR.out.2 with ⟨ht, hM⟩ | ⟨b, en, ht, hL⟩
    · subst ht
      go_wp2_with fail
      go_ret
      have hp := HR.out.1.perm
      rw [hM, List.append_nil] at hp
      exact ⟨ao, co, K, rfl, hp, HR.out.1.srt, HR.out.1.ints, HR.out.1.fr⟩
    · subst ht
      have hML := (List.getElem?_eq_some_iff.1 hL.1).1
      have hx := HR.out.1.ref
      obtain ⟨g, cap', hv⟩ := hx.form (by omega)
      obtain ⟨m, hm⟩ : ∃ m, M.length = m := ⟨_, rfl⟩
      rw [hm] at hv hML hMg hKM
      subst hv
      have x0 := hx.hcell.1
      have x1 := (hx.ecell hL.1).1
      have hbase : w.heap.size ≤ wr.heap.size := HR.out.1.fr.size
      have HL := Lib.hid (And.intro hL hm)
      have p1 : (0 : Int) ≤ (b : Int) := by omega
      have p2 : (b : Int) < (m : Int) := by omega
      obtain ⟨kl, hkl⟩ : ∃ kl, K.length = kl := ⟨_, rfl⟩
      have HROW : Hid (wr.ownsRow w.heap.size 3 1 (.slice ao kl co) kl (K.map idv)) := by have := HR.out.1.row; rw [hkl] at this; exact this
      have HKL := Lib.hid hkl
      rw [hkl] at hKM ⊢
      clear hx hL hm hkl
      go_wp2_with (at_builtin; refine wpList_append_lies _ rfl _ _ _ rfl w.heap.size 3 i0 _ 1 8 Try.underlying46 hi0 hz0 hz1 hz2 rfl (by omega) (.slice ao kl co) kl _ rfl (HROW.out.alloc _) ⟨wr.heap.size, 0, none⟩ 1 1 [.int .i64 en.id] rfl rfl (World.news_of_block (cs := #[.int .i64 en.id]) (t := 3) (fr := (0, 0)) (heap_alloc_new wr _)) (by simp [Value.oneCell']) (by omega) (by unfold maxLen; omega) (by omega) (by simp; omega) (wr.heap.size + 1) (by simp) ?_; intro g6 cap6 w3 hown hgrow hat hlt; have H3 := Lib.hid (And.intro hown hgrow); clear hown hgrow hat hlt)
      have hr3 : RefAt w3 cb (.slice (some ⟨g, 0, none⟩) m cap') M 0 := HR.out.1.ref.keep fun k hk => by
        have hkl := HR.out.1.ref.own_lt hk
        exact (H3.out.2.block k (by simp; omega) (fun e => apart1 HROW.out HR.out.1.ref e.symm hk)).trans (Below.heap_alloc wr _ k hkl)
      have HR3 := Lib.hid hr3
      clear hr3 x0 x1
      refine (removeAt_ref cb _ M 0 b en _ HR3.out HL.out.1.1).mono ?_
      rintro e w4 ⟨rfl, iv4, h4, f4, s4⟩
      have HO4 : Hid (Out w w4 cb iv4 (some ⟨g6, 0, none⟩) cap6 L (K ++ [en]) (M.eraseIdx b)) := by
        have hkl := HKL.out
        subst hkl
        exact HR.out.1.step _ H3.out.1 H3.out.2 HL.out.1 h4 f4 s4 HR3.out
      clear h4 f4 s4
      go_wp2_with fail
      refine (first_any cb _ _ 0 _ HO4.out.ref).mono ?_
      rintro e w5 ⟨hf5, hfirst⟩
      obtain ⟨t5, rfl, ht5⟩ : ∃ t : Int, e = .returned (.int .i64 t) ∧ ((t = -1 ∧ M.eraseIdx b = []) ∨ ∃ (a : Nat) (en : Ent), t = (a : Int) ∧ Least (M.eraseIdx b) (M.eraseIdx b).length a en) := by
        rcases hfirst with ⟨h1, h2⟩ | ⟨b', en', h1, h2⟩
        · exact ⟨-1, h1, .inl ⟨rfl, h2⟩⟩
        · exact ⟨b', h1, .inr ⟨b', en', rfl, h2⟩⟩
      have HO5 := Lib.hid (And.intro (HO4.out.keep hf5) ht5)
      clear hf5 hfirst ht5
      have hel : (M.eraseIdx b).length + 1 = m := by have h2 := HL.out.2; have := List.length_eraseIdx_of_lt (l := M) (i := b) (by omega); omega
      have hkl1 : (K ++ [en]).length = kl + 1 := by simp [HKL.out]
      have HE := Lib.hid (And.intro hel hkl1)
      clear hel hkl1
      go_wp2_with fail
      go_roundg m
      case measure => exact hMg
      case rel =>
        obtain ⟨hel, hkl1⟩ := HE.out
        exact ⟨K ++ [en], M.eraseIdx b, some ⟨g6, 0, none⟩, cap6, iv4, t5, by rw [hkl1], rfl, by omega, by omega, HO5.out⟩

end Go.Proofs.Ytbobokhlcbojkaa
