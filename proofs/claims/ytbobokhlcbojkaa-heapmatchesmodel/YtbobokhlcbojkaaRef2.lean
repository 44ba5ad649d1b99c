/-
  CONTRACTS of Push and RemoveAt of the reference heap over this seat's translation.
  Conditions: the reference heap lies in memory as RefAt says; few entries.
-/
import Derived.Test.YtbobokhlcbojkaaRef
import Derived.Deep.RegionLaw
import Derived.Maps.AppendAt
namespace Go.Proofs.Ytbobokhlcbojkaa
open Go.ChangeShapes Go.WideShapes Go.ChangeAt Go.RowKit Go.Maps
set_option linter.unusedVariables false

theorem infoR : (Try.prog.info? 43).map (fun i => (i.zero, i.size, i.bytes)) = some (some (.agg #[.int .i64 0, .int .u64 0, .int .i64 0]), 3, 24) := by kernel_rfl

/-- append of any number of elements onto a row of one's own, as one step of a region that draws: where the new row lies. -/
theorem step_append_any {P : Program} {w : World} {ops : Array Oper} {o : Oper} {a : Act} {K : Act → World → Prop} {Q : Exit → Act → World → Prop} {E : Prop} (hgd : o.guard = none) (s x : Operand) (t : TypeId)
    (ho : o.op = .call { callee := .builtin .append, args := #[s, x], argTypes := #[t, t] })
    (base : Nat) (e : TypeId) (i : TypeInfo) (z : Value) (size bytes : Nat) (ht : P.underlying t = some (.slice e)) (hi : P.info? e = some i) (hz : i.zero = some z)
    (hsize : i.size = size) (hby : i.bytes = bytes) (hzs : z.cells.size = size) (hsz : 0 < size)
    (v : Value) (n : Nat) (xs : List Value) (hs : a.eval s = v) (hown : w.ownsRow base e size v n xs)
    (ad : Addr) (m c : Nat) (news : List Value) (hx : a.eval x = .slice (some ad) m c) (hl : news.length = m * size) (hnews : ∀ j u, news[j]? = some u → w.cell? (ad.add j) = some u) (h1 : ∀ u ∈ news, u.oneCell' = true)
    (h63 : n + m ≤ maxLen) (hbytes : (n + m) * bytes ≤ 140737488355328) (hbase : base ≤ w.heap.size) (H : Nat) (hH : w.heap.size = H)
    (h : ∀ a' cap w', w'.ownsRow base e size (.slice a' (n + m) cap) (n + m) (xs ++ news) → w.grownBy w' v.ownBlock → (∀ g, (Value.slice a' (n + m) cap).ownBlock = some g → v.ownBlock = some g ∨ g = H) → K (a.put o.dst (.slice a' (n + m) cap)) w') :
    if Region.wanted o (yielded ops a.tmps) = true then Oper.wp P o a w K Q else E := by
  have hw : Region.wanted o (yielded ops a.tmps) = true := by simp [Region.wanted, hgd]
  rw [if_pos hw]
  obtain ⟨v', w', hr, h2, h3, _, h5⟩ := run_append_own_at (P := P) w base t o.type e i z size bytes ht hi hz hsize hby hzs hsz v n xs hown ad m c news hl hnews h1 h63 hbytes hbase
  obtain ⟨a', cap, rfl⟩ : ∃ a' cap, v' = .slice a' (n + m) cap := by
    rcases h2.2 with ⟨hv, hn⟩ | ⟨g, cap, cur, hv, _⟩
    · exact ⟨none, 0, by rw [hv, hn]⟩
    · exact ⟨_, cap, hv⟩
  unfold Oper.wp execOp
  simp only [ho, resolve, invoke, builtin, Sem.run_bind, Sem.run_pure, Result.andThen_ok, List.map_toArray, List.map_cons, List.map_nil, hs, hx, hr]
  refine h a' cap w' h2 h3 fun g hg => ?_
  rcases h5 with h5 | h5
  · exact .inl (by rw [← h5]; exact hg)
  · right
    rw [h5] at hg
    simp at hg
    omega

theorem Lst.sub {L K : List Ent} (h : Lst L) (hs : K.Sublist L) : Lst K :=
  have hm : ∀ (i : Nat) (e : Ent), K[i]? = some e → ∃ j : Nat, L[j]? = some e := fun i e he => mem_get (hs.subset (List.mem_of_getElem? he))
  ⟨fun i e he => let ⟨j, hj⟩ := hm i e he; h.val j e hj, h.inc.sublist hs, fun i e he => let ⟨j, hj⟩ := hm i e he; h.due j e hj, Nat.le_trans hs.length_le h.len⟩

theorem ref_store {w w2 : World} {xb : Nat} {iv iv' : Value} {L K : List Ent} {last : Int} (h : RefAt w xb iv L last) (hb : w2.heap[xb]? = w.heap[xb]?) (hrow : w2.ownsRow 0 43 3 iv' K.length (flatR K)) (hK : Lst K) (hap : ∀ k, iv'.ownBlock = some k → k ≠ xb) : RefAt (w2.setCell ⟨xb, 0, none⟩ iv') xb iv' K last := by
  refine ⟨?_, row_keep hrow fun k hk => heap_setCell_other _ _ _ _ (hap k hk), fun e => hap xb e rfl, hK⟩
  rw [heap_setCell_same w2 xb 0 _ _ iv' (hb.trans h.hdr)]
  rfl

theorem erase_eq (L : List Ent) (i : Nat) : flatR (L.take i) ++ flatR (L.drop (i + 1)) = flatR (L.eraseIdx i) := by
  rw [← flatR_append, List.eraseIdx_eq_take_drop_succ]

set_option maxHeartbeats 4000000 in
set_option maxRecDepth 1000000 in
theorem removeAt_ref (xb : Nat) (iv : Value) (L : List Ent) (last : Int) (i : Nat) (e0 : Ent) (w : World) (h : RefAt w xb iv L last) (hi : L[i]? = some e0) :
    Calls Try.prog 17 #[.pointer (some ⟨xb, 0, none⟩), .int .i64 i] w fun e w' => e = .returned (.tuple #[]) ∧ ∃ iv', RefAt w' xb iv' (L.eraseIdx i) last ∧ Fr (OwnR xb iv) w w' ∧ (∀ k, iv'.ownBlock = some k → w.heap.size ≤ k) := by
  have hil : i < L.length := (List.getElem?_eq_some_iff.1 hi).1
  have hlen := h.lst.len
  obtain ⟨n, hn⟩ : ∃ n, L.length = n := ⟨_, rfl⟩
  obtain ⟨g, cap, rfl⟩ := h.form (by omega)
  rw [hn] at h hil hlen ⊢
  obtain ⟨i0, hi0, hz0, hz1, hz2⟩ := info_parts infoR
  have hrow : w.ownsRow 0 43 3 (.slice (some ⟨g, 0, none⟩) n cap) n (flatR L) := by have := h.row; rw [hn] at this; exact this
  have hcap : n ≤ cap := by
    rcases hrow.2 with ⟨h', _⟩ | ⟨g', cap', cur, h', _, _, hnc, _⟩
    · cases h'
    · cases h'; exact hnc
  have c0 := h.hcell.1
  have f0 := h.hfrozen 0
  have hxl := h.lt
  have hgl : g < w.heap.size := h.own_lt (Or.inr rfl)
  have hgx : g ≠ xb := fun e => h.apart (by simp [Value.ownBlock, e])
  have hcells : ∀ (o k : Nat) (K : List Ent), (∀ (j : Nat) (u : Value), (flatR K)[j]? = some u → (flatR L)[o + j]? = some u) → ∀ j u, (flatR K)[j]? = some u → w.cell? ((⟨g, o, none⟩ : Addr).add j) = some u := by
    intro o k K hK j u hu
    have h1 := hK j u hu
    rw [Go.WideShapes.add_plain, hrow.cellAt _ (by have := (List.getElem?_eq_some_iff.1 h1).1; rw [flatR_length, hn] at this; exact this)]
    exact h1
  have hone : ∀ K : List Ent, K.Sublist L → ∀ u ∈ flatR K, u.oneCell' = true := by
    intro K hK
    have hv := (h.lst.sub hK).val
    clear hK
    induction K with
    | nil => intro u hu; simp [flatR] at hu
    | cons a K ih =>
      intro u hu
      simp only [flatR, List.mem_cons] at hu
      rcases hu with rfl | rfl | rfl | hu
      · rfl
      · rfl
      · obtain ⟨x, hx⟩ := hv 0 a (by simp); rw [hx]; rfl
      · exact ih (fun j e hj => hv (j + 1) e (by simpa using hj)) u hu
  have hA := hcells 0 0 (L.take i) (fun j u hu => by rw [← flatR_take, List.getElem?_take] at hu; split at hu; simpa using hu; cases hu)
  have hB := hcells ((i + 1) * 3) 0 (L.drop (i + 1)) (fun j u hu => by rw [← flatR_drop, List.getElem?_drop] at hu; exact hu)
  have lA : (flatR (L.take i)).length = i * 3 := by rw [flatR_length]; simp; omega
  have lB : (flatR (L.drop (i + 1))).length = (n - (i + 1)) * 3 := by rw [flatR_length]; simp; omega
  have H := Lib.hid (And.intro h (And.intro hn (And.intro hA (And.intro hB (And.intro lA (And.intro lB (And.intro (hone (L.take i) (List.take_sublist _ _)) (hone (L.drop (i + 1)) (List.drop_sublist _ _)))))))))
  clear h hn hA hB lA lB hone hcells hrow hi
  have p1 : (0 : Int) ≤ (i : Int) := by omega
  have p2 : (i : Int) ≤ (cap : Int) := by omega
  have p3 : (i : Int) + 1 ≤ (n : Int) := by omega
  have p4 : (n : Int) ≤ (cap : Int) := by omega
  have p5 : (0 : Int) ≤ (i : Int) + 1 := by omega
  have hwr : IntKind.i64.wrap ((i : Int) + 1) = (i : Int) + 1 := by rw [IntKind.wrap_i64]; omega
  by_cases hci : cap = i + 1
  · have hni : n = i + 1 := by omega
    have hdr : L.drop (i + 1) = [] := List.drop_of_length_le (by rw [H.out.2.1]; omega)
    have HD := Lib.hid hdr
    clear hdr
    subst hci
    subst hni
    have p2' : (i : Int) ≤ (i : Int) + 1 := by omega
    clear p2 p3 p4 hcap
    go_enter Try.func17, Try.ntmps17
    go_wp2_with fail
    go_region_law (first | ((refine step_append_any ?_ (.const (.slice none 0 0)) (.tmp 10) 26 ?_ 0 43 i0 _ 3 24 Try.underlying26 hi0 hz0 hz1 hz2 rfl (by omega) (.slice none 0 0) 0 [] ?_ (World.ownsRow_nil _ _ _ _) ⟨g, 0, none⟩ i (i + 1) (flatR (L.take i)) ?_ H.out.2.2.2.2.1 H.out.2.2.1 H.out.2.2.2.2.2.2.1 (by unfold maxLen; omega) (by omega) (Nat.zero_le _) w.heap.size rfl ?_; (any_goals rfl); intro a1 cap1 w1 hown1 hgrow1 hat1; have hx1 : w1.heap[xb]? = w.heap[xb]? := hgrow1.block xb hxl (by simp [Value.ownBlock]); have hg1 : w1.heap[g]? = w.heap[g]? := hgrow1.block g hgl (by simp [Value.ownBlock]); have k0 := (World.cell?_of_block (a := ⟨xb, 0, none⟩) hx1).trans c0; simp only [Nat.zero_add, List.nil_append] at hown1 hat1 ⊢; have H1 := Lib.hid (And.intro hown1 (And.intro hgrow1 (And.intro hat1 (And.intro hx1 hg1)))); clear hown1 hgrow1 hat1 hx1 hg1)) | ((refine step_append_any ?_ (.tmp 11) (.tmp 18) 26 ?_ 0 43 i0 _ 3 24 Try.underlying26 hi0 hz0 hz1 hz2 rfl (by omega) (.slice a1 i cap1) i (flatR (L.take i)) ?_ H1.out.1 ⟨g, 0, none⟩ 0 0 [] ?_ rfl (fun j u hu => by simp at hu) (fun u hu => by simp at hu) (by unfold maxLen; omega) (by omega) (Nat.zero_le _) w1.heap.size rfl ?_; (any_goals rfl); intro a2 cap2 w2 hown2 hgrow2 hat2; simp only [Nat.add_zero, List.append_nil] at hown2 hat2 ⊢; have hx2 : w2.heap[xb]? = w.heap[xb]? := (hgrow2.block xb (Nat.lt_of_lt_of_le hxl H1.out.2.1.size) (fun e => by rcases H1.out.2.2.1 xb e.symm with h9 | h9; cases h9; omega)).trans H1.out.2.2.2.1; have k2 := (World.cell?_of_block (a := ⟨xb, 0, none⟩) hx2).trans c0; have k3 := (World.frozen?_of_block (a := ⟨xb, 0, none⟩) hx2).trans f0; have H2 := Lib.hid (And.intro hown2 (And.intro hgrow2 (And.intro hat2 hx2))); clear hown2 hgrow2 hat2 hx2)))
    all_goals (
      go_wp2_with fail
      go_end0
      obtain ⟨hown1, hgrow1, hat1, hx1, hg1⟩ := H1.out
      obtain ⟨hown2, hgrow2, hat2, hx2⟩ := H2.out
      have hloc : ∀ k, (Value.slice a2 i cap2).ownBlock = some k → w.heap.size ≤ k := by
        intro k hk
        rcases hat2 k hk with h1 | h1
        · rcases hat1 k h1 with h2 | h2
          · cases h2
          · omega
        · have := hgrow1.size
          rw [heap_drew] at this
          omega
      have hKl : (L.eraseIdx i).length = i := by rw [List.length_eraseIdx, H.out.2.1, if_pos hil]; omega
      have hE : flatR (L.take i) = flatR (L.eraseIdx i) := by rw [← erase_eq, HD.out]; simp [flatR]
      rw [hE] at hown2
      refine ⟨rfl, _, ref_store H.out.1 hx2 (by rw [hKl]; exact hown2) (H.out.1.lst.sub (List.eraseIdx_sublist _ _)) (fun k hk e => by have := hloc k hk; omega), ?_, hloc⟩
      have hF1 : Fr (OwnR xb (.slice (some ⟨g, 0, none⟩) (i + 1) (i + 1))) w w1 := (Fr.drew _ w).trans (Fr.grown hgrow1 (fun k hk => by cases hk))
      have hF2 : Fr (OwnR xb (.slice (some ⟨g, 0, none⟩) (i + 1) (i + 1))) w w2 := hF1.ofNew (T := fun k => (Value.slice a1 i cap1).ownBlock = some k) (Fr.grown hgrow2 (fun k hk => hk)) (fun k hk => by rcases hat1 k hk with h2 | h2; cases h2; exact .inr (by omega))
      exact hF2.trans (Fr.setCell _ _ ⟨xb, 0, none⟩ _ (Or.inl rfl)))
  · go_enter Try.func17, Try.ntmps17
    go_wp2_with fail
    go_region_law (first | ((refine step_append_any ?_ (.const (.slice none 0 0)) (.tmp 10) 26 ?_ 0 43 i0 _ 3 24 Try.underlying26 hi0 hz0 hz1 hz2 rfl (by omega) (.slice none 0 0) 0 [] ?_ (World.ownsRow_nil _ _ _ _) ⟨g, 0, none⟩ i cap (flatR (L.take i)) ?_ H.out.2.2.2.2.1 H.out.2.2.1 H.out.2.2.2.2.2.2.1 (by unfold maxLen; omega) (by omega) (Nat.zero_le _) w.heap.size rfl ?_; (any_goals rfl); intro a1 cap1 w1 hown1 hgrow1 hat1; have hx1 : w1.heap[xb]? = w.heap[xb]? := hgrow1.block xb hxl (by simp [Value.ownBlock]); have hg1 : w1.heap[g]? = w.heap[g]? := hgrow1.block g hgl (by simp [Value.ownBlock]); have k0 := (World.cell?_of_block (a := ⟨xb, 0, none⟩) hx1).trans c0; simp only [Nat.zero_add, List.nil_append] at hown1 hat1 ⊢; have H1 := Lib.hid (And.intro hown1 (And.intro hgrow1 (And.intro hat1 (And.intro hx1 hg1)))); clear hown1 hgrow1 hat1 hx1 hg1)) | ((refine step_append_any ?_ (.tmp 11) (.tmp 18) 26 ?_ 0 43 i0 _ 3 24 Try.underlying26 hi0 hz0 hz1 hz2 rfl (by omega) (.slice a1 i cap1) i (flatR (L.take i)) ?_ H1.out.1 ⟨g, (i + 1) * 3, none⟩ (n - (i + 1)) (cap - (i + 1)) (flatR (L.drop (i + 1))) ?_ H.out.2.2.2.2.2.1 (fun j u hu => (World.cell?_of_block (a := (⟨g, (i + 1) * 3, none⟩ : Addr).add j) (by rw [Go.WideShapes.add_plain]; exact H1.out.2.2.2.2)).trans (H.out.2.2.2.1 j u hu)) H.out.2.2.2.2.2.2.2 (by unfold maxLen; omega) (by omega) (Nat.zero_le _) w1.heap.size rfl ?_; (any_goals rfl); intro a2 cap2 w2 hown2 hgrow2 hat2; have hx2 : w2.heap[xb]? = w.heap[xb]? := (hgrow2.block xb (Nat.lt_of_lt_of_le hxl H1.out.2.1.size) (fun e => by rcases H1.out.2.2.1 xb e.symm with h9 | h9; cases h9; omega)).trans H1.out.2.2.2.1; have k2 := (World.cell?_of_block (a := ⟨xb, 0, none⟩) hx2).trans c0; have k3 := (World.frozen?_of_block (a := ⟨xb, 0, none⟩) hx2).trans f0; have H2 := Lib.hid (And.intro hown2 (And.intro hgrow2 (And.intro hat2 hx2))); clear hown2 hgrow2 hat2 hx2)))
    all_goals (
      go_wp2_with fail
      go_end0
      obtain ⟨hown1, hgrow1, hat1, hx1, hg1⟩ := H1.out
      obtain ⟨hown2, hgrow2, hat2, hx2⟩ := H2.out
      have hloc : ∀ k, (Value.slice a2 (i + (n - (i + 1))) cap2).ownBlock = some k → w.heap.size ≤ k := by
        intro k hk
        rcases hat2 k hk with h1 | h1
        · rcases hat1 k h1 with h2 | h2
          · cases h2
          · omega
        · have := hgrow1.size
          rw [heap_drew] at this
          omega
      have hKl : (L.eraseIdx i).length = i + (n - (i + 1)) := by rw [List.length_eraseIdx, H.out.2.1, if_pos hil]; omega
      rw [erase_eq] at hown2
      rw [← hKl] at hown2 hloc ⊢
      refine ⟨rfl, _, ref_store H.out.1 hx2 hown2 (H.out.1.lst.sub (List.eraseIdx_sublist _ _)) (fun k hk e => by have := hloc k hk; omega), ?_, hloc⟩
      have hF1 : Fr (OwnR xb (.slice (some ⟨g, 0, none⟩) n cap)) w w1 := (Fr.drew _ w).trans (Fr.grown hgrow1 (fun k hk => by cases hk))
      have hF2 : Fr (OwnR xb (.slice (some ⟨g, 0, none⟩) n cap)) w w2 := hF1.ofNew (T := fun k => (Value.slice a1 i cap1).ownBlock = some k) (Fr.grown hgrow2 (fun k hk => hk)) (fun k hk => by rcases hat1 k hk with h2 | h2; cases h2; exact .inr (by omega))
      exact hF2.trans (Fr.setCell _ _ ⟨xb, 0, none⟩ _ (Or.inl rfl)))

end Go.Proofs.Ytbobokhlcbojkaa
