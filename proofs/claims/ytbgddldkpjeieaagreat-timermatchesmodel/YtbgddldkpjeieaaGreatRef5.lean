/-
  CONTRACT of Cancel of the reference's timers over this seat's translation.
  Conditions: the reference's timers lie in memory as RefAt says, in the form of a tree.
-/
import Derived.Test.YtbgddldkpjeieaaGreatRef4a
import Derived.Test.YtbgddldkpjeieaaGreatSortK
namespace Go.Proofs.YtbgddldkpjeieaaGreat
open Go.ChangeShapes Go.WideShapes Go.ChangeAt Go.RowKit Go.Maps
set_option linter.unusedVariables false

/-- append of any number of elements onto a row of one's own, as one step of a region that draws: where the new row lies. -/
theorem step_append_any {P : Program} {w : World} {ops : Array Oper} {o : Oper} {a : Act} {K : Act → World → Prop} {Q : Exit → Act → World → Prop} {E : Prop} (hgd : o.guard = none) (s x : Operand) (t : TypeId)
    (ho : o.op = .call { callee := .builtin .append, args := #[s, x], argTypes := #[t, t] })
    (base : Nat) (e : TypeId) (i : TypeInfo) (z : Value) (size bytes : Nat) (ht : P.underlying t = some (.slice e)) (hi : P.info? e = some i) (hz : i.zero = some z)
    (hsize : i.size = size) (hby : i.bytes = bytes) (hzs : z.cells.size = size) (hsz : 0 < size)
    (v : Value) (n : Nat) (xs : List Value) (hs : a.eval s = v) (hown : w.ownsRow base e size v n xs)
    (ad : Addr) (m c : Nat) (news : List Value) (hx : a.eval x = .slice (some ad) m c) (hl : news.length = m * size) (hnews : ∀ j u, news[j]? = some u → w.cell? (ad.add j) = some u) (h1 : ∀ u ∈ news, u.oneCell' = true)
    (h63 : n + m ≤ maxLen) (hbytes : (n + m) * bytes ≤ 140737488355328) (hbase : base ≤ w.heap.size) (H : Nat) (hH : w.heap.size = H)
    (h : ∀ a' cap w', w'.ownsRow base e size (.slice a' (n + m) cap) (n + m) (xs ++ news) → w.grownBy w' v.ownBlock → (∀ g, (Value.slice a' (n + m) cap).ownBlock = some g → v.ownBlock = some g ∨ g = H) → K (a.put o.dst (.slice a' (n + m) cap)) w') :
    if Region.wanted o (yielded ops a.tmps) = true then Oper.wp P o a w K Q else E := by
  have hw : Region.wanted o (yielded ops a.tmps) = true := by simp [Region.wanted, hgd]
  rw [if_pos hw]
  obtain ⟨v', w', hr, h2, h3, _, h5⟩ := run_append_own_at (P := P) w base t o.type e i z size bytes ht hi hz hsize hby hzs hsz v n xs hown ad m c news hl hnews h1 h63 hbytes hbase
  obtain ⟨a', cap, rfl⟩ : ∃ a' cap, v' = .slice a' (n + m) cap := by
    rcases h2.2 with ⟨hv, hn⟩ | ⟨g, cap, cur, hv, _⟩
    · exact ⟨none, 0, by rw [hv, hn]⟩
    · exact ⟨_, cap, hv⟩
  unfold Oper.wp execOp
  simp only [ho, resolve, invoke, builtin, Sem.run_bind, Sem.run_pure, Result.andThen_ok, List.map_toArray, List.map_cons, List.map_nil, hs, hx, hr]
  refine h a' cap w' h2 h3 fun g hg => ?_
  rcases h5 with h5 | h5
  · exact .inl (by rw [← h5]; exact hg)
  · right
    rw [h5] at hg
    simp at hg
    omega

theorem erase_eq (L : List Rec) (i : Nat) : flat6 (L.take i) ++ flat6 (L.drop (i + 1)) = flat6 (L.eraseIdx i) := by
  rw [← flat6_append, List.eraseIdx_eq_take_drop_succ]

theorem one_flat6 {K : List Rec} (hv : ∀ r ∈ K, IsTag r.val) : ∀ u ∈ flat6 K, u.oneCell' = true := by
  induction K with
  | nil => intro u hu; simp [flat6] at hu
  | cons a K ih =>
    intro u hu
    obtain ⟨x, y, z, hx⟩ := hv a List.mem_cons_self
    simp only [flat6, List.mem_cons, hx, (tg_mk x y z).1, (tg_mk x y z).2.1, (tg_mk x y z).2.2] at hu
    rcases hu with rfl | rfl | rfl | rfl | rfl | rfl | hu
    · rfl
    · rfl
    · rfl
    · rfl
    · rfl
    · rfl
    · exact ih (fun r hr => hv r (List.mem_cons_of_mem _ hr)) u hu

theorem row1_keep' {w w' : World} {base lb n cap : Nat} {xs : List Value} (h : w.ownsRow base 3 1 (.slice (some ⟨lb, 0, none⟩) n cap) n xs) (hk : w'.heap[lb]? = w.heap[lb]?) : w'.ownsRow base 3 1 (.slice (some ⟨lb, 0, none⟩) n cap) n xs := by
  refine ⟨h.1, ?_⟩
  rcases h.2 with ⟨hv, _⟩ | ⟨g, cap', cur, hv, h1, h2, h3⟩
  · cases hv
  · cases hv; exact .inr ⟨lb, cap, cur, rfl, h1, hk.trans h2, h3⟩

/-- What is left of L when the handles of l are gone. -/
def without (L : List Rec) (l : List Int) : List Rec := L.filter (fun r => !l.contains r.id)

theorem without_step {L : List Rec} (hs : L.Pairwise (fun a b => a.id < b.id)) {l : List Int} {x : Int} {i : Nat} {r : Rec} (hi : (without L l)[i]? = some r) (hx : r.id = x) : (without L l).eraseIdx i = without L (l ++ [x]) := by
  have h1 : (without L l).Pairwise (fun a b => a.id < b.id) := hs.filter _
  have h2 : without L (l ++ [x]) = (without L l).filter (fun r => !(r.id == x)) := by
    unfold without
    rw [List.filter_filter]
    refine List.filter_congr fun r _ => ?_
    by_cases h : r.id = x <;> simp [h]
  rw [h2]
  generalize without L l = K at h1 hi
  clear h2 hs
  induction K generalizing i with
  | nil => simp at hi
  | cons a K ih =>
    have h3 := List.pairwise_cons.1 h1
    cases i with
    | zero =>
      simp at hi
      subst hi
      have h4 : K.filter (fun r => !(r.id == x)) = K := List.filter_eq_self.2 fun r hr => by
        have := h3.1 r hr
        simp
        omega
      simp [hx, h4]
    | succ i =>
      have hi' : K[i]? = some r := by simpa using hi
      have h5 := h3.1 r (List.mem_of_getElem? hi')
      have h6 := ih h3.2 hi'
      have h7 : ¬ a.id = x := by omega
      simp [h6, h7]

theorem without_fam {L : List Rec} {last : Int} (h : Wood L last) {q : Rec} (hq : q ∈ L) : without L ((below L q.id L).map Rec.id ++ [q.id]) = rest L q.id := by
  unfold without rest
  refine List.filter_congr fun r hr => ?_
  congr 1
  have hf := below_fam h hq
  cases hu : isU L q.id r with
  | false =>
    have hnu : ¬ Under L q.id r.id := fun e => by rw [isU_iff.2 e] at hu; cases hu
    rw [Bool.eq_false_iff]
    intro hc
    rw [List.contains_iff_mem, List.mem_append] at hc
    rcases hc with hc | hc
    · obtain ⟨r', hr', he⟩ := List.mem_map.1 hc
      obtain ⟨h1, h2⟩ := List.mem_filter.1 hr'
      exact hnu (he ▸ (isB_iff.1 h2).1)
    · simp at hc
      exact hnu (hc ▸ .self)
  | true =>
    rw [List.contains_iff_mem, List.mem_append]
    have hm : r ∈ fam L q.id := mem_fam.2 ⟨hr, isU_iff.1 hu⟩
    rw [hf] at hm
    rcases List.mem_cons.1 hm with rfl | hm
    · exact .inr (by simp)
    · exact .inl (List.mem_map_of_mem hm)

theorem cancel_ref_miss (X : Nat → Prop) (xb : Nat) (L : List Rec) (last k : Int) (w : World) (h : Rf X w xb L last) (hno : ∀ r ∈ L, r.id ≠ k) :
    Calls Tryz.prog 15 #[.pointer (some ⟨xb, 0, none⟩), .int .i64 k] w fun e w' => e = .returned (.int .i64 0) ∧ w' = w := by
  obtain ⟨iv, h, hwd, hX⟩ := h
  have HS := Lib.hid (And.intro h hno)
  clear h hno hX hwd
  go_enter Tryz.func15, Tryz.ntmps15
  go_wp2_with fail
  refine (find_miss xb _ L last k _ HS.out.1 HS.out.2).mono ?_
  rintro e w1 ⟨rfl, rfl⟩
  go_wp2_with fail
  go_ret
  exact ⟨rfl, rfl⟩

set_option maxHeartbeats 8000000 in
set_option maxRecDepth 1000000 in
theorem cancel_ref (X : Nat → Prop) (xb : Nat) (L : List Rec) (last : Int) (q : Rec) (w : World) (h : Rf X w xb L last) (hq : q ∈ L) (hS : ∀ k, w.heap.size ≤ k → X k) :
    Calls Tryz.prog 15 #[.pointer (some ⟨xb, 0, none⟩), .int .i64 q.id] w fun e w' => e = .returned (.int .i64 (fam L q.id).length) ∧ Rf X w' xb (rest L q.id) last ∧ Fr X w w' := by
  obtain ⟨iv0, h, hwd, hX⟩ := h
  obtain ⟨iq, hiq⟩ := List.mem_iff_getElem?.1 hq
  have hxl0 := h.lt
  have hbl : (below L q.id L).length + 1 = (fam L q.id).length := by rw [below_fam hwd hq]; rfl
  have hfl : (fam L q.id).length ≤ 1000 := by have h1 := fam_len L q.id; have h2 := h.len; omega
  obtain ⟨i0, hi0, hz0, hz1, hz2⟩ := info_parts infoR
  obtain ⟨i3, hi3, hy0, hy1, hy2⟩ := info_parts info3
  have HS := Lib.hid (And.intro h (And.intro hwd (And.intro hq (And.intro hX hS))))
  have HI := Lib.hid hiq
  have p0 : ¬ ((iq : Int) < 0) := by omega
  clear h hwd hq hX hS hiq
  go_enter Tryz.func15, Tryz.ntmps15
  go_wp2_with fail
  refine (find_hit xb _ L last iq q _ HS.out.1 HI.out).mono ?_
  rintro e w1 ⟨rfl, rfl⟩
  rename World => w
  go_wp2_with fail
  refine (desc_ref xb _ L last q _ HS.out.1 HS.out.2.1 HS.out.2.2.1).mono ?_
  rintro e w2 ⟨a2, cap2, rfl, hrow2, hf2⟩
  have hsz2 := hf2.size
  obtain ⟨m, hm⟩ : ∃ m, (below L q.id L).length = m := ⟨_, rfl⟩
  rw [hm] at hrow2 hbl ⊢
  have HBL := Lib.hid hbl
  have H2 := Lib.hid (And.intro hrow2 hf2)
  clear hrow2 hf2
  have hm1 : m < 1000 := by omega
  clear hbl
  go_wp2_with (first
    | (at_builtin; refine wpList_append_own _ rfl (.tmp 14) (.tmp 16) 64 rfl w.heap.size 3 i3 (.int .i64 0) 1 8 Tryz.underlying64 hi3 hy0 hy1 hy2 rfl (by decide) (.slice a2 m cap2) m _ rfl (H2.out.1.alloc _) ⟨w2.heap.size, 0, none⟩ 1 1 [.int .i64 q.id] rfl rfl (one_cell w2 q.id) (one_one q.id) (by unfold maxLen; omega) (by omega) (by simp; omega) ?_; intro v3 w3 hown3 hgrow3 _)
    | go_in)
  obtain ⟨lb, capl, rfl⟩ : ∃ lb capl, v3 = .slice (some ⟨lb, 0, none⟩) (m + 1) capl := by
    rcases hown3.2 with ⟨_, h0⟩ | ⟨g8, cap8, _, hv, _⟩
    · omega
    · exact ⟨g8, cap8, hv⟩
  obtain ⟨lst, hlst⟩ : ∃ lst, lst = (below L q.id L).map Rec.id ++ [q.id] := ⟨_, rfl⟩
  have hlb : w.heap.size ≤ lb := (hown3.lt lb rfl).1
  have H3 : Hid (w3.ownsRow w.heap.size 3 1 (.slice (some ⟨lb, 0, none⟩) (m + 1) capl) (m + 1) (lst.map (Value.int .i64)) ∧ Fr No w w3) :=
    ⟨by rw [hlst]; simpa using hown3, fr_grown_base (base := 0) H2.out.2 H2.out.1 _ hgrow3⟩
  have HL := Lib.hid (And.intro hlst hm)
  clear hown3 hgrow3 H2 hsz2
  clear hlst
  go_wp2_with fail
  go_loopg [6] (m + 2) (fun gg s6 wr => ∃ (t : Nat) (iv : Value), s6 = .int .i64 t ∧ t ≤ m + 1 ∧ m + 1 - t < gg ∧ Hid (RefAt wr xb iv (without L (lst.take t)) last ∧ (∀ k, OwnR xb iv k → X k) ∧ iv.ownBlock ≠ some lb ∧ wr.ownsRow w.heap.size 3 1 (.slice (some ⟨lb, 0, none⟩) (m + 1) capl) (m + 1) (lst.map (Value.int .i64)) ∧ Fr X w wr))
  case atStart =>
    refine ⟨0, iv0, by go_num, by omega, by omega, ?_, HS.out.2.2.2.1, ?_, H3.out.1, H3.out.2.no⟩
    · have : without L (lst.take 0) = L := List.filter_eq_self.2 fun r _ => by simp
      rw [this]
      exact HS.out.1.frNo H3.out.2
    · intro e
      have := HS.out.1.own_lt (.inr e)
      omega
  case round =>
    obtain ⟨t, iv, rfl, htm, htg, HR⟩ := hrel
    clear H3
    by_cases ht : t < m + 1
    · have q1 : (t : Int) < (m : Int) + 1 := by omega
      have q0 : (0 : Int) ≤ (t : Int) := by omega
      have hll : lst.length = m + 1 := by rw [HL.out.1]; simp [HL.out.2]
      obtain ⟨x, hx⟩ : ∃ x, lst[t]? = some x := ⟨_, List.getElem?_eq_getElem (by omega)⟩
      have e0 : wr.cell? ⟨lb, t, none⟩ = some (.int .i64 x) := row_cell HR.out.2.2.2.1 hx
      obtain ⟨r, hr, hrx⟩ : ∃ r ∈ without L (lst.take t), r.id = x := by
        have hxm : x ∈ lst := List.mem_of_getElem? hx
        have hxL : ∃ r ∈ L, r.id = x := by
          rw [HL.out.1, List.mem_append] at hxm
          rcases hxm with h1 | h1
          · obtain ⟨r, hr, he⟩ := List.mem_map.1 h1
            exact ⟨r, (List.mem_filter.1 hr).1, he⟩
          · simp at h1; exact ⟨q, HS.out.2.2.1, h1.symm⟩
        obtain ⟨r, hr, he⟩ := hxL
        refine ⟨r, List.mem_filter.2 ⟨hr, ?_⟩, he⟩
        have hnd : lst.Nodup := by
          have h1 : ((fam L q.id).map Rec.id).Nodup := map_id_nodup HS.out.2.1 _
          rw [below_fam HS.out.2.1 HS.out.2.2.1, List.map_cons] at h1
          rw [HL.out.1]
          exact (List.perm_append_singleton _ _).nodup_iff.2 h1
        rw [he]
        simp
        intro hmem
        obtain ⟨j, hj⟩ := List.mem_iff_getElem?.1 hmem
        have hjt : j < t := by have := (List.getElem?_eq_some_iff.1 hj).1; simp at this; omega
        rw [List.getElem?_take_of_lt hjt] at hj
        have := (List.getElem?_inj (List.getElem?_eq_some_iff.1 hj).1 hnd).1 (hj.trans hx.symm)
        omega
      obtain ⟨i, hi⟩ := List.mem_iff_getElem?.1 hr
      obtain ⟨K, hK⟩ : ∃ K, K = without L (lst.take t) := ⟨_, rfl⟩
      have hstep : K.eraseIdx i = without L (lst.take (t + 1)) := by
        rw [hK, List.take_add_one, hx]
        exact without_step HS.out.1.shrub.asc hi hrx
      have hRK : RefAt wr xb iv K last := hK ▸ HR.out.1
      rw [← hK] at hi
      clear hr
      subst hrx
      have hil : i < K.length := (List.getElem?_eq_some_iff.1 hi).1
      have hlen := hRK.len
      obtain ⟨n, hn⟩ : ∃ n, K.length = n := ⟨_, rfl⟩
      obtain ⟨g, cap, rfl⟩ := hRK.form (by omega)
      have HR' := Lib.hid (And.intro HR.out.2.1 (And.intro HR.out.2.2.1 (And.intro HR.out.2.2.2.1 HR.out.2.2.2.2)))
      clear HR
      rw [hn] at hRK hil hlen HR'
      have hrow : wr.ownsRow 0 58 6 (.slice (some ⟨g, 0, none⟩) n cap) n (flat6 K) := by have := hRK.row; rw [hn] at this; exact this
      have hcap : n ≤ cap := by
        rcases hrow.2 with ⟨h', _⟩ | ⟨g', cap', cur, h', _, _, hnc, _⟩
        · cases h'
        · cases h'; exact hnc
      have c0 := hRK.hcell.1
      have f0 := hRK.hfrozen 0
      have hxl := hRK.lt
      have hgl : g < wr.heap.size := hRK.own_lt (Or.inr rfl)
      have hgx : g ≠ xb := fun e => hRK.apart (by simp [Value.ownBlock, e])
      have hcells : ∀ (o : Nat) (M : List Rec), (∀ (j : Nat) (u : Value), (flat6 M)[j]? = some u → (flat6 K)[o + j]? = some u) → ∀ j u, (flat6 M)[j]? = some u → wr.cell? ((⟨g, o, none⟩ : Addr).add j) = some u := by
        intro o M hM j u hu
        have h1 := hM j u hu
        rw [Go.WideShapes.add_plain, hrow.cellAt _ (by have := (List.getElem?_eq_some_iff.1 h1).1; rw [flat6_length, hn] at this; exact this)]
        exact h1
      have hA := hcells 0 (K.take i) (fun j u hu => by rw [← flat6_take, List.getElem?_take] at hu; split at hu; simpa using hu; cases hu)
      have hB := hcells ((i + 1) * 6) (K.drop (i + 1)) (fun j u hu => by rw [← flat6_drop, List.getElem?_drop] at hu; exact hu)
      have lA : (flat6 (K.take i)).length = i * 6 := by rw [flat6_length]; simp; omega
      have lB : (flat6 (K.drop (i + 1))).length = (n - (i + 1)) * 6 := by rw [flat6_length]; simp; omega
      have oA := one_flat6 (K := K.take i) (fun r hr => hRK.val r (List.mem_of_mem_take hr))
      have oB := one_flat6 (K := K.drop (i + 1)) (fun r hr => hRK.val r (List.mem_of_mem_drop hr))
      have H := Lib.hid (And.intro hRK (And.intro hn (And.intro hA (And.intro hB (And.intro lA (And.intro lB (And.intro oA oB)))))))
      have HK := Lib.hid (And.intro hi (And.intro hstep hx))
      clear hRK hn hA hB lA lB oA oB hcells hrow hi hstep hx hK hll
      have p1 : (0 : Int) ≤ (i : Int) := by omega
      have p2 : (i : Int) ≤ (cap : Int) := by omega
      have p3 : (i : Int) + 1 ≤ (n : Int) := by omega
      have p4 : (n : Int) ≤ (cap : Int) := by omega
      have p5 : (0 : Int) ≤ (i : Int) + 1 := by omega
      have hwr : IntKind.i64.wrap ((i : Int) + 1) = (i : Int) + 1 := by rw [IntKind.wrap_i64]; omega
      by_cases hci : cap = i + 1
      · have hni : n = i + 1 := by omega
        have hdr : K.drop (i + 1) = [] := List.drop_of_length_le (by rw [H.out.2.1]; omega)
        have HD := Lib.hid hdr
        clear hdr
        subst hci
        subst hni
        have p2' : (i : Int) ≤ (i : Int) + 1 := by omega
        clear p2 p3 p4 hcap
        go_wp2_with fail
        refine (find_hit xb _ K last i r _ H.out.1 HK.out.1).mono ?_
        rintro e w7 ⟨rfl, hw7⟩
        have hw7' := hw7.symm
        subst hw7'
        clear e0 hw7
        go_wp2_with fail
        go_region_law (first | ((refine step_append_any ?_ (.const (.slice none 0 0)) (.tmp 36) 28 ?_ 0 58 i0 _ 6 48 Tryz.underlying28 hi0 hz0 hz1 hz2 rfl (by omega) (.slice none 0 0) 0 [] ?_ (World.ownsRow_nil _ _ _ _) ⟨g, 0, none⟩ i (i + 1) (flat6 (K.take i)) ?_ H.out.2.2.2.2.1 H.out.2.2.1 H.out.2.2.2.2.2.2.1 (by unfold maxLen; omega) (by omega) (Nat.zero_le _) wr.heap.size rfl ?_; (any_goals rfl); intro a1 cap1 w1 hown1 hgrow1 hat1; have hx1 : w1.heap[xb]? = wr.heap[xb]? := hgrow1.block xb hxl (by simp [Value.ownBlock]); have hg1 : w1.heap[g]? = wr.heap[g]? := hgrow1.block g hgl (by simp [Value.ownBlock]); have k0 := (World.cell?_of_block (a := ⟨xb, 0, none⟩) hx1).trans c0; simp only [Nat.zero_add, List.nil_append] at hown1 hat1 ⊢; have H1 := Lib.hid (And.intro hown1 (And.intro hgrow1 (And.intro hat1 (And.intro hx1 hg1)))); clear hown1 hgrow1 hat1 hx1 hg1)) | ((refine step_append_any ?_ (.tmp 37) (.tmp 44) 28 ?_ 0 58 i0 _ 6 48 Tryz.underlying28 hi0 hz0 hz1 hz2 rfl (by omega) (.slice a1 i cap1) i (flat6 (K.take i)) ?_ H1.out.1 ⟨g, 0, none⟩ 0 0 [] ?_ rfl (fun j u hu => by simp at hu) (fun u hu => by simp at hu) (by unfold maxLen; omega) (by omega) (Nat.zero_le _) w1.heap.size rfl ?_; (any_goals rfl); intro a2 cap2 w2 hown2 hgrow2 hat2; simp only [Nat.add_zero, List.append_nil] at hown2 hat2 ⊢; have hx2 : w2.heap[xb]? = wr.heap[xb]? := (hgrow2.block xb (Nat.lt_of_lt_of_le hxl H1.out.2.1.size) (fun e => by rcases H1.out.2.2.1 xb e.symm with h9 | h9; cases h9; omega)).trans H1.out.2.2.2.1; have k2 := (World.cell?_of_block (a := ⟨xb, 0, none⟩) hx2).trans c0; have k3 := (World.frozen?_of_block (a := ⟨xb, 0, none⟩) hx2).trans f0; have H2 := Lib.hid (And.intro hown2 (And.intro hgrow2 (And.intro hat2 hx2))); clear hown2 hgrow2 hat2 hx2)))
        all_goals (
          go_wp2_with fail
          obtain ⟨hown1, hgrow1, hat1, hx1, hg1⟩ := H1.out
          obtain ⟨hown2, hgrow2, hat2, hx2⟩ := H2.out
          have hloc : ∀ k, (Value.slice a2 i cap2).ownBlock = some k → wr.heap.size ≤ k := by
            intro k hk
            rcases hat2 k hk with h1 | h1
            · rcases hat1 k h1 with h2 | h2
              · cases h2
              · omega
            · have := hgrow1.size
              rw [heap_drew] at this
              omega
          have hKl : (K.eraseIdx i).length = i := by rw [List.length_eraseIdx, H.out.2.1, if_pos hil]; omega
          have hE : flat6 (K.take i) = flat6 (K.eraseIdx i) := by rw [← erase_eq, HD.out]; simp [flat6]
          rw [hE] at hown2
          have hst := ref_store H.out.1 hx2 (by rw [hKl]; exact hown2) (H.out.1.shrub.sub (List.eraseIdx_sublist _ _)) (fun r hr => H.out.1.val r ((List.eraseIdx_sublist _ _).subset hr)) (fun k hk e => by have := hloc k hk; omega)
          have hF1 : Fr (OwnR xb (.slice (some ⟨g, 0, none⟩) (i + 1) (i + 1))) wr w1 := (Fr.drew _ wr).trans (Fr.grown hgrow1 (fun k hk => by cases hk))
          have hF2 : Fr (OwnR xb (.slice (some ⟨g, 0, none⟩) (i + 1) (i + 1))) wr w2 := hF1.ofNew (T := fun k => (Value.slice a1 i cap1).ownBlock = some k) (Fr.grown hgrow2 (fun k hk => hk)) (fun k hk => by rcases hat1 k hk with h2 | h2; cases h2; exact .inr (by omega))
          have hF3 := hF2.trans (Fr.setCell _ _ ⟨xb, 0, none⟩ (.slice a2 i cap2) (Or.inl rfl))
          obtain ⟨r1, r2, r3, r4⟩ := HR'.out
          rw [HK.out.2.1] at hst
          have hlbw : lb < wr.heap.size := (r3.lt lb rfl).2
          go_roundg (m + 1 - t)
          case measure => omega
          case rel =>
            refine ⟨t + 1, _, by go_num, by omega, by omega, hst, ?_, ?_, ?_, r4.trans (hF3.mono fun k _ hk => r1 k hk)⟩
            · rintro k (rfl | hk)
              · exact r1 _ (.inl rfl)
              · exact HS.out.2.2.2.2 k (Nat.le_trans r4.size (hloc k hk))
            · intro e
              have := hloc lb e
              omega
            · exact row1_keep' r3 (hF3.block lb hlbw (by
                rintro (e | e)
                · omega
                · exact r2 e)))
      · go_wp2_with fail
        refine (find_hit xb _ K last i r _ H.out.1 HK.out.1).mono ?_
        rintro e w7 ⟨rfl, hw7⟩
        have hw7' := hw7.symm
        subst hw7'
        clear e0 hw7
        go_wp2_with fail
        go_region_law (first | ((refine step_append_any ?_ (.const (.slice none 0 0)) (.tmp 36) 28 ?_ 0 58 i0 _ 6 48 Tryz.underlying28 hi0 hz0 hz1 hz2 rfl (by omega) (.slice none 0 0) 0 [] ?_ (World.ownsRow_nil _ _ _ _) ⟨g, 0, none⟩ i cap (flat6 (K.take i)) ?_ H.out.2.2.2.2.1 H.out.2.2.1 H.out.2.2.2.2.2.2.1 (by unfold maxLen; omega) (by omega) (Nat.zero_le _) wr.heap.size rfl ?_; (any_goals rfl); intro a1 cap1 w1 hown1 hgrow1 hat1; have hx1 : w1.heap[xb]? = wr.heap[xb]? := hgrow1.block xb hxl (by simp [Value.ownBlock]); have hg1 : w1.heap[g]? = wr.heap[g]? := hgrow1.block g hgl (by simp [Value.ownBlock]); have k0 := (World.cell?_of_block (a := ⟨xb, 0, none⟩) hx1).trans c0; simp only [Nat.zero_add, List.nil_append] at hown1 hat1 ⊢; have H1 := Lib.hid (And.intro hown1 (And.intro hgrow1 (And.intro hat1 (And.intro hx1 hg1)))); clear hown1 hgrow1 hat1 hx1 hg1)) | ((refine step_append_any ?_ (.tmp 37) (.tmp 44) 28 ?_ 0 58 i0 _ 6 48 Tryz.underlying28 hi0 hz0 hz1 hz2 rfl (by omega) (.slice a1 i cap1) i (flat6 (K.take i)) ?_ H1.out.1 ⟨g, (i + 1) * 6, none⟩ (n - (i + 1)) (cap - (i + 1)) (flat6 (K.drop (i + 1))) ?_ H.out.2.2.2.2.2.1 (fun j u hu => (World.cell?_of_block (a := (⟨g, (i + 1) * 6, none⟩ : Addr).add j) (by rw [Go.WideShapes.add_plain]; exact H1.out.2.2.2.2)).trans (H.out.2.2.2.1 j u hu)) H.out.2.2.2.2.2.2.2 (by unfold maxLen; omega) (by omega) (Nat.zero_le _) w1.heap.size rfl ?_; (any_goals rfl); intro a2 cap2 w2 hown2 hgrow2 hat2; have hx2 : w2.heap[xb]? = wr.heap[xb]? := (hgrow2.block xb (Nat.lt_of_lt_of_le hxl H1.out.2.1.size) (fun e => by rcases H1.out.2.2.1 xb e.symm with h9 | h9; cases h9; omega)).trans H1.out.2.2.2.1; have k2 := (World.cell?_of_block (a := ⟨xb, 0, none⟩) hx2).trans c0; have k3 := (World.frozen?_of_block (a := ⟨xb, 0, none⟩) hx2).trans f0; have H2 := Lib.hid (And.intro hown2 (And.intro hgrow2 (And.intro hat2 hx2))); clear hown2 hgrow2 hat2 hx2)))
        all_goals (
          go_wp2_with fail
          obtain ⟨hown1, hgrow1, hat1, hx1, hg1⟩ := H1.out
          obtain ⟨hown2, hgrow2, hat2, hx2⟩ := H2.out
          have hloc : ∀ k, (Value.slice a2 (i + (n - (i + 1))) cap2).ownBlock = some k → wr.heap.size ≤ k := by
            intro k hk
            rcases hat2 k hk with h1 | h1
            · rcases hat1 k h1 with h2 | h2
              · cases h2
              · omega
            · have := hgrow1.size
              rw [heap_drew] at this
              omega
          have hKl : (K.eraseIdx i).length = i + (n - (i + 1)) := by rw [List.length_eraseIdx, H.out.2.1, if_pos hil]; omega
          rw [erase_eq] at hown2
          have hst := ref_store H.out.1 hx2 (by rw [hKl]; exact hown2) (H.out.1.shrub.sub (List.eraseIdx_sublist _ _)) (fun r hr => H.out.1.val r ((List.eraseIdx_sublist _ _).subset hr)) (fun k hk e => by have := hloc k hk; omega)
          have hF1 : Fr (OwnR xb (.slice (some ⟨g, 0, none⟩) n cap)) wr w1 := (Fr.drew _ wr).trans (Fr.grown hgrow1 (fun k hk => by cases hk))
          have hF2 : Fr (OwnR xb (.slice (some ⟨g, 0, none⟩) n cap)) wr w2 := hF1.ofNew (T := fun k => (Value.slice a1 i cap1).ownBlock = some k) (Fr.grown hgrow2 (fun k hk => hk)) (fun k hk => by rcases hat1 k hk with h2 | h2; cases h2; exact .inr (by omega))
          have hF3 := hF2.trans (Fr.setCell _ _ ⟨xb, 0, none⟩ (.slice a2 (i + (n - (i + 1))) cap2) (Or.inl rfl))
          obtain ⟨r1, r2, r3, r4⟩ := HR'.out
          rw [HK.out.2.1] at hst
          have hlbw : lb < wr.heap.size := (r3.lt lb rfl).2
          go_roundg (m + 1 - t)
          case measure => omega
          case rel =>
            refine ⟨t + 1, _, by go_num, by omega, by omega, hst, ?_, ?_, ?_, r4.trans (hF3.mono fun k _ hk => r1 k hk)⟩
            · rintro k (rfl | hk)
              · exact r1 _ (.inl rfl)
              · exact HS.out.2.2.2.2 k (Nat.le_trans r4.size (hloc k hk))
            · intro e
              have := hloc lb e
              omega
            · exact row1_keep' r3 (hF3.block lb hlbw (by
                rintro (e | e)
                · omega
                · exact r2 e)))
    · obtain rfl : t = m + 1 := by omega
      have q1 : ¬ (((m + 1 : Nat) : Int) < (m : Int) + 1) := by omega
      have hfi : (((fam L q.id).length : Nat) : Int) = (m : Int) + 1 := by have := HBL.out; omega
      have HFI := Lib.hid hfi
      clear hfi
      go_wp2_with fail
      go_ret
      obtain ⟨h1, h2, h3, h4, h5⟩ := HR.out
      have hll : lst.length = m + 1 := by rw [HL.out.1]; simp [HL.out.2]
      rw [List.take_of_length_le (by omega), HL.out.1, without_fam HS.out.2.1 HS.out.2.2.1] at h1
      exact ⟨by rw [HFI.out]; rfl, ⟨_, h1, HS.out.2.1.rest q.id, h2⟩, h5⟩

end Go.Proofs.YtbgddldkpjeieaaGreat
