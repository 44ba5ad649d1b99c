/-
  CONTRACTS of Cancel and Expire of the timers at one value type, over this seat's translation: what each call returns, what it leaves in memory.
  Conditions: the timers lie in memory as Tim says.
-/
import Derived.Test.YtbgddldkpjeieaaGreatMT3
namespace Go.Proofs.YtbgddldkpjeieaaGreat.M
open Go.ChangeShapes Go.WideShapes Go.ChangeAt Go.RowKit Go.Maps
set_option linter.unusedVariables false

theorem cancel_miss (S : Nat → Prop) (tb : Nat) (L : List Rec) (last k : Int) (w : World) (h : TI S w tb L last) (hk : (Lit.int .i64 k).wf = true) (hno : ∀ r ∈ L, r.id ≠ k) :
    Calls Tryz.prog 55 #[.pointer (some ⟨tb, 0, none⟩), .int .i64 k] w fun e w' => e = .returned (.int .i64 0) ∧ w' = w := by
  obtain ⟨hb, mb, sv, A, blk, cm, hX, hM⟩ := h
  have c0 := hX.hcell
  have HX := Lib.hid (And.intro hX hno)
  clear hX hM hno
  go_enter Tryz.func55, Tryz.ntmps55
  go_wp2_with fail
  refine (get_miss hb mb sv A last k _ HX.out.1.heap hk (HX.out.1.miss HX.out.2)).mono ?_
  rintro e w1 ⟨rfl, rfl⟩
  go_wp2_with fail
  go_ret
  exact ⟨rfl, rfl⟩

set_option maxHeartbeats 4000000 in
set_option maxRecDepth 100000 in
theorem cancel_core (S : Nat → Prop) (tb hb mb : Nat) (sv : Value) (A : List Ent) (blk : Int → Nat) (cm : Int → Option Nat) (L : List Rec) (last : Int) (q : Rec) (w : World) (hX : TX w tb hb mb sv A blk cm L (kid L) last) (hM : ∀ k, Mine tb hb mb sv blk cm L k → S k) (hq : q ∈ L) :
    Calls Tryz.prog 55 #[.pointer (some ⟨tb, 0, none⟩), .int .i64 q.id] w fun e w' => e = .returned (.int .i64 (fam L q.id).length) ∧ TI S w' tb (rest L q.id) last ∧ Fr S w w' ∧ w'.heap[blk q.id]? = w.heap[blk q.id]? := by
  have c0 := hX.hcell
  obtain ⟨i, hi⟩ := hX.get hq
  have hq1 := hX.wood.id q hq
  have hql := hX.top
  have wq : (Lit.int .i64 q.id).wf = true := WalkArith.wf_i64 (by omega)
  obtain ⟨n, hn⟩ : ∃ n, (fam L q.id).length = n := ⟨_, rfl⟩
  have hn1 : n ≤ 1000 := by have h1 := fam_len L q.id; have h2 := hX.wood.len; omega
  have HX := Lib.hid (And.intro hX (And.intro hM (And.intro hi (And.intro hq hn))))
  clear hX hM hi hq
  go_enter Tryz.func55, Tryz.ntmps55
  go_wp2_with fail
  refine (get_hit hb mb sv A last i _ _ HX.out.1.heap HX.out.2.2.1).mono ?_
  rintro e w1 ⟨rfl, hf1⟩
  have H1 := Lib.hid (And.intro (HX.out.1.frNo hf1) hf1)
  clear hf1 c0
  simp only [entOf]
  go_wp2_with fail
  refine (family_any S tb L last q _ ⟨hb, mb, sv, A, blk, cm, H1.out.1, HX.out.2.1⟩ HX.out.2.2.2.1).mono ?_
  rintro e w2 ⟨g, cap, rfl, hrow, hf2⟩
  rw [hn]
  have hX2 := H1.out.1.frNo hf2
  have c0 := hX2.hcell
  have n0 := (hX2.ncell HX.out.2.2.2.1).1
  have hrow2 : w2.ownsRow w.heap.size 3 1 (.slice (some ⟨g, 0, none⟩) n cap) n (((fam L q.id).map Rec.id).map (Value.int .i64)) := by
    unfold FamRow at hrow
    rw [hn] at hrow
    exact row_base hrow H1.out.2.size
  have H2 := Lib.hid (And.intro hX2 (And.intro hrow2 (H1.out.2.trans hf2)))
  clear hX2 hrow hrow2 hf2 hn
  have hcase : q.par = 0 ∨ ∃ p ∈ L, p.id = q.par := by
    rcases HX.out.1.wood.par q HX.out.2.2.2.1 with h | ⟨_, h⟩
    · exact .inl h
    · exact .inr h
  have hkq : Hid (∀ (a : Rec), a ∈ L → ∀ x, (kid L a.id x ∧ x = q.id) → a.id = q.par) := by
    rintro a ha x ⟨⟨z, hz, h1, h2⟩, rfl⟩
    have := HX.out.1.wood.uniq hz HX.out.2.2.2.1 h1
    subst this
    exact h2.symm
  rcases hcase with hp | ⟨p, hpm, hpe⟩
  case' inl =>
    rw [hp] at n0
    go_wp2_with fail
    go_region_held3 (fun w' => w'.cell? ⟨tb, 0, none⟩ = some (.pointer (some ⟨hb, 0, none⟩)) ∧ w'.cell? ⟨blk q.id, 0, none⟩ = some (.int .i64 0)) (go_keep) (first | (go_at_call 53; refine (get_miss hb mb sv A last 0 _ (H2.out.1.heap.frNo (Fr.drew No _)) (WalkArith.wf_i64 (by omega)) (H2.out.1.miss (fun r hr => by have := HX.out.1.wood.id r hr; omega))).mono ?_; rintro e w4 ⟨rfl, hw4⟩; have hX3 := H2.out.1.frNo (Fr.drew No w2); rw [← hw4] at hX3; have c3 := hX3.hcell; have n3 : w4.cell? ⟨blk q.id, 0, none⟩ = some (.int .i64 0) := (by have := (hX3.ncell HX.out.2.2.2.1).1; rw [hp] at this; exact this); have HW : Hid (Fr No w2 w4) := (by rw [hw4]; exact Fr.drew No w2); have HX3 := Lib.hid hX3; clear hw4 hX3))
    all_goals (
      clear c0 n0 c3 n3
      go_wp2_with fail
      have HC : ∃ cm' : Int → Option Nat, Hid (TX w4 tb hb mb sv A blk cm' L (fun a x => kid L a x ∧ x ≠ q.id) last ∧ (∀ r ∈ L, ∀ c, cm' r.id = some c → S c) ∧ w4.ownsRow w.heap.size 3 1 (.slice (some ⟨g, 0, none⟩) n cap) n (((fam L q.id).map Rec.id).map (Value.int .i64)) ∧ Fr S w w4 ∧ w4.heap[blk q.id]? = w.heap[blk q.id]?) := by
        have hF := H2.out.2.2.trans HW.out
        refine ⟨cm, HX3.out.reg' fun r hr x => ⟨fun h => ⟨h, fun e => ?_⟩, fun h => h.1⟩, fun r hr c hc => HX.out.2.1 c (.inr (.inr (.inr ⟨r, hr, hc⟩))), row_keep1 H2.out.2.1 HW.out, hF.no, hF.block _ (HX.out.1.mine_lt (.inr (.inr (.inl ⟨q, HX.out.2.2.2.1, rfl⟩)))) (fun h => h)⟩
        have h1 := hkq.out r hr x ⟨h, e⟩
        have h2 := HX.out.1.wood.id r hr
        omega
      clear HX3 HW H2 hkq)
  case' inr =>
    rw [← hpe] at n0
    obtain ⟨j, hj⟩ := HX.out.1.get hpm
    have hkids := HX.out.1.kids p hpm
    have hkid : kid L p.id q.id := ⟨q, HX.out.2.2.2.1, rfl, hpe.symm⟩
    obtain ⟨c, hcm, hcb, m, D, hml, hown, hD⟩ : ∃ c, cm p.id = some c ∧ c ≠ mb ∧ ∃ (m : Nat) (D : DataW Unit), (m : Int) ≤ last ∧ w.ownsMap Tryz.prog 3 (plainElem Tryz.prog 4) c m D ∧ ∀ x, Maps.has D (key x) = true ↔ kid L p.id x := by
      cases hcm : cm p.id with
      | none => rw [hcm] at hkids; exact absurd hkid (hkids q.id)
      | some c => rw [hcm] at hkids; obtain ⟨h1, m, D, h2, h3, h4⟩ := hkids; exact ⟨c, rfl, h1, m, D, h2, h3, h4⟩
    have HP := Lib.hid (And.intro hpm (And.intro hpe (And.intro hj (And.intro hcm (And.intro hcb (And.intro hml (And.intro hown hD)))))))
    clear hpm hpe hj hkids hkid hcm hcb hml hown hD
    go_wp2_with fail
    go_region_held3 (fun w' => w'.cell? ⟨tb, 0, none⟩ = some (.pointer (some ⟨hb, 0, none⟩)) ∧ w'.cell? ⟨blk q.id, 0, none⟩ = some (.int .i64 p.id)) (go_keep) (first | (go_at_call 53; refine (get_hit hb mb sv A last j _ _ (H2.out.1.heap.frNo (Fr.drew No _)) HP.out.2.2.1).mono ?_; rintro e w3 ⟨rfl, hf3⟩; have hX3 := (H2.out.1.frNo (Fr.drew No w2)).frNo hf3; have c3 := hX3.hcell; have n3 : w3.cell? ⟨blk q.id, 0, none⟩ = some (.int .i64 p.id) := (by have := (hX3.ncell HX.out.2.2.2.1).1; rw [← HP.out.2.1] at this; exact this); have k3 : w3.cell? ⟨blk p.id, 1, none⟩ = some (.map (some c)) := (by have := (hX3.ncell HP.out.1).2; rw [HP.out.2.2.2.1] at this; exact this); have H3 := Lib.hid (And.intro hX3 ((Fr.drew No w2).trans hf3)); clear hX3 hf3; simp only [entOf]))
    all_goals (
      clear c0 n0 c3 n3
      have hown3 : Hid (w3.ownsMap Tryz.prog 3 (plainElem (H := Unit) Tryz.prog 4) c m D) := map_keep HP.out.2.2.2.2.2.2.1 (H2.out.2.2.trans H3.out.2)
      go_wp2_with (first | (at_delete; refine wpList_delete_own _ rfl _ _ 51 3 rfl 4 law3 Tryz.underlying51 _ c m D rfl hown3.out _ _ rfl (keyOf_int_mk Tryz.underlying3 wq) ?_; intro w4 hown4 hturn4) | fail)
      have HC : ∃ cm' : Int → Option Nat, Hid (TX w4 tb hb mb sv A blk cm' L (fun a x => kid L a x ∧ x ≠ q.id) last ∧ (∀ r ∈ L, ∀ c, cm' r.id = some c → S c) ∧ w4.ownsRow w.heap.size 3 1 (.slice (some ⟨g, 0, none⟩) n cap) n (((fam L q.id).map Rec.id).map (Value.int .i64)) ∧ Fr S w w4 ∧ w4.heap[blk q.id]? = w.heap[blk q.id]?) := by
        obtain ⟨hpm, hpe, hj, hcm, hcb, hml, hown, hD⟩ := HP.out
        have hF3 := H2.out.2.2.trans H3.out.2
        have hSc : S c := HX.out.2.1 c (.inr (.inr (.inr ⟨p, hpm, hcm⟩)))
        have hcw : c < w.heap.size := hown.lt
        have hFc : Fr (fun k => k = c) w3 w4 := Fr.grown hturn4.grown fun k hk => by cases hk; rfl
        have hbp : w4.heap[blk p.id]? = some (.cells (#[.int .i64 p.par, .map (some c)] ++ (fun v => #[v]) p.val) 94 (0, 0)) := by
          have h1 := H3.out.1.node p hpm
          rw [hcm] at h1
          exact (hFc.block _ (Array.getElem?_eq_some_iff.1 h1).1 (map_ne h1 hown3.out)).trans h1
        have hbq : w4.heap[blk q.id]? = w.heap[blk q.id]? := by
          have h1 := H3.out.1.node q HX.out.2.2.2.1
          exact (hFc.block _ (Array.getElem?_eq_some_iff.1 h1).1 (map_ne h1 hown3.out)).trans (hF3.block _ (HX.out.1.mine_lt (.inr (.inr (.inl ⟨q, HX.out.2.2.2.1, rfl⟩)))) (fun h => h))
        refine ⟨_, H3.out.1.regd (reg' := fun a x => kid L a x ∧ x ≠ q.id) tyne tyne2 hpm (.inl hcm) (hFc.mono fun k _ hk => .inr hk) hbp hcb hown4 hml (fun x => ?_) (fun r hr he x => ⟨fun h => ⟨h, fun e => he ?_⟩, fun h => h.1⟩), ?_, ?_, ?_, hbq⟩
        · rw [has_del_iff, hD x]; exact and_comm
        · rw [hpe]; exact hkq.out r hr x ⟨h, e⟩
        · intro r hr c' hc'
          by_cases e : r.id = p.id
          · rw [e, upd_same] at hc'; cases hc'; exact hSc
          · rw [upd_ne _ _ e] at hc'; exact HX.out.2.1 c' (.inr (.inr (.inr ⟨r, hr, hc'⟩)))
        · refine row_keep2 (row_keep1 H2.out.2.1 H3.out.2) hturn4.grown ?_
          exact (row_ne_low H2.out.2.1 hcw).symm
        · exact hF3.no.trans (hFc.mono fun k _ hk => by rw [show k = c from hk]; exact hSc)
      clear hown4 hturn4 hown3 H3 HP k3 H2 hkq)
  all_goals (
    obtain ⟨cm', HC⟩ := HC
    clear H1
    have c4 := HC.out.1.hcell
    go_loopg [50] (n + 1) (fun gg s wr => ∃ (k : Nat) (sv' : Value) (A' : List Ent), s = .int .i64 k ∧ k ≤ n ∧ n - k < gg ∧ Hid (HA wr hb mb sv' A' last ∧ Ordered A' ∧ A'.Perm (((fam L q.id).drop k ++ rest L q.id).map (entOf blk)) ∧ Fr (Own hb mb sv) w4 wr ∧ sv'.ownBlock = sv.ownBlock))
    case atStart =>
      exact ⟨0, sv, A, rfl, by omega, by omega, HC.out.1.heap, HC.out.1.ord, HC.out.1.perm.trans ((fam_rest L q.id).symm.map _), Fr.refl _ _, rfl⟩
    case round =>
      obtain ⟨k, sv', A', rfl, hkn, hkg, HR⟩ := hrel
      have ha := HC.out.1.apart tyne
      have hrb : ¬ Own hb mb sv g := by
        obtain ⟨cur, hcur⟩ := row_block HC.out.2.2.1
        exact HC.out.1.heap.notOwn hcur (by decide) (by decide)
      by_cases hk : k < n
      · have q1 : (k : Int) < (n : Int) := by omega
        have q0 : (0 : Int) ≤ (k : Int) := by omega
        obtain ⟨z, hz⟩ : ∃ z, (fam L q.id)[k]? = some z := ⟨(fam L q.id)[k]'(by rw [HX.out.2.2.2.2]; exact hk), List.getElem?_eq_getElem _⟩
        have e0 : wr.cell? ⟨g, k, none⟩ = some (.int .i64 z.id) := by
          have h1 : w4.cell? ⟨g, k, none⟩ = some (.int .i64 z.id) := row_cell HC.out.2.2.1 (by rw [List.getElem?_map, hz]; rfl)
          exact (World.cell?_of_block (a := ⟨g, k, none⟩) (HR.out.2.2.2.1.block g (by obtain ⟨cur, hcur⟩ := row_block HC.out.2.2.1; exact (Array.getElem?_eq_some_iff.1 hcur).1) hrb)).trans h1
        have c5 : wr.cell? ⟨tb, 0, none⟩ = some (.pointer (some ⟨hb, 0, none⟩)) := (World.cell?_of_block (a := ⟨tb, 0, none⟩) (HR.out.2.2.2.1.block tb (HC.out.1.mine_lt (.inl rfl)) ha.1)).trans c4
        have hdz : (fam L q.id).drop k = z :: (fam L q.id).drop (k + 1) := by
          obtain ⟨h1, h2⟩ := List.getElem?_eq_some_iff.1 hz
          rw [← h2]; exact List.drop_eq_getElem_cons h1
        obtain ⟨j, hj⟩ : ∃ j : Nat, A'[j]? = some (entOf blk z) := by
          refine List.mem_iff_getElem?.1 (HR.out.2.2.1.mem_iff.2 ?_)
          rw [hdz]
          simp
        have HZ := Lib.hid (And.intro hj hdz)
        clear hz hj hdz ha hrb
        go_wp2_with fail
        refine (remove_hit hb mb sv' A' last j _ _ HR.out.1 HR.out.2.1 HZ.out.1).mono ?_
        rintro e w6 ⟨rfl, sv6, A6, h1, h2, h3, h4, h5⟩
        have H6 := Lib.hid (And.intro h1 (And.intro h2 (And.intro h3 (And.intro h4 h5))))
        clear h1 h2 h3 h4 h5
        go_wp2_with fail
        go_roundg (n - k)
        case measure => omega
        case rel =>
          obtain ⟨h1, h2, h3, h4, h5⟩ := H6.out
          obtain ⟨r1, r2, r3, r4, r5⟩ := HR.out
          refine ⟨k + 1, sv6, A6, by go_num, by omega, by omega, h1, h3, ?_, r4.trans (by rw [own_eq (hb := hb) (mb := mb) r5] at h4; exact h4), h5.trans r5⟩
          have := h2.trans r3
          rw [HZ.out.2, List.cons_append, List.map_cons] at this
          exact (List.perm_cons _).1 this
      · have hk' : k = n := by omega
        subst hk'
        go_wp2_with fail
        go_ret
        obtain ⟨r1, r2, r3, r4, r5⟩ := HR.out
        obtain ⟨hX4, hS4, hrow4, hF4, hb4⟩ := HC.out
        rw [List.drop_of_length_le (by rw [HX.out.2.2.2.2]; exact Nat.le_refl _), List.nil_append] at r3
        have hT := hX4.heaped tyne r4 r1 r2 r3 (hX4.wood.rest q.id) (fun r hr => ⟨r, (mem_rest.1 hr).1, rfl, rfl, rfl⟩)
        refine ⟨by rw [HX.out.2.2.2.2]; rfl, ⟨hb, mb, sv', A', blk, cm', hT.reg' fun r hr x => (hX4.wood.rest_kids hr x).symm, ?_⟩, hF4.trans (r4.mono fun k _ hk => HX.out.2.1 k (.inr (.inl hk))), ?_⟩
        · rintro y (hy | hy | ⟨r, hr, hy⟩ | ⟨r, hr, hy⟩)
          · exact HX.out.2.1 y (.inl hy)
          · rw [own_eq (hb := hb) (mb := mb) r5] at hy; exact HX.out.2.1 y (.inr (.inl hy))
          · exact HX.out.2.1 y (.inr (.inr (.inl ⟨r, (mem_rest.1 hr).1, hy⟩)))
          · exact hS4 r (mem_rest.1 hr).1 y hy
        · exact (r4.block _ (hX4.mine_lt (.inr (.inr (.inl ⟨q, HX.out.2.2.2.1, rfl⟩)))) (ha.2.1 q HX.out.2.2.2.1)).trans hb4)

theorem cancel_hit (S : Nat → Prop) (tb : Nat) (L : List Rec) (last : Int) (q : Rec) (w : World) (h : TI S w tb L last) (hq : q ∈ L) :
    Calls Tryz.prog 55 #[.pointer (some ⟨tb, 0, none⟩), .int .i64 q.id] w fun e w' => e = .returned (.int .i64 (fam L q.id).length) ∧ TI S w' tb (rest L q.id) last ∧ Fr S w w' := by
  obtain ⟨hb, mb, sv, A, blk, cm, hX, hM⟩ := h
  exact (cancel_core S tb hb mb sv A blk cm L last q w hX hM hq).mono fun e w' h => ⟨h.1, h.2.1, h.2.2.1⟩

end Go.Proofs.YtbgddldkpjeieaaGreat.M
