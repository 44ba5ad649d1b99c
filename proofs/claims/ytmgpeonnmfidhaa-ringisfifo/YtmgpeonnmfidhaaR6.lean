/-
  CONTRACT of Push, over this seat's translation: it appends as many elements as fit and returns their number.
  Conditions: the ring buffer lies in memory as RingAt says, the elements lie elsewhere.
-/
import Derived.Test.YtmgpeonnmfidhaaR5
namespace Go.Proofs.Ytmgpeonnmfidhaa
open Go.ChangeShapes Go.WideShapes Go.ChangeAt Go.RowKit
set_option linter.unusedVariables false

theorem view_push {L Q xs : List Int} {f size m s h t c : Nat} (hg : Sound L f Q size) (hc : Q.length = c) (hm : c + m ≤ L.length) (hx : m ≤ xs.length) (hs : ix L.length f c = s) (hh : h = min m (L.length - s)) (ht : h + t = m) :
    Sound (splice (splice L s (xs.take h)) 0 ((xs.drop h).take t)) f (Q ++ xs.take m) size := by
  obtain ⟨h1, h2, h3, h4, h5⟩ := hg
  have hs' : s < L.length ∨ (s = 0 ∧ L.length = 0) := by rw [← hs]; unfold ix; split <;> omega
  have hs2 : s = f + c ∨ s + L.length = f + c := by rw [← hs]; unfold ix; split <;> omega
  have x1 : (xs.take h).length = h := by rw [List.length_take]; omega
  have x2 : ((xs.drop h).take t).length = t := by rw [List.length_take, List.length_drop]; omega
  have x3 : (xs.take m).length = m := by rw [List.length_take]; omega
  have l1 : (splice L s (xs.take h)).length = L.length := length_splice _ _ _ (by omega)
  have l2 : (splice (splice L s (xs.take h)) 0 ((xs.drop h).take t)).length = L.length := by rw [length_splice _ _ _ (by omega), l1]
  refine ⟨by omega, h2, by rw [l2]; exact h3, by rw [List.length_append, x3, l2]; omega, ?_⟩
  intro i hi
  rw [List.length_append, x3] at hi
  rw [l2, splice_get _ _ _ (by omega), x2, splice_get _ _ _ (by omega), x1]
  by_cases hic : i < c
  · rw [List.getElem?_append_left (by omega), ← h5 i (by omega)]
    have hk : ¬ (s ≤ ix L.length f i ∧ ix L.length f i < s + h) ∧ ¬ (0 ≤ ix L.length f i ∧ ix L.length f i < 0 + t) := by
      unfold ix; split <;> omega
    rw [if_neg hk.2, if_neg hk.1]
  · have hr : (xs.take m)[i - Q.length]? = xs[i - c]? := by rw [List.getElem?_take, if_pos (by omega), hc]
    rw [List.getElem?_append_right (by omega), hr]
    by_cases hj : i - c < h
    · have hk : ix L.length f i = s + (i - c) := by unfold ix; split <;> omega
      rw [hk, if_neg (by omega), if_pos (by omega), List.getElem?_take, if_pos (by omega)]
      congr 1
      omega
    · have hk : ix L.length f i = i - c - h := by unfold ix; split <;> omega
      rw [hk, if_pos (by omega), List.getElem?_take, if_pos (by omega), List.getElem?_drop]
      congr 1
      omega

theorem At.frP {S : Nat → Prop} {w w' : World} {a : Option Addr} {xs : List Int} (h : At w a xs) (hf : Fr S w w') (hS : 0 < xs.length → ∀ ad, a = some ad → ¬ S ad.block) : At w' a xs := by
  by_cases h0 : 0 < xs.length
  · exact h.fr hf (hS h0)
  · obtain rfl : xs = [] := List.eq_nil_of_length_eq_zero (by omega)
    exact At.nil _ _

theorem zero_min {t : Nat} (h : t = 0) : t = Nat.min 0 t := by subst h; rfl

theorem at_zero {w : World} {a : Option Addr} {xs : List Int} {t : Nat} (h : t = 0) : At w a (xs.take t) := by
  rw [h, List.take_zero]
  exact At.nil _ _

theorem At.dropMap {w : World} {a : Option Addr} {xs : List Int} (h : At w a xs) (k : Nat) : At w (Option.map (fun x => x.add k) a) (xs.drop k) := by
  intro i x hx
  have hx' := hx
  rw [List.getElem?_drop] at hx'
  obtain ⟨b, off, rfl, _⟩ := h (k + i) x hx'
  have := h.drop k i x hx
  rw [Option.map_some, Go.WideShapes.add_plain]
  exact this

set_option maxHeartbeats 2000000 in
set_option maxRecDepth 100000 in
theorem push_all (S : Nat → Prop) (hb : Nat) (Q xs : List Int) (size c n cap fr : Nat) (a : Option Addr) (w : World) (hR : RingAt S w hb Q size) (hnew : ∀ k, w.heap.size ≤ k → S k) (hc : Q.length = c) (hx : At w a xs) (hn : xs.length = n) (hcap : n ≤ cap) (h63 : cap ≤ 9223372036854775807) (hnil : a = none → cap = 0) (haw : 0 < n → ∀ ad, a = some ad → ¬ S ad.block) (hfr : size - c = fr) (hm : n ≤ fr) :
    Calls Try.prog 14 #[.pointer (some ⟨hb, 0, none⟩), .slice a n cap] w fun e w' => e = .returned (.int .i64 (n : Nat)) ∧ RingAt S w' hb (Q ++ xs.take n) size ∧ Fr S w w' := by
  obtain ⟨hcs, h4⟩ := hR.len
  rw [hc] at hcs
  obtain ⟨cm, hcm⟩ : ∃ cm, cm = c + n := ⟨_, rfl⟩
  have e1 : (c : Int) + (n : Int) = (cm : Int) := by omega
  have hcm4 : cm ≤ size := by omega
  have p1 : ¬ ((fr : Int) < (n : Int)) := by omega
  have hmn : n ≤ n := by omega
  have hcell : w.cell? ⟨hb, 2, none⟩ = some (.int .i64 (c : Int)) := by
    obtain ⟨sv, L, f, hr, _⟩ := hR
    rw [hc] at hr
    exact hr.hcell.2.2.1
  have HS := Lib.hid (And.intro hR (And.intro hnew (And.intro hc (And.intro hx (And.intro hn (And.intro hnil (And.intro haw (And.intro hfr hcm))))))))
  clear hR hnew hc hx hn hnil haw hfr hcm hm
  go_enter Try.func14, Try.ntmps14
  go_wp2_with fail
  refine (free_any S hb Q size c fr _ HS.out.1 HS.out.2.2.1 HS.out.2.2.2.2.2.2.2.1).mono ?_
  rintro e w1 ⟨rfl, hf1⟩
  have hcell1 : w1.cell? ⟨hb, 2, none⟩ = some (.int .i64 (c : Int)) := (World.cell?_of_block (a := ⟨hb, 2, none⟩) (hf1.block hb (World.block_lt_of_cell? w _ hcell) (fun h => h))).trans hcell
  have H1 := Lib.hid hf1
  clear hf1 hcell
  go_wp2_with fail
  refine (reserve_any S hb Q size c cm _ (HS.out.1.frNo H1.out) (fun k hk => HS.out.2.1 k (Nat.le_trans H1.out.size hk)) HS.out.2.2.1 hcm4).mono ?_
  rintro e w2 ⟨rfl, sv, L, f, hr2, hg2, hS2, hL2, hf2⟩
  have hf02 : Fr S w w2 := (H1.out.no).trans hf2
  have hx2 : At w2 a xs := HS.out.2.2.2.1.frP hf02 (fun h => HS.out.2.2.2.2.2.2.1 (by rw [← HS.out.2.2.2.2.1]; exact h))
  clear hf2 H1 hcell1
  obtain ⟨N, hN⟩ : ∃ N, L.length = N := ⟨_, rfl⟩
  obtain ⟨s, hs⟩ : ∃ s, ix N f c = s := ⟨_, rfl⟩
  obtain ⟨u, hh⟩ : ∃ u, u = min n (N - s) := ⟨_, rfl⟩
  obtain ⟨t, ht⟩ : ∃ t, u + t = n := ⟨n - u, by omega⟩
  have hfN := hg2.first
  rw [hN] at hfN hL2
  have hN4 : N ≤ 4096 := by rw [← hN]; exact Nat.le_trans hg2.len h4
  have hcmN := HS.out.2.2.2.2.2.2.2.2
  have hsN : s + u ≤ N ∧ t ≤ N := by rw [← hs] at hh ⊢; unfold ix at hh ⊢; split at hh <;> split <;> omega
  have hv := view_push (xs := xs) (s := s) hg2 HS.out.2.2.1 (by rw [hN]; omega) (by rw [HS.out.2.2.2.2.1]; omega) (by rw [hN]; exact hs) (by rw [hN]; exact hh) ht
  obtain ⟨c0, c1, c2, c3⟩ := hr2.hcell
  have hcN : c ≤ N := by omega
  have hmN : n ≤ N := by omega
  have hhn : u ≤ n := by omega
  have htn : u + t ≤ n := by omega
  have H2 := Lib.hid (And.intro hr2 (And.intro hg2 (And.intro hS2 (And.intro hf02 (And.intro hx2 (And.intro hN (And.intro hs (And.intro hh (And.intro ht (And.intro hfN (And.intro hsN hv)))))))))))
  clear hr2 hg2 hS2 hf02 hx2 hN hs hh ht hfN hsN hv hcmN hL2
  go_wp2_with fail
  refine (run_any hb sv L f c size c n N s u t _ H2.out.1 H2.out.2.2.2.2.2.1 hN4 H2.out.2.2.2.2.2.2.2.2.2.1 hcN hmN H2.out.2.2.2.2.2.2.1 H2.out.2.2.2.2.2.2.2.1 H2.out.2.2.2.2.2.2.2.2.1).mono ?_
  rintro e w3 ⟨a1, k1, a2, k2, rfl, -, -, -, -, ha1, ha2, hf3⟩
  have H3 := Lib.hid (And.intro (H2.out.1.frNo hf3) (And.intro (H2.out.2.2.2.2.1.frNo hf3) (And.intro ha1 (And.intro ha2 hf3))))
  clear ha1 ha2 hf3 c0 c1 c2 c3
  have HX2 : Hid (((xs.drop u).take t).length = t) := by show _ = _; rw [List.length_take, List.length_drop, HS.out.2.2.2.2.1]; omega
  have HL : Hid ((splice L s (xs.take u)).length = N) := by
    have h1 := H2.out.2.2.2.2.2.1
    have h2 := H2.out.2.2.2.2.2.2.2.2.2.2.1.1
    have h3 : (xs.take u).length = u := by rw [List.length_take, HS.out.2.2.2.2.1]; omega
    show _ = _
    rw [length_splice _ _ _ (by omega), h1]
  have HX : Hid ((xs.take u).length = u) := by show _ = _; rw [List.length_take, HS.out.2.2.2.2.1]; omega
  by_cases hcu : cap = u
  · subst hcu
    go_wp2_with (first
      | ((with_reducible refine wpList_copy_ring rfl (.tmp 31) (.tmp 32) rfl a1 a cap k1 n cap rfl rfl H3.out.1 s (xs.take cap) (by rw [HX.out]; exact (Nat.min_eq_right hhn).symm) (fun hp => H3.out.2.2.1 (by rw [HX.out] at hp; exact hp)) (H3.out.2.1.take cap) (by rw [HX.out, H2.out.2.2.2.2.2.1]; exact H2.out.2.2.2.2.2.2.2.2.2.2.1.1) ?_); intro w4 hr4 hf4; have H4 := Lib.hid (And.intro hr4 (And.intro hf4 (H3.out.2.1.frP hf4 (fun h ad ha ho => HS.out.2.2.2.2.2.2.1 (by rw [← HS.out.2.2.2.2.1]; exact h) ad ha (H2.out.2.2.1 _ (.inr ho)))))); clear hr4 hf4)
      | ((with_reducible refine wpList_copy_ring rfl (.tmp 34) (.tmp 38) rfl a2 a t k2 0 0 rfl rfl H4.out.1 0 ((xs.drop cap).take t) (by rw [HX2.out]; exact zero_min (by omega)) (fun hp => by rw [HX2.out] at hp; rw [HL.out, ← H2.out.2.2.2.2.2.1]; exact H3.out.2.2.2.1 hp) (at_zero (by omega)) (by rw [HX2.out, HL.out]; have := H2.out.2.2.2.2.2.2.2.2.2.2.1.2; omega) ?_); intro w5 hr5 hf5; have H5 := Lib.hid (And.intro hr5 hf5); clear hr5 hf5; have c2 := H5.out.1.hcell.2.2.1; have z2 := H5.out.1.hfrozen 2)
      | fail)
    go_ret
    obtain ⟨hr2, hg2, hS2, hf02, hx2, hN, hs, hh, ht, hfN, hsN, hv⟩ := H2.out
    have F3 : Fr S w w3 := hf02.trans H3.out.2.2.2.2.no
    have F4 : Fr S w w4 := F3.trans (H4.out.2.1.mono fun k _ hk => hS2 k (.inr hk))
    have F5 : Fr S w w5 := F4.trans (H5.out.2.mono fun k _ hk => hS2 k (.inr hk))
    have r6 := H5.out.1.setCount cm
    have hq : (Q ++ xs.take n).length = cm := by
      rw [List.length_append, List.length_take, HS.out.2.2.2.2.1, HS.out.2.2.1, HS.out.2.2.2.2.2.2.2.2]
      omega
    exact ⟨rfl, ⟨sv, _, f, by rw [hq]; exact r6, hv, hS2⟩, F5.trans (Fr.setCell _ _ _ _ (hS2 hb (.inl rfl)))⟩
  · go_wp2_with (first
      | ((with_reducible refine wpList_copy_ring rfl (.tmp 31) (.tmp 32) rfl a1 a u k1 n cap rfl rfl H3.out.1 s (xs.take u) (by rw [HX.out]; exact (Nat.min_eq_right hhn).symm) (fun hp => H3.out.2.2.1 (by rw [HX.out] at hp; exact hp)) (H3.out.2.1.take u) (by rw [HX.out, H2.out.2.2.2.2.2.1]; exact H2.out.2.2.2.2.2.2.2.2.2.2.1.1) ?_); intro w4 hr4 hf4; have H4 := Lib.hid (And.intro hr4 (And.intro hf4 (H3.out.2.1.frP hf4 (fun h ad ha ho => HS.out.2.2.2.2.2.2.1 (by rw [← HS.out.2.2.2.2.1]; exact h) ad ha (H2.out.2.2.1 _ (.inr ho)))))); clear hr4 hf4)
      | ((with_reducible refine wpList_copy_ring rfl (.tmp 34) (.tmp 38) rfl a2 (Option.map (fun x => x.add u) a) t k2 (n - u) (cap - u) rfl rfl H4.out.1 0 ((xs.drop u).take t) (by rw [HX2.out]; exact (Nat.min_eq_right (by omega)).symm) (fun hp => by rw [HX2.out] at hp; rw [HL.out, ← H2.out.2.2.2.2.2.1]; exact H3.out.2.2.2.1 hp) (H4.out.2.2.dropMap u |>.take t) (by rw [HX2.out, HL.out]; have := H2.out.2.2.2.2.2.2.2.2.2.2.1.2; omega) ?_); intro w5 hr5 hf5; have H5 := Lib.hid (And.intro hr5 hf5); clear hr5 hf5; have c2 := H5.out.1.hcell.2.2.1; have z2 := H5.out.1.hfrozen 2)
      | fail)
    go_ret
    obtain ⟨hr2, hg2, hS2, hf02, hx2, hN, hs, hh, ht, hfN, hsN, hv⟩ := H2.out
    have F3 : Fr S w w3 := hf02.trans H3.out.2.2.2.2.no
    have F4 : Fr S w w4 := F3.trans (H4.out.2.1.mono fun k _ hk => hS2 k (.inr hk))
    have F5 : Fr S w w5 := F4.trans (H5.out.2.mono fun k _ hk => hS2 k (.inr hk))
    have r6 := H5.out.1.setCount cm
    have hq : (Q ++ xs.take n).length = cm := by
      rw [List.length_append, List.length_take, HS.out.2.2.2.2.1, HS.out.2.2.1, HS.out.2.2.2.2.2.2.2.2]
      omega
    exact ⟨rfl, ⟨sv, _, f, by rw [hq]; exact r6, hv, hS2⟩, F5.trans (Fr.setCell _ _ _ _ (hS2 hb (.inl rfl)))⟩

set_option maxHeartbeats 2000000 in
set_option maxRecDepth 100000 in
theorem push_part (S : Nat → Prop) (hb : Nat) (Q xs : List Int) (size c n cap fr : Nat) (a : Option Addr) (w : World) (hR : RingAt S w hb Q size) (hnew : ∀ k, w.heap.size ≤ k → S k) (hc : Q.length = c) (hx : At w a xs) (hn : xs.length = n) (hcap : n ≤ cap) (h63 : cap ≤ 9223372036854775807) (hnil : a = none → cap = 0) (haw : 0 < n → ∀ ad, a = some ad → ¬ S ad.block) (hfr : size - c = fr) (hm : fr < n) :
    Calls Try.prog 14 #[.pointer (some ⟨hb, 0, none⟩), .slice a n cap] w fun e w' => e = .returned (.int .i64 (fr : Nat)) ∧ RingAt S w' hb (Q ++ xs.take fr) size ∧ Fr S w w' := by
  obtain ⟨hcs, h4⟩ := hR.len
  rw [hc] at hcs
  obtain ⟨cm, hcm⟩ : ∃ cm, cm = c + fr := ⟨_, rfl⟩
  have e1 : (c : Int) + (fr : Int) = (cm : Int) := by omega
  have hcm4 : cm ≤ size := by omega
  have p1 : (fr : Int) < (n : Int) := by omega
  have hmn : fr ≤ n := by omega
  have hcell : w.cell? ⟨hb, 2, none⟩ = some (.int .i64 (c : Int)) := by
    obtain ⟨sv, L, f, hr, _⟩ := hR
    rw [hc] at hr
    exact hr.hcell.2.2.1
  have HS := Lib.hid (And.intro hR (And.intro hnew (And.intro hc (And.intro hx (And.intro hn (And.intro hnil (And.intro haw (And.intro hfr hcm))))))))
  clear hR hnew hc hx hn hnil haw hfr hcm hm
  go_enter Try.func14, Try.ntmps14
  go_wp2_with fail
  refine (free_any S hb Q size c fr _ HS.out.1 HS.out.2.2.1 HS.out.2.2.2.2.2.2.2.1).mono ?_
  rintro e w1 ⟨rfl, hf1⟩
  have hcell1 : w1.cell? ⟨hb, 2, none⟩ = some (.int .i64 (c : Int)) := (World.cell?_of_block (a := ⟨hb, 2, none⟩) (hf1.block hb (World.block_lt_of_cell? w _ hcell) (fun h => h))).trans hcell
  have H1 := Lib.hid hf1
  clear hf1 hcell
  go_wp2_with fail
  refine (reserve_any S hb Q size c cm _ (HS.out.1.frNo H1.out) (fun k hk => HS.out.2.1 k (Nat.le_trans H1.out.size hk)) HS.out.2.2.1 hcm4).mono ?_
  rintro e w2 ⟨rfl, sv, L, f, hr2, hg2, hS2, hL2, hf2⟩
  have hf02 : Fr S w w2 := (H1.out.no).trans hf2
  have hx2 : At w2 a xs := HS.out.2.2.2.1.frP hf02 (fun h => HS.out.2.2.2.2.2.2.1 (by rw [← HS.out.2.2.2.2.1]; exact h))
  clear hf2 H1 hcell1
  obtain ⟨N, hN⟩ : ∃ N, L.length = N := ⟨_, rfl⟩
  obtain ⟨s, hs⟩ : ∃ s, ix N f c = s := ⟨_, rfl⟩
  obtain ⟨u, hh⟩ : ∃ u, u = min fr (N - s) := ⟨_, rfl⟩
  obtain ⟨t, ht⟩ : ∃ t, u + t = fr := ⟨fr - u, by omega⟩
  have hfN := hg2.first
  rw [hN] at hfN hL2
  have hN4 : N ≤ 4096 := by rw [← hN]; exact Nat.le_trans hg2.len h4
  have hcmN := HS.out.2.2.2.2.2.2.2.2
  have hsN : s + u ≤ N ∧ t ≤ N := by rw [← hs] at hh ⊢; unfold ix at hh ⊢; split at hh <;> split <;> omega
  have hv := view_push (xs := xs) (s := s) hg2 HS.out.2.2.1 (by rw [hN]; omega) (by rw [HS.out.2.2.2.2.1]; omega) (by rw [hN]; exact hs) (by rw [hN]; exact hh) ht
  obtain ⟨c0, c1, c2, c3⟩ := hr2.hcell
  have hcN : c ≤ N := by omega
  have hmN : fr ≤ N := by omega
  have hhn : u ≤ n := by omega
  have htn : u + t ≤ n := by omega
  have H2 := Lib.hid (And.intro hr2 (And.intro hg2 (And.intro hS2 (And.intro hf02 (And.intro hx2 (And.intro hN (And.intro hs (And.intro hh (And.intro ht (And.intro hfN (And.intro hsN hv)))))))))))
  clear hr2 hg2 hS2 hf02 hx2 hN hs hh ht hfN hsN hv hcmN hL2
  go_wp2_with fail
  refine (run_any hb sv L f c size c fr N s u t _ H2.out.1 H2.out.2.2.2.2.2.1 hN4 H2.out.2.2.2.2.2.2.2.2.2.1 hcN hmN H2.out.2.2.2.2.2.2.1 H2.out.2.2.2.2.2.2.2.1 H2.out.2.2.2.2.2.2.2.2.1).mono ?_
  rintro e w3 ⟨a1, k1, a2, k2, rfl, -, -, -, -, ha1, ha2, hf3⟩
  have H3 := Lib.hid (And.intro (H2.out.1.frNo hf3) (And.intro (H2.out.2.2.2.2.1.frNo hf3) (And.intro ha1 (And.intro ha2 hf3))))
  clear ha1 ha2 hf3 c0 c1 c2 c3
  have HX2 : Hid (((xs.drop u).take t).length = t) := by show _ = _; rw [List.length_take, List.length_drop, HS.out.2.2.2.2.1]; omega
  have HL : Hid ((splice L s (xs.take u)).length = N) := by
    have h1 := H2.out.2.2.2.2.2.1
    have h2 := H2.out.2.2.2.2.2.2.2.2.2.2.1.1
    have h3 : (xs.take u).length = u := by rw [List.length_take, HS.out.2.2.2.2.1]; omega
    show _ = _
    rw [length_splice _ _ _ (by omega), h1]
  have HX : Hid ((xs.take u).length = u) := by show _ = _; rw [List.length_take, HS.out.2.2.2.2.1]; omega
  by_cases hcu : cap = u
  · subst hcu
    go_wp2_with (first
      | ((with_reducible refine wpList_copy_ring rfl (.tmp 31) (.tmp 32) rfl a1 a cap k1 n cap rfl rfl H3.out.1 s (xs.take cap) (by rw [HX.out]; exact (Nat.min_eq_right hhn).symm) (fun hp => H3.out.2.2.1 (by rw [HX.out] at hp; exact hp)) (H3.out.2.1.take cap) (by rw [HX.out, H2.out.2.2.2.2.2.1]; exact H2.out.2.2.2.2.2.2.2.2.2.2.1.1) ?_); intro w4 hr4 hf4; have H4 := Lib.hid (And.intro hr4 (And.intro hf4 (H3.out.2.1.frP hf4 (fun h ad ha ho => HS.out.2.2.2.2.2.2.1 (by rw [← HS.out.2.2.2.2.1]; exact h) ad ha (H2.out.2.2.1 _ (.inr ho)))))); clear hr4 hf4)
      | ((with_reducible refine wpList_copy_ring rfl (.tmp 34) (.tmp 38) rfl a2 a t k2 0 0 rfl rfl H4.out.1 0 ((xs.drop cap).take t) (by rw [HX2.out]; exact zero_min (by omega)) (fun hp => by rw [HX2.out] at hp; rw [HL.out, ← H2.out.2.2.2.2.2.1]; exact H3.out.2.2.2.1 hp) (at_zero (by omega)) (by rw [HX2.out, HL.out]; have := H2.out.2.2.2.2.2.2.2.2.2.2.1.2; omega) ?_); intro w5 hr5 hf5; have H5 := Lib.hid (And.intro hr5 hf5); clear hr5 hf5; have c2 := H5.out.1.hcell.2.2.1; have z2 := H5.out.1.hfrozen 2)
      | fail)
    go_ret
    obtain ⟨hr2, hg2, hS2, hf02, hx2, hN, hs, hh, ht, hfN, hsN, hv⟩ := H2.out
    have F3 : Fr S w w3 := hf02.trans H3.out.2.2.2.2.no
    have F4 : Fr S w w4 := F3.trans (H4.out.2.1.mono fun k _ hk => hS2 k (.inr hk))
    have F5 : Fr S w w5 := F4.trans (H5.out.2.mono fun k _ hk => hS2 k (.inr hk))
    have r6 := H5.out.1.setCount cm
    have hq : (Q ++ xs.take fr).length = cm := by
      rw [List.length_append, List.length_take, HS.out.2.2.2.2.1, HS.out.2.2.1, HS.out.2.2.2.2.2.2.2.2]
      omega
    exact ⟨rfl, ⟨sv, _, f, by rw [hq]; exact r6, hv, hS2⟩, F5.trans (Fr.setCell _ _ _ _ (hS2 hb (.inl rfl)))⟩
  · go_wp2_with (first
      | ((with_reducible refine wpList_copy_ring rfl (.tmp 31) (.tmp 32) rfl a1 a u k1 n cap rfl rfl H3.out.1 s (xs.take u) (by rw [HX.out]; exact (Nat.min_eq_right hhn).symm) (fun hp => H3.out.2.2.1 (by rw [HX.out] at hp; exact hp)) (H3.out.2.1.take u) (by rw [HX.out, H2.out.2.2.2.2.2.1]; exact H2.out.2.2.2.2.2.2.2.2.2.2.1.1) ?_); intro w4 hr4 hf4; have H4 := Lib.hid (And.intro hr4 (And.intro hf4 (H3.out.2.1.frP hf4 (fun h ad ha ho => HS.out.2.2.2.2.2.2.1 (by rw [← HS.out.2.2.2.2.1]; exact h) ad ha (H2.out.2.2.1 _ (.inr ho)))))); clear hr4 hf4)
      | ((with_reducible refine wpList_copy_ring rfl (.tmp 34) (.tmp 38) rfl a2 (Option.map (fun x => x.add u) a) t k2 (n - u) (cap - u) rfl rfl H4.out.1 0 ((xs.drop u).take t) (by rw [HX2.out]; exact (Nat.min_eq_right (by omega)).symm) (fun hp => by rw [HX2.out] at hp; rw [HL.out, ← H2.out.2.2.2.2.2.1]; exact H3.out.2.2.2.1 hp) (H4.out.2.2.dropMap u |>.take t) (by rw [HX2.out, HL.out]; have := H2.out.2.2.2.2.2.2.2.2.2.2.1.2; omega) ?_); intro w5 hr5 hf5; have H5 := Lib.hid (And.intro hr5 hf5); clear hr5 hf5; have c2 := H5.out.1.hcell.2.2.1; have z2 := H5.out.1.hfrozen 2)
      | fail)
    go_ret
    obtain ⟨hr2, hg2, hS2, hf02, hx2, hN, hs, hh, ht, hfN, hsN, hv⟩ := H2.out
    have F3 : Fr S w w3 := hf02.trans H3.out.2.2.2.2.no
    have F4 : Fr S w w4 := F3.trans (H4.out.2.1.mono fun k _ hk => hS2 k (.inr hk))
    have F5 : Fr S w w5 := F4.trans (H5.out.2.mono fun k _ hk => hS2 k (.inr hk))
    have r6 := H5.out.1.setCount cm
    have hq : (Q ++ xs.take fr).length = cm := by
      rw [List.length_append, List.length_take, HS.out.2.2.2.2.1, HS.out.2.2.1, HS.out.2.2.2.2.2.2.2.2]
      omega
    exact ⟨rfl, ⟨sv, _, f, by rw [hq]; exact r6, hv, hS2⟩, F5.trans (Fr.setCell _ _ _ _ (hS2 hb (.inl rfl)))⟩

theorem push_any (S : Nat → Prop) (hb : Nat) (Q xs : List Int) (size c n cap m : Nat) (a : Option Addr) (w : World) (hR : RingAt S w hb Q size) (hnew : ∀ k, w.heap.size ≤ k → S k) (hc : Q.length = c) (hx : At w a xs) (hn : xs.length = n) (hcap : n ≤ cap) (h63 : cap ≤ 9223372036854775807) (hnil : a = none → cap = 0) (haw : 0 < n → ∀ ad, a = some ad → ¬ S ad.block) (hm : min n (size - c) = m) :
    Calls Try.prog 14 #[.pointer (some ⟨hb, 0, none⟩), .slice a n cap] w fun e w' => e = .returned (.int .i64 (m : Nat)) ∧ RingAt S w' hb (Q ++ xs.take m) size ∧ Fr S w w' := by
  by_cases h : n ≤ size - c
  · obtain rfl : m = n := by omega
    exact push_all S hb Q xs size c m cap _ a w hR hnew hc hx hn hcap h63 hnil haw rfl h
  · obtain rfl : m = size - c := by omega
    exact push_part S hb Q xs size c n cap _ a w hR hnew hc hx hn hcap h63 hnil haw rfl (by omega)

end Go.Proofs.Ytmgpeonnmfidhaa
