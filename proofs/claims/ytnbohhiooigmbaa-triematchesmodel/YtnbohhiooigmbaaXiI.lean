/-
  CONTRACT of Insert of package trie at one value type, over this seat's translation.
  Conditions: the trie lies in memory.
-/
import Derived.Test.YtnbohhiooigmbaaXhI
import Derived.Test.YtnbohhiooigmbaaMm
namespace Go.Proofs.Ytnbohhiooigmbaa
open Go.ChangeShapes Go.WideShapes Go.ChangeAt Go.RowKit
set_option linter.unusedVariables false

/-- The trie after a put. -/
def AfterI (w : World) (a : Nat) (t4 t6 : Tr) (L : List (Px × Value)) (w' : World) : Prop := ∃ t4' t6', Tri 81 3 75 w' a t4' t6' ∧ t4'.toL ++ t6'.toL = L ∧ Fr (own a t4 t6) w w' ∧ ∀ k, own a t4' t6' k → own a t4 t6 k ∨ w.heap.size ≤ k

set_option maxHeartbeats 8000000 in
set_option maxRecDepth 100000 in
theorem insertI (p : Px) (hp : Bytes p.xs) (x : Value) (hx : ∃ z : Int, x = .int .i64 z) (a : Nat) (ta tb : Tr) (w : World) (hT : Tri 81 3 75 w a ta tb) (hM : (ta.toL ++ tb.toL).length ≤ 100000) :
    Calls Try.prog 11 #[.pointer (some ⟨a, 0, none⟩), .agg (pfx p.b p.xs p.n).toArray, x] w fun e w' => e = .returned (.bool (validP p.b p.xs p.n)) ∧ AfterI w a ta tb (if validP p.b p.xs p.n = true then putL p x (ta.toL ++ tb.toL) else ta.toL ++ tb.toL) w' := by
  obtain ⟨P, hP0, -, -, hPs, -, -⟩ := pfx_letter p.b p.xs p.n hp
  rw [hP0]
  obtain ⟨b1, b2, hF⟩ := alloc2 w (.cells P 31) (.cells #[x] 3)
  have HB : Hid (((w.alloc (.cells P 31)).alloc (.cells #[x] 3)).heap[w.heap.size]? = some (.cells P 31 (0, 0)) ∧ ((w.alloc (.cells P 31)).alloc (.cells #[x] 3)).heap[w.heap.size + 1]? = some (.cells #[x] 3 (0, 0)) ∧ Fr No w ((w.alloc (.cells P 31)).alloc (.cells #[x] 3))) := ⟨b1, b2, hF⟩
  have HV : Hid (∀ w', Calls Try.prog 36 #[.agg P] w' fun e w'' => e = .returned (.bool (validP p.b p.xs p.n)) ∧ Fr No w' w'') := fun w' => by rw [← hP0]; exact validp_any p.b p.xs p.n hp w'
  have HP0 := Lib.hid hP0
  have HT := Lib.hid hT
  cases hv : validP p.b p.xs p.n with
  | false =>
    rw [hv] at HV
    clear b1 b2 hF hP0 hT hv
    obtain ⟨z, rfl⟩ := hx
    go_enter Try.func11, Try.ntmps11
    have t3 := Try.underlying3
    have u3 := Try.runUnderlying3
    have g3 := Try.isAgg3
    have z3 := Try.sizeOf3
    have t4 := Try.underlying4
    have u4 := Try.runUnderlying4
    have g4 := Try.isAgg4
    have z4 := Try.sizeOf4
    have t9 := Try.underlying9
    have u9 := Try.runUnderlying9
    have g9 := Try.isAgg9
    have z9 := Try.sizeOf9
    have t29 := Try.underlying29
    have u29 := Try.runUnderlying29
    have g29 := Try.isAgg29
    have z29 := Try.sizeOf29
    have t31 := Try.underlying31
    have u31 := Try.runUnderlying31
    have g31 := Try.isAgg31
    have z31 := Try.sizeOf31
    have t73 := Try.underlying73
    have u73 := Try.runUnderlying73
    have g73 := Try.isAgg73
    have z73 := Try.sizeOf73
    have t81 := Try.underlying81
    have u81 := Try.runUnderlying81
    have g81 := Try.isAgg81
    have z81 := Try.sizeOf81
    have t24 := Try.underlying24
    have u24 := Try.runUnderlying24
    have g24 := Try.isAgg24
    have z24 := Try.sizeOf24
    have t78 := Try.underlying78
    have u78 := Try.runUnderlying78
    have g78 := Try.isAgg78
    have z78 := Try.sizeOf78
    have t75 := Try.underlying75
    have u75 := Try.runUnderlying75
    have g75 := Try.isAgg75
    have z75 := Try.sizeOf75
    have c36 := Try.call36
    have c37 := Try.call37
    have mixed : Try.prog.follows .mixedOrders = true := by kernel_rfl
    obtain ⟨k40, hk40⟩ : ∃ k, k = 18 := ⟨_, rfl⟩
    rw [← hk40] at z31
    have nk40 : ¬ k40 = 0 := by omega
    have HK31 := Lib.hid hk40
    have hP : Try.prog = PD := rfl
    rw [hP] at t3 u3 g3 z3 t4 u4 g4 z4 t9 u9 g9 z9 t29 u29 g29 z29 t31 u31 g31 z31 t73 u73 g73 z73 t81 u81 g81 z81 t24 u24 g24 z24 t78 u78 g78 z78 t75 u75 g75 z75 c36 c37 mixed ⊢
    have HP := Lib.hid hP.symm
    clear hP hk40
    have hPk : P.size = k40 := by rw [HK31.out]; exact hPs
    have l0 : Sem.run PD (loadCellsFrom ⟨w.heap.size, 0, none⟩ 0 k40 #[]) ((w.alloc (.cells P 31)).alloc (.cells #[.int .i64 z] 3)) = .ok P ((w.alloc (.cells P 31)).alloc (.cells #[.int .i64 z] 3)) := load_block HB.out.1 hPk (fun j v hv => by simpa using hv)
    clear hPs
    go_wp2_with (first | (go_at_call 36; go_loud (refine (at_prog HP.out (HV.out _)).mono ?_; rintro e w3 ⟨rfl, hf3⟩)) | fail)
    go_ret
    have hw := HB.out.2.2.trans hf3
    exact ⟨rfl, ta, tb, HT.out.no hw, rfl, hw.no, fun k hk => .inl hk⟩
  | true =>
    rw [hv] at HV
    have hok : okP p := ⟨hp, hv⟩
    obtain ⟨ao, hao⟩ : ∃ ao, (if p.b = true then 1 else 0 : Nat) = ao := ⟨_, rfl⟩
    obtain ⟨sb, so, hsl⟩ := slot_form a ao (mine p ta tb) (fp (mine p ta tb) p) (fp_ok _ p)
    obtain ⟨u, hu⟩ : ∃ u, sub (mine p ta tb) (fp (mine p ta tb) p) = u := ⟨_, rfl⟩
    obtain ⟨gv, hgv⟩ : ∃ gv, getT (mine p ta tb) p = gv := ⟨_, rfl⟩
    have HPR : Hid (∀ w', Fr No w w' → Calls Try.prog 37 #[.pointer (some ⟨a, 0, none⟩), .agg P] w' fun e w'' => ∃ gp g1 g2, e = .returned (.pointer (some ⟨gp, 0, none⟩)) ∧ ProvI w' a sb so u p gv gp g1 g2 w'') := fun w' hf => by
      have h := provideI p hok a ao (mine p ta tb) ta tb w' (hT.no hf) hao rfl sb so hsl
      rw [hP0, hu, hgv] at h
      exact h
    have hval : gv.map (·.2) = valL (ta.toL ++ tb.toL) p := by rw [← hgv]; exact get_val hT p
    have hlen := putL_len (p := p) (x := x) (both_srt hT.w4 hT.w6 hT.f4 hT.f6)
    have hul : ∀ k ∈ blk u, k ∈ blk (mine p ta tb) := fun k hk => sub_blk (by rw [hu]; exact hk)
    have halt : a < w.heap.size := some_lt hT.head
    obtain ⟨hown, hnot, -, -⟩ := place hT (fp_ok _ p) hsl
    have hsblt : sb < w.heap.size := hT.lt hown
    have HX := Lib.hid (And.intro hok (And.intro hao (And.intro hsl (And.intro hul (And.intro hown (And.intro hnot hlen))))))
    have HUG := Lib.hid (And.intro hu hgv)
    have hn0 : (0 : Int) ≤ ((ta.toL ++ tb.toL).length : Nat) := by omega
    obtain ⟨n, hn⟩ : ∃ n, (ta.toL ++ tb.toL).length = n := ⟨_, rfl⟩
    have hnM : n ≤ 100000 := by rw [← hn]; exact hM
    have hw1 : IntKind.i64.wrap ((n : Int) + 1) = (n : Int) + 1 := by rw [IntKind.wrap_i64]; omega
    have HN := Lib.hid hn
    -- the memory in the end
    have HEND : Hid (∀ (w3 w4 w6 : World) (gp g1 g2 : Nat), Fr No ((w.alloc (.cells P 31)).alloc (.cells #[x] 3)) w3 → ProvI w3 a sb so u p gv gp g1 g2 w4 → Fr (fun k => k = a ∨ k = gp) w4 w6 → (∀ C : Array Value, w4.heap[gp]? = some (.cells C 81 (0, 0)) → w6.heap[gp]? = some (.cells (C.setIfInBounds 18 (vp (some (w.heap.size + 1, x)))) 81 (0, 0))) → (∀ r4 r6, w4.heap[a]? = some (.cells #[r4, r6, .int .i64 (n : Int)] 75 (0, 0)) → w6.heap[a]? = some (.cells #[r4, r6, .int .i64 ((putL p x (ta.toL ++ tb.toL)).length : Nat)] 75 (0, 0))) → AfterI w a ta tb (putL p x (ta.toL ++ tb.toL)) w6) := by
      intro w3 w4 w6 gp g1 g2 hf3 hpr hf6 hgpc hhc
      have W3 : Fr No w w3 := HB.out.2.2.trans hf3
      have hT3 := hT.no W3
      have hs3 : w.heap.size + 2 ≤ w3.heap.size := by
        have h1 := hf3.size
        have h2 : ((w.alloc (.cells P 31)).alloc (.cells #[x] 3)).heap.size = w.heap.size + 1 + 1 := by simp
        omega
      have hgpn : gp ≠ a ∧ gp ∉ blk (other p ta tb) ∧ (gp ∉ blk (mine p ta tb) ∨ gp ∈ blk (sub (mine p ta tb) (fp (mine p ta tb) p))) ∧ (own a ta tb gp ∨ w3.heap.size ≤ gp) ∧ gp ≠ w.heap.size + 1 := by
        rcases hpr.here with h | h
        · exact ⟨by omega, fun hc => by have := (other_in hT p).1.lt gp hc; omega, .inl fun hc => by have := (hT.mine_wf p).2.2.2.2.lt gp hc; omega, .inr h, by omega⟩
        · have h1 := hul gp h
          have h2 := mine_other hT h1
          exact ⟨h2.2, h2.1, .inr (by rw [hu]; exact h), .inl (own_mine h1), by have := (hT.mine_wf p).2.2.2.2.lt gp h1; omega⟩
      have hvb : VAt 3 w6 (some (w.heap.size + 1, x)) := by
        have h1 : w3.heap[w.heap.size + 1]? = some (.cells #[x] 3 (0, 0)) := hf3.keep HB.out.2.1
        have h2 := (hpr.fr.block _ (some_lt h1) (by omega)).trans h1
        exact (hf6.block _ (some_lt h2) (by have := hgpn.2.2.2.2; omega)).trans h2
      have hsame : ∀ k, k < w4.heap.size → k ≠ gp → k ≠ a → w6.heap[k]? = w4.heap[k]? := fun k hk h1 h2 => hf6.block k hk (fun hc => hc.elim h2 h1)
      have htop := hpr.fin (w.heap.size + 1, x) w6 (fun k hk h1 _ h3 => hsame k hk h1 h3) hgpc hvb
      have hmw := hT3.mine_wf p
      have hslot3 := hpr.slot (w.heap.size + 1, x)
      have hin : In 81 3 w6 (ins p (w.heap.size + 1, x) g1 g2 (mine p ta tb)) := by
        refine prov_fin (T := 75) (a := a) (ao := ao) (gp := gp) (w := w3) (w' := w4) hmw.2.2.2.2 hmw.1 hmw.2.2.1 hmw.2.2.2.1 ?_ ?_ hgpn.2.2.1 hsame (by rw [hu]; exact htop)
        · rw [hsl]; exact hpr.fr
        · rw [hsl, hu]; exact hslot3
      have hoth : In 81 3 w6 (other p ta tb) := by
        obtain ⟨o1, o2⟩ := other_in hT3 p
        have h4 : In 81 3 w4 (other p ta tb) := o1.fr hpr.fr fun k hk hc => hnot (hc ▸ hk)
        exact h4.fr hf6 fun k hk hc => by
          rcases hc with hc | hc
          · exact o2 (hc ▸ hk)
          · exact hgpn.2.1 (hc ▸ hk)
      have hh4 := prov_head (v := (w.heap.size + 1, x)) (g1 := g1) (g2 := g2) hT3 hao hsl hpr.fr (by rw [hu]; exact hslot3)
      rw [hn] at hh4
      have hh6 := hhc _ _ hh4
      have n1 := hpr.n1
      have n2 := hpr.n2
      obtain ⟨r1, r2, r3⟩ := tri_ins (v := (w.heap.size + 1, x)) hT hok (by show w.heap.size + 1 ≠ g1; omega) (by show w.heap.size + 1 ≠ g2; omega) hpr.n3 (by show w.heap.size ≤ w.heap.size + 1; omega) (by omega) (by omega) hin hoth hh6
      refine ⟨_, _, r1, r2, ?_, r3⟩
      have h4 : Fr (own a ta tb) w w4 := W3.no.trans (hpr.fr.mono fun k _ hk => by rw [hk]; exact hown)
      refine h4.ofNew hf6 fun k hk => ?_
      rcases hk with hk | hk
      · rw [hk]; exact .inl (.inl rfl)
      · rcases hgpn.2.2.2.1 with h | h
        · rw [hk]; exact .inl h
        · rw [hk]; exact .inr (by omega)
    have HA : Hid (a ≠ sb → True) := fun _ => trivial
    have hab : ∀ w3 w4 gp g1 g2, Fr No ((w.alloc (.cells P 31)).alloc (.cells #[x] 3)) w3 → ProvI w3 a sb so u p gv gp g1 g2 w4 → (∃ r4 r6, w4.heap[a]? = some (.cells #[r4, r6, .int .i64 (n : Int)] 75 (0, 0))) ∧ gp ≠ a := by
      intro w3 w4 gp g1 g2 hf3 hpr
      have hT3 := hT.no (HB.out.2.2.trans hf3)
      have hh4 := prov_head (v := (0, x)) (g1 := g1) (g2 := g2) hT3 hao hsl hpr.fr (by rw [hu]; exact hpr.slot (0, x))
      rw [hn] at hh4
      refine ⟨⟨_, _, hh4⟩, ?_⟩
      rcases hpr.here with h | h
      · have := (HB.out.2.2.trans hf3).size; omega
      · exact (mine_other hT (hul gp h)).2
    have HAB := Lib.hid hab
    rw [if_pos rfl]
    clear b1 b2 hF hP0 hT hv hsl hu hgv hul hown hnot hok hao hab hn hM
    obtain ⟨z, rfl⟩ := hx
    go_enter Try.func11, Try.ntmps11
    have t3 := Try.underlying3
    have u3 := Try.runUnderlying3
    have g3 := Try.isAgg3
    have z3 := Try.sizeOf3
    have t4 := Try.underlying4
    have u4 := Try.runUnderlying4
    have g4 := Try.isAgg4
    have z4 := Try.sizeOf4
    have t9 := Try.underlying9
    have u9 := Try.runUnderlying9
    have g9 := Try.isAgg9
    have z9 := Try.sizeOf9
    have t29 := Try.underlying29
    have u29 := Try.runUnderlying29
    have g29 := Try.isAgg29
    have z29 := Try.sizeOf29
    have t31 := Try.underlying31
    have u31 := Try.runUnderlying31
    have g31 := Try.isAgg31
    have z31 := Try.sizeOf31
    have t73 := Try.underlying73
    have u73 := Try.runUnderlying73
    have g73 := Try.isAgg73
    have z73 := Try.sizeOf73
    have t81 := Try.underlying81
    have u81 := Try.runUnderlying81
    have g81 := Try.isAgg81
    have z81 := Try.sizeOf81
    have t24 := Try.underlying24
    have u24 := Try.runUnderlying24
    have g24 := Try.isAgg24
    have z24 := Try.sizeOf24
    have t78 := Try.underlying78
    have u78 := Try.runUnderlying78
    have g78 := Try.isAgg78
    have z78 := Try.sizeOf78
    have t75 := Try.underlying75
    have u75 := Try.runUnderlying75
    have g75 := Try.isAgg75
    have z75 := Try.sizeOf75
    have c36 := Try.call36
    have c37 := Try.call37
    have mixed : Try.prog.follows .mixedOrders = true := by kernel_rfl
    obtain ⟨k40, hk40⟩ : ∃ k, k = 18 := ⟨_, rfl⟩
    rw [← hk40] at z31
    have nk40 : ¬ k40 = 0 := by omega
    have HK31 := Lib.hid hk40
    have hP : Try.prog = PD := rfl
    rw [hP] at t3 u3 g3 z3 t4 u4 g4 z4 t9 u9 g9 z9 t29 u29 g29 z29 t31 u31 g31 z31 t73 u73 g73 z73 t81 u81 g81 z81 t24 u24 g24 z24 t78 u78 g78 z78 t75 u75 g75 z75 c36 c37 mixed ⊢
    have HP := Lib.hid hP.symm
    clear hP hk40
    have hPk : P.size = k40 := by rw [HK31.out]; exact hPs
    have HL : Hid (∀ w', Fr No ((w.alloc (.cells P 31)).alloc (.cells #[.int .i64 z] 3)) w' → Sem.run PD (loadCellsFrom ⟨w.heap.size, 0, none⟩ 0 k40 #[]) w' = .ok P w') := fun w' hf => load_block (hf.keep HB.out.1) hPk (fun j v hv => by simpa using hv)
    have l0 := HL.out _ (Fr.refl _ _)
    clear hPs
    go_upto_region 4 with (first | (go_at_call 36; go_loud (refine (at_prog HP.out (HV.out _)).mono ?_; rintro e w3 ⟨rfl, hf3⟩; have l3 := HL.out _ hf3)) | (go_at_call 37; go_loud (refine (at_prog HP.out (HPR.out _ (HB.out.2.2.trans hf3))).mono ?_; rintro e w4 ⟨gp, g1, g2, rfl, hpr⟩; obtain ⟨C, hC, hCs, hC18⟩ := hpr.cell; have c18 := cell_of hC hC18)) | fail)
    obtain ⟨⟨r4, r6, hha⟩, hgpa⟩ := HAB.out w3 w4 gp g1 g2 hf3 hpr
    have ca2 : w4.cell? ⟨a, 2, none⟩ = some (.int .i64 (n : Int)) := cell_of hha rfl
    have za2 := frozen_of_row w4 a 2 _ _ hha
    have zg := frozen_of_row w4 gp 18 _ _ hC
    have HQ := Lib.hid (And.intro hf3 (And.intro hpr (And.intro hC hha)))
    clear hf3 hpr hCs hC18 l3 l0
    cases gv with
    | none =>
      have hlen2 : (putL p (.int .i64 z) (ta.toL ++ tb.toL)).length = n + 1 := by rw [hlen, ← hval, HN.out]; rfl
      obtain ⟨w5, hw5⟩ : ∃ w5, w4.setCell ⟨a, 2, none⟩ (.int .i64 ((n : Int) + 1)) = w5 := ⟨_, rfl⟩
      have F5 : Fr (fun k => k = a) w4 w5 := by rw [← hw5]; exact Fr.setCell _ _ _ _ rfl
      have hC5 : w5.heap[gp]? = some (.cells C 81 (0, 0)) := by rw [← hw5, setCell_other _ hgpa]; exact hC
      have hha5 : w5.heap[a]? = some (.cells #[r4, r6, .int .i64 ((n : Int) + 1)] 75 (0, 0)) := by rw [← hw5]; exact setCell_same hha _
      have c185 : w5.cell? ⟨gp, 18, none⟩ = some (vp none) := by
        have h1 := cell_heap hC c18
        exact cell_of hC5 h1
      have zg5 := frozen_of_row w5 gp 18 _ _ hC5
      rw [show vp none = .pointer none from rfl] at c18 c185
      have HQ5 := Lib.hid (And.intro F5 (And.intro hC5 hha5))
      clear hlen hval F5 hC5 hha5 hC hha
      go_wp2_with fail
      go_ret
      refine ⟨rfl, HEND.out w3 w4 _ gp g1 g2 HQ.out.1 HQ.out.2.1 (((HQ5.out.1).mono fun k _ h => .inl h).trans (Fr.setCell _ _ _ _ (.inr rfl))) (fun C' h => ?_) (fun r4' r6' h => ?_)⟩
      · have h1 := HQ.out.2.2.1
        rw [h1] at h
        cases h
        exact setCell_same HQ5.out.2.1 _
      · have h1 := HQ.out.2.2.2
        rw [h1] at h
        cases h
        rw [setCell_other _ (fun h => hgpa h.symm), HQ5.out.2.2, hlen2]
        rfl
    | some ux =>
      obtain ⟨vb, y⟩ := ux
      have hlen2 : (putL p (.int .i64 z) (ta.toL ++ tb.toL)).length = n := by rw [hlen, ← hval, HN.out]; rfl
      rw [show vp (some (vb, y)) = .pointer (some ⟨vb, 0, none⟩) from rfl] at c18
      clear hlen hval hC hha
      go_wp2_with fail
      go_ret
      refine ⟨rfl, HEND.out w3 w4 _ gp g1 g2 HQ.out.1 HQ.out.2.1 (Fr.setCell _ _ _ _ (.inr rfl)) (fun C' h => setCell_same h _) (fun r4' r6' h => ?_)⟩
      rw [setCell_other _ (fun h => hgpa h.symm), h, hlen2]
end Go.Proofs.Ytnbohhiooigmbaa
