/-
  CONTRACTS of V6 of package ip and of v6 of package blocklist, over this seat's translation: eight groups make an address.
  Conditions: the groups lie in memory.
-/
import Derived.Test.YtnadendhboiliaaGreatWd
namespace Go.Proofs.YtnadendhboiliaaGreat
open Go.ChangeShapes Go.WideShapes Go.ChangeAt Go.RowKit
set_option linter.unusedVariables false

set_option maxHeartbeats 2000000 in
set_option maxRecDepth 100000 in
theorem v6_good (ad : Addr) (c : Nat) (gs : List Nat) (w : World) (h : At w (some ad) (nums .u16 gs)) (h8 : gs.length = 8) (hb : ∀ g ∈ gs, g < 65536) :
    Calls Tryz.prog 96 #[.slice (some ad) 8 c] w fun e w' => e = .returned (.tuple #[.agg (adr true (pack gs)).toArray, .bool true]) ∧ Fr No w w' := by
  obtain ⟨ab, ao, rfl⟩ : ∃ ab ao, ad = ⟨ab, ao, none⟩ := by
    obtain ⟨b, o, he, _⟩ := h 0 (.int .u16 gs[0]) (nums_get (List.getElem?_eq_getElem (by omega)))
    exact ⟨b, o, Option.some.inj he⟩
  have v24 : ∀ w, (zeroValue 25).run Tryz.prog w = .ok (.agg #[.bool false, .int .u8 0, .int .u8 0, .int .u8 0, .int .u8 0, .int .u8 0, .int .u8 0, .int .u8 0, .int .u8 0, .int .u8 0, .int .u8 0, .int .u8 0, .int .u8 0, .int .u8 0, .int .u8 0, .int .u8 0, .int .u8 0]) w := zero25
  have HS := Lib.hid (And.intro h (And.intro h8 hb))
  clear h h8 hb
  go_enter Tryz.func96, Tryz.ntmps96
  have t3 := Tryz.underlying3
  have u3 := Tryz.runUnderlying3
  have g3 := Tryz.isAgg3
  have z3 := Tryz.sizeOf3
  have t4 := Tryz.underlying4
  have u4 := Tryz.runUnderlying4
  have g4 := Tryz.isAgg4
  have z4 := Tryz.sizeOf4
  have t5 := Tryz.underlying5
  have u5 := Tryz.runUnderlying5
  have g5 := Tryz.isAgg5
  have z5 := Tryz.sizeOf5
  have t23 := Tryz.underlying23
  have u23 := Tryz.runUnderlying23
  have g23 := Tryz.isAgg23
  have z23 := Tryz.sizeOf23
  have t25 := Tryz.underlying25
  have u25 := Tryz.runUnderlying25
  have g25 := Tryz.isAgg25
  have z25 := Tryz.sizeOf25
  have t105 := Tryz.underlying105
  have u105 := Tryz.runUnderlying105
  have g105 := Tryz.isAgg105
  have z105 := Tryz.sizeOf105
  have t109 := Tryz.underlying109
  have u109 := Tryz.runUnderlying109
  have g109 := Tryz.isAgg109
  have z109 := Tryz.sizeOf109
  have t57 := Tryz.underlying57
  have u57 := Tryz.runUnderlying57
  have g57 := Tryz.isAgg57
  have z57 := Tryz.sizeOf57
  have mixed : Tryz.prog.follows .mixedOrders = true := by kernel_rfl
  have hP : Tryz.prog = PD := rfl
  rw [hP] at t3 u3 g3 z3 t4 u4 g4 z4 t5 u5 g5 z5 t23 u23 g23 z23 t25 u25 g25 z25 t105 u105 g105 z105 t109 u109 g109 z109 t57 u57 g57 z57 mixed v24 ⊢
  have HP := Lib.hid hP.symm
  clear hP 
  go_wp2_with fail
  obtain ⟨b1, b2, hF⟩ := alloc2 w (.cells #[.bool false, .int .u8 0, .int .u8 0, .int .u8 0, .int .u8 0, .int .u8 0, .int .u8 0, .int .u8 0, .int .u8 0, .int .u8 0, .int .u8 0, .int .u8 0, .int .u8 0, .int .u8 0, .int .u8 0, .int .u8 0, .int .u8 0] 25) (.cells #[.bool true, .int .u8 0, .int .u8 0, .int .u8 0, .int .u8 0, .int .u8 0, .int .u8 0, .int .u8 0, .int .u8 0, .int .u8 0, .int .u8 0, .int .u8 0, .int .u8 0, .int .u8 0, .int .u8 0, .int .u8 0, .int .u8 0] 25)
  generalize (w.alloc (.cells #[.bool false, .int .u8 0, .int .u8 0, .int .u8 0, .int .u8 0, .int .u8 0, .int .u8 0, .int .u8 0, .int .u8 0, .int .u8 0, .int .u8 0, .int .u8 0, .int .u8 0, .int .u8 0, .int .u8 0, .int .u8 0, .int .u8 0] 25)).alloc (.cells #[.bool true, .int .u8 0, .int .u8 0, .int .u8 0, .int .u8 0, .int .u8 0, .int .u8 0, .int .u8 0, .int .u8 0, .int .u8 0, .int .u8 0, .int .u8 0, .int .u8 0, .int .u8 0, .int .u8 0, .int .u8 0, .int .u8 0] 25) = w2 at b1 b2 hF ⊢
  obtain ⟨n, hn⟩ : ∃ n, w.heap.size = n := ⟨_, rfl⟩
  rw [hn] at b1 b2 ⊢
  have HN : Hid (w.heap.size = n ∧ Fr No w w2 ∧ w2.heap[n]? = some (.cells (adr false zeros).toArray 25 (0, 0)) ∧ w2.heap[n + 1]? = some (.cells (adr true zeros).toArray 25 (0, 0))) := ⟨hn, hF, b1, b2⟩
  clear hn hF b1 b2 v24
  go_loopg [14] 9 (fun g s wr => ∃ i : Nat, s = .int .i64 i ∧ i ≤ 8 ∧ 8 - i < g ∧ Hid (Fr (fun k => k = n + 1) w2 wr ∧ wr.heap[n + 1]? = some (.cells (adr true (part gs i)).toArray 25 (0, 0))))
  case atStart => exact ⟨0, by go_num, by omega, by omega, Fr.refl _ _, HN.out.2.2.2⟩
  case round =>
    obtain ⟨i, rfl, hi8, hig, HR⟩ := hrel
    by_cases hi : i = 8
    · subst hi
      obtain ⟨k24, hk⟩ : ∃ k, k = 17 := ⟨_, rfl⟩
      rw [← hk] at z25
      have hR := HR.out
      rw [part_all HS.out.2.1] at hR
      have hp : Bytes (pack gs) := ⟨by rw [pack_length, HS.out.2.1], pack_bytes HS.out.2.2⟩
      have hone := adr_one true (pack gs)
      have hA : (adr true (pack gs)).toArray.size = 17 := by rw [List.size_toArray, adr_length, hp.1]
      have hbn : wr.heap[n]? = some (.cells (adr false zeros).toArray 25 (0, 0)) := (hR.1.block n (Array.getElem?_eq_some_iff.1 HN.out.2.2.1).1 (by omega)).trans HN.out.2.2.1
      have hl : Sem.run PD (loadCellsFrom ⟨n + 1, 0, none⟩ 0 k24 #[]) wr = .ok (adr true (pack gs)).toArray wr := by rw [hk]; exact load_block hR.2 hA (fun j v hv => by simpa using hv)
      obtain ⟨y, hst, hyb, hyf⟩ := store_all (P := PD) (adr true (pack gs)).toArray.toList hbn (by rw [Array.length_toList, hA]; rfl) hone
      have hsz : (adr true (pack gs)).toArray.size = k24 := by rw [hk]; exact hA
      have HY : Hid (y.heap[n]? = some (.cells (adr true (pack gs)).toArray 25 (0, 0)) ∧ Fr No w y) := by
        refine ⟨by simpa using hyb, ?_⟩
        refine (HN.out.2.1.ofNew hR.1 fun k hk => .inr (by rw [HN.out.1, hk]; omega)).ofNew hyf fun k hk => .inr (by rw [HN.out.1, hk]; omega)
      have nk : ¬ k24 = 0 := by omega
      have HK := Lib.hid (And.intro hk hA)
      clear hk hA hR hp hone hbn hyb hyf HR
      generalize hAA : (adr true (pack gs)).toArray = A at hl hst hsz HY HK ⊢
      have HAA := Lib.hid hAA
      clear hAA
      go_wp2_with fail
      refine bodyPost_ret_by (results_agg_tmp rfl _ (b := n) (k := 17) (cs := A) (Tryz.isAgg25 _) (Tryz.sizeOf25 _) rfl (load_block HY.out.1 HK.out.2 (fun j v hv => by simpa using hv))) rfl ?_
      exact ⟨by rw [HAA.out]; rfl, HY.out.2⟩
    · obtain ⟨g, hg⟩ : ∃ g, gs[i]? = some g := ⟨_, List.getElem?_eq_getElem (by rw [HS.out.2.1]; omega)⟩
      have hg6 : g < 65536 := HS.out.2.2 g (List.mem_of_getElem? hg)
      have c1 : wr.cell? ⟨ab, ao + i, none⟩ = some (.int .u16 g) := by
        obtain ⟨b', o', he, hc⟩ := (((HS.out.1.frNo HN.out.2.1).fr HR.out.1 (fun ad ha hk => by
          have hlt := HS.out.1.lt (by rw [nums_length, HS.out.2.1]; omega)
          cases ha
          have := HN.out.1
          simp at hlt hk
          omega)) i _ (nums_get hg))
        cases he
        exact hc
      have hL := part_length HS.out.2.1 (show i ≤ 8 by omega)
      obtain ⟨z1, hz1⟩ : ∃ z, (part gs i)[2 * i]? = some z := ⟨_, List.getElem?_eq_getElem (by rw [hL]; omega)⟩
      obtain ⟨z2, hz2⟩ : ∃ z, (part gs i)[2 * i + 1]? = some z := ⟨_, List.getElem?_eq_getElem (by rw [hL]; omega)⟩
      have d1 := adr_cell HR.out.2 hz1
      have d2 := adr_cell HR.out.2 hz2
      have f1 := frozen_of_row wr (n + 1) (1 + 2 * i) _ _ HR.out.2
      have f2 := frozen_of_row wr (n + 1) (1 + (2 * i + 1)) _ _ HR.out.2
      have q1 : (0 : Int) ≤ (i : Int) := by omega
      have q2 : (i : Int) < 8 := by omega
      have q3 : (0 : Int) ≤ 2 * (i : Int) := by omega
      have q4 : 2 * (i : Int) < 16 := by omega
      have q5 : (0 : Int) ≤ 2 * (i : Int) + 1 := by omega
      have q6 : 2 * (i : Int) + 1 < 16 := by omega
      clear hL
      go_wp2_with fail
      go_roundg (8 - i)
      case measure => exact hig
      case rel =>
        have e1 := adr_set (i := 2 * i) (x := g / 256) HR.out.2
        have e2 := adr_set (i := 2 * i + 1) (x := g % 256) e1
        rw [part_step HS.out.2.1 hg] at e2
        refine ⟨i + 1, by go_num, by omega, by omega, ?_, ?_⟩
        · exact HR.out.1.trans ((Fr.setCell (fun k => k = n + 1) _ _ _ rfl).trans (Fr.setCell (fun k => k = n + 1) _ _ _ rfl))
        · simpa using e2

set_option maxHeartbeats 1000000 in
set_option maxRecDepth 100000 in
theorem bv6_any (gs : List Nat) (w : World) (h8 : gs.length = 8) (hb : ∀ g ∈ gs, g < 65536) :
    Calls Tryz.prog 90 #[.agg (nums .u16 gs).toArray] w fun e w' => e = .returned (.agg (adr true (pack gs)).toArray) ∧ Fr No w w' := by
  obtain ⟨G, hG⟩ : ∃ G, (nums .u16 gs).toArray = G := ⟨_, rfl⟩
  obtain ⟨Z, hZ⟩ : ∃ Z, (adr false zeros).toArray = Z := ⟨_, rfl⟩
  have hp : Bytes (pack gs) := ⟨by rw [pack_length, h8], pack_bytes hb⟩
  obtain ⟨A, hA, -, hAs, -⟩ := adr_letter true (pack gs) hp
  have v24 := zero25
  rw [hZ] at v24
  have hZs : Z.size = 17 := by rw [← hZ]; rfl
  have hGs : G.size = 8 := by rw [← hG, List.size_toArray, nums_length, h8]
  have hA1 : ∀ u ∈ A.toList, u.oneCell' = true := by rw [← hA]; exact adr_one _ _
  have HV : Hid (∀ (w' : World) (b : Nat), w'.heap[b]? = some (.cells G 119 (0, 0)) → Calls Tryz.prog 96 #[.slice (some ⟨b, 0, none⟩) 8 8] w' fun e w'' => e = .returned (.tuple #[.agg A, .bool true]) ∧ Fr No w' w'') := fun w' b h => by
    rw [← hA]
    exact v6_good ⟨b, 0, none⟩ 8 gs w' (At.block (by rw [hG]; exact h)) h8 hb
  rw [hG]
  have HA := Lib.hid hA
  clear hG hZ hp hA h8 hb
  go_enter Tryz.func90, Tryz.ntmps90
  have t3 := Tryz.underlying3
  have u3 := Tryz.runUnderlying3
  have g3 := Tryz.isAgg3
  have z3 := Tryz.sizeOf3
  have t4 := Tryz.underlying4
  have u4 := Tryz.runUnderlying4
  have g4 := Tryz.isAgg4
  have z4 := Tryz.sizeOf4
  have t25 := Tryz.underlying25
  have u25 := Tryz.runUnderlying25
  have g25 := Tryz.isAgg25
  have z25 := Tryz.sizeOf25
  have t109 := Tryz.underlying109
  have u109 := Tryz.runUnderlying109
  have g109 := Tryz.isAgg109
  have z109 := Tryz.sizeOf109
  have t119 := Tryz.underlying119
  have u119 := Tryz.runUnderlying119
  have g119 := Tryz.isAgg119
  have z119 := Tryz.sizeOf119
  have t105 := Tryz.underlying105
  have u105 := Tryz.runUnderlying105
  have g105 := Tryz.isAgg105
  have z105 := Tryz.sizeOf105
  have c96 := Tryz.call96
  have mixed : Tryz.prog.follows .mixedOrders = true := by kernel_rfl
  obtain ⟨k30, hk30⟩ : ∃ k, k = 17 := ⟨_, rfl⟩
  rw [← hk30] at z25
  have nk30 : ¬ k30 = 0 := by omega
  have HK25 := Lib.hid hk30
  obtain ⟨k8, hk8⟩ : ∃ k, k = 8 := ⟨_, rfl⟩
  rw [← hk8] at z119
  have nk8 : ¬ k8 = 0 := by omega
  have HK119 := Lib.hid hk8
  have hP : Tryz.prog = PD := rfl
  rw [hP] at t3 u3 g3 z3 t4 u4 g4 z4 t25 u25 g25 z25 t109 u109 g109 z109 t119 u119 g119 z119 t105 u105 g105 z105 c96 mixed v24 ⊢
  have HP := Lib.hid hP.symm
  clear hP hk30 hk8
  have hZk : Z.size = k30 := by rw [HK25.out]; exact hZs
  have hAk : A.size = k30 := by rw [HK25.out]; exact hAs
  have hGk : G.size = k8 := by rw [HK119.out]; exact hGs
  clear hZs hAs hGs
  obtain ⟨w2, hw2⟩ : ∃ w2, (w.alloc (.cells G 119)).alloc (.cells Z 25) = w2 := ⟨_, rfl⟩
  have F2 : Fr No w w2 := by rw [← hw2]; exact (Fr.alloc No w _).trans (Fr.alloc No _ _)
  have k1 : w2.heap[w.heap.size]? = some (.cells G 119 (0, 0)) := by rw [← hw2]; exact (Fr.alloc No _ _).keep (heap_alloc_new w _)
  have k2 : w2.heap[w.heap.size + 1]? = some (.cells Z 25 (0, 0)) := by rw [← hw2]; simpa using heap_alloc_new (w.alloc (.cells G 119)) (.cells Z 25)
  go_wp2_with (first | (go_at_call 96; ((refine (at_prog HP.out (HV.out w2 _ k1)).mono ?_); rintro e w3 ⟨rfl, hf3⟩; obtain ⟨y3, hst3, hyb3, hyf3⟩ := store_all (P := PD) A.toList (heap_alloc_new w3 (.cells Z 25)) (by rw [Array.length_toList, hAk, hZk]) hA1; have K3 : Fr No w2 y3 := (hf3.trans (Fr.alloc No w3 _)).ofNew hyf3 (fun k hk => .inr (by rw [hk]; exact hf3.size)); have l3 : Sem.run PD (loadCellsFrom ⟨w3.heap.size, 0, none⟩ 0 k30 #[]) y3 = .ok A y3 := load_block hyb3 hAk (fun j v hv => by simpa using hv); obtain ⟨y4, hst4, hyb4, hyf4⟩ := store_all (P := PD) A.toList (K3.keep k2) (by rw [Array.length_toList, hAk, hZk]) hA1)) | fail)
  refine bodyPost_ret_by (results_agg rfl _ (b := w.heap.size + 1) (k := 17) (cs := A) (Tryz.isAgg25 _) (Tryz.sizeOf25 _) rfl (load_block hyb4 (by rw [List.size_toArray, Array.length_toList, hAk, HK25.out]) (fun j v hv => by simpa using hv))) rfl ?_
  exact ⟨by rw [HA.out], (F2.trans K3).ofNew hyf4 fun k hk => .inr (by rw [hk]; omega)⟩
end Go.Proofs.YtnadendhboiliaaGreat
