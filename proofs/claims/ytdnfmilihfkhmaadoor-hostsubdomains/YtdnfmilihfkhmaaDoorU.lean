/-
  CONTRACTS of Unmap and of the reference's Unmap and Valid, over this seat's translation: what each call returns.
  Conditions: the argument is an address.
-/
import Derived.Test.YtdnfmilihfkhmaaDoorV2
import Derived.Test.YtdnfmilihfkhmaaDoorShelf
import Derived.Deep.RegionHeld3
namespace Go.Proofs.YtdnfmilihfkhmaaDoor
open Go.ChangeShapes Go.WideShapes Go.ChangeAt Go.RowKit
set_option linter.unusedVariables false

/-- The first twelve bytes of a mapped address. -/
def mapped : List Nat := [0, 0, 0, 0, 0, 0, 0, 0, 0, 0, 255, 255]
/-- Whether an address is a mapped one. -/
def isMapped (b : Bool) (xs : List Nat) : Bool := b && decide (xs.take 12 = mapped)
/-- What Unmap gives. -/
def unmapB (b : Bool) (xs : List Nat) : Bool := if isMapped b xs then false else b
def unmapX (b : Bool) (xs : List Nat) : List Nat := if isMapped b xs then v4Of (xs.getD 12 0) (xs.getD 13 0) (xs.getD 14 0) (xs.getD 15 0) else xs

theorem unmap_bytes {b : Bool} {xs : List Nat} (hx : Bytes xs) : Bytes (unmapX b xs) := by
  unfold unmapX
  split
  · have h : ∀ i, xs.getD i 0 < 256 := fun i => by
      rw [List.getD]
      cases hi : xs[i]? with
      | none => simp
      | some x => exact hx.2 x (List.mem_of_getElem? hi)
    exact v4_bytes (h _) (h _) (h _) (h _)
  · exact hx

theorem getD_get {xs : List Nat} {i : Nat} (h : i < xs.length) : xs[i]? = some (xs.getD i 0) := by
  rw [List.getD, List.getElem?_eq_getElem h]; rfl

theorem prefix_mapped {xs : List Nat} (hx : Bytes xs) : Lib.hasPrefix (Lib.bytesOf (xs.map fun (x : Nat) => (x : Int))) (Lib.bytesOf (mapped.map fun (x : Nat) => (x : Int))) = decide (xs.take 12 = mapped) := by
  have e : ∀ zs : List Nat, Lib.bytesOf (zs.map fun (x : Nat) => (x : Int)) = zs.map UInt8.ofNat := by
    intro zs
    rw [Lib.bytesOf, List.map_map]
    rfl
  rw [e, e, Lib.hasPrefix]
  obtain ⟨hl, hb⟩ := hx
  have key : ∀ a b : Nat, a < 256 → b < 256 → ((UInt8.ofNat a == UInt8.ofNat b) = decide (b = a)) := by
    intro a b ha hb
    rw [Bool.eq_iff_iff]
    simp only [beq_iff_eq, decide_eq_true_eq, ← UInt8.toNat_inj]
    simp [Nat.mod_eq_of_lt ha, Nat.mod_eq_of_lt hb]
    omega
  match xs, hl with
  | [x0, x1, x2, x3, x4, x5, x6, x7, x8, x9, x10, x11, x12, x13, x14, x15], _ =>
    have k := fun x (hx : x ∈ [x0, x1, x2, x3, x4, x5, x6, x7, x8, x9, x10, x11, x12, x13, x14, x15]) => hb x hx
    simp only [mapped, List.map_cons, List.map_nil, List.isPrefixOf]
    rw [key 0 x0 (by omega) (k _ (by simp)), key 0 x1 (by omega) (k _ (by simp)), key 0 x2 (by omega) (k _ (by simp)), key 0 x3 (by omega) (k _ (by simp)), key 0 x4 (by omega) (k _ (by simp)), key 0 x5 (by omega) (k _ (by simp)), key 0 x6 (by omega) (k _ (by simp)), key 0 x7 (by omega) (k _ (by simp)), key 0 x8 (by omega) (k _ (by simp)), key 0 x9 (by omega) (k _ (by simp)), key 255 x10 (by omega) (k _ (by simp)), key 255 x11 (by omega) (k _ (by simp))]
    rw [Bool.eq_iff_iff]
    simp

theorem zero56 : ∀ w, (zeroValue 56).run Tryd.prog w = .ok (.agg (nums .u8 [0, 0, 0, 0, 0, 0, 0, 0, 0, 0, 0, 0]).toArray) w := by
  intro w
  kernel_rfl

theorem zero24u : ∀ w, (zeroValue 24).run Tryd.prog w = .ok (.agg (adr false [0, 0, 0, 0, 0, 0, 0, 0, 0, 0, 0, 0, 0, 0, 0, 0]).toArray) w := by
  intro w
  kernel_rfl

set_option maxHeartbeats 2000000 in
set_option maxRecDepth 100000 in
theorem unmap_any (b : Bool) (xs : List Nat) (hx : Bytes xs) (w : World) :
    Calls Tryd.prog 15 #[.agg (adr b xs).toArray] w fun e w' => e = .returned (.agg (adr (unmapB b xs) (unmapX b xs)).toArray) ∧ Fr No w w' := by
  obtain ⟨A, hA, h0, hsz, hj⟩ := adr_letter b xs hx
  rw [hA]
  go_enter Tryd.func15, Tryd.ntmps15
  have v24 := zero24u
  obtain ⟨Z, hZ⟩ : ∃ Z : Array Value, (adr false [0, 0, 0, 0, 0, 0, 0, 0, 0, 0, 0, 0, 0, 0, 0, 0]).toArray = Z := ⟨_, rfl⟩
  rw [hZ] at v24
  have bld : ∀ w, Sem.run Tryd.prog (zeroValue 56) w = .ok (.agg #[.int .u8 0, .int .u8 0, .int .u8 0, .int .u8 0, .int .u8 0, .int .u8 0, .int .u8 0, .int .u8 0, .int .u8 0, .int .u8 0, .int .u8 0, .int .u8 0]) w := fun w => by kernel_rfl
  have HZ := Lib.hid hZ
  clear hZ
  have t4 := Tryd.underlying4
  have u4 := Tryd.runUnderlying4
  have g4 := Tryd.isAgg4
  have z4 := Tryd.sizeOf4
  have t5 := Tryd.underlying5
  have u5 := Tryd.runUnderlying5
  have g5 := Tryd.isAgg5
  have z5 := Tryd.sizeOf5
  have t22 := Tryd.underlying22
  have u22 := Tryd.runUnderlying22
  have g22 := Tryd.isAgg22
  have z22 := Tryd.sizeOf22
  have t24 := Tryd.underlying24
  have u24 := Tryd.runUnderlying24
  have g24 := Tryd.isAgg24
  have z24 := Tryd.sizeOf24
  have t34 := Tryd.underlying34
  have u34 := Tryd.runUnderlying34
  have g34 := Tryd.isAgg34
  have z34 := Tryd.sizeOf34
  have t56 := Tryd.underlying56
  have u56 := Tryd.runUnderlying56
  have g56 := Tryd.isAgg56
  have z56 := Tryd.sizeOf56
  have c43 := Tryd.call43
  have c27 := Tryd.call27
  have mixed : Tryd.prog.follows .mixedOrders = true := by kernel_rfl
  obtain ⟨k24, hk24⟩ : ∃ k, k = 17 := ⟨_, rfl⟩
  rw [← hk24] at z24
  have nk24 : ¬ k24 = 0 := by omega
  have HK24 := Lib.hid hk24
  have hP : Tryd.prog = PD := rfl
  rw [hP] at t4 u4 g4 z4 t5 u5 g5 z5 t22 u22 g22 z22 t24 u24 g24 z24 t34 u34 g34 z34 t56 u56 g56 z56 c43 c27 mixed v24 bld ⊢
  have HP := Lib.hid hP.symm
  clear hP hk24
  go_wp2_with fail
  generalize hM : (#[Value.int .u8 0, .int .u8 0, .int .u8 0, .int .u8 0, .int .u8 0, .int .u8 0, .int .u8 0, .int .u8 0, .int .u8 0, .int .u8 0, .int .u8 255, .int .u8 255] : Array Value) = M
  have HM : Hid ((nums .u8 mapped).toArray = M) := hM
  clear hM
  obtain ⟨b1, b2, b3, hF⟩ := alloc3 w (.cells A 24) (.cells Z 24) (.cells M 56)
  generalize ((w.alloc (.cells A 24)).alloc (.cells Z 24)).alloc (.cells M 56) = w3 at b1 b2 b3 hF ⊢
  obtain ⟨n, hn⟩ : ∃ n, w.heap.size = n := ⟨_, rfl⟩
  rw [hn] at b1 b2 b3 ⊢
  have HN := Lib.hid hn
  clear hn
  have HF := Lib.hid (And.intro hF (And.intro b1 (And.intro b2 b3)))
  have hS : Fr No w3 w3.drew := Fr.drew No _
  have HS := Lib.hid hS
  have k0 : w3.cell? ⟨n, 0, none⟩ = some (.bool b) := by rw [cell_of_row _ _ _ _ _ _ b1]; exact h0
  have HJ : Hid (∀ i x : Nat, xs[i]? = some x → w3.drew.cell? ⟨n, 1 + i, none⟩ = some (.int .u8 x)) := fun i x hi => hS.cell (by rw [cell_of_row _ _ _ _ _ _ b1]; exact hj i x hi)
  have HA := Lib.hid hA
  have hsk : A.size = k24 := by rw [HK24.out]; exact hsz
  have HSZ := Lib.hid hsz
  clear b1 b2 b3 hF hS hj hA hsz
  have FIN : Hid (∀ y, Fr (fun k => k = n + 1) w3.drew y → Fr No w y) := fun y hy => (HF.out.1.trans HS.out).ofNew hy fun k hk => .inr (by rw [HN.out, hk]; omega)
  cases b
  · have hl : ∀ q, Sem.run PD (loadCellsFrom ⟨n, 0, none⟩ 0 k24 #[]) (w3.drewN q) = .ok A (w3.drewN q) := fun q => by rw [HK24.out]; exact load_block ((Fr.drewN No w3 q).keep HF.out.2.1) HSZ.out (fun j v hv => by simpa using hv)
    obtain ⟨y, hy⟩ := Classical.axiomOfChoice (fun q => store_all (P := PD) (w := w3.drewN q) A.toList ((Fr.drewN No w3 q).keep HF.out.2.2.1) (by rw [Array.length_toList, HSZ.out, ← HZ.out]; rfl) (by rw [← HA.out]; exact adr_one _ _))
    have hst := fun q => (hy q).1
    have HY : Hid (∀ q, (y q).heap[n + 1]? = some (.cells A 24 (0, 0)) ∧ Fr (fun k => k = n + 1) (w3.drewN q) (y q)) := fun q => by simpa using (hy q).2
    clear hy
    go_quiet (fail)
    go_wp2_with fail
    refine bodyPost_ret_by (results_agg rfl _ (b := n + 1) (k := 17) (cs := A) (Tryd.isAgg24 _) (Tryd.sizeOf24 _) rfl (load_block (HY.out _).1 HSZ.out (fun j v hv => by simpa using hv))) rfl ?_
    exact ⟨by rw [← HA.out]; rfl, (HF.out.1.trans (Fr.drewN No w3 _)).ofNew (HY.out _).2 fun k hk => .inr (by rw [HN.out, hk]; omega)⟩
  · have q1 : Lib.BytesIn w3.drew (some ⟨n, 1, none⟩) 16 (xs.map fun (x : Nat) => (x : Int)) := Lib.BytesIn.of_cells (fun i hi => by
      rw [Go.WideShapes.add_plain, HJ.out i (xs.getD i 0) (getD_get (by rw [hx.1]; exact hi))]
      simp [List.getD]
      rw [List.getElem?_eq_getElem (by rw [hx.1]; exact hi)]
      rfl)
    have q2 : Lib.BytesIn w3.drew (some ⟨n + 1 + 1, 0, none⟩) 12 (mapped.map fun (x : Nat) => (x : Int)) := Lib.BytesIn.of_cells (fun i hi => by
      rw [Go.WideShapes.add_plain, cell_of_row _ _ _ _ _ _ (HS.out.keep HF.out.2.2.2), ← HM.out]
      have : i = 0 ∨ i = 1 ∨ i = 2 ∨ i = 3 ∨ i = 4 ∨ i = 5 ∨ i = 6 ∨ i = 7 ∨ i = 8 ∨ i = 9 ∨ i = 10 ∨ i = 11 := by omega
      rcases this with rfl | rfl | rfl | rfl | rfl | rfl | rfl | rfl | rfl | rfl | rfl | rfl <;> rfl)
    have HQ := Lib.hid (And.intro q1 (And.intro q2 (prefix_mapped hx)))
    clear q1 q2
    by_cases hm : xs.take 12 = mapped
    · have hiM : isMapped true xs = true := by simp [isMapped, hm]
      have HI := Lib.hid hiM
      clear hiM
      go_region_held3 (fun w' => w'.cell? ⟨n, 0, none⟩ = some (.bool true)) (go_keep) (first | (go_at_call 43; refine (at_prog HP.out (Tryd.bytes_HasPrefix_all _ _ 16 16 12 12 _ _ _ (by rw [List.length_map]; exact hx.1) rfl (Nat.le_refl _) HQ.out.1 HQ.out.2.1)).mono ?_; rintro e w4 ⟨rfl, rfl⟩; rw [HQ.out.2.2, decide_eq_true hm]))
      have g : ∀ i, i < 16 → ∃ x, xs[i]? = some x ∧ xs.getD i 0 = x := fun i hi => ⟨_, getD_get (by rw [hx.1]; exact hi), rfl⟩
      obtain ⟨x12, h12, e12⟩ := g 12 (by omega)
      obtain ⟨x13, h13, e13⟩ := g 13 (by omega)
      obtain ⟨x14, h14, e14⟩ := g 14 (by omega)
      obtain ⟨x15, h15, e15⟩ := g 15 (by omega)
      have c12 := HJ.out 12 _ h12
      have c13 := HJ.out 13 _ h13
      have c14 := HJ.out 14 _ h14
      have c15 := HJ.out 15 _ h15
      have HE : Hid (v4Of (xs.getD 12 0) (xs.getD 13 0) (xs.getD 14 0) (xs.getD 15 0) = v4Of x12 x13 x14 x15) := by
        show _ = _
        rw [e12, e13, e14, e15]
      clear g h12 h13 h14 h15 e12 e13 e14 e15
      go_wp2_with fail
      refine (at_prog HP.out (v4_any _ _ _ _ _)).mono ?_
      rintro e w5 ⟨rfl, hf5⟩
      obtain ⟨y, hst, hyb, hyf⟩ := store_all (P := PD) (adr false (v4Of x12 x13 x14 x15)) (hf5.keep (HS.out.keep HF.out.2.2.1)) (by rw [← HZ.out]; rfl) (adr_one _ _)
      have HY : Hid (y.heap[n + 1]? = some (.cells (adr (unmapB true xs) (unmapX true xs)).toArray 24 (0, 0)) ∧ Fr No w y) := by
        refine ⟨?_, ?_⟩
        · rw [hyb, unmapB, unmapX, if_pos HI.out, if_pos HI.out, HE.out]
        · exact ((HF.out.1.trans HS.out).trans hf5).ofNew hyf fun k hk => .inr (by rw [HN.out, hk]; omega)
      clear hyb hyf hf5
      have hv : (adr false (v4Of x12 x13 x14 x15)).length = k24 := by rw [HK24.out]; rfl
      generalize adr false (v4Of x12 x13 x14 x15) = V at hst hv ⊢
      go_wp2_with fail
      refine bodyPost_ret_by (results_agg rfl _ (b := n + 1) (k := 17) (cs := (adr (unmapB true xs) (unmapX true xs)).toArray) (Tryd.isAgg24 _) (Tryd.sizeOf24 _) rfl (load_all HY.out.1 (by rw [adr_length, (unmap_bytes hx).1]) )) rfl ?_
      exact ⟨rfl, HY.out.2⟩
    · have hiM : isMapped true xs = false := by simp [isMapped, hm]
      have HI := Lib.hid hiM
      clear hiM
      go_region_held3 (fun w' => w'.cell? ⟨n, 0, none⟩ = some (.bool true)) (go_keep) (first | (go_at_call 43; refine (at_prog HP.out (Tryd.bytes_HasPrefix_all _ _ 16 16 12 12 _ _ _ (by rw [List.length_map]; exact hx.1) rfl (Nat.le_refl _) HQ.out.1 HQ.out.2.1)).mono ?_; rintro e w4 ⟨rfl, rfl⟩; rw [HQ.out.2.2, decide_eq_false hm]))
      have hl : Sem.run PD (loadCellsFrom ⟨n, 0, none⟩ 0 k24 #[]) w3.drew = .ok A w3.drew := by rw [HK24.out]; exact load_block (HS.out.keep HF.out.2.1) HSZ.out (fun j v hv => by simpa using hv)
      obtain ⟨y, hst, hyb, hyf⟩ := store_all (P := PD) A.toList (HS.out.keep HF.out.2.2.1) (by rw [Array.length_toList, HSZ.out, ← HZ.out]; rfl) (by rw [← HA.out]; exact adr_one _ _)
      have HY := Lib.hid (And.intro hyb hyf)
      clear hyb hyf
      go_wp2_with fail
      refine bodyPost_ret_by (results_agg rfl _ (b := n + 1) (k := 17) (cs := A) (Tryd.isAgg24 _) (Tryd.sizeOf24 _) rfl (load_block HY.out.1 HSZ.out (fun j v hv => by simpa using hv))) rfl ?_
      exact ⟨by rw [← HA.out, unmapB, unmapX, HI.out]; rfl, FIN.out _ HY.out.2⟩
end Go.Proofs.YtdnfmilihfkhmaaDoor
