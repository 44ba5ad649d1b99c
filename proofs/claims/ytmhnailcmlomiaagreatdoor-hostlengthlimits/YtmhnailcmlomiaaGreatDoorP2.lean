/-
  CONTRACTS of parseV4, over this seat's translation: what the call returns.
  Conditions: the string is shorter than 2 to the 31; the package variables are as Glob says.
-/
import Derived.Test.YtmhnailcmlomiaaGreatDoorP1
namespace Go.Proofs.YtmhnailcmlomiaaGreatDoor
open Go.ChangeShapes Go.WideShapes Go.ChangeAt Go.RowKit
set_option linter.unusedVariables false

theorem zero104 : ∀ w, (zeroValue 104).run Tryz.prog w = .ok (.agg (nums .u8 [0, 0, 0, 0]).toArray) w := by
  intro w
  kernel_rfl

/-- What parseV4 gives: four bytes, or nothing. -/
def quad : Option (List Nat) → List Nat
  | some [a, b, c, d] => v4Of a b c d
  | _ => zeros
def isQ : Option (List Nat) → Bool
  | some _ => true
  | none => false

/-- The numbers when the first ones have been written. -/
def npart (ns : List Nat) : List Nat := ns ++ List.replicate (4 - ns.length) 0
theorem npart_length {ns : List Nat} (h : ns.length ≤ 4) : (npart ns).length = 4 := by
  rw [npart, List.length_append, List.length_replicate]; omega
theorem npart_step {ns : List Nat} {x i : Nat} (h : ns.length = i) (hi : i < 4) : (npart ns).set i x = npart (ns ++ [x]) := by
  rw [npart, npart, List.set_append_right _ _ (by omega), h, Nat.sub_self, show 4 - i = (4 - (i + 1)) + 1 by omega, List.replicate_succ, List.set_cons_zero, List.length_append, h]
  simp

/-- Where the loop is: what is left to parse, what is read. -/
def Inv4 (l r : List UInt8) (ns : List Nat) (i : Nat) : Prop := ns.length = i ∧ r.length ≤ l.length ∧ (∀ x ∈ ns, x < 256) ∧ ((i = 4 ∧ par 3 l = some ns) ∨ (i ≤ 3 ∧ par 3 l = (par (3 - i) r).map fun t => ns ++ t))

theorem Inv4.miss {l r : List UInt8} {ns : List Nat} {i : Nat} (h : Inv4 l r ns i) (hi : i < 3) (hc : cutc 46 r = none) : par 3 l = none := by
  obtain ⟨_, _, _, ⟨h4, _⟩ | ⟨_, h3⟩⟩ := h
  · omega
  · rw [h3, show 3 - i = (2 - i) + 1 by omega, par, hc]; rfl
theorem Inv4.more {l r a b : List UInt8} {ns : List Nat} (h : Inv4 l r ns 3) (hc : cutc 46 r = some (a, b)) : par 3 l = none := by
  obtain ⟨_, _, _, ⟨h4, _⟩ | ⟨_, h3⟩⟩ := h
  · omega
  · rw [h3, show 3 - 3 = 0 from rfl, par, hc]; rfl
theorem Inv4.bad {l r : List UInt8} {ns : List Nat} {i : Nat} (h : Inv4 l r ns i) (hi : i ≤ 3) (hd : decV (cutR r (cutc 46 r)).1 = none) : par 3 l = none := by
  obtain ⟨_, _, _, ⟨h4, _⟩ | ⟨_, h3⟩⟩ := h
  · omega
  · rw [h3]
    cases hc : cutc 46 r with
    | none =>
      rw [hc] at hd
      by_cases h : i = 3
      · subst h
        rw [show 3 - 3 = 0 from rfl, par, hc]
        have : decV r = none := hd
        simp [this]
      · rw [show 3 - i = (2 - i) + 1 by omega, par, hc]; rfl
    | some p =>
      rw [hc] at hd
      have hd' : decV p.1 = none := hd
      by_cases h : i = 3
      · subst h
        rw [show 3 - 3 = 0 from rfl, par, hc]; rfl
      · rw [show 3 - i = (2 - i) + 1 by omega, par, hc]
        simp [hd']
theorem Inv4.step {l r a b : List UInt8} {ns : List Nat} {i x : Nat} (h : Inv4 l r ns i) (hi : i < 3) (hc : cutc 46 r = some (a, b)) (hd : decV a = some x) : Inv4 l b (ns ++ [x]) (i + 1) := by
  obtain ⟨h1, h2, hb, ⟨h4, _⟩ | ⟨_, h3⟩⟩ := h
  · omega
  · have := cutc_length hc
    refine ⟨by simp [h1], by omega, ?_, .inr ⟨by omega, ?_⟩⟩
    · intro y hy
      rcases List.mem_append.1 hy with hy | hy
      · exact hb y hy
      · simp at hy; subst hy; exact decV_lt hd
    · rw [h3, show 3 - i = (2 - i) + 1 by omega, par, hc, show 3 - (i + 1) = 2 - i by omega]
      simp only [hd]
      cases par (2 - i) b with
      | none => rfl
      | some t => simp
theorem Inv4.last {l r : List UInt8} {ns : List Nat} {x : Nat} (h : Inv4 l r ns 3) (hc : cutc 46 r = none) (hd : decV r = some x) : Inv4 l [] (ns ++ [x]) 4 := by
  obtain ⟨h1, h2, hb, ⟨h4, _⟩ | ⟨_, h3⟩⟩ := h
  · omega
  · refine ⟨by simp [h1], by simp, ?_, .inl ⟨rfl, ?_⟩⟩
    · intro y hy
      rcases List.mem_append.1 hy with hy | hy
      · exact hb y hy
      · simp at hy; subst hy; exact decV_lt hd
    · rw [h3, show 3 - 3 = 0 from rfl, par, hc, hd]; rfl

set_option maxHeartbeats 4000000 in
set_option maxRecDepth 100000 in
theorem parseV4_any (l : List UInt8) (w : World) (hG : Glob w) (hl : l.length < 2147483648) :
    Calls Tryz.prog 93 #[.string (bs l)] w fun e w' => e = .returned (.tuple #[.agg (adr false (quad (par 3 l))).toArray, .bool (isQ (par 3 l))]) ∧ Fr No w w' := by
  obtain ⟨Z, hZ⟩ : ∃ Z : Array Value, (adr false zeros).toArray = Z := ⟨_, rfl⟩
  obtain ⟨Y, hY⟩ : ∃ Y : Array Value, (nums .u8 [0, 0, 0, 0]).toArray = Y := ⟨_, rfl⟩
  have v24 := zero30
  have v67 := zero104
  rw [hZ] at v24
  rw [hY] at v67
  have hz17 : Z.size = 17 := by rw [← hZ]; rfl
  have hz1 : ∀ u ∈ Z.toList, u.oneCell' = true := by rw [← hZ]; exact adr_one _ _
  obtain ⟨b1, b2, hF⟩ := alloc2 w (.cells Z 30) (.cells Y 104)
  have HW : Hid (w.heap.size = w.heap.size ∧ Glob w ∧ l.length < 2147483648 ∧ (adr false zeros).toArray = Z) := ⟨rfl, hG, hl, hZ⟩
  go_enter Tryz.func93, Tryz.ntmps93
  have t3 := Tryz.underlying3
  have u3 := Tryz.runUnderlying3
  have g3 := Tryz.isAgg3
  have z3 := Tryz.sizeOf3
  have t4 := Tryz.underlying4
  have u4 := Tryz.runUnderlying4
  have g4 := Tryz.isAgg4
  have z4 := Tryz.sizeOf4
  have t5 := Tryz.underlying5
  have u5 := Tryz.runUnderlying5
  have g5 := Tryz.isAgg5
  have z5 := Tryz.sizeOf5
  have t9 := Tryz.underlying9
  have u9 := Tryz.runUnderlying9
  have g9 := Tryz.isAgg9
  have z9 := Tryz.sizeOf9
  have t28 := Tryz.underlying28
  have u28 := Tryz.runUnderlying28
  have g28 := Tryz.isAgg28
  have z28 := Tryz.sizeOf28
  have t30 := Tryz.underlying30
  have u30 := Tryz.runUnderlying30
  have g30 := Tryz.isAgg30
  have z30 := Tryz.sizeOf30
  have t104 := Tryz.underlying104
  have u104 := Tryz.runUnderlying104
  have g104 := Tryz.isAgg104
  have z104 := Tryz.sizeOf104
  have c65 := Tryz.call65
  have c112 := Tryz.call112
  have c78 := Tryz.call78
  have mixed : Tryz.prog.follows .mixedOrders = true := by kernel_rfl
  obtain ⟨k24, hk24⟩ : ∃ k, k = 17 := ⟨_, rfl⟩
  rw [← hk24] at z30
  have nk24 : ¬ k24 = 0 := by omega
  have HK30 := Lib.hid hk24
  have hP : Tryz.prog = PD := rfl
  rw [hP] at t3 u3 g3 z3 t4 u4 g4 z4 t5 u5 g5 z5 t9 u9 g9 z9 t28 u28 g28 z28 t30 u30 g30 z30 t104 u104 g104 z104 c65 c112 c78 mixed v24 v67 ⊢
  have HP := Lib.hid hP.symm
  clear hP hk24
  have hzk : Z.size = k24 := by rw [HK30.out]; exact hz17
  have HZ := Lib.hid (And.intro hz17 hz1)
  clear hz17 hz1
  go_wp2_with fail
  generalize (w.alloc (.cells Z 30)).alloc (.cells Y 104) = w2 at b1 b2 hF ⊢
  obtain ⟨n, hn⟩ : ∃ n, w.heap.size = n := ⟨_, rfl⟩
  rw [hn] at b1 b2 ⊢
  have HN : Hid (w.heap.size = n ∧ Fr No w w2 ∧ w2.heap[n]? = some (.cells Z 30 (0, 0)) ∧ w2.heap[n + 1]? = some (.cells (nums .u8 (npart [])).toArray 104 (0, 0))) := ⟨hn, hF, b1, by rw [show npart [] = [0, 0, 0, 0] from rfl, hY]; exact b2⟩
  have HG := Lib.hid (And.intro hG (And.intro hl hZ))
  clear hn hF b1 b2 v67 hG hl hZ hY HW
  have FAIL : Hid (∀ w3, Fr (fun k => k = n + 1) w2 w3 → ∃ y, Sem.run PD (storeCells ⟨n, 0, none⟩ Z.toList 0) w3 = .ok () y ∧ y.heap[n]? = some (.cells Z 30 (0, 0)) ∧ Fr No w y) := fun w3 hf => by
    have hb : w3.heap[n]? = some (.cells Z 30 (0, 0)) := (hf.block n (Array.getElem?_eq_some_iff.1 HN.out.2.2.1).1 (by omega)).trans HN.out.2.2.1
    obtain ⟨y, h1, h2, h3⟩ := store_all (P := PD) Z.toList hb (by rw [Array.length_toList]) HZ.out.2
    exact ⟨y, h1, by simpa using h2, (HN.out.2.1.ofNew hf fun k hk => .inr (by rw [HN.out.1, hk]; omega)).ofNew h3 fun k hk => .inr (by rw [HN.out.1, hk]; exact Nat.le_refl _)⟩
  go_loopg [0, 11] 5 (fun g s0 s11 wr => ∃ (i : Nat) (r : List UInt8) (ns : List Nat), s0 = .string (bs r) ∧ s11 = .int .i64 i ∧ i ≤ 4 ∧ 4 - i < g ∧ Hid (Inv4 l r ns i ∧ Fr (fun k => k = n + 1) w2 wr ∧ wr.heap[n + 1]? = some (.cells (nums .u8 (npart ns)).toArray 104 (0, 0))))
  case atStart => exact ⟨0, l, [], rfl, by go_num, by omega, by omega, ⟨rfl, Nat.le_refl _, by simp, .inr ⟨by omega, by simp⟩⟩, Fr.refl _ _, HN.out.2.2.2⟩
  case round =>
    obtain ⟨i, r, ns, rfl, rfl, hi4, hig, HR⟩ := hrel
    have HF : Hid (Fr No w wr) := HN.out.2.1.ofNew HR.out.2.1 fun k hk => .inr (by rw [HN.out.1, hk]; omega)
    by_cases hi : i = 4
    · subst hi
      obtain ⟨hI, hfr, hblk⟩ := HR.out
      have hns4 := hI.1
      have hlt := hI.2.2.1
      have hpar : par 3 l = some ns := by
        obtain ⟨_, _, _, ⟨_, h⟩ | ⟨h, _⟩⟩ := hI
        · exact h
        · omega
      match ns, hns4 with
      | [x0, x1, x2, x3], _ =>
        have c0 : wr.cell? ⟨n + 1, 0, none⟩ = some (.int .u8 x0) := by rw [cell_of_row _ _ _ _ _ _ hblk]; rfl
        have c1 : wr.cell? ⟨n + 1, 1, none⟩ = some (.int .u8 x1) := by rw [cell_of_row _ _ _ _ _ _ hblk]; rfl
        have c2 : wr.cell? ⟨n + 1, 2, none⟩ = some (.int .u8 x2) := by rw [cell_of_row _ _ _ _ _ _ hblk]; rfl
        have c3 : wr.cell? ⟨n + 1, 3, none⟩ = some (.int .u8 x3) := by rw [cell_of_row _ _ _ _ _ _ hblk]; rfl
        have HPAR := Lib.hid (And.intro hpar hfr)
        clear hI hfr hblk hlt hpar
        go_wp2_with fail
        refine (at_prog HP.out (v4_any x0 x1 x2 x3 _)).mono ?_
        rintro e w3 ⟨rfl, hf3⟩
        have hbn : w3.heap[n]? = some (.cells Z 30 (0, 0)) := hf3.keep ((HPAR.out.2.block n (Array.getElem?_eq_some_iff.1 HN.out.2.2.1).1 (by omega)).trans HN.out.2.2.1)
        obtain ⟨y, hst, hyb, hyf⟩ := store_all (P := PD) (adr false (v4Of x0 x1 x2 x3)) hbn (by rw [HZ.out.1]; rfl) (adr_one _ _)
        have hv : (adr false (v4Of x0 x1 x2 x3)).length = k24 := by rw [HK30.out]; rfl
        have HY : Hid (y.heap[n]? = some (.cells (adr false (v4Of x0 x1 x2 x3)).toArray 30 (0, 0)) ∧ Fr No w y) := ⟨hyb, (HF.out.trans hf3).ofNew hyf fun k hk => .inr (by rw [HN.out.1, hk]; exact Nat.le_refl _)⟩
        clear hyb hyf hf3 hbn
        generalize hV : adr false (v4Of x0 x1 x2 x3) = V at hst hv HY ⊢
        have HV := Lib.hid hV
        clear hV
        go_wp2_with fail
        refine bodyPost_ret_by (results_agg_tmp rfl _ (b := n) (k := 17) (cs := V.toArray) (Tryz.isAgg30 _) (Tryz.sizeOf30 _) rfl (load_all HY.out.1 (by rw [← HV.out]; rfl))) rfl ?_
        exact ⟨by rw [HPAR.out.1, ← HV.out]; rfl, HY.out.2⟩
    · have q1 : (0 : Int) ≤ (i : Int) := by omega
      have q2 : (i : Int) < 4 := by omega
      have hrl : r.length < 2147483648 := by have := HR.out.1.2.1; have := HG.out.2.1; omega
      go_wp2_with fail
      refine (at_prog HP.out (cut1_any r 46 _ (HG.out.1.fr HF.out) hrl)).mono ?_
      rintro e w3 ⟨rfl, hf3⟩
      have htl : (cutR r (cutc 46 r)).1.length < 2147483648 := by
        cases hc : cutc 46 r with
        | none => exact hrl
        | some p => have := cutc_length (a := p.1) (b := p.2) hc; show p.1.length < _; omega
      have H3 : Hid (Fr (fun k => k = n + 1) w2 w3 ∧ w3.heap[n + 1]? = some (.cells (nums .u8 (npart ns)).toArray 104 (0, 0)) ∧ Fr No w w3) := ⟨HR.out.2.1.trans hf3.no, hf3.keep HR.out.2.2, HF.out.trans hf3⟩
      have HI : Hid (Inv4 l r ns i) := HR.out.1
      obtain ⟨a, ha⟩ : ∃ a, (cutR r (cutc 46 r)).1 = a := ⟨_, rfl⟩
      obtain ⟨rest, hrest⟩ : ∃ a, (cutR r (cutc 46 r)).2.1 = a := ⟨_, rfl⟩
      obtain ⟨more, hmore⟩ : ∃ a, (cutR r (cutc 46 r)).2.2 = a := ⟨_, rfl⟩
      rw [ha] at htl
      rw [ha, hrest, hmore]
      have HC := Lib.hid (And.intro ha (And.intro hrest hmore))
      clear hf3 ha hrest hmore HR
      go_wp2_with fail
      refine (at_prog HP.out (parseByte_any a _ (HG.out.1.fr H3.out.2.2) htl)).mono ?_
      rintro e w4 ⟨rfl, hf4⟩
      have H4 : Hid (Fr (fun k => k = n + 1) w2 w4 ∧ w4.heap[n + 1]? = some (.cells (nums .u8 (npart ns)).toArray 104 (0, 0)) ∧ Fr No w w4) := ⟨H3.out.1.trans hf4.no, hf4.keep H3.out.2.1, H3.out.2.2.trans hf4⟩
      clear hf4 H3
      cases hd : decV a with
      | none =>
        have HPN : Hid (par 3 l = none) := HI.out.bad (by omega) (by rw [HC.out.1]; exact hd)
        clear hd
        obtain ⟨y, hst, hyb, hyf⟩ := FAIL.out w4 H4.out.1
        have HY := Lib.hid (And.intro hyb hyf)
        clear hyb hyf
        simp only [optV, optB]
        go_wp2_with fail
        refine bodyPost_ret_by (results_agg_tmp rfl _ (b := n) (k := 17) (cs := Z) (Tryz.isAgg30 _) (Tryz.sizeOf30 _) rfl (load_block HY.out.1 HZ.out.1 (fun j v hv => by simpa using hv))) rfl ?_
        exact ⟨by rw [HPN.out, ← HG.out.2.2]; rfl, HY.out.2⟩
      | some x =>
        have hx := decV_lt hd
        have HD := Lib.hid hd
        clear hd
        cases more
        · have hcn : cutc 46 r = none := by
            cases hc : cutc 46 r with
            | none => rfl
            | some p => have := HC.out.2.2; rw [hc] at this; cases this
          by_cases hi3 : i = 3
          · subst hi3
            have hI5 := HI.out.last hcn (by have h1 := HC.out.1; rw [hcn] at h1; rw [show r = a from h1]; exact HD.out)
            have hre : rest = [] := by have h1 := HC.out.2.1; rw [hcn] at h1; exact h1.symm
            subst hre
            have hnl := HI.out.1
            obtain ⟨z, hz⟩ : ∃ z, (npart ns)[3]? = some z := ⟨_, List.getElem?_eq_getElem (by rw [npart_length (by omega)]; omega)⟩
            have k3 : w4.cell? ⟨n + 1, 3, none⟩ = some (.int .u8 z) := by rw [cell_of_row _ _ _ _ _ _ H4.out.2.1]; simpa using nums_get hz
            have f3 := frozen_of_row w4 (n + 1) 3 _ _ H4.out.2.1
            have e5 := nums_set (i := 3) (x := x) H4.out.2.1
            rw [npart_step hnl (by omega)] at e5
            have HE : Hid (Fr (fun k => k = n + 1) w2 (w4.setCell ⟨n + 1, 3, none⟩ (.int .u8 x)) ∧ (w4.setCell ⟨n + 1, 3, none⟩ (.int .u8 x)).heap[n + 1]? = some (.cells (nums .u8 (npart (ns ++ [x]))).toArray 104 (0, 0))) := ⟨H4.out.1.trans (Fr.setCell (fun k => k = n + 1) _ _ _ rfl), e5⟩
            have HI5 := Lib.hid hI5
            clear hz e5 hnl hI5 hcn
            simp only [optV, optB]
            go_wp2_with fail
            go_roundg (4 - 3)
            case measure => exact hig
            case rel => exact ⟨3 + 1, _, ns ++ [x], rfl, by go_num, by omega, by omega, HI5.out, HE.out⟩
          · have HPN : Hid (par 3 l = none) := HI.out.miss (by omega) hcn
            have p3 : (i : Int) < 3 := by omega
            clear hcn
            obtain ⟨y, hst, hyb, hyf⟩ := FAIL.out w4 H4.out.1
            have HY := Lib.hid (And.intro hyb hyf)
            clear hyb hyf
            simp only [optV, optB]
            go_wp2_with fail
            refine bodyPost_ret_by (results_agg_tmp rfl _ (b := n) (k := 17) (cs := Z) (Tryz.isAgg30 _) (Tryz.sizeOf30 _) rfl (load_block HY.out.1 HZ.out.1 (fun j v hv => by simpa using hv))) rfl ?_
            exact ⟨by rw [HPN.out, ← HG.out.2.2]; rfl, HY.out.2⟩
        · obtain ⟨a', b', hcs⟩ : ∃ a' b', cutc 46 r = some (a', b') := by
            cases hc : cutc 46 r with
            | none => have := HC.out.2.2; rw [hc] at this; cases this
            | some p => exact ⟨p.1, p.2, rfl⟩
          have e1 : a' = a := by have h1 := HC.out.1; rw [hcs] at h1; exact h1
          have e2 : b' = rest := by have h1 := HC.out.2.1; rw [hcs] at h1; exact h1
          subst e1 e2
          by_cases hi3 : i = 3
          · subst hi3
            have HPN : Hid (par 3 l = none) := HI.out.more hcs
            clear hcs
            obtain ⟨y, hst, hyb, hyf⟩ := FAIL.out w4 H4.out.1
            have HY := Lib.hid (And.intro hyb hyf)
            clear hyb hyf
            simp only [optV, optB]
            go_wp2_with fail
            refine bodyPost_ret_by (results_agg_tmp rfl _ (b := n) (k := 17) (cs := Z) (Tryz.isAgg30 _) (Tryz.sizeOf30 _) rfl (load_block HY.out.1 HZ.out.1 (fun j v hv => by simpa using hv))) rfl ?_
            exact ⟨by rw [HPN.out, ← HG.out.2.2]; rfl, HY.out.2⟩
          · have p3 : (i : Int) < 3 := by omega
            have hI5 := HI.out.step (by omega) hcs HD.out
            have hnl := HI.out.1
            obtain ⟨z, hz⟩ : ∃ z, (npart ns)[i]? = some z := ⟨_, List.getElem?_eq_getElem (by rw [npart_length (by omega)]; omega)⟩
            have k3 : w4.cell? ⟨n + 1, i, none⟩ = some (.int .u8 z) := by rw [cell_of_row _ _ _ _ _ _ H4.out.2.1]; simpa using nums_get hz
            have f3 := frozen_of_row w4 (n + 1) i _ _ H4.out.2.1
            have e5 := nums_set (i := i) (x := x) H4.out.2.1
            rw [npart_step hnl (by omega)] at e5
            have HE : Hid (Fr (fun k => k = n + 1) w2 (w4.setCell ⟨n + 1, i, none⟩ (.int .u8 x)) ∧ (w4.setCell ⟨n + 1, i, none⟩ (.int .u8 x)).heap[n + 1]? = some (.cells (nums .u8 (npart (ns ++ [x]))).toArray 104 (0, 0))) := ⟨H4.out.1.trans (Fr.setCell (fun k => k = n + 1) _ _ _ rfl), e5⟩
            have HI5 := Lib.hid hI5
            clear hz e5 hnl hI5 hcs
            simp only [optV, optB]
            go_wp2_with fail
            go_roundg (4 - i)
            case measure => exact hig
            case rel => exact ⟨i + 1, _, ns ++ [x], rfl, by go_num, by omega, by omega, HI5.out, HE.out⟩
end Go.Proofs.YtmhnailcmlomiaaGreatDoor
