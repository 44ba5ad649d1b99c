/-
  CONTRACT of the reference's ValidName, over this seat's translation: what the call returns.
  Conditions: none.
-/
import Derived.Test.YtnadendhboiliaaGreatHo
namespace Go.Proofs.YtnadendhboiliaaGreat
open Go.ChangeShapes Go.WideShapes Go.ChangeAt Go.RowKit
set_option linter.unusedVariables false

theorem nameV_yes {l : List UInt8} {P : List (List UInt8)} (hl : l.length ≤ 253) (hP : splitc 46 l = P) (h0 : P ≠ []) (h : ∀ (j : Nat) (p : List UInt8), P[j]? = some p → labV p = true ∧ (j + 1 = P.length → p.all isDig = false)) : nameV l = true := by
  unfold nameV
  rw [decide_eq_true hl, hP]
  have h1 : P.all labV = true := by
    rw [List.all_eq_true]
    intro p hp
    obtain ⟨j, hj⟩ := List.mem_iff_getElem?.1 hp
    exact (h j p hj).1
  have h2 : (P.getLastD []).all isDig = false := by
    have hlen : 0 < P.length := List.length_pos_iff.2 h0
    obtain ⟨p, hp⟩ : ∃ p, P[P.length - 1]? = some p := ⟨_, List.getElem?_eq_getElem (by omega)⟩
    rw [List.getLastD_eq_getLast?, List.getLast?_eq_getElem?, hp]
    exact (h _ p hp).2 (by omega)
  rw [h1, h2]
  rfl
theorem nameV_bad1 {l p : List UInt8} {P : List (List UInt8)} {j : Nat} (hP : splitc 46 l = P) (hp : P[j]? = some p) (h : labV p = false) : nameV l = false := by
  unfold nameV
  rw [hP]
  have h1 : P.all labV = false := by
    cases ha : P.all labV with
    | false => rfl
    | true => rw [List.all_eq_true.1 ha p (List.mem_of_getElem? hp)] at h; cases h
  rw [h1]
  simp
theorem nameV_bad2 {l p : List UInt8} {P : List (List UInt8)} {j : Nat} (hP : splitc 46 l = P) (hp : P[j]? = some p) (hj : j + 1 = P.length) (h : p.all isDig = true) : nameV l = false := by
  unfold nameV
  rw [hP, List.getLastD_eq_getLast?, List.getLast?_eq_getElem?, show P.length - 1 = j by omega, hp]
  show (_ && _ && !(p.all isDig)) = false
  rw [h]
  simp
theorem lab_iff (c : UInt8) : isLab c = decide ((97 ≤ c.toNat ∧ c.toNat ≤ 122) ∨ (48 ≤ c.toNat ∧ c.toNat ≤ 57) ∨ c.toNat = 45) := by
  have e : decide (c = 45) = decide (c.toNat = 45) := by
    rw [Bool.eq_iff_iff]
    simp only [decide_eq_true_eq]
    exact ⟨fun e => by rw [e]; rfl, fun e => UInt8.toNat_inj.1 e⟩
  unfold isLab isDig isLow
  rw [e, Bool.eq_iff_iff]
  simp only [Bool.or_eq_true, Bool.and_eq_true, decide_eq_true_eq]
  omega
theorem dig_iff (c : UInt8) : isDig c = decide (48 ≤ c.toNat ∧ c.toNat ≤ 57) := by
  unfold isDig
  rw [Bool.eq_iff_iff]
  simp only [Bool.and_eq_true, decide_eq_true_eq]
theorem take_all {p : List UInt8} {k : Nat} {c : UInt8} (h : p[k]? = some c) : (p.take (k + 1)).all isDig = ((p.take k).all isDig && isDig c) := by
  rw [List.take_add_one, h, List.all_append]
  simp
theorem labV_mid {p : List UInt8} {a z : UInt8} (h1 : 1 ≤ p.length) (h2 : p.length ≤ 63) (ha : p[0]? = some a) (hz : p[p.length - 1]? = some z) : labV p = (decide (a ≠ 45) && decide (z ≠ 45) && p.all isLab) := by
  unfold labV
  rw [decide_eq_true h1, decide_eq_true h2, List.head?_eq_getElem?, List.getLast?_eq_getElem?, ha, hz]
  simp

set_option maxHeartbeats 8000000 in
set_option maxRecDepth 100000 in
theorem vname_ref (l : List UInt8) (w : World) : Calls Tryz.prog 36 #[.string (bs l)] w fun e w' => e = .returned (.bool (nameV l)) ∧ Fr No w w' := by
  have hsz : (bs l).size = l.length := rfl
  have hemp : (bs l).toList.isEmpty = decide (l = []) := by rw [bs_toList]; cases l <;> rfl
  by_cases hnil : l = []
  · have HV : Hid (nameV l = false) := by show _ = _; rw [hnil]; rfl
    rw [decide_eq_true hnil] at hemp
    generalize bs l = s at hsz hemp ⊢
    clear hnil
    go_enter Tryz.func36, Tryz.ntmps36
    go_wp2_with fail
    go_ret
    exact ⟨by rw [HV.out]; rfl, Fr.refl _ _⟩
  · rw [decide_eq_false hnil] at hemp
    by_cases hbig : 253 < l.length
    · have HV : Hid (nameV l = false) := by show _ = _; unfold nameV; rw [decide_eq_false (by omega : ¬ l.length ≤ 253)]; rfl
      have p1 : (253 : Int) < (l.length : Int) := by omega
      generalize l.length = ln at hsz p1
      generalize bs l = s at hsz hemp ⊢
      clear hnil hbig
      go_enter Tryz.func36, Tryz.ntmps36
      go_wp2_with fail
      go_ret
      exact ⟨by rw [HV.out]; rfl, Fr.refl _ _⟩
    · have hl : l.length ≤ 253 := by omega
      have p1 : ¬ (253 : Int) < (l.length : Int) := by omega
      have HSP := Lib.hid (split_ref l 46 (by omega) w)
      obtain ⟨P, hP⟩ : ∃ P, splitc 46 l = P := ⟨_, rfl⟩
      rw [hP] at HSP
      have hPn : P.length ≤ 254 := by have := splitc_len 46 l; rw [hP] at this; omega
      have hP0 : P ≠ [] := by intro e; have := splitc_count 46 l; rw [hP, e] at this; simp at this
      have HL := Lib.hid hl
      obtain ⟨n, hn⟩ : ∃ n, P.length = n := ⟨_, rfl⟩
      have hn0 : 0 < n := by rw [← hn]; exact List.length_pos_iff.2 hP0
      rw [hn] at HSP hPn
      have HP : Hid (splitc 46 l = P ∧ P ≠ [] ∧ P.length = n) := ⟨hP, hP0, hn⟩
      clear hP hP0 hn hl hbig hnil
      generalize l.length = ln at hsz p1
      have e46 : (((46 : UInt8).toNat : Nat) : Int) = 46 := rfl
      rw [e46] at HSP
      clear e46
      generalize bs l = s at hsz hemp HSP ⊢
      go_enter Tryz.func36, Tryz.ntmps36
      go_wp2_with (first | (go_at_call 43; refine HSP.out.mono ?_; rintro e w1 ⟨a, cap, rfl, hown, hfr⟩) | fail)
      have hat := At.own hown
      obtain ⟨ab, ao, rfl⟩ : ∃ ab ao, a = some ⟨ab, ao, none⟩ := by
        obtain ⟨p, hp⟩ : ∃ p, P[0]? = some p := ⟨_, List.getElem?_eq_getElem (by rw [HP.out.2.2]; exact hn0)⟩
        obtain ⟨b, o, he, _⟩ := hat 0 (.string (bs p)) (strs_get (by rw [List.getElem?_map, hp]; rfl))
        exact ⟨b, o, he⟩
      have HCELL : Hid (∀ (i : Nat) (p : List UInt8), P[i]? = some p → w1.cell? ⟨ab, ao + i, none⟩ = some (.string (bs p))) := fun i p hp => by
        obtain ⟨b, o, he, hc⟩ := hat i (.string (bs p)) (strs_get (by rw [List.getElem?_map, hp]; rfl))
        cases he
        exact hc
      have HF := Lib.hid hfr
      clear hown hat hfr
      go_loopg [4] (n + 1) (fun g s4 wr => ∃ i : Nat, s4 = .int .i64 i ∧ i ≤ n ∧ n - i < g ∧ Hid (wr = w1 ∧ ∀ (j : Nat) (p : List UInt8), j < i → P[j]? = some p → labV p = true ∧ (j + 1 = n → p.all isDig = false)))
      case atStart => exact ⟨0, by go_num, by omega, by omega, rfl, fun j p hj => by omega⟩
      case round =>
        obtain ⟨i, rfl, hin, hig, HR⟩ := hrel
        obtain ⟨hw, hdone⟩ := HR.out
        have hw' := hw.symm
        subst hw'
        clear hw HR
        have q1 : (0 : Int) ≤ (i : Int) := by omega
        by_cases hi : i = n
        · subst hi
          have HV : Hid (nameV l = true) := nameV_yes HL.out HP.out.1 HP.out.2.1 fun j p hp => by
            have hj := (List.getElem?_eq_some_iff.1 hp).1
            rw [HP.out.2.2] at hj ⊢
            exact hdone j p hj hp
          clear hdone
          go_wp2_with fail
          go_ret
          exact ⟨by rw [HV.out]; rfl, HF.out⟩
        · have q2 : (i : Int) < (n : Int) := by omega
          obtain ⟨p, hp⟩ : ∃ p, P[i]? = some p := ⟨_, List.getElem?_eq_getElem (by rw [HP.out.2.2]; omega)⟩
          have hcell := HCELL.out i p hp
          have HIX : Hid (∀ (i : Nat) (x : UInt8) (w : World), p[i]? = some x → Sem.run Tryz.prog (Instr.index 9 (.string (bs p)) (.int .i64 i)) w = .ok (.int .u8 (x.toNat : Int)) w) := fun i x w h => bs_index h w
          have hpz : (bs p).size = p.length := rfl
          have hpe : (bs p).toList.isEmpty = decide (p = []) := by rw [bs_toList]; cases p <;> rfl
          have HD := Lib.hid hdone
          clear hdone
          by_cases hpn : p = []
          · have HB : Hid (nameV l = false) := nameV_bad1 HP.out.1 hp (by rw [hpn]; rfl)
            rw [decide_eq_true hpn] at hpe
            generalize bs p = sp at hcell HIX hpz hpe
            clear hp hpn
            go_wp2_with fail
            go_ret
            exact ⟨by rw [HB.out]; rfl, HF.out⟩
          · rw [decide_eq_false hpn] at hpe
            have hp1 : 1 ≤ p.length := List.length_pos_iff.2 hpn
            by_cases h63 : 63 < p.length
            · have HB : Hid (nameV l = false) := nameV_bad1 HP.out.1 hp (by unfold labV; rw [decide_eq_false (by omega : ¬ p.length ≤ 63)]; simp)
              have p63 : (63 : Int) < (p.length : Int) := by omega
              generalize p.length = m at hpz p63 hp1
              generalize bs p = sp at hcell HIX hpz hpe
              clear hp hpn h63
              go_wp2_with fail
              go_ret
              exact ⟨by rw [HB.out]; rfl, HF.out⟩
            · have p63 : ¬ (63 : Int) < (p.length : Int) := by omega
              obtain ⟨a, ha⟩ : ∃ a, p[0]? = some a := ⟨_, List.getElem?_eq_getElem (by omega)⟩
              obtain ⟨z, hz⟩ : ∃ z, p[p.length - 1]? = some z := ⟨_, List.getElem?_eq_getElem (by omega)⟩
              have hlab0 := labV_mid hp1 (by omega) ha hz
              have hx0 : ∀ w, Sem.run Tryz.prog (Instr.index 9 (.string (bs p)) (.int .i64 0)) w = .ok (.int .u8 (a.toNat : Int)) w := fun w => HIX.out 0 a w ha
              have hc0 : ((p.length - 1 : Nat) : Int) = (p.length : Int) - 1 := by omega
              have hxz := fun w => HIX.out (p.length - 1) z w hz
              rw [hc0] at hxz
              obtain ⟨m, hm⟩ : ∃ m, p.length = m := ⟨_, rfl⟩
              have HM := Lib.hid hm
              rw [hm] at hpz p63 hxz hp1
              clear ha hz hc0 hm hpn h63
              generalize bs p = sp at hcell HIX hpz hpe hx0 hxz
              by_cases ha45 : a = 45
              · have HB : Hid (nameV l = false) := nameV_bad1 HP.out.1 hp (by rw [hlab0, ha45]; rfl)
                have pa : (a.toNat : Int) = 45 := by rw [ha45]; rfl
                rw [pa] at hx0
                clear hp hlab0 ha45 pa
                go_wp2_with fail
                go_ret
                exact ⟨by rw [HB.out]; rfl, HF.out⟩
              · have pa : ¬ (a.toNat : Int) = 45 := fun e => ha45 (UInt8.toNat_inj.1 (by show a.toNat = 45; omega))
                by_cases hz45 : z = 45
                · have HB : Hid (nameV l = false) := nameV_bad1 HP.out.1 hp (by rw [hlab0, hz45]; simp)
                  have pz : (z.toNat : Int) = 45 := by rw [hz45]; rfl
                  rw [pz] at hxz
                  clear hp hlab0 ha45 hz45 pz
                  go_wp2_with fail
                  go_ret
                  exact ⟨by rw [HB.out]; rfl, HF.out⟩
                · have pz : ¬ (z.toNat : Int) = 45 := fun e => hz45 (UInt8.toNat_inj.1 (by show z.toNat = 45; omega))
                  have HVV : Hid (labV p = p.all isLab) := by show _ = _; rw [hlab0, decide_eq_true (p := a ≠ 45) ha45, decide_eq_true (p := z ≠ 45) hz45]; rfl
                  generalize (a.toNat : Int) = ax at hx0 pa
                  generalize (z.toNat : Int) = zx at hxz pz
                  have pb : (ax == 45) = false := by simpa using pa
                  have pc : (zx == 45) = false := by simpa using pz
                  clear hlab0 ha45 hz45
                  go_wp2_with fail
                  clear hx0 hxz pa pz pb pc
                  go_loopg [6, 7] (m + 1) (fun g s6 s7 wr => ∃ (k : Nat) (dg : Bool), s6 = .bool dg ∧ s7 = .int .i64 k ∧ k ≤ m ∧ m - k < g ∧ Hid (wr = w1 ∧ dg = (p.take k).all isDig ∧ ∀ (j : Nat) (c : UInt8), j < k → p[j]? = some c → isLab c = true))
                  case atStart => exact ⟨0, true, rfl, by go_num, by omega, by omega, rfl, rfl, fun j c hj => by omega⟩
                  case round =>
                    obtain ⟨k, dg, rfl, rfl, hkm, hkg, HK⟩ := hrel
                    obtain ⟨hw, hdg, hall⟩ := HK.out
                    have hw' := hw.symm
                    subst hw'
                    clear hw HK
                    have r1 : (0 : Int) ≤ (k : Int) := by omega
                    by_cases hk : k = m
                    · subst hk
                      rw [List.take_of_length_le (by rw [HM.out]; exact Nat.le_refl _)] at hdg
                      have HLB : Hid (labV p = true) := by
                        show _ = _
                        rw [HVV.out]
                        exact all_yes fun j c hj hc => hall j c (by rw [HM.out] at hj; exact hj) hc
                      clear hall
                      have hn1 : (n : Int) - 1 = ((n - 1 : Nat) : Int) := by omega
                      by_cases hlast : i + 1 = n
                      · have s1 : (i : Int) = (n : Int) - 1 := by omega
                        cases dg with
                        | true =>
                          have HB : Hid (nameV l = false) := nameV_bad2 HP.out.1 hp (by rw [HP.out.2.2]; exact hlast) hdg.symm
                          clear hdg hp
                          go_wp2_with fail
                          go_ret
                          exact ⟨by rw [HB.out]; rfl, HF.out⟩
                        | false =>
                          have HN : Hid (∀ (j : Nat) (p : List UInt8), j < i + 1 → P[j]? = some p → labV p = true ∧ (j + 1 = n → p.all isDig = false)) := fun j p2 hj hp2 => by
                            by_cases hji : j = i
                            · subst hji; rw [hp] at hp2; cases hp2; exact ⟨HLB.out, fun _ => hdg.symm⟩
                            · exact HD.out j p2 (by omega) hp2
                          clear hdg hp
                          go_wp2_with fail
                          go_roundg (n - i)
                          case measure => exact hig
                          case rel => exact ⟨i + 1, by go_num, by omega, by omega, rfl, HN.out⟩
                      · have s1 : ¬ (i : Int) = (n : Int) - 1 := by omega
                        have HN : Hid (∀ (j : Nat) (p : List UInt8), j < i + 1 → P[j]? = some p → labV p = true ∧ (j + 1 = n → p.all isDig = false)) := fun j p2 hj hp2 => by
                          by_cases hji : j = i
                          · subst hji; rw [hp] at hp2; cases hp2; exact ⟨HLB.out, fun e => absurd e hlast⟩
                          · exact HD.out j p2 (by omega) hp2
                        clear hdg hp
                        cases dg
                        · go_wp2_with fail
                          go_roundg (n - i)
                          case measure => exact hig
                          case rel => exact ⟨i + 1, by go_num, by omega, by omega, rfl, HN.out⟩
                        · go_wp2_with fail
                          go_roundg (n - i)
                          case measure => exact hig
                          case rel => exact ⟨i + 1, by go_num, by omega, by omega, rfl, HN.out⟩
                    · have r2 : (k : Int) < (m : Int) := by omega
                      obtain ⟨c, hc⟩ : ∃ c, p[k]? = some c := ⟨_, List.getElem?_eq_getElem (by rw [HM.out]; omega)⟩
                      have hix := fun w => HIX.out k c w hc
                      obtain ⟨x, hcx⟩ : ∃ x : Int, (c.toNat : Int) = x := ⟨_, rfl⟩
                      rw [hcx] at hix
                      have hcut : x < 45 ∨ x = 45 ∨ (45 < x ∧ x < 48) ∨ (48 ≤ x ∧ x ≤ 57) ∨ (57 < x ∧ x < 97) ∨ (97 ≤ x ∧ x ≤ 122) ∨ 122 < x := by omega
                      rcases hcut with hcut | hcut | hcut | hcut | hcut | hcut | hcut
                      · -- below 45
                        have f0 : ¬ (97 : Int) ≤ x := by omega
                        have f1 : ¬ (48 : Int) ≤ x := by omega
                        have f2 : ¬ x = 45 := by omega
                        have fb : (x == 45) = false := by simpa using f2
                        have hlab : isLab c = false := by rw [lab_iff]; exact decide_eq_false (by omega)
                        have HB : Hid (nameV l = false) := nameV_bad1 HP.out.1 hp (by rw [HVV.out]; exact all_no hc hlab)
                        clear hlab hdg hall hc hcx hcut
                        go_wp2_with fail
                        go_ret
                        exact ⟨by rw [HB.out]; rfl, HF.out⟩
                      · -- 45
                        have f0 : ¬ (97 : Int) ≤ x := by omega
                        have f1 : ¬ (48 : Int) ≤ x := by omega
                        have f2 : x = 45 := by omega
                        have hlab : isLab c = true := by rw [lab_iff]; exact decide_eq_true (by omega)
                        have hdig : isDig c = false := by rw [dig_iff]; exact decide_eq_false (by omega)
                        have HT : Hid (false = (p.take (k + 1)).all isDig ∧ ∀ (j : Nat) (c : UInt8), j < k + 1 → p[j]? = some c → isLab c = true) := by
                          refine ⟨?_, ?_⟩
                          · rw [take_all hc, ← hdg, hdig]; cases dg <;> rfl
                          · intro j c2 hj hc2
                            by_cases hjk : j = k
                            · subst hjk; rw [hc] at hc2; cases hc2; exact hlab
                            · exact hall j c2 (by omega) hc2
                        clear hlab hdig hdg hall hc hcx hcut
                        cases dg
                        · go_wp2_with fail
                          go_roundg (m - k)
                          case measure => exact hkg
                          case rel => exact ⟨k + 1, false, by rfl, by go_num, by omega, by omega, rfl, HT.out.1, HT.out.2⟩
                        · go_wp2_with fail
                          go_roundg (m - k)
                          case measure => exact hkg
                          case rel => exact ⟨k + 1, false, by rfl, by go_num, by omega, by omega, rfl, HT.out.1, HT.out.2⟩
                      · -- 46, 47
                        have f0 : ¬ (97 : Int) ≤ x := by omega
                        have f1 : ¬ (48 : Int) ≤ x := by omega
                        have f2 : ¬ x = 45 := by omega
                        have fb : (x == 45) = false := by simpa using f2
                        have hlab : isLab c = false := by rw [lab_iff]; exact decide_eq_false (by omega)
                        have HB : Hid (nameV l = false) := nameV_bad1 HP.out.1 hp (by rw [HVV.out]; exact all_no hc hlab)
                        clear hlab hdg hall hc hcx hcut
                        go_wp2_with fail
                        go_ret
                        exact ⟨by rw [HB.out]; rfl, HF.out⟩
                      · -- digits
                        have f0 : ¬ (97 : Int) ≤ x := by omega
                        have f1 : (48 : Int) ≤ x := by omega
                        have f2 : x ≤ 57 := by omega
                        have f3 : ¬ x = 45 := by omega
                        have fb : (x == 45) = false := by simpa using f3
                        have hlab : isLab c = true := by rw [lab_iff]; exact decide_eq_true (by omega)
                        have hdig : isDig c = true := by rw [dig_iff]; exact decide_eq_true (by omega)
                        have HT : Hid (dg = (p.take (k + 1)).all isDig ∧ ∀ (j : Nat) (c : UInt8), j < k + 1 → p[j]? = some c → isLab c = true) := by
                          refine ⟨?_, ?_⟩
                          · rw [take_all hc, ← hdg, hdig]; cases dg <;> rfl
                          · intro j c2 hj hc2
                            by_cases hjk : j = k
                            · subst hjk; rw [hc] at hc2; cases hc2; exact hlab
                            · exact hall j c2 (by omega) hc2
                        clear hlab hdig hdg hall hc hcx hcut
                        cases dg
                        · go_wp2_with fail
                          go_roundg (m - k)
                          case measure => exact hkg
                          case rel => exact ⟨k + 1, false, by rfl, by go_num, by omega, by omega, rfl, HT.out.1, HT.out.2⟩
                        · go_wp2_with fail
                          go_roundg (m - k)
                          case measure => exact hkg
                          case rel => exact ⟨k + 1, true, by rfl, by go_num, by omega, by omega, rfl, HT.out.1, HT.out.2⟩
                      · -- 58 to 96
                        have f0 : ¬ (97 : Int) ≤ x := by omega
                        have f1 : (48 : Int) ≤ x := by omega
                        have f2 : ¬ x ≤ 57 := by omega
                        have f3 : ¬ x = 45 := by omega
                        have fb : (x == 45) = false := by simpa using f3
                        have hlab : isLab c = false := by rw [lab_iff]; exact decide_eq_false (by omega)
                        have HB : Hid (nameV l = false) := nameV_bad1 HP.out.1 hp (by rw [HVV.out]; exact all_no hc hlab)
                        clear hlab hdg hall hc hcx hcut
                        go_wp2_with fail
                        go_ret
                        exact ⟨by rw [HB.out]; rfl, HF.out⟩
                      · -- letters
                        have f0 : (97 : Int) ≤ x := by omega
                        have f1 : x ≤ 122 := by omega
                        have f2 : (48 : Int) ≤ x := by omega
                        have f3 : ¬ x ≤ 57 := by omega
                        have f4 : ¬ x = 45 := by omega
                        have fb : (x == 45) = false := by simpa using f4
                        have hlab : isLab c = true := by rw [lab_iff]; exact decide_eq_true (by omega)
                        have hdig : isDig c = false := by rw [dig_iff]; exact decide_eq_false (by omega)
                        have HT : Hid (false = (p.take (k + 1)).all isDig ∧ ∀ (j : Nat) (c : UInt8), j < k + 1 → p[j]? = some c → isLab c = true) := by
                          refine ⟨?_, ?_⟩
                          · rw [take_all hc, ← hdg, hdig]; cases dg <;> rfl
                          · intro j c2 hj hc2
                            by_cases hjk : j = k
                            · subst hjk; rw [hc] at hc2; cases hc2; exact hlab
                            · exact hall j c2 (by omega) hc2
                        clear hlab hdig hdg hall hc hcx hcut
                        cases dg
                        · go_wp2_with fail
                          go_roundg (m - k)
                          case measure => exact hkg
                          case rel => exact ⟨k + 1, false, by rfl, by go_num, by omega, by omega, rfl, HT.out.1, HT.out.2⟩
                        · go_wp2_with fail
                          go_roundg (m - k)
                          case measure => exact hkg
                          case rel => exact ⟨k + 1, false, by rfl, by go_num, by omega, by omega, rfl, HT.out.1, HT.out.2⟩
                      · -- above
                        have f0 : (97 : Int) ≤ x := by omega
                        have f1 : ¬ x ≤ 122 := by omega
                        have f2 : (48 : Int) ≤ x := by omega
                        have f3 : ¬ x ≤ 57 := by omega
                        have f4 : ¬ x = 45 := by omega
                        have fb : (x == 45) = false := by simpa using f4
                        have hlab : isLab c = false := by rw [lab_iff]; exact decide_eq_false (by omega)
                        have HB : Hid (nameV l = false) := nameV_bad1 HP.out.1 hp (by rw [HVV.out]; exact all_no hc hlab)
                        clear hlab hdg hall hc hcx hcut
                        go_wp2_with fail
                        go_ret
                        exact ⟨by rw [HB.out]; rfl, HF.out⟩
end Go.Proofs.YtnadendhboiliaaGreat
