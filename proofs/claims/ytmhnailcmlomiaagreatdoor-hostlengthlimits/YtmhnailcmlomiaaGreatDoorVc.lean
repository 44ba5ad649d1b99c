/-
  CONTRACTS of the reference's LabelCount and IsSubdomain, over this seat's translation: what each call returns.
  Conditions: none.
  CONTRACT of the reference's ParseName, over this seat's translation: what the call returns.
  Conditions: the string is no longer than a string can be.
-/
import Derived.Test.YtmhnailcmlomiaaGreatDoorV1
import Derived.Test.YtmhnailcmlomiaaGreatDoorP3
import Derived.Test.YtmhnailcmlomiaaGreatDoorN4
namespace Go.Proofs.YtmhnailcmlomiaaGreatDoor
open Go.ChangeShapes Go.WideShapes Go.ChangeAt Go.RowKit
set_option linter.unusedVariables false

theorem nameV_short {l : List UInt8} (h : nameV l = true) : l.length ≤ 253 := by
  unfold nameV at h
  simp at h
  exact h.1.1

set_option maxHeartbeats 2000000 in
set_option maxRecDepth 100000 in
theorem cnt_ref (l : List UInt8) (w : World) : Calls Tryz.prog 43 #[.string (bs l)] w fun e w' => e = .returned (.int .i64 (cntV l : Nat)) ∧ Fr No w w' := by
  have HN := Lib.hid (vname_ref l)
  cases hb : nameV l with
  | false =>
    have HV : Hid (cntV l = 0) := by show _ = _; rw [cntV, if_neg (by rw [hb]; simp)]
    rw [hb] at HN
    generalize bs l = s at HN ⊢
    clear hb
    go_enter Tryz.func43, Tryz.ntmps43
    go_wp2_with (first | (go_at_call 47; refine (HN.out _).mono ?_; rintro e w1 ⟨rfl, hf1⟩) | fail)
    go_ret
    exact ⟨by rw [HV.out]; rfl, hf1⟩
  | true =>
    have HV : Hid (cntV l = (splitc 46 l).length) := by show _ = _; rw [cntV, if_pos hb]
    have HS : Hid (∀ w, Calls Tryz.prog 68 #[.string (bs l), .int .u8 46] w fun e w' => ∃ a cap, e = .returned (.slice a (splitc 46 l).length cap) ∧ w'.ownsRow w.heap.size 9 1 (.slice a (splitc 46 l).length cap) (splitc 46 l).length (strs ((splitc 46 l).map bs)) ∧ Fr No w w') := fun w => split_ref l 46 (by have := nameV_short hb; omega) w
    rw [hb] at HN
    rw [HV.out]
    generalize (splitc 46 l).length = n at HS ⊢
    generalize bs l = s at HN HS ⊢
    clear hb HV
    go_enter Tryz.func43, Tryz.ntmps43
    go_wp2_with (first | (go_at_call 47; refine (HN.out _).mono ?_; rintro e w1 ⟨rfl, hf1⟩) | (go_at_call 68; refine (HS.out _).mono ?_; rintro e w2 ⟨a, cap, rfl, -, hf2⟩) | fail)
    go_ret
    exact ⟨rfl, hf1.trans hf2⟩

theorem sufV_step {a b : List UInt8} {d : Nat} {c : UInt8} (hd : a.length = b.length + (d + 1)) (hc : a[d]? = some c) : sufV a (46 :: b) = (decide (a.drop (d + 1) = b) && decide (c = 46)) := by
  unfold sufV
  rw [decide_eq_true (by rw [List.length_cons]; omega), Bool.true_and, show a.length - (46 :: b).length = d by rw [List.length_cons]; omega]
  obtain ⟨h1, h2⟩ := List.getElem?_eq_some_iff.1 hc
  rw [List.drop_eq_getElem_cons h1, h2, Bool.eq_iff_iff]
  simp only [Bool.and_eq_true, decide_eq_true_eq, List.cons.injEq]
  exact ⟨fun h => ⟨h.2, h.1⟩, fun h => ⟨h.2, h.1⟩⟩
theorem sufV_none {a b : List UInt8} (hd : a.length ≤ b.length) : sufV a (46 :: b) = false := by
  unfold sufV
  rw [decide_eq_false (by rw [List.length_cons]; omega)]
  rfl

end Go.Proofs.YtmhnailcmlomiaaGreatDoor
namespace Go.Proofs.YtmhnailcmlomiaaGreatDoor
open Go.ChangeShapes Go.WideShapes Go.ChangeAt Go.RowKit
set_option linter.unusedVariables false

theorem LowTo.conv {m : List UInt8} {nb cap : Nat} {w : World} (h : LowTo m nb m.length w) : Sem.run Tryz.prog (convert 22 9 (.slice (some ⟨nb, 0, none⟩) m.length cap)) w = .ok (.string (bs (lowV m))) w := by
  rw [← strOfNums_low]
  refine run_convert_bytes_arg w 22 5 Tryz.underlying22 Tryz.underlying5 nb 0 m.length cap _ (by rw [List.length_map]) ?_ 9 Tryz.underlying9
  intro j hj
  obtain ⟨c, hc⟩ : ∃ c, m[j]? = some c := ⟨_, List.getElem?_eq_getElem hj⟩
  rw [Nat.zero_add, (h j c hc).1, if_pos hj, List.getD, List.getElem?_map, hc]
  rfl
theorem LowTo.keep {m : List UInt8} {nb i : Nat} {w w' : World} (h : LowTo m nb i w) (hb : w'.heap[nb]? = w.heap[nb]?) : LowTo m nb i w' := fun j c hc => by
  have h1 := h j c hc
  refine ⟨(World.cell?_of_block hb).trans h1.1, ?_⟩
  have h2 := h1.2
  simp only [World.frozen?, hb] at h2 ⊢
  exact h2
theorem LowTo.pre {l : List UInt8} {nb i k : Nat} {w : World} (h : LowTo l nb i w) : LowTo (l.take k) nb i w := fun j c hc => h j c (by
  rw [List.getElem?_take] at hc
  split at hc
  · exact hc
  · cases hc)

set_option maxHeartbeats 8000000 in
set_option maxRecDepth 100000 in
theorem pname_ref (l : List UInt8) (hl : l.length < 9223372036854775808) (w : World) : Calls Tryz.prog 39 #[.string (bs l)] w fun e w' => e = .returned (ansN (nameP l)) ∧ Fr No w w' := by
  have hconv : Sem.run Tryz.prog (convert 9 22 (.string (bs l))) w = .ok (.slice (some ⟨w.heap.size, 0, none⟩) l.length (grownCap w l.length 0 5)) (Lib.bytesWorld w 5 (bs l)) := Lib.run_convert_string_bytes w 9 22 5 (bs l) Tryz.underlying9 Tryz.underlying22 Tryz.underlying5
  have hcell : LowTo l w.heap.size 0 (Lib.bytesWorld w 5 (bs l)) := fun i c hc => by
    have hi := (List.getElem?_eq_some_iff.1 hc).1
    have h1 : (Lib.bytesWorld w 5 (bs l)).cell? ⟨w.heap.size, i, none⟩ = some (.int .u8 (c.toNat : Int)) := by
      rw [Lib.bytesWorld_cell w 5 (bs l) i hi, bs_list, List.getD, hc]
      rfl
    exact ⟨h1, bytes_thaw w 5 (bs l) h1⟩
  have hF := Fr.bytesWorld w 5 (bs l)
  have hS1 : w.heap.size < (Lib.bytesWorld w 5 (bs l)).heap.size := by rw [Lib.bytesWorld_size]; omega
  have hcap : l.length ≤ grownCap w l.length 0 5 := grownCap_ge _ _ _ _
  generalize Lib.bytesWorld w 5 (bs l) = w1 at hconv hcell hF hS1
  generalize grownCap w l.length 0 5 = cap at hconv hcap
  obtain ⟨nb, hnb⟩ : ∃ nb, w.heap.size = nb := ⟨_, rfl⟩
  rw [hnb] at hconv hcell hS1
  have HF : Hid (Fr No w w1 ∧ w.heap.size = nb ∧ nb < w1.heap.size) := ⟨hF, hnb, hS1⟩
  clear hF hnb hS1
  by_cases hlast : l.getLast? = some 46
  · have hm : trimV l = l.dropLast := by rw [trimV, if_pos hlast]
    have hlen0 : 0 < l.length := by
      cases l with
      | nil => cases hlast
      | cons x r => simp
    obtain ⟨k, hk⟩ : ∃ k, l.length = k + 1 := ⟨l.length - 1, by omega⟩
    have c46 : w1.cell? ⟨nb, k, none⟩ = some (.int .u8 46) := (hcell k 46 (by rw [List.getLast?_eq_getElem?, hk] at hlast; exact hlast)).1.trans (by rw [if_neg (Nat.not_lt_zero _)]; rfl)
    have hlow : LowTo l.dropLast nb 0 w1 := by rw [List.dropLast_eq_take]; exact hcell.pre
    have hkm : l.dropLast.length = k := by rw [List.length_dropLast, hk]; rfl
    rw [hk] at hconv hcap hl
    generalize l.dropLast = m at hm hlow hkm
    have HM : Hid (trimV l = m ∧ m.length = k ∧ LowTo m nb 0 w1) := ⟨hm, hkm, hlow⟩
    have hk62 : k < 9223372036854775808 := by omega
    have q0 : (0 : Int) ≤ (k : Int) := by omega
    have q9 : (k : Int) ≤ (cap : Int) := by omega
    generalize bs l = s at hconv ⊢
    clear hlast hm hlen0 hk hlow hkm hl hcell
    go_enter Tryz.func39, Tryz.ntmps39
    go_wp2_with fail
    clear hconv c46
    go_loopg [5] (k + 1) (fun g s5 wr => ∃ i : Nat, s5 = .int .i64 i ∧ i ≤ k ∧ k - i < g ∧ Hid (Fr (fun k => k = nb) w1 wr ∧ LowTo m nb i wr))
    case atStart => exact ⟨0, by go_num, by omega, by omega, Fr.refl _ _, HM.out.2.2⟩
    case round =>
      obtain ⟨i, rfl, hil, hig, HR⟩ := hrel
      have q1 : (0 : Int) ≤ (i : Int) := by omega
      by_cases hi : i = k
      · have hE : Fr No w wr := HF.out.1.ofNew HR.out.1 fun k hk => .inr (by rw [HF.out.2.1, hk]; exact Nat.le_refl _)
        have hnb : nb < wr.heap.size := Nat.lt_of_lt_of_le HF.out.2.2 HR.out.1.size
        have HCV : Hid (∀ w', Fr No wr w' → Sem.run Tryz.prog (convert 22 9 (.slice (some ⟨nb, 0, none⟩) (k) cap)) w' = .ok (.string (bs (lowV m))) w') := fun w' hf => by
          have hR := HR.out.2
          rw [hi, ← HM.out.2.1] at hR
          have h1 := (hR.keep (hf.block nb hnb (fun h => h))).conv (cap := cap)
          rw [HM.out.2.1] at h1
          exact h1
        have hcv := HCV.out wr (Fr.refl _ _)
        have HVN := Lib.hid (vname_ref (lowV m))
        have HA : Hid (ansN (nameP l) = if nameV (lowV m) then .tuple #[.string (bs (lowV m)), .bool true] else .tuple #[.string ⟨#[]⟩, .bool false]) := by
          show _ = _
          rw [nameP, HM.out.1]
          cases nameV (lowV m) <;> rfl
        have HE := Lib.hid hE
        have hi2 : (i : Int) = ((k : Nat) : Int) := by omega
        rw [hi2]
        clear HR hE hnb hil hig hi hi2 q1
        generalize nameV (lowV m) = b at HVN HA
        generalize bs (lowV m) = sl at hcv HCV HVN HA
        cases b
        · go_wp2_with (first | (go_at_call 47; refine (HVN.out _).mono ?_; rintro e w3 ⟨rfl, hf3⟩) | fail)
          go_ret2
          exact ⟨by rw [HA.out]; rfl, HE.out.trans hf3⟩
        · go_wp2_with (first | (go_at_call 47; refine (HVN.out _).mono ?_; rintro e w3 ⟨rfl, hf3⟩; have hcv3 := HCV.out w3 hf3) | fail)
          go_ret2
          exact ⟨by rw [HA.out]; rfl, HE.out.trans hf3⟩
      · have q2 : (i : Int) < ((k : Nat) : Int) := by omega
        obtain ⟨x, hx⟩ : ∃ x, m[i]? = some x := ⟨_, List.getElem?_eq_getElem (by rw [HM.out.2.1]; omega)⟩
        have hc1 : wr.cell? ⟨nb, i, none⟩ = some (.int .u8 (x.toNat : Int)) := (HR.out.2 i x hx).1.trans (by rw [if_neg (Nat.lt_irrefl _)])
        have hc2 := (HR.out.2 i x hx).2
        by_cases h65 : 65 ≤ x.toNat
        · by_cases h90 : x.toNat ≤ 90
          · have hv := lowC_in h65 h90
            have hvi : ((lowC x).toNat : Int) = (x.toNat : Int) + 32 := by omega
            have HS : Hid (Fr (fun k => k = nb) w1 (wr.setCell ⟨nb, i, none⟩ (.int .u8 ((x.toNat : Int) + 32))) ∧ LowTo m nb (i + 1) (wr.setCell ⟨nb, i, none⟩ (.int .u8 ((x.toNat : Int) + 32)))) := ⟨HR.out.1.trans (Fr.setCell (fun k => k = nb) _ _ _ rfl), HR.out.2.set hx hvi⟩
            have r1 : (65 : Int) ≤ (x.toNat : Int) := by omega
            have r2 : (x.toNat : Int) ≤ 90 := by omega
            clear hv hvi HR h65 h90 hx
            generalize (x.toNat : Int) = xi at HS r1 r2 hc1
            go_wp2_with fail
            go_roundg (k - i)
            case measure => exact hig
            case rel => exact ⟨i + 1, by go_num, by omega, by omega, HS.out.1, HS.out.2⟩
          · have HS : Hid (Fr (fun k => k = nb) w1 wr ∧ LowTo m nb (i + 1) wr) := ⟨HR.out.1, HR.out.2.same hx (lowC_out (by omega))⟩
            have r1 : (65 : Int) ≤ (x.toNat : Int) := by omega
            have r2 : ¬ (x.toNat : Int) ≤ 90 := by omega
            clear HR h65 h90 hx
            generalize (x.toNat : Int) = xi at r1 r2 hc1
            go_wp2_with fail
            go_roundg (k - i)
            case measure => exact hig
            case rel => exact ⟨i + 1, by go_num, by omega, by omega, HS.out.1, HS.out.2⟩
        · have HS : Hid (Fr (fun k => k = nb) w1 wr ∧ LowTo m nb (i + 1) wr) := ⟨HR.out.1, HR.out.2.same hx (lowC_out (by omega))⟩
          have r1 : ¬ (65 : Int) ≤ (x.toNat : Int) := by omega
          clear HR h65 hx
          generalize (x.toNat : Int) = xi at r1 hc1
          go_wp2_with fail
          go_roundg (k - i)
          case measure => exact hig
          case rel => exact ⟨i + 1, by go_num, by omega, by omega, HS.out.1, HS.out.2⟩
  · obtain ⟨m, hm⟩ : ∃ m, trimV l = m := ⟨_, rfl⟩
    have hml : m = l := by rw [← hm, trimV, if_neg hlast]
    obtain ⟨k, hk⟩ : ∃ k, l.length = k := ⟨_, rfl⟩
    have HM : Hid (trimV l = m ∧ m.length = k ∧ LowTo m nb 0 w1) := ⟨hm, by rw [hml]; exact hk, by rw [hml]; exact hcell⟩
    have hk62 : k < 9223372036854775808 := by omega
    by_cases h0 : k = 0
    · rw [hk, h0] at hconv
      subst h0
      generalize bs l = s at hconv ⊢
      clear hlast hm hml hk hl hcell hcap
      go_enter Tryz.func39, Tryz.ntmps39
      go_wp2_with fail
      clear hconv
      go_loopg [5] (0 + 1) (fun g s5 wr => ∃ i : Nat, s5 = .int .i64 i ∧ i ≤ 0 ∧ 0 - i < g ∧ Hid (Fr (fun k => k = nb) w1 wr ∧ LowTo m nb i wr))
      case atStart => exact ⟨0, by go_num, by omega, by omega, Fr.refl _ _, HM.out.2.2⟩
      case round =>
        obtain ⟨i, rfl, hil, hig, HR⟩ := hrel
        have q1 : (0 : Int) ≤ (i : Int) := by omega
        by_cases hi : i = 0
        · have hE : Fr No w wr := HF.out.1.ofNew HR.out.1 fun k hk => .inr (by rw [HF.out.2.1, hk]; exact Nat.le_refl _)
          have hnb : nb < wr.heap.size := Nat.lt_of_lt_of_le HF.out.2.2 HR.out.1.size
          have HCV : Hid (∀ w', Fr No wr w' → Sem.run Tryz.prog (convert 22 9 (.slice (some ⟨nb, 0, none⟩) (0) cap)) w' = .ok (.string (bs (lowV m))) w') := fun w' hf => by
            have hR := HR.out.2
            rw [hi, ← HM.out.2.1] at hR
            have h1 := (hR.keep (hf.block nb hnb (fun h => h))).conv (cap := cap)
            rw [HM.out.2.1] at h1
            exact h1
          have hcv := HCV.out wr (Fr.refl _ _)
          have HVN := Lib.hid (vname_ref (lowV m))
          have HA : Hid (ansN (nameP l) = if nameV (lowV m) then .tuple #[.string (bs (lowV m)), .bool true] else .tuple #[.string ⟨#[]⟩, .bool false]) := by
            show _ = _
            rw [nameP, HM.out.1]
            cases nameV (lowV m) <;> rfl
          have HE := Lib.hid hE
          have hi2 : (i : Int) = ((0 : Nat) : Int) := by omega
          rw [hi2]
          clear HR hE hnb hil hig hi hi2 q1
          generalize nameV (lowV m) = b at HVN HA
          generalize bs (lowV m) = sl at hcv HCV HVN HA
          cases b
          · go_wp2_with (first | (go_at_call 47; refine (HVN.out _).mono ?_; rintro e w3 ⟨rfl, hf3⟩) | fail)
            go_ret2
            exact ⟨by rw [HA.out]; rfl, HE.out.trans hf3⟩
          · go_wp2_with (first | (go_at_call 47; refine (HVN.out _).mono ?_; rintro e w3 ⟨rfl, hf3⟩; have hcv3 := HCV.out w3 hf3) | fail)
            go_ret2
            exact ⟨by rw [HA.out]; rfl, HE.out.trans hf3⟩
        · exact absurd hil (by omega)
    · obtain ⟨z, hz⟩ : ∃ z, l[k - 1]? = some z := ⟨_, List.getElem?_eq_getElem (by omega)⟩
      have hz46 : z ≠ 46 := by intro e; rw [List.getLast?_eq_getElem?, hk, hz, e] at hlast; exact hlast rfl
      have pz : ¬ (z.toNat : Int) = 46 := fun e => hz46 (UInt8.toNat_inj.1 (by show z.toNat = 46; omega))
      have cz : w1.cell? ⟨nb, k - 1, none⟩ = some (.int .u8 (z.toNat : Int)) := (hcell (k - 1) z hz).1.trans (by rw [if_neg (Nat.not_lt_zero _)])
      obtain ⟨r, hr⟩ : ∃ r, k = r + 1 := ⟨k - 1, by omega⟩
      subst hr
      rw [show r + 1 - 1 = r by omega] at cz
      generalize (z.toNat : Int) = zx at cz pz
      have pc : (zx == 46) = false := by simpa using pz
      rw [hk] at hconv
      generalize bs l = s at hconv ⊢
      clear hlast hm hml hk hl hcell hcap hz hz46
      have p0 : (0 : Int) < ((r + 1 : Nat) : Int) := by omega
      have HK1 : Hid (r + 1 = r + 1) := rfl
      go_enter Tryz.func39, Tryz.ntmps39
      go_wp2_with fail
      clear hconv cz pz pc p0
      go_loopg [5] ((r + 1) + 1) (fun g s5 wr => ∃ i : Nat, s5 = .int .i64 i ∧ i ≤ (r + 1) ∧ (r + 1) - i < g ∧ Hid (Fr (fun k => k = nb) w1 wr ∧ LowTo m nb i wr))
      case atStart => exact ⟨0, by go_num, by omega, by omega, Fr.refl _ _, HM.out.2.2⟩
      case round =>
        obtain ⟨i, rfl, hil, hig, HR⟩ := hrel
        have q1 : (0 : Int) ≤ (i : Int) := by omega
        by_cases hi : i = (r + 1)
        · have hE : Fr No w wr := HF.out.1.ofNew HR.out.1 fun k hk => .inr (by rw [HF.out.2.1, hk]; exact Nat.le_refl _)
          have hnb : nb < wr.heap.size := Nat.lt_of_lt_of_le HF.out.2.2 HR.out.1.size
          have HCV : Hid (∀ w', Fr No wr w' → Sem.run Tryz.prog (convert 22 9 (.slice (some ⟨nb, 0, none⟩) ((r + 1)) cap)) w' = .ok (.string (bs (lowV m))) w') := fun w' hf => by
            have hR := HR.out.2
            rw [hi, ← HM.out.2.1] at hR
            have h1 := (hR.keep (hf.block nb hnb (fun h => h))).conv (cap := cap)
            rw [HM.out.2.1] at h1
            exact h1
          have hcv := HCV.out wr (Fr.refl _ _)
          have HVN := Lib.hid (vname_ref (lowV m))
          have HA : Hid (ansN (nameP l) = if nameV (lowV m) then .tuple #[.string (bs (lowV m)), .bool true] else .tuple #[.string ⟨#[]⟩, .bool false]) := by
            show _ = _
            rw [nameP, HM.out.1]
            cases nameV (lowV m) <;> rfl
          have HE := Lib.hid hE
          have hi2 : (i : Int) = (((r + 1) : Nat) : Int) := by omega
          rw [hi2]
          clear HR hE hnb hil hig hi hi2 q1
          generalize nameV (lowV m) = b at HVN HA
          generalize bs (lowV m) = sl at hcv HCV HVN HA
          cases b
          · go_wp2_with (first | (go_at_call 47; refine (HVN.out _).mono ?_; rintro e w3 ⟨rfl, hf3⟩) | fail)
            go_ret2
            exact ⟨by rw [HA.out]; rfl, HE.out.trans hf3⟩
          · go_wp2_with (first | (go_at_call 47; refine (HVN.out _).mono ?_; rintro e w3 ⟨rfl, hf3⟩; have hcv3 := HCV.out w3 hf3) | fail)
            go_ret2
            exact ⟨by rw [HA.out]; rfl, HE.out.trans hf3⟩
        · have q2 : (i : Int) < (((r + 1) : Nat) : Int) := by omega
          obtain ⟨x, hx⟩ : ∃ x, m[i]? = some x := ⟨_, List.getElem?_eq_getElem (by rw [HM.out.2.1]; omega)⟩
          have hc1 : wr.cell? ⟨nb, i, none⟩ = some (.int .u8 (x.toNat : Int)) := (HR.out.2 i x hx).1.trans (by rw [if_neg (Nat.lt_irrefl _)])
          have hc2 := (HR.out.2 i x hx).2
          by_cases h65 : 65 ≤ x.toNat
          · by_cases h90 : x.toNat ≤ 90
            · have hv := lowC_in h65 h90
              have hvi : ((lowC x).toNat : Int) = (x.toNat : Int) + 32 := by omega
              have HS : Hid (Fr (fun k => k = nb) w1 (wr.setCell ⟨nb, i, none⟩ (.int .u8 ((x.toNat : Int) + 32))) ∧ LowTo m nb (i + 1) (wr.setCell ⟨nb, i, none⟩ (.int .u8 ((x.toNat : Int) + 32)))) := ⟨HR.out.1.trans (Fr.setCell (fun k => k = nb) _ _ _ rfl), HR.out.2.set hx hvi⟩
              have r1 : (65 : Int) ≤ (x.toNat : Int) := by omega
              have r2 : (x.toNat : Int) ≤ 90 := by omega
              clear hv hvi HR h65 h90 hx
              generalize (x.toNat : Int) = xi at HS r1 r2 hc1
              go_wp2_with fail
              go_roundg ((r + 1) - i)
              case measure => exact hig
              case rel => exact ⟨i + 1, by go_num, by omega, by omega, HS.out.1, HS.out.2⟩
            · have HS : Hid (Fr (fun k => k = nb) w1 wr ∧ LowTo m nb (i + 1) wr) := ⟨HR.out.1, HR.out.2.same hx (lowC_out (by omega))⟩
              have r1 : (65 : Int) ≤ (x.toNat : Int) := by omega
              have r2 : ¬ (x.toNat : Int) ≤ 90 := by omega
              clear HR h65 h90 hx
              generalize (x.toNat : Int) = xi at r1 r2 hc1
              go_wp2_with fail
              go_roundg ((r + 1) - i)
              case measure => exact hig
              case rel => exact ⟨i + 1, by go_num, by omega, by omega, HS.out.1, HS.out.2⟩
          · have HS : Hid (Fr (fun k => k = nb) w1 wr ∧ LowTo m nb (i + 1) wr) := ⟨HR.out.1, HR.out.2.same hx (lowC_out (by omega))⟩
            have r1 : ¬ (65 : Int) ≤ (x.toNat : Int) := by omega
            clear HR h65 hx
            generalize (x.toNat : Int) = xi at r1 hc1
            go_wp2_with fail
            go_roundg ((r + 1) - i)
            case measure => exact hig
            case rel => exact ⟨i + 1, by go_num, by omega, by omega, HS.out.1, HS.out.2⟩
end Go.Proofs.YtmhnailcmlomiaaGreatDoor
