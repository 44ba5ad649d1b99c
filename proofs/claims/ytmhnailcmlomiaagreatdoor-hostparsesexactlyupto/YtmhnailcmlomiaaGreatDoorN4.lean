/-
  CONTRACT of package host's lower, over this seat's translation: what the call returns.
  Conditions: the string is shorter than 2 to the 62.
  CONTRACT of package host's ParseName, over this seat's translation: what the call returns.
  Conditions: the string is shorter than 2 to the 31.
-/
import Derived.Test.YtmhnailcmlomiaaGreatDoorN2
import Derived.Test.YtmhnailcmlomiaaGreatDoorP3
namespace Go.Proofs.YtmhnailcmlomiaaGreatDoor
open Go.ChangeShapes Go.WideShapes Go.ChangeAt Go.RowKit
set_option linter.unusedVariables false

/-- A letter from A to Z made small. -/
def lowC (c : UInt8) : UInt8 := if 65 ≤ c.toNat ∧ c.toNat ≤ 90 then UInt8.ofNat (c.toNat + 32) else c
def lowV (l : List UInt8) : List UInt8 := l.map lowC

theorem lowC_in {c : UInt8} (h1 : 65 ≤ c.toNat) (h2 : c.toNat ≤ 90) : (lowC c).toNat = c.toNat + 32 := by
  rw [lowC, if_pos ⟨h1, h2⟩]; simp; omega
theorem lowC_out {c : UInt8} (h : ¬ (65 ≤ c.toNat ∧ c.toNat ≤ 90)) : lowC c = c := by rw [lowC, if_neg h]
theorem strOfNums_low (l : List UInt8) : strOfNums (l.map fun c => ((lowC c).toNat : Int)) = bs (lowV l) := by
  rw [strOfNums, bs, lowV, List.map_map]
  congr 2
  apply List.map_congr_left
  intro c _
  simp

/-- The bytes that the loop has made small so far. -/
def LowTo (l : List UInt8) (n i : Nat) (w : World) : Prop := ∀ j c, l[j]? = some c → w.cell? ⟨n, j, none⟩ = some (.int .u8 ((if j < i then lowC c else c).toNat : Int)) ∧ w.frozen? ⟨n, j, none⟩ = false
theorem LowTo.same {l : List UInt8} {n i : Nat} {w : World} (h : LowTo l n i w) {x : UInt8} (hx : l[i]? = some x) (he : lowC x = x) : LowTo l n (i + 1) w := fun j c hc => by
  refine ⟨?_, (h j c hc).2⟩
  rw [(h j c hc).1]
  by_cases hj : j = i
  · subst hj; rw [hx] at hc; cases hc; rw [if_neg (Nat.lt_irrefl _), if_pos (by omega), he]
  · by_cases h2 : j < i
    · rw [if_pos h2, if_pos (by omega)]
    · rw [if_neg h2, if_neg (by omega)]
theorem LowTo.set {l : List UInt8} {n i : Nat} {w : World} (h : LowTo l n i w) {x : UInt8} (hx : l[i]? = some x) {v : Int} (he : ((lowC x).toNat : Int) = v) : LowTo l n (i + 1) (w.setCell ⟨n, i, none⟩ (.int .u8 v)) := fun j c hc => by
  refine ⟨?_, (World.frozen?_setCell _ _ _ _).trans (h j c hc).2⟩
  by_cases hj : j = i
  · subst hj; rw [hx] at hc; cases hc; rw [if_pos (by omega), World.cell?_setCell_same _ _ _ (h j x hx).1, he]
  · rw [World.cell?_setCell_other _ _ _ _ (by intro e; cases e; exact hj rfl), (h j c hc).1]
    by_cases h2 : j < i
    · rw [if_pos h2, if_pos (by omega)]
    · rw [if_neg h2, if_neg (by omega)]
theorem bytes_thaw (w : World) (t : TypeId) (s : ByteArray) {j : Nat} {v : Value} (h : (Lib.bytesWorld w t s).cell? ⟨w.heap.size, j, none⟩ = some v) : (Lib.bytesWorld w t s).frozen? ⟨w.heap.size, j, none⟩ = false := by
  have hb := Lib.bytesWorld_at_new w t s
  have hj : j < (Lib.bytesCells w t s).size := by
    simp only [World.cell?, hb] at h
    rcases Nat.lt_or_ge j (Lib.bytesCells w t s).size with h1 | h1
    · exact h1
    · simp [Array.getElem?_eq_none h1] at h
  simp only [World.frozen?, hb]
  simp; omega

set_option maxHeartbeats 4000000 in
set_option maxRecDepth 100000 in
theorem lower_any (l : List UInt8) (hl : l.length < 4611686018427387904) (w : World) : Calls Tryz.prog 73 #[.string (bs l)] w fun e w' => e = .returned (.string (bs (lowV l))) ∧ Fr No w w' := by
  have hconv : Sem.run Tryz.prog (convert 9 22 (.string (bs l))) w = .ok (.slice (some ⟨w.heap.size, 0, none⟩) l.length (grownCap w l.length 0 5)) (Lib.bytesWorld w 5 (bs l)) := Lib.run_convert_string_bytes w 9 22 5 (bs l) Tryz.underlying9 Tryz.underlying22 Tryz.underlying5
  have hcell : LowTo l w.heap.size 0 (Lib.bytesWorld w 5 (bs l)) := fun i c hc => by
    have hi := (List.getElem?_eq_some_iff.1 hc).1
    have h1 : (Lib.bytesWorld w 5 (bs l)).cell? ⟨w.heap.size, i, none⟩ = some (.int .u8 (c.toNat : Int)) := by
      rw [Lib.bytesWorld_cell w 5 (bs l) i hi, bs_list, List.getD, hc]
      rfl
    exact ⟨h1, bytes_thaw w 5 (bs l) h1⟩
  have hF := Fr.bytesWorld w 5 (bs l)
  have hsz : (bs l).size = l.length := rfl
  have HIX : Hid (∀ (i : Nat) (x : UInt8) (w : World), l[i]? = some x → Sem.run Tryz.prog (Instr.index 9 (.string (bs l)) (.int .i64 i)) w = .ok (.int .u8 (x.toNat : Int)) w) := fun i x w h => bs_index h w
  generalize Lib.bytesWorld w 5 (bs l) = w1 at hconv hcell hF
  generalize grownCap w l.length 0 5 = cap at hconv
  obtain ⟨nb, hnb⟩ : ∃ nb, w.heap.size = nb := ⟨_, rfl⟩
  rw [hnb] at hconv hcell
  have HF := Lib.hid (And.intro hF (And.intro hcell hnb))
  generalize hln : l.length = ln at hsz hconv hl
  have HLN := Lib.hid hln
  generalize bs l = s at hsz HIX hconv
  clear hF hcell hnb hln
  go_enter Tryz.func73, Tryz.ntmps73
  go_wp2_with fail
  clear hconv
  go_loopg [9] (ln + 1) (fun g s9 wr => ∃ i : Nat, s9 = .int .i64 i ∧ i ≤ ln ∧ ln - i < g ∧ Hid (Fr (fun k => k = nb) w1 wr ∧ LowTo l nb i wr))
  case atStart => exact ⟨0, by go_num, by omega, by omega, Fr.refl _ _, HF.out.2.1⟩
  case round =>
    obtain ⟨i, rfl, hil, hig, HR⟩ := hrel
    have q1 : (0 : Int) ≤ (i : Int) := by omega
    by_cases hi : i = ln
    · subst hi
      have hconv : Sem.run Tryz.prog (convert 22 9 (.slice (some ⟨nb, 0, none⟩) i cap)) wr = .ok (.string (bs (lowV l))) wr := by
        rw [← strOfNums_low]
        refine run_convert_bytes_arg wr 22 5 Tryz.underlying22 Tryz.underlying5 nb 0 i cap _ (by rw [List.length_map]; exact HLN.out) ?_ 9 Tryz.underlying9
        intro j hj
        obtain ⟨c, hc⟩ : ∃ c, l[j]? = some c := ⟨_, List.getElem?_eq_getElem (by rw [HLN.out]; exact hj)⟩
        rw [Nat.zero_add, (HR.out.2 j c hc).1, if_pos hj, List.getD, List.getElem?_map, hc]
        rfl
      have HE : Hid (Fr No w wr) := HF.out.1.ofNew HR.out.1 fun k hk => .inr (by rw [HF.out.2.2, hk]; exact Nat.le_refl _)
      clear HR
      go_wp2_with fail
      go_ret
      exact ⟨rfl, HE.out⟩
    · have q2 : (i : Int) < (ln : Int) := by omega
      obtain ⟨x, hx⟩ : ∃ x, l[i]? = some x := ⟨_, List.getElem?_eq_getElem (by rw [HLN.out]; omega)⟩
      have hix := fun w => HIX.out i x w hx
      have hc1 : wr.cell? ⟨nb, i, none⟩ = some (.int .u8 (x.toNat : Int)) := (HR.out.2 i x hx).1.trans (by rw [if_neg (Nat.lt_irrefl _)])
      have hc2 := (HR.out.2 i x hx).2
      by_cases h65 : 65 ≤ x.toNat
      · by_cases h90 : x.toNat ≤ 90
        · have hv := lowC_in h65 h90
          have hvi : ((lowC x).toNat : Int) = (x.toNat : Int) - 65 + 97 := by omega
          have HS : Hid (Fr (fun k => k = nb) w1 (wr.setCell ⟨nb, i, none⟩ (.int .u8 ((x.toNat : Int) - 65 + 97))) ∧ LowTo l nb (i + 1) (wr.setCell ⟨nb, i, none⟩ (.int .u8 ((x.toNat : Int) - 65 + 97)))) := ⟨HR.out.1.trans (Fr.setCell (fun k => k = nb) _ _ _ rfl), HR.out.2.set hx hvi⟩
          have r1 : (65 : Int) ≤ (x.toNat : Int) := by omega
          have r2 : (x.toNat : Int) ≤ 90 := by omega
          clear hv hvi HR h65 h90 hx
          generalize (x.toNat : Int) = xi at hix HS r1 r2 hc1
          go_wp2_with fail
          go_roundg (ln - i)
          case measure => exact hig
          case rel => exact ⟨i + 1, by go_num, by omega, by omega, HS.out.1, HS.out.2⟩
        · have HS : Hid (Fr (fun k => k = nb) w1 wr ∧ LowTo l nb (i + 1) wr) := ⟨HR.out.1, HR.out.2.same hx (lowC_out (by omega))⟩
          have r1 : (65 : Int) ≤ (x.toNat : Int) := by omega
          have r2 : ¬ (x.toNat : Int) ≤ 90 := by omega
          clear HR h65 h90 hx hc1
          generalize (x.toNat : Int) = xi at hix r1 r2
          go_wp2_with fail
          go_roundg (ln - i)
          case measure => exact hig
          case rel => exact ⟨i + 1, by go_num, by omega, by omega, HS.out.1, HS.out.2⟩
      · have HS : Hid (Fr (fun k => k = nb) w1 wr ∧ LowTo l nb (i + 1) wr) := ⟨HR.out.1, HR.out.2.same hx (lowC_out (by omega))⟩
        have r1 : ¬ (65 : Int) ≤ (x.toNat : Int) := by omega
        clear HR h65 hx hc1
        generalize (x.toNat : Int) = xi at hix r1
        go_wp2_with fail
        go_roundg (ln - i)
        case measure => exact hig
        case rel => exact ⟨i + 1, by go_num, by omega, by omega, HS.out.1, HS.out.2⟩
end Go.Proofs.YtmhnailcmlomiaaGreatDoor
namespace Go.Proofs.YtmhnailcmlomiaaGreatDoor
open Go.ChangeShapes Go.WideShapes Go.ChangeAt Go.RowKit
set_option linter.unusedVariables false

/-- These bytes without the dot that may end them. -/
def trimV (l : List UInt8) : List UInt8 := if l.getLast? = some 46 then l.dropLast else l
/-- The host name that these bytes are written for. -/
def nameP (l : List UInt8) : Option (List UInt8) := if nameV (lowV (trimV l)) then some (lowV (trimV l)) else none
/-- A string and whether there is one. -/
def ansN : Option (List UInt8) → Value
  | some n => .tuple #[.string (bs n), .bool true]
  | none => .tuple #[.string ⟨#[]⟩, .bool false]

theorem nameP_of {l m : List UInt8} (hm : trimV l = m) (h : nameV (lowV m) = true) : nameP l = some (lowV m) := by rw [nameP, hm, if_pos h]
theorem nameP_no {l m : List UInt8} (hm : trimV l = m) (h : nameV (lowV m) = false) : nameP l = none := by rw [nameP, hm, if_neg (by rw [h]; simp)]
theorem nameV_long {m : List UInt8} (h : 253 < m.length) : nameV (lowV m) = false := by
  unfold nameV
  rw [decide_eq_false (by rw [lowV, List.length_map]; omega)]; rfl

set_option maxHeartbeats 4000000 in
set_option maxRecDepth 100000 in
theorem pname_any (l : List UInt8) (hl : l.length < 2147483648) (w : World) : Calls Tryz.prog 36 #[.string (bs l)] w fun e w' => e = .returned (ansN (nameP l)) ∧ Fr No w w' := by
  have hsz : (bs l).size = l.length := rfl
  have HIX : Hid (∀ (i : Nat) (x : UInt8) (w : World), l[i]? = some x → Sem.run Tryz.prog (Instr.index 9 (.string (bs l)) (.int .i64 i)) w = .ok (.int .u8 (x.toNat : Int)) w) := fun i x w h => bs_index h w
  by_cases hlast : l.getLast? = some 46
  · have hm : trimV l = l.dropLast := by rw [trimV, if_pos hlast]
    have hlen0 : 0 < l.length := by
      cases l with
      | nil => cases hlast
      | cons x r => simp
    obtain ⟨k, hk⟩ : ∃ k, l.length = k + 1 := ⟨l.length - 1, by omega⟩
    have hx := fun w => HIX.out k 46 w (by rw [List.getLast?_eq_getElem?, hk] at hlast; exact hlast)
    have hex : (bs l).extract 0 k = bs l.dropLast := by rw [bs_extract, List.dropLast_eq_take, List.drop_zero, hk]; rfl
    have hsz2 : (bs l.dropLast).size = k := by rw [bs_size, List.length_dropLast, hk]; rfl
    have hkm : l.dropLast.length = k := by rw [List.length_dropLast, hk]; rfl
    have HLW : Hid (∀ w, Calls Tryz.prog 73 #[.string (bs l.dropLast)] w fun e w' => e = .returned (.string (bs (lowV l.dropLast))) ∧ Fr No w w') := fun w => lower_any _ (by omega) w
    generalize l.dropLast = m at hm hex hsz2 hkm HLW
    have HNM : Hid (∀ w, Calls Tryz.prog 45 #[.string (bs (lowV m))] w fun e w' => e = .returned (.bool (nameV (lowV m))) ∧ w' = w) := fun w => name_any _ w
    have HM : Hid (trimV l = m ∧ m.length = k) := ⟨hm, hkm⟩
    have hk31 : k < 2147483648 := by omega
    rw [hk] at hsz
    generalize bs l = s at hsz hx hex ⊢
    generalize bs m = sm at hex hsz2 HLW
    clear HIX hlast hm hlen0 hl hk hkm
    have e46 : (((46 : UInt8).toNat : Nat) : Int) = 46 := rfl
    rw [e46] at hx
    clear e46
    have c1 : (((k + 1 : Nat) : Int)) - 1 = (k : Int) := by omega
    by_cases hbig : 253 < k
    · have HV : Hid (nameP l = none) := nameP_no HM.out.1 (nameV_long (by rw [HM.out.2]; exact hbig))
      go_enter Tryz.func36, Tryz.ntmps36
      go_wp2_with fail
      go_ret2
      exact ⟨by rw [HV.out]; rfl, Fr.refl _ _⟩
    · obtain ⟨sn, hsn⟩ : ∃ sn, bs (lowV m) = sn := ⟨_, rfl⟩
      cases hb : nameV (lowV m) with
      | true =>
        have HV : Hid (ansN (nameP l) = .tuple #[.string sn, .bool true]) := by show _ = _; rw [nameP_of HM.out.1 hb, ← hsn]; rfl
        rw [hb] at HNM
        rw [hsn] at HNM HLW
        clear hb hsn
        go_enter Tryz.func36, Tryz.ntmps36
        go_wp2_with (first | (go_at_call 73; refine (HLW.out _).mono ?_; rintro e w3 ⟨rfl, hf3⟩) | (go_at_call 45; refine (HNM.out _).mono ?_; rintro e w4 ⟨rfl, rfl⟩))
        go_ret2
        exact ⟨by rw [HV.out]; rfl, hf3⟩
      | false =>
        have HV : Hid (nameP l = none) := nameP_no HM.out.1 hb
        rw [hb] at HNM
        rw [hsn] at HNM HLW
        clear hb hsn
        go_enter Tryz.func36, Tryz.ntmps36
        go_wp2_with (first | (go_at_call 73; refine (HLW.out _).mono ?_; rintro e w3 ⟨rfl, hf3⟩) | (go_at_call 45; refine (HNM.out _).mono ?_; rintro e w4 ⟨rfl, rfl⟩))
        go_ret2
        exact ⟨by rw [HV.out]; rfl, hf3⟩
  · obtain ⟨m, hm⟩ : ∃ m, trimV l = m := ⟨_, rfl⟩
    have hml : m = l := by rw [← hm, trimV, if_neg hlast]
    obtain ⟨k, hk⟩ : ∃ k, l.length = k := ⟨_, rfl⟩
    have HLW : Hid (∀ w, Calls Tryz.prog 73 #[.string (bs l)] w fun e w' => e = .returned (.string (bs (lowV m))) ∧ Fr No w w') := fun w => by rw [hml]; exact lower_any _ (by omega) w
    have HNM : Hid (∀ w, Calls Tryz.prog 45 #[.string (bs (lowV m))] w fun e w' => e = .returned (.bool (nameV (lowV m))) ∧ w' = w) := fun w => name_any _ w
    have HM : Hid (trimV l = m ∧ m.length = k) := ⟨hm, by rw [hml]; exact hk⟩
    have hk31 : k < 2147483648 := by omega
    rw [hk] at hsz
    by_cases h0 : k = 0
    · generalize bs l = s at hsz HLW ⊢
      clear HIX hlast hm hml hl hk
      have p0 : ¬ (0 : Int) < (k : Int) := by omega
      have hbig : ¬ 253 < k := by omega
      obtain ⟨sn, hsn⟩ : ∃ sn, bs (lowV m) = sn := ⟨_, rfl⟩
      cases hb : nameV (lowV m) with
      | true =>
        have HV : Hid (ansN (nameP l) = .tuple #[.string sn, .bool true]) := by show _ = _; rw [nameP_of HM.out.1 hb, ← hsn]; rfl
        rw [hb] at HNM
        rw [hsn] at HNM HLW
        clear hb hsn
        go_enter Tryz.func36, Tryz.ntmps36
        go_wp2_with (first | (go_at_call 73; refine (HLW.out _).mono ?_; rintro e w3 ⟨rfl, hf3⟩) | (go_at_call 45; refine (HNM.out _).mono ?_; rintro e w4 ⟨rfl, rfl⟩))
        go_ret2
        exact ⟨by rw [HV.out]; rfl, hf3⟩
      | false =>
        have HV : Hid (nameP l = none) := nameP_no HM.out.1 hb
        rw [hb] at HNM
        rw [hsn] at HNM HLW
        clear hb hsn
        go_enter Tryz.func36, Tryz.ntmps36
        go_wp2_with (first | (go_at_call 73; refine (HLW.out _).mono ?_; rintro e w3 ⟨rfl, hf3⟩) | (go_at_call 45; refine (HNM.out _).mono ?_; rintro e w4 ⟨rfl, rfl⟩))
        go_ret2
        exact ⟨by rw [HV.out]; rfl, hf3⟩
    · obtain ⟨z, hz⟩ : ∃ z, l[k - 1]? = some z := ⟨_, List.getElem?_eq_getElem (by omega)⟩
      have hz46 : z ≠ 46 := by intro e; rw [List.getLast?_eq_getElem?, hk, hz, e] at hlast; exact hlast rfl
      have pz : ¬ (z.toNat : Int) = 46 := fun e => hz46 (UInt8.toNat_inj.1 (by show z.toNat = 46; omega))
      have hx := fun w => HIX.out (k - 1) z w hz
      have hc : ((k - 1 : Nat) : Int) = (k : Int) - 1 := by omega
      rw [hc] at hx
      generalize (z.toNat : Int) = zx at hx pz
      generalize bs l = s at hsz hx HLW ⊢
      clear HIX hlast hm hml hl hk hc hz hz46
      have p0 : (0 : Int) < (k : Int) := by omega
      by_cases hbig : 253 < k
      · have HV : Hid (nameP l = none) := nameP_no HM.out.1 (nameV_long (by rw [HM.out.2]; exact hbig))
        go_enter Tryz.func36, Tryz.ntmps36
        go_wp2_with fail
        go_ret2
        exact ⟨by rw [HV.out]; rfl, Fr.refl _ _⟩
      · obtain ⟨sn, hsn⟩ : ∃ sn, bs (lowV m) = sn := ⟨_, rfl⟩
        cases hb : nameV (lowV m) with
        | true =>
          have HV : Hid (ansN (nameP l) = .tuple #[.string sn, .bool true]) := by show _ = _; rw [nameP_of HM.out.1 hb, ← hsn]; rfl
          rw [hb] at HNM
          rw [hsn] at HNM HLW
          clear hb hsn
          go_enter Tryz.func36, Tryz.ntmps36
          go_wp2_with (first | (go_at_call 73; refine (HLW.out _).mono ?_; rintro e w3 ⟨rfl, hf3⟩) | (go_at_call 45; refine (HNM.out _).mono ?_; rintro e w4 ⟨rfl, rfl⟩))
          go_ret2
          exact ⟨by rw [HV.out]; rfl, hf3⟩
        | false =>
          have HV : Hid (nameP l = none) := nameP_no HM.out.1 hb
          rw [hb] at HNM
          rw [hsn] at HNM HLW
          clear hb hsn
          go_enter Tryz.func36, Tryz.ntmps36
          go_wp2_with (first | (go_at_call 73; refine (HLW.out _).mono ?_; rintro e w3 ⟨rfl, hf3⟩) | (go_at_call 45; refine (HNM.out _).mono ?_; rintro e w4 ⟨rfl, rfl⟩))
          go_ret2
          exact ⟨by rw [HV.out]; rfl, hf3⟩
end Go.Proofs.YtmhnailcmlomiaaGreatDoor
