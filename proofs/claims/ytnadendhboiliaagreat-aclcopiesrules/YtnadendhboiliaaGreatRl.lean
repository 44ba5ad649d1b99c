/-
  CONTRACTS of package acl's MatchName and AllowsName, over this seat's translation: what each call returns.
  Conditions: the list lies in memory.
-/
import Derived.Test.YtnadendhboiliaaGreatRg
import Derived.Test.YtnadendhboiliaaGreatHq
namespace Go.Proofs.YtnadendhboiliaaGreat
open Go.ChangeShapes Go.WideShapes Go.ChangeAt Go.RowKit
set_option linter.unusedVariables false

theorem cntV_nil : cntV [] = 0 := by decide
theorem mtN_cnt {s : List UInt8} {port : Int} {r : Ru} (h : mtN s port r = true) : 0 < kN r := by
  unfold mtN subV at h
  rw [Bool.and_eq_true, Bool.and_eq_true, Bool.and_eq_true, Bool.and_eq_true] at h
  have := cntV_pos r.sf
  rw [h.2.1.2, decide_eq_true_iff] at this
  exact this
/-- What the program's loop holds: the deciding rule's index and its labels. -/
def mostN (m : Ru → Bool) (L : List Ru) (i : Nat) : Int := if bN m kN L i < 0 then 0 else kAt kN L (bN m kN L i)
theorem mostN_step {s : List UInt8} {port : Int} {L : List Ru} {i : Nat} {r : Ru} (hr : L[i]? = some r) :
    (kN r > mostN (mtN s port) L i → apl r port = true → subV s r.sf = true → bN (mtN s port) kN L (i + 1) = i ∧ mostN (mtN s port) L (i + 1) = kN r) ∧
    (¬ (kN r > mostN (mtN s port) L i ∧ apl r port = true ∧ subV s r.sf = true) → bN (mtN s port) kN L (i + 1) = bN (mtN s port) kN L i ∧ mostN (mtN s port) L (i + 1) = mostN (mtN s port) L i) := by
  have hil := (List.getElem?_eq_some_iff.1 hr).1
  have htwo := bN_two (mtN s port) kN L i (Nat.le_of_lt hil)
  have hstep := bN_step (m := mtN s port) (k := kN) hr
  have hm0 : 0 ≤ mostN (mtN s port) L i := by
    unfold mostN
    split
    · exact Int.le_refl _
    · unfold kAt; split
      · exact Int.natCast_nonneg _
      · exact Int.le_refl _
  refine ⟨fun h1 h2 h3 => ?_, fun h => ?_⟩
  · have hsf : r.sf ≠ [] := by
      intro hc
      have : kN r = 0 := by rw [kN, hc, cntV_nil]; rfl
      omega
    have hmt : mtN s port r = true := by unfold mtN; rw [decide_eq_true hsf, h2, h3]; rfl
    have hb : bN (mtN s port) kN L (i + 1) = i := by
      rw [hstep, if_pos]
      rw [hmt, Bool.true_and]
      rcases htwo with hb | ⟨t, q, hb, -⟩
      · rw [hb]; rfl
      · rw [hb, decide_eq_false (by omega : ¬ (t : Int) < 0), Bool.false_or, decide_eq_true_iff]
        unfold mostN at h1
        rw [hb, if_neg (by omega)] at h1
        exact h1
    refine ⟨hb, ?_⟩
    rw [mostN, hb, if_neg (by omega), kAt_nat hr]
  · have hb : bN (mtN s port) kN L (i + 1) = bN (mtN s port) kN L i := by
      rw [hstep, if_neg]
      intro hc
      rw [Bool.and_eq_true] at hc
      refine h ⟨?_, ?_, ?_⟩
      · rcases htwo with hb | ⟨t, q, hb, -⟩
        · unfold mostN; rw [hb]; exact mtN_cnt hc.1
        · have h2 := hc.2
          rw [hb, decide_eq_false (by omega : ¬ (t : Int) < 0), Bool.false_or, decide_eq_true_iff] at h2
          unfold mostN; rw [hb, if_neg (by omega)]
          exact h2
      · have := hc.1
        unfold mtN at this
        rw [Bool.and_eq_true, Bool.and_eq_true] at this
        exact this.1.2
      · have := hc.1
        unfold mtN at this
        rw [Bool.and_eq_true] at this
        exact this.2
    exact ⟨hb, by rw [mostN, hb]; rfl⟩

set_option maxHeartbeats 8000000 in
set_option maxRecDepth 100000 in
theorem matchn_any (n0 : Nat) (w : World) (x : Nat) (L : List Ru) (tb : Nat) (ra : Option Addr) (rc : Nat) (T : List (Px × Value)) (X : Nat → Prop) (h : Inc n0 w x L L.length tb ra rc T X) (hm : L.length ≤ 32) (nl : List UInt8) (port : Int) :
    Calls Tryz.prog 29 #[.pointer (some ⟨x, 0, none⟩), .string (bs nl), .int .i64 port] w fun e w' => e = .returned (.int .i64 (bV (mtN nl port) kN L)) ∧ Fr No w w' := by
  obtain ⟨Z, hZ⟩ : ∃ Z : Array Value, (ruC zRu).toArray = Z := ⟨_, rfl⟩
  have v30 := zero31
  rw [hZ] at v30
  have hZs : Z.size = 22 := by rw [← hZ]; rfl
  have HI := Lib.hid h
  obtain ⟨n, hn⟩ : ∃ n, L.length = n := ⟨_, rfl⟩
  have b0 : w.cell? ⟨x, 0, none⟩ = some (.slice ra n rc) := by rw [← hn]; exact cell_of h.box rfl
  have HN := Lib.hid (And.intro hn hm)
  have hn32 : n ≤ 32 := by rw [← hn]; exact hm
  have HVV : Hid (bV (mtN nl port) kN L = bN (mtN nl port) kN L n) := by show _ = _; rw [← hn]; rfl
  have HSU := Lib.hid (sub_all nl)
  obtain ⟨sn, hsn⟩ : ∃ sn, bs nl = sn := ⟨_, rfl⟩
  rw [hsn] at HSU ⊢
  clear h hm hZ hn hsn
  go_enter Tryz.func29, Tryz.ntmps29
  have t3 := Tryz.underlying3
  have u3 := Tryz.runUnderlying3
  have g3 := Tryz.isAgg3
  have z3 := Tryz.sizeOf3
  have t4 := Tryz.underlying4
  have u4 := Tryz.runUnderlying4
  have g4 := Tryz.isAgg4
  have z4 := Tryz.sizeOf4
  have t9 := Tryz.underlying9
  have u9 := Tryz.runUnderlying9
  have g9 := Tryz.isAgg9
  have z9 := Tryz.sizeOf9
  have t22 := Tryz.underlying22
  have u22 := Tryz.runUnderlying22
  have g22 := Tryz.isAgg22
  have z22 := Tryz.sizeOf22
  have t31 := Tryz.underlying31
  have u31 := Tryz.runUnderlying31
  have g31 := Tryz.isAgg31
  have z31 := Tryz.sizeOf31
  have t32 := Tryz.underlying32
  have u32 := Tryz.runUnderlying32
  have g32 := Tryz.isAgg32
  have z32 := Tryz.sizeOf32
  have t52 := Tryz.underlying52
  have u52 := Tryz.runUnderlying52
  have g52 := Tryz.isAgg52
  have z52 := Tryz.sizeOf52
  have c49 := Tryz.call49
  have c50 := Tryz.call50
  have c51 := Tryz.call51
  have mixed : Tryz.prog.follows .mixedOrders = true := by kernel_rfl
  obtain ⟨k22, hk22⟩ : ∃ k, k = 22 := ⟨_, rfl⟩
  rw [← hk22] at z31
  have nk22 : ¬ k22 = 0 := by omega
  have HK31 := Lib.hid hk22
  have hP : Tryz.prog = PD := rfl
  rw [hP] at t3 u3 g3 z3 t4 u4 g4 z4 t9 u9 g9 z9 t22 u22 g22 z22 t31 u31 g31 z31 t32 u32 g32 z32 t52 u52 g52 z52 c49 c50 c51 mixed v30 ⊢
  have HP := Lib.hid hP.symm
  clear hP hk22
  have hZk : Z.size = k22 := by rw [HK31.out]; exact hZs
  clear hZs
  go_wp2_with fail
  go_loopg [17, 7, 8] (n + 1) (fun g s17 s7 s8 wr => ∃ (i : Nat), s17 = .int .i64 i ∧ s7 = .int .i64 (bN (mtN nl port) kN L i) ∧ s8 = .int .i64 (mostN (mtN nl port) L i) ∧ i ≤ n ∧ n - i < g ∧ Hid (Fr No w wr))
  case atStart => exact ⟨0, by go_num, rfl, rfl, by omega, by omega, Fr.refl _ _⟩
  case round =>
    obtain ⟨i, rfl, rfl, rfl, hin, hig, HR⟩ := hrel
    by_cases hi : i < n
    · have p1 : (0 : Int) ≤ (i : Int) := by omega
      have p2 : (i : Int) < (n : Int) := by omega
      obtain ⟨r, hr⟩ : ∃ r, L[i]? = some r := ⟨_, List.getElem?_eq_getElem (by rw [HN.out.1]; exact hi)⟩
      have hI := HI.out.no HR.out
      obtain ⟨b, o, rfl, hb, hcell⟩ := hI.rows.cell hr
      obtain ⟨R, hR, hRs, -, -, -, -, -, -, hR1⟩ := ru_letter r hb
      have hRk : R.size = k22 := by rw [HK31.out]; exact hRs
      have l1 : Sem.run PD (loadCellsFrom ⟨b, o + i * k22, none⟩ 0 k22 #[]) wr = .ok R wr := by rw [HK31.out, ← hR]; exact (hcell wr (Fr.refl _ _)).1 PD
      obtain ⟨y, hst, hyb, hyf⟩ := store_all (P := PD) R.toList (heap_alloc_new wr (.cells Z 31)) (by rw [Array.length_toList, hRk, hZk]) hR1
      have hyb' : y.heap[wr.heap.size]? = some (.cells R 31 (0, 0)) := by simpa using hyb
      have hfy : Fr No wr y := (Fr.alloc No wr _).ofNew hyf fun k hk => .inr (by rw [hk]; exact Nat.le_refl _)
      obtain ⟨d0, d1, -⟩ := ru_box r hb hR y _ _ hyb'
      have HAP : Hid (∀ w', Calls Tryz.prog 49 #[.agg R, .int .i64 port] w' fun e w'' => e = .returned (.bool (apl r port)) ∧ Fr No w' w'') := fun w' => by rw [← hR]; exact applies_any r hb port w'
      have HCN := Lib.hid (cnt_any r.sf)
      have HSB := Lib.hid (HSU.out r.sf)
      have HL : Hid (∀ w', Fr No y w' → Sem.run PD (loadCellsFrom ⟨wr.heap.size, 0, none⟩ 0 k22 #[]) w' = .ok R w' ∧ w'.cell? ⟨wr.heap.size, 1, none⟩ = some (.string (bs r.sf))) := fun w' hf => ⟨load_block (hf.keep hyb') hRk (fun j v hv => by simpa using hv), hf.cell d1⟩
      obtain ⟨ly, -⟩ := HL.out y (Fr.refl _ _)
      have HST := Lib.hid (mostN_step (s := nl) (port := port) hr)
      have hkn : kN r = ((cntV r.sf : Nat) : Int) := rfl
      rw [hkn] at HST
      have HY := Lib.hid hfy
      generalize ((cntV r.sf : Nat) : Int) = cn at HCN HST
      generalize bs r.sf = sr at HCN HSB HL d1
      generalize subV nl r.sf = sb at HSB HST
      generalize apl r port = ap at HAP HST
      obtain ⟨ms, hms⟩ : ∃ ms, mostN (mtN nl port) L i = ms := ⟨_, rfl⟩
      obtain ⟨bb, hbb⟩ : ∃ bb, bN (mtN nl port) kN L i = bb := ⟨_, rfl⟩
      rw [hms, hbb] at HST ⊢
      clear hyb hyb' hyf hfy hr hI hcell hR hb hR1 hRs d0 hms hbb hkn
      have hno : ¬ (cn > ms ∧ ap = true ∧ sb = true) → bN (mtN nl port) kN L (i + 1) = bb ∧ mostN (mtN nl port) L (i + 1) = ms := HST.out.2
      have HNO := Lib.hid hno
      clear hno
      by_cases hgt : ms < cn
      · cases ap with
        | false =>
          have HE := Lib.hid (HNO.out fun hc => by cases hc.2.1)
          go_wp2_with (first | (go_at_call 50; with_reducible refine (at_prog HP.out (HCN.out _)).mono ?_; rintro e w3 ⟨rfl, hw3⟩; subst hw3) | (go_at_call 49; go_loud (refine (at_prog HP.out (HAP.out _)).mono ?_; rintro e w4 ⟨rfl, hf4⟩)) | fail)
          go_roundg (n - i)
          case measure => exact hig
          case rel => exact ⟨i + 1, by go_num, by rw [HE.out.1], by rw [HE.out.2], by omega, by omega, (HR.out.trans HY.out).trans hf4⟩
        | true =>
          cases sb with
          | false =>
            have HE := Lib.hid (HNO.out fun hc => by cases hc.2.2)
            go_wp2_with (first | (go_at_call 50; with_reducible refine (at_prog HP.out (HCN.out _)).mono ?_; rintro e w3 ⟨rfl, hw3⟩; subst hw3) | (go_at_call 49; go_loud (refine (at_prog HP.out (HAP.out _)).mono ?_; rintro e w4 ⟨rfl, hf4⟩; have d4 := (HL.out _ hf4).2)) | (go_at_call 51; with_reducible refine (at_prog HP.out (HSB.out _)).mono ?_; rintro e w5 ⟨rfl, hw5⟩; subst hw5) | fail)
            go_roundg (n - i)
            case measure => exact hig
            case rel => exact ⟨i + 1, by go_num, by rw [HE.out.1], by rw [HE.out.2], by omega, by omega, (HR.out.trans HY.out).trans hf4⟩
          | true =>
            have HE := Lib.hid (HST.out.1 hgt rfl rfl)
            go_wp2_with (first | (go_at_call 50; with_reducible refine (at_prog HP.out (HCN.out _)).mono ?_; rintro e w3 ⟨rfl, hw3⟩; subst hw3) | (go_at_call 49; go_loud (refine (at_prog HP.out (HAP.out _)).mono ?_; rintro e w4 ⟨rfl, hf4⟩; have d4 := (HL.out _ hf4).2)) | (go_at_call 51; with_reducible refine (at_prog HP.out (HSB.out _)).mono ?_; rintro e w5 ⟨rfl, hw5⟩; subst hw5) | fail)
            go_roundg (n - i)
            case measure => exact hig
            case rel => exact ⟨i + 1, by go_num, by rw [HE.out.1], by rw [HE.out.2], by omega, by omega, (HR.out.trans HY.out).trans hf4⟩
      · have HE := Lib.hid (HNO.out fun hc => hgt hc.1)
        go_wp2_with (first | (go_at_call 50; with_reducible refine (at_prog HP.out (HCN.out _)).mono ?_; rintro e w3 ⟨rfl, hw3⟩; subst hw3) | fail)
        go_roundg (n - i)
        case measure => exact hig
        case rel => exact ⟨i + 1, by go_num, by rw [HE.out.1], by rw [HE.out.2], by omega, by omega, HR.out.trans HY.out⟩
    · obtain rfl : i = n := by omega
      go_wp2_with fail
      go_ret
      exact ⟨by rw [HVV.out]; try rfl, HR.out⟩

def alN (L : List Ru) (nl : List UInt8) (port : Int) : Bool := nameV nl && (decide (bV (mtN nl port) kN L < 0) || (match L[(bV (mtN nl port) kN L).toNat]? with
  | some r => r.al
  | none => false))
set_option maxHeartbeats 4000000 in
set_option maxRecDepth 100000 in
theorem allown_any (n0 : Nat) (w : World) (x : Nat) (L : List Ru) (tb : Nat) (ra : Option Addr) (rc : Nat) (T : List (Px × Value)) (X : Nat → Prop) (h : Inc n0 w x L L.length tb ra rc T X) (hm : L.length ≤ 32) (nl : List UInt8) (port : Int) :
    Calls Tryz.prog 14 #[.pointer (some ⟨x, 0, none⟩), .string (bs nl), .int .i64 port] w fun e w' => e = .returned (.bool (alN L nl port)) ∧ Fr No w w' := by
  obtain ⟨v, hv⟩ : ∃ v, bV (mtN nl port) kN L = v := ⟨_, rfl⟩
  have HM : Hid (∀ w', Fr No w w' → Calls Tryz.prog 29 #[.pointer (some ⟨x, 0, none⟩), .string (bs nl), .int .i64 port] w' fun e w'' => e = .returned (.int .i64 v) ∧ Fr No w' w'') := fun w' hf => by
    rw [← hv]; exact matchn_any n0 w' x L tb ra rc T X (h.no hf) hm nl port
  have HIN := Lib.hid (isn_any nl)
  have HV : Hid (alN L nl port = (nameV nl && (decide (v < 0) || (match L[v.toNat]? with
    | some r => r.al
    | none => false)))) := by show _ = _; rw [alN, hv]
  have htwo : v = -1 ∨ ∃ (t : Nat) (r : Ru), v = t ∧ t < L.length ∧ L[t]? = some r ∧ mtN nl port r = true := by rw [← hv]; exact bN_two (mtN nl port) kN L _ (Nat.le_refl _)
  have HI := Lib.hid h
  generalize bs nl = sn at HM HIN ⊢
  generalize nameV nl = nv at HIN HV
  clear hv h
  cases nv with
  | false =>
    have HV2 : Hid (alN L nl port = false) := by show _ = _; rw [HV.out]; rfl
    clear HV htwo
    go_enter Tryz.func14, Tryz.ntmps14
    have t3 := Tryz.underlying3
    have u3 := Tryz.runUnderlying3
    have g3 := Tryz.isAgg3
    have z3 := Tryz.sizeOf3
    have t4 := Tryz.underlying4
    have u4 := Tryz.runUnderlying4
    have g4 := Tryz.isAgg4
    have z4 := Tryz.sizeOf4
    have t9 := Tryz.underlying9
    have u9 := Tryz.runUnderlying9
    have g9 := Tryz.isAgg9
    have z9 := Tryz.sizeOf9
    have t22 := Tryz.underlying22
    have u22 := Tryz.runUnderlying22
    have g22 := Tryz.isAgg22
    have z22 := Tryz.sizeOf22
    have t31 := Tryz.underlying31
    have u31 := Tryz.runUnderlying31
    have g31 := Tryz.isAgg31
    have z31 := Tryz.sizeOf31
    have t32 := Tryz.underlying32
    have u32 := Tryz.runUnderlying32
    have g32 := Tryz.isAgg32
    have z32 := Tryz.sizeOf32
    have t52 := Tryz.underlying52
    have u52 := Tryz.runUnderlying52
    have g52 := Tryz.isAgg52
    have z52 := Tryz.sizeOf52
    have c34 := Tryz.call34
    have c29 := Tryz.call29
    have mixed : Tryz.prog.follows .mixedOrders = true := by kernel_rfl
    obtain ⟨k22, hk22⟩ : ∃ k, k = 22 := ⟨_, rfl⟩
    rw [← hk22] at z31
    have nk22 : ¬ k22 = 0 := by omega
    have HK31 := Lib.hid hk22
    have hP : Tryz.prog = PD := rfl
    rw [hP] at t3 u3 g3 z3 t4 u4 g4 z4 t9 u9 g9 z9 t22 u22 g22 z22 t31 u31 g31 z31 t32 u32 g32 z32 t52 u52 g52 z52 c34 c29 mixed ⊢
    have HP := Lib.hid hP.symm
    clear hP hk22
    go_wp2_with (first | (go_at_call 34; with_reducible refine (at_prog HP.out (HIN.out _)).mono ?_; rintro e w3 ⟨rfl, hw3⟩; subst hw3) | fail)
    go_ret
    exact ⟨by rw [HV2.out]; try rfl, Fr.refl _ _⟩
  | true =>
    rcases htwo with rfl | ⟨t, r, rfl, htl, hr, hmr⟩
    · have HV2 : Hid (alN L nl port = true) := by show _ = _; rw [HV.out]; rfl
      clear HV
      go_enter Tryz.func14, Tryz.ntmps14
      have t3 := Tryz.underlying3
      have u3 := Tryz.runUnderlying3
      have g3 := Tryz.isAgg3
      have z3 := Tryz.sizeOf3
      have t4 := Tryz.underlying4
      have u4 := Tryz.runUnderlying4
      have g4 := Tryz.isAgg4
      have z4 := Tryz.sizeOf4
      have t9 := Tryz.underlying9
      have u9 := Tryz.runUnderlying9
      have g9 := Tryz.isAgg9
      have z9 := Tryz.sizeOf9
      have t22 := Tryz.underlying22
      have u22 := Tryz.runUnderlying22
      have g22 := Tryz.isAgg22
      have z22 := Tryz.sizeOf22
      have t31 := Tryz.underlying31
      have u31 := Tryz.runUnderlying31
      have g31 := Tryz.isAgg31
      have z31 := Tryz.sizeOf31
      have t32 := Tryz.underlying32
      have u32 := Tryz.runUnderlying32
      have g32 := Tryz.isAgg32
      have z32 := Tryz.sizeOf32
      have t52 := Tryz.underlying52
      have u52 := Tryz.runUnderlying52
      have g52 := Tryz.isAgg52
      have z52 := Tryz.sizeOf52
      have c34 := Tryz.call34
      have c29 := Tryz.call29
      have mixed : Tryz.prog.follows .mixedOrders = true := by kernel_rfl
      obtain ⟨k22, hk22⟩ : ∃ k, k = 22 := ⟨_, rfl⟩
      rw [← hk22] at z31
      have nk22 : ¬ k22 = 0 := by omega
      have HK31 := Lib.hid hk22
      have hP : Tryz.prog = PD := rfl
      rw [hP] at t3 u3 g3 z3 t4 u4 g4 z4 t9 u9 g9 z9 t22 u22 g22 z22 t31 u31 g31 z31 t32 u32 g32 z32 t52 u52 g52 z52 c34 c29 mixed ⊢
      have HP := Lib.hid hP.symm
      clear hP hk22
      go_wp2_with (first | (go_at_call 34; with_reducible refine (at_prog HP.out (HIN.out _)).mono ?_; rintro e w3 ⟨rfl, hw3⟩; subst hw3) | (go_at_call 29; go_loud (refine (at_prog HP.out (HM.out _ (Fr.refl _ _))).mono ?_; rintro e w4 ⟨rfl, hf4⟩)) | fail)
      go_ret
      exact ⟨by rw [HV2.out]; try rfl, hf4⟩
    · obtain ⟨b, o, rfl, hb, hcell⟩ := HI.out.rows.cell hr
      have HV2 : Hid (alN L nl port = r.al) := by show _ = _; rw [HV.out, Int.toNat_natCast, hr, decide_eq_false (by omega : ¬ (t : Int) < 0)]; rfl
      have HC : Hid (∀ w', Fr No w w' → w'.cell? ⟨x, 0, none⟩ = some (.slice (some ⟨b, o, none⟩) L.length rc) ∧ w'.cell? ⟨b, o + t * 22, none⟩ = some (.bool r.al)) := fun w' hf => ⟨cell_of (hf.keep HI.out.box) rfl, by have := (hcell w' hf).2 0 (.bool r.al) rfl; exact this⟩
      obtain ⟨ln, hln⟩ : ∃ ln, L.length = ln := ⟨_, rfl⟩
      rw [hln] at HC htl
      have p1 : (0 : Int) ≤ (t : Int) := by omega
      have p2 : (t : Int) < (ln : Int) := by omega
      have p3 : ¬ (t : Int) < 0 := by omega
      generalize r.al = al at HV2 HC
      clear HV hcell hb hr hmr hln
      go_enter Tryz.func14, Tryz.ntmps14
      have t3 := Tryz.underlying3
      have u3 := Tryz.runUnderlying3
      have g3 := Tryz.isAgg3
      have z3 := Tryz.sizeOf3
      have t4 := Tryz.underlying4
      have u4 := Tryz.runUnderlying4
      have g4 := Tryz.isAgg4
      have z4 := Tryz.sizeOf4
      have t9 := Tryz.underlying9
      have u9 := Tryz.runUnderlying9
      have g9 := Tryz.isAgg9
      have z9 := Tryz.sizeOf9
      have t22 := Tryz.underlying22
      have u22 := Tryz.runUnderlying22
      have g22 := Tryz.isAgg22
      have z22 := Tryz.sizeOf22
      have t31 := Tryz.underlying31
      have u31 := Tryz.runUnderlying31
      have g31 := Tryz.isAgg31
      have z31 := Tryz.sizeOf31
      have t32 := Tryz.underlying32
      have u32 := Tryz.runUnderlying32
      have g32 := Tryz.isAgg32
      have z32 := Tryz.sizeOf32
      have t52 := Tryz.underlying52
      have u52 := Tryz.runUnderlying52
      have g52 := Tryz.isAgg52
      have z52 := Tryz.sizeOf52
      have c34 := Tryz.call34
      have c29 := Tryz.call29
      have mixed : Tryz.prog.follows .mixedOrders = true := by kernel_rfl
      obtain ⟨k22, hk22⟩ : ∃ k, k = 22 := ⟨_, rfl⟩
      rw [← hk22] at z31
      have nk22 : ¬ k22 = 0 := by omega
      have HK31 := Lib.hid hk22
      have hP : Tryz.prog = PD := rfl
      rw [hP] at t3 u3 g3 z3 t4 u4 g4 z4 t9 u9 g9 z9 t22 u22 g22 z22 t31 u31 g31 z31 t32 u32 g32 z32 t52 u52 g52 z52 c34 c29 mixed ⊢
      have HP := Lib.hid hP.symm
      clear hP hk22
      rw [← HK31.out] at HC
      go_wp2_with (first | (go_at_call 34; with_reducible refine (at_prog HP.out (HIN.out _)).mono ?_; rintro e w3 ⟨rfl, hw3⟩; subst hw3) | (go_at_call 29; go_loud (refine (at_prog HP.out (HM.out _ (Fr.refl _ _))).mono ?_; rintro e w4 ⟨rfl, hf4⟩; obtain ⟨d0, d1⟩ := HC.out _ hf4)) | fail)
      go_ret
      exact ⟨by rw [HV2.out]; try rfl, hf4⟩
end Go.Proofs.YtnadendhboiliaaGreat
