/-
  CONTRACTS of appendV4 and parseGroups, over this seat's translation: what each call returns.
  Conditions: the string is shorter than 2 to the 31; the package variables are as Glob says.
  CONTRACTS of parseGroups, over this seat's translation: what the call returns.
  Conditions: the string is shorter than 2 to the 31; the package variables are as Glob says.
-/
import Derived.Test.YtmhnailcmlomiaaGreatDoorP2
import Derived.Test.YtmhnailcmlomiaaGreatDoorP3
namespace Go.Proofs.YtmhnailcmlomiaaGreatDoor
open Go.ChangeShapes Go.WideShapes Go.ChangeAt Go.RowKit
set_option linter.unusedVariables false

/-- Groups in memory that is new. -/
def GrpR (w0 w : World) (gs : List Nat) (e : Ending) : Prop := ∃ a n cap, gs.length = n ∧ e = .returned (.tuple #[.slice a n cap, .bool true]) ∧ w.ownsRow w0.heap.size 93 1 (.slice a n cap) n (nums .u16 gs)

set_option maxHeartbeats 2000000 in
set_option maxRecDepth 100000 in
theorem appendV4_any (w0 : World) (ar : Option Addr) (n cap : Nat) (gs : List Nat) (l : List UInt8) (w : World) (hG : Glob w) (hl : l.length < 2147483648) (hf : Fr No w0 w) (hn : gs.length = n) (hn8 : n ≤ 8) (hown : w.ownsRow w0.heap.size 93 1 (.slice ar n cap) n (nums .u16 gs)) :
    Calls Tryz.prog 128 #[.slice ar n cap, .string (bs l)] w fun e w' => Fr No w0 w' ∧ ((∃ xs, par 3 l = some xs ∧ GrpR w0 w' (gs ++ two xs) e) ∨ (par 3 l = none ∧ e = .returned (.tuple #[.slice none 0 0, .bool false]))) := by
  have HPV := Lib.hid (parseV4_any l w hG hl)
  obtain ⟨Z, hZ⟩ : ∃ Z : Array Value, (adr false zeros).toArray = Z := ⟨_, rfl⟩
  obtain ⟨Y, hY⟩ : ∃ Y : Array Value, (nums .u16 [0, 0, 0, 0, 0, 0, 0, 0]).toArray = Y := ⟨_, rfl⟩
  have v24 := zero30
  have v55 := zero95
  rw [hZ] at v24
  rw [hY] at v55
  have hzs : Z.size = 17 := by rw [← hZ]; rfl
  have hys : Y.size = 8 := by rw [← hY]; rfl
  have HO := Lib.hid (And.intro hown (And.intro hf (And.intro hn (And.intro hzs hys))))
  clear hown hf hn hZ hY hzs hys hG
  generalize bs l = s at HPV ⊢
  have hnq : ∀ q : List Nat, q = quad (par 3 l) → Bytes q := fun q hq => by
    subst hq
    cases h : par 3 l with
    | none => exact zeros_bytes
    | some xs =>
      have h4 := par_length 3 l xs h
      have hlt := par_lt 3 l xs h
      match xs, h4 with
      | [a, b, c, d], _ => exact v4_bytes (hlt a (by simp)) (hlt b (by simp)) (hlt c (by simp)) (hlt d (by simp))
  have HQ : Hid (∀ xs, par 3 l = some xs → (grps (quad (par 3 l))).take 2 = two xs ∧ two xs = [grp (quad (par 3 l)) 0, grp (quad (par 3 l)) 1]) := fun xs h => by
    have h4 := par_length 3 l xs h
    rw [h]
    match xs, h4 with
    | [a, b, c, d], _ => exact ⟨rfl, rfl⟩
  obtain ⟨q, hq⟩ : ∃ q, quad (par 3 l) = q := ⟨_, rfl⟩
  have hB := hnq q hq.symm
  rw [hq] at HPV HQ
  have HB := Lib.hid hB
  obtain ⟨ok, hok⟩ : ∃ ok, isQ (par 3 l) = ok := ⟨_, rfl⟩
  rw [hok] at HPV
  have HOK := Lib.hid hok
  obtain ⟨A, hA, h0, hsz, hj⟩ := adr_letter false q hB
  have hgo := fun w => groupsOf_any false q hB w
  rw [hA] at HPV hgo
  have HGO := Lib.hid hgo
  have HA := Lib.hid (And.intro hsz hA)
  clear hnq hq hB hok h0 hj hA hgo hsz hl
  have v39 : ∀ w, (zeroValue 93).run Tryz.prog w = .ok (.int .u16 0) w := fun w => by kernel_rfl
  go_enter Tryz.func128, Tryz.ntmps128
  have t3 := Tryz.underlying3
  have u3 := Tryz.runUnderlying3
  have g3 := Tryz.isAgg3
  have z3 := Tryz.sizeOf3
  have t4 := Tryz.underlying4
  have u4 := Tryz.runUnderlying4
  have g4 := Tryz.isAgg4
  have z4 := Tryz.sizeOf4
  have t9 := Tryz.underlying9
  have u9 := Tryz.runUnderlying9
  have g9 := Tryz.isAgg9
  have z9 := Tryz.sizeOf9
  have t30 := Tryz.underlying30
  have u30 := Tryz.runUnderlying30
  have g30 := Tryz.isAgg30
  have z30 := Tryz.sizeOf30
  have t89 := Tryz.underlying89
  have u89 := Tryz.runUnderlying89
  have g89 := Tryz.isAgg89
  have z89 := Tryz.sizeOf89
  have t93 := Tryz.underlying93
  have u93 := Tryz.runUnderlying93
  have g93 := Tryz.isAgg93
  have z93 := Tryz.sizeOf93
  have t95 := Tryz.underlying95
  have u95 := Tryz.runUnderlying95
  have g95 := Tryz.isAgg95
  have z95 := Tryz.sizeOf95
  have c93 := Tryz.call93
  have c104 := Tryz.call104
  have mixed : Tryz.prog.follows .mixedOrders = true := by kernel_rfl
  obtain ⟨k24, hk24⟩ : ∃ k, k = 17 := ⟨_, rfl⟩
  rw [← hk24] at z30
  have nk24 : ¬ k24 = 0 := by omega
  have HK30 := Lib.hid hk24
  obtain ⟨k55, hk55⟩ : ∃ k, k = 8 := ⟨_, rfl⟩
  rw [← hk55] at z95
  have nk55 : ¬ k55 = 0 := by omega
  have HK95 := Lib.hid hk55
  have hP : Tryz.prog = PD := rfl
  rw [hP] at t3 u3 g3 z3 t4 u4 g4 z4 t9 u9 g9 z9 t30 u30 g30 z30 t89 u89 g89 z89 t93 u93 g93 z93 t95 u95 g95 z95 c93 c104 mixed v24 v55 v39 ⊢
  have HP := Lib.hid hP.symm
  clear hP hk24 hk55
  go_wp2_with fail
  refine (at_prog HP.out HPV.out).mono ?_
  rintro e w1 ⟨rfl, hf1⟩
  obtain ⟨y, hst, hyb, hyf⟩ := store_all (P := PD) A.toList (heap_alloc_new w1 (.cells Z 30)) (by rw [Array.length_toList, HA.out.1, HO.out.2.2.2.1]) (by rw [← HA.out.2]; exact adr_one _ _)
  have hak : A.size = k24 := by rw [HK30.out]; exact HA.out.1
  have hla : Sem.run PD (loadCellsFrom ⟨w1.heap.size, 0, none⟩ 0 k24 #[]) y = .ok A y := by rw [HK30.out]; exact load_block hyb HA.out.1 (fun j v hv => by simpa using hv)
  have HY : Hid (Fr No w y) := (hf1.trans (Fr.alloc No _ _)).ofNew hyf fun k hk => .inr (by rw [hk]; exact hf1.size)
  clear hyb hyf hf1
  cases ok
  · go_wp2_with fail
    go_ret2
    refine ⟨HO.out.2.1.trans HY.out, .inr ⟨?_, rfl⟩⟩
    cases h : par 3 l with
    | none => rfl
    | some xs => have := HOK.out; rw [h] at this; cases this
  · go_wp2_with fail
    refine (at_prog HP.out (HGO.out _)).mono ?_
    rintro e w2 ⟨rfl, hf2⟩
    have hG8 : (nums .u16 (grps q)).toArray.size = 8 := rfl
    generalize hGG : (nums .u16 (grps q)).toArray = G at hG8
    obtain ⟨z, hst2, hzb, hzf⟩ := store_all (P := PD) G.toList (heap_alloc_new w2 (.cells Y 95)) (by rw [Array.length_toList, hG8, HO.out.2.2.2.2]) (by rw [← hGG]; exact nums_one _ _)
    have hgk : G.size = k55 := by rw [HK95.out]; exact hG8
    have hzb' : z.heap[w2.heap.size]? = some (.cells (nums .u16 (grps q)).toArray 95 (0, 0)) := by rw [hGG]; simpa using hzb
    have c0 : z.cell? ⟨w2.heap.size, 0, none⟩ = some (.int .u16 (grp q 0 : Nat)) := by rw [cell_of_row _ _ _ _ _ _ hzb']; rfl
    have c1 : z.cell? ⟨w2.heap.size, 1, none⟩ = some (.int .u16 (grp q 1 : Nat)) := by rw [cell_of_row _ _ _ _ _ _ hzb']; rfl
    have HZ : Hid (Fr No w z) := ((HY.out.trans hf2).trans (Fr.alloc No _ _)).ofNew hzf fun k hk => .inr (by rw [hk]; exact Nat.le_trans HY.out.size hf2.size)
    have HW : Hid ((z.alloc (.cells #[.int .u16 (grp q 0 : Nat), .int .u16 (grp q 1 : Nat)] 93)).ownsRow w0.heap.size 93 1 (.slice ar n cap) n (nums .u16 gs) ∧ Fr No w0 (z.alloc (.cells #[.int .u16 (grp q 0 : Nat), .int .u16 (grp q 1 : Nat)] 93)) ∧ At (z.alloc (.cells #[.int .u16 (grp q 0 : Nat), .int .u16 (grp q 1 : Nat)] 93)) (some ⟨z.heap.size, 0, none⟩) (nums .u16 [grp q 0, grp q 1])) := ⟨row_frNo HO.out.1 (HZ.out.trans (Fr.alloc No _ _)), (HO.out.2.1.trans HZ.out).trans (Fr.alloc No _ _), At.block (heap_alloc_new z _)⟩
    clear hzb hzf hzb' hf2 hst hla hG8
    go_wp2_with (first | (at_builtin; refine wpList_append_vals el16 rfl (.tmp 18) (.tmp 23) rfl w0.heap.size _ n _ rfl HW.out.1 _ 2 2 (nums .u16 [grp q 0, grp q 1]) rfl (nums_one _ _) rfl HW.out.2.2 (fun h => by cases h) (by unfold maxLen; omega) (by omega) HW.out.2.1.size ?_; intro a3 cp3 w3 hown3 hg3 hat3; have H3 : Hid (w3.ownsRow w0.heap.size 93 1 (.slice a3 (n + 2) cp3) (n + 2) (nums .u16 (gs ++ [grp q 0, grp q 1])) ∧ Fr No w0 w3) := ⟨(by rw [nums_append]; exact hown3), HW.out.2.1.own_grown HW.out.1 (Nat.le_refl _) hg3⟩; clear hown3 hg3 hat3) | fail)
    go_ret2
    refine ⟨H3.out.2, .inl ?_⟩
    cases h : par 3 l with
    | none => have := HOK.out; rw [h] at this; cases this
    | some xs =>
      obtain ⟨_, e2⟩ := HQ.out xs h
      refine ⟨xs, rfl, a3, n + 2, cp3, ?_, rfl, ?_⟩
      · rw [e2, List.length_append, HO.out.2.2.1]; rfl
      · rw [e2]; exact H3.out.1

/-- Groups in memory that is new, or nothing. -/
def GrpO (w0 w : World) (o : Option (List Nat)) (e : Ending) : Prop := (∃ gs, o = some gs ∧ gs.length ≤ 10 ∧ GrpR w0 w gs e) ∨ (e = .returned (.tuple #[.slice none 0 0, .bool false]) ∧ ∀ gs, o = some gs → 8 < gs.length)

end Go.Proofs.YtmhnailcmlomiaaGreatDoor
namespace Go.Proofs.YtmhnailcmlomiaaGreatDoor
open Go.ChangeShapes Go.WideShapes Go.ChangeAt Go.RowKit
set_option linter.unusedVariables false

theorem hexGo_dot : ∀ (l : List UInt8) (acc : Nat), l.contains 46 = true → hexGo acc l = none
  | [], acc, h => by simp at h
  | c :: r, acc, h => by
    rw [hexGo]
    by_cases hc : c = 46
    · subst hc; rfl
    · have hr : r.contains 46 = true := by
        rw [List.contains_cons] at h
        simpa [show ¬ (46 : UInt8) = c from fun e => hc e.symm] using h
      cases hexDig c with
      | none => rfl
      | some d => exact hexGo_dot r _ hr
theorem hexV_dot {l : List UInt8} (h : l.contains 46 = true) : hexV l = none := by
  unfold hexV
  split
  · rfl
  · exact hexGo_dot l 0 h
theorem cutc_contains {c : UInt8} : ∀ {l : List UInt8} {p : List UInt8 × List UInt8}, cutc c l = some p → l.contains c = true
  | [], p, h => by cases h
  | x :: l, p, h => by
    rw [cutc] at h
    rw [List.contains_cons]
    split at h
    · rename_i hx; subst hx; simp
    · obtain ⟨q, hq, _⟩ := Option.map_eq_some_iff.1 h
      rw [cutc_contains hq]; simp
theorem par_dot {l : List UInt8} {xs : List Nat} (h : par 3 l = some xs) : l.contains 46 = true := by
  rw [par] at h
  split at h
  · cases h
  · rename_i hc
    exact cutc_contains hc

theorem two_length (xs : List Nat) : (two xs).length ≤ 2 := by
  unfold two
  split <;> simp

/-- The last part. -/
theorem grp_last {mixed : Bool} {r : List UInt8} (hc : cutc 58 r = none) : grpGo mixed (splitc 58 r) = match (if mixed then par 3 r else none) with
    | some xs => some (two xs)
    | none => (hexV r).map fun g => [g] := by
  rw [split_cut, hc]
  rfl
theorem grp_more {mixed : Bool} {r a b : List UInt8} (hc : cutc 58 r = some (a, b)) : grpGo mixed (splitc 58 r) = match hexV a, grpGo mixed (splitc 58 b) with
    | some g, some gs => some (g :: gs)
    | _, _ => none := by
  rw [split_cut, hc]
  simp only []
  cases hs : splitc 58 b with
  | nil => exact absurd hs (split_ne _ _)
  | cons q t => rfl

/-- Where the loop is. -/
def InvG (mixed : Bool) (l r : List UInt8) (gs : List Nat) (more : Bool) : Prop := r.length ≤ l.length ∧ (∀ g ∈ gs, g < 65536) ∧ (more = false → grpP mixed l = some gs) ∧ (more = true → grpP mixed l = (grpGo mixed (splitc 58 r)).map fun t => gs ++ t)

theorem InvG.start (mixed : Bool) (l : List UInt8) : InvG mixed l l [] (decide (l ≠ [])) := by
  refine ⟨Nat.le_refl _, by simp, ?_, ?_⟩
  · intro h
    have : l = [] := by simpa using h
    subst this
    rfl
  · intro h
    have : l ≠ [] := by simpa using h
    rw [grpP, if_neg this]
    simp

theorem tup_some {o : Option (List Nat)} {gs ys : List Nat} (h : o = some ys) : o.map (fun t => gs ++ t) = some (gs ++ ys) := by rw [h]; rfl

set_option maxHeartbeats 4000000 in
set_option maxRecDepth 100000 in
theorem parseGroups_any (l : List UInt8) (mixed : Bool) (w : World) (hG : Glob w) (hl : l.length < 2147483648) :
    Calls Tryz.prog 109 #[.string (bs l), .bool mixed] w fun e w' => Fr No w w' ∧ GrpO w w' (grpP mixed l) e := by
  have hemp : (!(bs l).toList.isEmpty) = decide (l ≠ []) := by
    rw [bs_toList]
    cases l <;> simp
  have HE := Lib.hid (And.intro hG (And.intro hl hemp))
  clear hG hl hemp
  go_enter Tryz.func109, Tryz.ntmps109
  go_wp2_with fail
  rw [HE.out.2.2]
  obtain ⟨mo, hmo⟩ : ∃ mo, decide (l ≠ []) = mo := ⟨_, rfl⟩
  rw [hmo]
  have HMO := Lib.hid hmo
  clear hmo
  go_loopg [0, 6, 7] (l.length + 2) (fun g s0 s6 s7 wr => ∃ (n cap : Nat) (ar : Option Addr) (r : List UInt8) (gs : List Nat) (more : Bool), s0 = .string (bs r) ∧ s6 = .slice ar n cap ∧ s7 = .bool more ∧ n ≤ 8 ∧ (0 < g ∧ (more = true → r.length + 1 < g)) ∧ Hid (gs.length = n ∧ InvG mixed l r gs more ∧ wr.ownsRow w.heap.size 93 1 (.slice ar n cap) n (nums .u16 gs) ∧ Fr No w wr))
  case atStart => exact ⟨0, 0, none, l, [], mo, rfl, rfl, rfl, by omega, ⟨by omega, fun _ => by omega⟩, rfl, HMO.out ▸ InvG.start mixed l, World.ownsRow_nil _ _ _ _, Fr.refl _ _⟩
  case round =>
    obtain ⟨n, cap, ar, r, gs, more, rfl, rfl, rfl, hn8, hgm, HR⟩ := hrel
    cases more
    · go_wp2_with fail
      go_ret2
      exact ⟨HR.out.2.2.2, .inl ⟨gs, HR.out.2.1.2.2.1 rfl, (by rw [HR.out.1]; omega), ar, n, cap, HR.out.1, rfl, HR.out.2.2.1⟩⟩
    · have hrg := hgm.2 rfl
      have hrl : r.length < 2147483648 := by have := HR.out.2.1.1; have := HE.out.2.1; omega
      have HI := Lib.hid (And.intro (HR.out.2.1.2.2.2 rfl) (And.intro HR.out.2.1.1 HR.out.2.1.2.1))
      have HLN := Lib.hid (And.intro HR.out.1 hrl)
      go_wp2_with fail
      refine (cut1_any r 58 _ (HE.out.1.fr HR.out.2.2.2) hrl).mono ?_
      rintro e w2 ⟨rfl, hf2⟩
      have H2 : Hid (w2.ownsRow w.heap.size 93 1 (.slice ar n cap) n (nums .u16 gs) ∧ Fr No w w2) := ⟨row_frNo HR.out.2.2.1 hf2, HR.out.2.2.2.trans hf2⟩
      clear hf2 HR hrl
      cases hc : cutc 58 r with
      | none =>
        have HGL := Lib.hid (grp_last (mixed := mixed) hc)
        simp only [cutR]
        clear hc
        by_cases hv : mixed = true ∧ r.contains 46 = true
        · obtain ⟨hm, hdot⟩ := hv
          subst hm
          have HP4 := Lib.hid hdot
          go_wp2_with (first | (go_at_call 91; refine (contains_any r 46 _).mono ?_; rintro e w3 ⟨rfl, rfl⟩; rw [hdot]) | fail)
          refine (appendV4_any w ar n cap gs r _ (HE.out.1.fr H2.out.2) HLN.out.2 H2.out.2 HLN.out.1 hn8 H2.out.1).mono ?_
          rintro e w3 ⟨hf3, ⟨xs, hpx, a3, m3, cp3, hm3, rfl, hown3⟩ | ⟨hpn, rfl⟩⟩
          · have H3 := Lib.hid (And.intro hf3 (And.intro hpx (And.intro hm3 hown3)))
            clear hf3 hpx hm3 hown3
            go_wp2_with fail
            go_ret2
            refine ⟨H3.out.1, .inl ⟨gs ++ two xs, ?_, (by have := two_length xs; rw [List.length_append, HLN.out.1]; omega), a3, m3, cp3, H3.out.2.2.1, rfl, H3.out.2.2.2⟩⟩
            rw [HI.out.1, HGL.out]; simp [H3.out.2.1]
          · have H3 := Lib.hid (And.intro hf3 hpn)
            clear hf3 hpn
            go_wp2_with fail
            go_ret2
            refine ⟨H3.out.1, .inr ⟨rfl, fun gs' h => ?_⟩⟩
            rw [HI.out.1, HGL.out] at h
            simp [H3.out.2, hexV_dot HP4.out] at h
        · have HSP : Hid ((hexV r = none → grpP mixed l = none) ∧ ∀ g, hexV r = some g → (gs.length = 8 → ∀ gs', grpP mixed l = some gs' → 8 < gs'.length) ∧ InvG mixed l [] (gs ++ [g]) false) := by
            have hpar : (if mixed = true then par 3 r else none) = none := by
              cases mixed with
              | false => rfl
              | true =>
                cases hp : par 3 r with
                | none => rfl
                | some xs => exact absurd ⟨rfl, par_dot hp⟩ hv
            have hgl := HGL.out
            rw [hpar] at hgl
            refine ⟨fun hg => by rw [HI.out.1, hgl, hg]; rfl, fun g hg => ?_⟩
            have he : grpP mixed l = some (gs ++ [g]) := by rw [HI.out.1, hgl, hg]; rfl
            refine ⟨fun h8 gs' h => by rw [he] at h; cases h; simp [h8], by simp, ?_, fun _ => he, fun h => by cases h⟩
            intro y hy
            rcases List.mem_append.1 hy with hy | hy
            · exact HI.out.2.2 y hy
            · simp at hy; subst hy; exact hexV_lt hg
          obtain ⟨a, ha⟩ : ∃ a, r = a := ⟨_, rfl⟩
          rw [ha] at HSP hv hrg ⊢
          clear HGL
          cases mixed
          · clear hv
            go_wp2_with fail
            refine (parseGroup_any a _ (HE.out.1.fr H2.out.2)).mono ?_
            rintro e w3 ⟨rfl, hf3⟩
            have H3 : Hid (w3.ownsRow w.heap.size 93 1 (.slice ar n cap) n (nums .u16 gs) ∧ Fr No w w3) := ⟨row_frNo H2.out.1 hf3, H2.out.2.trans hf3⟩
            clear hf3 H2
            cases hg : hexV a with
            | none =>
              have HN := Lib.hid (HSP.out.1 hg)
              clear hg
              simp only [optV, optB]
              go_wp2_with fail
              go_ret2
              exact ⟨H3.out.2, .inr ⟨rfl, fun gs' h => by rw [HN.out] at h; cases h⟩⟩
            | some g =>
              have hg6 := hexV_lt hg
              have HSG := Lib.hid (HSP.out.2 g hg)
              clear hg HSP
              simp only [optV, optB]
              by_cases h8 : n = 8
              · subst h8
                go_wp2_with fail
                go_ret2
                exact ⟨H3.out.2, .inr ⟨rfl, fun gs' h => HSG.out.1 HLN.out.1 gs' h⟩⟩
              · have p8 : ¬ (n : Int) = 8 := by omega
                go_wp2_with (first | (at_builtin; refine wpList_append_vals el16 rfl (.tmp 46) (.tmp 48) rfl w.heap.size _ n _ rfl (row_frNo H3.out.1 (Fr.alloc No _ _)) _ 1 1 (nums .u16 [g]) rfl (nums_one _ _) rfl (At.block (heap_alloc_new _ _)) (fun h => by cases h) (by unfold maxLen; omega) (by omega) (Nat.le_trans H3.out.2.size (Fr.alloc No _ _).size) ?_; intro a4 cp4 w4 hown4 hg4 hat4; have H4 : Hid (w4.ownsRow w.heap.size 93 1 (.slice a4 (n + 1) cp4) (n + 1) (nums .u16 (gs ++ [g])) ∧ Fr No w w4) := ⟨(by rw [nums_append]; exact hown4), (H3.out.2.trans (Fr.alloc No _ _)).own_grown (row_frNo H3.out.1 (Fr.alloc No _ _)) (Nat.le_refl _) hg4⟩; clear hown4 hg4 hat4) | fail)
                go_roundg 1
                case measure => exact (by omega)
                case rel => exact ⟨n + 1, cp4, a4, [], gs ++ [g], false, rfl, rfl, rfl, by omega, ⟨by omega, fun h => by cases h⟩, by simp [HLN.out.1], HSG.out.2, H4.out⟩
          · have hdot : a.contains 46 = false := by
              cases h : a.contains 46 with
              | false => rfl
              | true => exact absurd ⟨rfl, h⟩ hv
            clear hv
            go_wp2_with (first | (go_at_call 91; refine (contains_any a 46 _).mono ?_; rintro e w3 ⟨rfl, rfl⟩; rw [hdot]) | fail)
            refine (parseGroup_any a _ (HE.out.1.fr H2.out.2)).mono ?_
            rintro e w3 ⟨rfl, hf3⟩
            have H3 : Hid (w3.ownsRow w.heap.size 93 1 (.slice ar n cap) n (nums .u16 gs) ∧ Fr No w w3) := ⟨row_frNo H2.out.1 hf3, H2.out.2.trans hf3⟩
            clear hf3 H2
            cases hg : hexV a with
            | none =>
              have HN := Lib.hid (HSP.out.1 hg)
              clear hg
              simp only [optV, optB]
              go_wp2_with fail
              go_ret2
              exact ⟨H3.out.2, .inr ⟨rfl, fun gs' h => by rw [HN.out] at h; cases h⟩⟩
            | some g =>
              have hg6 := hexV_lt hg
              have HSG := Lib.hid (HSP.out.2 g hg)
              clear hg HSP
              simp only [optV, optB]
              by_cases h8 : n = 8
              · subst h8
                go_wp2_with fail
                go_ret2
                exact ⟨H3.out.2, .inr ⟨rfl, fun gs' h => HSG.out.1 HLN.out.1 gs' h⟩⟩
              · have p8 : ¬ (n : Int) = 8 := by omega
                go_wp2_with (first | (at_builtin; refine wpList_append_vals el16 rfl (.tmp 46) (.tmp 48) rfl w.heap.size _ n _ rfl (row_frNo H3.out.1 (Fr.alloc No _ _)) _ 1 1 (nums .u16 [g]) rfl (nums_one _ _) rfl (At.block (heap_alloc_new _ _)) (fun h => by cases h) (by unfold maxLen; omega) (by omega) (Nat.le_trans H3.out.2.size (Fr.alloc No _ _).size) ?_; intro a4 cp4 w4 hown4 hg4 hat4; have H4 : Hid (w4.ownsRow w.heap.size 93 1 (.slice a4 (n + 1) cp4) (n + 1) (nums .u16 (gs ++ [g])) ∧ Fr No w w4) := ⟨(by rw [nums_append]; exact hown4), (H3.out.2.trans (Fr.alloc No _ _)).own_grown (row_frNo H3.out.1 (Fr.alloc No _ _)) (Nat.le_refl _) hg4⟩; clear hown4 hg4 hat4) | fail)
                go_roundg 1
                case measure => exact (by omega)
                case rel => exact ⟨n + 1, cp4, a4, [], gs ++ [g], false, rfl, rfl, rfl, by omega, ⟨by omega, fun h => by cases h⟩, by simp [HLN.out.1], HSG.out.2, H4.out⟩
      | some p =>
        obtain ⟨a, b⟩ := p
        have hlen := cutc_length hc
        have HGM := Lib.hid (grp_more (mixed := mixed) hc)
        simp only [cutR]
        have HSP : Hid ((hexV a = none → grpP mixed l = none) ∧ ∀ g, hexV a = some g → (gs.length = 8 → ∀ gs', grpP mixed l = some gs' → 8 < gs'.length) ∧ InvG mixed l b (gs ++ [g]) true) := by
          refine ⟨fun hg => by rw [HI.out.1, HGM.out, hg]; rfl, fun g hg => ?_⟩
          have he : grpP mixed l = (grpGo mixed (splitc 58 b)).map fun t => (gs ++ [g]) ++ t := by
            rw [HI.out.1, HGM.out, hg]
            cases grpGo mixed (splitc 58 b) <;> simp
          refine ⟨fun h8 gs' h => ?_, (by have := HI.out.2.1; omega), ?_, (fun h => by cases h), fun _ => he⟩
          · rw [he] at h
            obtain ⟨t, _, rfl⟩ := Option.map_eq_some_iff.1 h
            simp [h8]
          · intro y hy
            rcases List.mem_append.1 hy with hy | hy
            · exact HI.out.2.2 y hy
            · simp at hy; subst hy; exact hexV_lt hg
        clear HGM hc
        cases mixed
        · go_wp2_with fail
          refine (parseGroup_any a _ (HE.out.1.fr H2.out.2)).mono ?_
          rintro e w3 ⟨rfl, hf3⟩
          have H3 : Hid (w3.ownsRow w.heap.size 93 1 (.slice ar n cap) n (nums .u16 gs) ∧ Fr No w w3) := ⟨row_frNo H2.out.1 hf3, H2.out.2.trans hf3⟩
          clear hf3 H2
          cases hg : hexV a with
          | none =>
            have HN := Lib.hid (HSP.out.1 hg)
            clear hg
            simp only [optV, optB]
            go_wp2_with fail
            go_ret2
            exact ⟨H3.out.2, .inr ⟨rfl, fun gs' h => by rw [HN.out] at h; cases h⟩⟩
          | some g =>
            have hg6 := hexV_lt hg
            have HSG := Lib.hid (HSP.out.2 g hg)
            clear hg HSP
            simp only [optV, optB]
            by_cases h8 : n = 8
            · subst h8
              go_wp2_with fail
              go_ret2
              exact ⟨H3.out.2, .inr ⟨rfl, fun gs' h => HSG.out.1 HLN.out.1 gs' h⟩⟩
            · have p8 : ¬ (n : Int) = 8 := by omega
              go_wp2_with (first | (at_builtin; refine wpList_append_vals el16 rfl (.tmp 46) (.tmp 48) rfl w.heap.size _ n _ rfl (row_frNo H3.out.1 (Fr.alloc No _ _)) _ 1 1 (nums .u16 [g]) rfl (nums_one _ _) rfl (At.block (heap_alloc_new _ _)) (fun h => by cases h) (by unfold maxLen; omega) (by omega) (Nat.le_trans H3.out.2.size (Fr.alloc No _ _).size) ?_; intro a4 cp4 w4 hown4 hg4 hat4; have H4 : Hid (w4.ownsRow w.heap.size 93 1 (.slice a4 (n + 1) cp4) (n + 1) (nums .u16 (gs ++ [g])) ∧ Fr No w w4) := ⟨(by rw [nums_append]; exact hown4), (H3.out.2.trans (Fr.alloc No _ _)).own_grown (row_frNo H3.out.1 (Fr.alloc No _ _)) (Nat.le_refl _) hg4⟩; clear hown4 hg4 hat4) | fail)
              go_roundg (b.length + 2)
              case measure => exact (by omega)
              case rel => exact ⟨n + 1, cp4, a4, b, gs ++ [g], true, rfl, rfl, rfl, by omega, ⟨by omega, fun _ => by omega⟩, by simp [HLN.out.1], HSG.out.2, H4.out⟩
        · go_wp2_with fail
          refine (parseGroup_any a _ (HE.out.1.fr H2.out.2)).mono ?_
          rintro e w3 ⟨rfl, hf3⟩
          have H3 : Hid (w3.ownsRow w.heap.size 93 1 (.slice ar n cap) n (nums .u16 gs) ∧ Fr No w w3) := ⟨row_frNo H2.out.1 hf3, H2.out.2.trans hf3⟩
          clear hf3 H2
          cases hg : hexV a with
          | none =>
            have HN := Lib.hid (HSP.out.1 hg)
            clear hg
            simp only [optV, optB]
            go_wp2_with fail
            go_ret2
            exact ⟨H3.out.2, .inr ⟨rfl, fun gs' h => by rw [HN.out] at h; cases h⟩⟩
          | some g =>
            have hg6 := hexV_lt hg
            have HSG := Lib.hid (HSP.out.2 g hg)
            clear hg HSP
            simp only [optV, optB]
            by_cases h8 : n = 8
            · subst h8
              go_wp2_with fail
              go_ret2
              exact ⟨H3.out.2, .inr ⟨rfl, fun gs' h => HSG.out.1 HLN.out.1 gs' h⟩⟩
            · have p8 : ¬ (n : Int) = 8 := by omega
              go_wp2_with (first | (at_builtin; refine wpList_append_vals el16 rfl (.tmp 46) (.tmp 48) rfl w.heap.size _ n _ rfl (row_frNo H3.out.1 (Fr.alloc No _ _)) _ 1 1 (nums .u16 [g]) rfl (nums_one _ _) rfl (At.block (heap_alloc_new _ _)) (fun h => by cases h) (by unfold maxLen; omega) (by omega) (Nat.le_trans H3.out.2.size (Fr.alloc No _ _).size) ?_; intro a4 cp4 w4 hown4 hg4 hat4; have H4 : Hid (w4.ownsRow w.heap.size 93 1 (.slice a4 (n + 1) cp4) (n + 1) (nums .u16 (gs ++ [g])) ∧ Fr No w w4) := ⟨(by rw [nums_append]; exact hown4), (H3.out.2.trans (Fr.alloc No _ _)).own_grown (row_frNo H3.out.1 (Fr.alloc No _ _)) (Nat.le_refl _) hg4⟩; clear hown4 hg4 hat4) | fail)
              go_roundg (b.length + 2)
              case measure => exact (by omega)
              case rel => exact ⟨n + 1, cp4, a4, b, gs ++ [g], true, rfl, rfl, rfl, by omega, ⟨by omega, fun _ => by omega⟩, by simp [HLN.out.1], HSG.out.2, H4.out⟩
end Go.Proofs.YtmhnailcmlomiaaGreatDoor
