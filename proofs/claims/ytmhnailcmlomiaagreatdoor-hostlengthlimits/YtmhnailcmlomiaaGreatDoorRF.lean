/-
  CONTRACTS of the reference's Format, over this seat's translation: what the call returns.
  Conditions: the argument is an address.
-/
import Derived.Test.YtmhnailcmlomiaaGreatDoorR10
import Derived.Test.YtmhnailcmlomiaaGreatDoorR11
import Derived.Test.YtmhnailcmlomiaaGreatDoorPg
import Derived.Test.YtmhnailcmlomiaaGreatDoorR2
namespace Go.Proofs.YtmhnailcmlomiaaGreatDoor
open Go.ChangeShapes Go.WideShapes Go.ChangeAt Go.RowKit
set_option linter.unusedVariables false

theorem bs_isEmpty_l (l : List UInt8) : (bs l).toList.isEmpty = l.isEmpty := by
  have : (bs l).toList = l := by rw [ByteArray.toList_eq]; rfl
  rw [this]
theorem str_size (t : List Nat) : (str t).size = t.length := by simp [str, ByteArray.size]
theorem str_isEmpty (t : List Nat) : (str t).toList.isEmpty = t.isEmpty := by
  rw [str_oct, bs_isEmpty_l]
  cases t <;> rfl
theorem txtAt_length {gs : List Nat} (hb : ∀ g ∈ gs, g < 65536) (h8 : gs.length = 8) (s l i : Nat) : (txtAt gs s l i).length ≤ 100 := by
  have hj : ∀ gs : List Nat, gs.length ≤ 8 → (∀ g ∈ gs, g < 65536) → (joinN 58 (gs.map hexN)).length ≤ 40 := fun gs hl hb => by
    have h1 := joinN_length 58 4 (gs.map hexN) (fun x hx => by
      obtain ⟨g, hg, rfl⟩ := List.mem_map.1 hx
      exact hexN_length g (hb g hg))
    rw [List.length_map] at h1
    omega
  unfold txtAt
  split
  · have := hj (gs.take i) (by rw [List.length_take]; omega) (fun g hg => hb g (List.mem_of_mem_take hg))
    omega
  · have h1 := hj (gs.take s) (by rw [List.length_take]; omega) (fun g hg => hb g (List.mem_of_mem_take hg))
    have h2 := hj ((gs.drop (s + l)).take (i - (s + l))) (by rw [List.length_take, List.length_drop]; omega) (fun g hg => hb g (List.mem_of_mem_drop (List.mem_of_mem_take hg)))
    rw [List.length_append, List.length_append]
    simp only [List.length_cons, List.length_nil]
    omega

theorem joinN_mem (sep : Nat) : ∀ (xs : List (List Nat)) (y : Nat), y ∈ joinN sep xs → y = sep ∨ ∃ x ∈ xs, y ∈ x
  | [], y, h => by cases h
  | [x], y, h => .inr ⟨x, by simp, h⟩
  | x :: z :: r, y, h => by
    rw [joinN] at h
    rcases List.mem_append.1 h with h | h
    · exact .inr ⟨x, by simp, h⟩
    · rcases List.mem_cons.1 h with h | h
      · exact .inl h
      · rcases joinN_mem sep (z :: r) y h with h | ⟨u, hu, h⟩
        · exact .inl h
        · exact .inr ⟨u, List.mem_cons_of_mem _ hu, h⟩
theorem joinH_lt (gs : List Nat) : ∀ y ∈ joinN 58 (gs.map hexN), y < 256 := by
  intro y hy
  rcases joinN_mem 58 _ y hy with h | ⟨x, hx, h⟩
  · omega
  · obtain ⟨n, _, rfl⟩ := List.mem_map.1 hx
    exact (hexN_ne n y h).2.2
theorem txtAt_lt (gs : List Nat) (s l i : Nat) : ∀ y ∈ txtAt gs s l i, y < 256 := by
  intro y hy
  unfold txtAt at hy
  split at hy
  · exact joinH_lt _ y hy
  · rcases List.mem_append.1 hy with hy | hy
    · rcases List.mem_append.1 hy with hy | hy
      · exact joinH_lt _ y hy
      · simp at hy; omega
    · exact joinH_lt _ y hy

/-- The reference's choice as a run: none is a run behind the end. -/
theorem best_run {gs : List Nat} (h8 : gs.length = 8) {f : Int} {m : Nat} (h : bestZ gs 8 = (f, m)) : ∃ s l : Nat, 1 ≤ l ∧ s + l ≤ 9 ∧ txtAt gs s l 8 = fmt6 gs ∧ ((f = -1 ∧ s = 8) ∨ (f = s ∧ m = l ∧ s + l ≤ 8)) := by
  rw [best_scan h8] at h
  have hz := (zero_scan h8).2
  have hf : fmt6 gs = if (scanZ gs 0 0 0 0).2 < 2 then joinN 58 (gs.map hexN) else joinN 58 ((gs.take (scanZ gs 0 0 0 0).1).map hexN) ++ [58, 58] ++ joinN 58 ((gs.drop ((scanZ gs 0 0 0 0).1 + (scanZ gs 0 0 0 0).2)).map hexN) := rfl
  generalize (scanZ gs 0 0 0 0).1 = s at h hz hf
  generalize (scanZ gs 0 0 0 0).2 = l at h hz hf
  by_cases h2 : l < 2
  · rw [if_pos h2] at h hf
    cases h
    exact ⟨8, 1, by omega, by omega, by rw [hf]; exact txtAt_plain h8 8 1 (by omega), .inl ⟨rfl, rfl⟩⟩
  · rw [if_neg h2] at h hf
    cases h
    exact ⟨s, m, by omega, by omega, by rw [hf]; exact txtAt_end h8 s m hz (by omega), .inr ⟨rfl, rfl, hz⟩⟩

theorem last_index {t : List Nat} {x : Nat} (h : t.getLast? = some x) (hx : x < 256) (w : World) : Sem.run Tryz.prog (Instr.index 9 (.string (str t)) (.int .i64 ((t.length : Int) - 1))) w = .ok (.int .u8 (x : Int)) w := by
  have hne : t ≠ [] := by intro e; rw [e] at h; cases h
  have hl : 0 < t.length := List.length_pos_iff.2 hne
  have h1 : (oct8 t)[t.length - 1]? = some (UInt8.ofNat x) := by
    rw [oct8, List.getElem?_map, ← List.getLast?_eq_getElem?, h]; rfl
  have h2 := bs_index h1 w
  have hc : ((t.length - 1 : Nat) : Int) = (t.length : Int) - 1 := by omega
  have hn : ((UInt8.ofNat x).toNat : Int) = (x : Int) := by simp; omega
  rw [hc, hn] at h2
  exact h2

theorem fmt4_four {xs : List Nat} {x0 x1 x2 x3 : Nat} (h0 : xs[0]? = some x0) (h1 : xs[1]? = some x1) (h2 : xs[2]? = some x2) (h3 : xs[3]? = some x3) : fmt4 xs = decN x0 ++ 46 :: (decN x1 ++ 46 :: (decN x2 ++ 46 :: decN x3)) := by
  have e : xs.take 4 = [x0, x1, x2, x3] := by
    rw [List.take_add_one, List.take_add_one, List.take_add_one, List.take_add_one, h0, h1, h2, h3]
    rfl
  rw [fmt4, e]
  rfl

set_option maxHeartbeats 8000000 in
set_option maxRecDepth 100000 in
theorem format_ref (b : Bool) (xs : List Nat) (hx : Bytes xs) (w : World) :
    Calls Tryz.prog 33 #[.agg (adr b xs).toArray] w fun e w' => e = .returned (.string (str (fmtA b xs))) ∧ Fr No w w' := by
  obtain ⟨A, hA, h0, hsz, hj⟩ := adr_letter b xs hx
  have hv := fun w => valid_ref b xs hx w
  have hg := fun i hi w => group_ref b xs i hx hi w
  rw [hA] at hv hg ⊢
  have HV := Lib.hid (And.intro hv hg)
  have hbk := heap_alloc_new w (.cells A 30)
  have HF := Lib.hid (Fr.alloc No w (.cells A 30))
  have HJ : Hid (∀ w', Fr No (w.alloc (.cells A 30)) w' → ∀ i x : Nat, xs[i]? = some x → w'.cell? ⟨w.heap.size, 1 + i, none⟩ = some (.int .u8 x)) := fun w' hf i x h => hf.cell (by rw [cell_of_row _ _ _ _ _ _ hbk]; exact hj i x h)
  have HLD : Hid (∀ w', Fr No (w.alloc (.cells A 30)) w' → Sem.run PD (loadCellsFrom ⟨w.heap.size, 0, none⟩ 0 17 #[]) w' = .ok A w' ∧ w'.cell? ⟨w.heap.size, 0, none⟩ = some (.bool b)) := fun w' hf => ⟨load_block (hf.keep hbk) hsz (fun j v hv => by simpa using hv), hf.cell (by rw [cell_of_row _ _ _ _ _ _ hbk]; exact h0)⟩
  have HSZ := Lib.hid hsz
  clear hj hA h0 hsz hbk hv hg
  have hl1 := (HLD.out _ (Fr.refl No _)).1
  go_enter Tryz.func33, Tryz.ntmps33
  have t3 := Tryz.underlying3
  have u3 := Tryz.runUnderlying3
  have g3 := Tryz.isAgg3
  have z3 := Tryz.sizeOf3
  have t4 := Tryz.underlying4
  have u4 := Tryz.runUnderlying4
  have g4 := Tryz.isAgg4
  have z4 := Tryz.sizeOf4
  have t5 := Tryz.underlying5
  have u5 := Tryz.runUnderlying5
  have g5 := Tryz.isAgg5
  have z5 := Tryz.sizeOf5
  have t9 := Tryz.underlying9
  have u9 := Tryz.runUnderlying9
  have g9 := Tryz.isAgg9
  have z9 := Tryz.sizeOf9
  have t28 := Tryz.underlying28
  have u28 := Tryz.runUnderlying28
  have g28 := Tryz.isAgg28
  have z28 := Tryz.sizeOf28
  have t30 := Tryz.underlying30
  have u30 := Tryz.runUnderlying30
  have g30 := Tryz.isAgg30
  have z30 := Tryz.sizeOf30
  have c46 := Tryz.call46
  have c34 := Tryz.call34
  have c71 := Tryz.call71
  have c72 := Tryz.call72
  have mixed : Tryz.prog.follows .mixedOrders = true := by kernel_rfl
  obtain ⟨k24, hk24⟩ : ∃ k, k = 17 := ⟨_, rfl⟩
  rw [← hk24] at z30
  have nk24 : ¬ k24 = 0 := by omega
  have HK30 := Lib.hid hk24
  have hP : Tryz.prog = PD := rfl
  rw [hP] at t3 u3 g3 z3 t4 u4 g4 z4 t5 u5 g5 z5 t9 u9 g9 z9 t28 u28 g28 z28 t30 u30 g30 z30 c46 c34 c71 c72 mixed ⊢
  have HP := Lib.hid hP.symm
  clear hP hk24
  rw [← HK30.out] at hl1 HLD
  go_wp2_with fail
  refine (at_prog HP.out (HV.out.1 _)).mono ?_
  rintro e w1 ⟨rfl, hf1⟩
  have k0 := (HLD.out w1 hf1).2
  have H1 := Lib.hid hf1
  clear hf1 hl1
  have hvv : Hid (validA b xs = validA b xs) := rfl
  cases hval : validA b xs with
  | false =>
    have HE : Hid (fmtA b xs = []) := by show _ = _; rw [fmtA, hval]; rfl
    clear hval
    go_wp2_with fail
    go_ret
    exact ⟨by rw [HE.out]; rfl, HF.out.trans H1.out⟩
  | true =>
    cases b
    · have HE : Hid (fmtA false xs = fmt4 xs) := by show _ = _; rw [fmtA, hval]; rfl
      clear hval
      have g : ∀ i, i < 16 → ∃ x, xs[i]? = some x ∧ xs.getD i 0 = x ∧ x < 256 := fun i hi => get_or hx i hi
      obtain ⟨x0, h0, e0, l0⟩ := g 0 (by omega)
      obtain ⟨x1, h1, e1, l1⟩ := g 1 (by omega)
      obtain ⟨x2, h2, e2, l2⟩ := g 2 (by omega)
      obtain ⟨x3, h3, e3, l3⟩ := g 3 (by omega)
      have HX : Hid (fmt4 xs = decN x0 ++ 46 :: (decN x1 ++ 46 :: (decN x2 ++ 46 :: decN x3))) := fmt4_four h0 h1 h2 h3
      have HC : Hid (∀ w', Fr No (w.alloc (.cells A 30)) w' → w'.cell? ⟨w.heap.size, 1, none⟩ = some (.int .u8 x0) ∧ w'.cell? ⟨w.heap.size, 1 + 1, none⟩ = some (.int .u8 x1) ∧ w'.cell? ⟨w.heap.size, 1 + 2, none⟩ = some (.int .u8 x2) ∧ w'.cell? ⟨w.heap.size, 1 + 3, none⟩ = some (.int .u8 x3)) := fun w' hf => ⟨HJ.out w' hf 0 x0 h0, HJ.out w' hf 1 x1 h1, HJ.out w' hf 2 x2 h2, HJ.out w' hf 3 x3 h3⟩
      have HD : Hid (∀ x, x < 256 → (str (decN x)).size ≤ 3 ∧ ∀ w', Calls Tryz.prog 34 #[.int .i64 (x : Nat)] w' fun e w'' => e = .returned (.string (str (decN x))) ∧ Fr No w' w'') := fun x h => ⟨by rw [str_size]; exact decN_length h, fun w' => fdec_ref x (by omega) w'⟩
      obtain ⟨z0, d0⟩ := HD.out x0 l0
      obtain ⟨z1, d1⟩ := HD.out x1 l1
      obtain ⟨z2, d2⟩ := HD.out x2 l2
      obtain ⟨z3, d3⟩ := HD.out x3 l3
      generalize hs0 : str (decN x0) = s0 at z0 d0
      generalize hs1 : str (decN x1) = s1 at z1 d1
      generalize hs2 : str (decN x2) = s2 at z2 d2
      generalize hs3 : str (decN x3) = s3 at z3 d3
      have HSS := Lib.hid (And.intro hs0 (And.intro hs1 (And.intro hs2 hs3)))
      have HDD := Lib.hid (And.intro d0 (And.intro d1 (And.intro d2 d3)))
      clear g h0 h1 h2 h3 e0 e1 e2 e3 d0 d1 d2 d3 hs0 hs1 hs2 hs3
      have wr0 : IntKind.i64.wrap (x0 : Int) = x0 := wraps_i64_63 _ (by omega) (by omega)
      have wr1 : IntKind.i64.wrap (x1 : Int) = x1 := wraps_i64_63 _ (by omega) (by omega)
      have wr2 : IntKind.i64.wrap (x2 : Int) = x2 := wraps_i64_63 _ (by omega) (by omega)
      have wr3 : IntKind.i64.wrap (x3 : Int) = x3 := wraps_i64_63 _ (by omega) (by omega)
      have g1 : ¬ 9223372036854775807 < s0.size + 1 := by omega
      have g2 : ¬ 9223372036854775807 < s0.size + 1 + s1.size := by omega
      have g3 : ¬ 9223372036854775807 < s0.size + 1 + s1.size + 1 := by omega
      have g4 : ¬ 9223372036854775807 < s0.size + 1 + s1.size + 1 + s2.size := by omega
      have g5 : ¬ 9223372036854775807 < s0.size + 1 + s1.size + 1 + s2.size + 1 := by omega
      have g6 : ¬ 9223372036854775807 < s0.size + 1 + s1.size + 1 + s2.size + 1 + s3.size := by omega
      go_wp2_with fail
      have f0 : Fr No (w.alloc (.cells A 30)) w1.drew := H1.out.trans (Fr.drew No _)
      have m0 := HC.out _ f0
      go_region_held3 (fun w' => w'.cell? ⟨w.heap.size, 1, none⟩ = some (.int .u8 x0) ∧ w'.cell? ⟨w.heap.size, 1 + 1, none⟩ = some (.int .u8 x1) ∧ w'.cell? ⟨w.heap.size, 1 + 2, none⟩ = some (.int .u8 x2) ∧ w'.cell? ⟨w.heap.size, 1 + 3, none⟩ = some (.int .u8 x3)) (assumption) (first
        | (go_at_call 34; with_reducible refine (at_prog HP.out (HDD.out.1 w1.drew)).mono ?_; rintro e y0 ⟨rfl, h0⟩; have f1 := f0.trans h0; have m1 := HC.out _ f1; clear h0)
        | (go_at_call 34; with_reducible refine (at_prog HP.out (HDD.out.2.1 y0)).mono ?_; rintro e y1 ⟨rfl, h0⟩; have f2 := f1.trans h0; have m2 := HC.out _ f2; clear h0)
        | (go_at_call 34; with_reducible refine (at_prog HP.out (HDD.out.2.2.1 y1)).mono ?_; rintro e y2 ⟨rfl, h0⟩; have f3 := f2.trans h0; have m3 := HC.out _ f3; clear h0)
        | (go_at_call 34; with_reducible refine (at_prog HP.out (HDD.out.2.2.2 y2)).mono ?_; rintro e y3 ⟨rfl, h0⟩; have f4 := f3.trans h0; have m4 := HC.out _ f4; clear h0))
      go_wp2_with fail
      go_ret
      refine ⟨?_, HF.out.trans f4⟩
      rw [HE.out, HX.out]
      have e : str (decN x0 ++ 46 :: (decN x1 ++ 46 :: (decN x2 ++ 46 :: decN x3))) = s0 ++ ⟨#[46]⟩ ++ s1 ++ ⟨#[46]⟩ ++ s2 ++ ⟨#[46]⟩ ++ s3 := by
        rw [← HSS.out.1, ← HSS.out.2.1, ← HSS.out.2.2.1, ← HSS.out.2.2.2, show (⟨#[46]⟩ : ByteArray) = str [46] from rfl, ← str_app, ← str_app, ← str_app, ← str_app, ← str_app, ← str_app]
        simp
      rw [e]; rfl
    · have HE : Hid (fmtA true xs = fmt6 (grps xs)) := by show _ = _; rw [fmtA, hval]; rfl
      clear hval
      have hlen8 : (grps xs).length = 8 := rfl
      have HGR : Hid (∀ i, i < 8 → ∃ g, (grps xs)[i]? = some g ∧ g < 65536 ∧ ∀ w', Calls Tryz.prog 71 #[.agg A, .int .i64 (i : Nat)] w' fun e w'' => e = .returned (.int .i64 (g : Nat)) ∧ Fr No w' w'') := fun i hi => ⟨grp xs i, grps_get xs hi, grps_lt hx _ (List.mem_of_getElem? (grps_get xs hi)), fun w' => HV.out.2 i hi w'⟩
      have HGB := Lib.hid (And.intro hlen8 (grps_lt hx))
      clear HV HJ
      generalize grps xs = gs at HE HGR HGB
      clear hlen8
      have HHX := Lib.hid fhex_ref
      have hw1 := H1.out
      generalize w.alloc (.cells A 30) = w0 at HF HLD H1 hw1
      generalize w.heap.size = nb at HLD k0
      go_wp2_with fail
      go_loopg [3, 4, 5] 9 (fun g s3 s4 s5 wr => ∃ (i m : Nat) (f : Int), s3 = .int .i64 f ∧ s4 = .int .i64 m ∧ s5 = .int .i64 i ∧ i ≤ 8 ∧ 8 - i < g ∧ m ≤ 8 ∧ Hid (Fr No w0 wr ∧ bestZ gs i = (f, m)))
      case atStart => exact ⟨0, 1, -1, rfl, by go_num, by go_num, by omega, by omega, by omega, hw1, rfl⟩
      case round =>
        obtain ⟨i, m, f, rfl, rfl, rfl, hi8, hig, hm8, HR⟩ := hrel
        clear hw1
        by_cases hi : i = 8
        · subst hi
          obtain ⟨sx, lx, hl1', hsl9, htx, hcs⟩ := best_run HGB.out.1 HR.out.2
          have HTX := Lib.hid htx
          have HRR := Lib.hid HR.out.1
          clear htx HR
          go_wp2_with fail
          go_loopg [7, 8] 9 (fun g s7 s8 wr2 => ∃ (i : Nat) (st : ByteArray), s7 = .string st ∧ s8 = .int .i64 i ∧ i ≤ 8 ∧ 8 - i < g ∧ Hid (Fr No w0 wr2 ∧ st = str (txtAt gs sx lx i) ∧ (i ≤ sx ∨ sx + lx ≤ i)))
          case atStart => exact ⟨0, ⟨#[]⟩, rfl, by go_num, by omega, by omega, HRR.out, by rw [txtAt_zero]; rfl, .inl (Nat.zero_le _)⟩
          case round =>
            obtain ⟨i, st, rfl, rfl, hi8', hig', HS⟩ := hrel
            clear hi8 hig
            have q1 : (0 : Int) ≤ (i : Int) := by omega
            by_cases hi : i = 8
            · subst hi
              go_wp2_with fail
              go_ret
              exact ⟨by rw [HE.out, ← HTX.out, ← HS.out.2.1]; rfl, HF.out.trans HS.out.1⟩
            · have q2 : (i : Int) < 8 := by omega
              have hsz1 : st.size ≤ 100 := by rw [HS.out.2.1, str_size]; exact txtAt_length HGB.out.2 HGB.out.1 sx lx i
              have z1 : ¬ 9223372036854775807 < st.size + 2 := by omega
              have z2 : ¬ 9223372036854775807 < st.size + 1 := by omega
              by_cases he : (i : Int) = f
              · have hh : m = lx ∧ i = sx ∧ sx + lx ≤ 8 := by omega
                obtain ⟨rfl, rfl, hle⟩ := hh
                have HNEW : Hid (st ++ ⟨#[58, 58]⟩ = str (txtAt gs i m (i + m))) := by
                  show _ = _
                  rw [← txtAt_run gs i m hl1', str_app, ← HS.out.2.1]; rfl
                clear hcs
                go_wp2_with fail
                go_roundg (8 - i)
                case measure => exact hig'
                case rel => exact ⟨i + m, _, rfl, congrArg (Value.int .i64) (by omega), by omega, by omega, HS.out.1, HNEW.out, .inr (Nat.le_refl _)⟩
              · have hlh : i < sx ∨ sx + lx ≤ i := by
                  have := HS.out.2.2
                  omega
                obtain ⟨g, hg, hg6, hgc⟩ := HGR.out i (by omega)
                have HTXN : Hid (tx (txtAt gs sx lx i) (hexN g) = txtAt gs sx lx (i + 1)) := by
                  rcases hlh with h | h
                  · exact txtAt_low h hg
                  · exact txtAt_high hl1' h hg
                have HNX : Hid (i + 1 ≤ sx ∨ sx + lx ≤ i + 1) := by show _ ∨ _; omega
                have HGC := Lib.hid hgc
                have hhl : (str (hexN g)).size ≤ 4 := by rw [str_size]; exact hexN_length g hg6
                have HHG : Hid (∀ w', Calls Tryz.prog 72 #[.int .i64 (g : Nat)] w' fun e w'' => e = .returned (.string (str (hexN g))) ∧ Fr No w' w'') := fun w' => fhex_ref g hg6 w'
                have HT := Lib.hid HS.out.2.1
                have HFS := Lib.hid HS.out.1
                have HTL := Lib.hid (txtAt_lt gs sx lx i)
                generalize txtAt gs sx lx i = t at HTXN HT HTL
                clear hg hgc hlh hcs HS
                generalize hhx : str (hexN g) = hxs at hhl HHG
                have HHXS := Lib.hid hhx
                clear hhx
                have z3 : ¬ 9223372036854775807 < st.size + hxs.size := by omega
                have z4 : ¬ 9223372036854775807 < st.size + 1 + hxs.size := by omega
                have hld : Sem.run PD (loadCellsFrom ⟨nb, 0, none⟩ 0 k24 #[]) wr = .ok A wr := (HLD.out wr HFS.out).1
                have hcase : (st.toList.isEmpty = true ∧ st ++ hxs = str (tx t (hexN g))) ∨ (st.toList.isEmpty = false ∧ 1 ≤ st.size ∧ (∀ w', Sem.run PD (Instr.index 9 (.string st) (.int .i64 ((st.size : Int) - 1))) w' = .ok (.int .u8 58) w') ∧ st ++ hxs = str (tx t (hexN g))) ∨ (st.toList.isEmpty = false ∧ 1 ≤ st.size ∧ (∃ x : Int, ¬ x = 58 ∧ ∀ w', Sem.run PD (Instr.index 9 (.string st) (.int .i64 ((st.size : Int) - 1))) w' = .ok (.int .u8 x) w') ∧ st ++ ⟨#[58]⟩ ++ hxs = str (tx t (hexN g))) := by
                  have hste : st = str t := HT.out
                  by_cases ht : t = []
                  · refine .inl ⟨by rw [hste, str_isEmpty, ht]; rfl, ?_⟩
                    rw [tx, if_pos (.inl ht), str_app, ← hste, HHXS.out]
                  · have hne : st.toList.isEmpty = false := by rw [hste, str_isEmpty]; cases t with
                      | nil => exact absurd rfl ht
                      | cons a r => rfl
                    have hpos : 1 ≤ st.size := by rw [hste, str_size]; exact List.length_pos_iff.2 ht
                    obtain ⟨x, hx1⟩ : ∃ x, t.getLast? = some x := by
                      cases hh : t.getLast? with
                      | none => exact absurd (List.getLast?_eq_none_iff.1 hh) ht
                      | some x => exact ⟨x, rfl⟩
                    by_cases h58 : x = 58
                    · subst h58
                      refine .inr (.inl ⟨hne, hpos, fun w' => ?_, ?_⟩)
                      · have := last_index hx1 (by omega) w'
                        rw [hste, str_size]
                        exact this
                      · rw [tx, if_pos (.inr hx1), str_app, ← hste, HHXS.out]
                    · refine .inr (.inr ⟨hne, hpos, ⟨x, by omega, fun w' => ?_⟩, ?_⟩)
                      · have := last_index hx1 (HTL.out x (List.mem_of_getLast? hx1)) w'
                        rw [hste, str_size]
                        exact this
                      · rw [tx, if_neg (by rintro (e | e); exact ht e; rw [hx1] at e; exact h58 (Option.some.inj e)), show (58 :: hexN g) = [58] ++ hexN g from rfl, ← List.append_assoc, str_app, str_app, ← hste, HHXS.out]
                        rfl
                rcases hcase with ⟨c1, c2⟩ | ⟨c1, c3, c4, c2⟩ | ⟨c1, c3, ⟨x, c5, c4⟩, c2⟩
                · rw [HTXN.out] at c2
                  have HC2 := Lib.hid c2
                  clear c2
                  go_wp2_with fail
                  refine (at_prog HP.out (HGC.out wr)).mono ?_
                  rintro e w5 ⟨rfl, hf5⟩
                  have H5 := Lib.hid (HFS.out.trans hf5)
                  clear hf5 hld
                  go_wp2_with fail
                  refine (at_prog HP.out (HHG.out w5)).mono ?_
                  rintro e w6 ⟨rfl, hf6⟩
                  have H6 := Lib.hid (H5.out.trans hf6)
                  clear hf6
                  go_wp2_with fail
                  go_roundg (8 - i)
                  case measure => exact hig'
                  case rel => exact ⟨i + 1, _, rfl, by go_num, by omega, by omega, H6.out, HC2.out, HNX.out⟩
                · rw [HTXN.out] at c2
                  have HC2 := Lib.hid c2
                  have c4' : Sem.run PD (Instr.index 9 (.string st) (.int .i64 ((st.size : Int) - 1))) wr = .ok (.int .u8 58) wr := c4 wr
                  clear c2 c4
                  have c6 : (1 : Int) ≤ (st.size : Int) := by omega
                  go_wp2_with fail
                  refine (at_prog HP.out (HGC.out wr)).mono ?_
                  rintro e w5 ⟨rfl, hf5⟩
                  have H5 := Lib.hid (HFS.out.trans hf5)
                  clear hf5 hld
                  go_wp2_with fail
                  refine (at_prog HP.out (HHG.out w5)).mono ?_
                  rintro e w6 ⟨rfl, hf6⟩
                  have H6 := Lib.hid (H5.out.trans hf6)
                  clear hf6
                  go_wp2_with fail
                  go_roundg (8 - i)
                  case measure => exact hig'
                  case rel => exact ⟨i + 1, _, rfl, by go_num, by omega, by omega, H6.out, HC2.out, HNX.out⟩
                · rw [HTXN.out] at c2
                  have HC2 := Lib.hid c2
                  have c4' : Sem.run PD (Instr.index 9 (.string st) (.int .i64 ((st.size : Int) - 1))) wr = .ok (.int .u8 x) wr := c4 wr
                  clear c2 c4
                  have c6 : (1 : Int) ≤ (st.size : Int) := by omega
                  go_wp2_with fail
                  refine (at_prog HP.out (HGC.out wr)).mono ?_
                  rintro e w5 ⟨rfl, hf5⟩
                  have H5 := Lib.hid (HFS.out.trans hf5)
                  clear hf5 hld
                  go_wp2_with fail
                  refine (at_prog HP.out (HHG.out w5)).mono ?_
                  rintro e w6 ⟨rfl, hf6⟩
                  have H6 := Lib.hid (H5.out.trans hf6)
                  clear hf6
                  go_wp2_with fail
                  go_roundg (8 - i)
                  case measure => exact hig'
                  case rel => exact ⟨i + 1, _, rfl, by go_num, by omega, by omega, H6.out, HC2.out, HNX.out⟩
        · have q2 : (i : Int) < 8 := by omega
          have q1 : (0 : Int) ≤ (i : Int) := by omega
          have HRR := Lib.hid HR.out.1
          have HBE := Lib.hid HR.out.2
          clear HR
          go_wp2_with fail
          go_loopg [6] 9 (fun g s6 wr2 => ∃ n : Nat, s6 = .int .i64 n ∧ i + n ≤ 8 ∧ 8 - (i + n) < g ∧ Hid (Fr No w0 wr2 ∧ ∀ j, j < n → gs[i + j]? = some 0))
          case atStart => exact ⟨0, by go_num, by omega, by omega, HRR.out, fun j h => by omega⟩
          case round =>
            obtain ⟨n, rfl, hin8, hing, HN⟩ := hrel
            by_cases hi2 : i + n = 8
            · have q3 : ¬ (i : Int) + (n : Int) < 8 := by omega
              have hz : zrun (gs.drop i) = n := zrun_hit (fun j hj => by rw [List.getElem?_drop]; exact HN.out.2 j hj) (fun x hx => by
                rw [List.getElem?_drop, List.getElem?_eq_none (by rw [HGB.out.1]; omega)] at hx
                cases hx)
              have hbn : bestZ gs (i + 1) = if m < n then ((i : Int), n) else (f, m) := by rw [bestZ, HBE.out, hz]
              have HBN := Lib.hid hbn
              have HFR := Lib.hid HN.out.1
              have hn8 : n ≤ 8 := by omega
              clear hbn hz HN
              by_cases hmn : m < n
              · have p1 : (m : Int) < (n : Int) := by omega
                go_wp2_with fail
                go_roundg (8 - i)
                case measure => exact hig
                case rel => exact ⟨i + 1, n, i, rfl, rfl, by go_num, by omega, by omega, by omega, HFR.out, by rw [HBN.out, if_pos hmn]⟩
              · have p1 : ¬ (m : Int) < (n : Int) := by omega
                go_wp2_with fail
                go_roundg (8 - i)
                case measure => exact hig
                case rel => exact ⟨i + 1, m, f, rfl, rfl, by go_num, by omega, by omega, by omega, HFR.out, by rw [HBN.out, if_neg hmn]⟩
            · have q3 : (i : Int) + (n : Int) < 8 := by omega
              obtain ⟨g, hg, hg6, hgc⟩ := HGR.out (i + n) (by omega)
              have hcast : ((i + n : Nat) : Int) = (i : Int) + (n : Int) := by omega
              rw [hcast] at hgc
              have HGC := Lib.hid hgc
              have HG := Lib.hid hg
              have hld : Sem.run PD (loadCellsFrom ⟨nb, 0, none⟩ 0 k24 #[]) wr = .ok A wr := (HLD.out wr HN.out.1).1
              clear hgc hg hcast
              go_wp2_with fail
              refine (at_prog HP.out (HGC.out wr)).mono ?_
              rintro e w5 ⟨rfl, hf5⟩
              have H5 := Lib.hid (HN.out.1.trans hf5)
              clear hf5 hld
              by_cases hg0 : g = 0
              · subst hg0
                have HNN : Hid (∀ j, j < n + 1 → gs[i + j]? = some 0) := fun j hj => by
                  by_cases hjn : j = n
                  · rw [hjn]; exact HG.out
                  · exact HN.out.2 j (by omega)
                have hz0 : ((0 : Nat) : Int) = 0 := rfl
                rw [hz0]
                clear HN
                go_wp2_with fail
                go_roundg (8 - (i + n))
                case measure => exact hing
                case rel => exact ⟨n + 1, by go_num, by omega, by omega, H5.out, HNN.out⟩
              · have q4 : ¬ (g : Int) = 0 := by omega
                have hz : zrun (gs.drop i) = n := zrun_hit (fun j hj => by rw [List.getElem?_drop]; exact HN.out.2 j hj) (fun x hx => by
                  rw [List.getElem?_drop, HG.out] at hx
                  cases hx
                  exact hg0)
                have hbn : bestZ gs (i + 1) = if m < n then ((i : Int), n) else (f, m) := by rw [bestZ, HBE.out, hz]
                have HBN := Lib.hid hbn
                have HFR := Lib.hid HN.out.1
                have hn8 : n ≤ 8 := by omega
                clear hbn hz HN
                by_cases hmn : m < n
                · have p1 : (m : Int) < (n : Int) := by omega
                  go_wp2_with fail
                  go_roundg (8 - i)
                  case measure => exact hig
                  case rel => exact ⟨i + 1, n, i, rfl, rfl, by go_num, by omega, by omega, by omega, H5.out, by rw [HBN.out, if_pos hmn]⟩
                · have p1 : ¬ (m : Int) < (n : Int) := by omega
                  go_wp2_with fail
                  go_roundg (8 - i)
                  case measure => exact hig
                  case rel => exact ⟨i + 1, m, f, rfl, rfl, by go_num, by omega, by omega, by omega, H5.out, by rw [HBN.out, if_neg hmn]⟩
end Go.Proofs.YtmhnailcmlomiaaGreatDoor
