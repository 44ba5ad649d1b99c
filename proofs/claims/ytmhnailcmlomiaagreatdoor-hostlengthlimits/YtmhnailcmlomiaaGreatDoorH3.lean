/-
  CONTRACTS of joinGroups, formatV4, formatV6 and Format, over this seat's translation: what each call returns.
  Conditions: the argument is an address; the groups lie in memory; the package variables are as Glob says.
  CONTRACTS of strconv.Itoa of a byte, formatV4, formatV6 and Format, over this seat's translation: what each call returns.
  Conditions: the argument is an address; the package variables are as Gl says.
-/
import Derived.Test.YtmhnailcmlomiaaGreatDoorGr
import Derived.Test.YtmhnailcmlomiaaGreatDoorAp
import Derived.Test.YtmhnailcmlomiaaGreatDoorA
import Derived.Test.YtmhnailcmlomiaaGreatDoorShelf
import Derived.Deep.RegionHeld3
namespace Go.Proofs.YtmhnailcmlomiaaGreatDoor
open Go.ChangeShapes Go.WideShapes Go.ChangeAt Go.RowKit
set_option linter.unusedVariables false

/-- Strings with a sign between them. -/
def joinN (sep : Nat) : List (List Nat) → List Nat
  | [] => []
  | [x] => x
  | x :: y :: r => x ++ sep :: joinN sep (y :: r)

theorem join_str (sep : Nat) : ∀ xs : List (List Nat), Lib.join ((xs.map str).map (·.data.toList)) [UInt8.ofNat sep] = (joinN sep xs).map UInt8.ofNat
  | [] => rfl
  | [x] => by simp [Lib.join, str, joinN, List.intercalate]
  | x :: y :: r => by
    have ih := join_str sep (y :: r)
    simp only [Lib.join, List.map_cons, List.intercalate_cons_cons] at ih ⊢
    rw [ih]
    simp [str, joinN]

theorem hexN_length : ∀ n : Nat, n < 65536 → (hexN n).length ≤ 4 := by
  intro n h
  have h1 : ∀ n, n < 16 → (hexN n).length = 1 := fun n h => by rw [hexN_small h]; rfl
  have h2 : ∀ n, n < 256 → (hexN n).length ≤ 2 := fun n h => by
    by_cases h' : n < 16
    · rw [h1 n h']; omega
    · rw [hexN_big (by omega), List.length_append, h1 _ (by omega)]; simp
  have h3 : ∀ n, n < 4096 → (hexN n).length ≤ 3 := fun n h => by
    by_cases h' : n < 16
    · rw [h1 n h']; omega
    · rw [hexN_big (by omega), List.length_append]; have := h2 (n / 16) (by omega); simp; omega
  by_cases h' : n < 16
  · rw [h1 n h']; omega
  · rw [hexN_big (by omega), List.length_append]; have := h3 (n / 16) (by omega); simp; omega

theorem joinN_length (sep m : Nat) : ∀ xs : List (List Nat), (∀ x ∈ xs, x.length ≤ m) → (joinN sep xs).length ≤ xs.length * (m + 1)
  | [], _ => by simp [joinN]
  | [x], h => by have := h x (by simp); simp [joinN]; omega
  | x :: y :: r, h => by
    have ih := joinN_length sep m (y :: r) (fun z hz => h z (List.mem_cons_of_mem _ hz))
    have h1 := h x (by simp)
    simp only [joinN, List.length_append, List.length_cons] at ih ⊢
    have : (r.length + 1 + 1) * (m + 1) = (r.length + 1) * (m + 1) + (m + 1) := by rw [Nat.add_mul (r.length + 1) 1, Nat.one_mul]
    omega

theorem strs_cell {w : World} {bk o : Nat} {xs : List ByteArray} (h : At w (some ⟨bk, o, none⟩) (strs xs)) : ∀ (j : Nat) x, xs[j]? = some x → w.cell? ⟨bk, o + j, none⟩ = some (.string x) := fun j x hx => by
  obtain ⟨b, o', he, hc⟩ := h j _ (strs_get hx)
  cases he
  exact hc

/-- strings.Join, whatever the slice. -/
theorem join_any (a : Option Addr) (n c sep : Nat) (xs : List (List Nat)) (w : World) (h : At w a (strs (xs.map str))) (hn : xs.length = n) (hc : n ≤ c) (h8 : n ≤ 8) (h4 : ∀ x ∈ xs, x.length ≤ 4) :
    Calls Tryz.prog 107 #[.slice a n c, .string ⟨#[UInt8.ofNat sep]⟩] w fun e w' => e = .returned (.string (str (joinN sep xs))) ∧ Fr No w w' := by
  cases xs with
  | nil =>
    obtain rfl : n = 0 := by simpa using hn.symm
    refine (Tryz.strings_Join_none a c _ w).mono ?_
    rintro e w' ⟨rfl, rfl⟩
    exact ⟨rfl, Fr.refl _ _⟩
  | cons x r =>
    obtain ⟨b, o, he, hc0⟩ := h 0 (.string (str x)) (strs_get rfl)
    subst he
    have hl : ((x :: r).map str).length = n := by rw [List.length_map]; exact hn
    have hj := Tryz.strings_Join b o c ((x :: r).map str) ⟨#[UInt8.ofNat sep]⟩ w (strs_cell h) (World.block_lt_of_cell? w _ hc0) (by omega) (by omega) (by
      have e1 : (⟨#[UInt8.ofNat sep]⟩ : ByteArray).data.toList = [UInt8.ofNat sep] := rfl
      rw [e1, join_str, List.length_map]
      have := joinN_length sep 4 (x :: r) h4
      rw [hn] at this
      omega)
    rw [hl] at hj
    refine hj.mono ?_
    rintro e w' ⟨rfl, hb⟩
    refine ⟨?_, Fr.ofBelow hb⟩
    have e1 : (⟨#[UInt8.ofNat sep]⟩ : ByteArray).data.toList = [UInt8.ofNat sep] := rfl
    rw [e1, join_str]
    rfl

set_option maxHeartbeats 2000000 in
set_option maxRecDepth 100000 in
theorem joinGroups_any (a : Option Addr) (n c : Nat) (gs : List Nat) (w : World) (h : At w a (nums .u16 gs)) (hn : gs.length = n) (h8 : n ≤ 8) (hb : ∀ g ∈ gs, g < 65536) (hG : Glob w) :
    Calls Tryz.prog 106 #[.slice a n c] w fun e w' => e = .returned (.string (str (joinN 58 (gs.map hexN)))) ∧ Fr No w w' := by
  have HS := Lib.hid (And.intro h (And.intro hn (And.intro hb hG)))
  clear h hn hb hG
  go_enter Tryz.func106, Tryz.ntmps106
  go_wp2_with fail
  go_loopg [3, 8] (n + 1) (fun g s3 s8 wr => ∃ (i cap : Nat) (ar : Option Addr), s3 = .slice ar i cap ∧ s8 = .int .i64 i ∧ i ≤ n ∧ n - i < g ∧ Hid (wr.ownsRow w.heap.size 9 1 (.slice ar i cap) i (strs ((gs.take i).map (fun g => str (hexN g)))) ∧ Fr No w wr))
  case atStart => exact ⟨0, 0, none, rfl, by go_num, by omega, by omega, World.ownsRow_nil _ _ _ _, Fr.refl _ _⟩
  case round =>
    obtain ⟨i, cap, ar, rfl, rfl, hin, hig, HR⟩ := hrel
    by_cases hi : i = n
    · subst hi
      go_wp2_with fail
      refine (join_any ar i cap 58 (gs.map hexN) _ ?_ (by rw [List.length_map]; exact HS.out.2.1) ?_ h8 ?_).mono ?_
      · have h1 := At.own HR.out.1
        rw [List.take_of_length_le (by rw [HS.out.2.1]; exact Nat.le_refl _)] at h1
        simpa [Function.comp_def] using h1
      · obtain ⟨a', c', he, hc, _⟩ := row_any HR.out.1
        cases he
        exact hc
      · intro x hx
        obtain ⟨g, hg, rfl⟩ := List.mem_map.1 hx
        exact hexN_length g (HS.out.2.2.1 g hg)
      · rintro e w1 ⟨rfl, hf⟩
        have HF := Lib.hid hf
        clear hf
        go_wp2_with fail
        go_ret
        exact ⟨rfl, HR.out.2.trans HF.out⟩
    · obtain ⟨g, hg⟩ : ∃ g, gs[i]? = some g := ⟨_, List.getElem?_eq_getElem (by rw [HS.out.2.1]; omega)⟩
      obtain ⟨ab, ao, ha, c1⟩ := (HS.out.1.frNo HR.out.2) i _ (nums_get hg)
      subst ha
      have hg6 := HS.out.2.2.1 g (List.mem_of_getElem? hg)
      have q1 : (0 : Int) ≤ (i : Int) := by omega
      have q2 : (i : Int) < (n : Int) := by omega
      have HT : Hid ((gs.take (i + 1)).map (fun g => str (hexN g)) = (gs.take i).map (fun g => str (hexN g)) ++ [str (hexN g)]) := by
        show _ = _
        rw [List.take_add_one, hg]; simp
      go_wp2_with fail
      refine (formatUint g hg6 _ (HS.out.2.2.2.fr HR.out.2)).mono ?_
      rintro e w1 ⟨rfl, hf1⟩
      have H1 : Hid (w1.ownsRow w.heap.size 9 1 (.slice ar i cap) i (strs ((gs.take i).map (fun g => str (hexN g)))) ∧ Fr No w w1) := ⟨row_frNo HR.out.1 hf1, HR.out.2.trans hf1⟩
      clear hf1 c1
      go_wp2_with (first | (at_builtin; refine wpList_append_vals elS rfl (.tmp 12) (.tmp 16) rfl w.heap.size _ i _ rfl (row_frNo H1.out.1 (Fr.alloc No _ _)) _ 1 1 [.string (str (hexN g))] rfl (by simp [Value.oneCell']) rfl (At.block (heap_alloc_new _ _)) (fun h => by cases h) (by unfold maxLen; omega) (by omega) (Nat.le_trans H1.out.2.size (Fr.alloc No _ _).size) ?_; intro a2 cap2 w2 hown2 hg2 hat2; have H2 : Hid (w2.ownsRow w.heap.size 9 1 (.slice a2 (i + 1) cap2) (i + 1) (strs ((gs.take (i + 1)).map (fun g => str (hexN g)))) ∧ Fr No w w2) := ⟨(by rw [HT.out, strs_append]; exact hown2), (H1.out.2.trans (Fr.alloc No _ _)).own_grown (row_frNo H1.out.1 (Fr.alloc No _ _)) (Nat.le_refl _) hg2⟩; clear hown2 hg2 hat2) | fail)
      go_roundg (n - i)
      case measure => exact hig
      case rel => exact ⟨i + 1, cap2, a2, rfl, by go_num, by omega, by omega, H2.out⟩
end Go.Proofs.YtmhnailcmlomiaaGreatDoor
namespace Go.Proofs.YtmhnailcmlomiaaGreatDoor
open Go.ChangeShapes Go.WideShapes Go.ChangeAt Go.RowKit
set_option linter.unusedVariables false

/-- The package variables that the library's functions read. -/
structure Gl (w : World) : Prop where
  g : Glob w
  tab : Lib.TabIs Tryz.prog w "internal/strconv.uint64pow10" .u64 Lib.pow10Tab

theorem Gl.fr {w w' : World} (h : Gl w) (hf : Fr No w w') : Gl w' := by
  refine ⟨h.g.fr hf, ?_⟩
  have hn : Tryz.prog.globalNamed "internal/strconv.uint64pow10" = some 1 := by kernel_rfl
  have h1 := h.tab
  unfold Lib.TabIs World.var? at h1 ⊢
  rw [hn] at h1 ⊢
  simp only [Option.bind_some] at h1 ⊢
  cases hb : w.heap[1]? with
  | none => rw [hb] at h1; cases h1
  | some o => rw [hf.keep hb]; rw [hb] at h1; exact h1

/-- A number's decimal digits. -/
def decN (n : Nat) : List Nat := if h : n < 10 then [48 + n] else decN (n / 10) ++ [48 + n % 10]
termination_by n
decreasing_by omega

theorem decN_small {n : Nat} (h : n < 10) : decN n = [48 + n] := by rw [decN, dif_pos h]
theorem decN_big {n : Nat} (h : 10 ≤ n) : decN n = decN (n / 10) ++ [48 + n % 10] := by rw [decN, dif_neg (by omega)]
theorem decN_digits (n : Nat) : Lib.decDigits n = (decN n).map UInt8.ofNat := by
  induction n using Nat.strongRecOn with
  | ind n ih =>
    by_cases h : n < 10
    · rw [decN_small h, Lib.decDigits, dif_pos h]; rfl
    · rw [decN_big (by omega), Lib.decDigits, dif_neg h, ih (n / 10) (by omega)]; simp
theorem decN_length {n : Nat} (h : n < 256) : (decN n).length ≤ 3 := by
  by_cases h1 : n < 10
  · rw [decN_small h1]; simp
  · rw [decN_big (by omega), List.length_append]
    by_cases h2 : n / 10 < 10
    · rw [decN_small h2]; simp
    · rw [decN_big (by omega), List.length_append, decN_small (by omega)]; simp

theorem itoa_any (x : Nat) (hx : x < 256) (w : World) (hG : Gl w) : Calls Tryz.prog 49 #[.int .i64 x] w fun e w' => e = .returned (.string (str (decN x))) ∧ Fr No w w' := by
  refine (Tryz.strconv_Itoa (x : Int) (by omega) (by omega) w hG.tab).mono ?_
  rintro e w' ⟨rfl, k, os, rfl⟩
  refine ⟨?_, ?_⟩
  · rw [Lib.itoa, if_neg (by omega), show ((x : Nat) : Int).toNat = x by omega, decN_digits]; rfl
  · exact (Fr.drewN No w k).trans ⟨rfl, rfl, rfl, by simp [Go.Sort.grow], fun j hj _ => by
      have hj' : j < w.heap.size := hj
      simp [Go.Sort.grow, Array.getElem?_append]
      omega⟩

/-- The four strings when the first i have been written. -/
def fpart (xs : List Nat) (i : Nat) : List ByteArray := (xs.take i).map (fun x => str (decN x)) ++ List.replicate (4 - i) (str [])

theorem fpart_length {xs : List Nat} {i : Nat} (h : xs.length = 16) (hi : i ≤ 4) : (fpart xs i).length = 4 := by
  rw [fpart, List.length_append, List.length_map, List.length_take, List.length_replicate]; omega
theorem fpart_step {xs : List Nat} {i x : Nat} (h : xs[i]? = some x) (hl : xs.length = 16) (hi : i < 4) : (fpart xs i).set i (str (decN x)) = fpart xs (i + 1) := by
  have hl1 : ((xs.take i).map (fun x => str (decN x))).length = i := by rw [List.length_map, List.length_take]; omega
  rw [fpart, fpart, List.set_append_right _ _ (by omega), hl1, Nat.sub_self, show 4 - i = (4 - (i + 1)) + 1 by omega, List.replicate_succ, List.set_cons_zero, List.take_add_one, h]
  simp

theorem strs_set {w : World} {m i : Nat} {x : ByteArray} {L : List ByteArray} {t : TypeId} (h : w.heap[m]? = some (.cells (strs L).toArray t (0, 0))) : (w.setCell ⟨m, i, none⟩ (.string x)).heap[m]? = some (.cells (strs (L.set i x)).toArray t (0, 0)) := by
  rw [heap_setCell_same w m i _ _ _ h]
  congr 2
  apply Array.ext'
  simp [strs, List.map_set]

/-- An IPv4 address's text. -/
def fmt4 (xs : List Nat) : List Nat := joinN 46 ((xs.take 4).map decN)

theorem zero100 : ∀ w, (zeroValue 100).run Tryz.prog w = .ok (.agg (strs [str [], str [], str [], str []]).toArray) w := by
  intro w
  kernel_rfl

set_option maxHeartbeats 2000000 in
set_option maxRecDepth 100000 in
theorem formatV4_any (b : Bool) (xs : List Nat) (hx : Bytes xs) (w : World) (hG : Gl w) :
    Calls Tryz.prog 89 #[.agg (adr b xs).toArray] w fun e w' => e = .returned (.string (str (fmt4 xs))) ∧ Fr No w w' := by
  obtain ⟨A, hA, h0, hsz, hj⟩ := adr_letter b xs hx
  have hA' := hA
  rw [hA]
  obtain ⟨Z, hZ⟩ : ∃ Z : Array Value, (strs [str [], str [], str [], str []]).toArray = Z := ⟨_, rfl⟩
  have v60 := zero100
  rw [hZ] at v60
  go_enter Tryz.func89, Tryz.ntmps89
  have t3 := Tryz.underlying3
  have u3 := Tryz.runUnderlying3
  have g3 := Tryz.isAgg3
  have z3 := Tryz.sizeOf3
  have t5 := Tryz.underlying5
  have u5 := Tryz.runUnderlying5
  have g5 := Tryz.isAgg5
  have z5 := Tryz.sizeOf5
  have t9 := Tryz.underlying9
  have u9 := Tryz.runUnderlying9
  have g9 := Tryz.isAgg9
  have z9 := Tryz.sizeOf9
  have t28 := Tryz.underlying28
  have u28 := Tryz.runUnderlying28
  have g28 := Tryz.isAgg28
  have z28 := Tryz.sizeOf28
  have t30 := Tryz.underlying30
  have u30 := Tryz.runUnderlying30
  have g30 := Tryz.isAgg30
  have z30 := Tryz.sizeOf30
  have t100 := Tryz.underlying100
  have u100 := Tryz.runUnderlying100
  have g100 := Tryz.isAgg100
  have z100 := Tryz.sizeOf100
  have t75 := Tryz.underlying75
  have u75 := Tryz.runUnderlying75
  have g75 := Tryz.isAgg75
  have z75 := Tryz.sizeOf75
  have c49 := Tryz.call49
  have c107 := Tryz.call107
  have mixed : Tryz.prog.follows .mixedOrders = true := by kernel_rfl
  have hP : Tryz.prog = PD := rfl
  rw [hP] at t3 u3 g3 z3 t5 u5 g5 z5 t9 u9 g9 z9 t28 u28 g28 z28 t30 u30 g30 z30 t100 u100 g100 z100 t75 u75 g75 z75 c49 c107 mixed v60 ⊢
  have HP := Lib.hid hP.symm
  clear hP 
  go_wp2_with fail
  obtain ⟨b1, b2, hF⟩ := alloc2 w (.cells A 30) (.cells Z 100)
  generalize (w.alloc (.cells A 30)).alloc (.cells Z 100) = w2 at b1 b2 hF ⊢
  obtain ⟨n, hn⟩ : ∃ n, w.heap.size = n := ⟨_, rfl⟩
  rw [hn] at b1 b2 ⊢
  have HN : Hid (w.heap.size = n ∧ Fr No w w2 ∧ w2.heap[n]? = some (.cells (adr b xs).toArray 30 (0, 0)) ∧ w2.heap[n + 1]? = some (.cells (strs (fpart xs 0)).toArray 100 (0, 0)) ∧ Gl w) := ⟨hn, hF, by rw [hA']; exact b1, by rw [show fpart xs 0 = [str [], str [], str [], str []] from rfl, hZ]; exact b2, hG⟩
  clear hn hF b1 b2 v60 hj hA' hZ h0 hG hsz
  go_loopg [5] 5 (fun g s wr => ∃ i : Nat, s = .int .i64 i ∧ i ≤ 4 ∧ 4 - i < g ∧ Hid (Fr (fun k => k = n + 1) w2 wr ∧ wr.heap[n + 1]? = some (.cells (strs (fpart xs i)).toArray 100 (0, 0))))
  case atStart => exact ⟨0, by go_num, by omega, by omega, Fr.refl _ _, HN.out.2.2.2.1⟩
  case round =>
    obtain ⟨i, rfl, hi4, hig, HR⟩ := hrel
    have hbn : wr.heap[n]? = some (.cells (adr b xs).toArray 30 (0, 0)) := (HR.out.1.block n (Array.getElem?_eq_some_iff.1 HN.out.2.2.1).1 (by omega)).trans HN.out.2.2.1
    have HF : Hid (Fr No w wr) := HN.out.2.1.ofNew HR.out.1 fun k hk => .inr (by rw [HN.out.1, hk]; omega)
    by_cases hi : i = 4
    · subst hi
      clear hbn
      go_wp2_with fail
      refine (at_prog HP.out (join_any _ 4 4 46 ((xs.take 4).map decN) _ ?_ (by rw [List.length_map, List.length_take, hx.1]; rfl) (Nat.le_refl _) (by omega) ?_)).mono ?_
      · have h1 := At.block HR.out.2
        rw [show fpart xs 4 = ((xs.take 4).map decN).map str by simp [fpart, Function.comp_def]] at h1
        exact h1
      · intro x hx'
        obtain ⟨y, hy, rfl⟩ := List.mem_map.1 hx'
        have := decN_length (hx.2 y (List.mem_of_mem_take hy))
        omega
      · rintro e w3 ⟨rfl, hf⟩
        have HF3 := Lib.hid hf
        clear hf
        go_wp2_with fail
        go_ret
        exact ⟨by rw [fmt4, List.map_take]; rfl, HF.out.trans HF3.out⟩
    · obtain ⟨x, h1, e1, l1⟩ := get_or hx i (by omega)
      have k1 : wr.cell? ⟨n, 1 + i, none⟩ = some (.int .u8 x) := by rw [cell_of_row _ _ _ _ _ _ hbn]; simpa using adr_get h1
      have q1 : (0 : Int) ≤ (i : Int) := by omega
      have q2 : (i : Int) < 16 := by omega
      have q3 : (i : Int) < 4 := by omega
      clear hbn
      go_wp2_with fail
      refine (at_prog HP.out (itoa_any x l1 _ (HN.out.2.2.2.2.fr HF.out))).mono ?_
      rintro e w3 ⟨rfl, hf⟩
      have hblk := hf.keep HR.out.2
      obtain ⟨z, hz⟩ : ∃ z, (fpart xs i)[i]? = some z := ⟨_, List.getElem?_eq_getElem (by rw [fpart_length hx.1 (by omega)]; omega)⟩
      have k3 : w3.cell? ⟨n + 1, i, none⟩ = some (.string z) := by rw [cell_of_row _ _ _ _ _ _ hblk]; simpa using strs_get hz
      have f3 := frozen_of_row w3 (n + 1) i _ _ hblk
      have e2 := strs_set (i := i) (x := str (decN x)) hblk
      rw [fpart_step h1 hx.1 (by omega)] at e2
      have HE : Hid (Fr (fun k => k = n + 1) w2 (w3.setCell ⟨n + 1, i, none⟩ (.string (str (decN x)))) ∧ (w3.setCell ⟨n + 1, i, none⟩ (.string (str (decN x)))).heap[n + 1]? = some (.cells (strs (fpart xs (i + 1))).toArray 100 (0, 0))) := ⟨HR.out.1.trans (hf.no.trans (Fr.setCell (fun k => k = n + 1) _ _ _ rfl)), e2⟩
      clear e2 hblk hz hf k1
      go_wp2_with fail
      go_roundg (4 - i)
      case measure => exact hig
      case rel => exact ⟨i + 1, by go_num, by omega, by omega, HE.out⟩

theorem scanZ_bound : ∀ (gs : List Nat) (i s l r : Nat), s + l ≤ i → r ≤ i → (scanZ gs i s l r).1 + (scanZ gs i s l r).2 ≤ i + gs.length
  | [], i, s, l, r, h, _ => by simpa [scanZ] using h
  | g :: gs, i, s, l, r, h, hr => by
    rw [scanZ]
    split
    · have := scanZ_bound gs (i + 1) s l 0 (by omega) (by omega); simp; omega
    · split
      · have := scanZ_bound gs (i + 1) (i - r) (r + 1) (r + 1) (by omega) (by omega); simp; omega
      · have := scanZ_bound gs (i + 1) s l (r + 1) (by omega) (by omega); simp; omega

/-- An IPv6 address's text, of its groups. -/
def fmt6 (gs : List Nat) : List Nat := if (scanZ gs 0 0 0 0).2 < 2 then joinN 58 (gs.map hexN) else joinN 58 ((gs.take (scanZ gs 0 0 0 0).1).map hexN) ++ [58, 58] ++ joinN 58 ((gs.drop ((scanZ gs 0 0 0 0).1 + (scanZ gs 0 0 0 0).2)).map hexN)

theorem str_append (xs ys : List Nat) : str (xs ++ ys) = str xs ++ str ys := by
  unfold str
  apply ByteArray.ext
  simp

set_option maxHeartbeats 4000000 in
set_option maxRecDepth 100000 in
theorem formatV6_any (b : Bool) (xs : List Nat) (hx : Bytes xs) (w : World) (hG : Gl w) :
    Calls Tryz.prog 88 #[.agg (adr b xs).toArray] w fun e w' => e = .returned (.string (str (fmt6 (grps xs)))) ∧ Fr No w w' := by
  obtain ⟨A, hA, h0, hsz, hj⟩ := adr_letter b xs hx
  have HA := Lib.hid hA
  have hgo := fun w => groupsOf_any b xs hx w
  rw [hA] at hgo ⊢
  have HGO := Lib.hid hgo
  clear hgo
  have hl1 : Sem.run Tryz.prog (loadCellsFrom ⟨w.heap.size, 0, none⟩ 0 17 #[]) (w.alloc (.cells A 30)) = .ok A (w.alloc (.cells A 30)) := load_block (heap_alloc_new w _) hsz (fun j v hv => by simpa using hv)
  obtain ⟨Z, hZ⟩ : ∃ Z : Array Value, (nums .u16 [0, 0, 0, 0, 0, 0, 0, 0]).toArray = Z := ⟨_, rfl⟩
  have v55 := zero95
  rw [hZ] at v55
  have hzs : Z.size = 8 := by rw [← hZ]; rfl
  clear hj hA h0 hsz hZ
  go_enter Tryz.func88, Tryz.ntmps88
  have t3 := Tryz.underlying3
  have u3 := Tryz.runUnderlying3
  have g3 := Tryz.isAgg3
  have z3 := Tryz.sizeOf3
  have t9 := Tryz.underlying9
  have u9 := Tryz.runUnderlying9
  have g9 := Tryz.isAgg9
  have z9 := Tryz.sizeOf9
  have t28 := Tryz.underlying28
  have u28 := Tryz.runUnderlying28
  have g28 := Tryz.isAgg28
  have z28 := Tryz.sizeOf28
  have t30 := Tryz.underlying30
  have u30 := Tryz.runUnderlying30
  have g30 := Tryz.isAgg30
  have z30 := Tryz.sizeOf30
  have t89 := Tryz.underlying89
  have u89 := Tryz.runUnderlying89
  have g89 := Tryz.isAgg89
  have z89 := Tryz.sizeOf89
  have t93 := Tryz.underlying93
  have u93 := Tryz.runUnderlying93
  have g93 := Tryz.isAgg93
  have z93 := Tryz.sizeOf93
  have t95 := Tryz.underlying95
  have u95 := Tryz.runUnderlying95
  have g95 := Tryz.isAgg95
  have z95 := Tryz.sizeOf95
  have c104 := Tryz.call104
  have c105 := Tryz.call105
  have c106 := Tryz.call106
  have mixed : Tryz.prog.follows .mixedOrders = true := by kernel_rfl
  obtain ⟨k24, hk24⟩ : ∃ k, k = 17 := ⟨_, rfl⟩
  rw [← hk24] at z30
  have nk24 : ¬ k24 = 0 := by omega
  have HK30 := Lib.hid hk24
  obtain ⟨k55, hk55⟩ : ∃ k, k = 8 := ⟨_, rfl⟩
  rw [← hk55] at z95
  have nk55 : ¬ k55 = 0 := by omega
  have HK95 := Lib.hid hk55
  have hP : Tryz.prog = PD := rfl
  rw [hP] at t3 u3 g3 z3 t9 u9 g9 z9 t28 u28 g28 z28 t30 u30 g30 z30 t89 u89 g89 z89 t93 u93 g93 z93 t95 u95 g95 z95 c104 c105 c106 mixed hl1 v55 ⊢
  have HP := Lib.hid hP.symm
  clear hP hk24 hk55
  rw [← HK30.out] at hl1
  go_wp2_with fail
  refine (at_prog HP.out (HGO.out _)).mono ?_
  rintro e w1 ⟨rfl, hf1⟩
  have hG8 : (nums .u16 (grps xs)).toArray.size = 8 := rfl
  generalize hGG : (nums .u16 (grps xs)).toArray = G at hG8
  obtain ⟨y, hst, hyb, hyf⟩ := store_all (P := PD) G.toList (heap_alloc_new w1 (.cells Z 95)) (by rw [Array.length_toList, hG8, hzs]) (by rw [← hGG]; exact nums_one _ _)
  have hgk : G.size = k55 := by rw [HK95.out]; exact hG8
  have hlG : Sem.run PD (loadCellsFrom ⟨w1.heap.size, 0, none⟩ 0 k55 #[]) y = .ok G y := by rw [HK95.out]; exact load_block hyb hG8 (fun j v hv => by simpa using hv)
  have HY : Hid (Fr No w y ∧ y.heap[w1.heap.size]? = some (.cells (nums .u16 (grps xs)).toArray 95 (0, 0))) := ⟨(((Fr.alloc No w (.cells A 30)).trans hf1).trans (Fr.alloc No _ _)).ofNew hyf fun k hk => .inr (by rw [hk]; exact Nat.le_trans (Fr.alloc No w (.cells A 30)).size hf1.size), by rw [hGG]; simpa using hyb⟩
  have HGG := Lib.hid hGG
  have HG := Lib.hid hG
  clear hyb hyf hf1 hl1 hG8 hzs hGG hG
  go_wp2_with fail
  have hlong := longest_any (grps xs) rfl y
  rw [HGG.out] at hlong
  refine (at_prog HP.out hlong).mono ?_
  rintro e w2 ⟨rfl, hf2⟩
  have hbd := scanZ_bound (grps xs) 0 0 0 0 (by omega) (by omega)
  rw [show (grps xs).length = 8 from rfl] at hbd
  have HFM : Hid (fmt6 (grps xs) = if (scanZ (grps xs) 0 0 0 0).2 < 2 then joinN 58 ((grps xs).map hexN) else joinN 58 (((grps xs).take (scanZ (grps xs) 0 0 0 0).1).map hexN) ++ [58, 58] ++ joinN 58 (((grps xs).drop ((scanZ (grps xs) 0 0 0 0).1 + (scanZ (grps xs) 0 0 0 0).2)).map hexN)) := rfl
  generalize (scanZ (grps xs) 0 0 0 0).1 = s at hbd HFM ⊢
  generalize (scanZ (grps xs) 0 0 0 0).2 = l at hbd HFM ⊢
  have H2 : Hid (Fr No w w2 ∧ w2.heap[w1.heap.size]? = some (.cells (nums .u16 (grps xs)).toArray 95 (0, 0)) ∧ Gl w2) := ⟨HY.out.1.trans hf2, hf2.keep HY.out.2, HG.out.fr (HY.out.1.trans hf2)⟩
  clear hlong hf2 hst hlG HY
  generalize w1.heap.size = m at H2 ⊢
  by_cases h2 : l < 2
  · have p1 : (l : Int) < 2 := by omega
    go_wp2_with fail
    refine (at_prog HP.out (joinGroups_any _ 8 8 (grps xs) _ (At.block H2.out.2.1) rfl (by omega) (grps_lt hx) H2.out.2.2.g)).mono ?_
    rintro e w3 ⟨rfl, hf3⟩
    have H3 := Lib.hid hf3
    clear hf3
    go_wp2_with fail
    go_ret
    exact ⟨by rw [HFM.out, if_pos h2]; rfl, H2.out.1.trans H3.out⟩
  · have p1 : ¬ (l : Int) < 2 := by omega
    have q1 : (0 : Int) ≤ (s : Int) := by omega
    have q2 : (s : Int) ≤ 8 := by omega
    have hS : Fr No w2 w2.drew := Fr.drew No _
    have HH : Hid (∀ w', Fr No w2 w' → At w' (some ⟨m, 0, none⟩) (nums .u16 ((grps xs).take s))) := fun w' hf => by
      have h1 := (At.block (hf.keep H2.out.2.1)).take s
      rw [nums, ← List.map_take] at h1
      exact h1
    have HT : Hid (∀ w', Fr No w2 w' → At w' (some ⟨m, s + l, none⟩) (nums .u16 ((grps xs).drop (s + l)))) := fun w' hf => by
      have h1 := (At.block (hf.keep H2.out.2.1)).drop (s + l)
      rw [nums, ← List.map_drop, Nat.zero_add] at h1
      exact h1
    have HL : Hid (((grps xs).take s).length = s ∧ ((grps xs).drop (s + l)).length = 8 - (s + l) ∧ (∀ g ∈ (grps xs).take s, g < 65536) ∧ ∀ g ∈ (grps xs).drop (s + l), g < 65536) := ⟨by rw [List.length_take, show (grps xs).length = 8 from rfl]; omega, by rw [List.length_drop]; rfl, fun g hg => grps_lt hx g (List.mem_of_mem_take hg), fun g hg => grps_lt hx g (List.mem_of_mem_drop hg)⟩
    have hs8 : s ≤ 8 := by omega
    have ht8 : 8 - (s + l) ≤ 8 := by omega
    have HE : Hid (str (fmt6 (grps xs)) = str (joinN 58 (((grps xs).take s).map hexN)) ++ ⟨#[58, 58]⟩ ++ str (joinN 58 (((grps xs).drop (s + l)).map hexN))) := by
      show _ = _
      rw [HFM.out, if_neg h2, str_append, str_append]; rfl
    have hw : IntKind.i64.wrap ((s : Int) + (l : Int)) = ((s + l : Nat) : Int) := by
      simp [IntKind.wrap, IntKind.bits, IntKind.signed]; omega
    have hbd' : s + l ≤ 8 := by omega
    clear hbd HFM
    generalize s + l = t at HT HL HE hw ht8 hbd'
    have q3 : (0 : Int) ≤ (t : Int) := by omega
    have q4 : (t : Int) ≤ 8 := by omega
    have hj4 : ∀ gs : List Nat, gs.length ≤ 8 → (∀ g ∈ gs, g < 65536) → (str (joinN 58 (gs.map hexN))).size ≤ 40 := fun gs hl hb => by
      have h1 := joinN_length 58 4 (gs.map hexN) (fun x hx => by
        obtain ⟨g, hg, rfl⟩ := List.mem_map.1 hx
        exact hexN_length g (hb g hg))
      rw [List.length_map] at h1
      have h3 : (str (joinN 58 (gs.map hexN))).size = (joinN 58 (gs.map hexN)).length := by simp [str, ByteArray.size]
      omega
    have z1 := hj4 _ (by rw [HL.out.1]; exact hs8) HL.out.2.2.1
    have z2 := hj4 _ (by rw [HL.out.2.1]; exact ht8) HL.out.2.2.2
    obtain ⟨sa, hsa⟩ : ∃ sa, str (joinN 58 (((grps xs).take s).map hexN)) = sa := ⟨_, rfl⟩
    obtain ⟨sb, hsb⟩ : ∃ sb, str (joinN 58 (((grps xs).drop t).map hexN)) = sb := ⟨_, rfl⟩
    rw [hsa] at z1 HE
    rw [hsb] at z2 HE
    have g1 : ¬ 9223372036854775807 < sa.size + 2 := by omega
    have g2 : ¬ 9223372036854775807 < sa.size + 2 + sb.size := by omega
    have HSA := Lib.hid (And.intro hsa hsb)
    clear hj4 z1 z2 hsa hsb
    by_cases h8 : t = 8
    · subst h8
      go_wp2_with fail
      go_region_held3 (fun w' => Fr No w2 w') (assumption) (first | (go_at_call 106; with_reducible refine (at_prog HP.out (joinGroups_any (some ⟨m, 0, none⟩) s 8 ((grps xs).take s) w2.drew (HH.out _ hS) HL.out.1 hs8 HL.out.2.2.1 (H2.out.2.2.fr hS).g)).mono ?_; rintro e w3 ⟨rfl, hf3⟩; rw [HSA.out.1]; have hS3 := hS.trans hf3; clear hf3) | (go_at_call 106; with_reducible refine (at_prog HP.out (joinGroups_any (some ⟨m, 0, none⟩) 0 0 ((grps xs).drop 8) w3 (At.nil _ _) rfl (Nat.zero_le _) HL.out.2.2.2 (H2.out.2.2.fr hS3).g)).mono ?_; rintro e w4 ⟨rfl, hf4⟩; rw [HSA.out.2]; have hS4 := hS3.trans hf4; clear hf4))
      go_wp2_with fail
      go_ret
      exact ⟨by rw [HE.out]; rfl, H2.out.1.trans hS4⟩
    · have e8 : (t : Int) < 8 := by omega
      go_wp2_with fail
      go_region_held3 (fun w' => Fr No w2 w') (assumption) (first | (go_at_call 106; with_reducible refine (at_prog HP.out (joinGroups_any (some ⟨m, 0, none⟩) s 8 ((grps xs).take s) w2.drew (HH.out _ hS) HL.out.1 hs8 HL.out.2.2.1 (H2.out.2.2.fr hS).g)).mono ?_; rintro e w3 ⟨rfl, hf3⟩; rw [HSA.out.1]; have hS3 := hS.trans hf3; clear hf3) | (go_at_call 106; with_reducible refine (at_prog HP.out (joinGroups_any (some ⟨m, t, none⟩) (8 - t) (8 - t) ((grps xs).drop t) w3 (HT.out _ hS3) HL.out.2.1 ht8 HL.out.2.2.2 (H2.out.2.2.fr hS3).g)).mono ?_; rintro e w4 ⟨rfl, hf4⟩; rw [HSA.out.2]; have hS4 := hS3.trans hf4; clear hf4))
      go_wp2_with fail
      go_ret
      exact ⟨by rw [HE.out]; rfl, H2.out.1.trans hS4⟩

/-- An address's text. -/
def fmtA (b : Bool) (xs : List Nat) : List Nat := if validA b xs then (if b then fmt6 (grps xs) else fmt4 xs) else []

set_option maxHeartbeats 2000000 in
set_option maxRecDepth 100000 in
theorem format_any (b : Bool) (xs : List Nat) (hx : Bytes xs) (w : World) (hG : Gl w) :
    Calls Tryz.prog 64 #[.agg (adr b xs).toArray] w fun e w' => e = .returned (.string (str (fmtA b xs))) ∧ Fr No w w' := by
  obtain ⟨A, hA, h0, hsz, hj⟩ := adr_letter b xs hx
  have hv := fun w => valid_any b xs hx w
  have h6 := fun w hG => formatV6_any b xs hx w hG
  have h4 := fun w hG => formatV4_any b xs hx w hG
  rw [hA] at hv h6 h4 ⊢
  have HV := Lib.hid (And.intro hv (And.intro h6 h4))
  have HG := Lib.hid hG
  have hld : ∀ w', Fr No (w.alloc (.cells A 30)) w' → Sem.run PD (loadCellsFrom ⟨w.heap.size, 0, none⟩ 0 17 #[]) w' = .ok A w' ∧ w'.cell? ⟨w.heap.size, 0, none⟩ = some (.bool b) := fun w' hf => ⟨load_block (hf.keep (heap_alloc_new w _)) hsz (fun j v hv => by simpa using hv), hf.cell (by rw [cell_of_row _ _ _ _ _ _ (heap_alloc_new w _)]; exact h0)⟩
  clear hj hA h0 hsz hv h6 h4 hG
  have hl1 := (hld _ (Fr.refl No _)).1
  go_enter Tryz.func64, Tryz.ntmps64
  have t4 := Tryz.underlying4
  have u4 := Tryz.runUnderlying4
  have g4 := Tryz.isAgg4
  have z4 := Tryz.sizeOf4
  have t9 := Tryz.underlying9
  have u9 := Tryz.runUnderlying9
  have g9 := Tryz.isAgg9
  have z9 := Tryz.sizeOf9
  have t30 := Tryz.underlying30
  have u30 := Tryz.runUnderlying30
  have g30 := Tryz.isAgg30
  have z30 := Tryz.sizeOf30
  have c44 := Tryz.call44
  have c88 := Tryz.call88
  have c89 := Tryz.call89
  have mixed : Tryz.prog.follows .mixedOrders = true := by kernel_rfl
  obtain ⟨k24, hk24⟩ : ∃ k, k = 17 := ⟨_, rfl⟩
  rw [← hk24] at z30
  have nk24 : ¬ k24 = 0 := by omega
  have HK30 := Lib.hid hk24
  have hP : Tryz.prog = PD := rfl
  rw [hP] at t4 u4 g4 z4 t9 u9 g9 z9 t30 u30 g30 z30 c44 c88 c89 mixed ⊢
  have HP := Lib.hid hP.symm
  clear hP hk24
  rw [← HK30.out] at hl1 hld
  have HLD := Lib.hid hld
  clear hld
  go_wp2_with fail
  refine (at_prog HP.out (HV.out.1 _)).mono ?_
  rintro e w1 ⟨rfl, hf1⟩
  have hl2 := (HLD.out _ hf1).1
  have k2 := (HLD.out _ hf1).2
  have HF1 := Lib.hid ((Fr.alloc No w _).trans hf1)
  clear hf1 hl1
  generalize hvv : validA b xs = v
  have HVV := Lib.hid hvv
  clear hvv
  cases v
  · go_wp2_with fail
    go_ret
    exact ⟨by rw [fmtA, HVV.out]; rfl, HF1.out⟩
  · cases b
    · go_wp2_with fail
      refine (at_prog HP.out (HV.out.2.2 _ (HG.out.fr HF1.out))).mono ?_
      rintro e w2 ⟨rfl, hf2⟩
      have HF2 := Lib.hid hf2
      clear hf2
      go_wp2_with fail
      go_ret
      exact ⟨by rw [fmtA, HVV.out]; rfl, HF1.out.trans HF2.out⟩
    · go_wp2_with fail
      refine (at_prog HP.out (HV.out.2.1 _ (HG.out.fr HF1.out))).mono ?_
      rintro e w2 ⟨rfl, hf2⟩
      have HF2 := Lib.hid hf2
      clear hf2
      go_wp2_with fail
      go_ret
      exact ⟨by rw [fmtA, HVV.out]; rfl, HF1.out.trans HF2.out⟩
end Go.Proofs.YtmhnailcmlomiaaGreatDoor
