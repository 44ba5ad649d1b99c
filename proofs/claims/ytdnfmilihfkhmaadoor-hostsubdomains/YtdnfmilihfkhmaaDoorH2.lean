/-
  CONTRACTS of joinGroups, formatV4, formatV6 and Format, over this seat's translation: what each call returns.
  Conditions: the argument is an address; the groups lie in memory; the package variables are as Glob says.
-/
import Derived.Test.YtdnfmilihfkhmaaDoorH1
import Derived.Test.YtdnfmilihfkhmaaDoorAp
import Derived.Test.YtdnfmilihfkhmaaDoorLZ
import Derived.Test.YtdnfmilihfkhmaaDoorV2
import Derived.Test.YtdnfmilihfkhmaaDoorShelf
import Derived.Deep.RegionHeld3
namespace Go.Proofs.YtdnfmilihfkhmaaDoor
open Go.ChangeShapes Go.WideShapes Go.ChangeAt Go.RowKit
set_option linter.unusedVariables false

/-- Strings with a sign between them. -/
def joinN (sep : Nat) : List (List Nat) → List Nat
  | [] => []
  | [x] => x
  | x :: y :: r => x ++ sep :: joinN sep (y :: r)

theorem join_str (sep : Nat) : ∀ xs : List (List Nat), Lib.join ((xs.map str).map (·.data.toList)) [UInt8.ofNat sep] = (joinN sep xs).map UInt8.ofNat
  | [] => rfl
  | [x] => by simp [Lib.join, str, joinN, List.intercalate]
  | x :: y :: r => by
    have ih := join_str sep (y :: r)
    simp only [Lib.join, List.map_cons, List.intercalate_cons_cons] at ih ⊢
    rw [ih]
    simp [str, joinN]

theorem hexN_length : ∀ n : Nat, n < 65536 → (hexN n).length ≤ 4 := by
  intro n h
  have h1 : ∀ n, n < 16 → (hexN n).length = 1 := fun n h => by rw [hexN_small h]; rfl
  have h2 : ∀ n, n < 256 → (hexN n).length ≤ 2 := fun n h => by
    by_cases h' : n < 16
    · rw [h1 n h']; omega
    · rw [hexN_big (by omega), List.length_append, h1 _ (by omega)]; simp
  have h3 : ∀ n, n < 4096 → (hexN n).length ≤ 3 := fun n h => by
    by_cases h' : n < 16
    · rw [h1 n h']; omega
    · rw [hexN_big (by omega), List.length_append]; have := h2 (n / 16) (by omega); simp; omega
  by_cases h' : n < 16
  · rw [h1 n h']; omega
  · rw [hexN_big (by omega), List.length_append]; have := h3 (n / 16) (by omega); simp; omega

theorem joinN_length (sep m : Nat) : ∀ xs : List (List Nat), (∀ x ∈ xs, x.length ≤ m) → (joinN sep xs).length ≤ xs.length * (m + 1)
  | [], _ => by simp [joinN]
  | [x], h => by have := h x (by simp); simp [joinN]; omega
  | x :: y :: r, h => by
    have ih := joinN_length sep m (y :: r) (fun z hz => h z (List.mem_cons_of_mem _ hz))
    have h1 := h x (by simp)
    simp only [joinN, List.length_append, List.length_cons] at ih ⊢
    have : (r.length + 1 + 1) * (m + 1) = (r.length + 1) * (m + 1) + (m + 1) := by rw [Nat.add_mul (r.length + 1) 1, Nat.one_mul]
    omega

theorem strs_cell {w : World} {bk o : Nat} {xs : List ByteArray} (h : At w (some ⟨bk, o, none⟩) (strs xs)) : ∀ (j : Nat) x, xs[j]? = some x → w.cell? ⟨bk, o + j, none⟩ = some (.string x) := fun j x hx => by
  obtain ⟨b, o', he, hc⟩ := h j _ (strs_get hx)
  cases he
  exact hc

/-- strings.Join, whatever the slice. -/
theorem join_any (a : Option Addr) (n c sep : Nat) (xs : List (List Nat)) (w : World) (h : At w a (strs (xs.map str))) (hn : xs.length = n) (hc : n ≤ c) (h8 : n ≤ 8) (h4 : ∀ x ∈ xs, x.length ≤ 4) :
    Calls Tryd.prog 65 #[.slice a n c, .string ⟨#[UInt8.ofNat sep]⟩] w fun e w' => e = .returned (.string (str (joinN sep xs))) ∧ Fr No w w' := by
  cases xs with
  | nil =>
    obtain rfl : n = 0 := by simpa using hn.symm
    refine (Tryd.strings_Join_none a c _ w).mono ?_
    rintro e w' ⟨rfl, rfl⟩
    exact ⟨rfl, Fr.refl _ _⟩
  | cons x r =>
    obtain ⟨b, o, he, hc0⟩ := h 0 (.string (str x)) (strs_get rfl)
    subst he
    have hl : ((x :: r).map str).length = n := by rw [List.length_map]; exact hn
    have hj := Tryd.strings_Join b o c ((x :: r).map str) ⟨#[UInt8.ofNat sep]⟩ w (strs_cell h) (World.block_lt_of_cell? w _ hc0) (by omega) (by omega) (by
      have e1 : (⟨#[UInt8.ofNat sep]⟩ : ByteArray).data.toList = [UInt8.ofNat sep] := rfl
      rw [e1, join_str, List.length_map]
      have := joinN_length sep 4 (x :: r) h4
      rw [hn] at this
      omega)
    rw [hl] at hj
    refine hj.mono ?_
    rintro e w' ⟨rfl, hb⟩
    refine ⟨?_, Fr.ofBelow hb⟩
    have e1 : (⟨#[UInt8.ofNat sep]⟩ : ByteArray).data.toList = [UInt8.ofNat sep] := rfl
    rw [e1, join_str]
    rfl

set_option maxHeartbeats 2000000 in
set_option maxRecDepth 100000 in
theorem joinGroups_any (a : Option Addr) (n c : Nat) (gs : List Nat) (w : World) (h : At w a (nums .u16 gs)) (hn : gs.length = n) (h8 : n ≤ 8) (hb : ∀ g ∈ gs, g < 65536) (hG : Glob w) :
    Calls Tryd.prog 63 #[.slice a n c] w fun e w' => e = .returned (.string (str (joinN 58 (gs.map hexN)))) ∧ Fr No w w' := by
  have HS := Lib.hid (And.intro h (And.intro hn (And.intro hb hG)))
  clear h hn hb hG
  go_enter Tryd.func63, Tryd.ntmps63
  go_wp2_with fail
  go_loopg [3, 8] (n + 1) (fun g s3 s8 wr => ∃ (i cap : Nat) (ar : Option Addr), s3 = .slice ar i cap ∧ s8 = .int .i64 i ∧ i ≤ n ∧ n - i < g ∧ Hid (wr.ownsRow w.heap.size 9 1 (.slice ar i cap) i (strs ((gs.take i).map (fun g => str (hexN g)))) ∧ Fr No w wr))
  case atStart => exact ⟨0, 0, none, rfl, by go_num, by omega, by omega, World.ownsRow_nil _ _ _ _, Fr.refl _ _⟩
  case round =>
    obtain ⟨i, cap, ar, rfl, rfl, hin, hig, HR⟩ := hrel
    by_cases hi : i = n
    · subst hi
      go_wp2_with fail
      refine (join_any ar i cap 58 (gs.map hexN) _ ?_ (by rw [List.length_map]; exact HS.out.2.1) ?_ h8 ?_).mono ?_
      · have h1 := At.own HR.out.1
        rw [List.take_of_length_le (by rw [HS.out.2.1]; exact Nat.le_refl _)] at h1
        simpa [Function.comp_def] using h1
      · obtain ⟨a', c', he, hc, _⟩ := row_any HR.out.1
        cases he
        exact hc
      · intro x hx
        obtain ⟨g, hg, rfl⟩ := List.mem_map.1 hx
        exact hexN_length g (HS.out.2.2.1 g hg)
      · rintro e w1 ⟨rfl, hf⟩
        have HF := Lib.hid hf
        clear hf
        go_wp2_with fail
        go_ret
        exact ⟨rfl, HR.out.2.trans HF.out⟩
    · obtain ⟨g, hg⟩ : ∃ g, gs[i]? = some g := ⟨_, List.getElem?_eq_getElem (by rw [HS.out.2.1]; omega)⟩
      obtain ⟨ab, ao, ha, c1⟩ := (HS.out.1.frNo HR.out.2) i _ (nums_get hg)
      subst ha
      have hg6 := HS.out.2.2.1 g (List.mem_of_getElem? hg)
      have q1 : (0 : Int) ≤ (i : Int) := by omega
      have q2 : (i : Int) < (n : Int) := by omega
      have HT : Hid ((gs.take (i + 1)).map (fun g => str (hexN g)) = (gs.take i).map (fun g => str (hexN g)) ++ [str (hexN g)]) := by
        show _ = _
        rw [List.take_add_one, hg]; simp
      go_wp2_with fail
      refine (formatUint g hg6 _ (HS.out.2.2.2.fr HR.out.2)).mono ?_
      rintro e w1 ⟨rfl, hf1⟩
      have H1 : Hid (w1.ownsRow w.heap.size 9 1 (.slice ar i cap) i (strs ((gs.take i).map (fun g => str (hexN g)))) ∧ Fr No w w1) := ⟨row_frNo HR.out.1 hf1, HR.out.2.trans hf1⟩
      clear hf1 c1
      go_wp2_with (first | (at_builtin; refine wpList_append_vals elS rfl (.tmp 12) (.tmp 16) rfl w.heap.size _ i _ rfl (row_frNo H1.out.1 (Fr.alloc No _ _)) _ 1 1 [.string (str (hexN g))] rfl (by simp [Value.oneCell']) rfl (At.block (heap_alloc_new _ _)) (fun h => by cases h) (by unfold maxLen; omega) (by omega) (Nat.le_trans H1.out.2.size (Fr.alloc No _ _).size) ?_; intro a2 cap2 w2 hown2 hg2 hat2; have H2 : Hid (w2.ownsRow w.heap.size 9 1 (.slice a2 (i + 1) cap2) (i + 1) (strs ((gs.take (i + 1)).map (fun g => str (hexN g)))) ∧ Fr No w w2) := ⟨(by rw [HT.out, strs_append]; exact hown2), (H1.out.2.trans (Fr.alloc No _ _)).own_grown (row_frNo H1.out.1 (Fr.alloc No _ _)) (Nat.le_refl _) hg2⟩; clear hown2 hg2 hat2) | fail)
      go_roundg (n - i)
      case measure => exact hig
      case rel => exact ⟨i + 1, cap2, a2, rfl, by go_num, by omega, by omega, H2.out⟩
end Go.Proofs.YtdnfmilihfkhmaaDoor
