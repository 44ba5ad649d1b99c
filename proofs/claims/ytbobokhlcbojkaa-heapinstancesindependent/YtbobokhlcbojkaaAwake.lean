/-
  The fixed example (awake) returns true and changes nothing that was in memory before.
  Conditions: none.
-/
import Derived.Test.YtbobokhlcbojkaaLive
import Derived.Test.YtbobokhlcbojkaaS4
import Derived.Test.YtbobokhlcbojkaaS6
namespace Go.Proofs.Ytbobokhlcbojkaa
open Go.ChangeShapes Go.WideShapes Go.ChangeAt Go.RowKit Go.Maps
set_option linter.unusedVariables false

def sA : Value := .string ⟨#[97]⟩
def sB : Value := .string ⟨#[98]⟩
def sC : Value := .string ⟨#[99]⟩

theorem awake_sorted {S A : List Ent} (hp : S.Perm A) (hA : A.Perm [⟨5, 3, sC⟩, ⟨5, 2, sB⟩, ⟨7, 1, sA⟩]) (hs : S.Pairwise (fun a b => ¬ b.lt a)) : S.map Ent.id = [2, 3, 1] := by
  have hT : ([⟨5, 2, sB⟩, ⟨5, 3, sC⟩, ⟨7, 1, sA⟩] : List Ent).Pairwise (fun a b => a.lt b) := by
    simp [Ent.lt]
  have hq : S.Perm [⟨5, 2, sB⟩, ⟨5, 3, sC⟩, ⟨7, 1, sA⟩] := (hp.trans hA).trans (List.Perm.swap _ _ _)
  rw [sorted_unique hq hs hT]
  rfl

theorem awake_min {A A' : List Ent} {i : Nat} {e : Ent} (hA : A.Perm [⟨5, 3, sC⟩, ⟨5, 2, sB⟩, ⟨7, 1, sA⟩]) (hi : A[i]? = some ⟨7, 1, sA⟩) (hp : A'.Perm (A.set i ⟨4, 1, sA⟩)) (hO : Ordered A') (h0 : A'[0]? = some e) : e = ⟨4, 1, sA⟩ := by
  obtain ⟨R, h1, h2⟩ := set_perm hi
  have h3 : ([⟨5, 3, sC⟩, ⟨5, 2, sB⟩, ⟨7, 1, sA⟩] : List Ent).Perm (⟨7, 1, sA⟩ :: [⟨5, 3, sC⟩, ⟨5, 2, sB⟩]) := (List.perm_append_singleton (⟨7, 1, sA⟩ : Ent) [⟨5, 3, sC⟩, ⟨5, 2, sB⟩])
  have hR : R.Perm [⟨5, 3, sC⟩, ⟨5, 2, sB⟩] := (List.perm_cons _).1 (h1.symm.trans (hA.trans h3))
  have hA' : A'.Perm (⟨4, 1, sA⟩ :: [⟨5, 3, sC⟩, ⟨5, 2, sB⟩]) := (hp.trans (h2 _)).trans ((List.perm_cons _).2 hR)
  have hm : e ∈ A' := List.mem_of_getElem? h0
  obtain ⟨k, hk⟩ := mem_get (hA'.mem_iff.2 (List.mem_cons_self (a := (⟨4, 1, sA⟩ : Ent))))
  have hle := hO.first h0 k _ hk
  have := hA'.mem_iff.1 hm
  simp only [List.mem_cons, List.not_mem_nil, or_false] at this
  rcases this with h | h | h
  · exact h
  · subst h; exact absurd (by simp [Ent.lt]) hle
  · subst h; exact absurd (by simp [Ent.lt]) hle

set_option maxHeartbeats 4000000 in
set_option maxRecDepth 100000 in
theorem awake_any (w : World) : Calls Try.prog 25 #[] w fun e w' => e = .returned (.bool true) ∧ Fr No w w' := by
  go_enter Try.func25, Try.ntmps25
  go_wp2_with fail
  refine (S.new_any _).mono ?_
  rintro e w1 ⟨hb, mb, rfl, h1, h2, h3, h4⟩
  have L1 := Lib.hid (Live.born h1 (Fr.refl No w) h2 h3 h4)
  clear h1 h2 h3 h4
  go_wp2_with fail
  refine (S.push_any hb mb _ _ _ 7 ⟨#[97]⟩ _ L1.out.heap L1.out.ord (by simp) (by omega) (by omega)).mono ?_
  rintro e w2 ⟨rfl, sv2, A2, h1, h2, h3, h4, h5⟩
  have L2 := Lib.hid (And.intro (L1.out.step h1 h3 h4 h5) h2)
  clear h1 h2 h3 h4 h5 L1
  go_wp2_with fail
  refine (S.push_any hb mb _ _ _ 5 ⟨#[98]⟩ _ L2.out.1.heap L2.out.1.ord (by rw [L2.out.2.length_eq]; simp) (by omega) (by omega)).mono ?_
  rintro e w3 ⟨rfl, sv3, A3, h1, h2, h3, h4, h5⟩
  have L3 := Lib.hid (And.intro (L2.out.1.step h1 h3 h4 h5) (h2.trans ((List.perm_cons _).2 L2.out.2)))
  clear h1 h2 h3 h4 h5 L2
  go_wp2_with fail
  refine (S.push_any hb mb _ _ _ 5 ⟨#[99]⟩ _ L3.out.1.heap L3.out.1.ord (by rw [L3.out.2.length_eq]; simp) (by omega) (by omega)).mono ?_
  rintro e w4 ⟨rfl, sv4, A4, h1, h2, h3, h4, h5⟩
  have L4 := Lib.hid (And.intro (L3.out.1.step h1 h3 h4 h5) (h2.trans ((List.perm_cons _).2 L3.out.2)))
  clear h1 h2 h3 h4 h5 L3
  go_wp2_with fail
  refine (S.handles_any hb mb _ _ _ _ L4.out.1.heap).mono ?_
  rintro e w5 ⟨rb, T, rfl, h1, h2, h3, h4, h5⟩
  have hl4 : A4.length = 3 := by rw [L4.out.2.length_eq]; rfl
  rw [hl4] at h4
  rw [hl4]
  have HI : Hid (IntsAt w5 (some ⟨rb, 0, none⟩) 3 [2, 3, 1]) := by
    have := h4.ints (by rw [h2.length_eq]; exact hl4)
    rw [awake_sorted h2 L4.out.2 h3] at this
    exact this
  have L5 := Lib.hid (And.intro (L4.out.1.keep h5) (And.intro L4.out.2 hl4))
  clear h1 h2 h3 h4 h5 L4 hl4
  go_wp2_with fail
  have HI1 : Hid (IntsAt (w5.alloc (.cells #[.int .i64 2, .int .i64 3, .int .i64 1] 3)) (some ⟨rb, 0, none⟩) 3 [2, 3, 1]) := HI.out.fr (Fr.alloc No _ _) (fun _ _ h => h)
  have HI2 : Hid (IntsAt (w5.alloc (.cells #[.int .i64 2, .int .i64 3, .int .i64 1] 3)) (some ⟨w5.heap.size, 0, none⟩) 3 [2, 3, 1]) := by
    refine ⟨rfl, fun i x hx => ⟨_, rfl, ?_⟩⟩
    rw [cell_of_row _ _ _ _ _ _ (heap_alloc_new w5 _)]
    match i, hx with
    | 0, hx => simpa using hx
    | 1, hx => simpa using hx
    | 2, hx => simpa using hx
  refine (equal_any _ _ 3 3 3 3 [2, 3, 1] [2, 3, 1] _ HI1.out HI2.out (by omega)).mono ?_
  rintro e w6 ⟨rfl, hf⟩
  have L6 := Lib.hid (And.intro ((L5.out.1.keep (Fr.alloc No _ _)).keep hf) L5.out.2)
  clear hf L5 HI HI1 HI2
  obtain ⟨i, hi⟩ : ∃ i : Nat, A4[i]? = some ⟨7, 1, sA⟩ := mem_get (L6.out.2.1.mem_iff.2 (by simp [sA]))
  have HI := Lib.hid hi
  clear hi
  go_wp2_with fail
  refine (S.update_hit hb mb _ _ _ i ⟨7, 1, sA⟩ 4 _ L6.out.1.heap L6.out.1.ord HI.out (by omega)).mono ?_
  rintro e w7 ⟨rfl, A7, h1, h2, h3, h4⟩
  have L7 := Lib.hid (And.intro (L6.out.1.same h1 h3 h4 rfl) h2)
  clear h1 h2 h3 h4
  have hl7 : A7.length = 3 := by rw [L7.out.2.length_eq, List.length_set]; exact L6.out.2.2
  obtain ⟨e0, h0⟩ : ∃ e, A7[0]? = some e := ⟨_, List.getElem?_eq_getElem (by omega)⟩
  obtain rfl := awake_min L6.out.2.1 HI.out L7.out.2 L7.out.1.ord h0
  have H7 := Lib.hid (And.intro h0 hl7)
  clear h0 hl7
  go_wp2_with fail
  refine (S.min_some hb mb _ _ _ _ _ L7.out.1.heap H7.out.1).mono ?_
  rintro e w8 ⟨rfl, hf⟩
  have L8 := Lib.hid (L7.out.1.keep hf)
  clear hf
  have hs : sA = .string ⟨#[97]⟩ := rfl
  go_wp2_with fail
  refine (S.len_any hb mb _ _ _ _ L8.out.heap).mono ?_
  rintro e w9 ⟨rfl, rfl⟩
  rw [H7.out.2]
  go_wp2_with fail
  go_ret
  exact ⟨rfl, L8.out.fr⟩

end Go.Proofs.Ytbobokhlcbojkaa
