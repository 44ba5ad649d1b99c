/-
  CONTRACTS of Reset, Handles and Descendants of the reference's timers over this seat's translation.
  Conditions: the reference's timers lie in memory as RefAt says.
-/
import Derived.Test.YtbgddldkpjeieaaGreatRef1
import Derived.Test.YtbgddldkpjeieaaGreatEq
namespace Go.Proofs.YtbgddldkpjeieaaGreat
open Go.ChangeShapes Go.WideShapes Go.ChangeAt Go.RowKit Go.Maps
set_option linter.unusedVariables false

theorem row6_set {w : World} {base g n cap : Nat} {xs : List Value} (h : w.ownsRow base 58 6 (.slice (some ⟨g, 0, none⟩) n cap) n xs) (j : Nat) (v : Value) : (w.setCell ⟨g, j, none⟩ v).ownsRow base 58 6 (.slice (some ⟨g, 0, none⟩) n cap) n (xs.set j v) := by
  refine ⟨by rw [List.length_set]; exact h.1, ?_⟩
  rcases h.2 with ⟨hv, _⟩ | ⟨g', cap', cur, hv, h1, h2, h3, h4, h5, h6⟩
  · cases hv
  · cases hv
    refine .inr ⟨g, cap, _, rfl, h1, heap_setCell_same w g j _ _ v h2, h3, h4, by simpa using h5, ?_⟩
    rw [← h6]
    simp [List.take_set]

theorem set_redue {L : List Rec} {i : Nat} {q : Rec} (hs : L.Pairwise (fun a b => a.id < b.id)) (hi : L[i]? = some q) (d : Int) : L.set i { q with due := d } = L.map (redue q.id d) := by
  refine List.ext_getElem? fun j => ?_
  have hil := (List.getElem?_eq_some_iff.1 hi).1
  rw [List.getElem?_map]
  by_cases hj : j = i
  · subst hj
    rw [List.getElem?_set_self hil, hi]
    simp [redue]
  · rw [List.getElem?_set_ne (fun e => hj e.symm)]
    cases hr : L[j]? with
    | none => rfl
    | some r =>
      have hne : r.id ≠ q.id := by
        intro e
        have hrq := pairwise_uniq hs (List.mem_of_getElem? hr) (List.mem_of_getElem? hi) e
        subst hrq
        have hnd : L.Nodup := hs.imp fun {a b} hab e => by rw [e] at hab; omega
        exact hj ((List.getElem?_inj (List.getElem?_eq_some_iff.1 hr).1 hnd).1 (hr.trans hi.symm))
      simp [redue, hne]

theorem reset_ref (X : Nat → Prop) (xb : Nat) (L : List Rec) (last d : Int) (q : Rec) (w : World) (h : Rf X w xb L last) (hq : q ∈ L) (hd : 0 ≤ d ∧ d ≤ 18446744073709551615) :
    Calls Tryz.prog 13 #[.pointer (some ⟨xb, 0, none⟩), .int .i64 q.id, .int .u64 d] w fun e w' => e = .returned (.bool true) ∧ Rf X w' xb (L.map (redue q.id d)) last ∧ Fr X w w' := by
  obtain ⟨iv, h, hwd, hX⟩ := h
  have hlen := h.len
  obtain ⟨i, hi⟩ := List.mem_iff_getElem?.1 hq
  have hil := (List.getElem?_eq_some_iff.1 hi).1
  obtain ⟨n, hn⟩ : ∃ n, L.length = n := ⟨_, rfl⟩
  obtain ⟨g, cap, rfl⟩ := h.form (by omega)
  have c0 := h.hcell.1
  have e2 := (h.ecell hi).2.2.1
  have f2 := h.efrozen rfl (i * 6 + 2)
  rw [hn] at h c0 hlen hil hX
  have HS := Lib.hid (And.intro h (And.intro hn (And.intro hq (And.intro hi (And.intro hX hwd)))))
  have p1 : (0 : Int) ≤ (i : Int) := by omega
  have p2 : (i : Int) < (n : Int) := by omega
  have p3 : ¬ ((i : Int) < 0) := by omega
  clear h hn hq hi hX hwd
  go_enter Tryz.func13, Tryz.ntmps13
  go_wp2_with fail
  refine (find_hit xb _ L last i q _ HS.out.1 HS.out.2.2.2.1).mono ?_
  rintro e w1 ⟨rfl, rfl⟩
  go_wp2_with fail
  go_ret
  obtain ⟨h, hn, hq, hi, hX, hwd⟩ := HS.out
  have hgx : g ≠ xb := fun e => h.apart (by simp [Value.ownBlock, e])
  have hrow := h.row
  rw [hn] at hrow
  have hr2 := row6_set hrow (i * 6 + 2) (.int .u64 d)
  rw [flat6_due L i q d hi, set_redue h.shrub.asc hi] at hr2
  have hw2 := hwd.reset q.id hd
  refine ⟨rfl, ⟨_, ⟨?_, by rw [List.length_map, hn]; exact hr2, hw2.shrub, ?_, h.top⟩, hw2, hX⟩, Fr.setCell X _ ⟨g, i * 6 + 2, none⟩ _ (hX g (.inr rfl))⟩
  · rw [heap_setCell_other _ _ _ _ (show xb ≠ g from fun e => hgx e.symm)]; exact h.hdr
  · intro r hr
    obtain ⟨r', hr', rfl⟩ := List.mem_map.1 hr
    rw [redue_val]; exact h.val r' hr'

theorem reset_ref_miss (X : Nat → Prop) (xb : Nat) (L : List Rec) (last d k : Int) (w : World) (h : Rf X w xb L last) (hno : ∀ r ∈ L, r.id ≠ k) :
    Calls Tryz.prog 13 #[.pointer (some ⟨xb, 0, none⟩), .int .i64 k, .int .u64 d] w fun e w' => e = .returned (.bool false) ∧ w' = w := by
  obtain ⟨iv, h, hwd, hX⟩ := h
  have HS := Lib.hid (And.intro h hno)
  clear h hno hX hwd
  go_enter Tryz.func13, Tryz.ntmps13
  go_wp2_with fail
  refine (find_miss xb _ L last k _ HS.out.1 HS.out.2).mono ?_
  rintro e w1 ⟨rfl, rfl⟩
  go_wp2_with fail
  go_ret
  exact ⟨rfl, rfl⟩

theorem own_form1 {w : World} {base : Nat} {n : Nat} {v : Value} {xs : List Value} (h : w.ownsRow base 3 1 v n xs) : ∃ a cap, v = .slice a n cap := by
  rcases h.2 with ⟨hv, hn⟩ | ⟨g, cap, cur, hv, _⟩
  · exact ⟨none, 0, by rw [hv, hn]⟩
  · exact ⟨_, cap, hv⟩

theorem row1_keep {w w' : World} {base : Nat} {n : Nat} {v : Value} {xs : List Value} (h : w.ownsRow base 3 1 v n xs) (hf : Fr No w w') : w'.ownsRow base 3 1 v n xs := by
  refine ⟨h.1, ?_⟩
  rcases h.2 with hv | ⟨g, cap', cur, hv, h1, h2, h3⟩
  · exact .inl hv
  · exact .inr ⟨g, cap', cur, hv, h1, (hf.block g (Array.getElem?_eq_some_iff.1 h2).1 (fun h => h)).trans h2, h3⟩

theorem fr_grown_base {w w1 w2 : World} {base n : Nat} {v : Value} {xs : List Value} (hF : Fr No w w1) (h : w1.ownsRow w.heap.size 3 1 v n xs) (o : Obj) (hg : (w1.alloc o).grownBy w2 v.ownBlock) : Fr No w w2 :=
  fr_base ((hF.no.trans (Fr.alloc _ _ _)).trans (Fr.grown hg fun k hk => (h.lt k hk).1))

set_option maxHeartbeats 1000000 in
set_option maxRecDepth 100000 in
theorem handles_ref (xb : Nat) (iv : Value) (L : List Rec) (last : Int) (w : World) (h : RefAt w xb iv L last) :
    Calls Tryz.prog 34 #[.pointer (some ⟨xb, 0, none⟩)] w fun e w' => ∃ a cap, e = .returned (.slice a L.length cap) ∧ w'.ownsRow w.heap.size 3 1 (.slice a L.length cap) L.length ((L.map Rec.id).map (Value.int .i64)) ∧ Fr No w w' := by
  have hlen := h.len
  obtain ⟨n, hn⟩ : ∃ n, L.length = n := ⟨_, rfl⟩
  obtain ⟨ai, capi, rfl⟩ := h.form0
  rw [hn] at h hlen ⊢
  obtain ⟨i0, hi0, hz0, hz1, hz2⟩ := info_parts info3
  have HS := Lib.hid (And.intro h hn)
  clear h hn
  go_enter Tryz.func34, Tryz.ntmps34
  go_wp2_with fail
  go_loopg [3, 4] (n + 1) (fun g s3 s4 wr => ∃ (i : Nat) (a : Option Addr) (cap : Nat), s3 = .slice a i cap ∧ s4 = .int .i64 i ∧ i ≤ n ∧ n - i < g ∧ Hid (Fr No w wr ∧ wr.ownsRow w.heap.size 3 1 (.slice a i cap) i (((L.take i).map Rec.id).map (Value.int .i64))))
  case atStart => exact ⟨0, none, 0, rfl, by go_num, by omega, by omega, Fr.refl _ _, World.ownsRow_nil _ _ _ _⟩
  case round =>
    obtain ⟨i, a, cap, rfl, rfl, hin, hig, HR⟩ := hrel
    have hx1 := HS.out.1.frNo HR.out.1
    have c0 := hx1.hcell.1
    have HX := Lib.hid hx1
    clear hx1
    by_cases hi : i < n
    · obtain ⟨ei, gi⟩ : ∃ e, L[i]? = some e := ⟨_, List.getElem?_eq_getElem (by have := HS.out.2; omega)⟩
      obtain ⟨g, cap', hv⟩ := HS.out.1.form (by have := HS.out.2; omega)
      obtain rfl : ai = some ⟨g, 0, none⟩ := by cases hv; rfl
      have a0 := (HX.out.ecell gi).1
      have HG := Lib.hid gi
      have hsz := HR.out.1.size
      have p1 : (0 : Int) ≤ (i : Int) := by omega
      have p2 : (i : Int) < (n : Int) := by omega
      clear gi hv
      go_wp2_with (first
        | (at_builtin; refine wpList_append_own _ rfl (.tmp 14) (.tmp 23) 64 rfl w.heap.size 3 i0 (.int .i64 0) 1 8 Tryz.underlying64 hi0 hz0 hz1 hz2 rfl (by decide) (.slice a i cap) i _ rfl (HR.out.2.alloc _) ⟨wr.heap.size, 0, none⟩ 1 1 [.int .i64 ei.id] rfl rfl (one_cell wr ei.id) (one_one ei.id) (by unfold maxLen; omega) (by omega) (by simp; omega) ?_; intro v8 w8 hown8 hgrow8 _)
        | go_in)
      obtain ⟨a8, cap8, rfl⟩ := own_form1 hown8
      have H8 := Lib.hid (And.intro hown8 hgrow8)
      clear hown8 hgrow8
      go_wp2_with fail
      go_roundg (n - i)
      case measure => exact hig
      case rel =>
        refine ⟨i + 1, a8, cap8, rfl, by go_num, by omega, by omega, fr_grown_base (base := 0) HR.out.1 HR.out.2 _ H8.out.2, ?_⟩
        have := H8.out.1
        rw [List.take_add_one, HG.out]
        simpa using this
    · obtain rfl : i = n := by omega
      have p2 : ¬ ((i : Int) < (i : Int)) := by omega
      go_wp2_with fail
      go_ret
      refine ⟨a, cap, rfl, ?_, HR.out.1⟩
      have := HR.out.2
      rw [List.take_of_length_le (by rw [HS.out.2]; exact Nat.le_refl _)] at this
      first
        | exact this
        | simpa using this

end Go.Proofs.YtbgddldkpjeieaaGreat
