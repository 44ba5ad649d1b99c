/-
  How a list of operations that came in lies in memory; no walk.
  Conditions: as each theorem says.
-/
import Derived.Test.YtbobokhlcbojkaaRef4
import Derived.Deep.Slices
namespace Go.Proofs.Ytbobokhlcbojkaa
open Go.ChangeShapes Go.WideShapes Go.ChangeAt Go.RowKit Go.Maps
set_option linter.unusedVariables false

def OpAt (w : World) (a : Option Addr) (i : Nat) (k id d x : Int) : Prop := ∃ b off, a = some ⟨b, off, none⟩ ∧ w.cell? ⟨b, off + i * 4, none⟩ = some (.int .i64 k) ∧ w.cell? ⟨b, off + i * 4 + 1, none⟩ = some (.int .i64 id) ∧ w.cell? ⟨b, off + i * 4 + 2, none⟩ = some (.int .u64 d) ∧ w.cell? ⟨b, off + i * 4 + 3, none⟩ = some (.int .i64 x)

def OpRow (w : World) (a : Option Addr) (n : Nat) : Prop := n ≤ 9223372036854775807 ∧ ∀ i, i < n → ∃ k id d x : Int, OpAt w a i k id d x ∧ (-9223372036854775808 ≤ k ∧ k ≤ 9223372036854775807) ∧ (-9223372036854775808 ≤ id ∧ id ≤ 9223372036854775807) ∧ (0 ≤ d ∧ d ≤ 18446744073709551615) ∧ (-9223372036854775808 ≤ x ∧ x ≤ 9223372036854775807)

theorem OpAt.fr {w w' : World} {a : Option Addr} {i : Nat} {k id d x : Int} (h : OpAt w a i k id d x) (hf : Fr No w w') : OpAt w' a i k id d x := by
  obtain ⟨b, off, rfl, h0, h1, h2, h3⟩ := h
  have hb : b < w.heap.size := block_lt_of_cell h0
  have hk := hf.block b hb (fun h => h)
  exact ⟨b, off, rfl, (World.cell?_of_block (a := ⟨b, off + i * 4, none⟩) hk).trans h0, (World.cell?_of_block (a := ⟨b, off + i * 4 + 1, none⟩) hk).trans h1, (World.cell?_of_block (a := ⟨b, off + i * 4 + 2, none⟩) hk).trans h2, (World.cell?_of_block (a := ⟨b, off + i * 4 + 3, none⟩) hk).trans h3⟩

theorem cells31 : Try.prog.cellsOf 31 = 4 := by kernel_rfl
theorem cells3 : Try.prog.cellsOf 3 = 1 := by kernel_rfl
theorem cells29 : Try.prog.cellsOf 29 = 1 := by kernel_rfl

theorem one_of {cs : List Value} {r : Nat} {v : Value} (h : (cs.drop r).take 1 = [v]) : cs[r]? = some v := by
  have h1 : ((cs.drop r).take 1)[0]? = some v := by rw [h]; rfl
  rw [List.getElem?_take, if_pos (by omega), List.getElem?_drop] at h1
  simpa using h1

theorem ops_open {H : Type} {enc : TypeId × Value → H} {w : World} {spare : Nat → Bool} {held : Bool} {fuel : Nat} {a : Option Addr} {n c : Nat} {x : DataW H × List MemPlace} (h : DataW.trod enc Try.prog w 0 spare held fuel 22 [.slice a n c] = some x) : OpRow w a n := by
  rcases Go.Deep.open_slice Try.underlying22 h with ⟨hcs, _⟩ | ⟨ad, len, cap, m, n', D, Pl, hcs, hb, hl, hm, hmm, hx, hall⟩
  · cases hcs
    exact ⟨by omega, fun i hi => by omega⟩
  · cases hcs
    unfold maxLen at hm
    simp only [cells31] at hall
    refine ⟨by omega, fun i hi => ?_⟩
    have him : i < m := by rw [hmm]; split <;> omega
    obtain ⟨cs, hc, ht⟩ := hall i him
    obtain ⟨xs, n2, _, _, hlen, hxl, hf⟩ := DataW.trod_struct Try.underlying31 ht
    have f0 := hf 0 _ rfl
    have f1 := hf 1 _ rfl
    have f2 := hf 2 _ rfl
    have f3 := hf 3 _ rfl
    have hxl : xs.length = 4 := hxl
    rw [List.getElem?_eq_getElem (by omega)] at f0 f1 f2 f3
    change DataW.trod enc Try.prog w 0 spare held n2 3 ((cs.drop 0).take (Try.prog.cellsOf 3)) = some _ at f0
    change DataW.trod enc Try.prog w 0 spare held n2 3 ((cs.drop 1).take (Try.prog.cellsOf 3)) = some _ at f1
    change DataW.trod enc Try.prog w 0 spare held n2 29 ((cs.drop 2).take (Try.prog.cellsOf 29)) = some _ at f2
    change DataW.trod enc Try.prog w 0 spare held n2 3 ((cs.drop 3).take (Try.prog.cellsOf 3)) = some _ at f3
    rw [cells3] at f0 f1 f3
    rw [cells29] at f2
    obtain ⟨v0, e0, _, w0⟩ := DataW.trod_int Try.underlying3 f0
    obtain ⟨v1, e1, _, w1⟩ := DataW.trod_int Try.underlying3 f1
    obtain ⟨v2, e2, _, w2⟩ := DataW.trod_int Try.underlying29 f2
    obtain ⟨v3, e3, _, w3⟩ := DataW.trod_int Try.underlying3 f3
    have g0 := one_of e0
    have g1 := one_of e1
    have g2 := one_of e2
    have g3 := one_of e3
    unfold World.cells? at hc
    split at hc
    · have hg : ∀ r, r < 4 → w.cell? ((ad.add (i * 4)).add r) = cs[r]? := fun r hr => mapM_some_get hc r r (by simp [hr])
      have k0 := (hg 0 (by omega)).trans g0
      have k1 := (hg 1 (by omega)).trans g1
      have k2 := (hg 2 (by omega)).trans g2
      have k3 := (hg 3 (by omega)).trans g3
      obtain ⟨cs0, hc0, _⟩ := hall 0 (by omega)
      unfold World.cells? at hc0
      split at hc0
      · have hl0 := mapM_some_length hc0
        have hg0 := mapM_some_get hc0 0 0 (by simp)
        simp only [List.length_range] at hl0
        rw [List.getElem?_eq_getElem (by omega)] at hg0
        have hsp := World.cell?_spot hg0
        obtain ⟨b, off, spot⟩ := ad
        have hspot : spot = none := by simpa [Addr.add] using hsp
        subst hspot
        simp only [Go.WideShapes.add_plain, Nat.add_zero] at k0 k1 k2 k3
        exact ⟨v0, v1, v2, v3, ⟨b, off, rfl, k0, k1, k2, k3⟩, bounds_i64 w0, bounds_i64 w1, bounds_u64 w2, bounds_i64 w3⟩
      · cases hc0
    · cases hc

theorem ref_born (w : World) : RefAt (w.alloc (.cells #[.slice none 0 0, .int .i64 0] 28)) w.heap.size (.slice none 0 0) [] 0 :=
  ⟨heap_alloc_new w _, World.ownsRow_nil _ _ _ _, by simp [Value.ownBlock], ⟨fun i e h => by simp at h, List.Pairwise.nil, fun i e h => by simp at h, by simp⟩⟩

/-- The heap and the reference heap side by side, both made by the call that began in w0. -/
structure Duo (w0 w : World) (hb mb xb : Nat) (sv iv : Value) (A L : List Ent) (last : Int) : Prop where
  live : Live I.V 75 80 w0 w hb mb sv A last
  ref : RefAt w xb iv L last
  own : ∀ k, OwnR xb iv k → w0.heap.size ≤ k
  perm : A.Perm L
  ids : ∀ e ∈ L, 1 ≤ e.id ∧ e.id ≤ last

theorem duo_born {w0 w : World} {hb mb : Nat} (h : Live I.V 75 80 w0 w hb mb (.slice none 0 0) [] 0) : Duo w0 (w.alloc (.cells #[.slice none 0 0, .int .i64 0] 28)) hb mb w.heap.size (.slice none 0 0) (.slice none 0 0) [] [] 0 := by
  refine ⟨h.keep (Fr.alloc No _ _), ref_born w, fun k hk => ?_, List.Perm.refl _, fun e he => by simp at he⟩
  rcases hk with rfl | hk
  · exact h.fr.size
  · cases hk

theorem Duo.keep {w0 w w' : World} {hb mb xb : Nat} {sv iv : Value} {A L : List Ent} {last : Int} (h : Duo w0 w hb mb xb sv iv A L last) (hf : Fr No w w') : Duo w0 w' hb mb xb sv iv A L last :=
  ⟨h.live.keep hf, h.ref.frNo hf, h.own, h.perm, h.ids⟩

/-- A step of the heap, then a step of the reference heap. -/
theorem Duo.step {w0 w w1 w2 : World} {hb mb xb : Nat} {sv iv sv' iv' : Value} {A L A' L' : List Ent} {last last' : Int} (h : Duo w0 w hb mb xb sv iv A L last)
    (h1 : HeapAt I.V 75 80 w1 hb mb sv' A' last') (hO : Ordered A') (f1 : Fr (Own hb mb sv) w w1) (s1 : ∀ k, sv'.ownBlock = some k → sv.ownBlock = some k ∨ w.heap.size ≤ k)
    (h2 : RefAt w2 xb iv' L' last') (f2 : Fr (OwnR xb iv) w1 w2) (s2 : ∀ k, iv'.ownBlock = some k → iv.ownBlock = some k ∨ w.heap.size ≤ k) (hp : A'.Perm L') (hids : ∀ e ∈ L', 1 ≤ e.id ∧ e.id ≤ last') (hr1 : RefAt w1 xb iv L last) :
    Duo w0 w2 hb mb xb sv' iv' A' L' last' := by
  have l1 := h.live.step h1 hO f1 s1
  refine ⟨l1.other f2 (fun k hk => disj h1 hr1 k hk) h.own, h2, fun k hk => ?_, hp, hids⟩
  rcases hk with rfl | hk
  · exact h.own _ (.inl rfl)
  · rcases s2 k hk with h3 | h3
    · exact h.own _ (.inr h3)
    · have := h.live.fr.size; omega

/-- The reference heap is untouched by a step of the heap. -/
theorem Duo.ref1 {w0 w w1 : World} {hb mb xb : Nat} {sv iv : Value} {A L : List Ent} {last : Int} (h : Duo w0 w hb mb xb sv iv A L last) (f1 : Fr (Own hb mb sv) w w1) : RefAt w1 xb iv L last :=
  h.ref.fr f1 fun k hk ho => disj h.live.heap h.ref k ho hk

/-- An entry of the reference heap is an entry of the heap. -/
theorem Duo.mem {w0 w : World} {hb mb xb : Nat} {sv iv : Value} {A L : List Ent} {last : Int} (h : Duo w0 w hb mb xb sv iv A L last) {k : Nat} {e : Ent} (hk : L[k]? = some e) : ∃ j : Nat, A[j]? = some e := mem_get (h.perm.mem_iff.2 (List.mem_of_getElem? hk))

theorem erase_perm {L : List Ent} {k : Nat} {e : Ent} (hk : L[k]? = some e) : (e :: L.eraseIdx k).Perm L := by
  have hl := (List.getElem?_eq_some_iff.1 hk).1
  have he : L[k] = e := (List.getElem?_eq_some_iff.1 hk).2
  rw [List.eraseIdx_eq_take_drop_succ, ← he]
  have h1 : L = L.take k ++ L[k] :: L.drop (k + 1) := by rw [List.getElem_cons_drop, List.take_append_drop]
  exact (List.perm_middle.symm).trans (List.Perm.of_eq h1.symm)

/-- A change of a due time in both. -/
theorem due_perm {A L : List Ent} {j k : Nat} {e e' : Ent} (hp : A.Perm L) (hj : A[j]? = some e) (hk : L[k]? = some e) : (A.set j e').Perm (L.set k e') := by
  obtain ⟨R, h1, h2⟩ := set_perm hj
  obtain ⟨S, h3, h4⟩ := set_perm hk
  have h5 : R.Perm S := (List.perm_cons e).1 (h1.symm.trans (hp.trans h3))
  exact (h2 e').trans (((List.perm_cons e').2 h5).trans (h4 e').symm)

end Go.Proofs.Ytbobokhlcbojkaa
