/-
  Rows of handles, and what a family's row is; no walk.
  Conditions: as each theorem says.
-/
import Derived.Test.YtbgddldkpjeieaaGreatSort
import Derived.Maps.RangeWalk
import Derived.OwnWalk
import Derived.Laws.AppendOwn
import Derived.Laws.IdiomRangeMap
namespace Go.Proofs.YtbgddldkpjeieaaGreat
open Go.ChangeShapes Go.WideShapes Go.ChangeAt Go.RowKit Go.Maps
set_option linter.unusedVariables false

def FamRow (w w' : World) (g cap : Nat) (L : List Rec) (k : Int) : Prop := w'.ownsRow w.heap.size 3 1 (.slice (some ⟨g, 0, none⟩) (fam L k).length cap) (fam L k).length (((fam L k).map Rec.id).map (Value.int .i64))

theorem info3 : (Tryz.prog.info? 3).map (fun i => (i.zero, i.size, i.bytes)) = some (some (.int .i64 0), 1, 8) := by kernel_rfl

theorem row_cell {w : World} {base rb n cap : Nat} {xs : List Int} (h : w.ownsRow base 3 1 (.slice (some ⟨rb, 0, none⟩) n cap) n (xs.map (Value.int .i64))) {i : Nat} {y : Int} (hy : xs[i]? = some y) : w.cell? ⟨rb, i, none⟩ = some (.int .i64 y) := by
  have := h.cells (g := rb) rfl i (.int .i64 y) (by rw [List.getElem?_map, hy]; rfl)
  rw [Addr.add_lit] at this
  simpa using this

theorem row_keep1 {w w' : World} {base rb n cap : Nat} {xs : List Value} (h : w.ownsRow base 3 1 (.slice (some ⟨rb, 0, none⟩) n cap) n xs) (hf : Fr No w w') : w'.ownsRow base 3 1 (.slice (some ⟨rb, 0, none⟩) n cap) n xs := by
  refine ⟨h.1, ?_⟩
  rcases h.2 with hv | ⟨g, cap', cur, hv, h1, h2, h3⟩
  · exact .inl hv
  · exact .inr ⟨g, cap', cur, hv, h1, (hf.block g (Array.getElem?_eq_some_iff.1 h2).1 (fun h => h)).trans h2, h3⟩

theorem row_keep2 {w w' : World} {base rb n cap : Nat} {xs : List Value} {row : Option Nat} (h : w.ownsRow base 3 1 (.slice (some ⟨rb, 0, none⟩) n cap) n xs) (hf : w.grownBy w' row) (hne : (Value.slice (some ⟨rb, 0, none⟩) n cap).ownBlock ≠ row) : w'.ownsRow base 3 1 (.slice (some ⟨rb, 0, none⟩) n cap) n xs := by
  refine ⟨h.1, ?_⟩
  rcases h.2 with hv | ⟨g, cap', cur, hv, h1, h2, h3⟩
  · exact .inl hv
  · refine .inr ⟨g, cap', cur, hv, h1, (hf.block g (Array.getElem?_eq_some_iff.1 h2).1 (fun e => hne ?_)).trans h2, h3⟩
    rw [hv]; exact e

theorem fr_base {w w' : World} (h : Fr (fun k => w.heap.size ≤ k) w w') : Fr No w w' :=
  ⟨h.os, h.tape, h.output, h.size, fun k hk _ => h.block k hk (by omega)⟩

theorem one_cell (w : World) (z : Int) : ∀ (j : Nat) (u : Value), [Value.int .i64 z][j]? = some u → (w.alloc (.cells #[.int .i64 z] 3)).cell? ((⟨w.heap.size, 0, none⟩ : Addr).add j) = some u := by
  intro j u hj
  match j, hj with
  | 0, hj => simp at hj; subst hj; simp [Addr.add]

theorem one_one (z : Int) : ∀ u ∈ [Value.int .i64 z], u.oneCell' = true := by intro u hu; simp at hu; subst hu; rfl

theorem invK3 : ∀ key kl, keyOf Tryz.prog 3 key = some kl → ∃ x, key = Value.int .i64 x := fun key kl h => by
  obtain ⟨x, hx, _⟩ := Maps.keyOf_int_inv Tryz.underlying3 h; exact ⟨x, hx⟩

theorem invV4 : ∀ (v : Value) (y : DataW Unit × List MemPlace), plainElem Tryz.prog 4 v = some y → ∃ c, v = Value.bool c := fun v y h => by
  cases v <;> simp [plainElem, Tryz.underlying4] at h
  exact ⟨_, rfl⟩

theorem key_of_int {x : Int} {kl : Lit} (h : keyOf Tryz.prog 3 (Value.int .i64 x) = some kl) : kl = key x := by
  obtain ⟨y, hy, h1, _⟩ := Maps.keyOf_int_inv Tryz.underlying3 h
  cases hy; exact h1

theorem Bfs.room {L : List Rec} {last k : Int} {xs ys : List Int} {i : Nat} {y : Int} (hB : Bfs L k xs i) (h : Wood L last) (hk : 1 ≤ k) (hy : xs[i]? = some y) (hn : ys.Nodup) (hm : ∀ x ∈ ys, kid L y x) : ((xs.length + ys.length : Nat) : Int) ≤ last := by
  have hyx : y ∈ xs := List.mem_of_getElem? hy
  have hyu := (hB.mem y hyx).2
  have hap : (xs ++ ys).Nodup := by
    refine List.nodup_append.2 ⟨hB.nd, hn, ?_⟩
    intro a ha b hb e
    subst e
    obtain ⟨r, hr, rfl, hp⟩ := hm a hb
    rcases hB.from_ _ ha with e | ⟨j, hj, z, hz, r', hr', he, hp'⟩
    · have h1 := h.under_le hk hyu
      have h2 := h.par_lt hr
      omega
    · have := h.uniq hr' hr he
      subst this
      rw [hp] at hp'
      subst hp'
      have h1 := (List.getElem?_inj (List.getElem?_eq_some_iff.1 hz).1 hB.nd).1 (hz.trans hy.symm)
      omega
  have h1 : (xs ++ ys).length ≤ (L.map Rec.id).length := by
    refine len_of_sub hap fun x hx => ?_
    rcases List.mem_append.1 hx with hx | hx
    · obtain ⟨⟨r, hr, rfl⟩, _⟩ := hB.mem x hx
      exact List.mem_map_of_mem hr
    · obtain ⟨r, hr, rfl, _⟩ := hm x hx
      exact List.mem_map_of_mem hr
  have h2 := h.len
  simp at h1
  omega

theorem sort_row (base g cap : Nat) (zs : List Int) (n : Nat) (w : World) (hn : zs.length = n) (h : w.ownsRow base 3 1 (.slice (some ⟨g, 0, none⟩) n cap) n (zs.map (Value.int .i64))) (hsz : n ≤ 1000) :
    Calls Tryz.prog 44 #[.slice (some ⟨g, 0, none⟩) n cap] w fun e w' => e = .returned (.tuple #[]) ∧ w'.ownsRow base 3 1 (.slice (some ⟨g, 0, none⟩) n cap) n ((sorted zs).map (Value.int .i64)) ∧ Fr (fun k => k = g) w w' := by
  subst hn
  exact sort_any base g cap zs w h hsz

theorem row_base {w : World} {base base' rb n cap : Nat} {xs : List Value} (h : w.ownsRow base 3 1 (.slice (some ⟨rb, 0, none⟩) n cap) n xs) (hb : base' ≤ base) : w.ownsRow base' 3 1 (.slice (some ⟨rb, 0, none⟩) n cap) n xs := by
  refine ⟨h.1, ?_⟩
  rcases h.2 with hv | ⟨g, cap', cur, hv, h1, h2, h3⟩
  · exact .inl hv
  · exact .inr ⟨g, cap', cur, hv, Nat.le_trans hb h1, h2, h3⟩

theorem row_block {w : World} {base rb n cap : Nat} {xs : List Value} (h : w.ownsRow base 3 1 (.slice (some ⟨rb, 0, none⟩) n cap) n xs) : ∃ cur, w.heap[rb]? = some (.cells cur 3 (0, 0)) := by
  rcases h.2 with ⟨hv, _⟩ | ⟨g, cap', cur, hv, h1, h2, h3⟩
  · cases hv
  · cases hv; exact ⟨cur, h2⟩

theorem map_keep {w w' : World} {c n : Nat} {D : DataW Unit} (h : w.ownsMap Tryz.prog 3 (plainElem Tryz.prog 4) c n D) (hf : Fr No w w') : w'.ownsMap Tryz.prog 3 (plainElem Tryz.prog 4) c n D := by
  have hlt := h.lt
  obtain ⟨es, cl, h5, h6⟩ := h
  exact ⟨es, cl, (hf.block c hlt (fun h => h)).trans h5, h6⟩

end Go.Proofs.YtbgddldkpjeieaaGreat
