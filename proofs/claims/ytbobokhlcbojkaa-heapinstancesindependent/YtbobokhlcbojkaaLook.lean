/-
  What the law HeapHandleLookup leans on: the remainder, which handles are there behind a removal.
  Conditions: as each theorem says.
-/
import Derived.Test.YtbobokhlcbojkaaAwake
import Derived.Test.YtbobokhlcbojkaaPop
import Derived.Test.YtbobokhlcbojkaaU5
namespace Go.Proofs.Ytbobokhlcbojkaa
open Go.ChangeShapes Go.WideShapes Go.ChangeAt Go.RowKit Go.Maps
set_option linter.unusedVariables false

theorem mod_any (v : Int) (n : Nat) (w : World) (h1 : 1 ≤ n) (h2 : n ≤ 1000) (hv : -9223372036854775808 ≤ v ∧ v ≤ 9223372036854775807) :
    Calls Try.prog 9 #[.int .i64 v, .int .i64 n] w fun e w' => ∃ r : Nat, r < n ∧ e = .returned (.int .i64 r) ∧ w' = w := by
  obtain ⟨hv0, hv1⟩ := hv
  have hn0 : ¬ ((n : Int) = 0) := by omega
  go_enter Try.func9, Try.ntmps9
  go_wp2
  go_ret
  have hu : 0 ≤ IntKind.u64.wrap v := by simp [IntKind.wrap, IntKind.bits, IntKind.signed]; omega
  generalize IntKind.u64.wrap v = u at hu ⊢
  have e1 : u.tmod n = u % n := Int.tmod_eq_emod_of_nonneg hu
  have h3 : 0 ≤ u % (n : Int) := Int.emod_nonneg _ hn0
  have h4 : u % (n : Int) < n := Int.emod_lt_of_pos _ (by omega)
  rw [e1]
  generalize u % (n : Int) = r at h3 h4
  obtain ⟨k, rfl⟩ : ∃ k : Nat, r = k := ⟨r.toNat, by omega⟩
  refine ⟨k, by omega, ret_int ?_, rfl⟩
  unfold wrap64; omega

def mkX (z : Nat → Int) (j : Nat) : Value := .int .u64 (bits BinOp.xor IntKind.u64 (z j) 5)

theorem Tied.nodup {D : DataW Unit} {A : List Ent} (h : Tied D A) : (A.map Ent.id).Nodup := by
  rw [List.Nodup, List.pairwise_iff_getElem]
  intro i j hi hj hij
  simp only [List.length_map] at hi hj
  simp only [List.getElem_map]
  intro e
  have := h.inj (List.getElem?_eq_getElem hi) (List.getElem?_eq_getElem hj) e
  omega

theorem gone {V : Value → Prop} {st en : TypeId} {w : World} {hb mb : Nat} {sv : Value} {A B : List Ent} {last : Int} {e : Ent} (h : HeapAt V st en w hb mb sv A last) (hp : (e :: B).Perm A) : ∀ (i : Nat) (e' : Ent), B[i]? = some e' → e'.id ≠ e.id := by
  obtain ⟨⟨D, hr, ht⟩, hg⟩ := h
  have hn := (hp.map Ent.id).nodup_iff.2 ht.nodup
  intro i e' hi he
  have := (List.nodup_cons.1 hn).1
  exact this (by rw [← he]; exact List.mem_map.2 ⟨e', List.mem_of_getElem? hi, rfl⟩)

theorem pushed_get (z : Nat → Int) (mk : Nat → Value) {n q : Nat} (h : q < n) : ent z mk q ∈ pushed z mk n := by
  simp only [pushed, List.mem_map, List.mem_range]
  exact ⟨q, h, rfl⟩

end Go.Proofs.Ytbobokhlcbojkaa
