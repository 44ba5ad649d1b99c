/-
  FRAME PARTS: how slices of unsigned numbers, bytes, strings that came in are told to the walks; no walk.
  Conditions: as each theorem says.
-/
import Derived.Test.YtdnfmilihfkhmaaDoorLa
import Derived.Test.YtdnfmilihfkhmaaDoorPs
import Derived.OpenShut
import Derived.ChangeMaps5
namespace Go.Proofs.YtdnfmilihfkhmaaDoor
open Go.ChangeShapes Go.WideShapes Go.ChangeAt Go.RowKit
set_option linter.unusedVariables false

theorem open_nums {H : Type} {enc : TypeId × Value → H} {w : World} {base : Nat} {held : Bool} {k : IntKind} {t e : TypeId} {a : Option Addr} {len cap : Nat} {d : DataW H} {ps : List MemPlace}
    (ht : Tryd.prog.underlying t = some (.slice e)) (he : Tryd.prog.underlying e = some (.int k)) (hc : Tryd.prog.cellsOf e = 1) (hk : ∀ n : Int, (Lit.int k n).wf = true → 0 ≤ n)
    (hd : DataW.Trod enc Tryd.prog w base (fun _ => true) held t (.slice a len cap) d ps) : ∃ gs : List Nat, At w a (nums k gs) ∧ gs.length = len ∧ len ≤ cap ∧ (a = none → cap = 0) ∧ ∀ g ∈ gs, (Lit.int k (g : Nat)).wf = true := by
  obtain ⟨fuel, hf⟩ := hd
  rcases open_ints ht he hc hf with ⟨hcs, _⟩ | ⟨x, l, c, zs, hcs, _, hl, hm, hz, _, hcell, hwz⟩
  · simp [Value.cells] at hcs
    obtain ⟨rfl, rfl, rfl⟩ := hcs
    exact ⟨[], At.nil _ _, rfl, Nat.le_refl _, fun _ => rfl, fun g hg => by cases hg⟩
  · simp [Value.cells] at hcs
    obtain ⟨rfl, rfl, rfl⟩ := hcs
    have hz' : zs.length = cap := by simpa using hz
    refine ⟨(zs.take len).map Int.toNat, ?_, by rw [List.length_map, List.length_take]; omega, hl, (fun h => by cases h), ?_⟩
    · intro i v hv
      rw [nums, List.getElem?_map, List.getElem?_map, List.getElem?_take] at hv
      split at hv
      · rename_i hil
        have hi : i < zs.length := by omega
        rw [List.getElem?_eq_getElem hi] at hv
        have h0 := hk _ (hwz _ (List.getElem_mem hi))
        have hcc := hcell i hi
        have hsp := World.cell?_spot (hcell 0 (by omega))
        obtain ⟨b, off, spot⟩ := x
        cases spot with
        | none =>
          refine ⟨b, off, rfl, ?_⟩
          rw [Go.WideShapes.add_plain] at hcc
          have hv' : v = Value.int k ((zs[i].toNat : Nat) : Int) := (Option.some.inj hv).symm
          have he' : ((zs[i].toNat : Nat) : Int) = zs[i] := by omega
          rw [hv', he', hcc, List.getD, List.getElem?_eq_getElem hi]
          rfl
        | some s => simp [Addr.add] at hsp
      · cases hv
    · intro g hg
      obtain ⟨z, hz1, rfl⟩ := List.mem_map.1 hg
      have hw := hwz z (List.mem_of_mem_take hz1)
      rw [show ((z.toNat : Nat) : Int) = z by have := hk z hw; omega]
      exact hw
theorem wf_u16 {n : Int} (h : (Lit.int .u16 n).wf = true) : 0 ≤ n := (bounds_u16 h).1
theorem wf_u8 {n : Int} (h : (Lit.int .u8 n).wf = true) : 0 ≤ n := (bounds_u8 h).1
theorem u16_lt {gs : List Nat} (h : ∀ g ∈ gs, (Lit.int .u16 (g : Nat)).wf = true) : ∀ g ∈ gs, g < 65536 := fun g hg => by have := (bounds_u16 (h g hg)).2; omega
theorem u8_lt {gs : List Nat} (h : ∀ g ∈ gs, (Lit.int .u8 (g : Nat)).wf = true) : ∀ g ∈ gs, g < 256 := fun g hg => by have := (bounds_u8 (h g hg)).2; omega
theorem u8_nat {z : Int} (h : (Lit.int .u8 z).wf = true) : ∃ n : Nat, z = n ∧ n < 256 := ⟨z.toNat, by have := (bounds_u8 h).1; omega, by have := bounds_u8 h; omega⟩
end Go.Proofs.YtdnfmilihfkhmaaDoor
