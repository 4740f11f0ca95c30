import Derived.Test.YtddbjcfdmdbmkaaGreatDoorB20
import Derived.Test.YtddbjcfdmdbmkaaGreatDoorB03
import Derived.Deep.CutRange
import Derived.Deep.RegionWith
set_option linter.unusedVariables false
set_option linter.unusedSimpArgs false
namespace Go.Proofs.YtddbjcfdmdbmkaaGreatDoor
open Go.RowKit

structure SWk (H : Nat) (wr : World) (sv nv gv : Value) (k : Nat) : Prop where
  s : ∃ n xs, n ≤ k ∧ wr.ownsRow H 196 3 sv n xs
  n : ∃ nm : List ByteArray, nm.length ≤ k ∧ wr.ownsRow H 9 1 nv nm.length (nm.map Value.string)
  g : ∃ n xs, n ≤ k ∧ wr.ownsRow H 194 2 gv n xs
theorem SWk.keep {H : Nat} {wr wx : World} {sv nv gv : Value} {k : Nat} (h : SWk H wr sv nv gv k) (hb : ∀ z, z < wr.heap.size → wx.heap[z]? = wr.heap[z]?) : SWk H wx sv nv gv k := by
  obtain ⟨⟨n1, x1, l1, r1⟩, ⟨nm, l2, r2⟩, ⟨n3, x3, l3, r3⟩⟩ := h
  exact ⟨⟨n1, x1, l1, row_of_blk r1 fun g hg => hb g (r1.lt g hg).2⟩, ⟨nm, l2, row_of_blk r2 fun g hg => hb g (r2.lt g hg).2⟩, ⟨n3, x3, l3, row_of_blk r3 fun g hg => hb g (r3.lt g hg).2⟩⟩
theorem rows_apart {w : World} {b1 b2 : Nat} {e1 e2 : TypeId} {s1 s2 : Nat} {v1 v2 : Value} {n1 n2 : Nat} {x1 x2 : List Value} (h1 : w.ownsRow b1 e1 s1 v1 n1 x1) (h2 : w.ownsRow b2 e2 s2 v2 n2 x2) (he : e1 ≠ e2) : ∀ g, v1.ownBlock = some g → v2.ownBlock ≠ some g := by
  intro g hg hg2
  rcases h1.2 with ⟨rfl, _⟩ | ⟨g1, c1, cur1, rfl, _, q1, _⟩
  · cases hg
  · rcases h2.2 with ⟨rfl, _⟩ | ⟨g2, c2, cur2, rfl, _, q2, _⟩
    · cases hg2
    · simp only [Value.ownBlock, Option.some.injEq] at hg hg2
      subst hg; subst hg2
      rw [q1] at q2
      simp only [Option.some.injEq, Obj.cells.injEq] at q2
      exact he q2.2.1
theorem row_other {w w' : World} {b1 b2 : Nat} {e1 e2 : TypeId} {s1 s2 : Nat} {v1 v2 : Value} {n1 n2 : Nat} {x1 x2 : List Value} (h1 : w.ownsRow b1 e1 s1 v1 n1 x1) (h2 : w.ownsRow b2 e2 s2 v2 n2 x2) (he : e1 ≠ e2) (hg : w.grownBy w' v2.ownBlock) : w'.ownsRow b1 e1 s1 v1 n1 x1 :=
  row_of_blk h1 fun g hgg => hg.block g (h1.lt g hgg).2 (fun e => rows_apart h1 h2 he g hgg e.symm)
theorem Tryz.infoWant : (Tryz.prog.info? 194).map (fun i => (i.zero, i.size, i.bytes)) = some (some (.agg #[.int .i64 0, .slice none 0 0]), 2, 32) := by kernel_rfl
theorem Tryz.infoWstep : (Tryz.prog.info? 196).map (fun i => (i.zero, i.size, i.bytes)) = some (some (.agg #[.int .i64 0, .slice none 0 0, .slice none 0 0]), 3, 56) := by kernel_rfl
theorem Tryz.infoStr2 : (Tryz.prog.info? 9).map (fun i => (i.zero, i.size, i.bytes)) = some (some (.string ⟨#[]⟩), 1, 16) := by kernel_rfl

set_option maxRecDepth 100000 in
set_option maxHeartbeats 800000 in
theorem bind_nil {w : World} {a : Option Addr} {C : Nat} {kv : Value} :
    Calls Tryz.prog 90 #[.slice a 0 C, kv] w fun e w' => ∃ p n c, e = .returned (.slice p n c) ∧ Below w.heap.size w w' := by
  go_enter Tryz.func90, Tryz.ntmps90
  go_wp2
  go_loopw [5, 11] (fun v i wr => v = .slice none 0 0 ∧ i = .int .i64 0 ∧ wr = w) (fun _ _ _ => 0)
  case atStart => exact ⟨rfl, rfl, rfl⟩
  case round =>
    obtain ⟨rfl, rfl, rfl⟩ := hrel
    go_wp2
    go_ret
    exact ⟨_, _, _, rfl, Below.refl _ _⟩
theorem bind_any {own : Nat → Nat} {w : World} {cv : Value} {ops : List POp} (hO : OpsLie own w cv ops) (hol : ops.length ≤ 1000000) {g cap : Nat} {names : List ByteArray} (hg : g < w.heap.size) (hN : ∀ k, (hk : k < names.length) → w.cell? ⟨g, k, none⟩ = some (.string names[k])) (h1 : 1 ≤ names.length) (hnl : names.length ≤ 1000000) :
    Calls Tryz.prog 90 #[cv, .slice (some ⟨g, 0, none⟩) names.length cap] w fun e w' => ∃ p n c, e = .returned (.slice p n c) ∧ Below w.heap.size w w' := by
  rcases hO.open with ⟨rfl, p, c, rfl⟩ | ⟨G, C, rfl, hG, hc⟩
  · exact bind_nil
  · refine (bind_w hG hc hol hg hN h1 hnl).mono ?_
    rintro e w' ⟨v, rfl, hr, hb⟩
    obtain ⟨a, b, c, rfl⟩ := row_form hr
    exact ⟨a, b, c, rfl, hb⟩
end Go.Proofs.YtddbjcfdmdbmkaaGreatDoor
