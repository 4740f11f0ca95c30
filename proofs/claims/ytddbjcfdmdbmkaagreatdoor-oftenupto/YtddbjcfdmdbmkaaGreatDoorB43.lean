import Derived.Test.YtddbjcfdmdbmkaaGreatDoorB41
set_option linter.unusedVariables false
set_option linter.unusedSimpArgs false
namespace Go.Proofs.YtddbjcfdmdbmkaaGreatDoor
open Go.RowKit

def FedOK (S : Nat → Prop) (w : World) (E bd : Nat) (c : WC) (evs : List Ev) (e : Ev) (S' : Nat → Prop) (v : Value) (ys : List (List Nat)) (w' : World) : Prop :=
  (∀ b, S' b → S b ∨ w.heap.size ≤ b) ∧ Chg S w w' ∧ (∃ B xs, ListsAt B w' v xs ∧ w.heap.size ≤ B ∧ (∀ b, (v.ownBlock = some b ∨ ∃ y ∈ xs, y.1.ownBlock = some b) → ¬ S' b) ∧ xs.map (·.2) = ys) ∧ SortedL ys ∧ (∀ t, t ∈ ys ↔ MatchOK (absP c.paths) c.win (evs ++ [e]) t) ∧ Eng S' w' E bd 0 c (evs ++ [e])
set_option maxRecDepth 100000 in
set_option maxHeartbeats 1600000 in
theorem feedK_p {S : Nat → Prop} {w : World} {E bd : Nat} {c : WC} {evs : List Ev} (h : Eng S w E bd 0 c evs) (hc : WellE c) (hel : evs.length ≤ 100000000) (e : Ev) (he : In64 e.time) (hz : feedFP c.win c.rate evs e.time = 0) :
    Calls Tryz.prog 26 #[.pointer (some ⟨E, 0, none⟩), evVal e] w fun x w' => ∃ S' v ys, x = .returned (.tuple #[v, .bool true]) ∧ FedOK S w E bd c evs e S' v ys w' := by
  have hN := Blk.new w #[.int .i64 e.time, .int .i64 e.kind, .int .i64 e.a, .int .i64 e.b, .int .i64 e.c] 44
  have hch : Chg (fun _ => False) w (w.alloc (.cells #[.int .i64 e.time, .int .i64 e.kind, .int .i64 e.a, .int .i64 e.b, .int .i64 e.c] 44)) := (Chg.refl _ w).alloc _
  have hlt := h.lt
  have h1 := h.to hch (fun _ k => k.elim)
  unfold evVal
  go_enter Tryz.func26, Tryz.ntmps26
  go_upto_region 1 with fail
  generalize w.alloc (.cells #[.int .i64 e.time, .int .i64 e.kind, .int .i64 e.a, .int .i64 e.b, .int .i64 e.c] 44) = W at *
  have v0 := hN.cell 0; have v1 := hN.cell 1; have v2 := hN.cell 2; have v3 := hN.cell 3; have v4 := hN.cell 4; have l3 := hN.lt
  simp at v0 v1 v2 v3 v4
  have hf := feed_go h1 hc hel e he hz
  unfold evVal at hf
  go_wp2_with (first
    | (go_at_call 27; refine hf.mono ?_; rintro x1 w1 ⟨S', v, B, ys, rfl, q1, q2, q3, q4, q5, q6, q7, q8⟩))
  have hs := hch.size
  refine bodyPost_ret (v := .tuple #[v, .bool true]) (by simp [results, Tryz.results26, go_sem]) rfl ⟨S', v, _, rfl, fun b hb => ?_, (hch.mono (fun b _ k => k.elim)).trans q2 (fun b _ k => k), ⟨B, ys, q3, by omega, q5, rfl⟩, q6, q7, q8⟩
  rcases q1 b hb with k | k
  · exact .inl k
  · exact .inr (by omega)
end Go.Proofs.YtddbjcfdmdbmkaaGreatDoor
