import Derived.Test.YtddbjcfdmdbmkaaGreatDoorB40
import Derived.Test.YtddbjcfdmdbmkaaGreatDoorB02
set_option linter.unusedVariables false
set_option linter.unusedSimpArgs false
namespace Go.Proofs.YtddbjcfdmdbmkaaGreatDoor
open Go.RowKit

theorem Chg.bel {M : Nat → Prop} {w w' : World} (h : Chg M w w') {k : Nat} (hk : k ≤ w.heap.size) (hM : ∀ b, M b → k ≤ b) : Below k w w' := ⟨h.os, h.tape, h.output, Chg.size h, fun b hb => h.at b (by omega) (fun m => by have := hM b m; omega)⟩
structure ListsR (w : World) (v : Value) (ys : List (List Nat)) : Prop where
  form : ∃ a c, v = .slice a ys.length c ∧ (0 < ys.length → ∃ g, a = some ⟨g, 0, none⟩ ∧ g < w.heap.size ∧ ∀ k, (hk : k < ys.length) → ∃ u, w.cell? ⟨g, k, none⟩ = some u ∧ IntsAt w u ys[k])
theorem ListsAt.read {B : Nat} {w : World} {v : Value} {ys : List VL} (h : ListsAt B w v ys) : ListsR w v (ys.map (·.2)) := by
  refine ⟨?_⟩
  rcases h.row.2 with ⟨rfl, h0⟩ | ⟨g, cap, cur, rfl, _, hg, _⟩
  · exact ⟨none, 0, by rw [List.length_map, h0], fun hp => by rw [List.length_map] at hp; omega⟩
  · refine ⟨_, _, by rw [List.length_map], fun _ => ⟨g, rfl, (Array.getElem?_eq_some_iff.1 hg).1, fun k hk => ?_⟩⟩
    have hk' : k < ys.length := by simpa using hk
    refine ⟨ys[k].1, ?_, ?_⟩
    · have := h.row.cells (g := g) rfl k ys[k].1 (by rw [List.getElem?_map, List.getElem?_eq_getElem hk']; rfl)
      rw [addr_add, Nat.zero_add] at this; exact this
    · have := IntsAt.of_row (h.inner ys[k] (List.getElem_mem hk'))
      simpa using this
theorem feed_go {S : Nat → Prop} {w : World} {E bd : Nat} {c : WC} {evs : List Ev} (h : Eng S w E bd 0 c evs) (hc : WellE c) (hel : evs.length ≤ 100000000) (e : Ev) (he : In64 e.time) (hz : feedFP c.win c.rate evs e.time = 0) :
    Calls Tryz.prog 27 #[.pointer (some ⟨E, 0, none⟩), evVal e] w fun x w' => ∃ S' v B ys, x = .returned (.tuple #[v, .int .i64 0]) ∧ (∀ b, S' b → S b ∨ w.heap.size ≤ b) ∧ Chg S w w' ∧ ListsAt B w' v ys ∧ w.heap.size ≤ B ∧ (∀ b, (v.ownBlock = some b ∨ ∃ y ∈ ys, y.1.ownBlock = some b) → ¬ S' b) ∧ SortedL (ys.map (·.2)) ∧ (∀ t, t ∈ ys.map (·.2) ↔ MatchOK (absP c.paths) c.win (evs ++ [e]) t) ∧ Eng S' w' E bd 0 c (evs ++ [e]) := by
  refine (feed_eng h hc hel e he).mono ?_
  rintro x w' ⟨S', f', evs', h1, h2, h3, h4⟩
  generalize hf0 : (0 : Nat) = f0 at h3
  cases h3 with
  | failed hf => exact absurd hf0.symm hf
  | fault hf => exact absurd hz hf
  | ok h5 h6 h7 h8 h9 h10 => exact ⟨S', _, _, _, rfl, h1, h2, h6, h7, h8, h9, h10, h4⟩
def exPaths : List (List ASt) := absP [stepsL (rowL exX)]
def exE1 : Ev := ⟨0, 1, 7, 0, 0⟩
def exE2 : Ev := ⟨9, 2, 7, 0, 0⟩
theorem ex_m1 : allMatches exPaths 10 [exE1] = [] := by kernel_rfl
theorem ex_m2 : allMatches exPaths 10 [exE1, exE2] = [[0, 1]] := by kernel_rfl
theorem ex_ne : ∀ p ∈ exPaths, p ≠ [] := by
  intro p hp
  have e : exPaths.all (fun p => !p.isEmpty) = true := by kernel_rfl
  have := List.all_eq_true.1 e p hp
  rintro rfl
  simp at this
theorem mono1 (e : Ev) : Mono [e] := by
  intro i j hij hj
  simp at hj
  subst hj
  have : i = 0 := by omega
  rw [this]; exact Int.le_refl _
theorem mono2 {e f : Ev} (h : e.time ≤ f.time) : Mono [e, f] := by
  intro i j hij hj
  simp at hj
  match i, j, hij, hj with
  | 0, 0, _, _ => exact Int.le_refl _
  | 0, 1, _, _ => exact h
  | 1, 1, _, _ => exact Int.le_refl _
  | i + 2, j, h1, h2 => omega
theorem ex_no {t : List Nat} : ¬ MatchOK exPaths 10 [exE1] t := by
  rw [← match_mem (mono1 _) ex_ne, ex_m1]; simp
theorem ex_yes {t : List Nat} : MatchOK exPaths 10 [exE1, exE2] t ↔ t ∈ [[0, 1]] := by
  rw [← match_mem (mono2 (by decide)) ex_ne, ex_m2]
theorem sorted1 (t : List Nat) : SortedL [t] := List.pairwise_singleton _ _
set_option maxRecDepth 100000 in
set_option maxHeartbeats 1600000 in
theorem begin_p {s : ByteArray} {W R bd : Nat} {paths : List (List WStep)} (h : TextOK s W R bd paths) (w : World) :
    Calls Tryz.prog 24 #[.string s] w fun x w' => ∃ E Z pv svs, x = .returned (.pointer (some ⟨E, 0, none⟩)) ∧ Below w.heap.size w w' ∧ (∀ b, Z b → w.heap.size ≤ b) ∧ Eng Z w' E bd 0 ⟨W, R, pv, paths, svs⟩ [] := by
  have hx := compile_text ex_text w
  have hs := fun w1 => compile_text h w1
  unfold exText at hx
  have f1 : feedFP 10 5 [] exE1.time = 0 := by kernel_rfl
  have f2 : feedFP 10 5 ([] ++ [exE1]) exE2.time = 0 := by kernel_rfl
  go_enter Tryz.func24, Tryz.ntmps24
  go_upto_region 4 with (first
    | (go_at_call 15; refine hx.mono ?_; rintro x1 w1 ⟨E1, Z1, pv1, sv1, rfl, hb1, hz1, hE1⟩))
  have hc1 := ex_text.well pv1 sv1
  have hfe := feed_go hE1 hc1 (by simp) exE1 (by unfold In64 exE1; simp) f1
  unfold evVal exE1 at hfe
  simp only at hfe
  go_upto_region 5 with (first
    | (go_at_call 27; refine hfe.mono ?_; rintro x2 w2 ⟨Z2, v2, B2, ys2, rfl, hz2, hch2, hl2, hB2, hbl2, hso2, hm2, hE2⟩))
  have hy2 : ys2 = [] := by
    cases ys2 with
    | nil => rfl
    | cons y l => exact absurd ((hm2 y.2).1 (by simp)) ex_no
  subst hy2
  obtain ⟨a2, c2, rfl, _⟩ := hl2.read.form
  have hfe2 := feed_go hE2 hc1 (by simp) exE2 (by unfold In64 exE2; simp) f2
  unfold evVal exE2 at hfe2
  simp only at hfe2
  clear hfe hx hl2 hbl2 hso2 hm2 f1 f2 hE1 hE2
  go_upto_region 6 with (first
    | (go_at_call 27; refine hfe2.mono ?_; rintro x3 w3 ⟨Z3, v3, B3, ys3, rfl, hz3, hch3, hl3, hB3, hbl3, hso3, hm3, hE3⟩))
  have hy3 : ys3.map (·.2) = [[0, 1]] := sorted_uniq hso3 (sorted1 _) (fun t => (hm3 t).trans ex_yes)
  have hr3 := hl3.read
  rw [hy3] at hr3
  obtain ⟨a3, c3, rfl, hg3⟩ := hr3.form
  obtain ⟨g3, rfl, hg3l, hk3⟩ := hg3 (by simp)
  obtain ⟨u3, hu3, hi3⟩ := hk3 0 (by simp)
  obtain ⟨a4, c4, rfl, hg4⟩ := hi3
  obtain ⟨g4, rfl, hg4l, hk4⟩ := hg4 (by simp)
  have k0 := hk4 0 (by simp)
  have k1 := hk4 1 (by simp)
  simp at hu3 k0 k1
  have hb3 : Below w.heap.size w w3 := by
    have s1 := hb1.size
    have s2 := Chg.size hch2
    refine (hb1.trans (hch2.bel s1 hz1)).trans (hch3.bel (by omega) (fun b hb => ?_))
    rcases hz2 b hb with k | k
    · exact hz1 b k
    · omega
  clear hfe2 hk4 hk3 hg3 hg4 hr3 hy3 hl3 hbl3 hso3 hm3 hch2 hch3 hz2 hz3 hE3
  have hs3 := hs w3
  clear hs
  go_wp2_with (first
    | (go_at_call 15; refine hs3.mono ?_; rintro x4 w4 ⟨E4, Z4, pv4, sv4, rfl, hb4, hz4, hE4⟩))
  go_ret
  exact ⟨E4, Z4, pv4, sv4, rfl, hb3.trans (hb4.mono hb3.size), fun b hb => Nat.le_trans hb3.size (hz4 b hb), hE4⟩
end Go.Proofs.YtddbjcfdmdbmkaaGreatDoor

namespace Go.Proofs.YtddbjcfdmdbmkaaGreatDoor
open Go.RowKit

theorem tl1 (b : UInt8) : (txt [b]).toList = [b] := by kernel_rfl
theorem tl2 (b c : UInt8) : (txt [b, c]).toList = [b, c] := by kernel_rfl
theorem tlPush : tPush.toList = [112, 117, 115, 104] := by kernel_rfl
theorem tlOpp : tOpp.toList = [111, 112, 112, 111, 115, 105, 116, 101] := by kernel_rfl
theorem tlAnd : (txt [97, 110, 100]).toList = [97, 110, 100] := by kernel_rfl
theorem tlOr : (txt [111, 114]).toList = [111, 114] := by kernel_rfl
theorem top1 (l : List Int) (x : Int) : (l ++ [x]).getLastD 0 = x ∧ (l ++ [x]).dropLast = l := ⟨by simp [List.getLastD_eq_getLast?], List.dropLast_concat⟩
section
variable (es : List Ev) (it : Ev) (l : List Int) (x y : Int) (z : Bool) (n : Nat)
theorem do_push : doP es it (l, z) (tPush, n) = (l ++ [(n : Int)], z) := by unfold doP; rw [tlPush]; rfl
theorem do_a : doP es it (l, z) (txt [97], n) = (l ++ [(evP es it n).a], z) := by unfold doP; rw [tl1]; rfl
theorem do_b : doP es it (l, z) (txt [98], n) = (l ++ [(evP es it n).b], z) := by unfold doP; rw [tl1]; rfl
theorem do_c : doP es it (l, z) (txt [99], n) = (l ++ [(evP es it n).c], z) := by unfold doP; rw [tl1]; rfl
theorem do_t : doP es it (l, z) (txt [116], n) = (l ++ [(evP es it n).time], z) := by unfold doP; rw [tl1]; rfl
theorem do_opp : doP es it (l ++ [x], z) (tOpp, n) = (l ++ [wrap64 (-x)], z) := by
  unfold doP; rw [tlOpp]; simp only [(top1 l x).1, (top1 l x).2]; rfl
theorem do_two (s : ByteArray) (hs : arityP (s, n) = 2) : doP es it (l ++ [x] ++ [y], z) (s, n) = (l ++ [(stkBP z x s y).1], (stkBP z x s y).2) := by
  unfold arityP at hs
  unfold doP
  simp only at hs ⊢
  generalize s.toList = t at hs ⊢
  split at hs
  · cases hs
  · rename_i h1
    simp only [Bool.or_eq_true, not_or] at h1
    split at hs
    · cases hs
    · rename_i h2
      rw [if_neg h1.1.1.1.1, if_neg h1.1.1.1.2, if_neg h1.1.1.2, if_neg h1.1.2, if_neg h1.2, if_neg h2]
      simp only [(top1 (l ++ [x]) y).1, (top1 (l ++ [x]) y).2, (top1 l x).1, (top1 l x).2]
theorem do_add : doP es it (l ++ [x] ++ [y], z) (txt [43], n) = (l ++ [wrap64 (x + y)], z) := by
  rw [do_two es it l x y z n _ (by kernel_rfl)]; unfold stkBP; rw [tl1]; rfl
theorem do_sub : doP es it (l ++ [x] ++ [y], z) (txt [45], n) = (l ++ [wrap64 (x - y)], z) := by
  rw [do_two es it l x y z n _ (by kernel_rfl)]; unfold stkBP; rw [tl1]; rfl
theorem do_mul : doP es it (l ++ [x] ++ [y], z) (txt [42], n) = (l ++ [wrap64 (x * y)], z) := by
  rw [do_two es it l x y z n _ (by kernel_rfl)]; unfold stkBP; rw [tl1]; rfl
theorem do_div : doP es it (l ++ [x] ++ [y], z) (txt [47], n) = (l ++ [(divP z x y).1], (divP z x y).2) := by
  rw [do_two es it l x y z n _ (by kernel_rfl)]; unfold stkBP divP; rw [tl1]; rfl
theorem do_and : doP es it (l ++ [x] ++ [y], z) (txt [97, 110, 100], n) = (l ++ [bits BinOp.and .i64 x y], z) := by
  rw [do_two es it l x y z n _ (by kernel_rfl)]; unfold stkBP; rw [tlAnd]; rfl
theorem do_or : doP es it (l ++ [x] ++ [y], z) (txt [111, 114], n) = (l ++ [bits BinOp.or .i64 x y], z) := by
  rw [do_two es it l x y z n _ (by kernel_rfl)]; unfold stkBP; rw [tlOr]; rfl
theorem do_eq : doP es it (l ++ [x] ++ [y], z) (txt [61], n) = (l ++ [tstP z x (txt [61]) y], false) := by
  rw [do_two es it l x y z n _ (by kernel_rfl)]; unfold stkBP; rw [tl1]; rfl
theorem do_lt : doP es it (l ++ [x] ++ [y], z) (txt [60], n) = (l ++ [tstP z x (txt [60]) y], false) := by
  rw [do_two es it l x y z n _ (by kernel_rfl)]; unfold stkBP; rw [tl1]; rfl
theorem do_gt : doP es it (l ++ [x] ++ [y], z) (txt [62], n) = (l ++ [tstP z x (txt [62]) y], false) := by
  rw [do_two es it l x y z n _ (by kernel_rfl)]; unfold stkBP; rw [tl1]; rfl
theorem do_ge : doP es it (l ++ [x] ++ [y], z) (txt [62, 61], n) = (l ++ [tstP z x (txt [62, 61]) y], false) := by
  rw [do_two es it l x y z n _ (by kernel_rfl)]; unfold stkBP; rw [tl2]; rfl
theorem do_ne : doP es it (l ++ [x] ++ [y], z) (txt [33, 61], n) = (l ++ [tstP z x (txt [33, 61]) y], false) := by
  rw [do_two es it l x y z n _ (by kernel_rfl)]; unfold stkBP; rw [tl2]; rfl
end
theorem holds_fold {ops : List (ByteArray × Nat)} (h : 0 < ops.length) (es : List Ev) (it : Ev) {x : Int} {z : Bool} (e : ops.foldl (doP es it) ([], false) = ([] ++ [x], z)) : holdsP ops es it = (x == 1) := by
  unfold holdsP runP
  rw [if_neg (by omega), List.take_length, e, (top1 [] x).1]
theorem one_match {st : ASt} {win : Int} (hw : 0 < win) {evs : List Ev} {e : Ev} {t : List Nat} : MatchOK [[st]] win (evs ++ [e]) t ↔ t = [evs.length] ∧ st.fits [] e = true := by
  have hev : evAt (evs ++ [e]) evs.length = e := evAt_new evs e
  constructor
  · rintro ⟨i, hi, ⟨h1, h2, h3, h4⟩, h5⟩
    have hi0 : i = 0 := by simpa using hi
    subst hi0
    have hl : t.length = 1 := h3
    match t, hl with
    | [j], _ =>
      have hj : j = evs.length := by
        have : j + 1 = (evs ++ [e]).length := h4
        rw [List.length_append] at this
        simpa using this
      subst hj
      refine ⟨rfl, ?_⟩
      have : goodP (evs ++ [e]) st [] evs.length := h2.1
      have h := this.2.2.1
      rw [hev] at h
      exact h
  · rintro ⟨rfl, hf⟩
    refine ⟨0, by simp, ⟨by simp, ⟨⟨Nat.zero_le _, by simp, by rw [hev]; exact hf, .inl rfl⟩, trivial⟩, rfl, by simp⟩, ?_⟩
    have h1 : lastT (evs ++ [e]) - firstT (evs ++ [e]) [evs.length] = 0 := by
      unfold lastT firstT
      simp [hev]
    omega
end Go.Proofs.YtddbjcfdmdbmkaaGreatDoor

namespace Go.Proofs.YtddbjcfdmdbmkaaGreatDoor
open Go.RowKit

theorem dec_pc {n : Nat} (h : n ≤ 999999999) {nx : UInt8} (hx : isDigitB nx = false) : pcB 2 (decL n) nx = true := by
  obtain ⟨h1, h2, _⟩ := dec_all n
  have h3 := dec_len 8 n (by omega)
  unfold pcB
  rw [if_pos rfl, h1, hx]
  simp only [Bool.not_false, Bool.and_true, Bool.and_eq_true, decide_eq_true_eq]
  omega
def sgnPc (s : UInt8) : Pc := ⟨[32], 5, [s]⟩
def numPc (d : List UInt8) : Pc := ⟨[32], 2, d⟩
def recP1 : List Pc := headPc [] [53] [49, 50] ++ (stepPc [32] 120 [49] ++ (ifPc :: (itPc [32] 97 ++ [sgnPc 42])))
def recP2 : List Pc := sgnPc 45 :: (itPc [32] 98 ++ (sgnPc 45 :: (itPc [32] 99 ++ [sgnPc 43])))
def recP3 : List Pc := [sgnPc 62] ++ itPc [32] 97 ++ [sgnPc 47] ++ itPc [32] 99 ++ [⟨[32], 4, [111, 114]⟩] ++ itPc [32] 98 ++ [sgnPc 47] ++ itPc [32] 99 ++ [sgnPc 42] ++ itPc [32] 99 ++ [sgnPc 43] ++ itPc [32] 98 ++ [sgnPc 61] ++ itPc [32] 98 ++ [sgnPc 42, numPc [50], ⟨[32], 4, [97, 110, 100]⟩, sgnPc 45] ++ itPc [] 99 ++ [sgnPc 60, sgnPc 40] ++ itPc [] 97 ++ [sgnPc 43] ++ itPc [32] 98 ++ [⟨[], 5, [41]⟩, sgnPc 42, sgnPc 45, ⟨[], 2, [50]⟩]
def recOps (k : Nat) : List BOp :=
  [itOp 97, (tPush, k, ⟨#[]⟩), (txt [42], 0, ⟨#[]⟩), itOp 98, (txt [45], 0, ⟨#[]⟩), itOp 99, (txt [45], 0, ⟨#[]⟩), (tPush, k, ⟨#[]⟩), (txt [43], 0, ⟨#[]⟩), itOp 97, itOp 99, (txt [47], 0, ⟨#[]⟩), (txt [62], 0, ⟨#[]⟩),
   itOp 98, itOp 99, (txt [47], 0, ⟨#[]⟩), itOp 99, (txt [42], 0, ⟨#[]⟩), itOp 98, (txt [43], 0, ⟨#[]⟩), itOp 98, (tPush, 2, ⟨#[]⟩), (txt [42], 0, ⟨#[]⟩), (txt [61], 0, ⟨#[]⟩),
   itOp 99, (tOpp, 0, ⟨#[]⟩), itOp 97, itOp 98, (txt [43], 0, ⟨#[]⟩), (tPush, 2, ⟨#[]⟩), (tOpp, 0, ⟨#[]⟩), (txt [42], 0, ⟨#[]⟩), (txt [60], 0, ⟨#[]⟩), (txt [97, 110, 100], 0, ⟨#[]⟩), (txt [111, 114], 0, ⟨#[]⟩)]
theorem n2 : numVal (txt [50]) = 2 := by kernel_rfl
theorem inStar : txt [42] ∈ [tStar, tSlash] := by simp [txt, tStar]
theorem inSlash : txt [47] ∈ [tStar, tSlash] := by simp [txt, tSlash]
theorem inPlus : txt [43] ∈ [tPlus, tMinus] := by simp [txt, tPlus]
theorem inMinus : txt [45] ∈ [tPlus, tMinus] := by simp [txt, tMinus]
theorem inAnd : txt [97, 110, 100] ∈ [tAnd] := by simp [txt, tAnd]
theorem inOr : txt [111, 114] ∈ [tOr] := by simp [txt, tOr]
theorem rds_numK {n : Nat} {g d : List UInt8} {k : Nat} (e : numVal (txt d) = k) (hk : k ≤ 999999999) : Rds 0 (factorP (n + 1)) [⟨g, 2, d⟩] [(tPush, k, ⟨#[]⟩)] [] := by
  subst e
  exact rds_num hk
section
variable {n : Nat} {d : List UInt8} {k : Nat}
theorem rec_t1 (e : numVal (txt d) = k) (hk : k ≤ 999999999) : Rds 0 (testP (factorP (n + 1))) ((itPc [32] 97 ++ (sgnPc 42 :: ([numPc d] ++ []))) ++ (sgnPc 45 :: (itPc [32] 98 ++ (sgnPc 45 :: (itPc [32] 99 ++ (sgnPc 43 :: ([numPc d] ++ [])))))) ++ sgnPc 62 :: (itPc [32] 97 ++ (sgnPc 47 :: (itPc [32] 99 ++ []))))
    (([itOp 97] ++ ([(tPush, k, ⟨#[]⟩)] ++ (txt [42], 0, ⟨#[]⟩) :: [])) ++ ([itOp 98] ++ (txt [45], 0, ⟨#[]⟩) :: ([itOp 99] ++ (txt [45], 0, ⟨#[]⟩) :: ([(tPush, k, ⟨#[]⟩)] ++ (txt [43], 0, ⟨#[]⟩) :: []))) ++ (([itOp 97] ++ ([itOp 99] ++ (txt [47], 0, ⟨#[]⟩) :: [])) ++ [(txt [62], 0, ⟨#[]⟩)])) st2 :=
  test1 (sumN (prodN (rds_itPc fA) (.cons inStar (rds_numK e hk) .nil)) (.cons inMinus (prod1 (rds_itPc fB)) (.cons inMinus (prod1 (rds_itPc fC)) (.cons inPlus (prod1 (rds_numK e hk)) .nil)))) (sum1 (prodN (rds_itPc fA) (.cons inSlash (rds_itPc fC) .nil))) cGt
theorem rec_t2 : Rds 0 (testP (factorP (n + 1))) ((itPc [32] 98 ++ (sgnPc 47 :: (itPc [32] 99 ++ (sgnPc 42 :: (itPc [32] 99 ++ []))))) ++ (sgnPc 43 :: (itPc [32] 98 ++ [])) ++ sgnPc 61 :: (itPc [32] 98 ++ (sgnPc 42 :: ([numPc [50]] ++ []))))
    (([itOp 98] ++ ([itOp 99] ++ (txt [47], 0, ⟨#[]⟩) :: ([itOp 99] ++ (txt [42], 0, ⟨#[]⟩) :: []))) ++ ([itOp 98] ++ (txt [43], 0, ⟨#[]⟩) :: []) ++ (([itOp 98] ++ ([(tPush, 2, ⟨#[]⟩)] ++ (txt [42], 0, ⟨#[]⟩) :: [])) ++ [(txt [61], 0, ⟨#[]⟩)])) st2 :=
  test1 (sumN (prodN (rds_itPc fB) (.cons inSlash (rds_itPc fC) (.cons inStar (rds_itPc fC) .nil))) (.cons inPlus (prod1 (rds_itPc fB)) .nil)) (sum1 (prodN (rds_itPc fB) (.cons inStar (rds_numK n2 (by decide)) .nil))) cEq
theorem off_close : off st2 tClose = true := by kernel_rfl
theorem rec_t3 : Rds 1 (testP (factorP (n + 2))) ((sgnPc 45 :: itPc [] 99) ++ sgnPc 60 :: ((sgnPc 40 :: (itPc [] 97 ++ (sgnPc 43 :: (itPc [32] 98 ++ [])) ++ [⟨[], 5, [41]⟩])) ++ (sgnPc 42 :: ((sgnPc 45 :: [⟨[], 2, [50]⟩]) ++ []))))
    (([itOp 99] ++ [(tOpp, 0, ⟨#[]⟩)]) ++ ((([itOp 97] ++ ([itOp 98] ++ (txt [43], 0, ⟨#[]⟩) :: [])) ++ (([(tPush, 2, ⟨#[]⟩)] ++ [(tOpp, 0, ⟨#[]⟩)]) ++ (txt [42], 0, ⟨#[]⟩) :: [])) ++ [(txt [60], 0, ⟨#[]⟩)])) st2 :=
  test1 (sum1 (prod1 (rds_neg (rds_itPc fC)))) (sum1 (prodN (rds_par (sumN (prod1 (rds_itPc fA)) (.cons inPlus (prod1 (rds_itPc fB)) .nil)) off_close) (.cons inStar (rds_neg (rds_numK n2 (by decide))) .nil))) cLt
end
def recL (d : List UInt8) : List Pc := stepPc [32] 120 [49] ++ (ifPc :: (itPc [32] 97 ++ (sgnPc 42 :: numPc d :: (recP2 ++ (numPc d :: recP3)))))
def recX (k : Nat) : List Lf := [⟨txt [120], 1, numVal (txt [49]), recOps k⟩]
theorem rec_cond {n k : Nat} {d : List UInt8} (e : numVal (txt d) = k) (hk : k ≤ 999999999) : RdC 1 (n + 2) (ifPc :: (itPc [32] 97 ++ (sgnPc 42 :: numPc d :: (recP2 ++ (numPc d :: recP3))))) (recOps k) stopAll :=
  condOf (orN (both1 ((rec_t1 e hk).deep (by omega))) (.cons inOr (bothN (rec_t2.deep (by omega)) (.cons inAnd rec_t3 .nil)) .nil))
theorem rec_read {k : Nat} {d : List UInt8} (e : numVal (txt d) = k) (hk : k ≤ 999999999) (n : Nat) : RdQ 1 (n + 8) (recL d) (recX k) := by
  have := rdq_seq (rdp_step (m := 1) (n := n + 7) (g := [32]) (g1 := []) (g2 := []) (nm := [120]) (kd := [49]) (rec_cond (n := n + 5) e hk) (.inr ⟨_, _, rfl⟩) (by decide)) .nil
  rw [List.append_nil] at this
  exact this
end Go.Proofs.YtddbjcfdmdbmkaaGreatDoor

namespace Go.Proofs.YtddbjcfdmdbmkaaGreatDoor
open Go.RowKit

theorem head_ok {W R : Nat} (hW : W ≤ 999999999) (hR : R ≤ 999999999) {nb : UInt8} (hn : isDigitB nb = false) : okN nb (headPc [] (decL W) (decL R)) = true := by
  have h1 : pcB 4 [119, 105, 116, 104, 105, 110] 32 = true := by kernel_rfl
  have h2 : pcB 4 [114, 97, 116, 101] 32 = true := by kernel_rfl
  have h3 := dec_pc hW (nx := 32) (by kernel_rfl)
  have h4 := dec_pc hR hn
  show (true && pcB 4 [119, 105, 116, 104, 105, 110] 32 && ([32].all isBlankB && pcB 2 (decL W) 32 && ([32].all isBlankB && pcB 4 [114, 97, 116, 101] 32 && ([32].all isBlankB && pcB 2 (decL R) nb && true)))) = true
  rw [h1, h2, h3, h4]
  rfl
theorem head_lay (W R : Nat) : (headB W R).data.toList = layL (headPc [] (decL W) (decL R)) ++ [32] := by
  unfold headB headPc layL txt
  simp [layL]
theorem text_any {m W R : Nat} {L : List Pc} {xs : List Lf} {S : ByteArray} {bs : List UInt8} (hW : 1 ≤ W ∧ W ≤ 1000000) (hR : 1 ≤ R ∧ R ≤ 12) (hS : S.data.toList = (headB W R).data.toList ++ bs) (hb : layL L = 32 :: bs) (hok : okN 0 L = true) (hz : bs.length ≤ 500) (hm : m ≤ 8) (hL : 3 ≤ L.length) (hQ : ∀ n, RdQ m (n + 8) L xs) (hx : okX xs = true) :
    TextOK S W R (mostP R (cntL (rowL xs))) [stepsL (rowL xs)] := by
  have e1 := (dec_all W).2.2
  have e2 := (dec_all R).2.2
  have hl : S.data.toList = layL (headPc [] (decL W) (decL R) ++ L) := by rw [hS, head_lay, lay_app, hb]; simp
  have hsz : S.size ≤ 600 := by
    have : S.data.toList.length = S.size := by simp
    rw [← this, hS, head_lay]
    have h1 := dec_len 8 W (by omega)
    have h2 := dec_len 8 R (by omega)
    simp [headPc, layL]
    omega
  have := text_flat (S := S) (g := []) (W := decL W) (R := decL R) (L := L) (xs := xs) hl (by rw [ok_app, hb, hok]; show (okN 32 _ && true) = true; rw [head_ok (by omega) (by omega) (by kernel_rfl)]; rfl) hsz (m := m) hm (by rw [e1]; exact hW) (by rw [e2]; exact hR) hL hQ hx
  rwa [e1, e2] at this
def fullT : Nat → List Pc
  | 0 => []
  | k + 1 => fullT k ++ (thenPc :: stepPc [32] (nameB (k + 1)) [55])
def fullL (k : Nat) : List Pc := stepPc [32] (nameB 0) [55] ++ fullT (k - 1)
def fullX (k : Nat) : List Lf := (List.range k).map fun i => ⟨txt [nameB i], 1, numVal (txt [55]), []⟩
def fullBytes (k : Nat) : List UInt8 := (layL (fullL k)).tail
theorem rdp_any {n : Nat} {g : List UInt8} {x : UInt8} : RdP 0 (n + 1) (stepPc g x [55]) ⟨txt [x], 1, numVal (txt [55]), []⟩ := rdp_step condNone (.inl rfl) (by decide)
theorem seqT_app {m n : Nat} {L L' : List Pc} {xs ys : List Lf} (h : SeqT m n L xs) (h' : SeqT m n L' ys) : SeqT m n (L ++ L') (xs ++ ys) := by
  induction h with
  | nil => exact h'
  | @cons g L L2 x xs hr _ ih =>
    have := SeqT.cons (g := g) hr ih
    simpa using this
theorem full_tail (n k : Nat) : SeqT 0 (n + 1) (fullT k) ((List.range k).map fun i => ⟨txt [nameB (i + 1)], 1, numVal (txt [55]), []⟩) := by
  induction k with
  | zero => exact .nil
  | succ k ih =>
    rw [List.range_succ, List.map_append]
    refine seqT_app ih ?_
    have := SeqT.cons (g := [32]) (rdp_any (n := n) (g := [32]) (x := nameB (k + 1))) (.nil)
    rw [List.append_nil] at this
    exact this
theorem full_read (k : Nat) (hk : 1 ≤ k ∧ k ≤ 5) (n : Nat) : RdQ 0 (n + 8) (fullL k) (fullX k) := by
  obtain ⟨j, rfl⟩ : ∃ j, k = j + 1 := ⟨k - 1, by omega⟩
  unfold fullL fullX
  rw [List.range_succ_eq_map, List.map_cons, List.map_map]
  exact rdq_seq rdp_any (full_tail (n + 7) j)
def st7 : WStep := ⟨⟨7, []⟩, []⟩
theorem full_facts : ((List.range 6).all fun k => k == 0 || (okN 0 (fullL k) && okX (fullX k) && ((layL (fullL k)) == 32 :: fullBytes k) && decide ((fullBytes k).length ≤ 500) && decide (3 ≤ (fullL k).length) && decide (cntL (rowL (fullX k)) = k))) = true := by kernel_rfl
theorem full_s1 : stepsL (rowL (fullX 1)) = List.replicate 1 st7 := by kernel_rfl
theorem full_s2 : stepsL (rowL (fullX 2)) = List.replicate 2 st7 := by kernel_rfl
theorem full_s3 : stepsL (rowL (fullX 3)) = List.replicate 3 st7 := by kernel_rfl
theorem full_s4 : stepsL (rowL (fullX 4)) = List.replicate 4 st7 := by kernel_rfl
theorem full_s5 : stepsL (rowL (fullX 5)) = List.replicate 5 st7 := by kernel_rfl
theorem full_steps (k : Nat) (hk : 1 ≤ k ∧ k ≤ 5) : stepsL (rowL (fullX k)) = List.replicate k st7 := by
  match k, hk with
  | 1, _ => exact full_s1
  | 2, _ => exact full_s2
  | 3, _ => exact full_s3
  | 4, _ => exact full_s4
  | 5, _ => exact full_s5
theorem full_text {k W R : Nat} (hk : 1 ≤ k ∧ k ≤ 5) (hW : 1 ≤ W ∧ W ≤ 1000000) (hR : 1 ≤ R ∧ R ≤ 12) {S : ByteArray} (hS : S.data.toList = (headB W R).data.toList ++ fullBytes k) : TextOK S W R (mostP R k) [List.replicate k st7] := by
  have h := List.all_eq_true.1 full_facts k (List.mem_range.2 (by omega))
  have hk0 : (k == 0) = false := by simp; omega
  rw [hk0, Bool.false_or] at h
  simp only [Bool.and_eq_true, beq_iff_eq, decide_eq_true_eq] at h
  obtain ⟨⟨⟨⟨⟨h1, h2⟩, h3⟩, h4⟩, h5⟩, h6⟩ := h
  have := text_any hW hR hS h3 h1 h4 (m := 0) (by omega) h5 (full_read k hk) h2
  rwa [h6, full_steps k hk] at this
end Go.Proofs.YtddbjcfdmdbmkaaGreatDoor

namespace Go.Proofs.YtddbjcfdmdbmkaaGreatDoor
open Go.RowKit

structure SO where
  k : Nat
  q : Nat
  g : Nat
def eOp (s : ByteArray) : BOp := (s, 0, ⟨#[]⟩)
def soC (i : Nat) (me pr fi : UInt8) (q : Nat) : List Pc :=
  if q = 0 then ifPc :: (itPc [32] 97 ++ ⟨[32], 5, [62]⟩ :: [⟨[32], 2, [48]⟩])
  else if i = 0 then []
  else if q = 1 then ifPc :: ((fldPc [32] me 97 ++ ⟨[32], 5, [62, 61]⟩ :: fldPc [32] pr 97) ++ (⟨[32], 4, [111, 114]⟩ :: ((itPc [32] 98 ++ ⟨[32], 5, [61]⟩ :: [⟨[32], 2, [48]⟩]) ++ [])))
  else if q = 2 then ifPc :: (((fldPc [32] fi 98 ++ (⟨[32], 5, [43]⟩ :: (itPc [32] 98 ++ []))) ++ ⟨[32], 5, [33, 61]⟩ :: [⟨[32], 2, [50]⟩]) ++ (⟨[32], 4, [97, 110, 100]⟩ :: ((itPc [32] 116 ++ ⟨[32], 5, [62]⟩ :: fldPc [32] fi 116) ++ [])))
  else []
def soO (i : Nat) (me pr fi : UInt8) (q : Nat) : List BOp :=
  if q = 0 then [itOp 97] ++ ([(tPush, 0, ⟨#[]⟩)] ++ [eOp (txt [62])])
  else if i = 0 then []
  else if q = 1 then ([fldOp me 97] ++ ([fldOp pr 97] ++ [eOp (txt [62, 61])])) ++ (([itOp 98] ++ ([(tPush, 0, ⟨#[]⟩)] ++ [eOp (txt [61])])) ++ eOp (txt [111, 114]) :: [])
  else if q = 2 then (([fldOp fi 98] ++ ([itOp 98] ++ eOp (txt [43]) :: [])) ++ ([(tPush, 2, ⟨#[]⟩)] ++ [eOp (txt [33, 61])])) ++ (([itOp 116] ++ ([fldOp fi 116] ++ [eOp (txt [62])])) ++ eOp (txt [97, 110, 100]) :: [])
  else []
theorem n0 : numVal (txt [48]) = 0 := by kernel_rfl
theorem n1 : numVal (txt [49]) = 1 := by kernel_rfl
def NmOK (x : UInt8) : Prop := off [tMinus] (txt [x]) = true ∧ off [tOpen] (txt [x]) = true
theorem so_cond {n i : Nat} {me pr fi : UInt8} (h1 : NmOK me) (h2 : NmOK pr) (h3 : NmOK fi) (q : Nat) : RdC 0 (n + 1) (soC i me pr fi q) (soO i me pr fi q) stopAll := by
  unfold soC soO
  split
  · exact condOne (rds_itPc fA) (rds_numK n0 (by decide)) cGt
  split
  · exact condNone
  split
  · exact condOf (orN (both1 (test1 (sum1 (prod1 (rds_fldPc h1.1 h1.2 fA))) (sum1 (prod1 (rds_fldPc h2.1 h2.2 fA))) cGe)) (.cons inOr (both1 (test1 (sum1 (prod1 (rds_itPc fB))) (sum1 (prod1 (rds_numK n0 (by decide)))) cEq)) .nil))
  split
  · exact condOf (or1 (bothN (test1 (sumN (prod1 (rds_fldPc h3.1 h3.2 fB)) (.cons inPlus (prod1 (rds_itPc fB)) .nil)) (sum1 (prod1 (rds_numK n2 (by decide)))) cNe) (.cons inAnd (test1 (sum1 (prod1 (rds_itPc fT))) (sum1 (prod1 (rds_fldPc h3.1 h3.2 fT))) cGt) .nil)))
  · exact condNone
theorem so_if (i : Nat) (me pr fi : UInt8) (q : Nat) : IfHd (soC i me pr fi q) := by
  unfold soC ifPc
  split
  · exact .inr ⟨_, _, rfl⟩
  split
  · exact .inl rfl
  split
  · exact .inr ⟨_, _, rfl⟩
  split
  · exact .inr ⟨_, _, rfl⟩
  · exact .inl rfl
def soL (g : List UInt8) (i : Nat) (me pr fi : UInt8) (o : SO) : List Pc := stepPc g me (decL o.k) ++ soC i me pr fi o.q
def soX (i : Nat) (me pr fi : UInt8) (o : SO) : Lf := ⟨txt [me], 1, o.k, soO i me pr fi o.q⟩
theorem so_step {n i : Nat} {g : List UInt8} {me pr fi : UInt8} (h1 : NmOK me) (h2 : NmOK pr) (h3 : NmOK fi) (o : SO) (hk : o.k ≤ 99) : RdP 0 (n + 2) (soL g i me pr fi o) (soX i me pr fi o) := by
  have e := (dec_all o.k).2.2
  have := rdp_step (g := g) (g1 := []) (g2 := []) (nm := [me]) (kd := decL o.k) (so_cond (n := n) (i := i) h1 h2 h3 o.q) (so_if i me pr fi o.q) (by rw [e]; exact hk)
  rw [e] at this
  exact this
def soG (j : Nat) : List Pc := ⟨[32], 4, [110, 111, 116]⟩ :: ⟨[32], 2, decL j⟩ :: ifPc :: (itPc [32] 99 ++ ⟨[32], 5, [62]⟩ :: [⟨[32], 2, [49]⟩])
def soH (j : Nat) : Lf := ⟨⟨#[]⟩, 0, j, [itOp 99] ++ ([(tPush, 1, ⟨#[]⟩)] ++ [eOp (txt [62])])⟩
theorem so_guard {n : Nat} (j : Nat) (hj : j ≤ 99) : RdP 0 (n + 2) (soG j) (soH j) := by
  have e := (dec_all j).2.2
  have := rdp_guard (g := [32]) (g2 := [32]) (kd := decL j) (condOne (n := n + 1) (g := [32]) (g1 := [32]) (rds_itPc (n := n) (g := [32]) fC) (rds_numK (n := n) (g := [32]) n1 (by decide)) cGt) (by rw [e]; exact hj)
  rw [e] at this
  exact this
def soGT (g : Nat) : List Pc := match g with
  | 0 => []
  | j + 1 => thenPc :: soG j
def soHT (g : Nat) : List Lf := match g with
  | 0 => []
  | j + 1 => [soH j]
def soT (fr : Nat) : Nat → List SO → List Pc
  | _, [] => []
  | i, o :: os => soGT o.g ++ (thenPc :: (soL [32] i (nameB (fr + i)) (nameB (fr + i - 1)) (nameB fr) o ++ soT fr (i + 1) os))
def soY (fr : Nat) : Nat → List SO → List Lf
  | _, [] => []
  | i, o :: os => soHT o.g ++ (soX i (nameB (fr + i)) (nameB (fr + i - 1)) (nameB fr) o :: soY fr (i + 1) os)
theorem soT_snoc (fr : Nat) (o : SO) : ∀ (os : List SO) (i : Nat), soT fr i (os ++ [o]) = soT fr i os ++ soT fr (i + os.length) [o] := by
  intro os
  induction os with
  | nil => intro i; rfl
  | cons a os ih =>
    intro i
    show soGT a.g ++ (thenPc :: (soL [32] i _ _ _ a ++ soT fr (i + 1) (os ++ [o]))) = (soGT a.g ++ (thenPc :: (soL [32] i _ _ _ a ++ soT fr (i + 1) os))) ++ _
    rw [ih, show i + 1 + os.length = i + (a :: os).length by simp; omega]
    simp
theorem nm_all : ((List.range 6).all fun i => off [tMinus] (txt [nameB i]) && off [tOpen] (txt [nameB i])) = true := by kernel_rfl
theorem nm_ok {i : Nat} (h : i ≤ 5) : NmOK (nameB i) := by
  have := List.all_eq_true.1 nm_all i (List.mem_range.2 (by omega))
  rw [Bool.and_eq_true] at this
  exact this
theorem so_gt {n : Nat} (g : Nat) (hg : g ≤ 3) : SeqT 0 (n + 2) (soGT g) (soHT g) := by
  match g with
  | 0 => exact .nil
  | j + 1 =>
    have := SeqT.cons (g := [32]) (so_guard (n := n) j (by omega)) .nil
    rw [List.append_nil] at this
    exact this
theorem so_tail {n fr : Nat} : ∀ (os : List SO) (i : Nat), (∀ o ∈ os, o.k ≤ 2 ∧ o.g ≤ 3) → fr + i + os.length ≤ 6 → SeqT 0 (n + 2) (soT fr i os) (soY fr i os) := by
  intro os
  induction os with
  | nil => intro i _ _; exact .nil
  | cons o os ih =>
    intro i h hl
    rw [List.length_cons] at hl
    have ho := h o (by simp)
    refine seqT_app (so_gt o.g ho.2) ?_
    exact SeqT.cons (g := [32]) (so_step (nm_ok (by omega)) (nm_ok (by omega)) (nm_ok (by omega)) o (by omega)) (ih (i + 1) (fun x hx => h x (by simp [hx])) (by omega))
def soSeq (g : List UInt8) (fr : Nat) : List SO → List Pc
  | [] => []
  | o :: os => soL g 0 (nameB fr) (nameB (fr - 1)) (nameB fr) o ++ soT fr 1 os
def soXs (fr : Nat) : List SO → List Lf
  | [] => []
  | o :: os => soX 0 (nameB fr) (nameB (fr - 1)) (nameB fr) o :: soY fr 1 os
theorem so_read {fr : Nat} {os : List SO} (g : List UInt8) (h : ∀ o ∈ os, o.k ≤ 2 ∧ o.g ≤ 3) (h0 : os ≠ []) (hl : fr + os.length ≤ 6) (n : Nat) : RdQ 0 (n + 2) (soSeq g fr os) (soXs fr os) := by
  cases os with
  | nil => exact absurd rfl h0
  | cons o os =>
    rw [List.length_cons] at hl
    exact rdq_seq (so_step (nm_ok (by omega)) (nm_ok (by omega)) (nm_ok (by omega)) o (by have := (h o (by simp)).1; omega)) (so_tail os 1 (fun x hx => h x (by simp [hx])) (by omega))
end Go.Proofs.YtddbjcfdmdbmkaaGreatDoor
