import Derived.Test.YtddbjcfdmdbmkaaGreatDoorB39
set_option linter.unusedVariables false
set_option linter.unusedSimpArgs false
/-
  The keeps: what a condition comes to, step by step; a path of one step.
-/
namespace Go.Proofs.YtddbjcfdmdbmkaaGreatDoor
open Go.RowKit

theorem tl1 (b : UInt8) : (txt [b]).toList = [b] := by kernel_rfl
theorem tl2 (b c : UInt8) : (txt [b, c]).toList = [b, c] := by kernel_rfl
theorem tlPush : tPush.toList = [112, 117, 115, 104] := by kernel_rfl
theorem tlOpp : tOpp.toList = [111, 112, 112, 111, 115, 105, 116, 101] := by kernel_rfl
theorem tlAnd : (txt [97, 110, 100]).toList = [97, 110, 100] := by kernel_rfl
theorem tlOr : (txt [111, 114]).toList = [111, 114] := by kernel_rfl
theorem top1 (l : List Int) (x : Int) : (l ++ [x]).getLastD 0 = x ∧ (l ++ [x]).dropLast = l := ⟨by simp [List.getLastD_eq_getLast?], List.dropLast_concat⟩
section
variable (es : List Ev) (it : Ev) (l : List Int) (x y : Int) (z : Bool) (n : Nat)
theorem do_push : doP es it (l, z) (tPush, n) = (l ++ [(n : Int)], z) := by unfold doP; rw [tlPush]; rfl
theorem do_a : doP es it (l, z) (txt [97], n) = (l ++ [(evP es it n).a], z) := by unfold doP; rw [tl1]; rfl
theorem do_b : doP es it (l, z) (txt [98], n) = (l ++ [(evP es it n).b], z) := by unfold doP; rw [tl1]; rfl
theorem do_c : doP es it (l, z) (txt [99], n) = (l ++ [(evP es it n).c], z) := by unfold doP; rw [tl1]; rfl
theorem do_t : doP es it (l, z) (txt [116], n) = (l ++ [(evP es it n).time], z) := by unfold doP; rw [tl1]; rfl
theorem do_opp : doP es it (l ++ [x], z) (tOpp, n) = (l ++ [wrap64 (-x)], z) := by
  unfold doP; rw [tlOpp]; simp only [(top1 l x).1, (top1 l x).2]; rfl
theorem do_two (s : ByteArray) (hs : arityP (s, n) = 2) : doP es it (l ++ [x] ++ [y], z) (s, n) = (l ++ [(stkBP z x s y).1], (stkBP z x s y).2) := by
  unfold arityP at hs
  unfold doP
  simp only at hs ⊢
  generalize s.toList = t at hs ⊢
  split at hs
  · cases hs
  · rename_i h1
    simp only [Bool.or_eq_true, not_or] at h1
    split at hs
    · cases hs
    · rename_i h2
      rw [if_neg h1.1.1.1.1, if_neg h1.1.1.1.2, if_neg h1.1.1.2, if_neg h1.1.2, if_neg h1.2, if_neg h2]
      simp only [(top1 (l ++ [x]) y).1, (top1 (l ++ [x]) y).2, (top1 l x).1, (top1 l x).2]
theorem do_add : doP es it (l ++ [x] ++ [y], z) (txt [43], n) = (l ++ [wrap64 (x + y)], z) := by
  rw [do_two es it l x y z n _ (by kernel_rfl)]; unfold stkBP; rw [tl1]; rfl
theorem do_sub : doP es it (l ++ [x] ++ [y], z) (txt [45], n) = (l ++ [wrap64 (x - y)], z) := by
  rw [do_two es it l x y z n _ (by kernel_rfl)]; unfold stkBP; rw [tl1]; rfl
theorem do_mul : doP es it (l ++ [x] ++ [y], z) (txt [42], n) = (l ++ [wrap64 (x * y)], z) := by
  rw [do_two es it l x y z n _ (by kernel_rfl)]; unfold stkBP; rw [tl1]; rfl
theorem do_div : doP es it (l ++ [x] ++ [y], z) (txt [47], n) = (l ++ [(divP z x y).1], (divP z x y).2) := by
  rw [do_two es it l x y z n _ (by kernel_rfl)]; unfold stkBP divP; rw [tl1]; rfl
theorem do_and : doP es it (l ++ [x] ++ [y], z) (txt [97, 110, 100], n) = (l ++ [bits BinOp.and .i64 x y], z) := by
  rw [do_two es it l x y z n _ (by kernel_rfl)]; unfold stkBP; rw [tlAnd]; rfl
theorem do_or : doP es it (l ++ [x] ++ [y], z) (txt [111, 114], n) = (l ++ [bits BinOp.or .i64 x y], z) := by
  rw [do_two es it l x y z n _ (by kernel_rfl)]; unfold stkBP; rw [tlOr]; rfl
theorem do_eq : doP es it (l ++ [x] ++ [y], z) (txt [61], n) = (l ++ [tstP z x (txt [61]) y], false) := by
  rw [do_two es it l x y z n _ (by kernel_rfl)]; unfold stkBP; rw [tl1]; rfl
theorem do_lt : doP es it (l ++ [x] ++ [y], z) (txt [60], n) = (l ++ [tstP z x (txt [60]) y], false) := by
  rw [do_two es it l x y z n _ (by kernel_rfl)]; unfold stkBP; rw [tl1]; rfl
theorem do_gt : doP es it (l ++ [x] ++ [y], z) (txt [62], n) = (l ++ [tstP z x (txt [62]) y], false) := by
  rw [do_two es it l x y z n _ (by kernel_rfl)]; unfold stkBP; rw [tl1]; rfl
theorem do_ge : doP es it (l ++ [x] ++ [y], z) (txt [62, 61], n) = (l ++ [tstP z x (txt [62, 61]) y], false) := by
  rw [do_two es it l x y z n _ (by kernel_rfl)]; unfold stkBP; rw [tl2]; rfl
theorem do_ne : doP es it (l ++ [x] ++ [y], z) (txt [33, 61], n) = (l ++ [tstP z x (txt [33, 61]) y], false) := by
  rw [do_two es it l x y z n _ (by kernel_rfl)]; unfold stkBP; rw [tl2]; rfl
end
theorem holds_fold {ops : List (ByteArray × Nat)} (h : 0 < ops.length) (es : List Ev) (it : Ev) {x : Int} {z : Bool} (e : ops.foldl (doP es it) ([], false) = ([] ++ [x], z)) : holdsP ops es it = (x == 1) := by
  unfold holdsP runP
  rw [if_neg (by omega), List.take_length, e, (top1 [] x).1]
/-- a pattern of one step -/
theorem one_match {st : ASt} {win : Int} (hw : 0 < win) {evs : List Ev} {e : Ev} {t : List Nat} : MatchOK [[st]] win (evs ++ [e]) t ↔ t = [evs.length] ∧ st.fits [] e = true := by
  have hev : evAt (evs ++ [e]) evs.length = e := evAt_new evs e
  constructor
  · rintro ⟨i, hi, ⟨h1, h2, h3, h4⟩, h5⟩
    have hi0 : i = 0 := by simpa using hi
    subst hi0
    have hl : t.length = 1 := h3
    match t, hl with
    | [j], _ =>
      have hj : j = evs.length := by
        have : j + 1 = (evs ++ [e]).length := h4
        rw [List.length_append] at this
        simpa using this
      subst hj
      refine ⟨rfl, ?_⟩
      have : goodP (evs ++ [e]) st [] evs.length := h2.1
      have h := this.2.2.1
      rw [hev] at h
      exact h
  · rintro ⟨rfl, hf⟩
    refine ⟨0, by simp, ⟨by simp, ⟨⟨Nat.zero_le _, by simp, by rw [hev]; exact hf, .inl rfl⟩, trivial⟩, rfl, by simp⟩, ?_⟩
    have h1 : lastT (evs ++ [e]) - firstT (evs ++ [e]) [evs.length] = 0 := by
      unfold lastT firstT
      simp [hev]
    omega
end Go.Proofs.YtddbjcfdmdbmkaaGreatDoor

/-
  The keeps: Reckoned, plain.
-/
namespace Go.Proofs.YtddbjcfdmdbmkaaGreatDoor
open Go.RowKit

theorem dec_pc {n : Nat} (h : n ≤ 999999999) {nx : UInt8} (hx : isDigitB nx = false) : pcB 2 (decL n) nx = true := by
  obtain ⟨h1, h2, _⟩ := dec_all n
  have h3 := dec_len 8 n (by omega)
  unfold pcB
  rw [if_pos rfl, h1, hx]
  simp only [Bool.not_false, Bool.and_true, Bool.and_eq_true, decide_eq_true_eq]
  omega
def sgnPc (s : UInt8) : Pc := ⟨[32], 5, [s]⟩
def numPc (d : List UInt8) : Pc := ⟨[32], 2, d⟩
/-- the text's tokens, up to the first number, between both, behind -/
def recP1 : List Pc := headPc [] [53] [49, 50] ++ (stepPc [32] 120 [49] ++ (ifPc :: (itPc [32] 97 ++ [sgnPc 42])))
def recP2 : List Pc := sgnPc 45 :: (itPc [32] 98 ++ (sgnPc 45 :: (itPc [32] 99 ++ [sgnPc 43])))
def recP3 : List Pc := [sgnPc 62] ++ itPc [32] 97 ++ [sgnPc 47] ++ itPc [32] 99 ++ [⟨[32], 4, [111, 114]⟩] ++ itPc [32] 98 ++ [sgnPc 47] ++ itPc [32] 99 ++ [sgnPc 42] ++ itPc [32] 99 ++ [sgnPc 43] ++ itPc [32] 98 ++ [sgnPc 61] ++ itPc [32] 98 ++ [sgnPc 42, numPc [50], ⟨[32], 4, [97, 110, 100]⟩, sgnPc 45] ++ itPc [] 99 ++ [sgnPc 60, sgnPc 40] ++ itPc [] 97 ++ [sgnPc 43] ++ itPc [32] 98 ++ [⟨[], 5, [41]⟩, sgnPc 42, sgnPc 45, ⟨[], 2, [50]⟩]
/-- what is put on the stack -/
def recOps (k : Nat) : List BOp :=
  [itOp 97, (tPush, k, ⟨#[]⟩), (txt [42], 0, ⟨#[]⟩), itOp 98, (txt [45], 0, ⟨#[]⟩), itOp 99, (txt [45], 0, ⟨#[]⟩), (tPush, k, ⟨#[]⟩), (txt [43], 0, ⟨#[]⟩), itOp 97, itOp 99, (txt [47], 0, ⟨#[]⟩), (txt [62], 0, ⟨#[]⟩),
   itOp 98, itOp 99, (txt [47], 0, ⟨#[]⟩), itOp 99, (txt [42], 0, ⟨#[]⟩), itOp 98, (txt [43], 0, ⟨#[]⟩), itOp 98, (tPush, 2, ⟨#[]⟩), (txt [42], 0, ⟨#[]⟩), (txt [61], 0, ⟨#[]⟩),
   itOp 99, (tOpp, 0, ⟨#[]⟩), itOp 97, itOp 98, (txt [43], 0, ⟨#[]⟩), (tPush, 2, ⟨#[]⟩), (tOpp, 0, ⟨#[]⟩), (txt [42], 0, ⟨#[]⟩), (txt [60], 0, ⟨#[]⟩), (txt [97, 110, 100], 0, ⟨#[]⟩), (txt [111, 114], 0, ⟨#[]⟩)]
theorem n2 : numVal (txt [50]) = 2 := by kernel_rfl
theorem inStar : txt [42] ∈ [tStar, tSlash] := by simp [txt, tStar]
theorem inSlash : txt [47] ∈ [tStar, tSlash] := by simp [txt, tSlash]
theorem inPlus : txt [43] ∈ [tPlus, tMinus] := by simp [txt, tPlus]
theorem inMinus : txt [45] ∈ [tPlus, tMinus] := by simp [txt, tMinus]
theorem inAnd : txt [97, 110, 100] ∈ [tAnd] := by simp [txt, tAnd]
theorem inOr : txt [111, 114] ∈ [tOr] := by simp [txt, tOr]
theorem rds_numK {n : Nat} {g d : List UInt8} {k : Nat} (e : numVal (txt d) = k) (hk : k ≤ 999999999) : Rds 0 (factorP (n + 1)) [⟨g, 2, d⟩] [(tPush, k, ⟨#[]⟩)] [] := by
  subst e
  exact rds_num hk
section
variable {n : Nat} {d : List UInt8} {k : Nat}
theorem rec_t1 (e : numVal (txt d) = k) (hk : k ≤ 999999999) : Rds 0 (testP (factorP (n + 1))) ((itPc [32] 97 ++ (sgnPc 42 :: ([numPc d] ++ []))) ++ (sgnPc 45 :: (itPc [32] 98 ++ (sgnPc 45 :: (itPc [32] 99 ++ (sgnPc 43 :: ([numPc d] ++ [])))))) ++ sgnPc 62 :: (itPc [32] 97 ++ (sgnPc 47 :: (itPc [32] 99 ++ []))))
    (([itOp 97] ++ ([(tPush, k, ⟨#[]⟩)] ++ (txt [42], 0, ⟨#[]⟩) :: [])) ++ ([itOp 98] ++ (txt [45], 0, ⟨#[]⟩) :: ([itOp 99] ++ (txt [45], 0, ⟨#[]⟩) :: ([(tPush, k, ⟨#[]⟩)] ++ (txt [43], 0, ⟨#[]⟩) :: []))) ++ (([itOp 97] ++ ([itOp 99] ++ (txt [47], 0, ⟨#[]⟩) :: [])) ++ [(txt [62], 0, ⟨#[]⟩)])) st2 :=
  test1 (sumN (prodN (rds_itPc fA) (.cons inStar (rds_numK e hk) .nil)) (.cons inMinus (prod1 (rds_itPc fB)) (.cons inMinus (prod1 (rds_itPc fC)) (.cons inPlus (prod1 (rds_numK e hk)) .nil)))) (sum1 (prodN (rds_itPc fA) (.cons inSlash (rds_itPc fC) .nil))) cGt
theorem rec_t2 : Rds 0 (testP (factorP (n + 1))) ((itPc [32] 98 ++ (sgnPc 47 :: (itPc [32] 99 ++ (sgnPc 42 :: (itPc [32] 99 ++ []))))) ++ (sgnPc 43 :: (itPc [32] 98 ++ [])) ++ sgnPc 61 :: (itPc [32] 98 ++ (sgnPc 42 :: ([numPc [50]] ++ []))))
    (([itOp 98] ++ ([itOp 99] ++ (txt [47], 0, ⟨#[]⟩) :: ([itOp 99] ++ (txt [42], 0, ⟨#[]⟩) :: []))) ++ ([itOp 98] ++ (txt [43], 0, ⟨#[]⟩) :: []) ++ (([itOp 98] ++ ([(tPush, 2, ⟨#[]⟩)] ++ (txt [42], 0, ⟨#[]⟩) :: [])) ++ [(txt [61], 0, ⟨#[]⟩)])) st2 :=
  test1 (sumN (prodN (rds_itPc fB) (.cons inSlash (rds_itPc fC) (.cons inStar (rds_itPc fC) .nil))) (.cons inPlus (prod1 (rds_itPc fB)) .nil)) (sum1 (prodN (rds_itPc fB) (.cons inStar (rds_numK n2 (by decide)) .nil))) cEq
theorem off_close : off st2 tClose = true := by kernel_rfl
theorem rec_t3 : Rds 1 (testP (factorP (n + 2))) ((sgnPc 45 :: itPc [] 99) ++ sgnPc 60 :: ((sgnPc 40 :: (itPc [] 97 ++ (sgnPc 43 :: (itPc [32] 98 ++ [])) ++ [⟨[], 5, [41]⟩])) ++ (sgnPc 42 :: ((sgnPc 45 :: [⟨[], 2, [50]⟩]) ++ []))))
    (([itOp 99] ++ [(tOpp, 0, ⟨#[]⟩)]) ++ ((([itOp 97] ++ ([itOp 98] ++ (txt [43], 0, ⟨#[]⟩) :: [])) ++ (([(tPush, 2, ⟨#[]⟩)] ++ [(tOpp, 0, ⟨#[]⟩)]) ++ (txt [42], 0, ⟨#[]⟩) :: [])) ++ [(txt [60], 0, ⟨#[]⟩)])) st2 :=
  test1 (sum1 (prod1 (rds_neg (rds_itPc fC)))) (sum1 (prodN (rds_par (sumN (prod1 (rds_itPc fA)) (.cons inPlus (prod1 (rds_itPc fB)) .nil)) off_close) (.cons inStar (rds_neg (rds_numK n2 (by decide))) .nil))) cLt
end
def recL (d : List UInt8) : List Pc := stepPc [32] 120 [49] ++ (ifPc :: (itPc [32] 97 ++ (sgnPc 42 :: numPc d :: (recP2 ++ (numPc d :: recP3)))))
def recX (k : Nat) : List Lf := [⟨txt [120], 1, numVal (txt [49]), recOps k⟩]
theorem rec_cond {n k : Nat} {d : List UInt8} (e : numVal (txt d) = k) (hk : k ≤ 999999999) : RdC 1 (n + 2) (ifPc :: (itPc [32] 97 ++ (sgnPc 42 :: numPc d :: (recP2 ++ (numPc d :: recP3))))) (recOps k) stopAll :=
  condOf (orN (both1 ((rec_t1 e hk).deep (by omega))) (.cons inOr (bothN (rec_t2.deep (by omega)) (.cons inAnd rec_t3 .nil)) .nil))
theorem rec_read {k : Nat} {d : List UInt8} (e : numVal (txt d) = k) (hk : k ≤ 999999999) (n : Nat) : RdQ 1 (n + 8) (recL d) (recX k) := by
  have := rdq_seq (rdp_step (m := 1) (n := n + 7) (g := [32]) (g1 := []) (g2 := []) (nm := [120]) (kd := [49]) (rec_cond (n := n + 5) e hk) (.inr ⟨_, _, rfl⟩) (by decide)) .nil
  rw [List.append_nil] at this
  exact this
end Go.Proofs.YtddbjcfdmdbmkaaGreatDoor

/-
  The keeps: Reckoned, plain (2).
-/
namespace Go.Proofs.YtddbjcfdmdbmkaaGreatDoor
open Go.RowKit

theorem rec_split (d : List UInt8) : headPc [] [53] [49, 50] ++ recL d = recP1 ++ (numPc d :: (recP2 ++ (numPc d :: recP3))) := rfl
theorem rec_lay (d : List UInt8) : layL (headPc [] [53] [49, 50] ++ recL d) = layL recP1 ++ ([32] ++ (d ++ (layL recP2 ++ ([32] ++ (d ++ layL recP3))))) := by
  rw [rec_split, lay_app]
  show _ ++ ([32] ++ (d ++ layL (recP2 ++ (numPc d :: recP3)))) = _
  rw [lay_app]
  rfl
theorem rec_ok {k : Nat} (hk : k ≤ 999999999) : okN 0 (headPc [] [53] [49, 50] ++ recL (decL k)) = true := by
  have h1 : okN 32 recP1 = true := by kernel_rfl
  have h2 : okN 32 recP2 = true := by kernel_rfl
  have h3 : okN 0 recP3 = true := by kernel_rfl
  have hd : ∀ L, (layL (numPc (decL k) :: L)).headD 0 = 32 := fun _ => rfl
  have hn : ∀ (L : List Pc), (layL L).headD 0 = 32 → okN 0 (numPc (decL k) :: L) = okN 0 L := by
    intro L hL
    show ([32].all isBlankB && pcB 2 (decL k) ((layL L).headD 0) && okN 0 L) = _
    rw [hL, dec_pc hk (by kernel_rfl)]
    rfl
  rw [rec_split, ok_app, hd, h1, hn, ok_app, hd, h2, hn, h3]
  · rfl
  · rfl
  · rw [lay_app, headD_app, hd]; rfl
def recB1 : ByteArray := ⟨#[119, 105, 116, 104, 105, 110, 32, 53, 32, 114, 97, 116, 101, 32, 49, 50, 32, 120, 58, 49, 32, 105, 102, 32, 105, 116, 46, 97, 32, 42, 32]⟩
def recB2 : ByteArray := ⟨#[32, 45, 32, 105, 116, 46, 98, 32, 45, 32, 105, 116, 46, 99, 32, 43, 32]⟩
def recB3 : ByteArray := ⟨([32, 62, 32, 105, 116, 46, 97, 32, 47, 32, 105, 116, 46, 99, 32, 111, 114, 32, 105, 116, 46, 98, 32, 47, 32, 105, 116, 46, 99, 32, 42, 32, 105, 116, 46, 99, 32, 43, 32, 105, 116, 46].append [98, 32, 61, 32, 105, 116, 46, 98, 32, 42, 32, 50, 32, 97, 110, 100, 32, 45, 105, 116, 46, 99, 32, 60, 32, 40, 105, 116, 46, 97, 32, 43, 32, 105, 116, 46, 98, 41, 32, 42, 32, 45, 50]).toArray⟩
def recText (k : Nat) : ByteArray := recB1 ++ txt (decL k) ++ recB2 ++ txt (decL k) ++ recB3
theorem rec_bytes (k : Nat) : (recText k).data.toList = layL (headPc [] [53] [49, 50] ++ recL (decL k)) := by
  have h1 : recB1.data.toList = layL recP1 ++ [32] := by kernel_rfl
  have h2 : recB2.data.toList = layL recP2 ++ [32] := by kernel_rfl
  have h3 : recB3.data.toList = layL recP3 := by kernel_rfl
  rw [rec_lay]
  unfold recText
  simp only [ByteArray.data_append, Array.toList_append, h1, h2, h3, List.append_assoc]
  rfl
theorem rec_size {k : Nat} (hk : k ≤ 999999999) : (recText k).size ≤ 600 := by
  have h1 : recB1.size = 31 := by kernel_rfl
  have h2 : recB2.size = 17 := by kernel_rfl
  have h3 : recB3.size = 85 := by kernel_rfl
  have h4 : (txt (decL k)).size = (decL k).length := by show (decL k).toArray.size = _; simp
  have h5 := dec_len 8 k (by omega)
  unfold recText
  simp only [ByteArray.size_append, h1, h2, h3, h4]
  omega
theorem rec_text {k : Nat} (hk : k ≤ 999999999) : TextOK (recText k) 5 12 0 [stepsL (rowL (recX k))] := by
  have e1 : numVal (txt [53]) = 5 := by kernel_rfl
  have e2 : numVal (txt [49, 50]) = 12 := by kernel_rfl
  have e3 : mostP 12 (cntL (rowL (recX k))) = 0 := by kernel_rfl
  have e4 : okX (recX k) = true := by kernel_rfl
  have := text_flat (S := recText k) (g := []) (W := [53]) (R := [49, 50]) (L := recL (decL k)) (xs := recX k) (rec_bytes k) (rec_ok hk) (rec_size hk) (m := 1) (by omega) (by rw [e1]; omega) (by rw [e2]; omega) (by simp [recL, stepPc]) (rec_read (dec_all k).2.2 hk) e4
  rw [e1, e2, e3] at this
  exact this
theorem evP_nil (it : Ev) (n : Nat) : evP [] it n = it := by unfold evP; rw [if_neg (by simp)]
theorem bind_push (ns : List ByteArray) (k : Nat) (x : ByteArray) : bindB ns (tPush, k, x) = (tPush, k) := by
  have : isFieldB tPush = false := by kernel_rfl
  unfold bindB
  rw [this]
  rfl
/-- what Reckoned wants -/
def recWant (a b c : Int) (k : Nat) : Bool :=
  if c = 0 then false else
    decide (wrap64 (a.tdiv c) < wrap64 (wrap64 (wrap64 (wrap64 (a * k) - b) - c) + k)) || (decide (wrap64 (wrap64 (wrap64 (b.tdiv c) * c) + b) = wrap64 (b * 2)) && decide (wrap64 (-c) < wrap64 (wrap64 (a + b) * -2)))
theorem bitsB (p q : Bool) : bits BinOp.and .i64 (if p then 1 else 0) (if q then 1 else 0) = (if (p && q) then 1 else 0) ∧ bits BinOp.or .i64 (if p then 1 else 0) (if q then 1 else 0) = (if (p || q) then 1 else 0) := by
  cases p <;> cases q <;> exact ⟨by kernel_rfl, by kernel_rfl⟩
theorem rec_holds (a b c t kd : Int) (k : Nat) (ns : List ByteArray) : holdsP ((recOps k).map (bindB ns)) [] ⟨t, kd, a, b, c⟩ = recWant a b c k := by
  have w2 : wrap64 (-(2 : Nat) : Int) = -2 := by kernel_rfl
  have key : ((recOps k).map (bindB ns)).foldl (doP [] ⟨t, kd, a, b, c⟩) ([], false) = ([] ++ [if recWant a b c k then 1 else 0], false) := by
    unfold recOps itOp
    simp only [List.map_cons, List.map_nil, List.foldl_cons, List.foldl_nil, bind_push]
    simp only [bindB, do_push, do_a, do_b, do_c, do_opp, do_add, do_sub, do_mul, do_div, do_gt, do_eq, do_lt, do_and, do_or, evP_nil]
    unfold tstP
    rw [(bitsB _ _).1, (bitsB _ _).2, w2]
    have hb : (!(divP false a c).2 && cmpP (wrap64 (wrap64 (wrap64 (wrap64 (a * ↑k) - b) - c) + ↑k)) (txt [62]) (divP false a c).1 || (!(divP false b c).2 && cmpP (wrap64 (wrap64 ((divP false b c).1 * c) + b)) (txt [61]) (wrap64 (b * ((2 : Nat) : Int))) && (!false && cmpP (wrap64 (-c)) (txt [60]) (wrap64 (wrap64 (a + b) * -2))))) = recWant a b c k := by
      unfold recWant divP cmpP
      rw [tl1, tl1, tl1]
      by_cases hc : c = 0
      · rw [if_pos hc, if_pos hc, if_pos hc]; rfl
      · rw [if_neg hc, if_neg hc, if_neg hc]
        simp only [Bool.not_false, Bool.true_and]
        rfl
    rw [hb]
  rw [holds_fold (by simp [recOps]) _ _ key]
  cases recWant a b c k <;> rfl
end Go.Proofs.YtddbjcfdmdbmkaaGreatDoor

/-
  The keeps: feed.
-/
namespace Go.Proofs.YtddbjcfdmdbmkaaGreatDoor
open Go.RowKit

/-- what Feed gives, where nothing is wrong -/
def FedOK (S : Nat → Prop) (w : World) (E bd : Nat) (c : WC) (evs : List Ev) (e : Ev) (S' : Nat → Prop) (v : Value) (ys : List (List Nat)) (w' : World) : Prop :=
  (∀ b, S' b → S b ∨ w.heap.size ≤ b) ∧ Chg S w w' ∧ (∃ B xs, ListsAt B w' v xs ∧ w.heap.size ≤ B ∧ (∀ b, (v.ownBlock = some b ∨ ∃ y ∈ xs, y.1.ownBlock = some b) → ¬ S' b) ∧ xs.map (·.2) = ys) ∧ SortedL ys ∧ (∀ t, t ∈ ys ↔ MatchOK (absP c.paths) c.win (evs ++ [e]) t) ∧ Eng S' w' E bd 0 c (evs ++ [e])
set_option maxRecDepth 100000 in
set_option maxHeartbeats 1600000 in
theorem feedK_p {S : Nat → Prop} {w : World} {E bd : Nat} {c : WC} {evs : List Ev} (h : Eng S w E bd 0 c evs) (hc : WellE c) (hel : evs.length ≤ 100000000) (e : Ev) (he : In64 e.time) (hz : feedFP c.win c.rate evs e.time = 0) :
    Calls Tryz.prog 26 #[.pointer (some ⟨E, 0, none⟩), evVal e] w fun x w' => ∃ S' v ys, x = .returned (.tuple #[v, .bool true]) ∧ FedOK S w E bd c evs e S' v ys w' := by
  have hN := Blk.new w #[.int .i64 e.time, .int .i64 e.kind, .int .i64 e.a, .int .i64 e.b, .int .i64 e.c] 44
  have hch : Chg (fun _ => False) w (w.alloc (.cells #[.int .i64 e.time, .int .i64 e.kind, .int .i64 e.a, .int .i64 e.b, .int .i64 e.c] 44)) := (Chg.refl _ w).alloc _
  have hlt := h.lt
  have h1 := h.to hch (fun _ k => k.elim)
  unfold evVal
  go_enter Tryz.func26, Tryz.ntmps26
  go_upto_region 1 with fail
  generalize w.alloc (.cells #[.int .i64 e.time, .int .i64 e.kind, .int .i64 e.a, .int .i64 e.b, .int .i64 e.c] 44) = W at *
  have v0 := hN.cell 0; have v1 := hN.cell 1; have v2 := hN.cell 2; have v3 := hN.cell 3; have v4 := hN.cell 4; have l3 := hN.lt
  simp at v0 v1 v2 v3 v4
  have hf := feed_go h1 hc hel e he hz
  unfold evVal at hf
  go_wp2_with (first
    | (go_at_call 27; refine hf.mono ?_; rintro x1 w1 ⟨S', v, B, ys, rfl, q1, q2, q3, q4, q5, q6, q7, q8⟩))
  have hs := hch.size
  refine bodyPost_ret (v := .tuple #[v, .bool true]) (by simp [results, Tryz.results26, go_sem]) rfl ⟨S', v, _, rfl, fun b hb => ?_, (hch.mono (fun b _ k => k.elim)).trans q2 (fun b _ k => k), ⟨B, ys, q3, by omega, q5, rfl⟩, q6, q7, q8⟩
  rcases q1 b hb with k | k
  · exact .inl k
  · exact .inr (by omega)
end Go.Proofs.YtddbjcfdmdbmkaaGreatDoor

/-
  The keeps: Reckoned.
-/
namespace Go.Proofs.YtddbjcfdmdbmkaaGreatDoor
open Go.RowKit

def recSt (k : Nat) : WStep := ⟨⟨1, (recOps k).map (bindB [txt [120]])⟩, []⟩
theorem rec_steps (k : Nat) : stepsL (rowL (recX k)) = [recSt k] := by kernel_rfl
theorem rec_fits (k : Nat) (t kd a b c : Int) : (stepA (recSt k)).fits [] ⟨t, kd, a, b, c⟩ = (decide (kd = 1) && recWant a b c k) := by
  show fitsW _ _ _ = _
  unfold fitsW recSt
  simp only
  rw [rec_holds]
  rfl
theorem lists_one {ys : List (List Nat)} (hs : SortedL ys) {x : List Nat} {p : Prop} [Decidable p] (h : ∀ t, t ∈ ys ↔ t = x ∧ p) : ys.length = if p then 1 else 0 := by
  by_cases hp : p
  · have : ys = [x] := sorted_uniq hs (sorted1 x) (fun t => by rw [h]; simp [hp])
    rw [this, if_pos hp]; rfl
  · have : ys = [] := sorted_uniq hs List.Pairwise.nil (fun t => by rw [h]; simp [hp])
    rw [this, if_neg hp]; rfl
theorem FedOK.slice {S : Nat → Prop} {w : World} {E bd : Nat} {c : WC} {evs : List Ev} {e : Ev} {S' : Nat → Prop} {v : Value} {ys : List (List Nat)} {w' : World} (h : FedOK S w E bd c evs e S' v ys w') : ∃ a cp, v = .slice a ys.length cp := by
  obtain ⟨_, _, ⟨B, xs, hl, _, _, rfl⟩, _⟩ := h
  obtain ⟨a, cp, e, _⟩ := hl.read.form
  exact ⟨a, cp, e⟩
def recE1 (a b c : Int) : Ev := ⟨0, 1, a, b, c⟩
def recE2 (a b c : Int) : Ev := ⟨0, 2, a, b, c⟩
theorem rec_f1 : feedFP 5 12 [] 0 = 0 := by kernel_rfl
theorem rec_f2 (a b c : Int) : feedFP 5 12 ([] ++ [recE1 a b c]) 0 = 0 := by
  unfold feedFP lastT cntNear recE1 evAt
  simp
theorem rec_feed {k E : Nat} {pv : Value} {svs : List Value} {Z : Nat → Prop} {w : World} (hE : Eng Z w E 0 0 ⟨5, 12, pv, [stepsL (rowL (recX k))], svs⟩ []) (hk : k < 1000) (a b c : Int) {p : Bool} (hw : recWant a b c k = p) (m : Nat) (hm : (if p then 1 else 0) = m) :
    Calls Tryz.prog 26 #[.pointer (some ⟨E, 0, none⟩), .agg #[.int .i64 0, .int .i64 1, .int .i64 a, .int .i64 b, .int .i64 c]] w fun x w' => ∃ S' sl cp, x = .returned (.tuple #[.slice sl m cp, .bool true]) ∧ (∀ b, S' b → Z b ∨ w.heap.size ≤ b) ∧ Chg Z w w' ∧ Eng S' w' E 0 0 ⟨5, 12, pv, [stepsL (rowL (recX k))], svs⟩ ([] ++ [recE1 a b c]) := by
  have hwell := (rec_text (k := k) (by omega)).well pv svs
  refine (feedK_p hE hwell (by simp) (recE1 a b c) (by unfold recE1 In64; simp) rec_f1).mono ?_
  rintro x w' ⟨S', v, ys, rfl, F⟩
  obtain ⟨sl, cp, rfl⟩ := F.slice
  obtain ⟨q1, q2, _, q4, q5, q6⟩ := F
  have hl : ys.length = if p = true then 1 else 0 := by
    refine lists_one q4 (x := [0]) (fun t => ?_)
    rw [q5]
    show MatchOK (absP [stepsL (rowL (recX k))]) 5 ([] ++ [recE1 a b c]) t ↔ _
    rw [rec_steps]
    show MatchOK [[stepA (recSt k)]] 5 ([] ++ [recE1 a b c]) t ↔ _
    rw [one_match (by decide)]
    unfold recE1
    rw [rec_fits, hw]
    simp
  rw [hl, hm]
  exact ⟨S', sl, cp, rfl, q1, q2, q6⟩
theorem rec_feed2 {k E : Nat} {pv : Value} {svs : List Value} {Z : Nat → Prop} {w : World} {a b c : Int} (hE : Eng Z w E 0 0 ⟨5, 12, pv, [stepsL (rowL (recX k))], svs⟩ ([] ++ [recE1 a b c])) (hk : k < 1000) :
    Calls Tryz.prog 26 #[.pointer (some ⟨E, 0, none⟩), .agg #[.int .i64 0, .int .i64 2, .int .i64 a, .int .i64 b, .int .i64 c]] w fun x w' => ∃ sl cp, x = .returned (.tuple #[.slice sl 0 cp, .bool true]) ∧ Chg Z w w' := by
  have hwell := (rec_text (k := k) (by omega)).well pv svs
  refine (feedK_p hE hwell (by simp) (recE2 a b c) (by unfold recE2 In64; simp) (rec_f2 a b c)).mono ?_
  rintro x w' ⟨S', v, ys, rfl, F⟩
  obtain ⟨sl, cp, rfl⟩ := F.slice
  obtain ⟨q1, q2, _, q4, q5, q6⟩ := F
  have hl : ys = [] := by
    cases ys with
    | nil => rfl
    | cons t l =>
      have := (q5 t).1 (by simp)
      have h2 : MatchOK (absP [stepsL (rowL (recX k))]) 5 ([recE1 a b c] ++ [recE2 a b c]) t := this
      rw [rec_steps] at h2
      have h3 : MatchOK [[stepA (recSt k)]] 5 ([recE1 a b c] ++ [recE2 a b c]) t := h2
      rw [one_match (by decide)] at h3
      have h4 := h3.2
      unfold recE2 at h4
      rw [rec_fits] at h4
      simp at h4
  subst hl
  exact ⟨sl, cp, rfl, q2⟩
theorem rec_m1 (a b : Int) (k : Nat) : recWant a b (-1) k = (decide (wrap64 (-a) < wrap64 (wrap64 (wrap64 (wrap64 (a * k) - b) + 1) + k)) || (decide (wrap64 (wrap64 (-wrap64 (-b)) + b) = wrap64 (b * 2)) && decide (1 < wrap64 (wrap64 (a + b) * -2)))) := by
  have e1 : a.tdiv (-1) = -a := by rw [Int.tdiv_neg, Int.tdiv_one]
  have e2 : b.tdiv (-1) = -b := by rw [Int.tdiv_neg, Int.tdiv_one]
  have e3 : wrap64 (- -1) = 1 := by kernel_rfl
  have e4 : ∀ x : Int, x - -1 = x + 1 := fun x => by omega
  have e5 : ∀ x : Int, x * -1 = -x := fun x => by omega
  unfold recWant
  rw [if_neg (by decide), e1, e2, e3, e4, e5]
set_option maxRecDepth 100000 in
set_option maxHeartbeats 6400000 in
theorem reckoned_p (a b c n : Int) (ha : In64 a) (hb : In64 b) (hc : In64 c) (hn : In64 n) (w : World) :
    Calls Tryz.prog 14 #[.int .i64 a, .int .i64 b, .int .i64 c, .int .i64 n] w fun x w' => x = .returned (.bool true) ∧ Below w.heap.size w w' := by
  have hk := pick_lt n (show 0 < 1000 by omega)
  have hp := fun w1 => pick_p n 1000 hn (by omega) (by omega) w1
  generalize hkk : pickP n 1000 = k at *
  have hd := fun w1 => decimal_p k (by omega) w1
  have hbg := fun w1 => begin_p (rec_text (k := k) (by omega)) w1
  have hds : (txt (decL k)).size ≤ 9 := by
    have h4 : (txt (decL k)).size = (decL k).length := by show (decL k).toArray.size = _; simp
    rw [h4]; exact dec_len 8 k (by omega)
  have g1 : ¬ 9223372036854775807 < 31 + (txt (decL k)).size := by omega
  have g2 : ¬ 9223372036854775807 < 31 + (txt (decL k)).size + 17 := by omega
  have g3 : ¬ 9223372036854775807 < 31 + (txt (decL k)).size + 17 + (txt (decL k)).size := by omega
  have g4 : ¬ 9223372036854775807 < 31 + (txt (decL k)).size + 17 + (txt (decL k)).size + 85 := by omega
  go_enter Tryz.func14, Tryz.ntmps14
  go_upto_region 3 with (first
    | (go_at_call 21; refine (hp _).mono ?_; rintro x1 w1 ⟨rfl, rfl⟩)
    | (go_at_call 33; refine (hd _).mono ?_; rintro x2 w2 ⟨rfl, rfl⟩)
    | (go_at_call 24; refine (hbg _).mono ?_; rintro x3 w3 ⟨E, Z, pv, svs, rfl, hb3, hz3, hE3⟩))
  clear g1 g2 g3 g4 hds hp hd hbg
  have key : (c = 0 ∧ recWant a b c k = false)
      ∨ (c = -1 ∧ wrap64 (-a) < wrap64 (wrap64 (wrap64 (wrap64 (a * k) - b) + 1) + k) ∧ recWant a b c k = true)
      ∨ (c = -1 ∧ (¬ wrap64 (-a) < wrap64 (wrap64 (wrap64 (wrap64 (a * k) - b) + 1) + k) ∧ wrap64 (wrap64 (wrap64 (wrap64 (a * k) - b) + 1) + k) ≤ wrap64 (-a)) ∧ (wrap64 (wrap64 (-wrap64 (-b)) + b) = wrap64 (b * 2) ∧ 1 < wrap64 (wrap64 (a + b) * -2)) ∧ recWant a b c k = true)
      ∨ (c = -1 ∧ (¬ wrap64 (-a) < wrap64 (wrap64 (wrap64 (wrap64 (a * k) - b) + 1) + k) ∧ wrap64 (wrap64 (wrap64 (wrap64 (a * k) - b) + 1) + k) ≤ wrap64 (-a)) ∧ (wrap64 (wrap64 (-wrap64 (-b)) + b) = wrap64 (b * 2) ∧ ¬ 1 < wrap64 (wrap64 (a + b) * -2)) ∧ recWant a b c k = false)
      ∨ (c = -1 ∧ (¬ wrap64 (-a) < wrap64 (wrap64 (wrap64 (wrap64 (a * k) - b) + 1) + k) ∧ wrap64 (wrap64 (wrap64 (wrap64 (a * k) - b) + 1) + k) ≤ wrap64 (-a)) ∧ ¬ wrap64 (wrap64 (-wrap64 (-b)) + b) = wrap64 (b * 2) ∧ recWant a b c k = false)
      ∨ ((¬ c = 0 ∧ ¬ c = -1) ∧ wrap64 (a.tdiv c) < wrap64 (wrap64 (wrap64 (wrap64 (a * k) - b) - c) + k) ∧ recWant a b c k = true)
      ∨ ((¬ c = 0 ∧ ¬ c = -1) ∧ (¬ wrap64 (a.tdiv c) < wrap64 (wrap64 (wrap64 (wrap64 (a * k) - b) - c) + k) ∧ wrap64 (wrap64 (wrap64 (wrap64 (a * k) - b) - c) + k) ≤ wrap64 (a.tdiv c)) ∧ (wrap64 (wrap64 (wrap64 (b.tdiv c) * c) + b) = wrap64 (b * 2) ∧ wrap64 (-c) < wrap64 (wrap64 (a + b) * -2)) ∧ recWant a b c k = true)
      ∨ ((¬ c = 0 ∧ ¬ c = -1) ∧ (¬ wrap64 (a.tdiv c) < wrap64 (wrap64 (wrap64 (wrap64 (a * k) - b) - c) + k) ∧ wrap64 (wrap64 (wrap64 (wrap64 (a * k) - b) - c) + k) ≤ wrap64 (a.tdiv c)) ∧ (wrap64 (wrap64 (wrap64 (b.tdiv c) * c) + b) = wrap64 (b * 2) ∧ ¬ wrap64 (-c) < wrap64 (wrap64 (a + b) * -2)) ∧ recWant a b c k = false)
      ∨ ((¬ c = 0 ∧ ¬ c = -1) ∧ (¬ wrap64 (a.tdiv c) < wrap64 (wrap64 (wrap64 (wrap64 (a * k) - b) - c) + k) ∧ wrap64 (wrap64 (wrap64 (wrap64 (a * k) - b) - c) + k) ≤ wrap64 (a.tdiv c)) ∧ ¬ wrap64 (wrap64 (wrap64 (b.tdiv c) * c) + b) = wrap64 (b * 2) ∧ recWant a b c k = false) := by
    by_cases hc0 : c = 0
    · exact .inl ⟨hc0, by unfold recWant; rw [if_pos hc0]⟩
    by_cases hc1 : c = -1
    · have e := rec_m1 a b k
      rw [hc1] at *
      generalize wrap64 (-a) = p at *
      generalize wrap64 (wrap64 (wrap64 (wrap64 (a * k) - b) + 1) + k) = q at *
      generalize wrap64 (wrap64 (-wrap64 (-b)) + b) = r at *
      generalize wrap64 (b * 2) = r2 at *
      generalize wrap64 (wrap64 (a + b) * -2) = u at *
      by_cases h1 : p < q
      · exact .inr (.inl ⟨rfl, h1, by rw [e]; simp [h1]⟩)
      · have h1' : q ≤ p := by omega
        by_cases h2 : r = r2
        · by_cases h3 : 1 < u
          · exact .inr (.inr (.inl ⟨rfl, ⟨h1, h1'⟩, ⟨h2, h3⟩, by rw [e]; simp [h2, h3]⟩))
          · exact .inr (.inr (.inr (.inl ⟨rfl, ⟨h1, h1'⟩, ⟨h2, h3⟩, by rw [e]; simp only [h1, h3]; simp⟩)))
        · exact .inr (.inr (.inr (.inr (.inl ⟨rfl, ⟨h1, h1'⟩, h2, by rw [e]; simp only [h1, h2]; simp⟩))))
    · have e : recWant a b c k = (decide (wrap64 (a.tdiv c) < wrap64 (wrap64 (wrap64 (wrap64 (a * k) - b) - c) + k)) || (decide (wrap64 (wrap64 (wrap64 (b.tdiv c) * c) + b) = wrap64 (b * 2)) && decide (wrap64 (-c) < wrap64 (wrap64 (a + b) * -2)))) := by unfold recWant; rw [if_neg hc0]
      generalize wrap64 (a.tdiv c) = p at *
      generalize wrap64 (wrap64 (wrap64 (wrap64 (a * k) - b) - c) + k) = q at *
      generalize wrap64 (wrap64 (wrap64 (b.tdiv c) * c) + b) = r at *
      generalize wrap64 (b * 2) = r2 at *
      generalize wrap64 (wrap64 (a + b) * -2) = u at *
      generalize wrap64 (-c) = v at *
      by_cases h1 : p < q
      · exact .inr (.inr (.inr (.inr (.inr (.inl ⟨⟨hc0, hc1⟩, h1, by rw [e]; simp [h1]⟩)))))
      · have h1' : q ≤ p := by omega
        by_cases h2 : r = r2
        · by_cases h3 : v < u
          · exact .inr (.inr (.inr (.inr (.inr (.inr (.inl ⟨⟨hc0, hc1⟩, ⟨h1, h1'⟩, ⟨h2, h3⟩, by rw [e]; simp [h2, h3]⟩))))))
          · exact .inr (.inr (.inr (.inr (.inr (.inr (.inr (.inl ⟨⟨hc0, hc1⟩, ⟨h1, h1'⟩, ⟨h2, h3⟩, by rw [e]; simp only [h1, h3]; simp⟩)))))))
        · exact .inr (.inr (.inr (.inr (.inr (.inr (.inr (.inr ⟨⟨hc0, hc1⟩, ⟨h1, h1'⟩, h2, by rw [e]; simp only [h1, h2]; simp⟩)))))))
  rcases key with ⟨rfl, hw⟩ | ⟨rfl, h1, hw⟩ | ⟨rfl, ⟨h1, h1'⟩, ⟨h2, h3⟩, hw⟩ | ⟨rfl, ⟨h1, h1'⟩, ⟨h2, h3⟩, hw⟩ | ⟨rfl, ⟨h1, h1'⟩, h2, hw⟩ | ⟨⟨hc0, hc1⟩, h1, hw⟩ | ⟨⟨hc0, hc1⟩, ⟨h1, h1'⟩, ⟨h2, h3⟩, hw⟩ | ⟨⟨hc0, hc1⟩, ⟨h1, h1'⟩, ⟨h2, h3⟩, hw⟩ | ⟨⟨hc0, hc1⟩, ⟨h1, h1'⟩, h2, hw⟩
  all_goals go_upto_region 15 with fail
  all_goals
    go_upto_region 16 with (first
      | (go_at_call 26; refine (rec_feed hE3 hk a b _ hw _ rfl).mono ?_; rintro x4 w4 ⟨S4, sl4, cp4, rfl, hs4, hch4, hE4⟩))
  all_goals
    have hr4 := rec_feed2 hE4 hk
    clear hE3 hE4
    go_wp2_with (first
      | (go_at_call 26; refine hr4.mono ?_; rintro x5 w5 ⟨sl5, cp5, rfl, hch5⟩))
  all_goals
    go_ret
    refine ⟨rfl, ?_⟩
    have s3 := hb3.size
    have s4 := hch4.size
    refine (hb3.trans (hch4.bel s3 hz3)).trans (hch5.bel (by omega) (fun b hb => ?_))
    rcases hs4 b hb with k | k
    · exact hz3 b k
    · omega
end Go.Proofs.YtddbjcfdmdbmkaaGreatDoor
