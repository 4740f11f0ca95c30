import Derived.Test.YtddbjcfdmdbmkaaGreatDoorB37
import Derived.Test.YtddbjcfdmdbmkaaGreatDoorB39
import Derived.Deep.RegionHeld3
set_option linter.unusedVariables false
set_option linter.unusedSimpArgs false
namespace Go.Proofs.YtddbjcfdmdbmkaaGreatDoor
open Go.RowKit

def prTail : List UInt8 := [32, 124, 32, 97, 58, 48, 48, 50, 32, 116, 105, 109, 101, 115, 32, 50, 32, 105, 102, 32, 45, 40, 97, 46, 97, 41, 32, 43, 97, 46, 98, 47, 32, 40, 105, 116, 46, 99, 41, 60, 61, 48, 48, 32, 41]
theorem pr_tail1 : layL (sg [32] 124 :: (prQ1 ++ [sg [32] 41])) = prTail := by kernel_rfl
theorem pr_tail2 : (layL (sg [32] 124 :: (prQ2 ++ [sg [32] 41]))).length ≤ 60 := by decide
theorem pr_okN {g gs : List UInt8} {W R : Nat} {os : List SO} {Q : List Pc} (hh : okN 32 (headPc g (decL W) (decL R)) = true) (ho : okN 32 (soSeq gs 0 os) = true) (hq : okN 32 Q = true) : okN 0 (prL g W R gs os Q) = true := by
  unfold prL brL
  rw [ok_app]
  show (okN 32 (headPc g (decL W) (decL R)) && (true && (okN 0 (soSeq gs 0 os ++ (⟨[32], 5, [124]⟩ :: (Q ++ [⟨[32], 5, [41]⟩])))))) = true
  rw [hh, ok_app]
  show (true && (true && (okN 32 (soSeq gs 0 os) && (true && (true && okN 0 (Q ++ [⟨[32], 5, [41]⟩])))))) = true
  rw [ho, ok_app]
  show (true && (true && (true && (true && (true && (okN 32 Q && true)))))) = true
  rw [hq]
  rfl
theorem pr_join {S : ByteArray} {L : List Pc} {bs : List UInt8} (hS : S.data.toList = layL L) (hok : okN 0 L = true) (hc : cOK true L bs = true) : (joinP (tokensP S)).data.toList = bs := by
  unfold cOK at hc
  simp only [Bool.and_eq_true, beq_iff_eq] at hc
  rw [tokens_lay hS hok]
  unfold joinP
  rw [join_lay L 0 true (fun p hp => by
    have := List.all_eq_true.1 hc.2 p hp
    simpa using this), hc.1.1]
theorem pr_both {W R : Nat} (hW : 1 ≤ W ∧ W ≤ 40) (hR : 1 ≤ R ∧ R ≤ 7) {os : List SO} (h : SoOK os) (hf : 1 ≤ os.length ∧ os.length ≤ 3) {S : ByteArray} (hS : S.data.toList = [32, 10] ++ ((headB W R).data.toList ++ ([40] ++ (layL (soSeq [] 0 os) ++ prTail)))) :
    ∃ T : ByteArray, TextOK S W R (mostP R os.length + mostP R 2) [stepsL (rowL (soXs 0 os)), stepsL (rowL prX)] ∧ TextOK T W R (mostP R os.length + mostP R 2) [stepsL (rowL (soXs 0 os)), stepsL (rowL prX)] ∧ prtP S = (T, 0, 0) ∧ prtP T = (T, 0, 0) ∧ T.size ≤ S.size + 20 ∧ S.size ≤ 600 := by
  have h0 : os ≠ [] := by rintro rfl; simp at hf
  obtain ⟨a1, _, a3, a4, _⟩ := so_all (fr := 0) (nb := 32) (by omega) h h0 (by omega) (by omega) (by simp [nbs])
  obtain ⟨_, a2, _, _, _⟩ := so_all (fr := 0) (nb := 32) (by omega) h h0 (by omega) (by omega) (by simp [nbs])
  obtain ⟨p1, p2, p3⟩ := pr_head hW hR
  obtain ⟨c1, c2⟩ := pr_canon hW hR h h0 (by omega)
  have hS1 : S.data.toList = layL (prL [32, 10] W R [] os prQ1) := by
    rw [hS, head_lay, ← pr_tail1]
    unfold prL brL
    rw [lay_app]
    show _ = layL (headPc [32, 10] (decL W) (decL R)) ++ ([32, 40] ++ layL (soSeq [] 0 os ++ (sg [32] 124 :: (prQ1 ++ [sg [32] 41]))))
    rw [lay_app]
    simp [headPc, layL]
  have hh2 : okN 32 (headPc [] (decL W) (decL R)) = true := head_ok (by omega) (by omega) (by kernel_rfl)
  have hok1 := pr_okN (os := os) p3 a2 pr_ok1
  have hok2 := pr_okN (os := os) hh2 a1 pr_ok2
  have l1 := dec_len 8 W (by omega)
  have l2 := dec_len 8 R (by omega)
  have lS : S.size = 2 + ((layL (headPc [] (decL W) (decL R))).length + (1 + (1 + ((layL (soSeq [] 0 os)).length + 45)))) := by
    have e : S.size = S.data.toList.length := by simp
    rw [e, hS, head_lay]
    simp [prTail]
    omega
  have lh : (layL (headPc [] (decL W) (decL R))).length ≤ 40 := by simp [headPc, layL]; omega
  have hz : S.size ≤ 600 := by omega
  have t1 := pr_text hW hR h hf (fun n => pr_read (by kernel_rfl) (by kernel_rfl) n) p3 a2 pr_ok1 hS1 hz
  refine ⟨joinP (tokensP S), t1, ?_⟩
  have hJ := pr_join hS1 hok1 c1
  have eT : layL (prL [] W R [32] os prQ2) = layL (headPc [] (decL W) (decL R)) ++ ([32, 40] ++ (layL (soSeq [32] 0 os) ++ layL (sg [32] 124 :: (prQ2 ++ [sg [32] 41])))) := by
    unfold prL brL
    rw [lay_app]
    show _ ++ ([32, 40] ++ layL (soSeq [32] 0 os ++ (sg [32] 124 :: (prQ2 ++ [sg [32] 41])))) = _
    rw [lay_app]
  have lT : (joinP (tokensP S)).size = (layL (headPc [] (decL W) (decL R))).length + (2 + (1 + (layL (soSeq [] 0 os)).length + (layL (sg [32] 124 :: (prQ2 ++ [sg [32] 41]))).length)) := by
    have e : (joinP (tokensP S)).size = (joinP (tokensP S)).data.toList.length := by simp
    rw [e, hJ, eT, a3]
    simp
    omega
  have l3 := pr_tail2
  have hpS : prtP S = (joinP (tokensP S), 0, 0) := by
    obtain ⟨body, ps, hh, _⟩ := t1.her
    exact prt_ok rfl hh
  generalize joinP (tokensP S) = T at *
  have t2 := pr_text hW hR h hf (fun n => pr_read (by kernel_rfl) (by kernel_rfl) n) hh2 a1 pr_ok2 hJ (by omega)
  have hJ2 := pr_join hJ hok2 c2
  refine ⟨t2, hpS, ?_, by omega, hz⟩
  obtain ⟨body, ps, hh, _⟩ := t2.her
  have e3 := prt_ok rfl hh
  rw [e3]
  have : joinP (tokensP T) = T := by
    apply ByteArray.ext
    exact Array.ext' (hJ2.trans hJ.symm)
  rw [this]
end Go.Proofs.YtddbjcfdmdbmkaaGreatDoor
