import Derived.Test.YtddbjcfdmdbmkaaGreatDoorB34
import Derived.Test.YtddbjcfdmdbmkaaGreatDoorB36
set_option linter.unusedVariables false
set_option linter.unusedSimpArgs false
namespace Go.Proofs.YtddbjcfdmdbmkaaGreatDoor
open Go.RowKit

def clB (p : Pc) : Bool := closesB ⟨p.k, 0, txt p.w⟩
def canon : Bool → List Pc → List Pc
  | _, [] => []
  | tight, p :: L => ⟨if tight || clB p then [] else [32], p.k, if p.k = 2 then trimL p.w else p.w⟩ :: canon (clB p) L
def endC : Bool → List Pc → Bool
  | t, [] => t
  | _, p :: L => endC (clB p) L
theorem canon_app (A B : List Pc) : ∀ t, canon t (A ++ B) = canon t A ++ canon (endC t A) B := by
  induction A with
  | nil => intro t; rfl
  | cons p A ih => intro t; show _ :: canon (clB p) (A ++ B) = _; rw [ih]; rfl
theorem end_app (A B : List Pc) : ∀ t, endC t (A ++ B) = endC (endC t A) B := by
  induction A with
  | nil => intro t; rfl
  | cons p A ih => intro t; exact ih (clB p)
theorem join_lay : ∀ (L : List Pc) (i : Nat) (tight : Bool), (∀ p ∈ L, p.k ≠ 1) → joinL tight (toksAt i L) = layL (canon tight L) := by
  intro L
  induction L with
  | nil => intro i tight _; simp [toksAt, joinL, canon, layL]
  | cons p L ih =>
    intro i tight h
    unfold toksAt joinL canon layL
    rw [if_neg (h p (by simp)), ih _ _ (fun x hx => h x (by simp [hx]))]
    have e1 : (txt p.w).data.toList = p.w := by unfold txt; simp
    unfold gapL plainL
    simp only [e1]
    rfl
def cOK (t : Bool) (A : List Pc) (bs : List UInt8) : Bool := (layL (canon t A) == bs) && (endC t A == false) && A.all fun p => !(p.k == 1)
theorem c_steps : ((List.range 4).all fun i => (List.range 3).all fun k => (List.range 4).all fun q => cOK false (soS [32] 0 i ⟨k, q, 0⟩) (layL (soS [32] 0 i ⟨k, q, 0⟩)) && cOK false (soS [] 0 i ⟨k, q, 0⟩) (layL (soS [32] 0 i ⟨k, q, 0⟩))) = true := by kernel_rfl
theorem c_guards : ((List.range 4).all fun g => cOK false (soGT g) (layL (soGT g))) = true := by kernel_rfl
theorem c_then : cOK false [thenPc] (layL [thenPc]) = true := by kernel_rfl
theorem c_head : ((List.range 41).all fun W => (List.range 8).all fun R => W == 0 || R == 0 || (cOK true (headPc [32, 10] (decL W) (decL R)) (layL (headPc [] (decL W) (decL R))) && cOK true (headPc [] (decL W) (decL R)) (layL (headPc [] (decL W) (decL R))) && okN 32 (headPc [32, 10] (decL W) (decL R)))) = true := by kernel_rfl
theorem cOK_app {t : Bool} {A B : List Pc} {a b : List UInt8} (h : cOK t A a = true) (h' : cOK false B b = true) : cOK t (A ++ B) (a ++ b) = true := by
  unfold cOK at *
  simp only [Bool.and_eq_true, beq_iff_eq] at *
  obtain ⟨⟨a1, a2⟩, a3⟩ := h
  obtain ⟨⟨b1, b2⟩, b3⟩ := h'
  rw [canon_app, a2, lay_app, a1, b1, end_app, a2, b2, List.all_append, a3, b3]
  exact ⟨⟨rfl, rfl⟩, rfl⟩
theorem c_tail : ∀ (os : List SO) (i : Nat), SoOK os → i + os.length ≤ 4 → cOK false (soT 0 i os) (layL (soT 0 i os)) = true := by
  intro os
  induction os with
  | nil => intro i _ _; rfl
  | cons o os ih =>
    intro i h hl
    rw [List.length_cons] at hl
    obtain ⟨h1, h2, h3⟩ := h o (by simp)
    have hs := List.all_eq_true.1 c_steps i (List.mem_range.2 (by omega))
    have hs := List.all_eq_true.1 hs o.k (List.mem_range.2 (by omega))
    have hs := List.all_eq_true.1 hs o.q (List.mem_range.2 (by omega))
    rw [Bool.and_eq_true] at hs
    have hg := List.all_eq_true.1 c_guards o.g (List.mem_range.2 (by omega))
    have := cOK_app hg (cOK_app c_then (cOK_app (show cOK false (soS [32] 0 i o) (layL (soS [32] 0 i o)) = true from hs.1) (ih (i + 1) (fun x hx => h x (by simp [hx])) (by omega))))
    rw [← lay_app, ← lay_app, ← lay_app] at this
    exact this
theorem c_seq {os : List SO} (h : SoOK os) (h0 : os ≠ []) (hl : os.length ≤ 4) : cOK false (soSeq [] 0 os) (layL (soSeq [32] 0 os)) = true ∧ cOK false (soSeq [32] 0 os) (layL (soSeq [32] 0 os)) = true := by
  cases os with
  | nil => exact absurd rfl h0
  | cons o os =>
    rw [List.length_cons] at hl
    obtain ⟨h1, h2, h3⟩ := h o (by simp)
    have hs := List.all_eq_true.1 c_steps 0 (List.mem_range.2 (by omega))
    have hs := List.all_eq_true.1 hs o.k (List.mem_range.2 (by omega))
    have hs := List.all_eq_true.1 hs o.q (List.mem_range.2 (by omega))
    rw [Bool.and_eq_true] at hs
    have ht := c_tail os 1 (fun x hx => h x (by simp [hx])) (by omega)
    have e : ∀ g, soSeq g 0 (o :: os) = soS g 0 0 o ++ soT 0 1 os := fun _ => rfl
    constructor
    · have := cOK_app (show cOK false (soS [] 0 0 o) (layL (soS [32] 0 0 o)) = true from hs.2) ht
      rw [← lay_app] at this
      rw [e, e]; exact this
    · have := cOK_app (show cOK false (soS [32] 0 0 o) (layL (soS [32] 0 0 o)) = true from hs.1) ht
      rw [← lay_app] at this
      rw [e]; exact this
def sg (g : List UInt8) (b : UInt8) : Pc := ⟨g, 5, [b]⟩
def prQ (g0 g1 g2 g3 g4 g5 g6 g7 g8 : List UInt8) (kd z : List UInt8) : List Pc := ⟨[32], 3, [97]⟩ :: ⟨[], 5, [58]⟩ :: ⟨[], 2, kd⟩ :: ⟨[32], 4, [116, 105, 109, 101, 115]⟩ :: ⟨[32], 2, [50]⟩ :: ifPc ::
  (((sg [32] 45 :: (sg g0 40 :: (fldPc g1 97 97 ++ [sg g2 41]))) ++ (sg [32] 43 :: ((fldPc g3 97 98 ++ (sg g4 47 :: ((sg [32] 40 :: (itPc g5 99 ++ [sg g6 41])) ++ []))) ++ []))) ++ ⟨g7, 5, [60, 61]⟩ :: [⟨g8, 2, z⟩])
def prQ1 : List Pc := prQ [] [] [] [] [] [] [] [] [] [48, 48, 50] [48, 48]
def prQ2 : List Pc := prQ [32] [32] [32] [32] [32] [32] [32] [32] [32] [50] [48]
def prOps : List BOp := (([fldOp 97 97] ++ [(tOpp, 0, ⟨#[]⟩)]) ++ (([fldOp 97 98] ++ ([itOp 99] ++ (txt [47], 0, ⟨#[]⟩) :: [])) ++ (txt [43], 0, ⟨#[]⟩) :: [])) ++ ([(tPush, 0, ⟨#[]⟩)] ++ [(txt [60, 61], 0, ⟨#[]⟩)])
def prX : List Lf := [⟨txt [97], 2, 2, prOps⟩]
theorem pr_read {g0 g1 g2 g3 g4 g5 g6 g7 g8 kd z : List UInt8} (hk : numVal (txt kd) = 2) (hz : numVal (txt z) = 0) (n : Nat) : RdQ 2 (n + 7) (prQ g0 g1 g2 g3 g4 g5 g6 g7 g8 kd z) prX := by
  have hc : RdC 2 (n + 6) (ifPc :: (((sg [32] 45 :: (sg g0 40 :: (fldPc g1 97 97 ++ [sg g2 41]))) ++ (sg [32] 43 :: ((fldPc g3 97 98 ++ (sg g4 47 :: ((sg [32] 40 :: (itPc g5 99 ++ [sg g6 41])) ++ []))) ++ []))) ++ ⟨g7, 5, [60, 61]⟩ :: [⟨g8, 2, z⟩])) prOps stopAll :=
    condOf (or1 (both1 (test1 (sumN (prod1 (rds_neg (rds_par (sum1 (prod1 (rds_fldPc (n := n + 3) (by kernel_rfl) (by kernel_rfl) fA))) off_close))) (.cons inPlus (prodN ((rds_fldPc (n := n + 5) (by kernel_rfl) (by kernel_rfl) fB).deep (by omega)) (.cons inSlash ((rds_par (sum1 (prod1 (rds_itPc (n := n + 4) fC))) off_close).deep (by omega)) .nil)) .nil)) (sum1 (prod1 ((rds_numK (n := n + 5) hz (by decide)).deep (by omega)))) cLe)))
  have h := rdp_times (m := 2) (g := [32]) (g1 := []) (g2 := []) (g3 := [32]) (g4 := [32]) (nm := [97]) (kd := kd) (tn := [50]) hc (by rw [hk]; omega) (by rw [n2]; omega)
  rw [hk, n2] at h
  have := rdq_seq h .nil
  rw [List.append_nil] at this
  exact this
theorem RdQ.deep {m m' n : Nat} {L : List Pc} {xs : List Lf} (h : RdQ m n L xs) (hm : m ≤ m') : RdQ m' n L xs := fun ts ht r rest d o hd h1 h2 => h ts ht r rest d o (by omega) h1 h2
def prL (g : List UInt8) (W R : Nat) (gs : List UInt8) (os : List SO) (Q : List Pc) : List Pc := headPc g (decL W) (decL R) ++ brL [32] (soSeq gs 0 os) Q [32] [32]
theorem pr_x : okX prX = true := by kernel_rfl
theorem pr_n : cntL (rowL prX) = 2 := by kernel_rfl
theorem pr_ok1 : okN 32 prQ1 = true := by kernel_rfl
theorem pr_ok2 : okN 32 prQ2 = true := by kernel_rfl
theorem pr_c1 : cOK false (sg [32] 124 :: (prQ1 ++ [sg [32] 41])) (layL (sg [32] 124 :: (prQ2 ++ [sg [32] 41]))) = true := by kernel_rfl
theorem pr_c2 : cOK false (sg [32] 124 :: (prQ2 ++ [sg [32] 41])) (layL (sg [32] 124 :: (prQ2 ++ [sg [32] 41]))) = true := by kernel_rfl
theorem pr_c0 : cOK false [sg [32] 40] [32, 40] = true := by kernel_rfl
theorem pr_head {W R : Nat} (hW : 1 ≤ W ∧ W ≤ 40) (hR : 1 ≤ R ∧ R ≤ 7) : cOK true (headPc [32, 10] (decL W) (decL R)) (layL (headPc [] (decL W) (decL R))) = true ∧ cOK true (headPc [] (decL W) (decL R)) (layL (headPc [] (decL W) (decL R))) = true ∧ okN 32 (headPc [32, 10] (decL W) (decL R)) = true := by
  have h := List.all_eq_true.1 c_head W (List.mem_range.2 (by omega))
  have h := List.all_eq_true.1 h R (List.mem_range.2 (by omega))
  rw [show (W == 0) = false by simp; omega, show (R == 0) = false by simp; omega, Bool.false_or, Bool.false_or, Bool.and_eq_true, Bool.and_eq_true] at h
  exact ⟨h.1.1, h.1.2, h.2⟩
theorem pr_canon {W R : Nat} (hW : 1 ≤ W ∧ W ≤ 40) (hR : 1 ≤ R ∧ R ≤ 7) {os : List SO} (h : SoOK os) (h0 : os ≠ []) (hl : os.length ≤ 4) : cOK true (prL [32, 10] W R [] os prQ1) (layL (prL [] W R [32] os prQ2)) = true ∧ cOK true (prL [] W R [32] os prQ2) (layL (prL [] W R [32] os prQ2)) = true := by
  obtain ⟨a1, a2, _⟩ := pr_head hW hR
  obtain ⟨b1, b2⟩ := c_seq h h0 hl
  have e : layL (prL [] W R [32] os prQ2) = layL (headPc [] (decL W) (decL R)) ++ ([32, 40] ++ (layL (soSeq [32] 0 os) ++ layL (sg [32] 124 :: (prQ2 ++ [sg [32] 41])))) := by
    unfold prL brL
    rw [lay_app]
    show _ ++ ([32, 40] ++ layL (soSeq [32] 0 os ++ (sg [32] 124 :: (prQ2 ++ [sg [32] 41])))) = _
    rw [lay_app]
  rw [e]
  exact ⟨cOK_app a1 (cOK_app pr_c0 (cOK_app b1 pr_c1)), cOK_app a2 (cOK_app pr_c0 (cOK_app b2 pr_c2))⟩
theorem pr_text {g gs : List UInt8} {W R : Nat} (hW : 1 ≤ W ∧ W ≤ 40) (hR : 1 ≤ R ∧ R ≤ 7) {os : List SO} (h : SoOK os) (hf : 1 ≤ os.length ∧ os.length ≤ 3) {Q : List Pc} (hQ : ∀ n, RdQ 2 (n + 7) Q prX) (hh : okN 32 (headPc g (decL W) (decL R)) = true) (ho : okN 32 (soSeq gs 0 os) = true) (hq : okN 32 Q = true) {S : ByteArray} (hS : S.data.toList = layL (prL g W R gs os Q)) (hz : S.size ≤ 600) : TextOK S W R (mostP R os.length + mostP R 2) [stepsL (rowL (soXs 0 os)), stepsL (rowL prX)] := by
  have h0 : os ≠ [] := by rintro rfl; simp at hf
  obtain ⟨hx, hc⟩ := so_ok (fr := 0) (os := os) ⟨hf.1, .inl ⟨rfl, by omega⟩⟩ (fun o ho => (h o ho).2.1)
  have e1 := (dec_all W).2.2
  have e2 := (dec_all R).2.2
  have hok : okN 0 (prL g W R gs os Q) = true := by
    unfold prL brL
    rw [ok_app]
    show (okN 32 (headPc g (decL W) (decL R)) && (true && (okN 0 (soSeq gs 0 os ++ (⟨[32], 5, [124]⟩ :: (Q ++ [⟨[32], 5, [41]⟩])))))) = true
    rw [hh, ok_app]
    show (true && (true && (okN 32 (soSeq gs 0 os) && (true && (true && okN 0 (Q ++ [⟨[32], 5, [41]⟩])))))) = true
    rw [ho, ok_app]
    show (true && (true && (true && (true && (true && (okN 32 Q && true)))))) = true
    rw [hq]
    rfl
  have hq' : ∀ n, RdG 3 (n + 8) (brL [32] (soSeq gs 0 os) Q [32] [32]) (TwoB (soXs 0 os) prX) := fun n =>
    rdg_two ((so_read (n := n + 5) gs (fun o ho => ⟨(h o ho).1, (h o ho).2.2⟩) h0 (by omega)).deep (by omega)) (hQ n)
  have := text_two (S := S) (g := g) (W := decL W) (R := decL R) (L := brL [32] (soSeq gs 0 os) Q [32] [32]) (xs := soXs 0 os) (ys := prX) hS hok hz (m := 3) (by omega) (by rw [e1]; omega) (by rw [e2]; omega) (by unfold brL; simp; omega) hq' hx pr_x (by rw [e2, hc, pr_n]; exact mostP_two (by omega) (by omega) (by omega))
  rwa [e1, e2, hc, pr_n] at this
end Go.Proofs.YtddbjcfdmdbmkaaGreatDoor
