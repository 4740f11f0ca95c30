import Derived.Test.YtddbjcfdmdbmkaaGreatDoorB33
set_option linter.unusedVariables false
set_option linter.unusedSimpArgs false
namespace Go.Proofs.YtddbjcfdmdbmkaaGreatDoor
open Go.RowKit

structure SO where
  k : Nat
  q : Nat
  g : Nat
def eOp (s : ByteArray) : BOp := (s, 0, ⟨#[]⟩)
def soC (i : Nat) (me pr fi : UInt8) (q : Nat) : List Pc :=
  if q = 0 then ifPc :: (itPc [32] 97 ++ ⟨[32], 5, [62]⟩ :: [⟨[32], 2, [48]⟩])
  else if i = 0 then []
  else if q = 1 then ifPc :: ((fldPc [32] me 97 ++ ⟨[32], 5, [62, 61]⟩ :: fldPc [32] pr 97) ++ (⟨[32], 4, [111, 114]⟩ :: ((itPc [32] 98 ++ ⟨[32], 5, [61]⟩ :: [⟨[32], 2, [48]⟩]) ++ [])))
  else if q = 2 then ifPc :: (((fldPc [32] fi 98 ++ (⟨[32], 5, [43]⟩ :: (itPc [32] 98 ++ []))) ++ ⟨[32], 5, [33, 61]⟩ :: [⟨[32], 2, [50]⟩]) ++ (⟨[32], 4, [97, 110, 100]⟩ :: ((itPc [32] 116 ++ ⟨[32], 5, [62]⟩ :: fldPc [32] fi 116) ++ [])))
  else []
def soO (i : Nat) (me pr fi : UInt8) (q : Nat) : List BOp :=
  if q = 0 then [itOp 97] ++ ([(tPush, 0, ⟨#[]⟩)] ++ [eOp (txt [62])])
  else if i = 0 then []
  else if q = 1 then ([fldOp me 97] ++ ([fldOp pr 97] ++ [eOp (txt [62, 61])])) ++ (([itOp 98] ++ ([(tPush, 0, ⟨#[]⟩)] ++ [eOp (txt [61])])) ++ eOp (txt [111, 114]) :: [])
  else if q = 2 then (([fldOp fi 98] ++ ([itOp 98] ++ eOp (txt [43]) :: [])) ++ ([(tPush, 2, ⟨#[]⟩)] ++ [eOp (txt [33, 61])])) ++ (([itOp 116] ++ ([fldOp fi 116] ++ [eOp (txt [62])])) ++ eOp (txt [97, 110, 100]) :: [])
  else []
theorem n0 : numVal (txt [48]) = 0 := by kernel_rfl
theorem n1 : numVal (txt [49]) = 1 := by kernel_rfl
def NmOK (x : UInt8) : Prop := off [tMinus] (txt [x]) = true ∧ off [tOpen] (txt [x]) = true
theorem so_cond {n i : Nat} {me pr fi : UInt8} (h1 : NmOK me) (h2 : NmOK pr) (h3 : NmOK fi) (q : Nat) : RdC 0 (n + 1) (soC i me pr fi q) (soO i me pr fi q) stopAll := by
  unfold soC soO
  split
  · exact condOne (rds_itPc fA) (rds_numK n0 (by decide)) cGt
  split
  · exact condNone
  split
  · exact condOf (orN (both1 (test1 (sum1 (prod1 (rds_fldPc h1.1 h1.2 fA))) (sum1 (prod1 (rds_fldPc h2.1 h2.2 fA))) cGe)) (.cons inOr (both1 (test1 (sum1 (prod1 (rds_itPc fB))) (sum1 (prod1 (rds_numK n0 (by decide)))) cEq)) .nil))
  split
  · exact condOf (or1 (bothN (test1 (sumN (prod1 (rds_fldPc h3.1 h3.2 fB)) (.cons inPlus (prod1 (rds_itPc fB)) .nil)) (sum1 (prod1 (rds_numK n2 (by decide)))) cNe) (.cons inAnd (test1 (sum1 (prod1 (rds_itPc fT))) (sum1 (prod1 (rds_fldPc h3.1 h3.2 fT))) cGt) .nil)))
  · exact condNone
theorem so_if (i : Nat) (me pr fi : UInt8) (q : Nat) : IfHd (soC i me pr fi q) := by
  unfold soC ifPc
  split
  · exact .inr ⟨_, _, rfl⟩
  split
  · exact .inl rfl
  split
  · exact .inr ⟨_, _, rfl⟩
  split
  · exact .inr ⟨_, _, rfl⟩
  · exact .inl rfl
def soL (g : List UInt8) (i : Nat) (me pr fi : UInt8) (o : SO) : List Pc := stepPc g me (decL o.k) ++ soC i me pr fi o.q
def soX (i : Nat) (me pr fi : UInt8) (o : SO) : Lf := ⟨txt [me], 1, o.k, soO i me pr fi o.q⟩
theorem so_step {n i : Nat} {g : List UInt8} {me pr fi : UInt8} (h1 : NmOK me) (h2 : NmOK pr) (h3 : NmOK fi) (o : SO) (hk : o.k ≤ 99) : RdP 0 (n + 2) (soL g i me pr fi o) (soX i me pr fi o) := by
  have e := (dec_all o.k).2.2
  have := rdp_step (g := g) (g1 := []) (g2 := []) (nm := [me]) (kd := decL o.k) (so_cond (n := n) (i := i) h1 h2 h3 o.q) (so_if i me pr fi o.q) (by rw [e]; exact hk)
  rw [e] at this
  exact this
def soG (j : Nat) : List Pc := ⟨[32], 4, [110, 111, 116]⟩ :: ⟨[32], 2, decL j⟩ :: ifPc :: (itPc [32] 99 ++ ⟨[32], 5, [62]⟩ :: [⟨[32], 2, [49]⟩])
def soH (j : Nat) : Lf := ⟨⟨#[]⟩, 0, j, [itOp 99] ++ ([(tPush, 1, ⟨#[]⟩)] ++ [eOp (txt [62])])⟩
theorem so_guard {n : Nat} (j : Nat) (hj : j ≤ 99) : RdP 0 (n + 2) (soG j) (soH j) := by
  have e := (dec_all j).2.2
  have := rdp_guard (g := [32]) (g2 := [32]) (kd := decL j) (condOne (n := n + 1) (g := [32]) (g1 := [32]) (rds_itPc (n := n) (g := [32]) fC) (rds_numK (n := n) (g := [32]) n1 (by decide)) cGt) (by rw [e]; exact hj)
  rw [e] at this
  exact this
def soGT (g : Nat) : List Pc := match g with
  | 0 => []
  | j + 1 => thenPc :: soG j
def soHT (g : Nat) : List Lf := match g with
  | 0 => []
  | j + 1 => [soH j]
def soT (fr : Nat) : Nat → List SO → List Pc
  | _, [] => []
  | i, o :: os => soGT o.g ++ (thenPc :: (soL [32] i (nameB (fr + i)) (nameB (fr + i - 1)) (nameB fr) o ++ soT fr (i + 1) os))
def soY (fr : Nat) : Nat → List SO → List Lf
  | _, [] => []
  | i, o :: os => soHT o.g ++ (soX i (nameB (fr + i)) (nameB (fr + i - 1)) (nameB fr) o :: soY fr (i + 1) os)
theorem soT_snoc (fr : Nat) (o : SO) : ∀ (os : List SO) (i : Nat), soT fr i (os ++ [o]) = soT fr i os ++ soT fr (i + os.length) [o] := by
  intro os
  induction os with
  | nil => intro i; rfl
  | cons a os ih =>
    intro i
    show soGT a.g ++ (thenPc :: (soL [32] i _ _ _ a ++ soT fr (i + 1) (os ++ [o]))) = (soGT a.g ++ (thenPc :: (soL [32] i _ _ _ a ++ soT fr (i + 1) os))) ++ _
    rw [ih, show i + 1 + os.length = i + (a :: os).length by simp; omega]
    simp
theorem nm_all : ((List.range 6).all fun i => off [tMinus] (txt [nameB i]) && off [tOpen] (txt [nameB i])) = true := by kernel_rfl
theorem nm_ok {i : Nat} (h : i ≤ 5) : NmOK (nameB i) := by
  have := List.all_eq_true.1 nm_all i (List.mem_range.2 (by omega))
  rw [Bool.and_eq_true] at this
  exact this
theorem so_gt {n : Nat} (g : Nat) (hg : g ≤ 3) : SeqT 0 (n + 2) (soGT g) (soHT g) := by
  match g with
  | 0 => exact .nil
  | j + 1 =>
    have := SeqT.cons (g := [32]) (so_guard (n := n) j (by omega)) .nil
    rw [List.append_nil] at this
    exact this
theorem so_tail {n fr : Nat} : ∀ (os : List SO) (i : Nat), (∀ o ∈ os, o.k ≤ 2 ∧ o.g ≤ 3) → fr + i + os.length ≤ 6 → SeqT 0 (n + 2) (soT fr i os) (soY fr i os) := by
  intro os
  induction os with
  | nil => intro i _ _; exact .nil
  | cons o os ih =>
    intro i h hl
    rw [List.length_cons] at hl
    have ho := h o (by simp)
    refine seqT_app (so_gt o.g ho.2) ?_
    exact SeqT.cons (g := [32]) (so_step (nm_ok (by omega)) (nm_ok (by omega)) (nm_ok (by omega)) o (by omega)) (ih (i + 1) (fun x hx => h x (by simp [hx])) (by omega))
def soSeq (g : List UInt8) (fr : Nat) : List SO → List Pc
  | [] => []
  | o :: os => soL g 0 (nameB fr) (nameB (fr - 1)) (nameB fr) o ++ soT fr 1 os
def soXs (fr : Nat) : List SO → List Lf
  | [] => []
  | o :: os => soX 0 (nameB fr) (nameB (fr - 1)) (nameB fr) o :: soY fr 1 os
theorem so_read {fr : Nat} {os : List SO} (g : List UInt8) (h : ∀ o ∈ os, o.k ≤ 2 ∧ o.g ≤ 3) (h0 : os ≠ []) (hl : fr + os.length ≤ 6) (n : Nat) : RdQ 0 (n + 2) (soSeq g fr os) (soXs fr os) := by
  cases os with
  | nil => exact absurd rfl h0
  | cons o os =>
    rw [List.length_cons] at hl
    exact rdq_seq (so_step (nm_ok (by omega)) (nm_ok (by omega)) (nm_ok (by omega)) o (by have := (h o (by simp)).1; omega)) (so_tail os 1 (fun x hx => h x (by simp [hx])) (by omega))
end Go.Proofs.YtddbjcfdmdbmkaaGreatDoor

namespace Go.Proofs.YtddbjcfdmdbmkaaGreatDoor
open Go.RowKit

def Lf.k0 (x : Lf) : Lf := ⟨x.name, x.times, 0, x.cond⟩
theorem k0_exp (x : Lf) : expL x.k0 = (expL x).map Lf.k0 := by
  unfold expL
  show (if x.step then List.replicate x.times x.k0 else [x.k0]) = _
  split
  · rw [List.map_replicate]
  · rfl
theorem k0_row (xs : List Lf) : rowL (xs.map Lf.k0) = (rowL xs).map Lf.k0 := by
  unfold rowL
  rw [List.flatMap_map, List.map_flatMap]
  congr 1
  funext x
  exact k0_exp x
theorem k0_cnt (E : List Lf) : cntL (E.map Lf.k0) = cntL E := by
  unfold cntL
  rw [List.filter_map, List.length_map]
  rfl
theorem k0_get (E : List Lf) (i : Nat) : (E.map Lf.k0).getD i default = (E.getD i default).k0 := by
  rw [List.getD_eq_getElem?_getD, List.getD_eq_getElem?_getD, List.getElem?_map]
  cases E[i]? <;> rfl
theorem k0_guard (E : List Lf) (i : Nat) : guardL (E.map Lf.k0) i = guardL E i := by
  unfold guardL
  rw [k0_get, ← List.map_take, ← List.map_drop, k0_cnt, k0_cnt]
  rfl
theorem k0_names (E : List Lf) (i : Nat) : namesL (E.map Lf.k0) i = namesL E i := by
  unfold namesL
  rw [k0_get, ← List.map_take]
  simp only [List.any_map]
  rfl
theorem k0_okX (xs : List Lf) : okX (xs.map Lf.k0) = okX xs := by
  have h1 : okF (xs.map Lf.k0) = okF xs := by
    unfold okF
    rw [k0_row, List.length_map, List.map_map, List.filter_map, List.map_map]
    simp only [k0_guard, k0_names]
    rfl
  have h2 : okC ((rowL xs).map Lf.k0) = okC (rowL xs) := by
    unfold okC
    rw [List.all_map]
    rfl
  unfold okX
  rw [h1, k0_row, h2, k0_cnt, List.length_map]
def soAll : Nat → List (List SO)
  | 0 => [[]]
  | n + 1 => (soAll n).flatMap fun os => (List.range 4).flatMap fun q => (List.range 2).map fun g => ⟨0, q, g⟩ :: os
def SO.z (o : SO) : SO := ⟨0, o.q, if o.g = 0 then 0 else 1⟩
theorem so_mem : ∀ (os : List SO), (∀ o ∈ os, o.q ≤ 3) → os.map SO.z ∈ soAll os.length := by
  intro os
  induction os with
  | nil => intro _; simp [soAll]
  | cons o os ih =>
    intro h
    have := ih (fun x hx => h x (by simp [hx]))
    rw [List.map_cons, List.length_cons]
    unfold soAll
    rw [List.mem_flatMap]
    refine ⟨_, this, List.mem_flatMap.2 ⟨o.q, List.mem_range.2 (by have := h o (by simp); omega), List.mem_map.2 ⟨if o.g = 0 then 0 else 1, List.mem_range.2 (by split <;> omega), rfl⟩⟩⟩
theorem so_hz (g : Nat) : (soHT g).map Lf.k0 = (soHT (if g = 0 then 0 else 1)).map Lf.k0 := by
  cases g with
  | zero => rfl
  | succ j => rw [if_neg (by omega)]; rfl
theorem so_yz (fr : Nat) : ∀ (os : List SO) (i : Nat), (soY fr i os).map Lf.k0 = (soY fr i (os.map SO.z)).map Lf.k0 := by
  intro os
  induction os with
  | nil => intro i; rfl
  | cons o os ih =>
    intro i
    rw [List.map_cons]
    unfold soY
    rw [List.map_append, List.map_append, List.map_cons, List.map_cons, ← ih, so_hz]
    rfl
theorem so_xz (fr : Nat) (os : List SO) : okX (soXs fr os) = okX (soXs fr (os.map SO.z)) := by
  rw [← k0_okX, ← k0_okX (soXs fr (os.map SO.z))]
  cases os with
  | nil => rfl
  | cons o os =>
    rw [List.map_cons]
    unfold soXs
    rw [List.map_cons, List.map_cons, so_yz]
    rfl
end Go.Proofs.YtddbjcfdmdbmkaaGreatDoor

namespace Go.Proofs.YtddbjcfdmdbmkaaGreatDoor
open Go.RowKit

theorem so_x1 : ((soAll 1).all fun os => okX (soXs 0 os) && decide (cntL (rowL (soXs 0 os)) = 1)) = true := by kernel_rfl
theorem so_x2 : ((soAll 2).all fun os => okX (soXs 0 os) && decide (cntL (rowL (soXs 0 os)) = 2)) = true := by kernel_rfl
theorem so_x3 : ((soAll 3).all fun os => okX (soXs 0 os) && decide (cntL (rowL (soXs 0 os)) = 3)) = true := by kernel_rfl
theorem so_x4 : ((soAll 4).all fun os => okX (soXs 0 os) && decide (cntL (rowL (soXs 0 os)) = 4)) = true := by kernel_rfl
theorem so_z1 : ((soAll 1).all fun os => okX (soXs 3 os) && decide (cntL (rowL (soXs 3 os)) = 1)) = true := by kernel_rfl
theorem so_z2 : ((soAll 2).all fun os => okX (soXs 3 os) && decide (cntL (rowL (soXs 3 os)) = 2)) = true := by kernel_rfl
theorem so_z3 : ((soAll 3).all fun os => okX (soXs 3 os) && decide (cntL (rowL (soXs 3 os)) = 3)) = true := by kernel_rfl
theorem so_cz (fr : Nat) (os : List SO) : cntL (rowL (soXs fr os)) = cntL (rowL (soXs fr (os.map SO.z))) := by
  rw [← k0_cnt, ← k0_row, ← k0_cnt (rowL (soXs fr (os.map SO.z))), ← k0_row]
  cases os with
  | nil => rfl
  | cons o os =>
    rw [List.map_cons]
    unfold soXs
    rw [List.map_cons, List.map_cons, so_yz]
    rfl
def frOK (fr n : Nat) : Prop := 1 ≤ n ∧ ((fr = 0 ∧ n ≤ 4) ∨ (fr = 3 ∧ n ≤ 3))
theorem so_ok {fr : Nat} {os : List SO} (h : frOK fr os.length) (hq : ∀ o ∈ os, o.q ≤ 3) : okX (soXs fr os) = true ∧ cntL (rowL (soXs fr os)) = os.length := by
  have hm := so_mem os hq
  rw [so_xz, so_cz]
  generalize os.map SO.z = zs at hm
  generalize hn : os.length = n at h hm
  suffices hs : (okX (soXs fr zs) && decide (cntL (rowL (soXs fr zs)) = n)) = true by
    rw [Bool.and_eq_true, decide_eq_true_eq] at hs
    exact hs
  obtain ⟨h1, ⟨rfl, h2⟩ | ⟨rfl, h2⟩⟩ := h
  · match n, h1, h2 with
    | 1, _, _ => exact List.all_eq_true.1 so_x1 zs hm
    | 2, _, _ => exact List.all_eq_true.1 so_x2 zs hm
    | 3, _, _ => exact List.all_eq_true.1 so_x3 zs hm
    | 4, _, _ => exact List.all_eq_true.1 so_x4 zs hm
  · match n, h1, h2 with
    | 1, _, _ => exact List.all_eq_true.1 so_z1 zs hm
    | 2, _, _ => exact List.all_eq_true.1 so_z2 zs hm
    | 3, _, _ => exact List.all_eq_true.1 so_z3 zs hm
def soS (g : List UInt8) (fr i : Nat) (o : SO) : List Pc := soL g i (nameB (fr + i)) (nameB (fr + i - 1)) (nameB fr) o
theorem so_toks : ((List.range 4).all fun fr => (List.range 4).all fun i => decide (6 ≤ fr + i) || (List.range 3).all fun k => (List.range 4).all fun q => [0, 32, 41, 124].all fun nb => okN nb (soS [32] fr i ⟨k, q, 0⟩) && okN nb (soS [] fr i ⟨k, q, 0⟩) && decide ((layL (soS [32] fr i ⟨k, q, 0⟩)).length ≤ 40)) = true := by kernel_rfl
theorem so_gtoks : ((List.range 4).all fun g => okN 32 (soGT g) && decide ((layL (soGT g)).length ≤ 25)) = true := by kernel_rfl
theorem so_then : ∀ nb ∈ ([32] : List UInt8), okN nb [thenPc] = true := by
  intro nb h
  rw [List.mem_singleton.1 h]
  kernel_rfl
def nbs : List UInt8 := [0, 32, 41, 124]
theorem so_at {fr i : Nat} {o : SO} {nb : UInt8} (hf : fr ≤ 3) (hi : i ≤ 3) (hl : fr + i ≤ 5) (hk : o.k ≤ 2) (hq : o.q ≤ 3) (hn : nb ∈ nbs) : okN nb (soS [32] fr i o) = true ∧ okN nb (soS [] fr i o) = true ∧ (layL (soS [32] fr i o)).length ≤ 40 := by
  have h := List.all_eq_true.1 so_toks fr (List.mem_range.2 (by omega))
  have h := List.all_eq_true.1 h i (List.mem_range.2 (by omega))
  rw [show decide (6 ≤ fr + i) = false by simp; omega, Bool.false_or] at h
  have h := List.all_eq_true.1 h o.k (List.mem_range.2 (by omega))
  have h := List.all_eq_true.1 h o.q (List.mem_range.2 (by omega))
  have h := List.all_eq_true.1 h nb hn
  rw [Bool.and_eq_true, Bool.and_eq_true, decide_eq_true_eq] at h
  exact ⟨h.1.1, h.1.2, h.2⟩
theorem so_gat {g : Nat} (hg : g ≤ 3) : okN 32 (soGT g) = true ∧ (layL (soGT g)).length ≤ 25 := by
  have h := List.all_eq_true.1 so_gtoks g (List.mem_range.2 (by omega))
  rw [Bool.and_eq_true, decide_eq_true_eq] at h
  exact h
theorem soS_head (fr i : Nat) (o : SO) (L : List Pc) (nb : UInt8) : (layL (soS [32] fr i o ++ L)).headD nb = 32 := rfl
theorem soT_head (fr i : Nat) (os : List SO) (nb : UInt8) : (layL (soT fr i os)).headD nb = if os = [] then nb else 32 := by
  cases os with
  | nil => rfl
  | cons o os =>
    rw [if_neg (by simp)]
    unfold soT
    cases o.g <;> rfl
def SoOK (os : List SO) : Prop := ∀ o ∈ os, o.k ≤ 2 ∧ o.q ≤ 3 ∧ o.g ≤ 3
theorem so_okT {fr : Nat} (hf : fr ≤ 3) {nb : UInt8} (hn : nb ∈ nbs) : ∀ (os : List SO) (i : Nat), SoOK os → i + os.length ≤ 4 → fr + i + os.length ≤ 6 → okN nb (soT fr i os) = true ∧ (layL (soT fr i os)).length ≤ 70 * os.length := by
  intro os
  induction os with
  | nil => intro i _ _ _; exact ⟨rfl, by simp [soT, layL]⟩
  | cons o os ih =>
    intro i h hi hl
    rw [List.length_cons] at hi hl
    obtain ⟨ho1, ho2, ho3⟩ := h o (by simp)
    have ih := ih (i + 1) (fun x hx => h x (by simp [hx])) (by omega) (by omega)
    have hg := so_gat ho3
    show okN nb (soGT o.g ++ ([thenPc] ++ (soS [32] fr i o ++ soT fr (i + 1) os))) = true ∧ (layL (soGT o.g ++ ([thenPc] ++ (soS [32] fr i o ++ soT fr (i + 1) os)))).length ≤ _
    have hs := fun nb' (h' : nb' ∈ nbs) => so_at (nb := nb') (i := i) hf (by omega) (by omega) ho1 ho2 h'
    constructor
    · rw [ok_app, ok_app, ok_app, soS_head, ih.1, so_then 32 (by simp), show (layL ([thenPc] ++ (soS [32] fr i o ++ soT fr (i + 1) os))).headD nb = 32 from rfl, hg.1, soT_head]
      split
      · rw [(hs nb hn).1]; rfl
      · rw [(hs 32 (by simp [nbs])).1]; rfl
    · rw [lay_app, lay_app, lay_app, List.length_append, List.length_append, List.length_append, List.length_cons]
      have h2 := ih.2
      have h3 := (hs 0 (by simp [nbs])).2.2
      have h4 : (layL [thenPc]).length = 5 := by decide
      have h5 := hg.2
      omega
theorem so_all {fr : Nat} (hf : fr ≤ 3) {os : List SO} (h : SoOK os) (h0 : os ≠ []) (hl : os.length ≤ 4) (hl2 : fr + os.length ≤ 6) {nb : UInt8} (hn : nb ∈ nbs) : okN nb (soSeq [32] fr os) = true ∧ okN nb (soSeq [] fr os) = true ∧ layL (soSeq [32] fr os) = 32 :: layL (soSeq [] fr os) ∧ (layL (soSeq [] fr os)).length ≤ 70 * os.length ∧ 3 ≤ (soSeq [32] fr os).length := by
  cases os with
  | nil => exact absurd rfl h0
  | cons o os =>
    rw [List.length_cons] at hl hl2
    obtain ⟨ho1, ho2, ho3⟩ := h o (by simp)
    have ht := so_okT hf hn os 1 (fun x hx => h x (by simp [hx])) (by omega) (by omega)
    have hs := fun nb' (h' : nb' ∈ nbs) => so_at (nb := nb') (i := 0) hf (by omega) (by omega) ho1 ho2 h'
    have e : ∀ g, soSeq g fr (o :: os) = soS g fr 0 o ++ soT fr 1 os := fun _ => rfl
    refine ⟨?_, ?_, rfl, ?_, ?_⟩
    · rw [e, ok_app, ht.1, soT_head]
      split
      · rw [(hs nb hn).1]; rfl
      · rw [(hs 32 (by simp [nbs])).1]; rfl
    · rw [e, ok_app, ht.1, soT_head]
      split
      · rw [(hs nb hn).2.1]; rfl
      · rw [(hs 32 (by simp [nbs])).2.1]; rfl
    · rw [e, lay_app, List.length_append, List.length_cons]
      have h3 := (hs 0 (by simp [nbs])).2.2
      have h4 : layL (soS [32] fr 0 o) = 32 :: layL (soS [] fr 0 o) := rfl
      rw [h4, List.length_cons] at h3
      have := ht.2
      omega
    · rw [e]
      simp [soS, soL, stepPc]
theorem so_text {fr W R : Nat} {os : List SO} (h : SoOK os) (hf : frOK fr os.length) (hW : 1 ≤ W ∧ W ≤ 1000000) (hR : 1 ≤ R ∧ R ≤ 12) {S : ByteArray} (hS : S.data.toList = (headB W R).data.toList ++ layL (soSeq [] fr os)) : TextOK S W R (mostP R os.length) [stepsL (rowL (soXs fr os))] := by
  obtain ⟨hx, hc⟩ := so_ok hf (fun o ho => (h o ho).2.1)
  have hf' : fr ≤ 3 ∧ os.length ≤ 4 ∧ fr + os.length ≤ 6 ∧ os ≠ [] := by
    obtain ⟨h1, h2⟩ := hf
    refine ⟨by omega, by omega, by omega, ?_⟩
    rintro rfl
    simp at h1
  obtain ⟨a1, _, a3, a4, a5⟩ := so_all (nb := 0) hf'.1 h hf'.2.2.2 hf'.2.1 hf'.2.2.1 (by simp [nbs])
  have := text_any hW hR hS a3 a1 (by omega) (m := 0) (by omega) a5 (fun n => so_read (n := n + 6) [32] (fun o ho => ⟨(h o ho).1, (h o ho).2.2⟩) hf'.2.2.2 (by omega)) hx
  rwa [hc] at this
end Go.Proofs.YtddbjcfdmdbmkaaGreatDoor

namespace Go.Proofs.YtddbjcfdmdbmkaaGreatDoor
open Go.RowKit

def brL (g : List UInt8) (A B : List Pc) (g1 g2 : List UInt8) : List Pc := ⟨g, 5, [40]⟩ :: (A ++ (⟨g1, 5, [124]⟩ :: (B ++ [⟨g2, 5, [41]⟩])))
theorem most_two : ((List.range 9).all fun r => (List.range 5).all fun s => (List.range 5).all fun u => decide (mostP r s + mostP r u ≤ 4000)) = true := by kernel_rfl
theorem mostP_two {r s u : Nat} (hr : r ≤ 8) (hs : s ≤ 4) (hu : u ≤ 4) : mostP r s + mostP r u ≤ 4000 := by
  have := List.all_eq_true.1 most_two r (List.mem_range.2 (by omega))
  have := List.all_eq_true.1 this s (List.mem_range.2 (by omega))
  have := List.all_eq_true.1 this u (List.mem_range.2 (by omega))
  simpa using this
theorem so_either {W R : Nat} {os us : List SO} (h : SoOK os) (hf : 1 ≤ os.length ∧ os.length ≤ 3) (h' : SoOK us) (hf' : 1 ≤ us.length ∧ us.length ≤ 3) (hW : 1 ≤ W ∧ W ≤ 40) (hR : 1 ≤ R ∧ R ≤ 7) {S : ByteArray} (hS : S.data.toList = (headB W R).data.toList ++ ([40] ++ layL (soSeq [] 0 os) ++ [124] ++ layL (soSeq [] 3 us) ++ [41])) : TextOK S W R (mostP R os.length + mostP R us.length) [stepsL (rowL (soXs 0 os)), stepsL (rowL (soXs 3 us))] := by
  have n1 : os ≠ [] := by rintro rfl; simp at hf
  have n2 : us ≠ [] := by rintro rfl; simp at hf'
  obtain ⟨hx, hc⟩ := so_ok (fr := 0) (os := os) ⟨hf.1, .inl ⟨rfl, by omega⟩⟩ (fun o ho => (h o ho).2.1)
  obtain ⟨hy, hc'⟩ := so_ok (fr := 3) (os := us) ⟨hf'.1, .inr ⟨rfl, by omega⟩⟩ (fun o ho => (h' o ho).2.1)
  obtain ⟨_, a2, _, a4, _⟩ := so_all (fr := 0) (nb := 124) (by omega) h n1 (by omega) (by omega) (by simp [nbs])
  obtain ⟨_, b2, _, b4, _⟩ := so_all (fr := 3) (nb := 41) (by omega) h' n2 (by omega) (by omega) (by simp [nbs])
  have e1 := (dec_all W).2.2
  have e2 := (dec_all R).2.2
  have hl : S.data.toList = layL (headPc [] (decL W) (decL R) ++ brL [32] (soSeq [] 0 os) (soSeq [] 3 us) [] []) := by
    rw [hS, head_lay, lay_app]
    unfold brL
    simp [layL, lay_app]
  have hsz : S.size ≤ 600 ∧ True := by
    refine ⟨?_, trivial⟩
    have : S.data.toList.length = S.size := by simp
    rw [← this, hS, head_lay]
    have h1 := dec_len 8 W (by omega)
    have h2 := dec_len 8 R (by omega)
    simp [headPc, layL]
    omega
  have hok : okN 0 (headPc [] (decL W) (decL R) ++ brL [32] (soSeq [] 0 os) (soSeq [] 3 us) [] []) = true := by
    rw [ok_app, show (layL (brL [32] (soSeq [] 0 os) (soSeq [] 3 us) [] [])).headD 0 = 32 from rfl, head_ok (by omega) (by omega) (by kernel_rfl)]
    show (true && (true && (okN 0 (soSeq [] 0 os ++ (⟨[], 5, [124]⟩ :: (soSeq [] 3 us ++ [⟨[], 5, [41]⟩])))))) = true
    rw [ok_app, show (layL (⟨[], 5, [124]⟩ :: (soSeq [] 3 us ++ [⟨[], 5, [41]⟩]))).headD 0 = 124 from rfl, a2]
    show (true && (true && (true && (true && okN 0 (soSeq [] 3 us ++ [⟨[], 5, [41]⟩]))))) = true
    rw [ok_app, show (layL [⟨[], 5, [41]⟩]).headD 0 = 41 from rfl, b2]
    rfl
  have hq : ∀ n, RdG 1 (n + 8) (brL [32] (soSeq [] 0 os) (soSeq [] 3 us) [] []) (TwoB (soXs 0 os) (soXs 3 us)) := fun n =>
    rdg_two (so_read (n := n + 5) [] (fun o ho => ⟨(h o ho).1, (h o ho).2.2⟩) n1 (by omega)) (so_read (n := n + 5) [] (fun o ho => ⟨(h' o ho).1, (h' o ho).2.2⟩) n2 (by omega))
  have := text_two (S := S) (g := []) (W := decL W) (R := decL R) (L := brL [32] (soSeq [] 0 os) (soSeq [] 3 us) [] []) (xs := soXs 0 os) (ys := soXs 3 us) hl hok hsz.1 (m := 1) (by omega) (by rw [e1]; omega) (by rw [e2]; omega) (by unfold brL; simp; omega) hq hx hy (by rw [e2, hc, hc']; exact mostP_two (by omega) (by omega) (by omega))
  rwa [e1, e2, hc, hc'] at this
end Go.Proofs.YtddbjcfdmdbmkaaGreatDoor

namespace Go.Proofs.YtddbjcfdmdbmkaaGreatDoor
open Go.RowKit

theorem IntsAt.drewN {w : World} {v : Value} {l : List Nat} (h : IntsAt w v l) {w' : World} (e : w'.heap = w.heap) : IntsAt w' v l := by
  obtain ⟨a, c, e1, hc⟩ := h
  refine ⟨a, c, e1, fun h0 => ?_⟩
  obtain ⟨g, e2, hg, hk⟩ := hc h0
  exact ⟨g, e2, by rw [e]; exact hg, fun k hk' => (cell_eq (by rw [e]) k).trans (hk k hk')⟩
set_option maxRecDepth 100000 in
set_option maxHeartbeats 1600000 in
theorem same_p {w : World} {va vb : Value} {xs : List (List Nat)} (ha : ListsR w va xs) (hb : ListsR w vb xs) (hl : xs.length ≤ maxLen) (hi : ∀ y ∈ xs, y.length ≤ maxLen) :
    Calls Tryz.prog 32 #[va, vb] w fun x w' => x = .returned (.bool true) ∧ ∃ q, w' = w.drewN q := by
  obtain ⟨aa, ac, rfl, hac⟩ := ha.form
  obtain ⟨ba, bc, rfl, hbc⟩ := hb.form
  clear ha hb
  unfold maxLen at hl hi
  go_enter Tryz.func32, Tryz.ntmps32
  go_wp2
  go_loopw [5] (fun i wr => ∃ k : Nat, k ≤ xs.length ∧ i = .int .i64 k ∧ ∃ q, wr = w.drewN q) (fun i _ => xs.length - (intOf i).toNat)
  case atStart => exact ⟨0, Nat.zero_le _, rfl, 0, rfl⟩
  case round =>
    obtain ⟨k, hk, rfl, q, hq⟩ := hrel
    have hh : wr.heap = w.heap := by rw [hq]; rfl
    have HBel : Hid (∀ w2 : World, (∃ n, w2 = wr.drewN n) → ∃ q, w2 = w.drewN q) := fun w2 hn => by
      obtain ⟨n, rfl⟩ := hn
      exact ⟨q + n, by rw [hq]; simp [World.drewN, Nat.add_assoc]⟩
    clear hq
    obtain ⟨wo, hwo⟩ : ∃ x, x = wr := ⟨_, rfl⟩
    by_cases hlt : k < xs.length
    · obtain ⟨g, rfl, hg, hc⟩ := hac (by omega)
      obtain ⟨g2, rfl, hg2, hc2⟩ := hbc (by omega)
      obtain ⟨u, hcu, hu⟩ := hc k hlt
      obtain ⟨u2, hcu2, hu2⟩ := hc2 k hlt
      have hml := hi _ (List.getElem_mem hlt)
      obtain ⟨ua, uc, rfl, huc⟩ := hu
      obtain ⟨ub, ud, rfl, hud⟩ := hu2
      generalize xs[k] = y at *
      have e1 : wr.cell? ⟨g, k, none⟩ = some (.slice ua y.length uc) := (cell_eq (by rw [hh]) k).trans hcu
      have e2 : wr.cell? ⟨g2, k, none⟩ = some (.slice ub y.length ud) := (cell_eq (by rw [hh]) k).trans hcu2
      have gl : g < wr.heap.size := by rw [hh]; exact hg
      have gl2 : g2 < wr.heap.size := by rw [hh]; exact hg2
      have hki : (k : Int) < (xs.length : Int) := by omega
      have hk0 : (0 : Int) ≤ (k : Int) := by omega
      clear hc hc2 hac hbc hcu hcu2 hi
      go_wp2
      go_quiet (fail)
      go_wp2
      subst hwo
      go_loopw [6] (fun j wi => ∃ m : Nat, m ≤ y.length ∧ j = .int .i64 m ∧ ∃ q, wi = wo.drewN q) (fun j _ => y.length - (intOf j).toNat)
      case atStart => exact ⟨0, Nat.zero_le _, rfl, _, rfl⟩
      case round =>
        obtain ⟨m, hm, rfl, q2, hq2⟩ := hrel
        have hh2 : wr.heap = wo.heap := by rw [hq2]; rfl
        have HB2 : Hid (∀ n, ∃ q, wr.drewN n = wo.drewN q) := fun n => ⟨q2 + n, by rw [hq2]; simp [World.drewN, Nat.add_assoc]⟩
        clear hq2
        have e3 : wr.cell? ⟨g, k, none⟩ = some (.slice ua y.length uc) := (cell_eq (by rw [hh2]) k).trans e1
        have e4 : wr.cell? ⟨g2, k, none⟩ = some (.slice ub y.length ud) := (cell_eq (by rw [hh2]) k).trans e2
        have gl3 : g < wr.heap.size := by rw [hh2]; exact gl
        have gl4 : g2 < wr.heap.size := by rw [hh2]; exact gl2
        by_cases hmt : m < y.length
        · obtain ⟨f, rfl, hf, hfc⟩ := huc (by omega)
          obtain ⟨f2, rfl, hf2, hfc2⟩ := hud (by omega)
          have e5 : wr.cell? ⟨f, m, none⟩ = some (.int .i64 (y[m] : Nat)) := (cell_eq (by rw [hh2, hh]) m).trans (hfc m hmt)
          have e6 : wr.cell? ⟨f2, m, none⟩ = some (.int .i64 (y[m] : Nat)) := (cell_eq (by rw [hh2, hh]) m).trans (hfc2 m hmt)
          have fl : f < wr.heap.size := by rw [hh2, hh]; exact hf
          have fl2 : f2 < wr.heap.size := by rw [hh2, hh]; exact hf2
          have hmi : (m : Int) < (y.length : Int) := by omega
          have hm0 : (0 : Int) ≤ (m : Int) := by omega
          clear hfc hfc2 huc hud hh hh2 e1 e2 gl gl2 hg hg2
          generalize y[m] = z at *
          go_wp2
          go_quiet (fail)
          go_wp2
          go_roundw
          case rel => exact ⟨m + 1, hmt, by go_num, HB2.out _⟩
          case measure => simp [intOf]; omega
        · have em : m = y.length := by omega
          subst em
          clear huc hud hh hh2 e1 e2 gl gl2 hg hg2
          go_wp2
          go_roundw
          case rel => exact ⟨k + 1, hlt, by go_num, HBel.out _ (HB2.out 0)⟩
          case measure => simp [intOf]; omega
    · have ek : k = xs.length := by omega
      subst ek
      clear hac hbc hh
      go_wp2
      go_ret
      exact ⟨rfl, HBel.out _ ⟨0, rfl⟩⟩
end Go.Proofs.YtddbjcfdmdbmkaaGreatDoor

namespace Go.Proofs.YtddbjcfdmdbmkaaGreatDoor
open Go.RowKit

def FedOK (S : Nat → Prop) (w : World) (E bd : Nat) (c : WC) (evs : List Ev) (e : Ev) (S' : Nat → Prop) (v : Value) (ys : List (List Nat)) (w' : World) : Prop :=
  (∀ b, S' b → S b ∨ w.heap.size ≤ b) ∧ Chg S w w' ∧ (∃ B xs, ListsAt B w' v xs ∧ w.heap.size ≤ B ∧ (∀ b, (v.ownBlock = some b ∨ ∃ y ∈ xs, y.1.ownBlock = some b) → ¬ S' b) ∧ xs.map (·.2) = ys) ∧ SortedL ys ∧ (∀ t, t ∈ ys ↔ MatchOK (absP c.paths) c.win (evs ++ [e]) t) ∧ Eng S' w' E bd 0 c (evs ++ [e])
set_option maxRecDepth 100000 in
set_option maxHeartbeats 1600000 in
theorem feedK_p {S : Nat → Prop} {w : World} {E bd : Nat} {c : WC} {evs : List Ev} (h : Eng S w E bd 0 c evs) (hc : WellE c) (hel : evs.length ≤ 100000000) (e : Ev) (he : In64 e.time) (hz : feedFP c.win c.rate evs e.time = 0) :
    Calls Tryz.prog 26 #[.pointer (some ⟨E, 0, none⟩), evVal e] w fun x w' => ∃ S' v ys, x = .returned (.tuple #[v, .bool true]) ∧ FedOK S w E bd c evs e S' v ys w' := by
  have hN := Blk.new w #[.int .i64 e.time, .int .i64 e.kind, .int .i64 e.a, .int .i64 e.b, .int .i64 e.c] 44
  have hch : Chg (fun _ => False) w (w.alloc (.cells #[.int .i64 e.time, .int .i64 e.kind, .int .i64 e.a, .int .i64 e.b, .int .i64 e.c] 44)) := (Chg.refl _ w).alloc _
  have hlt := h.lt
  have h1 := h.to hch (fun _ k => k.elim)
  unfold evVal
  go_enter Tryz.func26, Tryz.ntmps26
  go_upto_region 1 with fail
  generalize w.alloc (.cells #[.int .i64 e.time, .int .i64 e.kind, .int .i64 e.a, .int .i64 e.b, .int .i64 e.c] 44) = W at *
  have v0 := hN.cell 0; have v1 := hN.cell 1; have v2 := hN.cell 2; have v3 := hN.cell 3; have v4 := hN.cell 4; have l3 := hN.lt
  simp at v0 v1 v2 v3 v4
  have hf := feed_go h1 hc hel e he hz
  unfold evVal at hf
  go_wp2_with (first
    | (go_at_call 27; refine hf.mono ?_; rintro x1 w1 ⟨S', v, B, ys, rfl, q1, q2, q3, q4, q5, q6, q7, q8⟩))
  have hs := hch.size
  refine bodyPost_ret (v := .tuple #[v, .bool true]) (by simp [results, Tryz.results26, go_sem]) rfl ⟨S', v, _, rfl, fun b hb => ?_, (hch.mono (fun b _ k => k.elim)).trans q2 (fun b _ k => k), ⟨B, ys, q3, by omega, q5, rfl⟩, q6, q7, q8⟩
  rcases q1 b hb with k | k
  · exact .inl k
  · exact .inr (by omega)
end Go.Proofs.YtddbjcfdmdbmkaaGreatDoor
