import Derived.Test.YtddbjcfdmdbmkaaGreatDoorB41
set_option linter.unusedVariables false
set_option linter.unusedSimpArgs false
namespace Go.Proofs.YtddbjcfdmdbmkaaGreatDoor
open Go.RowKit

def Lf.k0 (x : Lf) : Lf := ⟨x.name, x.times, 0, x.cond⟩
theorem k0_exp (x : Lf) : expL x.k0 = (expL x).map Lf.k0 := by
  unfold expL
  show (if x.step then List.replicate x.times x.k0 else [x.k0]) = _
  split
  · rw [List.map_replicate]
  · rfl
theorem k0_row (xs : List Lf) : rowL (xs.map Lf.k0) = (rowL xs).map Lf.k0 := by
  unfold rowL
  rw [List.flatMap_map, List.map_flatMap]
  congr 1
  funext x
  exact k0_exp x
theorem k0_cnt (E : List Lf) : cntL (E.map Lf.k0) = cntL E := by
  unfold cntL
  rw [List.filter_map, List.length_map]
  rfl
theorem k0_get (E : List Lf) (i : Nat) : (E.map Lf.k0).getD i default = (E.getD i default).k0 := by
  rw [List.getD_eq_getElem?_getD, List.getD_eq_getElem?_getD, List.getElem?_map]
  cases E[i]? <;> rfl
theorem k0_guard (E : List Lf) (i : Nat) : guardL (E.map Lf.k0) i = guardL E i := by
  unfold guardL
  rw [k0_get, ← List.map_take, ← List.map_drop, k0_cnt, k0_cnt]
  rfl
theorem k0_names (E : List Lf) (i : Nat) : namesL (E.map Lf.k0) i = namesL E i := by
  unfold namesL
  rw [k0_get, ← List.map_take]
  simp only [List.any_map]
  rfl
theorem k0_okX (xs : List Lf) : okX (xs.map Lf.k0) = okX xs := by
  have h1 : okF (xs.map Lf.k0) = okF xs := by
    unfold okF
    rw [k0_row, List.length_map, List.map_map, List.filter_map, List.map_map]
    simp only [k0_guard, k0_names]
    rfl
  have h2 : okC ((rowL xs).map Lf.k0) = okC (rowL xs) := by
    unfold okC
    rw [List.all_map]
    rfl
  unfold okX
  rw [h1, k0_row, h2, k0_cnt, List.length_map]
def soAll : Nat → List (List SO)
  | 0 => [[]]
  | n + 1 => (soAll n).flatMap fun os => (List.range 4).flatMap fun q => (List.range 2).map fun g => ⟨0, q, g⟩ :: os
def SO.z (o : SO) : SO := ⟨0, o.q, if o.g = 0 then 0 else 1⟩
theorem so_mem : ∀ (os : List SO), (∀ o ∈ os, o.q ≤ 3) → os.map SO.z ∈ soAll os.length := by
  intro os
  induction os with
  | nil => intro _; simp [soAll]
  | cons o os ih =>
    intro h
    have := ih (fun x hx => h x (by simp [hx]))
    rw [List.map_cons, List.length_cons]
    unfold soAll
    rw [List.mem_flatMap]
    refine ⟨_, this, List.mem_flatMap.2 ⟨o.q, List.mem_range.2 (by have := h o (by simp); omega), List.mem_map.2 ⟨if o.g = 0 then 0 else 1, List.mem_range.2 (by split <;> omega), rfl⟩⟩⟩
theorem so_hz (g : Nat) : (soHT g).map Lf.k0 = (soHT (if g = 0 then 0 else 1)).map Lf.k0 := by
  cases g with
  | zero => rfl
  | succ j => rw [if_neg (by omega)]; rfl
theorem so_yz (fr : Nat) : ∀ (os : List SO) (i : Nat), (soY fr i os).map Lf.k0 = (soY fr i (os.map SO.z)).map Lf.k0 := by
  intro os
  induction os with
  | nil => intro i; rfl
  | cons o os ih =>
    intro i
    rw [List.map_cons]
    unfold soY
    rw [List.map_append, List.map_append, List.map_cons, List.map_cons, ← ih, so_hz]
    rfl
theorem so_xz (fr : Nat) (os : List SO) : okX (soXs fr os) = okX (soXs fr (os.map SO.z)) := by
  rw [← k0_okX, ← k0_okX (soXs fr (os.map SO.z))]
  cases os with
  | nil => rfl
  | cons o os =>
    rw [List.map_cons]
    unfold soXs
    rw [List.map_cons, List.map_cons, so_yz]
    rfl
end Go.Proofs.YtddbjcfdmdbmkaaGreatDoor

namespace Go.Proofs.YtddbjcfdmdbmkaaGreatDoor
open Go.RowKit

theorem so_x1 : ((soAll 1).all fun os => okX (soXs 0 os) && decide (cntL (rowL (soXs 0 os)) = 1)) = true := by kernel_rfl
theorem so_x2 : ((soAll 2).all fun os => okX (soXs 0 os) && decide (cntL (rowL (soXs 0 os)) = 2)) = true := by kernel_rfl
theorem so_x3 : ((soAll 3).all fun os => okX (soXs 0 os) && decide (cntL (rowL (soXs 0 os)) = 3)) = true := by kernel_rfl
theorem so_x4 : ((soAll 4).all fun os => okX (soXs 0 os) && decide (cntL (rowL (soXs 0 os)) = 4)) = true := by kernel_rfl
theorem so_z1 : ((soAll 1).all fun os => okX (soXs 3 os) && decide (cntL (rowL (soXs 3 os)) = 1)) = true := by kernel_rfl
theorem so_z2 : ((soAll 2).all fun os => okX (soXs 3 os) && decide (cntL (rowL (soXs 3 os)) = 2)) = true := by kernel_rfl
theorem so_z3 : ((soAll 3).all fun os => okX (soXs 3 os) && decide (cntL (rowL (soXs 3 os)) = 3)) = true := by kernel_rfl
theorem so_cz (fr : Nat) (os : List SO) : cntL (rowL (soXs fr os)) = cntL (rowL (soXs fr (os.map SO.z))) := by
  rw [← k0_cnt, ← k0_row, ← k0_cnt (rowL (soXs fr (os.map SO.z))), ← k0_row]
  cases os with
  | nil => rfl
  | cons o os =>
    rw [List.map_cons]
    unfold soXs
    rw [List.map_cons, List.map_cons, so_yz]
    rfl
def frOK (fr n : Nat) : Prop := 1 ≤ n ∧ ((fr = 0 ∧ n ≤ 4) ∨ (fr = 3 ∧ n ≤ 3))
theorem so_ok {fr : Nat} {os : List SO} (h : frOK fr os.length) (hq : ∀ o ∈ os, o.q ≤ 3) : okX (soXs fr os) = true ∧ cntL (rowL (soXs fr os)) = os.length := by
  have hm := so_mem os hq
  rw [so_xz, so_cz]
  generalize os.map SO.z = zs at hm
  generalize hn : os.length = n at h hm
  suffices hs : (okX (soXs fr zs) && decide (cntL (rowL (soXs fr zs)) = n)) = true by
    rw [Bool.and_eq_true, decide_eq_true_eq] at hs
    exact hs
  obtain ⟨h1, ⟨rfl, h2⟩ | ⟨rfl, h2⟩⟩ := h
  · match n, h1, h2 with
    | 1, _, _ => exact List.all_eq_true.1 so_x1 zs hm
    | 2, _, _ => exact List.all_eq_true.1 so_x2 zs hm
    | 3, _, _ => exact List.all_eq_true.1 so_x3 zs hm
    | 4, _, _ => exact List.all_eq_true.1 so_x4 zs hm
  · match n, h1, h2 with
    | 1, _, _ => exact List.all_eq_true.1 so_z1 zs hm
    | 2, _, _ => exact List.all_eq_true.1 so_z2 zs hm
    | 3, _, _ => exact List.all_eq_true.1 so_z3 zs hm
def soS (g : List UInt8) (fr i : Nat) (o : SO) : List Pc := soL g i (nameB (fr + i)) (nameB (fr + i - 1)) (nameB fr) o
theorem so_toks : ((List.range 4).all fun fr => (List.range 4).all fun i => decide (6 ≤ fr + i) || (List.range 3).all fun k => (List.range 4).all fun q => [0, 32, 41, 124].all fun nb => okN nb (soS [32] fr i ⟨k, q, 0⟩) && okN nb (soS [] fr i ⟨k, q, 0⟩) && decide ((layL (soS [32] fr i ⟨k, q, 0⟩)).length ≤ 40)) = true := by kernel_rfl
theorem so_gtoks : ((List.range 4).all fun g => okN 32 (soGT g) && decide ((layL (soGT g)).length ≤ 25)) = true := by kernel_rfl
theorem so_then : ∀ nb ∈ ([32] : List UInt8), okN nb [thenPc] = true := by
  intro nb h
  rw [List.mem_singleton.1 h]
  kernel_rfl
def nbs : List UInt8 := [0, 32, 41, 124]
theorem so_at {fr i : Nat} {o : SO} {nb : UInt8} (hf : fr ≤ 3) (hi : i ≤ 3) (hl : fr + i ≤ 5) (hk : o.k ≤ 2) (hq : o.q ≤ 3) (hn : nb ∈ nbs) : okN nb (soS [32] fr i o) = true ∧ okN nb (soS [] fr i o) = true ∧ (layL (soS [32] fr i o)).length ≤ 40 := by
  have h := List.all_eq_true.1 so_toks fr (List.mem_range.2 (by omega))
  have h := List.all_eq_true.1 h i (List.mem_range.2 (by omega))
  rw [show decide (6 ≤ fr + i) = false by simp; omega, Bool.false_or] at h
  have h := List.all_eq_true.1 h o.k (List.mem_range.2 (by omega))
  have h := List.all_eq_true.1 h o.q (List.mem_range.2 (by omega))
  have h := List.all_eq_true.1 h nb hn
  rw [Bool.and_eq_true, Bool.and_eq_true, decide_eq_true_eq] at h
  exact ⟨h.1.1, h.1.2, h.2⟩
theorem so_gat {g : Nat} (hg : g ≤ 3) : okN 32 (soGT g) = true ∧ (layL (soGT g)).length ≤ 25 := by
  have h := List.all_eq_true.1 so_gtoks g (List.mem_range.2 (by omega))
  rw [Bool.and_eq_true, decide_eq_true_eq] at h
  exact h
theorem soS_head (fr i : Nat) (o : SO) (L : List Pc) (nb : UInt8) : (layL (soS [32] fr i o ++ L)).headD nb = 32 := rfl
theorem soT_head (fr i : Nat) (os : List SO) (nb : UInt8) : (layL (soT fr i os)).headD nb = if os = [] then nb else 32 := by
  cases os with
  | nil => rfl
  | cons o os =>
    rw [if_neg (by simp)]
    unfold soT
    cases o.g <;> rfl
def SoOK (os : List SO) : Prop := ∀ o ∈ os, o.k ≤ 2 ∧ o.q ≤ 3 ∧ o.g ≤ 3
theorem so_okT {fr : Nat} (hf : fr ≤ 3) {nb : UInt8} (hn : nb ∈ nbs) : ∀ (os : List SO) (i : Nat), SoOK os → i + os.length ≤ 4 → fr + i + os.length ≤ 6 → okN nb (soT fr i os) = true ∧ (layL (soT fr i os)).length ≤ 70 * os.length := by
  intro os
  induction os with
  | nil => intro i _ _ _; exact ⟨rfl, by simp [soT, layL]⟩
  | cons o os ih =>
    intro i h hi hl
    rw [List.length_cons] at hi hl
    obtain ⟨ho1, ho2, ho3⟩ := h o (by simp)
    have ih := ih (i + 1) (fun x hx => h x (by simp [hx])) (by omega) (by omega)
    have hg := so_gat ho3
    show okN nb (soGT o.g ++ ([thenPc] ++ (soS [32] fr i o ++ soT fr (i + 1) os))) = true ∧ (layL (soGT o.g ++ ([thenPc] ++ (soS [32] fr i o ++ soT fr (i + 1) os)))).length ≤ _
    have hs := fun nb' (h' : nb' ∈ nbs) => so_at (nb := nb') (i := i) hf (by omega) (by omega) ho1 ho2 h'
    constructor
    · rw [ok_app, ok_app, ok_app, soS_head, ih.1, so_then 32 (by simp), show (layL ([thenPc] ++ (soS [32] fr i o ++ soT fr (i + 1) os))).headD nb = 32 from rfl, hg.1, soT_head]
      split
      · rw [(hs nb hn).1]; rfl
      · rw [(hs 32 (by simp [nbs])).1]; rfl
    · rw [lay_app, lay_app, lay_app, List.length_append, List.length_append, List.length_append, List.length_cons]
      have h2 := ih.2
      have h3 := (hs 0 (by simp [nbs])).2.2
      have h4 : (layL [thenPc]).length = 5 := by decide
      have h5 := hg.2
      omega
theorem so_all {fr : Nat} (hf : fr ≤ 3) {os : List SO} (h : SoOK os) (h0 : os ≠ []) (hl : os.length ≤ 4) (hl2 : fr + os.length ≤ 6) {nb : UInt8} (hn : nb ∈ nbs) : okN nb (soSeq [32] fr os) = true ∧ okN nb (soSeq [] fr os) = true ∧ layL (soSeq [32] fr os) = 32 :: layL (soSeq [] fr os) ∧ (layL (soSeq [] fr os)).length ≤ 70 * os.length ∧ 3 ≤ (soSeq [32] fr os).length := by
  cases os with
  | nil => exact absurd rfl h0
  | cons o os =>
    rw [List.length_cons] at hl hl2
    obtain ⟨ho1, ho2, ho3⟩ := h o (by simp)
    have ht := so_okT hf hn os 1 (fun x hx => h x (by simp [hx])) (by omega) (by omega)
    have hs := fun nb' (h' : nb' ∈ nbs) => so_at (nb := nb') (i := 0) hf (by omega) (by omega) ho1 ho2 h'
    have e : ∀ g, soSeq g fr (o :: os) = soS g fr 0 o ++ soT fr 1 os := fun _ => rfl
    refine ⟨?_, ?_, rfl, ?_, ?_⟩
    · rw [e, ok_app, ht.1, soT_head]
      split
      · rw [(hs nb hn).1]; rfl
      · rw [(hs 32 (by simp [nbs])).1]; rfl
    · rw [e, ok_app, ht.1, soT_head]
      split
      · rw [(hs nb hn).2.1]; rfl
      · rw [(hs 32 (by simp [nbs])).2.1]; rfl
    · rw [e, lay_app, List.length_append, List.length_cons]
      have h3 := (hs 0 (by simp [nbs])).2.2
      have h4 : layL (soS [32] fr 0 o) = 32 :: layL (soS [] fr 0 o) := rfl
      rw [h4, List.length_cons] at h3
      have := ht.2
      omega
    · rw [e]
      simp [soS, soL, stepPc]
theorem so_text {fr W R : Nat} {os : List SO} (h : SoOK os) (hf : frOK fr os.length) (hW : 1 ≤ W ∧ W ≤ 1000000) (hR : 1 ≤ R ∧ R ≤ 12) {S : ByteArray} (hS : S.data.toList = (headB W R).data.toList ++ layL (soSeq [] fr os)) : TextOK S W R (mostP R os.length) [stepsL (rowL (soXs fr os))] := by
  obtain ⟨hx, hc⟩ := so_ok hf (fun o ho => (h o ho).2.1)
  have hf' : fr ≤ 3 ∧ os.length ≤ 4 ∧ fr + os.length ≤ 6 ∧ os ≠ [] := by
    obtain ⟨h1, h2⟩ := hf
    refine ⟨by omega, by omega, by omega, ?_⟩
    rintro rfl
    simp at h1
  obtain ⟨a1, _, a3, a4, a5⟩ := so_all (nb := 0) hf'.1 h hf'.2.2.2 hf'.2.1 hf'.2.2.1 (by simp [nbs])
  have := text_any hW hR hS a3 a1 (by omega) (m := 0) (by omega) a5 (fun n => so_read (n := n + 6) [32] (fun o ho => ⟨(h o ho).1, (h o ho).2.2⟩) hf'.2.2.2 (by omega)) hx
  rwa [hc] at this
end Go.Proofs.YtddbjcfdmdbmkaaGreatDoor

namespace Go.Proofs.YtddbjcfdmdbmkaaGreatDoor
open Go.RowKit

def xCond (x : UInt8) : List Pc := ifPc :: (itPc [32] 97 ++ ⟨[32], 5, [62]⟩ :: fldPc [32] x 98)
def xOps (x : UInt8) : List BOp := [itOp 97] ++ ([fldOp x 98] ++ [eOp (txt [62])])
def tailPc (o : SO) : List Pc := thenPc :: (soL [32] 0 (nameB 0) (nameB (0 - 1)) (nameB 0) o ++ [])
def tailX (o : SO) : Lf := soX 0 (nameB 0) (nameB (0 - 1)) (nameB 0) o
def stepM (K j : Nat) : List Pc := stepPc [32] (nameB (2 + j)) (decL K) ++ xCond (nameB (2 + j))
def stepMX (K j : Nat) : Lf := ⟨txt [nameB (2 + j)], 1, K, xOps (nameB (2 + j))⟩
def manyT (K : Nat) : Nat → List Pc
  | 0 => []
  | j + 1 => manyT K j ++ (thenPc :: (stepM K (j + 1) ++ []))
def ofA (K k : Nat) (o : SO) : List Pc := (⟨[32], 3, [120]⟩ :: ⟨[], 5, [58]⟩ :: ⟨[], 2, decL K⟩ :: ⟨[32], 4, [116, 105, 109, 101, 115]⟩ :: ⟨[32], 2, decL k⟩ :: xCond 120) ++ tailPc o
def ofAX (K k : Nat) (o : SO) : List Lf := [⟨txt [120], k, K, xOps 120⟩, tailX o]
def ofB (K k : Nat) (o : SO) : List Pc := stepM K 0 ++ (manyT K (k - 1) ++ tailPc o)
def ofBX (K k : Nat) (o : SO) : List Lf := stepMX K 0 :: ((List.range (k - 1)).map (fun j => stepMX K (j + 1)) ++ [tailX o])
def manyB (K : Nat) : Nat → List UInt8
  | 0 => []
  | i + 1 => manyB K i ++ ((if i = 0 then [] else [32, 116, 104, 101, 110, 32]) ++ ([nameB (2 + i)] ++ ([58] ++ (decL K ++ ([32, 105, 102, 32, 105, 116, 46, 97, 32, 62, 32] ++ ([nameB (2 + i)] ++ [46, 98]))))))
def ofAB (K k : Nat) (o : SO) : List UInt8 := [120] ++ ([58] ++ (decL K ++ ([32, 116, 105, 109, 101, 115, 32] ++ (decL k ++ ([32, 105, 102, 32, 105, 116, 46, 97, 32, 62, 32, 120, 46, 98] ++ ([32, 116, 104, 101, 110, 32] ++ layL (soSeq [] 0 [o])))))))
def ofBB (K k : Nat) (o : SO) : List UInt8 := manyB K k ++ ([32, 116, 104, 101, 110, 32] ++ layL (soSeq [] 0 [o]))
def ofTest (L : List Pc) (xs : List Lf) (bs : List UInt8) (n : Nat) : Bool := okN 0 L && okX xs && (layL L == 32 :: bs) && decide (bs.length ≤ 400) && decide (3 ≤ L.length) && decide (cntL (rowL xs) = n)
theorem of_facts1 : ((List.range 3).all fun K => (List.range 4).all fun k => (List.range 3).all fun kk => (List.range 4).all fun q => ofTest (ofA K (k + 1) ⟨kk, q, 0⟩) (ofAX K (k + 1) ⟨kk, q, 0⟩) (ofAB K (k + 1) ⟨kk, q, 0⟩) (k + 2)) = true := by kernel_rfl
theorem of_facts2 : ((List.range 3).all fun K => (List.range 4).all fun k => (List.range 3).all fun kk => (List.range 4).all fun q => ofTest (ofB K (k + 1) ⟨kk, q, 0⟩) (ofBX K (k + 1) ⟨kk, q, 0⟩) (ofBB K (k + 1) ⟨kk, q, 0⟩) (k + 2)) = true := by kernel_rfl
theorem of_at {K k : Nat} {o : SO} (hK : K ≤ 2) (hk : k ≤ 3) (ho : o.k ≤ 2) (hq : o.q ≤ 3) : ofTest (ofA K (k + 1) o) (ofAX K (k + 1) o) (ofAB K (k + 1) o) (k + 2) = true ∧ ofTest (ofB K (k + 1) o) (ofBX K (k + 1) o) (ofBB K (k + 1) o) (k + 2) = true := by
  have h1 := List.all_eq_true.1 of_facts1 K (List.mem_range.2 (by omega))
  have h1 := List.all_eq_true.1 h1 k (List.mem_range.2 (by omega))
  have h1 := List.all_eq_true.1 h1 o.k (List.mem_range.2 (by omega))
  have h1 := List.all_eq_true.1 h1 o.q (List.mem_range.2 (by omega))
  have h2 := List.all_eq_true.1 of_facts2 K (List.mem_range.2 (by omega))
  have h2 := List.all_eq_true.1 h2 k (List.mem_range.2 (by omega))
  have h2 := List.all_eq_true.1 h2 o.k (List.mem_range.2 (by omega))
  have h2 := List.all_eq_true.1 h2 o.q (List.mem_range.2 (by omega))
  exact ⟨h1, h2⟩
theorem of_s10 (K kk g : Nat) : stepsL (rowL (ofAX K 1 ⟨kk, 0, g⟩)) = stepsL (rowL (ofBX K 1 ⟨kk, 0, g⟩)) := by kernel_rfl
theorem of_s20 (K kk g : Nat) : stepsL (rowL (ofAX K 2 ⟨kk, 0, g⟩)) = stepsL (rowL (ofBX K 2 ⟨kk, 0, g⟩)) := by kernel_rfl
theorem of_s30 (K kk g : Nat) : stepsL (rowL (ofAX K 3 ⟨kk, 0, g⟩)) = stepsL (rowL (ofBX K 3 ⟨kk, 0, g⟩)) := by kernel_rfl
theorem of_s40 (K kk g : Nat) : stepsL (rowL (ofAX K 4 ⟨kk, 0, g⟩)) = stepsL (rowL (ofBX K 4 ⟨kk, 0, g⟩)) := by kernel_rfl
theorem of_s11 (K kk g q : Nat) : stepsL (rowL (ofAX K 1 ⟨kk, q + 1, g⟩)) = stepsL (rowL (ofBX K 1 ⟨kk, q + 1, g⟩)) := by kernel_rfl
theorem of_s21 (K kk g q : Nat) : stepsL (rowL (ofAX K 2 ⟨kk, q + 1, g⟩)) = stepsL (rowL (ofBX K 2 ⟨kk, q + 1, g⟩)) := by kernel_rfl
theorem of_s31 (K kk g q : Nat) : stepsL (rowL (ofAX K 3 ⟨kk, q + 1, g⟩)) = stepsL (rowL (ofBX K 3 ⟨kk, q + 1, g⟩)) := by kernel_rfl
theorem of_s41 (K kk g q : Nat) : stepsL (rowL (ofAX K 4 ⟨kk, q + 1, g⟩)) = stepsL (rowL (ofBX K 4 ⟨kk, q + 1, g⟩)) := by kernel_rfl
theorem of_steps {K k : Nat} {o : SO} (hk : k ≤ 3) : stepsL (rowL (ofAX K (k + 1) o)) = stepsL (rowL (ofBX K (k + 1) o)) := by
  obtain ⟨kk, q, g⟩ := o
  cases q with
  | zero =>
    match k, hk with
    | 0, _ => exact of_s10 K kk g
    | 1, _ => exact of_s20 K kk g
    | 2, _ => exact of_s30 K kk g
    | 3, _ => exact of_s40 K kk g
  | succ q =>
    match k, hk with
    | 0, _ => exact of_s11 K kk g q
    | 1, _ => exact of_s21 K kk g q
    | 2, _ => exact of_s31 K kk g q
    | 3, _ => exact of_s41 K kk g q
theorem x_cond {n : Nat} {x : UInt8} (h : NmOK x) : RdC 0 (n + 1) (xCond x) (xOps x) stopAll := condOne (rds_itPc fA) (rds_fldPc h.1 h.2 fB) cGt
theorem x120 : NmOK 120 := ⟨by kernel_rfl, by kernel_rfl⟩
theorem rd_stepM {n K j : Nat} (hK : K ≤ 2) (hj : j ≤ 3) : RdP 0 (n + 2) (stepM K j) (stepMX K j) := by
  have e := (dec_all K).2.2
  have := rdp_step (g := [32]) (g1 := []) (g2 := []) (nm := [nameB (2 + j)]) (kd := decL K) (x_cond (n := n) (nm_ok (i := 2 + j) (by omega))) (.inr ⟨_, _, rfl⟩) (by rw [e]; omega)
  rw [e] at this
  exact this
theorem rd_many {n K : Nat} (hK : K ≤ 2) : ∀ j, j ≤ 3 → SeqT 0 (n + 2) (manyT K j) ((List.range j).map fun i => stepMX K (i + 1)) := by
  intro j
  induction j with
  | zero => intro _; exact .nil
  | succ j ih =>
    intro hj
    rw [List.range_succ, List.map_append]
    exact seqT_app (ih (by omega)) (SeqT.cons (g := [32]) (rd_stepM hK hj) .nil)
theorem rd_tail {n : Nat} {o : SO} (ho : o.k ≤ 2) : SeqT 0 (n + 2) (tailPc o) [tailX o] := SeqT.cons (g := [32]) (so_step (nm_ok (by omega)) (nm_ok (by omega)) (nm_ok (by omega)) o (by omega)) .nil
theorem of_readA {K k : Nat} {o : SO} (hK : K ≤ 2) (hk : 1 ≤ k ∧ k ≤ 4) (ho : o.k ≤ 2) (n : Nat) : RdQ 0 (n + 8) (ofA K k o) (ofAX K k o) := by
  have e := (dec_all K).2.2
  have e2 := (dec_all k).2.2
  have h := rdp_times (g := [32]) (g1 := []) (g2 := []) (g3 := [32]) (g4 := [32]) (nm := [120]) (kd := decL K) (tn := decL k) (x_cond (n := n + 6) x120) (by rw [e]; omega) (by rw [e2]; exact hk)
  rw [e, e2] at h
  exact rdq_seq h (rd_tail (n := n + 6) ho)
theorem of_readB {K k : Nat} {o : SO} (hK : K ≤ 2) (hk : 1 ≤ k ∧ k ≤ 4) (ho : o.k ≤ 2) (n : Nat) : RdQ 0 (n + 8) (ofB K k o) (ofBX K k o) :=
  rdq_seq (rd_stepM (n := n + 6) hK (by omega)) (seqT_app (rd_many (n := n + 6) hK (k - 1) (by omega)) (rd_tail (n := n + 6) ho))
theorem of_texts {K k W R : Nat} {o : SO} (hK : K ≤ 2) (hk : 1 ≤ k ∧ k ≤ 4) (ho : o.k ≤ 2) (hq : o.q ≤ 3) (hW : 1 ≤ W ∧ W ≤ 1000000) (hR : 1 ≤ R ∧ R ≤ 12) {S S' : ByteArray} (hS : S.data.toList = (headB W R).data.toList ++ ofAB K k o) (hS' : S'.data.toList = (headB W R).data.toList ++ ofBB K k o) :
    TextOK S W R (mostP R (k + 1)) [stepsL (rowL (ofAX K k o))] ∧ TextOK S' W R (mostP R (k + 1)) [stepsL (rowL (ofAX K k o))] := by
  obtain ⟨j, rfl⟩ : ∃ j, k = j + 1 := ⟨k - 1, by omega⟩
  have h := of_at (K := K) (k := j) (o := o) hK (by omega) ho hq
  unfold ofTest at h
  simp only [Bool.and_eq_true, beq_iff_eq, decide_eq_true_eq] at h
  obtain ⟨⟨⟨⟨⟨⟨a1, a2⟩, a3⟩, a4⟩, a5⟩, a6⟩, ⟨⟨⟨⟨b1, b2⟩, b3⟩, b4⟩, b5⟩, b6⟩ := h
  have t1 := text_any hW hR hS a3 a1 (by omega) (m := 0) (by omega) a5 (of_readA hK hk ho) a2
  have t2 := text_any hW hR hS' b3 b1 (by omega) (m := 0) (by omega) b5 (of_readB hK hk ho) b2
  rw [a6] at t1
  rw [b6, ← of_steps (by omega)] at t2
  exact ⟨t1, t2⟩
theorem many_len {K : Nat} (hK : K ≤ 2) : ∀ i, i ≤ 4 → (manyB K i).length ≤ 60 * i := by
  intro i
  induction i with
  | zero => intro _; simp [manyB]
  | succ i ih =>
    intro hi
    have h1 := ih (by omega)
    have h2 := dec_len 8 K (by omega)
    unfold manyB
    split <;> simp <;> omega
end Go.Proofs.YtddbjcfdmdbmkaaGreatDoor

namespace Go.Proofs.YtddbjcfdmdbmkaaGreatDoor
open Go.RowKit

def brL (g : List UInt8) (A B : List Pc) (g1 g2 : List UInt8) : List Pc := ⟨g, 5, [40]⟩ :: (A ++ (⟨g1, 5, [124]⟩ :: (B ++ [⟨g2, 5, [41]⟩])))
theorem most_two : ((List.range 9).all fun r => (List.range 5).all fun s => (List.range 5).all fun u => decide (mostP r s + mostP r u ≤ 4000)) = true := by kernel_rfl
theorem mostP_two {r s u : Nat} (hr : r ≤ 8) (hs : s ≤ 4) (hu : u ≤ 4) : mostP r s + mostP r u ≤ 4000 := by
  have := List.all_eq_true.1 most_two r (List.mem_range.2 (by omega))
  have := List.all_eq_true.1 this s (List.mem_range.2 (by omega))
  have := List.all_eq_true.1 this u (List.mem_range.2 (by omega))
  simpa using this
theorem so_either {W R : Nat} {os us : List SO} (h : SoOK os) (hf : 1 ≤ os.length ∧ os.length ≤ 3) (h' : SoOK us) (hf' : 1 ≤ us.length ∧ us.length ≤ 3) (hW : 1 ≤ W ∧ W ≤ 40) (hR : 1 ≤ R ∧ R ≤ 7) {S : ByteArray} (hS : S.data.toList = (headB W R).data.toList ++ ([40] ++ layL (soSeq [] 0 os) ++ [124] ++ layL (soSeq [] 3 us) ++ [41])) : TextOK S W R (mostP R os.length + mostP R us.length) [stepsL (rowL (soXs 0 os)), stepsL (rowL (soXs 3 us))] := by
  have n1 : os ≠ [] := by rintro rfl; simp at hf
  have n2 : us ≠ [] := by rintro rfl; simp at hf'
  obtain ⟨hx, hc⟩ := so_ok (fr := 0) (os := os) ⟨hf.1, .inl ⟨rfl, by omega⟩⟩ (fun o ho => (h o ho).2.1)
  obtain ⟨hy, hc'⟩ := so_ok (fr := 3) (os := us) ⟨hf'.1, .inr ⟨rfl, by omega⟩⟩ (fun o ho => (h' o ho).2.1)
  obtain ⟨_, a2, _, a4, _⟩ := so_all (fr := 0) (nb := 124) (by omega) h n1 (by omega) (by omega) (by simp [nbs])
  obtain ⟨_, b2, _, b4, _⟩ := so_all (fr := 3) (nb := 41) (by omega) h' n2 (by omega) (by omega) (by simp [nbs])
  have e1 := (dec_all W).2.2
  have e2 := (dec_all R).2.2
  have hl : S.data.toList = layL (headPc [] (decL W) (decL R) ++ brL [32] (soSeq [] 0 os) (soSeq [] 3 us) [] []) := by
    rw [hS, head_lay, lay_app]
    unfold brL
    simp [layL, lay_app]
  have hsz : S.size ≤ 600 ∧ True := by
    refine ⟨?_, trivial⟩
    have : S.data.toList.length = S.size := by simp
    rw [← this, hS, head_lay]
    have h1 := dec_len 8 W (by omega)
    have h2 := dec_len 8 R (by omega)
    simp [headPc, layL]
    omega
  have hok : okN 0 (headPc [] (decL W) (decL R) ++ brL [32] (soSeq [] 0 os) (soSeq [] 3 us) [] []) = true := by
    rw [ok_app, show (layL (brL [32] (soSeq [] 0 os) (soSeq [] 3 us) [] [])).headD 0 = 32 from rfl, head_ok (by omega) (by omega) (by kernel_rfl)]
    show (true && (true && (okN 0 (soSeq [] 0 os ++ (⟨[], 5, [124]⟩ :: (soSeq [] 3 us ++ [⟨[], 5, [41]⟩])))))) = true
    rw [ok_app, show (layL (⟨[], 5, [124]⟩ :: (soSeq [] 3 us ++ [⟨[], 5, [41]⟩]))).headD 0 = 124 from rfl, a2]
    show (true && (true && (true && (true && okN 0 (soSeq [] 3 us ++ [⟨[], 5, [41]⟩]))))) = true
    rw [ok_app, show (layL [⟨[], 5, [41]⟩]).headD 0 = 41 from rfl, b2]
    rfl
  have hq : ∀ n, RdG 1 (n + 8) (brL [32] (soSeq [] 0 os) (soSeq [] 3 us) [] []) (TwoB (soXs 0 os) (soXs 3 us)) := fun n =>
    rdg_two (so_read (n := n + 5) [] (fun o ho => ⟨(h o ho).1, (h o ho).2.2⟩) n1 (by omega)) (so_read (n := n + 5) [] (fun o ho => ⟨(h' o ho).1, (h' o ho).2.2⟩) n2 (by omega))
  have := text_two (S := S) (g := []) (W := decL W) (R := decL R) (L := brL [32] (soSeq [] 0 os) (soSeq [] 3 us) [] []) (xs := soXs 0 os) (ys := soXs 3 us) hl hok hsz.1 (m := 1) (by omega) (by rw [e1]; omega) (by rw [e2]; omega) (by unfold brL; simp; omega) hq hx hy (by rw [e2, hc, hc']; exact mostP_two (by omega) (by omega) (by omega))
  rwa [e1, e2, hc, hc'] at this
end Go.Proofs.YtddbjcfdmdbmkaaGreatDoor

namespace Go.Proofs.YtddbjcfdmdbmkaaGreatDoor
open Go.RowKit

theorem IntsAt.drewN {w : World} {v : Value} {l : List Nat} (h : IntsAt w v l) {w' : World} (e : w'.heap = w.heap) : IntsAt w' v l := by
  obtain ⟨a, c, e1, hc⟩ := h
  refine ⟨a, c, e1, fun h0 => ?_⟩
  obtain ⟨g, e2, hg, hk⟩ := hc h0
  exact ⟨g, e2, by rw [e]; exact hg, fun k hk' => (cell_eq (by rw [e]) k).trans (hk k hk')⟩
set_option maxRecDepth 100000 in
set_option maxHeartbeats 1600000 in
theorem same_p {w : World} {va vb : Value} {xs : List (List Nat)} (ha : ListsR w va xs) (hb : ListsR w vb xs) (hl : xs.length ≤ maxLen) (hi : ∀ y ∈ xs, y.length ≤ maxLen) :
    Calls Tryz.prog 32 #[va, vb] w fun x w' => x = .returned (.bool true) ∧ ∃ q, w' = w.drewN q := by
  obtain ⟨aa, ac, rfl, hac⟩ := ha.form
  obtain ⟨ba, bc, rfl, hbc⟩ := hb.form
  clear ha hb
  unfold maxLen at hl hi
  go_enter Tryz.func32, Tryz.ntmps32
  go_wp2
  go_loopw [5] (fun i wr => ∃ k : Nat, k ≤ xs.length ∧ i = .int .i64 k ∧ ∃ q, wr = w.drewN q) (fun i _ => xs.length - (intOf i).toNat)
  case atStart => exact ⟨0, Nat.zero_le _, rfl, 0, rfl⟩
  case round =>
    obtain ⟨k, hk, rfl, q, hq⟩ := hrel
    have hh : wr.heap = w.heap := by rw [hq]; rfl
    have HBel : Hid (∀ w2 : World, (∃ n, w2 = wr.drewN n) → ∃ q, w2 = w.drewN q) := fun w2 hn => by
      obtain ⟨n, rfl⟩ := hn
      exact ⟨q + n, by rw [hq]; simp [World.drewN, Nat.add_assoc]⟩
    clear hq
    obtain ⟨wo, hwo⟩ : ∃ x, x = wr := ⟨_, rfl⟩
    by_cases hlt : k < xs.length
    · obtain ⟨g, rfl, hg, hc⟩ := hac (by omega)
      obtain ⟨g2, rfl, hg2, hc2⟩ := hbc (by omega)
      obtain ⟨u, hcu, hu⟩ := hc k hlt
      obtain ⟨u2, hcu2, hu2⟩ := hc2 k hlt
      have hml := hi _ (List.getElem_mem hlt)
      obtain ⟨ua, uc, rfl, huc⟩ := hu
      obtain ⟨ub, ud, rfl, hud⟩ := hu2
      generalize xs[k] = y at *
      have e1 : wr.cell? ⟨g, k, none⟩ = some (.slice ua y.length uc) := (cell_eq (by rw [hh]) k).trans hcu
      have e2 : wr.cell? ⟨g2, k, none⟩ = some (.slice ub y.length ud) := (cell_eq (by rw [hh]) k).trans hcu2
      have gl : g < wr.heap.size := by rw [hh]; exact hg
      have gl2 : g2 < wr.heap.size := by rw [hh]; exact hg2
      have hki : (k : Int) < (xs.length : Int) := by omega
      have hk0 : (0 : Int) ≤ (k : Int) := by omega
      clear hc hc2 hac hbc hcu hcu2 hi
      go_wp2
      go_quiet (fail)
      go_wp2
      subst hwo
      go_loopw [6] (fun j wi => ∃ m : Nat, m ≤ y.length ∧ j = .int .i64 m ∧ ∃ q, wi = wo.drewN q) (fun j _ => y.length - (intOf j).toNat)
      case atStart => exact ⟨0, Nat.zero_le _, rfl, _, rfl⟩
      case round =>
        obtain ⟨m, hm, rfl, q2, hq2⟩ := hrel
        have hh2 : wr.heap = wo.heap := by rw [hq2]; rfl
        have HB2 : Hid (∀ n, ∃ q, wr.drewN n = wo.drewN q) := fun n => ⟨q2 + n, by rw [hq2]; simp [World.drewN, Nat.add_assoc]⟩
        clear hq2
        have e3 : wr.cell? ⟨g, k, none⟩ = some (.slice ua y.length uc) := (cell_eq (by rw [hh2]) k).trans e1
        have e4 : wr.cell? ⟨g2, k, none⟩ = some (.slice ub y.length ud) := (cell_eq (by rw [hh2]) k).trans e2
        have gl3 : g < wr.heap.size := by rw [hh2]; exact gl
        have gl4 : g2 < wr.heap.size := by rw [hh2]; exact gl2
        by_cases hmt : m < y.length
        · obtain ⟨f, rfl, hf, hfc⟩ := huc (by omega)
          obtain ⟨f2, rfl, hf2, hfc2⟩ := hud (by omega)
          have e5 : wr.cell? ⟨f, m, none⟩ = some (.int .i64 (y[m] : Nat)) := (cell_eq (by rw [hh2, hh]) m).trans (hfc m hmt)
          have e6 : wr.cell? ⟨f2, m, none⟩ = some (.int .i64 (y[m] : Nat)) := (cell_eq (by rw [hh2, hh]) m).trans (hfc2 m hmt)
          have fl : f < wr.heap.size := by rw [hh2, hh]; exact hf
          have fl2 : f2 < wr.heap.size := by rw [hh2, hh]; exact hf2
          have hmi : (m : Int) < (y.length : Int) := by omega
          have hm0 : (0 : Int) ≤ (m : Int) := by omega
          clear hfc hfc2 huc hud hh hh2 e1 e2 gl gl2 hg hg2
          generalize y[m] = z at *
          go_wp2
          go_quiet (fail)
          go_wp2
          go_roundw
          case rel => exact ⟨m + 1, hmt, by go_num, HB2.out _⟩
          case measure => simp [intOf]; omega
        · have em : m = y.length := by omega
          subst em
          clear huc hud hh hh2 e1 e2 gl gl2 hg hg2
          go_wp2
          go_roundw
          case rel => exact ⟨k + 1, hlt, by go_num, HBel.out _ (HB2.out 0)⟩
          case measure => simp [intOf]; omega
    · have ek : k = xs.length := by omega
      subst ek
      clear hac hbc hh
      go_wp2
      go_ret
      exact ⟨rfl, HBel.out _ ⟨0, rfl⟩⟩
end Go.Proofs.YtddbjcfdmdbmkaaGreatDoor
