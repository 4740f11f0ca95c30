import Derived.Test.YtddbjcfdmdbmkaaGreatDoorB37
set_option linter.unusedVariables false
set_option linter.unusedSimpArgs false
/-
  Both readers, plain: .
-/
namespace Go.Proofs.YtddbjcfdmdbmkaaGreatDoor
open Go.RowKit

theorem stepsN_zero {l : List PPart} : stepsN l = 0 ↔ ∀ p ∈ l, isStepB p = false := by
  unfold stepsN
  rw [List.length_eq_zero_iff, List.filter_eq_nil_iff]
  constructor
  · intro h p hp; have := h p hp; simpa using this
  · intro h p hp; rw [h p hp]; decide
/-- the guards that may not stand there -/
theorem guards_rel (l : List PPart) (d : Nat × Nat) (hd : d.2 ≠ 0) : (∃ i, i < l.length ∧ d = guardFP l i) ↔ (d.2 = 1 ∧ ∃ g ∈ headG (wfold l) ++ (wfold l).2, d.1 = g.place) := by
  have h := wfold_spec l
  generalize wfold l = s at h
  obtain ⟨es, left⟩ := s
  have heq := h.eq
  have hst := h.steps
  have hle := h.left
  simp only at heq hst hle
  constructor
  · rintro ⟨i, hi, rfl⟩
    unfold guardFP at hd ⊢
    have eD : l.getD i default = l[i] := by rw [List.getD_eq_getElem?_getD, List.getElem?_eq_getElem hi]; rfl
    rw [eD] at hd ⊢
    split at hd
    · exact absurd rfl hd
    · rename_i hc
      rw [if_neg hc]
      refine ⟨rfl, l[i], ?_, rfl⟩
      simp only [Bool.or_eq_true, Bool.and_eq_true, decide_eq_true_eq, not_or, not_and] at hc
      obtain ⟨hg, hc⟩ := hc
      by_cases h0 : 0 < stepsN (l.take i)
      · have h1 : stepsN (l.drop (i + 1)) = 0 := by have := hc h0; omega
        rw [stepsN_zero] at h1
        apply List.mem_append_right
        simp only
        -- the last step is ahead of it
        rcases List.eq_nil_or_concat es with e | ⟨es', e, he⟩
        · subst e
          simp at heq
          subst heq
          exact List.getElem_mem _
        · rw [he] at heq hst
          have hl : l = (es'.flatMap (fun e => e.2 ++ [e.1]) ++ e.2) ++ e.1 :: left := by rw [heq]; simp
          generalize es'.flatMap (fun e => e.2 ++ [e.1]) ++ e.2 = X at hl
          have hse := (hst e (by simp)).1
          have hXi : X.length < i := by
            apply Decidable.byContradiction
            intro hn
            have hlt : X.length < l.length := by rw [hl]; simp
            have hx : l[X.length] = e.1 := by simp [hl]
            by_cases e0 : i = X.length
            · subst e0; rw [hx] at hg; exact hg hse
            · have hm : e.1 ∈ l.drop (i + 1) := by
                rw [List.mem_iff_getElem]
                refine ⟨X.length - (i + 1), by rw [List.length_drop]; omega, ?_⟩
                rw [List.getElem_drop]
                have : i + 1 + (X.length - (i + 1)) = X.length := by omega
                simp only [this]; exact hx
              rw [h1 _ hm] at hse; cases hse
          have : l[i] = left[i - X.length - 1]'(by rw [hl] at hi; simp at hi; omega) := by
            simp only [hl]
            rw [List.getElem_append_right (by omega), List.getElem_cons]
            rw [dif_neg (by omega)]
          rw [this]; exact List.getElem_mem _
      · have h1 : stepsN (l.take i) = 0 := by omega
        rw [stepsN_zero] at h1
        apply List.mem_append_left
        cases es with
        | nil =>
          simp at heq
          subst heq
          exact List.getElem_mem _
        | cons e es =>
          show l[i] ∈ e.2
          have hl : l = e.2 ++ e.1 :: (es.flatMap (fun e => e.2 ++ [e.1]) ++ left) := by rw [heq]; simp
          have hse := (hst e (by simp)).1
          have hXi : i < e.2.length := by
            apply Decidable.byContradiction
            intro hn
            have hlt : e.2.length < l.length := by rw [hl]; simp
            have hx : l[e.2.length] = e.1 := by simp [hl]
            by_cases e0 : i = e.2.length
            · subst e0; rw [hx] at hg; exact hg hse
            · have hm : e.1 ∈ l.take i := by
                rw [List.mem_iff_getElem]
                refine ⟨e.2.length, by rw [List.length_take]; omega, ?_⟩
                rw [List.getElem_take]; exact hx
              rw [h1 _ hm] at hse; cases hse
          have : l[i] = e.2[i] := by simp only [hl]; rw [List.getElem_append_left hXi]
          rw [this]; exact List.getElem_mem _
  · rintro ⟨h1, g, hg, h2⟩
    -- a place in the path
    have key : ∃ i, ∃ hi : i < l.length, l[i] = g ∧ isStepB g = false ∧ (stepsN (l.take i) = 0 ∨ stepsN (l.drop (i + 1)) = 0) := by
      have hleft : g ∈ left → ∃ i, ∃ hi : i < l.length, l[i] = g ∧ isStepB g = false ∧ (stepsN (l.take i) = 0 ∨ stepsN (l.drop (i + 1)) = 0) := by
        intro hm
        obtain ⟨k, hk, hkg⟩ := List.mem_iff_getElem.1 hm
        generalize es.flatMap (fun e => e.2 ++ [e.1]) = X at heq
        refine ⟨X.length + k, by rw [heq]; simp; exact hk, ?_, hle g hm, .inr ?_⟩
        · simp [heq, hkg]
        · rw [stepsN_zero]
          intro p hp
          have : l.drop (X.length + k + 1) = left.drop (k + 1) := by rw [heq, Nat.add_assoc, List.drop_length_add_append]
          rw [this] at hp
          exact hle p (List.mem_of_mem_drop hp)
      rcases List.mem_append.1 hg with hm | hm
      · cases es with
        | nil => exact hleft hm
        | cons e es =>
          have hm' : g ∈ e.2 := hm
          obtain ⟨k, hk, hkg⟩ := List.mem_iff_getElem.1 hm'
          have hl : l = e.2 ++ e.1 :: (es.flatMap (fun e => e.2 ++ [e.1]) ++ left) := by rw [heq]; simp
          have hgs := (hst e (by simp)).2
          refine ⟨k, by rw [hl]; simp; omega, ?_, hgs g hm', .inl ?_⟩
          · simp only [hl]; rw [List.getElem_append_left hk]; exact hkg
          · rw [stepsN_zero]
            intro p hp
            rw [hl, List.take_append_of_le_length (by omega)] at hp
            exact hgs p (List.mem_of_mem_take hp)
      · exact hleft hm
    obtain ⟨i, hi, hig, hgs, hz⟩ := key
    refine ⟨i, hi, ?_⟩
    unfold guardFP
    have eD : l.getD i default = g := by rw [List.getD_eq_getElem?_getD, List.getElem?_eq_getElem hi, ← hig]; rfl
    rw [eD, hgs]
    have : (decide (0 < stepsN (l.take i)) && decide (0 < stepsN (l.drop (i + 1)))) = false := by
      rw [Bool.and_eq_false_iff]
      rcases hz with hz | hz
      · left; simp; omega
      · right; simp; omega
    rw [this]
    exact Prod.ext h2 h1

/-- the fault of one part, behind some steps -/
def faultP (a : List PPart) (o : PPart) : Nat × Nat :=
  if isStepB o && a.any (twiceB o) then (o.place, 4) else match o.cond.find? (badOp o a) with | some x => (x.place, 5) | none => (0, 0)
theorem nameFP_eq (l : List PPart) (i : Nat) : nameFP l i = faultP (l.take i) (l.getD i default) := rfl
theorem any_filter {l : List PPart} {f : PPart → Bool} (h : ∀ x, f x = true → isStepB x = true) : (l.filter isStepB).any f = l.any f := by
  apply Bool.eq_iff_iff.2
  rw [List.any_eq_true, List.any_eq_true]
  constructor
  · rintro ⟨x, hx, hf⟩; exact ⟨x, (List.mem_filter.1 hx).1, hf⟩
  · rintro ⟨x, hx, hf⟩; exact ⟨x, List.mem_filter.2 ⟨hx, h x hf⟩, hf⟩
theorem fault_filter (a : List PPart) (o : PPart) : faultP a o = faultP (a.filter isStepB) o := by
  unfold faultP
  have e1 : (isStepB o && (a.filter isStepB).any (twiceB o)) = (isStepB o && a.any (twiceB o)) := by
    cases hs : isStepB o with
    | false => rfl
    | true =>
      rw [any_filter]
      intro x hx
      unfold twiceB at hx
      rw [Bool.and_eq_true, beq_iff_eq] at hx
      unfold isStepB at hs ⊢
      rw [hx.1]; exact hs
  have e2 : badOp o (a.filter isStepB) = badOp o a := by
    funext x
    unfold badOp
    cases hx : (x.name.toList == []) with
    | true => rfl
    | false =>
      rw [any_filter]
      intro y hy
      unfold namedB at hy
      rw [beq_iff_eq] at hy
      unfold isStepB
      rw [hy, hx]; rfl
  rw [e1, e2]
/-- the faults of a path, one part behind the other -/
def nfs : List PPart → List PPart → List (Nat × Nat)
  | _, [] => []
  | a, p :: r => faultP a p :: nfs (a ++ [p]) r
theorem nfs_get (a l : List PPart) (i : Nat) (hi : i < l.length) : (nfs a l)[i]? = some (faultP (a ++ l.take i) l[i]) := by
  induction l generalizing a i with
  | nil => simp at hi
  | cons p r ih =>
    cases i with
    | zero => simp [nfs]
    | succ i =>
      simp only [nfs, List.getElem?_cons_succ]
      rw [ih (a ++ [p]) i (by simpa using hi)]
      simp
theorem nfs_len (a l : List PPart) : (nfs a l).length = l.length := by
  induction l generalizing a with
  | nil => rfl
  | cons p r ih => simp [nfs, ih]
theorem nfs_mem (l : List PPart) (d : Nat × Nat) : (∃ i, i < l.length ∧ d = nameFP l i) ↔ d ∈ nfs [] l := by
  constructor
  · rintro ⟨i, hi, rfl⟩
    have := nfs_get [] l i hi
    rw [nameFP_eq, List.getD_eq_getElem?_getD, List.getElem?_eq_getElem hi]
    exact List.mem_of_getElem? this
  · intro h
    obtain ⟨i, hi, he⟩ := List.mem_iff_getElem.1 h
    rw [nfs_len] at hi
    refine ⟨i, hi, ?_⟩
    have := nfs_get [] l i hi
    rw [nameFP_eq, List.getD_eq_getElem?_getD, List.getElem?_eq_getElem hi, ← he]
    rw [List.getElem?_eq_getElem (by rw [nfs_len]; exact hi)] at this
    simpa using this
theorem nfs_guards (a gs r : List PPart) (hg : ∀ g ∈ gs, isStepB g = false) : nfs a (gs ++ r) = gs.map (faultP (a.filter isStepB)) ++ nfs (a ++ gs) r := by
  induction gs generalizing a with
  | nil => simp
  | cons g gs ih =>
    rw [List.cons_append]
    simp only [nfs]
    rw [ih (a ++ [g]) (fun x hx => hg x (by simp [hx])), fault_filter a g, List.filter_append]
    have : List.filter isStepB [g] = [] := filter_guards [g] (by intro x hx; simp at hx; subst hx; exact hg _ (by simp))
    rw [this]
    simp
/-- entry by entry -/
def efs : List PPart → List (PPart × List PPart) → List (Nat × Nat)
  | _, [] => []
  | s, e :: r => e.2.map (faultP s) ++ faultP s e.1 :: efs (s ++ [e.1]) r
theorem nfs_efs (es : List (PPart × List PPart)) (h : ∀ e ∈ es, isStepB e.1 = true ∧ ∀ g ∈ e.2, isStepB g = false) (a : List PPart) : nfs a (es.flatMap fun e => e.2 ++ [e.1]) = efs (a.filter isStepB) es := by
  induction es generalizing a with
  | nil => rfl
  | cons e es ih =>
    rw [List.flatMap_cons, List.append_assoc, nfs_guards _ _ _ (h e (by simp)).2]
    have hf : List.filter isStepB e.2 = [] := filter_guards _ (h e (by simp)).2
    show _ ++ (faultP (a ++ e.2) e.1 :: nfs (a ++ e.2 ++ [e.1]) (es.flatMap fun e => e.2 ++ [e.1])) = _
    rw [fault_filter (a ++ e.2), ih (fun e he => h e (by simp [he]))]
    simp only [List.filter_append, hf, List.append_nil]
    have : List.filter isStepB [e.1] = [e.1] := by simp [(h e (by simp)).1]
    rw [this]
    rfl
theorem Rep.det {nodes : List RNode} {k : Nat} {t t' : Nd} (h : Rep nodes k t) (h' : Rep nodes k t') : t = t' := by
  induction h generalizing t' with
  | num h1 h2 =>
    cases h' with
    | num g1 g2 => rw [h1] at g1; cases g1; rfl
    | fld g1 g2 _ => rw [h1] at g1; cases g1; rw [h2] at g2; cases g2
    | bin g1 g2 _ _ _ _ _ => rw [h1] at g1; cases g1; exact absurd h2 g2
  | fld h1 h2 h3 =>
    cases h' with
    | num g1 g2 => rw [h1] at g1; cases g1; rw [h2] at g2; cases g2
    | fld g1 g2 _ => rw [h1] at g1; cases g1; rfl
    | bin g1 g2 g3 _ _ _ _ => rw [h1] at g1; cases g1; exact absurd h2 g3
  | bin h1 h2 h3 h4 h5 _ _ i1 i2 =>
    cases h' with
    | num g1 g2 => rw [h1] at g1; cases g1; exact absurd g2 h2
    | fld g1 g2 _ => rw [h1] at g1; cases g1; exact absurd g2 h3
    | bin g1 _ _ g4 g5 g6 g7 =>
      rw [h1] at g1; cases g1
      have e1 := h4.symm.trans g4
      have e2 := h5.symm.trans g5
      have e1' := Int.ofNat.inj e1
      have e2' := Int.ofNat.inj e2
      subst e1'; subst e2'
      rw [i1 g6, i2 g7]
/-- the tree of a node -/
noncomputable def treeOf (nodes : List RNode) (c : Int) : Nd := open Classical in if h : ∃ t, Rep nodes c.toNat t then h.choose else .num 0
theorem treeOf_eq {nodes : List RNode} {k : Nat} {t : Nd} (h : Rep nodes k t) : treeOf nodes k = t := by
  unfold treeOf
  have hex : ∃ t, Rep nodes ((k : Nat) : Int).toNat t := ⟨t, h⟩
  rw [dif_pos hex]
  exact (hex.choose_spec).det h
/-- the first name that is not known -/
theorem unknown_find (known : List ByteArray) {b : Bool} {t : Nd} {l : List POp} (h : PostR b t l) : ∀ {lo hi : Nat}, OpsIn lo hi l →
    t.unknown known = (match l.find? (fun o => !(o.name.toList == []) && !(known.any fun k => k.toList == o.name.toList)) with | some o => (o.place : Int) | none => -1) ∧
    (∀ o, l.find? (fun o => !(o.name.toList == []) && !(known.any fun k => k.toList == o.name.toList)) = some o → lo ≤ o.place ∧ o.place < hi) := by
  generalize hP : (fun o : POp => !(o.name.toList == []) && !(known.any fun k => k.toList == o.name.toList)) = P
  have noname : ∀ (a : ByteArray) (n p : Nat), P ⟨a, n, ⟨#[]⟩, p⟩ = false := by intro a n p; subst hP; simp [mt_list]
  have bin : ∀ {op : ByteArray} {a b : Nd} {la lb : List POp} {lo hi : Nat}, (∀ {lo hi : Nat}, OpsIn lo hi la → a.unknown known = (match la.find? P with | some o => (o.place : Int) | none => -1) ∧ ∀ o, la.find? P = some o → lo ≤ o.place ∧ o.place < hi) →
      (∀ {lo hi : Nat}, OpsIn lo hi lb → b.unknown known = (match lb.find? P with | some o => (o.place : Int) | none => -1) ∧ ∀ o, lb.find? P = some o → lo ≤ o.place ∧ o.place < hi) → OpsIn lo hi (la ++ lb ++ [⟨op, 0, ⟨#[]⟩, 0⟩]) →
      (Nd.bin op a b).unknown known = (match (la ++ lb ++ [(⟨op, 0, ⟨#[]⟩, 0⟩ : POp)]).find? P with | some o => (o.place : Int) | none => -1) ∧ ∀ o, (la ++ lb ++ [(⟨op, 0, ⟨#[]⟩, 0⟩ : POp)]).find? P = some o → lo ≤ o.place ∧ o.place < hi := by
    intro op a b la lb lo hi iha ihb ho
    obtain ⟨m, h1, h2⟩ := ho.split
    obtain ⟨m', h3, h4⟩ := h1.split
    have hm := h2.le
    have hm2 := h3.le
    have hm3 := h4.le
    obtain ⟨a1, a2⟩ := iha h3
    obtain ⟨b1, b2⟩ := ihb h4
    rw [List.find?_append, List.find?_append]
    have e0 : List.find? P [⟨op, 0, ⟨#[]⟩, 0⟩] = none := by simp [List.find?_cons, noname]
    rw [e0]
    unfold Nd.unknown
    rw [a1, b1]
    cases ha : la.find? P with
    | some o =>
      have ha2 := a2 o ha
      cases hb : lb.find? P with
      | some o' =>
        have hb2 := b2 o' hb
        simp only [Option.some_or]
        rw [if_neg (by omega)]
        exact ⟨rfl, fun x hx => by cases hx; omega⟩
      | none =>
        simp only [Option.some_or]
        rw [if_neg (by omega)]
        exact ⟨rfl, fun x hx => by cases hx; omega⟩
    | none =>
      cases hb : lb.find? P with
      | some o' =>
        have hb2 := b2 o' hb
        simp only [Option.none_or, Option.some_or]
        rw [if_pos (by omega)]
        exact ⟨rfl, fun x hx => by cases hx; omega⟩
      | none =>
        simp only [Option.none_or]
        rw [if_pos (by omega)]
        exact ⟨rfl, fun x hx => by cases hx⟩
  induction h with
  | num n => intro lo hi _; simp [Nd.unknown, List.find?_cons, noname]
  | @fld name field pos place hf hp =>
    intro lo hi ho
    unfold OpsIn at ho
    unfold Nd.unknown
    simp only [List.find?_cons, List.find?_nil]
    by_cases hn : name.toList = []
    · have : P ⟨field, 0, name, place⟩ = false := by subst hP; simp [hn]
      rw [this]
      simp [hn]
    · simp only at ho
      rw [if_neg hn] at ho
      have h2 : place + 1 ≤ hi := ho.2
      have e := hp hn
      have hPe : P ⟨field, 0, name, place⟩ = !(known.any fun k => k.toList == name.toList) := by
        subst hP
        have : (name.toList == []) = false := beq_eq_false_iff_ne.2 hn
        simp only [this]; rfl
      rw [hPe]
      have hie : name.toList.isEmpty = false := by cases hl : name.toList with | nil => exact absurd hl hn | cons _ _ => rfl
      rw [hie]
      cases hk : known.any fun k => k.toList == name.toList with
      | true => simp
      | false => simp; omega
  | @neg t l h ih =>
    intro lo hi ho
    obtain ⟨m, h1, h2⟩ := ho.split
    have hm := h2.le
    obtain ⟨a1, a2⟩ := ih h1
    rw [List.find?_append]
    have e0 : List.find? P [⟨tOpp, 0, ⟨#[]⟩, 0⟩] = none := by simp [List.find?_cons, noname]
    rw [e0, Option.or_none]
    have eu : (Nd.bin tMinus (.num 0) t).unknown known = t.unknown known := by simp [Nd.unknown]
    rw [eu]
    exact ⟨a1, fun o h => by have := a2 o h; omega⟩
  | ari _ _ _ iha ihb => intro lo hi ho; exact bin iha ihb ho
  | tst _ _ _ iha ihb => intro lo hi ho; exact bin iha ihb ho
  | log _ _ _ iha ihb => intro lo hi ho; exact bin iha ihb ho
theorem unknown_places (known : List ByteArray) (t : Nd) (h : 0 ≤ t.unknown known) : t.unknown known ∈ t.places := by
  induction t with
  | num n => simp [Nd.unknown] at h
  | fld name field pos =>
    unfold Nd.unknown at h ⊢
    unfold Nd.places
    by_cases hn : name.toList = []
    · simp [hn] at h
    · rw [if_neg hn]
      split at h
      · omega
      · rename_i hc; rw [if_neg hc]; simp
  | bin op a b iha ihb =>
    unfold Nd.unknown at h ⊢
    unfold Nd.places
    split at h
    · rename_i hc; rw [if_pos hc]; exact List.mem_append_right _ (ihb h)
    · rename_i hc; rw [if_neg hc]; exact List.mem_append_left _ (iha h)
end Go.Proofs.YtddbjcfdmdbmkaaGreatDoor

/-
  Both readers, plain: .
-/
namespace Go.Proofs.YtddbjcfdmdbmkaaGreatDoor
open Go.RowKit

def xOf (parts : List RPart) (j : Nat) : RPart := parts[j]?.getD ⟨0, false, mt, 0, 0, -1, []⟩
noncomputable def unkU (nodes : List RNode) (c : Int) (known : List ByteArray) : Int := if c < 0 then -1 else (treeOf nodes c).unknown known
def knownOf (parts : List RPart) (prev : List Nat) : List ByteArray := prev.map fun k => (xOf parts k).name
noncomputable def candG (nodes : List RNode) (parts : List RPart) (prev : List Nat) (g : Nat) : Int × Nat := (unkU nodes (xOf parts g).cond (knownOf parts prev), 5)
def candT (parts : List RPart) (j k : Nat) : Int × Nat := (if ((xOf parts k).name.toList == (xOf parts j).name.toList && !(k == j)) = true then (xOf parts j).pos else -1, 4)
/-- the document's faults of a path, step by step -/
noncomputable def candS (nodes : List RNode) (parts : List RPart) (prev : List Nat) (e : Nat × List Nat) : List (Int × Nat) :=
  e.2.map (candG nodes parts prev) ++ (prev.map (candT parts e.1) ++ [candG nodes parts (prev ++ [e.1]) e.1])
noncomputable def cands (nodes : List RNode) (parts : List RPart) : List Nat → List (Nat × List Nat) → List (Int × Nat)
  | _, [] => []
  | prev, e :: r => candS nodes parts prev e ++ cands nodes parts (prev ++ [e.1]) r
/-- what check tells -/
noncomputable def checkF (nodes : List RNode) (parts : List RPart) (es : List (Nat × List Nat)) : Int × Nat := (cands nodes parts [] es).foldl upd (-1, 0)

theorem xOf_eq {parts : List RPart} {j : Nat} {x : RPart} (h : parts[j]? = some x) : xOf parts j = x := by unfold xOf; rw [h]; rfl
theorem known_rel {nodes : List RNode} {parts : List RPart} {prev' : List Nat} {prev : List PPart} (h : Pw (LeafJ nodes parts) prev' prev) : knownOf parts prev' = prev.map PPart.name := by
  induction h with
  | nil => rfl
  | cons h1 _ ih =>
    obtain ⟨x, hx, L⟩ := h1
    unfold knownOf at *
    rw [List.map_cons, List.map_cons, ih, xOf_eq hx, L.name]
/-- a condition's first fault -/
theorem cond_cand {nodes : List RNode} {x : RPart} {p : PPart} (L : LeafR nodes x p) (known : List ByteArray) :
    unkU nodes x.cond known = (match p.cond.find? (fun o => !(o.name.toList == []) && !(known.any fun k => k.toList == o.name.toList)) with | some o => (o.place : Int) | none => -1) ∧
    (∀ o, p.cond.find? (fun o => !(o.name.toList == []) && !(known.any fun k => k.toList == o.name.toList)) = some o → p.place < o.place) ∧
    (0 ≤ unkU nodes x.cond known → ∃ (k : Nat) (t : Nd), x.cond = k ∧ Rep nodes k t ∧ unkU nodes x.cond known ∈ t.places) := by
  rcases L.cond with ⟨h1, h2⟩ | ⟨k, t, h1, h2, h3⟩
  · rw [h1, h2]; unfold unkU; simp
  · obtain ⟨hi, ho⟩ := L.ops
    obtain ⟨f1, f2⟩ := unknown_find known h3 ho
    have e : unkU nodes x.cond known = t.unknown known := by unfold unkU; rw [h1, if_neg (by omega), treeOf_eq h2]
    rw [e]
    refine ⟨f1, fun o h => ?_, fun h => ⟨k, t, h1, h2, unknown_places known t h⟩⟩
    have := f2 o h; omega
theorem named_known (prev : List PPart) (nm : ByteArray) : prev.any (namedB nm) = (prev.map PPart.name).any (fun k => k.toList == nm.toList) := by
  rw [List.any_map]; rfl
theorem badOp_guard {p : PPart} (hp : p.name.toList = []) (prev : List PPart) : badOp p prev = fun o => !(o.name.toList == []) && !((prev.map PPart.name).any fun k => k.toList == o.name.toList) := by
  funext o
  unfold badOp
  rw [named_known, hp]
  cases (o.name.toList == []) <;> simp
theorem badOp_step (p : PPart) (prev : List PPart) : badOp p prev = fun o => !(o.name.toList == []) && !(((prev ++ [p]).map PPart.name).any fun k => k.toList == o.name.toList) := by
  funext o
  unfold badOp
  rw [named_known, List.map_append, List.any_append]
  simp only [List.map_cons, List.map_nil, List.any_cons, List.any_nil, Bool.or_false]
  rw [beq_comm' p.name.toList o.name.toList]
  cases (o.name.toList == []) <;> cases (o.name.toList == p.name.toList) <;> simp
def Inc (parts : List RPart) : Prop := ∀ (i j : Nat) (x y : RPart), parts[i]? = some x → parts[j]? = some y → x.ways = [] → y.ways = [] → i < j → x.pos < y.pos
theorem twice_cand {nodes : List RNode} {parts : List RPart} (hinc : Inc parts) {j k : Nat} {p q : PPart} (hj : LeafJ nodes parts j p) (hk : LeafJ nodes parts k q) : candT parts j k = (if twiceB p q then (p.place : Int) else -1, 4) := by
  obtain ⟨x, hx, L⟩ := hj
  obtain ⟨y, hy, M⟩ := hk
  unfold candT
  rw [xOf_eq hx, xOf_eq hy, M.name, L.name, L.pos]
  have : (k == j) = (q.place == p.place) := by
    apply Bool.eq_iff_iff.2
    rw [beq_iff_eq, beq_iff_eq]
    constructor
    · rintro rfl
      rw [hx] at hy; cases hy
      have a := L.pos; have b := M.pos; omega
    · intro e
      have a := L.pos; have b := M.pos
      rcases Nat.lt_trichotomy k j with h | h | h
      · have := hinc k j y x hy hx M.ways L.ways h; omega
      · exact h
      · have := hinc j k x y hx hy L.ways M.ways h; omega
  rw [this]
  rfl
/-- What is said of a candidate. -/
def CandOK (nodes : List RNode) (parts : List RPart) (c : Int × Nat) : Prop :=
  (c.2 = 4 ∧ ∃ (j : Nat) (x : RPart), parts[j]? = some x ∧ x.ways = [] ∧ c.1 = x.pos) ∨ (c.2 = 5 ∧ ∃ (j : Nat) (x : RPart) (k : Nat) (t : Nd), parts[j]? = some x ∧ x.ways = [] ∧ x.cond = k ∧ Rep nodes k t ∧ c.1 ∈ t.places)
theorem cand_rel {nodes : List RNode} {parts : List RPart} (hinc : Inc parts) {es' : List (Nat × List Nat)} {es : List (PPart × List PPart)} (h : Pw (StepR nodes parts) es' es) : ∀ (prev' : List Nat) (prev : List PPart), Pw (LeafJ nodes parts) prev' prev → (∀ e ∈ es, isStepB e.1 = true ∧ ∀ g ∈ e.2, isStepB g = false) →
    (∀ d ∈ efs prev es, d.2 ≠ 0 → ((d.1 : Int), d.2) ∈ cands nodes parts prev' es') ∧ (∀ c ∈ cands nodes parts prev' es', 0 ≤ c.1 → (∃ d ∈ efs prev es, d.2 ≠ 0 ∧ (d.1 : Int) ≤ c.1) ∧ CandOK nodes parts c) := by
  induction h with
  | nil => intro _ _ _ _; exact ⟨by simp [efs], by simp [cands]⟩
  | @cons e' e es' es h1 _ ih =>
    intro prev' prev hp hst
    obtain ⟨hs, hg⟩ := hst e (by simp)
    obtain ⟨hj, hgs⟩ := h1
    obtain ⟨i1, i2⟩ := ih (prev' ++ [e'.1]) (prev ++ [e.1]) (hp.app (.cons hj .nil)) (fun x hx => hst x (by simp [hx]))
    have hk := known_rel hp
    have hk2 := known_rel (hp.app (.cons hj .nil))
    -- the guards
    have hG : (∀ d ∈ e.2.map (faultP prev), d.2 ≠ 0 → ((d.1 : Int), d.2) ∈ e'.2.map (candG nodes parts prev')) ∧ (∀ c ∈ e'.2.map (candG nodes parts prev'), 0 ≤ c.1 → (∃ d ∈ e.2.map (faultP prev), d.2 ≠ 0 ∧ (d.1 : Int) ≤ c.1) ∧ CandOK nodes parts c) := by
      have hgg := hg
      clear i1 i2 ih
      generalize e'.2 = gs' at hgs
      generalize e.2 = gs at hgs hgg
      induction hgs with
      | nil => exact ⟨by simp, by simp⟩
      | @cons g' g gs' gs hgl _ ihg =>
        obtain ⟨q1, q2⟩ := ihg (fun x hx => hgg x (by simp [hx]))
        obtain ⟨x, hx, L⟩ := hgl
        have hgn : isStepB g = false := hgg g (by simp)
        have hnm : g.name.toList = [] := by unfold isStepB at hgn; simpa using hgn
        obtain ⟨c1, c2, c3⟩ := cond_cand L (prev.map PPart.name)
        have ec : candG nodes parts prev' g' = (unkU nodes x.cond (prev.map PPart.name), 5) := by unfold candG; rw [xOf_eq hx, hk]
        have ef : faultP prev g = (match g.cond.find? (fun o => !(o.name.toList == []) && !((prev.map PPart.name).any fun k => k.toList == o.name.toList)) with | some x => (x.place, 5) | none => (0, 0)) := by
          unfold faultP
          rw [hgn, badOp_guard hnm]
          rfl
        simp only [List.map_cons, List.mem_cons]
        constructor
        · rintro d (rfl | hd) h0
          · left
            rw [ec, c1]
            rw [ef] at h0 ⊢
            cases hf : g.cond.find? (fun o => !(o.name.toList == []) && !((prev.map PPart.name).any fun k => k.toList == o.name.toList)) with
            | none => rw [hf] at h0; simp at h0
            | some o => simp
          · right; exact q1 d hd h0
        · rintro c (rfl | hc) h0
          · rw [ec] at h0 ⊢
            refine ⟨⟨faultP prev g, .inl rfl, ?_⟩, .inr ⟨rfl, ?_⟩⟩
            · rw [ef]
              simp only at h0
              rw [c1] at h0 ⊢
              cases hf : g.cond.find? (fun o => !(o.name.toList == []) && !((prev.map PPart.name).any fun k => k.toList == o.name.toList)) with
              | none => rw [hf] at h0; simp at h0
              | some o => simp
            · obtain ⟨k, t, h1, h2, h3⟩ := c3 h0
              exact ⟨g', x, k, t, hx, L.ways, h1, h2, h3⟩
          · obtain ⟨⟨d, hd, h2⟩, h3⟩ := q2 c hc h0
            exact ⟨⟨d, .inr hd, h2⟩, h3⟩
    -- the name itself
    have hT : ∀ c ∈ prev'.map (candT parts e'.1), 0 ≤ c.1 → (prev.any (twiceB e.1) = true ∧ c = ((e.1.place : Int), 4)) := by
      clear i1 i2 ih hk hk2 hG
      induction hp with
      | nil => simp
      | @cons k q prev' prev hq _ ihp =>
        intro c hc h0
        rw [List.map_cons, List.mem_cons] at hc
        rw [List.any_cons]
        rcases hc with rfl | hc
        · rw [twice_cand hinc hj hq] at h0 ⊢
          cases ht : twiceB e.1 q with
          | true => simp
          | false => rw [ht] at h0; simp at h0
        · obtain ⟨a, b⟩ := ihp c hc h0
          exact ⟨by rw [a]; simp, b⟩
    have hT2 : prev.any (twiceB e.1) = true → ((e.1.place : Int), 4) ∈ prev'.map (candT parts e'.1) := by
      clear i1 i2 ih hk hk2 hG hT
      induction hp with
      | nil => simp
      | @cons k q prev' prev hq _ ihp =>
        rw [List.any_cons, Bool.or_eq_true, List.map_cons, List.mem_cons]
        rintro (h | h)
        · left; rw [twice_cand hinc hj hq, h]; rfl
        · right; exact ihp h
    obtain ⟨x, hx, L⟩ := hj
    obtain ⟨c1, c2, c3⟩ := cond_cand L ((prev ++ [e.1]).map PPart.name)
    have ec : candG nodes parts (prev' ++ [e'.1]) e'.1 = (unkU nodes x.cond ((prev ++ [e.1]).map PPart.name), 5) := by unfold candG; rw [xOf_eq hx, hk2]
    have ef : faultP prev e.1 = if prev.any (twiceB e.1) = true then (e.1.place, 4) else (match e.1.cond.find? (fun o => !(o.name.toList == []) && !(((prev ++ [e.1]).map PPart.name).any fun k => k.toList == o.name.toList)) with | some x => (x.place, 5) | none => (0, 0)) := by
      unfold faultP
      rw [hs, badOp_step, Bool.true_and]
      all_goals rfl
    constructor
    · intro d hd h0
      show _ ∈ candS nodes parts prev' e' ++ _
      unfold efs at hd
      unfold candS
      rcases List.mem_append.1 hd with hd | hd
      · exact List.mem_append_left _ (List.mem_append_left _ (hG.1 d hd h0))
      · rcases List.mem_cons.1 hd with rfl | hd
        · apply List.mem_append_left; apply List.mem_append_right
          rw [ef] at h0 ⊢
          by_cases ht : prev.any (twiceB e.1) = true
          · rw [if_pos ht]; exact List.mem_append_left _ (hT2 ht)
          · rw [if_neg ht] at h0 ⊢
            apply List.mem_append_right
            rw [List.mem_singleton, ec, c1]
            cases hf : e.1.cond.find? (fun o => !(o.name.toList == []) && !(((prev ++ [e.1]).map PPart.name).any fun k => k.toList == o.name.toList)) with
            | none => rw [hf] at h0; simp at h0
            | some o => simp
        · exact List.mem_append_right _ (i1 d hd h0)
    · intro c hc h0
      have hc' : c ∈ candS nodes parts prev' e' ++ cands nodes parts (prev' ++ [e'.1]) es' := hc
      show (∃ d ∈ e.2.map (faultP prev) ++ faultP prev e.1 :: efs (prev ++ [e.1]) es, _) ∧ _
      unfold candS at hc'
      rcases List.mem_append.1 hc' with hc' | hc'
      · rcases List.mem_append.1 hc' with hc' | hc'
        · obtain ⟨⟨d, hd, h2⟩, h3⟩ := hG.2 c hc' h0
          exact ⟨⟨d, List.mem_append_left _ hd, h2⟩, h3⟩
        · rcases List.mem_append.1 hc' with hc' | hc'
          · obtain ⟨ht, rfl⟩ := hT c hc' h0
            refine ⟨⟨faultP prev e.1, List.mem_append_right _ (by simp), ?_⟩, .inl ⟨rfl, e'.1, x, hx, L.ways, L.pos.symm⟩⟩
            rw [ef, if_pos ht]; simp
          · rw [List.mem_singleton, ec] at hc'
            subst hc'
            refine ⟨⟨faultP prev e.1, List.mem_append_right _ (by simp), ?_⟩, .inr ⟨rfl, ?_⟩⟩
            · rw [ef]
              simp only at h0
              rw [c1] at h0 ⊢
              cases hf : e.1.cond.find? (fun o => !(o.name.toList == []) && !(((prev ++ [e.1]).map PPart.name).any fun k => k.toList == o.name.toList)) with
              | none => rw [hf] at h0; simp at h0
              | some o =>
                have := c2 o hf
                by_cases ht : prev.any (twiceB e.1) = true
                · rw [if_pos ht]; refine ⟨by simp, ?_⟩; simp only; omega
                · rw [if_neg ht]; simp
            · obtain ⟨k, t, h1, h2, h3⟩ := c3 h0
              exact ⟨e'.1, x, k, t, hx, L.ways, h1, h2, h3⟩
      · obtain ⟨⟨d, hd, h2⟩, h3⟩ := i2 c hc' h0
        exact ⟨⟨d, List.mem_append_right _ (List.mem_cons_of_mem _ hd), h2⟩, h3⟩
theorem cand_kind {τ : PSt} {hi : Nat} (hP : PInv τ hi) {c c' : Int × Nat} (h : CandOK τ.nodes τ.parts c) (h' : CandOK τ.nodes τ.parts c') (e : c.1 = c'.1) : c.2 = c'.2 := by
  have key : ∀ (j : Nat) (x : RPart) (i : Nat) (y : RPart) (k : Nat) (t : Nd) (q : Int), τ.parts[j]? = some x → x.ways = [] → τ.parts[i]? = some y → y.ways = [] → y.cond = k → Rep τ.nodes k t → q ∈ t.places → x.pos ≠ q := by
    intro j x i y k t q hx hxw hy hyw hyc hr hq
    rcases hP.cnd i y hy hyw with e | ⟨k2, t2, h1, h2, h3⟩
    · rw [hyc] at e; omega
    · rw [hyc] at h1
      have := Int.ofNat.inj h1
      subst this
      have := hr.det h2
      subst this
      obtain ⟨a, _, b⟩ := h3 q hq
      rcases Nat.lt_trichotomy i j with h | h | h
      · have := b j x h hx hxw; omega
      · subst h; rw [hx] at hy; cases hy; omega
      · have := hP.inc j i x y hx hy hxw hyw h; omega
  rcases h with ⟨h1, j, x, hx, hw, he⟩ | ⟨h1, j, x, k, t, hx, hw, hc, hr, hm⟩
  · rcases h' with ⟨h1', _⟩ | ⟨h1', j', x', k', t', hx', hw', hc', hr', hm'⟩
    · rw [h1, h1']
    · exact absurd (he.symm.trans e) (key j x j' x' k' t' c'.1 hx hw hx' hw' hc' hr' hm')
  · rcases h' with ⟨h1', j', x', hx', hw', he'⟩ | ⟨h1', _⟩
    · exact absurd (he'.symm.trans e.symm) (key j' x' j x k t c.1 hx' hw' hx hw hc hr hm)
    · rw [h1, h1']
end Go.Proofs.YtddbjcfdmdbmkaaGreatDoor

/-
  Both readers, plain: .
-/
namespace Go.Proofs.YtddbjcfdmdbmkaaGreatDoor
open Go.RowKit

/-- how many ways there are to take one up to m out of n -/
def sumCho (n : Nat) : Nat → Nat
  | 0 => 0
  | m + 1 => sumCho n m + cho n (m + 1)
theorem sum_most : ((List.range 13).all fun r => (List.range 8).all fun m => sumCho r m == (mostAcc r m).1) = true := by kernel_rfl
theorem sumCho_most {r m : Nat} (hr : r ≤ 12) (hm : m ≤ 7) : sumCho r m = (mostAcc r m).1 := by
  have := List.all_eq_true.1 sum_most r (List.mem_range.2 (by omega))
  have := List.all_eq_true.1 this m (List.mem_range.2 (by omega))
  simpa using this
/-- what Compile tells, behind Read: how many runs, and the paths; or the place and the error -/
noncomputable def compF (τ : PSt) (out : List Nat) : (Nat × List (List (Nat × List Nat))) ⊕ (Int × Nat) :=
  if 16 < (sizeF τ.parts τ.parts.length out).1 ∨ 8 < (sizeF τ.parts τ.parts.length out).2 then .inr (0, 6)
  else if 0 ≤ ((waysF τ.parts τ.parts.length out).foldl (fun a r => upd a ((pathF τ.parts r).2, 1)) (-1, 0)).1 then .inr (((waysF τ.parts τ.parts.length out).foldl (fun a r => upd a ((pathF τ.parts r).2, 1)) (-1, 0)).1, 1)
  else if 0 ≤ ((waysF τ.parts τ.parts.length out).foldl (fun a r => upd a (checkF τ.nodes τ.parts (pathF τ.parts r).1)) (-1, 0)).1 then .inr ((waysF τ.parts τ.parts.length out).foldl (fun a r => upd a (checkF τ.nodes τ.parts (pathF τ.parts r).1)) (-1, 0))
  else if 4000 < ((waysF τ.parts τ.parts.length out).map fun r => sumCho τ.rate.toNat ((pathF τ.parts r).1.length - 1)).sum then .inr (0, 6)
  else .inl (((waysF τ.parts τ.parts.length out).map fun r => sumCho τ.rate.toNat ((pathF τ.parts r).1.length - 1)).sum, (waysF τ.parts τ.parts.length out).map fun r => (pathF τ.parts r).1)

theorem IsMin.kind {S : Int → Prop} {w : Int} (k : Nat) (h : IsMin (fun c => c.2 = 0 ∧ S c.1) (w, 0)) : IsMin (fun c => c.2 = k ∧ S c.1) (w, k) := by
  rcases h with ⟨h1, h2⟩ | ⟨h1, ⟨_, h2⟩, h3⟩
  · exact .inl ⟨h1, fun c hc => h2 (c.1, 0) ⟨rfl, hc.2⟩⟩
  · exact .inr ⟨h1, ⟨rfl, h2⟩, fun c hc h0 => h3 (c.1, 0) ⟨rfl, hc.2⟩ h0⟩
theorem fold_union {α β : Type} {r : α → β → Prop} {l : List α} {m : List β} (h : Pw r l m) (f : α → Int × Nat) (D : β → Int × Nat → Prop) (hf : ∀ a b, r a b → IsMin (D b) (f a)) : ∀ (C : Int × Nat → Prop) (z : Int × Nat), IsMin C z → IsMin (fun c => C c ∨ ∃ b ∈ m, D b c) (l.foldl (fun a r => upd a (f r)) z) := by
  induction h with
  | nil => intro C z h; exact h.congr (by simp)
  | @cons a b l m h1 _ ih =>
    intro C z hz
    rw [List.foldl_cons]
    refine (ih _ _ (upd_min2 hz (hf a b h1))).congr (fun c => ?_)
    simp only [List.mem_cons, exists_eq_or_imp, or_assoc]
theorem sum_pw {α β : Type} {r : α → β → Prop} {l : List α} {m : List β} (h : Pw r l m) (f : α → Nat) (g : β → Nat) (hf : ∀ a b, a ∈ l → b ∈ m → r a b → f a = g b) : (l.map f).sum = (m.map g).sum := by
  induction h with
  | nil => rfl
  | cons h1 _ ih => rw [List.map_cons, List.map_cons, List.sum_cons, List.sum_cons, hf _ _ (by simp) (by simp) h1, ih (fun a b ha hb => hf a b (by simp [ha]) (by simp [hb]))]

/-- Both tell the same of what was read. -/
theorem comp_rel {τ : PSt} {hi n : Nat} {out : List Nat} {pat : PPat} (hP : PInv τ hi) (hS : SeqR (PR τ.nodes τ.parts n) out pat.body) (hN : ∀ j ∈ out, j < τ.parts.length) (hr : τ.rate = pat.rate) (hr12 : pat.rate ≤ 12) (hsw : SW (n + 1) pat.body) (hbnd : bnd (n + 1) pat.body ≤ 100000) :
    match makeP (n + 1) pat with
    | .inr (p, e) => compF τ out = .inr ((p : Int), e)
    | .inl (bd, ps) => ∃ q, compF τ out = .inl (bd, q) ∧ Pw (fun es' path => Pw (StepR τ.nodes τ.parts) es' (wfold path).1) q ps ∧ ∀ path ∈ ps, (wfold path).2 = [] := by
  have hbig := big_agree hP.lt hS hN
  unfold makeP compF
  by_cases hb : isBigP (n + 1) pat.body = true
  · rw [if_pos hb]
    rw [hb] at hbig
    rw [if_pos (by have := hbig.symm; simpa using this)]
    rfl
  · rw [if_neg hb]
    have hb' : isBigP (n + 1) pat.body = false := Bool.eq_false_iff.2 hb
    rw [hb'] at hbig
    have hnb : ¬ (16 < (sizeF τ.parts τ.parts.length out).1 ∨ 8 < (sizeF τ.parts τ.parts.length out).2) := by
      have := hbig.symm
      simp only [Bool.or_eq_false_iff, decide_eq_false_iff_not] at this
      omega
    rw [if_neg hnb]
    have hsz : (sizeP (n + 1) pat.body).1 ≤ 16 ∧ (sizeP (n + 1) pat.body).2 ≤ 8 := by
      unfold isBigP at hb'
      simp only [Bool.or_eq_false_iff, decide_eq_false_iff_not] at hb'
      omega
    have hwf := sw_wf (n + 1) pat.body hsw hsz.1 hbnd
    have hsteps := seq_steps (n + 1) pat.body hwf
    have W := ways_rel hP.lt n τ.parts.length out pat.body hS.pw hN
    generalize waysF τ.parts τ.parts.length out = rows at W
    generalize ofSeqP (n + 1) pat.body = ps at W hsteps
    -- guards
    have G1 := fold_union W (fun r => ((pathF τ.parts r).2, 1)) (fun path c => c.2 = 1 ∧ ∃ g ∈ headG (wfold path) ++ (wfold path).2, c.1 = (g.place : Int)) (fun row path h => (path_rel h).2.kind (S := fun z => ∃ g ∈ headG (wfold path) ++ (wfold path).2, z = (g.place : Int)) 1) (fun _ => False) (-1, 0) min_nil
    have G2 := firstFP_min guardFP ps
    have G := min_same G1 G2 (fun d hd h0 => by
        obtain ⟨l, hl, hi⟩ := hd
        obtain ⟨h1, g, hg, h2⟩ := (guards_rel l d h0).1 hi
        exact .inr ⟨l, hl, h1, g, hg, by simp only; rw [h2]⟩)
      (fun c hc h0 => by
        rcases hc with hc | ⟨l, hl, h1, g, hg, h2⟩
        · exact hc.elim
        · exact ⟨(g.place, 1), ⟨l, hl, (guards_rel l (g.place, 1) (by simp)).2 ⟨rfl, g, hg, rfl⟩⟩, by simp, by simp only; omega⟩)
      (fun c c' hc hc' _ _ => by
        rcases hc with hc | ⟨_, _, h1, _⟩
        · exact hc.elim
        · rcases hc' with hc' | ⟨_, _, h1', _⟩
          · exact hc'.elim
          · rw [h1, h1'])
    generalize rows.foldl (fun a r => upd a ((pathF τ.parts r).2, 1)) (-1, 0) = R1 at G
    rcases G with ⟨g1, g2⟩ | ⟨g1, g2, g3⟩
    · rw [if_neg (show ¬ (firstFP guardFP ps).2 ≠ 0 by omega), if_neg (show ¬ 0 ≤ R1.1 by omega)]
      have hnone : ∀ path ∈ ps, headG (wfold path) ++ (wfold path).2 = [] := by
        intro path hp
        cases he : headG (wfold path) ++ (wfold path).2 with
        | nil => rfl
        | cons g gs =>
          exfalso
          obtain ⟨i, hi, hd⟩ := (guards_rel path (g.place, 1) (by simp)).2 ⟨rfl, g, by rw [he]; simp, rfl⟩
          have := firstFP_none g2 path hp i hi
          rw [← hd] at this; simp at this
      have hleft : ∀ path ∈ ps, (wfold path).2 = [] := fun path hp => (List.append_eq_nil_iff.1 (hnone path hp)).2
      -- names
      have hE : ∀ path ∈ ps, ∀ d, (∃ i, i < path.length ∧ d = nameFP path i) ↔ d ∈ efs [] (wfold path).1 := by
        intro path hp d
        rw [nfs_mem]
        have hw := wfold_spec path
        have e : path = (wfold path).1.flatMap (fun e => e.2 ++ [e.1]) := by have := hw.eq; rw [hleft path hp, List.append_nil] at this; exact this
        have := nfs_efs (wfold path).1 hw.steps []
        rw [← e] at this
        rw [this]; rfl
      have hC : ∀ row path, RowR τ.nodes τ.parts row path → IsMin (fun c => ∃ es', es' = (pathF τ.parts row).1 ∧ c ∈ cands τ.nodes τ.parts [] es') (checkF τ.nodes τ.parts (pathF τ.parts row).1) := fun row path _ => (fold_min0 _).congr (by simp)
      have N1 : IsMin (fun c => ∃ row ∈ rows, c ∈ cands τ.nodes τ.parts [] (pathF τ.parts row).1) (rows.foldl (fun a r => upd a (checkF τ.nodes τ.parts (pathF τ.parts r).1)) (-1, 0)) := by
        have hself : Pw (fun a b : List Nat => a = b) rows rows := by
          clear W G1 hC
          induction rows with
          | nil => exact .nil
          | cons a l ih => exact .cons rfl ih
        exact (fold_union hself (fun r => checkF τ.nodes τ.parts (pathF τ.parts r).1) (fun row c => c ∈ cands τ.nodes τ.parts [] (pathF τ.parts row).1) (fun a b e => by rw [e]; exact fold_min0 _) (fun _ => False) (-1, 0) min_nil).congr (by simp)
      have N2 := firstFP_min nameFP ps
      have hcr : ∀ row path, RowR τ.nodes τ.parts row path → _ := fun row path h => cand_rel hP.inc (path_rel h).1 [] [] .nil (wfold_spec path).steps
      have hpairs : ∀ path ∈ ps, ∃ row ∈ rows, RowR τ.nodes τ.parts row path := by
        clear hcr N1 N2 hC hE hleft hnone G2 G1 hsteps g2
        induction W with
        | nil => simp
        | cons h1 _ ih =>
          intro path hp
          rcases List.mem_cons.1 hp with rfl | hp
          · exact ⟨_, by simp, h1⟩
          · obtain ⟨row, h, h'⟩ := ih path hp
            exact ⟨row, by simp [h], h'⟩
      have hpairs2 : ∀ row ∈ rows, ∃ path ∈ ps, RowR τ.nodes τ.parts row path := by
        clear hcr N1 N2 hC hE hleft hnone G2 G1 hsteps g2 hpairs
        induction W with
        | nil => simp
        | cons h1 _ ih =>
          intro path hp
          rcases List.mem_cons.1 hp with rfl | hp
          · exact ⟨_, by simp, h1⟩
          · obtain ⟨row, h, h'⟩ := ih path hp
            exact ⟨row, by simp [h], h'⟩
      have Nn := min_same N1 N2 (fun d hd h0 => by
          obtain ⟨path, hp, hi⟩ := hd
          obtain ⟨row, hrow, hR⟩ := hpairs path hp
          exact ⟨row, hrow, (hcr row path hR).1 d ((hE path hp d).1 hi) h0⟩)
        (fun c hc h0 => by
          obtain ⟨row, hrow, hc⟩ := hc
          obtain ⟨path, hp, hR⟩ := hpairs2 row hrow
          obtain ⟨⟨d, hd, h1, h2⟩, _⟩ := (hcr row path hR).2 c hc h0
          exact ⟨d, ⟨path, hp, (hE path hp d).2 hd⟩, h1, h2⟩)
        (fun c c' hc hc' h0 he => by
          obtain ⟨row, hrow, hc⟩ := hc
          obtain ⟨path, hp, hR⟩ := hpairs2 row hrow
          obtain ⟨row', hrow', hc'⟩ := hc'
          obtain ⟨path', hp', hR'⟩ := hpairs2 row' hrow'
          exact cand_kind hP ((hcr row path hR).2 c hc h0).2 ((hcr row' path' hR').2 c' hc' (by omega)).2 he)
      generalize rows.foldl (fun a r => upd a (checkF τ.nodes τ.parts (pathF τ.parts r).1)) (-1, 0) = R2 at Nn
      rcases Nn with ⟨n1, n2⟩ | ⟨n1, n2, n3⟩
      · rw [if_neg (show ¬ (firstFP nameFP ps).2 ≠ 0 by omega), if_neg (show ¬ 0 ≤ R2.1 by omega)]
        have hsum : (rows.map fun r => sumCho τ.rate.toNat ((pathF τ.parts r).1.length - 1)).sum = boundP pat.rate ps := by
          unfold boundP
          refine sum_pw W _ _ (fun row path _ hp h => ?_)
          have hl := (path_rel h).1.length
          have e : stepsN path = (wfold path).1.length := by unfold stepsN; rw [wfold_steps, List.length_map]
          have := hsteps path hp
          rw [hl, ← e, hr, Int.toNat_natCast]
          unfold mostP
          exact sumCho_most hr12 (by omega)
        rw [hsum]
        by_cases h4 : 4000 < boundP pat.rate ps
        · rw [if_pos h4, if_pos h4]; rfl
        · rw [if_neg h4, if_neg h4]
          refine ⟨_, rfl, ?_, hleft⟩
          have : Pw (fun row path => Pw (StepR τ.nodes τ.parts) (pathF τ.parts row).1 (wfold path).1) rows ps := W.imp (fun row path _ _ h => (path_rel h).1)
          have key : ∀ {rows : List (List Nat)} {ps : List (List PPart)}, Pw (fun row path => Pw (StepR τ.nodes τ.parts) (pathF τ.parts row).1 (wfold path).1) rows ps → Pw (fun es' path => Pw (StepR τ.nodes τ.parts) es' (wfold path).1) (rows.map fun r => (pathF τ.parts r).1) ps := by
            intro rows ps h
            induction h with
            | nil => exact .nil
            | cons h1 _ ih => exact .cons h1 ih
          exact key this
      · rw [if_pos n2, if_pos n1, n3]
    · rw [if_pos g2, if_pos g1]
      have hk : (firstFP guardFP ps).2 = 1 := by
        rcases G2 with ⟨k1, _⟩ | ⟨k1, ⟨l, hl, hi⟩, _⟩
        · rw [k1] at g2; exact absurd rfl g2
        · exact ((guards_rel l _ k1).1 hi).1
      rw [g3]
      show Sum.inr (_, 1) = Sum.inr (_, (firstFP guardFP ps).2)
      rw [hk]
      rfl
end Go.Proofs.YtddbjcfdmdbmkaaGreatDoor
