import Derived.Test.YtddbjcfdmdbmkaaGreatDoorP05
import Derived.Test.YtddbjcfdmdbmkaaGreatDoorB30
import Derived.Test.YtddbjcfdmdbmkaaGreatDoorP06
import Derived.Test.YtddbjcfdmdbmkaaGreatDoorB11
import Derived.Test.YtddbjcfdmdbmkaaGreatDoorP01
set_option linter.unusedVariables false
set_option linter.unusedSimpArgs false
/-
  Both readers: how much there is at most.
-/
namespace Go.Proofs.YtddbjcfdmdbmkaaGreatDoor
open Go.RowKit

/-- Both readers, and how much there is. -/
theorem read_rel2 {ts : List STok} {l : List RTok} (hT : TR ts l) (hl : l.length ≤ 601) : ∃ (out : List Nat) (τ : PSt), Q (.seq [] out) (patD l) τ ∧ TInv τ ∧ τ.toks = l ∧ 1 ≤ out.length ∧ out.length ≤ 1000 ∧ τ.parts.length ≤ 1000 ∧ (patA l).Small ∧ (patC l).Small ∧
    match readP ts with
    | .inr (p, e) => (e = 1 ∧ τ.fin.wrong = p) ∨ (e = 2 ∧ τ.fin.wrong < 0 ∧ τ.fin.deep = p) ∨ (e = 3 ∧ τ.fin.wrong < 0 ∧ τ.fin.deep < 0 ∧ outs τ = some p)
    | .inl (pat, _) => τ.fin.wrong < 0 ∧ τ.fin = τ ∧ τ.deep < 0 ∧ outs τ = none ∧ (∃ hi, PInv τ hi) ∧ SeqR (PR τ.nodes τ.parts ts.length) out pat.body ∧ (∀ j ∈ out, j < τ.parts.length) ∧ τ.window = pat.window ∧ τ.rate = pat.rate := by
  have r0 := rel0 hT hl
  have gA : GoR (rd0 ts) (pat0 l) ((rd0 ts).expect [tWithin]) (patA l) := rel_want r0 (k := tWithin) (by simp [KW])
  have RB := rel_num gA.rel 1 1000000
  rw [show ((1 : Nat) : Int) = 1 from rfl, show ((1000000 : Nat) : Int) = 1000000 from rfl] at RB
  obtain ⟨gB, vB, _, _⟩ := RB
  have rB : Rel (((rd0 ts).expect [tWithin]).num 1 1000000) (patB l) := rel_window gB.rel _
  have gC : GoR (((rd0 ts).expect [tWithin]).num 1 1000000) (patB l) ((((rd0 ts).expect [tWithin]).num 1 1000000).expect [tRate]) (patC l) := rel_want rB (k := tRate) (by simp [KW])
  have RD := rel_num gC.rel 1 12
  rw [show ((1 : Nat) : Int) = 1 from rfl, show ((12 : Nat) : Int) = 12 from rfl] at RD
  obtain ⟨gD, vD, _, _⟩ := RD
  have rD : Rel ((((((rd0 ts).expect [tWithin]).num 1 1000000).expect [tRate])).num 1 12) (patD l) := rel_rate gD.rel _
  obtain ⟨b1, b2, b3⟩ := patB_keep l
  obtain ⟨d1, d2, d3, d4⟩ := patD_keep l
  have hpD : (patD l).parts = [] := by rw [d1, gD.parts, gC.parts, b1, gB.parts, gA.parts]; rfl
  have htD : (patD l).toks = l := by rw [d2, gD.toks, gC.toks, b2, gB.toks, gA.toks]; rfl
  have hlen : ((((((rd0 ts).expect [tWithin]).num 1 1000000).expect [tRate])).num 1 12).ahead.length ≤ ts.length := by
    have a := gA.len; have b := gB.len; have c := gC.len; have d := gD.len
    have e : (rd0 ts).ahead = ts := rfl
    rw [e] at a; omega
  have hwin : (patD l).window = ((rd0 ts).expect [tWithin]).numV := by rw [d3, gD.window, gC.window, b3, vB]
  have hrate : (patD l).rate = ((((rd0 ts).expect [tWithin]).num 1 1000000).expect [tRate]).numV := by rw [d4, vD]
  obtain ⟨out, τ, hQ, G, ho, hL⟩ := seq_rel (part_rel ts.length) _ (patD l) rD hlen (by rw [hpD]; simp) (fun _ => ⟨by rw [hpD]; simp, by rw [hpD]; simp, by rw [hpD]; simp, by rw [hpD]; simp, by rw [hpD]; simp, by rw [hpD]; simp⟩)
  refine ⟨out, τ, hQ, G.rel.inv, G.toks.trans htD, ho.1, ho.2, ?_, gA.rel.inv.small, gC.rel.inv.small, ?_⟩
  · have h1 := G.cnt; have h2 := G.rel.inv.ilt; have h3 := G.rel.inv.toks; rw [hpD] at h1; simp only [List.length_nil] at h1; omega
  unfold readP
  simp only
  rw [patP_def]
  simp only
  generalize seqP (partP ts.length) ((((((rd0 ts).expect [tWithin]).num 1 1000000).expect [tRate])).num 1 12) = sq at *
  by_cases hw : τ.wrong < 0
  · have ht := G.rel.tr hw
    have hend := ht.end
    have hpl := ht.place
    rw [← now_drop] at hend hpl
    by_cases hk : sq.1.now.kind = 1
    · have hk3 : τ.now.kind = 3 := hend.1 hk
      have ef : τ.fin = τ := by unfold PSt.fin; rw [if_pos hk3]
      rw [if_neg (by simp [hk])]
      obtain ⟨_, _, _, hd, hb⟩ : τ.wrong < 0 ∧ TR sq.1.ahead (τ.toks.drop τ.i) ∧ sq.1.deep = τ.inside ∧ DeepR sq.1.td τ.deep ∧ sq.1.bn = outs τ := by
        rcases G.rel.alt with h | h
        · exact h
        · omega
      rw [ef]
      cases htd : sq.1.td with
      | some p => rw [htd] at hd; exact .inr (.inl ⟨rfl, hw, hd⟩)
      | none =>
        rw [htd] at hd
        have hd' : τ.deep = -1 := hd
        cases hbn : sq.1.bn with
        | some p => exact .inr (.inr ⟨rfl, hw, by omega, by rw [← hb]; exact hbn⟩)
        | none =>
          obtain ⟨l1, l2, l3⟩ := hL hw
          exact ⟨hw, rfl, by omega, by rw [← hb]; exact hbn, ⟨_, l1⟩, l2, l3, G.window.trans hwin, G.rate.trans hrate⟩
    · have hk3 : ¬ τ.now.kind = 3 := fun e => hk (hend.2 e)
      have ef : τ.fin = τ.bad := by unfold PSt.fin; rw [if_neg hk3]
      rw [if_pos hk]
      refine .inl ⟨rfl, ?_⟩
      rw [ef]; unfold PSt.bad; rw [if_pos hw]
      exact congrArg Int.ofNat hpl.symm
  · have hd := G.rel.dead (by omega)
    have hnow : sq.1.now = ⟨0, τ.wrong.toNat, ⟨#[]⟩⟩ := by unfold Rd.now; rw [hd]; rfl
    rw [hnow]
    rw [if_pos (by simp)]
    refine .inl ⟨rfl, ?_⟩
    have : τ.fin = τ := by unfold PSt.fin; split; rfl; exact bad_bad (by omega)
    rw [this]
    show τ.wrong = ((τ.wrong.toNat : Nat) : Int); omega

theorem Pw.take {α β : Type} {r : α → β → Prop} {l : List α} {m : List β} (h : Pw r l m) (k : Nat) : Pw r (l.take k) (m.take k) := by
  induction h generalizing k with
  | nil => rw [List.take_nil, List.take_nil]; exact .nil
  | cons h1 _ ih => cases k with
    | zero => exact .nil
    | succ k => exact .cons h1 (ih k)
theorem Pw.left {α β : Type} {r : α → β → Prop} {l : List α} {m : List β} (h : Pw r l m) : ∀ a ∈ l, ∃ b ∈ m, r a b := by
  induction h with
  | nil => simp
  | cons h1 _ ih =>
    intro a ha
    rcases List.mem_cons.1 ha with rfl | ha
    · exact ⟨_, by simp, h1⟩
    · obtain ⟨b, hb, h⟩ := ih a ha; exact ⟨b, by simp [hb], h⟩
theorem Pw.right {α β : Type} {r : α → β → Prop} {l : List α} {m : List β} (h : Pw r l m) : ∀ b ∈ m, ∃ a ∈ l, r a b := by
  induction h with
  | nil => simp
  | cons h1 _ ih =>
    intro a ha
    rcases List.mem_cons.1 ha with rfl | ha
    · exact ⟨_, by simp, h1⟩
    · obtain ⟨b, hb, h⟩ := ih a ha; exact ⟨b, by simp [hb], h⟩
theorem eachL_mem {hs ts : List (List Nat)} {x : List Nat} (h : x ∈ eachL hs ts) : ∃ a ∈ hs, ∃ b ∈ ts, x = a ++ b := by
  unfold eachL at h
  obtain ⟨a, ha, hx⟩ := List.mem_flatMap.1 h
  obtain ⟨b, hb, rfl⟩ := List.mem_map.1 hx
  exact ⟨a, ha, b, hb, rfl⟩
theorem next_one (parts : List RPart) (N j : Nat) : waysF parts (N + 1) [j] = nextF (waysF parts N) parts j := by
  show eachL [[]] _ = _
  unfold eachL
  simp
theorem of_one (n : Nat) (p : PPart) : ofSeqP (n + 1) [p] = ofPartP (ofSeqP n) p := by
  show eachP [[]] _ = _
  unfold eachP
  simp
theorem next_rel {nodes : List RNode} {parts : List RPart} (hlt : ∀ (i : Nat) (x : RPart), parts[i]? = some x → ∀ l ∈ x.ways, ∀ j ∈ l, j < i) {n N j : Nat} {p : PPart} (h : PR nodes parts (n + 1) j p) (hj : j < N + 1) : Pw (RowR nodes parts) (nextF (waysF parts N) parts j) (ofPartP (ofSeqP (n + 1)) p) := by
  have := ways_rel (nodes := nodes) hlt (n + 1) (N + 1) [j] [p] (.cons h .nil) (fun k hk => by rw [List.mem_singleton.1 hk]; exact hj)
  rw [next_one, of_one] at this
  exact this
theorem acc_rel {nodes : List RNode} {parts : List RPart} (hlt : ∀ (i : Nat) (x : RPart), parts[i]? = some x → ∀ l ∈ x.ways, ∀ j ∈ l, j < i) {n N : Nat} {l : List Nat} {ps : List PPart} (h : Pw (PR nodes parts (n + 1)) l ps) (hN : ∀ j ∈ l, j < N + 1) (k : Nat) : Pw (RowR nodes parts) (wacc parts N l k) (ofAcc (n + 1) ps k) :=
  ways_rel hlt (n + 1) (N + 1) (l.take k) (ps.take k) (h.take k) (fun j hj => hN j (List.mem_of_mem_take hj))
/-- rows are not long -/
theorem rows_len {nodes : List RNode} {parts : List RPart} (hlt : ∀ (i : Nat) (x : RPart), parts[i]? = some x → ∀ l ∈ x.ways, ∀ j ∈ l, j < i) : ∀ (n N : Nat) (l : List Nat) (ps : List PPart), Pw (PR nodes parts n) l ps → (∀ j ∈ l, j < N) → ∀ r ∈ waysF parts N l, r.length ≤ bnd (n + 1) ps := by
  intro n
  induction n with
  | zero =>
    intro N l ps h _ r hr
    cases h with
    | nil => have e : r = [] := by cases N <;> simpa [waysF] using hr
             rw [e]; simp
    | cons h _ => exact h.elim
  | succ n ih =>
    intro N l ps h hN
    cases N with
    | zero =>
      cases h with
      | nil => intro r hr; have e : r = [] := by simpa [waysF] using hr
               rw [e]; simp
      | @cons j _ _ _ _ _ => have := hN j (by simp); omega
    | succ N =>
      show ∀ r ∈ l.foldl (fun out j => eachL out (nextF (waysF parts N) parts j)) [[]], _
      have h' : Pw (fun j p => PR nodes parts (n + 1) j p ∧ j < N + 1) l ps := h.imp (fun j p hj _ hr => ⟨hr, hN j hj⟩)
      clear h hN
      rw [bnd_wt]
      suffices H : ∀ (a : List (List Nat)) (B : Nat), (∀ r ∈ a, r.length ≤ B) → ∀ r ∈ l.foldl (fun out j => eachL out (nextF (waysF parts N) parts j)) a, r.length ≤ B + (ps.map (wt (n + 1))).sum from fun r hr => by have := H [[]] 0 (by simp) r hr; omega
      induction h' with
      | nil => intro a B h r hr; have := h r hr; simpa using this
      | @cons j p l ps h1 _ ih2 =>
        intro a B hab r hr
        rw [List.foldl_cons] at hr
        have := ih2 _ (B + wt (n + 1) p) ?_ r hr
        · rw [List.map_cons, List.sum_cons]; omega
        · intro r hr
          obtain ⟨x1, hx1, x2, hx2, rfl⟩ := eachL_mem hr
          have := hab x1 hx1
          rw [List.length_append]
          suffices x2.length ≤ wt (n + 1) p by omega
          obtain ⟨⟨x, hx, hc⟩, hj⟩ := h1
          unfold nextF at hx2
          rw [hx] at hx2
          simp only at hx2
          rcases hc with L | ⟨_, hnm, h2, hw⟩
          · rw [if_pos (by rw [L.ways]; rfl)] at hx2
            rw [List.mem_singleton.1 hx2]
            unfold wt; simp only [List.length_cons, List.length_nil]; omega
          · rw [if_neg (by omega)] at hx2
            obtain ⟨way, hwy, hr2⟩ := List.mem_flatMap.1 hx2
            obtain ⟨c, hc, hpw⟩ := hw.pw.left way hwy
            have h3 := ih N way c hpw (fun k hk => by have := hlt j x hx way hwy k hk; omega) x2 hr2
            have h4 : bnd (n + 1) c + 1 ≤ (p.choices.map fun c => bnd (n + 1) c + 1).sum := mem_le_sum (List.mem_map.2 ⟨c, hc, rfl⟩)
            unfold wt; omega
theorem fold_ne {F : Nat → List (List Nat)} : ∀ (l : List Nat) (a : List (List Nat)), (∀ j ∈ l, ∀ r ∈ F j, r ≠ []) → (l ≠ [] ∨ ∀ r ∈ a, r ≠ []) → ∀ r ∈ l.foldl (fun out j => eachL out (F j)) a, r ≠ [] := by
  intro l
  induction l with
  | nil => intro a _ h r hr; rcases h with h | h
           · exact absurd rfl h
           · exact h r hr
  | cons j l ih =>
    intro a hF _ r hr
    rw [List.foldl_cons] at hr
    refine ih _ (fun k hk => hF k (by simp [hk])) (.inr fun r hr => ?_) r hr
    obtain ⟨x1, _, x2, hx2, rfl⟩ := eachL_mem hr
    exact fun e => hF j (by simp) x2 hx2 (List.append_eq_nil_iff.1 e).2
/-- rows are not empty -/
theorem rows_ne {parts : List RPart} (hlt : ∀ (i : Nat) (x : RPart), parts[i]? = some x → ∀ l ∈ x.ways, ∀ j ∈ l, j < i) (hw : ∀ x ∈ parts, ∀ l ∈ x.ways, 1 ≤ l.length) : ∀ (N : Nat) (l : List Nat), (∀ j ∈ l, j < N) → l ≠ [] → ∀ r ∈ waysF parts N l, r ≠ [] := by
  intro N
  induction N with
  | zero => intro l h hne; cases l with
            | nil => exact absurd rfl hne
            | cons j _ => have := h j (by simp); omega
  | succ N ih =>
    intro l h hne
    refine fold_ne l [[]] (fun j hj r hr => ?_) (.inl hne)
    unfold nextF at hr
    split at hr
    · rw [List.mem_singleton.1 hr]; simp
    · rename_i x hx
      split at hr
      · rw [List.mem_singleton.1 hr]; simp
      · obtain ⟨way, hwy, hr2⟩ := List.mem_flatMap.1 hr
        have h1 := hw x (List.mem_of_getElem? hx) way hwy
        exact ih way (fun k hk => by have := hlt j x hx way hwy k hk; have := h j hj; omega) (by intro e; rw [e] at h1; simp at h1) r hr2
theorem wb_of {nodes : List RNode} {parts : List RPart} (hlt : ∀ (i : Nat) (x : RPart), parts[i]? = some x → ∀ l ∈ x.ways, ∀ j ∈ l, j < i) (hwl : ∀ x ∈ parts, x.ways.length ≤ 1000 ∧ ∀ l ∈ x.ways, 1 ≤ l.length ∧ l.length ≤ 1000) : ∀ (n N : Nat) (l : List Nat) (ps : List PPart), Pw (PR nodes parts n) l ps → (∀ j ∈ l, j < N) → WF (n + 1) ps → l.length ≤ 1000 → WB parts N l := by
  have hne : ∀ x ∈ parts, ∀ l ∈ x.ways, 1 ≤ l.length := fun x hx l hl => ((hwl x hx).2 l hl).1
  intro n
  induction n with
  | zero =>
    intro N l ps h _ hw
    cases h with
    | nil => exact absurd rfl hw.1
    | cons h _ => exact h.elim
  | succ n ih =>
    intro N l ps h hN hw hl
    cases N with
    | zero =>
      cases h with
      | nil => exact rfl
      | @cons j _ _ _ _ _ => have := hN j (by simp); omega
    | succ N =>
      obtain ⟨hpne, h16, hb, hp⟩ := hw
      have e : seqAcc (sizeP (n + 1)) ps ps.length = sizeP (n + 2) ps := by unfold seqAcc; rw [List.take_length]; rfl
      have hfit : ∀ p ∈ ps, Fit (ofPartP (ofSeqP (n + 1)) p) (sizePartP (sizeP (n + 1)) p).1 (p.times + 1 + (p.choices.map fun c => bnd (n + 1) c + 1).sum) := fun p hpm => part_fit (hp p hpm).1 (fun c hc => seq_fit (n + 1) c ((hp p hpm).2 c hc))
      have hall := (acc_fit hfit ps.length (Nat.le_refl _) (by rw [e]; exact h16)).2.2.2
      have hk : ∀ k, k ≤ ps.length → (ofAcc (n + 1) ps k).length ≤ 16 ∧ 0 < (ofAcc (n + 1) ps k).length := fun k hk => by
        have a := acc_fit hfit k hk (hall k hk)
        have := hall k hk
        exact ⟨by rw [a.1]; exact this, a.2.1⟩
      have hlen := h.length
      refine ⟨hl, fun k hkl => ?_, fun j hj => ?_⟩
      · have hR := acc_rel hlt h hN k
        obtain ⟨k1, k2⟩ := hk k (by omega)
        rw [← hR.length] at k1 k2
        refine ⟨k1, k2, fun r hr => ⟨?_, fun h0 => ?_⟩⟩
        · have := rows_len (nodes := nodes) hlt (n + 1) (N + 1) (l.take k) (ps.take k) (h.take k) (fun j hj => hN j (List.mem_of_mem_take hj)) r hr
          rw [bnd_wt, List.map_take] at this
          have h2 := sum_take_le (ps.map (wt (n + 1))) k
          rw [bnd_wt] at hb
          omega
        · refine rows_ne hlt hne (N + 1) (l.take k) (fun j hj => hN j (List.mem_of_mem_take hj)) (fun e => ?_) r hr
          have : (l.take k).length = 0 := by rw [e]; rfl
          have hl0 : 0 < ps.length := List.length_pos_iff.2 hpne
          rw [List.length_take] at this; omega
      · obtain ⟨p, hpm, hr⟩ := h.left j hj
        have hjN := hN j hj
        have hR := next_rel hlt (N := N) hr hjN
        have hone : ∀ k ∈ [j], k < N + 1 := fun k hk => by rw [List.mem_singleton.1 hk]; exact hjN
        have hRl : ∀ r ∈ nextF (waysF parts N) parts j, r.length ≤ 100000 ∧ r ≠ [] := fun r hrr => by
          rw [← next_one] at hrr
          have h1 := rows_len (nodes := nodes) hlt (n + 1) (N + 1) [j] [p] (.cons hr .nil) hone r hrr
          rw [bnd_wt] at h1
          simp only [List.map_cons, List.map_nil, List.sum_cons, List.sum_nil] at h1
          have h2 : wt (n + 1) p ≤ bnd (n + 1 + 1) ps := bnd_choices hpm
          exact ⟨by omega, rows_ne hlt hne (N + 1) [j] hone (by simp) r hrr⟩
        have hn16 : (nextF (waysF parts N) parts j).length ≤ 16 := by
          rw [hR.length]
          obtain ⟨k, hkk, rfl⟩ := List.getElem_of_mem hpm
          have h1 := hk (k + 1) hkk
          have h2 := hk k (by omega)
          rw [ofAcc_succ _ _ _ hkk, eachP_len] at h1
          exact Nat.le_trans (Nat.le_mul_of_pos_left _ h2.2) h1.1
        obtain ⟨x, hx, hc⟩ := hr
        have hxm := List.mem_of_getElem? hx
        refine ⟨x, hx, (hwl x hxm).1, hn16, hRl, fun way hwy => ?_⟩
        rcases hc with L | ⟨_, hnm, h2, hw⟩
        · rw [L.ways] at hwy; simp at hwy
        · obtain ⟨c, hc, hpw⟩ := hw.pw.left way hwy
          have hWc := (hp p hpm).2 c hc
          have hwN : ∀ k ∈ way, k < N := fun k hk => by have := hlt j x hx way hwy k hk; omega
          refine ⟨ih N way c hpw hwN hWc ((hwl x hxm).2 way hwy).2, ?_⟩
          rw [(ways_rel hlt n N way c hpw hwN).length]
          exact (seq_fit (n + 1) c hWc).pos
end Go.Proofs.YtddbjcfdmdbmkaaGreatDoor

/-
  Both readers: what each Compile wants.
-/
namespace Go.Proofs.YtddbjcfdmdbmkaaGreatDoor
open Go.RowKit

theorem len_flat {α β : Type} (f : α → List β) : ∀ (l : List α) (a : α), a ∈ l → (f a).length ≤ (l.flatMap f).length := by
  intro l
  induction l with
  | nil => intro a h; simp at h
  | cons x l ih =>
    intro a h
    rw [List.flatMap_cons, List.length_append]
    rcases List.mem_cons.1 h with rfl | h
    · omega
    · have := ih a h; omega
theorem LeafJ.ok {τ : PSt} {j : Nat} {p : PPart} (h : LeafJ τ.nodes τ.parts j p) : PartOK τ j := by
  obtain ⟨x, hx, L⟩ := h
  refine ⟨x, hx, ?_, by rw [L.pos]; omega⟩
  rcases L.cond with h | ⟨k, t, h1, h2, _⟩
  · exact .inl h.1
  · exact .inr ⟨k, t, h1, h2⟩
theorem not_big {τ : PSt} {hi n : Nat} {out : List Nat} {pat : PPat} (hP : PInv τ hi) (hS : SeqR (PR τ.nodes τ.parts n) out pat.body) (hN : ∀ j ∈ out, j < τ.parts.length) (hsw : SW (n + 1) pat.body) (hbnd : bnd (n + 1) pat.body ≤ 100000) (hb' : isBigP (n + 1) pat.body = false) :
    (sizeP (n + 1) pat.body).1 ≤ 16 ∧ (sizeP (n + 1) pat.body).2 ≤ 8 ∧ WF (n + 1) pat.body ∧ Pw (RowR τ.nodes τ.parts) (waysF τ.parts τ.parts.length out) (ofSeqP (n + 1) pat.body) := by
  have hsz : (sizeP (n + 1) pat.body).1 ≤ 16 ∧ (sizeP (n + 1) pat.body).2 ≤ 8 := by
    unfold isBigP at hb'
    simp only [Bool.or_eq_false_iff, decide_eq_false_iff_not] at hb'
    omega
  exact ⟨hsz.1, hsz.2, sw_wf (n + 1) pat.body hsw hsz.1 hbnd, ways_rel hP.lt n τ.parts.length out pat.body hS.pw hN⟩
theorem ch_of {τ : PSt} {hi n : Nat} {out : List Nat} {pat : PPat} (hT : TInv τ) (ho : outs τ = none) (hP : PInv τ hi) (hS : SeqR (PR τ.nodes τ.parts n) out pat.body) (hN : ∀ j ∈ out, j < τ.parts.length) (hol : out.length ≤ 1000) (hpl : τ.parts.length ≤ 1000) (hr : τ.rate = pat.rate) (hr12 : pat.rate ≤ 12) (hsw : SW (n + 1) pat.body) (hbnd : bnd (n + 1) pat.body ≤ 100000) : CH τ out := by
  refine ⟨⟨hP.lt, hP.times ho, fun x hx => ⟨(hP.wlen x hx).1, fun l hl => ((hP.wlen x hx).2 l hl).2⟩, hpl⟩, ⟨hol, hN⟩, by have := hT.nodes; have := hT.ilt; have := hT.toks; omega, by rw [hr]; omega, fun hnb => ?_⟩
  have hbig := big_agree hP.lt hS hN
  have hb' : isBigP (n + 1) pat.body = false := by
    rw [hbig]
    simp only [Bool.or_eq_false_iff, decide_eq_false_iff_not]
    omega
  obtain ⟨h16, h8, hwf, W⟩ := not_big hP hS hN hsw hbnd hb'
  have hfit := seq_fit _ _ hwf
  have hsteps := seq_steps _ _ hwf
  refine ⟨wb_of hP.lt hP.wlen n _ out pat.body hS.pw hN hwf hol, by rw [W.length, hfit.cnt]; exact h16, fun r hr => ?_⟩
  obtain ⟨path, hp, hR⟩ := W.left r hr
  have hpr := path_rel hR
  refine ⟨Nat.le_trans (rows_len hP.lt n _ out pat.body hS.pw hN r hr) hbnd, fun j hj => ?_, ?_, fun e he => ?_⟩
  · obtain ⟨ps, h1, _⟩ := hR
    obtain ⟨p, _, x, hx, _⟩ := h1.left j hj
    exact ⟨x, hx⟩
  · have e : stepsN path = (wfold path).1.length := by unfold stepsN; rw [wfold_steps, List.length_map]
    have := hsteps path hp
    rw [hpr.1.length]; omega
  · obtain ⟨e', he', L, G⟩ := hpr.1.left e he
    refine ⟨L.ok, ?_, fun g hg => ?_⟩
    · rw [G.length]
      have h1 := (wfold_spec path).eq
      have h2 := len_flat (fun e : PPart × List PPart => e.2 ++ [e.1]) (wfold path).1 e' he'
      have h3 := hfit.len path hp
      have h4 := congrArg List.length h1
      simp only [List.length_append] at h2 h4
      omega
    · obtain ⟨g', _, hgg⟩ := G.left g hg
      exact hgg.ok
/-- what the program's watch wants of the paths -/
theorem ok_of {τ : PSt} {hi n : Nat} {out : List Nat} {pat : PPat} (hP : PInv τ hi) (hS : SeqR (PR τ.nodes τ.parts n) out pat.body) (hN : ∀ j ∈ out, j < τ.parts.length) (hsw : SW (n + 1) pat.body) (hbnd : bnd (n + 1) pat.body ≤ 100000) {bd : Nat} {ps : List (List PPart)} (h : makeP (n + 1) pat = .inl (bd, ps)) :
    ps.length ≤ 1000 ∧ ∀ l ∈ ps, l.length ≤ 100000 ∧ l ≠ [] ∧ ∀ p ∈ l, p.cond.length ≤ 1000000 := by
  have hb : isBigP (n + 1) pat.body = false ∧ ps = ofSeqP (n + 1) pat.body := by
    unfold makeP at h
    split at h
    · cases h
    · rename_i hb
      split at h
      · cases h
      · split at h
        · cases h
        · split at h
          · cases h
          · cases h; exact ⟨Bool.eq_false_iff.2 hb, rfl⟩
  obtain ⟨hb', rfl⟩ := hb
  obtain ⟨h16, h8, hwf, W⟩ := not_big hP hS hN hsw hbnd hb'
  have hfit := seq_fit _ _ hwf
  refine ⟨by rw [hfit.cnt]; omega, fun l hl => ⟨Nat.le_trans (hfit.len l hl) hbnd, hfit.ne l hl, fun p hp => ?_⟩⟩
  obtain ⟨row, _, ps, h1, rfl⟩ := W.right l hl
  obtain ⟨q, hq, hpq⟩ := List.mem_flatMap.1 hp
  obtain ⟨j, _, x, _, L⟩ := h1.right q hq
  have e : p = q := by
    unfold expand at hpq
    split at hpq
    · exact List.eq_of_mem_replicate hpq
    · exact List.mem_singleton.1 hpq
  have := L.len
  rw [e]; omega
theorem make_kind {n : Nat} {pat : PPat} {p e : Nat} (h : makeP n pat = .inr (p, e)) : 1 ≤ e ∧ e ≤ 8 := by
  have hk : ∀ (f : List PPart → Nat → Nat × Nat) (ps : List (List PPart)), (∀ l i, (f l i).2 ≤ 8) → (firstFP f ps).2 ≠ 0 → 1 ≤ (firstFP f ps).2 ∧ (firstFP f ps).2 ≤ 8 := by
    intro f ps hf h0
    rcases firstFP_min f ps with ⟨k1, _⟩ | ⟨k1, ⟨l, _, i, _, hi⟩, _⟩
    · rw [k1] at h0; exact absurd rfl h0
    · have := hf l i; rw [← hi] at this; omega
  unfold makeP at h
  split at h
  · cases h; omega
  · split at h
    · rename_i h0
      have := hk guardFP _ (fun l i => by unfold guardFP; split <;> simp) h0
      rw [Sum.inr.inj h] at this; exact this
    · split at h
      · rename_i h0
        have := hk nameFP _ (fun l i => by unfold nameFP; simp only; split; simp; split <;> simp) h0
        rw [Sum.inr.inj h] at this; exact this
      · split at h
        · cases h; omega
        · cases h
end Go.Proofs.YtddbjcfdmdbmkaaGreatDoor

/-
  Compile: the document tells what the program's plain reading tells.
-/
namespace Go.Proofs.YtddbjcfdmdbmkaaGreatDoor
open Go.RowKit

structure BothL (ts : List STok) (l : List RTok) (out : List Nat) (τ : PSt) : Prop where
  q : Q (.seq [] out) (patD l) τ
  inv : TInv τ
  tr : TR ts l
  toks : τ.toks = l
  sA : (patA l).Small
  sC : (patC l).Small
  err : ∀ p e, readP ts = .inr (p, e) → (e = 1 ∧ τ.fin.wrong = p) ∨ (e = 2 ∧ τ.fin.wrong < 0 ∧ τ.deep = p) ∨ (e = 3 ∧ τ.fin.wrong < 0 ∧ τ.deep < 0 ∧ outs τ = some p)
  ok : ∀ pat z, readP ts = .inl (pat, z) → τ.fin.wrong < 0 ∧ τ.deep < 0 ∧ outs τ = none ∧ CH τ out ∧
    (∀ p e, makeP (ts.length + 1) pat = .inr (p, e) → compF τ out = .inr ((p : Int), e)) ∧
    (∀ bd ps, makeP (ts.length + 1) pat = .inl (bd, ps) → (∃ q, compF τ out = .inl (bd, q) ∧ Pw (fun es' path => Pw (StepR τ.nodes τ.parts) es' (wfold path).1) q ps ∧ ∀ path ∈ ps, (wfold path).2 = []) ∧ ps.length ≤ 1000 ∧ ∀ l ∈ ps, l.length ≤ 100000 ∧ l ≠ [] ∧ ∀ p ∈ l, p.cond.length ≤ 1000000) ∧
    (∃ hi, PInv τ hi) ∧ τ.window = pat.window ∧ τ.rate = pat.rate ∧ 1 ≤ pat.window ∧ pat.window ≤ 1000000 ∧ 1 ≤ pat.rate ∧ pat.rate ≤ 12
theorem fin_deep (τ : PSt) : τ.fin.deep = τ.deep := by
  unfold PSt.fin
  split
  · rfl
  · unfold PSt.bad; split <;> rfl
theorem read_both0 {ts : List STok} {l : List RTok} (hT : TR ts l) (hl : l.length ≤ 601) : ∃ out τ, BothL ts l out τ := by
  obtain ⟨hG, hGl⟩ := hT.sgood
  obtain ⟨out, τ, hQ, hI, hto, ho1, ho, hpl, sA, sC, hm⟩ := read_rel2 hT hl
  refine ⟨out, τ, hQ, hI, hT, hto, sA, sC, fun p e hr => ?_, fun pat z hr => ?_⟩
  · clear hQ sA sC
    rw [hr] at hm
    simp only [fin_deep] at hm
    exact hm
  · clear hQ sA sC
    rw [hr] at hm
    obtain ⟨h1, h2, h3, h4, ⟨hi, hP⟩, hS, hN, hw, hrt⟩ := hm
    obtain ⟨f1, f2, f3, f4, f5, f6⟩ := read_fine hG (by omega) hr
    have f2' : bnd (ts.length + 1) pat.body ≤ 100000 := by omega
    refine ⟨h1, h3, h4, ch_of hI h4 hP hS hN ho hpl hrt f6 f1 f2', fun p e hk => ?_, fun bd ps hk => ?_, ⟨hi, hP⟩, hw, hrt, f3, f4, f5, f6⟩
    · have := comp_rel hP hS hN hrt f6 f1 f2'
      rw [hk] at this; exact this
    · have := comp_rel hP hS hN hrt f6 f1 f2'
      rw [hk] at this
      exact ⟨this, ok_of hP hS hN f1 f2' hk⟩
theorem read_both1 (s : ByteArray) (hs : s.size ≤ 600) (ts : List STok) (n : Nat) (hn : n = s.size + 1) (e : stoks s n 0 = ts) : ∃ l out τ, LX s 0 l ∧ BothL ts l out τ := by
  obtain ⟨l, hL⟩ := lex_total s s.size 0 (by omega) (Nat.zero_le _)
  have hl := (lx_good hL (Nat.zero_le _) hs).2.2
  have h := toks_rel s hL n (Nat.zero_le _) (by omega)
  rw [e] at h
  obtain ⟨out, τ, h⟩ := read_both0 h.1 (by omega)
  exact ⟨l, out, τ, hL, h⟩
theorem read_both (s : ByteArray) (hs : s.size ≤ 600) : ∃ l out τ, LX s 0 l ∧ BothL (tokensP s) l out τ := read_both1 s hs _ _ rfl rfl
/-- what the document's Compile leaves, told by the program's plain reading -/
def DocAs (w : World) (r : (PPat × Nat × List (List PPart)) ⊕ (Nat × Nat)) (v : Value) (w' : World) : Prop := Below w.heap.size w w' ∧ match r with
  | .inr (p, e) => v = .tuple #[.pointer none, .int .i64 (p : Nat), .int .i64 (e : Nat)]
  | .inl (_, bd, _) => ∃ X b pa pn pc, v = .tuple #[.pointer (some ⟨X, 0, none⟩), .int .i64 0, .int .i64 0] ∧ w.heap.size ≤ X ∧ Blk w' X (EngC b (.slice pa pn pc) bd) 127
theorem her_ok (s : ByteArray) : (∀ pat bd ps, herP s = .inl (pat, bd, ps) → ps.length ≤ 1000 ∧ ∀ l ∈ ps, l.length ≤ 100000 ∧ l ≠ [] ∧ ∀ p ∈ l, p.cond.length ≤ 1000000) ∧ (∀ p e, herP s = .inr (p, e) → 1 ≤ e ∧ e ≤ 8) := by
  by_cases hs : 600 < s.size
  · unfold herP
    rw [if_pos hs]
    refine ⟨fun pat bd ps h => (by cases h), fun p e h => (by cases h; omega)⟩
  · obtain ⟨l, out, τ, hL, B⟩ := read_both s (by omega)
    unfold herP
    rw [if_neg hs]
    have he := B.err
    have ho := B.ok
    cases hr : readP (tokensP s) with
    | inr r =>
      obtain ⟨p, e⟩ := r
      simp only
      refine ⟨fun pat bd ps h => (by cases h), fun p' e' h => ?_⟩
      cases h
      rcases he _ _ hr with h | h | h <;> omega
    | inl r =>
      obtain ⟨pat, z⟩ := r
      simp only
      obtain ⟨_, _, _, _, _, h6, _⟩ := ho _ _ hr
      cases hk : makeP ((tokensP s).length + 1) pat with
      | inr r =>
        obtain ⟨p, e⟩ := r
        refine ⟨fun pat bd ps h => (by cases h), fun p' e' h => ?_⟩
        cases h
        exact make_kind hk
      | inl r =>
        obtain ⟨bd, ps⟩ := r
        refine ⟨fun pat bd ps h => ?_, fun p' e' h => by cases h⟩
        cases h
        exact (h6 _ _ hk).2
theorem doc_compile (s : ByteArray) (w : World) :
    Calls Tryz.prog 39 #[.string s] w fun e w' => ∃ v, e = .returned v ∧ DocAs w (herP s) v w' := by
  by_cases hs : 600 < s.size
  · have e : herP s = .inr (600, 1) := by unfold herP; rw [if_pos hs]
    rw [e]
    refine (comp_err (pat0 []) s w 600 1 (by omega) (by omega) (docread_long s w hs)).mono ?_
    rintro e' w' ⟨v, rfl, h1, h2⟩
    exact ⟨v, rfl, h1, h2⟩
  · obtain ⟨l, out, τ, hL, B⟩ := read_both s (by omega)
    have hRd := docread_any s (by omega) l hL (fun w => tokens_any s (by omega) l hL w) out τ B.q B.inv B.sA B.sC w
    have he := B.err
    have ho := B.ok
    unfold herP
    rw [if_neg hs]
    cases hr : readP (tokensP s) with
    | inr r =>
      obtain ⟨p, e⟩ := r
      simp only
      have hc : 1 ≤ e ∧ e ≤ 8 := by rcases he _ _ hr with h | h | h <;> omega
      refine (comp_err τ s w p e hc.1 hc.2 (hRd.mono ?_)).mono ?_
      · rintro e' w' ⟨v, rfl, h1, h2⟩
        refine ⟨?_, h1⟩
        rcases he _ _ hr with ⟨rfl, a⟩ | ⟨rfl, a, b⟩ | ⟨rfl, a, b, c⟩
        · rw [if_pos (by omega), a] at h2; rw [h2]; rfl
        · rw [if_neg (by omega), if_pos (by omega), b] at h2; rw [h2]; rfl
        · rw [if_neg (by omega), if_neg (by omega), c] at h2; rw [h2]; rfl
      · rintro e' w' ⟨v, rfl, h1, h2⟩
        exact ⟨v, rfl, h1, h2⟩
    | inl r =>
      obtain ⟨pat, z⟩ := r
      simp only
      obtain ⟨h1, h2, h3, h4, h5, h6, _⟩ := ho _ _ hr
      refine (comp_core s w τ out h4 (hRd.mono ?_)).mono ?_
      · rintro e' w' ⟨v, rfl, g1, g2⟩
        rw [if_neg (by omega), if_neg (by omega), h3] at g2
        obtain ⟨b, own, m, rfl, a, b', c⟩ := g2
        exact ⟨b, own, m, rfl, a, b', c⟩
      · rintro e' w' ⟨v, rfl, g1, g2⟩
        refine ⟨v, rfl, ?_⟩
        cases hk : makeP ((tokensP s).length + 1) pat with
        | inr r =>
          obtain ⟨p, e⟩ := r
          rw [h5 _ _ hk] at g2
          exact ⟨g1, g2⟩
        | inl r =>
          obtain ⟨bd, ps⟩ := r
          obtain ⟨⟨q, hq, _⟩, _⟩ := h6 _ _ hk
          rw [hq] at g2
          obtain ⟨X, b, pa, pc, a1, a2, a3, _⟩ := g2
          exact ⟨g1, X, b, pa, q.length, pc, a1, a2, a3⟩
end Go.Proofs.YtddbjcfdmdbmkaaGreatDoor

/-
  The document's Compile: the engine that it leaves.
-/
namespace Go.Proofs.YtddbjcfdmdbmkaaGreatDoor
open Go.RowKit

theorem her_parts {ts : List STok} {pat : PPat} {bd : Nat} {ps : List (List PPart)} (h : herT ts = .inl (pat, bd, ps)) : ∃ z, readP ts = .inl (pat, z) ∧ makeP (ts.length + 1) pat = .inl (bd, ps) := by
  unfold herT at h
  cases hr : readP ts with
  | inr r => rw [hr] at h; cases h
  | inl r =>
    obtain ⟨pat', z⟩ := r
    rw [hr] at h
    simp only at h
    cases hm : makeP (ts.length + 1) pat' with
    | inr r => rw [hm] at h; cases h
    | inl r =>
      rw [hm] at h
      obtain ⟨bd', ps'⟩ := r
      simp only [Sum.inl.injEq, Prod.mk.injEq] at h
      obtain ⟨rfl, rfl, rfl⟩ := h
      exact ⟨z, rfl, hm⟩
/-- what was read of a text, on both sides -/
structure Told (s : ByteArray) (pat : PPat) (ps : List (List PPart)) (τ : PSt) (q : List (List (Nat × List Nat))) : Prop where
  lx : LX s 0 τ.toks
  tr : ∀ ts, tokensP s = ts → TR ts τ.toks
  paths : Pw (fun es' path => Pw (StepR τ.nodes τ.parts) es' (wfold path).1) q ps
  ends : ∀ path ∈ ps, (wfold path).2 = []
  inv : ∃ hi, PInv τ hi
  win : τ.window = pat.window
  rate : τ.rate = pat.rate
  winB : 1 ≤ pat.window ∧ pat.window ≤ 1000000
  rateB : 1 ≤ pat.rate ∧ pat.rate ≤ 12
/-- the engine that the document's Compile leaves -/
def DocEng (s : ByteArray) (w : World) (pat : PPat) (bd : Nat) (ps : List (List PPart)) (v : Value) (w' : World) : Prop :=
  Below w.heap.size w w' ∧ ∃ X b pa pc own m lo τ q, v = .tuple #[.pointer (some ⟨X, 0, none⟩), .int .i64 0, .int .i64 0] ∧ w.heap.size ≤ X ∧ Blk w' X (EngC b (.slice pa (List.length q) pc) bd) 127 ∧ St own w' b m τ ∧ own X = 8 ∧ PathsC own w' (.slice pa q.length pc) q lo ∧ Told s pat ps τ q
theorem doc_engine0 {s : ByteArray} (hs : ¬ 600 < s.size) {pat : PPat} {bd z : Nat} {ps : List (List PPart)} {ts : List STok} (e : tokensP s = ts) (hr : readP ts = .inl (pat, z)) (hk : makeP (ts.length + 1) pat = .inl (bd, ps)) (w : World) :
    Calls Tryz.prog 39 #[.string s] w fun e w' => ∃ v, e = .returned v ∧ DocEng s w pat bd ps v w' := by
  obtain ⟨l, out, τ, hL, B⟩ := read_both1 s (by omega) ts _ rfl e
  have hRd := docread_any s (by omega) l hL (fun w => tokens_any s (by omega) l hL w) out τ B.q B.inv B.sA B.sC w
  have htr := B.tr
  have hto := B.toks
  obtain ⟨h1, h2, h3, h4, h5, h6, h7, h8, h9, h10, h11, h12, h13⟩ := B.ok _ _ hr
  clear B
  refine (comp_core s w τ out h4 (hRd.mono ?_)).mono ?_
  · rintro e' w' ⟨v, rfl, g1, g2⟩
    rw [if_neg (by omega), if_neg (by omega), h3] at g2
    obtain ⟨b, own, m, rfl, a, b', c⟩ := g2
    exact ⟨b, own, m, rfl, a, b', c⟩
  · rintro e' w' ⟨v, rfl, g1, g2⟩
    refine ⟨v, rfl, g1, ?_⟩
    obtain ⟨⟨q, hq, hq1, hq2⟩, _⟩ := h6 _ _ hk
    rw [hq] at g2
    obtain ⟨X, b, pa, pc, a1, a2, a3, own, m, lo, a4, a5, a6⟩ := g2
    refine ⟨X, b, pa, pc, own, m, lo, τ, q, a1, a2, a3, a4, a5, a6, ⟨by rw [hto]; exact hL, fun ts' e' => by rw [hto, ← e', e]; exact htr, hq1, hq2, h7, h8, h9, ⟨h10, h11⟩, ⟨h12, h13⟩⟩⟩
theorem doc_engine {s : ByteArray} {pat : PPat} {bd : Nat} {ps : List (List PPart)} (h : herP s = .inl (pat, bd, ps)) (w : World) :
    Calls Tryz.prog 39 #[.string s] w fun e w' => ∃ v, e = .returned v ∧ DocEng s w pat bd ps v w' := by
  obtain ⟨ts, e⟩ : ∃ ts, tokensP s = ts := ⟨_, rfl⟩
  have hT := her_inl e h
  obtain ⟨z, hr, hk⟩ := her_parts hT
  have hs : ¬ 600 < s.size := by
    intro hs
    rw [her_T e, if_pos hs] at h
    cases h
  exact doc_engine0 hs e hr hk w
end Go.Proofs.YtddbjcfdmdbmkaaGreatDoor
