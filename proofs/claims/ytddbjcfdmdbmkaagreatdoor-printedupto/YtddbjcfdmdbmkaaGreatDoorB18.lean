import Derived.Test.YtddbjcfdmdbmkaaGreatDoorB17
set_option linter.unusedVariables false
set_option linter.unusedSimpArgs false
namespace Go.Proofs.YtddbjcfdmdbmkaaGreatDoor
open Go.RowKit

theorem paths_one {own : Nat → Nat} {w : World} {v : Value} {l : List PPart} (h : PathN own w v l) : ∃ own', Ext own w own' (w.alloc (.cells #[v] 111)) ∧ PathsLie own' (w.alloc (.cells #[v] 111)) (.slice (some ⟨w.heap.size, 0, none⟩) 1 1) [l] := by
  have hg : ∀ k, k < w.heap.size → put own w.heap.size 7 k = own k := fun k hk => put_other _ _ _ _ (by omega)
  refine ⟨put own w.heap.size 7, (Ext.refl own w).allocAs _ 7, [v], rfl, ⟨rfl, .inr ⟨w.heap.size, 1, _, rfl, Nat.zero_le _, heap_alloc_new w _, Nat.le_refl _, by unfold maxLen; decide, rfl, rfl⟩⟩, fun g e => by cases e; exact put_same _ _ _, fun q hq => ?_⟩
  simp only [List.zip_cons_cons, List.zip_nil_right, List.mem_singleton] at hq
  subst hq
  exact ⟨movePV (World.grownBy_alloc w _ none) (fun k e => by cases e) (fun k hk _ => hg k hk) h.1, h.2⟩
def PathsPost (own : Nat → Nat) (w : World) (ps : List (List PPart)) (v : Value) (w' : World) : Prop := ∃ own', Ext own w own' w' ∧ PathsLie own' w' v ps
theorem part_one {own : Nat → Nat} {w : World} {n : Nat} {p : PPart} {cv hv : Value} (h : PartLie own w n p cv hv) : ∀ u ∈ partCells (p, (cv, hv)), u.oneCell' = true := by
  obtain ⟨a, b, c, rfl⟩ := row_form h.1.1
  obtain ⟨a', b', c', rfl⟩ := h.2.form
  intro u hu
  simp only [partCells, List.mem_cons, List.not_mem_nil, or_false] at hu
  rcases hu with rfl | rfl | rfl | rfl | rfl | rfl <;> rfl
theorem rep_cells (p : PPart) (cv hv : Value) (c : Nat) : flat partCells ((List.replicate c p).zip (List.replicate c (cv, hv))) = (List.replicate c (partCells (p, (cv, hv)))).flatten := by
  induction c with
  | zero => rfl
  | succ c ih =>
    have e : flat partCells ((List.replicate (c + 1) p).zip (List.replicate (c + 1) (cv, hv))) = partCells (p, (cv, hv)) ++ flat partCells ((List.replicate c p).zip (List.replicate c (cv, hv))) := rfl
    rw [e, ih, List.replicate_succ, List.flatten_cons]
theorem repeat_p {own : Nat → Nat} {w : World} {n B c : Nat} {p : PPart} {cv hv : Value} (hB : Blk w B #[.string p.name, .int .i64 p.place, .int .i64 p.times, .int .i64 p.kind, cv, hv] 189) (h : PartLie own w n p cv hv) (h1 : 1 ≤ c) (h4 : c ≤ 4) :
    Calls Tryz.prog 171 #[.slice (some ⟨B, 0, none⟩) 1 1, .int .i64 c] w fun e w' => ∃ v, e = .returned v ∧ ∃ own', Ext own w own' w' ∧ PathN own' w' v (List.replicate c p) := by
  have ho := part_one h
  have key : ∀ w' v, w'.ownsRow w.heap.size 189 6 v c (List.replicate c (partCells (p, (cv, hv)))).flatten → Below w.heap.size w w' → ∃ own', Ext own w own' w' ∧ PathN own' w' v (List.replicate c p) := fun w' v hrow hb => by
    refine path_new (xs := List.replicate c (cv, hv)) (by simp) (fun e => by have := congrArg List.length e; simp at this; omega) (by rw [rep_cells, List.length_replicate]; exact hrow) (Nat.le_refl _) hb ?_
    intro q hq
    rw [List.zip_replicate, Nat.min_self] at hq
    have e := List.eq_of_mem_replicate hq
    subst e
    exact ⟨h.1, h.2.form⟩
  rcases (by omega : c = 1 ∨ c = 2 ∨ c = 3 ∨ c = 4) with rfl | rfl | rfl | rfl
  · refine (repeat_1 hB ho).mono ?_; rintro e w' ⟨v, rfl, hrow, hb⟩; exact ⟨v, rfl, key w' v hrow hb⟩
  · refine (repeat_2 hB ho).mono ?_; rintro e w' ⟨v, rfl, hrow, hb⟩; exact ⟨v, rfl, key w' v hrow hb⟩
  · refine (repeat_3 hB ho).mono ?_; rintro e w' ⟨v, rfl, hrow, hb⟩; exact ⟨v, rfl, key w' v hrow hb⟩
  · refine (repeat_4 hB ho).mono ?_; rintro e w' ⟨v, rfl, hrow, hb⟩; exact ⟨v, rfl, key w' v hrow hb⟩

set_option maxRecDepth 100000 in
set_option maxHeartbeats 800000 in
theorem ofPart_step {own : Nat → Nat} {w : World} {n : Nat} {p : PPart} {cv hv : Value} (h : PartLie own w n p cv hv) (hs : isStepB p = true) (h1 : 1 ≤ p.times) (h4 : p.times ≤ 4) :
    Calls Tryz.prog 135 #[partVal p cv hv] w fun e w' => ∃ v, e = .returned v ∧ PathsPost own w (ofPartP (ofSeqP n) p) v w' := by
  have HP : Hid (ofPartP (ofSeqP n) p = [List.replicate p.times p]) := by show _ = _; unfold ofPartP; rw [if_pos hs]
  have hcall := fun w => isStep_p p cv hv (row_form h.1.1) h.2.form w
  rw [hs] at hcall
  have hrep := fun (w' : World) (B : Nat) (hb : Below w.heap.size w w') hB => repeat_p (own := own) (w := w') (n := n) (B := B) (c := p.times) (p := p) (cv := cv) (hv := hv) hB (h.ext (Ext.of_below hb)) h1 h4
  obtain ⟨ca, cb, cc, rfl⟩ := row_form h.1.1
  obtain ⟨ha, hb, hc, rfl⟩ := h.2.form
  simp only [partVal] at hcall ⊢
  clear hs h
  go_enter Tryz.func135, Tryz.ntmps135
  go_wp2_with (first
    | (go_at_call 91; refine (hcall _).mono ?_; rintro e w1 ⟨rfl, o, rfl⟩)
    | (go_at_call 171; refine (hrep _ (w.heap.size + 1 + 1) ((((Below.refl _ w).alloc (Nat.le_refl _) _).alloc (by simp) _).alloc (by simp; omega) _) (alloc_at _ _ _ (by simp))).mono ?_; rintro e w2 ⟨v1, rfl, own2, he2, hN2⟩; obtain ⟨ra, rb, rc, rfl⟩ := hN2.1.form))
  go_ret
  obtain ⟨own3, he3, hL3⟩ := paths_one hN2
  have hE := (fun hx => Ext.trans (Ext.of_below (own := own) (w := w) hx) he2) ((((Below.refl _ w).alloc (Nat.le_refl _) _).alloc (by simp) _).alloc (by simp; omega) _)
  rw [HP.out]
  exact ⟨_, rfl, own3, hE.trans he3, hL3⟩

set_option maxRecDepth 100000 in
set_option maxHeartbeats 800000 in
theorem ofPart_guard {own : Nat → Nat} {w : World} {n : Nat} {p : PPart} {cv hv : Value} (h : PartLie own w n p cv hv) (hs : isStepB p = false) (hc0 : p.choices = []) :
    Calls Tryz.prog 135 #[partVal p cv hv] w fun e w' => ∃ v, e = .returned v ∧ PathsPost own w (ofPartP (ofSeqP n) p) v w' := by
  have HP : Hid (ofPartP (ofSeqP n) p = [[p]]) := by show _ = _; unfold ofPartP; rw [if_neg (by simp [hs]), if_pos (by simp [hc0])]
  have hcall := fun w => isStep_p p cv hv (row_form h.1.1) h.2.form w
  rw [hs] at hcall
  have hv0 : hv = .slice none 0 0 := by
    rcases h.2 with ⟨_, e⟩ | ⟨e, _⟩
    · exact e
    · exact absurd hc0 e
  subst hv0
  have hnil := nil_yes
  have hPL : Hid (PartLie own w n p cv (.slice none 0 0)) := h
  obtain ⟨ca, cb, cc, rfl⟩ := row_form h.1.1
  simp only [partVal] at hcall ⊢
  clear hs h
  go_enter Tryz.func135, Tryz.ntmps135
  go_wp2_with (go_at_call 91; refine (hcall _).mono ?_; rintro e w1 ⟨rfl, o, rfl⟩)
  go_ret
  rw [HP.out]
  refine ⟨_, rfl, ?_⟩
  have hb2 : Below w.heap.size w (((w.alloc (.cells #[.string p.name, .int .i64 p.place, .int .i64 p.times, .int .i64 p.kind, .slice ca cb cc, .slice none 0 0] 189)).alloc o).alloc (.cells #[.string p.name, .int .i64 p.place, .int .i64 p.times, .int .i64 p.kind, .slice ca cb cc, .slice none 0 0] 189)) := (((Below.refl _ w).alloc (Nat.le_refl _) _).alloc (by simp) _).alloc (by simp; omega) _
  obtain ⟨own2, he2, hN2⟩ := path_new (own := own) (w := w) (l := [p]) (xs := [(.slice ca cb cc, .slice none 0 0)]) (v := .slice (some ⟨w.heap.size + 1 + 1, 0, none⟩) 1 1) (B := w.heap.size) rfl (by simp) ⟨rfl, .inr ⟨w.heap.size + 1 + 1, 1, _, rfl, by omega, alloc_at _ _ _ (by simp), Nat.le_refl _, by unfold maxLen; decide, rfl, rfl⟩⟩ (Nat.le_refl _) hb2 (fun q hq => by simp only [List.zip_cons_cons, List.zip_nil_right, List.mem_singleton] at hq; subst hq; exact ⟨hPL.out.1, _, _, _, rfl⟩)
  obtain ⟨own3, he3, hL3⟩ := paths_one hN2
  simp only [alloc_size] at hL3
  exact ⟨own3, he2.trans he3, hL3⟩
end Go.Proofs.YtddbjcfdmdbmkaaGreatDoor

namespace Go.Proofs.YtddbjcfdmdbmkaaGreatDoor
open Go.RowKit

theorem EB.appM {own own' : Nat → Nat} {w wr w4 : World} {v : Value} {acc ps : List (List PPart)} {vs us : List Value} {g cap : Nat} (h : EB own w v own' acc vs wr) (hul : us.length = ps.length) (hl : ∀ q ∈ ps.zip us, PathN own' wr q.2 q.1)
    (hown : w4.ownsRow 0 111 1 (.slice (some ⟨g, 0, none⟩) (acc.length + ps.length) cap) (acc.length + ps.length) (vs ++ us)) (hgrow : wr.grownBy w4 v.ownBlock) (hat : v.ownBlock = some g ∨ g = wr.heap.size) :
    EB own w (.slice (some ⟨g, 0, none⟩) (acc.length + ps.length) cap) (put own' g 8) (acc ++ ps) (vs ++ us) w4 := by
  have hr8 : ∀ k, v.ownBlock = some k → own' k = 8 := fun k hk => (h.col k hk).1
  have hgw : w.heap.size ≤ g := by
    rcases hat with e | e
    · exact (h.col g e).2
    · have := h.ext.size; omega
  have hmv : ∀ v s, PathN own' wr v s → PathN (put own' g 8) w4 v s := fun v' s' hq =>
    ⟨movePV hgrow hr8 (fun k hk hne => by
      by_cases e : k = g
      · subst e
        rcases hat with e | e
        · exact absurd (hr8 k e) hne
        · omega
      · exact put_other _ _ _ _ e) hq.1, hq.2⟩
  refine ⟨h.ext.appC hgrow (fun k hk => (h.col k hk).2) hat, by simp [h.len, hul], by rw [List.length_append]; exact hown, fun k e => by cases e; exact ⟨put_same _ _ _, hgw⟩, ?_⟩
  intro q hq
  rw [List.zip_append h.len.symm] at hq
  rcases List.mem_append.1 hq with hq | hq
  · exact hmv _ _ (h.lie q hq)
  · exact hmv _ _ (hl q hq)
theorem PathsLie.row {own : Nat → Nat} {w : World} {v : Value} {ps : List (List PPart)} (h : PathsLie own w v ps) (h0 : 0 < ps.length) : ∃ g cap vs, v = .slice (some ⟨g, 0, none⟩) ps.length cap ∧ vs.length = ps.length ∧ (∀ j u, vs[j]? = some u → w.cell? ((⟨g, 0, none⟩ : Addr).add j) = some u) ∧ (∀ u ∈ vs, u.oneCell' = true) ∧ ∀ q ∈ ps.zip vs, PathN own w q.2 q.1 := by
  obtain ⟨vs, hl, hrow, hcol, hlie⟩ := h
  rcases hrow.2 with ⟨_, h0'⟩ | ⟨g, cap, cur, rfl, _, hg, _⟩
  · omega
  · refine ⟨g, cap, vs, rfl, hl, fun j u hu => hrow.cells (g := g) rfl j u hu, fun u hu => ?_, hlie⟩
    obtain ⟨k, hk, rfl⟩ := List.getElem_of_mem hu
    have hz : k < (ps.zip vs).length := by rw [List.length_zip]; omega
    have := hlie _ (List.getElem_mem hz)
    simp only [List.getElem_zip] at this
    obtain ⟨a, b, c, e⟩ := this.1.form
    rw [e]; rfl

def OfC (n : Nat) : Prop := ∀ (own : Nat → Nat) (w : World) (v : Value) (l : List PPart), SeqLie own w n v l → WF n l →
  Calls Tryz.prog 85 #[v] w fun e w' => ∃ r, e = .returned r ∧ PathsPost own w (ofSeqP n l) r w'
theorem flat_succ (rec : List PPart → List (List PPart)) (c : List (List PPart)) (k : Nat) (h : k < c.length) : (c.take (k + 1)).flatMap rec = (c.take k).flatMap rec ++ rec c[k] := by
  rw [List.take_succ_eq_append_getElem h, List.flatMap_append]; simp

set_option maxRecDepth 100000 in
set_option maxHeartbeats 1600000 in
theorem ofPart_brk {n : Nat} (ih : OfC n) {own : Nat → Nat} {w : World} {p : PPart} {cv hv : Value} (h : PartLie own w n p cv hv) (hs : isStepB p = false) (hc0 : p.choices ≠ []) (hw : ∀ c ∈ p.choices, WF n c) (hcnt : (p.choices.flatMap (ofSeqP n)).length ≤ 1000) (hcl : p.choices.length ≤ 100000) :
    Calls Tryz.prog 135 #[partVal p cv hv] w fun e w' => ∃ v, e = .returned v ∧ PathsPost own w (ofPartP (ofSeqP n) p) v w' := by
  have HP : Hid (ofPartP (ofSeqP n) p = p.choices.flatMap (ofSeqP n)) := by show _ = _; unfold ofPartP; rw [if_neg (by simp [hs]), if_neg (by simpa using hc0)]
  have hcall := fun w => isStep_p p cv hv (row_form h.1.1) h.2.form w
  rw [hs] at hcall
  obtain ⟨g, cap, rfl, hg, hcell⟩ := h.2.open hc0
  have hnil := nil_no
  have hg7 : own g = 7 := by
    rcases h.2 with ⟨_, e⟩ | ⟨_, _, _, _, hcol, _⟩
    · cases e
    · exact hcol g rfl
  obtain ⟨i0, hi0, hz0, hz1, hz2⟩ := info_parts Tryz.infoPath
  obtain ⟨ca, cb, cc, rfl⟩ := row_form h.1.1
  have HL : ∀ k, k ≤ p.choices.length → ((p.choices.take k).flatMap (ofSeqP n)).length ≤ 1000 := fun k hk => by
    refine Nat.le_trans ?_ hcnt
    rw [sum_map_len, sum_map_len, List.map_take]; exact sum_take_le _ _
  simp only [partVal] at hcall ⊢
  generalize p.choices = c at *
  clear hs h hcnt
  go_enter Tryz.func135, Tryz.ntmps135
  go_wp2_with (go_at_call 91; refine (hcall _).mono ?_; rintro e w1 ⟨rfl, o, rfl⟩)
  go_loopw [3, 25] (fun v i wr => ∃ (k : Nat) (own' : Nat → Nat) (vs : List Value), k ≤ c.length ∧ i = .int .i64 k ∧ EB own w v own' ((c.take k).flatMap (ofSeqP n)) vs wr) (fun _ i _ => c.length - (intOf i).toNat)
  case atStart => exact ⟨0, own, [], Nat.zero_le _, rfl, (EB.start own w).next (Ext.of_below (((Below.refl _ w).alloc (Nat.le_refl _) _).alloc (by simp) _))⟩
  case round =>
    obtain ⟨k, own', vs, hk, rfl, hEB⟩ := hrel
    obtain ⟨va, vb, vc, rfl⟩ := row_form hEB.row
    by_cases hlt : k < c.length
    · obtain ⟨sv, hS, hcl2⟩ := hcell k hlt
      have eh := hEB.ext.kept.block g ⟨hg, by rw [hg7]; decide⟩
      have hcl' := (cell_eq eh k).trans hcl2
      have hS' := SeqLie.ext hEB.ext n _ _ hS
      have hcall2 := ih own' wr sv c[k] hS' (hw _ (List.getElem_mem hlt))
      have hpos := (seq_fit n c[k] (hw _ (List.getElem_mem hlt))).pos
      obtain ⟨sa, sb, sc, rfl⟩ := hS.form
      have HF : Hid ((c.take (k + 1)).flatMap (ofSeqP n) = (c.take k).flatMap (ofSeqP n) ++ ofSeqP n c[k]) := flat_succ _ c k hlt
      have hL1 := HL (k + 1) hlt
      rw [HF.out, List.length_append] at hL1
      have hki : (k : Int) < (c.length : Int) := by omega
      have hk0 : (0 : Int) ≤ (k : Int) := by omega
      generalize ofSeqP n c[k] = ps at *
      generalize (c.take k).flatMap (ofSeqP n) = acc at *
      clear hcell HL eh hcl2 hS hS'
      go_wp2_with (first
        | (go_at_call 85; refine hcall2.mono ?_; rintro e w3 ⟨r, rfl, own3, he3, hL3⟩; obtain ⟨gp, cp, us, rfl, hul, hnews, hone, hlie⟩ := hL3.row hpos; have hEB3 := hEB.next he3)
        | (at_builtin; refine wpList_append_lies _ rfl (.tmp 29) (.tmp 31) 65 rfl 0 111 i0 _ 1 24 Tryz.underlying65 hi0 hz0 hz1 hz2 rfl (by decide) _ acc.length vs (by rfl) hEB3.row ⟨gp, 0, none⟩ ps.length cp us (by rfl) (by rw [hul]; simp) hnews hone hpos (by unfold maxLen; omega) (by omega) (Nat.zero_le _) w3.heap.size rfl ?_; intro g4 cap4 w4 hown hgrow hat hlt4))
      have hEB4 := hEB3.appM hul hlie hown hgrow hat
      go_roundw
      case rel => exact ⟨k + 1, _, _, hlt, by go_num, by rw [HF.out]; exact hEB4⟩
      case measure => simp [intOf]; omega
    · have ek : k = c.length := by omega
      subst ek
      have HE : Hid (c.take c.length = c) := List.take_length
      rw [HE.out] at hEB
      go_wp2
      go_ret
      rw [HP.out]
      exact ⟨_, rfl, hEB.done⟩
end Go.Proofs.YtddbjcfdmdbmkaaGreatDoor

namespace Go.Proofs.YtddbjcfdmdbmkaaGreatDoor
open Go.RowKit

theorem ofPart_p {n : Nat} (ih : OfC n) {own : Nat → Nat} {w : World} {p : PPart} {cv hv : Value} (h : PartLie own w n p cv hv) (hs : isStepB p = true → 1 ≤ p.times ∧ p.times ≤ 4 ∧ p.choices = []) (hw : ∀ c ∈ p.choices, WF n c) (hcnt : (ofPartP (ofSeqP n) p).length ≤ 1000) (hcl : p.choices.length ≤ 100000) :
    Calls Tryz.prog 135 #[partVal p cv hv] w fun e w' => ∃ v, e = .returned v ∧ PathsPost own w (ofPartP (ofSeqP n) p) v w' := by
  by_cases h1 : isStepB p = true
  · exact ofPart_step h h1 (hs h1).1 (hs h1).2.1
  · have h1' : isStepB p = false := by simpa using h1
    by_cases h2 : p.choices = []
    · exact ofPart_guard h h1' h2
    · have e : ofPartP (ofSeqP n) p = p.choices.flatMap (ofSeqP n) := by unfold ofPartP; rw [if_neg h1, if_neg (by simpa using h2)]
      exact ofPart_brk ih h h1' h2 hw (by rw [← e]; exact hcnt) hcl

theorem nil_path (own : Nat → Nat) (w : World) : PathN own w (.slice none 0 0) [] := ⟨.inl ⟨rfl, none, 0, rfl⟩, fun _ => rfl⟩

set_option maxRecDepth 100000 in
set_option maxHeartbeats 1600000 in
theorem ofSequence_p : ∀ n, OfC n := by
  intro n
  induction n with
  | zero => intro own w v l h hw; exact hw.elim
  | succ n ih =>
    rintro own w v l h ⟨hne, h16, hb, hp⟩
    have hFit : ∀ p ∈ l, Fit (ofPartP (ofSeqP n) p) (sizePartP (sizeP n) p).1 (p.times + 1 + (p.choices.map fun c => bnd n c + 1).sum) := fun p hpm => part_fit (hp p hpm).1 (fun c hc => seq_fit n c ((hp p hpm).2 c hc))
    have e : seqAcc (sizeP n) l l.length = sizeP (n + 1) l := by unfold seqAcc; rw [List.take_length]; rfl
    have HA := (acc_fit hFit l.length (Nat.le_refl _) (by rw [e]; exact h16)).2.2.2
    have hbn : ∀ k, (((l.map fun p => p.times + 1 + (p.choices.map fun c => bnd n c + 1).sum)).take k).sum ≤ 100000 := fun k => Nat.le_trans (sum_take_le _ k) hb
    have HK : ∀ k, k ≤ l.length → (ofAcc n l k).length ≤ 16 ∧ 0 < (ofAcc n l k).length ∧ ∀ x ∈ ofAcc n l k, x.length ≤ 100000 := fun k hk => by
      obtain ⟨a1, a2, a3, _⟩ := acc_fit hFit k hk (HA k hk)
      have := HA k hk
      exact ⟨by omega, a2, fun x hx => Nat.le_trans (a3 x hx).2 (hbn k)⟩
    have HQ : ∀ k, (hk : k < l.length) → (ofPartP (ofSeqP n) l[k]).length ≤ 16 ∧ 0 < (ofPartP (ofSeqP n) l[k]).length ∧ (∀ x ∈ ofPartP (ofSeqP n) l[k], x ≠ []) ∧ (∀ x ∈ ofPartP (ofSeqP n) l[k], x.length ≤ 100000) ∧ l[k].choices.length ≤ 100000 ∧ (ofAcc n l k).length * (ofPartP (ofSeqP n) l[k]).length ≤ 1000000 := fun k hk => by
      have f := hFit _ (List.getElem_mem hk)
      have a1 := (HK (k + 1) hk).1
      have a2 := (HK k (by omega)).2.1
      rw [ofAcc_succ n l k hk, eachP_len] at a1
      have hbp : l[k].times + 1 + (l[k].choices.map fun c => bnd n c + 1).sum ≤ 100000 := Nat.le_trans (bnd_choices (List.getElem_mem hk)) hb
      have hl := len_le_sum (l[k].choices.map fun x => bnd n x + 1) (fun a ha => by obtain ⟨x, _, rfl⟩ := List.mem_map.1 ha; omega)
      rw [List.length_map] at hl
      exact ⟨Nat.le_trans (Nat.le_mul_of_pos_left _ a2) a1, f.pos, f.ne, fun x hx => Nat.le_trans (f.len x hx) hbp, by omega, by omega⟩
    have hlen : l.length ≤ 100000 := Nat.le_trans bnd_len hb
    have HP : Hid (ofSeqP (n + 1) l = ofAcc n l l.length) := (ofAcc_all n l).symm
    rcases h.open with ⟨h0, _⟩ | ⟨g, cap, rfl, hg, _⟩
    · exact absurd h0 hne
    clear hFit HA hbn e h16 hb
    go_enter Tryz.func85, Tryz.ntmps85
    go_wp2
    go_loopw [3, 9] (fun v i wr => ∃ (k : Nat) (own' : Nat → Nat), k ≤ l.length ∧ i = .int .i64 k ∧ Ext own w own' wr ∧ PathsLie own' wr v (ofAcc n l k)) (fun _ i _ => l.length - (intOf i).toNat)
    case atStart =>
      obtain ⟨own', hE, hL⟩ := paths_one (nil_path own w)
      exact ⟨0, own', Nat.zero_le _, rfl, hE, hL⟩
    case round =>
      obtain ⟨k, own', hk, rfl, hE, hL⟩ := hrel
      obtain ⟨k1, k2, k3⟩ := HK k hk
      obtain ⟨gp, cp, rfl, _, _, _⟩ := hL.open k2
      by_cases hlt : k < l.length
      · rcases (SeqLie.ext hE (n + 1) _ _ h).open with ⟨h0, _⟩ | ⟨g2, cap2, e2, _, hcell⟩
        · exact absurd h0 hne
        cases e2
        obtain ⟨cv, hv, hPL, c0, c1, c2, c3, c4, c5⟩ := hcell k hlt
        obtain ⟨q1, q2, q3, q4, q5, q6⟩ := HQ k hlt
        have hpk := hp _ (List.getElem_mem hlt)
        have hE1 : Ext own' wr own' (wr.alloc (.cells #[.string l[k].name, .int .i64 l[k].place, .int .i64 l[k].times, .int .i64 l[k].kind, cv, hv] 189)) := Ext.of_below ((Below.refl _ wr).alloc (Nat.le_refl _) _)
        have hcall := ofPart_p ih (hPL.ext hE1) hpk.1 hpk.2 (by omega) q5
        obtain ⟨ca, cb, cc, rfl⟩ := row_form hPL.1.1
        obtain ⟨ha, hb, hc, rfl⟩ := hPL.2.form
        have HS : Hid (ofAcc n l (k + 1) = eachP (ofAcc n l k) (ofPartP (ofSeqP n) l[k])) := ofAcc_succ n l k hlt
        have hki : (k : Int) < (l.length : Int) := by omega
        have hk0 : (0 : Int) ≤ (k : Int) := by omega
        simp only [partVal] at hcall
        clear hcell HK HQ hPL hpk h hp
        generalize ofPartP (ofSeqP n) l[k] = ps at *
        generalize ofAcc n l k = acc at *
        go_wp2_with (first
          | (go_at_call 134; refine (eachBehind_p hL3 hR3 k2 q2 q3 q6 k3 q4).mono ?_; rintro e w4 ⟨v4, rfl, own4, he4, hL4⟩)
          | (go_at_call 135; refine hcall.mono ?_; rintro e w3 ⟨r, rfl, own3, he3, hR3⟩; have hL3 := hL.ext (hE1.trans he3)))
        go_roundw
        case rel => exact ⟨k + 1, own4, hlt, by go_num, hE.trans ((hE1.trans he3).trans he4), by rw [HS.out]; exact hL4⟩
        case measure => simp [intOf]; omega
      · have ek : k = l.length := by omega
        subst ek
        go_wp2
        go_ret
        rw [HP.out]
        exact ⟨_, rfl, own', hE, hL⟩
end Go.Proofs.YtddbjcfdmdbmkaaGreatDoor

namespace Go.Proofs.YtddbjcfdmdbmkaaGreatDoor
open Go.RowKit

theorem stepsN_append (a b : List PPart) : stepsN (a ++ b) = stepsN a + stepsN b := by unfold stepsN; rw [List.filter_append, List.length_append]
theorem fold_max (c : List (List PPart)) (f : List PPart → Nat × Nat) (a : Nat × Nat) : a.2 ≤ (c.foldl (fun a c => (a.1 + (f c).1, max a.2 (f c).2)) a).2 ∧ ∀ x ∈ c, (f x).2 ≤ (c.foldl (fun a c => (a.1 + (f c).1, max a.2 (f c).2)) a).2 := by
  induction c generalizing a with
  | nil => exact ⟨Nat.le_refl _, fun x hx => by simp at hx⟩
  | cons y c ih =>
    rw [List.foldl_cons]
    have h := ih (a.1 + (f y).1, max a.2 (f y).2)
    refine ⟨Nat.le_trans (Nat.le_max_left _ _) h.1, fun x hx => ?_⟩
    rcases List.mem_cons.1 hx with rfl | hx
    · exact Nat.le_trans (Nat.le_max_right _ _) h.1
    · exact h.2 x hx
theorem part_steps {n : Nat} {p : PPart} (hw : (isStepB p = true → 1 ≤ p.times ∧ p.times ≤ 4 ∧ p.choices = [])) (ih : ∀ c ∈ p.choices, ∀ x ∈ ofSeqP n c, stepsN x ≤ (sizeP n c).2) :
    ∀ x ∈ ofPartP (ofSeqP n) p, stepsN x ≤ (sizePartP (sizeP n) p).2 := by
  intro x hx
  unfold ofPartP at hx
  unfold sizePartP
  by_cases hs : isStepB p = true
  · obtain ⟨_, _, hc⟩ := hw hs
    rw [if_pos hs] at hx
    rw [if_pos (by simp [hc])]
    simp only [List.mem_singleton] at hx
    subst hx
    exact Nat.le_trans (stepsN_le _) (by simp)
  · rw [if_neg hs] at hx
    by_cases hc : p.choices.isEmpty = true
    · rw [if_pos hc] at hx
      simp only [List.mem_singleton] at hx
      subst hx
      have : stepsN [p] = 0 := by unfold stepsN; simp [hs]
      omega
    · rw [if_neg hc] at hx
      rw [if_neg hc]
      obtain ⟨c, hc, hx⟩ := List.mem_flatMap.1 hx
      exact Nat.le_trans (ih c hc x hx) ((fold_max p.choices (sizeP n) (0, 0)).2 c hc)
theorem acc_steps {n : Nat} {l : List PPart} (hp : ∀ p ∈ l, ∀ x ∈ ofPartP (ofSeqP n) p, stepsN x ≤ (sizePartP (sizeP n) p).2) : ∀ k, k ≤ l.length → ∀ x ∈ ofAcc n l k, stepsN x ≤ (seqAcc (sizeP n) l k).2 := by
  intro k
  induction k with
  | zero =>
    intro _ x hx
    have e : x = [] := by simpa [ofAcc] using hx
    subst e; exact Nat.zero_le _
  | succ k ih =>
    intro hk x hx
    rw [ofAcc_succ n l k (by omega)] at hx
    obtain ⟨a, ha, b, hb, rfl⟩ := eachP_mem hx
    rw [seqAcc_succ (sizeP n) l k (by omega), stepsN_append]
    exact Nat.add_le_add (ih (by omega) a ha) (hp _ (List.getElem_mem (by omega)) b hb)
theorem seq_steps : ∀ n l, WF n l → ∀ x ∈ ofSeqP n l, stepsN x ≤ (sizeP n l).2 := by
  intro n
  induction n with
  | zero => intro l h; exact h.elim
  | succ n ih =>
    rintro l ⟨_, _, _, hp⟩ x hx
    have e : seqAcc (sizeP n) l l.length = sizeP (n + 1) l := by unfold seqAcc; rw [List.take_length]; rfl
    rw [← ofAcc_all] at hx
    rw [← e]
    exact acc_steps (fun p hpm => part_steps (hp p hpm).1 (fun c hc => ih c ((hp p hpm).2 c hc))) _ (Nat.le_refl _) x hx

theorem ffNew_none {a r : Nat × Nat} (h : (ffNew a r).2 = 0) : a.2 = 0 ∧ r.2 = 0 := by
  unfold ffNew at h
  split at h
  · rename_i hc; exact absurd h hc.1
  · rename_i hc
    refine ⟨h, Decidable.byContradiction fun hr => hc ⟨hr, .inl h⟩⟩
theorem ffPath_none {f : List PPart → Nat → Nat × Nat} {l : List PPart} {a : Nat × Nat} : ∀ k, (ffPath f l a k).2 = 0 → a.2 = 0 ∧ ∀ i, i < k → (f l i).2 = 0 := by
  intro k
  induction k with
  | zero => intro h; exact ⟨h, fun i hi => absurd hi (by omega)⟩
  | succ k ih =>
    intro h
    obtain ⟨h1, h2⟩ := ffNew_none h
    obtain ⟨h3, h4⟩ := ih h1
    refine ⟨h3, fun i hi => ?_⟩
    by_cases e : i = k
    · subst e; exact h2
    · exact h4 i (by omega)
theorem ffAcc_none {f : List PPart → Nat → Nat × Nat} {ps : List (List PPart)} : ∀ k, k ≤ ps.length → (ffAcc f ps k).2 = 0 → ∀ j, (hj : j < ps.length) → j < k → ∀ i, i < ps[j].length → (f ps[j] i).2 = 0 := by
  intro k
  induction k with
  | zero => intro _ _ j _ hj; omega
  | succ k ih =>
    intro hk h j hjl hj i hi
    rw [ffAcc_succ f ps k (by omega)] at h
    obtain ⟨h1, h2⟩ := ffPath_none _ h
    by_cases e : j = k
    · subst e; exact h2 i hi
    · exact ih (by omega) h1 j hjl (by omega) i hi
theorem firstFP_none {f : List PPart → Nat → Nat × Nat} {ps : List (List PPart)} (h : (firstFP f ps).2 = 0) : ∀ x ∈ ps, ∀ i, i < x.length → (f x i).2 = 0 := by
  intro x hx i hi
  obtain ⟨j, hj, rfl⟩ := List.getElem_of_mem hx
  exact ffAcc_none ps.length (Nat.le_refl _) h j hj hj i hi
theorem guard_steps {x : List PPart} (hne : x ≠ []) (h : ∀ i, i < x.length → (guardFP x i).2 = 0) : 1 ≤ stepsN x := by
  obtain ⟨p, r, rfl⟩ := List.exists_cons_of_ne_nil hne
  have h0 := h 0 (by simp)
  unfold guardFP at h0
  have e : stepsN [] = 0 := rfl
  cases hs : isStepB p with
  | true => unfold stepsN; simp [hs]
  | false => simp [hs, e] at h0

theorem PathsLie.colr {own own' : Nat → Nat} {w : World} (he : ∀ k, k < w.heap.size → own k = 7 → own' k = 7) {v : Value} {ps : List (List PPart)} (h : PathsLie own w v ps) : PathsLie own' w v ps := by
  obtain ⟨vs, h1, h2, h3, h4⟩ := h
  exact ⟨vs, h1, h2, fun g hg => he g (h2.lt g hg).2 (h3 g hg), fun q hq => ⟨(h4 q hq).1.colr he, (h4 q hq).2⟩⟩
theorem PathsLie.move {own own' : Nat → Nat} {w w' : World} {row : Option Nat} (hg : w.grownBy w' row) (hr : ∀ k, row = some k → own k = 8) (he : ∀ k, k < w.heap.size → own k ≠ 8 → own' k = own k) {v : Value} {ps : List (List PPart)} (h : PathsLie own w v ps) : PathsLie own' w' v ps := by
  have h1 : PathsLie (no8 own) w v ps := h.colr (fun k _ e => by simp [no8, e])
  have h2 := h1.ext (no8_ext hg hr he)
  refine h2.colr (fun k _ e => ?_)
  by_cases hlt : k < w.heap.size
  · simp only [hlt, if_true] at e
    unfold no8 at e
    split at e
    · omega
    · rename_i hne; rw [he k hlt hne]; exact e
  · simp only [hlt, if_false] at e; exact e
theorem PathsLie.at {own : Nat → Nat} {w : World} {g cap len : Nat} {ps : List (List PPart)} (h : PathsLie own w (.slice (some ⟨g, 0, none⟩) len cap) ps) (h0 : 0 < ps.length) : PathsAt own w g ps := by
  obtain ⟨g', c', e, h1, h2, h3⟩ := h.open h0
  cases e
  exact ⟨h1, h2, fun k hk => by obtain ⟨v, a, b⟩ := h3 k hk; exact ⟨v, a, b.1⟩⟩

def boundP (rate : Nat) (ps : List (List PPart)) : Nat := (ps.map fun x => mostP rate (stepsN x)).sum
def makeP (n : Nat) (p : PPat) : (Nat × List (List PPart)) ⊕ (Nat × Nat) :=
  if isBigP n p.body then .inr (0, 6)
  else if (firstFP guardFP (ofSeqP n p.body)).2 ≠ 0 then .inr (firstFP guardFP (ofSeqP n p.body))
  else if (firstFP nameFP (ofSeqP n p.body)).2 ≠ 0 then .inr (firstFP nameFP (ofSeqP n p.body))
  else if 4000 < boundP p.rate (ofSeqP n p.body) then .inr (0, 6) else .inl (boundP p.rate (ofSeqP n p.body), ofSeqP n p.body)
def zeroPlan : Array Value := #[.int .i64 0, .int .i64 0, .int .i64 0, .slice none 0 0]
theorem Blk.fourP {w : World} {N : Nat} (h : Blk w N zeroPlan 67) (v0 v1 v2 v3 : Value) :
    Blk ((((w.setCell ⟨N, 0, none⟩ v0).setCell ⟨N, 1, none⟩ v1).setCell ⟨N, 2, none⟩ v2).setCell ⟨N, 3, none⟩ v3) N #[v0, v1, v2, v3] 67 := by
  have := (((h.set 0 v0).set 1 v1).set 2 v2).set 3 v3
  simpa [zeroPlan] using this
theorem grownBy_four (w : World) (N : Nat) (v0 v1 v2 v3 : Value) : w.grownBy ((((w.setCell ⟨N, 0, none⟩ v0).setCell ⟨N, 1, none⟩ v1).setCell ⟨N, 2, none⟩ v2).setCell ⟨N, 3, none⟩ v3) (some N) :=
  grownBy_trans (grownBy_three w N v0 v1 v2) (grownBy_setCell _ ⟨N, 3, none⟩ v3)
theorem boundP_take (rate : Nat) (ps : List (List PPart)) (k : Nat) (h : k < ps.length) : boundP rate (ps.take (k + 1)) = boundP rate (ps.take k) + mostP rate (stepsN ps[k]) := by
  unfold boundP; rw [List.take_succ_eq_append_getElem h, List.map_append, List.sum_append]; simp
theorem boundP_le {rate : Nat} (hr : rate ≤ 12) {ps : List (List PPart)} (h8 : ∀ x ∈ ps, stepsN x ≤ 8) : ∀ k, k ≤ ps.length → boundP rate (ps.take k) ≤ 3439853568 * k := by
  intro k
  induction k with
  | zero => intro _; show 0 ≤ _; omega
  | succ k ih =>
    intro hk
    rw [boundP_take rate ps k (by omega)]
    have h := ih (by omega)
    have hs := h8 ps[k] (List.getElem_mem (by omega))
    have hm : mostP rate (stepsN ps[k]) ≤ 3439853568 := by
      unfold mostP
      have := (most_bounds hr (stepsN ps[k] - 1) (by omega)).2
      omega
    omega
def ownMk (own : Nat → Nat) (N : Nat) : Nat → Nat := put (put own N 8) (N + 1) 8
theorem ownMk_old {own : Nat → Nat} {N k : Nat} (h : k < N) : ownMk own N k = own k := by unfold ownMk; rw [put_other _ _ _ _ (by omega), put_other _ _ _ _ (by omega)]
theorem ownMk_0 (own : Nat → Nat) (N : Nat) : ownMk own N N = 8 := by unfold ownMk; rw [put_other _ _ _ _ (by omega), put_same]
theorem ownMk_1 (own : Nat → Nat) (N : Nat) : ownMk own N (N + 1) = 8 := put_same _ _ _
theorem ownMk_ext (own : Nat → Nat) (w : World) (o1 o2 : Obj) : Ext own w (ownMk own w.heap.size) ((w.alloc o1).alloc o2) := by
  have := ((Ext.refl own w).allocAs o1 8).allocAs o2 8
  rw [alloc_size] at this; exact this
theorem make_ext {own own1 : Nat → Nat} {w w1 : World} {o1 o2 : Obj} (h : Ext (ownMk own w.heap.size) ((w.alloc o1).alloc o2) own1 w1) : Ext own w own1 w1 := (ownMk_ext own w o1 o2).trans h
end Go.Proofs.YtddbjcfdmdbmkaaGreatDoor

namespace Go.Proofs.YtddbjcfdmdbmkaaGreatDoor
open Go.RowKit

theorem Tryz.infoPlan : (Tryz.prog.info? 67).map (fun i => (i.zero, i.size, i.bytes)) = some (some (.agg #[.int .i64 0, .int .i64 0, .int .i64 0, .slice none 0 0]), 4, 48) := by kernel_rfl
def MakePost (own : Nat → Nat) (w : World) (n : Nat) (p : PPat) (v : Value) (w' : World) : Prop := ∃ own', Ext own w own' w' ∧ match makeP n p with
  | .inr (pl, er) => v = .tuple #[.agg zeroPlan, .int .i64 pl, .int .i64 er]
  | .inl (bd, ps) => ∃ sv, v = .tuple #[.agg #[.int .i64 p.window, .int .i64 p.rate, .int .i64 bd, sv], .int .i64 0, .int .i64 0] ∧ PathsLie own' w' sv ps
def patCells (p : PPat) (sv : Value) : Array Value := #[.int .i64 p.window, .int .i64 p.rate, sv]
theorem make_end0 {own own1 : Nat → Nat} {w w1 : World} (hb1 : Blk w1 (w.heap.size + 1) zeroPlan 67) (hB : Ext own w own1 w1) (v0 v1 v2 v3 : Value) :
    Blk ((((w1.setCell ⟨w.heap.size + 1, 0, none⟩ v0).setCell ⟨w.heap.size + 1, 1, none⟩ v1).setCell ⟨w.heap.size + 1, 2, none⟩ v2).setCell ⟨w.heap.size + 1, 3, none⟩ v3) (w.heap.size + 1) #[v0, v1, v2, v3] 67 ∧
    Ext own w own1 ((((w1.setCell ⟨w.heap.size + 1, 0, none⟩ v0).setCell ⟨w.heap.size + 1, 1, none⟩ v1).setCell ⟨w.heap.size + 1, 2, none⟩ v2).setCell ⟨w.heap.size + 1, 3, none⟩ v3) :=
  ⟨hb1.fourP v0 v1 v2 v3, (((hB.setNew (p := ⟨w.heap.size + 1, 0, none⟩) (Nat.le_succ _) v0).setNew (p := ⟨w.heap.size + 1, 1, none⟩) (Nat.le_succ _) v1).setNew (p := ⟨w.heap.size + 1, 2, none⟩) (Nat.le_succ _) v2).setNew (p := ⟨w.heap.size + 1, 3, none⟩) (Nat.le_succ _) v3⟩

set_option maxRecDepth 100000 in
set_option maxHeartbeats 800000 in
theorem make_big {own : Nat → Nat} {w : World} {n : Nat} {p : PPat} {sv : Value} (h : SeqLie own w n sv p.body) (hb : bnd n p.body ≤ 100000000000000) (hbig : isBigP n p.body = true) :
    Calls Tryz.prog 55 #[.agg #[.int .i64 p.window, .int .i64 p.rate, sv]] w fun e w' => ∃ v, e = .returned v ∧ MakePost own w n p v w' := by
  have HP : Hid (makeP n p = .inr (0, 6)) := by show _ = _; unfold makeP; rw [if_pos hbig]
  have hE0 := ownMk_ext own w (.cells #[.int .i64 p.window, .int .i64 p.rate, sv] 101) (.cells zeroPlan 67)
  have hbox : Blk ((w.alloc (.cells #[.int .i64 p.window, .int .i64 p.rate, sv] 101)).alloc (.cells zeroPlan 67)) w.heap.size #[.int .i64 p.window, .int .i64 p.rate, sv] 101 := (Blk.new w _ _).alloc _
  have hpl : Blk ((w.alloc (.cells #[.int .i64 p.window, .int .i64 p.rate, sv] 101)).alloc (.cells zeroPlan 67)) (w.heap.size + 1) zeroPlan 67 := alloc_at _ _ _ (by simp)
  have hcall := isBig_p (SeqLie.ext hE0 n _ _ h) hb
  rw [hbig] at hcall
  obtain ⟨sa, sb, sc, rfl⟩ := h.form
  clear h hb hbig
  go_enter Tryz.func55, Tryz.ntmps55
  go_wp2_with (go_at_call 84; refine hcall.mono ?_; rintro e w1 ⟨rfl, hb1⟩; have hE1 := (Ext.of_below (own := ownMk own w.heap.size) hb1); have hpl1 := hE1.blk8 (ownMk_1 _ _) hpl; have z0 := hpl1.cell 0; have z1 := hpl1.cell 1; have z2 := hpl1.cell 2; have z3 := hpl1.cell 3; have g0 := hpl1.frozen 0; have g1 := hpl1.frozen 1; have g2 := hpl1.frozen 2; have g3 := hpl1.frozen 3; simp [zeroPlan] at z0 z1 z2 z3)
  have hEnd := make_end0 hpl1 (make_ext hE1) (.int .i64 0) (.int .i64 0) (.int .i64 0) (.slice none 0 0)
  have k0 := hEnd.1.cell 0; have k1 := hEnd.1.cell 1; have k2 := hEnd.1.cell 2; have k3 := hEnd.1.cell 3
  simp at k0 k1 k2 k3
  refine bodyPost_ret (v := .tuple #[.agg zeroPlan, .int .i64 0, .int .i64 6]) (by simp [results, Tryz.results55, go_sem, k0, k1, k2, k3, zeroPlan]) rfl ⟨_, rfl, _, hEnd.2, ?_⟩
  rw [HP.out]; rfl

structure MkPre (n : Nat) (p : PPat) : Prop where
  bnd : bnd n p.body ≤ 100000000000000
  small : isBigP n p.body = false
  wf : WF n p.body
  rate : p.rate ≤ 12
theorem MkPre.facts {n : Nat} {p : PPat} (h : MkPre n p) : (ofSeqP n p.body).length ≤ 16 ∧ 0 < (ofSeqP n p.body).length ∧ ∀ x ∈ ofSeqP n p.body, x ≠ [] ∧ x.length ≤ 1000000 ∧ stepsN x ≤ 8 := by
  have f := seq_fit n p.body h.wf
  have hs := h.small
  unfold isBigP at hs
  simp at hs
  have hb : Go.Proofs.YtddbjcfdmdbmkaaGreatDoor.bnd n p.body ≤ 100000 := by
    have := h.wf
    cases n with
    | zero => exact this.elim
    | succ n => exact this.2.2.1
  refine ⟨by rw [f.cnt]; omega, f.pos, fun x hx => ⟨f.ne x hx, Nat.le_trans (f.len x hx) (by omega), ?_⟩⟩
  exact Nat.le_trans (seq_steps n p.body h.wf x hx) hs.2

set_option maxRecDepth 100000 in
set_option maxHeartbeats 800000 in
theorem make_guard {own : Nat → Nat} {w : World} {n : Nat} {p : PPat} {sv : Value} (h : SeqLie own w n sv p.body) (hpre : MkPre n p) (hbad : (firstFP guardFP (ofSeqP n p.body)).2 ≠ 0) :
    Calls Tryz.prog 55 #[.agg #[.int .i64 p.window, .int .i64 p.rate, sv]] w fun e w' => ∃ v, e = .returned v ∧ MakePost own w n p v w' := by
  have HP : Hid (makeP n p = .inr (firstFP guardFP (ofSeqP n p.body))) := by show _ = _; unfold makeP; rw [if_neg (by simp [hpre.small]), if_pos hbad]
  have hE0 := ownMk_ext own w (.cells #[.int .i64 p.window, .int .i64 p.rate, sv] 101) (.cells zeroPlan 67)
  have hbox : Blk ((w.alloc (.cells #[.int .i64 p.window, .int .i64 p.rate, sv] 101)).alloc (.cells zeroPlan 67)) w.heap.size #[.int .i64 p.window, .int .i64 p.rate, sv] 101 := (Blk.new w _ _).alloc _
  have hpl : Blk ((w.alloc (.cells #[.int .i64 p.window, .int .i64 p.rate, sv] 101)).alloc (.cells zeroPlan 67)) (w.heap.size + 1) zeroPlan 67 := alloc_at _ _ _ (by simp)
  have hS0 := SeqLie.ext hE0 n _ _ h
  have hcall := isBig_p hS0 hpre.bnd
  rw [hpre.small] at hcall
  have hcall2 := fun w1 hE => ofSequence_p n (ownMk own w.heap.size) w1 sv p.body (SeqLie.ext hE n _ _ hS0) hpre.wf
  obtain ⟨f1, f2, f3⟩ := hpre.facts
  obtain ⟨sa, sb, sc, rfl⟩ := h.form
  generalize ofSeqP n p.body = ps at *
  have hcall3 := fun (w2 : World) own2 gp cp (hL : PathsLie own2 w2 (.slice (some ⟨gp, 0, none⟩) ps.length cp) ps) => firstFault_p (cap := cp) look_guard (hL.at f2) (by omega) (fun x hx => (f3 x hx).2.1)
  generalize firstFP guardFP ps = r at *
  have b0 : ((r.2 : Int) != 0) = true := by simp; omega
  clear h hpre hbad hS0
  go_enter Tryz.func55, Tryz.ntmps55
  go_wp2_with (first
    | (go_at_call 86; refine (hcall3 _ _ _ _ hL2).mono ?_; rintro e w3 ⟨rfl, hb3⟩; have hE3 := hE2'.trans (Ext.of_below hb3); have hpl3 := hE3.blk8 (ownMk_1 _ _) hpl; have z0 := hpl3.cell 0; have z1 := hpl3.cell 1; have z2 := hpl3.cell 2; have z3 := hpl3.cell 3; have g0 := hpl3.frozen 0; have g1 := hpl3.frozen 1; have g2 := hpl3.frozen 2; have g3 := hpl3.frozen 3; simp [zeroPlan] at z0 z1 z2 z3)
    | (go_at_call 85; refine (hcall2 w1 hE1).mono ?_; rintro e w2 ⟨v2, rfl, own2, hE2, hL2⟩; obtain ⟨gp, cp, rfl, _⟩ := hL2.open f2; have hE2' := hE1.trans hE2)
    | (go_at_call 84; refine hcall.mono ?_; rintro e w1 ⟨rfl, hb1⟩; have hE1 := (Ext.of_below (own := ownMk own w.heap.size) hb1); have hbox1 := hE1.blk8 (ownMk_0 _ _) hbox; have y2 := hbox1.cell 2; simp at y2; have hlt1 := hbox1.lt))
  have hEnd := make_end0 hpl3 (make_ext hE3) (.int .i64 0) (.int .i64 0) (.int .i64 0) (.slice none 0 0)
  have k0 := hEnd.1.cell 0; have k1 := hEnd.1.cell 1; have k2 := hEnd.1.cell 2; have k3 := hEnd.1.cell 3
  simp at k0 k1 k2 k3
  refine bodyPost_ret (v := .tuple #[.agg zeroPlan, .int .i64 r.1, .int .i64 r.2]) (by simp [results, Tryz.results55, go_sem, k0, k1, k2, k3, zeroPlan]) rfl ⟨_, rfl, _, hEnd.2, ?_⟩
  rw [HP.out]
end Go.Proofs.YtddbjcfdmdbmkaaGreatDoor

namespace Go.Proofs.YtddbjcfdmdbmkaaGreatDoor
open Go.RowKit

set_option maxRecDepth 100000 in
set_option maxHeartbeats 800000 in
theorem make_name {own : Nat → Nat} {w : World} {n : Nat} {p : PPat} {sv : Value} (h : SeqLie own w n sv p.body) (hpre : MkPre n p) (hgood : (firstFP guardFP (ofSeqP n p.body)).2 = 0) (hbad : (firstFP nameFP (ofSeqP n p.body)).2 ≠ 0) :
    Calls Tryz.prog 55 #[.agg #[.int .i64 p.window, .int .i64 p.rate, sv]] w fun e w' => ∃ v, e = .returned v ∧ MakePost own w n p v w' := by
  have HP : Hid (makeP n p = .inr (firstFP nameFP (ofSeqP n p.body))) := by show _ = _; unfold makeP; rw [if_neg (by simp [hpre.small]), if_neg (by simp [hgood]), if_pos hbad]
  have hE0 := ownMk_ext own w (.cells #[.int .i64 p.window, .int .i64 p.rate, sv] 101) (.cells zeroPlan 67)
  have hbox : Blk ((w.alloc (.cells #[.int .i64 p.window, .int .i64 p.rate, sv] 101)).alloc (.cells zeroPlan 67)) w.heap.size #[.int .i64 p.window, .int .i64 p.rate, sv] 101 := (Blk.new w _ _).alloc _
  have hpl : Blk ((w.alloc (.cells #[.int .i64 p.window, .int .i64 p.rate, sv] 101)).alloc (.cells zeroPlan 67)) (w.heap.size + 1) zeroPlan 67 := alloc_at _ _ _ (by simp)
  have hS0 := SeqLie.ext hE0 n _ _ h
  have hcall := isBig_p hS0 hpre.bnd
  rw [hpre.small] at hcall
  have hcall2 := fun w1 hE => ofSequence_p n (ownMk own w.heap.size) w1 sv p.body (SeqLie.ext hE n _ _ hS0) hpre.wf
  obtain ⟨f1, f2, f3⟩ := hpre.facts
  obtain ⟨sa, sb, sc, rfl⟩ := h.form
  generalize ofSeqP n p.body = ps at *
  have hcall3 := fun (w2 : World) own2 gp cp (hL : PathsLie own2 w2 (.slice (some ⟨gp, 0, none⟩) ps.length cp) ps) => firstFault_p (cap := cp) look_guard (hL.at f2) (by omega) (fun x hx => (f3 x hx).2.1)
  have hcall4 := fun (w2 : World) own2 gp cp (hL : PathsLie own2 w2 (.slice (some ⟨gp, 0, none⟩) ps.length cp) ps) => firstFault_p (cap := cp) look_name (hL.at f2) (by omega) (fun x hx => (f3 x hx).2.1)
  rw [hgood] at hcall3
  generalize firstFP guardFP ps = r0 at *
  generalize firstFP nameFP ps = r at *
  have b0 : ((r.2 : Int) != 0) = true := by simp; omega
  clear h hpre hbad hS0 hgood
  go_enter Tryz.func55, Tryz.ntmps55
  go_wp2_with (first
    | (go_at_call 86; refine (hcall4 _ _ _ _ hL3).mono ?_; rintro e w4 ⟨rfl, hb4⟩; have hE4 := hE3.trans (Ext.of_below hb4); have hpl4 := hE4.blk8 (ownMk_1 _ _) hpl; have z0 := hpl4.cell 0; have z1 := hpl4.cell 1; have z2 := hpl4.cell 2; have z3 := hpl4.cell 3; have g0 := hpl4.frozen 0; have g1 := hpl4.frozen 1; have g2 := hpl4.frozen 2; have g3 := hpl4.frozen 3; simp [zeroPlan] at z0 z1 z2 z3)
    | (go_at_call 86; refine (hcall3 _ _ _ _ hL2).mono ?_; rintro e w3 ⟨rfl, hb3⟩; have hE3 := hE2'.trans (Ext.of_below hb3); have hL3 := hL2.ext (Ext.of_below hb3))
    | (go_at_call 85; refine (hcall2 w1 hE1).mono ?_; rintro e w2 ⟨v2, rfl, own2, hE2, hL2⟩; obtain ⟨gp, cp, rfl, _⟩ := hL2.open f2; have hE2' := hE1.trans hE2)
    | (go_at_call 84; refine hcall.mono ?_; rintro e w1 ⟨rfl, hb1⟩; have hE1 := (Ext.of_below (own := ownMk own w.heap.size) hb1); have hbox1 := hE1.blk8 (ownMk_0 _ _) hbox; have y2 := hbox1.cell 2; simp at y2; have hlt1 := hbox1.lt))
  have hEnd := make_end0 hpl4 (make_ext hE4) (.int .i64 0) (.int .i64 0) (.int .i64 0) (.slice none 0 0)
  have k0 := hEnd.1.cell 0; have k1 := hEnd.1.cell 1; have k2 := hEnd.1.cell 2; have k3 := hEnd.1.cell 3
  simp at k0 k1 k2 k3
  refine bodyPost_ret (v := .tuple #[.agg zeroPlan, .int .i64 r.1, .int .i64 r.2]) (by simp [results, Tryz.results55, go_sem, k0, k1, k2, k3, zeroPlan]) rfl ⟨_, rfl, _, hEnd.2, ?_⟩
  rw [HP.out]

set_option maxRecDepth 100000 in
set_option maxHeartbeats 1600000 in
theorem make_tail {own : Nat → Nat} {w : World} {n : Nat} {p : PPat} {sv : Value} (h : SeqLie own w n sv p.body) (hpre : MkPre n p) (hgood : (firstFP guardFP (ofSeqP n p.body)).2 = 0) (hgood2 : (firstFP nameFP (ofSeqP n p.body)).2 = 0) :
    Calls Tryz.prog 55 #[.agg #[.int .i64 p.window, .int .i64 p.rate, sv]] w fun e w' => ∃ v, e = .returned v ∧ MakePost own w n p v w' := by
  have HP : Hid (makeP n p = if 4000 < boundP p.rate (ofSeqP n p.body) then .inr (0, 6) else .inl (boundP p.rate (ofSeqP n p.body), ofSeqP n p.body)) := by show _ = _; unfold makeP; rw [if_neg (by simp [hpre.small]), if_neg (by simp [hgood]), if_neg (by simp [hgood2])]
  have hE0 := ownMk_ext own w (.cells #[.int .i64 p.window, .int .i64 p.rate, sv] 101) (.cells zeroPlan 67)
  have hbox : Blk ((w.alloc (.cells #[.int .i64 p.window, .int .i64 p.rate, sv] 101)).alloc (.cells zeroPlan 67)) w.heap.size #[.int .i64 p.window, .int .i64 p.rate, sv] 101 := (Blk.new w _ _).alloc _
  have hpl : Blk ((w.alloc (.cells #[.int .i64 p.window, .int .i64 p.rate, sv] 101)).alloc (.cells zeroPlan 67)) (w.heap.size + 1) zeroPlan 67 := alloc_at _ _ _ (by simp)
  have hS0 := SeqLie.ext hE0 n _ _ h
  have hcall := isBig_p hS0 hpre.bnd
  rw [hpre.small] at hcall
  have hcall2 := fun w1 hE => ofSequence_p n (ownMk own w.heap.size) w1 sv p.body (SeqLie.ext hE n _ _ hS0) hpre.wf
  obtain ⟨f1, f2, f3⟩ := hpre.facts
  have hr12 := hpre.rate
  obtain ⟨sa, sb, sc, rfl⟩ := h.form
  have hst : ∀ x ∈ ofSeqP n p.body, 1 ≤ stepsN x := fun x hx => guard_steps (f3 x hx).1 (firstFP_none hgood x hx)
  generalize ofSeqP n p.body = ps at *
  have hcall3 := fun (w2 : World) own2 gp cp (hL : PathsLie own2 w2 (.slice (some ⟨gp, 0, none⟩) ps.length cp) ps) => firstFault_p (cap := cp) look_guard (hL.at f2) (by omega) (fun x hx => (f3 x hx).2.1)
  have hcall4 := fun (w2 : World) own2 gp cp (hL : PathsLie own2 w2 (.slice (some ⟨gp, 0, none⟩) ps.length cp) ps) => firstFault_p (cap := cp) look_name (hL.at f2) (by omega) (fun x hx => (f3 x hx).2.1)
  have hcall5 := fun (w2 : World) own2 v k (hk : k < ps.length) (hV : PathV own2 w2 v ps[k]) => mostRuns_p hV (f3 _ (List.getElem_mem hk)).2.1 (f3 _ (List.getElem_mem hk)).2.2 (hst _ (List.getElem_mem hk)) hr12
  have HB : ∀ k, k ≤ ps.length → boundP p.rate (ps.take k) ≤ 3439853568 * k := boundP_le hr12 (fun x hx => (f3 x hx).2.2)
  have HT : Hid (boundP p.rate (ps.take ps.length) = boundP p.rate ps) := by show _ = _; rw [List.take_length]
  rw [hgood] at hcall3
  rw [hgood2] at hcall4
  clear h hpre hS0 hgood hgood2 f3 hst
  go_enter Tryz.func55, Tryz.ntmps55
  go_wp2_with (first
    | (go_at_call 86; refine (hcall4 _ _ _ _ hL3).mono ?_; rintro e w4 ⟨rfl, hb4⟩; have hE4 := hE3.trans (Ext.of_below hb4); have hL4 := hL3.ext (Ext.of_below hb4); have hb24 := hb3.trans (hb4.mono hb3.size))
    | (go_at_call 86; refine (hcall3 _ _ _ _ hL2).mono ?_; rintro e w3 ⟨rfl, hb3⟩; have hE3 := hE2'.trans (Ext.of_below hb3); have hL3 := hL2.ext (Ext.of_below hb3))
    | (go_at_call 85; refine (hcall2 w1 hE1).mono ?_; rintro e w2 ⟨v2, rfl, own2, hE2, hL2⟩; obtain ⟨gp, cp, rfl, _⟩ := hL2.open f2; have hE2' := hE1.trans hE2)
    | (go_at_call 84; refine hcall.mono ?_; rintro e w1 ⟨rfl, hb1⟩; have hE1 := (Ext.of_below (own := ownMk own w.heap.size) hb1); have hbox1 := hE1.blk8 (ownMk_0 _ _) hbox; have y2 := hbox1.cell 2; simp at y2; have hlt1 := hbox1.lt))
  have hbox4 := hE4.blk8 (ownMk_0 _ _) hbox
  have hpl4 := hE4.blk8 (ownMk_1 _ _) hpl
  have ho4 : own2 (w.heap.size + 1) = 8 := (hE4.same _ hpl.lt).trans (ownMk_1 _ _)
  have hB4 := make_ext hE4
  clear hcall hcall2 hcall3 hcall4 hL2 hL3 hE2' hE3 hE0 hE1 hE2 hb1 hb3 hb4 hb24 hbox hpl hbox1
  go_loopw [10, 42] (fun a i wr => ∃ k : Nat, k ≤ ps.length ∧ i = .int .i64 k ∧ a = .int .i64 (boundP p.rate (ps.take k)) ∧ Below w4.heap.size w4 wr) (fun _ i _ => ps.length - (intOf i).toNat)
  case atStart => exact ⟨0, Nat.zero_le _, rfl, rfl, Below.refl _ _⟩
  case round =>
    obtain ⟨k, hk, rfl, rfl, hbel⟩ := hrel
    have hEr := Ext.of_below (own := own2) hbel
    have hLr := hL4.ext hEr
    have hboxr := hEr.kept.blk ⟨hbox4.lt, by rw [(hE4.same _ (by simp; omega)).trans (ownMk_0 _ _)]; decide⟩ hbox4
    have hplr := hEr.blk8 ho4 hpl4
    have y0 := hboxr.cell 0; have y1 := hboxr.cell 1
    simp at y0 y1
    have hbk := HB k hk
    by_cases hlt : k < ps.length
    · obtain ⟨g', c', e', _, _, hcell⟩ := hLr.open f2
      cases e'
      obtain ⟨pv, hc, hN⟩ := hcell k hlt
      have hc5 := hcall5 wr own2 pv k hlt hN.1
      obtain ⟨pa, pb, pc, rfl⟩ := hN.1.form
      have HS : Hid (boundP p.rate (ps.take (k + 1)) = boundP p.rate (ps.take k) + mostP p.rate (stepsN ps[k])) := boundP_take p.rate ps k hlt
      have hbk1 := HB (k + 1) hlt
      rw [HS.out] at hbk1
      have hki : (k : Int) < (ps.length : Int) := by omega
      have hk0 : (0 : Int) ≤ (k : Int) := by omega
      generalize boundP p.rate (ps.take k) = acc at *
      generalize mostP p.rate (stepsN ps[k]) = more at *
      clear hcell HB hcall5 hN hL4 hLr
      go_wp2_with (go_at_call 89; refine hc5.mono ?_; rintro e w5 ⟨rfl, hb5⟩)
      go_roundw
      case rel => exact ⟨k + 1, hlt, by go_num, by rw [HS.out]; congr 1, hbel.trans (hb5.mono hbel.size)⟩
      case measure => simp [intOf]; omega
    · have ek : k = ps.length := by omega
      subst ek
      rw [HT.out] at hbk
      have HT' : Hid (Value.int .i64 (boundP p.rate (ps.take ps.length)) = Value.int .i64 (boundP p.rate ps)) := by show _ = _; rw [HT.out]
      rw [HT.out]
      generalize boundP p.rate ps = bd at *
      have z0 := hplr.cell 0; have z1 := hplr.cell 1; have z2 := hplr.cell 2; have z3 := hplr.cell 3; have g0 := hplr.frozen 0; have g1 := hplr.frozen 1; have g2 := hplr.frozen 2; have g3 := hplr.frozen 3
      simp [zeroPlan] at z0 z1 z2 z3
      have hBr : Ext own w own2 wr := hB4.trans hEr
      by_cases hbig : 4000 < bd
      · have hbi : (4000 : Int) < (bd : Int) := by omega
        have HQ : Hid (makeP n p = .inr (0, 6)) := by show _ = _; rw [HP.out, if_pos hbig]
        clear hbig HP
        go_wp2
        have hEnd := make_end0 hplr hBr (.int .i64 0) (.int .i64 0) (.int .i64 0) (.slice none 0 0)
        have k0 := hEnd.1.cell 0; have k1 := hEnd.1.cell 1; have k2 := hEnd.1.cell 2; have k3 := hEnd.1.cell 3
        simp at k0 k1 k2 k3
        refine bodyPost_ret (v := .tuple #[.agg zeroPlan, .int .i64 0, .int .i64 6]) (by simp [results, Tryz.results55, go_sem, k0, k1, k2, k3, zeroPlan]) rfl ⟨_, rfl, _, hEnd.2, ?_⟩
        rw [HQ.out]; rfl
      · have hbi : ¬ (4000 : Int) < (bd : Int) := by omega
        have HQ : Hid (makeP n p = .inl (bd, ps)) := by show _ = _; rw [HP.out, if_neg hbig]
        clear hbig HP
        go_wp2
        have hEnd := make_end0 hplr hBr (.int .i64 p.window) (.int .i64 p.rate) (.int .i64 bd) (.slice (some ⟨gp, 0, none⟩) ps.length cp)
        have k0 := hEnd.1.cell 0; have k1 := hEnd.1.cell 1; have k2 := hEnd.1.cell 2; have k3 := hEnd.1.cell 3
        simp at k0 k1 k2 k3
        refine bodyPost_ret (v := .tuple #[.agg #[.int .i64 p.window, .int .i64 p.rate, .int .i64 bd, .slice (some ⟨gp, 0, none⟩) ps.length cp], .int .i64 0, .int .i64 0]) (by simp [results, Tryz.results55, go_sem, k0, k1, k2, k3]) rfl ⟨_, rfl, _, hEnd.2, ?_⟩
        rw [HQ.out]
        exact ⟨_, rfl, (hLr.move (own' := own2) (grownBy_four wr (w.heap.size + 1) _ _ _ _) (fun k e => by cases e; exact ho4) (fun _ _ _ => rfl))⟩

theorem make_p {own : Nat → Nat} {w : World} {n : Nat} {p : PPat} {sv : Value} (h : SeqLie own w n sv p.body) (hb : bnd n p.body ≤ 100000000000000) (hr : p.rate ≤ 12) (hw : isBigP n p.body = false → WF n p.body) :
    Calls Tryz.prog 55 #[.agg #[.int .i64 p.window, .int .i64 p.rate, sv]] w fun e w' => ∃ v, e = .returned v ∧ MakePost own w n p v w' := by
  cases hbig : isBigP n p.body with
  | true => exact make_big h hb hbig
  | false =>
    have hpre : MkPre n p := ⟨hb, hbig, hw hbig, hr⟩
    by_cases h1 : (firstFP guardFP (ofSeqP n p.body)).2 = 0
    · by_cases h2 : (firstFP nameFP (ofSeqP n p.body)).2 = 0
      · exact make_tail h hpre h1 h2
      · exact make_name h hpre h1 h2
    · exact make_guard h hpre h1
end Go.Proofs.YtddbjcfdmdbmkaaGreatDoor

namespace Go.Proofs.YtddbjcfdmdbmkaaGreatDoor
open Go.RowKit

def Bad (σ : Rd) : Prop := σ.bn ≠ none ∨ ∃ t, σ.ahead = [t] ∧ t.kind = 0 ∧ ∀ k ∈ KW, (k.toList == t.text.toList) = false
theorem bad_fail (σ : Rd) : Bad σ.fail := .inr ⟨_, rfl, rfl, (good_end σ.now.place).2⟩
theorem bad_has {σ : Rd} {ts : List ByteArray} (hts : ∀ t ∈ ts, t ∈ KW) (hh : σ.has ts = true) (h : Bad σ) : σ.bn ≠ none := by
  rcases h with h | ⟨t, ha, _, ht⟩
  · exact h
  · simp only [Rd.has, List.any_eq_true, Rd.now, ha, List.headD] at hh
    obtain ⟨x, hx, he⟩ := hh
    rw [ht x (hts x hx)] at he; cases he
theorem bad_is {σ : Rd} {t : ByteArray} (ht : t ∈ KW) (hh : σ.now.is t = true) (h : Bad σ) : σ.bn ≠ none := by
  refine bad_has (ts := [t]) (by simpa using ht) ?_ h
  simp only [Rd.has, List.any_cons, List.any_nil, Bool.or_false]
  simp only [STok.is, beq_iff_eq] at hh ⊢; exact hh.symm
theorem bad_kind {σ : Rd} (hk : σ.now.kind ≠ 0) (h : Bad σ) : σ.bn ≠ none := by
  rcases h with h | ⟨t, ha, h0, _⟩
  · exact h
  · simp only [Rd.now, ha, List.headD] at hk; exact absurd h0 hk
theorem bad_of {σ σ' : Rd} (e : σ'.bn = σ.bn) (h : σ.bn ≠ none) : Bad σ' := .inl (by rw [e]; exact h)
theorem bad_expect {σ : Rd} {ts : List ByteArray} (hts : ∀ t ∈ ts, t ∈ KW) (h : Bad σ) : Bad (σ.expect ts) := by
  unfold Rd.expect; split
  · rename_i hh; exact bad_of (σ := σ) rfl (bad_has hts hh h)
  · exact bad_fail σ
theorem mark_some {m : Option Nat} {p : Nat} : markPut m p ≠ none := by cases m <;> simp [markPut]
theorem bad_num {σ : Rd} (lo hi : Nat) (h : Bad σ) : Bad (σ.num lo hi) := by
  unfold Rd.num; split
  · rename_i hk
    have hb := bad_kind (by omega) h
    refine .inl ?_
    show (if _ then _ else _) ≠ none
    split
    · exact mark_some
    · exact hb
  · exact bad_fail σ
def KBad (f : Rd → Rd) : Prop := ∀ σ, Bad σ → Bad (f σ)
theorem bad_chainL {f : Rd → Rd} (hf : KBad f) {ts : List ByteArray} (hts : ∀ t ∈ ts, t ∈ KW) : ∀ k, KBad (chainL f ts k) := by
  intro k
  induction k with
  | zero => intro σ h; exact h
  | succ k ih =>
    intro σ h
    unfold chainL; split
    · rename_i hh; exact ih _ (hf _ (bad_of (σ := σ) (σ' := σ.skip) rfl (bad_has hts hh h)))
    · exact h
theorem bad_chainP {f : Rd → Rd} (hf : KBad f) {ts : List ByteArray} (hts : ∀ t ∈ ts, t ∈ KW) : KBad (chainP f ts) := fun σ h => bad_chainL hf hts _ _ (hf σ h)
theorem bad_field {σ : Rd} (h : σ.bn ≠ none) (name : ByteArray) (place : Nat) : Bad (fieldP σ name place) :=
  bad_expect (ts := sField) (by simp [KW, sField]) (bad_expect (ts := [tDot]) (by simp [KW]) (bad_of (σ := σ) (σ' := σ.skip) rfl h))
theorem bad_sum {f : Rd → Rd} (hf : KBad f) : KBad (sumP f) := bad_chainP (bad_chainP hf (by simp [KW])) (by simp [KW])
theorem bad_factor : ∀ n, KBad (factorP n) := by
  intro n
  induction n with
  | zero => intro σ h; exact h
  | succ n ih =>
    intro σ h
    unfold factorP
    split
    · exact bad_num (σ := σ) 0 999999999 h
    split
    · rename_i hm; exact ih _ (bad_of (σ := σ) (σ' := σ.enter) rfl (bad_is (by simp [KW]) hm h))
    split
    · rename_i hm; exact bad_expect (ts := [tClose]) (by simp [KW]) (bad_sum ih _ (bad_of (σ := σ) (σ' := σ.enter) rfl (bad_is (by simp [KW]) hm h)))
    split
    · rename_i hk; exact bad_field (bad_kind (by omega) h) _ _
    split
    · rename_i hm; exact bad_field (bad_is (by simp [KW]) hm h) _ _
    · exact bad_fail σ
theorem bad_test {f : Rd → Rd} (hf : KBad f) : KBad (testP f) := fun σ h => bad_sum hf _ (bad_expect (ts := sTest) (by simp [KW, sTest]) (bad_sum hf σ h))
theorem bad_cond {n : Nat} : KBad (condP n) := by
  intro σ h
  unfold condP; split
  · rename_i hh
    exact bad_chainP (bad_chainP (bad_test (bad_factor n)) (by simp [KW])) (by simp [KW]) _ (bad_of (σ := σ) rfl (bad_has (by simp [KW]) hh h))
  · rcases h with h | h
    · exact .inl h
    · exact .inr h
def KBadP {α : Type} (f : Rd → Rd × α) : Prop := ∀ σ, Bad σ → Bad (f σ).1
theorem bad_step {n : Nat} {σ : Rd} (hk : σ.now.kind ≠ 0) (h : Bad σ) : Bad (stepP n σ).1 := by
  have a := bad_num 0 99 (bad_expect (ts := [tColon]) (by simp [KW]) (bad_of (σ := σ) (σ' := σ.skip) rfl (bad_kind hk h)))
  unfold stepP; simp only
  by_cases hh : ((σ.skip.expect [tColon]).num 0 99).has [tTimes] = true
  · simp only [hh, if_true]
    exact bad_cond _ (bad_num 1 4 (bad_of (σ := (σ.skip.expect [tColon]).num 0 99) (σ' := ((σ.skip.expect [tColon]).num 0 99).skip) rfl (bad_has (by simp [KW]) hh a)))
  · simp only [hh]
    exact bad_cond _ a
theorem bad_seqL {part : Rd → Rd × PPart} (hp : KBadP part) : ∀ k l, KBadP (fun σ => seqL part k σ l) := by
  intro k
  induction k with
  | zero => intro l σ h; exact h
  | succ k ih =>
    intro l σ h
    show Bad (seqL part (k + 1) σ l).1
    unfold seqL; split
    · rename_i hh; exact ih _ _ (hp _ (bad_of (σ := σ) (σ' := σ.skip) rfl (bad_has (by simp [KW]) hh h)))
    · exact h
theorem bad_seq {part : Rd → Rd × PPart} (hp : KBadP part) : KBadP (seqP part) := fun σ h => bad_seqL hp _ _ _ (hp σ h)
theorem bad_barL {seq : Rd → Rd × List PPart} (hp : KBadP seq) : ∀ k l, KBadP (fun σ => barL seq k σ l) := by
  intro k
  induction k with
  | zero => intro l σ h; exact h
  | succ k ih =>
    intro l σ h
    show Bad (barL seq (k + 1) σ l).1
    unfold barL; split
    · rename_i hh; exact ih _ _ (hp _ (bad_of (σ := σ) (σ' := σ.skip) rfl (bad_has (by simp [KW]) hh h)))
    · exact h
theorem bad_brackets {seq : Rd → Rd × List PPart} (hp : KBadP seq) {σ : Rd} (h : σ.bn ≠ none) : Bad (bracketsP seq σ).1 :=
  bad_expect (ts := [tClose]) (by simp [KW]) (bad_barL hp _ _ _ (hp _ (bad_expect (ts := [tBar]) (by simp [KW]) (hp _ (bad_of (σ := σ) (σ' := σ.enter) rfl h)))))
theorem bad_part : ∀ n, KBadP (partP n) := by
  intro n
  induction n with
  | zero => intro σ h; exact h
  | succ n ih =>
    intro σ h
    unfold partP
    split
    · rename_i hk; exact bad_step (by omega) h
    split
    · rename_i hm; exact bad_cond _ (bad_num 0 99 (bad_of (σ := σ) (σ' := σ.skip) rfl (bad_is (by simp [KW]) hm h)))
    split
    · rename_i hm; exact bad_brackets (bad_seq ih) (bad_is (by simp [KW]) hm h)
    · exact bad_fail σ
theorem fine_expect {σ : Rd} {ts : List ByteArray} (h : ¬ Bad (σ.expect ts)) : σ.has ts = true ∧ σ.expect ts = σ.skip := by
  unfold Rd.expect at h ⊢
  by_cases hh : σ.has ts = true
  · exact ⟨hh, if_pos hh⟩
  · rw [if_neg hh] at h; exact absurd (bad_fail σ) h
theorem fine_num {σ : Rd} {lo hi : Nat} (h : ¬ Bad (σ.num lo hi)) : σ.now.kind = 2 ∧ lo ≤ σ.numV ∧ σ.numV ≤ hi ∧ (σ.num lo hi).ahead = σ.skip.ahead := by
  by_cases hk : σ.now.kind = 2
  · unfold Rd.num at h ⊢
    rw [if_pos hk] at h ⊢
    unfold Rd.numV; rw [if_pos hk]
    by_cases hb : numVal σ.now.text < lo ∨ hi < numVal σ.now.text
    · refine absurd (.inl ?_) h
      simp only [hb, if_true]; exact mark_some
    · exact ⟨hk, by omega, by omega, rfl⟩
  · unfold Rd.num at h; rw [if_neg hk] at h; exact absurd (bad_fail σ) h
end Go.Proofs.YtddbjcfdmdbmkaaGreatDoor
