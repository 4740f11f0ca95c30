import Derived.Test.YtddbjcfdmdbmkaaGreatDoorP05
set_option linter.unusedVariables false
set_option linter.unusedSimpArgs false
/-
  The document's Compile: the walk.
-/
namespace Go.Proofs.YtddbjcfdmdbmkaaGreatDoor
open Go.RowKit

set_option maxRecDepth 100000 in
set_option maxHeartbeats 800000 in
/-- Read found an error. -/
theorem comp_err (τ : PSt) (s : ByteArray) (w : World) (p : Int) (e : Nat) (he : 1 ≤ e) (he2 : e ≤ 8) (hR : Calls Tryz.prog 57 #[.string s] w fun e' w' => e' = .returned (.tuple #[.pointer none, .int .i64 p, .int .i64 (e : Nat)]) ∧ Below w.heap.size w w') :
    Calls Tryz.prog 39 #[.string s] w fun e' w' => ∃ v, e' = .returned v ∧ DocComp w τ (.inr (p, e)) v w' := by
  have he' : ((e : Int) != 0) = true := by simp; omega
  clear he he2
  go_enter Tryz.func39, Tryz.ntmps39
  go_wp2_with fail
  refine hR.mono ?_
  rintro e' w1 ⟨rfl, hB⟩
  go_wp2
  exact bodyPost_ret (v := .tuple #[.pointer none, .int .i64 p, .int .i64 (e : Nat)]) (by simp [results, Tryz.results39, go_sem]) rfl ⟨_, rfl, hB, rfl⟩

/-- in Compile's loops -/
def CLd (own : Nat → Nat) (w : World) (b : Nat) (m : PM) (τ : PSt) (X : Nat) (rv : Value) (rows : List (List Nat)) (ps : List (List (Nat × List Nat))) (bd : Nat) (wr : World) : Prop := ∃ own' pv, EC own w b m τ X pv ps bd own' wr ∧ Wayz own' wr rv rows

set_option maxRecDepth 100000 in
set_option maxHeartbeats 6400000 in
theorem comp_core (s : ByteArray) (w : World) (τ : PSt) (out : List Nat) (hC : CH τ out) (hR : Calls Tryz.prog 57 #[.string s] w fun e' w' => ∃ b own m, e' = .returned (.tuple #[.pointer (some ⟨b, 0, none⟩), .int .i64 0, .int .i64 0]) ∧ St own w' b m τ ∧ Ints own w' m.av out ∧ Ext all7 w own w') :
    Calls Tryz.prog 39 #[.string s] w fun e' w' => ∃ v, e' = .returned v ∧ DocComp w τ (compF τ out) v w' := by
  have hSize := size_any hC.pwf τ.parts.length (Nat.le_refl _) out hC.outs.2 hC.outs.1
  have hsb := sizeF_bound τ.parts hC.pwf τ.parts.length out hC.outs.1
  go_enter Tryz.func39, Tryz.ntmps39
  go_wp2_with fail
  refine hR.mono ?_
  rintro e' w' ⟨b, own, m, rfl, hS, hI, hE⟩
  obtain ⟨oa, on, oc, eav⟩ := hI.form
  have c12 := hS.cell 12
  have hbl := hS.blk.lt
  simp [PCells] at c12
  rw [eav] at c12 hI
  have HB : Hid (∀ (own' : Nat → Nat) (w2 : World), Ext own w' own' w2 → Below w.heap.size w w2) := fun own' w2 h => below_all7 (hE.trans h)
  have HW0 : Hid (w.heap.size ≤ w'.heap.size) := hE.size
  clear hR hE
  go_upto_region 5 with (first
    | (go_at_call 58; refine (hSize own w' b m _ hS hI).mono ?_; rintro e w2 ⟨rfl, own2, hS2, hE2⟩; have hb2 := hS2.blk.lt; have c12' := hS2.cell 12; simp [PCells] at c12'; rw [eav] at c12'; have hI2 := hI.ext hE2))
  by_cases hbig : 16 < (sizeF τ.parts τ.parts.length out).1 ∨ 8 < (sizeF τ.parts τ.parts.length out).2
  · have HF : Hid (compF τ out = .inr (0, 6)) := by show _ = _; unfold compF; rw [if_pos hbig]
    have hE' : Hid (Below w.heap.size w w2) := HB.out _ _ hE2
    generalize (sizeF τ.parts τ.parts.length out).1 = n1 at *
    generalize (sizeF τ.parts τ.parts.length out).2 = n2 at *
    by_cases h16 : 16 < n1
    · have h16' : (16 : Int) < (n1 : Int) := by omega
      clear hbig
      go_wp2
      refine bodyPost_ret (v := .tuple #[.pointer none, .int .i64 0, .int .i64 6]) (by simp [results, Tryz.results39, go_sem]) rfl ⟨_, rfl, hE'.out, ?_⟩
      rw [HF.out]; rfl
    · have h16' : (n1 : Int) ≤ 16 := by omega
      have h8' : (8 : Int) < (n2 : Int) := by omega
      clear hbig h16
      go_wp2
      refine bodyPost_ret (v := .tuple #[.pointer none, .int .i64 0, .int .i64 6]) (by simp [results, Tryz.results39, go_sem]) rfl ⟨_, rfl, hE'.out, ?_⟩
      rw [HF.out]; rfl
  · have h16' : ((sizeF τ.parts τ.parts.length out).1 : Int) ≤ 16 := by omega
    have h8' : ((sizeF τ.parts τ.parts.length out).2 : Int) ≤ 8 := by omega
    obtain ⟨hWB, hr16, hrows⟩ := hC.rows hbig
    have HF : Hid (compF τ out = if 0 ≤ ((waysF τ.parts τ.parts.length out).foldl (fun a r => upd a ((pathF τ.parts r).2, 1)) (-1, 0)).1 then .inr (((waysF τ.parts τ.parts.length out).foldl (fun a r => upd a ((pathF τ.parts r).2, 1)) (-1, 0)).1, 1)
      else if 0 ≤ ((waysF τ.parts τ.parts.length out).foldl (fun a r => upd a (checkF τ.nodes τ.parts (pathF τ.parts r).1)) (-1, 0)).1 then .inr ((waysF τ.parts τ.parts.length out).foldl (fun a r => upd a (checkF τ.nodes τ.parts (pathF τ.parts r).1)) (-1, 0))
      else if 4000 < ((waysF τ.parts τ.parts.length out).map fun r => sumCho τ.rate.toNat ((pathF τ.parts r).1.length - 1)).sum then .inr (0, 6)
      else .inl (((waysF τ.parts τ.parts.length out).map fun r => sumCho τ.rate.toNat ((pathF τ.parts r).1.length - 1)).sum, (waysF τ.parts τ.parts.length out).map fun r => (pathF τ.parts r).1)) := by show _ = _; unfold compF; rw [if_neg hbig]
    have hW := ways_any hC.pwf.len τ.parts.length out hWB own2 w2 b m (.slice oa on oc) hS2 hI2
    have HE2 : Hid (Ext own w' own2 w2) := hE2
    clear hbig hSize hS hI hWB hE2
    generalize (sizeF τ.parts τ.parts.length out).1 = n1 at *
    generalize (sizeF τ.parts τ.parts.length out).2 = n2 at *
    generalize waysF τ.parts τ.parts.length out = rows at *
    go_upto_region 9 with (first
      | (go_at_call 59; refine hW.mono ?_; rintro e w3 ⟨rv, own3, rfl, hS3, hE3, hY3⟩; have HE3 : Hid (Ext own w' own3 w3) := HE2.out.trans hE3; obtain ⟨ra, rn, rc, rfl, hrn, _⟩ := hY3.at; subst hrn; have hb3 := hS3.blk.lt))
    have hB0 := Blk.new w3 (EngC b (.slice none 0 0) 0) 127
    obtain ⟨hW4, hK4⟩ := (WS.mk hS3 (Ext.refl _ _) : WS own3 w3 b m τ own3 w3).new (World.grownBy_alloc w3 (.cells (EngC b (.slice none 0 0) 0) 127) none) (Nat.le_refl _) 8
    have hCL0 : CLd own3 w3 b m τ w3.heap.size (.slice ra rows.length rc) rows [] 0 (w3.alloc (.cells (EngC b (.slice none 0 0) 0) 127)) := ⟨_, _, ⟨hW4, hB0, put_same _ _ _, Nat.le_refl _, PathsC.nil _ _ _⟩, hY3.k7 hK4⟩
    have ht := hC.pwf.times
    clear hS3 hE3 hY3 hb3 hB0 hW4 hK4 hS2 hI2 c12 c12' hbl hb2 eav
    unfold EngC at hCL0
    generalize w3.heap.size = X at *
    obtain ⟨j0, hj00, hy0, hy1, hy2⟩ := info_parts Tryz.infoSteps
    go_wp2_with fail
    go_loopw [12, 13] (fun wv i wr => ∃ k : Nat, k ≤ rows.length ∧ i = .int .i64 k ∧ wv = .int .i64 ((rows.take k).foldl (fun a r => upd a ((pathF τ.parts r).2, 1)) (-1, 0)).1 ∧ CLd own3 w3 b m τ X (.slice ra rows.length rc) rows ((rows.take k).map fun r => (pathF τ.parts r).1) 0 wr) (fun _ i _ => rows.length - (intOf i).toNat)
    case atStart => exact ⟨0, Nat.zero_le _, rfl, rfl, hCL0⟩
    case round =>
      obtain ⟨k, hk, rfl, rfl, own4, pv, hEC, hY⟩ := hrel
      clear hCL0
      by_cases hlt : k < rows.length
      · obtain ⟨gr, cr, vr, er, hgr, hvrl, hvrc, hvr1, hvri⟩ := hY.at0 (by omega)
        simp only [Value.slice.injEq] at er
        obtain ⟨rfl, _, rfl⟩ := er
        have hu := hvrc k (vr[k]'(by omega)) (by simp)
        rw [addr_add, Nat.zero_add] at hu
        have hIu := hvri k (by omega) hlt
        obtain ⟨ua, un, uc, eu⟩ := hIu.form
        rw [eu] at hu hIu
        obtain ⟨hrl, hrj, hr8, _⟩ := hrows rows[k] (List.getElem_mem _)
        have hPath := path_any ht rows[k] hrj hrl own4 wr b m _ hEC.ws.st hIu
        have HT : Hid ((rows.take (k + 1)).foldl (fun a r => upd a ((pathF τ.parts r).2, 1)) (-1, 0) = upd ((rows.take k).foldl (fun a r => upd a ((pathF τ.parts r).2, 1)) (-1, 0)) ((pathF τ.parts rows[k]).2, 1)) := foldl_take_succ _ _ _ _ hlt
        have HPs : Hid ((rows.take (k + 1)).map (fun r => (pathF τ.parts r).1) = (rows.take k).map (fun r => (pathF τ.parts r).1) ++ [(pathF τ.parts rows[k]).1]) := by show _ = _; rw [List.take_succ_eq_append_getElem hlt, List.map_append]; rfl
        have hpslen : ((rows.take k).map fun r => (pathF τ.parts r).1).length ≤ 16 := by simp; omega
        generalize (rows.take k).foldl (fun a r => upd a ((pathF τ.parts r).2, 1)) (-1, 0) = acc at *
        obtain ⟨aw, ae⟩ := acc
        generalize (rows.take k).map (fun r => (pathF τ.parts r).1) = ps at *
        generalize (pathF τ.parts rows[k]).2 = pw at *
        generalize (pathF τ.parts rows[k]).1 = pp at *
        have h20 : (0 : Int) ≤ (k : Int) := by omega
        have h21 : (k : Int) < (rows.length : Int) := by omega
        clear hvrc hvr1 hvri hIu eu hrj
        go_upto_region 14 with (first
          | (go_at_call 60; refine hPath.mono ?_; rintro e w5 ⟨sv, own5, rfl, hS5, hE5, hst5⟩; replace hst5 := hst5.low; obtain ⟨sa, sc, esv⟩ := hst5.form; have hEC5 := hEC.ext hS5 hE5; have hY5 := hY.k7 hE5.k7; obtain ⟨vs, hpl, hprow, hpcol, hpi⟩ := hEC5.ps; obtain ⟨pa, pc, epv, _⟩ := row_at2 hprow; subst epv; subst esv; have x1 := hEC5.blk.cell 1; have hXl := hEC5.blk.lt; simp [EngC] at x1; have hX1 : X < w5.heap.size + 1 := (by omega)))
        by_cases h0 : 0 ≤ pw
        · by_cases ha : aw < 0
          · have HU : Hid (upd (aw, ae) (pw, 1) = (pw, 1)) := upd_yes h0 (.inl ha)
            go_wp2_with (first
              | (at_builtin; refine wpList_append_lies _ rfl _ _ 125 rfl 0 128 j0 _ 1 24 Tryz.underlying125 hj00 hy0 hy1 hy2 rfl (by decide) _ ps.length vs (by rfl) (hprow.alloc _) ⟨w5.heap.size, 0, none⟩ 1 1 [.slice sa pp.length sc] (by rfl) rfl (World.news_of_block (alloc_at _ _ _ (by simp))) (by simp [Value.oneCell']) (by decide) (by unfold maxLen; omega) (by omega) (Nat.zero_le _) (w5.heap.size + 1) (by simp) ?_; intro g2 cap2 w6 hown2 hgrow2 hat2 hlt2; obtain ⟨hC6, hK6, hB6⟩ := hEC5.app hpl hpcol hpi hst5 hown2 hgrow2 hat2; have q1 := hB6.cell 1; have qf := hB6.frozen 1; have hX6 := hB6.lt; simp [EngC] at q1))
            first
            | (go_roundw
               case rel => exact ⟨k + 1, by omega, by go_num, by rw [HT.out, HU.out], _, _, by rw [HPs.out]; exact hC6, hY5.k7 hK6⟩
               case measure => simp [intOf]; omega)
            | (refine ⟨⟨k + 1, by omega, by go_num, by rw [HT.out, HU.out], _, _, by rw [HPs.out]; exact hC6, hY5.k7 hK6⟩, by simp [intOf]; omega⟩)
          · have ha' : 0 ≤ aw := by omega
            by_cases hb : pw < aw
            · have HU : Hid (upd (aw, ae) (pw, 1) = (pw, 1)) := upd_yes h0 (.inr hb)
              clear ha
              go_wp2_with (first
                | (at_builtin; refine wpList_append_lies _ rfl _ _ 125 rfl 0 128 j0 _ 1 24 Tryz.underlying125 hj00 hy0 hy1 hy2 rfl (by decide) _ ps.length vs (by rfl) (hprow.alloc _) ⟨w5.heap.size, 0, none⟩ 1 1 [.slice sa pp.length sc] (by rfl) rfl (World.news_of_block (alloc_at _ _ _ (by simp))) (by simp [Value.oneCell']) (by decide) (by unfold maxLen; omega) (by omega) (Nat.zero_le _) (w5.heap.size + 1) (by simp) ?_; intro g2 cap2 w6 hown2 hgrow2 hat2 hlt2; obtain ⟨hC6, hK6, hB6⟩ := hEC5.app hpl hpcol hpi hst5 hown2 hgrow2 hat2; have q1 := hB6.cell 1; have qf := hB6.frozen 1; have hX6 := hB6.lt; simp [EngC] at q1))
              first
              | (go_roundw
                 case rel => exact ⟨k + 1, by omega, by go_num, by rw [HT.out, HU.out], _, _, by rw [HPs.out]; exact hC6, hY5.k7 hK6⟩
                 case measure => simp [intOf]; omega)
              | (refine ⟨⟨k + 1, by omega, by go_num, by rw [HT.out, HU.out], _, _, by rw [HPs.out]; exact hC6, hY5.k7 hK6⟩, by simp [intOf]; omega⟩)
            · have HU : Hid (upd (aw, ae) (pw, 1) = (aw, ae)) := upd_no (by simp only; omega)
              have hb' : aw ≤ pw := by omega
              clear ha hb
              go_wp2_with (first
                | (at_builtin; refine wpList_append_lies _ rfl _ _ 125 rfl 0 128 j0 _ 1 24 Tryz.underlying125 hj00 hy0 hy1 hy2 rfl (by decide) _ ps.length vs (by rfl) (hprow.alloc _) ⟨w5.heap.size, 0, none⟩ 1 1 [.slice sa pp.length sc] (by rfl) rfl (World.news_of_block (alloc_at _ _ _ (by simp))) (by simp [Value.oneCell']) (by decide) (by unfold maxLen; omega) (by omega) (Nat.zero_le _) (w5.heap.size + 1) (by simp) ?_; intro g2 cap2 w6 hown2 hgrow2 hat2 hlt2; obtain ⟨hC6, hK6, hB6⟩ := hEC5.app hpl hpcol hpi hst5 hown2 hgrow2 hat2; have q1 := hB6.cell 1; have qf := hB6.frozen 1; have hX6 := hB6.lt; simp [EngC] at q1))
              first
              | (go_roundw
                 case rel => exact ⟨k + 1, by omega, by go_num, by rw [HT.out, HU.out], _, _, by rw [HPs.out]; exact hC6, hY5.k7 hK6⟩
                 case measure => simp [intOf]; omega)
              | (refine ⟨⟨k + 1, by omega, by go_num, by rw [HT.out, HU.out], _, _, by rw [HPs.out]; exact hC6, hY5.k7 hK6⟩, by simp [intOf]; omega⟩)
        · have HU : Hid (upd (aw, ae) (pw, 1) = (aw, ae)) := upd_no (by simp only; omega)
          have h0' : pw < 0 := by omega
          clear h0
          go_wp2_with (first
            | (at_builtin; refine wpList_append_lies _ rfl _ _ 125 rfl 0 128 j0 _ 1 24 Tryz.underlying125 hj00 hy0 hy1 hy2 rfl (by decide) _ ps.length vs (by rfl) (hprow.alloc _) ⟨w5.heap.size, 0, none⟩ 1 1 [.slice sa pp.length sc] (by rfl) rfl (World.news_of_block (alloc_at _ _ _ (by simp))) (by simp [Value.oneCell']) (by decide) (by unfold maxLen; omega) (by omega) (Nat.zero_le _) (w5.heap.size + 1) (by simp) ?_; intro g2 cap2 w6 hown2 hgrow2 hat2 hlt2; obtain ⟨hC6, hK6, hB6⟩ := hEC5.app hpl hpcol hpi hst5 hown2 hgrow2 hat2; have q1 := hB6.cell 1; have qf := hB6.frozen 1; have hX6 := hB6.lt; simp [EngC] at q1))
          first
          | (go_roundw
             case rel => exact ⟨k + 1, by omega, by go_num, by rw [HT.out, HU.out], _, _, by rw [HPs.out]; exact hC6, hY5.k7 hK6⟩
             case measure => simp [intOf]; omega)
          | (refine ⟨⟨k + 1, by omega, by go_num, by rw [HT.out, HU.out], _, _, by rw [HPs.out]; exact hC6, hY5.k7 hK6⟩, by simp [intOf]; omega⟩)
      · have e : k = rows.length := by omega
        subst e
        rw [List.take_length] at hEC ⊢
        obtain ⟨r1, HR1⟩ : ∃ z, Hid (rows.foldl (fun a r => upd a ((pathF τ.parts r).2, 1)) (-1, 0) = z) := ⟨_, rfl⟩
        rw [HR1.out] at HF ⊢
        have HBel : Hid (∀ (own' : Nat → Nat) (w9 : World), Ext own3 w3 own' w9 → Below w.heap.size w w9) := fun own' w9 h => HB.out _ _ (HE3.out.trans h)
        obtain ⟨r1w, r1e⟩ := r1
        by_cases hw1 : 0 ≤ r1w
        · have HF1 : Hid (compF τ out = .inr (r1w, 1)) := by show _ = _; rw [HF.out, if_pos hw1]
          have hBe := HBel.out _ _ hEC.ws.ext
          clear hEC hY
          go_wp2
          refine bodyPost_ret (v := .tuple #[.pointer none, .int .i64 r1w, .int .i64 1]) (by simp [results, Tryz.results39, go_sem]) rfl ⟨_, rfl, hBe, ?_⟩
          rw [HF1.out]; rfl
        · have hw1' : r1w < 0 := by omega
          rw [if_neg hw1] at HF
          obtain rfl : r1w = -1 := by
            have := fold_neg (fun r => ((pathF τ.parts r).2, 1)) rows (-1, 0) (.inl rfl)
            rw [HR1.out] at this
            simp only at this; omega
          clear hw1 hw1'
          have HPl : Hid ((rows.map fun r => (pathF τ.parts r).1).length = rows.length) := by show _ = _; simp
          have HFold : Hid (rows.foldl (fun a r => upd a (checkF τ.nodes τ.parts (pathF τ.parts r).1)) (-1, 0) = (rows.map fun r => (pathF τ.parts r).1).foldl (fun a p => upd a (checkF τ.nodes τ.parts p)) (-1, 0)) := by show _ = _; rw [List.foldl_map]
          have HSum : Hid ((rows.map fun r => sumCho τ.rate.toNat ((pathF τ.parts r).1.length - 1)) = (rows.map fun r => (pathF τ.parts r).1).map fun p => sumCho τ.rate.toNat (p.length - 1)) := by show _ = _; rw [List.map_map]; rfl
          rw [HFold.out, HSum.out] at HF
          have hps : ∀ p ∈ (rows.map fun r => (pathF τ.parts r).1), p.length ≤ 8 ∧ ∀ e ∈ p, PartOK τ e.1 ∧ e.2.length ≤ 100000 ∧ ∀ g ∈ e.2, PartOK τ g := fun p hp => by
            obtain ⟨r, hr, rfl⟩ := List.mem_map.1 hp
            exact ⟨(hrows r hr).2.2.1, (hrows r hr).2.2.2⟩
          have hpl16 : (rows.map fun r => (pathF τ.parts r).1).length ≤ 16 := by rw [HPl.out]; exact hr16
          generalize (rows.map fun r => (pathF τ.parts r).1) = ps at *
          clear HFold HSum HPl hY hrows
          obtain ⟨pa, pc, epv⟩ : ∃ a c, pv = .slice a ps.length c := by obtain ⟨vs, _, h, _⟩ := hEC.ps; obtain ⟨a, c, e, _⟩ := row_at2 h; exact ⟨a, c, e⟩
          subst epv
          have hnl := hC.nodes
          go_wp2_with fail
          go_loopw [12, 16, 17] (fun wv ev i wr2 => ∃ k2 : Nat, k2 ≤ ps.length ∧ i = .int .i64 k2 ∧ wv = .int .i64 (((ps.take k2).foldl (fun a p => upd a (checkF τ.nodes τ.parts p)) (-1, 0))).1 ∧ ev = .int .i64 (((ps.take k2).foldl (fun a p => upd a (checkF τ.nodes τ.parts p)) (-1, 0))).2 ∧ ∃ own5, EC own3 w3 b m τ X (.slice pa ps.length pc) ps 0 own5 wr2) (fun _ _ i _ => ps.length - (intOf i).toNat)
          case atStart => exact ⟨0, Nat.zero_le _, rfl, rfl, rfl, own4, hEC⟩
          case round =>
            obtain ⟨k2, hk2, rfl, rfl, rfl, own6, hEC6⟩ := hrel
            clear hEC
            have x1 := hEC6.blk.cell 1
            have hXl := hEC6.blk.lt
            simp [EngC] at x1
            by_cases hl2 : k2 < ps.length
            · obtain ⟨gp, rfl, hgp, hcp⟩ := hEC6.ps.at (by omega)
              obtain ⟨sa, sc, hcu, hstu⟩ := hcp k2 hl2
              have hp2 := hps ps[k2] (List.getElem_mem _)
              have hChk := check_any hnl ps[k2] (by omega) hp2.2 own6 wr b m _ 0 hEC6.ws.st hstu
              have HT : Hid ((ps.take (k2 + 1)).foldl (fun a p => upd a (checkF τ.nodes τ.parts p)) (-1, 0) = upd ((ps.take k2).foldl (fun a p => upd a (checkF τ.nodes τ.parts p)) (-1, 0)) (checkF τ.nodes τ.parts ps[k2])) := foldl_take_succ _ _ _ _ hl2
              generalize (ps.take k2).foldl (fun a p => upd a (checkF τ.nodes τ.parts p)) (-1, 0) = acc at *
              obtain ⟨a2, t2⟩ := acc
              generalize checkF τ.nodes τ.parts ps[k2] = cf at *
              obtain ⟨cv, ck⟩ := cf
              have h20 : (0 : Int) ≤ (k2 : Int) := by omega
              have h21 : (k2 : Int) < (ps.length : Int) := by omega
              clear hcp hstu hp2
              go_upto_region 24 with (first
                | (go_at_call 61; refine hChk.mono ?_; rintro e w5 ⟨rfl, own5, hS5, hE5⟩; have hEC5 := hEC6.ext hS5 hE5; clear hEC6 hChk))
              by_cases h0 : 0 ≤ cv
              · by_cases ha : a2 < 0
                · have HU : Hid (upd (a2, t2) (cv, ck) = (cv, ck)) := upd_yes h0 (.inl ha)
                  go_wp2_with fail
                  go_roundw
                  case rel => exact ⟨k2 + 1, by omega, by go_num, by rw [HT.out, HU.out], by rw [HT.out, HU.out], own5, hEC5⟩
                  case measure => simp [intOf]; omega
                · have ha' : 0 ≤ a2 := by omega
                  by_cases hb : cv < a2
                  · have HU : Hid (upd (a2, t2) (cv, ck) = (cv, ck)) := upd_yes h0 (.inr hb)
                    clear ha
                    go_wp2_with fail
                    go_roundw
                    case rel => exact ⟨k2 + 1, by omega, by go_num, by rw [HT.out, HU.out], by rw [HT.out, HU.out], own5, hEC5⟩
                    case measure => simp [intOf]; omega
                  · have HU : Hid (upd (a2, t2) (cv, ck) = (a2, t2)) := upd_no (by simp only; omega)
                    have hb' : a2 ≤ cv := by omega
                    clear ha hb
                    go_wp2_with fail
                    go_roundw
                    case rel => exact ⟨k2 + 1, by omega, by go_num, by rw [HT.out, HU.out], by rw [HT.out, HU.out], own5, hEC5⟩
                    case measure => simp [intOf]; omega
              · have HU : Hid (upd (a2, t2) (cv, ck) = (a2, t2)) := upd_no (by simp only; omega)
                have h0' : cv < 0 := by omega
                clear h0
                go_wp2_with fail
                go_roundw
                case rel => exact ⟨k2 + 1, by omega, by go_num, by rw [HT.out, HU.out], by rw [HT.out, HU.out], own5, hEC5⟩
                case measure => simp [intOf]; omega
            · have e : k2 = ps.length := by omega
              subst e
              rw [List.take_length]
              obtain ⟨r2, HR2⟩ : ∃ z, Hid (ps.foldl (fun a p => upd a (checkF τ.nodes τ.parts p)) (-1, 0) = z) := ⟨_, rfl⟩
              rw [HR2.out] at HF ⊢
              obtain ⟨r2w, r2e⟩ := r2
              by_cases hw2 : 0 ≤ r2w
              · have HF1 : Hid (compF τ out = .inr (r2w, r2e)) := by show _ = _; rw [HF.out, if_pos hw2]
                have hBe := HBel.out _ _ hEC6.ws.ext
                clear hEC6
                go_wp2
                refine bodyPost_ret (v := .tuple #[.pointer none, .int .i64 r2w, .int .i64 (r2e : Nat)]) (by simp [results, Tryz.results39, go_sem]) rfl ⟨_, rfl, hBe, ?_⟩
                rw [HF1.out]
              · have hw2' : r2w < 0 := by omega
                rw [if_neg hw2] at HF
                clear hw2
                obtain ⟨r, hr⟩ : ∃ r : Nat, τ.rate = r := ⟨τ.rate.toNat, by have := hC.rate.1; omega⟩
                have hr12 : r ≤ 12 := by have := hC.rate.2; omega
                have HRt : Hid (τ.rate.toNat = r) := by show _ = _; rw [hr]; rfl
                rw [HRt.out] at HF
                have HRr : Hid (τ.rate = (r : Int)) := hr
                clear hr
                have hsum : ∀ z, ((ps.take z).map fun p => sumCho r (p.length - 1)).sum ≤ 32768 * z := fun z => sum_le _ _ ps (fun p hp => by have := sumCho_le r hr12 (p.length - 1); have := (hps p hp).1; omega) z
                have HSm : Hid (∀ z, ((ps.take z).map fun p => sumCho r (p.length - 1)).sum ≤ 32768 * z) := hsum
                clear hsum
                go_wp2_with fail
                go_loopw [20] (fun i wr3 => ∃ k3 : Nat, k3 ≤ ps.length ∧ i = .int .i64 k3 ∧ ∃ own7, EC own3 w3 b m τ X (.slice pa ps.length pc) ps ((ps.take k3).map fun p => sumCho r (p.length - 1)).sum own7 wr3) (fun i _ => ps.length - (intOf i).toNat)
                case atStart => exact ⟨0, Nat.zero_le _, rfl, own6, hEC6⟩
                case round =>
                  obtain ⟨k3, hk3, rfl, own7, hEC7⟩ := hrel
                  clear hEC6 x1 hXl
                  have x1 := hEC7.blk.cell 1
                  have hXl := hEC7.blk.lt
                  simp [EngC] at x1
                  by_cases hl3 : k3 < ps.length
                  · have HT3 : Hid (((ps.take (k3 + 1)).map fun p => sumCho r (p.length - 1)).sum = ((ps.take k3).map fun p => sumCho r (p.length - 1)).sum + sumCho r (ps[k3].length - 1)) := sum_take_succ _ _ _ hl3
                    have hS3 := HSm.out k3
                    have hp8 := (hps ps[k3] (List.getElem_mem _)).1
                    generalize ((ps.take k3).map fun p => sumCho r (p.length - 1)).sum = bs at *
                    have h30 : (0 : Int) ≤ (k3 : Int) := by omega
                    have h31 : (k3 : Int) < (ps.length : Int) := by omega
                    go_wp2_with fail
                    go_loopw [21] (fun i wr4 => ∃ k4 : Nat, 1 ≤ k4 ∧ (k4 = 1 ∨ k4 ≤ ps[k3].length) ∧ i = .int .i64 k4 ∧ ∃ own8, EC own3 w3 b m τ X (.slice pa ps.length pc) ps (bs + sumCho r (k4 - 1)) own8 wr4) (fun i _ => ps[k3].length - (intOf i).toNat)
                    case atStart => exact ⟨1, Nat.le_refl _, .inl rfl, rfl, own7, hEC7⟩
                    case round =>
                      obtain ⟨k4, hk41, hk42, rfl, own8, hEC8⟩ := hrel
                      clear hEC7 x1 hXl
                      obtain ⟨bd, HBd⟩ : ∃ bd, Hid (bs + sumCho r (k4 - 1) = bd) := ⟨_, rfl⟩
                      rw [HBd.out] at hEC8
                      have x1 := hEC8.blk.cell 1
                      have x2 := hEC8.blk.cell 2
                      have xf := hEC8.blk.frozen 2
                      have hXl := hEC8.blk.lt
                      simp [EngC] at x1 x2
                      obtain ⟨gp, rfl, hgp, hcp⟩ := hEC8.ps.at (by omega)
                      obtain ⟨sa, sc, hcu, _⟩ := hcp k3 hl3
                      by_cases hl4 : k4 < ps[k3].length
                      · have HC4 : Hid (sumCho r (k4 + 1 - 1) = sumCho r (k4 - 1) + cho r k4) := by
                          show _ = _
                          obtain ⟨q, rfl⟩ : ∃ q, k4 = q + 1 := ⟨k4 - 1, by omega⟩
                          rfl
                        have hcl := cho_le r k4
                        have hp12 : 2 ^ r ≤ 2 ^ 12 := Nat.pow_le_pow_right (by decide) hr12
                        have h4096 : (2 : Nat) ^ 12 = 4096 := by decide
                        have hsl := sumCho_le r hr12 (k4 - 1)
                        have hc4 : cho r k4 ≤ 4096 := by omega
                        have hb4 : bd ≤ 1000000 := by rw [← HBd.out]; omega
                        have c11 := hEC8.ws.st.cell 11
                        simp [PCells] at c11
                        rw [HRr.out] at c11
                        have hbl8 := hEC8.ws.st.blk.lt
                        have hch := choose_any r k4 wr.drew (by omega) (by omega)
                        generalize hcc : cho r k4 = cc at *
                        have hpl8 : (ps[k3].length : Int) ≤ 8 := by omega
                        have hl4' : (k4 : Int) < (ps[k3].length : Int) := by omega
                        have hcast : ((bd + cc : Nat) : Int) = (bd : Int) + (cc : Int) := by omega
                        have HEnd : Hid (EC own3 w3 b m τ X (.slice (some ⟨gp, 0, none⟩) ps.length pc) ps (bs + sumCho r (k4 + 1 - 1)) own8 (wr.setCell ⟨X, 2, none⟩ (.int .i64 ((bd : Int) + (cc : Int)))).drew) := by
                          have := (hEC8.bound (bd + cc)).grow (grownBy_drew _ none)
                          show EC _ _ _ _ _ _ _ _ _ _ _
                          rw [hcast] at this
                          rw [HC4.out, ← Nat.add_assoc, HBd.out]
                          exact this
                        clear hcl hp12 h4096 hsl hcc hcast
                        go_upto_region 35 with fail
                        go_region_with (first
                          | (go_at_call 62; refine hch.mono ?_; rintro e w9 ⟨rfl, rfl⟩))
                        all_goals
                          go_wp2_with fail
                          first
                          | (go_roundw
                             case rel => exact ⟨k4 + 1, by omega, .inr (by omega), by go_num, own8, HEnd.out⟩
                             case measure => simp [intOf]; omega)
                          | (refine ⟨⟨k4 + 1, by omega, .inr (by omega), by go_num, own8, HEnd.out⟩, by simp [intOf]; omega⟩)
                      · have hl4' : (ps[k3].length : Int) ≤ (k4 : Int) := by omega
                        have e4 : k4 - 1 = ps[k3].length - 1 := by omega
                        rw [← HBd.out, e4] at hEC8
                        clear hcp
                        go_wp2_with fail
                        go_roundw
                        case rel => exact ⟨k3 + 1, by omega, by go_num, own8, by rw [HT3.out]; exact hEC8⟩
                        case measure => simp [intOf]; omega
                  · have e : k3 = ps.length := by omega
                    subst e
                    rw [List.take_length] at hEC7
                    have x2 := hEC7.blk.cell 2
                    simp [EngC] at x2
                    have hBe := HBel.out _ _ hEC7.ws.ext
                    have hXn : w.heap.size ≤ X := Nat.le_trans HW0.out (Nat.le_trans HE3.out.size hEC7.new)
                    have hS9 := HSm.out ps.length
                    rw [List.take_length] at hS9
                    have HBk := hEC7.blk
                    have HSt : Hid (∃ own m lo, St own wr b m τ ∧ own X = 8 ∧ PathsC own wr (.slice pa ps.length pc) ps lo) := ⟨own7, m, _, hEC7.ws.st, hEC7.col, hEC7.ps⟩
                    generalize (ps.map fun p => sumCho r (p.length - 1)).sum = bt at *
                    clear hEC7
                    by_cases h4000 : 4000 < bt
                    · have h4' : (4000 : Int) < (bt : Int) := by omega
                      have HF1 : Hid (compF τ out = .inr (0, 6)) := by show _ = _; rw [HF.out, if_pos h4000]
                      clear h4000
                      go_wp2
                      refine bodyPost_ret (v := .tuple #[.pointer none, .int .i64 0, .int .i64 6]) (by simp [results, Tryz.results39, go_sem]) rfl ⟨_, rfl, hBe, ?_⟩
                      rw [HF1.out]; rfl
                    · have h4' : (bt : Int) ≤ 4000 := by omega
                      have HF1 : Hid (compF τ out = .inl (bt, ps)) := by show _ = _; rw [HF.out, if_neg h4000]
                      clear h4000
                      go_wp2
                      refine bodyPost_ret (v := .tuple #[.pointer (some ⟨X, 0, none⟩), .int .i64 0, .int .i64 0]) (by simp [results, Tryz.results39, go_sem]) rfl ⟨_, rfl, hBe, ?_⟩
                      rw [HF1.out]
                      exact ⟨X, b, pa, pc, rfl, hXn, HBk, HSt.out⟩
end Go.Proofs.YtddbjcfdmdbmkaaGreatDoor
