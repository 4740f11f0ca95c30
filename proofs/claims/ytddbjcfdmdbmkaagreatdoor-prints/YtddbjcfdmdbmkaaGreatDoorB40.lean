import Derived.Test.YtddbjcfdmdbmkaaGreatDoorB39
import Derived.Deep.CutRange
import Derived.Deep.RegionWith
set_option linter.unusedVariables false
set_option linter.unusedSimpArgs false
/-
  The document's check: the walk.
-/
namespace Go.Proofs.YtddbjcfdmdbmkaaGreatDoor
open Go.RowKit

theorem StepC.at {own : Nat → Nat} {w : World} {v : Value} {es : List (Nat × List Nat)} {lo : Nat} (h : StepC 7 own w v es lo) (h0 : 0 < es.length) : ∃ g c, v = .slice (some ⟨g, 0, none⟩) es.length c ∧ g < w.heap.size ∧ ∀ i, (hi : i < es.length) → ∃ gv, w.cell? ⟨g, i * 2, none⟩ = some (.int .i64 (es[i].1 : Nat)) ∧ w.cell? ⟨g, i * 2 + 1, none⟩ = some gv ∧ Ints own w gv es[i].2 := by
  obtain ⟨gvs, h1, h2, h3, h4⟩ := h
  obtain ⟨a, c, e, hc⟩ := row_at2 h2
  obtain ⟨g, rfl, hlt, hcell⟩ := hc h0
  refine ⟨g, c, e, hlt, fun i hi => ⟨gvs[i]'(by omega), ?_, ?_, h4 i (by omega) hi⟩⟩
  · have hz : i < (es.zip gvs).length := by simp; omega
    exact hcell (i * 2) _ ((flat_get stCells 2 (fun _ => rfl) (es.zip gvs) i 0 hz (by decide)).trans (by simp [stCells]))
  · have hz : i < (es.zip gvs).length := by simp; omega
    exact hcell (i * 2 + 1) _ ((flat_get stCells 2 (fun _ => rfl) (es.zip gvs) i 1 hz (by decide)).trans (by simp [stCells]))
def CheckC (es : List (Nat × List Nat)) (σ : PSt) : Prop := ∀ (own : Nat → Nat) (w : World) (b : Nat) (m : PM) (lv : Value) (lo : Nat), St own w b m σ → StepC 7 own w lv es lo →
  Calls Tryz.prog 61 #[.pointer (some ⟨b, 0, none⟩), lv] w fun e w' => e = .returned (.tuple #[.int .i64 (checkF σ.nodes σ.parts es).1, .int .i64 (checkF σ.nodes σ.parts es).2]) ∧ AfterM own w b m σ w'
theorem Tryz.infoStr : (Tryz.prog.info? 9).map (fun i => (i.zero, i.size, i.bytes)) = some (some (.string ⟨#[]⟩), 1, 16) := by kernel_rfl
/-- what check wants of the parts that it meets -/
def PartOK (σ : PSt) (j : Nat) : Prop := ∃ x, σ.parts[j]? = some x ∧ CondOK σ.nodes x.cond ∧ 0 ≤ x.pos

set_option maxRecDepth 100000 in
set_option maxHeartbeats 6400000 in
theorem check_any {σ : PSt} (hnl : σ.nodes.length ≤ 100000) (es : List (Nat × List Nat)) (hlen : es.length ≤ 100000) (hes : ∀ e ∈ es, PartOK σ e.1 ∧ e.2.length ≤ 100000 ∧ ∀ g ∈ e.2, PartOK σ g) : CheckC es σ := by
  intro own w b m lv lo h hS
  obtain ⟨la, lc, rfl⟩ := hS.form
  have hC0 : CI own w b m σ (.slice la es.length lc) es lo (.slice none 0 0) (knownOf σ.parts ((es.take 0).map (·.1))) own w := ⟨⟨h, Ext.refl _ _⟩, hS, StrC.nil _ _ _⟩
  clear h hS
  go_enter Tryz.func61, Tryz.ntmps61
  go_wp2_with fail
  go_loopw [6, 7, 8, 9] (fun kv av ev i wr => ∃ k : Nat, k ≤ es.length ∧ i = .int .i64 k ∧ av = .int .i64 (chk σ.nodes σ.parts es k).1 ∧ ev = .int .i64 (chk σ.nodes σ.parts es k).2 ∧ ∃ own', CI own w b m σ (.slice la es.length lc) es lo kv (knownOf σ.parts ((es.take k).map (·.1))) own' wr) (fun _ _ _ i _ => es.length - (intOf i).toNat)
  case atStart => exact ⟨0, Nat.zero_le _, rfl, rfl, rfl, own, hC0⟩
  case round =>
    obtain ⟨k, hk, rfl, rfl, rfl, own', hCI⟩ := hrel
    clear hC0
    by_cases hlt : k < es.length
    · obtain ⟨gl, lc', el, hgl, hcell⟩ := hCI.2.1.at (by omega)
      simp only [Value.slice.injEq] at el
      obtain ⟨rfl, _, rfl⟩ := el
      obtain ⟨gv, cl0, cl1, hIg⟩ := hcell k hlt
      obtain ⟨⟨x, hx, hcx, hpx⟩, hgl5, hgs⟩ := hes es[k] (List.getElem_mem _)
      have HC : Hid (chk σ.nodes σ.parts es (k + 1) = (candS σ.nodes σ.parts ((es.take k).map (·.1)) es[k]).foldl upd (chk σ.nodes σ.parts es k)) := by
        show (candS σ.nodes σ.parts ((es.take k).map (·.1)) (es.getD k (0, []))).foldl upd (chk σ.nodes σ.parts es k) = _
        rw [List.getD_eq_getElem?_getD, List.getElem?_eq_getElem hlt]; rfl
      have HK : Hid (knownOf σ.parts ((es.take (k + 1)).map (·.1)) = knownOf σ.parts ((es.take k).map (·.1)) ++ [x.name]) := by
        show _ = _
        unfold knownOf
        rw [List.take_succ_eq_append_getElem hlt, List.map_append, List.map_append]
        simp [xOf_eq hx]
      have HL : Hid (((es.take k).map (·.1)).length = k) := by show _ = _; simp; omega
      have HP : Hid (∀ i, (hi : i < k) → ((es.take k).map (·.1))[i]? = some (es[i]'(by omega)).1) := fun i hi => by
        rw [List.getElem?_map, List.getElem?_take_of_lt hi, List.getElem?_eq_getElem (by omega)]; rfl
      have HKK : Hid (knownOf σ.parts ((es.take k).map (·.1) ++ [es[k].1]) = knownOf σ.parts ((es.take k).map (·.1)) ++ [x.name]) := by show _ = _; unfold knownOf; rw [List.map_append]; simp [xOf_eq hx]
      have HCell : Hid (∀ (own2 : Nat → Nat) (wx : World), StepC 7 own2 wx (.slice (some ⟨gl, 0, none⟩) es.length lc) es lo → ∀ i, (hi : i < es.length) → ∃ gv, wx.cell? ⟨gl, i * 2, none⟩ = some (.int .i64 (es[i].1 : Nat)) ∧ wx.cell? ⟨gl, i * 2 + 1, none⟩ = some gv ∧ Ints own2 wx gv es[i].2) := fun own2 wx hst i hi => by
        obtain ⟨g', c', e', _, hc'⟩ := hst.at (by omega)
        simp only [Value.slice.injEq, Option.some.injEq, Addr.mk.injEq] at e'
        obtain ⟨⟨rfl, _⟩, _⟩ := e'
        exact hc' i hi
      have hkl : k ≤ 100000 := by omega
      generalize hE : es[k] = e at *
      obtain ⟨j, gs⟩ := e
      simp only at cl0 hIg hx hgl5 hgs HKK
      generalize (es.take k).map (·.1) = prev at *
      generalize hkn : knownOf σ.parts prev = known at *
      have HKL : Hid (known.length = k) := by show _ = _; rw [← hkn]; unfold knownOf; rw [List.length_map, HL.out]
      have hkn5 : known.length ≤ 100000 := by rw [HKL.out]; omega
      have hkn6 : known.length + 1 ≤ 100000 := by rw [HKL.out]; omega
      generalize chk σ.nodes σ.parts es k = acc at *
      obtain ⟨av, ev⟩ := acc
      obtain ⟨g, cap, wv, hv, hjl, hway, c0, c1, c2, c3, c4, c5, c6⟩ := hCI.1.st.part_at hx
      obtain ⟨wa, wn, wcp, rfl, hwn, hwg⟩ := hway.at
      subst hwn
      have d9 := hCI.1.st.cell 9
      simp [PCells] at d9
      rw [hv] at d9
      have hj0 : (0 : Int) ≤ (j : Int) := by omega
      have hj1 : (j : Int) < (σ.parts.length : Int) := by omega
      have hk0 : (0 : Int) ≤ (k : Int) := by omega
      have hk1 : (k : Int) < (es.length : Int) := by omega
      have HX : Hid (σ.parts[j]? = some x) := hx
      clear hx hv hwg hcell
      go_upto_region 7 with fail
      go_region_held3 (fun w' => w'.cell? ⟨b, 9, none⟩ = some (.slice (some ⟨g, 0, none⟩) σ.parts.length cap) ∧ w'.cell? ⟨gl, k * 2, none⟩ = some (.int .i64 j) ∧ w'.cell? ⟨g, j * 7, none⟩ = some (.int .i64 x.pos) ∧ w'.cell? ⟨g, j * 7 + 1, none⟩ = some (.bool x.guard) ∧ w'.cell? ⟨g, j * 7 + 2, none⟩ = some (.string x.name) ∧ w'.cell? ⟨g, j * 7 + 3, none⟩ = some (.int .i64 x.kind) ∧ w'.cell? ⟨g, j * 7 + 4, none⟩ = some (.int .i64 x.times) ∧ w'.cell? ⟨g, j * 7 + 5, none⟩ = some (.int .i64 x.cond) ∧ w'.cell? ⟨g, j * 7 + 6, none⟩ = some (.slice wa x.ways.length wcp)) (go_keep) (fail)
      have hgr : wr.grownBy (wr.alloc (.cells (PC x (.slice wa x.ways.length wcp)) 202)).drew none := ⟨rfl, rfl, rfl, by simp, fun i hi _ => Below.heap_alloc _ _ _ hi⟩
      obtain ⟨hC1, hK1⟩ := hCI.new hgr (Nat.le_refl _) 7
      have hB1 : Blk (wr.alloc (.cells (PC x (.slice wa x.ways.length wcp)) 202)).drew wr.heap.size (PC x (.slice wa x.ways.length wcp)) 202 := (Blk.new wr _ _).drew
      have hc1 := put_same own' wr.heap.size 7
      have hI1 := hIg.k7 hK1
      clear hCI hIg hway hgr hK1 c0 c1 c2 c3 c4 c5 c6 d9 cl0 cl1
      unfold PC at hC1 hB1 hI1
      generalize (wr.alloc (.cells #[.int .i64 x.pos, .bool x.guard, .string x.name, .int .i64 x.kind, .int .i64 x.times, .int .i64 x.cond, .slice wa x.ways.length wcp] 202)).drew = W at *
      generalize wr.heap.size = L at *
      generalize put own' L 7 = own1 at *
      have hHeldOff : True := trivial
      go_wp2_with fail
      go_loopw [7, 8, 11] (fun av2 ev2 i wr2 => ∃ k2 : Nat, k2 ≤ gs.length ∧ i = .int .i64 k2 ∧ av2 = .int .i64 (((gs.take k2).map (candG σ.nodes σ.parts prev)).foldl upd (av, ev)).1 ∧ ev2 = .int .i64 (((gs.take k2).map (candG σ.nodes σ.parts prev)).foldl upd (av, ev)).2 ∧ ∃ own2, CI own w b m σ (.slice (some ⟨gl, 0, none⟩) es.length lc) es lo u6 known own2 wr2 ∧ own2 L = 7 ∧ Blk wr2 L #[.int .i64 x.pos, .bool x.guard, .string x.name, .int .i64 x.kind, .int .i64 x.times, .int .i64 x.cond, .slice wa x.ways.length wcp] 202) (fun _ _ i _ => gs.length - (intOf i).toNat)
      case atStart => exact ⟨0, Nat.zero_le _, rfl, rfl, rfl, own1, hC1, hc1, hB1⟩
      case round =>
        obtain ⟨k2, hk2, rfl, rfl, rfl, own2, hC2, hcL, hB2⟩ := hrel
        clear hC1 hI1 hB1 hc1
        obtain ⟨gv2, e0, e1, hI2⟩ := HCell.out own2 wr hC2.2.1 k hlt
        rw [hE] at e0 hI2
        simp only at e0 hI2
        obtain ⟨ga, gn, gc, rfl, hgn, hgg⟩ := hI2.at
        subst hgn
        by_cases hl2 : k2 < gs.length
        · obtain ⟨gg, rfl, hgcell⟩ := hgg (by omega)
          have hcg := hgcell k2 hl2
          obtain ⟨x2, hx2, hcx2, hpx2⟩ := hgs gs[k2] (List.getElem_mem _)
          have HT : Hid (((gs.take (k2 + 1)).map (candG σ.nodes σ.parts prev)).foldl upd (av, ev) = upd (((gs.take k2).map (candG σ.nodes σ.parts prev)).foldl upd (av, ev)) (unkU σ.nodes x2.cond known, 5)) := by
            show _ = _
            rw [map_foldl_take_succ _ _ _ _ hl2]
            unfold candG
            rw [xOf_eq hx2, hkn]
          generalize ((gs.take k2).map (candG σ.nodes σ.parts prev)).foldl upd (av, ev) = acc2 at *
          obtain ⟨a2, t2⟩ := acc2
          generalize gs[k2] = j2 at *
          obtain ⟨g2, cap2, wv2, hv2, hjl2, hway2, p0, p1, p2, p3, p4, p5, p6⟩ := hC2.1.st.part_at hx2
          have d9 := hC2.1.st.cell 9
          simp [PCells] at d9
          rw [hv2] at d9
          have hj20 : (0 : Int) ≤ (j2 : Int) := by omega
          have hj21 : (j2 : Int) < (σ.parts.length : Int) := by omega
          have h20 : (0 : Int) ≤ (k2 : Int) := by omega
          have h21 : (k2 : Int) < (gs.length : Int) := by omega
          clear hway2 p0 p1 p2 p3 p4 p6 hgcell hgg hx2 hv2
          generalize hun : unkU σ.nodes x2.cond known = un at *
          go_upto_region 11 with fail
          go_cut [12] from 32 to 71 (fun v wx => v = .int .i64 un ∧ ∃ own3, CI own w b m σ (.slice (some ⟨gl, 0, none⟩) es.length lc) es lo u6 known own3 wx ∧ own3 L = 7 ∧ Blk wx L #[.int .i64 x.pos, .bool x.guard, .string x.name, .int .i64 x.kind, .int .i64 x.times, .int .i64 x.cond, .slice wa x.ways.length wcp] 202)
          case first =>
            have hC3 := fun n => (hC2.keep (grownBy_drewN wr n none)).1
            go_region_with (first
              | (go_at_call 98; refine (names_unk hcx2 hnl hkn5 own2 (wr.drewN _) b m u6 (hC3 _).1.st (hC3 _).2.2.strs).mono ?_; rintro e w3 ⟨rfl, own3, hS3, hE3⟩; rw [hun]))
            all_goals
              go_wp2_with fail
              go_meet
              exact ⟨rfl, own3, (hC3 _).ext hS3 hE3, (hE3.same L hB2.lt).trans hcL, hE3.blk hcL hB2⟩
          case rest =>
            obtain ⟨rfl, own3, hC3, hcL3, hB3⟩ := hcut
            clear hC2 hcL hB2 hI2 hcg d9 p5 e0 e1
            have HEnd : Hid (∃ own2, CI own w b m σ (.slice (some ⟨gl, 0, none⟩) es.length lc) es lo u6 known own2 wc ∧ own2 L = 7 ∧ Blk wc L #[.int .i64 x.pos, .bool x.guard, .string x.name, .int .i64 x.kind, .int .i64 x.times, .int .i64 x.cond, .slice wa x.ways.length wcp] 202) := ⟨own3, hC3, hcL3, hB3⟩
            clear hC3 hcL3 hB3
            by_cases h0 : 0 ≤ un
            · by_cases ha : a2 < 0
              · have HU : Hid (upd (a2, t2) (un, 5) = (un, 5)) := upd_yes h0 (.inl ha)
                go_wp2_with fail
                go_roundw
                case rel => exact ⟨k2 + 1, by omega, by go_num, by rw [HT.out, HU.out], by rw [HT.out, HU.out]; rfl, HEnd.out⟩
                case measure => simp [intOf]; omega
              · have ha' : 0 ≤ a2 := by omega
                by_cases hb : un < a2
                · have HU : Hid (upd (a2, t2) (un, 5) = (un, 5)) := upd_yes h0 (.inr hb)
                  clear ha
                  go_wp2_with fail
                  go_roundw
                  case rel => exact ⟨k2 + 1, by omega, by go_num, by rw [HT.out, HU.out], by rw [HT.out, HU.out]; rfl, HEnd.out⟩
                  case measure => simp [intOf]; omega
                · have HU : Hid (upd (a2, t2) (un, 5) = (a2, t2)) := upd_no (by simp only; omega)
                  have hb' : a2 ≤ un := by omega
                  clear ha hb
                  go_wp2_with fail
                  go_roundw
                  case rel => exact ⟨k2 + 1, by omega, by go_num, by rw [HT.out, HU.out], by rw [HT.out, HU.out], HEnd.out⟩
                  case measure => simp [intOf]; omega
            · have HU : Hid (upd (a2, t2) (un, 5) = (a2, t2)) := upd_no (by simp only; omega)
              have h0' : un < 0 := by omega
              clear h0
              go_wp2_with fail
              go_roundw
              case rel => exact ⟨k2 + 1, by omega, by go_num, by rw [HT.out, HU.out], by rw [HT.out, HU.out], HEnd.out⟩
              case measure => simp [intOf]; omega
        · have e : k2 = gs.length := by omega
          subst e
          have HA2 : Hid (((gs.take gs.length).map (candG σ.nodes σ.parts prev)).foldl upd (av, ev) = (gs.map (candG σ.nodes σ.parts prev)).foldl upd (av, ev)) := by show _ = _; rw [List.take_length]
          rw [HA2.out]
          obtain ⟨acc3, HA3⟩ : ∃ z, Hid ((gs.map (candG σ.nodes σ.parts prev)).foldl upd (av, ev) = z) := ⟨_, rfl⟩
          rw [HA3.out]
          clear HA2 hgg
          obtain ⟨a3, t3⟩ := acc3
          obtain ⟨ka, kc, ek⟩ := hC2.2.2.form
          subst ek
          clear hI2
          go_wp2_with fail
          go_loopw [7, 8, 13] (fun av3 ev3 i wr3 => ∃ k3 : Nat, k3 ≤ known.length ∧ i = .int .i64 k3 ∧ av3 = .int .i64 (((prev.take k3).map (candT σ.parts j)).foldl upd (a3, t3)).1 ∧ ev3 = .int .i64 (((prev.take k3).map (candT σ.parts j)).foldl upd (a3, t3)).2 ∧ ∃ own2, CI own w b m σ (.slice (some ⟨gl, 0, none⟩) es.length lc) es lo (.slice ka known.length kc) known own2 wr3 ∧ own2 L = 7 ∧ Blk wr3 L #[.int .i64 x.pos, .bool x.guard, .string x.name, .int .i64 x.kind, .int .i64 x.times, .int .i64 x.cond, .slice wa x.ways.length wcp] 202) (fun _ _ i _ => known.length - (intOf i).toNat)
          case atStart => exact ⟨0, Nat.zero_le _, rfl, rfl, rfl, own2, hC2, hcL, hB2⟩
          case round =>
            obtain ⟨k3, hk3, rfl, rfl, rfl, own3, hC3, hcL3, hB3⟩ := hrel
            clear hC2 hcL hB2
            by_cases hl3' : k3 < known.length
            · have hl3 : k3 < k := by rw [← HKL.out]; exact hl3'
              obtain ⟨gk, kc2, ek2, hgk, hkcell⟩ : ∃ gk c, (Value.slice ka known.length kc) = .slice (some ⟨gk, 0, none⟩) known.length c ∧ gk < wr.heap.size ∧ ∀ i y, (known.map Value.string)[i]? = some y → wr.cell? ⟨gk, i, none⟩ = some y := by
                obtain ⟨a, c, e, hc⟩ := row_at2 hC3.2.2.1
                obtain ⟨g, rfl, h1, h2⟩ := hc (by omega)
                exact ⟨g, c, e, h1, h2⟩
              simp only [Value.slice.injEq] at ek2
              obtain ⟨rfl, _, rfl⟩ := ek2
              obtain ⟨gvk, ek0, ek1, _⟩ := HCell.out own3 wr hC3.2.1 k hlt
              obtain ⟨gv3, e30, e31, _⟩ := HCell.out own3 wr hC3.2.1 k3 (by omega)
              rw [hE] at ek0
              simp only at ek0
              have hp3 := HP.out k3 hl3
              have hpl : k3 < prev.length := by rw [HL.out]; exact hl3
              have ep : prev[k3] = (es[k3]'(by omega)).1 := by rw [List.getElem?_eq_getElem hpl] at hp3; simpa using hp3
              rw [← ep] at e30
              have hkn3 : (known.map Value.string)[k3]? = some (.string (xOf σ.parts prev[k3]).name) := by
                rw [← hkn]; unfold knownOf
                rw [List.getElem?_map, List.getElem?_map, List.getElem?_eq_getElem hpl]; rfl
              have ckn := hkcell k3 _ hkn3
              have HT : Hid (((prev.take (k3 + 1)).map (candT σ.parts j)).foldl upd (a3, t3) = upd (((prev.take k3).map (candT σ.parts j)).foldl upd (a3, t3)) (candT σ.parts j prev[k3])) := map_foldl_take_succ _ _ _ _ hpl
              have HTC : Hid (candT σ.parts j prev[k3] = (if ((xOf σ.parts prev[k3]).name.toList == x.name.toList && !(prev[k3] == j)) = true then x.pos else -1, 4)) := by show _ = _; unfold candT; rw [xOf_eq HX.out]
              generalize (xOf σ.parts prev[k3]).name = nm3 at *
              generalize ((prev.take k3).map (candT σ.parts j)).foldl upd (a3, t3) = acc4 at *
              obtain ⟨a4, t4⟩ := acc4
              generalize candT σ.parts j prev[k3] = cd at *
              generalize prev[k3] = p3 at *
              have bb0 := hB3.cell 0
              have bb2 := hB3.cell 2
              simp at bb0 bb2
              have hLb := hB3.lt
              have HEnd : Hid (∀ n, ∃ own2, CI own w b m σ (.slice (some ⟨gl, 0, none⟩) es.length lc) es lo (.slice (some ⟨gk, 0, none⟩) known.length kc) known own2 (wr.drewN n) ∧ own2 L = 7 ∧ Blk (wr.drewN n) L #[.int .i64 x.pos, .bool x.guard, .string x.name, .int .i64 x.kind, .int .i64 x.times, .int .i64 x.cond, .slice wa x.ways.length wcp] 202) := fun n => ⟨own3, (hC3.keep (grownBy_drewN wr n none)).1, hcL3, hB3⟩
              have h30 : (0 : Int) ≤ (k3 : Int) := by omega
              have h31 : (k3 : Int) < (known.length : Int) := by omega
              have h32 : (k3 : Int) < (es.length : Int) := by omega
              clear hC3 hcL3 hB3 hkcell hp3 ep hkn3 hpl
              cases hq : (nm3.toList == x.name.toList) with
              | false =>
                have HU : Hid (upd (a4, t4) cd = (a4, t4)) := by show _ = _; rw [HTC.out, hq]; exact upd_no (by simp)
                clear HTC
                go_wp2
                go_quiet (fail)
                go_wp2
                go_roundw
                case rel => exact ⟨k3 + 1, by omega, by go_num, by rw [HT.out, HU.out], by rw [HT.out, HU.out], HEnd.out _⟩
                case measure => simp [intOf]; omega
              | true =>
                by_cases hpj : p3 = j
                · have hpj' : ((p3 : Int) != (j : Int)) = false := by simp [hpj]
                  have HU : Hid (upd (a4, t4) cd = (a4, t4)) := by show _ = _; rw [HTC.out, hq, hpj]; exact upd_no (by simp)
                  clear HTC hpj
                  go_wp2
                  go_quiet (fail)
                  go_wp2
                  go_roundw
                  case rel => exact ⟨k3 + 1, by omega, by go_num, by rw [HT.out, HU.out], by rw [HT.out, HU.out], HEnd.out _⟩
                  case measure => simp [intOf]; omega
                · have hpj' : ((p3 : Int) != (j : Int)) = true := by simp; omega
                  have HCD : Hid (cd = (x.pos, 4)) := by
                    show _ = _; rw [HTC.out, hq]
                    have : (p3 == j) = false := by rw [beq_eq_false_iff_ne]; exact hpj
                    rw [this]; rfl
                  clear HTC hpj
                  by_cases ha : a4 < 0
                  · have HU : Hid (upd (a4, t4) cd = (x.pos, 4)) := by show _ = _; rw [HCD.out]; exact upd_yes hpx (.inl ha)
                    go_wp2
                    go_quiet (fail)
                    go_wp2
                    go_roundw
                    case rel => exact ⟨k3 + 1, by omega, by go_num, by rw [HT.out, HU.out], by rw [HT.out, HU.out]; rfl, HEnd.out _⟩
                    case measure => simp [intOf]; omega
                  · have ha' : 0 ≤ a4 := by omega
                    by_cases hb : x.pos < a4
                    · have HU : Hid (upd (a4, t4) cd = (x.pos, 4)) := by show _ = _; rw [HCD.out]; exact upd_yes hpx (.inr hb)
                      clear ha
                      go_wp2
                      go_quiet (fail)
                      go_wp2
                      go_roundw
                      case rel => exact ⟨k3 + 1, by omega, by go_num, by rw [HT.out, HU.out], by rw [HT.out, HU.out]; rfl, HEnd.out _⟩
                      case measure => simp [intOf]; omega
                    · have HU : Hid (upd (a4, t4) cd = (a4, t4)) := by show _ = _; rw [HCD.out]; exact upd_no (by simp only; omega)
                      have hb' : a4 ≤ x.pos := by omega
                      clear ha hb
                      go_wp2
                      go_quiet (fail)
                      go_wp2
                      go_roundw
                      case rel => exact ⟨k3 + 1, by omega, by go_num, by rw [HT.out, HU.out], by rw [HT.out, HU.out], HEnd.out _⟩
                      case measure => simp [intOf]; omega
            · have e3 : k3 = known.length := by omega
              subst e3
              have HC4 : Hid (((prev.take known.length).map (candT σ.parts j)).foldl upd (a3, t3) = (prev.map (candT σ.parts j)).foldl upd (a3, t3)) := by show _ = _; rw [HKL.out, ← HL.out, List.take_length]
              rw [HC4.out]
              obtain ⟨un, HUN⟩ : ∃ z, Hid (unkU σ.nodes x.cond (known ++ [x.name]) = z) := ⟨_, rfl⟩
              have HCC : Hid (chk σ.nodes σ.parts es (k + 1) = upd ((prev.map (candT σ.parts j)).foldl upd (a3, t3)) (un, 5)) := by
                show _ = _
                rw [HC.out]
                unfold candS
                rw [List.foldl_append, List.foldl_append, HA3.out]
                show upd _ (candG σ.nodes σ.parts (prev ++ [j]) j) = _
                unfold candG
                rw [xOf_eq HX.out, HKK.out, HUN.out]
              generalize (prev.map (candT σ.parts j)).foldl upd (a3, t3) = acc5 at *
              obtain ⟨a5, t5⟩ := acc5
              clear HC4 HC
              have bb2 := hB3.cell 2
              have bb5 := hB3.cell 5
              simp at bb2 bb5
              have hLb := hB3.lt
              have hLb1 : L < wr.heap.size + 1 := by omega
              obtain ⟨j0, hj00, hy0, hy1, hy2⟩ := info_parts Tryz.infoStr
              have hrowk := hC3.2.2.1
              go_upto_region 23 with (first
                | (go_at_call 98; refine (names_unk hcx hnl (by rw [List.length_append]; exact hkn6) (put own3 g2 11) w6 b m (.slice (some ⟨g2, 0, none⟩) (known.length + 1) cap2) hC6.1.st hC6.2.2.strs).mono ?_; rintro e w7 ⟨rfl, own7, hS7, hE7⟩; rw [HUN.out]; have HEnd : Hid (∃ own', CI own w b m σ (.slice (some ⟨gl, 0, none⟩) es.length lc) es lo (.slice (some ⟨g2, 0, none⟩) (known.length + 1) cap2) (knownOf σ.parts ((es.take (k + 1)).map (·.1))) own' w7) := (by rw [HK.out]; exact ⟨own7, hC6.ext hS7 hE7⟩); clear hS7 hE7 hC6 hK6)
                | (at_builtin; refine wpList_append_lies _ rfl _ _ 91 rfl 0 9 j0 _ 1 16 Tryz.underlying91 hj00 hy0 hy1 hy2 rfl (by decide) _ known.length (known.map Value.string) (by rfl) (hrowk.alloc _) ⟨wr.heap.size, 0, none⟩ 1 1 [.string x.name] (by rfl) rfl (World.news_of_block (alloc_at _ _ _ (by simp))) (by simp [Value.oneCell']) (by decide) (by unfold maxLen; omega) (by omega) (Nat.zero_le _) (wr.heap.size + 1) (by simp) ?_; intro g2 cap2 w6 hown2 hgrow2 hat2 hlt2; obtain ⟨hC6, hK6⟩ := hC3.app hown2 hgrow2 hat2; have bb5' : w6.cell? ⟨L, 5, none⟩ = some (.int .i64 x.cond) := (cell_eq (hK6.2 L hB3.lt hcL3).2 _).trans bb5; clear hown2 hgrow2 hat2))
              by_cases h0 : 0 ≤ un
              · by_cases ha : a5 < 0
                · have HU : Hid (upd (a5, t5) (un, 5) = (un, 5)) := upd_yes h0 (.inl ha)
                  go_wp2_with fail
                  go_roundw
                  case rel => exact ⟨k + 1, by omega, by go_num, by rw [HCC.out, HU.out], by rw [HCC.out, HU.out]; rfl, HEnd.out⟩
                  case measure => simp [intOf]; omega
                · have ha' : 0 ≤ a5 := by omega
                  by_cases hb : un < a5
                  · have HU : Hid (upd (a5, t5) (un, 5) = (un, 5)) := upd_yes h0 (.inr hb)
                    clear ha
                    go_wp2_with fail
                    go_roundw
                    case rel => exact ⟨k + 1, by omega, by go_num, by rw [HCC.out, HU.out], by rw [HCC.out, HU.out]; rfl, HEnd.out⟩
                    case measure => simp [intOf]; omega
                  · have HU : Hid (upd (a5, t5) (un, 5) = (a5, t5)) := upd_no (by simp only; omega)
                    have hb' : a5 ≤ un := by omega
                    clear ha hb
                    go_wp2_with fail
                    go_roundw
                    case rel => exact ⟨k + 1, by omega, by go_num, by rw [HCC.out, HU.out], by rw [HCC.out, HU.out], HEnd.out⟩
                    case measure => simp [intOf]; omega
              · have HU : Hid (upd (a5, t5) (un, 5) = (a5, t5)) := upd_no (by simp only; omega)
                have h0' : un < 0 := by omega
                clear h0
                go_wp2_with fail
                go_roundw
                case rel => exact ⟨k + 1, by omega, by go_num, by rw [HCC.out, HU.out], by rw [HCC.out, HU.out], HEnd.out⟩
                case measure => simp [intOf]; omega
    · have e : k = es.length := by omega
      subst e
      have HF := chk_all σ.nodes σ.parts es
      have HA : Hid (AfterM own w b m σ wr) := ⟨own', hCI.1.st, hCI.1.ext⟩
      rw [HF]
      clear hCI HF
      go_wp2_with fail
      go_ret2
      exact ⟨rfl, HA.out⟩
end Go.Proofs.YtddbjcfdmdbmkaaGreatDoor
