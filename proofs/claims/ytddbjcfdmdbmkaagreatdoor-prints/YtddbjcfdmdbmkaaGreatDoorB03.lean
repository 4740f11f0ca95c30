import Derived.Test.YtddbjcfdmdbmkaaGreatDoorB02
set_option linter.unusedVariables false
set_option linter.unusedSimpArgs false
/-
  node, name.
-/
namespace Go.Proofs.YtddbjcfdmdbmkaaGreatDoor
open Go.RowKit
attribute [local go_sem ↓] Go.wp_at_zero Go.wp_at_succ

theorem Tryz.infoNode : (Tryz.prog.info? 248).map (fun i => (i.zero, i.size, i.bytes)) = some (some (.agg #[.string ⟨#[]⟩, .int .i64 0, .int .i64 0, .int .i64 0, .string ⟨#[]⟩, .string ⟨#[]⟩, .int .i64 0]), 7, 80) := by kernel_rfl

set_option maxRecDepth 100000 in
set_option maxHeartbeats 800000 in
theorem node_any {own : Nat → Nat} {w : World} {b : Nat} {m : PM} {σ : PSt} (h : St own w b m σ) (op : ByteArray) (a c n : Int) (name field : ByteArray) (pos : Int) (b1 : σ.nodes.length ≤ 100000) :
    Calls Tryz.prog 206 #[.pointer (some ⟨b, 0, none⟩), .agg #[.string op, .int .i64 a, .int .i64 c, .int .i64 n, .string name, .string field, .int .i64 pos]] w fun e w' => e = .returned (.int .i64 σ.nodes.length) ∧
      After own w b { σ with nodes := σ.nodes ++ [⟨op, a, c, n, name, field, pos⟩] } w' := by
  have hbw := h.blk.lt
  have hc8 := h.cell 8
  simp [PCells] at hc8
  have hfb := h.blk.frozen 8
  obtain ⟨i0, hi0, hz0, hz1, hz2⟩ := info_parts Tryz.infoNode
  go_enter Tryz.func206, Tryz.ntmps206
  go_wp2
  go_region_law ((refine step_append_lies _ (by rfl) _ _ 120 (by rfl) 0 248 i0 _ 7 80 Tryz.underlying120 hi0 hz0 hz1 hz2 rfl (by decide) m.dv σ.nodes.length (flat RNode.cells σ.nodes) (by rfl) (((h.alloc _).alloc _).drew.nodes) ⟨w.heap.size + 1, 0, none⟩ 1 1 (RNode.cells ⟨op, a, c, n, name, field, pos⟩) (by rfl) rfl (World.news_of_block (alloc_at _ _ _ (by simp))) (by simp [RNode.cells, Value.oneCell']) (by decide) (by unfold maxLen; omega) (by omega) (Nat.zero_le _) (w.heap.size + 2) (by simp) ?_; intro g cap w1 hown hgrow hat hlt1; have kb := ((h.alloc _).alloc _).drew.far hgrow h.od (by decide); have q8 := kb.cell 8; have qf := kb.frozen 8; simp [PCells] at q8))
  all_goals
    obtain ⟨hS2, hE2⟩ := ((h.alloc _).alloc _).drew.app_nodes ⟨op, a, c, n, name, field, pos⟩ hown hgrow (by simpa using hat)
    have hE := ((((Ext.refl own w).alloc _).alloc _).drew).trans hE2
    clear hE2 hown hgrow hat kb
    go_wp2
    go_ret
    exact ⟨ret_int (by omega), _, _, hS2, hE⟩

/-- The reserved words. -/
def resv : List ByteArray := [⟨#[119, 105, 116, 104, 105, 110]⟩, ⟨#[114, 97, 116, 101]⟩, ⟨#[116, 104, 101, 110]⟩, ⟨#[110, 111, 116]⟩, ⟨#[105, 102]⟩, ⟨#[116, 105, 109, 101, 115]⟩, ⟨#[97, 110, 100]⟩, ⟨#[111, 114]⟩, ⟨#[105, 116]⟩]
def resvAt (k : Nat) : ByteArray := resv.getD k ByteArray.empty
def RTok.isName (t : RTok) : Bool := t.kind == 0 && decide (t.s.size ≤ 8) && resv.all fun r => !(t.s.toList == r.toList)
def okAt (t : RTok) (wr : Int) (k : Nat) : Bool := (t.kind == 0 && decide (t.s.size ≤ 8) && decide (wr < 0)) && (resv.take k).all fun r => !(t.s.toList == r.toList)
def PSt.isName (σ : PSt) : Bool := σ.now.isName && decide (σ.wrong < 0)
theorem okAt_nine (t : RTok) (wr : Int) : okAt t wr 9 = (t.isName && decide (wr < 0)) := by
  unfold okAt RTok.isName
  rw [show resv.take 9 = resv from rfl]
  cases (t.kind == 0) <;> cases decide (t.s.size ≤ 8) <;> cases decide (wr < 0) <;> simp
theorem okAt_succ (t : RTok) (wr : Int) (k : Nat) (h : k < 9) : okAt t wr (k + 1) = (okAt t wr k && !(t.s.toList == (resvAt k).toList)) := by
  unfold okAt resvAt
  have hg : resv.getD k ByteArray.empty = resv[k]'(show k < resv.length from h) := by simp [List.getD, show k < resv.length from h]
  rw [List.take_succ_eq_append_getElem (show k < resv.length from h), List.all_append, hg]
  simp [Bool.and_assoc]
def resvCells : Array Value := #[.string ⟨#[119, 105, 116, 104, 105, 110]⟩, .string ⟨#[114, 97, 116, 101]⟩, .string ⟨#[116, 104, 101, 110]⟩, .string ⟨#[110, 111, 116]⟩, .string ⟨#[105, 102]⟩, .string ⟨#[116, 105, 109, 101, 115]⟩, .string ⟨#[97, 110, 100]⟩, .string ⟨#[111, 114]⟩, .string ⟨#[105, 116]⟩]
theorem resvCells_at (k : Nat) (h : k < 9) : resvCells[k]? = some (.string (resvAt k)) := by
  match k, h with
  | 0, _ => rfl
  | 1, _ => rfl
  | 2, _ => rfl
  | 3, _ => rfl
  | 4, _ => rfl
  | 5, _ => rfl
  | 6, _ => rfl
  | 7, _ => rfl
  | 8, _ => rfl

def PSt.nameV (σ : PSt) : ByteArray := if σ.isName then σ.now.s else ⟨#[]⟩
def PSt.nam (σ : PSt) : PSt := if σ.isName then { σ with i := σ.i + 1 } else σ.bad

/-- what holds in name's loop -/
structure NInv (own : Nat → Nat) (w : World) (b : Nat) (m : PM) (σ : PSt) (wr : World) : Prop where
  st : St own wr b m σ
  s : wr.cell? ⟨w.heap.size + 1, 1, none⟩ = some (.string σ.now.s)
  l : Blk wr (w.heap.size + 1 + 1) resvCells 9
  e : Ext own w own wr
theorem grownBy_drewN (w : World) (n : Nat) (row : Option Nat) : w.grownBy (w.drewN n) row := ⟨rfl, rfl, rfl, Nat.le_refl _, fun _ _ _ => rfl⟩
theorem St.drewN {own : Nat → Nat} {w : World} {b : Nat} {m : PM} {σ : PSt} (h : St own w b m σ) (n : Nat) : St own (w.drewN n) b m σ := h.grow (grownBy_drewN w n none)
theorem Ext.drewN {a b : Nat → Nat} {w w' : World} (h : Ext a w b w') (n : Nat) : Ext a w b (w'.drewN n) := ⟨h.same, h.kept.os, h.kept.tape, h.kept.output, h.kept.size, h.kept.block⟩
theorem NInv.drewN {own : Nat → Nat} {w : World} {b : Nat} {m : PM} {σ : PSt} {wr : World} (h : NInv own w b m σ wr) (n : Nat) : NInv own w b m σ (wr.drewN n) := ⟨h.st.drewN n, h.s, h.l, h.e.drewN n⟩

set_option maxRecDepth 100000 in
set_option maxHeartbeats 800000 in
theorem name_any {own : Nat → Nat} {w : World} {b : Nat} {m : PM} {σ : PSt} (h : St own w b m σ) (hv : Inv σ) (hsz : σ.now.s.size ≤ maxLen) :
    Calls Tryz.prog 176 #[.pointer (some ⟨b, 0, none⟩)] w fun e w' => e = .returned (.string σ.nameV) ∧ St own w' b m σ.nam ∧ Ext own w own w' := by
  have hW := h.cell 2
  simp [PCells] at hW
  have hlt := h.blk.lt
  have hlt1 : b < w.heap.size + 1 := by omega
  have hlt2 : b < w.heap.size + 1 + 1 := by omega
  have hlt3 : b < w.heap.size + 2 := by omega
  have hnil := hsz
  unfold maxLen at hnil
  go_enter Tryz.func176, Tryz.ntmps176
  go_wp2_with (first
    | (go_at_call 96; refine (now_any h).mono ?_; rintro e w' ⟨rfl, o, rfl⟩))
  all_goals
    go_loopw [5, 6] (fun ok i wr => ∃ k : Nat, k ≤ 9 ∧ i = .int .i64 k ∧ ok = .bool (okAt σ.now σ.wrong k) ∧ NInv own w b m σ wr) (fun _ i _ => 9 - (intOf i).toNat)
    case atStart =>
      refine ⟨0, by omega, rfl, ?_, ⟨(((h.alloc o).alloc _).alloc _).drew, by simp [go_sem], alloc_at _ _ _ (by simp), ((((Ext.refl own w).alloc o).alloc _).alloc _).drew⟩⟩
      first
        | (have hk : σ.now.kind = 0 := by assumption
           have hs8 : (σ.now.s.size : Int) ≤ 8 := by assumption
           have : σ.now.s.size ≤ 8 := by omega
           simp [okAt, hk, this])
        | (have hs8 : 8 < (σ.now.s.size : Int) := by assumption
           have : ¬ σ.now.s.size ≤ 8 := by omega
           simp [okAt, this])
        | (have hk : ¬ σ.now.kind = 0 := by assumption
           simp [okAt, hk])
    case round =>
      obtain ⟨k, hk, rfl, rfl, hI⟩ := hrel
      have hs := hI.s
      by_cases h9 : k < 9
      · have hlc : wr.cell? ⟨w.heap.size + 1 + 1, k, none⟩ = some (.string (resvAt k)) := (hI.l.cell k).trans (resvCells_at k h9)
        have HN : Hid (okAt σ.now σ.wrong (k + 1) = (okAt σ.now σ.wrong k && !(σ.now.s.toList == (resvAt k).toList))) := okAt_succ _ _ _ h9
        have hki : (k : Int) < 9 := by omega
        have hk0 : (0 : Int) ≤ (k : Int) := by omega
        cases hok : okAt σ.now σ.wrong k with
        | true =>
          go_wp2
          go_quiet (fail)
          go_wp2
          go_roundw
          case rel => exact ⟨k + 1, by omega, by go_num, by rw [HN.out, hok]; simp, hI.drewN _⟩
          case measure => simp [intOf]; omega
        | false =>
          go_wp2
          go_quiet (fail)
          go_wp2
          go_roundw
          case rel => exact ⟨k + 1, by omega, by go_num, by rw [HN.out, hok]; rfl, hI.drewN _⟩
          case measure => simp [intOf]; omega
      · have e9 : k = 9 := by omega
        subst e9
        have hf := hI.st.blk.frozen 1
        have hc1 := hI.st.cell 1
        simp [PCells] at hc1
        have hil := h.ilt
        have htl := h.tlen
        have HO : Hid (okAt σ.now σ.wrong 9 = σ.isName) := okAt_nine _ _
        cases hok : okAt σ.now σ.wrong 9 with
        | true =>
          have HNm : Hid (σ.isName = true) := HO.out ▸ hok
          have HNx : Hid (σ.i + 1 < σ.toks.length) := by
            refine hv.next h.ilt ?_
            have := HNm.out
            simp [PSt.isName, RTok.isName] at this
            omega
          go_wp2
          go_ret
          have hE : Ext own w own (wr.setCell ⟨b, 1, none⟩ (.int .i64 (σ.i + 1))) := hI.e.setCell (p := ⟨b, 1, none⟩) h.own7 _
          have hS : St own (wr.setCell ⟨b, 1, none⟩ (.int .i64 (σ.i + 1))) b m { σ with i := σ.i + 1 } := hI.st.store (σ' := { σ with i := σ.i + 1 }) 1 _ (by simp [PCells]) rfl rfl rfl rfl rfl rfl HNx.out h.wlo
          exact ⟨by simp [PSt.nameV, HNm.out], by simp only [PSt.nam, HNm.out]; exact hS, hE⟩
        | false =>
          have HNm : Hid (σ.isName = false) := HO.out ▸ hok
          go_wp2_with (go_at_call 97; refine (bad_any hI.st).mono ?_; rintro e w'' ⟨rfl, hst', hext'⟩)
          go_ret
          exact ⟨by simp [PSt.nameV, HNm.out], by simp only [PSt.nam, HNm.out]; exact hst', hI.e.trans hext'⟩
end Go.Proofs.YtddbjcfdmdbmkaaGreatDoor

/-
  names.
-/
namespace Go.Proofs.YtddbjcfdmdbmkaaGreatDoor
open Go.RowKit

/-- A condition as a tree. -/
inductive Nd where
  | num (n : Int)
  | fld (name field : ByteArray) (pos : Int)
  | bin (op : ByteArray) (a b : Nd)

/-- Node i of a row of nodes is that tree. -/
inductive Rep (nodes : List RNode) : Nat → Nd → Prop
  | num {i : Nat} {x : RNode} : nodes[i]? = some x → x.op.toList = [110] → Rep nodes i (.num x.n)
  | fld {i : Nat} {x : RNode} : nodes[i]? = some x → x.op.toList = [102] → 0 ≤ x.pos → Rep nodes i (.fld x.name x.field x.pos)
  | bin {i a b : Nat} {x : RNode} {s t : Nd} : nodes[i]? = some x → ¬ x.op.toList = [110] → ¬ x.op.toList = [102] → x.a = a → x.b = b → Rep nodes a s → Rep nodes b t → Rep nodes i (.bin x.op s t)

/-- The place of the first name that is not known; -1. -/
def Nd.unknown (known : List ByteArray) : Nd → Int
  | .num _ => -1
  | .fld name _ pos => if name.toList.isEmpty || known.any (fun k => k.toList == name.toList) then -1 else pos
  | .bin _ a b => if a.unknown known < 0 ∨ (0 ≤ b.unknown known ∧ b.unknown known < a.unknown known) then b.unknown known else a.unknown known

/-- A list of strings that no callee writes. -/
def Strs (own : Nat → Nat) (w : World) (v : Value) (l : List ByteArray) : Prop :=
  w.ownsRow 0 9 1 v l.length (l.map Value.string) ∧ ∀ g, v.ownBlock = some g → 7 ≤ own g

theorem St.node_at {own : Nat → Nat} {w : World} {b : Nat} {m : PM} {σ : PSt} (h : St own w b m σ) {i : Nat} {x : RNode} (hx : σ.nodes[i]? = some x) :
    ∃ g cap, m.dv = .slice (some ⟨g, 0, none⟩) σ.nodes.length cap ∧ i < σ.nodes.length ∧
      w.cell? ⟨g, i * 7, none⟩ = some (.string x.op) ∧ w.cell? ⟨g, i * 7 + 1, none⟩ = some (.int .i64 x.a) ∧ w.cell? ⟨g, i * 7 + 2, none⟩ = some (.int .i64 x.b) ∧ w.cell? ⟨g, i * 7 + 3, none⟩ = some (.int .i64 x.n) ∧
      w.cell? ⟨g, i * 7 + 4, none⟩ = some (.string x.name) ∧ w.cell? ⟨g, i * 7 + 5, none⟩ = some (.string x.field) ∧ w.cell? ⟨g, i * 7 + 6, none⟩ = some (.int .i64 x.pos) := by
  obtain ⟨hi, he⟩ := List.getElem?_eq_some_iff.1 hx
  obtain ⟨g, cap, hv, _, _⟩ := h.nodes.form (by omega)
  have key : ∀ j, j < 7 → ∀ u, (RNode.cells x)[j]? = some u → w.cell? ⟨g, i * 7 + j, none⟩ = some u := by
    intro j hj u hu
    have := h.nodes.cells (g := g) (by rw [hv]; rfl) (i * 7 + j) u (by rw [flat_get RNode.cells 7 (fun _ => rfl) _ _ _ hi hj, he]; exact hu)
    have hadd : (⟨g, 0, none⟩ : Addr).add (i * 7 + j) = ⟨g, i * 7 + j, none⟩ := by unfold Addr.add; split <;> simp_all
    rw [hadd] at this; exact this
  exact ⟨g, cap, hv, hi, key 0 (by decide) _ rfl, key 1 (by decide) _ rfl, key 2 (by decide) _ rfl, key 3 (by decide) _ rfl, key 4 (by decide) _ rfl, key 5 (by decide) _ rfl, key 6 (by decide) _ rfl⟩

set_option maxRecDepth 100000 in
set_option maxHeartbeats 800000 in
theorem names_none (w : World) (b : Nat) (n : Int) (hn : n < 0) (kv : Value) :
    Calls Tryz.prog 98 #[.pointer (some ⟨b, 0, none⟩), .int .i64 n, kv] w fun e w' => e = .returned (.int .i64 (-1)) ∧ w' = w := by
  go_enter Tryz.func98, Tryz.ntmps98
  go_wp2_with fail
  go_ret
  exact ⟨rfl, rfl⟩

/-- The same state, somewhere; its rows lie where they lay. -/
def AfterM (own : Nat → Nat) (w : World) (b : Nat) (m : PM) (σ : PSt) (w' : World) : Prop := ∃ own', St own' w' b m σ ∧ Ext own w own' w'

def NamesC (known : List ByteArray) (i : Nat) (t : Nd) (σ : PSt) : Prop := ∀ (own : Nat → Nat) (w : World) (b : Nat) (m : PM) (kv : Value), St own w b m σ → Strs own w kv known →
  Calls Tryz.prog 98 #[.pointer (some ⟨b, 0, none⟩), .int .i64 i, kv] w fun e w' => e = .returned (.int .i64 (t.unknown known)) ∧ AfterM own w b m σ w'

set_option maxRecDepth 100000 in
set_option maxHeartbeats 800000 in
theorem names_num {σ : PSt} {known : List ByteArray} {i : Nat} {x : RNode} (hx : σ.nodes[i]? = some x) (ho : x.op.toList = [110]) (_hlen : σ.nodes.length ≤ 100000) : NamesC known i (.num x.n) σ := by
  intro own w b m kv h hk
  obtain ⟨g, cap, hv, hi, c0, c1, c2, c3, c4, c5, c6⟩ := h.node_at hx
  have d8 := h.cell 8
  simp [PCells] at d8
  rw [hv] at d8
  have hi0 : (0 : Int) ≤ (i : Int) := by omega
  have hi1 : (i : Int) < (σ.nodes.length : Int) := by omega
  have hq : (x.op.toList == [110]) = true := by simp [ho]
  have HV : Hid (m.dv = .slice (some ⟨g, 0, none⟩) σ.nodes.length cap) := hv
  clear hv ho hx
  go_enter Tryz.func98, Tryz.ntmps98
  go_wp2_with fail
  go_ret
  exact ⟨rfl, own, h.alloc _, (Ext.refl own w).alloc _⟩

theorem row_of_blk {w w' : World} {base : Nat} {e : TypeId} {size : Nat} {v : Value} {n : Nat} {xs : List Value} (h : w.ownsRow base e size v n xs) (hb : ∀ g, v.ownBlock = some g → w'.heap[g]? = w.heap[g]?) : w'.ownsRow base e size v n xs := by
  refine ⟨h.1, ?_⟩
  rcases h.2 with hn | ⟨g, cap, cur, rfl, h1, h2, rest⟩
  · exact .inl hn
  · exact .inr ⟨g, cap, cur, rfl, h1, (hb g rfl).trans h2, rest⟩
theorem Strs.ext {own own' : Nat → Nat} {w w' : World} {v : Value} {l : List ByteArray} (h : Strs own w v l) (hE : Ext own w own' w') : Strs own' w' v l :=
  ⟨row_of_blk h.1 fun g hg => hE.kept.block g ⟨(h.1.lt g hg).2, h.2 g hg⟩, fun g hg => by rw [hE.same g (h.1.lt g hg).2]; exact h.2 g hg⟩
def NX (x : RNode) : Array Value := #[.string x.op, .int .i64 x.a, .int .i64 x.b, .int .i64 x.n, .string x.name, .string x.field, .int .i64 x.pos]

set_option maxRecDepth 100000 in
set_option maxHeartbeats 800000 in
theorem names_bin {σ : PSt} {known : List ByteArray} {i a c : Nat} {x : RNode} {s t : Nd} (hx : σ.nodes[i]? = some x) (ho : ¬ x.op.toList = [110]) (ho2 : ¬ x.op.toList = [102]) (ha : x.a = a) (hc : x.b = c) (_hlen : σ.nodes.length ≤ 100000)
    (h1 : NamesC known a s σ) (h2 : NamesC known c t σ) : NamesC known i (.bin x.op s t) σ := by
  intro own w b m kv h hk
  obtain ⟨g, cap, hv, hi, c0, c1, c2, c3, c4, c5, c6⟩ := h.node_at hx
  have d8 := h.cell 8
  simp [PCells] at d8
  rw [hv] at d8
  have hi0 : (0 : Int) ≤ (i : Int) := by omega
  have hi1 : (i : Int) < (σ.nodes.length : Int) := by omega
  have hq : (x.op.toList == [110]) = false := by simp [ho]
  have hq2 : (x.op.toList == [102]) = false := by simp [ho2]
  have HV : Hid (m.dv = .slice (some ⟨g, 0, none⟩) σ.nodes.length cap) := hv
  have hSL := (h.owner (own' := put own w.heap.size 7) (fun k hk => put_other _ _ _ _ (by omega))).alloc (.cells (NX x) 248)
  have hEL : Ext own w (put own w.heap.size 7) (w.alloc (.cells (NX x) 248)) := (Ext.refl own w).allocAs _ 7
  have hkL := hk.ext hEL
  have hoL : put own w.heap.size 7 w.heap.size = 7 := put_same _ _ _
  have hbL := Blk.new w (NX x) 248
  unfold NX at hSL hEL hkL hbL
  rw [ha, hc] at *
  clear hv ho ho2 hx ha hc
  go_enter Tryz.func98, Tryz.ntmps98
  go_wp2_with fail
  refine (h1 _ _ _ _ _ hSL hkL).mono ?_
  rintro e w1 ⟨rfl, own1, hS1, hE1⟩
  have l2 := (hE1.blk hoL hbL).cell 2
  simp at l2
  have hk1 := hkL.ext hE1
  have hE2 := hEL.trans hE1
  clear c0 c1 c2 c3 c4 c5 c6 d8 hSL hkL hbL hk hEL
  go_wp2_with fail
  refine (h2 _ _ _ _ _ hS1 hk1).mono ?_
  rintro e w2 ⟨rfl, own2, hS2, hE3⟩
  have hfin : AfterM own w b m σ w2 := ⟨own2, hS2, hE2.trans hE3⟩
  have HU : Hid ((Nd.bin x.op s t).unknown known = if s.unknown known < 0 ∨ (0 ≤ t.unknown known ∧ t.unknown known < s.unknown known) then t.unknown known else s.unknown known) := rfl
  clear hS1 hS2 hE1 hE2 hE3 l2 hk1
  generalize s.unknown known = ua at *
  generalize t.unknown known = ub at *
  by_cases p1 : ua < 0
  · go_wp2_with fail
    go_ret
    exact ⟨ret_int (by rw [HU.out, if_pos (.inl p1)]), hfin⟩
  · by_cases p2 : 0 ≤ ub
    · by_cases p3 : ub < ua
      · go_wp2_with fail
        go_ret
        exact ⟨ret_int (by rw [HU.out, if_pos (.inr ⟨p2, p3⟩)]), hfin⟩
      · go_wp2_with fail
        go_ret
        exact ⟨ret_int (by rw [HU.out, if_neg (by omega)]), hfin⟩
    · go_wp2_with fail
      go_ret
      exact ⟨ret_int (by rw [HU.out, if_neg (by omega)]), hfin⟩

def okFld (nm : ByteArray) (known : List ByteArray) (k : Nat) : Bool := nm.toList.isEmpty || (known.take k).any (fun s => s.toList == nm.toList)
theorem okFld_succ (nm : ByteArray) (known : List ByteArray) (k : Nat) (h : k < known.length) : okFld nm known (k + 1) = (okFld nm known k || (known.getD k ByteArray.empty).toList == nm.toList) := by
  unfold okFld
  have hg : known.getD k ByteArray.empty = known[k] := by simp [List.getD, h]
  rw [List.take_succ_eq_append_getElem h, List.any_append, hg]
  simp [Bool.or_assoc]
theorem Strs.cell {own : Nat → Nat} {w : World} {g n cap : Nat} {l : List ByteArray} (h : Strs own w (.slice (some ⟨g, 0, none⟩) n cap) l) (k : Nat) (hk : k < l.length) : w.cell? ⟨g, k, none⟩ = some (.string (l.getD k ByteArray.empty)) := by
  have := h.1.cells (g := g) rfl k (.string (l.getD k ByteArray.empty)) (by simp [List.getD, hk])
  have hadd : (⟨g, 0, none⟩ : Addr).add k = ⟨g, k, none⟩ := by unfold Addr.add; split <;> simp_all
  rw [hadd] at this; exact this

structure FInv (own : Nat → Nat) (w : World) (b : Nat) (m : PM) (σ : PSt) (nm : ByteArray) (pos : Int) (kv : Value) (known : List ByteArray) (wr : World) : Prop where
  st : St own wr b m σ
  e : Ext own w own wr
  nm : wr.cell? ⟨w.heap.size, 4, none⟩ = some (.string nm)
  ps : wr.cell? ⟨w.heap.size, 6, none⟩ = some (.int .i64 pos)
  k : Strs own wr kv known
theorem FInv.drewN {own : Nat → Nat} {w : World} {b : Nat} {m : PM} {σ : PSt} {nm : ByteArray} {pos : Int} {kv : Value} {known : List ByteArray} {wr : World} (h : FInv own w b m σ nm pos kv known wr) (n : Nat) : FInv own w b m σ nm pos kv known (wr.drewN n) :=
  ⟨h.st.drewN n, h.e.drewN n, h.nm, h.ps, h.k⟩

set_option maxRecDepth 100000 in
set_option maxHeartbeats 1600000 in
theorem names_fld {σ : PSt} {known : List ByteArray} {i : Nat} {x : RNode} (hx : σ.nodes[i]? = some x) (ho : x.op.toList = [102]) (_hlen : σ.nodes.length ≤ 100000) (hkl : known.length ≤ 100000) : NamesC known i (.fld x.name x.field x.pos) σ := by
  intro own w b m kv h hk
  obtain ⟨g, cap, hv, hi, c0, c1, c2, c3, c4, c5, c6⟩ := h.node_at hx
  have d8 := h.cell 8
  simp [PCells] at d8
  rw [hv] at d8
  have hi0 : (0 : Int) ≤ (i : Int) := by omega
  have hi1 : (i : Int) < (σ.nodes.length : Int) := by omega
  have hq : (x.op.toList == [110]) = false := by simp [ho]
  have hq2 : (x.op.toList == [102]) = true := by simp [ho]
  have HU : Hid ((Nd.fld x.name x.field x.pos).unknown known = if okFld x.name known known.length = true then -1 else x.pos) := by show _ = _; simp [Nd.unknown, okFld]
  have hkf : ∃ a n c, kv = .slice a n c ∧ n = known.length ∧ (0 < n → ∃ gk, a = some ⟨gk, 0, none⟩) := by
    rcases hk.1.2 with ⟨rfl, h0⟩ | ⟨gk, c, cur, rfl, _⟩
    · exact ⟨none, 0, 0, rfl, h0.symm, fun h => absurd h (by decide)⟩
    · exact ⟨_, _, _, rfl, rfl, fun _ => ⟨gk, rfl⟩⟩
  obtain ⟨ka, kn, kc, rfl, hkn, hka⟩ := hkf
  subst hkn
  clear hv ho hx
  go_enter Tryz.func98, Tryz.ntmps98
  go_wp2_with fail
  go_loopw [8, 9] (fun ok i wr => ∃ k : Nat, k ≤ known.length ∧ i = .int .i64 k ∧ ok = .bool (okFld x.name known k) ∧ FInv own w b m σ x.name x.pos (.slice ka known.length kc) known wr) (fun _ i _ => known.length - (intOf i).toNat)
  case atStart =>
    exact ⟨0, by omega, rfl, by simp [okFld], ⟨h.alloc _, (Ext.refl own w).alloc _, by simp [go_sem], by simp [go_sem], hk.ext ((Ext.refl own w).alloc _)⟩⟩
  case round =>
    obtain ⟨k, hkle, rfl, rfl, hI⟩ := hrel
    have hnm := hI.nm
    clear c0 c1 c2 c3 c4 c5 c6 d8 hk h
    by_cases h9 : k < known.length
    · obtain ⟨gk, rfl⟩ := hka (by omega)
      have hlc := hI.k.cell k h9
      have HN : Hid (okFld x.name known (k + 1) = (okFld x.name known k || (known.getD k ByteArray.empty).toList == x.name.toList)) := okFld_succ _ _ _ h9
      have hki : (k : Int) < (known.length : Int) := by omega
      have hk0 : (0 : Int) ≤ (k : Int) := by omega
      cases hok : okFld x.name known k with
      | true =>
        go_wp2
        go_quiet (fail)
        go_wp2
        go_roundw
        case rel => exact ⟨k + 1, by omega, by go_num, by rw [HN.out, hok]; rfl, hI.drewN _⟩
        case measure => simp [intOf]; omega
      | false =>
        generalize hsk : known.getD k ByteArray.empty = sk at *
        clear hsk
        go_wp2
        go_quiet (fail)
        go_wp2
        go_roundw
        case rel => exact ⟨k + 1, by omega, by go_num, by rw [HN.out, hok]; simp, hI.drewN _⟩
        case measure => simp [intOf]; omega
    · have e9 : k = known.length := by omega
      subst e9
      have HFin : Hid (AfterM own w b m σ wr) := ⟨own, hI.st, hI.e⟩
      have hps := hI.ps
      cases hok : okFld x.name known known.length with
      | true =>
        go_wp2
        go_ret
        exact ⟨ret_int (by rw [HU.out, hok]; rfl), HFin.out⟩
      | false =>
        go_wp2
        go_ret
        exact ⟨ret_int (by rw [HU.out, hok]; rfl), HFin.out⟩

theorem names_any {σ : PSt} {known : List ByteArray} (hlen : σ.nodes.length ≤ 100000) (hkl : known.length ≤ 100000) {i : Nat} {t : Nd} (h : Rep σ.nodes i t) : NamesC known i t σ := by
  induction h with
  | num hx ho => exact names_num hx ho hlen
  | fld hx ho _ => exact names_fld hx ho hlen hkl
  | bin hx ho ho2 ha hb _ _ ih1 ih2 => exact names_bin hx ho ho2 ha hb hlen ih1 ih2
end Go.Proofs.YtddbjcfdmdbmkaaGreatDoor

/-
  What joined and factor do to the reader's state, as a relation.
-/
namespace Go.Proofs.YtddbjcfdmdbmkaaGreatDoor
open Go.RowKit

/-- Tokens as they come: a token behind each that is no end; no text is long. -/
def Good (toks : List RTok) : Prop := (∀ i, (h : i < toks.length) → toks[i].kind ≤ 2 → i + 1 < toks.length) ∧ ∀ t ∈ toks, t.s.size ≤ 1000
theorem Good.inv {σ : PSt} (h : Good σ.toks) : Inv σ := h.1
theorem Good.size {σ : PSt} (h : Good σ.toks) : σ.now.s.size ≤ maxLen := by
  unfold PSt.now maxLen
  cases e : σ.toks[σ.i]? with
  | none => simp [default]
  | some t =>
    have := h.2 t (List.mem_of_getElem? e)
    simp; omega

def PSt.adv (σ : PSt) : PSt := { σ with i := σ.i + 1 }
def PSt.push (σ : PSt) (x : RNode) : PSt := { σ with nodes := σ.nodes ++ [x] }
def bs (l : List UInt8) : ByteArray := ⟨l.toArray⟩
def mt : ByteArray := ⟨#[]⟩
/-- one of = != < <= > >= -/
def RTok.isSign (t : RTok) : Bool := t.kind == 2 && (t.s.toList == [61] || t.s.toList == [33, 61] || t.s.toList == [60] || t.s.toList == [60, 61] || t.s.toList == [62] || t.s.toList == [62, 61])
/-- a sign between things of one kind -/
def RTok.isOp (t : RTok) (which : Nat) : Bool := match which with
  | 0 => t.kind == 0 && t.s.toList == [111, 114]
  | 1 => t.kind == 0 && t.s.toList == [97, 110, 100]
  | 3 => t.kind == 2 && (t.s.toList == [43] || t.s.toList == [45])
  | 4 => t.kind == 2 && (t.s.toList == [42] || t.s.toList == [47])
  | _ => false
/-- a field's name -/
def RTok.isField (t : RTok) : Bool := t.kind == 0 && (t.s.toList == [97] || t.s.toList == [98] || t.s.toList == [99] || t.s.toList == [116])

inductive RFn where
  | j (which : Nat)
  | l (which : Nat) (a : Int)
  | f

def PSt.fieldName (σ : PSt) : ByteArray := if σ.isS ⟨#[105, 116]⟩ then mt else σ.nameV
def PSt.fieldHead (σ : PSt) : PSt := (if σ.isS ⟨#[105, 116]⟩ then σ.adv else σ.nam).want ⟨#[46]⟩

/-- 'fn, called in σ, gives r and leaves σ''. -/
inductive R : RFn → PSt → Int → PSt → Prop
  | j_bad {which : Nat} {σ : PSt} : 0 ≤ σ.wrong → R (.j which) σ 0 σ
  | j_fac {σ : PSt} {r : Int} {σ' : PSt} : σ.wrong < 0 → R .f σ r σ' → R (.j 5) σ r σ'
  | j_test_bad {σ : PSt} {a : Int} {σ1 : PSt} : σ.wrong < 0 → R (.j 3) σ a σ1 → (σ1.now.isSign && decide (σ1.wrong < 0)) = false → R (.j 2) σ 0 σ1.bad
  | j_test {σ : PSt} {a b : Int} {σ1 σ2 : PSt} : σ.wrong < 0 → R (.j 3) σ a σ1 → σ1.now.isSign = true → σ1.wrong < 0 → R (.j 3) σ1.adv b σ2 → σ2.nodes.length ≤ 100000 →
      R (.j 2) σ σ2.nodes.length (σ2.push ⟨σ1.now.s, a, b, 0, mt, mt, 0⟩)
  | j_loop {which : Nat} {σ : PSt} {a r : Int} {σ1 σ' : PSt} : σ.wrong < 0 → which = 0 ∨ which = 1 ∨ which = 3 ∨ which = 4 → R (.j (which + 1)) σ a σ1 → R (.l which a) σ1 r σ' → R (.j which) σ r σ'
  | l_end {which : Nat} {a : Int} {σ : PSt} : (σ.now.isOp which && decide (σ.wrong < 0)) = false → R (.l which a) σ a σ
  | l_more {which : Nat} {a b r : Int} {σ σ1 σ' : PSt} : σ.wrong < 0 → σ.now.isOp which = true → R (.j (which + 1)) σ.adv b σ1 → σ1.nodes.length ≤ 100000 →
      R (.l which σ1.nodes.length) (σ1.push ⟨σ.now.s, a, b, 0, mt, mt, 0⟩) r σ' → R (.l which a) σ r σ'
  | f_num {σ : PSt} : σ.wrong < 0 → σ.now.kind = 1 → σ.nums.length ≤ 10000 → σ.lo.length ≤ 10000 → σ.hi.length ≤ 10000 → σ.nodes.length ≤ 100000 →
      R .f σ σ.nodes.length ((σ.num 0 999999999).push ⟨⟨#[110]⟩, 0, 0, σ.now.n, mt, mt, 0⟩)
  | f_neg {σ σ1 : PSt} {b : Int} {k : Nat} : σ.wrong < 0 → σ.isS ⟨#[45]⟩ = true → σ.inside ≤ 1000000 → R (.j 5) (σ.adv.down σ.now.pos) b σ1 → σ1.inside = k + 1 → k ≤ 1000000 → σ1.nodes.length ≤ 99999 →
      R .f σ (σ1.nodes.length + 1 : Nat) (({ σ1 with inside := k }.push ⟨⟨#[110]⟩, 0, 0, 0, mt, mt, 0⟩).push ⟨⟨#[45]⟩, σ1.nodes.length, b, 0, mt, mt, 0⟩)
  | f_par {σ σ1 : PSt} {a : Int} {k : Nat} : σ.wrong < 0 → σ.isS ⟨#[40]⟩ = true → σ.inside ≤ 1000000 → R (.j 3) (σ.adv.down σ.now.pos) a σ1 → σ1.inside = k + 1 → k ≤ 1000000 →
      R .f σ a (({ σ1 with inside := k }).want ⟨#[41]⟩)
  | f_fld_bad {σ : PSt} : σ.wrong < 0 → σ.now.kind ≠ 1 → σ.isS ⟨#[45]⟩ = false → σ.isS ⟨#[40]⟩ = false → (σ.fieldHead.now.isField && decide (σ.fieldHead.wrong < 0)) = false → σ.fieldHead.nodes.length ≤ 100000 →
      R .f σ 0 σ.fieldHead.bad
  | f_fld {σ : PSt} : σ.wrong < 0 → σ.now.kind ≠ 1 → σ.isS ⟨#[45]⟩ = false → σ.isS ⟨#[40]⟩ = false → σ.fieldHead.now.isField = true → σ.fieldHead.wrong < 0 → σ.fieldHead.nodes.length ≤ 100000 →
      R .f σ σ.fieldHead.nodes.length (σ.fieldHead.adv.push ⟨⟨#[102]⟩, 0, 0, 0, σ.fieldName, σ.fieldHead.now.s, σ.now.pos⟩)

theorem want_toks (σ : PSt) (s : ByteArray) : (σ.want s).toks = σ.toks := by unfold PSt.want; split; rfl; exact bad_toks σ
theorem nam_toks (σ : PSt) : σ.nam.toks = σ.toks := by unfold PSt.nam; split; rfl; exact bad_toks σ
theorem num_toks (σ : PSt) (a b : Int) : (σ.num a b).toks = σ.toks := by unfold PSt.num; split; rfl; exact bad_toks σ
theorem fieldHead_toks (σ : PSt) : σ.fieldHead.toks = σ.toks := by
  unfold PSt.fieldHead; rw [want_toks]; split; rfl; exact nam_toks σ

theorem R.toks {fn : RFn} {σ σ' : PSt} {r : Int} (h : R fn σ r σ') : σ'.toks = σ.toks := by
  induction h with
  | j_bad _ => rfl
  | j_fac _ _ ih => exact ih
  | j_test_bad _ _ _ ih => rw [bad_toks]; exact ih
  | j_test _ _ _ _ _ _ ih1 ih2 => exact ih2.trans ih1
  | j_loop _ _ _ _ ih1 ih2 => exact ih2.trans ih1
  | l_end _ => rfl
  | l_more _ _ _ _ _ ih1 ih2 => exact ih2.trans ih1
  | f_num _ _ _ _ _ _ => exact num_toks _ _ _
  | f_neg _ _ _ _ _ _ _ ih => exact ih
  | f_par _ _ _ _ _ _ ih => rw [want_toks]; exact ih
  | f_fld_bad _ _ _ _ _ _ => rw [bad_toks]; exact fieldHead_toks _
  | f_fld _ _ _ _ _ _ _ => exact fieldHead_toks _

/-- The contract of a call, by what it gives. -/
def JC (which : Nat) (σ : PSt) (r : Int) (σ' : PSt) : Prop := ∀ (own : Nat → Nat) (w : World) (b : Nat) (m : PM), St own w b m σ →
  Calls Tryz.prog 177 #[.pointer (some ⟨b, 0, none⟩), .int .i64 which] w fun e w' => e = .returned (.int .i64 r) ∧ After own w b σ' w'
def FC (σ : PSt) (r : Int) (σ' : PSt) : Prop := ∀ (own : Nat → Nat) (w : World) (b : Nat) (m : PM), St own w b m σ →
  Calls Tryz.prog 205 #[.pointer (some ⟨b, 0, none⟩)] w fun e w' => e = .returned (.int .i64 r) ∧ After own w b σ' w'
end Go.Proofs.YtddbjcfdmdbmkaaGreatDoor

/-
  factor: the walks.
-/
namespace Go.Proofs.YtddbjcfdmdbmkaaGreatDoor
open Go.RowKit

set_option maxRecDepth 100000 in
set_option maxHeartbeats 800000 in
theorem f_num_walk {σ : PSt} (hg : Good σ.toks) (hw : σ.wrong < 0) (hk : σ.now.kind = 1) (b1 : σ.nums.length ≤ 10000) (b2 : σ.lo.length ≤ 10000) (b3 : σ.hi.length ≤ 10000) (b4 : σ.nodes.length ≤ 100000) :
    FC σ σ.nodes.length ((σ.num 0 999999999).push ⟨⟨#[110]⟩, 0, 0, σ.now.n, mt, mt, 0⟩) := by
  intro own w b m h
  have hn : σ.isNum = true := by simp [PSt.isNum, hk, hw]
  have HP : Hid (σ.num 0 999999999 = { σ with i := σ.i + 1, nums := σ.nums ++ [σ.now], lo := σ.lo ++ [0], hi := σ.hi ++ [999999999] }) := by show _ = _; simp [PSt.num, hn]
  have hk' : ((σ.now.kind : Int) == 1) = true := by simp [hk]
  have HK : Hid (σ.now.kind = 1) := hk
  have HN : Hid (σ.isNum = true) := hn
  clear hk hn
  go_enter Tryz.func205, Tryz.ntmps205
  go_wp2_with (first
    | (go_at_call 96; refine (now_any h).mono ?_; rintro e w' ⟨rfl, o, rfl⟩)
    | (go_at_call 94; refine (number_good (((h.alloc _).alloc _).drew) hg.inv 0 999999999 HN.out b1 b2 b3).mono ?_; rintro e w1 ⟨rfl, own1, m1, hS1, hE1⟩)
    | (go_at_call 206; refine (node_any hS1 _ _ _ _ _ _ _ b4).mono ?_; rintro e w2 ⟨rfl, own2, m2, hS2, hE2⟩))
  go_ret
  refine ⟨rfl, own2, m2, ?_, (((((Ext.refl own w).alloc _).alloc _).drew).trans hE1).trans hE2⟩
  rw [HP.out]; exact hS2

/-- The token at hand, in a block of the caller's. -/
def TC (σ : PSt) : Array Value := #[.int .i64 σ.now.kind, .string σ.now.s, .int .i64 σ.now.pos, .int .i64 σ.now.n]
theorem loc_blk (w : World) (o : Obj) (cs : Array Value) (t : TypeId) : Blk ((w.alloc o).alloc (.cells cs t)).drew (w.heap.size + 1) cs t := alloc_at _ _ _ (by simp)
theorem loc_st {own : Nat → Nat} {w : World} {b : Nat} {m : PM} {σ : PSt} (h : St own w b m σ) (L : Nat) (hL : w.heap.size ≤ L) : St (put own L 7) w b m σ := h.owner (fun k hk => put_other _ _ _ _ (by omega))
theorem h2st {own : Nat → Nat} {w : World} {b : Nat} {m : PM} {σ : PSt} (h : St own w b m σ) (L : Nat) (hL : w.heap.size ≤ L) : St (put own L 8) w b m σ := h.owner (fun k hk => put_other _ _ _ _ (by omega))
theorem loc_ext (own : Nat → Nat) (w : World) (o o' : Obj) (L : Nat) (hL : w.heap.size ≤ L) : Ext own w (put own L 7) ((w.alloc o).alloc o').drew :=
  ⟨fun k hk => put_other _ _ _ _ (by omega), ((((Ext.refl own w).alloc o).alloc o').drew).kept⟩

theorem isS_other {σ : PSt} {s s' : ByteArray} (h : σ.isS s = true) (hne : (s.toList == s'.toList) = false) : σ.isS s' = false := by
  simp [PSt.isS, RTok.isS] at h
  simp [PSt.isS, RTok.isS]
  intro _ _ e
  rw [h.2.2] at e
  simp [e] at hne

set_option maxRecDepth 100000 in
set_option maxHeartbeats 800000 in
theorem f_neg_walk {σ σ1 : PSt} {r : Int} {k : Nat} (hg : Good σ.toks) (_hw : σ.wrong < 0) (hs : σ.isS ⟨#[45]⟩ = true) (hin : σ.inside ≤ 1000000) (ih : JC 5 (σ.adv.down σ.now.pos) r σ1) (hk : σ1.inside = k + 1) (hk2 : k ≤ 1000000) (hn : σ1.nodes.length ≤ 99999) :
    FC σ (σ1.nodes.length + 1 : Nat) (({ σ1 with inside := k }.push ⟨⟨#[110]⟩, 0, 0, 0, mt, mt, 0⟩).push ⟨⟨#[45]⟩, σ1.nodes.length, r, 0, mt, mt, 0⟩) := by
  intro own w b m h
  have hk1 := isS_kind hs
  have hk' : ((σ.now.kind : Int) == 1) = false := by
    simp [PSt.isS, RTok.isS] at hs; rw [beq_eq_false_iff_ne]; omega
  have HS : Hid (σ.isS ⟨#[45]⟩ = true) := hs
  have HM : Hid (σ.may ⟨#[45]⟩ = σ.adv) := by show _ = _; simp [PSt.may, hs, PSt.adv]
  have HI : Hid (σ1.inside = k + 1) := hk
  have hin' : σ.adv.inside ≤ 1000000 := hin
  have h0 := loc_st h (w.heap.size + 1) (by omega)
  have hoL : put own (w.heap.size + 1) 7 (w.heap.size + 1) = 7 := put_same _ _ _
  have hE0 := fun o => loc_ext own w o (.cells (TC σ) 150) (w.heap.size + 1) (by omega)
  have hL0 := fun o => loc_blk w o (TC σ) 150
  unfold TC at hE0 hL0
  clear hs hk hk1
  go_enter Tryz.func205, Tryz.ntmps205
  go_wp2_with (first
    | (go_at_call 96; refine (now_any h).mono ?_; rintro e w' ⟨rfl, o, rfl⟩)
    | (go_at_call 142; refine (may_any (((h0.alloc _).alloc _).drew) hg.inv _).mono ?_; rintro e w1 ⟨rfl, hS1, hE1⟩; rw [HS.out]; rw [HM.out] at hS1; have hL1 := hE1.blk hoL (hL0 o); have l2 := hL1.cell 2; simp at l2)
    | (go_at_call 175; refine (down_any hS1 _ hin').mono ?_; rintro e w2 ⟨rfl, hS2, hE2⟩)
    | (go_at_call 177; refine (ih _ _ _ _ hS2).mono ?_; rintro e w3 ⟨rfl, own3, m3, hS3, hE3⟩; have c3 := hS3.cell 3; have f3 := hS3.blk.frozen 3; simp [PCells] at c3; rw [HI.out] at c3))
  have hS4 : St own3 (w3.setCell ⟨b, 3, none⟩ (.int .i64 k)) b m3 { σ1 with inside := k } := hS3.store (σ' := { σ1 with inside := k }) 3 _ (by simp [PCells]) rfl rfl rfl rfl rfl rfl hS3.ilt hS3.wlo
  have hE4 : Ext own w own3 (w3.setCell ⟨b, 3, none⟩ (.int .i64 k)) := ((((hE0 o).trans hE1).trans hE2).trans hE3).setCell (p := ⟨b, 3, none⟩) hS3.own7 _
  clear c3 f3 l2 hL1 hE1 hE2 hE3 hS1 hS2
  refine (node_any hS4 _ _ _ _ _ _ _ (by show σ1.nodes.length ≤ 100000; omega)).mono ?_
  rintro e w5 ⟨rfl, own5, m5, hS5, hE5⟩
  go_wp2_with fail
  refine (node_any hS5 _ _ _ _ _ _ _ (by simp; omega)).mono ?_
  rintro e w6 ⟨rfl, own6, m6, hS6, hE6⟩
  go_wp2_with fail
  go_ret
  exact ⟨ret_int (by simp), own6, m6, hS6, (hE4.trans hE5).trans hE6⟩

set_option maxRecDepth 100000 in
set_option maxHeartbeats 800000 in
theorem f_par_walk {σ σ1 : PSt} {r : Int} {k : Nat} (hg : Good σ.toks) (hg1 : Good σ1.toks) (_hw : σ.wrong < 0) (hs : σ.isS ⟨#[40]⟩ = true) (hin : σ.inside ≤ 1000000) (ih : JC 3 (σ.adv.down σ.now.pos) r σ1) (hk : σ1.inside = k + 1) (hk2 : k ≤ 1000000) :
    FC σ r (({ σ1 with inside := k }).want ⟨#[41]⟩) := by
  intro own w b m h
  have hk' : ((σ.now.kind : Int) == 1) = false := by
    simp [PSt.isS, RTok.isS] at hs; rw [beq_eq_false_iff_ne]; omega
  have hs2 : σ.isS ⟨#[45]⟩ = false := isS_other hs (by decide +kernel)
  have HS : Hid (σ.isS ⟨#[40]⟩ = true) := hs
  have HS2 : Hid (σ.isS ⟨#[45]⟩ = false) := hs2
  have HM2 : Hid (σ.may ⟨#[45]⟩ = σ) := by show _ = _; simp [PSt.may, hs2]
  have HM : Hid (σ.may ⟨#[40]⟩ = σ.adv) := by show _ = _; simp [PSt.may, hs, PSt.adv]
  have HI : Hid (σ1.inside = k + 1) := hk
  have hin' : σ.adv.inside ≤ 1000000 := hin
  have h0 := loc_st h (w.heap.size + 1) (by omega)
  have hoL : put own (w.heap.size + 1) 7 (w.heap.size + 1) = 7 := put_same _ _ _
  have hE0 := fun o => loc_ext own w o (.cells (TC σ) 150) (w.heap.size + 1) (by omega)
  have hL0 := fun o => loc_blk w o (TC σ) 150
  unfold TC at hE0 hL0
  clear hs hk hs2
  go_enter Tryz.func205, Tryz.ntmps205
  go_wp2_with (first
    | (go_at_call 96; refine (now_any h).mono ?_; rintro e w' ⟨rfl, o, rfl⟩)
    | (go_at_call_of 142 (Value.string ⟨#[45]⟩); refine (may_any (((h0.alloc _).alloc _).drew) hg.inv _).mono ?_; rintro e w1 ⟨rfl, hS1, hE1⟩; rw [HS2.out]; rw [HM2.out] at hS1; have hL1 := hE1.blk hoL (hL0 o))
    | (go_at_call_of 142 (Value.string ⟨#[40]⟩); refine (may_any hS1 hg.inv _).mono ?_; rintro e w2 ⟨rfl, hS2, hE2⟩; rw [HS.out]; rw [HM.out] at hS2; have hL2 := hE2.blk hoL hL1; have l2 := hL2.cell 2; simp at l2)
    | (go_at_call 175; refine (down_any hS2 _ hin').mono ?_; rintro e w3 ⟨rfl, hS3, hE3⟩)
    | (go_at_call 177; refine (ih _ _ _ _ hS3).mono ?_; rintro e w4 ⟨rfl, own4, m4, hS4, hE4⟩; have c3 := hS4.cell 3; have f3 := hS4.blk.frozen 3; simp [PCells] at c3; rw [HI.out] at c3))
  have hS5 : St own4 (w4.setCell ⟨b, 3, none⟩ (.int .i64 k)) b m4 { σ1 with inside := k } := hS4.store (σ' := { σ1 with inside := k }) 3 _ (by simp [PCells]) rfl rfl rfl rfl rfl rfl hS4.ilt hS4.wlo
  have hE5 : Ext own w own4 (w4.setCell ⟨b, 3, none⟩ (.int .i64 k)) := (((((hE0 o).trans hE1).trans hE2).trans hE3).trans hE4).setCell (p := ⟨b, 3, none⟩) hS4.own7 _
  clear c3 f3 l2 hL1 hL2 hE1 hE2 hE3 hE4 hS1 hS2 hS3
  refine (want_any hS5 hg1.inv _).mono ?_
  rintro e w6 ⟨rfl, hS6, hE6⟩
  go_wp2_with fail
  go_ret
  exact ⟨rfl, own4, m4, hS6, hE5.trans hE6⟩
end Go.Proofs.YtddbjcfdmdbmkaaGreatDoor
