import Derived.Test.YtddbjcfdmdbmkaaGreatDoorB04
import Derived.Test.YtddbjcfdmdbmkaaGreatDoorB02
import Derived.Deep.Cut
import Derived.Deep.CutRange
set_option linter.unusedVariables false
set_option linter.unusedSimpArgs false
/-
  tokens: the walk.
-/
namespace Go.Proofs.YtddbjcfdmdbmkaaGreatDoor
open Go.RowKit

/-- what holds in the loop of tokens -/
structure TI (s : ByteArray) (out : List RTok) (w : World) (acc : List RTok) (at_ : Nat) (v : Value) (wr : World) : Prop where
  lx : ∃ rest, LX s at_ rest ∧ out = acc ++ rest
  le : at_ ≤ s.size
  row : wr.ownsRow 0 150 4 v acc.length (flat RTok.cells acc)
  own : ∀ g, v.ownBlock = some g → w.heap.size ≤ g
  old : Below w.heap.size w wr
  len : acc.length ≤ at_
def TL (s : ByteArray) (out : List RTok) (w : World) (v a : Value) (wr : World) : Prop := ∃ acc at_, a = .int .i64 (at_ : Nat) ∧ TI s out w acc at_ v wr
/-- what tokens leaves -/
def TokPost (w : World) (out : List RTok) (v : Value) (w' : World) : Prop :=
  w'.ownsRow 0 150 4 v out.length (flat RTok.cells out) ∧ (∀ g, v.ownBlock = some g → w.heap.size ≤ g) ∧ Below w.heap.size w w'

theorem row_drewN {w : World} {base : Nat} {e : TypeId} {size : Nat} {v : Value} {n : Nat} {xs : List Value} (h : w.ownsRow base e size v n xs) (j : Nat) : (w.drewN j).ownsRow base e size v n xs := h
theorem below_drewN {B : Nat} {w w' : World} (h : Below B w w') (n : Nat) : Below B w (w'.drewN n) := ⟨h.os, h.tape, h.output, h.size, h.block⟩
theorem setCell_drewN (w : World) (n : Nat) (a : Addr) (v : Value) : (w.drewN n).setCell a v = (w.setCell a v).drewN n := rfl
theorem alloc_drewN (w : World) (n : Nat) (o : Obj) : (w.drewN n).alloc o = (w.alloc o).drewN n := rfl
attribute [local go_sem] setCell_drewN alloc_drewN

theorem tok_last {s : ByteArray} {out acc : List RTok} {w wr : World} {at_ : Nat} {v : Value} {t : RTok} (hI : TI s out w acc at_ v wr) (h : lexStep s at_ = (t, none)) : out = acc ++ [t] := by
  obtain ⟨rest, hl, he⟩ := hI.lx
  cases hl with
  | last h' => rw [h] at h'; cases h'; exact he
  | more h' _ => rw [h] at h'; cases h'
theorem tok_next {s : ByteArray} {out acc : List RTok} {w wr : World} {at_ k : Nat} {v : Value} {t : RTok} (hI : TI s out w acc at_ v wr) (h : lexStep s at_ = (t, some k)) : ∃ rest, LX s k rest ∧ out = (acc ++ [t]) ++ rest := by
  obtain ⟨rest, hl, he⟩ := hI.lx
  cases hl with
  | last h' => rw [h] at h'; cases h'
  | @more _ k' _ l h' hl' => rw [h] at h'; cases h'; exact ⟨l, hl', by rw [he]; simp⟩
theorem tok_post {s : ByteArray} {out acc : List RTok} {w wr W w1 : World} {at_ g cap : Nat} {v : Value} {t : RTok} (hI : TI s out w acc at_ v wr) (h : lexStep s at_ = (t, none)) (hB : Below w.heap.size w W) (hW : w.heap.size ≤ W.heap.size)
    (hown : w1.ownsRow 0 150 4 (.slice (some ⟨g, 0, none⟩) (acc.length + 1) cap) (acc.length + 1) (flat RTok.cells acc ++ RTok.cells t)) (hg : W.grownBy w1 v.ownBlock) (hat : v.ownBlock = some g ∨ g = W.heap.size) : TokPost w out (.slice (some ⟨g, 0, none⟩) (acc.length + 1) cap) w1 := by
  rw [tok_last hI h]
  refine ⟨by simpa [flat_snoc] using hown, fun k e => ?_, hB.grown hg hW (fun k e => hI.own k e)⟩
  cases e
  rcases hat with e | e
  · exact hI.own g e
  · show w.heap.size ≤ g; omega
theorem tok_more {s : ByteArray} {out acc : List RTok} {w wr W w1 : World} {at_ k g cap : Nat} {v : Value} {t : RTok} (hI : TI s out w acc at_ v wr) (h : lexStep s at_ = (t, some k)) (hB : Below w.heap.size w W) (hW : w.heap.size ≤ W.heap.size)
    (hown : w1.ownsRow 0 150 4 (.slice (some ⟨g, 0, none⟩) (acc.length + 1) cap) (acc.length + 1) (flat RTok.cells acc ++ RTok.cells t)) (hg : W.grownBy w1 v.ownBlock) (hat : v.ownBlock = some g ∨ g = W.heap.size) : TL s out w (.slice (some ⟨g, 0, none⟩) (acc.length + 1) cap) (.int .i64 (k : Nat)) w1 := by
  have hk := lexStep_lt h hI.le
  refine ⟨acc ++ [t], k, rfl, ⟨tok_next hI h, hk.2, by simpa [flat_snoc] using hown, fun k' e => ?_, hB.grown hg hW (fun k e => hI.own k e), by have := hI.len; simp; omega⟩⟩
  cases e
  rcases hat with e | e
  · exact hI.own g e
  · show w.heap.size ≤ g; omega

set_option maxRecDepth 100000 in
set_option maxHeartbeats 40000000 in
theorem tokens_any (s : ByteArray) (hs : s.size ≤ 600) (out : List RTok) (hx : LX s 0 out) (w : World) :
    Calls Tryz.prog 92 #[.string s] w fun e w' => ∃ v, e = .returned v ∧ TokPost w out v w' := by
  have h0 : TL s out w (.slice none 0 0) (.int .i64 0) w := ⟨[], 0, rfl, ⟨⟨out, hx, rfl⟩, Nat.zero_le _, World.ownsRow_nil _ _ _ _, fun g hg => by simp [Value.ownBlock] at hg, Below.refl _ _, Nat.le_refl _⟩⟩
  clear hx
  go_enter Tryz.func92, Tryz.ntmps92
  go_wp2_with fail
  go_loopw [3, 4] (fun v a wr => TL s out w v a wr) (fun _ a _ => s.size - (intOf a).toNat)
  case atStart => exact h0
  case round =>
    obtain ⟨acc, at_, rfl, hI⟩ := hrel
    clear h0
    have hle := hI.le
    have hal := hI.len
    obtain ⟨j0, hj0, hy0, hy1, hy2⟩ := info_parts Tryz.infoTok
    generalize hi : spanTo isBlankB s at_ = i
    have HI : Hid (spanTo isBlankB s at_ = i) := hi
    clear hi
    go_wp2_with fail
    go_loop [4] (fun a => ∃ k : Nat, k ≤ s.size ∧ at_ ≤ k ∧ a = .int .i64 k ∧ spanTo isBlankB s k = i) (fun a => s.size - (intOf a).toNat)
    case atStart => exact ⟨at_, hle, Nat.le_refl _, rfl, HI.out⟩
    case round =>
      obtain ⟨k, hk, hak, rfl, hsp⟩ := hrel
      have HS : Hid (spanTo isBlankB s k = i) := hsp
      clear hsp
      by_cases hlt : k < s.size
      · by_cases h32 : s[k] = 32
        · have q : ((s[k].toNat : Int) == 32) = true := by simp [h32]
          have HN : Hid (spanTo isBlankB s (k + 1) = i) := (span_step isBlankB s k hlt (by simp [isBlankB, h32])).trans HS.out
          clear h32
          go_wp2_with fail
          go_round
          case rel => exact ⟨k + 1, by omega, by omega, by go_num, HN.out⟩
          case measure => simp [intOf]; omega
        · have q : ((s[k].toNat : Int) == 32) = false := by rw [beq_eq_false_iff_ne]; intro h; exact h32 (UInt8.toNat_inj.1 (by exact_mod_cast h))
          by_cases h10 : s[k] = 10
          · have q2 : ((s[k].toNat : Int) == 10) = true := by simp [h10]
            have HN : Hid (spanTo isBlankB s (k + 1) = i) := (span_step isBlankB s k hlt (by simp [isBlankB, h10])).trans HS.out
            clear h32 h10
            go_wp2_with fail
            go_round
            case rel => exact ⟨k + 1, by omega, by omega, by go_num, HN.out⟩
            case measure => simp [intOf]; omega
          · have q2 : ((s[k].toNat : Int) == 10) = false := by rw [beq_eq_false_iff_ne]; intro h; exact h10 (UInt8.toNat_inj.1 (by exact_mod_cast h))
            have hki : k = i := by rw [← HS.out]; exact (span_stop isBlankB s k hlt (by simp [isBlankB, h32, h10])).symm
            subst hki
            -- MAINCASE
            have hc0 : (0 : Int) ≤ (s[k].toNat : Int) := by omega
            have hc1 : (s[k].toNat : Int) < 256 := by have := UInt8.toNat_lt s[k]; omega
            have hk0 : ((k : Int) == (s.size : Int)) = false := by rw [beq_eq_false_iff_ne]; omega
            have hrow := hI.row
            have hsz := hI.old.size
            by_cases hsm : 97 ≤ (s[k].toNat : Int) ∧ (s[k].toNat : Int) ≤ 122
            · have HST : Hid (lexStep s at_ = (⟨0, s.extract k (spanTo isSmallB s k), k, 0⟩, some (spanTo isSmallB s k))) := by
                show _ = _; unfold lexStep; simp only; rw [HI.out, if_neg (by omega), byte_at s k hlt, if_pos (by simp [isSmallB]; omega)]
              have hgt : k < spanTo isSmallB s k := by
                have h3 := span_ge isSmallB s (k + 1)
                rw [span_step isSmallB s k hlt (by simp [isSmallB]; omega)] at h3; omega
              obtain ⟨hs1, hs2⟩ := hsm
              have g1 : decide ((97 : Int) ≤ (s[k].toNat : Int)) = true := by simpa using hs1
              have g2 : decide ((s[k].toNat : Int) ≤ 122) = true := by simpa using hs2
              have g3 : decide ((48 : Int) ≤ (s[k].toNat : Int)) = true := by simp; omega
              have g4 : decide ((s[k].toNat : Int) ≤ 57) = false := by simp; omega
              as_aux_lemma =>
                clear h32 h10
                go_upto_region 12 with (first | (go_at_call_of 141 (Value.string ⟨#[40, 41, 124, 58, 46, 43, 45, 42, 47, 61, 60, 62]⟩); refine (among_any s[k] ⟨#[40, 41, 124, 58, 46, 43, 45, 42, 47, 61, 60, 62]⟩ _ (by decide)).mono ?_; rintro e w' ⟨rfl, hww⟩; rw [hww]; clear hww) | (go_at_call_of 141 (Value.string ⟨#[33, 60, 62]⟩); refine (among_any s[k] ⟨#[33, 60, 62]⟩ _ (by decide)).mono ?_; rintro e w' ⟨rfl, hww⟩; rw [hww]; clear hww))
                go_cut [10] from 11 to 88 (fun v wx => (∃ b, v = .bool b) ∧ wx = wr.alloc (.cells #[.int .i64 0, .string ⟨#[]⟩, .int .i64 (k : Nat), .int .i64 0] 150))
                case first =>
                  by_cases hn : k + 1 < s.size
                  · have hn1 : decide ((k : Int) + 1 < (s.size : Int)) = true := by simp; omega
                    have hn2 : (k : Int) + 1 < (s.size : Int) := by omega
                    by_cases h61 : s[k + 1] = 61
                    · have q61 : ((s[k + 1].toNat : Int) == 61) = true := by simp [h61]
                      clear h61
                      go_wp2_with (first | (go_at_call_of 141 (Value.string ⟨#[40, 41, 124, 58, 46, 43, 45, 42, 47, 61, 60, 62]⟩); refine (among_any s[k] ⟨#[40, 41, 124, 58, 46, 43, 45, 42, 47, 61, 60, 62]⟩ _ (by decide)).mono ?_; rintro e w' ⟨rfl, hww⟩; rw [hww]; clear hww) | (go_at_call_of 141 (Value.string ⟨#[33, 60, 62]⟩); refine (among_any s[k] ⟨#[33, 60, 62]⟩ _ (by decide)).mono ?_; rintro e w' ⟨rfl, hww⟩; rw [hww]; clear hww))
                      go_meet
                      case rel => exact ⟨⟨_, rfl⟩, rfl⟩
                    · have q61 : ((s[k + 1].toNat : Int) == 61) = false := by rw [beq_eq_false_iff_ne]; intro h; exact h61 (UInt8.toNat_inj.1 (by exact_mod_cast h))
                      clear h61
                      go_wp2_with (first | (go_at_call_of 141 (Value.string ⟨#[40, 41, 124, 58, 46, 43, 45, 42, 47, 61, 60, 62]⟩); refine (among_any s[k] ⟨#[40, 41, 124, 58, 46, 43, 45, 42, 47, 61, 60, 62]⟩ _ (by decide)).mono ?_; rintro e w' ⟨rfl, hww⟩; rw [hww]; clear hww) | (go_at_call_of 141 (Value.string ⟨#[33, 60, 62]⟩); refine (among_any s[k] ⟨#[33, 60, 62]⟩ _ (by decide)).mono ?_; rintro e w' ⟨rfl, hww⟩; rw [hww]; clear hww))
                      go_meet
                      case rel => exact ⟨⟨_, rfl⟩, rfl⟩
                  · have hn1 : decide ((k : Int) + 1 < (s.size : Int)) = false := by simp; omega
                    go_wp2_with (first | (go_at_call_of 141 (Value.string ⟨#[40, 41, 124, 58, 46, 43, 45, 42, 47, 61, 60, 62]⟩); refine (among_any s[k] ⟨#[40, 41, 124, 58, 46, 43, 45, 42, 47, 61, 60, 62]⟩ _ (by decide)).mono ?_; rintro e w' ⟨rfl, hww⟩; rw [hww]; clear hww) | (go_at_call_of 141 (Value.string ⟨#[33, 60, 62]⟩); refine (among_any s[k] ⟨#[33, 60, 62]⟩ _ (by decide)).mono ?_; rintro e w' ⟨rfl, hww⟩; rw [hww]; clear hww))
                    go_meet
                    case rel => exact ⟨⟨_, rfl⟩, rfl⟩
                case rest =>
                  obtain ⟨⟨b10, rfl⟩, hwc⟩ := hcut
                  rw [hwc]
                  clear hwc
                  go_upto_region 15 with fail
                  generalize he2 : spanTo isSmallB s k = e2 at *
                  have HE : Hid (spanTo isSmallB s k = e2) := he2
                  clear he2
                  go_wp2_with fail
                  go_loop [4] (fun a => ∃ k2 : Nat, k2 ≤ s.size ∧ k ≤ k2 ∧ a = .int .i64 k2 ∧ spanTo isSmallB s k2 = e2) (fun a => s.size - (intOf a).toNat)
                  case atStart => exact ⟨k, hk, Nat.le_refl _, rfl, HE.out⟩
                  case round =>
                    obtain ⟨k2, hk2, hkk, rfl, hsp2⟩ := hrel
                    have HS2 : Hid (spanTo isSmallB s k2 = e2) := hsp2
                    clear hsp2
                    by_cases hlt2 : k2 < s.size
                    · by_cases hc : 97 ≤ (s[k2].toNat : Int) ∧ (s[k2].toNat : Int) ≤ 122
                      · obtain ⟨hc1, hc2⟩ := hc
                        have r1 : decide ((97 : Int) ≤ (s[k2].toNat : Int)) = true := by simpa using hc1
                        have r2 : decide ((s[k2].toNat : Int) ≤ 122) = true := by simpa using hc2
                        have HN2 : Hid (spanTo isSmallB s (k2 + 1) = e2) := (span_step isSmallB s k2 hlt2 (by simp [isSmallB]; omega)).trans HS2.out
                        go_wp2_with fail
                        go_round
                        case rel => exact ⟨k2 + 1, by omega, by omega, by go_num, HN2.out⟩
                        case measure => simp [intOf]; omega
                      · have hke2 : k2 = e2 := by rw [← HS2.out]; exact (span_stop isSmallB s k2 hlt2 (by simp [isSmallB]; omega)).symm
                        by_cases hc1 : 97 ≤ (s[k2].toNat : Int)
                        · have r1 : decide ((97 : Int) ≤ (s[k2].toNat : Int)) = true := by simpa using hc1
                          have r2 : decide ((s[k2].toNat : Int) ≤ 122) = false := by simp; omega
                          clear hc
                          first
                            | (exfalso; omega)
                            | skip
                          all_goals (subst hke2)
                          all_goals (clear HS2)
                          all_goals go_wp2_with (at_builtin; refine wpList_append_lies _ rfl _ _ 119 rfl 0 150 j0 _ 4 40 Tryz.underlying119 hj0 hy0 hy1 hy2 rfl (by decide) _ acc.length (flat RTok.cells acc) (by rfl) ((hrow.alloc _).alloc _) ⟨(wr.heap.size + 1), 0, none⟩ 1 1 (RTok.cells ⟨0, s.extract k k2, k, 0⟩) (by rfl) rfl (World.news_of_block (alloc_at _ _ _ (by first | rfl | simp))) (by simp [RTok.cells, Value.oneCell']) (by decide) (by unfold maxLen; omega) (by omega) (Nat.zero_le _) ((wr.heap.size + 1) + 1) (by first | rfl | simp) ?_; intro g cap w1 hown hgrow hat hlt1)
                          all_goals go_roundw
                          all_goals first | exact tok_more hI HST.out ((hI.old.alloc hsz _).alloc (by simp; omega) _) (by simp; omega) hown hgrow (by simpa using hat) | (simp [intOf]; omega)

                        · have r1 : decide ((97 : Int) ≤ (s[k2].toNat : Int)) = false := by simp; omega
                          clear hc
                          first
                            | (exfalso; omega)
                            | skip
                          all_goals (subst hke2)
                          all_goals (clear HS2)
                          all_goals go_wp2_with (at_builtin; refine wpList_append_lies _ rfl _ _ 119 rfl 0 150 j0 _ 4 40 Tryz.underlying119 hj0 hy0 hy1 hy2 rfl (by decide) _ acc.length (flat RTok.cells acc) (by rfl) ((hrow.alloc _).alloc _) ⟨(wr.heap.size + 1), 0, none⟩ 1 1 (RTok.cells ⟨0, s.extract k k2, k, 0⟩) (by rfl) rfl (World.news_of_block (alloc_at _ _ _ (by first | rfl | simp))) (by simp [RTok.cells, Value.oneCell']) (by decide) (by unfold maxLen; omega) (by omega) (Nat.zero_le _) ((wr.heap.size + 1) + 1) (by first | rfl | simp) ?_; intro g cap w1 hown hgrow hat hlt1)
                          all_goals go_roundw
                          all_goals first | exact tok_more hI HST.out ((hI.old.alloc hsz _).alloc (by simp; omega) _) (by simp; omega) hown hgrow (by simpa using hat) | (simp [intOf]; omega)

                    · have hke2 : k2 = e2 := by rw [← HS2.out]; exact (span_end isSmallB s k2 (by omega)).symm
                      first
                        | (exfalso; omega)
                        | skip
                      all_goals (subst hke2)
                      all_goals (clear HS2)
                      all_goals go_wp2_with (at_builtin; refine wpList_append_lies _ rfl _ _ 119 rfl 0 150 j0 _ 4 40 Tryz.underlying119 hj0 hy0 hy1 hy2 rfl (by decide) _ acc.length (flat RTok.cells acc) (by rfl) ((hrow.alloc _).alloc _) ⟨(wr.heap.size + 1), 0, none⟩ 1 1 (RTok.cells ⟨0, s.extract k k2, k, 0⟩) (by rfl) rfl (World.news_of_block (alloc_at _ _ _ (by first | rfl | simp))) (by simp [RTok.cells, Value.oneCell']) (by decide) (by unfold maxLen; omega) (by omega) (Nat.zero_le _) ((wr.heap.size + 1) + 1) (by first | rfl | simp) ?_; intro g cap w1 hown hgrow hat hlt1)
                      all_goals go_roundw
                      all_goals first | exact tok_more hI HST.out ((hI.old.alloc hsz _).alloc (by simp; omega) _) (by simp; omega) hown hgrow (by simpa using hat) | (simp [intOf]; omega)

            · have HNs : Hid (isSmallB s[k] = false) := by show _ = _; simp [isSmallB]; omega
              by_cases hdg : 48 ≤ (s[k].toNat : Int) ∧ (s[k].toNat : Int) ≤ 57
              · have HSD : Hid (isDigitB s[k] = true) := by show _ = _; simp [isDigitB]; omega
                have HST4 : Hid (9 < spanTo isDigitB s k - k → lexStep s at_ = (⟨4, ⟨#[]⟩, k, nvS s k (spanTo isDigitB s k - k)⟩, none)) := by
                  intro h9; unfold lexStep; simp only; rw [HI.out, if_neg (by omega), byte_at s k hlt, if_neg (by rw [HNs.out]; decide), if_pos HSD.out, if_pos h9]
                have HST1 : Hid (¬ 9 < spanTo isDigitB s k - k → lexStep s at_ = (⟨1, s.extract k (spanTo isDigitB s k), k, nvS s k (spanTo isDigitB s k - k)⟩, some (spanTo isDigitB s k))) := by
                  intro h9; unfold lexStep; simp only; rw [HI.out, if_neg (by omega), byte_at s k hlt, if_neg (by rw [HNs.out]; decide), if_pos HSD.out, if_neg h9]
                have hgt : k < spanTo isDigitB s k := by
                  have h3 := span_ge isDigitB s (k + 1)
                  rw [span_step isDigitB s k hlt HSD.out] at h3; omega
                obtain ⟨hs1, hs2⟩ := hdg
                have g1 : decide ((97 : Int) ≤ (s[k].toNat : Int)) = false := by simp; omega
                have g3 : decide ((48 : Int) ≤ (s[k].toNat : Int)) = true := by simpa using hs1
                have g4 : decide ((s[k].toNat : Int) ≤ 57) = true := by simpa using hs2
                clear hsm
                as_aux_lemma =>
                  clear h32 h10
                  go_upto_region 12 with (first | (go_at_call_of 141 (Value.string ⟨#[40, 41, 124, 58, 46, 43, 45, 42, 47, 61, 60, 62]⟩); refine (among_any s[k] ⟨#[40, 41, 124, 58, 46, 43, 45, 42, 47, 61, 60, 62]⟩ _ (by decide)).mono ?_; rintro e w' ⟨rfl, hww⟩; rw [hww]; clear hww) | (go_at_call_of 141 (Value.string ⟨#[33, 60, 62]⟩); refine (among_any s[k] ⟨#[33, 60, 62]⟩ _ (by decide)).mono ?_; rintro e w' ⟨rfl, hww⟩; rw [hww]; clear hww))
                  go_cut [10] from 11 to 88 (fun v wx => (∃ b, v = .bool b) ∧ wx = wr.alloc (.cells #[.int .i64 0, .string ⟨#[]⟩, .int .i64 (k : Nat), .int .i64 0] 150))
                  case first =>
                    by_cases hn : k + 1 < s.size
                    · have hn1 : decide ((k : Int) + 1 < (s.size : Int)) = true := by simp; omega
                      have hn2 : (k : Int) + 1 < (s.size : Int) := by omega
                      by_cases h61 : s[k + 1] = 61
                      · have q61 : ((s[k + 1].toNat : Int) == 61) = true := by simp [h61]
                        clear h61
                        go_wp2_with (first | (go_at_call_of 141 (Value.string ⟨#[40, 41, 124, 58, 46, 43, 45, 42, 47, 61, 60, 62]⟩); refine (among_any s[k] ⟨#[40, 41, 124, 58, 46, 43, 45, 42, 47, 61, 60, 62]⟩ _ (by decide)).mono ?_; rintro e w' ⟨rfl, hww⟩; rw [hww]; clear hww) | (go_at_call_of 141 (Value.string ⟨#[33, 60, 62]⟩); refine (among_any s[k] ⟨#[33, 60, 62]⟩ _ (by decide)).mono ?_; rintro e w' ⟨rfl, hww⟩; rw [hww]; clear hww))
                        go_meet
                        case rel => exact ⟨⟨_, rfl⟩, rfl⟩
                      · have q61 : ((s[k + 1].toNat : Int) == 61) = false := by rw [beq_eq_false_iff_ne]; intro h; exact h61 (UInt8.toNat_inj.1 (by exact_mod_cast h))
                        clear h61
                        go_wp2_with (first | (go_at_call_of 141 (Value.string ⟨#[40, 41, 124, 58, 46, 43, 45, 42, 47, 61, 60, 62]⟩); refine (among_any s[k] ⟨#[40, 41, 124, 58, 46, 43, 45, 42, 47, 61, 60, 62]⟩ _ (by decide)).mono ?_; rintro e w' ⟨rfl, hww⟩; rw [hww]; clear hww) | (go_at_call_of 141 (Value.string ⟨#[33, 60, 62]⟩); refine (among_any s[k] ⟨#[33, 60, 62]⟩ _ (by decide)).mono ?_; rintro e w' ⟨rfl, hww⟩; rw [hww]; clear hww))
                        go_meet
                        case rel => exact ⟨⟨_, rfl⟩, rfl⟩
                    · have hn1 : decide ((k : Int) + 1 < (s.size : Int)) = false := by simp; omega
                      go_wp2_with (first | (go_at_call_of 141 (Value.string ⟨#[40, 41, 124, 58, 46, 43, 45, 42, 47, 61, 60, 62]⟩); refine (among_any s[k] ⟨#[40, 41, 124, 58, 46, 43, 45, 42, 47, 61, 60, 62]⟩ _ (by decide)).mono ?_; rintro e w' ⟨rfl, hww⟩; rw [hww]; clear hww) | (go_at_call_of 141 (Value.string ⟨#[33, 60, 62]⟩); refine (among_any s[k] ⟨#[33, 60, 62]⟩ _ (by decide)).mono ?_; rintro e w' ⟨rfl, hww⟩; rw [hww]; clear hww))
                      go_meet
                      case rel => exact ⟨⟨_, rfl⟩, rfl⟩
                  case rest =>
                    obtain ⟨⟨b10, rfl⟩, hwc⟩ := hcut
                    rw [hwc]
                    clear hwc
                    go_upto_region 18 with fail
                    generalize he2 : spanTo isDigitB s k = e2 at *
                    have HE : Hid (spanTo isDigitB s k = e2) := he2
                    clear he2
                    go_wp2_with fail
                    go_loopw [4] (fun a wx => ∃ k2 n : Nat, k2 ≤ s.size ∧ k ≤ k2 ∧ a = .int .i64 (k2 : Nat) ∧ spanTo isDigitB s k2 = e2 ∧ Nine (nvS s k (k2 - k)) (k2 - k) ∧ wx = (wr.alloc (.cells #[.int .i64 1, .string ⟨#[]⟩, .int .i64 (k : Nat), .int .i64 (nvS s k (k2 - k) : Nat)] 150)).drewN n) (fun a _ => s.size - (intOf a).toNat)
                    case atStart => exact ⟨k, 0, hk, Nat.le_refl _, rfl, HE.out, by simp [nvS_zero, Nine.zero], by simp [nvS_zero]; rfl⟩
                    case round =>
                      obtain ⟨k2, n, hk2, hkk, rfl, hsp2, hni, rfl⟩ := hrel
                      have HS2 : Hid (spanTo isDigitB s k2 = e2) := hsp2
                      have HNi : Hid (Nine (nvS s k (k2 - k)) (k2 - k)) := hni
                      have hnv := hni.le
                      clear hsp2 hni
                      by_cases hlt2 : k2 < s.size
                      · by_cases hc : 48 ≤ (s[k2].toNat : Int) ∧ (s[k2].toNat : Int) ≤ 57
                        · obtain ⟨hc1, hc2⟩ := hc
                          have r1 : decide ((48 : Int) ≤ (s[k2].toNat : Int)) = true := by simpa using hc1
                          have r2 : decide ((s[k2].toNat : Int) ≤ 57) = true := by simpa using hc2
                          have HN2 : Hid (spanTo isDigitB s (k2 + 1) = e2) := (span_step isDigitB s k2 hlt2 (by simp [isDigitB]; omega)).trans HS2.out
                          by_cases h9 : k2 - k < 9
                          · have h9' : (k2 : Int) - (k : Int) < 9 := by omega
                            go_wp2_with fail
                            go_region
                            all_goals go_wp2_with fail
                            go_roundw
                            case rel => exact ⟨k2 + 1, n + 1, by omega, by omega, by go_num, HN2.out, by rw [nvS_at _ _ _ hkk hlt2 h9, show k2 + 1 - k = (k2 - k) + 1 by omega]; exact HNi.out.lt h9 (by omega), by rw [nvS_at _ _ _ hkk hlt2 h9, show ((10 * nvS s k (k2 - k) + (s[k2].toNat - 48) : Nat) : Int) = 10 * (nvS s k (k2 - k) : Int) + ((s[k2].toNat : Int) - 48) by omega]⟩
                            case measure => simp [intOf]; omega
                          · have h9' : ¬ (k2 : Int) - (k : Int) < 9 := by omega
                            go_wp2_with fail
                            go_roundw
                            case rel => exact ⟨k2 + 1, n, by omega, by omega, by go_num, HN2.out, by rw [show k2 + 1 - k = (k2 - k) + 1 by omega, nvS_ge _ _ _ (by omega)]; exact HNi.out.ge (by omega), by rw [show k2 + 1 - k = (k2 - k) + 1 by omega, nvS_ge _ _ _ (by omega)]⟩
                            case measure => simp [intOf]; omega
                        · have hke2 : k2 = e2 := by rw [← HS2.out]; exact (span_stop isDigitB s k2 hlt2 (by simp [isDigitB]; omega)).symm
                          by_cases hc1 : 48 ≤ (s[k2].toNat : Int)
                          · have r1 : decide ((48 : Int) ≤ (s[k2].toNat : Int)) = true := by simpa using hc1
                            have r2 : decide ((s[k2].toNat : Int) ≤ 57) = false := by simp; omega
                            clear hc
                            first
                              | (exfalso; omega)
                              | skip
                            all_goals (subst hke2)
                            all_goals (clear HS2)
                            all_goals (rcases Nat.lt_or_ge 9 (k2 - k) with h9 | h9)
                            all_goals first | (exfalso; omega) | skip
                            all_goals first
                              | (have h9x : 9 < k2 - k := h9
                                 have h9' : (9 : Int) < (k2 : Int) - (k : Int) := by omega
                                 have HST : Hid (lexStep s at_ = (⟨4, ⟨#[]⟩, k, nvS s k (k2 - k)⟩, none)) := HST4.out h9
                                 go_wp2_with (at_builtin; refine wpList_append_lies _ rfl _ _ 119 rfl 0 150 j0 _ 4 40 Tryz.underlying119 hj0 hy0 hy1 hy2 rfl (by decide) _ acc.length (flat RTok.cells acc) (by rfl) (row_drewN ((hrow.alloc _).alloc _) n) ⟨(wr.heap.size + 1), 0, none⟩ 1 1 (RTok.cells ⟨4, ⟨#[]⟩, k, nvS s k (k2 - k)⟩) (by rfl) rfl (World.news_of_block (alloc_at _ _ _ (by first | rfl | simp))) (by simp [RTok.cells, Value.oneCell']) (by decide) (by unfold maxLen; omega) (by omega) (Nat.zero_le _) ((wr.heap.size + 1) + 1) (by first | rfl | simp) ?_; intro g cap w1 hown hgrow hat hlt1)
                                 go_ret
                                 exact ⟨_, rfl, tok_post hI HST.out (below_drewN ((hI.old.alloc hsz _).alloc (by simp; omega) _) n) (by simp; omega) hown hgrow (by simpa using hat)⟩)
                              | (have h9x : k2 - k ≤ 9 := h9
                                 have h9' : (k2 : Int) - (k : Int) ≤ 9 := by omega
                                 have HST : Hid (lexStep s at_ = (⟨1, s.extract k k2, k, nvS s k (k2 - k)⟩, some k2)) := HST1.out (Nat.not_lt.2 h9)
                                 go_wp2_with (at_builtin; refine wpList_append_lies _ rfl _ _ 119 rfl 0 150 j0 _ 4 40 Tryz.underlying119 hj0 hy0 hy1 hy2 rfl (by decide) _ acc.length (flat RTok.cells acc) (by rfl) (row_drewN ((hrow.alloc _).alloc _) n) ⟨(wr.heap.size + 1), 0, none⟩ 1 1 (RTok.cells ⟨1, s.extract k k2, k, nvS s k (k2 - k)⟩) (by rfl) rfl (World.news_of_block (alloc_at _ _ _ (by first | rfl | simp))) (by simp [RTok.cells, Value.oneCell']) (by decide) (by unfold maxLen; omega) (by omega) (Nat.zero_le _) ((wr.heap.size + 1) + 1) (by first | rfl | simp) ?_; intro g cap w1 hown hgrow hat hlt1)
                                 go_roundw
                                 · exact tok_more hI HST.out (below_drewN ((hI.old.alloc hsz _).alloc (by simp; omega) _) n) (by simp; omega) hown hgrow (by simpa using hat)
                                 · simp [intOf]; omega)
                          · have r1 : decide ((48 : Int) ≤ (s[k2].toNat : Int)) = false := by simp; omega
                            clear hc
                            first
                              | (exfalso; omega)
                              | skip
                            all_goals (subst hke2)
                            all_goals (clear HS2)
                            all_goals (rcases Nat.lt_or_ge 9 (k2 - k) with h9 | h9)
                            all_goals first | (exfalso; omega) | skip
                            all_goals first
                              | (have h9x : 9 < k2 - k := h9
                                 have h9' : (9 : Int) < (k2 : Int) - (k : Int) := by omega
                                 have HST : Hid (lexStep s at_ = (⟨4, ⟨#[]⟩, k, nvS s k (k2 - k)⟩, none)) := HST4.out h9
                                 go_wp2_with (at_builtin; refine wpList_append_lies _ rfl _ _ 119 rfl 0 150 j0 _ 4 40 Tryz.underlying119 hj0 hy0 hy1 hy2 rfl (by decide) _ acc.length (flat RTok.cells acc) (by rfl) (row_drewN ((hrow.alloc _).alloc _) n) ⟨(wr.heap.size + 1), 0, none⟩ 1 1 (RTok.cells ⟨4, ⟨#[]⟩, k, nvS s k (k2 - k)⟩) (by rfl) rfl (World.news_of_block (alloc_at _ _ _ (by first | rfl | simp))) (by simp [RTok.cells, Value.oneCell']) (by decide) (by unfold maxLen; omega) (by omega) (Nat.zero_le _) ((wr.heap.size + 1) + 1) (by first | rfl | simp) ?_; intro g cap w1 hown hgrow hat hlt1)
                                 go_ret
                                 exact ⟨_, rfl, tok_post hI HST.out (below_drewN ((hI.old.alloc hsz _).alloc (by simp; omega) _) n) (by simp; omega) hown hgrow (by simpa using hat)⟩)
                              | (have h9x : k2 - k ≤ 9 := h9
                                 have h9' : (k2 : Int) - (k : Int) ≤ 9 := by omega
                                 have HST : Hid (lexStep s at_ = (⟨1, s.extract k k2, k, nvS s k (k2 - k)⟩, some k2)) := HST1.out (Nat.not_lt.2 h9)
                                 go_wp2_with (at_builtin; refine wpList_append_lies _ rfl _ _ 119 rfl 0 150 j0 _ 4 40 Tryz.underlying119 hj0 hy0 hy1 hy2 rfl (by decide) _ acc.length (flat RTok.cells acc) (by rfl) (row_drewN ((hrow.alloc _).alloc _) n) ⟨(wr.heap.size + 1), 0, none⟩ 1 1 (RTok.cells ⟨1, s.extract k k2, k, nvS s k (k2 - k)⟩) (by rfl) rfl (World.news_of_block (alloc_at _ _ _ (by first | rfl | simp))) (by simp [RTok.cells, Value.oneCell']) (by decide) (by unfold maxLen; omega) (by omega) (Nat.zero_le _) ((wr.heap.size + 1) + 1) (by first | rfl | simp) ?_; intro g cap w1 hown hgrow hat hlt1)
                                 go_roundw
                                 · exact tok_more hI HST.out (below_drewN ((hI.old.alloc hsz _).alloc (by simp; omega) _) n) (by simp; omega) hown hgrow (by simpa using hat)
                                 · simp [intOf]; omega)
                      · have hke2 : k2 = e2 := by rw [← HS2.out]; exact (span_end isDigitB s k2 (by omega)).symm
                        first
                          | (exfalso; omega)
                          | skip
                        all_goals (subst hke2)
                        all_goals (clear HS2)
                        all_goals (rcases Nat.lt_or_ge 9 (k2 - k) with h9 | h9)
                        all_goals first | (exfalso; omega) | skip
                        all_goals first
                          | (have h9x : 9 < k2 - k := h9
                             have h9' : (9 : Int) < (k2 : Int) - (k : Int) := by omega
                             have HST : Hid (lexStep s at_ = (⟨4, ⟨#[]⟩, k, nvS s k (k2 - k)⟩, none)) := HST4.out h9
                             go_wp2_with (at_builtin; refine wpList_append_lies _ rfl _ _ 119 rfl 0 150 j0 _ 4 40 Tryz.underlying119 hj0 hy0 hy1 hy2 rfl (by decide) _ acc.length (flat RTok.cells acc) (by rfl) (row_drewN ((hrow.alloc _).alloc _) n) ⟨(wr.heap.size + 1), 0, none⟩ 1 1 (RTok.cells ⟨4, ⟨#[]⟩, k, nvS s k (k2 - k)⟩) (by rfl) rfl (World.news_of_block (alloc_at _ _ _ (by first | rfl | simp))) (by simp [RTok.cells, Value.oneCell']) (by decide) (by unfold maxLen; omega) (by omega) (Nat.zero_le _) ((wr.heap.size + 1) + 1) (by first | rfl | simp) ?_; intro g cap w1 hown hgrow hat hlt1)
                             go_ret
                             exact ⟨_, rfl, tok_post hI HST.out (below_drewN ((hI.old.alloc hsz _).alloc (by simp; omega) _) n) (by simp; omega) hown hgrow (by simpa using hat)⟩)
                          | (have h9x : k2 - k ≤ 9 := h9
                             have h9' : (k2 : Int) - (k : Int) ≤ 9 := by omega
                             have HST : Hid (lexStep s at_ = (⟨1, s.extract k k2, k, nvS s k (k2 - k)⟩, some k2)) := HST1.out (Nat.not_lt.2 h9)
                             go_wp2_with (at_builtin; refine wpList_append_lies _ rfl _ _ 119 rfl 0 150 j0 _ 4 40 Tryz.underlying119 hj0 hy0 hy1 hy2 rfl (by decide) _ acc.length (flat RTok.cells acc) (by rfl) (row_drewN ((hrow.alloc _).alloc _) n) ⟨(wr.heap.size + 1), 0, none⟩ 1 1 (RTok.cells ⟨1, s.extract k k2, k, nvS s k (k2 - k)⟩) (by rfl) rfl (World.news_of_block (alloc_at _ _ _ (by first | rfl | simp))) (by simp [RTok.cells, Value.oneCell']) (by decide) (by unfold maxLen; omega) (by omega) (Nat.zero_le _) ((wr.heap.size + 1) + 1) (by first | rfl | simp) ?_; intro g cap w1 hown hgrow hat hlt1)
                             go_roundw
                             · exact tok_more hI HST.out (below_drewN ((hI.old.alloc hsz _).alloc (by simp; omega) _) n) (by simp; omega) hown hgrow (by simpa using hat)
                             · simp [intOf]; omega)
              · have HNd : Hid (isDigitB s[k] = false) := by show _ = _; simp [isDigitB]; omega
                as_aux_lemma =>
                  go_upto_region 9 with fail
                  go_cut [7] from 11 to 88 (fun v wx => v = .bool false ∧ wx = wr.alloc (.cells #[.int .i64 0, .string ⟨#[]⟩, .int .i64 (k : Nat), .int .i64 0] 150))
                  case first =>
                    by_cases o : 97 ≤ (s[k].toNat : Int)
                    · have g1 : decide ((97 : Int) ≤ (s[k].toNat : Int)) = true := by simpa using o
                      have g2 : decide ((s[k].toNat : Int) ≤ 122) = false := by simp; omega
                      clear hsm hdg
                      go_wp2_with (first | (go_at_call_of 141 (Value.string ⟨#[40, 41, 124, 58, 46, 43, 45, 42, 47, 61, 60, 62]⟩); refine (among_any s[k] ⟨#[40, 41, 124, 58, 46, 43, 45, 42, 47, 61, 60, 62]⟩ _ (by decide)).mono ?_; rintro e w' ⟨rfl, hww⟩; rw [hww]; clear hww) | (go_at_call_of 141 (Value.string ⟨#[33, 60, 62]⟩); refine (among_any s[k] ⟨#[33, 60, 62]⟩ _ (by decide)).mono ?_; rintro e w' ⟨rfl, hww⟩; rw [hww]; clear hww))
                      go_meet
                      case rel => exact ⟨rfl, rfl⟩
                    · have g1 : decide ((97 : Int) ≤ (s[k].toNat : Int)) = false := by simp; omega
                      clear hsm hdg
                      go_wp2_with (first | (go_at_call_of 141 (Value.string ⟨#[40, 41, 124, 58, 46, 43, 45, 42, 47, 61, 60, 62]⟩); refine (among_any s[k] ⟨#[40, 41, 124, 58, 46, 43, 45, 42, 47, 61, 60, 62]⟩ _ (by decide)).mono ?_; rintro e w' ⟨rfl, hww⟩; rw [hww]; clear hww) | (go_at_call_of 141 (Value.string ⟨#[33, 60, 62]⟩); refine (among_any s[k] ⟨#[33, 60, 62]⟩ _ (by decide)).mono ?_; rintro e w' ⟨rfl, hww⟩; rw [hww]; clear hww))
                      go_meet
                      case rel => exact ⟨rfl, rfl⟩
                  case rest =>
                    obtain ⟨rfl, hwc⟩ := hcut
                    rw [hwc]
                    clear hwc
                    go_upto_region 10 with fail
                    go_cut [8] from 11 to 88 (fun v wx => v = .bool false ∧ wx = wr.alloc (.cells #[.int .i64 0, .string ⟨#[]⟩, .int .i64 (k : Nat), .int .i64 0] 150))
                    case first =>
                      by_cases o : 48 ≤ (s[k].toNat : Int)
                      · have g1 : decide ((48 : Int) ≤ (s[k].toNat : Int)) = true := by simpa using o
                        have g2 : decide ((s[k].toNat : Int) ≤ 57) = false := by simp; omega
                        clear hsm hdg
                        go_wp2_with (first | (go_at_call_of 141 (Value.string ⟨#[40, 41, 124, 58, 46, 43, 45, 42, 47, 61, 60, 62]⟩); refine (among_any s[k] ⟨#[40, 41, 124, 58, 46, 43, 45, 42, 47, 61, 60, 62]⟩ _ (by decide)).mono ?_; rintro e w' ⟨rfl, hww⟩; rw [hww]; clear hww) | (go_at_call_of 141 (Value.string ⟨#[33, 60, 62]⟩); refine (among_any s[k] ⟨#[33, 60, 62]⟩ _ (by decide)).mono ?_; rintro e w' ⟨rfl, hww⟩; rw [hww]; clear hww))
                        go_meet
                        case rel => exact ⟨rfl, rfl⟩
                      · have g1 : decide ((48 : Int) ≤ (s[k].toNat : Int)) = false := by simp; omega
                        clear hsm hdg
                        go_wp2_with (first | (go_at_call_of 141 (Value.string ⟨#[40, 41, 124, 58, 46, 43, 45, 42, 47, 61, 60, 62]⟩); refine (among_any s[k] ⟨#[40, 41, 124, 58, 46, 43, 45, 42, 47, 61, 60, 62]⟩ _ (by decide)).mono ?_; rintro e w' ⟨rfl, hww⟩; rw [hww]; clear hww) | (go_at_call_of 141 (Value.string ⟨#[33, 60, 62]⟩); refine (among_any s[k] ⟨#[33, 60, 62]⟩ _ (by decide)).mono ?_; rintro e w' ⟨rfl, hww⟩; rw [hww]; clear hww))
                        go_meet
                        case rel => exact ⟨rfl, rfl⟩
                    case rest =>
                      obtain ⟨rfl, hwc⟩ := hcut
                      rw [hwc]
                      clear hwc
                      go_upto_region 12 with (first | (go_at_call_of 141 (Value.string ⟨#[40, 41, 124, 58, 46, 43, 45, 42, 47, 61, 60, 62]⟩); refine (among_any s[k] ⟨#[40, 41, 124, 58, 46, 43, 45, 42, 47, 61, 60, 62]⟩ _ (by decide)).mono ?_; rintro e w' ⟨rfl, hww⟩; rw [hww]; clear hww) | (go_at_call_of 141 (Value.string ⟨#[33, 60, 62]⟩); refine (among_any s[k] ⟨#[33, 60, 62]⟩ _ (by decide)).mono ?_; rintro e w' ⟨rfl, hww⟩; rw [hww]; clear hww))
                      go_cut [10] from 11 to 88 (fun v wx => v = .bool (isTwoB s k) ∧ wx = wr.alloc (.cells #[.int .i64 0, .string ⟨#[]⟩, .int .i64 (k : Nat), .int .i64 0] 150))
                      case first =>
                        by_cases hn : k + 1 < s.size
                        · have hn1 : decide ((k : Int) + 1 < (s.size : Int)) = true := by simp; omega
                          have hn2 : (k : Int) + 1 < (s.size : Int) := by omega
                          by_cases h61 : s[k + 1] = 61
                          · have q61 : ((s[k + 1].toNat : Int) == 61) = true := by simp [h61]
                            have HT2 : Hid (isTwoB s k = memB s[k] [33, 60, 62]) := by show _ = _; unfold isTwoB; rw [byte_at s k hlt, byte_at s (k + 1) hn]; simp [hn, h61]
                            clear h61
                            go_wp2_with (first | (go_at_call_of 141 (Value.string ⟨#[40, 41, 124, 58, 46, 43, 45, 42, 47, 61, 60, 62]⟩); refine (among_any s[k] ⟨#[40, 41, 124, 58, 46, 43, 45, 42, 47, 61, 60, 62]⟩ _ (by decide)).mono ?_; rintro e w' ⟨rfl, hww⟩; rw [hww]; clear hww) | (go_at_call_of 141 (Value.string ⟨#[33, 60, 62]⟩); refine (among_any s[k] ⟨#[33, 60, 62]⟩ _ (by decide)).mono ?_; rintro e w' ⟨rfl, hww⟩; rw [hww]; clear hww))
                            go_meet
                            case rel => exact ⟨by rw [HT2.out], rfl⟩
                          · have q61 : ((s[k + 1].toNat : Int) == 61) = false := by rw [beq_eq_false_iff_ne]; intro h; exact h61 (UInt8.toNat_inj.1 (by exact_mod_cast h))
                            have HT2 : Hid (isTwoB s k = false) := by show _ = _; unfold isTwoB; rw [byte_at s (k + 1) hn]; simp [h61]
                            clear h61
                            go_wp2_with (first | (go_at_call_of 141 (Value.string ⟨#[40, 41, 124, 58, 46, 43, 45, 42, 47, 61, 60, 62]⟩); refine (among_any s[k] ⟨#[40, 41, 124, 58, 46, 43, 45, 42, 47, 61, 60, 62]⟩ _ (by decide)).mono ?_; rintro e w' ⟨rfl, hww⟩; rw [hww]; clear hww) | (go_at_call_of 141 (Value.string ⟨#[33, 60, 62]⟩); refine (among_any s[k] ⟨#[33, 60, 62]⟩ _ (by decide)).mono ?_; rintro e w' ⟨rfl, hww⟩; rw [hww]; clear hww))
                            go_meet
                            case rel => exact ⟨by rw [HT2.out], rfl⟩
                        · have hn1 : decide ((k : Int) + 1 < (s.size : Int)) = false := by simp; omega
                          have HT2 : Hid (isTwoB s k = false) := by show _ = _; unfold isTwoB; simp [hn]
                          go_wp2_with (first | (go_at_call_of 141 (Value.string ⟨#[40, 41, 124, 58, 46, 43, 45, 42, 47, 61, 60, 62]⟩); refine (among_any s[k] ⟨#[40, 41, 124, 58, 46, 43, 45, 42, 47, 61, 60, 62]⟩ _ (by decide)).mono ?_; rintro e w' ⟨rfl, hww⟩; rw [hww]; clear hww) | (go_at_call_of 141 (Value.string ⟨#[33, 60, 62]⟩); refine (among_any s[k] ⟨#[33, 60, 62]⟩ _ (by decide)).mono ?_; rintro e w' ⟨rfl, hww⟩; rw [hww]; clear hww))
                          go_meet
                          case rel => exact ⟨by rw [HT2.out], rfl⟩
                      case rest =>
                        obtain ⟨rfl, hwc⟩ := hcut
                        rw [hwc]
                        clear hwc h32 h10
                        cases hb2 : isTwoB s k with
                        | true =>
                          have hn : k + 1 < s.size := by unfold isTwoB at hb2; simp only [Bool.and_eq_true, decide_eq_true_eq] at hb2; exact hb2.1.1
                          have HST : Hid (lexStep s at_ = (⟨2, s.extract k (k + 2), k, 0⟩, some (k + 2))) := by show _ = _; unfold lexStep; simp only; rw [HI.out, if_neg (by omega), byte_at s k hlt, if_neg (by rw [HNs.out]; decide), if_neg (by rw [HNd.out]; decide), if_pos hb2]
                          go_wp2_with (first | (first | (go_at_call_of 141 (Value.string ⟨#[40, 41, 124, 58, 46, 43, 45, 42, 47, 61, 60, 62]⟩); refine (among_any s[k] ⟨#[40, 41, 124, 58, 46, 43, 45, 42, 47, 61, 60, 62]⟩ _ (by decide)).mono ?_; rintro e w' ⟨rfl, hww⟩; rw [hww]; clear hww) | (go_at_call_of 141 (Value.string ⟨#[33, 60, 62]⟩); refine (among_any s[k] ⟨#[33, 60, 62]⟩ _ (by decide)).mono ?_; rintro e w' ⟨rfl, hww⟩; rw [hww]; clear hww)) | (at_builtin; refine wpList_append_lies _ rfl _ _ 119 rfl 0 150 j0 _ 4 40 Tryz.underlying119 hj0 hy0 hy1 hy2 rfl (by decide) _ acc.length (flat RTok.cells acc) (by rfl) ((hrow.alloc _).alloc _) ⟨(wr.heap.size + 1), 0, none⟩ 1 1 (RTok.cells ⟨2, s.extract k (k + 2), k, 0⟩) (by rfl) rfl (World.news_of_block (alloc_at _ _ _ (by first | rfl | simp))) (by simp [RTok.cells, Value.oneCell']) (by decide) (by unfold maxLen; omega) (by omega) (Nat.zero_le _) ((wr.heap.size + 1) + 1) (by first | rfl | simp) ?_; intro g cap w1 hown hgrow hat hlt1))
                          go_roundw
                          case rel => exact tok_more hI HST.out ((hI.old.alloc hsz _).alloc (by simp; omega) _) (by simp; omega) hown hgrow (by simpa using hat)
                          case measure => simp [intOf]; omega
                        | false =>
                          have HT2 : Hid (isTwoB s k = false) := hb2
                          cases hb1 : memB s[k] [40, 41, 124, 58, 46, 43, 45, 42, 47, 61, 60, 62] with
                          | true =>
                            have HO : Hid (isOneB s k = true) := by show _ = _; unfold isOneB; rw [byte_at s k hlt]; exact hb1
                            have HST : Hid (lexStep s at_ = (⟨2, s.extract k (k + 1), k, 0⟩, some (k + 1))) := by show _ = _; unfold lexStep; simp only; rw [HI.out, if_neg (by omega), byte_at s k hlt, if_neg (by rw [HNs.out]; decide), if_neg (by rw [HNd.out]; decide), if_neg (by rw [HT2.out]; decide), if_pos HO.out]
                            go_wp2_with (first | (first | (go_at_call_of 141 (Value.string ⟨#[40, 41, 124, 58, 46, 43, 45, 42, 47, 61, 60, 62]⟩); refine (among_any s[k] ⟨#[40, 41, 124, 58, 46, 43, 45, 42, 47, 61, 60, 62]⟩ _ (by decide)).mono ?_; rintro e w' ⟨rfl, hww⟩; rw [hww]; clear hww) | (go_at_call_of 141 (Value.string ⟨#[33, 60, 62]⟩); refine (among_any s[k] ⟨#[33, 60, 62]⟩ _ (by decide)).mono ?_; rintro e w' ⟨rfl, hww⟩; rw [hww]; clear hww)) | (at_builtin; refine wpList_append_lies _ rfl _ _ 119 rfl 0 150 j0 _ 4 40 Tryz.underlying119 hj0 hy0 hy1 hy2 rfl (by decide) _ acc.length (flat RTok.cells acc) (by rfl) ((hrow.alloc _).alloc _) ⟨(wr.heap.size + 1), 0, none⟩ 1 1 (RTok.cells ⟨2, s.extract k (k + 1), k, 0⟩) (by rfl) rfl (World.news_of_block (alloc_at _ _ _ (by first | rfl | simp))) (by simp [RTok.cells, Value.oneCell']) (by decide) (by unfold maxLen; omega) (by omega) (Nat.zero_le _) ((wr.heap.size + 1) + 1) (by first | rfl | simp) ?_; intro g cap w1 hown hgrow hat hlt1))
                            go_roundw
                            case rel => exact tok_more hI HST.out ((hI.old.alloc hsz _).alloc (by simp; omega) _) (by simp; omega) hown hgrow (by simpa using hat)
                            case measure => simp [intOf]; omega
                          | false =>
                            have HO : Hid (isOneB s k = false) := by show _ = _; unfold isOneB; rw [byte_at s k hlt]; exact hb1
                            have HST : Hid (lexStep s at_ = (⟨4, ⟨#[]⟩, k, 0⟩, none)) := by show _ = _; unfold lexStep; simp only; rw [HI.out, if_neg (by omega), byte_at s k hlt, if_neg (by rw [HNs.out]; decide), if_neg (by rw [HNd.out]; decide), if_neg (by rw [HT2.out]; decide), if_neg (by rw [HO.out]; decide)]
                            go_wp2_with (first | (first | (go_at_call_of 141 (Value.string ⟨#[40, 41, 124, 58, 46, 43, 45, 42, 47, 61, 60, 62]⟩); refine (among_any s[k] ⟨#[40, 41, 124, 58, 46, 43, 45, 42, 47, 61, 60, 62]⟩ _ (by decide)).mono ?_; rintro e w' ⟨rfl, hww⟩; rw [hww]; clear hww) | (go_at_call_of 141 (Value.string ⟨#[33, 60, 62]⟩); refine (among_any s[k] ⟨#[33, 60, 62]⟩ _ (by decide)).mono ?_; rintro e w' ⟨rfl, hww⟩; rw [hww]; clear hww)) | (at_builtin; refine wpList_append_lies _ rfl _ _ 119 rfl 0 150 j0 _ 4 40 Tryz.underlying119 hj0 hy0 hy1 hy2 rfl (by decide) _ acc.length (flat RTok.cells acc) (by rfl) ((hrow.alloc _).alloc _) ⟨(wr.heap.size + 1), 0, none⟩ 1 1 (RTok.cells ⟨4, ⟨#[]⟩, k, 0⟩) (by rfl) rfl (World.news_of_block (alloc_at _ _ _ (by first | rfl | simp))) (by simp [RTok.cells, Value.oneCell']) (by decide) (by unfold maxLen; omega) (by omega) (Nat.zero_le _) ((wr.heap.size + 1) + 1) (by first | rfl | simp) ?_; intro g cap w1 hown hgrow hat hlt1))
                            go_ret
                            exact ⟨_, rfl, tok_post hI HST.out ((hI.old.alloc hsz _).alloc (by simp; omega) _) (by simp; omega) hown hgrow (by simpa using hat)⟩
      · have hke : k = s.size := by omega
        subst hke
        have hki : s.size = i := by rw [← HS.out]; exact (span_end isBlankB s s.size (Nat.le_refl _)).symm
        have HST : Hid (lexStep s at_ = (⟨3, ⟨#[]⟩, s.size, 0⟩, none)) := by show _ = _; unfold lexStep; simp only; rw [HI.out, ← hki, if_pos (Nat.le_refl _)]
        subst hki
        have hrow := hI.row
        have hsz := hI.old.size
        go_wp2_with (at_builtin; refine wpList_append_lies _ rfl _ _ 119 rfl 0 150 j0 _ 4 40 Tryz.underlying119 hj0 hy0 hy1 hy2 rfl (by decide) _ acc.length (flat RTok.cells acc) (by rfl) (hrow.alloc _) ⟨wr.heap.size, 0, none⟩ 1 1 (RTok.cells ⟨3, ⟨#[]⟩, s.size, 0⟩) (by rfl) rfl (World.news_of_block (alloc_at _ _ _ (by first | rfl | simp))) (by simp [RTok.cells, Value.oneCell']) (by decide) (by unfold maxLen; omega) (by omega) (Nat.zero_le _) (wr.heap.size + 1) (by first | rfl | simp) ?_; intro g cap w1 hown hgrow hat hlt1)
        go_ret
        exact ⟨_, rfl, tok_post hI HST.out (hI.old.alloc hsz _) (by simp; omega) hown hgrow (by simpa using hat)⟩
end Go.Proofs.YtddbjcfdmdbmkaaGreatDoor
