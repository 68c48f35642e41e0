/-
  The walk of cofferref.Pieces and Split.
-/
import Derived.Test.YtcegdgmbponapaaDoorWRefPoints
import Derived.Test.YtcegdgmbponapaaDoorWJoin
import Derived.BigQuiet
namespace Cof

theorem knownAt_take (v tape : List UInt8) (gs ts G g j : Nat) (hg : g < G) (hj : j < gs + ts) : knownAt v (tape.take (ts * G)) gs ts g j = knownAt v tape gs ts g j := by
  unfold knownAt
  split
  · rfl
  · rename_i h
    have h1 : (g + 1) * ts ≤ G * ts := Nat.mul_le_mul_right ts hg
    rw [Nat.succ_mul, Nat.mul_comm G ts] at h1
    rw [List.getD_eq_getElem?_getD, List.getElem?_take, if_pos (by omega), ← List.getD_eq_getElem?_getD]

theorem pieceAt_take (v tape : List UInt8) (mode t l i g G : Nat) (hg : g < G) : pieceAt v (tape.take (tsize mode t * G)) mode t l i g = pieceAt v tape mode t l i g := by
  rw [pieceAt_itp', pieceAt_itp']
  congr 1
  apply List.map_congr_left
  intro j hj
  exact knownAt_take v tape _ _ G g j hg (List.mem_range.1 hj)

theorem split_row' (v tape : List UInt8) (mode t l n i : Nat) (hi : i < n) (hg : 0 < gsize mode t l) (ht : tsize mode t * ngroups mode t l v.length ≤ tape.length) :
    (split v mode t l n tape).getD i [] = (List.range (ngroups mode t l v.length)).map (pieceAt v tape mode t l i) := by
  have e : split v mode t l n tape = split v mode t l n (tape.take (tsize mode t * ngroups mode t l v.length)) := by
    unfold split; rw [List.take_take, Nat.min_self]
  rw [e, split_row _ _ _ _ _ _ _ hi hg (by rw [List.length_take]; omega)]
  apply List.map_congr_left
  intro g hg'
  exact pieceAt_take v tape mode t l i g _ (List.mem_range.1 hg')
end Cof
namespace Go.Proofs.YtcegdgmbponapaaDoor
open Go.RowKit
attribute [local go_sem ↓] Go.wp_at_zero Go.wp_at_succ

theorem pts_right {w : World} {base k : Nat} {x : Value} {F : Nat → UInt8 × UInt8} {xs ys : List UInt8} (h : w.ownsRow base 109 2 x k (pts F k)) (hk : 0 < k) (hl : xs.length = k) (hF : ∀ j, j < k → F j = (xs.getD j 0, ys.getD j 0)) :
    ∃ a c, x = .slice a k c ∧ PtRd w a xs ys := by
  obtain ⟨g, c, rfl, h1, h2⟩ := h.form hk
  refine ⟨_, _, rfl, fun i hi => ⟨g, 0, rfl, h2, ?_, ?_⟩⟩
  · rw [Nat.zero_add, h.cellAt (i * 2) (by omega), (pts_at F k i (by omega)).1, hF i (by omega)]
  · rw [Nat.zero_add, h.cellAt (i * 2 + 1) (by omega), (pts_at F k i (by omega)).2, hF i (by omega)]

theorem strs_snoc (rows : List (List UInt8)) (i : Nat) (h : i < rows.length) : strs (rows.take (i + 1)) = strs (rows.take i) ++ [str (rows.getD i [])] := by
  rw [take_snoc rows i [] h]; simp [strs]

set_option maxRecDepth 100000 in
set_option maxHeartbeats 2000000 in
theorem rpieces_any (mode t l n : Nat) (v tape : ByteArray) (w : World) (hp : IsPlan mode t l n) (hv : v.size ≤ 60) (htp : Cof.tsize mode t * Cof.ngroups mode t l v.size ≤ tape.size) :
    Calls Tryd.prog 34 #[.string v, .agg #[.int .i64 mode, .int .i64 t, .int .i64 l], .int .i64 n, .string tape] w fun e w' =>
      ∃ r, e = .returned r ∧ w'.ownsRow w.heap.size 9 1 r n (strs (Cof.split v.data.toList mode t l n tape.data.toList)) ∧ Below w.heap.size w w' := by
  obtain ⟨iS, hiS, hs0, hs1, hs2⟩ := info_parts Tryd.infoS
  obtain ⟨iU, hiU, hu0, hu1, hu2⟩ := info_parts Tryd.info5
  have hng := ngroups_le hp v.size hv
  have hn8 := hp.n8
  obtain ⟨hgs1, hgs8, hts8⟩ := gsize_le hp
  have HROW := hid (fun i (hi : i < n) => Cof.split_row' v.data.toList tape.data.toList mode t l n i hi (by omega) htp)
  have HRL := hid (split_length v.data.toList mode t l n tape.data.toList)
  have e1 : v.data.toList.length = v.size := rfl
  rw [e1] at HROW
  obtain ⟨N, hN⟩ : ∃ N, N = Cof.gsize mode t l + Cof.tsize mode t := ⟨_, rfl⟩
  have hN1 : 1 ≤ N := by omega
  have hN16 : N ≤ 16 := by omega
  have hXL : (Cof.groupAt mode t l ++ Cof.tapeAt mode t).length = N := by rw [List.length_append, Cof.groupAt_length, Cof.tapeAt_length, hN]
  have HKN := hid (fun g (hg : g < Cof.ngroups mode t l v.size) w => show Calls Tryd.prog 54 #[.string v, .agg #[.int .i64 mode, .int .i64 t, .int .i64 l], .string tape, .int .i64 g] w (fun e w' => ∃ a c, e = .returned (.slice a N c) ∧ PtRd w' a (Cof.groupAt mode t l ++ Cof.tapeAt mode t) ((List.range N).map (Cof.knownAt v.data.toList tape.data.toList (Cof.gsize mode t l) (Cof.tsize mode t) g)) ∧ Below w.heap.size w w') by
    refine (rknown_any mode t l n g v tape w hp hv hg htp).mono ?_
    rintro e w' ⟨r, rfl, hown, hb⟩
    rw [← hN] at hown
    obtain ⟨a, c, rfl, hrd⟩ := pts_right (xs := Cof.groupAt mode t l ++ Cof.tapeAt mode t) (ys := (List.range N).map (Cof.knownAt v.data.toList tape.data.toList (Cof.gsize mode t l) (Cof.tsize mode t) g)) hown hN1 hXL (fun j hj => by simp [ptF, hj])
    exact ⟨a, c, rfl, hrd, hb⟩)
  have hND := Cof.known_nodup mode t l (Nat.le_trans hp.tn hp.n8) (by have h1 := hp.t1; rcases hp.md with ⟨_, h⟩ | ⟨_, h⟩ <;> omega)
  have HAT := hid (fun a c i g w hr => show Calls Tryd.prog 55 #[.slice a N c, .int .u8 (UInt8.ofNat (1 + i)).toNat] w (fun e w' => e = .returned (.int .u8 (Cof.pieceAt v.data.toList tape.data.toList mode t l i g).toNat) ∧ Below w.heap.size w w') by
    have h := rat_any a c N (Cof.groupAt mode t l ++ Cof.tapeAt mode t) ((List.range N).map (Cof.knownAt v.data.toList tape.data.toList (Cof.gsize mode t l) (Cof.tsize mode t) g)) (UInt8.ofNat (1 + i)) w hXL.symm hr hND (by omega)
    rw [hN, ← Cof.pieceAt_itp'] at h
    rw [hN]
    exact h)
  have HGR := hid (fun w => rgroups_any mode t l n v.size w hp hv)
  generalize (fun g => (List.range N).map (Cof.knownAt v.data.toList tape.data.toList (Cof.gsize mode t l) (Cof.tsize mode t) g)) = ys at *
  clear hN hp htp hgs1 hgs8 hts8 e1 hXL hND
  generalize Cof.split v.data.toList mode t l n tape.data.toList = rows at *
  generalize Cof.ngroups mode t l v.size = G at *
  generalize Cof.pieceAt v.data.toList tape.data.toList mode t l = P at *
  generalize Cof.groupAt mode t l ++ Cof.tapeAt mode t = xs at *
  generalize (Cof.gsize mode t l) = gs at *
  generalize (Cof.tsize mode t) = ts at *
  obtain ⟨w0, hw0⟩ : ∃ w0, w0 = w.alloc (.cells #[.int .i64 mode, .int .i64 t, .int .i64 l] 23) := ⟨_, rfl⟩
  have p0 : w0.cell? ⟨w.heap.size, 0, none⟩ = some (.int .i64 mode) := by rw [hw0]; simp
  have p1 : w0.cell? ⟨w.heap.size, 1, none⟩ = some (.int .i64 t) := by rw [hw0]; simp
  have p2 : w0.cell? ⟨w.heap.size, 2, none⟩ = some (.int .i64 l) := by rw [hw0]; simp
  have hz0 : w.heap.size < w0.heap.size := by rw [hw0]; simp
  have hb0 : Below w.heap.size w w0 := by rw [hw0]; exact (Below.refl _ _).alloc (Nat.le_refl _) _
  go_enter Tryd.func34, Tryd.ntmps34
  go_wp2_with fail
  rw [← hw0]
  clear hw0
  go_loopw [9, 10] (fun o i wr => ∃ k : Nat, k ≤ n ∧ i = .int .i64 k ∧ wr.ownsRow w0.heap.size 9 1 o k (strs (rows.take k)) ∧ Below w0.heap.size w0 wr)
    (fun _ i _ => n - (intOf i).toNat)
  case atStart => exact ⟨0, Nat.zero_le _, rfl, World.ownsRow_nil _ _ _ _, Below.refl _ _⟩
  case round =>
    obtain ⟨k, hk, rfl, hown, hbel⟩ := hrel
    have hzb := hbel.size
    have HO := hid hown
    clear hown
    by_cases hlt : k < n
    · obtain ⟨a, ha⟩ : ∃ a, a = UInt8.ofNat (1 + k) := ⟨_, rfl⟩
      have hai : (k : Int) + 1 = (a.toNat : Int) := by rw [ha, ← u8_int _ (by omega)]; omega
      have ha6 : (a.toNat : Int) ≤ 255 := by have := a.toNat_lt; omega
      have HA := hid (fun a' c g w hr => HAT.out a' c k g w hr)
      rw [← ha] at HA
      have HSN := hid (show strs (rows.take (k + 1)) = strs (rows.take k) ++ [str ((List.range G).map (P k))] by
        rw [strs_snoc rows k (by rw [HRL.out]; exact hlt), HROW.out k hlt])
      have hk1 : (k : Int) < (n : Int) := by omega
      generalize P k = p at *
      generalize strs (rows.take k) = X at *
      clear ha
      obtain ⟨wo, rfl⟩ : ∃ wo, wo = wr := ⟨_, rfl⟩
      obtain ⟨o, rfl⟩ : ∃ o, o = u9 := ⟨_, rfl⟩
      go_wp2_with fail
      go_loopw [11, 12] (fun b q wq => ∃ g : Nat, g ≤ G ∧ q = .int .i64 g ∧ wq.ownsRow wo.heap.size 5 1 b g (bs ((List.range g).map p)) ∧ Below wo.heap.size wo wq)
        (fun _ q _ => G - (intOf q).toNat)
      case atStart => exact ⟨0, Nat.zero_le _, rfl, World.ownsRow_nil _ _ _ _, Below.refl _ _⟩
      case round =>
        obtain ⟨g, hg, rfl, hownb, hbq⟩ := hrel
        have hzq := hbq.size
        have hb0q : Below w0.heap.size w0 wr := hbel.trans (hbq.mono hzb)
        have c0 : wr.cell? ⟨w.heap.size, 0, none⟩ = some (.int .i64 mode) := (hb0q.cell (by exact hz0)).trans p0
        have c1 : wr.cell? ⟨w.heap.size, 1, none⟩ = some (.int .i64 t) := (hb0q.cell (by exact hz0)).trans p1
        have c2 : wr.cell? ⟨w.heap.size, 2, none⟩ = some (.int .i64 l) := (hb0q.cell (by exact hz0)).trans p2
        have HB := hid hownb
        clear hownb
        by_cases hgl : g < G
        · have hg1 : (g : Int) < (G : Int) := by omega
          have HSB := hid (show bs ((List.range (g + 1)).map p) = bs ((List.range g).map p) ++ [.int .u8 ((p g).toNat : Int)] by simp [bs, List.range_succ])
          generalize bs ((List.range g).map p) = Y at *
          go_wp2_with (first
            | (go_at_call 38; refine (HGR.out _).mono ?_; rintro e wg ⟨rfl, hbg⟩; have hzg := hbg.size; have x0 : wg.cell? ⟨w.heap.size, 0, none⟩ = some (.int .i64 mode) := (hbg.cell (by show w.heap.size < wr.heap.size; omega)).trans c0; have x1 : wg.cell? ⟨w.heap.size, 1, none⟩ = some (.int .i64 t) := (hbg.cell (by show w.heap.size < wr.heap.size; omega)).trans c1; have x2 : wg.cell? ⟨w.heap.size, 2, none⟩ = some (.int .i64 l) := (hbg.cell (by show w.heap.size < wr.heap.size; omega)).trans c2)
            | (go_at_call 54; refine (HKN.out g hgl _).mono ?_; rintro e wk ⟨aK, cK, rfl, hrk, hbk⟩; have hzk := hbk.size)
            | (go_at_call 55; refine (HA.out aK cK g _ hrk).mono ?_; rintro e wa ⟨rfl, hba⟩; have hza := hba.size; have hbra : Below wr.heap.size wr wa := (hbg.trans (hbk.mono hzg)).trans (hba.mono (by omega)); have HBA := hid (owns_below HB.out hbra (Nat.le_refl _)))
            | (at_builtin; refine wpList_append_lies _ rfl (.tmp 38) (.tmp 40) 60 rfl wo.heap.size 5 iU (.int .u8 0) 1 1 Tryd.underlying60 hiU hu0 hu1 hu2 rfl (by decide) u11 _ Y rfl (HBA.out.alloc _) ⟨wa.heap.size, 0, none⟩ 1 1 [.int .u8 (p g).toNat] rfl rfl (World.news_of_block (cs := #[.int .u8 (p g).toNat]) (t := 5) (fr := (0, 0)) (heap_alloc_new wa _)) (by simp [Value.oneCell']) (by decide) (by unfold maxLen; omega) (by omega) (by simp <;> omega) (wa.heap.size + 1) (by simp) ?_; intro g5 c5 w5 hown5 hgrow5 hat5 _; have HO5 := hid hown5; have hb5 : Below wo.heap.size wo w5 := ((hbq.trans (hbra.mono hzq)).alloc (by omega) _).grown hgrow5 (by simp <;> omega) (fun b hb => (HB.out.lt b hb).1); rw [← HSB.out] at HO5; clear hown5 hgrow5 hat5))
          go_roundw
          case rel => exact ⟨g + 1, by omega, by go_num, HO5.out, hb5⟩
          case measure => simp [intOf]; omega
        · have hg1 : ¬ (g : Int) < (G : Int) := by omega
          have hgG : g = G := by omega
          rw [hgG] at HB
          obtain ⟨aB, cB, rfl, hrB⟩ := owns_any_rd HB.out
          have hps : str ((List.range G).map p) = .string ⟨((List.range G).map p).toArray⟩ := rfl
          rw [hps] at HSN
          have HPL := hid (show G = ((List.range G).map p).length by simp)
          generalize (List.range G).map p = ps at *
          obtain ⟨S, hS⟩ : ∃ S : ByteArray, S = ⟨ps.toArray⟩ := ⟨_, rfl⟩
          rw [← hS] at HSN
          have HSS := hid hS
          clear hgG hps hS
          go_wp2_with (first
            | (go_at_call 38; refine (HGR.out _).mono ?_; rintro e wg ⟨rfl, hbg⟩; have hzg := hbg.size; have hog : Below wo.heap.size wo wg := hbq.trans (hbg.mono hzq); have hcv := conv_string wg aB cB G ps HPL.out (hrB.below hbg (Nat.le_refl _)); rw [← HSS.out] at hcv; have HOG := hid (owns_below HO.out hog (Nat.le_refl _)))
            | (at_builtin; refine wpList_append_lies _ rfl (.tmp 42) (.tmp 45) 24 rfl w0.heap.size 9 iS (.string ByteArray.empty) 1 16 Tryd.underlying24 hiS hs0 hs1 hs2 rfl (by decide) o _ X rfl (HOG.out.alloc _) ⟨wg.heap.size, 0, none⟩ 1 1 [.string S] rfl rfl (World.news_of_block (cs := #[.string S]) (t := 9) (fr := (0, 0)) (heap_alloc_new wg _)) (by simp [Value.oneCell']) (by decide) (by unfold maxLen; omega) (by omega) (by simp <;> omega) (wg.heap.size + 1) (by simp) ?_; intro g5 c5 w5 hown5 hgrow5 hat5 _; have HO5 := hid hown5; have hb5 : Below w0.heap.size w0 w5 := ((hbel.trans (hog.mono hzb)).alloc (by omega) _).grown hgrow5 (by simp <;> omega) (fun b hb => (HO.out.lt b hb).1); rw [← HSN.out] at HO5; clear hown5 hgrow5 hat5))
          go_roundw
          case rel => exact ⟨k + 1, by omega, by go_num, HO5.out, hb5⟩
          case measure => simp [intOf]; omega
    · have hkn : k = n := by omega
      have hk1 : ¬ (k : Int) < (n : Int) := by omega
      rw [hkn, List.take_of_length_le (by rw [HRL.out]; exact Nat.le_refl _)] at HO
      clear hkn
      go_wp2
      go_ret
      exact ⟨_, rfl, owns_base HO.out (by omega), hb0.trans (hbel.mono (by omega))⟩
end Go.Proofs.YtcegdgmbponapaaDoor
