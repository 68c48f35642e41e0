/-
  The walk of cofferlaw.Joins.
-/
import Derived.Test.YtcegdgmbponapaaDoorWHanded
import Derived.Test.YtcegdgmbponapaaDoorWJoinNo
import Derived.Test.YtcegdgmbponapaaDoorWLaw
import Derived.BigQuiet
namespace Go.Proofs.YtcegdgmbponapaaDoor
open Go.RowKit
attribute [local go_sem ↓] Go.wp_at_zero Go.wp_at_succ

theorem nodup_le (n : Nat) : ∀ ss : List Nat, ss.Nodup → (∀ s ∈ ss, s < n) → ss.length ≤ n := by
  induction n with
  | zero =>
    intro ss _ h
    cases ss with
    | nil => simp
    | cons a r => have := h a (by simp); omega
  | succ n ih =>
    intro ss hn h
    by_cases hm : n ∈ ss
    · have h1 := ih (ss.erase n) (hn.erase n) (fun s hs => by
        have h2 := (List.Nodup.mem_erase_iff hn).1 hs
        have := h s h2.2
        have := h2.1
        omega)
      rw [List.length_erase_of_mem hm] at h1
      omega
    · have := ih ss hn (fun s hs => by
        have h2 := h s hs
        have : s ≠ n := fun e => hm (e ▸ hs)
        omega)
      omega

theorem Hd.keeps {B : Nat} {w w' : World} {g n k : Nat} {zs : List Int} {ps : List ByteArray} (h : Hd w g zs ps n k) (hb : Below B w w') (hg : g < B) : Hd w' g zs ps n k := by
  obtain ⟨h1, h2, h3⟩ := h
  have e : ∀ j, w'.cell? ⟨g, j, none⟩ = w.cell? ⟨g, j, none⟩ := fun j => hb.cell (p := ⟨g, j, none⟩) hg
  refine ⟨fun i hi => by rw [e, e]; exact h1 i hi, fun i hi1 hi2 => by rw [e, e]; exact h2 i hi1 hi2, fun j hj => ⟨by rw [e]; exact (h3 j hj).1, (hb.frozen (p := ⟨g, j, none⟩) hg).trans (h3 j hj).2⟩⟩

theorem Hd.pz {w : World} {g n k : Nat} {zs : List Int} {ps : List ByteArray} (h : Hd w g zs ps n k) (hn : n = zs.length) (hg : g < w.heap.size) : PZ w (some ⟨g, 0, none⟩) zs ps := fun i hi =>
  ⟨g, 0, rfl, hg, by rw [Nat.zero_add]; exact (h.1 i (by omega)).1, by rw [Nat.zero_add]; exact (h.1 i (by omega)).2⟩

set_option maxRecDepth 100000 in
set_option maxHeartbeats 1000000 in
theorem joins_core (aP : Option Addr) (M c : Nat) (zs : List Int) (ps : List ByteArray) (m t l n size k : Int) (S : ByteArray) (w : World) (hT : Tab w) (hg : ErrType w) (em : M = zs.length) (hr : PZ w aP zs ps) (hno : aP = none → M = 0) (hM : 24 * (M + 8) ≤ 281474976710656)
    (hJ : ∀ w g, Tab w → ErrType w → PZ w (some ⟨g, 0, none⟩) zs ps → Calls Tryd.prog 15 #[.slice (some ⟨g, 0, none⟩) M (M + 8), .agg #[.int .i64 m, .int .i64 t, .int .i64 l], .int .i64 n, .int .i64 size] w fun e w' => e = .returned (.tuple #[.string S, .int .i64 k]) ∧ Below w.heap.size w w')
    (hF : ∀ w, PZ w aP zs ps → Calls Tryd.prog 17 #[.slice aP M c, .agg #[.int .i64 m, .int .i64 t, .int .i64 l], .int .i64 n, .int .i64 size] w fun e w' => e = .returned (.tuple #[.string S, .int .i64 k]) ∧ Below w.heap.size w w') :
    Calls Tryd.prog 4 #[.slice aP M c, .agg #[.int .i64 m, .int .i64 t, .int .i64 l], .int .i64 n, .int .i64 size] w fun e w' => e = .returned (.bool true) ∧ Below w.heap.size w w' := by
  obtain ⟨w0, hw0⟩ : ∃ w0, w0 = w.alloc (.cells #[.int .i64 m, .int .i64 t, .int .i64 l] 23) := ⟨_, rfl⟩
  have p0 : w0.cell? ⟨w.heap.size, 0, none⟩ = some (.int .i64 m) := by rw [hw0]; simp
  have p1 : w0.cell? ⟨w.heap.size, 1, none⟩ = some (.int .i64 t) := by rw [hw0]; simp
  have p2 : w0.cell? ⟨w.heap.size, 2, none⟩ = some (.int .i64 l) := by rw [hw0]; simp
  have hz0 : w.heap.size < w0.heap.size := by rw [hw0]; simp
  have hb0 : Below w.heap.size w w0 := by rw [hw0]; exact (Below.refl _ _).alloc (Nat.le_refl _) _
  have HT0 := hid (hT.keeps hb0 (Nat.le_refl _))
  have HG0 := hid (hg.keeps hb0 (Nat.le_refl _))
  have HR0 := hid (hr.keeps hb0 (Nat.le_refl _))
  have HJ := hid hJ
  have HF := hid hF
  have EM := hid em
  have HNO := hid hno
  have HH := hid (fun w (h : PZ w aP zs ps) => handed_any aP M c zs ps w em h hno hM)
  have HU := hid (fun w g (h1 : PZ w aP zs ps) (h2 : Hd w g zs ps M (M + 8)) (h3 : g < w.heap.size) => untouched_any aP M c g zs ps w em h1 h2 h3 hM)
  obtain ⟨C8, hC8⟩ : ∃ C8, C8 = M + 8 := ⟨_, rfl⟩
  rw [← hC8] at HH HJ HU
  clear hT hg hJ hF hr em hno hM hC8
  go_enter Tryd.func4, Tryd.ntmps4
  go_wp2_with fail
  rw [← hw0]
  clear hw0
  refine (HH.out w0 HR0.out).mono ?_
  rintro e w1 ⟨g, rfl, hg1, hg2, hd, hb1⟩
  have HD := hid hd
  have hz1 := hb1.size
  have x0 : w1.cell? ⟨w.heap.size, 0, none⟩ = some (.int .i64 m) := (hb1.cell (by exact hz0)).trans p0
  have x1 : w1.cell? ⟨w.heap.size, 1, none⟩ = some (.int .i64 t) := (hb1.cell (by exact hz0)).trans p1
  have x2 : w1.cell? ⟨w.heap.size, 2, none⟩ = some (.int .i64 l) := (hb1.cell (by exact hz0)).trans p2
  clear hd
  go_wp2_with fail
  refine (HJ.out w1 g (HT0.out.keeps hb1 (Nat.le_refl _)) (HG0.out.keeps hb1 (Nat.le_refl _)) (HD.out.pz EM.out hg2)).mono ?_
  rintro e w2 ⟨rfl, hb2⟩
  have hz2 := hb2.size
  have hb02 : Below w0.heap.size w0 w2 := hb1.trans (hb2.mono hz1)
  have y0 : w2.cell? ⟨w.heap.size, 0, none⟩ = some (.int .i64 m) := (hb02.cell (by exact hz0)).trans p0
  have y1 : w2.cell? ⟨w.heap.size, 1, none⟩ = some (.int .i64 t) := (hb02.cell (by exact hz0)).trans p1
  have y2 : w2.cell? ⟨w.heap.size, 2, none⟩ = some (.int .i64 l) := (hb02.cell (by exact hz0)).trans p2
  go_wp2_with fail
  refine (HU.out w2 g (HR0.out.keeps hb02 (Nat.le_refl _)) (HD.out.keeps hb2 hg2) (by omega)).mono ?_
  rintro e w3 ⟨rfl, hb3⟩
  have hz3 := hb3.size
  have hb03 : Below w0.heap.size w0 w3 := hb02.trans (hb3.mono (by omega))
  have z0 : w3.cell? ⟨w.heap.size, 0, none⟩ = some (.int .i64 m) := (hb03.cell (by exact hz0)).trans p0
  have z1 : w3.cell? ⟨w.heap.size, 1, none⟩ = some (.int .i64 t) := (hb03.cell (by exact hz0)).trans p1
  have z2 : w3.cell? ⟨w.heap.size, 2, none⟩ = some (.int .i64 l) := (hb03.cell (by exact hz0)).trans p2
  go_wp2_with fail
  refine (HF.out w3 (HR0.out.keeps hb03 (Nat.le_refl _))).mono ?_
  rintro e w4 ⟨rfl, hb4⟩
  have hb04 : Below w.heap.size w w4 := (hb0.trans (hb03.mono (by omega))).trans (hb4.mono (by omega))
  go_wp2_with (first | (go_at_call 11; refine (num_any k _).mono ?_; rintro e w5 ⟨rfl, rfl⟩))
  go_ret
  exact ⟨rfl, hb04⟩

theorem joins_any (aP : Option Addr) (M c : Nat) (zs : List Int) (ps : List ByteArray) (m t l n size : Int) (w : World) (hT : Tab w) (hg : ErrType w) (em : M = zs.length) (hpl : ps.length = M) (hr : PZ w aP zs ps) (hno : aP = none → M = 0) (hM : 24 * (M + 8) ≤ 281474976710656) (hmc : M ≤ c)
    (hz : ∀ z ∈ zs, I64 z) (hps : ∀ i, i < M → (ps.getD i ByteArray.empty).size ≤ maxLen) (hm : I64 m) (ht : I64 t) (hl : I64 l) (hn : I64 n) (hs : I64 size) :
    Calls Tryd.prog 4 #[.slice aP M c, .agg #[.int .i64 m, .int .i64 t, .int .i64 l], .int .i64 n, .int .i64 size] w fun e w' => e = .returned (.bool true) ∧ Below w.heap.size w w' := by
  have hMl : M ≤ maxLen := by unfold maxLen; omega
  by_cases hp : 1 ≤ n ∧ n ≤ 8 ∧ Fits m t l n
  · obtain ⟨h1, h2, h3⟩ := hp
    obtain ⟨mode, T, L, N, rfl, rfl, rfl, rfl, hpl2⟩ := h3.plan h1 h2
    by_cases hs60 : 0 ≤ size ∧ size ≤ 60
    · obtain ⟨sz, rfl⟩ : ∃ sz : Nat, size = (sz : Int) := ⟨size.toNat, by omega⟩
      have hsz : sz ≤ 60 := by omega
      by_cases hst : GoodSt zs N
      · obtain ⟨ss, rfl⟩ : ∃ ss : List Nat, zs = ss.map fun (s : Nat) => (s : Int) := ⟨zs.map Int.toNat, by
          rw [List.map_map]
          conv => lhs; rw [← List.map_id zs]
          apply List.map_congr_left
          intro z hz
          have := hst.1 z hz
          simp; omega⟩
        have hlt : ∀ s ∈ ss, s < N := fun s hs => by
          have := hst.1 (s : Int) (List.mem_map.2 ⟨s, hs, rfl⟩)
          omega
        have hnd : ss.Nodup := (List.pairwise_map.1 hst.2).imp fun h e => h (by rw [e])
        have ems : M = ss.length := by simpa using em
        have hm8 : M ≤ 8 := by have := nodup_le N ss hnd hlt; omega
        have toP : ∀ (w : World) a, PZ w a (ss.map fun (s : Nat) => (s : Int)) ps → PRd w a ss ps := fun w a h i hi => by
          obtain ⟨b, o, h1, h2, h3, h4⟩ := h i (by simpa using hi)
          exact ⟨b, o, h1, h2, by rw [h3]; simp [hi], h4⟩
        obtain ⟨TH, hTH⟩ : ∃ TH, TH = Cof.gsize mode T L + Cof.tsize mode T := ⟨_, rfl⟩
        have href := fun (w : World) h => rjoin_rest aP M c TH ss ps mode T L N sz w hpl2 hsz ems (toP w aP h) hpl hm8 hmc hlt hnd hTH
        by_cases hlen : ∀ i, i < M → (ps.getD i ByteArray.empty).size = Cof.ngroups mode T L sz
        · have hright : ∀ (w : World) g, PZ w (some ⟨g, 0, none⟩) (ss.map fun (s : Nat) => (s : Int)) ps → Right w mode T L N sz (some ⟨g, 0, none⟩) M (M + 8) ss ps := fun w g h => ⟨hpl2, hsz, ems, toP w _ h, hm8, by omega, hlt, hnd, hlen⟩
          by_cases hfew : M < TH
          · refine joins_core aP M c _ ps _ _ _ _ _ 10 ByteArray.empty w hT hg em hr hno hM (fun w g hT hg h => ?_) (fun w h => (href w h).mono fun e w' hh => ⟨hh.2.1 hlen hfew, hh.2.2.2⟩)
            exact join_few mode T L N sz M (M + 8) _ ss ps w (hright w g h) (by rw [← hTH]; exact hfew) hg
          · have hjl : (Cof.join mode T L sz (ss.take TH) ((ps.take TH).map fun p => p.data.toList)).length = sz := by
              show ((Cof.full mode T L sz (ss.take TH) ((ps.take TH).map fun p => p.data.toList)).take sz).length = sz
              rw [List.length_take, Cof.full_length]
              have hgs := (gsize_le hpl2).1
              have : sz ≤ Cof.ngroups mode T L sz * Cof.gsize mode T L := by
                unfold Cof.ngroups
                have h1 := Nat.div_add_mod (sz + Cof.gsize mode T L - 1) (Cof.gsize mode T L)
                have h2 := Nat.mod_lt (sz + Cof.gsize mode T L - 1) (show 0 < Cof.gsize mode T L by omega)
                rw [Nat.mul_comm]; omega
              omega
            refine joins_core aP M c _ ps _ _ _ _ _ 0 ⟨(Cof.join mode T L sz (ss.take TH) ((ps.take TH).map fun p => p.data.toList)).toArray⟩ w hT hg em hr hno hM (fun w g hT hg h => ?_) (fun w h => (href w h).mono fun e w' hh => ⟨hh.2.2.1 hlen (by omega), hh.2.2.2⟩)
            exact join_ok mode T L N sz M (M + 8) TH _ ss ps w (hright w g h) hpl hTH (by omega) hjl
        · refine joins_core aP M c _ ps _ _ _ _ _ 12 ByteArray.empty w hT hg em hr hno hM (fun w g hT hg h => ?_) (fun w h => (href w h).mono fun e w' hh => ⟨hh.1 hlen, hh.2.2.2⟩)
          have hba := (Below.refl w.heap.size w).alloc (Nat.le_refl _) (.cells #[.int .i64 mode, .int .i64 T, .int .i64 L] 23)
          refine join_refused _ _ _ _ _ _ 12 3 w hg (by omega) (cutJoin_pieces _ mode T L N sz 12 2 _ hpl2 hsz (fun w1 ag cg at' ct hb => ?_))
          have hk := (h.keeps hba (Nat.le_refl _)).keeps hb (Nat.le_refl _)
          exact (checkPieces_no _ M (M + 8) N _ ps ag at' _ cg _ ct _ w1 em hk hMl (by omega) hz hps ((hT.keeps hba (Nat.le_refl _)).keeps hb (Nat.le_refl _))).2 ss (by omega) ems (toP w1 _ hk) hlt hnd hlen
      · refine joins_core aP M c zs ps _ _ _ _ _ 13 ByteArray.empty w hT hg em hr hno hM (fun w g hT hg h => ?_) (fun w h => rjoin_stores aP M c zs ps mode T L N sz w hpl2 hsz em h hMl hst)
        have hba := (Below.refl w.heap.size w).alloc (Nat.le_refl _) (.cells #[.int .i64 mode, .int .i64 T, .int .i64 L] 23)
        refine join_refused _ _ _ _ _ _ 13 2 w hg (by omega) (cutJoin_pieces _ mode T L N sz 13 1 _ hpl2 hsz (fun w1 ag cg at' ct hb => ?_))
        exact (checkPieces_no _ M (M + 8) N zs ps ag at' _ cg _ ct _ w1 em ((h.keeps hba (Nat.le_refl _)).keeps hb (Nat.le_refl _)) hMl (by omega) hz hps ((hT.keeps hba (Nat.le_refl _)).keeps hb (Nat.le_refl _))).1 hst
    · have hbig : size < 0 ∨ 60 < size := by omega
      refine joins_core aP M c zs ps _ _ _ _ _ 4 ByteArray.empty w hT hg em hr hno hM (fun w g hT hg h => ?_) (fun w h => rjoin_big _ mode T L N size w hpl2 hbig)
      have hba := (Below.refl w.heap.size w).alloc (Nat.le_refl _) (.cells #[.int .i64 mode, .int .i64 T, .int .i64 L] 23)
      exact join_refused _ _ _ _ _ _ 4 2 w hg (by omega) (cutJoin_refused _ _ _ _ _ _ 4 _ (hT.keeps hba (Nat.le_refl _)) (fun w hT => layoutFor_big mode T L N size w hpl2 hs hbig hT))
  · refine joins_core aP M c zs ps m t l n size 3 ByteArray.empty w hT hg em hr hno hM (fun w g hT hg h => ?_) (fun w h => rjoin_noplan _ m t l n size w hm ht hl hn hp)
    have hba := (Below.refl w.heap.size w).alloc (Nat.le_refl _) (.cells #[.int .i64 m, .int .i64 t, .int .i64 l] 23)
    exact join_refused _ _ _ _ _ _ 3 2 w hg (by omega) (cutJoin_refused _ m t l n size 3 _ (hT.keeps hba (Nat.le_refl _)) (fun w hT => layoutFor_noplan m t l n size w hm ht hl hn hp hT))
end Go.Proofs.YtcegdgmbponapaaDoor
