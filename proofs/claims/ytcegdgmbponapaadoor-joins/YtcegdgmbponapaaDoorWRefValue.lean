/-
  The walk of cofferref.Threshold and Value.
-/
import Derived.Test.YtcegdgmbponapaaDoorWRefPieces
import Derived.BigQuiet
namespace Cof

theorem gather_at (R : List (List UInt8)) (G g j : Nat) (hg : g < G) (hj : j < R.length) : (gather R G).getD (g * R.length + j) 0 = (R.getD j []).getD g 0 := by
  induction G with
  | zero => omega
  | succ G ih =>
    have e : gather R (G + 1) = gather R G ++ R.map fun r => r.getD G 0 := by simp [gather, List.range_succ]
    rw [e, List.getD_eq_getElem?_getD]
    by_cases h : g < G
    · have h1 : (g + 1) * R.length ≤ G * R.length := Nat.mul_le_mul_right _ h
      rw [Nat.succ_mul] at h1
      rw [List.getElem?_append_left (by rw [gather_length]; omega), ← List.getD_eq_getElem?_getD, ih h]
    · have : g = G := by omega
      subst this
      rw [List.getElem?_append_right (by rw [gather_length]; omega), gather_length]
      simp [hj]

/-- What is gathered of the pieces, what the last group is filled up with too. -/
def full (mode t l size : Nat) (ss : List Nat) (rows : List (List UInt8)) : List UInt8 :=
  gather (carry (ss.map fun s => UInt8.ofNat (1 + s)) rows (groupAt mode t l)) (ngroups mode t l size)

theorem full_length (mode t l size : Nat) (ss : List Nat) (rows : List (List UInt8)) : (full mode t l size ss rows).length = ngroups mode t l size * gsize mode t l := by
  rw [full, gather_length]; simp [carry, groupAt_length]

theorem full_at (mode t l size : Nat) (ss : List Nat) (rows : List (List UInt8)) (g j : Nat) (hg : g < ngroups mode t l size) (hj : j < gsize mode t l) (hl : ss.length = rows.length) :
    (full mode t l size ss rows).getD (g * gsize mode t l + j) 0 = itp (ss.map fun s => UInt8.ofNat (1 + s)) (rows.map fun r => r.getD g 0) ((groupAt mode t l).getD j 0) := by
  have hcl : (carry (ss.map fun s => UInt8.ofNat (1 + s)) rows (groupAt mode t l)).length = gsize mode t l := by simp [carry, groupAt_length]
  have hj2 : j < (groupAt mode t l).length := by rw [groupAt_length]; exact hj
  have h := gather_at (carry (ss.map fun s => UInt8.ofNat (1 + s)) rows (groupAt mode t l)) (ngroups mode t l size) g j hg (by rw [hcl]; exact hj)
  rw [hcl] at h
  rw [full, h, show (carry (ss.map fun s => UInt8.ofNat (1 + s)) rows (groupAt mode t l)).getD j [] = carryTo (ss.map fun s => UInt8.ofNat (1 + s)) rows (groupAt mode t l)[j] rows.length by simp [carry, hj2], carryTo_getD]
  unfold itp
  rw [List.length_map, hl, show (groupAt mode t l).getD j 0 = (groupAt mode t l)[j] by simp [hj2]]
  apply csum_congr
  intro k hk
  exact ⟨rfl, by simp [hk]⟩
end Cof
namespace Go.Proofs.YtcegdgmbponapaaDoor
open Go.RowKit
attribute [local go_sem ↓] Go.wp_at_zero Go.wp_at_succ

set_option maxRecDepth 100000 in
theorem rthreshold_any (mode t l n : Nat) (w : World) (h : IsPlan mode t l n) :
    Calls Tryd.prog 39 #[.agg #[.int .i64 mode, .int .i64 t, .int .i64 l]] w fun e w' => e = .returned (.int .i64 ((Cof.gsize mode t l + Cof.tsize mode t : Nat) : Int)) ∧ Below w.heap.size w w' := by
  obtain ⟨h1, h2, h3, h4, h5, h6⟩ := h
  rcases h6 with ⟨rfl, h6⟩ | ⟨rfl, rfl⟩
  · go_enter Tryd.func39, Tryd.ntmps39
    go_wp2
    go_ret
    exact ⟨ret_int (by simp [Cof.gsize, Cof.tsize]; omega), (Below.refl _ _).alloc (Nat.le_refl _) _⟩
  · go_enter Tryd.func39, Tryd.ntmps39
    go_wp2
    go_ret
    exact ⟨ret_int (by simp [Cof.gsize, Cof.tsize]), (Below.refl _ _).alloc (Nat.le_refl _) _⟩

theorem PtRd.of_block {w w' : World} {gl : Nat} {xs ys : List UInt8} (h : PtRd w (some ⟨gl, 0, none⟩) xs ys) (hz : w.heap.size ≤ w'.heap.size) (hb : w'.heap[gl]? = w.heap[gl]?) : PtRd w' (some ⟨gl, 0, none⟩) xs ys := by
  intro i hi
  obtain ⟨b, o, e, h2, h3, h4⟩ := h i hi
  obtain ⟨rfl, rfl⟩ : gl = b ∧ 0 = o := by injection e with e; injection e with h1 h2; exact ⟨h1, h2⟩
  exact ⟨gl, 0, rfl, by omega, (World.cell?_of_block (a := ⟨gl, 0 + i * 2, none⟩) hb).trans h3, (World.cell?_of_block (a := ⟨gl, 0 + i * 2 + 1, none⟩) hb).trans h4⟩

theorem PtRd.below {B : Nat} {w w' : World} {a : Option Addr} {xs ys : List UInt8} (h : PtRd w a xs ys) (hb : Below B w w') (hB : w.heap.size ≤ B) : PtRd w' a xs ys := by
  intro i hi
  obtain ⟨b, o, e, h2, h3, h4⟩ := h i hi
  exact ⟨b, o, e, Nat.lt_of_lt_of_le h2 hb.size, (hb.cell (by show b < B; omega)).trans h3, (hb.cell (by show b < B; omega)).trans h4⟩

/-- The points of the pieces at the g-th group. -/
def pcF (ss : List Nat) (ps : List ByteArray) (g i : Nat) : UInt8 × UInt8 := (UInt8.ofNat (1 + ss.getD i 0), (ps.getD i ByteArray.empty).data.toList.getD g 0)

set_option maxRecDepth 100000 in
set_option maxHeartbeats 2000000 in
theorem rvalue_any (mode t l n size N c : Nat) (aP : Option Addr) (ss : List Nat) (ps : List ByteArray) (w : World) (hp : IsPlan mode t l n) (hs60 : size ≤ 60) (eN : N = ss.length) (hpl : ps.length = N) (hr : PRd w aP ss ps) (hN1 : 1 ≤ N) (hN16 : N ≤ 16) (hlt : ∀ s ∈ ss, s < n) (hnd : ss.Nodup) (hlen : ∀ i, i < N → (ps.getD i ByteArray.empty).size = Cof.ngroups mode t l size) :
    Calls Tryd.prog 40 #[.slice aP N c, .agg #[.int .i64 mode, .int .i64 t, .int .i64 l], .int .i64 size] w fun e w' =>
      e = .returned (.string ⟨((Cof.full mode t l size ss (ps.map fun p => p.data.toList)).take size).toArray⟩) ∧ Below w.heap.size w w' := by
  obtain ⟨iP, hiP, hq0, hq1, hq2⟩ := info_parts Tryd.infoPoint
  obtain ⟨iU, hiU, hu0, hu1, hu2⟩ := info_parts Tryd.info5
  have hng := ngroups_le hp size hs60
  have hn8 := hp.n8
  obtain ⟨hgs1, hgs8, hts8⟩ := gsize_le hp
  have HGA := hid (show ∀ j, j < Cof.gsize mode t l → (Cof.groupAt mode t l).getD j 0 = UInt8.ofNat ((if mode = 1 then 1 else 128) + j) from fun j hj => by
    unfold Cof.groupAt Cof.gsize at *
    split <;> rename_i h <;> simp [h] at hj ⊢ <;> simp [Cof.run, hj])
  have HFA := hid (fun g j hg hj => Cof.full_at mode t l size ss (ps.map fun p => p.data.toList) g j hg hj (by rw [List.length_map, hpl, eN]))
  have hFl := Cof.full_length mode t l size ss (ps.map fun p => p.data.toList)
  have hsz : size ≤ Cof.ngroups mode t l size * Cof.gsize mode t l := by
    unfold Cof.ngroups
    have h1 := Nat.div_add_mod (size + Cof.gsize mode t l - 1) (Cof.gsize mode t l)
    have h2 := Nat.mod_lt (size + Cof.gsize mode t l - 1) (show 0 < Cof.gsize mode t l by omega)
    rw [Nat.mul_comm]; omega
  have HXN := hid (Cof.stores_nodup ss hnd (fun s h => Nat.lt_of_lt_of_le (hlt s h) hn8))
  have HGR := hid (fun w => rgroups_any mode t l n size w hp hs60)
  have HGP := hid (fun w => rgroup_any mode t l n w hp)
  have HMD := hid hp.md
  have HLT := hid hlt
  have HR := hid hr
  have HEN := hid eN
  have HPL := hid hpl
  have hsl : ∀ i, i < N → ss.getD i 0 < 8 := fun i hi => Nat.lt_of_lt_of_le (hlt _ (by rw [show ss.getD i 0 = ss[i] by simp [show i < ss.length by omega]]; exact List.getElem_mem _)) hn8
  have HSL := hid hsl
  generalize Cof.full mode t l size ss (ps.map fun p => p.data.toList) = F at *
  obtain ⟨G, hG⟩ : ∃ G, G = Cof.ngroups mode t l size := ⟨_, rfl⟩
  obtain ⟨gs, hgs⟩ : ∃ gs, gs = Cof.gsize mode t l := ⟨_, rfl⟩
  rw [← hG] at hlen HGR hng hFl hsz HFA
  rw [← hgs] at HGP hgs1 hgs8 HGA hFl hsz HFA
  have HLEN := hid hlen
  clear hG hgs hp hr eN hpl hlt hnd hlen hts8 hsl
  obtain ⟨w0, hw0⟩ : ∃ w0, w0 = w.alloc (.cells #[.int .i64 mode, .int .i64 t, .int .i64 l] 23) := ⟨_, rfl⟩
  have p0 : w0.cell? ⟨w.heap.size, 0, none⟩ = some (.int .i64 mode) := by rw [hw0]; simp
  have p1 : w0.cell? ⟨w.heap.size, 1, none⟩ = some (.int .i64 t) := by rw [hw0]; simp
  have p2 : w0.cell? ⟨w.heap.size, 2, none⟩ = some (.int .i64 l) := by rw [hw0]; simp
  have hz0 : w.heap.size < w0.heap.size := by rw [hw0]; simp
  have hb0 : Below w.heap.size w w0 := by rw [hw0]; exact (Below.refl _ _).alloc (Nat.le_refl _) _
  go_enter Tryd.func40, Tryd.ntmps40
  go_wp2_with fail
  rw [← hw0]
  clear hw0
  refine (HGP.out w0).mono ?_
  rintro e w1 ⟨rfl, hb1⟩
  have hz1 := hb1.size
  have x0 : w1.cell? ⟨w.heap.size, 0, none⟩ = some (.int .i64 mode) := (hb1.cell (by exact hz0)).trans p0
  have x1 : w1.cell? ⟨w.heap.size, 1, none⟩ = some (.int .i64 t) := (hb1.cell (by exact hz0)).trans p1
  have x2 : w1.cell? ⟨w.heap.size, 2, none⟩ = some (.int .i64 l) := (hb1.cell (by exact hz0)).trans p2
  have hb01 : Below w.heap.size w w1 := hb0.trans (hb1.mono (by omega))
  have HR1 := hid (HR.out.keeps hb01 (Nat.le_refl _))
  clear p0 p1 p2 hb1 hb0
  go_wp2_with fail
  go_loopw [8, 9] (fun b k wr => ∃ kk q : Nat, kk ≤ G ∧ k = .int .i64 kk ∧ q = min (kk * gs) size ∧ wr.ownsRow w1.heap.size 5 1 b q (bs (F.take q)) ∧ Below w1.heap.size w1 wr)
    (fun _ k _ => G - (intOf k).toNat)
  case atStart => exact ⟨0, 0, Nat.zero_le _, rfl, by simp, World.ownsRow_nil _ _ _ _, Below.refl _ _⟩
  case round =>
    obtain ⟨kk, q, hk, rfl, hq, hown, hbel⟩ := hrel
    have hzb := hbel.size
    have HO := hid hown
    have HQ := hid hq
    have hq60 : q ≤ 60 := by omega
    have c0 : wr.cell? ⟨w.heap.size, 0, none⟩ = some (.int .i64 mode) := (hbel.cell (by show w.heap.size < w1.heap.size; omega)).trans x0
    have c1 : wr.cell? ⟨w.heap.size, 1, none⟩ = some (.int .i64 t) := (hbel.cell (by show w.heap.size < w1.heap.size; omega)).trans x1
    have c2 : wr.cell? ⟨w.heap.size, 2, none⟩ = some (.int .i64 l) := (hbel.cell (by show w.heap.size < w1.heap.size; omega)).trans x2
    clear hown hq
    obtain ⟨wo, rfl⟩ : ∃ wo, wo = wr := ⟨_, rfl⟩
    obtain ⟨ob, rfl⟩ : ∃ ob, ob = u8 := ⟨_, rfl⟩
    by_cases hlt : kk < G
    · have hk1 : (kk : Int) < (G : Int) := by omega
      have hkk0 : (0 : Int) ≤ (kk : Int) := by omega
      go_wp2_with (go_at_call 38; refine (HGR.out _).mono ?_; rintro e wg ⟨rfl, hbg⟩; have hzg := hbg.size; have hb1g : Below w1.heap.size w1 wg := hbel.trans (hbg.mono hzb); have HOG := hid (owns_below HO.out hbg (Nat.le_refl _)); have HRG := hid (HR1.out.keeps hb1g (Nat.le_refl _)); clear hbg)
      go_loopw [10, 11] (fun o i wr => ∃ ii : Nat, ii ≤ N ∧ i = .int .i64 ii ∧ wr.ownsRow wg.heap.size 109 2 o ii (pts (pcF ss ps kk) ii) ∧ Below wg.heap.size wg wr)
        (fun _ i _ => N - (intOf i).toNat)
      case atStart => exact ⟨0, Nat.zero_le _, rfl, World.ownsRow_nil _ _ _ _, Below.refl _ _⟩
      case round =>
        obtain ⟨ii, hii, rfl, hownl, hbl⟩ := hrel
        have hzl := hbl.size
        have HL := hid hownl
        clear hownl
        by_cases hil : ii < N
        · obtain ⟨b, o, rfl, hb, h1, h2⟩ := HRG.out ii (by rw [← HEN.out]; exact hil)
          have d1 : wr.cell? ⟨b, o + ii * 2, none⟩ = some (.int .i64 (ss.getD ii 0 : Nat)) := (hbl.cell (by exact hb)).trans h1
          have d2 : wr.cell? ⟨b, o + ii * 2 + 1, none⟩ = some (.string (ps.getD ii ByteArray.empty)) := (hbl.cell (by exact hb)).trans h2
          have hs8 := HSL.out ii hil
          have hpz := HLEN.out ii hil
          have HSN := hid (pts_snoc (pcF ss ps kk) ii)
          have e1 : (pcF ss ps kk ii).1 = UInt8.ofNat (1 + ss.getD ii 0) := rfl
          have e2 : (pcF ss ps kk ii).2 = (ps.getD ii ByteArray.empty).data.toList.getD kk 0 := rfl
          rw [e1, e2] at HSN
          clear h1 h2 e1 e2
          generalize ss.getD ii 0 = s at *
          generalize ps.getD ii ByteArray.empty = p at *
          generalize pts (pcF ss ps kk) ii = X at *
          obtain ⟨a, ha⟩ : ∃ a, a = UInt8.ofNat (1 + s) := ⟨_, rfl⟩
          have hai : (s : Int) + 1 = (a.toNat : Int) := by rw [ha, ← u8_int _ (by omega)]; omega
          have ha6 : (a.toNat : Int) ≤ 255 := by have := a.toNat_lt; omega
          have hkp : kk < p.size := by omega
          rw [← ha, ← byte_at p kk hkp] at HSN
          have hkp1 : (kk : Int) < (p.size : Int) := by omega
          have hi1 : (ii : Int) < (N : Int) := by omega
          have hi0 : (0 : Int) ≤ (ii : Int) := by omega
          have hbr : b < wr.heap.size := by omega
          have hw1 : IntKind.i64.wrap (a.toNat : Int) = (a.toNat : Int) := by rw [IntKind.wrap_i64]; omega
          have hw2 : IntKind.u8.wrap (a.toNat : Int) = (a.toNat : Int) := u8wrap _ a.toNat_lt
          have hnb : u10.ownBlock ≠ some b := fun hc => by
            have := (HL.out.lt b hc).1
            omega
          clear ha hs8 hpz
          go_wp2_with fail
          go_region_held3 (fun w' => w'.cell? ⟨b, o + ii * 2, none⟩ = some (.int .i64 (s : Nat)) ∧ w'.cell? ⟨b, o + ii * 2 + 1, none⟩ = some (.string p)) (first | exact ⟨r1, r2⟩ | exact ⟨((((Below.refl wr.heap.size wr).alloc (Nat.le_refl _) _).drew).cell (by exact hbr)).trans d1, ((((Below.refl wr.heap.size wr).alloc (Nat.le_refl _) _).drew).cell (by exact hbr)).trans d2⟩ | go_keep)
            ((refine step_append_lies _ (by rfl) _ _ _ (by rfl) wg.heap.size 109 iP _ 2 2 Tryd.underlying103 hiP hq0 hq1 hq2 rfl (by omega) u10 ii X (by rfl) ((HL.out.alloc _).drew) ⟨wr.heap.size, 0, none⟩ 1 1 [.int .u8 a.toNat, .int .u8 (p[kk]).toNat] (by rfl) (by rfl) (World.news_of_block (cs := #[.int .u8 a.toNat, .int .u8 (p[kk]).toNat]) (t := 109) (fr := (0, 0)) (heap_alloc_new wr _)) (by simp [Value.oneCell']) (by omega) (by unfold maxLen; omega) (by omega) (by simp; omega) (wr.heap.size + 1) (by simp) ?_; intro g4 cap4 w4 hown4 hgrow4 hat4 hlt4; have r1 : w4.cell? ⟨b, o + ii * 2, none⟩ = some (.int .i64 (s : Nat)) := (hgrow4.cell_far _ (by simp; omega) (Ne.symm hnb)).trans (((((Below.refl wr.heap.size wr).alloc (Nat.le_refl _) _).drew).cell (by exact hbr)).trans d1); have r2 : w4.cell? ⟨b, o + ii * 2 + 1, none⟩ = some (.string p) := (hgrow4.cell_far _ (by simp; omega) (Ne.symm hnb)).trans (((((Below.refl wr.heap.size wr).alloc (Nat.le_refl _) _).drew).cell (by exact hbr)).trans d2)))
          have hb4 : Below wg.heap.size wg w4 := (((hbl.alloc hzl _).drew).grown hgrow4 (by simp; omega) (fun b hb => (HL.out.lt b hb).1))
          have HO4 := hid hown4
          rw [← HSN.out] at HO4
          clear hown4 hgrow4 hat4 hlt4 r1 r2
          go_wp2
          go_roundw
          case rel => exact ⟨ii + 1, by omega, by go_num, HO4.out, hb4⟩
          case measure => simp [intOf]; omega
        · have hi1 : ¬ (ii : Int) < (N : Int) := by omega
          have hiN : ii = N := by omega
          rw [hiN] at HL
          have hXl : (ss.map fun s => UInt8.ofNat (1 + s)).length = N := by rw [List.length_map, HEN.out]
          obtain ⟨gl, cl, e1, hgl, hglz⟩ := HL.out.form hN1
          obtain ⟨a', c', e2, hpt⟩ := pts_right (xs := ss.map fun s => UInt8.ofNat (1 + s)) (ys := (ps.map fun p => p.data.toList).map fun r => r.getD kk 0) HL.out hN1 hXl (fun j hj => by
            have h1 : j < ss.length := by rw [← HEN.out]; exact hj
            have h2 : j < ps.length := by rw [HPL.out]; exact hj
            simp [pcF, h1, h2])
          rw [e1] at e2
          obtain rfl : some ⟨gl, 0, none⟩ = a' := by injection e2
          subst e1
          have HPT := hid hpt
          have HXL := hid hXl
          have OBL := hid (owns_below HOG.out hbl (Nat.le_refl _))
          have hblk : ∀ x, ob.ownBlock = some x → x ≠ gl := fun x hx => by have := (HOG.out.lt x hx).2; omega
          have HBLK := hid hblk
          have hb1l : Below w1.heap.size w1 wr := hb1g.trans (hbl.mono (by omega))
          have HFK := hid (fun j hj => HFA.out kk j hlt hj)
          generalize (ps.map fun p => p.data.toList).map (fun r => r.getD kk 0) = Y at *
          generalize (ss.map fun s => UInt8.ofNat (1 + s)) = X at *
          obtain ⟨R, hR⟩ : ∃ R, R = kk * gs := ⟨_, rfl⟩
          have HRR := hid hR
          rw [← hR] at HQ
          rw [← hR] at HFK
          have hRG : R + gs ≤ G * gs := by rw [hR]; have := Nat.mul_le_mul_right gs (show kk + 1 ≤ G from hlt); rw [Nat.succ_mul] at this; exact this
          clear hpt hXl e2 hiN hblk HL hR
          go_wp2_with fail
          go_loopw [8, 12] (fun b j wr => ∃ jj qq : Nat, jj ≤ gs ∧ j = .int .i64 jj ∧ qq = min (R + jj) size ∧ wr.ownsRow w1.heap.size 5 1 b qq (bs (F.take qq)) ∧ (∀ x, b.ownBlock = some x → x ≠ gl) ∧ PtRd wr (some ⟨gl, 0, none⟩) X Y ∧ Below w1.heap.size w1 wr ∧ gl < wr.heap.size)
            (fun _ j _ => gs - (intOf j).toNat)
          case atStart => exact ⟨0, q, Nat.zero_le _, rfl, HQ.out, OBL.out, HBLK.out, HPT.out, hb1l, hglz⟩
          case round =>
            clear hb1l hzl hbl OBL HBLK HPT hglz
            obtain ⟨jj, qq, hj, rfl, hqq, hownb, hblk, hpt, hb1l, hglz⟩ := hrel
            obtain ⟨aB, cB, rfl, hrB⟩ := owns_any_rd hownb
            have HB := hid hownb
            have HBLK := hid hblk
            have HPT := hid hpt
            have HQQ := hid hqq
            have hqq60 : qq ≤ 60 := by omega
            have c0 : wr.cell? ⟨w.heap.size, 0, none⟩ = some (.int .i64 mode) := (hb1l.cell (by show w.heap.size < w1.heap.size; omega)).trans x0
            have hz1l := hb1l.size
            clear hownb hblk hpt hrB hqq
            by_cases hgo : jj < gs ∧ qq < size
            · obtain ⟨hj1, hq1⟩ := hgo
              have hqR : qq = R + jj := by have := HQQ.out; omega
              have hqF : qq < F.length := by omega
              have HSN := hid (show bs (F.take (qq + 1)) = bs (F.take qq) ++ [.int .u8 ((F.getD qq 0).toNat : Int)] by rw [take_snoc F qq 0 hqF]; simp [bs])
              have hFv := HFK.out jj hj1
              rw [← hqR, HGA.out jj hj1] at hFv
              generalize bs (F.take qq) = Z at *
              generalize F.getD qq 0 = y at *
              have hj1i : (jj : Int) < (gs : Int) := by omega
              have hq1i : (qq : Int) < (size : Int) := by omega
              rcases HMD.out with ⟨hmm, hl1⟩ | ⟨hmm, hl1⟩
              · obtain ⟨a, ha⟩ : ∃ a, a = UInt8.ofNat (128 + jj) := ⟨_, rfl⟩
                have hai : (128 : Int) + (jj : Int) = (a.toNat : Int) := by rw [ha, ← u8_int _ (by omega)]; omega
                have ha6 : (a.toNat : Int) ≤ 255 := by have := a.toNat_lt; omega
                have HFV := hid (show y = Cof.itp X Y a by rw [hFv, ha, hmm]; rfl)
                have hmb : ((mode : Int) == 0) = true := by rw [hmm]; rfl
                clear ha hFv hqR hmm hl1
                go_wp2_with (first
                  | (go_at_call 55; refine (rat_any _ _ N X Y a _ HXL.out.symm HPT.out HXN.out (by omega)).mono ?_; rintro e wa ⟨rfl, hba⟩; have hza := hba.size; rw [← HFV.out]; have HBA := hid (owns_below HB.out hba (Nat.le_refl _)))
                  | (at_builtin; refine wpList_append_lies _ rfl (.tmp 70) (.tmp 72) 60 rfl w1.heap.size 5 iU (.int .u8 0) 1 1 Tryd.underlying60 hiU hu0 hu1 hu2 rfl (by decide) (.slice aB qq cB) _ Z rfl (HBA.out.alloc _) ⟨wa.heap.size, 0, none⟩ 1 1 [.int .u8 y.toNat] rfl rfl (World.news_of_block (cs := #[.int .u8 y.toNat]) (t := 5) (fr := (0, 0)) (heap_alloc_new wa _)) (by simp [Value.oneCell']) (by decide) (by unfold maxLen; omega) (by omega) (by simp <;> omega) (wa.heap.size + 1) (by simp) ?_; intro g5 c5 w5 hown5 hgrow5 hat5 _; have HO5 := hid hown5; have hzz5 := hgrow5.size; have hb5 : Below w1.heap.size w1 w5 := ((hb1l.trans (hba.mono hz1l)).alloc (by omega) _).grown hgrow5 (by simp <;> omega) (fun b hb => (HB.out.lt b hb).1); have HPT5 := hid ((HPT.out.below (hba.trans (((Below.refl wa.heap.size wa).alloc (Nat.le_refl _) (.cells #[.int .u8 y.toNat] 5)).mono hza)) (Nat.le_refl _)).of_block hzz5 (hgrow5.block gl (by simp <;> omega) (fun h => HBLK.out gl h.symm rfl))); have HBL5 := hid (show ∀ x, (Value.slice (some ⟨g5, 0, none⟩) (qq + 1) c5).ownBlock = some x → x ≠ gl from fun x hx => (by have hx' : g5 = x := Option.some.inj hx; rcases hat5 with h | h; (· exact HBLK.out x (by rw [h, hx'])); (· omega))); have hgl5 : gl < w5.heap.size := (by simp at hzz5; omega); rw [← HSN.out] at HO5; clear hown5 hgrow5 hat5))
                go_roundw
                case rel => exact ⟨jj + 1, qq + 1, by omega, by go_num, by have := HQQ.out; omega, HO5.out, HBL5.out, HPT5.out, hb5, hgl5⟩
                case measure => simp [intOf]; omega
              · obtain ⟨a, ha⟩ : ∃ a, a = UInt8.ofNat (1 + jj) := ⟨_, rfl⟩
                have hai : (jj : Int) + 1 = (a.toNat : Int) := by rw [ha, ← u8_int _ (by omega)]; omega
                have ha6 : (a.toNat : Int) ≤ 255 := by have := a.toNat_lt; omega
                have HFV := hid (show y = Cof.itp X Y a by rw [hFv, ha, hmm]; rfl)
                have hmb : ((mode : Int) == 0) = false := by rw [hmm]; rfl
                clear ha hFv hqR hmm hl1
                go_wp2_with (first
                  | (go_at_call 55; refine (rat_any _ _ N X Y a _ HXL.out.symm HPT.out HXN.out (by omega)).mono ?_; rintro e wa ⟨rfl, hba⟩; have hza := hba.size; rw [← HFV.out]; have HBA := hid (owns_below HB.out hba (Nat.le_refl _)))
                  | (at_builtin; refine wpList_append_lies _ rfl (.tmp 70) (.tmp 72) 60 rfl w1.heap.size 5 iU (.int .u8 0) 1 1 Tryd.underlying60 hiU hu0 hu1 hu2 rfl (by decide) (.slice aB qq cB) _ Z rfl (HBA.out.alloc _) ⟨wa.heap.size, 0, none⟩ 1 1 [.int .u8 y.toNat] rfl rfl (World.news_of_block (cs := #[.int .u8 y.toNat]) (t := 5) (fr := (0, 0)) (heap_alloc_new wa _)) (by simp [Value.oneCell']) (by decide) (by unfold maxLen; omega) (by omega) (by simp <;> omega) (wa.heap.size + 1) (by simp) ?_; intro g5 c5 w5 hown5 hgrow5 hat5 _; have HO5 := hid hown5; have hzz5 := hgrow5.size; have hb5 : Below w1.heap.size w1 w5 := ((hb1l.trans (hba.mono hz1l)).alloc (by omega) _).grown hgrow5 (by simp <;> omega) (fun b hb => (HB.out.lt b hb).1); have HPT5 := hid ((HPT.out.below (hba.trans (((Below.refl wa.heap.size wa).alloc (Nat.le_refl _) (.cells #[.int .u8 y.toNat] 5)).mono hza)) (Nat.le_refl _)).of_block hzz5 (hgrow5.block gl (by simp <;> omega) (fun h => HBLK.out gl h.symm rfl))); have HBL5 := hid (show ∀ x, (Value.slice (some ⟨g5, 0, none⟩) (qq + 1) c5).ownBlock = some x → x ≠ gl from fun x hx => (by have hx' : g5 = x := Option.some.inj hx; rcases hat5 with h | h; (· exact HBLK.out x (by rw [h, hx'])); (· omega))); have hgl5 : gl < w5.heap.size := (by simp at hzz5; omega); rw [← HSN.out] at HO5; clear hown5 hgrow5 hat5))
                go_roundw
                case rel => exact ⟨jj + 1, qq + 1, by omega, by go_num, by have := HQQ.out; omega, HO5.out, HBL5.out, HPT5.out, hb5, hgl5⟩
                case measure => simp [intOf]; omega
            · have hstop : qq = min ((kk + 1) * gs) size := by
                have h1 := HQQ.out
                have h2 := HRR.out
                rw [Nat.succ_mul, ← h2]
                omega
              have HST := hid hstop
              clear hstop
              by_cases hj1 : jj < gs
              · have hj1i : (jj : Int) < (gs : Int) := by omega
                have hq1i : ¬ (qq : Int) < (size : Int) := by omega
                clear hgo
                go_wp2
                go_roundw
                case rel => exact ⟨kk + 1, qq, by omega, by go_num, HST.out, HB.out, hb1l⟩
                case measure => simp [intOf]; omega
              · have hj1i : ¬ (jj : Int) < (gs : Int) := by omega
                clear hgo
                go_wp2
                go_roundw
                case rel => exact ⟨kk + 1, qq, by omega, by go_num, HST.out, HB.out, hb1l⟩
                case measure => simp [intOf]; omega
    · have hk1 : ¬ (kk : Int) < (G : Int) := by omega
      have hkG : kk = G := by omega
      have hqs : q = size := by have := HQ.out; rw [hkG] at this; omega
      rw [hqs] at HO
      obtain ⟨aB, cB, rfl, hrB⟩ := owns_any_rd HO.out
      obtain ⟨J, hJ⟩ : ∃ J, J = F.take size := ⟨_, rfl⟩
      have HFL := hid (show size = J.length by rw [hJ, List.length_take]; omega)
      rw [← hJ] at hrB
      have HRB := hid hrB
      have HJ := hid hJ
      obtain ⟨S, hS⟩ : ∃ S : ByteArray, S = ⟨J.toArray⟩ := ⟨_, rfl⟩
      have HSS := hid hS
      clear hkG hqs hrB hS HQ hJ HO
      go_wp2_with (go_at_call 38; refine (HGR.out _).mono ?_; rintro e wg ⟨rfl, hbg⟩; have hcv := conv_string wg aB cB size J HFL.out (HRB.out.below hbg (Nat.le_refl _)); rw [← HSS.out] at hcv)
      go_ret
      exact ⟨by show Ending.returned (.string S) = _; rw [HSS.out, HJ.out], (hb01.trans (hbel.mono (by omega))).trans (hbg.mono (by omega))⟩
end Go.Proofs.YtcegdgmbponapaaDoor
