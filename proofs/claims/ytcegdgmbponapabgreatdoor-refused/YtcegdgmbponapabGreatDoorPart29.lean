/-
  Held: an object lies at every store of a vault, its shards as they may be; a byte of a shard is changed, a store is put up or down.
  vault.piece of a shard that is not good.
  What is held is got back, from the stores that are up and whose shards are good.
-/
import Derived.Test.YtcegdgmbponapabGreatDoorPart27
import Derived.Test.YtcegdgmbponapabGreatDoorPart28
import Derived.Test.YtcegdgmbponapabGreatDoorPart16
import Derived.Test.YtcegdgmbponapabGreatDoorPart06
namespace Go.Proofs.YtcegdgmbponapabGreatDoor
open Go.RowKit
attribute [local go_sem ↓] Go.wp_at_zero Go.wp_at_succ

structure Held (w : World) (base V key n B bc : Nat) (sp : Nat → Nat) (down : Nat → Bool) (mode t l size epoch : Nat) (nm : ByteArray) (len : Nat) (X : Nat → List UInt8) (vs : Nat → Value) (xs : Nat → RecV) : Prop where
  vt : ∃ done ahead, Vt w V key n B bc sp done false ahead false
  st : ∀ i, i < n → Sto w (sp i) (down i) (vs i) [xs i]
  e : ∀ i, i < n → (xs i).name = nm ∧ (xs i).mode = mode ∧ (xs i).t = t ∧ (xs i).l = l ∧ (xs i).size = size ∧ (xs i).epoch = epoch
  sn : ∀ i, i < n → (xs i).sn = 10 + nm.size + len + 8
  own : ∀ i, i < n → w.ownsRow base 5 1 (.slice (xs i).sa (xs i).sn (xs i).sc) (xs i).sn (bs (X i))
  xi : ∀ i j, i < j → j < n → (xs i).blk ≠ (xs j).blk
  vi : ∀ i j, i < j → j < n → (vs i).ownBlock ≠ (vs j).ownBlock
  si : ∀ i j, i < j → j < n → sp i ≠ sp j

theorem One.held {w : World} {base V key n B bc : Nat} {sp : Nat → Nat} {down : Nat → Bool} {mode t l size epoch : Nat} {nm : ByteArray} {P : Nat → List UInt8} {vs : Nat → Value} {xs : Nat → RecV} (h : One w base V key n B bc sp down mode t l size epoch nm P vs xs) (len : Nat) (hP : ∀ i, i < n → (P i).length = len) :
    Held w base V key n B bc sp down mode t l size epoch nm len (fun i => Cof.sealed key (Cof.head mode t l n i epoch size nm.data.toList ++ P i)) vs xs :=
  ⟨h.vt, h.st, fun i hi => ⟨(h.ok i hi).e.1, (h.ok i hi).e.2.1, (h.ok i hi).e.2.2.1, (h.ok i hi).e.2.2.2.1, (h.ok i hi).e.2.2.2.2.1, (h.ok i hi).e.2.2.2.2.2.1⟩, fun i hi => by rw [(h.ok i hi).sn, hP i hi], fun i hi => (h.ok i hi).own, h.xi, h.vi, h.si⟩

theorem Held.keeps {own : Nat → Prop} {w w' : World} {base V key n B bc : Nat} {sp : Nat → Nat} {down : Nat → Bool} {mode t l size epoch : Nat} {nm : ByteArray} {len : Nat} {X : Nat → List UInt8} {vs : Nat → Value} {xs : Nat → RecV} (h : Held w base V key n B bc sp down mode t l size epoch nm len X vs xs) (hs : Spared own w w')
    (h1 : ¬ own V) (h2 : ¬ own B) (h3 : ∀ i, i < n → ¬ own (sp i)) (h4 : ∀ i, i < n → ∀ b, (vs i).ownBlock = some b → ¬ own b) (h5 : ∀ i, i < n → ∀ b, (xs i).blk = some b → ¬ own b) : Held w' base V key n B bc sp down mode t l size epoch nm len X vs xs := by
  obtain ⟨done, ahead, hvt⟩ := h.vt
  exact ⟨⟨done, ahead, hvt.keeps hs h1 h2⟩, fun i hi => (h.st i hi).keeps hs (h3 i hi) (h4 i hi), h.e, h.sn, fun i hi => owns_spared (h.own i hi) hs (h5 i hi), h.xi, h.vi, h.si⟩

theorem Held.below {w w' : World} {base V key n B bc : Nat} {sp : Nat → Nat} {down : Nat → Bool} {mode t l size epoch : Nat} {nm : ByteArray} {len : Nat} {X : Nat → List UInt8} {vs : Nat → Value} {xs : Nat → RecV} (h : Held w base V key n B bc sp down mode t l size epoch nm len X vs xs) (hb : Below w.heap.size w w') : Held w' base V key n B bc sp down mode t l size epoch nm len X vs xs :=
  h.keeps (Spared.ofBelow (own := fun _ => False) hb (Nat.le_refl _)) (fun h => h) (fun h => h) (fun _ _ h => h) (fun _ _ _ _ h => h) (fun _ _ _ _ h => h)

theorem Held.ne {w : World} {base V key n B bc : Nat} {sp : Nat → Nat} {down : Nat → Bool} {mode t l size epoch : Nat} {nm : ByteArray} {len : Nat} {X : Nat → List UInt8} {vs : Nat → Value} {xs : Nat → RecV} (h : Held w base V key n B bc sp down mode t l size epoch nm len X vs xs) (i : Nat) (hi : i < n) (j : Nat) (hj : j < n) (hij : j ≠ i) :
    sp j ≠ sp i ∧ (xs j).blk ≠ (xs i).blk ∧ (vs j).ownBlock ≠ (vs i).ownBlock := by
  rcases Nat.lt_or_gt_of_ne hij with h' | h'
  · exact ⟨h.si j i h' hi, h.xi j i h' hi, h.vi j i h' hi⟩
  · exact ⟨fun e => h.si i j h' hj e.symm, fun e => h.xi i j h' hj e.symm, fun e => h.vi i j h' hj e.symm⟩

theorem Held.bytes {w : World} {base V key n B bc : Nat} {sp : Nat → Nat} {down : Nat → Bool} {mode t l size epoch : Nat} {nm : ByteArray} {len : Nat} {X : Nat → List UInt8} {vs : Nat → Value} {xs : Nat → RecV} (h : Held w base V key n B bc sp down mode t l size epoch nm len X vs xs) (i : Nat) (hi : i < n) : (X i).length = 10 + nm.size + len + 8 := by
  have h1 := (h.own i hi).1
  rw [bs_length, h.sn i hi] at h1
  omega

set_option maxRecDepth 100000 in
set_option maxHeartbeats 1000000 in
theorem sspoil_yes (S : Nat) (down : Bool) (a : Option Addr) (c : Nat) (rs : List RecV) (r : RecV) (nm : ByteArray) (g p : Nat) (x d : UInt8) (w : World) (h : St w S down a c rs) (hyes : hasName rs nm = true) (hr : r = rs[posOf rs nm]!) (hsa : r.sa = some ⟨g, 0, none⟩) (_hsn : r.sn ≤ 1000) (hp : p < r.sn)
    (hc : w.cell? ⟨g, p, none⟩ = some (.int .u8 x.toNat)) (hf : w.frozen? ⟨g, p, none⟩ = false) (hg : g < w.heap.size) :
    Calls Tryz.prog 68 #[.pointer (some ⟨S, 0, none⟩), .string nm, .int .i64 p, .int .u8 d.toNat] w fun e w' => e = .returned .nilIface ∧ ∃ w1, Below w.heap.size w w1 ∧ Below w1.heap.size (w1.setCell ⟨g, p, none⟩ (.int .u8 (x ^^^ d).toNat)) w' := by
  have HREC := hid (record_yes S down a c rs r nm w h hyes hr)
  rw [hsa] at HREC
  have hp' : (p : Int) < (r.sn : Int) := by omega
  clear h hyes hr hsa
  go_enter Tryz.func68, Tryz.ntmps68
  go_wp2_with fail
  refine HREC.out.mono ?_
  rintro e w1 ⟨rfl, hb1⟩
  generalize r.sn = sn at *
  have hg1 : g < w1.heap.size := Nat.lt_of_lt_of_le hg hb1.size
  have hgn : g ≠ w1.heap.size := by omega
  have c1 : w1.cell? ⟨g, p, none⟩ = some (.int .u8 x.toNat) := ((bcell hb1).1 g p hg).trans hc
  have f1 : w1.frozen? ⟨g, p, none⟩ = false := ((bcell hb1).2 g p hg).trans hf
  have hpn : ¬ sn ≤ p := by omega
  have hp0 : decide ((p : Int) < 0) = false := by simp
  clear hc hf
  go_wp2_with fail
  go_ret
  rw [bits_xor]
  refine ⟨rfl, w1, hb1, ?_⟩
  have := (Below.refl w1.heap.size (w1.setCell ⟨g, p, none⟩ (.int .u8 (x ^^^ d).toNat))).alloc (by simp) (.cells #[.string r.name, .int .i64 r.mode, .int .i64 r.t, .int .i64 r.l, .int .i64 r.size, .int .i64 r.epoch, .slice (some ⟨g, 0, none⟩) sn r.sc, .slice r.na r.nn r.nc] 127)
  exact this

set_option maxRecDepth 100000 in
theorem vspoil_yes (V key n B bc : Nat) (sp : Nat → Nat) (i p : Nat) (d : UInt8) (nm : ByteArray) (w : World) (R : World → Prop) (h : Rdy w V key n B bc sp) (hi : i < n)
    (hs : Calls Tryz.prog 68 #[.pointer (some ⟨sp i, 0, none⟩), .string nm, .int .i64 p, .int .u8 d.toNat] w fun e w' => e = .returned .nilIface ∧ R w') :
    Calls Tryz.prog 42 #[.pointer (some ⟨V, 0, none⟩), .int .i64 i, .string nm, .int .i64 p, .int .u8 d.toNat] w fun e w' => e = .returned .nilIface ∧ R w' := by
  have HO := hid (openStore_yes V key n B bc sp i w h hi)
  have HS := hid hs
  clear h hs
  go_enter Tryz.func42, Tryz.ntmps42
  go_wp2_with (go_at_call 67; refine HO.out.mono ?_; rintro e w0 ⟨rfl, rfl⟩)
  refine HS.out.mono ?_
  rintro e w1 ⟨rfl, hr⟩
  have HR := hid hr
  clear hr
  go_wp2_with (go_at_call 53; refine (at_nil _ _).mono ?_; rintro e w3 ⟨rfl, rfl⟩)
  go_ret
  exact ⟨rfl, HR.out⟩

set_option maxRecDepth 100000 in
theorem cspoil_nil (C V i p : Nat) (d : UInt8) (nm : ByteArray) (w : World) (R : World → Prop) (h : Cf w C V)
    (hv : Calls Tryz.prog 42 #[.pointer (some ⟨V, 0, none⟩), .int .i64 i, .string nm, .int .i64 p, .int .u8 d.toNat] w fun e w' => e = .returned .nilIface ∧ R w') :
    Calls Tryz.prog 20 #[.pointer (some ⟨C, 0, none⟩), .int .i64 i, .string nm, .int .i64 p, .int .u8 d.toNat] w fun e w' => e = .returned (.int .i64 0) ∧ R w' := by
  have c0 : w.cell? ⟨C, 0, none⟩ = some (.pointer (some ⟨V, 0, none⟩)) := by rw [cells_at h]; rfl
  have HV := hid hv
  clear h hv
  go_enter Tryz.func20, Tryz.ntmps20
  go_wp2_with fail
  refine HV.out.mono ?_
  rintro e w1 ⟨rfl, hr⟩
  have HR := hid hr
  clear hr
  go_wp2_with (go_at_call 36; refine (number_nil _).mono ?_; rintro e w2 ⟨rfl, rfl⟩)
  go_ret
  exact ⟨rfl, HR.out⟩

set_option maxRecDepth 100000 in
theorem vup_yes (V key n B bc : Nat) (sp : Nat → Nat) (i : Nat) (up old : Bool) (w : World) (h : Rdy w V key n B bc sp) (hi : i < n) (hc : w.cell? ⟨sp i, 0, none⟩ = some (.bool old)) (hf : w.frozen? ⟨sp i, 0, none⟩ = false) :
    Calls Tryz.prog 41 #[.pointer (some ⟨V, 0, none⟩), .int .i64 i, .bool up] w fun e w' => e = .returned .nilIface ∧ w' = w.setCell ⟨sp i, 0, none⟩ (.bool (!up)) := by
  have HO := hid (store_yes V key n B bc sp i w h hi)
  have HS := hid (setUp_any (sp i) up old w hc hf)
  clear h hc hf
  go_enter Tryz.func41, Tryz.ntmps41
  go_wp2_with (go_at_call 65; refine HO.out.mono ?_; rintro e w0 ⟨rfl, rfl⟩)
  refine HS.out.mono ?_
  rintro e w1 ⟨rfl, rfl⟩
  go_wp2
  go_ret
  exact ⟨rfl, rfl⟩

set_option maxRecDepth 100000 in
theorem cup_nil (C V i : Nat) (up : Bool) (w : World) (R : World → Prop) (h : Cf w C V)
    (hv : Calls Tryz.prog 41 #[.pointer (some ⟨V, 0, none⟩), .int .i64 i, .bool up] w fun e w' => e = .returned .nilIface ∧ R w') :
    Calls Tryz.prog 19 #[.pointer (some ⟨C, 0, none⟩), .int .i64 i, .bool up] w fun e w' => e = .returned (.int .i64 0) ∧ R w' := by
  have c0 : w.cell? ⟨C, 0, none⟩ = some (.pointer (some ⟨V, 0, none⟩)) := by rw [cells_at h]; rfl
  have HV := hid hv
  clear h hv
  go_enter Tryz.func19, Tryz.ntmps19
  go_wp2_with fail
  refine HV.out.mono ?_
  rintro e w1 ⟨rfl, hr⟩
  have HR := hid hr
  clear hr
  go_wp2_with (go_at_call 36; refine (number_nil _).mono ?_; rintro e w2 ⟨rfl, rfl⟩)
  go_ret
  exact ⟨rfl, HR.out⟩

/-- A store of what is held is put up or down. -/
theorem Held.up {w : World} {base V key n B bc : Nat} {sp : Nat → Nat} {down : Nat → Bool} {mode t l size epoch : Nat} {nm : ByteArray} {len : Nat} {X : Nat → List UInt8} {vs : Nat → Value} {xs : Nat → RecV} (h : Held w base V key n B bc sp down mode t l size epoch nm len X vs xs) (C i : Nat) (up : Bool) (hc : Cf w C V) (h1 : 1 ≤ n) (h8 : n ≤ 8) (hi : i < n) :
    Calls Tryz.prog 19 #[.pointer (some ⟨C, 0, none⟩), .int .i64 i, .bool up] w fun e w' => e = .returned (.int .i64 0) ∧ Held w' base V key n B bc sp (fun j => if j = i then !up else down j) mode t l size epoch nm len X vs xs ∧ Spared (fun b => b = sp i) w w' := by
  obtain ⟨done, ahead, hvt⟩ := h.vt
  refine cup_nil C V i up w _ hc ((vup_yes V key n B bc sp i up (down i) w (hvt.rdy h1 h8) hi (by rw [cells_at (h.st i hi).hp]; rfl) (cells_fz (h.st i hi).hp)).mono ?_)
  rintro e w' ⟨rfl, rfl⟩
  have hsp : Spared (fun b => b = sp i) w (w.setCell ⟨sp i, 0, none⟩ (.bool (!up))) := (Spared.refl (fun b => b = sp i) w).setCell (own := fun b => b = sp i) (p := ⟨sp i, 0, none⟩) rfl _
  have hSi := (h.st i hi).hp
  obtain ⟨L, hL, hLi⟩ := hvt.hb
  have hV : ¬ V = sp i := fun e => by have := hvt.hp; rw [e, hSi] at this; cases this
  have hB : ¬ B = sp i := fun e => by rw [e, hSi] at hL; cases hL
  refine ⟨rfl, ⟨⟨done, ahead, hvt.keeps hsp hV hB⟩, fun j hj => ?_, h.e, h.sn, fun j hj => owns_spared (h.own j hj) hsp (fun b hb e => row_ne (h.own j hj) hSi (by decide) (e ▸ hb)), h.xi, h.vi, h.si⟩, hsp⟩
  by_cases hji : j = i
  · subst hji
    simp only [if_true]
    have hst := h.st j hj
    refine ⟨?_, owns_spared hst.row hsp (fun b hb e => hst.ne b hb e), hst.so, hst.le⟩
    rw [cells_set _ hst.hp]
    rfl
  · simp only [hji, if_false]
    exact (h.st j hj).keeps hsp (h.ne i hi j hj hji).1 (fun b hb e => row_ne (h.st j hj).row hSi (by decide) (e ▸ hb))

/-- A byte of a shard of what is held is changed. -/
theorem Held.spoil {w : World} {base V key n B bc : Nat} {sp : Nat → Nat} {down : Nat → Bool} {mode t l size epoch : Nat} {nm : ByteArray} {len : Nat} {X : Nat → List UInt8} {vs : Nat → Value} {xs : Nat → RecV} (h : Held w base V key n B bc sp down mode t l size epoch nm len X vs xs) (C i p : Nat) (d : UInt8) (hc : Cf w C V) (h1 : 1 ≤ n) (h8 : n ≤ 8) (hi : i < n) (hn : nm.size ≤ 12) (hl : len ≤ 60) (hp : p < 10 + nm.size + len + 8) :
    Calls Tryz.prog 20 #[.pointer (some ⟨C, 0, none⟩), .int .i64 i, .string nm, .int .i64 p, .int .u8 d.toNat] w fun e w' => e = .returned (.int .i64 0) ∧ Held w' base V key n B bc sp down mode t l size epoch nm len (fun j => if j = i then Cof.spoil (X i) p d else X j) vs xs ∧ Spared (fun b => (xs i).blk = some b) w w' := by
  obtain ⟨done, ahead, hvt⟩ := h.vt
  obtain ⟨a, c, _, hst⟩ := (h.st i hi).st
  have hsn := h.sn i hi
  have hown := h.own i hi
  have hXl := h.bytes i hi
  obtain ⟨g, cap, hv, hbase, hg⟩ := row_some hown (by omega)
  obtain ⟨hsa, _, hcap⟩ := (by simpa using hv : (xs i).sa = some ⟨g, 0, none⟩ ∧ True ∧ (xs i).sc = cap)
  have hblk : (xs i).blk = some g := by unfold RecV.blk; rw [hsa]; rfl
  have hcell : w.cell? ⟨g, p, none⟩ = some (.int .u8 ((X i).getD p 0).toNat) := by
    have h2 := hown
    rw [hsa] at h2
    rw [h2.cellAt p (by omega), bs_get _ _ (by omega)]
  have hfz : w.frozen? ⟨g, p, none⟩ = false := by
    have h2 := hown
    rw [hsa] at h2
    exact h2.frozenAt p
  refine cspoil_nil C V i p d nm w _ hc (vspoil_yes V key n B bc sp i p d nm w _ (hvt.rdy h1 h8) hi ((sspoil_yes (sp i) (down i) a c [xs i] (xs i) nm g p ((X i).getD p 0) d w hst (has_one (h.e i hi).1) (by rw [pos_one (h.e i hi).1]; rfl) hsa (by omega) (by omega) hcell hfz hg).mono ?_))
  rintro e w' ⟨rfl, w1, hb1, hb2⟩
  have hs1 : Spared (fun b => (xs i).blk = some b) w w1 := Spared.ofBelow hb1 (Nat.le_refl _)
  have hsp : Spared (fun b => (xs i).blk = some b) w w' := (hs1.setCell (own := fun b => (xs i).blk = some b) (p := ⟨g, p, none⟩) hblk _).trans (Spared.ofBelow hb2 (by simp))
  obtain ⟨L, hL, hLi⟩ := hvt.hb
  refine ⟨rfl, ⟨⟨done, ahead, hvt.keeps hsp (fun e => row_ne hown hvt.hp (by decide) e) (fun e => row_ne hown hL (by decide) e)⟩, fun j hj => (h.st j hj).keeps hsp (fun e => row_ne hown (h.st j hj).hp (by decide) e) (fun b hb e => rows_ne (h.st j hj).row hown (by decide) hb e), h.e, h.sn, fun j hj => ?_, h.xi, h.vi, h.si⟩, hsp⟩
  by_cases hji : j = i
  · subst hji
    simp only [if_true]
    have h2 := owns_below_size hown hb1 (Nat.le_refl _)
    rw [hsa] at h2 ⊢
    have h3 := (h2.stored p (.int .u8 ((X j).getD p 0 ^^^ d).toNat)).1
    rw [bs_set] at h3
    exact owns_below_size h3 hb2 (by simp)
  · simp only [hji, if_false]
    exact owns_spared (h.own j hj) hsp (fun b hb e => (h.ne i hi j hj hji).2.1 (by rw [e]; exact hb))

/-- The shard of store i of what is held. -/
theorem Held.shard {w : World} {base V key n B bc : Nat} {sp : Nat → Nat} {down : Nat → Bool} {mode t l size epoch : Nat} {nm : ByteArray} {len : Nat} {X : Nat → List UInt8} {vs : Nat → Value} {xs : Nat → RecV} (h : Held w base V key n B bc sp down mode t l size epoch nm len X vs xs) (C i : Nat) (hc : Cf w C V) (h1 : 1 ≤ n) (h8 : n ≤ 8) (hi : i < n) :
    Calls Tryz.prog 21 #[.pointer (some ⟨C, 0, none⟩), .int .i64 i, .string nm] w fun e w' => e = .returned (.tuple #[.string ⟨(X i).toArray⟩, .int .i64 0]) ∧ Below w.heap.size w w' := by
  obtain ⟨done, ahead, hvt⟩ := h.vt
  obtain ⟨a, c, _, hst⟩ := (h.st i hi).st
  have hsn := h.sn i hi
  refine cshard_of C V i (10 + nm.size + len + 8) nm _ w hc (h.bytes i hi).symm ?_
  refine (vshard_yes V key n B bc sp i (down i) a c [xs i] (xs i) nm w (hvt.rdy h1 h8) hi hst (has_one (h.e i hi).1) (by rw [pos_one (h.e i hi).1]; rfl)).mono ?_
  rintro e w' ⟨rfl, hb⟩
  obtain ⟨sa', sc', hsv, hrd⟩ := owns_rd_size (h.own i hi)
  refine ⟨(xs i).sa, (xs i).sc, by rw [hsn], ?_, hb⟩
  cases hsv
  exact hrd.below hb (Nat.le_refl _)
end Go.Proofs.YtcegdgmbponapabGreatDoor

namespace Go.Proofs.YtcegdgmbponapabGreatDoor
open Go.RowKit
attribute [local go_sem ↓] Go.wp_at_zero Go.wp_at_succ

/-- What the operations of 'the piece is taken out' find where the shard is not good. -/
def takeB (V n i b key mode t l size epoch : Nat) (sa : Option Addr) (sn sc : Nat) (nm : ByteArray) : Nat → Value → World → Prop
  | 0, v, _ => v = .pointer (some ⟨V, 0, none⟩)
  | 1, v, _ => v = .int .i64 i
  | 2, v, _ => v = .agg #[.string nm, .int .i64 mode, .int .i64 t, .int .i64 l, .int .i64 size, .int .i64 epoch]
  | 3, v, _ => v = .agg #[.string nm, .int .i64 mode, .int .i64 t, .int .i64 l, .int .i64 size, .int .i64 epoch, .int .i64 n, .int .i64 i]
  | 4, v, _ => v = .pointer (some ⟨b, 6, none⟩)
  | 5, v, _ => v = .slice sa sn sc
  | 6, v, _ => v = .pointer (some ⟨V, 0, none⟩)
  | 7, v, _ => v = .pointer (some ⟨V, 0, none⟩)
  | 8, v, _ => v = .pointer (some ⟨V, 0, none⟩)
  | 9, v, _ => v = .int .u64 key
  | 10, v, w => ∃ ev, v = .tuple #[.slice none 0 0, ev] ∧ Chain w 12 1 ev
  | 11, v, w => ∃ ev, v = .tuple #[.slice none 0 0, ev] ∧ Chain w 12 1 ev
  | 12, v, _ => v = .slice none 0 0
  | 13, v, w => Chain w 12 1 v
  | 14, v, _ => v = .slice none 0 0
  | 15, v, w => Chain w 12 1 v
  | _, _, _ => True

theorem takeB_keeps {V n i b key mode t l size epoch : Nat} {sa : Option Addr} {sn sc : Nat} {nm : ByteArray} (j : Nat) (v : Value) (w w' : World) (h : takeB V n i b key mode t l size epoch sa sn sc nm j v w) (hb : Below w.heap.size w w') : takeB V n i b key mode t l size epoch sa sn sc nm j v w' := by
  unfold takeB at h ⊢
  split at h
  · exact h
  · exact h
  · exact h
  · exact h
  · exact h
  · exact h
  · exact h
  · exact h
  · exact h
  · exact h
  · exact h.imp fun ev h => ⟨h.1, h.2.keeps hb (Nat.le_refl _)⟩
  · exact h.imp fun ev h => ⟨h.1, h.2.keeps hb (Nat.le_refl _)⟩
  · exact h
  · exact h.keeps hb (Nat.le_refl _)
  · exact h
  · exact h.keeps hb (Nat.le_refl _)
  · trivial

set_option maxRecDepth 100000 in
set_option maxHeartbeats 1000000 in
theorem vpiece_bad (V key n B bc : Nat) (sp : Nat → Nat) (i : Nat) (down : Bool) (a : Option Addr) (c : Nat) (rs : List RecV) (r : RecV) (mode t l size epoch : Nat) (nm : ByteArray) (w : World) (h : Rdy w V key n B bc sp) (hi : i < n) (hs : St w (sp i) down a c rs) (hyes : hasName rs nm = true) (hr : r = rs[posOf rs nm]!)
    (len : Nat) (hlen : len = Cof.ngroups mode t l size) (X : List UInt8) (hp : IsPlan mode t l n) (he : epoch ≤ 100) (hz : size ≤ 60) (hn1 : 1 ≤ nm.size) (hnm : nm.size ≤ 12) (hk : key < 18446744073709551616) (hl : len ≤ 60) (hX : Rd w r.sa (bs X)) (hsn : r.sn = X.length) (hsc : r.sn ≤ r.sc) (hXl : X.length = 10 + nm.size + len + 8) (hbad : ¬ ∃ P, Cof.Good key (Cof.head mode t l n i epoch size nm.data.toList) len X P) (hT : Tab w) :
    Calls Tryz.prog 94 #[.pointer (some ⟨V, 0, none⟩), .int .i64 i, .agg #[.string nm, .int .i64 mode, .int .i64 t, .int .i64 l, .int .i64 size, .int .i64 epoch]] w fun e w' =>
      ∃ ev, e = .returned (.tuple #[.slice none 0 0, ev]) ∧ Chain w' 12 2 ev ∧ Below w.heap.size w w' := by
  obtain ⟨xb, xo, hsa, _, _⟩ := hX.pos (by rw [bs_length]; omega)
  rw [hsa] at hX
  have HPC := hid (fun w' hx => piece_same mode t l n i epoch size key len hlen nm xb xo r.sn r.sc X w' hp hi he hz hn1 hnm hk hl hsn hsc (by omega) hx)
  have HX := hid hX
  have HG := hid hbad
  have HT := hid hT
  have HSA := hid hsa
  have hi8 := hi
  have hba := (Below.refl w.heap.size w).alloc (Nat.le_refl _) (.cells #[.string nm, .int .i64 mode, .int .i64 t, .int .i64 l, .int .i64 size, .int .i64 epoch] 65)
  have hR := h.keeps hba (Nat.le_refl _)
  have HR := hid hR
  have HS := hid (hs.keeps hba (Nat.le_refl _))
  have HYES := hid (And.intro hyes hr)
  have hi' : (i : Int) < (n : Int) := by omega
  have HI := hid (show I64 (i : Int) by have := h.n8; unfold I64; omega)
  clear h hs hyes hr hp he hz hk hX hsn hsc hbad hT hlen hXl
  go_enter Tryz.func94, Tryz.ntmps94
  go_wp2_with fail
  obtain ⟨w1, hw1⟩ : ∃ w1, w1 = w.alloc (.cells #[.string nm, .int .i64 mode, .int .i64 t, .int .i64 l, .int .i64 size, .int .i64 epoch] 65) := ⟨_, rfl⟩
  have HOBJ := hid (show w1.heap[w.heap.size]? = some (.cells #[.string nm, .int .i64 mode, .int .i64 t, .int .i64 l, .int .i64 size, .int .i64 epoch] 65) by rw [hw1]; exact alloc_at _ _)
  have o0 : w1.cell? ⟨w.heap.size, 0, none⟩ = some (.string nm) := by rw [hw1]; simp
  have lO : w.heap.size < w1.heap.size := by rw [hw1]; simp
  rw [← hw1] at hR HR HS hba ⊢
  clear hw1
  have c1 := hR.va.c1
  have k0 := hR.st i hi
  have lV := hR.va.lt
  have lB := hR.va.bl
  clear hR
  have HFX : ∀ a : Act, (∀ x ∈ [((0 : Nat), Value.pointer (some ⟨V, 0, none⟩)), (1, .int .i64 i), (5, .pointer (some ⟨w.heap.size, 0, none⟩))], a.tmps.getD x.1 undef = x.2) → a.tmps[0]?.getD undef = .pointer (some ⟨V, 0, none⟩) ∧ a.tmps[1]?.getD undef = .int .i64 i ∧ a.tmps[5]?.getD undef = .pointer (some ⟨w.heap.size, 0, none⟩) := by
    intro a h
    simpa using h
  have HCELL : ∀ w' : World, Below w1.heap.size { w1 with drawn := w1.drawn + 1 } w' → w'.cell? ⟨V, 1, none⟩ = some (.slice (some ⟨B, 0, none⟩) n bc) ∧ w'.cell? ⟨B, i, none⟩ = some (.pointer (some ⟨sp i, 0, none⟩)) ∧ w'.cell? ⟨w.heap.size, 0, none⟩ = some (.string nm) := by
    intro w' hb
    exact ⟨(hb.cell lV).trans c1, (hb.cell lB).trans k0, (hb.cell lO).trans o0⟩
  clear c1 k0 o0
  refine wp_region_mem (by kernel_rfl) pieceSlot (askR V B bc n i (sp i) w.heap.size nm r) [(0, .pointer (some ⟨V, 0, none⟩)), (1, .int .i64 i), (5, .pointer (some ⟨w.heap.size, 0, none⟩))] 47 13 14 [0, 1, 5] 127 #[.string r.name, .int .i64 r.mode, .int .i64 r.t, .int .i64 r.l, .int .i64 r.size, .int .i64 r.epoch, .slice r.sa r.sn r.sc, .slice r.na r.nn r.nc] #[.string ByteArray.empty, .int .i64 0, .int .i64 0, .int .i64 0, .int .i64 0, .int .i64 0, .slice none 0 0, .slice none 0 0] (.tmp 8) (.tmp 22) (by kernel_rfl) rfl ⟨_, rfl, fun a w => by go_simp <;> rfl⟩ rfl ⟨_, rfl, rfl, fun a => rfl, fun a w h => ?_⟩ Tryz.cellsRec (by simp [Value.oneCell']) rfl rfl ?_ (fun j v w w' h _ => askR_any h) (fun j v w' b c _ h _ => askR_any h) ?_ ?_
  · have h11 := h ⟨11, .data⟩ (by simp) rfl (by decide) (by decide)
    simp [askR, pieceSlot] at h11
    simp [Act.eval]
    exact h11
  · simp
  · refine ⟨?_, ?_, ?_, ?_, ?_, ?_, ?_, ?_, ?_, ?_, ?_, ?_, ?_, ?_, ?_, ?_, trivial⟩
    · refine .inr (.inr fun a w' hb hf hd => ?_)
      obtain ⟨f0, f1, f5⟩ := HFX a hf
      obtain ⟨c1, k0, o0⟩ := HCELL w' hb
      simp [askR, pieceSlot, Region.binds] at hd
      exact .inl ⟨.pointer (some ⟨V, 0, none⟩), w', by go_simp, Below.refl _ _, rfl⟩
    · refine .inr (.inr fun a w' hb hf hd => ?_)
      obtain ⟨f0, f1, f5⟩ := HFX a hf
      obtain ⟨c1, k0, o0⟩ := HCELL w' hb
      simp [askR, pieceSlot, Region.binds] at hd
      exact .inl ⟨.pointer (some ⟨V, 0, none⟩), w', by go_simp, Below.refl _ _, rfl⟩
    · refine .inr (.inr fun a w' hb hf hd => ?_)
      obtain ⟨f0, f1, f5⟩ := HFX a hf
      obtain ⟨c1, k0, o0⟩ := HCELL w' hb
      simp [askR, pieceSlot, Region.binds] at hd
      exact .inl ⟨.pointer (some ⟨V, 1, none⟩), w', by go_simp, Below.refl _ _, rfl⟩
    · refine .inr (.inr fun a w' hb hf hd => ?_)
      obtain ⟨f0, f1, f5⟩ := HFX a hf
      obtain ⟨c1, k0, o0⟩ := HCELL w' hb
      simp [askR, pieceSlot, Region.binds] at hd
      exact .inl ⟨.slice (some ⟨B, 0, none⟩) n bc, w', by go_simp, Below.refl _ _, rfl⟩
    · refine .inr (.inr fun a w' hb hf hd => ?_)
      obtain ⟨f0, f1, f5⟩ := HFX a hf
      obtain ⟨c1, k0, o0⟩ := HCELL w' hb
      simp [askR, pieceSlot, Region.binds] at hd
      exact .inl ⟨.int .i64 i, w', by go_simp, Below.refl _ _, rfl⟩
    · refine .inr (.inr fun a w' hb hf hd => ?_)
      obtain ⟨f0, f1, f5⟩ := HFX a hf
      obtain ⟨c1, k0, o0⟩ := HCELL w' hb
      simp [askR, pieceSlot, Region.binds] at hd
      exact .inl ⟨.pointer (some ⟨B, i, none⟩), w', by go_simp, Below.refl _ _, rfl⟩
    · refine .inr (.inr fun a w' hb hf hd => ?_)
      obtain ⟨f0, f1, f5⟩ := HFX a hf
      obtain ⟨c1, k0, o0⟩ := HCELL w' hb
      simp [askR, pieceSlot, Region.binds] at hd
      exact .inl ⟨.pointer (some ⟨sp i, 0, none⟩), w', by go_simp, Below.refl _ _, rfl⟩
    · refine .inr (.inr fun a w' hb hf hd => ?_)
      obtain ⟨f0, f1, f5⟩ := HFX a hf
      obtain ⟨c1, k0, o0⟩ := HCELL w' hb
      simp [askR, pieceSlot, Region.binds] at hd
      exact .inl ⟨.pointer (some ⟨w.heap.size, 0, none⟩), w', by go_simp, Below.refl _ _, rfl⟩
    · refine .inr (.inr fun a w' hb hf hd => ?_)
      obtain ⟨f0, f1, f5⟩ := HFX a hf
      obtain ⟨c1, k0, o0⟩ := HCELL w' hb
      simp [askR, pieceSlot, Region.binds] at hd
      exact .inl ⟨.string nm, w', by go_simp, Below.refl _ _, rfl⟩
    · refine .inr (.inr fun a w' hb hf hd => ?_)
      obtain ⟨f0, f1, f5⟩ := HFX a hf
      obtain ⟨c1, k0, o0⟩ := HCELL w' hb
      simp [askR, pieceSlot, Region.binds] at hd
      refine .inr ⟨69, #[.pointer (some ⟨sp i, 0, none⟩), .string nm], by go_simp, (record_yes (sp i) down _ c rs r nm w' (HS.out.keeps ((Below.refl w1.heap.size w1).drew.trans hb) (Nat.le_refl _)) HYES.out.1 HYES.out.2).mono ?_⟩
      rintro e w'' ⟨rfl, hb2⟩
      exact ⟨_, rfl, hb2, rfl⟩
    · refine .inr (.inr fun a w' hb hf hd => ?_)
      obtain ⟨f0, f1, f5⟩ := HFX a hf
      obtain ⟨c1, k0, o0⟩ := HCELL w' hb
      simp [askR, pieceSlot, Region.binds] at hd
      exact .inl ⟨.tuple #[.agg #[.string r.name, .int .i64 r.mode, .int .i64 r.t, .int .i64 r.l, .int .i64 r.size, .int .i64 r.epoch, .slice r.sa r.sn r.sc, .slice r.na r.nn r.nc], .nilIface], w', by go_simp, Below.refl _ _, rfl⟩
    · refine .inr (.inr fun a w' hb hf hd => ?_)
      obtain ⟨f0, f1, f5⟩ := HFX a hf
      obtain ⟨c1, k0, o0⟩ := HCELL w' hb
      simp [askR, pieceSlot, Region.binds] at hd
      exact .inl ⟨.agg #[.string r.name, .int .i64 r.mode, .int .i64 r.t, .int .i64 r.l, .int .i64 r.size, .int .i64 r.epoch, .slice r.sa r.sn r.sc, .slice r.na r.nn r.nc], w', by go_simp, Below.refl _ _, rfl⟩
    · refine .inr (.inr fun a w' hb hf hd => ?_)
      obtain ⟨f0, f1, f5⟩ := HFX a hf
      obtain ⟨c1, k0, o0⟩ := HCELL w' hb
      simp [askR, pieceSlot, Region.binds] at hd
      exact .inl ⟨.nilIface, w', by go_simp, Below.refl _ _, rfl⟩
    · exact .inl rfl
    · exact .inr (.inl rfl)
    · refine .inr (.inr fun a w' hb hf hd => ?_)
      obtain ⟨f0, f1, f5⟩ := HFX a hf
      obtain ⟨c1, k0, o0⟩ := HCELL w' hb
      simp [askR, pieceSlot, Region.binds] at hd
      exact .inl ⟨.nilIface, w', by go_simp, Below.refl _ _, rfl⟩
  · intro a1 w2 b hdf hsz hb hf hr hb1 hb2 hb3
    obtain ⟨tm, df⟩ := a1
    simp only at hdf hsz hf hr hb1
    subst hdf
    obtain ⟨u0, u1, u2, u3, u4, u5, u6, u7, u8, u9, u10, u11, u12, u13, u14, u15, u16, u17, u18, u19, u20, u21, u22, u23, u24, u25, u26, u27, u28, u29, u30, u31, u32, u33, u34, u35, u36, u37, u38, u39, u40, u41, u42, u43, u44, u45, u46, rfl⟩ := arr47 tm hsz
    have r15 := hr 15 (by decide) (by decide) (by decide)
    simp [askR, pieceSlot] at r15 hb1 hf
    obtain ⟨rfl, rfl, rfl⟩ := hf
    subst r15 hb1
    clear hr hsz
    go_wp2_with fail
    have hb12 : Below w1.heap.size w1 w2 := (Below.refl w1.heap.size w1).drew.trans hb
    have hRd := HR.out.keeps hb12 (Nat.le_refl _)
    have c0 := hRd.va.c0
    have HRD := hid hRd
    have lV2 := hRd.va.lt
    have hbW : Below w.heap.size w w2 := hba.trans (hb12.mono (by omega))
    have HOB2 := hid (show w2.heap[w.heap.size]? = _ from (hb12.block _ lO).trans HOBJ.out)
    have lb := cells_lt hb3
    have HFX2 : ∀ a : Act, (∀ x ∈ [((0 : Nat), Value.pointer (some ⟨V, 0, none⟩)), (1, .int .i64 i), (5, .pointer (some ⟨w.heap.size, 0, none⟩)), (8, .pointer (some ⟨b, 0, none⟩))], a.tmps.getD x.1 undef = x.2) → a.tmps[0]?.getD undef = .pointer (some ⟨V, 0, none⟩) ∧ a.tmps[1]?.getD undef = .int .i64 i ∧ a.tmps[5]?.getD undef = .pointer (some ⟨w.heap.size, 0, none⟩) ∧ a.tmps[8]?.getD undef = .pointer (some ⟨b, 0, none⟩) := by
      intro a h
      simpa using h
    have HCELL2 : ∀ w' : World, Below w2.heap.size { w2 with drawn := w2.drawn + 1 } w' → w'.cell? ⟨V, 0, none⟩ = some (.int .u64 key) ∧ w'.cell? ⟨b, 6, none⟩ = some (.slice r.sa r.sn r.sc) ∧ w'.cell? ⟨w.heap.size, 0, none⟩ = some (.string nm) ∧ w'.cell? ⟨w.heap.size, 1, none⟩ = some (.int .i64 mode) ∧ w'.cell? ⟨w.heap.size, 2, none⟩ = some (.int .i64 t) ∧ w'.cell? ⟨w.heap.size, 3, none⟩ = some (.int .i64 l) ∧ w'.cell? ⟨w.heap.size, 4, none⟩ = some (.int .i64 size) ∧ w'.cell? ⟨w.heap.size, 5, none⟩ = some (.int .i64 epoch) := by
      intro w' hb'
      have lO2 : w.heap.size < w2.heap.size := cells_lt HOB2.out
      have e : ∀ o, w'.cell? ⟨w.heap.size, o, none⟩ = w2.cell? ⟨w.heap.size, o, none⟩ := fun o => hb'.cell lO2
      exact ⟨(hb'.cell lV2).trans c0, (hb'.cell lb).trans (show w2.cell? ⟨b, 6, none⟩ = _ by rw [cells_at hb3]; rfl), by rw [e, cells_at HOB2.out]; rfl, by rw [e, cells_at HOB2.out]; rfl, by rw [e, cells_at HOB2.out]; rfl, by rw [e, cells_at HOB2.out]; rfl, by rw [e, cells_at HOB2.out]; rfl, by rw [e, cells_at HOB2.out]; rfl⟩
    clear hRd c0 hb3
    refine wp_region_each2 (by kernel_rfl) takeSlot (takeB V n i b key mode t l size epoch r.sa r.sn r.sc nm) [(0, .pointer (some ⟨V, 0, none⟩)), (1, .int .i64 i), (5, .pointer (some ⟨w.heap.size, 0, none⟩)), (8, .pointer (some ⟨b, 0, none⟩))] 47 [0, 1, 5, 8] (by kernel_rfl) rfl rfl rfl ?_ takeB_keeps ?_ ?_
    · simp
    · refine ⟨?_, ?_, ?_, ?_, ?_, ?_, ?_, ?_, ?_, ?_, ?_, ?_, ?_, ?_, ?_, ?_, trivial⟩
      · intro a w' hb' hf hd
        obtain ⟨f0, f1, f5, f8⟩ := HFX2 a hf
        obtain ⟨q0, q1, k0, k1, k2, k3, k4, k5⟩ := HCELL2 w' hb'
        simp [takeB, takeSlot, Region.binds] at hd
        exact .inl ⟨.pointer (some ⟨V, 0, none⟩), w', by go_simp, Below.refl _ _, rfl⟩
      · intro a w' hb' hf hd
        obtain ⟨f0, f1, f5, f8⟩ := HFX2 a hf
        obtain ⟨q0, q1, k0, k1, k2, k3, k4, k5⟩ := HCELL2 w' hb'
        simp [takeB, takeSlot, Region.binds] at hd
        exact .inl ⟨.int .i64 i, w', by go_simp, Below.refl _ _, rfl⟩
      · intro a w' hb' hf hd
        obtain ⟨f0, f1, f5, f8⟩ := HFX2 a hf
        obtain ⟨q0, q1, k0, k1, k2, k3, k4, k5⟩ := HCELL2 w' hb'
        simp [takeB, takeSlot, Region.binds] at hd
        exact .inl ⟨.agg #[.string nm, .int .i64 mode, .int .i64 t, .int .i64 l, .int .i64 size, .int .i64 epoch], w', by go_simp, Below.refl _ _, rfl⟩
      · intro a w' hb' hf hd
        obtain ⟨f0, f1, f5, f8⟩ := HFX2 a hf
        obtain ⟨q0, q1, k0, k1, k2, k3, k4, k5⟩ := HCELL2 w' hb'
        simp [takeB, takeSlot, Region.binds] at hd
        refine .inr ⟨91, #[.pointer (some ⟨V, 0, none⟩), .int .i64 i, .agg #[.string nm, .int .i64 mode, .int .i64 t, .int .i64 l, .int .i64 size, .int .i64 epoch]], by go_simp, (label_any V key n B 0 bc sp i mode t l size epoch nm w' (HRD.out.va.keeps ((Below.refl w2.heap.size w2).drew.trans hb') (Nat.le_refl _))).mono ?_⟩
        rintro e w'' ⟨rfl, hb2'⟩
        exact ⟨_, rfl, hb2', rfl⟩
      · intro a w' hb' hf hd
        obtain ⟨f0, f1, f5, f8⟩ := HFX2 a hf
        obtain ⟨q0, q1, k0, k1, k2, k3, k4, k5⟩ := HCELL2 w' hb'
        simp [takeB, takeSlot, Region.binds] at hd
        exact .inl ⟨.pointer (some ⟨b, 6, none⟩), w', by go_simp, Below.refl _ _, rfl⟩
      · intro a w' hb' hf hd
        obtain ⟨f0, f1, f5, f8⟩ := HFX2 a hf
        obtain ⟨q0, q1, k0, k1, k2, k3, k4, k5⟩ := HCELL2 w' hb'
        simp [takeB, takeSlot, Region.binds] at hd
        exact .inl ⟨.slice r.sa r.sn r.sc, w', by go_simp, Below.refl _ _, rfl⟩
      · intro a w' hb' hf hd
        obtain ⟨f0, f1, f5, f8⟩ := HFX2 a hf
        obtain ⟨q0, q1, k0, k1, k2, k3, k4, k5⟩ := HCELL2 w' hb'
        simp [takeB, takeSlot, Region.binds] at hd
        exact .inl ⟨.pointer (some ⟨V, 0, none⟩), w', by go_simp, Below.refl _ _, rfl⟩
      · intro a w' hb' hf hd
        obtain ⟨f0, f1, f5, f8⟩ := HFX2 a hf
        obtain ⟨q0, q1, k0, k1, k2, k3, k4, k5⟩ := HCELL2 w' hb'
        simp [takeB, takeSlot, Region.binds] at hd
        exact .inl ⟨.pointer (some ⟨V, 0, none⟩), w', by go_simp, Below.refl _ _, rfl⟩
      · intro a w' hb' hf hd
        obtain ⟨f0, f1, f5, f8⟩ := HFX2 a hf
        obtain ⟨q0, q1, k0, k1, k2, k3, k4, k5⟩ := HCELL2 w' hb'
        simp [takeB, takeSlot, Region.binds] at hd
        exact .inl ⟨.pointer (some ⟨V, 0, none⟩), w', by go_simp, Below.refl _ _, rfl⟩
      · intro a w' hb' hf hd
        obtain ⟨f0, f1, f5, f8⟩ := HFX2 a hf
        obtain ⟨q0, q1, k0, k1, k2, k3, k4, k5⟩ := HCELL2 w' hb'
        simp [takeB, takeSlot, Region.binds] at hd
        exact .inl ⟨.int .u64 key, w', by go_simp, Below.refl _ _, rfl⟩
      · intro a w' hb' hf hd
        obtain ⟨f0, f1, f5, f8⟩ := HFX2 a hf
        obtain ⟨q0, q1, k0, k1, k2, k3, k4, k5⟩ := HCELL2 w' hb'
        simp [takeB, takeSlot, Region.binds] at hd
        refine .inr ⟨133, #[.agg #[.string nm, .int .i64 mode, .int .i64 t, .int .i64 l, .int .i64 size, .int .i64 epoch, .int .i64 n, .int .i64 i], .slice r.sa r.sn r.sc, .int .u64 key], by go_simp, ?_⟩
        rw [HSA.out]
        refine (HPC.out w' (HX.out.below (hbW.trans (((Below.refl w2.heap.size w2).drew.trans hb').mono hbW.size)) (Nat.le_refl _))).mono ?_
        rintro e w'' ⟨_, hg, hb2'⟩
        obtain ⟨ev, rfl, hch⟩ := hg HG.out
        exact ⟨_, rfl, hb2', ev, rfl, hch⟩
      · intro a w' hb' hf hd
        obtain ⟨f0, f1, f5, f8⟩ := HFX2 a hf
        obtain ⟨q0, q1, k0, k1, k2, k3, k4, k5⟩ := HCELL2 w' hb'
        simp [takeB, takeSlot, Region.binds] at hd
        obtain ⟨ev, h10, hch⟩ := hd
        exact .inl ⟨.tuple #[.slice none 0 0, ev], w', by go_simp, Below.refl _ _, ev, rfl, hch⟩
      · intro a w' hb' hf hd
        obtain ⟨f0, f1, f5, f8⟩ := HFX2 a hf
        obtain ⟨q0, q1, k0, k1, k2, k3, k4, k5⟩ := HCELL2 w' hb'
        simp [takeB, takeSlot, Region.binds] at hd
        obtain ⟨ev, h11, hch⟩ := hd
        exact .inl ⟨.slice none 0 0, w', by go_simp, Below.refl _ _, rfl⟩
      · intro a w' hb' hf hd
        obtain ⟨f0, f1, f5, f8⟩ := HFX2 a hf
        obtain ⟨q0, q1, k0, k1, k2, k3, k4, k5⟩ := HCELL2 w' hb'
        simp [takeB, takeSlot, Region.binds] at hd
        obtain ⟨ev, h11, hch⟩ := hd
        exact .inl ⟨ev, w', by go_simp, Below.refl _ _, hch⟩
      · intro a w' hb' hf hd
        obtain ⟨f0, f1, f5, f8⟩ := HFX2 a hf
        obtain ⟨q0, q1, k0, k1, k2, k3, k4, k5⟩ := HCELL2 w' hb'
        simp [takeB, takeSlot, Region.binds] at hd
        exact .inl ⟨.slice none 0 0, w', by go_simp, Below.refl _ _, rfl⟩
      · intro a w' hb' hf hd
        obtain ⟨f0, f1, f5, f8⟩ := HFX2 a hf
        obtain ⟨q0, q1, k0, k1, k2, k3, k4, k5⟩ := HCELL2 w' hb'
        simp [takeB, takeSlot, Region.binds] at hd
        exact .inl ⟨a.tmps[42]?.getD undef, w', by go_simp, Below.refl _ _, hd.1⟩
    · intro a2 w3 hdf hsz hb' hf hr
      obtain ⟨tm2, df2⟩ := a2
      simp only at hdf hsz hf hr
      subst hdf
      obtain ⟨x0, x1, x2, x3, x4, x5, x6, x7, x8, x9, x10, x11, x12, x13, x14, x15, x16, x17, x18, x19, x20, x21, x22, x23, x24, x25, x26, x27, x28, x29, x30, x31, x32, x33, x34, x35, x36, x37, x38, x39, x40, x41, x42, x43, x44, x45, x46, rfl⟩ := arr47 tm2 hsz
      have r14 := hr 14 (by decide)
      have r15 := hr 15 (by decide)
      simp [takeB, takeSlot] at r14 r15 hf
      obtain ⟨rfl, rfl, rfl, rfl⟩ := hf
      subst r14
      obtain ⟨te, ve, rfl⟩ := r15.shape
      have H15 := hid r15
      have hb23 : Below w2.heap.size w2 w3 := (Below.refl w2.heap.size w2).drew.trans hb'
      have hbW3 := hbW.trans (hb23.mono hbW.size)
      have HT3 := hid (HT.out.keeps hbW3 (Nat.le_refl _))
      clear hr hsz r15 HFX HFX2 HCELL HCELL2
      go_wp2_with (go_at_call 79; refine (atStore_any _ _ 12 1 _ HI.out HT3.out H15.out).mono ?_; rintro e w4 ⟨e4, rfl, hc4, hb4⟩; (have H4 := hid hc4); clear hc4)
      go_ret2
      exact ⟨_, rfl, H4.out, hbW3.trans (hb4.mono hbW3.size)⟩
end Go.Proofs.YtcegdgmbponapabGreatDoor

namespace Go.Proofs.YtcegdgmbponapabGreatDoor
open Go.RowKit
attribute [local go_sem ↓] Go.wp_at_zero Go.wp_at_succ

/-- Which shards are good: those that are not bad, at stores that are up. -/
def Judged (key mode t l n epoch size : Nat) (nm : ByteArray) (len : Nat) (down bad : Nat → Bool) (X P : Nat → List UInt8) : Prop :=
  ∀ i, i < n → down i = false → (bad i = false → Cof.Good key (Cof.head mode t l n i epoch size nm.data.toList) len (X i) (P i)) ∧ (bad i = true → ¬ ∃ Q, Cof.Good key (Cof.head mode t l n i epoch size nm.data.toList) len (X i) Q)

theorem Held.piece_good {w : World} {base V key n B bc : Nat} {sp : Nat → Nat} {down : Nat → Bool} {mode t l size epoch : Nat} {nm : ByteArray} {X : Nat → List UInt8} {vs : Nat → Value} {xs : Nat → RecV} (h : Held w base V key n B bc sp down mode t l size epoch nm (Cof.ngroups mode t l size) X vs xs)
    (hp : IsPlan mode t l n) (he : epoch ≤ 100) (hz : size ≤ 60) (hn1 : 1 ≤ nm.size) (hnm : nm.size ≤ 12) (hk : key < 18446744073709551616) (hl : Cof.ngroups mode t l size ≤ 60) (i : Nat) (hi : i < n) (P : List UInt8) (hg : Cof.Good key (Cof.head mode t l n i epoch size nm.data.toList) (Cof.ngroups mode t l size) (X i) P) (w' : World) (hb : Below w.heap.size w w') (hT : Tab w') :
    Calls Tryz.prog 94 #[.pointer (some ⟨V, 0, none⟩), .int .i64 i, .agg #[.string nm, .int .i64 mode, .int .i64 t, .int .i64 l, .int .i64 size, .int .i64 epoch]] w' fun e w'' =>
      ∃ pv, e = .returned (.tuple #[pv, .nilIface]) ∧ w''.ownsRow w'.heap.size 5 1 pv (Cof.ngroups mode t l size) (bs P) ∧ Below w'.heap.size w' w'' := by
  have h' := h.below hb
  obtain ⟨done, ahead, hvt⟩ := h'.vt
  obtain ⟨a, c, _, hst⟩ := (h'.st i hi).st
  have hnm' := (h'.e i hi).1
  obtain ⟨sa', sc', hsv, hrd⟩ := owns_rd_size (h'.own i hi)
  have hrd' : Rd w' (xs i).sa (bs (X i)) := by cases hsv; exact hrd
  exact vpiece_good V key n B bc sp i (down i) a c [xs i] (xs i) mode t l size epoch nm w' (hvt.rdy hp.n1 hp.n8) hi hst (has_one hnm') (by rw [pos_one hnm']; rfl) _ rfl _ P hp he hz hn1 hnm hk hl hrd' (by rw [h.sn i hi, h.bytes i hi]) (owns_caps (h'.own i hi)) hg hT

theorem Held.piece_bad {w : World} {base V key n B bc : Nat} {sp : Nat → Nat} {down : Nat → Bool} {mode t l size epoch : Nat} {nm : ByteArray} {X : Nat → List UInt8} {vs : Nat → Value} {xs : Nat → RecV} (h : Held w base V key n B bc sp down mode t l size epoch nm (Cof.ngroups mode t l size) X vs xs)
    (hp : IsPlan mode t l n) (he : epoch ≤ 100) (hz : size ≤ 60) (hn1 : 1 ≤ nm.size) (hnm : nm.size ≤ 12) (hk : key < 18446744073709551616) (hl : Cof.ngroups mode t l size ≤ 60) (i : Nat) (hi : i < n) (hg : ¬ ∃ P, Cof.Good key (Cof.head mode t l n i epoch size nm.data.toList) (Cof.ngroups mode t l size) (X i) P) (w' : World) (hb : Below w.heap.size w w') (hT : Tab w') :
    Calls Tryz.prog 94 #[.pointer (some ⟨V, 0, none⟩), .int .i64 i, .agg #[.string nm, .int .i64 mode, .int .i64 t, .int .i64 l, .int .i64 size, .int .i64 epoch]] w' fun e w'' =>
      ∃ ev, e = .returned (.tuple #[.slice none 0 0, ev]) ∧ Chain w'' 12 2 ev ∧ Below w'.heap.size w' w'' := by
  have h' := h.below hb
  obtain ⟨done, ahead, hvt⟩ := h'.vt
  obtain ⟨a, c, _, hst⟩ := (h'.st i hi).st
  have hnm' := (h'.e i hi).1
  obtain ⟨sa', sc', hsv, hrd⟩ := owns_rd_size (h'.own i hi)
  have hrd' : Rd w' (xs i).sa (bs (X i)) := by cases hsv; exact hrd
  exact vpiece_bad V key n B bc sp i (down i) a c [xs i] (xs i) mode t l size epoch nm w' (hvt.rdy hp.n1 hp.n8) hi hst (has_one hnm') (by rw [pos_one hnm']; rfl) _ rfl _ hp he hz hn1 hnm hk hl hrd' (by rw [h.sn i hi, h.bytes i hi]) (owns_caps (h'.own i hi)) (h.bytes i hi) hg hT

set_option maxRecDepth 100000 in
set_option maxHeartbeats 2000000 in
theorem reached_held (base V key n B bc : Nat) (sp : Nat → Nat) (down bad : Nat → Bool) (mode t l size epoch : Nat) (nm : ByteArray) (X P : Nat → List UInt8) (vs : Nat → Value) (xs : Nat → RecV) (w : World) (h : Held w base V key n B bc sp down mode t l size epoch nm (Cof.ngroups mode t l size) X vs xs)
    (hp : IsPlan mode t l n) (he : epoch ≤ 100) (hz : size ≤ 60) (hn1 : 1 ≤ nm.size) (hnm : nm.size ≤ 12) (hk : key < 18446744073709551616) (hl : Cof.ngroups mode t l size ≤ 60) (hJ : Judged key mode t l n epoch size nm (Cof.ngroups mode t l size) down bad X P) (hT : Tab w) :
    Calls Tryz.prog 72 #[.pointer (some ⟨V, 0, none⟩), .agg #[.string nm, .int .i64 mode, .int .i64 t, .int .i64 l, .int .i64 size, .int .i64 epoch]] w fun e w' =>
      ∃ v, e = .returned v ∧ w'.ownsRow w.heap.size 187 2 v (upTo (fun i => down i || bad i) n).length (pcs ((List.range n).map P) (upTo (fun i => down i || bad i) n)) ∧ Below w.heap.size w w' := by
  obtain ⟨i0, hi, hz0, hz1, hz2⟩ := info_parts Tryz.infoPiece
  have hba := (Below.refl w.heap.size w).alloc (Nat.le_refl _) (.cells #[.string nm, .int .i64 mode, .int .i64 t, .int .i64 l, .int .i64 size, .int .i64 epoch] 65)
  obtain ⟨done, ahead, hvt⟩ := h.vt
  have hn8 := hp.n8
  have HR := hid ((hvt.rdy hp.n1 hn8).keeps hba (Nat.le_refl _))
  have HPC := hid (fun i hi hg w' hb hT => h.piece_good hp he hz hn1 hnm hk hl i hi (P i) hg w' hb hT)
  have HPB := hid (fun i hi hg w' hb hT => h.piece_bad hp he hz hn1 hnm hk hl i hi hg w' hb hT)
  have HJ := hid hJ
  have HDN := hid (show ∀ i, i < n → w.cell? ⟨sp i, 0, none⟩ = some (.bool (down i)) from fun i hi => by rw [cells_at (h.st i hi).hp]; rfl)
  have HLT := hid (show ∀ i, i < n → sp i < w.heap.size from fun i hi => cells_lt (h.st i hi).hp)
  have HT := hid hT
  obtain ⟨ng, hng⟩ : ∃ ng, ng = Cof.ngroups mode t l size := ⟨_, rfl⟩
  rw [← hng] at HPC HPB HJ hl
  obtain ⟨rows, hrows⟩ : ∃ rows, rows = (List.range n).map P := ⟨_, rfl⟩
  rw [← hrows]
  have HRG := hid (show ∀ i, i < n → rows.getD i [] = P i from fun i hi => by rw [hrows]; simp [hi])
  clear h hp hz hn1 hnm hk hJ hT hng hvt hrows
  have hc1' := HR.out.va.c1
  have hlV := HR.out.va.lt
  go_enter Tryz.func72, Tryz.ntmps72
  go_wp2_with fail
  obtain ⟨w1, hw1⟩ : ∃ w1, w1 = w.alloc (.cells #[.string nm, .int .i64 mode, .int .i64 t, .int .i64 l, .int .i64 size, .int .i64 epoch] 65) := ⟨_, rfl⟩
  have HOB := hid (show w1.heap[w.heap.size]? = some (.cells #[.string nm, .int .i64 mode, .int .i64 t, .int .i64 l, .int .i64 size, .int .i64 epoch] 65) by rw [hw1]; exact alloc_at _ _)
  have hz1' : w.heap.size < w1.heap.size := cells_lt HOB.out
  rw [← hw1] at hba HR hc1' hlV ⊢
  clear hw1
  go_loopw [5, 15] (fun ov u wr => ∃ (k : Nat), k ≤ n ∧ u = .int .i64 k ∧ wr.ownsRow w1.heap.size 187 2 ov (upTo (fun i => down i || bad i) k).length (pcs rows (upTo (fun i => down i || bad i) k)) ∧ Below w1.heap.size w1 wr) (fun _ u _ => n - (intOf u).toNat)
  case atStart => exact ⟨0, Nat.zero_le _, rfl, ⟨rfl, .inl ⟨rfl, rfl⟩⟩, Below.refl _ _⟩
  case round =>
    obtain ⟨k, hkn, rfl, hrow, hbr⟩ := hrel
    by_cases hlt : k < n
    · have hb0r := hba.trans (hbr.mono (by omega))
      have k1 := (HR.out.keeps hbr (Nat.le_refl _)).st k hlt
      have dk : wr.cell? ⟨sp k, 0, none⟩ = some (.bool (down k)) := (hb0r.cell (HLT.out k hlt)).trans (HDN.out k hlt)
      have hlt' : (k : Int) < (n : Int) := by omega
      have HROW := hid hrow
      clear hrow
      cases hdk : down k with
      | true =>
        rw [hdk] at dk
        have HX := hid (upTo_no (fun i => down i || bad i) k (by simp [hdk]))
        have HCU := hid (checkUp_down (sp k) wr dk)
        clear hdk
        go_wp2_with (go_at_call 96; refine HCU.out.mono ?_; rintro e w3 ⟨rfl, rfl⟩)
        go_roundw
        case rel => exact ⟨k + 1, by omega, by go_num, by rw [HX.out]; exact HROW.out, hbr⟩
        case measure => simp [intOf]; omega
      | false =>
        rw [hdk] at dk
        have HCU := hid (checkUp_up (sp k) wr dk)
        have HOBR := hid (show wr.heap[w.heap.size]? = _ from (hbr.block _ hz1').trans HOB.out)
        have o0 : wr.cell? ⟨w.heap.size, 0, none⟩ = some (.string nm) := by rw [cells_at HOBR.out]; rfl
        have o1 : wr.cell? ⟨w.heap.size, 1, none⟩ = some (.int .i64 mode) := by rw [cells_at HOBR.out]; rfl
        have o2 : wr.cell? ⟨w.heap.size, 2, none⟩ = some (.int .i64 t) := by rw [cells_at HOBR.out]; rfl
        have o3 : wr.cell? ⟨w.heap.size, 3, none⟩ = some (.int .i64 l) := by rw [cells_at HOBR.out]; rfl
        have o4 : wr.cell? ⟨w.heap.size, 4, none⟩ = some (.int .i64 size) := by rw [cells_at HOBR.out]; rfl
        have o5 : wr.cell? ⟨w.heap.size, 5, none⟩ = some (.int .i64 epoch) := by rw [cells_at HOBR.out]; rfl
        cases hbk : bad k with
        | true =>
        have HX := hid (upTo_no (fun i => down i || bad i) k (by simp [hbk]))
        have HPI := hid (HPB.out k hlt ((HJ.out k hlt hdk).2 hbk) wr hb0r (HT.out.keeps hb0r (Nat.le_refl _)))
        clear hdk hbk
        go_wp2_with (go_at_call 96; refine HCU.out.mono ?_; rintro e w3 ⟨rfl, rfl⟩)
        refine HPI.out.mono ?_
        rintro e w4 ⟨ev, rfl, hch, hb4⟩
        obtain ⟨te, ve, rfl⟩ := hch.shape
        have hbr4 := hbr.trans (hb4.mono hbr.size)
        have HRW4 := hid (owns_below_size HROW.out hb4 (Nat.le_refl _))
        clear hch
        go_wp2_with fail
        go_roundw
        case rel => exact ⟨k + 1, by omega, by go_num, by rw [HX.out]; exact HRW4.out, hbr4⟩
        case measure => simp [intOf]; omega
        | false =>
        have HX := hid (upTo_yes (fun i => down i || bad i) k (by simp [hdk, hbk]))
        have hgk := (HJ.out k hlt hdk).1 hbk
        have HPLk := hid (show (P k).length = ng from hgk.1)
        have HPI := hid (HPC.out k hlt hgk wr hb0r (HT.out.keeps hb0r (Nat.le_refl _)))
        clear hdk hbk hgk
        go_wp2_with (go_at_call 96; refine HCU.out.mono ?_; rintro e w3 ⟨rfl, rfl⟩)
        refine HPI.out.mono ?_
        rintro e w4 ⟨pv, rfl, hpo, hb4⟩
        obtain ⟨pa, pc, rfl, hprd⟩ := owns_rd_size hpo
        have hconv := conv_string w4 pa pc ng (P k) HPLk.out.symm hprd
        have HST := hid (show str (rows.getD k []) = .string ⟨(P k).toArray⟩ by rw [HRG.out k hlt]; rfl)
        generalize (⟨(P k).toArray⟩ : ByteArray) = bk at *
        have hbr4 := hbr.trans (hb4.mono hbr.size)
        have hba4 := (Below.refl w4.heap.size w4).alloc (Nat.le_refl _) (.cells #[.int .i64 k, .string bk] 187)
        have HRW4 := hid (owns_below_size (owns_below_size HROW.out hb4 (Nat.le_refl _)) hba4 (Nat.le_refl _))
        have hul := upTo_le (fun i => down i || bad i) k
        clear hpo hprd
        go_wp2_with (first | (at_builtin; refine wpList_append_own _ rfl (.tmp 32) (.tmp 37) 131 rfl w1.heap.size 187 i0 _ 2 24 Tryz.underlying131 hi hz0 hz1 hz2 rfl (by decide) _ (upTo (fun i => down i || bad i) k).length (pcs rows (upTo (fun i => down i || bad i) k)) rfl HRW4.out ⟨w4.heap.size, 0, none⟩ 1 1 [.int .i64 k, .string bk] rfl rfl (fun j u hj => by rw [add_at, World.cell?_alloc_at _ _ _ _ rfl, Nat.zero_add]; simpa using hj) (fun u hu => by simp at hu; rcases hu with rfl | rfl <;> rfl) (by unfold maxLen; omega) (by omega) (by have := hbr4.size; simp; omega) ?_; intro v2 w5 hown2 hgrow2 _; (have HO2 := hid hown2); (have HB2 := hid ((hbr4.trans (hba4.mono hbr4.size)).grown hgrow2 (by have := hbr4.size; simp; omega) (fun q hq => (HRW4.out.lt q hq).1))); clear hown2 hgrow2) | fail)
        go_roundw
        case rel => exact ⟨k + 1, by omega, by go_num, by rw [HX.out, pcs_one, HST.out, List.length_append]; exact HO2.out, HB2.out⟩
        case measure => simp [intOf]; omega
    · have hkk : k = n := by omega
      subst hkk
      have HROW := hid hrow
      clear hrow
      go_wp2
      go_ret
      exact ⟨_, rfl, World.ownsRow.mono HROW.out (by omega), hba.trans (hbr.mono (by omega))⟩

set_option maxRecDepth 100000 in
set_option maxHeartbeats 2000000 in
theorem vget_held (base V key n B bc : Nat) (sp : Nat → Nat) (down bad : Nat → Bool) (mode t l size epoch : Nat) (nm : ByteArray) (X P : Nat → List UInt8) (vs : Nat → Value) (xs : Nat → RecV) (w : World) (h : Held w base V key n B bc sp down mode t l size epoch nm (Cof.ngroups mode t l size) X vs xs)
    (hp : IsPlan mode t l n) (he : epoch ≤ 100) (hz : size ≤ 60) (hn1 : 1 ≤ nm.size) (hnm : nm.size ≤ 12) (hk : key < 18446744073709551616) (hl : Cof.ngroups mode t l size ≤ 60) (hjd : Judged key mode t l n epoch size nm (Cof.ngroups mode t l size) down bad X P) (hT : Tab w)
    (N : Nat) (hN : N = Cof.gsize mode t l + Cof.tsize mode t) (hen : N ≤ (upTo (fun i => down i || bad i) n).length) (J : List UInt8) (hJ : Cof.join mode t l size ((upTo (fun i => down i || bad i) n).take N) (((upTo (fun i => down i || bad i) n).take N).map P) = J) :
    Calls Tryz.prog 46 #[.pointer (some ⟨V, 0, none⟩), .string nm] w fun e w' =>
      ∃ av cv, e = .returned (.tuple #[.slice av size cv, .nilIface]) ∧ Rd w' av (bs J) ∧ Below w.heap.size w w' := by
  have hn1' := hp.n1
  have hn8 := hp.n8
  obtain ⟨done, ahead, hvt⟩ := h.vt
  have hR := hvt.rdy hn1' hn8
  obtain ⟨a0, c0', _, hst0⟩ := (h.st 0 (by omega)).st
  have hok0 := h.e 0 (by omega)
  have HOBJ := hid (object_yes V key n B bc sp (down 0) a0 c0' [xs 0] (xs 0) nm w hR hst0 (has_one hok0.1) (by rw [pos_one hok0.1]; rfl))
  rw [hok0.1, hok0.2.1, hok0.2.2.1, hok0.2.2.2.1, hok0.2.2.2.2.1, hok0.2.2.2.2.2] at HOBJ
  have HRE := hid (fun w' hb => reached_held base V key n B bc sp down bad mode t l size epoch nm X P vs xs w' (h.below hb) hp he hz hn1 hnm hk hl hjd (hT.keeps hb (Nat.le_refl _)))
  have hul := upTo_le (fun i => down i || bad i) n
  have hlt : ∀ s ∈ upTo (fun i => down i || bad i) n, s < n := fun s hs => by unfold upTo at hs; exact List.mem_range.1 (List.mem_filter.1 hs).1
  have hP : ∀ s ∈ upTo (fun i => down i || bad i) n, (P s).length = Cof.ngroups mode t l size := fun s hs => by
    have h2 := (List.mem_filter.1 hs).2
    simp at h2
    exact ((hjd s (hlt s hs) h2.1).1 h2.2).1
  have hnd : (upTo (fun i => down i || bad i) n).Nodup := by unfold upTo; exact List.nodup_range.filter _
  have hmap : (upTo (fun i => down i || bad i) n).map (fun s => (⟨(((List.range n).map P).getD s []).toArray⟩ : ByteArray)) = (upTo (fun i => down i || bad i) n).map (fun s => ⟨(P s).toArray⟩) := List.map_congr_left fun s hs => by simp [hlt s hs]
  have HJO := hid (fun (w' : World) (aP : Option Addr) (c : Nat) (hc : (upTo (fun i => down i || bad i) n).length ≤ c) (hrd : PRd w' aP (upTo (fun i => down i || bad i) n) ((upTo (fun i => down i || bad i) n).map fun s => (⟨(((List.range n).map P).getD s []).toArray⟩ : ByteArray))) =>
    cutJoin_ok mode t l n size (upTo (fun i => down i || bad i) n).length c N aP (upTo (fun i => down i || bad i) n) _ w' ⟨hp, hz, rfl, hrd, by omega, hc, hlt, hnd, fun i hi => by rw [hmap]; simp [hi, ByteArray.size]; exact hP _ (List.getElem_mem hi)⟩ (by simp) hN hen)
  have hJ' : Cof.join mode t l size ((upTo (fun i => down i || bad i) n).take N) ((((upTo (fun i => down i || bad i) n).map fun s => (⟨(((List.range n).map P).getD s []).toArray⟩ : ByteArray)).take N).map fun p => p.data.toList) = J := by
    rw [hmap, ← List.map_take, List.map_map]
    exact hJ
  rw [hJ'] at HJO
  have HRR := hid hR
  clear h hp hP hjd hT hst0 hok0 hvt hR hmap hJ hJ' hlt hnd
  go_enter Tryz.func46, Tryz.ntmps46
  go_wp2_with fail
  refine HOBJ.out.mono ?_
  rintro e w1 ⟨rfl, hb1⟩
  have hba := hb1.alloc hb1.size (.cells #[.string nm, .int .i64 mode, .int .i64 t, .int .i64 l, .int .i64 size, .int .i64 epoch] 65)
  obtain ⟨w2, hw2⟩ : ∃ w2, w2 = w1.alloc (.cells #[.string nm, .int .i64 mode, .int .i64 t, .int .i64 l, .int .i64 size, .int .i64 epoch] 65) := ⟨_, rfl⟩
  have HOB := hid (show w2.heap[w1.heap.size]? = some (.cells #[.string nm, .int .i64 mode, .int .i64 t, .int .i64 l, .int .i64 size, .int .i64 epoch] 65) by rw [hw2]; exact alloc_at _ _)
  have hl1 : w1.heap.size < w2.heap.size := cells_lt HOB.out
  rw [← hw2] at hba
  have HR2 := hid (HRR.out.keeps hba (Nat.le_refl _))
  have c1 := HR2.out.va.c1
  have lV := HR2.out.va.lt
  have o0 : w2.cell? ⟨w1.heap.size, 0, none⟩ = some (.string nm) := by rw [cells_at HOB.out]; rfl
  have o1 : w2.cell? ⟨w1.heap.size, 1, none⟩ = some (.int .i64 mode) := by rw [cells_at HOB.out]; rfl
  have o2 : w2.cell? ⟨w1.heap.size, 2, none⟩ = some (.int .i64 t) := by rw [cells_at HOB.out]; rfl
  have o3 : w2.cell? ⟨w1.heap.size, 3, none⟩ = some (.int .i64 l) := by rw [cells_at HOB.out]; rfl
  have o4 : w2.cell? ⟨w1.heap.size, 4, none⟩ = some (.int .i64 size) := by rw [cells_at HOB.out]; rfl
  have o5 : w2.cell? ⟨w1.heap.size, 5, none⟩ = some (.int .i64 epoch) := by rw [cells_at HOB.out]; rfl
  have HS := hid (show ∀ w', Below w2.heap.size w2 w' → w'.cell? ⟨V, 1, none⟩ = some (.slice (some ⟨B, 0, none⟩) n bc) ∧ w'.cell? ⟨w1.heap.size, 0, none⟩ = some (.string nm) ∧ w'.cell? ⟨w1.heap.size, 1, none⟩ = some (.int .i64 mode) ∧ w'.cell? ⟨w1.heap.size, 2, none⟩ = some (.int .i64 t) ∧ w'.cell? ⟨w1.heap.size, 3, none⟩ = some (.int .i64 l) ∧ w'.cell? ⟨w1.heap.size, 4, none⟩ = some (.int .i64 size) ∧ w'.cell? ⟨w1.heap.size, 5, none⟩ = some (.int .i64 epoch) from fun w' hb => ⟨(hb.cell lV).trans c1, (hb.cell hl1).trans o0, (hb.cell hl1).trans o1, (hb.cell hl1).trans o2, (hb.cell hl1).trans o3, (hb.cell hl1).trans o4, (hb.cell hl1).trans o5⟩)
  have HW2 := hid hw2
  go_wp2_with fail
  rw [← HW2.out]
  clear hw2 HW2
  generalize (upTo (fun i => down i || bad i) n).length = m at *
  go_region_held3 (fun w' => w'.cell? ⟨V, 1, none⟩ = some (.slice (some ⟨B, 0, none⟩) n bc) ∧ w'.cell? ⟨w1.heap.size, 0, none⟩ = some (.string nm) ∧ w'.cell? ⟨w1.heap.size, 1, none⟩ = some (.int .i64 mode) ∧ w'.cell? ⟨w1.heap.size, 2, none⟩ = some (.int .i64 t) ∧ w'.cell? ⟨w1.heap.size, 3, none⟩ = some (.int .i64 l) ∧ w'.cell? ⟨w1.heap.size, 4, none⟩ = some (.int .i64 size) ∧ w'.cell? ⟨w1.heap.size, 5, none⟩ = some (.int .i64 epoch)) (first | exact HS.out _ (Below.refl _ _) | exact HS.out _ (Below.refl _ _).drew | exact D4.out | exact D3.out | go_keep)
    (first
      | (go_at_call 72; refine (HRE.out w2.drew hba.drew).mono ?_; rintro e w3 ⟨pv, rfl, hrow, hb3⟩; (have hb23 : Below w2.heap.size w2 w3 := (Below.refl w2.heap.size w2).drew.trans hb3); (have D3 := hid (HS.out w3 hb23)); (obtain ⟨pa, pc, rfl, hpc, hprd⟩ := prd_of_pcs hrow); (have HPRD := hid hprd); (have HPC := hid hpc); clear hrow hprd hpc)
      | (go_at_call 71; refine (HJO.out w3 pa pc HPC.out HPRD.out).mono ?_; rintro e w4 ⟨av, cv, rfl, hrd4, hb4⟩; (have hb24 : Below w2.heap.size w2 w4 := hb23.trans (hb4.mono hb23.size)); (have D4 := hid (HS.out w4 hb24)); (have HRD4 := hid hrd4); clear hrd4))
  have hb04 := hba.trans (hb24.mono hba.size)
  go_wp2_with (go_at_call 53; refine (at_nil _ _).mono ?_; rintro e w7 ⟨rfl, rfl⟩)
  go_ret2
  exact ⟨av, cv, rfl, HRD4.out, hb04⟩

set_option maxRecDepth 100000 in
set_option maxHeartbeats 2000000 in
theorem vget_few (base V key n B bc : Nat) (sp : Nat → Nat) (down bad : Nat → Bool) (mode t l size epoch : Nat) (nm : ByteArray) (X P : Nat → List UInt8) (vs : Nat → Value) (xs : Nat → RecV) (w : World) (h : Held w base V key n B bc sp down mode t l size epoch nm (Cof.ngroups mode t l size) X vs xs)
    (hp : IsPlan mode t l n) (he : epoch ≤ 100) (hz : size ≤ 60) (hn1 : 1 ≤ nm.size) (hnm : nm.size ≤ 12) (hk : key < 18446744073709551616) (hl : Cof.ngroups mode t l size ≤ 60) (hjd : Judged key mode t l n epoch size nm (Cof.ngroups mode t l size) down bad X P) (hT : Tab w)
    (hfew : (upTo (fun i => down i || bad i) n).length < Cof.gsize mode t l + Cof.tsize mode t) :
    Calls Tryz.prog 46 #[.pointer (some ⟨V, 0, none⟩), .string nm] w fun e w' =>
      ∃ ev, e = .returned (.tuple #[.slice none 0 0, ev]) ∧ Chain w' 10 3 ev ∧ Below w.heap.size w w' := by
  have hn1' := hp.n1
  have hn8 := hp.n8
  obtain ⟨done, ahead, hvt⟩ := h.vt
  have hR := hvt.rdy hn1' hn8
  obtain ⟨a0, c0', _, hst0⟩ := (h.st 0 (by omega)).st
  have hok0 := h.e 0 (by omega)
  have HOBJ := hid (object_yes V key n B bc sp (down 0) a0 c0' [xs 0] (xs 0) nm w hR hst0 (has_one hok0.1) (by rw [pos_one hok0.1]; rfl))
  rw [hok0.1, hok0.2.1, hok0.2.2.1, hok0.2.2.2.1, hok0.2.2.2.2.1, hok0.2.2.2.2.2] at HOBJ
  have HRE := hid (fun w' hb => reached_held base V key n B bc sp down bad mode t l size epoch nm X P vs xs w' (h.below hb) hp he hz hn1 hnm hk hl hjd (hT.keeps hb (Nat.le_refl _)))
  have hul := upTo_le (fun i => down i || bad i) n
  have hlt : ∀ s ∈ upTo (fun i => down i || bad i) n, s < n := fun s hs => by unfold upTo at hs; exact List.mem_range.1 (List.mem_filter.1 hs).1
  have hP : ∀ s ∈ upTo (fun i => down i || bad i) n, (P s).length = Cof.ngroups mode t l size := fun s hs => by
    have h2 := (List.mem_filter.1 hs).2
    simp at h2
    exact ((hjd s (hlt s hs) h2.1).1 h2.2).1
  have hnd : (upTo (fun i => down i || bad i) n).Nodup := by unfold upTo; exact List.nodup_range.filter _
  have hmap : (upTo (fun i => down i || bad i) n).map (fun s => (⟨(((List.range n).map P).getD s []).toArray⟩ : ByteArray)) = (upTo (fun i => down i || bad i) n).map (fun s => ⟨(P s).toArray⟩) := List.map_congr_left fun s hs => by simp [hlt s hs]
  have HJO := hid (fun (w' : World) (aP : Option Addr) (c : Nat) (hc : (upTo (fun i => down i || bad i) n).length ≤ c) (hrd : PRd w' aP (upTo (fun i => down i || bad i) n) ((upTo (fun i => down i || bad i) n).map fun s => (⟨(((List.range n).map P).getD s []).toArray⟩ : ByteArray))) =>
    cutJoin_few mode t l n size (upTo (fun i => down i || bad i) n).length c aP (upTo (fun i => down i || bad i) n) _ w' ⟨hp, hz, rfl, hrd, by omega, hc, hlt, hnd, fun i hi => by rw [hmap]; simp [hi, ByteArray.size]; exact hP _ (List.getElem_mem hi)⟩ hfew)
  have HRR := hid hR
  clear h hp hP hjd hT hst0 hok0 hvt hR hmap hlt hnd hfew
  go_enter Tryz.func46, Tryz.ntmps46
  go_wp2_with fail
  refine HOBJ.out.mono ?_
  rintro e w1 ⟨rfl, hb1⟩
  have hba := hb1.alloc hb1.size (.cells #[.string nm, .int .i64 mode, .int .i64 t, .int .i64 l, .int .i64 size, .int .i64 epoch] 65)
  obtain ⟨w2, hw2⟩ : ∃ w2, w2 = w1.alloc (.cells #[.string nm, .int .i64 mode, .int .i64 t, .int .i64 l, .int .i64 size, .int .i64 epoch] 65) := ⟨_, rfl⟩
  have HOB := hid (show w2.heap[w1.heap.size]? = some (.cells #[.string nm, .int .i64 mode, .int .i64 t, .int .i64 l, .int .i64 size, .int .i64 epoch] 65) by rw [hw2]; exact alloc_at _ _)
  have hl1 : w1.heap.size < w2.heap.size := cells_lt HOB.out
  rw [← hw2] at hba
  have HR2 := hid (HRR.out.keeps hba (Nat.le_refl _))
  have c1 := HR2.out.va.c1
  have lV := HR2.out.va.lt
  have o0 : w2.cell? ⟨w1.heap.size, 0, none⟩ = some (.string nm) := by rw [cells_at HOB.out]; rfl
  have o1 : w2.cell? ⟨w1.heap.size, 1, none⟩ = some (.int .i64 mode) := by rw [cells_at HOB.out]; rfl
  have o2 : w2.cell? ⟨w1.heap.size, 2, none⟩ = some (.int .i64 t) := by rw [cells_at HOB.out]; rfl
  have o3 : w2.cell? ⟨w1.heap.size, 3, none⟩ = some (.int .i64 l) := by rw [cells_at HOB.out]; rfl
  have o4 : w2.cell? ⟨w1.heap.size, 4, none⟩ = some (.int .i64 size) := by rw [cells_at HOB.out]; rfl
  have o5 : w2.cell? ⟨w1.heap.size, 5, none⟩ = some (.int .i64 epoch) := by rw [cells_at HOB.out]; rfl
  have HS := hid (show ∀ w', Below w2.heap.size w2 w' → w'.cell? ⟨V, 1, none⟩ = some (.slice (some ⟨B, 0, none⟩) n bc) ∧ w'.cell? ⟨w1.heap.size, 0, none⟩ = some (.string nm) ∧ w'.cell? ⟨w1.heap.size, 1, none⟩ = some (.int .i64 mode) ∧ w'.cell? ⟨w1.heap.size, 2, none⟩ = some (.int .i64 t) ∧ w'.cell? ⟨w1.heap.size, 3, none⟩ = some (.int .i64 l) ∧ w'.cell? ⟨w1.heap.size, 4, none⟩ = some (.int .i64 size) ∧ w'.cell? ⟨w1.heap.size, 5, none⟩ = some (.int .i64 epoch) from fun w' hb => ⟨(hb.cell lV).trans c1, (hb.cell hl1).trans o0, (hb.cell hl1).trans o1, (hb.cell hl1).trans o2, (hb.cell hl1).trans o3, (hb.cell hl1).trans o4, (hb.cell hl1).trans o5⟩)
  have HW2 := hid hw2
  go_wp2_with fail
  rw [← HW2.out]
  clear hw2 HW2
  generalize (upTo (fun i => down i || bad i) n).length = m at *
  go_region_held3 (fun w' => w'.cell? ⟨V, 1, none⟩ = some (.slice (some ⟨B, 0, none⟩) n bc) ∧ w'.cell? ⟨w1.heap.size, 0, none⟩ = some (.string nm) ∧ w'.cell? ⟨w1.heap.size, 1, none⟩ = some (.int .i64 mode) ∧ w'.cell? ⟨w1.heap.size, 2, none⟩ = some (.int .i64 t) ∧ w'.cell? ⟨w1.heap.size, 3, none⟩ = some (.int .i64 l) ∧ w'.cell? ⟨w1.heap.size, 4, none⟩ = some (.int .i64 size) ∧ w'.cell? ⟨w1.heap.size, 5, none⟩ = some (.int .i64 epoch)) (first | exact HS.out _ (Below.refl _ _) | exact HS.out _ (Below.refl _ _).drew | exact D4.out | exact D3.out | go_keep)
    (first
      | (go_at_call 72; refine (HRE.out w2.drew hba.drew).mono ?_; rintro e w3 ⟨pv, rfl, hrow, hb3⟩; (have hb23 : Below w2.heap.size w2 w3 := (Below.refl w2.heap.size w2).drew.trans hb3); (have D3 := hid (HS.out w3 hb23)); (obtain ⟨pa, pc, rfl, hpc, hprd⟩ := prd_of_pcs hrow); (have HPRD := hid hprd); (have HPC := hid hpc); clear hrow hprd hpc)
      | (go_at_call 71; refine (HJO.out w3 pa pc HPC.out HPRD.out).mono ?_; rintro e w4 ⟨ev, rfl, hch4, hb4⟩; (have hb24 : Below w2.heap.size w2 w4 := hb23.trans (hb4.mono hb23.size)); (have D4 := hid (HS.out w4 hb24)); (have HCH4 := hid hch4); clear hch4))
  have hb04 := hba.trans (hb24.mono hba.size)
  go_wp2_with (go_at_call 53; refine (at_chain _ _ 10 2 _ HCH4.out).mono ?_; rintro e w7 ⟨e7, rfl, hc7, hb7⟩; (have HC7 := hid hc7); clear hc7)
  go_ret2
  exact ⟨e7, rfl, HC7.out, hb04.trans (hb7.mono hb04.size)⟩


set_option maxRecDepth 100000 in
theorem cget_no (C V d : Nat) (k : Int) (nm : ByteArray) (w : World) (h : Cf w C V) (hd : d ≤ 10) (hE : ErrType w)
    (hv : Calls Tryz.prog 46 #[.pointer (some ⟨V, 0, none⟩), .string nm] w fun e w' => ∃ ev, e = .returned (.tuple #[.slice none 0 0, ev]) ∧ Chain w' k d ev ∧ Below w.heap.size w w') :
    Calls Tryz.prog 23 #[.pointer (some ⟨C, 0, none⟩), .string nm] w fun e w' => e = .returned (.tuple #[.string ByteArray.empty, .int .i64 k]) ∧ Below w.heap.size w w' := by
  have c0 : w.cell? ⟨C, 0, none⟩ = some (.pointer (some ⟨V, 0, none⟩)) := by rw [cells_at h]; rfl
  have HV := hid hv
  have HE := hid hE
  clear h hv hE
  go_enter Tryz.func23, Tryz.ntmps23
  go_wp2_with fail
  refine HV.out.mono ?_
  rintro e w1 ⟨ev, rfl, hch, hb1⟩
  have HCH := hid hch
  clear hch
  go_wp2_with (go_at_call 43; refine (told_no _ _ k d _ HCH.out hd (HE.out.keeps hb1 (Nat.le_refl _))).mono ?_; rintro e w2 ⟨rfl, hb2⟩)
  go_ret2
  exact ⟨rfl, hb1.trans (hb2.mono hb1.size)⟩
end Go.Proofs.YtcegdgmbponapabGreatDoor
