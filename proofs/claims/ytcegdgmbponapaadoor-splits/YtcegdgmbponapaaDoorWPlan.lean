/-
  The walks of package cutting on a plan that fits: fits, checkPlan, known, layoutFor, tapeNeed, checkTape.
-/
import Derived.Test.YtcegdgmbponapaaDoorWCut
import Derived.Deep.RegionWith
import Derived.Deep.DrawnRows
import Derived.Deep.RegionHeld3
namespace Go.Proofs.YtcegdgmbponapaaDoor
open Go.RowKit

/-- It is a plan for n stores. -/
structure IsPlan (mode t l n : Nat) : Prop where
  n1 : 1 ≤ n
  n8 : n ≤ 8
  t1 : 1 ≤ t
  tn : t ≤ n
  l1 : 1 ≤ l
  md : mode = 0 ∧ t + l ≤ n + 1 ∨ mode = 1 ∧ l = 1

set_option maxRecDepth 100000 in
set_option maxHeartbeats 400000 in
theorem fits_ok (mode t l n : Nat) (w : World) (h : IsPlan mode t l n) :
    Calls Tryd.prog 78 #[.agg #[.int .i64 mode, .int .i64 t, .int .i64 l], .int .i64 n] w fun e w' => e = .returned (.bool true) ∧ Below w.heap.size w w' := by
  obtain ⟨h1, h2, h3, h4, h5, h6⟩ := h
  rcases h6 with ⟨rfl, h6⟩ | ⟨rfl, rfl⟩
  · go_enter Tryd.func78, Tryd.ntmps78
    go_wp2
    go_ret
    refine ⟨?_, (Below.refl _ _).alloc (Nat.le_refl _) _⟩
    simp
    omega
  · go_enter Tryd.func78, Tryd.ntmps78
    go_wp2
    go_ret
    exact ⟨rfl, (Below.refl _ _).alloc (Nat.le_refl _) _⟩

set_option maxRecDepth 100000 in
set_option maxHeartbeats 400000 in
theorem checkPlan_ok (mode t l n : Nat) (w : World) (h : IsPlan mode t l n) :
    Calls Tryd.prog 60 #[.agg #[.int .i64 mode, .int .i64 t, .int .i64 l], .int .i64 n] w fun e w' => e = .returned .nilIface ∧ Below w.heap.size w w' := by
  have h1 := h.n1
  have h2 := h.n8
  go_enter Tryd.func60, Tryd.ntmps60
  go_wp2_with (go_at_call 78; refine (fits_ok mode t l n _ h).mono ?_; rintro e w1 ⟨rfl, hb1⟩)
  go_ret
  exact ⟨rfl, ((Below.refl _ _).alloc (Nat.le_refl _) _).trans (hb1.mono (by simp))⟩

attribute [local go_sem ↓] Go.wp_at_zero Go.wp_at_succ

set_option maxRecDepth 100000 in
set_option maxHeartbeats 400000 in
theorem known_disperse (t l : Nat) (w : World) (ht : t ≤ 8) :
    Calls Tryd.prog 62 #[.agg #[.int .i64 1, .int .i64 t, .int .i64 l]] w fun e w' =>
      ∃ g, e = .returned (.tuple #[.slice (some ⟨g, 0, none⟩) t t, .slice none 0 0]) ∧ Rd w' (some ⟨g, 0, none⟩) (bs (Cof.run 1 t)) ∧ Below w.heap.size w w' ∧ w.heap.size ≤ g := by
  go_enter Tryd.func62, Tryd.ntmps62
  go_wp2_with (go_at_call 52; refine (run_any 1 t _ (by omega)).mono ?_; rintro e w1 ⟨g, rfl, hrd, hb1, hg1⟩)
  go_ret2
  exact ⟨_, rfl, hrd, ((Below.refl _ _).alloc (Nat.le_refl _) _).trans (hb1.mono (by simp)), by simp at hg1; omega⟩

set_option maxRecDepth 100000 in
set_option maxHeartbeats 1000000 in
theorem known_share (u l : Nat) (w : World) (ht : u ≤ 7) (hl : l ≤ 8) :
    Calls Tryd.prog 62 #[.agg #[.int .i64 0, .int .i64 ((u : Int) + 1), .int .i64 l]] w fun e w' =>
      ∃ g1 g2, e = .returned (.tuple #[.slice (some ⟨g1, 0, none⟩) l l, .slice (some ⟨g2, 0, none⟩) u u]) ∧ Rd w' (some ⟨g1, 0, none⟩) (bs (Cof.run 128 l)) ∧ Rd w' (some ⟨g2, 0, none⟩) (bs (Cof.run 192 u)) ∧ Below w.heap.size w w' ∧ w.heap.size ≤ g1 ∧ w.heap.size ≤ g2 := by
  have hw : IntKind.i64.wrap (u : Int) = u := by rw [IntKind.wrap_i64]; omega
  go_enter Tryd.func62, Tryd.ntmps62
  go_wp2
  go_region_held3 (fun w' => w'.cell? ⟨w.heap.size, 1, none⟩ = some (.int .i64 ((u : Int) + 1)) ∧ w'.cell? ⟨w.heap.size, 2, none⟩ = some (.int .i64 l)) (first | exact ⟨s3, s4⟩ | exact ⟨s1, s2⟩ | go_keep)
    (first
      | (go_at_call_of 52 (Value.int .i64 128); refine (run_any 128 l _ (by omega)).mono ?_; rintro e w1 ⟨g1, rfl, hrd1, hb1, hg1⟩; have s1 : w1.cell? ⟨w.heap.size, 1, none⟩ = some (.int .i64 ((u : Int) + 1)) := (hb1.cell (by simp)).trans (by simp); have s2 : w1.cell? ⟨w.heap.size, 2, none⟩ = some (.int .i64 l) := (hb1.cell (by simp)).trans (by simp))
      | (go_at_call_of 52 (Value.int .i64 192); refine (run_any 192 u _ (by omega)).mono ?_; rintro e w2 ⟨g2, rfl, hrd2, hb2, hg2⟩; have s3 : w2.cell? ⟨w.heap.size, 1, none⟩ = some (.int .i64 ((u : Int) + 1)) := (hb2.cell (by have := hb1.size; simp at this; show w.heap.size < w1.heap.size; omega)).trans s1; have s4 : w2.cell? ⟨w.heap.size, 2, none⟩ = some (.int .i64 l) := (hb2.cell (by have := hb1.size; simp at this; show w.heap.size < w1.heap.size; omega)).trans s2))
  go_wp2
  go_ret2
  have hz := hb1.size
  simp at hz hg1
  exact ⟨g1, g2, rfl, hrd1.below hb2 (Nat.le_refl _), hrd2, ((((Below.refl _ _).alloc (Nat.le_refl _) _).drew).trans (hb1.mono (by simp))).trans (hb2.mono (by omega)), by omega, by omega⟩

/-- What layoutFor answers: the layout's three fields. -/
structure Lay (w : World) (mode t l base : Nat) (ag : Option Addr) (cg : Nat) (at' : Option Addr) (ct : Nat) : Prop where
  g : Rd w ag (bs (Cof.groupAt mode t l))
  t : Rd w at' (bs (Cof.tapeAt mode t))
  gz : ag = none → cg = 0
  tz : at' = none → ct = 0
  gf : ∀ ad, ag = some ad → base ≤ ad.block
  tf : ∀ ad, at' = some ad → base ≤ ad.block

theorem Lay.below {B : Nat} {w w' : World} {mode t l base : Nat} {ag : Option Addr} {cg : Nat} {at' : Option Addr} {ct : Nat} (h : Lay w mode t l base ag cg at' ct) (hb : Below B w w') (hB : w.heap.size ≤ B) : Lay w' mode t l base ag cg at' ct :=
  ⟨h.g.below hb hB, h.t.below hb hB, h.gz, h.tz, h.gf, h.tf⟩

theorem Lay.setCell {w : World} {mode t l base g k : Nat} {ag : Option Addr} {cg : Nat} {at' : Option Addr} {ct : Nat} (h : Lay w mode t l base ag cg at' ct) (hg : g < base) (u : Value) : Lay (w.setCell ⟨g, k, none⟩ u) mode t l base ag cg at' ct :=
  ⟨h.g.setCell_far (fun ad e => by have := h.gf ad e; omega) u, h.t.setCell_far (fun ad e => by have := h.tf ad e; omega) u, h.gz, h.tz, h.gf, h.tf⟩

theorem Lay.mono {w : World} {mode t l base base' : Nat} {ag : Option Addr} {cg : Nat} {at' : Option Addr} {ct : Nat} (h : Lay w mode t l base ag cg at' ct) (hb : base' ≤ base) : Lay w mode t l base' ag cg at' ct :=
  ⟨h.g, h.t, h.gz, h.tz, fun ad e => Nat.le_trans hb (h.gf ad e), fun ad e => Nat.le_trans hb (h.tf ad e)⟩

set_option maxRecDepth 100000 in
set_option maxHeartbeats 1000000 in
theorem known_ok (mode t l n : Nat) (w : World) (h : IsPlan mode t l n) :
    Calls Tryd.prog 62 #[.agg #[.int .i64 mode, .int .i64 t, .int .i64 l]] w fun e w' =>
      ∃ ag cg at' ct, e = .returned (.tuple #[.slice ag (Cof.gsize mode t l) cg, .slice at' (Cof.tsize mode t) ct]) ∧ Lay w' mode t l w.heap.size ag cg at' ct ∧ Below w.heap.size w w' := by
  obtain ⟨h1, h2, h3, h4, h5, h6⟩ := h
  rcases h6 with ⟨rfl, h6⟩ | ⟨rfl, rfl⟩
  · obtain ⟨u, rfl⟩ : ∃ u, t = u + 1 := ⟨t - 1, by omega⟩
    refine (known_share u l w (by omega) (by omega)).mono ?_
    rintro e w' ⟨g1, g2, rfl, r1, r2, hb, f1, f2⟩
    exact ⟨some ⟨g1, 0, none⟩, l, some ⟨g2, 0, none⟩, u, rfl, ⟨r1, r2, (fun h => by cases h), (fun h => by cases h), (fun ad h => by cases h; exact f1), (fun ad h => by cases h; exact f2)⟩, hb⟩
  · refine (known_disperse t 1 w (by omega)).mono ?_
    rintro e w' ⟨g1, rfl, r1, hb, f1⟩
    exact ⟨some ⟨g1, 0, none⟩, t, none, 0, rfl, ⟨r1, Rd.nil _ _, (fun h => by cases h), (fun _ => rfl), (fun ad h => by cases h; exact f1), (fun ad h => by cases h)⟩, hb⟩

set_option maxRecDepth 100000 in
set_option maxHeartbeats 1000000 in
theorem layoutFor_ok (mode t l n size : Nat) (w : World) (h : IsPlan mode t l n) (hs : size ≤ 60) :
    Calls Tryd.prog 44 #[.agg #[.int .i64 mode, .int .i64 t, .int .i64 l], .int .i64 n, .int .i64 size] w fun e w' =>
      ∃ ag cg at' ct, e = .returned (.tuple #[.agg #[.slice ag (Cof.gsize mode t l) cg, .slice at' (Cof.tsize mode t) ct, .int .i64 (Cof.ngroups mode t l size)], .nilIface]) ∧ Lay w' mode t l w.heap.size ag cg at' ct ∧ Below w.heap.size w w' := by
  have hg1 : 1 ≤ Cof.gsize mode t l := by have := h.t1; have := h.l1; unfold Cof.gsize; split <;> omega
  have hg2 : Cof.gsize mode t l ≤ 8 := by obtain ⟨_, _, _, _, _, h6⟩ := h; unfold Cof.gsize; split <;> omega
  have HN : Hid (Cof.ngroups mode t l size = (size + Cof.gsize mode t l - 1) / Cof.gsize mode t l) := rfl
  go_enter Tryd.func44, Tryd.ntmps44
  go_wp2_with fail
  refine (checkPlan_ok mode t l n _ h).mono ?_
  rintro e w1 ⟨rfl, hb1⟩
  obtain ⟨hc1, hf1⟩ := bcell hb1
  go_wp2_with fail
  refine (known_ok mode t l n _ h).mono ?_
  rintro e w2 ⟨ag, cg, at', ct, rfl, hlay, hb2⟩
  obtain ⟨hc2, hf2⟩ := bcell hb2
  have hz1 : w.heap.size + 1 < w1.heap.size := by have := hb1.size; simp at this; omega
  generalize hgs : Cof.gsize mode t l = gs at *
  generalize hts : Cof.tsize mode t = ts at *
  have HG := hid hgs
  have HT := hid hts
  clear hgs hts
  go_wp2
  have hd : ((size : Int) + gs - 1) / gs = (Cof.ngroups mode t l size : Int) := by
    rw [HN.out]; have : ((size + gs - 1 : Nat) : Int) = (size : Int) + gs - 1 := by omega
    rw [Int.natCast_ediv, this]
  rw [hd]
  refine bodyPost_ret (v := .tuple #[.agg #[.slice ag gs cg, .slice at' ts ct, .int .i64 (Cof.ngroups mode t l size)], .nilIface]) ?_ rfl ⟨ag, cg, at', ct, by rw [HG.out, HT.out], ?_, ?_⟩
  · simp [results, Tryd.results44, go_sem, hc2, hc1, hz1]
  · exact (((hlay.setCell (g := w.heap.size + 1) (k := 0) hz1 _).setCell (g := w.heap.size + 1) hz1 _).setCell (g := w.heap.size + 1) hz1 _).mono (by omega)
  · exact ((((((Below.refl _ _).alloc (Nat.le_refl _) _).alloc (by simp) _).trans (hb1.mono (by simp; omega))).trans (hb2.mono (by omega))).setCell (by simp) _ |>.setCell (by simp) _).setCell (by simp) _

set_option maxRecDepth 100000 in
set_option maxHeartbeats 400000 in
theorem tapeNeed_any (ag at' : Option Addr) (gs cg ts ct ng : Nat) (w : World) (h1 : ts ≤ 8) (h2 : ng ≤ 60) :
    Calls Tryd.prog 47 #[.agg #[.slice ag gs cg, .slice at' ts ct, .int .i64 ng]] w fun e w' => e = .returned (.int .i64 ((ts * ng : Nat) : Int)) ∧ Below w.heap.size w w' := by
  have hm : ts * ng ≤ 8 * 60 := Nat.mul_le_mul h1 h2
  go_enter Tryd.func47, Tryd.ntmps47
  go_wp2
  go_ret
  exact ⟨ret_int (by simp), (Below.refl _ _).alloc (Nat.le_refl _) _⟩

theorem tapeNeed_n (ag at' : Option Addr) (gs cg ts ct ng need : Nat) (w : World) (h1 : ts ≤ 8) (h2 : ng ≤ 60) (hq : ts * ng = need) :
    Calls Tryd.prog 47 #[.agg #[.slice ag gs cg, .slice at' ts ct, .int .i64 ng]] w fun e w' => e = .returned (.int .i64 (need : Int)) ∧ Below w.heap.size w w' := by
  subst hq; exact tapeNeed_any ag at' gs cg ts ct ng w h1 h2

set_option maxRecDepth 100000 in
set_option maxHeartbeats 400000 in
theorem checkTape_ok (s : ByteArray) (need : Nat) (w : World) (h : need ≤ s.size) :
    Calls Tryd.prog 46 #[.string s, .int .i64 need] w fun e w' => e = .returned .nilIface ∧ w' = w := by
  go_enter Tryd.func46, Tryd.ntmps46
  go_wp2
  go_ret
  exact ⟨rfl, rfl⟩

end Go.Proofs.YtcegdgmbponapaaDoor
