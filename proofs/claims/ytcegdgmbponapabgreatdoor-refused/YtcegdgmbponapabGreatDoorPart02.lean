/-
  The walks of package cutting on a plan that fits: fits, checkPlan, known, layoutFor, tapeNeed, checkTape.
  Conversions between strings and bytes; rows that are dealt out one byte at a time.
  The walk of cutting.dealt.
-/
import Derived.Test.YtcegdgmbponapabGreatDoorPart01
import Derived.Deep.RegionWith
import Derived.Deep.DrawnRows
import Derived.Deep.RegionHeld3
import Derived.Test.YtcegdgmbponapabGreatDoorPart00
import Derived.Laws.IdiomStrings
import Derived.Deep.AppendLies
import Derived.Deep.RegionLaw
namespace Go.Proofs.YtcegdgmbponapabGreatDoor
open Go.RowKit

/-- It is a plan for n stores. -/
structure IsPlan (mode t l n : Nat) : Prop where
  n1 : 1 ≤ n
  n8 : n ≤ 8
  t1 : 1 ≤ t
  tn : t ≤ n
  l1 : 1 ≤ l
  md : mode = 0 ∧ t + l ≤ n + 1 ∨ mode = 1 ∧ l = 1

set_option maxRecDepth 100000 in
set_option maxHeartbeats 400000 in
theorem fits_ok (mode t l n : Nat) (w : World) (h : IsPlan mode t l n) :
    Calls Tryz.prog 170 #[.agg #[.int .i64 mode, .int .i64 t, .int .i64 l], .int .i64 n] w fun e w' => e = .returned (.bool true) ∧ Below w.heap.size w w' := by
  obtain ⟨h1, h2, h3, h4, h5, h6⟩ := h
  rcases h6 with ⟨rfl, h6⟩ | ⟨rfl, rfl⟩
  · go_enter Tryz.func170, Tryz.ntmps170
    go_wp2
    go_ret
    refine ⟨?_, (Below.refl _ _).alloc (Nat.le_refl _) _⟩
    simp
    omega
  · go_enter Tryz.func170, Tryz.ntmps170
    go_wp2
    go_ret
    exact ⟨rfl, (Below.refl _ _).alloc (Nat.le_refl _) _⟩

set_option maxRecDepth 100000 in
set_option maxHeartbeats 400000 in
theorem checkPlan_ok (mode t l n : Nat) (w : World) (h : IsPlan mode t l n) :
    Calls Tryz.prog 138 #[.agg #[.int .i64 mode, .int .i64 t, .int .i64 l], .int .i64 n] w fun e w' => e = .returned .nilIface ∧ Below w.heap.size w w' := by
  have h1 := h.n1
  have h2 := h.n8
  go_enter Tryz.func138, Tryz.ntmps138
  go_wp2_with (go_at_call 170; refine (fits_ok mode t l n _ h).mono ?_; rintro e w1 ⟨rfl, hb1⟩)
  go_ret
  exact ⟨rfl, ((Below.refl _ _).alloc (Nat.le_refl _) _).trans (hb1.mono (by simp))⟩

attribute [local go_sem ↓] Go.wp_at_zero Go.wp_at_succ

set_option maxRecDepth 100000 in
set_option maxHeartbeats 400000 in
theorem known_disperse (t l : Nat) (w : World) (ht : t ≤ 8) :
    Calls Tryz.prog 139 #[.agg #[.int .i64 1, .int .i64 t, .int .i64 l]] w fun e w' =>
      ∃ g, e = .returned (.tuple #[.slice (some ⟨g, 0, none⟩) t t, .slice none 0 0]) ∧ Rd w' (some ⟨g, 0, none⟩) (bs (Cof.run 1 t)) ∧ Below w.heap.size w w' ∧ w.heap.size ≤ g := by
  go_enter Tryz.func139, Tryz.ntmps139
  go_wp2_with (go_at_call 121; refine (run_any 1 t _ (by omega)).mono ?_; rintro e w1 ⟨g, rfl, hrd, hb1, hg1⟩)
  go_ret2
  exact ⟨_, rfl, hrd, ((Below.refl _ _).alloc (Nat.le_refl _) _).trans (hb1.mono (by simp)), by simp at hg1; omega⟩

set_option maxRecDepth 100000 in
set_option maxHeartbeats 1000000 in
theorem known_share (u l : Nat) (w : World) (ht : u ≤ 7) (hl : l ≤ 8) :
    Calls Tryz.prog 139 #[.agg #[.int .i64 0, .int .i64 ((u : Int) + 1), .int .i64 l]] w fun e w' =>
      ∃ g1 g2, e = .returned (.tuple #[.slice (some ⟨g1, 0, none⟩) l l, .slice (some ⟨g2, 0, none⟩) u u]) ∧ Rd w' (some ⟨g1, 0, none⟩) (bs (Cof.run 128 l)) ∧ Rd w' (some ⟨g2, 0, none⟩) (bs (Cof.run 192 u)) ∧ Below w.heap.size w w' ∧ w.heap.size ≤ g1 ∧ w.heap.size ≤ g2 := by
  have hw : IntKind.i64.wrap (u : Int) = u := by rw [IntKind.wrap_i64]; omega
  go_enter Tryz.func139, Tryz.ntmps139
  go_wp2
  go_region_held3 (fun w' => w'.cell? ⟨w.heap.size, 1, none⟩ = some (.int .i64 ((u : Int) + 1)) ∧ w'.cell? ⟨w.heap.size, 2, none⟩ = some (.int .i64 l)) (first | exact ⟨s3, s4⟩ | exact ⟨s1, s2⟩ | go_keep)
    (first
      | (go_at_call_of 121 (Value.int .i64 128); refine (run_any 128 l _ (by omega)).mono ?_; rintro e w1 ⟨g1, rfl, hrd1, hb1, hg1⟩; have s1 : w1.cell? ⟨w.heap.size, 1, none⟩ = some (.int .i64 ((u : Int) + 1)) := (hb1.cell (by simp)).trans (by simp); have s2 : w1.cell? ⟨w.heap.size, 2, none⟩ = some (.int .i64 l) := (hb1.cell (by simp)).trans (by simp))
      | (go_at_call_of 121 (Value.int .i64 192); refine (run_any 192 u _ (by omega)).mono ?_; rintro e w2 ⟨g2, rfl, hrd2, hb2, hg2⟩; have s3 : w2.cell? ⟨w.heap.size, 1, none⟩ = some (.int .i64 ((u : Int) + 1)) := (hb2.cell (by have := hb1.size; simp at this; show w.heap.size < w1.heap.size; omega)).trans s1; have s4 : w2.cell? ⟨w.heap.size, 2, none⟩ = some (.int .i64 l) := (hb2.cell (by have := hb1.size; simp at this; show w.heap.size < w1.heap.size; omega)).trans s2))
  go_wp2
  go_ret2
  have hz := hb1.size
  simp at hz hg1
  exact ⟨g1, g2, rfl, hrd1.below hb2 (Nat.le_refl _), hrd2, ((((Below.refl _ _).alloc (Nat.le_refl _) _).drew).trans (hb1.mono (by simp))).trans (hb2.mono (by omega)), by omega, by omega⟩

/-- What layoutFor answers: the layout's three fields. -/
structure Lay (w : World) (mode t l base : Nat) (ag : Option Addr) (cg : Nat) (at' : Option Addr) (ct : Nat) : Prop where
  g : Rd w ag (bs (Cof.groupAt mode t l))
  t : Rd w at' (bs (Cof.tapeAt mode t))
  gz : ag = none → cg = 0
  tz : at' = none → ct = 0
  gf : ∀ ad, ag = some ad → base ≤ ad.block
  tf : ∀ ad, at' = some ad → base ≤ ad.block

theorem Lay.below {B : Nat} {w w' : World} {mode t l base : Nat} {ag : Option Addr} {cg : Nat} {at' : Option Addr} {ct : Nat} (h : Lay w mode t l base ag cg at' ct) (hb : Below B w w') (hB : w.heap.size ≤ B) : Lay w' mode t l base ag cg at' ct :=
  ⟨h.g.below hb hB, h.t.below hb hB, h.gz, h.tz, h.gf, h.tf⟩

theorem Lay.setCell {w : World} {mode t l base g k : Nat} {ag : Option Addr} {cg : Nat} {at' : Option Addr} {ct : Nat} (h : Lay w mode t l base ag cg at' ct) (hg : g < base) (u : Value) : Lay (w.setCell ⟨g, k, none⟩ u) mode t l base ag cg at' ct :=
  ⟨h.g.setCell_far (fun ad e => by have := h.gf ad e; omega) u, h.t.setCell_far (fun ad e => by have := h.tf ad e; omega) u, h.gz, h.tz, h.gf, h.tf⟩

theorem Lay.mono {w : World} {mode t l base base' : Nat} {ag : Option Addr} {cg : Nat} {at' : Option Addr} {ct : Nat} (h : Lay w mode t l base ag cg at' ct) (hb : base' ≤ base) : Lay w mode t l base' ag cg at' ct :=
  ⟨h.g, h.t, h.gz, h.tz, fun ad e => Nat.le_trans hb (h.gf ad e), fun ad e => Nat.le_trans hb (h.tf ad e)⟩

set_option maxRecDepth 100000 in
set_option maxHeartbeats 1000000 in
theorem known_ok (mode t l n : Nat) (w : World) (h : IsPlan mode t l n) :
    Calls Tryz.prog 139 #[.agg #[.int .i64 mode, .int .i64 t, .int .i64 l]] w fun e w' =>
      ∃ ag cg at' ct, e = .returned (.tuple #[.slice ag (Cof.gsize mode t l) cg, .slice at' (Cof.tsize mode t) ct]) ∧ Lay w' mode t l w.heap.size ag cg at' ct ∧ Below w.heap.size w w' := by
  obtain ⟨h1, h2, h3, h4, h5, h6⟩ := h
  rcases h6 with ⟨rfl, h6⟩ | ⟨rfl, rfl⟩
  · obtain ⟨u, rfl⟩ : ∃ u, t = u + 1 := ⟨t - 1, by omega⟩
    refine (known_share u l w (by omega) (by omega)).mono ?_
    rintro e w' ⟨g1, g2, rfl, r1, r2, hb, f1, f2⟩
    exact ⟨some ⟨g1, 0, none⟩, l, some ⟨g2, 0, none⟩, u, rfl, ⟨r1, r2, (fun h => by cases h), (fun h => by cases h), (fun ad h => by cases h; exact f1), (fun ad h => by cases h; exact f2)⟩, hb⟩
  · refine (known_disperse t 1 w (by omega)).mono ?_
    rintro e w' ⟨g1, rfl, r1, hb, f1⟩
    exact ⟨some ⟨g1, 0, none⟩, t, none, 0, rfl, ⟨r1, Rd.nil _ _, (fun h => by cases h), (fun _ => rfl), (fun ad h => by cases h; exact f1), (fun ad h => by cases h)⟩, hb⟩

set_option maxRecDepth 100000 in
set_option maxHeartbeats 1000000 in
theorem layoutFor_ok (mode t l n size : Nat) (w : World) (h : IsPlan mode t l n) (hs : size ≤ 60) :
    Calls Tryz.prog 99 #[.agg #[.int .i64 mode, .int .i64 t, .int .i64 l], .int .i64 n, .int .i64 size] w fun e w' =>
      ∃ ag cg at' ct, e = .returned (.tuple #[.agg #[.slice ag (Cof.gsize mode t l) cg, .slice at' (Cof.tsize mode t) ct, .int .i64 (Cof.ngroups mode t l size)], .nilIface]) ∧ Lay w' mode t l w.heap.size ag cg at' ct ∧ Below w.heap.size w w' := by
  have hg1 : 1 ≤ Cof.gsize mode t l := by have := h.t1; have := h.l1; unfold Cof.gsize; split <;> omega
  have hg2 : Cof.gsize mode t l ≤ 8 := by obtain ⟨_, _, _, _, _, h6⟩ := h; unfold Cof.gsize; split <;> omega
  have HN : Hid (Cof.ngroups mode t l size = (size + Cof.gsize mode t l - 1) / Cof.gsize mode t l) := rfl
  go_enter Tryz.func99, Tryz.ntmps99
  go_wp2_with fail
  refine (checkPlan_ok mode t l n _ h).mono ?_
  rintro e w1 ⟨rfl, hb1⟩
  obtain ⟨hc1, hf1⟩ := bcell hb1
  go_wp2_with fail
  refine (known_ok mode t l n _ h).mono ?_
  rintro e w2 ⟨ag, cg, at', ct, rfl, hlay, hb2⟩
  obtain ⟨hc2, hf2⟩ := bcell hb2
  have hz1 : w.heap.size + 1 < w1.heap.size := by have := hb1.size; simp at this; omega
  generalize hgs : Cof.gsize mode t l = gs at *
  generalize hts : Cof.tsize mode t = ts at *
  have HG := hid hgs
  have HT := hid hts
  clear hgs hts
  go_wp2
  have hd : ((size : Int) + gs - 1) / gs = (Cof.ngroups mode t l size : Int) := by
    rw [HN.out]; have : ((size + gs - 1 : Nat) : Int) = (size : Int) + gs - 1 := by omega
    rw [Int.natCast_ediv, this]
  rw [hd]
  refine bodyPost_ret (v := .tuple #[.agg #[.slice ag gs cg, .slice at' ts ct, .int .i64 (Cof.ngroups mode t l size)], .nilIface]) ?_ rfl ⟨ag, cg, at', ct, by rw [HG.out, HT.out], ?_, ?_⟩
  · simp [results, Tryz.results99, go_sem, hc2, hc1, hz1]
  · exact (((hlay.setCell (g := w.heap.size + 1) (k := 0) hz1 _).setCell (g := w.heap.size + 1) hz1 _).setCell (g := w.heap.size + 1) hz1 _).mono (by omega)
  · exact ((((((Below.refl _ _).alloc (Nat.le_refl _) _).alloc (by simp) _).trans (hb1.mono (by simp; omega))).trans (hb2.mono (by omega))).setCell (by simp) _ |>.setCell (by simp) _).setCell (by simp) _

set_option maxRecDepth 100000 in
set_option maxHeartbeats 400000 in
theorem tapeNeed_any (ag at' : Option Addr) (gs cg ts ct ng : Nat) (w : World) (h1 : ts ≤ 8) (h2 : ng ≤ 60) :
    Calls Tryz.prog 117 #[.agg #[.slice ag gs cg, .slice at' ts ct, .int .i64 ng]] w fun e w' => e = .returned (.int .i64 ((ts * ng : Nat) : Int)) ∧ Below w.heap.size w w' := by
  have hm : ts * ng ≤ 8 * 60 := Nat.mul_le_mul h1 h2
  go_enter Tryz.func117, Tryz.ntmps117
  go_wp2
  go_ret
  exact ⟨ret_int (by simp), (Below.refl _ _).alloc (Nat.le_refl _) _⟩

theorem tapeNeed_n (ag at' : Option Addr) (gs cg ts ct ng need : Nat) (w : World) (h1 : ts ≤ 8) (h2 : ng ≤ 60) (hq : ts * ng = need) :
    Calls Tryz.prog 117 #[.agg #[.slice ag gs cg, .slice at' ts ct, .int .i64 ng]] w fun e w' => e = .returned (.int .i64 (need : Int)) ∧ Below w.heap.size w w' := by
  subst hq; exact tapeNeed_any ag at' gs cg ts ct ng w h1 h2

set_option maxRecDepth 100000 in
set_option maxHeartbeats 400000 in
theorem checkTape_ok (s : ByteArray) (need : Nat) (w : World) (h : need ≤ s.size) :
    Calls Tryz.prog 116 #[.string s, .int .i64 need] w fun e w' => e = .returned .nilIface ∧ w' = w := by
  go_enter Tryz.func116, Tryz.ntmps116
  go_wp2
  go_ret
  exact ⟨rfl, rfl⟩

end Go.Proofs.YtcegdgmbponapabGreatDoor

namespace Go.Proofs.YtcegdgmbponapabGreatDoor
open Go.RowKit

/-- '[]byte(s)'. -/
theorem conv_bytes (w : World) (s : ByteArray) : ∃ cap w', (convert 9 44 (.string s)).run Tryz.prog w = .ok (.slice (some ⟨w.heap.size, 0, none⟩) s.size cap) w' ∧ Rd w' (some ⟨w.heap.size, 0, none⟩) (bs s.data.toList) ∧ Below w.heap.size w w' ∧ w'.heap.size = w.heap.size + 1 := by
  refine ⟨_, _, run_bytes_of_string w 9 44 5 s Tryz.underlying9 Tryz.underlying44 Tryz.underlying5, ?_, ?_, ?_⟩
  · intro k v hk
    have hkl : k < s.data.size := by
      rcases Nat.lt_or_ge k s.data.size with h | h
      · exact h
      · rw [List.getElem?_eq_none (by simpa [bs] using h)] at hk; simp at hk
    refine ⟨w.heap.size, 0, rfl, by simp, ?_⟩
    rw [Nat.zero_add]
    have := World.cell?_alloc_mark w.drew (bytesRow s (grownCap w s.size 0 5)) 5 ((bytesRow s (grownCap w s.size 0 5)).size, (bytesRow s (grownCap w s.size 0 5)).size + 1) k
    rw [show w.drew.heap.size = w.heap.size from rfl, bytesRow_at s _ k hkl] at this
    rw [this]
    simp only [bs, List.getElem?_map, Array.getElem?_toList, Array.getElem?_eq_getElem hkl, Option.map_some] at hk
    exact hk
  · exact ((Below.refl _ _).drew).alloc (Nat.le_refl _) _
  · simp

/-- 'string(b)'. -/
theorem conv_string (w : World) (a : Option Addr) (cap n : Nat) (xs : List UInt8) (en : n = xs.length) (hr : Rd w a (bs xs)) : (convert 44 9 (.slice a n cap)).run Tryz.prog w = .ok (.string ⟨xs.toArray⟩) w := by
  subst en
  cases a with
  | none =>
    have : xs = [] := by
      cases xs with
      | nil => rfl
      | cons x r => obtain ⟨b, o, h, _⟩ := hr 0 _ rfl; cases h
    subst this
    rw [run_convert_bytes_string w 44 9 5 none _ cap Tryz.underlying44 Tryz.underlying5 Tryz.underlying9]
    rfl
  | some ad =>
    refine run_convert_bytes_back w 44 9 5 ad cap xs Tryz.underlying44 Tryz.underlying5 Tryz.underlying9 ?_
    intro j hj
    obtain ⟨b, o, h1, h2, h3⟩ := hr j _ (bs_get xs j hj)
    cases h1
    rw [add_at, h3]
    simp [hj]

theorem owns_below {B : Nat} {w W : World} {base n : Nat} {e : TypeId} {v : Value} {xs : List Value} (h : w.ownsRow base e 1 v n xs) (hb : Below B w W) (hB : w.heap.size ≤ B) : W.ownsRow base e 1 v n xs := by
  obtain ⟨h1, h2⟩ := h
  refine ⟨h1, ?_⟩
  rcases h2 with h2 | ⟨g, cap, cur, e1, e2, e3, e4⟩
  · exact .inl h2
  · have hg : g < w.heap.size := by
      rcases Nat.lt_or_ge g w.heap.size with h | h
      · exact h
      · rw [Array.getElem?_eq_none h] at e3; cases e3
    exact .inr ⟨g, cap, cur, e1, e2, by rw [hb.block g (by omega)]; exact e3, e4⟩

/-- Rows of the call's own, each in memory of its own, in a row of slices of the call's own. -/
structure Deal (w : World) (base g0 width B2 : Nat) (rows : Nat → List UInt8) (vs : List Value) : Prop where
  own : w.ownsRow base 44 1 (.slice (some ⟨g0, 0, none⟩) width width) width vs
  row : ∀ (j : Nat) (v : Value), vs[j]? = some v → w.ownsRow B2 5 1 v (rows j).length (bs (rows j))
  apart : ∀ (i j : Nat) (vi vj : Value), i ≠ j → vs[i]? = some vi → vs[j]? = some vj → vi.ownBlock = none ∨ vi.ownBlock ≠ vj.ownBlock
  lt : g0 < B2
  le : B2 ≤ w.heap.size

theorem Deal.step {w W w1 : World} {base g0 width B2 r g cap : Nat} {rows rows' : Nat → List UInt8} {vs : List Value} {v : Value} {x : UInt8} (h : Deal w base g0 width B2 rows vs) (hr : vs[r]? = some v)
    (hbW : Below w.heap.size w W) (hown : w1.ownsRow B2 5 1 (.slice (some ⟨g, 0, none⟩) ((rows r).length + 1) cap) ((rows r).length + 1) (bs (rows r) ++ [.int .u8 x.toNat]))
    (hgrow : W.grownBy w1 v.ownBlock) (hat : v.ownBlock = some g ∨ g = W.heap.size) (e1 : rows' r = rows r ++ [x]) (e2 : ∀ j, j ≠ r → rows' j = rows j) :
    Deal (w1.setCell ⟨g0, r, none⟩ (.slice (some ⟨g, 0, none⟩) ((rows r).length + 1) cap)) base g0 width B2 rows' (vs.set r (.slice (some ⟨g, 0, none⟩) ((rows r).length + 1) cap)) := by
  have hrl : r < vs.length := (List.getElem?_eq_some_iff.1 hr).1
  have hv := h.row r v hr
  have hg0 : g0 < w.heap.size := (h.own.lt g0 rfl).2
  have hvb : ∀ k, v.ownBlock = some k → B2 ≤ k := fun k hk => (hv.lt k hk).1
  have hlt := h.lt
  refine ⟨?_, ?_, ?_, h.lt, ?_⟩
  · have hk : w1.ownsRow base 44 1 (.slice (some ⟨g0, 0, none⟩) width width) width vs := by
      refine (owns_below h.own hbW (Nat.le_refl _)).kept hgrow (.inr ?_)
      intro hc
      have := hvb g0 (by rw [← hc]; rfl)
      omega
    exact (hk.stored r _).1
  · intro j u hj
    rw [List.getElem?_set] at hj
    split at hj
    · rename_i hrj
      subst hrj
      simp at hj
      subst hj
      rw [e1]
      have : bs (rows r ++ [x]) = bs (rows r) ++ [.int .u8 x.toNat] := by simp [bs]
      rw [this, List.length_append]
      exact ownsRow_setCell_below hown (by exact hlt) _
    · rename_i hrj
      rw [e2 j (fun h => hrj h.symm)]
      refine ownsRow_setCell_below ((owns_below (h.row j u hj) hbW (Nat.le_refl _)).kept hgrow ?_) (by exact hlt) _
      exact h.apart j r u v (fun h => hrj h.symm) hj hr
  · have key : ∀ j u, j ≠ r → vs[j]? = some u → u.ownBlock = none ∨ u.ownBlock ≠ some g := by
      intro j u hjr hj
      rcases hat with hat | hat
      · have := h.apart j r u v hjr hj hr
        rw [hat] at this
        exact this
      · refine .inr ?_
        intro hc
        have := ((h.row j u hj).lt g hc).2
        have := hbW.size
        omega
    intro i j vi vj hij hi hj
    rw [List.getElem?_set] at hi hj
    split at hi
    · rename_i hri
      subst hri
      rw [if_neg (by omega)] at hj
      simp at hi
      subst hi
      rcases key j vj (by omega) hj with h' | h'
      · exact .inr (by rw [h']; simp [Value.ownBlock])
      · exact .inr (fun hc => h' (by rw [← hc]; rfl))
    · rename_i hri
      split at hj
      · rename_i hrj
        subst hrj
        simp at hj
        subst hj
        exact key i vi (by omega) hi
      · exact h.apart i j vi vj hij hi hj
  · have := hgrow.size
    have := hbW.size
    have := h.le
    have e : (w1.setCell ⟨g0, r, none⟩ (.slice (some ⟨g, 0, none⟩) ((rows r).length + 1) cap)).heap.size = w1.heap.size := by simp
    rw [e]; omega

/-- What was there ahead of the rows, the row of slices aside, stays. -/
theorem Deal.others {w W w1 : World} {base g0 width B2 r : Nat} {rows : Nat → List UInt8} {vs : List Value} {v u : Value} (h : Deal w base g0 width B2 rows vs) (hr : vs[r]? = some v)
    (hbW : Below w.heap.size w W) (hgrow : W.grownBy w1 v.ownBlock) (k : Nat) (hk : k < B2) (hne : k ≠ g0) : (w1.setCell ⟨g0, r, none⟩ u).heap[k]? = w.heap[k]? := by
  have hv := h.row r v hr
  have hle := h.le
  rw [Below.heap_setCell _ _ _ _ (by exact hne), hgrow.block k (by have := hbW.size; omega) ?_, hbW.block k (by omega)]
  intro hc
  have := (hv.lt k hc.symm).1
  omega

theorem Deal.cell {w : World} {base g0 width B2 r : Nat} {rows : Nat → List UInt8} {vs : List Value} (h : Deal w base g0 width B2 rows vs) (hr : r < width) : ∃ v, vs[r]? = some v ∧ w.cell? ⟨g0, r, none⟩ = some v ∧ w.frozen? ⟨g0, r, none⟩ = false ∧ w.ownsRow B2 5 1 v (rows r).length (bs (rows r)) := by
  have hl := (block_of_owns h.own).2.2
  obtain ⟨v, hv⟩ : ∃ v, vs[r]? = some v := ⟨_, List.getElem?_eq_getElem (by omega)⟩
  exact ⟨v, hv, by rw [h.own.cellAt r (by omega)]; exact hv, h.own.frozenAt r, h.row r v hv⟩

theorem Deal.full {w : World} {base g0 width B2 : Nat} {rows : Nat → List UInt8} {vs : List Value} (h : Deal w base g0 width B2 rows vs) : RdRows w (some ⟨g0, 0, none⟩) ((List.range width).map rows) := by
  have hl := (block_of_owns h.own).2.2
  refine ⟨vs, by simp [hl], owns_rd h.own, fun k v hv => ?_⟩
  have hk : k < width := by
    rcases Nat.lt_or_ge k width with h' | h'
    · exact h'
    · rw [List.getElem?_eq_none (by omega)] at hv; simp at hv
  obtain ⟨a, cap, h1, h2⟩ := owns_any_rd (h.row k v hv)
  exact ⟨a, cap, by simpa [hk] using h1, by simpa [hk] using h2⟩

theorem Deal.start {w : World} {base g0 width B2 : Nat} (h : w.ownsRow base 44 1 (.slice (some ⟨g0, 0, none⟩) width width) width (List.replicate width (.slice none 0 0))) (h1 : g0 < B2) (h2 : B2 ≤ w.heap.size) :
    Deal w base g0 width B2 (fun _ => []) (List.replicate width (.slice none 0 0)) := by
  refine ⟨h, ?_, ?_, h1, h2⟩
  · intro j v hj
    rw [List.getElem?_replicate] at hj
    split at hj
    · simp at hj; subst hj; exact World.ownsRow_nil _ _ _ _
    · cases hj
  · intro i j vi vj _ hi _
    rw [List.getElem?_replicate] at hi
    split at hi
    · simp at hi; subst hi; exact .inl rfl
    · cases hi
end Go.Proofs.YtcegdgmbponapabGreatDoor

namespace Go.Proofs.YtcegdgmbponapabGreatDoor
open Go.RowKit
attribute [local go_sem ↓] Go.wp_at_zero Go.wp_at_succ

theorem dealRow_succ (text : List UInt8) (width j k : Nat) : Cof.dealRow text width j (k + 1) = if k % width = j then Cof.dealRow text width j k ++ [text.getD k 0] else Cof.dealRow text width j k := by
  unfold Cof.dealRow
  rw [List.range_succ, List.filter_append, List.map_append]
  split
  · rename_i h; simp [h]
  · rename_i h; simp [h]

theorem dealRow_le (text : List UInt8) (width j k : Nat) : (Cof.dealRow text width j k).length ≤ k := by
  unfold Cof.dealRow
  rw [List.length_map]
  exact Nat.le_trans (List.length_filter_le _ _) (by simp)

set_option maxRecDepth 100000 in
set_option maxHeartbeats 1000000 in
theorem dealt_any (s : ByteArray) (width groups : Nat) (w : World) (hw : width ≤ 8) (hg : groups ≤ 60) :
    Calls Tryz.prog 120 #[.string s, .int .i64 width, .int .i64 groups] w fun e w' =>
      ∃ g, e = .returned (.slice (some ⟨g, 0, none⟩) width width) ∧ RdRows w' (some ⟨g, 0, none⟩) (Cof.deal s.data.toList width groups) ∧ Below w.heap.size w w' := by
  obtain ⟨i0, hi, hz0, hz1, hz2⟩ := info_parts Tryz.infoRow
  obtain ⟨i5, hi5, hy0, hy1, hy2⟩ := info_parts Tryz.info5
  have hm : width * groups ≤ 8 * 60 := Nat.mul_le_mul hw hg
  have hmi : (width : Int) * (groups : Int) = ((width * groups : Nat) : Int) := by simp
  have hmb : (width : Int) * (groups : Int) ≤ 480 := by rw [hmi]; omega
  have hma : (0 : Int) ≤ (width : Int) * (groups : Int) := by rw [hmi]; omega
  have HM := hid hmi
  clear hmi
  go_enter Tryz.func120, Tryz.ntmps120
  go_wp2_with (first | (at_make; refine wpList_make_full _ rfl (.tmp 10) (.tmp 10) 73 rfl w.heap.size 44 i0 (.slice none 0 0) 1 Tryz.underlying73 hi hz0 hz1 .i64 .i64 _ _ width rfl rfl rfl rfl (by rw [hz2]; omega) (by unfold maxLen; omega) (Nat.le_refl _) ?_; intro w1 hown1 hgrow1; have hb1 := grown_below hgrow1; have HO1 := hid (made_rows (fun _ => []) hown1).own; clear hown1 hgrow1; obtain ⟨cap1, w2, hconv, hrd2, hb2, hs2⟩ := conv_bytes w1 s; have HS2 := hid hs2; clear hs2) | fail)
  rw [HM.out]
  generalize hN : width * groups = N at *
  have HN := hid hN
  clear hN hmb hma
  refine (filledB _ _ s.data.toList N _ (by exact hrd2) (by omega)).mono ?_
  rintro e w3 ⟨f, rfl, hown3, hb3⟩
  have hg0 : w.heap.size < w1.heap.size := (HO1.out.lt _ rfl).2
  have hf0 : w2.heap.size ≤ f ∧ f < w3.heap.size := hown3.lt f rfl
  have hz12 : w1.heap.size < w2.heap.size := by rw [HS2.out]; omega
  have hb23 : Below w1.heap.size w1 w3 := hb2.trans (hb3.mono (by omega))
  have HF := hid (owns_rd hown3)
  have HD := hid (Deal.start (owns_below HO1.out hb23 (Nat.le_refl _)) (show w.heap.size < w3.heap.size by have := hb23.size; omega) (Nat.le_refl _))
  have hb : Below w.heap.size w w3 := hb1.trans (hb23.mono (by omega))
  clear hown3 hconv hrd2 hb1 hb2 hb3 hb23
  go_wp2
  go_loopw [19] (fun i wr => ∃ (k : Nat) (vs : List Value), k ≤ N ∧ i = .int .i64 k ∧ Deal wr w.heap.size w.heap.size width w3.heap.size (fun j => Cof.dealRow s.data.toList width j k) vs ∧ wr.heap[f]? = w3.heap[f]? ∧ Below w.heap.size w wr)
    (fun i _ => N - (intOf i).toNat)
  case atStart => exact ⟨0, _, Nat.zero_le _, rfl, HD.out, rfl, hb⟩
  case round =>
    obtain ⟨k, vs, hk, rfl, hdeal, hkept, hbel⟩ := hrel
    have HK := hid hkept
    clear hkept
    by_cases hlt : k < N
    · have hw0 : 0 < width := by
        rcases Nat.eq_zero_or_pos width with h | h
        · have := HN.out; rw [h] at this; omega
        · exact h
      obtain ⟨r, hr⟩ : ∃ r, r = k % width := ⟨_, rfl⟩
      have hrw : r < width := by rw [hr]; exact Nat.mod_lt _ hw0
      have hri : (k : Int) % (width : Int) = (r : Int) := by rw [hr]; simp
      have hrt : (k : Int).tmod (width : Int) = (r : Int) := by rw [Int.tmod_eq_emod_of_nonneg (by omega)]; exact hri
      have hwr : IntKind.i64.wrap (r : Int) = r := by rw [IntKind.wrap_i64]; omega
      have hw1 : ((width : Int) == 0) = false := by rw [beq_eq_false_iff_ne]; omega
      have hw2 : width ≠ 0 := by omega
      have hr0 : (0 : Int) ≤ (r : Int) := by omega
      have hr1 : (r : Int) < (width : Int) := by omega
      have HR := hid hr
      clear hr
      obtain ⟨v, hv, hcell, hfr, hown⟩ := hdeal.cell hrw
      obtain ⟨x, hx⟩ : ∃ x, x = s.data.toList.getD k 0 := ⟨_, rfl⟩
      have hsrc : wr.cell? ⟨f, k, none⟩ = some (.int .u8 x.toNat) := by
        rw [World.cell?_of_block (a := ⟨f, k, none⟩) HK.out]
        obtain ⟨b, o, e1, _, e3⟩ := HF.out k (.int .u8 x.toNat) (by rw [bs_get _ _ (by rw [Cof.length_fillRow]; exact hlt), fill_at _ _ _ hlt, hx])
        cases e1
        rw [Nat.zero_add] at e3
        exact e3
      have HX := hid hx
      have HDL := hid hdeal
      have HV := hid hv
      have hle := dealRow_le s.data.toList width r k
      have hB2 : w3.heap.size ≤ wr.heap.size := hdeal.le
      have HOWN := hid hown
      clear hx hdeal hv hown
      have hfar : ∀ c, (wr.alloc (.cells c 5)).cell? ⟨w.heap.size, r, none⟩ = some v ∧ (wr.alloc (.cells c 5)).frozen? ⟨w.heap.size, r, none⟩ = false := fun c => by
        have hb' := (Below.refl wr.heap.size wr).alloc (Nat.le_refl _) (.cells c 5)
        have hg1 : w.heap.size < wr.heap.size := by omega
        exact ⟨(hb'.cell (by exact hg1)).trans hcell, (hb'.frozen (by exact hg1)).trans hfr⟩
      have HFAR := hid hfar
      have hfar1 : ∀ c, (wr.alloc (.cells c 5)).cell? ⟨w.heap.size, r, none⟩ = some v := fun c => (hfar c).1
      have hvb : v.ownBlock ≠ some w.heap.size := by
        intro hc
        have := (HOWN.out.lt _ hc).1
        omega
      clear hfar
      go_wp2_with fail
      go_region_law ((refine step_append_lies _ (by rfl) _ _ _ (by rfl) w3.heap.size 5 i5 (.int .u8 0) 1 1 Tryz.underlying44 hi5 hy0 hy1 hy2 rfl (by omega) v _ _ (by rfl) ((HOWN.out.alloc _).drew) ⟨wr.heap.size, 0, none⟩ 1 1 [.int .u8 x.toNat] (by rfl) (by rfl) (World.news_of_block (cs := #[.int .u8 x.toNat]) (t := 5) (fr := (0, 0)) (heap_alloc_new wr _)) (by simp [Value.oneCell']) (by omega) (by unfold maxLen; omega) (by omega) (by simp; omega) (wr.heap.size + 1) (by simp) ?_; intro g cap w4 hown4 hgrow4 hat4 hlt4; have c1 : w4.cell? ⟨w.heap.size, r, none⟩ = some v := (hgrow4.cell_far _ (by simp; omega) (Ne.symm hvb)).trans (HFAR.out _).1; have f1 : w4.frozen? ⟨w.heap.size, r, none⟩ = false := (hgrow4.frozen_far _ (by simp; omega) (Ne.symm hvb)).trans (HFAR.out _).2))
      all_goals
        have hbW : Below wr.heap.size wr (wr.alloc (.cells #[.int .u8 x.toNat] 5)).drew := ((Below.refl wr.heap.size wr).alloc (Nat.le_refl _) _).drew
        have HST := hid (HDL.out.step (rows' := fun j => Cof.dealRow s.data.toList width j (k + 1)) HV.out hbW hown4 hgrow4 (by simpa using hat4) (by show Cof.dealRow _ _ _ _ = _; rw [dealRow_succ, if_pos HR.out.symm, HX.out]) (fun j hj => by show Cof.dealRow _ _ _ _ = _; rw [dealRow_succ, if_neg (by rw [← HR.out]; omega)]))
        have HKP := hid ((HDL.out.others (u := .slice (some ⟨g, 0, none⟩) ((Cof.dealRow s.data.toList width r k).length + 1) cap) HV.out hbW hgrow4 f hf0.2 (by omega)).trans HK.out)
        have hbf : Below w.heap.size w w4 := ((hbel.trans (hbW.mono hbel.size)).grown hgrow4 (by have := hbel.size; simp; omega) (fun k hk => Nat.le_trans (by omega) (HOWN.out.lt k hk).1))
        clear hown4 hgrow4 hat4 hlt4
        go_wp2
        go_roundw
        case rel => exact ⟨k + 1, _, by omega, by go_num, HST.out, HKP.out, hbf.setCell (Nat.le_refl _) _⟩
        case measure => simp [intOf]; omega
    · have hkn : k = N := by omega
      subst hkn
      have HF2 := hid hdeal.full
      clear hdeal
      go_wp2
      go_ret
      exact ⟨_, rfl, by rw [← HN.out] at HF2; exact HF2.out, hbel⟩

end Go.Proofs.YtcegdgmbponapabGreatDoor
