/-
  The walk of cofferref.known: the points of a group that are told.
-/
import Derived.Test.YtcegdgmbponapaaDoorWRefKnown
import Derived.BigQuiet
namespace Go.Proofs.YtcegdgmbponapaaDoor
open Go.RowKit
attribute [local go_sem ↓] Go.wp_at_zero Go.wp_at_succ

def pts (F : Nat → UInt8 × UInt8) (k : Nat) : List Value := (List.range k).flatMap fun j => [.int .u8 ((F j).1.toNat : Int), .int .u8 ((F j).2.toNat : Int)]

theorem pts_snoc (F : Nat → UInt8 × UInt8) (k : Nat) : pts F (k + 1) = pts F k ++ [.int .u8 ((F k).1.toNat : Int), .int .u8 ((F k).2.toNat : Int)] := by
  simp [pts, List.range_succ]

theorem pts_length (F : Nat → UInt8 × UInt8) (k : Nat) : (pts F k).length = k * 2 := by
  induction k with
  | zero => rfl
  | succ k ih => rw [pts_snoc, List.length_append, ih]; simp; omega

theorem pts_at (F : Nat → UInt8 × UInt8) (k j : Nat) (h : j < k) : (pts F k)[j * 2]? = some (.int .u8 ((F j).1.toNat : Int)) ∧ (pts F k)[j * 2 + 1]? = some (.int .u8 ((F j).2.toNat : Int)) := by
  induction k with
  | zero => omega
  | succ k ih =>
    rw [pts_snoc]
    by_cases hj : j < k
    · rw [List.getElem?_append_left (by rw [pts_length]; omega), List.getElem?_append_left (by rw [pts_length]; omega)]
      exact ih hj
    · have : j = k := by omega
      subst this
      rw [List.getElem?_append_right (by rw [pts_length]; omega), List.getElem?_append_right (by rw [pts_length]; omega), pts_length]
      simp

/-- What is known of the g-th group. -/
def ptF (v tape : List UInt8) (mode t l g : Nat) (j : Nat) : UInt8 × UInt8 :=
  ((Cof.groupAt mode t l ++ Cof.tapeAt mode t).getD j 0, Cof.knownAt v tape (Cof.gsize mode t l) (Cof.tsize mode t) g j)

theorem Tryd.infoPoint : (Tryd.prog.info? 109).map (fun i => (i.zero, i.size, i.bytes)) = some (some (.agg #[.int .u8 0, .int .u8 0]), 2, 2) := by kernel_rfl

theorem byte_at (v : ByteArray) (q : Nat) (h : q < v.size) : v[q] = v.data.toList.getD q 0 := by
  have h' : q < v.data.size := h
  show v.data[q] = _
  rw [List.getD_eq_getElem?_getD, Array.getElem?_toList, Array.getElem?_eq_getElem h']; rfl

theorem owns_base {w : World} {base base' n size : Nat} {e : TypeId} {v : Value} {L : List Value} (h : w.ownsRow base e size v n L) (hb : base' ≤ base) : w.ownsRow base' e size v n L := by
  obtain ⟨o1, o2⟩ := h
  refine ⟨o1, ?_⟩
  rcases o2 with o2 | ⟨g, cap, cur, e1, e2, e3⟩
  · exact .inl o2
  · exact .inr ⟨g, cap, cur, e1, by omega, e3⟩

set_option maxRecDepth 100000 in
set_option maxHeartbeats 1000000 in
theorem known_disp (t g : Nat) (v tape : ByteArray) (w : World) (ht : t ≤ 8) (hp : IsPlan 1 t 1 t) (hg : g ≤ 60) (hv : v.size ≤ 60) :
    Calls Tryd.prog 54 #[.string v, .agg #[.int .i64 1, .int .i64 t, .int .i64 1], .string tape, .int .i64 g] w fun e w' =>
      ∃ r, e = .returned r ∧ w'.ownsRow w.heap.size 109 2 r t (pts (ptF v.data.toList tape.data.toList 1 t 1 g) t) ∧ Below w.heap.size w w' := by
  obtain ⟨i0, hi, hz0, hz1, hz2⟩ := info_parts Tryd.infoPoint
  have HGR := hid (fun w => show Calls Tryd.prog 59 #[.agg #[.int .i64 1, .int .i64 t, .int .i64 1]] w (fun e w' => e = .returned (.int .i64 t) ∧ Below w.heap.size w w') from rgroup_any 1 t 1 t w hp)
  obtain ⟨Q, hQ⟩ : ∃ Q, Q = g * t := ⟨_, rfl⟩
  have hQi : (g : Int) * (t : Int) = (Q : Int) := by rw [hQ]; simp
  have hQ8 : Q ≤ 60 * 8 := by rw [hQ]; exact Nat.mul_le_mul hg ht
  have HQ := hid hQ
  clear hQ hp
  go_enter Tryd.func54, Tryd.ntmps54
  go_wp2_with fail
  refine (HGR.out _).mono ?_
  rintro e w1 ⟨rfl, hb1⟩
  have hz1' : w.heap.size < w1.heap.size := by have := hb1.size; simp at this; omega
  have hc := (bcell hb1).1
  have p0 : w1.cell? ⟨w.heap.size, 0, none⟩ = some (.int .i64 1) := (hc _ _ (by simp)).trans (by simp)
  have p1 : w1.cell? ⟨w.heap.size, 1, none⟩ = some (.int .i64 t) := (hc _ _ (by simp)).trans (by simp)
  have hb01 : Below w.heap.size w w1 := ((Below.refl _ _).alloc (Nat.le_refl _) _).trans (hb1.mono (by simp))
  clear hc hb1
  go_wp2_with fail
  go_loopw [10, 11] (fun o i wr => ∃ k : Nat, k ≤ t ∧ i = .int .i64 k ∧ wr.ownsRow w1.heap.size 109 2 o k (pts (ptF v.data.toList tape.data.toList 1 t 1 g) k) ∧ Below w1.heap.size w1 wr)
    (fun _ i _ => t - (intOf i).toNat)
  case atStart => exact ⟨0, Nat.zero_le _, rfl, World.ownsRow_nil _ _ _ _, Below.refl _ _⟩
  case round =>
    obtain ⟨k, hk, rfl, hown, hbel⟩ := hrel
    have hzb := hbel.size
    have c0 : wr.cell? ⟨w.heap.size, 0, none⟩ = some (.int .i64 1) := (hbel.cell (by exact hz1')).trans p0
    have c1 : wr.cell? ⟨w.heap.size, 1, none⟩ = some (.int .i64 t) := (hbel.cell (by exact hz1')).trans p1
    have HO := hid hown
    clear hown
    by_cases hlt : k < t
    · obtain ⟨q, hq⟩ : ∃ q, q = Q + k := ⟨_, rfl⟩
      have hqi : (Q : Int) + (k : Int) = (q : Int) := by omega
      obtain ⟨a, ha⟩ : ∃ a, a = UInt8.ofNat (1 + k) := ⟨_, rfl⟩
      have hai : (k : Int) + 1 = (a.toNat : Int) := by rw [ha, ← u8_int _ (by omega)]; omega
      have ha6 : (a.toNat : Int) ≤ 255 := by have := a.toNat_lt; omega
      have HSN := hid (show pts (ptF v.data.toList tape.data.toList 1 t 1 g) (k + 1) = pts (ptF v.data.toList tape.data.toList 1 t 1 g) k ++ [.int .u8 (a.toNat : Int), .int .u8 ((v.data.toList.getD q 0).toNat : Int)] by
        rw [pts_snoc]
        have e1 : (ptF v.data.toList tape.data.toList 1 t 1 g k).1 = a := by
          rw [ha]; simp [ptF, Cof.groupAt, Cof.tapeAt, Cof.run, hlt]
        have e2 : (ptF v.data.toList tape.data.toList 1 t 1 g k).2 = v.data.toList.getD q 0 := by
          rw [hq, HQ.out]; simp [ptF, Cof.knownAt, Cof.gsize, hlt]
        rw [e1, e2])
      generalize pts (ptF v.data.toList tape.data.toList 1 t 1 g) k = X at *
      have hk1 : (k : Int) < (t : Int) := by omega
      by_cases hqv : q < v.size
      · have hq1 : (q : Int) < (v.size : Int) := by omega
        have hq0 : (0 : Int) ≤ (q : Int) := by omega
        have hy := byte_at v q hqv
        rw [← hy] at HSN
        clear ha hq hy
        go_wp2_with ((at_builtin; refine wpList_append_lies _ rfl (.tmp 44) (.tmp 49) 103 rfl w1.heap.size 109 i0 (.agg #[.int .u8 0, .int .u8 0]) 2 2 Tryd.underlying103 hi hz0 hz1 hz2 rfl (by decide) u10 _ X rfl (HO.out.alloc _) ⟨wr.heap.size, 0, none⟩ 1 1 [.int .u8 a.toNat, .int .u8 (v[q]).toNat] rfl rfl (World.news_of_block (cs := #[.int .u8 a.toNat, .int .u8 (v[q]).toNat]) (t := 109) (fr := (0, 0)) (heap_alloc_new wr _)) (by simp [Value.oneCell']) (by decide) (by unfold maxLen; omega) (by omega) (by simp <;> omega) (wr.heap.size + 1) (by simp) ?_; intro g5 c5 w5 hown5 hgrow5 hat5 _; have HO5 := hid hown5; have hb5 : Below w1.heap.size w1 w5 := (hbel.alloc hzb _).grown hgrow5 (by simp <;> omega) (fun b hb => (HO.out.lt b hb).1); rw [← HSN.out] at HO5; clear hown5 hgrow5 hat5))
        go_roundw
        case rel => exact ⟨k + 1, by omega, by go_num, HO5.out, hb5⟩
        case measure => simp [intOf]; omega
      · have hq1 : ¬ (q : Int) < (v.size : Int) := by omega
        have hy : v.data.toList.getD q 0 = 0 := by
          rw [List.getD_eq_getElem?_getD, List.getElem?_eq_none (by have : v.data.size = v.size := rfl; simp; omega)]; rfl
        rw [hy] at HSN
        clear ha hq hy
        go_wp2_with ((at_builtin; refine wpList_append_lies _ rfl (.tmp 44) (.tmp 49) 103 rfl w1.heap.size 109 i0 (.agg #[.int .u8 0, .int .u8 0]) 2 2 Tryd.underlying103 hi hz0 hz1 hz2 rfl (by decide) u10 _ X rfl (HO.out.alloc _) ⟨wr.heap.size, 0, none⟩ 1 1 [.int .u8 a.toNat, .int .u8 0] rfl rfl (World.news_of_block (cs := #[.int .u8 a.toNat, .int .u8 0]) (t := 109) (fr := (0, 0)) (heap_alloc_new wr _)) (by simp [Value.oneCell']) (by decide) (by unfold maxLen; omega) (by omega) (by simp <;> omega) (wr.heap.size + 1) (by simp) ?_; intro g5 c5 w5 hown5 hgrow5 hat5 _; have HO5 := hid hown5; have hb5 : Below w1.heap.size w1 w5 := (hbel.alloc hzb _).grown hgrow5 (by simp <;> omega) (fun b hb => (HO.out.lt b hb).1); rw [show ([.int .u8 (a.toNat : Int), .int .u8 0] : List Value) = [.int .u8 (a.toNat : Int), .int .u8 ((0 : UInt8).toNat : Int)] from rfl, ← HSN.out] at HO5; clear hown5 hgrow5 hat5))
        go_roundw
        case rel => exact ⟨k + 1, by omega, by go_num, HO5.out, hb5⟩
        case measure => simp [intOf]; omega
    · have hkn : k = t := by omega
      subst hkn
      have hk1 : ¬ (k : Int) < (k : Int) := by omega
      go_wp2_with fail
      refine wp_loop_rounds 1 ?_
      rw [rounds_succ]
      go_wp2
      go_ret
      exact ⟨_, rfl, owns_base HO.out (by omega), hb01.trans (hbel.mono hb01.size)⟩

set_option maxRecDepth 100000 in
set_option maxHeartbeats 1000000 in
theorem known_shr (u l n g : Nat) (v tape : ByteArray) (w : World) (hp : IsPlan 0 (u + 1) l n) (hg : g ≤ 60) (hv : v.size ≤ 60) (htp : u * g + u ≤ tape.size) :
    Calls Tryd.prog 54 #[.string v, .agg #[.int .i64 0, .int .i64 ((u : Int) + 1), .int .i64 l], .string tape, .int .i64 g] w fun e w' =>
      ∃ r, e = .returned r ∧ w'.ownsRow w.heap.size 109 2 r (l + u) (pts (ptF v.data.toList tape.data.toList 0 (u + 1) l g) (l + u)) ∧ Below w.heap.size w w' := by
  obtain ⟨i0, hi, hz0, hz1, hz2⟩ := info_parts Tryd.infoPoint
  have HGR := hid (fun w => show Calls Tryd.prog 59 #[.agg #[.int .i64 0, .int .i64 ((u : Int) + 1), .int .i64 l]] w (fun e w' => e = .returned (.int .i64 l) ∧ Below w.heap.size w w') from rgroup_any 0 (u + 1) l n w hp)
  have hl8 : l ≤ 8 := by have := hp.n8; rcases hp.md with h | h <;> omega
  have hu8 : u ≤ 7 := by have := hp.n8; have := hp.tn; omega
  obtain ⟨Q, hQ⟩ : ∃ Q, Q = g * l := ⟨_, rfl⟩
  have hQi : (g : Int) * (l : Int) = (Q : Int) := by rw [hQ]; simp
  have hQ8 : Q ≤ 60 * 8 := by rw [hQ]; exact Nat.mul_le_mul hg hl8
  have HQ := hid hQ
  obtain ⟨R, hR⟩ : ∃ R, R = g * u := ⟨_, rfl⟩
  have hRi : (g : Int) * (u : Int) = (R : Int) := by rw [hR]; simp
  have hR8 : R ≤ 60 * 7 := by rw [hR]; exact Nat.mul_le_mul hg hu8
  have hRt : R + u ≤ tape.size := by rw [hR, Nat.mul_comm]; exact htp
  have HR := hid hR
  have hwu : IntKind.i64.wrap (u : Int) = u := by rw [IntKind.wrap_i64]; omega
  clear hQ hR hp htp
  go_enter Tryd.func54, Tryd.ntmps54
  go_wp2_with fail
  refine (HGR.out _).mono ?_
  rintro e w1 ⟨rfl, hb1⟩
  have hz1' : w.heap.size < w1.heap.size := by have := hb1.size; simp at this; omega
  have hc := (bcell hb1).1
  have p0 : w1.cell? ⟨w.heap.size, 0, none⟩ = some (.int .i64 0) := (hc _ _ (by simp)).trans (by simp)
  have p1 : w1.cell? ⟨w.heap.size, 1, none⟩ = some (.int .i64 ((u : Int) + 1)) := (hc _ _ (by simp)).trans (by simp)
  have hb01 : Below w.heap.size w w1 := ((Below.refl _ _).alloc (Nat.le_refl _) _).trans (hb1.mono (by simp))
  clear hc hb1
  go_wp2_with fail
  go_loopw [10, 11] (fun o i wr => ∃ k : Nat, k ≤ l ∧ i = .int .i64 k ∧ wr.ownsRow w1.heap.size 109 2 o k (pts (ptF v.data.toList tape.data.toList 0 (u + 1) l g) k) ∧ Below w1.heap.size w1 wr)
    (fun _ i _ => l - (intOf i).toNat)
  case atStart => exact ⟨0, Nat.zero_le _, rfl, World.ownsRow_nil _ _ _ _, Below.refl _ _⟩
  case round =>
    obtain ⟨k, hk, rfl, hown, hbel⟩ := hrel
    have hzb := hbel.size
    have c0 : wr.cell? ⟨w.heap.size, 0, none⟩ = some (.int .i64 0) := (hbel.cell (by exact hz1')).trans p0
    have c1 : wr.cell? ⟨w.heap.size, 1, none⟩ = some (.int .i64 ((u : Int) + 1)) := (hbel.cell (by exact hz1')).trans p1
    have HO := hid hown
    clear hown
    by_cases hlt : k < l
    · obtain ⟨q, hq⟩ : ∃ q, q = Q + k := ⟨_, rfl⟩
      have hqi : (Q : Int) + (k : Int) = (q : Int) := by omega
      obtain ⟨a, ha⟩ : ∃ a, a = UInt8.ofNat (128 + k) := ⟨_, rfl⟩
      have hai : (128 : Int) + (k : Int) = (a.toNat : Int) := by rw [ha, ← u8_int _ (by omega)]; omega
      have ha6 : (a.toNat : Int) ≤ 255 := by have := a.toNat_lt; omega
      have HSN := hid (show pts (ptF v.data.toList tape.data.toList 0 (u + 1) l g) (k + 1) = pts (ptF v.data.toList tape.data.toList 0 (u + 1) l g) k ++ [.int .u8 (a.toNat : Int), .int .u8 ((v.data.toList.getD q 0).toNat : Int)] by
        rw [pts_snoc]
        have e1 : (ptF v.data.toList tape.data.toList 0 (u + 1) l g k).1 = a := by
          rw [ha]; simp [ptF, Cof.groupAt, Cof.tapeAt, Cof.run, hlt, List.getElem?_append]
        have e2 : (ptF v.data.toList tape.data.toList 0 (u + 1) l g k).2 = v.data.toList.getD q 0 := by
          rw [hq, HQ.out]; simp [ptF, Cof.knownAt, Cof.gsize, hlt]
        rw [e1, e2])
      generalize pts (ptF v.data.toList tape.data.toList 0 (u + 1) l g) k = X at *
      have hk1 : (k : Int) < (l : Int) := by omega
      by_cases hqv : q < v.size
      · have hq1 : (q : Int) < (v.size : Int) := by omega
        have hq0 : (0 : Int) ≤ (q : Int) := by omega
        have hy := byte_at v q hqv
        rw [← hy] at HSN
        clear ha hq hy
        go_wp2_with ((at_builtin; refine wpList_append_lies _ rfl (.tmp 44) (.tmp 49) 103 rfl w1.heap.size 109 i0 (.agg #[.int .u8 0, .int .u8 0]) 2 2 Tryd.underlying103 hi hz0 hz1 hz2 rfl (by decide) u10 _ X rfl (HO.out.alloc _) ⟨wr.heap.size, 0, none⟩ 1 1 [.int .u8 a.toNat, .int .u8 (v[q]).toNat] rfl rfl (World.news_of_block (cs := #[.int .u8 a.toNat, .int .u8 (v[q]).toNat]) (t := 109) (fr := (0, 0)) (heap_alloc_new wr _)) (by simp [Value.oneCell']) (by decide) (by unfold maxLen; omega) (by omega) (by simp <;> omega) (wr.heap.size + 1) (by simp) ?_; intro g5 c5 w5 hown5 hgrow5 hat5 _; have HO5 := hid hown5; have hb5 : Below w1.heap.size w1 w5 := (hbel.alloc hzb _).grown hgrow5 (by simp <;> omega) (fun b hb => (HO.out.lt b hb).1); rw [← HSN.out] at HO5; clear hown5 hgrow5 hat5))
        go_roundw
        case rel => exact ⟨k + 1, by omega, by go_num, HO5.out, hb5⟩
        case measure => simp [intOf]; omega
      · have hq1 : ¬ (q : Int) < (v.size : Int) := by omega
        have hy : v.data.toList.getD q 0 = 0 := by
          rw [List.getD_eq_getElem?_getD, List.getElem?_eq_none (by have : v.data.size = v.size := rfl; simp; omega)]; rfl
        rw [hy] at HSN
        clear ha hq hy
        go_wp2_with ((at_builtin; refine wpList_append_lies _ rfl (.tmp 44) (.tmp 49) 103 rfl w1.heap.size 109 i0 (.agg #[.int .u8 0, .int .u8 0]) 2 2 Tryd.underlying103 hi hz0 hz1 hz2 rfl (by decide) u10 _ X rfl (HO.out.alloc _) ⟨wr.heap.size, 0, none⟩ 1 1 [.int .u8 a.toNat, .int .u8 0] rfl rfl (World.news_of_block (cs := #[.int .u8 a.toNat, .int .u8 0]) (t := 109) (fr := (0, 0)) (heap_alloc_new wr _)) (by simp [Value.oneCell']) (by decide) (by unfold maxLen; omega) (by omega) (by simp <;> omega) (wr.heap.size + 1) (by simp) ?_; intro g5 c5 w5 hown5 hgrow5 hat5 _; have HO5 := hid hown5; have hb5 : Below w1.heap.size w1 w5 := (hbel.alloc hzb _).grown hgrow5 (by simp <;> omega) (fun b hb => (HO.out.lt b hb).1); rw [show ([.int .u8 (a.toNat : Int), .int .u8 0] : List Value) = [.int .u8 (a.toNat : Int), .int .u8 ((0 : UInt8).toNat : Int)] from rfl, ← HSN.out] at HO5; clear hown5 hgrow5 hat5))
        go_roundw
        case rel => exact ⟨k + 1, by omega, by go_num, HO5.out, hb5⟩
        case measure => simp [intOf]; omega
    · have hkn : k = l := by omega
      rw [hkn] at HO
      have hk1 : ¬ (k : Int) < (l : Int) := by omega
      clear hkn
      go_wp2_with fail
      go_loopw [10, 14] (fun o i wr => ∃ r : Nat, r ≤ u ∧ i = .int .i64 r ∧ wr.ownsRow w1.heap.size 109 2 o (l + r) (pts (ptF v.data.toList tape.data.toList 0 (u + 1) l g) (l + r)) ∧ Below w1.heap.size w1 wr)
        (fun _ i _ => u - (intOf i).toNat)
      case atStart => exact ⟨0, Nat.zero_le _, rfl, HO.out, hbel⟩
      case round =>
        clear HO c0 c1 hzb hbel
        obtain ⟨r, hr, rfl, hown, hbel⟩ := hrel
        have hzb := hbel.size
        have c0 := (hbel.cell (p := ⟨w.heap.size, 0, none⟩) (by exact hz1')).trans p0
        have c1 := (hbel.cell (p := ⟨w.heap.size, 1, none⟩) (by exact hz1')).trans p1
        have HO := hid hown
        clear hown
        by_cases hlt : r < u
        · obtain ⟨q, hq⟩ : ∃ q, q = R + r := ⟨_, rfl⟩
          have hqi : (R : Int) + (r : Int) = (q : Int) := by omega
          have hqt : q < tape.size := by omega
          have hq0 : (0 : Int) ≤ (q : Int) := by omega
          have hq1 : (q : Int) < (tape.size : Int) := by omega
          obtain ⟨a, ha⟩ : ∃ a, a = UInt8.ofNat (192 + r) := ⟨_, rfl⟩
          have hai : (192 : Int) + (r : Int) = (a.toNat : Int) := by rw [ha, ← u8_int _ (by omega)]; omega
          have ha6 : (a.toNat : Int) ≤ 255 := by have := a.toNat_lt; omega
          have HSN := hid (show pts (ptF v.data.toList tape.data.toList 0 (u + 1) l g) (l + r + 1) = pts (ptF v.data.toList tape.data.toList 0 (u + 1) l g) (l + r) ++ [.int .u8 (a.toNat : Int), .int .u8 ((tape[q]).toNat : Int)] by
            rw [pts_snoc]
            have e1 : (ptF v.data.toList tape.data.toList 0 (u + 1) l g (l + r)).1 = a := by
              rw [ha]; simp [ptF, Cof.groupAt, Cof.tapeAt, Cof.run, hlt]
            have e2 : (ptF v.data.toList tape.data.toList 0 (u + 1) l g (l + r)).2 = tape[q] := by
              rw [byte_at tape q hqt, hq, HR.out]; simp [ptF, Cof.knownAt, Cof.gsize, Cof.tsize]; omega
            rw [e1, e2])
          obtain ⟨c, hc⟩ : ∃ c, c = l + r := ⟨_, rfl⟩
          have HC := hid hc
          rw [← hc] at HSN HO
          have hc15 : c ≤ 15 := by omega
          generalize pts (ptF v.data.toList tape.data.toList 0 (u + 1) l g) c = X at *
          have hr1 : (r : Int) < (u : Int) := by omega
          clear ha hq hc
          go_wp2_with ((at_builtin; refine wpList_append_lies _ rfl (.tmp 63) (.tmp 77) 103 rfl w1.heap.size 109 i0 (.agg #[.int .u8 0, .int .u8 0]) 2 2 Tryd.underlying103 hi hz0 hz1 hz2 rfl (by decide) u10 _ X rfl (HO.out.alloc _) ⟨wr.heap.size, 0, none⟩ 1 1 [.int .u8 a.toNat, .int .u8 (tape[q]).toNat] rfl rfl (World.news_of_block (cs := #[.int .u8 a.toNat, .int .u8 (tape[q]).toNat]) (t := 109) (fr := (0, 0)) (heap_alloc_new wr _)) (by simp [Value.oneCell']) (by decide) (by unfold maxLen; omega) (by omega) (by simp <;> omega) (wr.heap.size + 1) (by simp) ?_; intro g5 c5 w5 hown5 hgrow5 hat5 _; have HO5 := hid hown5; have hb5 : Below w1.heap.size w1 w5 := (hbel.alloc hzb _).grown hgrow5 (by simp <;> omega) (fun b hb => (HO.out.lt b hb).1); rw [← HSN.out] at HO5; clear hown5 hgrow5 hat5))
          go_roundw
          case rel => exact ⟨r + 1, by omega, by go_num, by rw [show l + (r + 1) = c + 1 by rw [HC.out]; omega]; exact HO5.out, hb5⟩
          case measure => simp [intOf]; omega
        · have hrn : r = u := by omega
          rw [hrn] at HO
          have hr1 : ¬ (r : Int) < (u : Int) := by omega
          clear hrn
          go_wp2
          go_ret
          exact ⟨_, rfl, owns_base HO.out (by omega), hb01.trans (hbel.mono hb01.size)⟩

/-- The points of a group, for Share and for Disperse. -/
theorem rknown_any (mode t l n g : Nat) (v tape : ByteArray) (w : World) (hp : IsPlan mode t l n) (hv : v.size ≤ 60) (hg : g < Cof.ngroups mode t l v.size) (htp : Cof.tsize mode t * Cof.ngroups mode t l v.size ≤ tape.size) :
    Calls Tryd.prog 54 #[.string v, .agg #[.int .i64 mode, .int .i64 t, .int .i64 l], .string tape, .int .i64 g] w fun e w' =>
      ∃ r, e = .returned r ∧ w'.ownsRow w.heap.size 109 2 r (Cof.gsize mode t l + Cof.tsize mode t) (pts (ptF v.data.toList tape.data.toList mode t l g) (Cof.gsize mode t l + Cof.tsize mode t)) ∧ Below w.heap.size w w' := by
  have hng := ngroups_le hp v.size hv
  have hmul := Nat.mul_le_mul_left (Cof.tsize mode t) (show g + 1 ≤ Cof.ngroups mode t l v.size from hg)
  have h8 := Nat.le_trans hp.tn hp.n8
  have h1 := hp.t1
  rcases hp.md with ⟨rfl, h6⟩ | ⟨rfl, rfl⟩
  · obtain ⟨u, rfl⟩ : ∃ u, t = u + 1 := ⟨t - 1, by omega⟩
    have := known_shr u l n g v tape w hp (by omega) hv (by simp [Cof.tsize] at hmul htp; rw [Nat.mul_add] at hmul; omega)
    simpa [Cof.gsize, Cof.tsize] using this
  · have := known_disp t g v tape w h8 ⟨h1, h8, h1, Nat.le_refl _, Nat.le_refl _, .inr ⟨rfl, rfl⟩⟩ (by omega) hv
    simpa [Cof.gsize, Cof.tsize] using this
end Go.Proofs.YtcegdgmbponapaaDoor
