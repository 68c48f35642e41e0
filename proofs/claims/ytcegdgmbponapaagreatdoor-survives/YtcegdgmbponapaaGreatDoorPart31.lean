/-
  Pieces put together: the polynomial through any of them, as many as the threshold, is the one that they were cut by. Nothing of the program in it.
  The walk of cutting.gathered.
-/
import Derived.Test.YtcegdgmbponapaaGreatDoorPart30
import Derived.Test.YtcegdgmbponapaaGreatDoorPart09
import Derived.Test.YtcegdgmbponapaaGreatDoorPart29
namespace Cof

/-- What gathered has: group by group the bytes of all rows. -/
def gather (rows : List (List UInt8)) (G : Nat) : List UInt8 := (List.range G).flatMap fun g => rows.map fun r => r.getD g 0

/-- The value of the pieces that are taken: of each its store and its bytes. -/
def join (mode t l size : Nat) (ss : List Nat) (rows : List (List UInt8)) : List UInt8 :=
  (gather (carry (ss.map fun s => UInt8.ofNat (1 + s)) rows (groupAt mode t l)) (ngroups mode t l size)).take size

theorem gather_length (rows : List (List UInt8)) (G : Nat) : (gather rows G).length = G * rows.length := by
  induction G with
  | zero => simp [gather]
  | succ G ih =>
    have : gather rows (G + 1) = gather rows G ++ rows.map fun r => r.getD G 0 := by simp [gather, List.range_succ]
    rw [this, List.length_append, ih]; simp [Nat.succ_mul]

theorem groupAt_length (mode t l : Nat) : (groupAt mode t l).length = gsize mode t l := by
  unfold groupAt gsize; split <;> simp [length_run]
theorem tapeAt_length (mode t : Nat) : (tapeAt mode t).length = tsize mode t := by
  unfold tapeAt tsize; split <;> simp [length_run]

theorem known_nodup (mode t l : Nat) (ht : t ≤ 8) (hl : l ≤ 8) : (groupAt mode t l ++ tapeAt mode t).Nodup := by
  unfold groupAt tapeAt
  split
  · rw [List.append_nil]; exact run_nodup 1 t (by omega)
  · exact frm_nodup l (t - 1) hl (by omega)

theorem pieceAt_itp' (v tape : List UInt8) (mode t l i g : Nat) :
    pieceAt v tape mode t l i g = itp (groupAt mode t l ++ tapeAt mode t) ((List.range (gsize mode t l + tsize mode t)).map (knownAt v tape (gsize mode t l) (tsize mode t) g)) (UInt8.ofNat (1 + i)) := by
  unfold pieceAt itp
  rw [List.length_append, groupAt_length, tapeAt_length]
  apply csum_congr
  intro j hj
  refine ⟨rfl, ?_⟩
  simp [hj]

theorem flat_range (h : Nat → UInt8) (w G : Nat) : ((List.range G).flatMap fun g => (List.range w).map fun j => h (g * w + j)) = (List.range (G * w)).map h := by
  induction G with
  | zero => simp
  | succ G ih => rw [List.range_succ, List.flatMap_append, ih, Nat.succ_mul, List.range_add]; simp

/-- The stores' points differ. -/
theorem stores_nodup (ss : List Nat) (hn : ss.Nodup) (h8 : ∀ s ∈ ss, s < 8) : (ss.map fun s => UInt8.ofNat (1 + s)).Nodup := by
  have := few_nodup ss hn h8
  have e : (ss.map fun s => UInt8.ofNat (1 + s)) = ss.map fun f => UInt8.ofNat (f + 1) := List.map_congr_left fun s _ => by rw [Nat.add_comm]
  rw [e]; exact this

/-- Any pieces, as many as the threshold, give the value. -/
theorem join_split (v tape : List UInt8) (mode t l n : Nat) (ss : List Nat) (hg0 : 0 < gsize mode t l) (ht : t ≤ 8) (hl : l ≤ 8) (htp : tape.length = tsize mode t * ngroups mode t l v.length)
    (hn : ss.Nodup) (h8 : ∀ s ∈ ss, s < 8) (hsn : ∀ s ∈ ss, s < n) (hth : ss.length = gsize mode t l + tsize mode t) :
    join mode t l v.length ss (ss.map fun s => (split v mode t l n tape).getD s []) = v := by
  have key : ∀ g j, g < ngroups mode t l v.length → j < gsize mode t l → (carryTo (ss.map fun s => UInt8.ofNat (1 + s)) (ss.map fun s => (split v mode t l n tape).getD s []) ((groupAt mode t l).getD j 0) ss.length).getD g 0 = v.getD (g * gsize mode t l + j) 0 := by
    intro g j hg hj
    rw [carryTo_getD]
    have e1 : csum (fun k => polyAt (basis (ss.map fun s => UInt8.ofNat (1 + s)) k) ((groupAt mode t l).getD j 0)) (fun k => ((ss.map fun s => (split v mode t l n tape).getD s []).getD k []).getD g 0) ss.length
        = itp (ss.map fun s => UInt8.ofNat (1 + s)) (ss.map fun s => pieceAt v tape mode t l s g) ((groupAt mode t l).getD j 0) := by
      unfold itp
      rw [List.length_map]
      apply csum_congr
      intro k hk
      refine ⟨rfl, ?_⟩
      have hsk : ss[k] < n := hsn _ (List.getElem_mem hk)
      simp only [List.getD_eq_getElem?_getD, List.getElem?_map, List.getElem?_eq_getElem hk, Option.map_some, Option.getD_some]
      have := split_row v tape mode t l n ss[k] hsk hg0 htp
      rw [List.getD_eq_getElem?_getD] at this
      rw [this]
      simp [hg]
    rw [e1, itp_transfer (ss.map fun s => UInt8.ofNat (1 + s)) _ (groupAt mode t l ++ tapeAt mode t) ((List.range (gsize mode t l + tsize mode t)).map (knownAt v tape (gsize mode t l) (tsize mode t) g)) (stores_nodup ss hn h8)
      (by rw [List.length_append, groupAt_length, tapeAt_length, List.length_map, hth]) (fun k hk => ?_)]
    · have e2 : (groupAt mode t l).getD j 0 = (groupAt mode t l ++ tapeAt mode t).getD j 0 := by rw [app_get_left _ _ _ (by rw [groupAt_length]; exact hj)]
      rw [e2, itp_node _ _ (known_nodup mode t l ht hl) j (by rw [List.length_append, groupAt_length, tapeAt_length]; omega)]
      have : j < gsize mode t l + tsize mode t := by omega
      simp [this, knownAt, hj]
    · have hk' : k < ss.length := by simpa using hk
      rw [show (ss.map fun s => UInt8.ofNat (1 + s)).getD k 0 = UInt8.ofNat (1 + ss[k]) by simp [hk'], ← pieceAt_itp']
      simp [hk']
  unfold join gather carry
  have e3 : ((List.range (ngroups mode t l v.length)).flatMap fun g => ((groupAt mode t l).map fun x => carryTo (ss.map fun s => UInt8.ofNat (1 + s)) (ss.map fun s => (split v mode t l n tape).getD s []) x (ss.map fun s => (split v mode t l n tape).getD s []).length).map fun r => r.getD g 0)
      = (List.range (ngroups mode t l v.length)).flatMap fun g => (List.range (gsize mode t l)).map fun j => v.getD (g * gsize mode t l + j) 0 := by
    refine congrArg List.flatten (List.map_congr_left fun g hg => ?_)
    have hg := List.mem_range.1 hg
    rw [List.map_map, List.length_map]
    apply List.ext_getElem
    · simp [groupAt_length]
    · intro j h1 h2
      have hj : j < gsize mode t l := by simpa using h2
      have hj2 : j < (groupAt mode t l).length := by rw [groupAt_length]; exact hj
      have := key g j hg hj
      rw [show (groupAt mode t l).getD j 0 = (groupAt mode t l)[j] by simp [hj2]] at this
      simpa using this
  rw [e3, flat_range (fun i => v.getD i 0)]
  apply List.ext_getElem
  · rw [List.length_take, List.length_map, List.length_range]
    have : v.length ≤ ngroups mode t l v.length * gsize mode t l := by
      unfold ngroups
      have h1 := Nat.div_add_mod (v.length + gsize mode t l - 1) (gsize mode t l)
      have h2 := Nat.mod_lt (v.length + gsize mode t l - 1) hg0
      rw [Nat.mul_comm]
      omega
    omega
  · intro i h1 h2
    simp [h2]
end Cof

namespace Go.Proofs.YtcegdgmbponapaaGreatDoor
open Go.RowKit
attribute [local go_sem ↓] Go.wp_at_zero Go.wp_at_succ

theorem gather_succ (rows : List (List UInt8)) (g : Nat) : Cof.gather rows (g + 1) = Cof.gather rows g ++ rows.map fun r => r.getD g 0 := by simp [Cof.gather, List.range_succ]

set_option maxRecDepth 100000 in
set_option maxHeartbeats 1000000 in
theorem gathered_any (aR : Option Addr) (W c G : Nat) (rows : List (List UInt8)) (w : World) (ew : W = rows.length) (hr : RdRows w aR rows) (hW : W ≤ 8) (hG : G ≤ 60) (hlen : ∀ k, k < W → G ≤ (rows.getD k []).length) (hlen2 : ∀ k, (rows.getD k []).length ≤ 500) :
    Calls Tryz.prog 101 #[.slice aR W c, .int .i64 G] w fun e w' => ∃ v, e = .returned v ∧ w'.ownsRow w.heap.size 5 1 v (G * W) (bs (Cof.gather rows G)) ∧ Below w.heap.size w w' := by
  obtain ⟨i0, hi, hz0, hz1, hz2⟩ := info_parts Tryz.info5
  have EW := hid ew
  have HL := hid hlen
  have HL2 := hid hlen2
  clear ew hlen hlen2
  go_enter Tryz.func101, Tryz.ntmps101
  go_wp2_with fail
  go_loopw [5, 10] (fun o i wr => ∃ g : Nat, g ≤ G ∧ i = .int .i64 g ∧ wr.ownsRow w.heap.size 5 1 o (g * W) (bs (Cof.gather rows g)) ∧ Below w.heap.size w wr) (fun _ i _ => G - (intOf i).toNat)
  case atStart => exact ⟨0, Nat.zero_le _, rfl, by rw [Nat.zero_mul]; exact World.ownsRow_nil _ _ _ _, Below.refl _ _⟩
  case round =>
    obtain ⟨g, hg, rfl, hown, hbel⟩ := hrel
    by_cases hlt : g < G
    · obtain ⟨Z, hZ⟩ : ∃ Z, Z = Cof.gather rows g := ⟨_, rfl⟩
      rw [← hZ] at hown
      have hZl : Z.length = g * W := by rw [hZ, Cof.gather_length, EW.out]
      have hgW : g * W ≤ 480 := Nat.mul_le_mul (show g ≤ 60 by omega) hW
      have HZ := hid hZ
      have HZL := hid hZl
      clear hZ hZl
      go_wp2_with fail
      go_loopw [5, 15] (fun o i wq => ∃ j : Nat, j ≤ W ∧ i = .int .i64 j ∧ wq.ownsRow w.heap.size 5 1 o (Z ++ (rows.take j).map fun r => r.getD g 0).length (bs (Z ++ (rows.take j).map fun r => r.getD g 0)) ∧ Below w.heap.size w wq) (fun _ i _ => W - (intOf i).toNat)
      case atStart => exact ⟨0, Nat.zero_le _, rfl, by rw [List.take_zero, List.map_nil, List.append_nil, HZL.out]; exact hown, hbel⟩
      case round =>
        obtain ⟨j, hj, rfl, hown2, hbq⟩ := hrel
        have hzq := hbq.size
        by_cases hjW : j < W
        · have hjl : j < rows.length := by rw [← EW.out]; exact hjW
          obtain ⟨b, o, a', cap', rfl, hb, h1, h2⟩ := hr.at j hjl
          have c1 : wr.cell? ⟨b, o + j, none⟩ = some (.slice a' (rows.getD j []).length cap') := (hbq.cell (by exact hb)).trans h1
          have hgl : g < (rows.getD j []).length := Nat.lt_of_lt_of_le hlt (HL.out j hjW)
          obtain ⟨x, hx⟩ : ∃ x, x = (rows.getD j []).getD g 0 := ⟨_, rfl⟩
          obtain ⟨b2, o2, rfl, hb2, h3⟩ := h2.pos (by rw [bs_length]; omega)
          have c2 : wr.cell? ⟨b2, o2 + g, none⟩ = some (.int .u8 x.toNat) := (hbq.cell (by exact hb2)).trans (by rw [hx]; exact h3 g _ (bs_get _ _ hgl))
          have HR := hid (show Z ++ (rows.take (j + 1)).map (fun r => r.getD g 0) = (Z ++ (rows.take j).map (fun r => r.getD g 0)) ++ [x] by
            rw [List.take_succ_eq_append_getElem hjl, List.map_append, List.append_assoc, hx]; simp [hjl])
          have hl1 : (Z ++ (rows.take j).map (fun r => r.getD g 0)).length ≤ 500 := by rw [List.length_append, HZL.out, List.length_map, List.length_take]; omega
          have hrl := HL2.out j
          have HO := hid hown2
          generalize Z ++ (rows.take j).map (fun r => r.getD g 0) = Y at *
          generalize (rows.getD j []).length = rl at *
          have hj1 : (j : Int) < (W : Int) := by omega
          have hg1 : (g : Int) < (rl : Int) := by omega
          clear h1 h2 h3 hx hown2 hr hown
          go_wp2_with (first | (at_builtin; refine wpList_append_own _ rfl (.tmp 19) (.tmp 24) 50 rfl w.heap.size 5 i0 (.int .u8 0) 1 1 Tryz.underlying50 hi hz0 hz1 hz2 rfl (by decide) _ _ (bs Y) rfl (HO.out.alloc _) ⟨wr.heap.size, 0, none⟩ 1 1 [.int .u8 x.toNat] rfl rfl (World.news_of_block (cs := #[.int .u8 x.toNat]) (t := 5) (fr := (0, 0)) (heap_alloc_new wr _)) (by simp [Value.oneCell']) (by unfold maxLen; omega) (by omega) (by simp; omega) ?_; intro v5 w5 hown5 hgrow5 _; have hb5 : Below w.heap.size w w5 := (hbq.alloc hzq _).grown hgrow5 (by simp; omega) (fun b hb => (HO.out.lt b hb).1); rw [← bs_snoc] at hown5; have HO5 := hid hown5; clear hown5 hgrow5) | fail)
          go_roundw
          case rel => exact ⟨j + 1, by omega, by go_num, by rw [HR.out, List.length_append]; exact HO5.out, hb5⟩
          case measure => simp [intOf]; omega
        · have hj1 : ¬ (j : Int) < (W : Int) := by omega
          have hjn : j = W := by omega
          have hfin : wr.ownsRow w.heap.size 5 1 u5 ((g + 1) * W) (bs (Cof.gather rows (g + 1))) := by
            rw [hjn, List.take_of_length_le (by rw [← EW.out]; exact Nat.le_refl _), HZ.out, ← gather_succ, Cof.gather_length, ← EW.out] at hown2
            exact hown2
          have HF := hid hfin
          clear hfin hjn hown2 hown
          go_wp2_with fail
          go_roundw
          case rel => exact ⟨g + 1, by omega, by go_num, HF.out, hbq⟩
          case measure => simp [intOf]; omega
    · have hg1 : ¬ (g : Int) < (G : Int) := by omega
      have hgn : g = G := by omega
      rw [hgn] at hown
      have HO := hid hown
      clear hown hgn
      go_wp2_with fail
      go_ret
      exact ⟨_, rfl, HO.out, hbel⟩
end Go.Proofs.YtcegdgmbponapaaGreatDoor
