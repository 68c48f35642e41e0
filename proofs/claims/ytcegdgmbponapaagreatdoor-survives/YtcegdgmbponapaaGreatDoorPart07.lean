/-
  Lists of ints and of pieces, as cells.
  The walks of cofferkeep.in and cofferkeep.chosen.
-/
import Derived.Test.YtcegdgmbponapaaGreatDoorPart06
namespace Go.Proofs.YtcegdgmbponapaaGreatDoor
open Go.RowKit

def ints (ss : List Nat) : List Value := ss.map fun (s : Nat) => .int .i64 (s : Int)
def pcs (rows : List (List UInt8)) (ss : List Nat) : List Value := ss.flatMap fun (s : Nat) => [.int .i64 (s : Int), str (rows.getD s [])]

theorem ints_get (ss : List Nat) (k : Nat) (h : k < ss.length) : (ints ss)[k]? = some (.int .i64 ss[k]) := by simp [ints, h]
theorem pcs_length (rows : List (List UInt8)) (ss : List Nat) : (pcs rows ss).length = ss.length * 2 := by
  induction ss with
  | nil => rfl
  | cons s r ih => simp only [pcs, List.flatMap_cons, List.length_append] at ih ⊢; rw [ih]; simp; omega
theorem pcs_snoc (rows : List (List UInt8)) (ss : List Nat) (k : Nat) (h : k < ss.length) : pcs rows (ss.take (k + 1)) = pcs rows (ss.take k) ++ [.int .i64 ss[k], str (rows.getD ss[k] [])] := by
  rw [List.take_succ_eq_append_getElem h]; unfold pcs; rw [List.flatMap_append]; rfl
theorem pcs_at (rows : List (List UInt8)) (ss : List Nat) (k : Nat) (h : k < ss.length) : (pcs rows ss)[k * 2]? = some (.int .i64 ss[k]) ∧ (pcs rows ss)[k * 2 + 1]? = some (str (rows.getD ss[k] [])) := by
  induction ss generalizing k with
  | nil => simp at h
  | cons s r ih =>
    cases k with
    | zero => simp [pcs]
    | succ k =>
      have := ih k (by simpa using h)
      simp only [pcs, List.flatMap_cons] at this ⊢
      rw [show (k + 1) * 2 = k * 2 + 2 from by omega, show k * 2 + 2 + 1 = (k * 2 + 1) + 2 from by omega]
      simpa using this

theorem Tryz.infoPiece : (Tryz.prog.info? 63).map (fun i => (i.zero, i.size, i.bytes)) = some (some (.agg #[.int .i64 0, .string ByteArray.empty]), 2, 24) := by kernel_rfl
end Go.Proofs.YtcegdgmbponapaaGreatDoor

namespace Go.Proofs.YtcegdgmbponapaaGreatDoor
open Go.RowKit
attribute [local go_sem ↓] Go.wp_at_zero Go.wp_at_succ

theorem pigeon : ∀ (n : Nat) (ss : List Nat), ss.Nodup → (∀ f, f < n → f ∈ ss) → n ≤ ss.length
  | 0, _, _, _ => Nat.zero_le _
  | n + 1, ss, hn, h => by
    have h1 : n ∈ ss := h n (by omega)
    have h2 := pigeon n (ss.erase n) (hn.erase n) (fun f hf => (List.mem_erase_of_ne (by omega)).2 (h f (by omega)))
    rw [List.length_erase_of_mem h1] at h2
    have : 0 < ss.length := List.length_pos_of_mem h1
    omega

theorem free_store (n : Nat) (ss : List Nat) (hn : ss.Nodup) (hl : ss.length < n) : ∃ f, f < n ∧ f ∉ ss := by
  refine Classical.byContradiction fun hc => ?_
  have : n ≤ ss.length := pigeon n ss hn (fun f hf => Classical.byContradiction fun h => hc ⟨f, hf, h⟩)
  omega

/-- How far it is from k to f, round n. -/
def dist (n f k : Nat) : Nat := (f + n - k) % n

theorem dist_step (n f k : Nat) (hf : f < n) (hk : k < n) (h : k ≠ f) : dist n f ((k + 1) % n) < dist n f k := by
  unfold dist
  by_cases h1 : k + 1 = n
  · have e1 : (k + 1) % n = 0 := by rw [h1]; exact Nat.mod_self n
    rw [e1]
    have e2 : (f + n - 0) % n = f := by rw [Nat.sub_zero, Nat.add_mod_right]; exact Nat.mod_eq_of_lt hf
    have e3 : (f + n - k) % n = f + 1 := by rw [show f + n - k = f + 1 from by omega]; exact Nat.mod_eq_of_lt (by omega)
    omega
  · rw [Nat.mod_eq_of_lt (show k + 1 < n by omega)]
    by_cases h2 : k < f
    · have e2 : (f + n - (k + 1)) % n = f - (k + 1) := by rw [show f + n - (k + 1) = (f - (k + 1)) + n from by omega, Nat.add_mod_right]; exact Nat.mod_eq_of_lt (by omega)
      have e3 : (f + n - k) % n = f - k := by rw [show f + n - k = (f - k) + n from by omega, Nat.add_mod_right]; exact Nat.mod_eq_of_lt (by omega)
      omega
    · have e2 : (f + n - (k + 1)) % n = f + n - (k + 1) := Nat.mod_eq_of_lt (by omega)
      have e3 : (f + n - k) % n = f + n - k := Nat.mod_eq_of_lt (by omega)
      omega

set_option maxRecDepth 100000 in
set_option maxHeartbeats 400000 in
theorem in_any (a : Option Addr) (m c x : Nat) (ss : List Nat) (w : World) (em : m = ss.length) (hr : Rd w a (ints ss)) (hm : m ≤ 100) :
    Calls Tryz.prog 20 #[.slice a m c, .int .i64 x] w fun e w' => e = .returned (.bool (decide (x ∈ ss))) ∧ w' = w := by
  have EM := hid em
  clear em
  go_enter Tryz.func20, Tryz.ntmps20
  go_wp2
  go_loop [5] (fun i => ∃ k : Nat, k ≤ m ∧ i = .int .i64 k ∧ x ∉ ss.take k) (fun i => m - (intOf i).toNat)
  case atStart => exact ⟨0, Nat.zero_le _, rfl, by simp⟩
  case round =>
    obtain ⟨k, hk, rfl, hno⟩ := hrel
    have HNO := hid hno
    clear hno
    by_cases hlt : k < m
    · have hkl : k < ss.length := by rw [← EM.out]; exact hlt
      obtain ⟨b, o, rfl, hbs, hcell⟩ := hr.pos (by simp [ints]; omega)
      have hc := hcell k _ (ints_get ss k hkl)
      obtain ⟨y, hy⟩ : ∃ y, y = ss[k] := ⟨_, rfl⟩
      rw [← hy] at hc
      have HY := hid hy
      clear hcell hy
      by_cases hxy : y = x
      · have hb : ((y : Int) == (x : Int)) = true := by simp [hxy]
        have hmem : x ∈ ss := by rw [← hxy, HY.out]; exact List.getElem_mem hkl
        have HMEM := hid hmem
        clear hxy hmem
        go_wp2
        go_ret
        exact ⟨by simp [HMEM.out], rfl⟩
      · have hb : ((y : Int) == (x : Int)) = false := by rw [beq_eq_false_iff_ne]; omega
        have HXY := hid hxy
        clear hxy
        go_wp2
        go_round
        case rel =>
          refine ⟨k + 1, by omega, by go_num, ?_⟩
          rw [List.take_succ_eq_append_getElem hkl, List.mem_append]
          rintro (h | h)
          · exact HNO.out h
          · simp at h
            rw [← HY.out] at h
            exact HXY.out h.symm
        case measure => simp [intOf]; omega
    · have hno : x ∉ ss := by
        have := HNO.out
        rwa [List.take_of_length_le (by rw [← EM.out]; omega)] at this
      have HN := hid hno
      clear hno
      go_wp2
      go_ret
      exact ⟨by simp [HN.out], rfl⟩

theorem in_yes (a : Option Addr) (m c x : Nat) (ss : List Nat) (w : World) (em : m = ss.length) (hr : Rd w a (ints ss)) (hm : m ≤ 100) (h : x ∈ ss) :
    Calls Tryz.prog 20 #[.slice a m c, .int .i64 x] w fun e w' => e = .returned (.bool true) ∧ w' = w := by
  refine (in_any a m c x ss w em hr hm).mono ?_
  rintro e w' ⟨rfl, rfl⟩; exact ⟨by simp [h], rfl⟩
theorem in_no (a : Option Addr) (m c x : Nat) (ss : List Nat) (w : World) (em : m = ss.length) (hr : Rd w a (ints ss)) (hm : m ≤ 100) (h : x ∉ ss) :
    Calls Tryz.prog 20 #[.slice a m c, .int .i64 x] w fun e w' => e = .returned (.bool false) ∧ w' = w := by
  refine (in_any a m c x ss w em hr hm).mono ?_
  rintro e w' ⟨rfl, rfl⟩; exact ⟨by simp [h], rfl⟩

theorem Tryz.infoIn : (Tryz.prog.info? 3).map (fun i => (i.zero, i.size, i.bytes)) = some (some (.int .i64 0), 1, 8) := by kernel_rfl

def intsZ (zs : List Int) : List Value := zs.map fun z => .int .i64 z
theorem intsZ_get (zs : List Int) (k : Nat) (h : k < zs.length) : (intsZ zs)[k]? = some (.int .i64 zs[k]) := by simp [intsZ, h]
theorem ints_snoc (ss : List Nat) (k : Nat) : ints (ss ++ [k]) = ints ss ++ [.int .i64 (k : Int)] := by simp [ints]

set_option maxRecDepth 100000 in
set_option maxHeartbeats 1000000 in
theorem chosen_any (aR : Option Addr) (m c n want : Nat) (zs : List Int) (w : World) (em : m = zs.length) (hr : Rd w aR (intsZ zs)) (hz : ∀ z ∈ zs, I64 z) (hm : m ≤ 9223372036854775807) (hn1 : 1 ≤ n) (hn8 : n ≤ 8) (hwn : want ≤ n) :
    Calls Tryz.prog 19 #[.slice aR m c, .int .i64 n, .int .i64 want] w fun e w' =>
      ∃ v ss, e = .returned v ∧ ss.length = want ∧ ss.Nodup ∧ (∀ s ∈ ss, s < n) ∧ w'.ownsRow w.heap.size 3 1 v want (ints ss) ∧ Below w.heap.size w w' := by
  obtain ⟨iI, hiI, hy0, hy1, hy2⟩ := info_parts Tryz.infoIn
  have EM := hid em
  clear em
  go_enter Tryz.func19, Tryz.ntmps19
  go_wp2
  go_loopw [7, 8] (fun o i wr => ∃ (k : Nat) (ss : List Nat) (a : Option Addr) (cap : Nat), k ≤ want ∧ i = .int .i64 k ∧ o = .slice a k cap ∧ ss.length = k ∧ ss.Nodup ∧ (∀ s ∈ ss, s < n) ∧ wr.ownsRow w.heap.size 3 1 o k (ints ss) ∧ Below w.heap.size w wr)
    (fun _ i _ => want - (intOf i).toNat)
  case atStart => exact ⟨0, [], none, 0, Nat.zero_le _, rfl, rfl, rfl, List.nodup_nil, by simp, World.ownsRow_nil _ _ _ _, Below.refl _ _⟩
  case round =>
    obtain ⟨k, ss, a, cap, hk, rfl, rfl, hsl, hnd, hsn, hown, hbel⟩ := hrel
    have HSL := hid hsl
    have HND := hid hnd
    have HSN := hid hsn
    have HO := hid hown
    clear hsl hnd hsn hown
    have hrd : Rd wr a (ints ss) := by
      obtain ⟨a', c', e1, e2⟩ := owns_any_rd HO.out
      cases e1; exact e2
    have hzb := hbel.size
    by_cases hlt : k < want
    · obtain ⟨f, hf1, hf2⟩ := free_store n ss HND.out (by rw [HSL.out]; omega)
      by_cases hkm : k < m
      · have hkl : k < zs.length := by rw [← EM.out]; exact hkm
        obtain ⟨b, o, rfl, hbs, hcell⟩ := hr.pos (by simp [intsZ]; omega)
        obtain ⟨q, hqe⟩ : ∃ q, q = zs[k] := ⟨_, rfl⟩
        have hq : I64 q := by rw [hqe]; exact hz _ (List.getElem_mem hkl)
        have hc : wr.cell? ⟨b, o + k, none⟩ = some (.int .i64 q) := by rw [hbel.cell (by exact hbs), hqe]; exact hcell k _ (intsZ_get _ _ hkl)
        clear hcell hqe
        go_wp2_with (go_at_call 12; refine (pick_any q n _ hq.1 hq.2 (by omega) (by omega)).mono ?_; rintro e w1 ⟨rfl, rfl⟩)
        go_loop [10] (fun kk => ∃ j : Nat, j < n ∧ kk = .int .i64 j) (fun kk => dist n f (intOf kk).toNat)
        case atStart => exact ⟨_, pickN_lt _ _ (by omega), rfl⟩
        case round =>
          obtain ⟨j, hj, rfl⟩ := hrel
          by_cases hmem : j ∈ ss
          · have hjf : j ≠ f := by rintro rfl; exact hf2 hmem
            obtain ⟨j2, hj2⟩ : ∃ j2, j2 = (j + 1) % n := ⟨_, rfl⟩
            have hlt2 : j2 < n := by rw [hj2]; exact Nat.mod_lt _ (by omega)
            have hd := dist_step n f j hf1 hj hjf
            rw [← hj2] at hd
            have hri : ((j : Int) + 1) % (n : Int) = (j2 : Int) := by rw [hj2]; simp
            have hrt : ((j : Int) + 1).tmod (n : Int) = (j2 : Int) := by rw [Int.tmod_eq_emod_of_nonneg (by omega)]; exact hri
            have hn0 : n ≠ 0 := by omega
            have HM := hid hmem
            have HD := hid hd
            clear hj2 hjf hmem hd
            go_wp2_with (go_at_call 20; refine (in_yes a k cap j ss _ HSL.out.symm hrd (by omega) HM.out).mono ?_; rintro e w2 ⟨rfl, rfl⟩)
            go_round
            case rel => exact ⟨j2, hlt2, rfl⟩
            case measure => simpa [intOf] using HD.out
          · have HM := hid hmem
            clear hmem
            go_wp2_with (first | (go_at_call 20; refine (in_no a k cap j ss _ HSL.out.symm hrd (by omega) HM.out).mono ?_; rintro e w2 ⟨rfl, rfl⟩) | (at_builtin; refine wpList_append_own _ rfl (.tmp 36) (.tmp 38) 31 rfl w.heap.size 3 iI (.int .i64 0) 1 8 Tryz.underlying31 hiI hy0 hy1 hy2 rfl (by decide) _ _ _ rfl (HO.out.alloc _) ⟨_, 0, none⟩ 1 1 [.int .i64 j] rfl rfl (World.news_of_block (cs := #[.int .i64 j]) (t := 3) (fr := (0, 0)) (heap_alloc_new _ _)) (by simp [Value.oneCell']) (by unfold maxLen; omega) (by omega) (by simp; omega) ?_; intro v6 w6 hown6 hgrow6 _; have hb6 : Below w.heap.size w w6 := (hbel.alloc hzb _).grown hgrow6 (by simp; omega) (fun b hb => (HO.out.lt b hb).1); rw [← ints_snoc] at hown6; obtain ⟨a6, c6, rfl, _⟩ := owns_any_rd hown6; have HO6 := hid hown6; clear hown6 hgrow6))
            go_roundw
            case rel =>
              refine ⟨k + 1, ss ++ [j], a6, c6, by omega, by go_num, rfl, by simp [HSL.out], ?_, ?_, HO6.out, hb6⟩
              · rw [List.nodup_append]
                refine ⟨HND.out, by simp, ?_⟩
                intro x hx y hy
                simp at hy
                subst hy
                rintro rfl
                exact HM.out hx
              · intro s hs
                rw [List.mem_append] at hs
                rcases hs with hs | hs
                · exact HSN.out s hs
                · simp at hs; subst hs; exact hj
            case measure => simp [intOf]; omega
      · have hq : I64 (k : Int) := by unfold I64; omega
        go_wp2_with (go_at_call 12; refine (pick_any (k : Int) n _ hq.1 hq.2 (by omega) (by omega)).mono ?_; rintro e w1 ⟨rfl, rfl⟩)
        go_loop [10] (fun kk => ∃ j : Nat, j < n ∧ kk = .int .i64 j) (fun kk => dist n f (intOf kk).toNat)
        case atStart => exact ⟨_, pickN_lt _ _ (by omega), rfl⟩
        case round =>
          obtain ⟨j, hj, rfl⟩ := hrel
          by_cases hmem : j ∈ ss
          · have hjf : j ≠ f := by rintro rfl; exact hf2 hmem
            obtain ⟨j2, hj2⟩ : ∃ j2, j2 = (j + 1) % n := ⟨_, rfl⟩
            have hlt2 : j2 < n := by rw [hj2]; exact Nat.mod_lt _ (by omega)
            have hd := dist_step n f j hf1 hj hjf
            rw [← hj2] at hd
            have hri : ((j : Int) + 1) % (n : Int) = (j2 : Int) := by rw [hj2]; simp
            have hrt : ((j : Int) + 1).tmod (n : Int) = (j2 : Int) := by rw [Int.tmod_eq_emod_of_nonneg (by omega)]; exact hri
            have hn0 : n ≠ 0 := by omega
            have HM := hid hmem
            have HD := hid hd
            clear hj2 hjf hmem hd
            go_wp2_with (go_at_call 20; refine (in_yes a k cap j ss _ HSL.out.symm hrd (by omega) HM.out).mono ?_; rintro e w2 ⟨rfl, rfl⟩)
            go_round
            case rel => exact ⟨j2, hlt2, rfl⟩
            case measure => simpa [intOf] using HD.out
          · have HM := hid hmem
            clear hmem
            go_wp2_with (first | (go_at_call 20; refine (in_no a k cap j ss _ HSL.out.symm hrd (by omega) HM.out).mono ?_; rintro e w2 ⟨rfl, rfl⟩) | (at_builtin; refine wpList_append_own _ rfl (.tmp 36) (.tmp 38) 31 rfl w.heap.size 3 iI (.int .i64 0) 1 8 Tryz.underlying31 hiI hy0 hy1 hy2 rfl (by decide) _ _ _ rfl (HO.out.alloc _) ⟨_, 0, none⟩ 1 1 [.int .i64 j] rfl rfl (World.news_of_block (cs := #[.int .i64 j]) (t := 3) (fr := (0, 0)) (heap_alloc_new _ _)) (by simp [Value.oneCell']) (by unfold maxLen; omega) (by omega) (by simp; omega) ?_; intro v6 w6 hown6 hgrow6 _; have hb6 : Below w.heap.size w w6 := (hbel.alloc hzb _).grown hgrow6 (by simp; omega) (fun b hb => (HO.out.lt b hb).1); rw [← ints_snoc] at hown6; obtain ⟨a6, c6, rfl, _⟩ := owns_any_rd hown6; have HO6 := hid hown6; clear hown6 hgrow6))
            go_roundw
            case rel =>
              refine ⟨k + 1, ss ++ [j], a6, c6, by omega, by go_num, rfl, by simp [HSL.out], ?_, ?_, HO6.out, hb6⟩
              · rw [List.nodup_append]
                refine ⟨HND.out, by simp, ?_⟩
                intro x hx y hy
                simp at hy
                subst hy
                rintro rfl
                exact HM.out hx
              · intro s hs
                rw [List.mem_append] at hs
                rcases hs with hs | hs
                · exact HSN.out s hs
                · simp at hs; subst hs; exact hj
            case measure => simp [intOf]; omega
    · have hkn : k = want := by omega
      subst hkn
      go_wp2
      go_ret
      exact ⟨_, ss, rfl, HSL.out, HND.out, HSN.out, HO.out, hbel⟩

end Go.Proofs.YtcegdgmbponapaaGreatDoor
