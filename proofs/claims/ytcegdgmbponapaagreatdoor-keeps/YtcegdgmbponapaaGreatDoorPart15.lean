import Derived.Test.YtcegdgmbponapaaGreatDoorPart14
namespace Cof
def wantX (l:Nat) (few:List Nat):List UInt8:=run 128 l++few.map fun f=>UInt8.ofNat (f+1)
def wantY (v:List UInt8) (l u:Nat) (W:Nat→Nat→UInt8) (g:Nat):List UInt8:=(List.range l).map (fun j=>v.getD (g*l+j) 0)++(List.range u).map (W g)
def madeAt (v:List UInt8) (l:Nat) (few:List Nat) (W:Nat→Nat→UInt8) (g r:Nat):UInt8:=itp (wantX l few) (wantY v l few.length W g) (UInt8.ofNat (192+r))
def made (v:List UInt8) (l:Nat) (few:List Nat) (W:Nat→Nat→UInt8):Nat→List UInt8
 | 0=>[]
 | G+1=>made v l few W G++(List.range few.length).map (madeAt v l few W G)
theorem qjy {a b:Nat} (ha:a<256) (hb:b<256) (h:UInt8.ofNat a=UInt8.ofNat b):a=b:=by
 have:=congrArg UInt8.toNat h
 simpa [Nat.mod_eq_of_lt ha,Nat.mod_eq_of_lt hb] using this
theorem qew (s c:Nat) (h:s+c≤256):(run s c).Nodup:=by
 rw [run]
 refine List.Pairwise.map _ (R:=fun a b=>a≠b∧a<c∧b<c) ?_ ?_
 ·rintro a b ⟨h1,h2,h3⟩ he
  exact h1 (by have:=qjy (by omega) (by omega) he;omega)
 ·refine List.Pairwise.imp_of_mem ?_ (List.nodup_range (n:=c))
  intro a b ha hb hab
  exact ⟨hab,List.mem_range.1 ha,List.mem_range.1 hb⟩
theorem qjf {a b:List UInt8} (ha:a.Nodup) (hb:b.Nodup) (h:∀x∈a,∀y∈b,x≠y):(a++b).Nodup:=by
 rw [List.nodup_append];exact ⟨ha,hb,h⟩
theorem qjx (few:List Nat) (hn:few.Nodup) (h8:∀f∈few,f<8):(few.map fun f=>UInt8.ofNat (f+1)).Nodup:=by
 refine List.Pairwise.map _ (R:=fun a b=>a≠b∧a<8∧b<8) ?_ ?_
 ·rintro a b ⟨h1,h2,h3⟩ he
  exact h1 (by have:=qjy (by omega) (by omega) he;omega)
 ·refine List.Pairwise.imp_of_mem ?_ hn
  intro a b ha hb hab
  exact ⟨hab,h8 a ha,h8 b hb⟩
theorem qiN (l u:Nat) (hl:l≤8) (hu:u≤8):(run 128 l++run 192 u).Nodup:=by
 refine qjf (qew 128 l (by omega)) (qew 192 u (by omega)) ?_
 intro x hx y hy e
 obtain ⟨j,hj,rfl⟩:=List.mem_map.1 hx
 obtain ⟨r,hr,rfl⟩:=List.mem_map.1 hy
 have hj':=List.mem_range.1 hj
 have hr':=List.mem_range.1 hr
 have:=qjy (by omega) (by omega) e
 omega
end Cof
namespace Cof
def gather (rows:List (List UInt8)) (G:Nat):List UInt8:=(List.range G).flatMap fun g=>rows.map fun r=>r.getD g 0
def join (mode t l size:Nat) (ss:List Nat) (rows:List (List UInt8)):List UInt8 :=
 (gather (carry (ss.map fun s=>UInt8.ofNat (1+s)) rows (groupAt mode t l)) (ngroups mode t l size)).take size
theorem gather_length (rows:List (List UInt8)) (G:Nat):(gather rows G).length=G*rows.length:=by
 induction G with
 | zero=>simp [gather]
 | succ G ih =>
  have:gather rows (G+1)=gather rows G++rows.map fun r=>r.getD G 0:=by simp [gather,List.range_succ]
  rw [this,List.length_append,ih];simp [Nat.succ_mul]
theorem groupAt_length (mode t l:Nat):(groupAt mode t l).length=gsize mode t l:=by
 unfold groupAt gsize;split<;>simp [length_run]
theorem tapeAt_length (mode t:Nat):(tapeAt mode t).length=tsize mode t:=by
 unfold tapeAt tsize;split<;>simp [length_run]
theorem known_nodup (mode t l:Nat) (ht:t≤8) (hl:l≤8):(groupAt mode t l++tapeAt mode t).Nodup:=by
 unfold groupAt tapeAt
 split
 ·rw [List.append_nil];exact qew 1 t (by omega)
 ·exact qiN l (t-1) hl (by omega)
theorem pieceAt_itp' (v tape:List UInt8) (mode t l i g:Nat) :
  pieceAt v tape mode t l i g=itp (groupAt mode t l++tapeAt mode t) ((List.range (gsize mode t l+tsize mode t)).map (knownAt v tape (gsize mode t l) (tsize mode t) g)) (UInt8.ofNat (1+i)):=by
 unfold pieceAt itp
 rw [List.length_append,groupAt_length,tapeAt_length]
 apply qdq
 intro j hj
 refine ⟨rfl,?_⟩
 simp [hj]
theorem stores_nodup (ss:List Nat) (hn:ss.Nodup) (h8:∀s∈ss,s<8):(ss.map fun s=>UInt8.ofNat (1+s)).Nodup:=by
 have:=qjx ss hn h8
 have e:(ss.map fun s=>UInt8.ofNat (1+s))=ss.map fun f=>UInt8.ofNat (f+1):=List.map_congr_left fun s _=>by rw [Nat.add_comm]
 rw [e];exact this
end Cof
set_option maxRecDepth 100000
set_option maxHeartbeats 4000000
namespace Go.Proofs.YtcegdgmbponapaaGreatDoor
open Go.RowKit
attribute [local go_sem ↓] Go.wp_at_zero Go.wp_at_succ
theorem qhu (rows:List (List UInt8)) (g:Nat):Cof.gather rows (g+1)=Cof.gather rows g++rows.map fun r=>r.getD g 0:=by simp [Cof.gather,List.range_succ]
theorem qfW (aR:Option Addr) (W c G:Nat) (rows:List (List UInt8)) (w:World) (ew:W=rows.length) (hr:qaE w aR rows) (hW:W≤8) (hG:G≤60) (hlen:∀k,k<W→G≤(rows.getD k []).length) (hlen2:∀k,(rows.getD k []).length≤500) :
  Calls Tryz.prog 101 #[.slice aR W c,.int .i64 G] w fun e w'=>∃v,e=.returned v∧w'.ownsRow w.heap.size 5 1 v (G*W) (bs (Cof.gather rows G))∧Below w.heap.size w w':=by
 obtain ⟨i0,hi,hz0,hz1,hz2⟩:=info_parts Tryz.info5
 have EW:=hid ew
 have HL:=hid hlen
 have HL2:=hid hlen2
 clear ew hlen hlen2
 go_enter Tryz.func101,Tryz.ntmps101
 go_wp2_with fail
 go_loopw [5,10] (fun o i wr=>∃g:Nat,g≤G∧i=.int .i64 g∧wr.ownsRow w.heap.size 5 1 o (g*W) (bs (Cof.gather rows g))∧Below w.heap.size w wr) (fun _ i _=>G-(intOf i).toNat)
 case atStart=>exact ⟨0,Nat.zero_le _,rfl,by rw [Nat.zero_mul];exact World.ownsRow_nil _ _ _ _,bl⟩
 case round =>
  obtain ⟨g,hg,rfl,hown,hbel⟩:=hrel
  by_cases hlt:g<G
  ·obtain ⟨Z,hZ⟩:∃Z,Z=Cof.gather rows g:=⟨_,rfl⟩
   rw [←hZ] at hown
   have hZl:Z.length=g*W:=by rw [hZ,Cof.gather_length,EW.out]
   have hgW:g*W≤480:=Nat.mul_le_mul (show g≤60 by omega) hW
   have HZ:=hid hZ
   have HZL:=hid hZl
   clear hZ hZl
   go_wp2_with fail
   go_loopw [5,15] (fun o i wq=>∃j:Nat,j≤W∧i=.int .i64 j∧wq.ownsRow w.heap.size 5 1 o (Z++(rows.take j).map fun r=>r.getD g 0).length (bs (Z++(rows.take j).map fun r=>r.getD g 0))∧Below w.heap.size w wq) (fun _ i _=>W-(intOf i).toNat)
   case atStart=>exact ⟨0,Nat.zero_le _,rfl,by rw [List.take_zero,List.map_nil,List.append_nil,HZL.out];exact hown,hbel⟩
   case round =>
    obtain ⟨j,hj,rfl,hown2,hbq⟩:=hrel
    have hzq:=hbq.size
    by_cases hjW:j<W
    ·have hjl:j<rows.length:=by rw [←EW.out];exact hjW
     obtain ⟨b,o,a',cap',rfl,hb,h1,h2⟩:=hr.at j hjl
     have c1:wr.cell? ⟨b,o+j,none⟩=some (.slice a' (rows.getD j []).length cap'):=(hbq.cell (by exact hb)).trans h1
     have hgl:g<(rows.getD j []).length:=Nat.lt_of_lt_of_le hlt (HL.out j hjW)
     obtain ⟨x,hx⟩:∃x,x=(rows.getD j []).getD g 0:=⟨_,rfl⟩
     obtain ⟨b2,o2,rfl,hb2,h3⟩:=h2.pos (by rw [qag];omega)
     have c2:wr.cell? ⟨b2,o2+g,none⟩=some (.int .u8 x.toNat):=(hbq.cell (by exact hb2)).trans (by rw [hx];exact h3 g _ (qaX _ _ hgl))
     have HR:=hid (show Z++(rows.take (j+1)).map (fun r=>r.getD g 0)=(Z++(rows.take j).map (fun r=>r.getD g 0))++[x] by
      rw [List.take_succ_eq_append_getElem hjl,List.map_append,List.append_assoc,hx];simp [hjl])
     have hl1:(Z++(rows.take j).map (fun r=>r.getD g 0)).length≤500:=by rw [List.length_append,HZL.out,List.length_map,List.length_take];omega
     have hrl:=HL2.out j
     have HO:=hid hown2
     generalize Z++(rows.take j).map (fun r=>r.getD g 0)=Y at *
     generalize (rows.getD j []).length=rl at *
     have hj1:(j:Int)<(W:Int):=by omega
     have hg1:(g:Int)<(rl:Int):=by omega
     clear h1 h2 h3 hx hown2 hr hown
     go_wp2_with (first | (at_builtin;refine wpList_append_own _ rfl (.tmp 19) (.tmp 24) 50 rfl w.heap.size 5 i0 (.int .u8 0) 1 1 Tryz.underlying50 hi hz0 hz1 hz2 rfl (by decide) _ _ (bs Y) rfl (HO.out.alloc _) ⟨wr.heap.size,0,none⟩ 1 1 [.int .u8 x.toNat] rfl rfl (World.news_of_block (cs:=#[.int .u8 x.toNat]) (t:=5) (fr:=(0,0)) (heap_alloc_new wr _)) (by simp [Value.oneCell']) (by unfold maxLen;omega) (by omega) (by simp;omega) ?_;intro v5 w5 hown5 hgrow5 _;have hb5:Below w.heap.size w w5:=(hbq.alloc hzq _).grown hgrow5 (by simp;omega) (fun b hb=>(HO.out.lt b hb).1);rw [←qkd] at hown5;have HO5:=hid hown5;clear hown5 hgrow5)|fail)
     go_roundw
     case rel=>exact ⟨j+1,by omega,by go_num,by rw [HR.out,List.length_append];exact HO5.out,hb5⟩
     case measure=>simp [intOf];omega
    ·have hj1:¬(j:Int)<(W:Int):=by omega
     have hjn:j=W:=by omega
     have hfin:wr.ownsRow w.heap.size 5 1 u5 ((g+1)*W) (bs (Cof.gather rows (g+1))):=by
      rw [hjn,List.take_of_length_le (by rw [←EW.out];exact Nat.le_refl _),HZ.out,←qhu,Cof.gather_length,←EW.out] at hown2
      exact hown2
     have HF:=hid hfin
     clear hfin hjn hown2 hown
     go_wp2_with fail
     go_roundw
     case rel=>exact ⟨g+1,by omega,by go_num,HF.out,hbq⟩
     case measure=>simp [intOf];omega
  ·have hg1:¬(g:Int)<(G:Int):=by omega
   have hgn:g=G:=by omega
   rw [hgn] at hown
   have HO:=hid hown
   clear hown hgn
   go_wp2_with fail
   go_ret
   exact ⟨_,rfl,HO.out,hbel⟩
theorem Rd.grown {w w1:World} {v:Value} {g:Nat} {cs:List Value} (h:Rd w (some ⟨g,0,none⟩) cs) (hg:g<w.heap.size) (hgrow:w.grownBy w1 v.ownBlock) (hne:v.ownBlock≠some g) (hz:w.heap.size≤w1.heap.size):Rd w1 (some ⟨g,0,none⟩) cs:=by
 intro k u hk
 obtain ⟨b,o,h1,h2,h3⟩:=h k u hk
 injection h1 with h1
 injection h1 with e1 e2
 subst e1 e2
 exact ⟨g,0,rfl,by omega,(hgrow.cell_far _ (by exact hg) (Ne.symm hne)).trans h3⟩
structure JL (w:World) (B:Nat) (vf vr:Value) (xs:List UInt8) (rows:List (List UInt8)) (vs:List Value):Prop where
 f:w.ownsRow B 170 1 vf xs.length (bs xs)
 r:w.ownsRow B 50 1 vr rows.length vs
 each:∀j,j<rows.length→∃g c,vs[j]?=some (.slice (some ⟨g,0,none⟩) (rows.getD j []).length c)∧g<w.heap.size∧Rd w (some ⟨g,0,none⟩) (bs (rows.getD j []))∧vf.ownBlock≠some g∧vr.ownBlock≠some g
 apart:Apart vf vr
theorem JL.start (w:World) (B:Nat):JL w B (.slice none 0 0) (.slice none 0 0) [] [] []:=⟨World.ownsRow_nil _ _ _ _,World.ownsRow_nil _ _ _ _,fun j hj=>by simp at hj,.inl rfl⟩
theorem JL.pushF {w W w1:World} {B g cap:Nat} {vf vr:Value} {xs:List UInt8} {rows:List (List UInt8)} {vs:List Value} {a:UInt8} (h:JL w B vf vr xs rows vs) (hb:Below w.heap.size w W)
  (hown:w1.ownsRow B 170 1 (.slice (some ⟨g,0,none⟩) (xs.length+1) cap) (xs.length+1) (bs xs++[.int .u8 a.toNat])) (hgrow:W.grownBy w1 vf.ownBlock) (hat:vf.ownBlock=some g∨g=W.heap.size) (hz:W.heap.size≤w1.heap.size) :
  JL w1 B (.slice (some ⟨g,0,none⟩) (xs.length+1) cap) vr (xs++[a]) rows vs:=by
 have hs:=hb.size
 refine ⟨by rw [qkd,List.length_append];exact hown,(qae h.r hb nl).kept hgrow h.apart.symm.left,fun j hj=>?_,?_⟩
 ·obtain ⟨g',c',h1,h2,h3,h4,h5⟩:=h.each j hj
  refine ⟨g',c',h1,by omega,(h3.below hb nl).grown (by omega) hgrow h4 hz,?_,h5⟩
  intro e
  have e':g=g':=by simpa [Value.ownBlock] using e
  rcases hat with hat | hat
  ·exact h4 (by rw [hat,e'])
  ·omega
 ·rcases hat with hat | hat
  ·rcases h.apart with h1 | h1 | h1
   ·rw [h1] at hat;cases hat
   ·exact .inr (.inl h1)
   ·exact .inr (.inr (by rw [hat] at h1;exact h1))
  ·cases hy:vr.ownBlock with
   | none=>exact .inr (.inl hy)
   | some b =>
    refine .inr (.inr ?_)
    rw [hy]
    intro e
    have e':g=b:=by simpa [Value.ownBlock] using e
    have:=(h.r.lt b hy).2
    omega
theorem JL.pushR {w W w1:World} {B g cap gN cN:Nat} {vf vr:Value} {xs p:List UInt8} {rows:List (List UInt8)} {vs:List Value} (h:JL w B vf vr xs rows vs) (hb:Below w.heap.size w W) (hN1:w.heap.size≤gN) (hN2:gN<W.heap.size) (hrd:Rd W (some ⟨gN,0,none⟩) (bs p))
  (hown:w1.ownsRow B 50 1 (.slice (some ⟨g,0,none⟩) (rows.length+1) cap) (rows.length+1) (vs++[.slice (some ⟨gN,0,none⟩) p.length cN])) (hgrow:W.grownBy w1 vr.ownBlock) (hat:vr.ownBlock=some g∨g=W.heap.size) (hz:W.heap.size≤w1.heap.size) :
  JL w1 B vf (.slice (some ⟨g,0,none⟩) (rows.length+1) cap) xs (rows++[p]) (vs++[.slice (some ⟨gN,0,none⟩) p.length cN]):=by
 have hs:=hb.size
 have hvl:vs.length=rows.length:=by have:=h.r.1;omega
 have hrN:∀b,vr.ownBlock=some b→b<w.heap.size:=fun b hb'=>(h.r.lt b hb').2
 refine ⟨(qae h.f hb nl).kept hgrow h.apart.left,by rw [List.length_append];exact hown,fun j hj=>?_,?_⟩
 ·rw [List.length_append] at hj
  by_cases hjl:j<rows.length
  ·obtain ⟨g',c',h1,h2,h3,h4,h5⟩:=h.each j hjl
   have e1:(rows++[p]).getD j []=rows.getD j []:=by rw [List.getD_eq_getElem?_getD,List.getElem?_append_left hjl,←List.getD_eq_getElem?_getD]
   rw [e1]
   refine ⟨g',c',by rw [List.getElem?_append_left (by omega)];exact h1,by omega,(h3.below hb nl).grown (by omega) hgrow h5 hz,h4,?_⟩
   intro e
   have e':g=g':=by simpa [Value.ownBlock] using e
   rcases hat with hat | hat
   ·exact h5 (by rw [hat,e'])
   ·omega
  ·have hje:j=rows.length:=by simp at hj;omega
   subst hje
   have e1:(rows++[p]).getD rows.length []=p:=by simp
   rw [e1]
   refine ⟨gN,cN,by rw [List.getElem?_append_right (by omega),hvl];simp,by omega,hrd.grown hN2 hgrow (fun e=>by have:=hrN gN e;omega) hz,fun e=>by have:=(h.f.lt gN e).2;omega,?_⟩
   intro e
   have e':g=gN:=by simpa [Value.ownBlock] using e
   rcases hat with hat | hat
   ·have:=hrN g hat;omega
   ·omega
 ·rcases hat with hat | hat
  ·rcases h.apart with h1 | h1 | h1
   ·exact .inl h1
   ·rw [h1] at hat;cases hat
   ·exact .inr (.inr (by rw [hat] at h1;exact h1))
  ·cases hy:vf.ownBlock with
   | none=>exact .inl hy
   | some b =>
    refine .inr (.inr ?_)
    rw [hy]
    intro e
    have e':b=g:=by simpa [Value.ownBlock] using e
    have:=(h.f.lt b hy).2
    omega
theorem JL.full {w:World} {B:Nat} {vf vr:Value} {xs:List UInt8} {rows:List (List UInt8)} {vs:List Value} (h:JL w B vf vr xs rows vs) :
  ∃af cf ar cr,vf=.slice af xs.length cf∧vr=.slice ar rows.length cr∧Rd w af (bs xs)∧qaE w ar rows:=by
 obtain ⟨af,cf,e1,h1⟩:=qaw h.f
 obtain ⟨ar,cr,e2,h2⟩:=qaw h.r
 refine ⟨af,cf,ar,cr,e1,e2,h1,vs,by have:=h.r.1;omega,h2,fun k v hk=>?_⟩
 have hkl:k<rows.length:=by
  rcases Nat.lt_or_ge k rows.length with h' | h'
  ·exact h'
  ·rw [List.getElem?_eq_none (by have:=h.r.1;omega)] at hk;simp at hk
 obtain ⟨g',c',h3,_,h5,_,_⟩:=h.each k hkl
 rw [h3] at hk
 injection hk with hk
 exact ⟨_,_,hk.symm,h5⟩
end Go.Proofs.YtcegdgmbponapaaGreatDoor