import Derived.Test.YtcegdgmbponapaaGreatDoorPart35
set_option maxRecDepth 100000
set_option maxHeartbeats 4000000
namespace Go.Proofs.YtcegdgmbponapaaGreatDoor
open Go.RowKit
attribute [local go_sem ↓] Go.wp_at_zero Go.wp_at_succ
def mark:ByteArray:=⟨#[63,0,0]⟩
theorem qbv (z:Int) (w:World):Calls Tryz.prog 112 #[.int .i64 z] w fun e w'=>e=.returned (.int .i64 z)∧w'=w:=by
 go_enter Tryz.func112,Tryz.ntmps112
 go_wp2
 go_ret
 exact ⟨rfl,rfl⟩
structure Play (w:World) (G:Nat) (L:Seat) (s:Sta) (P:Nat) (dv:Value) (xs:List RObj) (wv ov:Value) (ls:List KL):Prop where
 bank:Bank w L s
 calm:Calm L s
 quiet:s.p.crashes=false
 gm:Gm w G L.C L.n L.key wv s.p.done ov
 gb:L.base≤G
 row:w.ownsRow L.base 88 1 wv 1 [.pointer (some ⟨P,0,none⟩)]
 wd:Wd w P L.n L.key s.dn dv xs
 dvb:∀b,dv.ownBlock=some b→L.base≤b
 twin:Twin L.n s.rss s.X xs
 bk:Bk w L.base ov ls
 l4:ls.length % 4=0
 i64:I64 s.p.done
theorem Gm.below {w w':World} {G C n key:Nat} {wv ov:Value} {wr:Int} (h:Gm w G C n key wv wr ov) (hb:Below w.heap.size w w'):Gm w' G C n key wv wr ov:=(hb.block G (cells_lt h)).trans h
theorem qhy (dn dn':Nat→Bool) (n:Nat) (h:∀i,i<n→dn' i=dn i):bools dn' n=bools dn n:=by
 unfold bools
 refine List.map_congr_left fun i hi=>?_
 rw [h i (List.mem_range.1 hi)]
theorem Wd.dn_congr {w:World} {P n key:Nat} {dn dn':Nat→Bool} {dv:Value} {xs:List RObj} (h:Wd w P n key dn dv xs) (he:∀i,i<n→dn' i=dn i):Wd w P n key dn' dv xs :=
 ⟨h.obj,by rw [qhy dn dn' n he];exact h.down,h.shs,h.n1,h.n8,h.len,h.hk⟩
theorem Gm.changes_any {w:World} {L:Seat} {s:Sta} {G n key:Nat} {wv ov:Value} {wr:Int} (hg:Gm w G L.C n key wv wr ov) (h:Bank w L s) (na:Option Addr) (nn nc:Nat) (hpos:0<wrap64 (s.p.done-wr)) :
  Calls Tryz.prog 162 #[.pointer (some ⟨G,0,none⟩),.int .i64 0,.slice na nn nc] w fun e w'=>e=.returned (.bool true)∧Gm w' G L.C n key (.slice na nn nc) s.p.done ov∧qaa (fun b=>b=G) w w':=by
 have HD:=hid (hg.done_any h)
 generalize wrap64 (s.p.done-wr)=d at *
 have hd0:(d > 0)=True:=by simpa using hpos
 generalize L.C=C at *
 generalize s.p.done=dn at *
 clear h hg
 go_enter Tryz.func162,Tryz.ntmps162
 go_wp2_with fail
 refine HD.out.mono ?_
 rintro e w2 ⟨rfl,hg2,hs2⟩
 have HG2:=hid hg2
 have g5:w2.cell? ⟨G,5,none⟩=some (.bool false):=cq hg2 rfl
 have g3:w2.cell? ⟨G,3,none⟩=some wv:=cq hg2 rfl
 have f3:w2.frozen? ⟨G,3,none⟩=false:=qam hg2
 have HSET:=hid (show Gm (w2.setCell ⟨G,3,none⟩ (.slice na nn nc)) G C n key (.slice na nn nc) dn ov from qan _ hg2)
 have s5:(w2.setCell ⟨G,3,none⟩ (.slice na nn nc)).cell? ⟨G,5,none⟩=some (.bool false):=cq HSET.out rfl
 have hs23:qaa (fun b=>b=G) w2 (w2.setCell ⟨G,3,none⟩ (.slice na nn nc)):=qaa.setCell (own:=fun b=>b=G) (p:=⟨G,3,none⟩) sr rfl _
 clear HD hg2
 go_wp2_with (go_at_call 112;refine (qbv 0 _).mono ?_;rintro e w3 ⟨rfl,hw3⟩;obtain rfl:=hw3.symm)
 go_ret
 exact ⟨rfl,HSET.out,hs2.trans hs23⟩
theorem Bk.reads_any {w:World} {G C n key base:Nat} {wv ov:Value} {wr:Int} {ls:List KL} (hg:Gm w G C n key wv wr ov) (hk:Bk w base ov ls) (hfit:ls.length≤140737488355328) :
  Calls Tryz.prog 41 #[.pointer (some ⟨G,9,none⟩)] w fun e w'=>e=.returned (.bool true)∧w'=w:=by
 obtain ⟨oa,oc,hov,hord⟩:=qaw hk.row
 subst hov
 obtain ⟨q,hq⟩:∃q,q=ls.length:=⟨_,rfl⟩
 have g9:w.cell? ⟨G,9,none⟩=some (.slice none 0 0):=cq hg rfl
 have g10:w.cell? ⟨G,10,none⟩=some (.slice oa q oc):=by rw [cells_at hg,hq];rfl
 have HL:=hid (show ∀i,i<q→∃b o a m c,oa=some ⟨b,o,none⟩∧w.cell? ⟨b,o+i,none⟩=some (.slice a m c)∧m≤13∧∀j,j<m→∃b2 o2,a=some ⟨b2,o2,none⟩∧∀x,x<6→w.cell? ⟨b2,o2+j*6+x,none⟩=(qcv (i / 4))[x]? from fun i hi=>by
  obtain ⟨l,hl,hok⟩:=hk.ok i (by omega)
  obtain ⟨b,o,e,_,hc⟩:=hord i l.v (by rw [List.getElem?_map,hl];rfl)
  refine ⟨b,o,l.a,l.n,l.c,e,hc,hok.2.2,fun j hj=>?_⟩
  have h1:∀x,x<6→∃v,(qcv (i / 4))[x]?=some v:=fun x hx=>⟨_,List.getElem?_eq_getElem (by simpa [qcv] using hx)⟩
  obtain ⟨v,hv⟩:=h1 0 (by decide)
  obtain ⟨b2,o2,e2,_,_⟩:=hok.2.1 (j*6+0) v (by rw [qgp _ _ j 0 hj (by decide)];exact hv)
  refine ⟨b2,o2,e2,fun x hx=>?_⟩
  obtain ⟨v,hv⟩:=h1 x hx
  obtain ⟨b3,o3,e3,_,h3⟩:=hok.2.1 (j*6+x) v (by rw [qgp _ _ j x hj hx];exact hv)
  rw [e2] at e3
  cases e3
  rw [Nat.add_assoc,h3,hv])
 have hq47:q≤140737488355328:=by omega
 clear hk hg hord hq hfit
 go_enter Tryz.func41,Tryz.ntmps41
 go_wp2_with fail
 refine wp_loop_rounds 1 ?_
 rw [rounds_succ]
 go_wp2_with fail
 go_loopw [3,6] (fun b i wr=>∃k:Nat,k≤q∧b=.bool true∧i=.int .i64 k∧wr=w) (fun _ i _=>q-(intOf i).toNat)
 case atStart=>exact ⟨0,Nat.zero_le _,rfl,rfl,rfl⟩
 case round =>
  obtain ⟨k,hk,rfl,rfl,hwr⟩:=hrel
  obtain rfl:=hwr.symm
  by_cases hlt:k<q
  ·have hk1:(k:Int)<(q:Int):=by omega
   have hk0:(0:Int)≤(k:Int):=by omega
   obtain ⟨b,o,a,m,c,rfl,hcell,hm,hj⟩:=HL.out k hlt
   have HJ:=hid hj
   clear hj
   go_wp2_with fail
   go_loopw [3,7] (fun b i wi=>∃j:Nat,j≤m∧b=.bool true∧i=.int .i64 j∧wi=w) (fun _ i _=>m-(intOf i).toNat)
   case atStart=>exact ⟨0,Nat.zero_le _,rfl,rfl,rfl⟩
   case round =>
    obtain ⟨j,hj,rfl,rfl,hwi⟩:=hrel
    obtain rfl:=hwi.symm
    by_cases hjm:j<m
    ·obtain ⟨b2,o2,rfl,hx⟩:=HJ.out j hjm
     have x0:w.cell? ⟨b2,o2+j*6,none⟩=some (.string ⟨#[]⟩):=hx 0 (by decide)
     have x1:w.cell? ⟨b2,o2+j*6+1,none⟩=some (.int .i64 0):=hx 1 (by decide)
     have x2:w.cell? ⟨b2,o2+j*6+2,none⟩=some (.int .i64 0):=hx 2 (by decide)
     have x3:w.cell? ⟨b2,o2+j*6+3,none⟩=some (.int .i64 0):=hx 3 (by decide)
     have x4:w.cell? ⟨b2,o2+j*6+4,none⟩=some (.int .i64 (-1-((k / 4:Nat):Int))):=hx 4 (by decide)
     have x5:w.cell? ⟨b2,o2+j*6+5,none⟩=some (.int .i64 0):=hx 5 (by decide)
     have hj1:(j:Int)<(m:Int):=by omega
     have hj0:(0:Int)≤(j:Int):=by omega
     have hq4:(k:Int).tdiv 4=((k / 4:Nat):Int):=(Int.ofNat_tdiv k 4).symm
     clear hx
     go_wp2_with fail
     go_roundw
     case rel=>exact ⟨j+1,by omega,rfl,by go_num,trivial⟩
     case measure=>simp [intOf];omega
    ·have hj1:¬(j:Int)<(m:Int):=by omega
     go_wp2_with fail
     go_roundw
     case rel=>exact ⟨k+1,by omega,rfl,by go_num,trivial⟩
     case measure=>simp [intOf];omega
  ·have hk1:¬(k:Int)<(q:Int):=by omega
   go_wp2_with fail
   go_ret
   exact ⟨rfl,rfl⟩
def qaI (w:World) (G:Nat) (L:Seat) (ls:List KL) (e:Ending) (w':World):Prop :=
 e=.returned (.bool true)∧∃s P dv xs wv ov ls',Play w' G L s P dv xs wv ov ls'∧ls'.length≤ls.length+4∧Below L.base w w'
theorem Play.looks_any {w:World} {G:Nat} {L:Seat} {s:Sta} {P:Nat} {dv:Value} {xs:List RObj} {wv ov:Value} {ls:List KL} (h:Play w G L s P dv xs wv ov ls) (hfit:(ls.length+4)*24≤140737488355328) :
  Calls Tryz.prog 42 #[.pointer (some ⟨G,0,none⟩)] w fun e w'=>qaI w G L ls e w':=by
 obtain ⟨i0,hi,ti0,ti1,ti2⟩:=info_parts Tryz.infoPW
 obtain ⟨g,c,hwv,hgb,hgl⟩:=h.row.form (by decide)
 subst hwv
 have HP:=hid h
 have HOB:=hid (h.bank.objects_go h.calm.1)
 have hxl:=h.twin.len
 have hx10:=h.wd.len
 have g0:w.cell? ⟨G,0,none⟩=some (.pointer (some ⟨L.C,0,none⟩)):=cq h.gm rfl
 have hobs:objs (s.rss 0)=obs (xs.map RObj.ob):=by rw [qkE,h.twin.obs]
 rw [hobs,←hxl] at HOB
 obtain ⟨m,hm⟩:∃m,m=xs.length:=⟨_,rfl⟩
 rw [←hm] at HOB hx10
 have HM:=hid hm
 clear h hobs hm hxl
 go_enter Tryz.func42,Tryz.ntmps42
 go_wp2_with fail
 refine HOB.out.mono ?_
 rintro e w1 ⟨av,rfl,hrow1,hb01⟩
 obtain ⟨aa,ac,rfl,hrd1⟩:=qad hrow1
 have HROW1:=hid hrow1
 have HRD1:=hid hrd1
 have hg1:=HP.out.gm.below hb01
 have g3:w1.cell? ⟨G,3,none⟩=some (.slice (some ⟨g,0,none⟩) 1 c):=cq hg1 rfl
 have r0:w1.cell? ⟨g,0,none⟩=some (.pointer (some ⟨P,0,none⟩)):=(hb01.cell (by exact hgl)).trans (HP.out.row.cellAt 0 (by decide))
 have HWO:=hid ((HP.out.wd.below hb01 nl).objects_any)
 rw [←HM.out] at HWO
 clear hrow1 hrd1 hg1 HOB g0
 go_wp2_with fail
 refine wp_loop_rounds 2 ?_
 rw [rounds_succ]
 go_wp2_with fail
 refine HWO.out.mono ?_
 rintro e w2 ⟨bv,rfl,hrow2,hb12⟩
 obtain ⟨ba,bc,rfl,hrd2⟩:=qad hrow2
 have HSO:=hid (qec aa ba ac bc m (xs.map RObj.ob) w2 (by rw [List.length_map];exact HM.out) hx10 (HRD1.out.below hb12 nl) hrd2)
 clear hrow2 hrd2 HWO g3 r0
 go_wp2_with fail
 refine HSO.out.mono ?_
 rintro e w3 ⟨rfl,hb23⟩
 have hb03:Below w.heap.size w w3:=hb01.trans ((hb12.mono hb01.size).trans (hb23.mono (Nat.le_trans hb01.size hb12.size)))
 have hg3:=HP.out.gm.below hb03
 have g3:w3.cell? ⟨G,3,none⟩=some (.slice (some ⟨g,0,none⟩) 1 c):=cq hg3 rfl
 have r0:w3.cell? ⟨g,0,none⟩=some (.pointer (some ⟨P,0,none⟩)):=(hb03.cell (by exact hgl)).trans (HP.out.row.cellAt 0 (by decide))
 have HG3:=hid hg3
 clear HSO hg3
 go_wp2_with (first
  | (at_builtin;refine wpList_append_lies _ rfl (.tmp 36) (.tmp 44) 81 rfl w3.heap.size 88 i0 (.pointer none) 1 8 Tryz.underlying81 hi ti0 ti1 ti2 rfl (by decide) (.slice none 0 0) 0 [] rfl (World.ownsRow_nil _ _ _ _) ⟨w3.heap.size,0,none⟩ 1 1 [.pointer (some ⟨P,0,none⟩)] rfl rfl (World.news_of_block (cs:=#[.pointer (some ⟨P,0,none⟩)]) (t:=88) (fr:=(0,0)) (heap_alloc_new w3 _)) (by simp [Value.oneCell']) (by decide) (by unfold maxLen;omega) (by omega) (by simp<;>omega) (w3.heap.size+1) (by simp) ?_;intro g4 c4 w4 hown4 hgrow4 hat4 _;have HO4:=hid hown4;have hb34:Below w3.heap.size w3 w4:=((Below.refl w3.heap.size w3).alloc nl _).grown hgrow4 (by simp<;>omega) (fun b hb=>by cases hb);have hg4:=HG3.out.below hb34;have k3:w4.cell? ⟨G,3,none⟩=some (.slice (some ⟨g,0,none⟩) 1 c):=(cq hg4 rfl);have HG4:=hid hg4;clear hown4 hgrow4 hat4 hg4 g3 r0)
  | fail)
 rw [rounds_succ]
 go_wp2_with fail
 have hb04:Below w.heap.size w w4:=hb03.trans (hb34.mono hb03.size)
 refine (HG4.out.done_any (HP.out.bank.below hb04)).mono ?_
 rintro e w5 ⟨rfl,hg5,hs45⟩
 have h0:wrap64 (s.p.done-s.p.done)=0:=by rw [Int.sub_self];exact Go.IntWalk.wrap64_in 0 (by decide)
 rw [h0]
 have k7:w5.cell? ⟨G,7,none⟩=some (.bool false):=cq hg5 rfl
 have HG5:=hid hg5
 have HS45:=hid hs45
 have hty:∀b cs t fz,w4.heap[b]?=some (.cells cs t fz)→t=55∨t=52→¬b=G:=fun b cs t fz hb ht e=>by rw [e,HG4.out] at hb;cases hb;rcases ht with h | h<;>cases h
 have HBK5:=hid ((HP.out.bk.below hb04).spared hs45 hty)
 have h14:Below w1.heap.size w1 w4:=(hb12.trans (hb23.mono hb12.size)).trans (hb34.mono (Nat.le_trans hb12.size hb23.size))
 have hrow4:=qcQ HROW1.out h14
 have HROW5:=hid (qab hrow4 hs45 (fun b hb e=>qaz hrow4 HG4.out (by decide) (by rw [←e];exact hb)))
 have hbs:=HP.out.bank.G.bs
 have HKO:=hid (qeh hg5 HBK5.out (Nat.le_trans hbs (Nat.le_trans hb04.size hs45.size)) (qaf HROW5.out hbs) hx10 HP.out.l4 hfit (fun l hl ad ha e=>by
  obtain ⟨i,hi',hli⟩:=List.getElem_of_mem hl
  obtain ⟨l',hl',hok⟩:=HP.out.bk.ok i hi'
  rw [List.getElem?_eq_getElem hi'] at hl'
  cases hl'
  rw [hli] at hok
  obtain ⟨_,cs,fz,hb⟩:=hok.1 ad ha
  have h1:=cells_lt hb
  have h2:=(HROW1.out.lt _ e).1
  omega))
 have HROW4:=hid hrow4
 clear hg5 hs45 hrow4 k3 h0
 go_wp2_with fail
 refine HKO.out.mono ?_
 rintro e w6 ⟨rfl,ov',ls',hl',hg6,hbk6,hs56⟩
 have k3:w6.cell? ⟨G,3,none⟩=some (.slice (some ⟨g,0,none⟩) 1 c):=cq hg6 rfl
 have f3:w6.frozen? ⟨G,3,none⟩=false:=qam hg6
 have k67:w6.cell? ⟨G,7,none⟩=some (.bool false):=cq hg6 rfl
 have hsG:qaa (fun b=>b=G) w6 (w6.setCell ⟨G,3,none⟩ (.slice (some ⟨g4,0,none⟩) 1 c4)):=qaa.setCell (own:=fun b=>b=G) (p:=⟨G,3,none⟩) sr rfl _
 have hgm7:Gm (w6.setCell ⟨G,3,none⟩ (.slice (some ⟨g4,0,none⟩) 1 c4)) G L.C L.n L.key (.slice (some ⟨g4,0,none⟩) 1 c4) s.p.done ov':=qan _ hg6
 have k77:(w6.setCell ⟨G,3,none⟩ (.slice (some ⟨g4,0,none⟩) 1 c4)).cell? ⟨G,7,none⟩=some (.bool false):=cq hgm7 rfl
 have hbk7:Bk (w6.setCell ⟨G,3,none⟩ (.slice (some ⟨g4,0,none⟩) 1 c4)) L.base ov' ls':=hbk6.spared hsG (fun b cs t fz hb ht e=>by rw [e,hg6] at hb;cases hb;rcases ht with h | h<;>cases h)
 have hs47:qaa (fun b=>b=G∨ov.ownBlock=some b∨(Value.slice aa m ac).ownBlock=some b) w4 (w6.setCell ⟨G,3,none⟩ (.slice (some ⟨g4,0,none⟩) 1 c4)):=((HS45.out.mono fun b hb=>.inl hb).trans hs56).trans (hsG.mono fun b hb=>.inl hb)
 have hov4:=(HP.out.bk.below hb04).row
 have hty4:∀b,(b=G∨ov.ownBlock=some b∨(Value.slice aa m ac).ownBlock=some b)→L.base≤b∧∃cs t fz,w4.heap[b]?=some (.cells cs t fz)∧(t=87∨t=52∨t=55):=by
  rintro b (e | e | e)
  ·rw [e];exact ⟨HP.out.gb,_,_,_,HG4.out,.inl rfl⟩
  ·obtain ⟨cs,fz,h1⟩:=owns_block hov4 e
   exact ⟨(hov4.lt b e).1,_,_,_,h1,.inr (.inl rfl)⟩
  ·obtain ⟨cs,fz,h1⟩:=owns_block HROW4.out e
   exact ⟨Nat.le_trans hbs (HROW4.out.lt b e).1,_,_,_,h1,.inr (.inr rfl)⟩
 have hno4:∀{b cs t fz},w4.heap[b]?=some (.cells cs t fz)→t≠87→t≠52→t≠55→¬(b=G∨ov.ownBlock=some b∨(Value.slice aa m ac).ownBlock=some b):=fun hb h1 h2 h3 e=>by
  obtain ⟨_,cs',t',fz',h4,h5⟩:=hty4 _ e
  rw [h4] at hb
  cases hb
  rcases h5 with h | h | h
  ·exact h1 h
  ·exact h2 h
  ·exact h3 h
 have hr4:=qaf HO4.out (Nat.le_trans hbs hb03.size)
 have HE:=hid (show ∃s P dv xs wv ov ls'',Play (w6.setCell ⟨G,3,none⟩ (.slice (some ⟨g4,0,none⟩) 1 c4)) G L s P dv xs wv ov ls''∧ls''.length≤ls.length+4∧Below L.base w (w6.setCell ⟨G,3,none⟩ (.slice (some ⟨g4,0,none⟩) 1 c4)) from by
  refine ⟨s,P,dv,xs,_,ov',ls',⟨(HP.out.bank.below hb04).keeps hs47 (fun b hb _=>?_),HP.out.calm,HP.out.quiet,hgm7,HP.out.gb,?_,?_,HP.out.dvb,HP.out.twin,hbk7,?_,HP.out.i64⟩,Nat.le_of_eq hl',(hb04.mono hbs).trans (hs47.below L.base (Nat.le_trans hbs hb04.size) (fun b hb=>(hty4 b hb).1))⟩
  ·obtain ⟨h1,cs,t,fz,h2,h3⟩:=hty4 b hb
   exact ⟨h1,cs,t,fz,h2,by unfold GT;rcases h3 with h | h | h<;>simp [h]⟩
  ·refine qab hr4 hs47 (fun b hb=>?_)
   obtain ⟨cs,fz,h1⟩:=owns_block hr4 hb
   exact hno4 h1 (by decide) (by decide) (by decide)
  ·exact (HP.out.wd.below hb04 nl).spared hs47 (fun b cs t fz hb ht=>by rcases ht with h | h | h | h<;>(subst h;exact hno4 hb (by decide) (by decide) (by decide)))
  ·have:=HP.out.l4;omega)
 clear hg6 hbk6 hs56 hsG hgm7 hbk7 hs47 hov4 hty4 hno4 hr4 HKO k7
 go_wp2_with fail
 go_ret
 exact ⟨rfl,HE.out⟩
section
variable {w w':World} {G:Nat} {L:Seat} {s s':Sta} {P:Nat} {dv:Value} {xs:List RObj} {wv ov:Value} {ls:List KL}
theorem Play.below (h:Play w G L s P dv xs wv ov ls) (hb:Below w.heap.size w w'):Play w' G L s P dv xs wv ov ls :=
 ⟨h.bank.below hb,h.calm,h.quiet,h.gm.below hb,h.gb,qae h.row hb nl,h.wd.below hb nl,h.dvb,h.twin,h.bk.below hb,h.l4,h.i64⟩
theorem Play.gty (h:Play w G L s P dv xs wv ov ls):∀b,b=G→b<w.heap.size→Ty GT w L.base b:=fun b e _=>by rw [e];exact ⟨h.gb,_,_,_,h.gm,by unfold GT;simp⟩
theorem Gm.apart {C n key:Nat} {wr:Int} (h:Gm w G C n key wv wr ov) {b:Nat} {cs:Array Value} {t:TypeId} {fz:Nat × Nat} (hb:w.heap[b]?=some (.cells cs t fz)) (ht:t≠87):¬b=G:=fun e=>by
 rw [e,h] at hb
 cases hb
 exact ht rfl
theorem Gm.wd_set {C n key n' key':Nat} {wr:Int} (h:Gm w G C n key wv wr ov) {P:Nat} {dn:Nat→Bool} {dv:Value} {xs:List RObj} (hw:Wd w P n' key' dn dv xs) (hs:qaa (fun b=>b=G) w w'):Wd w' P n' key' dn dv xs :=
 hw.spared hs fun b cs t fz hb ht=>h.apart hb (by rcases ht with h | h | h | h<;>(subst h;decide))
theorem Play.row_new (h:Play w G L s P dv xs wv ov ls) {wv':Value} (hg:Gm w' G L.C L.n L.key wv' s.p.done ov) (hr:w'.ownsRow w.heap.size 88 1 wv' 1 [.pointer (some ⟨P,0,none⟩)]) (hs:qaa (fun b=>b=G) w w'):Play w' G L s P dv xs wv' ov ls :=
 ⟨h.bank.keeps hs h.gty,h.calm,h.quiet,hg,h.gb,qaf hr h.bank.G.bs,h.gm.wd_set h.wd hs,h.dvb,h.twin,h.bk.spared hs fun b cs t fz hb ht=>h.gm.apart hb (by rcases ht with h | h<;>(subst h;decide)),h.l4,h.i64⟩
theorem Play.row_next (h:Play w G L s P dv xs wv ov ls) {wv':Value} {X:Nat} {dv':Value} {ys:List RObj} (hB:Bank w' L s') (hc:Calm L s') (hq:s'.p.crashes=false) (hi:I64 s'.p.done) (hdn:∀i,i<L.n→s'.dn i=s.dn i) (hg:Gm w' G L.C L.n L.key wv' s'.p.done ov) (hr:w'.ownsRow w.heap.size 88 1 wv' 1 [.pointer (some ⟨X,0,none⟩)])
  (hw:Wd w' X L.n L.key s.dn dv' ys) (hdv:∀b,dv'.ownBlock=some b→L.base≤b) (ht:Twin L.n s'.rss s'.X ys) (hs:qaa (fun b=>Mine L s b∨b=G) w w'):Play w' G L s' X dv' ys wv' ov ls :=
 ⟨hB,hc,hq,hg,h.gb,qaf hr h.bank.G.bs,hw.dn_congr hdn,hdv,ht,h.bk.spared hs fun b cs t fz hb ht e=>by
  rcases e with e | e
  ·exact h.bank.mine_not hb (by unfold GT;rcases ht with h | h<;>simp [h]) e
  ·exact h.gm.apart hb (by rcases ht with h | h<;>(subst h;decide)) e,h.l4,hi⟩
theorem Play.own_lower (h:Play w G L s P dv xs wv ov ls) (hs:qaa (fun b=>Mine L s b∨b=G) w w'):Below L.base w w' :=
 hs.below L.base h.bank.G.bs fun b hb=>hb.elim (fun h1=>h.bank.mine_ge h1) (fun e=>by rw [e];exact h.gb)
theorem Play.has (h:Play w G L s P dv xs wv ov ls) (x:ByteArray) (hx:hasName (s.rss 0) x=true) (i:Nat) (hi:i<L.n):hasName (s.rss i) x=true:=h.bank.hasAll h.calm x hx i hi
theorem Play.obj (h:Play w G L s P dv xs wv ov ls) (nm:ByteArray) (hy:hasName (s.rss 0) nm=true) (p:Nat) (hp:p=qai (s.rss 0) nm):p<xs.length∧(xs[p]!).ob=(qac (s.rss 0) nm).ob∧(xs[p]!).ob.name=nm∧(∀j,j<xs.length→(xs[j]!).ob.name=nm→j=p)∧ObOk L.n (xs[p]!).ob ∧
  (∀i,i<L.n→((xs[p]!).sh[i]!).data.toList=(qac (s.rss i) nm).x s.X∧((xs[p]!).sh[i]!).size=(qac (s.rss i) nm).sn∧((xs[p]!).sh[i]!).size≤200):=by
 obtain ⟨h1,h2,h3,h4⟩:=h.twin.at (h.bank.so 0 h.bank.n1) nm hy p hp
 have hg:=h.bank.ok 0 h.bank.n1 _ (qas hy).1
 refine ⟨h1,h2,h3,h4,?_,fun i hi=>?_⟩
 ·rw [h2]
  exact ⟨hg.plan,hg.z,hg.e,hg.n1,hg.n12⟩
 ·have h5:=h.twin.sh (xs[p]!) (by rw [getElem!_pos xs p h1];exact List.getElem_mem _) i hi
  rw [h3] at h5
  have hgi:=h.bank.ok i hi _ (qas (h.has nm hy i hi)).1
  have h6:((xs[p]!).sh[i]!).size=(qac (s.rss i) nm).sn:=by
   rw [←hgi.bytes,←h5]
   exact (qgi _).symm
  refine ⟨h5,h6,?_⟩
  have h7:=hgi.sn
  have h8:=hgi.n12
  have h9:=qao hgi.plan _ hgi.z
  omega
theorem qiv (z:Int):I64 (wrap64 z):=by unfold wrap64 I64;omega
theorem qeS (p:Pen) (h:I64 p.done) (t:Nat):(p.ticks t).done=wrap64 (p.done+t):=by
 induction t with
 | zero =>
  show p.done=wrap64 (p.done+(0:Nat))
  unfold I64 at h
  unfold wrap64
  omega
 | succ t ih =>
  show wrap64 ((p.ticks t).done+1)=_
  rw [ih]
  unfold wrap64
  omega
theorem qeL (p:Pen) (h:I64 p.done) (t:Nat) (ht:t≤100):wrap64 ((p.ticks t).done-p.done)=t:=by
 rw [qeS p h t]
 unfold I64 at h
 unfold wrap64
 omega
theorem qj3 (p:Pen) (h:I64 p.done) (t:Nat):I64 (p.ticks t).done:=by
 rw [qeS p h t]
 exact qiv _
end
theorem qfR {n:Nat} (F:Nat→List UInt8) (i:Nat) (hi:i<n):((((List.range n).map fun i=>(⟨(F i).toArray⟩:ByteArray))[i]!).data.toList)=F i:=by
 rw [getElem!_pos _ i (by simpa using hi)]
 simp
def qbE (w:World) (G:Nat) (L:Seat) (s:Sta) (ov:Value) (ls:List KL) (e:Ending) (w':World):Prop :=
 e=.returned (.bool true)∧∃s' wv' P' dv' xs',Play w' G L s' P' dv' xs' wv' ov ls∧(qaG L s'=qaG L s∧s'.p.done=s.p.done∨(L.n:Int)≤wrap64 (s'.p.done-s.p.done))∧qaa (fun b=>Mine L s b∨b=G) w w'
end Go.Proofs.YtcegdgmbponapaaGreatDoor