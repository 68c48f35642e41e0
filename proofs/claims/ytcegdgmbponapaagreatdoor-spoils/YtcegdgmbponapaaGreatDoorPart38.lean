import Derived.Test.YtcegdgmbponapaaGreatDoorPart37
namespace Cof
theorem qjD (R:List (List UInt8)) (G g j:Nat) (hg:g<G) (hj:j<R.length):(gather R G).getD (g*R.length+j) 0=(R.getD j []).getD g 0:=by
 induction G with
 | zero=>omega
 | succ G ih =>
  have e:gather R (G+1)=gather R G++R.map fun r=>r.getD G 0:=by simp [gather,List.range_succ]
  rw [e,List.getD_eq_getElem?_getD]
  by_cases h:g<G
  ·have h1:(g+1)*R.length≤G*R.length:=Nat.mul_le_mul_right _ h
   rw [Nat.succ_mul] at h1
   rw [List.getElem?_append_left (by rw [gather_length];omega),←List.getD_eq_getElem?_getD,ih h]
  ·have:g=G:=by omega
   subst this
   rw [List.getElem?_append_right (by rw [gather_length];omega),gather_length]
   simp [hj]
def full (mode t l size:Nat) (ss:List Nat) (rows:List (List UInt8)):List UInt8 :=
 gather (carry (ss.map fun s=>UInt8.ofNat (1+s)) rows (groupAt mode t l)) (ngroups mode t l size)
theorem full_length (mode t l size:Nat) (ss:List Nat) (rows:List (List UInt8)):(full mode t l size ss rows).length=ngroups mode t l size*gsize mode t l:=by
 rw [full,gather_length];simp [carry,groupAt_length]
theorem full_at (mode t l size:Nat) (ss:List Nat) (rows:List (List UInt8)) (g j:Nat) (hg:g<ngroups mode t l size) (hj:j<gsize mode t l) (hl:ss.length=rows.length) :
  (full mode t l size ss rows).getD (g*gsize mode t l+j) 0=itp (ss.map fun s=>UInt8.ofNat (1+s)) (rows.map fun r=>r.getD g 0) ((groupAt mode t l).getD j 0):=by
 have hcl:(carry (ss.map fun s=>UInt8.ofNat (1+s)) rows (groupAt mode t l)).length=gsize mode t l:=by simp [carry,groupAt_length]
 have hj2:j<(groupAt mode t l).length:=by rw [groupAt_length];exact hj
 have h:=qjD (carry (ss.map fun s=>UInt8.ofNat (1+s)) rows (groupAt mode t l)) (ngroups mode t l size) g j hg (by rw [hcl];exact hj)
 rw [hcl] at h
 rw [full,h,show (carry (ss.map fun s=>UInt8.ofNat (1+s)) rows (groupAt mode t l)).getD j []=carryTo (ss.map fun s=>UInt8.ofNat (1+s)) rows (groupAt mode t l)[j] rows.length by simp [carry,hj2],qdC]
 unfold itp
 rw [List.length_map,hl,show (groupAt mode t l).getD j 0=(groupAt mode t l)[j] by simp [hj2]]
 apply qdq
 intro k hk
 exact ⟨rfl,by simp [hk]⟩
end Cof
set_option maxRecDepth 100000
set_option maxHeartbeats 4000000
namespace Go.Proofs.YtcegdgmbponapaaGreatDoor
open Go.RowKit
attribute [local go_sem ↓] Go.wp_at_zero Go.wp_at_succ
theorem qe3 (mode t l n:Nat) (w:World) (h:qaj mode t l n) :
  Calls Tryz.prog 165 #[.agg #[.int .i64 mode,.int .i64 t,.int .i64 l]] w fun e w'=>e=.returned (.int .i64 ((Cof.gsize mode t l+Cof.tsize mode t:Nat):Int))∧Below w.heap.size w w':=by
 obtain ⟨h1,h2,h3,h4,h5,h6⟩:=h
 rcases h6 with ⟨rfl,h6⟩|⟨rfl,rfl⟩
 ·go_enter Tryz.func165,Tryz.ntmps165
  go_wp2
  go_ret
  exact ⟨qbo (by simp [Cof.gsize,Cof.tsize];omega),(Below.refl _ _).alloc nl _⟩
 ·go_enter Tryz.func165,Tryz.ntmps165
  go_wp2
  go_ret
  exact ⟨qbo (by simp [Cof.gsize,Cof.tsize]),(Below.refl _ _).alloc nl _⟩
theorem PtRd.of_block {w w':World} {gl:Nat} {xs ys:List UInt8} (h:PtRd w (some ⟨gl,0,none⟩) xs ys) (hz:w.heap.size≤w'.heap.size) (hb:w'.heap[gl]?=w.heap[gl]?):PtRd w' (some ⟨gl,0,none⟩) xs ys:=by
 intro i hi
 obtain ⟨b,o,e,h2,h3,h4⟩:=h i hi
 obtain ⟨rfl,rfl⟩:gl=b∧0=o:=by injection e with e;injection e with h1 h2;exact ⟨h1,h2⟩
 exact ⟨gl,0,rfl,by omega,(World.cell?_of_block (a:=⟨gl,0+i*2,none⟩) hb).trans h3,(World.cell?_of_block (a:=⟨gl,0+i*2+1,none⟩) hb).trans h4⟩
theorem PtRd.below {B:Nat} {w w':World} {a:Option Addr} {xs ys:List UInt8} (h:PtRd w a xs ys) (hb:Below B w w') (hB:w.heap.size≤B):PtRd w' a xs ys:=by
 intro i hi
 obtain ⟨b,o,e,h2,h3,h4⟩:=h i hi
 exact ⟨b,o,e,Nat.lt_of_lt_of_le h2 hb.size,(hb.cell (by show b<B;omega)).trans h3,(hb.cell (by show b<B;omega)).trans h4⟩
def pcF (ss:List Nat) (ps:List ByteArray) (g i:Nat):UInt8 × UInt8:=(UInt8.ofNat (1+ss.getD i 0),(ps.getD i ByteArray.empty).data.toList.getD g 0)
theorem qhY (mode t l n size N c:Nat) (aP:Option Addr) (ss:List Nat) (ps:List ByteArray) (w:World) (hp:qaj mode t l n) (hs60:size≤60) (eN:N=ss.length) (hpl:ps.length=N) (hr:PRd w aP ss ps) (hN1:1≤N) (hN16:N≤16) (hlt:∀s∈ss,s<n) (hnd:ss.Nodup) (hlen:∀i,i<N→(ps.getD i ByteArray.empty).size=Cof.ngroups mode t l size) :
  Calls Tryz.prog 167 #[.slice aP N c,.agg #[.int .i64 mode,.int .i64 t,.int .i64 l],.int .i64 size] w fun e w' =>
   e=.returned (.string ⟨((Cof.full mode t l size ss (ps.map fun p=>p.data.toList)).take size).toArray⟩)∧Below w.heap.size w w':=by
 obtain ⟨iP,hiP,hq0,hq1,hq2⟩:=info_parts Tryz.infoPoint
 obtain ⟨iU,hiU,hu0,hu1,hu2⟩:=info_parts Tryz.info5
 have hng:=qao hp size hs60
 have hn8:=hp.n8
 obtain ⟨hgs1,hgs8,hts8⟩:=qcB hp
 have HGA:=hid (show ∀j,j<Cof.gsize mode t l→(Cof.groupAt mode t l).getD j 0=UInt8.ofNat ((if mode=1 then 1 else 128)+j) from fun j hj=>by
  unfold Cof.groupAt Cof.gsize at *
  split<;>rename_i h<;>simp [h] at hj ⊢<;>simp [Cof.run,hj])
 have HFA:=hid (fun g j hg hj=>Cof.full_at mode t l size ss (ps.map fun p=>p.data.toList) g j hg hj (by rw [List.length_map,hpl,eN]))
 have hFl:=Cof.full_length mode t l size ss (ps.map fun p=>p.data.toList)
 have hsz:size≤Cof.ngroups mode t l size*Cof.gsize mode t l:=by
  unfold Cof.ngroups
  have h1:=Nat.div_add_mod (size+Cof.gsize mode t l-1) (Cof.gsize mode t l)
  have h2:=Nat.mod_lt (size+Cof.gsize mode t l-1) (show 0<Cof.gsize mode t l by omega)
  rw [Nat.mul_comm];omega
 have HXN:=hid (Cof.stores_nodup ss hnd (fun s h=>Nat.lt_of_lt_of_le (hlt s h) hn8))
 have HGR:=hid (fun w=>qcj mode t l n size w hp hs60)
 have HGP:=hid (fun w=>qcG mode t l n w hp)
 have HMD:=hid hp.md
 have HLT:=hid hlt
 have HR:=hid hr
 have HEN:=hid eN
 have HPL:=hid hpl
 have hsl:∀i,i<N→ss.getD i 0<8:=fun i hi=>Nat.lt_of_lt_of_le (hlt _ (by rw [show ss.getD i 0=ss[i] by simp [show i<ss.length by omega]];exact List.getElem_mem _)) hn8
 have HSL:=hid hsl
 generalize Cof.full mode t l size ss (ps.map fun p=>p.data.toList)=F at *
 obtain ⟨G,hG⟩:∃G,G=Cof.ngroups mode t l size:=⟨_,rfl⟩
 obtain ⟨gs,hgs⟩:∃gs,gs=Cof.gsize mode t l:=⟨_,rfl⟩
 rw [←hG] at hlen HGR hng hFl hsz HFA
 rw [←hgs] at HGP hgs1 hgs8 HGA hFl hsz HFA
 have HLEN:=hid hlen
 clear hG hgs hp hr eN hpl hlt hnd hlen hts8 hsl
 obtain ⟨w0,hw0⟩:∃w0,w0=w.alloc (.cells #[.int .i64 mode,.int .i64 t,.int .i64 l] 29):=⟨_,rfl⟩
 have p0:w0.cell? ⟨w.heap.size,0,none⟩=some (.int .i64 mode):=by rw [hw0];simp
 have p1:w0.cell? ⟨w.heap.size,1,none⟩=some (.int .i64 t):=by rw [hw0];simp
 have p2:w0.cell? ⟨w.heap.size,2,none⟩=some (.int .i64 l):=by rw [hw0];simp
 have hz0:w.heap.size<w0.heap.size:=by rw [hw0];simp
 have hb0:Below w.heap.size w w0:=by rw [hw0];exact (Below.refl _ _).alloc nl _
 go_enter Tryz.func167,Tryz.ntmps167
 go_wp2_with fail
 rw [←hw0]
 clear hw0
 refine (HGP.out w0).mono ?_
 rintro e w1 ⟨rfl,hb1⟩
 have hz1:=hb1.size
 have x0:w1.cell? ⟨w.heap.size,0,none⟩=some (.int .i64 mode):=(hb1.cell (by exact hz0)).trans p0
 have x1:w1.cell? ⟨w.heap.size,1,none⟩=some (.int .i64 t):=(hb1.cell (by exact hz0)).trans p1
 have x2:w1.cell? ⟨w.heap.size,2,none⟩=some (.int .i64 l):=(hb1.cell (by exact hz0)).trans p2
 have hb01:Below w.heap.size w w1:=hb0.trans (hb1.mono (by omega))
 have HR1:=hid (HR.out.keeps hb01 nl)
 clear p0 p1 p2 hb1 hb0
 go_wp2_with fail
 go_loopw [8,9] (fun b k wr=>∃kk q:Nat,kk≤G∧k=.int .i64 kk∧q=min (kk*gs) size∧wr.ownsRow w1.heap.size 5 1 b q (bs (F.take q))∧Below w1.heap.size w1 wr)
  (fun _ k _=>G-(intOf k).toNat)
 case atStart=>exact ⟨0,0,Nat.zero_le _,rfl,by simp,World.ownsRow_nil _ _ _ _,bl⟩
 case round =>
  obtain ⟨kk,q,hk,rfl,hq,hown,hbel⟩:=hrel
  have hzb:=hbel.size
  have HO:=hid hown
  have HQ:=hid hq
  have hq60:q≤60:=by omega
  have c0:wr.cell? ⟨w.heap.size,0,none⟩=some (.int .i64 mode):=(hbel.cell (by show w.heap.size<w1.heap.size;omega)).trans x0
  have c1:wr.cell? ⟨w.heap.size,1,none⟩=some (.int .i64 t):=(hbel.cell (by show w.heap.size<w1.heap.size;omega)).trans x1
  have c2:wr.cell? ⟨w.heap.size,2,none⟩=some (.int .i64 l):=(hbel.cell (by show w.heap.size<w1.heap.size;omega)).trans x2
  clear hown hq
  obtain ⟨wo,rfl⟩:∃wo,wo=wr:=⟨_,rfl⟩
  obtain ⟨ob,rfl⟩:∃ob,ob=u8:=⟨_,rfl⟩
  by_cases hlt:kk<G
  ·have hk1:(kk:Int)<(G:Int):=by omega
   have hkk0:(0:Int)≤(kk:Int):=by omega
   go_wp2_with (go_at_call 206;refine (HGR.out _).mono ?_;rintro e wg ⟨rfl,hbg⟩;have hzg:=hbg.size;have hb1g:Below w1.heap.size w1 wg:=hbel.trans (hbg.mono hzb);have HOG:=hid (qae HO.out hbg nl);have HRG:=hid (HR1.out.keeps hb1g nl);clear hbg)
   go_loopw [10,11] (fun o i wr=>∃ii:Nat,ii≤N∧i=.int .i64 ii∧wr.ownsRow wg.heap.size 311 2 o ii (pts (pcF ss ps kk) ii)∧Below wg.heap.size wg wr)
    (fun _ i _=>N-(intOf i).toNat)
   case atStart=>exact ⟨0,Nat.zero_le _,rfl,World.ownsRow_nil _ _ _ _,bl⟩
   case round =>
    obtain ⟨ii,hii,rfl,hownl,hbl⟩:=hrel
    have hzl:=hbl.size
    have HL:=hid hownl
    clear hownl
    by_cases hil:ii<N
    ·obtain ⟨b,o,rfl,hb,h1,h2⟩:=HRG.out ii (by rw [←HEN.out];exact hil)
     have d1:wr.cell? ⟨b,o+ii*2,none⟩=some (.int .i64 (ss.getD ii 0:Nat)):=(hbl.cell (by exact hb)).trans h1
     have d2:wr.cell? ⟨b,o+ii*2+1,none⟩=some (.string (ps.getD ii ByteArray.empty)):=(hbl.cell (by exact hb)).trans h2
     have hs8:=HSL.out ii hil
     have hpz:=HLEN.out ii hil
     have HSN:=hid (qcF (pcF ss ps kk) ii)
     have e1:(pcF ss ps kk ii).1=UInt8.ofNat (1+ss.getD ii 0):=rfl
     have e2:(pcF ss ps kk ii).2=(ps.getD ii ByteArray.empty).data.toList.getD kk 0:=rfl
     rw [e1,e2] at HSN
     clear h1 h2 e1 e2
     generalize ss.getD ii 0=s at *
     generalize ps.getD ii ByteArray.empty=p at *
     generalize pts (pcF ss ps kk) ii=X at *
     obtain ⟨a,ha⟩:∃a,a=UInt8.ofNat (1+s):=⟨_,rfl⟩
     have hai:(s:Int)+1=(a.toNat:Int):=by rw [ha,←qd2 _ (by omega)];omega
     have ha6:(a.toNat:Int)≤255:=by have:=a.toNat_lt;omega
     have hkp:kk<p.size:=by omega
     rw [←ha,←qdM p kk hkp] at HSN
     have hkp1:(kk:Int)<(p.size:Int):=by omega
     have hi1:(ii:Int)<(N:Int):=by omega
     have hi0:(0:Int)≤(ii:Int):=by omega
     have hbr:b<wr.heap.size:=by omega
     have hw1:IntKind.i64.wrap (a.toNat:Int)=(a.toNat:Int):=by rw [IntKind.wrap_i64];omega
     have hw2:IntKind.u8.wrap (a.toNat:Int)=(a.toNat:Int):=qjG _ a.toNat_lt
     have hnb:u10.ownBlock≠some b:=fun hc=>by
      have:=(HL.out.lt b hc).1
      omega
     clear ha hs8 hpz
     go_wp2_with fail
     go_region_held3 (fun w'=>w'.cell? ⟨b,o+ii*2,none⟩=some (.int .i64 (s:Nat))∧w'.cell? ⟨b,o+ii*2+1,none⟩=some (.string p)) (first | exact ⟨r1,r2⟩|exact ⟨((((Below.refl wr.heap.size wr).alloc nl _).drew).cell (by exact hbr)).trans d1,((((Below.refl wr.heap.size wr).alloc nl _).drew).cell (by exact hbr)).trans d2⟩|go_keep)
      ((refine step_append_lies _ (by rfl) _ _ _ (by rfl) wg.heap.size 311 iP _ 2 2 Tryz.underlying309 hiP hq0 hq1 hq2 rfl (by omega) u10 ii X (by rfl) ((HL.out.alloc _).drew) ⟨wr.heap.size,0,none⟩ 1 1 [.int .u8 a.toNat,.int .u8 (p[kk]).toNat] (by rfl) (by rfl) (World.news_of_block (cs:=#[.int .u8 a.toNat,.int .u8 (p[kk]).toNat]) (t:=311) (fr:=(0,0)) (heap_alloc_new wr _)) (by simp [Value.oneCell']) (by omega) (by unfold maxLen;omega) (by omega) (by simp;omega) (wr.heap.size+1) (by simp) ?_;intro g4 cap4 w4 hown4 hgrow4 hat4 hlt4;have r1:w4.cell? ⟨b,o+ii*2,none⟩=some (.int .i64 (s:Nat)):=(hgrow4.cell_far _ (by simp;omega) (Ne.symm hnb)).trans (((((Below.refl wr.heap.size wr).alloc nl _).drew).cell (by exact hbr)).trans d1);have r2:w4.cell? ⟨b,o+ii*2+1,none⟩=some (.string p):=(hgrow4.cell_far _ (by simp;omega) (Ne.symm hnb)).trans (((((Below.refl wr.heap.size wr).alloc nl _).drew).cell (by exact hbr)).trans d2)))
     have hb4:Below wg.heap.size wg w4:=(((hbl.alloc hzl _).drew).grown hgrow4 (by simp;omega) (fun b hb=>(HL.out.lt b hb).1))
     have HO4:=hid hown4
     rw [←HSN.out] at HO4
     clear hown4 hgrow4 hat4 hlt4 r1 r2
     go_wp2
     go_roundw
     case rel=>exact ⟨ii+1,by omega,by go_num,HO4.out,hb4⟩
     case measure=>simp [intOf];omega
    ·have hi1:¬(ii:Int)<(N:Int):=by omega
     have hiN:ii=N:=by omega
     rw [hiN] at HL
     have hXl:(ss.map fun s=>UInt8.ofNat (1+s)).length=N:=by rw [List.length_map,HEN.out]
     obtain ⟨gl,cl,e1,hgl,hglz⟩:=HL.out.form hN1
     obtain ⟨a',c',e2,hpt⟩:=qfK (xs:=ss.map fun s=>UInt8.ofNat (1+s)) (ys:=(ps.map fun p=>p.data.toList).map fun r=>r.getD kk 0) HL.out hN1 hXl (fun j hj=>by
      have h1:j<ss.length:=by rw [←HEN.out];exact hj
      have h2:j<ps.length:=by rw [HPL.out];exact hj
      simp [pcF,h1,h2])
     rw [e1] at e2
     obtain rfl:some ⟨gl,0,none⟩=a':=by injection e2
     subst e1
     have HPT:=hid hpt
     have HXL:=hid hXl
     have OBL:=hid (qae HOG.out hbl nl)
     have hblk:∀x,ob.ownBlock=some x→x≠gl:=fun x hx=>by have:=(HOG.out.lt x hx).2;omega
     have HBLK:=hid hblk
     have hb1l:Below w1.heap.size w1 wr:=hb1g.trans (hbl.mono (by omega))
     have HFK:=hid (fun j hj=>HFA.out kk j hlt hj)
     generalize (ps.map fun p=>p.data.toList).map (fun r=>r.getD kk 0)=Y at *
     generalize (ss.map fun s=>UInt8.ofNat (1+s))=X at *
     obtain ⟨R,hR⟩:∃R,R=kk*gs:=⟨_,rfl⟩
     have HRR:=hid hR
     rw [←hR] at HQ
     rw [←hR] at HFK
     have hRG:R+gs≤G*gs:=by rw [hR];have:=Nat.mul_le_mul_right gs (show kk+1≤G from hlt);rw [Nat.succ_mul] at this;exact this
     clear hpt hXl e2 hiN hblk HL hR
     go_wp2_with fail
     go_loopw [8,12] (fun b j wr=>∃jj qq:Nat,jj≤gs∧j=.int .i64 jj∧qq=min (R+jj) size∧wr.ownsRow w1.heap.size 5 1 b qq (bs (F.take qq))∧(∀x,b.ownBlock=some x→x≠gl)∧PtRd wr (some ⟨gl,0,none⟩) X Y∧Below w1.heap.size w1 wr∧gl<wr.heap.size)
      (fun _ j _=>gs-(intOf j).toNat)
     case atStart=>exact ⟨0,q,Nat.zero_le _,rfl,HQ.out,OBL.out,HBLK.out,HPT.out,hb1l,hglz⟩
     case round =>
      clear hb1l hzl hbl OBL HBLK HPT hglz
      obtain ⟨jj,qq,hj,rfl,hqq,hownb,hblk,hpt,hb1l,hglz⟩:=hrel
      obtain ⟨aB,cB,rfl,hrB⟩:=qaw hownb
      have HB:=hid hownb
      have HBLK:=hid hblk
      have HPT:=hid hpt
      have HQQ:=hid hqq
      have hqq60:qq≤60:=by omega
      have c0:wr.cell? ⟨w.heap.size,0,none⟩=some (.int .i64 mode):=(hb1l.cell (by show w.heap.size<w1.heap.size;omega)).trans x0
      have hz1l:=hb1l.size
      clear hownb hblk hpt hrB hqq
      by_cases hgo:jj<gs∧qq<size
      ·obtain ⟨hj1,hq1⟩:=hgo
       have hqR:qq=R+jj:=by have:=HQQ.out;omega
       have hqF:qq<F.length:=by omega
       have HSN:=hid (show bs (F.take (qq+1))=bs (F.take qq)++[.int .u8 ((F.getD qq 0).toNat:Int)] by rw [take_snoc F qq 0 hqF];simp [bs])
       have hFv:=HFK.out jj hj1
       rw [←hqR,HGA.out jj hj1] at hFv
       generalize bs (F.take qq)=Z at *
       generalize F.getD qq 0=y at *
       have hj1i:(jj:Int)<(gs:Int):=by omega
       have hq1i:(qq:Int)<(size:Int):=by omega
       rcases HMD.out with ⟨hmm,hl1⟩|⟨hmm,hl1⟩
       ·obtain ⟨a,ha⟩:∃a,a=UInt8.ofNat (128+jj):=⟨_,rfl⟩
        have hai:(128:Int)+(jj:Int)=(a.toNat:Int):=by rw [ha,←qd2 _ (by omega)];omega
        have ha6:(a.toNat:Int)≤255:=by have:=a.toNat_lt;omega
        have HFV:=hid (show y=Cof.itp X Y a by rw [hFv,ha,hmm];rfl)
        have hmb:((mode:Int) == 0)=true:=by rw [hmm];rfl
        clear ha hFv hqR hmm hl1
        go_wp2_with (first
         | (go_at_call 209;refine (qgH _ _ N X Y a _ HXL.out.symm HPT.out HXN.out (by omega)).mono ?_;rintro e wa ⟨rfl,hba⟩;have hza:=hba.size;rw [←HFV.out];have HBA:=hid (qae HB.out hba nl))
         | (at_builtin;refine wpList_append_lies _ rfl (.tmp 70) (.tmp 72) 50 rfl w1.heap.size 5 iU (.int .u8 0) 1 1 Tryz.underlying50 hiU hu0 hu1 hu2 rfl (by decide) (.slice aB qq cB) _ Z rfl (HBA.out.alloc _) ⟨wa.heap.size,0,none⟩ 1 1 [.int .u8 y.toNat] rfl rfl (World.news_of_block (cs:=#[.int .u8 y.toNat]) (t:=5) (fr:=(0,0)) (heap_alloc_new wa _)) (by simp [Value.oneCell']) (by decide) (by unfold maxLen;omega) (by omega) (by simp<;>omega) (wa.heap.size+1) (by simp) ?_;intro g5 c5 w5 hown5 hgrow5 hat5 _;have HO5:=hid hown5;have hzz5:=hgrow5.size;have hb5:Below w1.heap.size w1 w5:=((hb1l.trans (hba.mono hz1l)).alloc (by omega) _).grown hgrow5 (by simp<;>omega) (fun b hb=>(HB.out.lt b hb).1);have HPT5:=hid ((HPT.out.below (hba.trans (((Below.refl wa.heap.size wa).alloc nl (.cells #[.int .u8 y.toNat] 5)).mono hza)) nl).of_block hzz5 (hgrow5.block gl (by simp<;>omega) (fun h=>HBLK.out gl h.symm rfl)));have HBL5:=hid (show ∀x,(Value.slice (some ⟨g5,0,none⟩) (qq+1) c5).ownBlock=some x→x≠gl from fun x hx=>(by have hx':g5=x:=Option.some.inj hx;rcases hat5 with h | h;(· exact HBLK.out x (by rw [h,hx']));(· omega)));have hgl5:gl<w5.heap.size:=(by simp at hzz5;omega);rw [←HSN.out] at HO5;clear hown5 hgrow5 hat5))
        go_roundw
        case rel=>exact ⟨jj+1,qq+1,by omega,by go_num,by have:=HQQ.out;omega,HO5.out,HBL5.out,HPT5.out,hb5,hgl5⟩
        case measure=>simp [intOf];omega
       ·obtain ⟨a,ha⟩:∃a,a=UInt8.ofNat (1+jj):=⟨_,rfl⟩
        have hai:(jj:Int)+1=(a.toNat:Int):=by rw [ha,←qd2 _ (by omega)];omega
        have ha6:(a.toNat:Int)≤255:=by have:=a.toNat_lt;omega
        have HFV:=hid (show y=Cof.itp X Y a by rw [hFv,ha,hmm];rfl)
        have hmb:((mode:Int) == 0)=false:=by rw [hmm];rfl
        clear ha hFv hqR hmm hl1
        go_wp2_with (first
         | (go_at_call 209;refine (qgH _ _ N X Y a _ HXL.out.symm HPT.out HXN.out (by omega)).mono ?_;rintro e wa ⟨rfl,hba⟩;have hza:=hba.size;rw [←HFV.out];have HBA:=hid (qae HB.out hba nl))
         | (at_builtin;refine wpList_append_lies _ rfl (.tmp 70) (.tmp 72) 50 rfl w1.heap.size 5 iU (.int .u8 0) 1 1 Tryz.underlying50 hiU hu0 hu1 hu2 rfl (by decide) (.slice aB qq cB) _ Z rfl (HBA.out.alloc _) ⟨wa.heap.size,0,none⟩ 1 1 [.int .u8 y.toNat] rfl rfl (World.news_of_block (cs:=#[.int .u8 y.toNat]) (t:=5) (fr:=(0,0)) (heap_alloc_new wa _)) (by simp [Value.oneCell']) (by decide) (by unfold maxLen;omega) (by omega) (by simp<;>omega) (wa.heap.size+1) (by simp) ?_;intro g5 c5 w5 hown5 hgrow5 hat5 _;have HO5:=hid hown5;have hzz5:=hgrow5.size;have hb5:Below w1.heap.size w1 w5:=((hb1l.trans (hba.mono hz1l)).alloc (by omega) _).grown hgrow5 (by simp<;>omega) (fun b hb=>(HB.out.lt b hb).1);have HPT5:=hid ((HPT.out.below (hba.trans (((Below.refl wa.heap.size wa).alloc nl (.cells #[.int .u8 y.toNat] 5)).mono hza)) nl).of_block hzz5 (hgrow5.block gl (by simp<;>omega) (fun h=>HBLK.out gl h.symm rfl)));have HBL5:=hid (show ∀x,(Value.slice (some ⟨g5,0,none⟩) (qq+1) c5).ownBlock=some x→x≠gl from fun x hx=>(by have hx':g5=x:=Option.some.inj hx;rcases hat5 with h | h;(· exact HBLK.out x (by rw [h,hx']));(· omega)));have hgl5:gl<w5.heap.size:=(by simp at hzz5;omega);rw [←HSN.out] at HO5;clear hown5 hgrow5 hat5))
        go_roundw
        case rel=>exact ⟨jj+1,qq+1,by omega,by go_num,by have:=HQQ.out;omega,HO5.out,HBL5.out,HPT5.out,hb5,hgl5⟩
        case measure=>simp [intOf];omega
      ·have hstop:qq=min ((kk+1)*gs) size:=by
        have h1:=HQQ.out
        have h2:=HRR.out
        rw [Nat.succ_mul,←h2]
        omega
       have HST:=hid hstop
       clear hstop
       by_cases hj1:jj<gs
       ·have hj1i:(jj:Int)<(gs:Int):=by omega
        have hq1i:¬(qq:Int)<(size:Int):=by omega
        clear hgo
        go_wp2
        go_roundw
        case rel=>exact ⟨kk+1,qq,by omega,by go_num,HST.out,HB.out,hb1l⟩
        case measure=>simp [intOf];omega
       ·have hj1i:¬(jj:Int)<(gs:Int):=by omega
        clear hgo
        go_wp2
        go_roundw
        case rel=>exact ⟨kk+1,qq,by omega,by go_num,HST.out,HB.out,hb1l⟩
        case measure=>simp [intOf];omega
  ·have hk1:¬(kk:Int)<(G:Int):=by omega
   have hkG:kk=G:=by omega
   have hqs:q=size:=by have:=HQ.out;rw [hkG] at this;omega
   rw [hqs] at HO
   obtain ⟨aB,cB,rfl,hrB⟩:=qaw HO.out
   obtain ⟨J,hJ⟩:∃J,J=F.take size:=⟨_,rfl⟩
   have HFL:=hid (show size=J.length by rw [hJ,List.length_take];omega)
   rw [←hJ] at hrB
   have HRB:=hid hrB
   have HJ:=hid hJ
   obtain ⟨S,hS⟩:∃S:ByteArray,S=⟨J.toArray⟩:=⟨_,rfl⟩
   have HSS:=hid hS
   clear hkG hqs hrB hS HQ hJ HO
   go_wp2_with (go_at_call 206;refine (HGR.out _).mono ?_;rintro e wg ⟨rfl,hbg⟩;have hcv:=qa6 wg aB cB size J HFL.out (HRB.out.below hbg nl);rw [←HSS.out] at hcv)
   go_ret
   exact ⟨by show Ending.returned (.string S)=_;rw [HSS.out,HJ.out],(hb01.trans (hbel.mono (by omega))).trans (hbg.mono (by omega))⟩
def prow (P:Nat→List UInt8) (ss:List Nat):List Value:=ss.flatMap fun (i:Nat)=>[.int .i64 (i:Int),.string ⟨(P i).toArray⟩]
theorem qha (P:Nat→List UInt8) (a b:List Nat):prow P (a++b)=prow P a++prow P b:=by simp [prow]
theorem qlL (P:Nat→List UInt8) (ss:List Nat) (k:Nat) (hk:k<ss.length):(prow P ss)[k*2]?=some (.int .i64 (ss.getD k 0:Nat))∧(prow P ss)[k*2+1]?=some (.string ⟨(P (ss.getD k 0)).toArray⟩):=by
 induction ss generalizing k with
 | nil=>simp at hk
 | cons s ss ih =>
  cases k with
  | zero=>simp [prow]
  | succ k =>
   have:=ih k (by simpa using hk)
   have e:(k+1)*2=k*2+2:=by omega
   rw [e]
   simp only [prow,List.flatMap_cons] at this ⊢
   simpa using this
theorem ql0 {w:World} {a:Option Addr} {P:Nat→List UInt8} {ss:List Nat} (h:Rd w a (prow P ss)):PRd w a ss (ss.map fun i=>⟨(P i).toArray⟩):=by
 intro i hi
 obtain ⟨h1,h2⟩:=qlL P ss i hi
 obtain ⟨b,o,e,hlt,hc⟩:=h _ _ h1
 obtain ⟨b',o',e',_,hc'⟩:=h _ _ h2
 rw [e] at e'
 cases e'
 refine ⟨b,o,e,hlt,hc,?_⟩
 rw [Nat.add_assoc,hc',List.getD_eq_getElem?_getD,List.getD_eq_getElem?_getD,List.getElem?_map,List.getElem?_eq_getElem hi]
 rfl
theorem qgR (f:Nat→Bool) (i n:Nat) (h:i≤n):(upTo f n).take (upTo f i).length=upTo f i:=by
 induction n with
 | zero=>
  obtain rfl:i=0:=by omega
  exact List.take_length
 | succ n ih =>
  rcases Nat.lt_or_eq_of_le h with h' | rfl
  ·have:=ih (by omega)
   have hl:(upTo f i).length≤(upTo f n).length:=by
    have:=congrArg List.length this
    rw [List.length_take] at this
    omega
   cases hf:f n with
   | false=>rw [qfB f n hf,List.take_append_of_le_length hl];exact this
   | true=>rw [qf7 f n hf];exact this
  ·exact List.take_length
theorem qji (f:Nat→Bool) (n s:Nat) (h:s∈upTo f n):s<n:=by
 unfold upTo at h
 rw [List.mem_filter,List.mem_range] at h
 exact h.1
theorem qih (f:Nat→Bool) (n:Nat):(upTo f n).Nodup:=List.Pairwise.filter _ List.nodup_range
def getR (o:Ob) (ss:List Nat) (Q:Nat→List UInt8) (e:Ending):Prop :=
 if Cof.gsize o.mode o.t o.l+Cof.tsize o.mode o.t≤ss.length then
  e=.returned (.tuple #[.string ⟨(Cof.join o.mode o.t o.l o.size (ss.take (Cof.gsize o.mode o.t o.l+Cof.tsize o.mode o.t)) ((ss.take (Cof.gsize o.mode o.t o.l+Cof.tsize o.mode o.t)).map Q)).toArray⟩,.int .i64 0])
 else e=.returned (.tuple #[.string ⟨#[]⟩,.int .i64 10])
section
variable {w:World} {P n key:Nat} {dn:Nat→Bool} {dv:Value} {xs:List RObj}
theorem Wd.get_no (h:Wd w P n key dn dv xs) (nm:ByteArray) (hno:∀j,j<xs.length→(xs[j]!).ob.name≠nm) :
  Calls Tryz.prog 113 #[.pointer (some ⟨P,0,none⟩),.string nm] w fun e w'=>e=.returned (.tuple #[.string ⟨#[]⟩,.int .i64 9])∧w'=w:=by
 have HF:=hid (h.find_any nm (-1) (fun _=>rfl) (fun k hk e _=>absurd e (hno k hk)))
 clear h hno
 go_enter Tryz.func113,Tryz.ntmps113
 go_wp2_with fail
 refine HF.out.mono ?_
 rintro e w2 ⟨rfl,hw2⟩
 obtain rfl:=hw2.symm
 go_wp2_with fail
 go_ret2
 exact ⟨rfl,rfl⟩
theorem Wd.get_yes (h:Wd w P n key dn dv xs) (nm:ByteArray) (k:Nat) (hk:k<xs.length) (hnm:(xs[k]!).ob.name=nm) (hbef:∀j,j<xs.length→(xs[j]!).ob.name=nm→j=k) (hok:ObOk n (xs[k]!).ob) (hsz:∀i,i<n→((xs[k]!).sh[i]!).size≤200) (bad:Nat→Bool) (Q:Nat→List UInt8) (o:Ob) (ho:o=(xs[k]!).ob)
  (hJ:qd7 key o.mode o.t o.l n o.epoch o.size nm (Cof.ngroups o.mode o.t o.l o.size) dn bad (fun i=>((xs[k]!).sh[i]!).data.toList) Q) :
  Calls Tryz.prog 113 #[.pointer (some ⟨P,0,none⟩),.string nm] w fun e w' =>
   getR o (upTo (fun i=>dn i || bad i) n) Q e∧Below w.heap.size w w':=by
 have HF:=hid (h.find_any nm k (fun hno=>absurd hnm (hno k hk)) (fun j hj e _=>by rw [hbef j hj e]))
 obtain ⟨i0,hi,hz0,hz1,hz2⟩:=info_parts Tryz.infoPiece
 obtain ⟨oa,oc,h1,hrd⟩:=h.hp
 have hPl:=cells_lt h1
 have hn1:=h.n1
 have hn8:=h.n8
 have hl10:=h.len
 have hkey:=h.hk
 obtain ⟨D,dc,hdv,_,_⟩:=h.down.form h.n1
 subst hdv
 have c3:w.cell? ⟨P,3,none⟩=some (.slice oa xs.length oc):=cq h1 rfl
 obtain ⟨b,oo,rfl,hblt,_⟩:=hrd.pos (by rw [qar];omega)
 obtain ⟨_,k0,k1,k2,k3,k4,k5,k6⟩:=qbf hrd k hk (xs[k]!) (getElem!_pos xs k hk)
 have hmem:xs[k]! ∈ xs:=by rw [getElem!_pos xs k hk];exact List.getElem_mem _
 obtain ⟨hsl,hsr⟩:=h.sh _ hmem
 have HDN:=hid (qaC h.down)
 have HDL:=hid (h.down.lt D rfl).2
 have HP:=hid h1
 obtain ⟨x,hx⟩:∃x,x=xs[k]! := ⟨_,rfl⟩
 rw [←hx] at k0 k1 k2 k3 k4 k5 k6 hsl hsr hok hsz hJ ho hnm
 have HTH:=hid (fun w'=>qe3 x.ob.mode x.ob.t x.ob.l n w' hok.plan)
 have hplan:=hok.plan
 have hz60:=hok.z
 have HPC:=hid (fun (i:Nat) (hin:i<n) (w':World) (hb:Below w.heap.size w w')=>qfj P n key _ _ x i w' ((hb.block P hPl).trans HP.out) hok hin hkey hsl (hsr.below hb nl) (hsz i hin))
 obtain ⟨f,hf⟩:∃f:Nat→Bool,f=fun i=>dn i || bad i:=⟨_,rfl⟩
 have HJ:=hid hJ
 have HO:=hid ho
 have HFE:=hid hf
 have HNM:=hid hnm
 subst ho
 rw [←hf]
 obtain ⟨t,ht⟩:∃t,t=Cof.gsize x.ob.mode x.ob.t x.ob.l+Cof.tsize x.ob.mode x.ob.t:=⟨_,rfl⟩
 obtain ⟨hgs1,hgs8,hts8⟩:=qcB hplan
 rw [←ht] at HTH
 have ht1:1≤t:=by omega
 have ht16:t≤16:=by omega
 have HT:=hid ht
 obtain ⟨m,hm⟩:∃m,m=xs.length:=⟨_,rfl⟩
 have hkm:(k:Int)<(m:Int):=by omega
 rw [←hm] at c3 hl10
 clear h h1 hrd hbef hmem hsl hsr hok hsz hJ hf hnm ht hm hx hk
 have hal:=(Below.refl w.heap.size w).alloc nl (.cells #[.string x.ob.name,.int .i64 x.ob.mode,.int .i64 x.ob.t,.int .i64 x.ob.l,.int .i64 x.ob.size,.int .i64 x.ob.epoch,.slice x.sa n x.sc] 198)
 go_enter Tryz.func113,Tryz.ntmps113
 go_wp2_with fail
 refine HF.out.mono ?_
 rintro e w2 ⟨rfl,hw2⟩
 obtain rfl:=hw2.symm
 clear HF
 go_wp2_with fail
 refine (HTH.out _).mono ?_
 rintro e w3 ⟨rfl,hb3⟩
 have hb03:=hal.trans (hb3.mono hal.size)
 have hB3:w3.heap[w.heap.size]?=some (.cells #[.string x.ob.name,.int .i64 x.ob.mode,.int .i64 x.ob.t,.int .i64 x.ob.l,.int .i64 x.ob.size,.int .i64 x.ob.epoch,.slice x.sa n x.sc] 198):=(hb3.block _ (by simp)).trans (alloc_at _ _)
 have HB3:=hid hB3
 clear hB3 k0 k1 k2 k3 k4 k5 k6 c3 HTH hb3 hal
 go_wp2_with fail
 go_loopw [9,10] (fun l u wr=>∃j:Nat,j≤n∧u=.int .i64 j∧(upTo f j).length≤t∧wr.ownsRow w3.heap.size 63 2 l (upTo f j).length (prow Q (upTo f j))∧Below w3.heap.size w3 wr) (fun _ u _=>n-(intOf u).toNat)
 case atStart=>exact ⟨0,Nat.zero_le _,rfl,Nat.zero_le _,World.ownsRow_nil _ _ _ _,bl⟩
 case round =>
  obtain ⟨j,hjn,rfl,hlen,hown,hbr⟩:=hrel
  obtain ⟨la,lc,hlv,hlrd⟩:=qad hown
  subst hlv
  have HR:=hid hown
  have HLR:=hid hlrd
  have hb0r:=hb03.trans (hbr.mono hb03.size)
  have hPr:=(hb0r.block P hPl).trans HP.out
  have p0:wr.cell? ⟨P,0,none⟩=some (.int .i64 n):=cq hPr rfl
  have p2:wr.cell? ⟨P,2,none⟩=some (.slice (some ⟨D,0,none⟩) n dc):=cq hPr rfl
  have HPR:=hid hPr
  have hBr:=(hbr.block w.heap.size (cells_lt HB3.out)).trans HB3.out
  have k0:wr.cell? ⟨w.heap.size,0,none⟩=some (.string x.ob.name):=cq hBr rfl
  have k1:wr.cell? ⟨w.heap.size,1,none⟩=some (.int .i64 x.ob.mode):=cq hBr rfl
  have k2:wr.cell? ⟨w.heap.size,2,none⟩=some (.int .i64 x.ob.t):=cq hBr rfl
  have k3:wr.cell? ⟨w.heap.size,3,none⟩=some (.int .i64 x.ob.l):=cq hBr rfl
  have k4:wr.cell? ⟨w.heap.size,4,none⟩=some (.int .i64 x.ob.size):=cq hBr rfl
  have k5:wr.cell? ⟨w.heap.size,5,none⟩=some (.int .i64 x.ob.epoch):=cq hBr rfl
  have k6:wr.cell? ⟨w.heap.size,6,none⟩=some (.slice x.sa n x.sc):=cq hBr rfl
  clear hown hlrd hPr hBr
  have hle:=qfs f j
  by_cases hgo:j<n∧(upTo f j).length<t
  ·obtain ⟨hjl,hll⟩:=hgo
   have hjl':(j:Int)<(n:Int):=by omega
   have hll':(((upTo f j).length:Nat):Int)<(t:Int):=by omega
   have HUY:=hid (qfB f j)
   have HUN:=hid (qf7 f j)
   have HPA:=hid (qha Q (upTo f j) [j])
   obtain ⟨ll,hlle⟩:∃ll,ll=(upTo f j).length:=⟨_,rfl⟩
   have HLL:=hid hlle
   rw [←hlle] at hle hlen hll hll' HR ⊢
   clear hlle
   go_wp2_with fail
   refine (HPC.out j hjl wr hb0r).mono ?_
   rintro e w4 ⟨q,ok,rfl,hok1,hok2,hb4⟩
   have hb34:=hbr.trans (hb4.mono hbr.size)
   have hb04:=hb03.trans (hb34.mono hb03.size)
   have hP4:=(hb04.block P hPl).trans HP.out
   have p2':w4.cell? ⟨P,2,none⟩=some (.slice (some ⟨D,0,none⟩) n dc):=cq hP4 rfl
   have HDJ:=hid (show w4.cell? ⟨D,j,none⟩=some (.bool (dn j)) from by
    obtain ⟨b',o',e1,_,e2⟩:=(HDN.out.below hb04 nl) j _ (qcA dn n j hjl)
    cases e1
    rwa [Nat.zero_add] at e2)
   have dj:=HDJ.out
   have HR4:=hid (qab (own:=fun _=>False) HR.out (qaa.ofBelow hb4 nl) (fun _ _ h=>h))
   have HFJ:=hid (show f j=(dn j || bad j) by rw [HFE.out])
   have HJJ:=hid (fun hd=>HJ.out j hjl hd)
   clear p2 p0 k0 k1 k2 k3 k4 k5 k6 hP4 HPC
   cases ok with
   | false =>
    have hfj:f j=true:=by
     rw [HFJ.out]
     cases hd:dn j with
     | true=>rfl
     | false =>
      cases hbd:bad j with
      | true=>rfl
      | false=>exact absurd (by have:=(HJJ.out hd).1 hbd;rw [←HNM.out] at this;exact this) (hok2 rfl _)
    have HUP:=hid (HUN.out hfj)
    clear hok1 hok2 dj hfj
    go_wp2_with fail
    go_roundw
    case rel=>exact ⟨j+1,by omega,by go_num,by rw [HUP.out,←HLL.out];exact hlen,by rw [HUP.out,←HLL.out];exact HR4.out,hb34⟩
    case measure=>simp [intOf];omega
   | true =>
    cases hd:dn j with
    | true =>
     have HUP:=hid (HUN.out (by rw [HFJ.out,hd];rfl))
     rw [hd] at dj
     clear hok1 hok2 hd
     go_wp2_with fail
     go_roundw
     case rel=>exact ⟨j+1,by omega,by go_num,by rw [HUP.out,←HLL.out];exact hlen,by rw [HUP.out,←HLL.out];exact HR4.out,hb34⟩
     case measure=>simp [intOf];omega
    | false =>
     have hbd:bad j=false:=by
      cases hbd:bad j with
      | false=>rfl
      | true=>exact absurd ⟨_,by have:=hok1 rfl;rw [HNM.out] at this;exact this⟩ ((HJJ.out hd).2 hbd)
     have hq:q=⟨(Q j).toArray⟩:=by
      have h1:=hok1 rfl
      rw [HNM.out] at h1
      have:=qek h1 ((HJJ.out hd).1 hbd)
      rw [←this]
     have HUP:=hid (HUY.out (by rw [HFJ.out,hd,hbd];rfl))
     have HLP:=hid (show (upTo f (j+1)).length=ll+1 by rw [HUP.out,List.length_append,←HLL.out];rfl)
     have HRP:=hid (show prow Q (upTo f (j+1))=prow Q (upTo f j)++[.int .i64 j,.string q] by rw [HUP.out,HPA.out,hq];rfl)
     rw [hd] at dj
     have hzb:=hb34.size
     generalize prow Q (upTo f j)=LL at *
     clear hok1 hok2 hd hbd hq
     go_wp2_with (first | (at_builtin;refine wpList_append_lies _ rfl (.tmp 61) (.tmp 65) 61 rfl w3.heap.size 63 i0 (.agg #[.int .i64 0,.string ByteArray.empty]) 2 24 Tryz.underlying61 hi hz0 hz1 hz2 rfl (by decide) (.slice la ll lc) _ LL rfl (HR4.out.alloc _) ⟨w4.heap.size,0,none⟩ 1 1 [.int .i64 j,.string q] rfl rfl (World.news_of_block (cs:=#[.int .i64 j,.string q]) (t:=63) (fr:=(0,0)) (heap_alloc_new w4 _)) (by simp [Value.oneCell']) (by decide) (by unfold maxLen;omega) (by omega) (by simp<;>omega) (w4.heap.size+1) (by simp) ?_;intro g5 c5 w5 hown5 hgrow5 hat5 _;have HO5:=hid hown5;have hb5:Below w3.heap.size w3 w5:=(hb34.alloc hzb _).grown hgrow5 (by simp<;>omega) (fun b hb=>(HR4.out.lt b hb).1);rw [←HRP.out] at HO5;clear hown5 hgrow5 hat5)|fail)
     go_roundw
     case rel=>exact ⟨j+1,by omega,by go_num,by rw [HLP.out];omega,by rw [HLP.out];exact HO5.out,hb5⟩
     case measure=>simp [intOf];omega
  ·have hout:n≤j∨t≤(upTo f j).length:=by omega
   have HOUT:=hid hout
   obtain ⟨ll,hlle⟩:∃ll,ll=(upTo f j).length:=⟨_,rfl⟩
   have HLL:=hid hlle
   have hcond:(decide ((j:Int)<(n:Int)) && decide ((ll:Int)<(t:Int)))=false:=by
    rw [Bool.and_eq_false_iff]
    by_cases h1:(j:Int)<(n:Int)
    ·exact .inr (decide_eq_false (by omega))
    ·exact .inl (decide_eq_false h1)
   rw [←hlle] at hle hlen HR ⊢
   clear hlle hout hgo
   have HVA:=hid (fun (hl:(upTo f j).length=t) (hb:Below w.heap.size w wr)=>qhY x.ob.mode x.ob.t x.ob.l n x.ob.size t lc la (upTo f j) ((upTo f j).map fun i=>⟨(Q i).toArray⟩) wr hplan hz60 hl.symm (by rw [List.length_map,hl]) (ql0 HLR.out) ht1 ht16 (fun s hs=>Nat.lt_of_lt_of_le (qji f j s hs) hjn) (qih f j) (fun i hi=>by
    rw [List.getD_eq_getElem?_getD,List.getElem?_map,List.getElem?_eq_getElem (by rw [hl];exact hi)]
    show (Q _).toArray.size=_
    have hm:=List.getElem_mem (l:=upTo f j) (n:=i) (by rw [hl];exact hi)
    generalize (upTo f j)[i]'(by rw [hl];exact hi)=s at hm
    have hsn:=Nat.lt_of_lt_of_le (qji f j s hm) hjn
    have hfs:f s=false:=by
     unfold upTo at hm
     rw [List.mem_filter] at hm
     simpa using hm.2
    rw [HFE.out] at hfs
    simp only [Bool.or_eq_false_iff] at hfs
    have:=((HJ.out s hsn hfs.1).1 hfs.2).1
    simpa using this))
   have FIN:=hid (show (upTo f j).length=t→t≤(upTo f n).length∧(upTo f n).take t=upTo f j from fun hl=>by
    have:=qgR f j n hjn
    rw [hl] at this
    refine ⟨?_,this⟩
    have h2:=congrArg List.length this
    rw [List.length_take,hl] at h2
    omega)
   have HRES:=hid (show ∀ss:List Nat,((Cof.full x.ob.mode x.ob.t x.ob.l x.ob.size ss ((ss.map fun i=>(⟨(Q i).toArray⟩:ByteArray)).map fun p=>p.data.toList)).take x.ob.size)=Cof.join x.ob.mode x.ob.t x.ob.l x.ob.size ss (ss.map Q) from fun ss=>by
    rw [List.map_map]
    have:((fun p:ByteArray=>p.data.toList) ∘ fun i=>(⟨(Q i).toArray⟩:ByteArray))=Q:=by funext i;simp
    rw [this]
    rfl)
   clear hcond
   by_cases hlt:ll=t
   ·subst hlt
    have hvc:=HVA.out HLL.out.symm hb0r
    rw [HRES.out] at hvc
    have HVC:=hid hvc
    clear hvc
    by_cases hj1:j<n
    ·have hj1':(j:Int)<(n:Int):=by omega
     go_wp2_with fail
     refine HVC.out.mono ?_
     rintro e w5 ⟨rfl,hb5⟩
     go_wp2_with fail
     go_ret2
     have hFIN:=FIN.out HLL.out.symm
     refine ⟨?_,hb0r.trans (hb5.mono hb0r.size)⟩
     unfold getR
     rw [←HT.out,if_pos hFIN.1,hFIN.2]
     rfl
    ·have hj1':¬(j:Int)<(n:Int):=by omega
     go_wp2_with fail
     refine HVC.out.mono ?_
     rintro e w5 ⟨rfl,hb5⟩
     go_wp2_with fail
     go_ret2
     have hFIN:=FIN.out HLL.out.symm
     refine ⟨?_,hb0r.trans (hb5.mono hb0r.size)⟩
     unfold getR
     rw [←HT.out,if_pos hFIN.1,hFIN.2]
     rfl
   ·have hj1:j=n:=by have:=HOUT.out;have:=HLL.out;omega
    subst hj1
    have hll:(ll:Int)<(t:Int):=by omega
    have HFEW:=hid (show ¬t≤(upTo f j).length by rw [←HLL.out];omega)
    go_wp2_with fail
    go_ret2
    refine ⟨?_,hb0r⟩
    unfold getR
    rw [←HT.out,if_neg HFEW.out]
    rfl
end
def qaK (w:World) (G:Nat) (L:Seat) (ov:Value) (ls:List KL) (e:Ending) (w':World):Prop :=
 e=.returned (.bool true)∧∃s' P' dv' xs' wv',Play w' G L s' P' dv' xs' wv' ov ls∧Below L.base w w'
section
variable {w w':World} {G:Nat} {L:Seat} {s s':Sta} {P:Nat} {dv:Value} {xs:List RObj} {wv ov:Value} {ls:List KL}
theorem Play.set_g (h:Play w G L s P dv xs wv ov ls) (hg:Gm w' G L.C L.n L.key wv s.p.done ov) (hs:qaa (fun b=>b=G) w w'):Play w' G L s P dv xs wv ov ls :=
 ⟨h.bank.keeps hs h.gty,h.calm,h.quiet,hg,h.gb,qab h.row hs (fun b hb e=>qaz h.row h.gm (by decide) (by rw [←e];exact hb)),h.gm.wd_set h.wd hs,h.dvb,h.twin,h.bk.spared hs fun b cs t fz hb ht=>h.gm.apart hb (by rcases ht with h | h<;>(subst h;decide)),h.l4,h.i64⟩
theorem Play.g_lower (h:Play w G L s P dv xs wv ov ls) (hs:qaa (fun b=>b=G) w w'):Below L.base w w' :=
 hs.below L.base h.bank.G.bs fun b hb=>by rw [hb];exact h.gb
theorem Play.done_zero (h:Play w G L s P dv xs wv ov ls) :
  Calls Tryz.prog 66 #[.pointer (some ⟨G,0,none⟩)] w fun e w'=>e=.returned (.int .i64 0)∧Play w' G L s P dv xs wv ov ls∧Below L.base w w':=by
 refine (h.gm.done_any h.bank).mono ?_
 rintro e w' ⟨rfl,hg,hs⟩
 refine ⟨?_,h.set_g hg hs,h.g_lower hs⟩
 rw [Int.sub_self,Go.IntWalk.wrap64_in 0 (by decide)]
theorem Play.dv_block (h:Play w G L s P dv xs wv ov ls) {D:Nat} (hD:dv.ownBlock=some D):D<w.heap.size∧L.base≤D∧∃cs fz,w.heap[D]?=some (.cells cs 4 fz):=by
 obtain ⟨cs,fz,h1⟩:=owns_block h.wd.down hD
 exact ⟨cells_lt h1,h.dvb D hD,cs,fz,h1⟩
theorem Play.ups_any (h:Play w G L s P dv xs wv ov ls) (kind a b:Int) (nm vl:ByteArray) (pm pt pl:Int) (tp:ByteArray) (yes:Bool) (tt:Int) (ha:I64 a) :
  Calls Tryz.prog 67 #[.pointer (some ⟨G,0,none⟩),.agg #[.int .i64 kind,.int .i64 a,.int .i64 b,.string nm,.string vl,.int .i64 pm,.int .i64 pt,.int .i64 pl,.string tp,.bool yes,.int .i64 tt]] w fun e w'=>qaK w G L ov ls e w':=by
 obtain ⟨g,c,rfl,_,hgl⟩:=h.row.form (by decide)
 have hrow:w.cell? ⟨g,0,none⟩=some (.pointer (some ⟨P,0,none⟩)):=h.row.cellAt 0 (by decide)
 obtain ⟨gcs,gfz,hgb⟩:=owns_block h.row (b:=g) rfl
 by_cases hno:a<0∨(L.n:Int)≤a
 ·refine (qh4 (P:=P) kind a b nm vl pm pt pl tp yes tt 13 (fun _=>False) (fun _=>False) (fun w'=>Play w' G L s P dv xs (.slice (some ⟨g,0,none⟩) 1 c) ov ls) (fun w'=>Play w' G L s P dv xs (.slice (some ⟨g,0,none⟩) 1 c) ov ls) h.gm hrow hgl (fun _ h=>h.elim) (fun _ h=>h.elim) (fun w1 w2 hp hs=>hp.below hs.none_below) (fun w1 w2 hp hs=>hp.below hs.none_below) ?_ ?_).mono ?_
  ·intro w1 hb
   refine (((h.bank.below hb).ask h.calm.1).up_store a yes ha hno).mono ?_
   rintro e w2 ⟨rfl,hb2⟩
   exact ⟨rfl,(h.below hb).below hb2,qaa.ofBelow hb2 nl⟩
  ·intro w1 hp
   refine (hp.wd.up_bad a yes hno).mono ?_
   rintro e w2 ⟨rfl,rfl⟩
   exact ⟨rfl,hp,sr⟩
  ·rintro e w' ⟨rfl,hp,hs⟩
   exact ⟨rfl,s,P,dv,xs,_,hp,(hs.mono (own':=fun _=>False) fun b hb=>hb.elim id id).none_below.mono h.bank.G.bs⟩
 ·obtain ⟨i,rfl⟩:∃i:Nat,a=i:=⟨a.toNat,by omega⟩
  have hi:i<L.n:=by omega
  obtain ⟨s1,hs1⟩:∃s1:Sta,s1=⟨fun j=>if j=i then !yes else s.dn j,s.vs,s.rss,s.p,s.X⟩:=⟨_,rfl⟩
  refine (qh4 (P:=P) kind i b nm vl pm pt pl tp yes tt 0 (Mine L s) (fun b=>dv.ownBlock=some b) (fun w'=>Bank w' L s1∧Wd w' P L.n L.key s.dn dv xs) (fun w'=>Bank w' L s1∧Wd w' P L.n L.key s1.dn dv xs) h.gm hrow hgl ?_ ?_ (fun w1 w2 hp hs=>⟨hp.1.below hs.none_below,hp.2.below hs.none_below nl⟩) (fun w1 w2 hp hs=>⟨hp.1.below hs.none_below,hp.2.below hs.none_below nl⟩) ?_ ?_).mono ?_
  ·intro x hx
   exact ⟨h.bank.mine_lt hx,fun e=>h.bank.mine_not h.gm (by unfold GT;simp) (e ▸ hx),fun e=>h.bank.mine_not hgb (by unfold GT;simp) (e ▸ hx)⟩
  ·intro x hx
   obtain ⟨h1,_,cs,fz,h2⟩:=h.dv_block hx
   refine ⟨h1,h.gm.apart h2 (by decide),fun e=>?_⟩
   rw [e,hgb] at h2
   cases h2
  ·intro w1 hb
   refine ((h.bank.below hb).up_go i hi yes).mono ?_
   rintro e w2 ⟨rfl,hB,hs⟩
   rw [hs1]
   exact ⟨rfl,⟨hB,(h.bank.below hb).wd_mine (h.wd.below hb nl) hs⟩,hs⟩
  ·rintro w1 ⟨hB,hW⟩
   refine (hW.up_go i yes hi).mono ?_
   rintro e w2 ⟨rfl,D,hD,hW2,hs⟩
   refine ⟨rfl,⟨hB.keeps hs fun b hb _=>?_,by rw [hs1];exact hW2⟩,hs.mono fun b hb=>by rw [hb];exact hD⟩
   rw [hb]
   obtain ⟨cs,fz,h1⟩:=owns_block hW.down hD
   exact ⟨h.dvb D hD,cs,_,fz,h1,by unfold GT;simp⟩
  ·rintro e w' ⟨rfl,⟨hB,hW⟩,hs⟩
   have hown:∀{b cs t fz},w.heap[b]?=some (.cells cs t fz)→GT t→t≠4→¬(Mine L s b∨dv.ownBlock=some b):=fun hb ht hne e=>by
    rcases e with e | e
    ·exact h.bank.mine_not hb ht e
    ·obtain ⟨_,_,cs,fz,h2⟩:=h.dv_block e
     rw [h2] at hb
     cases hb
     exact hne rfl
   have hd:s1.p=s.p∧s1.rss=s.rss∧s1.X=s.X:=by rw [hs1];exact ⟨rfl,rfl,rfl⟩
   refine ⟨rfl,s1,P,dv,xs,.slice (some ⟨g,0,none⟩) 1 c,⟨hB,?_,by rw [hd.1];exact h.quiet,?_,h.gb,?_,hW,h.dvb,by rw [hd.2.1,hd.2.2];exact h.twin,?_,h.l4,by rw [hd.1];exact h.i64⟩,hs.below L.base h.bank.G.bs fun b hb=>hb.elim (fun h1=>h.bank.mine_ge h1) (fun e=>h.dvb b e)⟩
   ·have hc:=h.calm
    unfold Calm at hc ⊢
    rw [hd.1,hd.2.1]
    exact hc
   ·rw [hd.1]
    exact hs.heap h.gm (hown h.gm (by unfold GT;simp) (by decide))
   ·exact qab h.row hs fun b hb=>by
     obtain ⟨cs,fz,h1⟩:=owns_block h.row hb
     exact hown h1 (by unfold GT;simp) (by decide)
   ·exact h.bk.spared hs fun b cs t fz hb ht=>hown hb (by unfold GT;rcases ht with h | h<;>simp [h]) (by rcases ht with h | h<;>(subst h;decide))
theorem Play.ask_end (h:Play w G L s P dv xs wv ov ls) {e:Ending} (he:e=.returned (.bool true)∧∃g' c',Gm w' G L.C L.n L.key (.slice (some ⟨g',0,none⟩) 1 c') s.p.done ov∧w'.ownsRow w.heap.size 88 1 (.slice (some ⟨g',0,none⟩) 1 c') 1 [.pointer (some ⟨P,0,none⟩)]∧qaa (fun b=>b=G) w w'):qaK w G L ov ls e w':=by
 obtain ⟨h1,g',c',hg,hr,hs⟩:=he
 exact ⟨h1,s,P,dv,xs,_,h.row_new hg hr hs,h.g_lower hs⟩
theorem Play.asks_shard_any (h:Play w G L s P dv xs wv ov ls) (a b:Int) (nm vl:ByteArray) (pm pt pl:Int) (tp:ByteArray) (yes:Bool) (tt:Int) (ha:I64 a) :
  Calls Tryz.prog 65 #[.pointer (some ⟨G,0,none⟩),.agg #[.int .i64 7,.int .i64 a,.int .i64 b,.string nm,.string vl,.int .i64 pm,.int .i64 pt,.int .i64 pl,.string tp,.bool yes,.int .i64 tt]] w fun e w'=>qaK w G L ov ls e w':=by
 obtain ⟨g,c,rfl,_,_⟩:=h.row.form (by decide)
 have ask:=fun w1 (hb:Below w.heap.size w w1)=>(h.bank.below hb).ask h.calm.1
 have wd:=fun w1 (hb:Below w.heap.size w w1)=>h.wd.below hb nl
 have GO:=fun A k HC HR=>(qiI (P:=P) a b nm vl pm pt pl tp yes tt A k h.gm h.row HC HR).mono fun e w' he=>h.ask_end he
 by_cases hno:a<0∨(L.n:Int)≤a
 ·exact GO ⟨#[]⟩ 13 (fun w1 hb=>(ask w1 hb).shard_store a nm ha hno) (fun w1 hb=>((wd w1 hb).shard_bad a nm hno).mono fun e w2 ⟨h1,h2⟩=>⟨h1,by rw [h2];exact bl⟩)
 ·obtain ⟨i,rfl⟩:∃i:Nat,a=i:=⟨a.toNat,by omega⟩
  have hi:i<L.n:=by omega
  cases hy:hasName (s.rss 0) nm with
  | false =>
   have hno:=h.twin.no (h.bank.so 0 h.bank.n1) nm hy
   exact GO ⟨#[]⟩ 9 (fun w1 hb=>(ask w1 hb).shard_none i nm hi (by rw [h.calm.2.hasName h.bank.n1 h.bank.so nm i hi];exact hy)) (fun w1 hb=>((wd w1 hb).shard_no i nm hi hno).mono fun e w2 ⟨h1,h2⟩=>⟨h1,by rw [h2];exact bl⟩)
  | true =>
   obtain ⟨k1,k2,k3,k4,_,k6⟩:=h.obj nm hy _ rfl
   refine GO ((xs[qai (s.rss 0) nm]!).sh[i]!) 0 (fun w1 hb=>((h.bank.below hb).shard_yes h.calm.1 i hi nm (h.has nm hy i hi)).mono fun e w2 ⟨h1,h2⟩=>⟨?_,h2⟩) (fun w1 hb=>((wd w1 hb).shard_yes i nm hi _ k1 k3 k4).mono fun e w2 ⟨h1,h2⟩=>⟨h1,by rw [h2];exact bl⟩)
   rw [h1,←(k6 i hi).1]
theorem Play.asks_get_any (h:Play w G L s P dv xs wv ov ls) (a b:Int) (nm vl:ByteArray) (pm pt pl:Int) (tp:ByteArray) (yes:Bool) (tt:Int) :
  Calls Tryz.prog 65 #[.pointer (some ⟨G,0,none⟩),.agg #[.int .i64 3,.int .i64 a,.int .i64 b,.string nm,.string vl,.int .i64 pm,.int .i64 pt,.int .i64 pl,.string tp,.bool yes,.int .i64 tt]] w fun e w'=>qaK w G L ov ls e w':=by
 obtain ⟨g,c,rfl,_,_⟩:=h.row.form (by decide)
 have ask:=fun w1 (hb:Below w.heap.size w w1)=>(h.bank.below hb).ask h.calm.1
 have wd:=fun w1 (hb:Below w.heap.size w w1)=>h.wd.below hb nl
 have GO:=fun A k HC HR=>(qkQ (P:=P) a b nm vl pm pt pl tp yes tt A k h.gm h.row HC HR).mono fun e w' he=>h.ask_end he
 cases hy:hasName (s.rss 0) nm with
 | false =>
  have hno:=h.twin.no (h.bank.so 0 h.bank.n1) nm hy
  exact GO ⟨#[]⟩ 9 (fun w1 hb=>(ask w1 hb).get_none nm hy) (fun w1 hb=>((wd w1 hb).get_no nm hno).mono fun e w2 ⟨h1,h2⟩=>⟨h1,by rw [h2];exact bl⟩)
 | true =>
  obtain ⟨p,hp⟩:∃p,p=qai (s.rss 0) nm:=⟨_,rfl⟩
  obtain ⟨k1,k2,k3,k4,k5,k6⟩:=h.obj nm hy p hp
  obtain ⟨o,ho⟩:∃o,o=(qac (s.rss 0) nm).ob:=⟨_,rfl⟩
  obtain ⟨bad,Q,hJ⟩:=qeZ L.key o.mode o.t o.l L.n o.epoch o.size nm (Cof.ngroups o.mode o.t o.l o.size) s.dn (fun i=>(qac (s.rss i) nm).x s.X)
  have hJ2:qd7 L.key o.mode o.t o.l L.n o.epoch o.size nm (Cof.ngroups o.mode o.t o.l o.size) s.dn bad (fun i=>((xs[p]!).sh[i]!).data.toList) Q:=fun i hi hd=>by
   have:=hJ i hi hd
   simp only [←(k6 i hi).1] at this
   exact this
  have H1:=fun w1 (hb:Below w.heap.size w w1)=>(h.bank.below hb).get_go h.calm nm hy o ho bad Q hJ
  have H2:=fun w1 (hb:Below w.heap.size w w1)=>(wd w1 hb).get_yes nm p k1 k3 k4 k5 (fun i hi=>(k6 i hi).2.2) bad Q o (by rw [ho,k2]) hJ2
  unfold getR at H2
  by_cases hle:Cof.gsize o.mode o.t o.l+Cof.tsize o.mode o.t≤(upTo (fun i=>s.dn i || bad i) L.n).length
  ·simp only [if_pos hle] at H1 H2
   exact GO _ 0 H1 H2
  ·simp only [if_neg hle] at H1 H2
   exact GO _ 10 H1 H2
theorem Play.spoils_of (h:Play w G L s P dv xs wv ov ls) (kind a b:Int) (nm vl:ByteArray) (pm pt pl:Int) (tp:ByteArray) (yes:Bool) (tt:Int) (k:Int) (X':UInt8→Nat→List UInt8)
  (HC:∀(u:UInt8) w1,Below w.heap.size w w1→Calls Tryz.prog 23 #[.pointer (some ⟨L.C,0,none⟩),.int .i64 a,.string nm,.int .i64 b,.int .u8 u.toNat] w1 fun e w2=>e=.returned (.int .i64 k)∧Bank w2 L ⟨s.dn,s.vs,s.rss,s.p,X' u⟩∧qaa (Mine L s) w1 w2)
  (HS:∀(u:UInt8) X dv' ov' ys w1 w2,Wd w1 P L.n L.key s.dn dv xs→CpJ w2 w1 X L.n L.key w1.heap.size s.dn dv' xs xs.length ov' ys→Calls Tryz.prog 118 #[.pointer (some ⟨X,0,none⟩),.int .i64 a,.string nm,.int .i64 b,.int .u8 u.toNat] w2 fun e w3=>e=.returned (.int .i64 k)∧(∃ys',Wd w3 X L.n L.key s.dn dv' ys'∧Twin L.n s.rss (X' u) ys')∧Below w1.heap.size w2 w3) :
  Calls Tryz.prog 68 #[.pointer (some ⟨G,0,none⟩),.agg #[.int .i64 kind,.int .i64 a,.int .i64 b,.string nm,.string vl,.int .i64 pm,.int .i64 pt,.int .i64 pl,.string tp,.bool yes,.int .i64 tt]] w fun e w'=>qaK w G L ov ls e w':=by
 obtain ⟨g,c,rfl,_,hgl⟩:=h.row.form (by decide)
 obtain ⟨gcs,gfz,hgb⟩:=owns_block h.row (b:=g) rfl
 refine (qgX (P:=P) kind a b nm vl pm pt pl tp yes tt k (Mine L s) (fun u w'=>Bank w' L ⟨s.dn,s.vs,s.rss,s.p,X' u⟩) (fun X w1 w2=>∃dv' ov' ys,Wd w1 P L.n L.key s.dn dv xs∧L.base≤w1.heap.size∧CpJ w2 w1 X L.n L.key w1.heap.size s.dn dv' xs xs.length ov' ys)
  (fun u X w'=>∃dv' ys',Wd w' X L.n L.key s.dn dv' ys'∧Twin L.n s.rss (X' u) ys'∧∀b,dv'.ownBlock=some b→L.base≤b) h.gm h.row ?_ (fun u w1 w2 hB hb=>hB.below hb) ?_ ?_ ?_ HC ?_ ?_).mono ?_
 ·intro x hx
  exact ⟨h.bank.mine_lt hx,fun e=>h.bank.mine_not h.gm (by unfold GT;simp) (e ▸ hx),fun e=>h.bank.mine_not hgb (by unfold GT;simp) (e ▸ hx)⟩
 ·rintro u X w1 w2 ⟨dv',ys',hw,hr⟩ hb
  exact ⟨dv',ys',hw.below hb nl,hr⟩
 ·rintro u w1 w2 hB ⟨cs,hG⟩ hs
  exact hB.keeps hs fun b e _=>by rw [e];exact ⟨h.gb,_,_,_,hG,by unfold GT;simp⟩
 ·rintro u X w1 w2 ⟨dv',ys',hw,hr⟩ ⟨cs,hG⟩ hs
  refine ⟨dv',ys',hw.spared hs fun b cs' t' fz hb ht e=>?_,hr⟩
  rw [e,hG] at hb
  cases hb
  rcases ht with h | h | h | h<;>cases h
 ·intro w1 hs
  have hw:=h.bank.wd_mine h.wd hs
  refine hw.copied_any.mono ?_
  rintro e w2 ⟨X,dv',ov',ys,rfl,hc,_⟩
  exact ⟨X,rfl,⟨dv',ov',ys,hw,Nat.le_trans h.bank.G.bs hs.size,hc⟩,hc.bel⟩
 ·rintro u X w1 w2 hs ⟨dv',ov',ys,hw,hbs,hc⟩
  refine (HS u X dv' ov' ys w1 w2 hw hc).mono ?_
  rintro e w3 ⟨rfl,⟨ys',hw3,ht⟩,hb⟩
  exact ⟨rfl,⟨dv',ys',hw3,ht,fun b hb'=>Nat.le_trans hbs (hc.down.lt b hb').1⟩,hb⟩
 ·rintro e w' ⟨rfl,u,X,g',c',hB,⟨dv',ys',hw,ht,hdb⟩,hg,hr,hs⟩
  exact ⟨rfl,⟨s.dn,s.vs,s.rss,s.p,X' u⟩,X,dv',ys',_,h.row_next (s':=⟨s.dn,s.vs,s.rss,s.p,X' u⟩) hB h.calm h.quiet h.i64 (fun _ _=>rfl) hg hr hw hdb ht hs,h.own_lower hs⟩
theorem Play.spoils_any (h:Play w G L s P dv xs wv ov ls) (kind a b:Int) (nm vl:ByteArray) (pm pt pl:Int) (tp:ByteArray) (yes:Bool) (tt:Int) (ha:I64 a) (hb:I64 b) :
  Calls Tryz.prog 68 #[.pointer (some ⟨G,0,none⟩),.agg #[.int .i64 kind,.int .i64 a,.int .i64 b,.string nm,.string vl,.int .i64 pm,.int .i64 pt,.int .i64 pl,.string tp,.bool yes,.int .i64 tt]] w fun e w'=>qaK w G L ov ls e w':=by
 have ask:=fun w1 (hb:Below w.heap.size w w1)=>(h.bank.below hb).ask h.calm.1
 have NO:=fun k (HC:∀(u:UInt8) w1,Below w.heap.size w w1→Calls Tryz.prog 23 #[.pointer (some ⟨L.C,0,none⟩),.int .i64 a,.string nm,.int .i64 b,.int .u8 u.toNat] w1 fun e w2=>e=.returned (.int .i64 k)∧Below w1.heap.size w1 w2)
  (HS:∀(u:UInt8) X dv' ys w2,Wd w2 X L.n L.key s.dn dv' ys→(ys.length=xs.length∧∀j,j<xs.length→(ys[j]!).ob=(xs[j]!).ob∧(ys[j]!).sh=(xs[j]!).sh)→Calls Tryz.prog 118 #[.pointer (some ⟨X,0,none⟩),.int .i64 a,.string nm,.int .i64 b,.int .u8 u.toNat] w2 fun e w3=>e=.returned (.int .i64 k)∧Below w2.heap.size w2 w3) =>
  h.spoils_of kind a b nm vl pm pt pl tp yes tt k (fun _=>s.X) (fun u w1 hb=>(HC u w1 hb).mono fun e w2 ⟨h1,h2⟩=>⟨h1,(h.bank.below hb).below h2,qaa.ofBelow h2 nl⟩) (fun u X dv' ov' ys w1 w2 hw hc=>(HS u X dv' ys w2 (hc.wd hw) ⟨hc.len,hc.same⟩).mono fun e w3 ⟨h1,h2⟩=>⟨h1,⟨ys,(hc.wd hw).below h2 nl,h.twin.congr hc.len hc.same⟩,h2.mono hc.bel.size⟩)
 by_cases hno:a<0∨(L.n:Int)≤a
 ·exact NO 13 (fun u w1 hb=>(ask w1 hb).spoil_store a b nm u ha hno) (fun u X dv' ys w2 hw _=>(hw.spoil_bad a b nm u hno).mono fun e w3 ⟨h1,h2⟩=>⟨h1,by rw [h2];exact bl⟩)
 ·obtain ⟨i,rfl⟩:∃i:Nat,a=i:=⟨a.toNat,by omega⟩
  have hi:i<L.n:=by omega
  cases hy:hasName (s.rss 0) nm with
  | false =>
   have hnox:=h.twin.no (h.bank.so 0 h.bank.n1) nm hy
   exact NO 9 (fun u w1 hb=>(ask w1 hb).spoil_none i b nm u hi (by rw [h.calm.2.hasName h.bank.n1 h.bank.so nm i hi];exact hy)) (fun u X dv' ys w2 hw hs=>(hw.spoil_none i b nm u hi (fun j hj=>by rw [(hs.2 j (by omega)).1];exact hnox j (by omega))).mono fun e w3 ⟨h1,h2⟩=>⟨h1,by rw [h2];exact bl⟩)
  | true =>
   have hyi:=h.has nm hy i hi
   obtain ⟨p,hp⟩:∃p,p=qai (s.rss 0) nm:=⟨_,rfl⟩
   obtain ⟨k1,k2,k3,k4,k5,k6⟩:=h.obj nm hy p hp
   obtain ⟨q1,q2,q3⟩:=k6 i hi
   have hcp:∀ys:List RObj,(ys.length=xs.length∧∀j,j<xs.length→(ys[j]!).ob=(xs[j]!).ob∧(ys[j]!).sh=(xs[j]!).sh)→p<ys.length∧(ys[p]!).ob.name=nm∧(∀j,j<ys.length→(ys[j]!).ob.name=nm→j=p)∧(ys[p]!).sh=(xs[p]!).sh:=fun ys hs =>
    ⟨by omega,by rw [(hs.2 p k1).1];exact k3,fun j hj e=>k4 j (by omega) (by rw [←(hs.2 j (by omega)).1];exact e),(hs.2 p k1).2⟩
   by_cases hpl:b<0∨(((qac (s.rss i) nm).sn:Nat):Int)≤b
   ·refine NO 14 (fun u w1 hb'=>(ask w1 hb').spoil_place i b nm u _ hi hyi rfl hb hpl) (fun u X dv' ys w2 hw hs=>?_)
    obtain ⟨m1,m2,m3,m4⟩:=hcp ys hs
    exact hw.spoil_place i b nm u hi p m1 m2 m3 (by rw [m4];exact q3) (by rw [m4,q2];exact hpl)
   ·obtain ⟨z,rfl⟩:∃z:Nat,b=z:=⟨b.toNat,by omega⟩
    have hz:z<(qac (s.rss i) nm).sn:=by omega
    refine h.spoils_of kind i z nm vl pm pt pl tp yes tt 0 (fun u=>qbS s.X (blkNo (qac (s.rss i) nm).sa) z u) (fun u w1 hb=>((h.bank.below hb).spoil_go h.calm.1 i hi nm hyi z hz u)) (fun u X dv' ov' ys w1 w2 hw hc=>?_)
    obtain ⟨m1,m2,m3,m4⟩:=hcp ys ⟨hc.len,hc.same⟩
    refine (hc.spoil_ok hw i z nm u hi p m1 m2 m3 (by rw [m4];exact q3) (by rw [m4,q2];exact hz)).mono ?_
    rintro e w3 ⟨rfl,hw3,hb3⟩
    refine ⟨rfl,⟨_,hw3,?_⟩,hb3⟩
    refine (h.twin.congr hc.len hc.same).spoil h.bank.n1 h.bank.so h.has hy i hi z u p hp (fun x hx=>((hc.wd hw).shs x hx).1) ?_
    intro i' j' hi' hj' r hr q hq e
    obtain ⟨ga,hra,hgm,_⟩:=(h.bank.ok i' hi' r hr).sa
    obtain ⟨gb,hqa,hqm,_⟩:=(h.bank.ok j' hj' q hq).sa
    rw [hra,hqa] at e
    have e2:ga=gb:=e
    rw [←e2] at hqm
    exact h.bank.ap i' j' hi' hj' r hr q hq ga hgm hqm
end
def Q2T (L:Seat) (s:Sta) (T:List RObj→Prop) (X:Nat) (w:World):Prop:=∃dv' ys,Wd w X L.n L.key s.dn dv' ys∧T ys∧∀b,dv'.ownBlock=some b→L.base≤b
section
variable {w w':World} {G:Nat} {L:Seat} {s:Sta} {P g c:Nat} {dv:Value} {xs:List RObj} {ov:Value} {ls:List KL}
theorem Play.no_hyp (h:Play w G L s P dv xs (.slice (some ⟨g,0,none⟩) 1 c) ov ls):qdP w G L s L.n L.key g c P ov True (fun s'=>s'=s) (fun _ _=>False) :=
 ⟨h.gm,h.gb,h.row,h.bank,fun _ s' e=>by rw [e,Int.sub_self];exact Go.IntWalk.wrap64_in 0 (by decide),fun _ _ h=>absurd trivial h,fun _ _ _ h _=>h,fun _ _ _ h _ _=>h⟩
theorem Play.no_end (h:Play w G L s P dv xs (.slice (some ⟨g,0,none⟩) 1 c) ov ls) {e:Ending} (he:qfY w G L s L.n L.key P ov True (fun s'=>s'=s) (fun _ _=>False) e w'):qbE w G L s ov ls e w':=by
 obtain ⟨h1,s',g',c',rfl,hB,hg,hs,⟨_,hr⟩|⟨_,_,hf⟩⟩:=he
 ·refine ⟨h1,s',_,P,dv,xs,h.row_next hB h.calm h.quiet h.i64 (fun _ _=>rfl) hg hr (h.wd.spared hs fun b cs t fz hb ht e=>?_) h.dvb h.twin hs,.inl ⟨rfl,rfl⟩,hs⟩
  rcases e with e | e
  ·exact h.bank.mine_not hb (by unfold GT;rcases ht with h | h | h | h<;>simp [h]) e
  ·exact h.gm.apart hb (by rcases ht with h | h | h | h<;>(subst h;decide)) e
 ·exact hf.elim
theorem no_c (h:Bank w L s) {f:FuncId} {args:Array Value} {k:Int} (hc:∀w1,Below w.heap.size w w1→Calls Tryz.prog f args w1 fun e w2=>e=.returned (.int .i64 k)∧Below w1.heap.size w1 w2):∀w1,Below w.heap.size w w1→Calls Tryz.prog f args w1 fun e w2=>e=.returned (.int .i64 k)∧(∃s',Bank w2 L s'∧s'=s)∧qaa (Mine L s) w1 w2 :=
 fun w1 hb=>(hc w1 hb).mono fun _ _ ⟨h1,h2⟩=>⟨h1,⟨s,(h.below hb).below h2,rfl⟩,qaa.ofBelow h2 nl⟩
theorem no_w {f:FuncId} {args:Array Value} {k:Int} (hr:∀w1,qaa (Mine L s) w w1→Calls Tryz.prog f args w1 fun e w2=>e=.returned (.tuple #[.pointer none,.int .i64 k])∧Below w1.heap.size w1 w2):∀w1,qaa (Mine L s) w w1→Calls Tryz.prog f args w1 fun e w2=>∃x,e=.returned (.tuple #[x,.int .i64 k])∧C1V True k (fun _ _=>False) x w2∧Below w1.heap.size w1 w2 :=
 fun w1 hs=>(hr w1 hs).mono fun _ _ ⟨h1,h2⟩=>⟨_,h1,.inl ⟨trivial,rfl⟩,h2⟩
theorem Play.yes_hyp (h:Play w G L s P dv xs (.slice (some ⟨g,0,none⟩) 1 c) ov ls) (R:Sta→Prop) (T:List RObj→Prop) (m:Nat) (hm:1≤m∧m≤100) (hR:∀s',R s'→s'.p=s.p.ticks m):qdP w G L s L.n L.key g c P ov False R (Q2T L s T) :=
 ⟨h.gm,h.gb,h.row,h.bank,fun h=>h.elim,fun s' hs _=>by rw [hR s' hs,qeL _ h.i64 _ hm.2];omega,fun _ _ _ ⟨dv',ys,hw,hr⟩ hb=>⟨dv',ys,hw.below hb nl,hr⟩,fun _ _ _ ⟨dv',ys,hw,hr⟩ ⟨_,hG⟩ hs=>⟨dv',ys,hw.spared hs fun b cs' t' fz hb ht e=>(by
  rw [e,hG] at hb
  cases hb
  rcases ht with h | h | h | h<;>cases h),hr⟩⟩
theorem Play.yes_end (h:Play w G L s P dv xs (.slice (some ⟨g,0,none⟩) 1 c) ov ls) {R:Sta→Prop} {T:List RObj→Prop} {e:Ending} (he:qfY w G L s L.n L.key P ov False R (Q2T L s T) e w') (m:Nat) (hm:L.n≤m∧m≤100) (hR:∀s',R s'→s'.p=s.p.ticks m∧Calm L s'∧(∀i,i<L.n→s'.dn i=s.dn i)∧∀ys,T ys→Twin L.n s'.rss s'.X ys):qbE w G L s ov ls e w':=by
 obtain ⟨h1,s',g',c',hr',hB,hg,hs,⟨hf,_⟩|⟨X,hr,dv',ys,hw,ht,hdb⟩⟩:=he
 ·exact hf.elim
 ·obtain ⟨hp,hc,hdn,htw⟩:=hR s' hr'
  have hdone:s'.p.done=(s.p.ticks m).done:=by rw [hp]
  refine ⟨h1,s',_,X,dv',ys,h.row_next hB hc ?_ ?_ hdn hg hr hw hdb (htw ys ht) hs,.inr ?_,hs⟩
  ·rw [hp,(Pen.ticks_crashes s.p m).1];exact h.quiet
  ·rw [hdone];exact qj3 _ h.i64 _
  ·rw [hdone,qeL _ h.i64 _ hm.2];omega
end
def qg7 (G C B0:Nat) (nm vl:ByteArray) (pm pt pl:Int) (tp:ByteArray) (k:Int) (Q:World→Prop):Nat→Value→World→Prop
 | 0,v,_=>v=.pointer (some ⟨G,0,none⟩)
 | 1,v,_=>v=.pointer (some ⟨G,0,none⟩)
 | 2,v,_=>v=.pointer (some ⟨G,0,none⟩)
 | 3,v,_=>v=.pointer (some ⟨C,0,none⟩)
 | 4,v,_=>v=.pointer (some ⟨B0,3,none⟩)
 | 5,v,_=>v=.string nm
 | 6,v,_=>v=.pointer (some ⟨B0,4,none⟩)
 | 7,v,_=>v=.string vl
 | 8,v,_=>v=.pointer (some ⟨B0,5,none⟩)
 | 9,v,_=>v=.agg #[.int .i64 pm,.int .i64 pt,.int .i64 pl]
 | 10,v,_=>v=.pointer (some ⟨B0,8,none⟩)
 | 11,v,_=>v=.string tp
 | 12,v,w=>v=.int .i64 k∧Q w
 | _,_,_=>False
def qhH (G g c P B0:Nat) (nm vl:ByteArray) (pm pt pl:Int) (tp:ByteArray) (k:Int) (V:Value→World→Prop):Nat→Value→World→Prop
 | 0,v,_=>v=.pointer (some ⟨G,0,none⟩)
 | 1,v,_=>v=.pointer (some ⟨G,0,none⟩)
 | 2,v,_=>v=.pointer (some ⟨G,3,none⟩)
 | 3,v,_=>v=.slice (some ⟨g,0,none⟩) 1 c
 | 4,v,_=>v=.int .i64 0
 | 5,v,_=>v=.pointer (some ⟨g,0,none⟩)
 | 6,v,_=>v=.pointer (some ⟨P,0,none⟩)
 | 7,v,_=>v=.pointer (some ⟨B0,3,none⟩)
 | 8,v,_=>v=.string nm
 | 9,v,_=>v=.pointer (some ⟨B0,4,none⟩)
 | 10,v,_=>v=.string vl
 | 11,v,_=>v=.pointer (some ⟨B0,5,none⟩)
 | 12,v,_=>v=.agg #[.int .i64 pm,.int .i64 pt,.int .i64 pl]
 | 13,v,_=>v=.pointer (some ⟨B0,8,none⟩)
 | 14,v,_=>v=.string tp
 | 15,v,w=>∃x,v=.tuple #[x,.int .i64 k]∧V x w
 | 16,v,w=>∃x,v=.tuple #[x,.int .i64 k]∧V x w
 | 17,v,w=>V v w
 | 18,v,_=>v=.int .i64 k
 | 19,v,w=>V v w
 | 20,v,_=>v=.int .i64 k
 | _,_,_=>False
theorem change1_put {w:World} {L:Seat} {s:Sta} {G n key P g c:Nat} {ov:Value} (a b:Int) (nm vl:ByteArray) (pm pt pl:Int) (tp:ByteArray) (yes:Bool) (tt k:Int) (no:Prop) (R:Sta→Prop) (Q2:Nat→World→Prop) (hC:qdP w G L s n key g c P ov no R Q2)
  (HC:∀w1,Below w.heap.size w w1→Calls Tryz.prog 43 #[.pointer (some ⟨L.C,0,none⟩),.string nm,.string vl,.agg #[.int .i64 pm,.int .i64 pt,.int .i64 pl],.string tp] w1 fun e w2=>e=.returned (.int .i64 k)∧(∃s',Bank w2 L s'∧R s')∧qaa (Mine L s) w1 w2)
  (HR:∀w1,qaa (Mine L s) w w1→Calls Tryz.prog 159 #[.pointer (some ⟨P,0,none⟩),.string nm,.string vl,.agg #[.int .i64 pm,.int .i64 pt,.int .i64 pl],.string tp] w1 fun e w2=>∃x,e=.returned (.tuple #[x,.int .i64 k])∧C1V no k Q2 x w2∧Below w1.heap.size w1 w2) :
  Calls Tryz.prog 109 #[.pointer (some ⟨G,0,none⟩),.agg #[.int .i64 2,.int .i64 a,.int .i64 b,.string nm,.string vl,.int .i64 pm,.int .i64 pt,.int .i64 pl,.string tp,.bool yes,.int .i64 tt]] w fun e w'=>qfY w G L s n key P ov no R Q2 e w':=by
 obtain ⟨i0,hi,ti0,ti1,ti2⟩:=info_parts Tryz.infoPW
 have HCC:=hid hC
 have o1:=hC.o1
 have V1H:=hid (hC.v1 (k:=k))
 have Q1H:=hid (show ∀w w',(∃s',Bank w L s'∧R s')→qaa (fun _=>False) w w'→∃s',Bank w' L s'∧R s' from fun w w' ⟨s',h1,h2⟩ hs=>⟨s',h1.below hs.none_below,h2⟩)
 have hG:=cells_lt hC.hg
 have hgl:g<w.heap.size:=(hC.hrow.lt g rfl).2
 have HG:=hid hC.hg
 have HRW:=hid (show w.cell? ⟨g,0,none⟩=some (.pointer (some ⟨P,0,none⟩)) from hC.hrow.cellAt 0 (by decide))
 obtain ⟨Q1,hQ1⟩:∃Q1:World→Prop,Q1=fun w=>∃s',Bank w L s'∧R s':=⟨_,rfl⟩
 obtain ⟨V1,hV1⟩:∃V1,V1=C1V no k Q2:=⟨_,rfl⟩
 obtain ⟨O1,hO1⟩:∃O1,O1=Mine L s:=⟨_,rfl⟩
 have H1:=hid HC
 have H2:=hid HR
 change Hid (∀w w',(fun w=>∃s',Bank w L s'∧R s') w→qaa (fun _=>False) w w'→(fun w=>∃s',Bank w L s'∧R s') w') at Q1H
 change Hid (∀w1,Below w.heap.size w w1→Calls Tryz.prog 43 #[.pointer (some ⟨L.C,0,none⟩),.string nm,.string vl,.agg #[.int .i64 pm,.int .i64 pt,.int .i64 pl],.string tp] w1 fun e w2=>e=.returned (.int .i64 k)∧(fun w=>∃s',Bank w L s'∧R s') w2∧qaa (Mine L s) w1 w2) at H1
 rw [←hQ1] at Q1H H1
 rw [←hV1] at V1H H2
 rw [←hO1] at H1 H2 o1
 have O1H:=hid o1
 have HO1:=hid hO1
 have HQ1E:=hid hQ1
 have HV1E:=hid hV1
 obtain ⟨C,hC'⟩:∃C,C=L.C:=⟨_,rfl⟩
 rw [←hC'] at HG H1
 have HC0:=hid hC'
 clear HC HR o1 hO1 hQ1 hV1 hC' hC
 go_enter Tryz.func109,Tryz.ntmps109
 go_wp2_with fail
 obtain ⟨w1,hw1⟩:∃w1,w1=w.alloc (.cells #[.int .i64 2,.int .i64 a,.int .i64 b,.string nm,.string vl,.int .i64 pm,.int .i64 pt,.int .i64 pl,.string tp,.bool yes,.int .i64 tt] 91):=⟨_,rfl⟩
 obtain ⟨B0,hB0⟩:∃B0,B0=w.heap.size:=⟨_,rfl⟩
 have hb01:Below w.heap.size w w1:=by rw [hw1];exact (Below.refl _ _).alloc nl _
 have HB1:=hid (show w1.heap[B0]?=some (.cells #[.int .i64 2,.int .i64 a,.int .i64 b,.string nm,.string vl,.int .i64 pm,.int .i64 pt,.int .i64 pl,.string tp,.bool yes,.int .i64 tt] 91) from by rw [hw1,hB0];exact alloc_at _ _)
 rw [←hw1,←hB0]
 have HB0:=hid hB0
 have hB1l:=cells_lt HB1.out
 clear hw1 hB0
 have HA:∀w':World,qaa O1 { w1 with drawn:=w1.drawn+1 } w'→w'.cell? ⟨G,0,none⟩=some (.pointer (some ⟨C,0,none⟩))∧w'.cell? ⟨B0,3,none⟩=some (.string nm)∧w'.cell? ⟨B0,4,none⟩=some (.string vl)∧w'.cell? ⟨B0,5,none⟩=some (.int .i64 pm)∧w'.cell? ⟨B0,6,none⟩=some (.int .i64 pt)∧w'.cell? ⟨B0,7,none⟩=some (.int .i64 pl)∧w'.cell? ⟨B0,8,none⟩=some (.string tp):=by
  intro w' hs
  have hs':=hs.undrew
  have hg':=hs'.heap ((hb01.block G hG).trans HG.out) (fun e=>(O1H.out G e).2.1 rfl)
  have hb':=hs'.heap HB1.out (fun e=>by have:=(O1H.out B0 e).1;have:=HB0.out;omega)
  exact ⟨cq hg' rfl,cq hb' rfl,cq hb' rfl,cq hb' rfl,cq hb' rfl,cq hb' rfl,cq hb' rfl⟩
 refine qa3 (by kernel_rfl) (fun i=>i+26) (qg7 G C B0 nm vl pm pt pl tp k Q1) O1 169 13 12 [0,3] (by kernel_rfl) (by kernel_rfl) rfl rfl (fun j v w w' h hs=>by unfold qg7 at h ⊢;split at h<;>first | exact h | exact ⟨h.1,Q1H.out _ _ h.2 hs⟩) (fun j v w w' hj h _=>by unfold qg7 at h ⊢;split at h<;>first | exact h | exact absurd rfl hj) ?_ ?_
 ·refine ⟨?_,?_,?_,?_,?_,?_,?_,?_,?_,?_,?_,?_,?_,trivial⟩
  all_goals
   intro a0 w' hs hm0 hf hd
   obtain ⟨q0,q1,q2,q3,q4,q5,q6⟩:=HA w' hs
   simp at hf
   simp [qg7] at hd
   try (refine .inl ⟨_,w',?_,fun _=>qaa.refl _ _,sr,rfl⟩;go_simp;done)
  have hbw:Below w.heap.size w w':=hb01.trans ((hm0 rfl).undrew.none_below.mono hb01.size)
  refine .inr ⟨43,#[.pointer (some ⟨C,0,none⟩),.string nm,.string vl,.agg #[.int .i64 pm,.int .i64 pt,.int .i64 pl],.string tp],by go_simp,(H1.out w' hbw).mono ?_⟩
  rintro e w2 ⟨rfl,hq,hs2⟩
  exact ⟨_,rfl,fun h=>absurd rfl h,hs2,rfl,hq⟩
 ·intro a0 w2 oo hoo hdf hsz hs hf hr
  cases hoo
  have r8:=hr 12 (by decide)
  simp [qg7] at r8
  obtain ⟨r8v,hq1⟩:=r8
  have hs12:=hs.undrew
  obtain ⟨tm,df⟩:=a0
  simp only at hdf hsz hf r8v
  subst hdf
  obtain ⟨f2,hf2,rfl⟩:=qdr tm hsz
  have e0:=(hf2 0).symm.trans (hf 0 (by decide))
  have e3:=(hf2 3).symm.trans (hf 3 (by decide))
  have er:f2 38=.int .i64 k:=r8v
  have HQ1:=hid hq1
  clear hr hf hsz r8v HA hs hq1 hf2
  have hG2:=hs12.heap ((hb01.block G hG).trans HG.out) (fun e=>(O1H.out G e).2.1 rfl)
  have g3:w2.cell? ⟨G,3,none⟩=some (.slice (some ⟨g,0,none⟩) 1 c):=cq hG2 rfl
  have g7:w2.cell? ⟨G,7,none⟩=some (.bool false):=cq hG2 rfl
  have HG2:=hid hG2
  have hB2:=hs12.heap HB1.out (fun e=>by have:=(O1H.out B0 e).1;have:=HB0.out;omega)
  have b0:w2.cell? ⟨B0,0,none⟩=some (.int .i64 2):=cq hB2 rfl
  have HB2:=hid hB2
  have hz2:=hs12.size
  have hz1:=hb01.size
  have HR2:=hid (show w2.cell? ⟨g,0,none⟩=some (.pointer (some ⟨P,0,none⟩)) from (hs12.cell (a:=⟨g,0,none⟩) (by show g<w1.heap.size;omega) (fun e=>(O1H.out g e).2.2 rfl)).trans ((hb01.cell (by exact hgl)).trans HRW.out))
  have HS02:=hid (show qaa O1 w w2 from (qaa.ofBelow hb01 nl).trans hs12)
  clear hG2 hB2 hs12
  simp only [e0,e3,er]
  clear e0 e3 er
  go_wp2_with fail
  refine wp_loop_rounds 2 ?_
  rw [rounds_succ]
  go_wp2_with fail
  have HB:∀w':World,Below w2.heap.size { w2 with drawn:=w2.drawn+1 } w'→qaa O1 w w'∧w'.cell? ⟨G,3,none⟩=some (.slice (some ⟨g,0,none⟩) 1 c)∧w'.cell? ⟨g,0,none⟩=some (.pointer (some ⟨P,0,none⟩))∧w'.cell? ⟨B0,3,none⟩=some (.string nm)∧w'.cell? ⟨B0,4,none⟩=some (.string vl)∧w'.cell? ⟨B0,5,none⟩=some (.int .i64 pm)∧w'.cell? ⟨B0,6,none⟩=some (.int .i64 pt)∧w'.cell? ⟨B0,7,none⟩=some (.int .i64 pl)∧w'.cell? ⟨B0,8,none⟩=some (.string tp):=by
   intro w' hb
   have hb2:=Below.undrew hb
   have hg':=(hb2.block G (cells_lt HG2.out)).trans HG2.out
   have hb':=(hb2.block B0 (cells_lt HB2.out)).trans HB2.out
   exact ⟨HS02.out.trans (qaa.ofBelow hb2 nl),cq hg' rfl,(hb2.cell (by show g<w2.heap.size;omega)).trans HR2.out,cq hb' rfl,cq hb' rfl,cq hb' rfl,cq hb' rfl,cq hb' rfl,cq hb' rfl⟩
  refine qax (by kernel_rfl) (fun i=>if i<16 then i+90 else if i=16 then 89 else if i=17 then 106 else if i=18 then 107 else if i=19 then 10 else 11) (qhH G g c P B0 nm vl pm pt pl tp k V1) 169 [0,3,5,7,8,9] (by kernel_rfl) rfl rfl (fun j v w w' h hb=>by unfold qhH at h ⊢;split at h<;>first | exact h | (obtain ⟨x,h1,h2⟩:=h;exact ⟨x,h1,V1H.out _ _ _ h2 hb⟩)|exact V1H.out _ _ _ h hb) ?_ ?_
  ·refine ⟨?_,?_,?_,?_,?_,?_,?_,?_,?_,?_,?_,?_,?_,?_,?_,?_,?_,?_,?_,?_,?_,trivial⟩
   all_goals
    intro a0 w' hb hf hd
    obtain ⟨hsw,qg,qr,q1,q2,q3,q4,q5,q6⟩:=HB w' hb
    simp at hf
    simp [qhH,Region.binds] at hd
    try (refine .inl ⟨_,w',?_,bl,rfl⟩;go_simp;done)
   ·refine .inr ⟨159,#[.pointer (some ⟨P,0,none⟩),.string nm,.string vl,.agg #[.int .i64 pm,.int .i64 pt,.int .i64 pl],.string tp],by go_simp,(H2.out w' hsw).mono ?_⟩
    rintro e w3 ⟨x,rfl,hv,hb3⟩
    exact ⟨_,rfl,hb3,x,rfl,hv⟩
   ·obtain ⟨x,hx,hv⟩:=hd
    exact .inl ⟨.tuple #[x,.int .i64 k],w',by go_simp,bl,x,rfl,hv⟩
   ·obtain ⟨x,hx,hv⟩:=hd
    exact .inl ⟨x,w',by go_simp,bl,hv⟩
   ·obtain ⟨x,hx,hv⟩:=hd
    exact .inl ⟨.int .i64 k,w',by go_simp,bl,rfl⟩
   ·exact .inl ⟨a0.tmps[106]?.getD undef,w',by go_simp,bl,by first | exact hd | exact hd.1⟩
  ·intro a0 w3 hdf hsz hb hf hr
   have r10:=hr 19 (by decide)
   have r11:=hr 20 (by decide)
   simp [qhH] at r10 r11
   obtain ⟨hsw,qg,qr,q1,q2,q3,q4,q5,q6⟩:=HB w3 hb
   have hb23:=Below.undrew hb
   obtain ⟨tm,df⟩:=a0
   simp only at hdf hsz hf r10 r11
   subst hdf
   obtain ⟨f3,hf3,rfl⟩:=qdr tm hsz
   have e0:=(hf3 0).symm.trans (hf 0 (by decide))
   have e5:=(hf3 5).symm.trans (hf 5 (by decide))
   have e7:=(hf3 7).symm.trans (hf 7 (by decide))
   have e8:=(hf3 8).symm.trans (hf 8 (by decide))
   have e9:=(hf3 9).symm.trans (hf 9 (by decide))
   have e11:f3 11=.int .i64 k:=r11
   obtain ⟨x,hx⟩:∃x,x=f3 10:=⟨_,rfl⟩
   have HV:=hid (show V1 x w3 from by rw [hx];exact r10)
   have HG3:=hid ((hb23.block G (cells_lt HG2.out)).trans HG2.out)
   have k3:w3.cell? ⟨G,3,none⟩=some (.slice (some ⟨g,0,none⟩) 1 c):=cq HG3.out rfl
   have hzz:=hb23.size
   have HS03:=hid hsw
   clear hr hf hsz r11 HB hb qg q1 q2 q3 q4 q5 q6 g3 g7 b0 hsw r10 hf3
   simp only [e0,e5,e7,e8,e9,e11,←hx]
   clear e0 e5 e7 e8 e9 e11 hx
   have hx:=HV.out
   rw [HV1E.out] at hx
   obtain ⟨y,rfl⟩:∃y,x=.pointer y:=by rcases hx with ⟨_,rfl⟩|⟨X,rfl,_⟩<;>exact ⟨_,rfl⟩
   have HX:=hid hx
   clear hx
   go_wp2_with (first
    | (go_at_call 112;refine (qbv k _).mono ?_;rintro e w9 ⟨rfl,hw9⟩;obtain rfl:=hw9.symm)
    | (at_builtin;refine wpList_append_lies _ rfl (.tmp 136) (.tmp 144) 81 rfl w3.heap.size 88 i0 (.pointer none) 1 8 Tryz.underlying81 hi ti0 ti1 ti2 rfl (by decide) (.slice none 0 0) 0 [] rfl (World.ownsRow_nil _ _ _ _) ⟨w3.heap.size,0,none⟩ 1 1 [.pointer (some ⟨P,0,none⟩)] rfl rfl (World.news_of_block (cs:=#[.pointer (some ⟨P,0,none⟩)]) (t:=88) (fr:=(0,0)) (heap_alloc_new w3 _)) (by simp [Value.oneCell']) (by decide) (by unfold maxLen;omega) (by omega) (by simp<;>omega) (w3.heap.size+1) (by simp) ?_;intro g4 c4 w4 hown4 hgrow4 hat4 _;have HO4:=hid hown4;have hb34:Below w3.heap.size w3 w4:=((Below.refl w3.heap.size w3).alloc nl _).grown hgrow4 (by simp<;>omega) (fun b hb=>by cases hb);clear hown4 hgrow4 hat4)
    | (at_builtin;refine wpList_append_lies _ rfl (.tmp 146) (.tmp 148) 81 rfl w4.heap.size 88 i0 (.pointer none) 1 8 Tryz.underlying81 hi ti0 ti1 ti2 rfl (by decide) (.slice none 0 0) 0 [] rfl (World.ownsRow_nil _ _ _ _) ⟨w4.heap.size,0,none⟩ 1 1 [.pointer y] rfl rfl (World.news_of_block (cs:=#[.pointer y]) (t:=88) (fr:=(0,0)) (heap_alloc_new w4 _)) (by simp [Value.oneCell']) (by decide) (by unfold maxLen;omega) (by omega) (by simp<;>omega) (w4.heap.size+1) (by simp) ?_;intro g5 c5 w5 hown5 hgrow5 hat5 _;have hb45:Below w4.heap.size w4 w5:=((Below.refl w4.heap.size w4).alloc nl _).grown hgrow5 (by simp<;>omega) (fun b hb=>by cases hb);have hb35:Below w3.heap.size w3 w5:=hb34.trans (hb45.mono hb34.size);have hG5:Gm w5 G C n key (.slice (some ⟨g,0,none⟩) 1 c) s.p.done ov:=(hb35.block G (cells_lt HG3.out)).trans HG3.out;have k53:w5.cell? ⟨G,3,none⟩=some (.slice (some ⟨g,0,none⟩) 1 c):=(cq hG5 rfl);have f53:w5.frozen? ⟨G,3,none⟩=false:=qam hG5;have HO5:=hid hown5;have hsG:qaa (fun b=>b=G) w5 (w5.setCell ⟨G,3,none⟩ (.slice (some ⟨g4,0,none⟩) 1 c4)):=qaa.setCell (own:=fun b=>b=G) (p:=⟨G,3,none⟩) sr rfl _;have HGS:=hid (show Gm (w5.setCell ⟨G,3,none⟩ (.slice (some ⟨g4,0,none⟩) 1 c4)) G C n key (.slice (some ⟨g4,0,none⟩) 1 c4) s.p.done ov from qan _ hG5);have HSG:=hid hsG;have n50:(w5.setCell ⟨G,3,none⟩ (.slice (some ⟨g4,0,none⟩) 1 c4)).cell? ⟨g5,0,none⟩=some (.pointer y):=(hsG.cell (a:=⟨g5,0,none⟩) (hown5.lt g5 rfl).2 (fun e=>qaz hown5 hG5 (by decide) (by rw [←e];rfl))).trans (hown5.cellAt 0 (by decide));have HG5:=hid hG5;clear hown5 hgrow5 hat5 hG5 hsG k3)
    | fail)
   obtain ⟨s',hbk2,hrs'⟩:∃s',Bank w2 L s'∧R s':=by have:=HQ1.out;rw [HQ1E.out] at this;exact this
   obtain ⟨hgs,hbk5,HFIN⟩:=HCC.out.fin hbk2 hrs' hb23 hb35 (by have h:=HS03.out;rw [HO1.out] at h;exact h) (by have h:=HG5.out;rw [HC0.out] at h;exact h) HSG.out (by have h:=HGS.out;rw [HC0.out] at h;exact h)
   have HBB:=hid (show Bank _ L s'∧R s' from ⟨hbk5,hrs'⟩)
   have HGG:=hid hgs
   have HFF:=hid HFIN
   clear hbk2 hrs' hgs hbk5 HFIN
   rcases HX.out with ⟨hno,hy⟩|⟨X,hy,rfl,hq2⟩<;>cases hy
   ·rw [rounds_succ]
    go_wp2_with fail
    refine (HGG.out.done_any HBB.out.1).mono ?_
    rintro e w6 ⟨rfl,hg6,hs6⟩
    have HE:=hid (HFF.out g4 c4 w6 none hg6 hs6 (qaf (qae HO4.out hb45 nl) (by omega)) hno)
    rw [HCC.out.hN hno s' HBB.out.2]
    clear hg6 hs6 HFF HGG
    go_wp2_with fail
    go_ret
    exact ⟨rfl,HE.out⟩
   ·rw [rounds_succ]
    go_wp2_with fail
    refine (HGG.out.changes_any HBB.out.1 (some ⟨g5,0,none⟩) 1 c5 (HCC.out.hR s' HBB.out.2 hq2.1)).mono ?_
    rintro e w6 ⟨rfl,hg6,hs6⟩
    have HE:=hid (HFF.out g5 c5 w6 (some X) hg6 hs6 (qaf HO5.out (by have:=hb34.size;omega)) ⟨_,hb35,hq2.2⟩)
    clear hg6 hs6 HFF HGG
    go_wp2_with fail
    go_ret
    exact ⟨rfl,HE.out⟩
end Go.Proofs.YtcegdgmbponapaaGreatDoor