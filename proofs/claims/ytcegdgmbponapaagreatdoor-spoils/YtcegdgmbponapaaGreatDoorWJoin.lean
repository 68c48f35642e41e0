import Derived.Test.YtcegdgmbponapaaGreatDoorPart15
set_option maxRecDepth 100000
set_option maxHeartbeats 4000000
namespace Go.Proofs.YtcegdgmbponapaaGreatDoor
open Go.RowKit
attribute [local go_sem ↓] Go.wp_at_zero Go.wp_at_succ
structure Right (w:World) (mode t l n size:Nat) (aP:Option Addr) (m c:Nat) (ss:List Nat) (ps:List ByteArray):Prop where
 plan:qaj mode t l n
 size60:size≤60
 em:m=ss.length
 rd:PRd w aP ss ps
 m8:m≤8
 mc:m≤c
 lt:∀s∈ss,s<n
 nodup:ss.Nodup
 len:∀i,i<m→(ps.getD i ByteArray.empty).size=Cof.ngroups mode t l size
theorem Right.keeps {w w':World} {mode t l n size m c:Nat} {aP:Option Addr} {ss:List Nat} {ps:List ByteArray} (h:Right w mode t l n size aP m c ss ps) (hb:Below w.heap.size w w'):Right w' mode t l n size aP m c ss ps :=
 ⟨h.plan,h.size60,h.em,h.rd.keeps hb nl,h.m8,h.mc,h.lt,h.nodup,h.len⟩
theorem qcB {mode t l n:Nat} (h:qaj mode t l n):1≤Cof.gsize mode t l∧Cof.gsize mode t l≤8∧Cof.tsize mode t≤8:=by
 obtain ⟨_,_,_,_,_,h6⟩:=h
 unfold Cof.gsize Cof.tsize
 refine ⟨?_,?_,?_⟩<;>split<;>omega
theorem qhe (mode t l n size m c:Nat) (aP:Option Addr) (ss:List Nat) (ps:List ByteArray) (w:World) (h:Right w mode t l n size aP m c ss ps) (hfew:m<Cof.gsize mode t l+Cof.tsize mode t) :
  Calls Tryz.prog 55 #[.slice aP m c,.agg #[.int .i64 mode,.int .i64 t,.int .i64 l],.int .i64 n,.int .i64 size] w fun e w'=>∃ev,e=.returned (.tuple #[.slice none 0 0,ev])∧Chain w' 10 2 ev∧Below w.heap.size w w':=by
 obtain ⟨hg1,hg8,ht8⟩:=qcB h.plan
 have HR:=hid h
 have HF:=hid hfew
 clear h hfew
 go_enter Tryz.func55,Tryz.ntmps55
 go_wp2_with fail
 refine (qbx mode t l n size _ HR.out.plan HR.out.size60).mono ?_
 rintro e w1 ⟨ag,cg,at',ct,rfl,hlay,hb1⟩
 have hb01:Below w.heap.size w w1:=((Below.refl _ _).alloc nl _).trans (hb1.mono (by simp))
 have HR1:=hid (HR.out.keeps (hb01.alloc hb01.size (.cells #[.slice ag (Cof.gsize mode t l) cg,.slice at' (Cof.tsize mode t) ct,.int .i64 (Cof.ngroups mode t l size)] 165)))
 obtain ⟨gs,hgs⟩:∃gs,gs=Cof.gsize mode t l:=⟨_,rfl⟩
 obtain ⟨ts,hts⟩:∃ts,ts=Cof.tsize mode t:=⟨_,rfl⟩
 obtain ⟨G,hG⟩:∃G,G=Cof.ngroups mode t l size:=⟨_,rfl⟩
 rw [←hgs,←hts] at HF
 rw [←hG] at HR1 ⊢
 rw [←hgs,←hts] at HR1 ⊢
 have hlen:=HR1.out.len
 rw [←hG] at hlen
 have HLEN:=hid hlen
 rw [←hgs] at hg8
 rw [←hts] at ht8
 clear hgs hts hG hlen hlay
 go_wp2_with fail
 refine (qc0 aP m c n ss ps ag at' gs cg ts ct G _ HR1.out.em HR1.out.rd (by have:=HR1.out.m8;omega) HR1.out.plan.n8 HR1.out.lt HR1.out.nodup HLEN.out (by omega) (by omega)).mono ?_
 rintro e w2 ⟨ev,rfl,hb2,_,hev⟩
 have hch:=hev HF.out
 have HCH:=hid hch
 obtain ⟨te,ve,rfl⟩:=hch.shape
 have hb02:Below w.heap.size w w2:=(hb01.alloc hb01.size _).trans (hb2.mono (by have:=hb01.size;simp;omega))
 clear hev hch hb2 hb1
 go_wp2_with fail
 refine (qav _ _ 10 1 _ HCH.out).mono ?_
 rintro e w3 ⟨e',rfl,hch3,hb3⟩
 go_wp2_with fail
 go_ret2
 exact ⟨_,rfl,hch3,hb02.trans (hb3.mono hb02.size)⟩
theorem Rd.take {w:World} {a:Option Addr} {xs:List UInt8} (h:Rd w a (bs xs)) (n:Nat):Rd w a (bs (xs.take n)):=by
 intro k v hk
 refine h k v ?_
 have:bs (xs.take n)=(bs xs).take n:=by simp [bs,List.map_take]
 rw [this,List.getElem?_take] at hk
 split at hk
 ·exact hk
 ·cases hk
theorem qkF {w:World} {base n size c:Nat} {e:TypeId} {a:Option Addr} {L:List Value} (h:w.ownsRow base e size (.slice a n c) n L):n≤c:=by
 rcases h.2 with ⟨h1,_⟩|⟨g,cap,cur,h1,_,_,h2,_⟩
 ·injection h1 with _ h3 h4;omega
 ·injection h1 with _ _ h4;omega
theorem qhZ (X:List UInt8) (Y:List (List UInt8)) (tw:List UInt8) (G:Nat) (h:∀k,k<Y.length→(Y.getD k []).length=G) (h0:0<Y.length) (k:Nat) (hk:k<tw.length):((Cof.carry X Y tw).getD k []).length=G:=by
 rw [show (Cof.carry X Y tw).getD k []=Cof.carryTo X Y tw[k] Y.length by simp [Cof.carry,hk]]
 exact Cof.carryTo_length X Y _ G Y.length h h0
theorem take_snoc {α:Type} (l:List α) (k:Nat) (d:α) (h:k<l.length):l.take (k+1)=l.take k++[l.getD k d]:=by
 rw [List.take_succ_eq_append_getElem h];simp [h]
theorem qhQ (mode t l n size m c N:Nat) (aP:Option Addr) (ss:List Nat) (ps:List ByteArray) (w:World) (h:Right w mode t l n size aP m c ss ps) (hpl:ps.length=m) (hN:N=Cof.gsize mode t l+Cof.tsize mode t) (hen:N≤m) :
  Calls Tryz.prog 55 #[.slice aP m c,.agg #[.int .i64 mode,.int .i64 t,.int .i64 l],.int .i64 n,.int .i64 size] w fun e w'=>∃av cv,e=.returned (.tuple #[.slice av size cv,.nilIface])∧Rd w' av (bs (Cof.join mode t l size (ss.take N) ((ps.take N).map fun p=>p.data.toList)))∧Below w.heap.size w w':=by
 obtain ⟨hg1,hg8,ht8⟩:=qcB h.plan
 obtain ⟨i0,hi,hx0,hx1,hx2⟩:=info_parts Tryz.infoE
 obtain ⟨iR,hiR,hy0,hy1,hy2⟩:=info_parts Tryz.infoRow
 have hng:=qao h.plan size h.size60
 have HR:=hid h
 have HPL:=hid hpl
 have hm8:=h.m8
 have hmc:=h.mc
 obtain ⟨J,hJ⟩:∃J,J=Cof.join mode t l size (ss.take N) ((ps.take N).map fun p=>p.data.toList):=⟨_,rfl⟩
 rw [←hJ]
 have HJ1:=hid hJ
 clear h hpl hJ
 go_enter Tryz.func55,Tryz.ntmps55
 go_wp2_with fail
 refine (qbx mode t l n size _ HR.out.plan HR.out.size60).mono ?_
 rintro e w1 ⟨ag,cg,at',ct,rfl,hlay,hb1⟩
 have hb01:Below w.heap.size w w1:=((Below.refl _ _).alloc nl _).trans (hb1.mono (by simp))
 have hz01:=hb01.size
 have HR1:=hid (HR.out.keeps (hb01.alloc hb01.size (.cells #[.slice ag (Cof.gsize mode t l) cg,.slice at' (Cof.tsize mode t) ct,.int .i64 (Cof.ngroups mode t l size)] 165)))
 have HLAY:=hid (hlay.below ((Below.refl _ _).alloc nl (.cells #[.slice ag (Cof.gsize mode t l) cg,.slice at' (Cof.tsize mode t) ct,.int .i64 (Cof.ngroups mode t l size)] 165)) nl)
 have hthr:=fun w=>qdk ag at' (Cof.gsize mode t l) cg (Cof.tsize mode t) ct (Cof.ngroups mode t l size) w (by omega) (by omega)
 rw [←hN] at hthr
 have hchk:=fun w h1=>qc0 aP m c n ss ps ag at' (Cof.gsize mode t l) cg (Cof.tsize mode t) ct (Cof.ngroups mode t l size) w HR1.out.em h1 (by have:=HR1.out.m8;omega) HR1.out.plan.n8 HR1.out.lt HR1.out.nodup HR1.out.len (by omega) (by omega)
 rw [←hN] at hchk
 have HSZ:=hid (show size≤Cof.ngroups mode t l size*Cof.gsize mode t l by
  unfold Cof.ngroups
  have h1:=Nat.div_add_mod (size+Cof.gsize mode t l-1) (Cof.gsize mode t l)
  have h2:=Nat.mod_lt (size+Cof.gsize mode t l-1) (show 0<Cof.gsize mode t l by omega)
  rw [Nat.mul_comm];omega)
 obtain ⟨gs,hgs⟩:∃gs,gs=Cof.gsize mode t l:=⟨_,rfl⟩
 obtain ⟨ts,hts⟩:∃ts,ts=Cof.tsize mode t:=⟨_,rfl⟩
 obtain ⟨G,hG⟩:∃G,G=Cof.ngroups mode t l size:=⟨_,rfl⟩
 have hlen:=HR1.out.len
 have HGS:=hid hgs
 have HG:=hid hG
 rw [←hG] at hlen hthr hchk hng HR1 HLAY HSZ ⊢
 rw [←hgs,←hts] at hthr hchk hN HR1 HLAY ⊢
 rw [←hgs] at HSZ hg1 hg8
 have HLEN:=hid hlen
 have HTH:=hid hthr
 have HCK:=hid hchk
 have HNN:=hid hN
 have hN1:1≤N:=by omega
 have hN8:N≤8:=by omega
 rw [←hts] at ht8
 clear hgs hts hG hlen hlay hthr hchk hN
 go_wp2_with fail
 refine (HCK.out _ HR1.out.rd).mono ?_
 rintro e w2 ⟨ev,rfl,hb2,hev,_⟩
 have hnil:=hev hen
 subst hnil
 have hz2:w1.heap.size<w2.heap.size:=by have:=hb2.size;simp at this;omega
 have hba:=hb01.alloc hb01.size (.cells #[.slice ag gs cg,.slice at' ts ct,.int .i64 G] 165)
 have hb02:Below w.heap.size w w2:=hba.trans (hb2.mono (by simp;omega))
 have p0:w2.cell? ⟨w1.heap.size,0,none⟩=some (.slice ag gs cg):=(hb2.cell (by simp)).trans (by simp)
 have p1:w2.cell? ⟨w1.heap.size,1,none⟩=some (.slice at' ts ct):=(hb2.cell (by simp)).trans (by simp)
 have p2:w2.cell? ⟨w1.heap.size,2,none⟩=some (.int .i64 G):=(hb2.cell (by simp)).trans (by simp)
 have HR2:=hid (HR.out.keeps hb02)
 have HL2:=hid (HLAY.out.below hb2 nl)
 have hml:0<ss.length:=by rw [←HR.out.em];omega
 obtain ⟨bP,oP,rfl,_,_,_⟩:=HR2.out.rd 0 hml
 have hNc:(N:Int)≤(c:Int):=by omega
 clear hev hb2 hb1 hba HLAY HCK
 go_wp2_with (go_at_call 100;refine (HTH.out _).mono ?_;rintro e w3 ⟨rfl,hb3⟩;have hz23:=hb3.size;have q0:w3.cell? ⟨w1.heap.size,0,none⟩=some (.slice ag gs cg):=(hb3.cell (by exact hz2)).trans p0;have q2:w3.cell? ⟨w1.heap.size,2,none⟩=some (.int .i64 G):=(hb3.cell (by exact hz2)).trans p2;have hb03:Below w.heap.size w w3:=hb02.trans (hb3.mono (by omega));have HR3:=hid (HR.out.keeps hb03);have HL3:=hid (HL2.out.below hb3 nl))
 go_loopw [13,14,41] (fun vf vr i wr=>∃(k:Nat) (vs:List Value),k≤N∧i=.int .i64 k∧JL wr w3.heap.size vf vr ((ss.take k).map fun s=>UInt8.ofNat (1+s)) ((ps.take k).map fun p=>p.data.toList) vs∧Below w3.heap.size w3 wr)
  (fun _ _ i _=>N-(intOf i).toNat)
 case atStart=>exact ⟨0,[],Nat.zero_le _,rfl,JL.start _ _,bl⟩
 case round =>
  obtain ⟨k,vs,hk,rfl,hjl,hbel⟩:=hrel
  have hzb:=hbel.size
  have HJ:=hid hjl
  clear hjl
  by_cases hlt:k<N
  ·have hkl:k<ss.length:=by rw [←HR.out.em];omega
   have hkp:k<ps.length:=by rw [HPL.out];omega
   obtain ⟨b',o',e1,hbP,h1,h2⟩:=HR3.out.rd k hkl
   obtain ⟨rfl,rfl⟩:bP=b'∧oP=o':=by injection e1 with e1;injection e1 with h1 h2;exact ⟨h1,h2⟩
   have c1:wr.cell? ⟨bP,oP+k*2,none⟩=some (.int .i64 (ss.getD k 0:Nat)):=(hbel.cell (by exact hbP)).trans h1
   have c2:wr.cell? ⟨bP,oP+k*2+1,none⟩=some (.string (ps.getD k ByteArray.empty)):=(hbel.cell (by exact hbP)).trans h2
   have HS1:=hid (take_snoc ss k 0 hkl)
   have HS2:=hid (take_snoc ps k ByteArray.empty hkp)
   have hsn:ss.getD k 0<n:=HR.out.lt _ (by rw [show ss.getD k 0=ss[k] by simp [hkl]];exact List.getElem_mem hkl)
   have hn8:=HR.out.plan.n8
   have hl1:((ss.take k).map fun s=>UInt8.ofNat (1+s)).length≤8:=by rw [List.length_map,List.length_take];omega
   have hl2:((ps.take k).map fun p=>p.data.toList).length≤8:=by rw [List.length_map,List.length_take];omega
   generalize ss.getD k 0=s at *
   generalize ps.getD k ByteArray.empty=p at *
   obtain ⟨a,ha⟩:∃a,a=UInt8.ofNat (1+s):=⟨_,rfl⟩
   have hai:(1:Int)+(s:Int)=(a.toNat:Int):=by rw [ha,←qd2 _ (by omega)];omega
   have HX:=hid (show (ss.take (k+1)).map (fun s=>UInt8.ofNat (1+s))=(ss.take k).map (fun s=>UInt8.ofNat (1+s))++[a] by rw [HS1.out,List.map_append,ha];rfl)
   have HY:=hid (show (ps.take (k+1)).map (fun p=>p.data.toList)=(ps.take k).map (fun p=>p.data.toList)++[p.data.toList] by rw [HS2.out,List.map_append];rfl)
   generalize (ss.take k).map (fun s=>UInt8.ofNat (1+s))=X at *
   generalize (ps.take k).map (fun p=>p.data.toList)=Y at *
   have hk1:(k:Int)<(N:Int):=by omega
   clear h1 h2 ha e1 HS1 HS2
   go_wp2_with (first | (at_builtin;refine wpList_append_lies _ rfl (.tmp 45) (.tmp 50) 163 rfl w3.heap.size 170 i0 (.int .u8 0) 1 1 Tryz.underlying163 hi hx0 hx1 hx2 rfl (by decide) u13 _ (bs X) rfl ((HJ.out.f.alloc _).alloc _) ⟨wr.heap.size+1,0,none⟩ 1 1 [.int .u8 a.toNat] rfl rfl (World.news_of_block (cs:=#[.int .u8 a.toNat]) (t:=170) (fr:=(0,0)) (by have:=heap_alloc_new (wr.alloc (.cells #[.int .i64 s,.string p] 63)) (.cells #[.int .u8 a.toNat] 170);simpa using this)) (by simp [Value.oneCell']) (by decide) (by unfold maxLen;omega) (by omega) (by simp<;>omega) (wr.heap.size+1+1) (by simp) ?_;intro g5 c5 w5 hown5 hgrow5 hat5 _;have HJ5:=hid (HJ.out.pushF (a:=a) (((Below.refl _ _).alloc nl _).alloc (by simp) _) hown5 hgrow5 (by simpa using hat5) hgrow5.size);have hb5:Below w3.heap.size w3 w5:=((hbel.alloc hzb _).alloc (by simp<;>omega) _).grown hgrow5 (by simp<;>omega) (fun b hb=>(HJ.out.f.lt b hb).1);have hz5:wr.heap.size+1+1≤w5.heap.size:=(by simpa using hgrow5.size);have e1:w5.cell? ⟨wr.heap.size,1,none⟩=some (.string p):=(hgrow5.cell_far _ (by simp<;>omega) (fun e=>by have:=(HJ.out.f.lt _ e.symm).2;simp at this)).trans (by simp);obtain ⟨cap6,w6,hconv6,hrd6,hb6,hs6⟩:=qeP w5 p;have HS6:=hid hs6;clear hown5 hgrow5 hat5 hs6)|(at_builtin;refine wpList_append_lies _ rfl (.tmp 52) (.tmp 56) 109 rfl w3.heap.size 50 iR (.slice none 0 0) 1 24 Tryz.underlying109 hiR hy0 hy1 hy2 rfl (by decide) u14 _ vs rfl ((qae HJ5.out.r hb6 nl).alloc _) ⟨w6.heap.size,0,none⟩ 1 1 [.slice (some ⟨w5.heap.size,0,none⟩) p.size cap6] rfl rfl (World.news_of_block (cs:=#[.slice (some ⟨w5.heap.size,0,none⟩) p.size cap6]) (t:=50) (fr:=(0,0)) (heap_alloc_new w6 _)) (by simp [Value.oneCell']) (by decide) (by unfold maxLen;omega) (by omega) (by have:=HS6.out;simp;omega) (w6.heap.size+1) (by simp) ?_;intro g7 c7 w7 hown7 hgrow7 hat7 _;have HJ7:=hid (HJ5.out.pushR (p:=p.data.toList) (gN:=w5.heap.size) (cN:=cap6) (hb6.alloc (by have:=HS6.out;omega) _) nl (by have:=HS6.out;simp;omega) (hrd6.below ((Below.refl _ _).alloc nl _) nl) hown7 hgrow7 (by simpa using hat7) hgrow7.size);have hb7:Below w3.heap.size w3 w7:=((hb5.trans (hb6.mono hb5.size)).alloc (by have:=HS6.out;have:=hb5.size;omega) _).grown hgrow7 (by have:=HS6.out;have:=hb5.size;simp;omega) (fun b hb=>(HJ5.out.r.lt b hb).1);clear hown7 hgrow7 hat7))
   go_roundw
   case rel=>exact ⟨k+1,_,by omega,by go_num,by rw [HX.out,HY.out];exact HJ7.out,hb7⟩
   case measure=>simp [intOf];omega
  ·have hk1:¬(k:Int)<(N:Int):=by omega
   have hkn:k=N:=by omega
   rw [hkn] at HJ
   obtain ⟨af,cf,ar,cr,rfl,rfl,hrf,hrr⟩:=HJ.out.full
   have lX:((ss.take N).map fun s=>UInt8.ofNat (1+s)).length=N:=by rw [List.length_map,List.length_take,←HR.out.em];omega
   have lY:((ps.take N).map fun p=>p.data.toList).length=N:=by rw [List.length_map,List.length_take,HPL.out];omega
   rw [lX,lY]
   have lR:∀k,k<N→(((ps.take N).map fun p=>p.data.toList).getD k []).length=G:=fun k hk=>by
    have hkp:k<ps.length:=by rw [HPL.out];omega
    have h1:=HLEN.out k (by omega)
    rw [show ps.getD k ByteArray.empty=ps[k] by simp [hkp]] at h1
    rw [show ((ps.take N).map fun p=>p.data.toList).getD k []=ps[k].data.toList by simp [hk,hkp]]
    exact h1
   have HX:=hid lX
   have HY:=hid lY
   have HLR:=hid lR
   have HGL:=hid (show gs=(Cof.groupAt mode t l).length by rw [Cof.groupAt_length];exact HGS.out)
   have HRG:=hid (HL3.out.g.below hbel nl)
   have q0':wr.cell? ⟨w1.heap.size,0,none⟩=some (.slice ag gs cg):=(hbel.cell (by show w1.heap.size<w3.heap.size;omega)).trans q0
   have q2':wr.cell? ⟨w1.heap.size,2,none⟩=some (.int .i64 G):=(hbel.cell (by show w1.heap.size<w3.heap.size;omega)).trans q2
   have HRF:=hid hrf
   have HRR:=hid hrr
   have hJJ:J=(Cof.gather (Cof.carry ((ss.take N).map fun s=>UInt8.ofNat (1+s)) ((ps.take N).map fun p=>p.data.toList) (Cof.groupAt mode t l)) G).take size:=by rw [HJ1.out,HG.out];rfl
   have HJJ:=hid hJJ
   clear hkn lX lY lR hrf hrr hJJ HJ1 p0 p1 p2 q0 q2
   generalize (ss.take N).map (fun s=>UInt8.ofNat (1+s))=X at *
   generalize (ps.take N).map (fun p=>p.data.toList)=Y at *
   have HCL:=hid (fun k (hk:k<gs)=>qhZ X Y (Cof.groupAt mode t l) G (by rw [HY.out];exact HLR.out) (by rw [HY.out];omega) k (by rw [←HGL.out];exact hk))
   have HCL2:=hid (fun k=>show ((Cof.carry X Y (Cof.groupAt mode t l)).getD k []).length≤500 by
    rcases Nat.lt_or_ge k gs with h | h
    ·rw [HCL.out k h];omega
    ·rw [List.getD_eq_getElem?_getD,List.getElem?_eq_none (by rw [show (Cof.carry X Y (Cof.groupAt mode t l)).length=gs by rw [HGL.out];simp [Cof.carry]];exact h)];simp)
   have HCZ:=hid (show gs=(Cof.carry X Y (Cof.groupAt mode t l)).length by rw [HGL.out];simp [Cof.carry])
   obtain ⟨Q,hQ⟩:∃Q,Q=G*gs:=⟨_,rfl⟩
   have HQ:=hid hQ
   have hsQ:size≤Q:=by rw [hQ];exact HSZ.out
   have hQ480:Q≤480:=by rw [hQ];exact Nat.mul_le_mul hng hg8
   clear hQ
   go_wp2_with fail
   go_region_held3 (fun w'=>w'.cell? ⟨w1.heap.size,0,none⟩=some (.slice ag gs cg)∧w'.cell? ⟨w1.heap.size,2,none⟩=some (.int .i64 G)) (first | exact ⟨s0,s2⟩|exact ⟨r0,r2⟩|go_keep)
    (first
     | (go_at_call 97;refine (qep af ar ag N cf N cr gs cg X (Cof.groupAt mode t l) Y _ HX.out.symm HY.out.symm HGL.out (by exact HRF.out.below (Below.refl _ _).drew nl) (by exact HRR.out.below (Below.refl _ _).drew nl) (by exact HRG.out.below (Below.refl _ _).drew nl) (by omega) nl (by omega) (fun k=>by rcases Nat.lt_or_ge k N with h | h;(· rw [HLR.out k h];omega);(· rw [List.getD_eq_getElem?_getD,List.getElem?_eq_none (by rw [HY.out];exact h)];simp))).mono ?_;rintro e w8 ⟨g8,rfl,hr8,hb8,_⟩;have hb8':Below wr.heap.size wr w8:=((Below.refl _ _).drew).trans hb8;have r0:w8.cell? ⟨w1.heap.size,0,none⟩=some (.slice ag gs cg):=(hb8'.cell (by show w1.heap.size<wr.heap.size;omega)).trans q0';have r2:w8.cell? ⟨w1.heap.size,2,none⟩=some (.int .i64 G):=(hb8'.cell (by show w1.heap.size<wr.heap.size;omega)).trans q2')
     | (go_at_call 101;refine (qfW (some ⟨g8,0,none⟩) gs gs G (Cof.carry X Y (Cof.groupAt mode t l)) _ HCZ.out hr8 (by omega) (by omega) (fun k hk=>by rw [HCL.out k hk];exact Nat.le_refl _) HCL2.out).mono ?_;rintro e w9 ⟨v9,rfl,hown9,hb9⟩;rw [←HQ.out] at hown9;obtain ⟨a9,c9,rfl,hr9⟩:=qaw hown9;have hc9:(size:Int)≤(c9:Int):=(by have:=qkF hown9;omega);have s0:w9.cell? ⟨w1.heap.size,0,none⟩=some (.slice ag gs cg):=(hb9.cell (by show w1.heap.size<w8.heap.size;have:=hb8'.size;omega)).trans r0;have s2:w9.cell? ⟨w1.heap.size,2,none⟩=some (.int .i64 G):=(hb9.cell (by show w1.heap.size<w8.heap.size;have:=hb8'.size;omega)).trans r2))
   have hb09:Below w.heap.size w w9:=((hb03.trans (hbel.mono (by omega))).trans (hb8'.mono (by omega))).trans (hb9.mono (by have:=hb8'.size;omega))
   go_wp2
   go_ret2
   refine ⟨a9,c9,rfl,?_,hb09⟩
   rw [HJJ.out]
   exact hr9.take size
theorem qko (av:Option Addr) (cv size:Nat) (J:List UInt8) (w:World) (hJ:size=J.length) (hrd:Rd w av (bs J)) :
  Calls Tryz.prog 47 #[.slice av size cv,.nilIface] w fun e w'=>e=.returned (.tuple #[.string ⟨J.toArray⟩,.int .i64 0])∧w'=w:=by
 have hcv:=qa6 w av cv size J hJ hrd
 clear hJ hrd
 go_enter Tryz.func47,Tryz.ntmps47
 go_wp2
 go_ret2
 exact ⟨rfl,rfl⟩
theorem qkh (x e:Value) (k:Int) (d:Nat) (w:World) (hc:Chain w k d e) (hd:d≤10) (hg:qaJ w) :
  Calls Tryz.prog 47 #[x,e] w fun ev w'=>ev=.returned (.tuple #[.string ByteArray.empty,.int .i64 k])∧Below w.heap.size w w':=by
 obtain ⟨te,ve,rfl⟩:=hc.shape
 go_enter Tryz.func47,Tryz.ntmps47
 go_wp2_with (go_at_call 44;refine (qaD k _ d _ hc hd hg).mono ?_;rintro e w2 ⟨rfl,hb2⟩)
 go_ret2
 exact ⟨rfl,hb2⟩
end Go.Proofs.YtcegdgmbponapaaGreatDoor