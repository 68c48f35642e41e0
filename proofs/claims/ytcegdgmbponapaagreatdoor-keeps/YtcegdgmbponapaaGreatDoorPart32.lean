import Derived.Test.YtcegdgmbponapaaGreatDoorPart31
set_option maxRecDepth 100000
set_option maxHeartbeats 4000000
namespace Go.Proofs.YtcegdgmbponapaaGreatDoor
open Go.RowKit
attribute [local go_sem ↓] Go.wp_at_zero Go.wp_at_succ
def pts (F:Nat→UInt8 × UInt8) (k:Nat):List Value:=(List.range k).flatMap fun j=>[.int .u8 ((F j).1.toNat:Int),.int .u8 ((F j).2.toNat:Int)]
theorem qcF (F:Nat→UInt8 × UInt8) (k:Nat):pts F (k+1)=pts F k++[.int .u8 ((F k).1.toNat:Int),.int .u8 ((F k).2.toNat:Int)]:=by
 simp [pts,List.range_succ]
theorem qbZ (F:Nat→UInt8 × UInt8) (k:Nat):(pts F k).length=k*2:=by
 induction k with
 | zero=>rfl
 | succ k ih=>rw [qcF,List.length_append,ih];simp;omega
theorem qlo (F:Nat→UInt8 × UInt8) (k j:Nat) (h:j<k):(pts F k)[j*2]?=some (.int .u8 ((F j).1.toNat:Int))∧(pts F k)[j*2+1]?=some (.int .u8 ((F j).2.toNat:Int)):=by
 induction k with
 | zero=>omega
 | succ k ih =>
  rw [qcF]
  by_cases hj:j<k
  ·rw [List.getElem?_append_left (by rw [qbZ];omega),List.getElem?_append_left (by rw [qbZ];omega)]
   exact ih hj
  ·have:j=k:=by omega
   subst this
   rw [List.getElem?_append_right (by rw [qbZ];omega),List.getElem?_append_right (by rw [qbZ];omega),qbZ]
   simp
def ptF (v tape:List UInt8) (mode t l g:Nat) (j:Nat):UInt8 × UInt8 :=
 ((Cof.groupAt mode t l++Cof.tapeAt mode t).getD j 0,Cof.knownAt v tape (Cof.gsize mode t l) (Cof.tsize mode t) g j)
theorem Tryz.infoPoint:(Tryz.prog.info? 311).map (fun i=>(i.zero,i.size,i.bytes))=some (some (.agg #[.int .u8 0,.int .u8 0]),2,2):=by kernel_rfl
theorem qdM (v:ByteArray) (q:Nat) (h:q<v.size):v[q]=v.data.toList.getD q 0:=by
 have h':q<v.data.size:=h
 show v.data[q]=_
 rw [List.getD_eq_getElem?_getD,Array.getElem?_toList,Array.getElem?_eq_getElem h'];rfl
theorem qik (t g:Nat) (v tape:ByteArray) (w:World) (ht:t≤8) (hp:qaj 1 t 1 t) (hg:g≤60) (hv:v.size≤60) :
  Calls Tryz.prog 237 #[.string v,.agg #[.int .i64 1,.int .i64 t,.int .i64 1],.string tape,.int .i64 g] w fun e w' =>
   ∃r,e=.returned r∧w'.ownsRow w.heap.size 311 2 r t (pts (ptF v.data.toList tape.data.toList 1 t 1 g) t)∧Below w.heap.size w w':=by
 obtain ⟨i0,hi,hz0,hz1,hz2⟩:=info_parts Tryz.infoPoint
 have HGR:=hid (fun w=>show Calls Tryz.prog 208 #[.agg #[.int .i64 1,.int .i64 t,.int .i64 1]] w (fun e w'=>e=.returned (.int .i64 t)∧Below w.heap.size w w') from qcG 1 t 1 t w hp)
 obtain ⟨Q,hQ⟩:∃Q,Q=g*t:=⟨_,rfl⟩
 have hQi:(g:Int)*(t:Int)=(Q:Int):=by rw [hQ];simp
 have hQ8:Q≤60*8:=by rw [hQ];exact Nat.mul_le_mul hg ht
 have HQ:=hid hQ
 clear hQ hp
 go_enter Tryz.func237,Tryz.ntmps237
 go_wp2_with fail
 refine (HGR.out _).mono ?_
 rintro e w1 ⟨rfl,hb1⟩
 have hz1':w.heap.size<w1.heap.size:=by have:=hb1.size;simp at this;omega
 have hc:=(qbM hb1).1
 have p0:w1.cell? ⟨w.heap.size,0,none⟩=some (.int .i64 1):=(hc _ _ (by simp)).trans (by simp)
 have p1:w1.cell? ⟨w.heap.size,1,none⟩=some (.int .i64 t):=(hc _ _ (by simp)).trans (by simp)
 have hb01:Below w.heap.size w w1:=((Below.refl _ _).alloc nl _).trans (hb1.mono (by simp))
 clear hc hb1
 go_wp2_with fail
 go_loopw [10,11] (fun o i wr=>∃k:Nat,k≤t∧i=.int .i64 k∧wr.ownsRow w1.heap.size 311 2 o k (pts (ptF v.data.toList tape.data.toList 1 t 1 g) k)∧Below w1.heap.size w1 wr)
  (fun _ i _=>t-(intOf i).toNat)
 case atStart=>exact ⟨0,Nat.zero_le _,rfl,World.ownsRow_nil _ _ _ _,bl⟩
 case round =>
  obtain ⟨k,hk,rfl,hown,hbel⟩:=hrel
  have hzb:=hbel.size
  have c0:wr.cell? ⟨w.heap.size,0,none⟩=some (.int .i64 1):=(hbel.cell (by exact hz1')).trans p0
  have c1:wr.cell? ⟨w.heap.size,1,none⟩=some (.int .i64 t):=(hbel.cell (by exact hz1')).trans p1
  have HO:=hid hown
  clear hown
  by_cases hlt:k<t
  ·obtain ⟨q,hq⟩:∃q,q=Q+k:=⟨_,rfl⟩
   have hqi:(Q:Int)+(k:Int)=(q:Int):=by omega
   obtain ⟨a,ha⟩:∃a,a=UInt8.ofNat (1+k):=⟨_,rfl⟩
   have hai:(k:Int)+1=(a.toNat:Int):=by rw [ha,←qd2 _ (by omega)];omega
   have ha6:(a.toNat:Int)≤255:=by have:=a.toNat_lt;omega
   have HSN:=hid (show pts (ptF v.data.toList tape.data.toList 1 t 1 g) (k+1)=pts (ptF v.data.toList tape.data.toList 1 t 1 g) k++[.int .u8 (a.toNat:Int),.int .u8 ((v.data.toList.getD q 0).toNat:Int)] by
    rw [qcF]
    have e1:(ptF v.data.toList tape.data.toList 1 t 1 g k).1=a:=by
     rw [ha];simp [ptF,Cof.groupAt,Cof.tapeAt,Cof.run,hlt]
    have e2:(ptF v.data.toList tape.data.toList 1 t 1 g k).2=v.data.toList.getD q 0:=by
     rw [hq,HQ.out];simp [ptF,Cof.knownAt,Cof.gsize,hlt]
    rw [e1,e2])
   generalize pts (ptF v.data.toList tape.data.toList 1 t 1 g) k=X at *
   have hk1:(k:Int)<(t:Int):=by omega
   by_cases hqv:q<v.size
   ·have hq1:(q:Int)<(v.size:Int):=by omega
    have hq0:(0:Int)≤(q:Int):=by omega
    have hy:=qdM v q hqv
    rw [←hy] at HSN
    clear ha hq hy
    go_wp2_with ((at_builtin;refine wpList_append_lies _ rfl (.tmp 44) (.tmp 49) 309 rfl w1.heap.size 311 i0 (.agg #[.int .u8 0,.int .u8 0]) 2 2 Tryz.underlying309 hi hz0 hz1 hz2 rfl (by decide) u10 _ X rfl (HO.out.alloc _) ⟨wr.heap.size,0,none⟩ 1 1 [.int .u8 a.toNat,.int .u8 (v[q]).toNat] rfl rfl (World.news_of_block (cs:=#[.int .u8 a.toNat,.int .u8 (v[q]).toNat]) (t:=311) (fr:=(0,0)) (heap_alloc_new wr _)) (by simp [Value.oneCell']) (by decide) (by unfold maxLen;omega) (by omega) (by simp<;>omega) (wr.heap.size+1) (by simp) ?_;intro g5 c5 w5 hown5 hgrow5 hat5 _;have HO5:=hid hown5;have hb5:Below w1.heap.size w1 w5:=(hbel.alloc hzb _).grown hgrow5 (by simp<;>omega) (fun b hb=>(HO.out.lt b hb).1);rw [←HSN.out] at HO5;clear hown5 hgrow5 hat5))
    go_roundw
    case rel=>exact ⟨k+1,by omega,by go_num,HO5.out,hb5⟩
    case measure=>simp [intOf];omega
   ·have hq1:¬(q:Int)<(v.size:Int):=by omega
    have hy:v.data.toList.getD q 0=0:=by
     rw [List.getD_eq_getElem?_getD,List.getElem?_eq_none (by have:v.data.size=v.size:=rfl;simp;omega)];rfl
    rw [hy] at HSN
    clear ha hq hy
    go_wp2_with ((at_builtin;refine wpList_append_lies _ rfl (.tmp 44) (.tmp 49) 309 rfl w1.heap.size 311 i0 (.agg #[.int .u8 0,.int .u8 0]) 2 2 Tryz.underlying309 hi hz0 hz1 hz2 rfl (by decide) u10 _ X rfl (HO.out.alloc _) ⟨wr.heap.size,0,none⟩ 1 1 [.int .u8 a.toNat,.int .u8 0] rfl rfl (World.news_of_block (cs:=#[.int .u8 a.toNat,.int .u8 0]) (t:=311) (fr:=(0,0)) (heap_alloc_new wr _)) (by simp [Value.oneCell']) (by decide) (by unfold maxLen;omega) (by omega) (by simp<;>omega) (wr.heap.size+1) (by simp) ?_;intro g5 c5 w5 hown5 hgrow5 hat5 _;have HO5:=hid hown5;have hb5:Below w1.heap.size w1 w5:=(hbel.alloc hzb _).grown hgrow5 (by simp<;>omega) (fun b hb=>(HO.out.lt b hb).1);rw [show ([.int .u8 (a.toNat:Int),.int .u8 0]:List Value)=[.int .u8 (a.toNat:Int),.int .u8 ((0:UInt8).toNat:Int)] from rfl,←HSN.out] at HO5;clear hown5 hgrow5 hat5))
    go_roundw
    case rel=>exact ⟨k+1,by omega,by go_num,HO5.out,hb5⟩
    case measure=>simp [intOf];omega
  ·have hkn:k=t:=by omega
   subst hkn
   have hk1:¬(k:Int)<(k:Int):=by omega
   go_wp2_with fail
   refine wp_loop_rounds 1 ?_
   rw [rounds_succ]
   go_wp2
   go_ret
   exact ⟨_,rfl,qaf HO.out (by omega),hb01.trans (hbel.mono hb01.size)⟩
theorem qiX (u l n g:Nat) (v tape:ByteArray) (w:World) (hp:qaj 0 (u+1) l n) (hg:g≤60) (hv:v.size≤60) (htp:u*g+u≤tape.size) :
  Calls Tryz.prog 237 #[.string v,.agg #[.int .i64 0,.int .i64 ((u:Int)+1),.int .i64 l],.string tape,.int .i64 g] w fun e w' =>
   ∃r,e=.returned r∧w'.ownsRow w.heap.size 311 2 r (l+u) (pts (ptF v.data.toList tape.data.toList 0 (u+1) l g) (l+u))∧Below w.heap.size w w':=by
 obtain ⟨i0,hi,hz0,hz1,hz2⟩:=info_parts Tryz.infoPoint
 have HGR:=hid (fun w=>show Calls Tryz.prog 208 #[.agg #[.int .i64 0,.int .i64 ((u:Int)+1),.int .i64 l]] w (fun e w'=>e=.returned (.int .i64 l)∧Below w.heap.size w w') from qcG 0 (u+1) l n w hp)
 have hl8:l≤8:=by have:=hp.n8;rcases hp.md with h | h<;>omega
 have hu8:u≤7:=by have:=hp.n8;have:=hp.tn;omega
 obtain ⟨Q,hQ⟩:∃Q,Q=g*l:=⟨_,rfl⟩
 have hQi:(g:Int)*(l:Int)=(Q:Int):=by rw [hQ];simp
 have hQ8:Q≤60*8:=by rw [hQ];exact Nat.mul_le_mul hg hl8
 have HQ:=hid hQ
 obtain ⟨R,hR⟩:∃R,R=g*u:=⟨_,rfl⟩
 have hRi:(g:Int)*(u:Int)=(R:Int):=by rw [hR];simp
 have hR8:R≤60*7:=by rw [hR];exact Nat.mul_le_mul hg hu8
 have hRt:R+u≤tape.size:=by rw [hR,Nat.mul_comm];exact htp
 have HR:=hid hR
 have hwu:IntKind.i64.wrap (u:Int)=u:=by rw [IntKind.wrap_i64];omega
 clear hQ hR hp htp
 go_enter Tryz.func237,Tryz.ntmps237
 go_wp2_with fail
 refine (HGR.out _).mono ?_
 rintro e w1 ⟨rfl,hb1⟩
 have hz1':w.heap.size<w1.heap.size:=by have:=hb1.size;simp at this;omega
 have hc:=(qbM hb1).1
 have p0:w1.cell? ⟨w.heap.size,0,none⟩=some (.int .i64 0):=(hc _ _ (by simp)).trans (by simp)
 have p1:w1.cell? ⟨w.heap.size,1,none⟩=some (.int .i64 ((u:Int)+1)):=(hc _ _ (by simp)).trans (by simp)
 have hb01:Below w.heap.size w w1:=((Below.refl _ _).alloc nl _).trans (hb1.mono (by simp))
 clear hc hb1
 go_wp2_with fail
 go_loopw [10,11] (fun o i wr=>∃k:Nat,k≤l∧i=.int .i64 k∧wr.ownsRow w1.heap.size 311 2 o k (pts (ptF v.data.toList tape.data.toList 0 (u+1) l g) k)∧Below w1.heap.size w1 wr)
  (fun _ i _=>l-(intOf i).toNat)
 case atStart=>exact ⟨0,Nat.zero_le _,rfl,World.ownsRow_nil _ _ _ _,bl⟩
 case round =>
  obtain ⟨k,hk,rfl,hown,hbel⟩:=hrel
  have hzb:=hbel.size
  have c0:wr.cell? ⟨w.heap.size,0,none⟩=some (.int .i64 0):=(hbel.cell (by exact hz1')).trans p0
  have c1:wr.cell? ⟨w.heap.size,1,none⟩=some (.int .i64 ((u:Int)+1)):=(hbel.cell (by exact hz1')).trans p1
  have HO:=hid hown
  clear hown
  by_cases hlt:k<l
  ·obtain ⟨q,hq⟩:∃q,q=Q+k:=⟨_,rfl⟩
   have hqi:(Q:Int)+(k:Int)=(q:Int):=by omega
   obtain ⟨a,ha⟩:∃a,a=UInt8.ofNat (128+k):=⟨_,rfl⟩
   have hai:(128:Int)+(k:Int)=(a.toNat:Int):=by rw [ha,←qd2 _ (by omega)];omega
   have ha6:(a.toNat:Int)≤255:=by have:=a.toNat_lt;omega
   have HSN:=hid (show pts (ptF v.data.toList tape.data.toList 0 (u+1) l g) (k+1)=pts (ptF v.data.toList tape.data.toList 0 (u+1) l g) k++[.int .u8 (a.toNat:Int),.int .u8 ((v.data.toList.getD q 0).toNat:Int)] by
    rw [qcF]
    have e1:(ptF v.data.toList tape.data.toList 0 (u+1) l g k).1=a:=by
     rw [ha];simp [ptF,Cof.groupAt,Cof.tapeAt,Cof.run,hlt,List.getElem?_append]
    have e2:(ptF v.data.toList tape.data.toList 0 (u+1) l g k).2=v.data.toList.getD q 0:=by
     rw [hq,HQ.out];simp [ptF,Cof.knownAt,Cof.gsize,hlt]
    rw [e1,e2])
   generalize pts (ptF v.data.toList tape.data.toList 0 (u+1) l g) k=X at *
   have hk1:(k:Int)<(l:Int):=by omega
   by_cases hqv:q<v.size
   ·have hq1:(q:Int)<(v.size:Int):=by omega
    have hq0:(0:Int)≤(q:Int):=by omega
    have hy:=qdM v q hqv
    rw [←hy] at HSN
    clear ha hq hy
    go_wp2_with ((at_builtin;refine wpList_append_lies _ rfl (.tmp 44) (.tmp 49) 309 rfl w1.heap.size 311 i0 (.agg #[.int .u8 0,.int .u8 0]) 2 2 Tryz.underlying309 hi hz0 hz1 hz2 rfl (by decide) u10 _ X rfl (HO.out.alloc _) ⟨wr.heap.size,0,none⟩ 1 1 [.int .u8 a.toNat,.int .u8 (v[q]).toNat] rfl rfl (World.news_of_block (cs:=#[.int .u8 a.toNat,.int .u8 (v[q]).toNat]) (t:=311) (fr:=(0,0)) (heap_alloc_new wr _)) (by simp [Value.oneCell']) (by decide) (by unfold maxLen;omega) (by omega) (by simp<;>omega) (wr.heap.size+1) (by simp) ?_;intro g5 c5 w5 hown5 hgrow5 hat5 _;have HO5:=hid hown5;have hb5:Below w1.heap.size w1 w5:=(hbel.alloc hzb _).grown hgrow5 (by simp<;>omega) (fun b hb=>(HO.out.lt b hb).1);rw [←HSN.out] at HO5;clear hown5 hgrow5 hat5))
    go_roundw
    case rel=>exact ⟨k+1,by omega,by go_num,HO5.out,hb5⟩
    case measure=>simp [intOf];omega
   ·have hq1:¬(q:Int)<(v.size:Int):=by omega
    have hy:v.data.toList.getD q 0=0:=by
     rw [List.getD_eq_getElem?_getD,List.getElem?_eq_none (by have:v.data.size=v.size:=rfl;simp;omega)];rfl
    rw [hy] at HSN
    clear ha hq hy
    go_wp2_with ((at_builtin;refine wpList_append_lies _ rfl (.tmp 44) (.tmp 49) 309 rfl w1.heap.size 311 i0 (.agg #[.int .u8 0,.int .u8 0]) 2 2 Tryz.underlying309 hi hz0 hz1 hz2 rfl (by decide) u10 _ X rfl (HO.out.alloc _) ⟨wr.heap.size,0,none⟩ 1 1 [.int .u8 a.toNat,.int .u8 0] rfl rfl (World.news_of_block (cs:=#[.int .u8 a.toNat,.int .u8 0]) (t:=311) (fr:=(0,0)) (heap_alloc_new wr _)) (by simp [Value.oneCell']) (by decide) (by unfold maxLen;omega) (by omega) (by simp<;>omega) (wr.heap.size+1) (by simp) ?_;intro g5 c5 w5 hown5 hgrow5 hat5 _;have HO5:=hid hown5;have hb5:Below w1.heap.size w1 w5:=(hbel.alloc hzb _).grown hgrow5 (by simp<;>omega) (fun b hb=>(HO.out.lt b hb).1);rw [show ([.int .u8 (a.toNat:Int),.int .u8 0]:List Value)=[.int .u8 (a.toNat:Int),.int .u8 ((0:UInt8).toNat:Int)] from rfl,←HSN.out] at HO5;clear hown5 hgrow5 hat5))
    go_roundw
    case rel=>exact ⟨k+1,by omega,by go_num,HO5.out,hb5⟩
    case measure=>simp [intOf];omega
  ·have hkn:k=l:=by omega
   rw [hkn] at HO
   have hk1:¬(k:Int)<(l:Int):=by omega
   clear hkn
   go_wp2_with fail
   go_loopw [10,14] (fun o i wr=>∃r:Nat,r≤u∧i=.int .i64 r∧wr.ownsRow w1.heap.size 311 2 o (l+r) (pts (ptF v.data.toList tape.data.toList 0 (u+1) l g) (l+r))∧Below w1.heap.size w1 wr)
    (fun _ i _=>u-(intOf i).toNat)
   case atStart=>exact ⟨0,Nat.zero_le _,rfl,HO.out,hbel⟩
   case round =>
    clear HO c0 c1 hzb hbel
    obtain ⟨r,hr,rfl,hown,hbel⟩:=hrel
    have hzb:=hbel.size
    have c0:=(hbel.cell (p:=⟨w.heap.size,0,none⟩) (by exact hz1')).trans p0
    have c1:=(hbel.cell (p:=⟨w.heap.size,1,none⟩) (by exact hz1')).trans p1
    have HO:=hid hown
    clear hown
    by_cases hlt:r<u
    ·obtain ⟨q,hq⟩:∃q,q=R+r:=⟨_,rfl⟩
     have hqi:(R:Int)+(r:Int)=(q:Int):=by omega
     have hqt:q<tape.size:=by omega
     have hq0:(0:Int)≤(q:Int):=by omega
     have hq1:(q:Int)<(tape.size:Int):=by omega
     obtain ⟨a,ha⟩:∃a,a=UInt8.ofNat (192+r):=⟨_,rfl⟩
     have hai:(192:Int)+(r:Int)=(a.toNat:Int):=by rw [ha,←qd2 _ (by omega)];omega
     have ha6:(a.toNat:Int)≤255:=by have:=a.toNat_lt;omega
     have HSN:=hid (show pts (ptF v.data.toList tape.data.toList 0 (u+1) l g) (l+r+1)=pts (ptF v.data.toList tape.data.toList 0 (u+1) l g) (l+r)++[.int .u8 (a.toNat:Int),.int .u8 ((tape[q]).toNat:Int)] by
      rw [qcF]
      have e1:(ptF v.data.toList tape.data.toList 0 (u+1) l g (l+r)).1=a:=by
       rw [ha];simp [ptF,Cof.groupAt,Cof.tapeAt,Cof.run,hlt]
      have e2:(ptF v.data.toList tape.data.toList 0 (u+1) l g (l+r)).2=tape[q]:=by
       rw [qdM tape q hqt,hq,HR.out];simp [ptF,Cof.knownAt,Cof.gsize,Cof.tsize];omega
      rw [e1,e2])
     obtain ⟨c,hc⟩:∃c,c=l+r:=⟨_,rfl⟩
     have HC:=hid hc
     rw [←hc] at HSN HO
     have hc15:c≤15:=by omega
     generalize pts (ptF v.data.toList tape.data.toList 0 (u+1) l g) c=X at *
     have hr1:(r:Int)<(u:Int):=by omega
     clear ha hq hc
     go_wp2_with ((at_builtin;refine wpList_append_lies _ rfl (.tmp 63) (.tmp 77) 309 rfl w1.heap.size 311 i0 (.agg #[.int .u8 0,.int .u8 0]) 2 2 Tryz.underlying309 hi hz0 hz1 hz2 rfl (by decide) u10 _ X rfl (HO.out.alloc _) ⟨wr.heap.size,0,none⟩ 1 1 [.int .u8 a.toNat,.int .u8 (tape[q]).toNat] rfl rfl (World.news_of_block (cs:=#[.int .u8 a.toNat,.int .u8 (tape[q]).toNat]) (t:=311) (fr:=(0,0)) (heap_alloc_new wr _)) (by simp [Value.oneCell']) (by decide) (by unfold maxLen;omega) (by omega) (by simp<;>omega) (wr.heap.size+1) (by simp) ?_;intro g5 c5 w5 hown5 hgrow5 hat5 _;have HO5:=hid hown5;have hb5:Below w1.heap.size w1 w5:=(hbel.alloc hzb _).grown hgrow5 (by simp<;>omega) (fun b hb=>(HO.out.lt b hb).1);rw [←HSN.out] at HO5;clear hown5 hgrow5 hat5))
     go_roundw
     case rel=>exact ⟨r+1,by omega,by go_num,by rw [show l+(r+1)=c+1 by rw [HC.out];omega];exact HO5.out,hb5⟩
     case measure=>simp [intOf];omega
    ·have hrn:r=u:=by omega
     rw [hrn] at HO
     have hr1:¬(r:Int)<(u:Int):=by omega
     clear hrn
     go_wp2
     go_ret
     exact ⟨_,rfl,qaf HO.out (by omega),hb01.trans (hbel.mono hb01.size)⟩
theorem qiF (mode t l n g:Nat) (v tape:ByteArray) (w:World) (hp:qaj mode t l n) (hv:v.size≤60) (hg:g<Cof.ngroups mode t l v.size) (htp:Cof.tsize mode t*Cof.ngroups mode t l v.size≤tape.size) :
  Calls Tryz.prog 237 #[.string v,.agg #[.int .i64 mode,.int .i64 t,.int .i64 l],.string tape,.int .i64 g] w fun e w' =>
   ∃r,e=.returned r∧w'.ownsRow w.heap.size 311 2 r (Cof.gsize mode t l+Cof.tsize mode t) (pts (ptF v.data.toList tape.data.toList mode t l g) (Cof.gsize mode t l+Cof.tsize mode t))∧Below w.heap.size w w':=by
 have hng:=qao hp v.size hv
 have hmul:=Nat.mul_le_mul_left (Cof.tsize mode t) (show g+1≤Cof.ngroups mode t l v.size from hg)
 have h8:=Nat.le_trans hp.tn hp.n8
 have h1:=hp.t1
 rcases hp.md with ⟨rfl,h6⟩|⟨rfl,rfl⟩
 ·obtain ⟨u,rfl⟩:∃u,t=u+1:=⟨t-1,by omega⟩
  have:=qiX u l n g v tape w hp (by omega) hv (by simp [Cof.tsize] at hmul htp;rw [Nat.mul_add] at hmul;omega)
  simpa [Cof.gsize,Cof.tsize] using this
 ·have:=qik t g v tape w h8 ⟨h1,h8,h1,Nat.le_refl _,Nat.le_refl _,.inr ⟨rfl,rfl⟩⟩ (by omega) hv
  simpa [Cof.gsize,Cof.tsize] using this
def qci (n key:Nat) (dv ov:Value):Array Value:=#[.int .i64 n,.int .u64 key,dv,ov]
theorem qk5 (t j:Nat) (ht:t<18446744073709551616):bits .and .u64 ((t:Int) / 2 ^ (8*j)) 255=((UInt8.ofNat (t / 256 ^ j)).toNat:Int):=by
 have h1:(2:Int) ^ (8*j)=((256 ^ j:Nat):Int):=by rw [Int.pow_mul];norm_cast
 rw [h1,←Int.natCast_ediv]
 have h2:t / 256 ^ j<18446744073709551616:=Nat.lt_of_le_of_lt (Nat.div_le_self _ _) ht
 rw [show (255:Int)=((255:Nat):Int) from rfl,bits_and_u64_nat _ _ h2 (by decide),UInt8.toNat_ofNat']
 rw [show (255:Nat)=2 ^ 8-1 from rfl,Nat.and_two_pow_sub_one_eq_mod]
theorem qhN (P n key:Nat) (dv ov:Value) (s:ByteArray) (w:World) (hp:w.heap[P]?=some (.cells (qci n key dv ov) 130)) (hs:s.size≤1000) (hk:key<18446744073709551616) :
  Calls Tryz.prog 207 #[.pointer (some ⟨P,0,none⟩),.string s] w fun e w'=>e=.returned (.string ⟨(Cof.high (Cof.tag key s.data.toList) 8).toArray⟩)∧Below w.heap.size w w':=by
 obtain ⟨i0,hi,hz0,hz1,hz2⟩:=info_parts Tryz.info5
 have c1:w.cell? ⟨P,1,none⟩=some (.int .u64 key):=cq hp rfl
 have h0:=qgh key hk
 have HK:=hid hk
 clear hk hp
 go_enter Tryz.func207,Tryz.ntmps207
 go_wp2_with fail
 go_loopw [5,6] (fun t i wr=>∃k:Nat,k≤s.size∧i=.int .i64 k∧t=.int .u64 (Cof.tag key (s.data.toList.take k))∧wr=w) (fun _ i _=>s.size-(intOf i).toNat)
 case atStart=>exact ⟨0,Nat.zero_le _,rfl,by rw [List.take_zero,←h0],rfl⟩
 case round =>
  obtain ⟨k,hk,rfl,rfl,hwr⟩:=hrel
  obtain rfl:=hwr.symm
  by_cases hlt:k<s.size
  ·have hkl:k<s.data.toList.length:=by simpa using hlt
   have hlt':(k:Int)<(s.size:Int):=by omega
   have HT:=hid (Cof.tag_snoc key s.data.toList k hkl)
   have hx:=qiL (Cof.tag key (s.data.toList.take k)) s.data.toList[k] (Cof.tag_lt key HK.out _)
   have hy:s[k]=s.data.toList[k]:=rfl
   rw [←hy] at HT hx
   generalize Cof.tag key (s.data.toList.take k)=t at *
   clear hy
   go_wp2_with fail
   go_roundw
   case rel=>exact ⟨k+1,by omega,by go_num,by rw [HT.out,←qd9 t _ hx],trivial⟩
   case measure=>simp [intOf];omega
  ·have hkn:k=s.size:=by omega
   have HTK:=hid (show s.data.toList.take k=s.data.toList by rw [hkn];exact List.take_of_length_le (by simp))
   have hlt':¬(k:Int)<(s.size:Int):=by omega
   rw [HTK.out]
   obtain ⟨t,ht⟩:∃t,t=Cof.tag key s.data.toList:=⟨_,rfl⟩
   rw [←ht]
   have HV:=hid ht
   clear ht
   have ht:t<18446744073709551616:=by rw [HV.out];exact Cof.tag_lt key HK.out _
   go_wp2_with fail
   go_loopw [7,8] (fun o i wr=>∃k:Nat,k≤8∧i=.int .i64 (7-(k:Int))∧wr.ownsRow w.heap.size 5 1 o k (bs ((Cof.high t 8).take k))∧Below w.heap.size w wr) (fun _ i _=>(intOf i+1).toNat)
   case atStart=>exact ⟨0,Nat.zero_le _,rfl,World.ownsRow_nil _ _ _ _,bl⟩
   case round =>
    obtain ⟨k,hk8,rfl,hown,hbel⟩:=hrel
    have hzb:=hbel.size
    have HO:=hid hown
    clear hown
    by_cases hk7:k<8
    ·have h1:(0:Int)≤7-(k:Int):=by omega
     have e8:(8:Int)*(7-(k:Int))=((8*(7-k):Nat):Int):=by omega
     obtain ⟨a,ha⟩:∃a,a=UInt8.ofNat (t / 256 ^ (7-k)):=⟨_,rfl⟩
     have hb:=qk5 t (7-k) ht
     rw [←ha] at hb
     have ha6:(a.toNat:Int)<256:=by have:=a.toNat_lt;omega
     have hm:(a.toNat:Int) % 256=(a.toNat:Int):=by omega
     have HSN:=hid (show bs ((Cof.high t 8).take (k+1))=bs ((Cof.high t 8).take k)++[.int .u8 a.toNat] from by
      rw [List.take_succ_eq_append_getElem (by rw [Cof.length_high];exact hk7)]
      simp [bs,Cof.high,ha])
     clear ha
     generalize bs ((Cof.high t 8).take k)=X at *
     go_wp2_with (first | (at_builtin;refine wpList_append_lies _ rfl (.tmp 31) (.tmp 38) 50 rfl w.heap.size 5 i0 (.int .u8 0) 1 1 Tryz.underlying50 hi hz0 hz1 hz2 rfl (by decide) u7 _ X rfl (HO.out.alloc _) ⟨wr.heap.size,0,none⟩ 1 1 [.int .u8 a.toNat] rfl rfl (World.news_of_block (cs:=#[.int .u8 a.toNat]) (t:=5) (fr:=(0,0)) (heap_alloc_new wr _)) (by simp [Value.oneCell']) (by decide) (by unfold maxLen;omega) (by omega) (by simp<;>omega) (wr.heap.size+1) (by simp) ?_;intro g5 c5 w5 hown5 hgrow5 hat5 _;have HO5:=hid hown5;have hb5:Below w.heap.size w w5:=(hbel.alloc hzb _).grown hgrow5 (by simp<;>omega) (fun b hb=>(HO.out.lt b hb).1);rw [←HSN.out] at HO5;clear hown5 hgrow5 hat5)|fail)
     go_roundw
     case rel=>exact ⟨k+1,by omega,by congr 1;omega,HO5.out,hb5⟩
     case measure=>simp [intOf];omega
    ·have h1:¬(0:Int)≤7-(k:Int):=by omega
     have hkk:k=8:=by omega
     subst hkk
     have HR:=hid (show (Cof.high t 8).take 8=Cof.high t 8 from List.take_of_length_le (by rw [Cof.length_high];decide))
     rw [HR.out] at HO
     obtain ⟨g,c,rfl,_,_⟩:=HO.out.form (by decide)
     have hcv:=qa6 wr (some ⟨g,0,none⟩) c 8 (Cof.high t 8) (Cof.length_high _ _).symm (qaC HO.out)
     go_wp2_with fail
     go_ret
     rw [HV.out]
     exact ⟨rfl,hbel⟩
structure RObj where
 ob:Ob
 sa:Option Addr
 sc:Nat
 sh:List ByteArray
instance : Inhabited RObj:=⟨⟨⟨⟨#[]⟩,0,0,0,0,0⟩,none,0,[]⟩⟩
def RObj.cells (n:Nat) (x:RObj):List Value:=[.string x.ob.name,.int .i64 x.ob.mode,.int .i64 x.ob.t,.int .i64 x.ob.l,.int .i64 x.ob.size,.int .i64 x.ob.epoch,.slice x.sa n x.sc]
def qat (n:Nat) (xs:List RObj):List Value:=xs.flatMap (RObj.cells n)
theorem qar (n:Nat) (xs:List RObj):(qat n xs).length=xs.length*7:=by
 induction xs with
 | nil=>rfl
 | cons x xs ih=>simp only [qat,List.flatMap_cons,List.length_append] at ih ⊢;rw [ih];simp [RObj.cells];omega
theorem qfD (n:Nat) (xs:List RObj) (k j:Nat) (hk:k<xs.length) (hj:j<7):(qat n xs)[k*7+j]?=((xs[k]).cells n)[j]?:=by
 induction xs generalizing k with
 | nil=>simp at hk
 | cons x xs ih =>
  cases k with
  | zero =>
   simp only [qat,List.flatMap_cons,List.getElem_cons_zero,Nat.zero_mul,Nat.zero_add]
   rw [List.getElem?_append_left (by simp [RObj.cells];exact hj)]
  | succ k =>
   have:=ih k (by simpa using hk)
   simp only [qat,List.flatMap_cons,List.getElem_cons_succ] at this ⊢
   rw [←this,List.getElem?_append_right (by simp [RObj.cells];omega),show (k+1)*7+j-(x.cells n).length=k*7+j by simp [RObj.cells];omega]
theorem qbh (n:Nat) (a b:List RObj):qat n (a++b)=qat n a++qat n b:=by simp [qat]
theorem qbf {w:World} {b o n:Nat} {xs:List RObj} (h:Rd w (some ⟨b,o,none⟩) (qat n xs)) (k:Nat) (hk:k<xs.length) (x:RObj) (hx:x=xs[k]):b<w.heap.size ∧
  w.cell? ⟨b,o+k*7,none⟩=some (.string x.ob.name)∧w.cell? ⟨b,o+k*7+1,none⟩=some (.int .i64 x.ob.mode)∧w.cell? ⟨b,o+k*7+2,none⟩=some (.int .i64 x.ob.t)∧w.cell? ⟨b,o+k*7+3,none⟩=some (.int .i64 x.ob.l)∧w.cell? ⟨b,o+k*7+4,none⟩=some (.int .i64 x.ob.size) ∧
  w.cell? ⟨b,o+k*7+5,none⟩=some (.int .i64 x.ob.epoch)∧w.cell? ⟨b,o+k*7+6,none⟩=some (.slice x.sa n x.sc):=by
 subst hx
 have key:∀j (hj:j<7) v,((xs[k]).cells n)[j]?=some v→b<w.heap.size∧w.cell? ⟨b,o+k*7+j,none⟩=some v:=fun j hj v hv=>by
  obtain ⟨b',o',e,hlt,hc⟩:=h (k*7+j) v ((qfD n xs k j hk hj).trans hv)
  cases e
  exact ⟨hlt,by rw [Nat.add_assoc];exact hc⟩
 exact ⟨(key 0 (by decide) _ rfl).1,(key 0 (by decide) _ rfl).2,(key 1 (by decide) _ rfl).2,(key 2 (by decide) _ rfl).2,(key 3 (by decide) _ rfl).2,(key 4 (by decide) _ rfl).2,(key 5 (by decide) _ rfl).2,(key 6 (by decide) _ rfl).2⟩
def bools (dn:Nat→Bool) (n:Nat):List Value:=(List.range n).map fun i=>.bool (dn i)
theorem qaU (dn:Nat→Bool) (n:Nat):(bools dn n).length=n:=by simp [bools]
theorem qcA (dn:Nat→Bool) (n k:Nat) (h:k<n):(bools dn n)[k]?=some (.bool (dn k)):=by simp [bools,h]
structure Wd (w:World) (P n key:Nat) (dn:Nat→Bool) (dv:Value) (xs:List RObj):Prop where
 obj:∃ov,w.heap[P]?=some (.cells (qci n key dv ov) 130)∧w.ownsRow 0 198 7 ov xs.length (qat n xs)
 down:w.ownsRow 0 4 1 dv n (bools dn n)
 shs:∀x∈xs,x.sh.length=n∧w.ownsRow 0 9 1 (.slice x.sa n x.sc) n (x.sh.map .string)
 n1:1≤n
 n8:n≤8
 len:xs.length≤10
 hk:key<18446744073709551616
section
variable {w:World} {P n key:Nat} {dn:Nat→Bool} {dv:Value} {xs:List RObj}
theorem qcP {w w':World} {B m size:Nat} {e:TypeId} {v:Value} {L:List Value} (h:w.ownsRow 0 e size v m L) (hb:Below B w w') (hB:w.heap.size≤B):w'.ownsRow 0 e size v m L:=by
 obtain ⟨h1,h2⟩:=h
 refine ⟨h1,?_⟩
 rcases h2 with h2 | ⟨g,cap,cur,e1,e2,e3,e4⟩
 ·exact .inl h2
 ·exact .inr ⟨g,cap,cur,e1,e2,(hb.block g (Nat.lt_of_lt_of_le (cells_lt e3) hB)).trans e3,e4⟩
theorem Wd.hp (h:Wd w P n key dn dv xs):∃oa oc,w.heap[P]?=some (.cells (qci n key dv (.slice oa xs.length oc)) 130)∧Rd w oa (qat n xs):=by
 obtain ⟨ov,h1,h2⟩:=h.obj
 obtain ⟨a,c,rfl,h3⟩:=qad h2
 exact ⟨a,c,h1,h3⟩
theorem Wd.sh (h:Wd w P n key dn dv xs):∀x∈xs,x.sh.length=n∧Rd w x.sa (x.sh.map .string):=fun x hx=>by
 obtain ⟨h1,h2⟩:=h.shs x hx
 obtain ⟨a,c,e,h3⟩:=qad h2
 cases e
 exact ⟨h1,h3⟩
theorem Wd.below {w':World} {B:Nat} (h:Wd w P n key dn dv xs) (hb:Below B w w') (hB:w.heap.size≤B):Wd w' P n key dn dv xs:=by
 obtain ⟨ov,h1,h2⟩:=h.obj
 exact ⟨⟨ov,(hb.block P (Nat.lt_of_lt_of_le (cells_lt h1) hB)).trans h1,qcP h2 hb hB⟩,qcP h.down hb hB,fun x hx=>⟨(h.shs x hx).1,qcP (h.shs x hx).2 hb hB⟩,h.n1,h.n8,h.len,h.hk⟩
theorem Wd.spared {w':World} {own:Nat→Prop} (h:Wd w P n key dn dv xs) (hs:qaa own w w') (hno:∀b cs t fz,w.heap[b]?=some (.cells cs t fz)→t=130∨t=4∨t=198∨t=9→¬own b):Wd w' P n key dn dv xs:=by
 have key1:∀{e:TypeId} {size m:Nat} {v:Value} {l:List Value},(e=130∨e=4∨e=198∨e=9)→w.ownsRow 0 e size v m l→w'.ownsRow 0 e size v m l:=fun he ho=>qab ho hs fun b hb=>by
  rcases ho.2 with ⟨h8,_⟩|⟨g,cap,cur,h8,_,h4,_⟩
  ·rw [h8] at hb;cases hb
  ·rw [h8] at hb
   cases hb
   exact hno _ _ _ _ h4 he
 obtain ⟨ov,h1,h2⟩:=h.obj
 exact ⟨⟨ov,hs.heap h1 (hno _ _ _ _ h1 (.inl rfl)),key1 (.inr (.inr (.inl rfl))) h2⟩,key1 (.inr (.inl rfl)) h.down,fun x hx=>⟨(h.shs x hx).1,key1 (.inr (.inr (.inr rfl))) (h.shs x hx).2⟩,h.n1,h.n8,h.len,h.hk⟩
theorem Wd.find_any (h:Wd w P n key dn dv xs) (nm:ByteArray) (r:Int) (hno:(∀j (_:j<xs.length),(xs[j]!).ob.name≠nm)→r=-1) (hyes:∀k,k<xs.length→(xs[k]!).ob.name=nm→(∀j,j<k→(xs[j]!).ob.name≠nm)→r=(k:Int)) :
  Calls Tryz.prog 164 #[.pointer (some ⟨P,0,none⟩),.string nm] w fun e w'=>e=.returned (.int .i64 r)∧w'=w:=by
 obtain ⟨oa,oc,h1,hrd⟩:=h.hp
 have hle:=h.len
 have c3:w.cell? ⟨P,3,none⟩=some (.slice oa xs.length oc):=cq h1 rfl
 obtain ⟨m,hm⟩:∃m,m=xs.length:=⟨_,rfl⟩
 rw [←hm] at c3 hle hno hyes
 have HNO:=hid hno
 have HYES:=hid hyes
 have HRD:=hid hrd
 have HM:=hid hm
 clear hno hyes hrd hm h1 h
 go_enter Tryz.func164,Tryz.ntmps164
 go_wp2_with fail
 go_loopw [5] (fun u wr=>∃k:Nat,k≤m∧u=.int .i64 k∧(∀j,j<k→(xs[j]!).ob.name≠nm)∧wr=w) (fun u _=>m-(intOf u).toNat)
 case atStart=>exact ⟨0,Nat.zero_le _,rfl,fun j hj=>by omega,rfl⟩
 case round =>
  obtain ⟨k,hk,rfl,hbef,hwr⟩:=hrel
  obtain rfl:=hwr.symm
  have HBEF:=hid hbef
  clear hbef
  by_cases hkm:k<m
  ·have hkm':(k:Int)<(m:Int):=by omega
   have hkx:k<xs.length:=by rw [←HM.out];exact hkm
   obtain ⟨b,o,rfl,hblt,_⟩:=HRD.out.pos (by rw [qar];omega)
   obtain ⟨_,k0,_⟩:=qbf HRD.out k hkx (xs[k]!) (getElem!_pos xs k hkx)
   have HY:=hid (fun e=>HYES.out k hkm e HBEF.out)
   have HN:=hid (show (xs[k]!).ob.name≠nm→∀j,j<k+1→(xs[j]!).ob.name≠nm from fun h j hj=>by
    rcases Nat.lt_or_eq_of_le (Nat.lt_succ_iff.1 hj) with h' | rfl
    ·exact HBEF.out j h'
    ·exact h)
   generalize (xs[k]!).ob.name=nk at *
   clear hkx
   by_cases hnk:nk=nm
   ·subst hnk
    have HF':=hid (HY.out rfl)
    clear HY HN
    go_wp2_with fail
    go_ret
    rw [HF'.out]
    exact ⟨rfl,rfl⟩
   ·have HN':=hid (HN.out hnk)
    have hne:(nk.toList == nm.toList)=false:=by rw [bytes_beq];simpa using hnk
    clear HY HN hnk
    go_wp2_with fail
    go_roundw
    case rel=>exact ⟨k+1,hkm,by go_num,HN'.out,trivial⟩
    case measure=>simp [intOf];omega
  ·have hkk:k=m:=by omega
   subst hkk
   have HN:=hid (HNO.out HBEF.out)
   clear HNO HYES
   go_wp2_with fail
   go_ret
   rw [HN.out]
   exact ⟨rfl,rfl⟩
theorem Wd.allUp_any (h:Wd w P n key dn dv xs) (r:Bool) (hno:∀i,i<n→dn i=true→r=false) (hyes:(∀i,i<n→dn i=false)→r=true) :
  Calls Tryz.prog 169 #[.pointer (some ⟨P,0,none⟩)] w fun e w'=>e=.returned (.bool r)∧w'=w:=by
 obtain ⟨oa,oc,h1,hrd⟩:=h.hp
 have hn8:=h.n8
 obtain ⟨a,c,rfl,hdr⟩:=qaw h.down
 have c0:w.cell? ⟨P,0,none⟩=some (.int .i64 n):=cq h1 rfl
 have c2:w.cell? ⟨P,2,none⟩=some (.slice a n c):=cq h1 rfl
 have HNO:=hid hno
 have HYES:=hid hyes
 have HRD:=hid hdr
 clear hno hyes hrd h1 h hdr
 go_enter Tryz.func169,Tryz.ntmps169
 go_wp2_with fail
 go_loopw [3] (fun u wr=>∃k:Nat,k≤n∧u=.int .i64 k∧(∀j,j<k→dn j=false)∧wr=w) (fun u _=>n-(intOf u).toNat)
 case atStart=>exact ⟨0,Nat.zero_le _,rfl,fun j hj=>by omega,rfl⟩
 case round =>
  obtain ⟨k,hk,rfl,hbef,hwr⟩:=hrel
  obtain rfl:=hwr.symm
  have HBEF:=hid hbef
  clear hbef
  by_cases hkm:k<n
  ·have hkm':(k:Int)<(n:Int):=by omega
   obtain ⟨b,o,rfl,hblt,hcell⟩:=HRD.out.pos (by rw [qaU];omega)
   have k0:=hcell k _ (qcA dn n k hkm)
   have HY:=hid (fun e=>HNO.out k hkm e)
   have HN:=hid (show dn k=false→∀j,j<k+1→dn j=false from fun h j hj=>by
    rcases Nat.lt_or_eq_of_le (Nat.lt_succ_iff.1 hj) with h' | rfl
    ·exact HBEF.out j h'
    ·exact h)
   generalize dn k=dk at *
   clear hcell
   cases dk with
   | true =>
    have HF':=hid (HY.out rfl)
    clear HY HN
    go_wp2_with fail
    go_ret
    rw [HF'.out]
    exact ⟨rfl,rfl⟩
   | false =>
    have HN':=hid (HN.out rfl)
    clear HY HN
    go_wp2_with fail
    go_roundw
    case rel=>exact ⟨k+1,hkm,by go_num,HN'.out,trivial⟩
    case measure=>simp [intOf];omega
  ·have hkk:k=n:=by omega
   subst hkk
   have HN:=hid (HYES.out HBEF.out)
   clear HNO HYES
   go_wp2_with fail
   go_ret
   rw [HN.out]
   exact ⟨rfl,rfl⟩
end
def qcs (mode t l n s epoch size:Nat) (name:ByteArray):List UInt8:=[UInt8.ofNat mode,UInt8.ofNat t,UInt8.ofNat l,UInt8.ofNat n,UInt8.ofNat s,0,UInt8.ofNat epoch,0,UInt8.ofNat size,UInt8.ofNat name.size]
theorem qfU {mode t l n s epoch size:Nat} {name:ByteArray} (he:epoch<256) (hz:size<256):Cof.head mode t l n s epoch size name.data.toList=qcs mode t l n s epoch size name++name.data.toList:=by
 have h1:Cof.high epoch 2=[0,UInt8.ofNat epoch]:=by
  simp [Cof.high,List.range_succ,Nat.div_eq_of_lt he]
 have h2:Cof.high size 2=[0,UInt8.ofNat size]:=by
  simp [Cof.high,List.range_succ,Nat.div_eq_of_lt hz]
 unfold Cof.head qcs
 rw [h1,h2]
 simp
def qeO (B P mode t l n s epoch size:Nat) (name:ByteArray):Nat→Value→World→Prop
 | 0,v,_=>v=.pointer (some ⟨B,1,none⟩)
 | 1,v,_=>v=.pointer (some ⟨B,1,none⟩)
 | 2,v,_=>v=.int .i64 mode
 | 3,v,_=>v=.int .u8 mode
 | 4,v,_=>v=.pointer (some ⟨B,1,none⟩)
 | 5,v,_=>v=.pointer (some ⟨B,2,none⟩)
 | 6,v,_=>v=.int .i64 t
 | 7,v,_=>v=.int .u8 t
 | 8,v,_=>v=.pointer (some ⟨B,1,none⟩)
 | 9,v,_=>v=.pointer (some ⟨B,3,none⟩)
 | 10,v,_=>v=.int .i64 l
 | 11,v,_=>v=.int .u8 l
 | 12,v,_=>v=.pointer (some ⟨P,0,none⟩)
 | 13,v,_=>v=.pointer (some ⟨P,0,none⟩)
 | 14,v,_=>v=.pointer (some ⟨P,0,none⟩)
 | 15,v,_=>v=.int .i64 n
 | 16,v,_=>v=.int .u8 n
 | 17,v,_=>v=.int .i64 s
 | 18,v,_=>v=.int .u8 s
 | 19,v,_=>v=.pointer (some ⟨B,5,none⟩)
 | 20,v,_=>v=.int .i64 epoch
 | 21,v,_=>v=.int .i64 0
 | 22,v,_=>v=.int .u8 0
 | 23,v,_=>v=.pointer (some ⟨B,5,none⟩)
 | 24,v,_=>v=.int .i64 epoch
 | 25,v,_=>v=.int .i64 epoch
 | 26,v,_=>v=.int .u8 epoch
 | 27,v,_=>v=.pointer (some ⟨B,4,none⟩)
 | 28,v,_=>v=.int .i64 size
 | 29,v,_=>v=.int .i64 0
 | 30,v,_=>v=.int .u8 0
 | 31,v,_=>v=.pointer (some ⟨B,4,none⟩)
 | 32,v,_=>v=.int .i64 size
 | 33,v,_=>v=.int .i64 size
 | 34,v,_=>v=.int .u8 size
 | 35,v,_=>v=.pointer (some ⟨B,0,none⟩)
 | 36,v,_=>v=.string name
 | 37,v,_=>v=.int .i64 name.size
 | 38,v,_=>v=.int .u8 name.size
 | 39,v,w=>RowV (qcs mode t l n s epoch size name) v w
 | 40,v,w=>RowV (qcs mode t l n s epoch size name) v w
 | _,_,_=>False
theorem qfV (B P mode t l n s epoch size:Nat) (name:ByteArray) (j:Nat) (v:Value) (w w':World) (h:qeO B P mode t l n s epoch size name j v w) (hb:Below w.heap.size w w'):qeO B P mode t l n s epoch size name j v w':=by
 unfold qeO at h ⊢
 split at h<;>first | exact h | exact RowV.keeps h hb | exact False.elim h
theorem qgD (P n key:Nat) (dv ov:Value) (name:ByteArray) (mode t l size epoch s:Nat) (w:World) (hp:w.heap[P]?=some (.cells (qci n key dv ov) 130)) (hm:mode≤1) (ht:t≤8) (hl:l≤8) (hn:n≤8) (hs:s<n) (he:epoch≤100) (hz:size≤60) (h12:name.size≤12) :
  Calls Tryz.prog 205 #[.pointer (some ⟨P,0,none⟩),.agg #[.string name,.int .i64 mode,.int .i64 t,.int .i64 l,.int .i64 size,.int .i64 epoch],.int .i64 s] w fun e w'=>e=.returned (.string ⟨(Cof.head mode t l n s epoch size name.data.toList).toArray⟩)∧Below w.heap.size w w':=by
 have c0:w.cell? ⟨P,0,none⟩=some (.int .i64 n):=cq hp rfl
 have hP:=cells_lt hp
 clear hp
 obtain ⟨B,hB⟩:∃B,B=w.heap.size:=⟨_,rfl⟩
 go_enter Tryz.func205,Tryz.ntmps205
 go_wp2_with fail
 obtain ⟨w1,hw1⟩:∃w1,w1=w.alloc (.cells #[.string name,.int .i64 mode,.int .i64 t,.int .i64 l,.int .i64 size,.int .i64 epoch] 55):=⟨_,rfl⟩
 have hb01:Below w.heap.size w w1:=by rw [hw1];exact (Below.refl w.heap.size w).alloc nl _
 have hz1:w1.heap.size=B+1:=by rw [hw1,hB];simp
 have k0:w1.cell? ⟨B,0,none⟩=some (.string name):=by rw [hw1,hB];simp
 have k1:w1.cell? ⟨B,1,none⟩=some (.int .i64 mode):=by rw [hw1,hB];simp
 have k2:w1.cell? ⟨B,2,none⟩=some (.int .i64 t):=by rw [hw1,hB];simp
 have k3:w1.cell? ⟨B,3,none⟩=some (.int .i64 l):=by rw [hw1,hB];simp
 have k4:w1.cell? ⟨B,4,none⟩=some (.int .i64 size):=by rw [hw1,hB];simp
 have k5:w1.cell? ⟨B,5,none⟩=some (.int .i64 epoch):=by rw [hw1,hB];simp
 have d0:w1.cell? ⟨P,0,none⟩=some (.int .i64 n):=(hb01.cell hP).trans c0
 have hP1:P<w1.heap.size:=by omega
 rw [←hw1,←hB]
 have HB:=hid hB
 clear hw1 c0 hB
 have HF:∀a:Act,(∀p∈[((0:Nat),Value.pointer (some ⟨P,0,none⟩)),(2,.int .i64 s),(4,.pointer (some ⟨B,0,none⟩))],a.tmps.getD p.1 undef=p.2)→a.tmps[0]?.getD undef=.pointer (some ⟨P,0,none⟩)∧a.tmps[2]?.getD undef=.int .i64 s∧a.tmps[4]?.getD undef=.pointer (some ⟨B,0,none⟩):=by
  intro a h
  simpa using h
 have HCELL:∀w':World,Below w1.heap.size { w1 with drawn:=w1.drawn+1 } w'→w'.cell? ⟨B,0,none⟩=some (.string name)∧w'.cell? ⟨B,1,none⟩=some (.int .i64 mode)∧w'.cell? ⟨B,2,none⟩=some (.int .i64 t)∧w'.cell? ⟨B,3,none⟩=some (.int .i64 l)∧w'.cell? ⟨B,4,none⟩=some (.int .i64 size)∧w'.cell? ⟨B,5,none⟩=some (.int .i64 epoch)∧w'.cell? ⟨P,0,none⟩=some (.int .i64 n):=by
  intro w' hb
  exact ⟨(hb.cell (by show B<w1.heap.size;omega)).trans k0,(hb.cell (by show B<w1.heap.size;omega)).trans k1,(hb.cell (by show B<w1.heap.size;omega)).trans k2,(hb.cell (by show B<w1.heap.size;omega)).trans k3,(hb.cell (by show B<w1.heap.size;omega)).trans k4,(hb.cell (by show B<w1.heap.size;omega)).trans k5,(hb.cell hP1).trans d0⟩
 have e0:IntKind.u8.wrap (mode:Int)=mode:=qdn (by omega)
 have e1:IntKind.u8.wrap (t:Int)=t:=qdn (by omega)
 have e2:IntKind.u8.wrap (l:Int)=l:=qdn (by omega)
 have e3:IntKind.u8.wrap (n:Int)=n:=qdn (by omega)
 have e4:IntKind.u8.wrap (s:Int)=s:=qdn (by omega)
 have e5:IntKind.u8.wrap (name.size:Int)=name.size:=qdn (by omega)
 have e6:IntKind.u8.wrap (epoch:Int)=epoch:=qdn (by omega)
 have e7:IntKind.u8.wrap (size:Int)=size:=qdn (by omega)
 have q1:(epoch:Int).tdiv 256=0:=Int.tdiv_eq_zero_of_lt (by omega) (by omega)
 have q2:(epoch:Int).tmod 256=epoch:=Int.tmod_eq_of_lt (by omega) (by omega)
 have q3:(size:Int).tdiv 256=0:=Int.tdiv_eq_zero_of_lt (by omega) (by omega)
 have q4:(size:Int).tmod 256=size:=Int.tmod_eq_of_lt (by omega) (by omega)
 have q5:IntKind.i64.wrap 0=0:=rfl
 have q6:IntKind.i64.wrap (epoch:Int)=epoch:=by rw [IntKind.wrap_i64];omega
 have q7:IntKind.i64.wrap (size:Int)=size:=by rw [IntKind.wrap_i64];omega
 have q8:IntKind.u8.wrap 0=0:=rfl
 have HX:bs (qcs mode t l n s epoch size name)=[.int .u8 mode,.int .u8 t,.int .u8 l,.int .u8 n,.int .u8 s,.int .u8 0,.int .u8 epoch,.int .u8 0,.int .u8 size,.int .u8 name.size]:=by
  simp [qcs,bs]
  omega
 clear k0 k1 k2 k3 k4 k5 d0
 refine qau (by kernel_rfl) (fun i=>if i=40 then 7 else i+8) (qeO B P mode t l n s epoch size name) [(0,.pointer (some ⟨P,0,none⟩)),(2,.int .i64 s),(4,.pointer (some ⟨B,0,none⟩))] 53 [0,2,4] (by kernel_rfl) rfl rfl rfl ?_ (qfV B P mode t l n s epoch size name) ?_ ?_
 ·simp
 ·refine ⟨?_,?_,?_,?_,?_,?_,?_,?_,?_,?_,?_,?_,?_,?_,?_,?_,?_,?_,?_,?_,?_,?_,?_,?_,?_,?_,?_,?_,?_,?_,?_,?_,?_,?_,?_,?_,?_,?_,?_,?_,?_,trivial⟩
  all_goals
   intro a w' hb hf hd
   obtain ⟨f0,f2,f4⟩:=HF a hf
   obtain ⟨k0,k1,k2,k3,k4,k5,d0⟩:=HCELL w' hb
   simp [qeO] at hd
   try (refine .inl ⟨_,w',?_,bl,rfl⟩;go_simp;done)
  ·refine .inl ⟨.slice (some ⟨w'.heap.size,0,none⟩) 10 10,w'.alloc (.cells #[.int .u8 mode,.int .u8 t,.int .u8 l,.int .u8 n,.int .u8 s,.int .u8 0,.int .u8 epoch,.int .u8 0,.int .u8 size,.int .u8 name.size] 5),?_,?_,?_⟩
   ·go_simp
   ·exact (Below.refl _ _).alloc nl _
   ·exact ⟨_,_,rfl,by rw [HX];exact qft _ _ [.int .u8 mode,.int .u8 t,.int .u8 l,.int .u8 n,.int .u8 s,.int .u8 0,.int .u8 epoch,.int .u8 0,.int .u8 size,.int .u8 name.size] (by simp),nofun⟩
  ·exact .inl ⟨a.tmps[47]?.getD undef,w',by go_simp,bl,hd.1⟩
 ·intro a w' hdf hsz hb hf hr
  obtain ⟨f0,f2,f4⟩:=HF a hf
  obtain ⟨k0,k1,k2,k3,k4,k5,d0⟩:=HCELL w' hb
  have h40:=hr 40 (by decide)
  simp [qeO] at h40
  obtain ⟨aa,cc,e40,r40,_⟩:=h40
  have hcv:=qa6 w' aa cc 10 (qcs mode t l n s epoch size name) rfl r40
  have e40':a.tmps[7]?.getD undef=.slice aa 10 cc:=e40
  have e41:a.tmps[7]'(by rw [hsz];decide)=.slice aa 10 cc:=by simpa [hsz] using e40'
  have e42:a.tmps[4]'(by rw [hsz];decide)=.pointer (some ⟨B,0,none⟩):=by simpa [hsz] using f4
  have hlen:¬(9223372036854775807:Nat)<10+name.size:=by omega
  go_wp2_with fail
  have hst:({ data:=(qcs mode t l n s epoch size name).toArray }++name:ByteArray)=⟨(Cof.head mode t l n s epoch size name.data.toList).toArray⟩:=by
   apply ByteArray.ext
   rw [ByteArray.data_append]
   apply Array.ext'
   rw [qfU (by omega) (by omega)]
   simp
  rw [hst]
  refine bodyPost_ret (v:=.string ⟨(Cof.head mode t l n s epoch size name.data.toList).toArray⟩) ?_ rfl ⟨rfl,hb01.trans ((Below.drew bl).trans (hb.mono (show w.heap.size≤w1.heap.size by have:=HB.out;omega)))⟩
  simp [results,Tryz.results205,go_sem,hsz]
theorem qke (a b:List UInt8):((⟨a.toArray⟩:ByteArray)++⟨b.toArray⟩)=⟨(a++b).toArray⟩:=by
 apply ByteArray.ext
 rw [ByteArray.data_append]
 simp
structure ObOk (n:Nat) (o:Ob):Prop where
 plan:qaj o.mode o.t o.l n
 z:o.size≤60
 e:o.epoch≤100
 n1:1≤o.name.size
 n12:o.name.size≤12
theorem ObOk.mode1 {n:Nat} {o:Ob} (h:ObOk n o):o.mode≤1:=by rcases h.plan.md with ⟨h,_⟩|⟨h,_⟩<;>omega
theorem ObOk.t8 {n:Nat} {o:Ob} (h:ObOk n o):o.t≤8:=Nat.le_trans h.plan.tn h.plan.n8
theorem ObOk.l8 {n:Nat} {o:Ob} (h:ObOk n o):o.l≤8:=by have h1:=h.plan.n8;have h2:=h.plan.t1;rcases h.plan.md with ⟨_,h⟩|⟨_,h⟩<;>omega
theorem qfb (P n key:Nat) (dv ov:Value) (o:Ob) (s:Nat) (p:List UInt8) (w:World) (hp:w.heap[P]?=some (.cells (qci n key dv ov) 130)) (ho:ObOk n o) (hs:s<n) (hpl:p.length≤60) (hk:key<18446744073709551616) :
  Calls Tryz.prog 203 #[.pointer (some ⟨P,0,none⟩),.agg #[.string o.name,.int .i64 o.mode,.int .i64 o.t,.int .i64 o.l,.int .i64 o.size,.int .i64 o.epoch],.int .i64 s,.string ⟨p.toArray⟩] w fun e w'=>e=.returned (.string ⟨(qaR key o n s p).toArray⟩)∧Below w.heap.size w w':=by
 have hP:=cells_lt hp
 have hba:=(Below.refl w.heap.size w).alloc nl (.cells #[.string o.name,.int .i64 o.mode,.int .i64 o.t,.int .i64 o.l,.int .i64 o.size,.int .i64 o.epoch] 55)
 have HHD:=hid (fun w' (hb:Below w.heap.size w w')=>qgD P n key dv ov o.name o.mode o.t o.l o.size o.epoch s w' ((hb.block P hP).trans hp) ho.mode1 ho.t8 ho.l8 ho.plan.n8 hs ho.e ho.z ho.n12)
 have HTG:=hid (fun w' (hb:Below w.heap.size w w') x hx=>qhN P n key dv ov x w' ((hb.block P hP).trans hp) hx hk)
 have hhl:(Cof.head o.mode o.t o.l n s o.epoch o.size o.name.data.toList).length≤22:=by rw [Cof.length_head];have:=ho.n12;simp;omega
 obtain ⟨hd,hhd⟩:∃hd,hd=Cof.head o.mode o.t o.l n s o.epoch o.size o.name.data.toList:=⟨_,rfl⟩
 have HSH:=hid (show qaR key o n s p=hd++p++Cof.high (Cof.tag key (hd++p)) 8 from by rw [hhd];rfl)
 rw [←hhd] at HHD hhl
 clear hhd hp ho
 go_enter Tryz.func203,Tryz.ntmps203
 go_wp2_with fail
 refine (HHD.out _ hba).mono ?_
 rintro e w2 ⟨rfl,hb2⟩
 have hb02:=hba.trans (hb2.mono hba.size)
 have hap:=qke hd p
 have hsz:¬9223372036854775807<(⟨hd.toArray⟩:ByteArray).size+(⟨p.toArray⟩:ByteArray).size:=by
  show ¬9223372036854775807<hd.toArray.size+p.toArray.size
  simp
  omega
 go_wp2_with fail
 refine (HTG.out _ hb02 ⟨(hd++p).toArray⟩ (by show (hd++p).toArray.size≤1000;simp;omega)).mono ?_
 rintro e w3 ⟨rfl,hb3⟩
 have hb03:=hb02.trans (hb3.mono hb02.size)
 have hap2:=qke (hd++p) (Cof.high (Cof.tag key (hd++p)) 8)
 have hsz2:¬9223372036854775807<(⟨(hd++p).toArray⟩:ByteArray).size+(⟨(Cof.high (Cof.tag key (hd++p)) 8).toArray⟩:ByteArray).size:=by
  show ¬9223372036854775807<(hd++p).toArray.size+(Cof.high (Cof.tag key (hd++p)) 8).toArray.size
  simp [Cof.length_high]
  omega
 rw [←HSH.out] at hap2
 rw [show (⟨(hd++p).toArray⟩:ByteArray).data.toList=hd++p by simp]
 go_wp2_with fail
 go_ret
 exact ⟨rfl,hb03⟩
theorem qfj (P n key:Nat) (dv ov:Value) (x:RObj) (s:Nat) (w:World) (hp:w.heap[P]?=some (.cells (qci n key dv ov) 130)) (ho:ObOk n x.ob) (hs:s<n) (hk:key<18446744073709551616) (hsl:x.sh.length=n) (hrd:Rd w x.sa (x.sh.map .string)) (hsz:(x.sh[s]!).size≤200) :
  Calls Tryz.prog 166 #[.pointer (some ⟨P,0,none⟩),.agg #[.string x.ob.name,.int .i64 x.ob.mode,.int .i64 x.ob.t,.int .i64 x.ob.l,.int .i64 x.ob.size,.int .i64 x.ob.epoch,.slice x.sa n x.sc],.int .i64 s] w fun e w'=>∃(q:ByteArray) (ok:Bool),e=.returned (.tuple #[.string q,.bool ok]) ∧
   (ok=true→Cof.Good key (Cof.head x.ob.mode x.ob.t x.ob.l n s x.ob.epoch x.ob.size x.ob.name.data.toList) (Cof.ngroups x.ob.mode x.ob.t x.ob.l x.ob.size) (x.sh[s]!).data.toList q.data.toList) ∧
   (ok=false→∀Q,¬Cof.Good key (Cof.head x.ob.mode x.ob.t x.ob.l n s x.ob.epoch x.ob.size x.ob.name.data.toList) (Cof.ngroups x.ob.mode x.ob.t x.ob.l x.ob.size) (x.sh[s]!).data.toList Q)∧Below w.heap.size w w':=by
 have hP:=cells_lt hp
 have hba:=(Below.refl w.heap.size w).alloc nl (.cells #[.string x.ob.name,.int .i64 x.ob.mode,.int .i64 x.ob.t,.int .i64 x.ob.l,.int .i64 x.ob.size,.int .i64 x.ob.epoch,.slice x.sa n x.sc] 198)
 have HHD:=hid (fun w' (hb:Below w.heap.size w w')=>qgD P n key dv ov x.ob.name x.ob.mode x.ob.t x.ob.l x.ob.size x.ob.epoch s w' ((hb.block P hP).trans hp) ho.mode1 ho.t8 ho.l8 ho.plan.n8 hs ho.e ho.z ho.n12)
 have HTG:=hid (fun w' (hb:Below w.heap.size w w') x hx=>qhN P n key dv ov x w' ((hb.block P hP).trans hp) hx hk)
 have HGR:=hid (fun w'=>qcj x.ob.mode x.ob.t x.ob.l n x.ob.size w' ho.plan ho.z)
 have hng:=qao ho.plan x.ob.size ho.z
 have hhl:(Cof.head x.ob.mode x.ob.t x.ob.l n s x.ob.epoch x.ob.size x.ob.name.data.toList).length≤22:=by rw [Cof.length_head];have:=ho.n12;simp;omega
 obtain ⟨hd,hhd⟩:∃hd,hd=Cof.head x.ob.mode x.ob.t x.ob.l n s x.ob.epoch x.ob.size x.ob.name.data.toList:=⟨_,rfl⟩
 rw [←hhd] at HHD hhl ⊢
 clear hhd
 obtain ⟨b,o,hsa,hblt,hcell⟩:=hrd.pos (by rw [List.length_map];omega)
 have hc:w.cell? ⟨b,o+s,none⟩=some (.string (x.sh[s]!)):=hcell s _ (by rw [List.getElem?_map,List.getElem?_eq_getElem (by omega),getElem!_pos x.sh s (by omega)];rfl)
 rw [hsa]
 generalize Cof.ngroups x.ob.mode x.ob.t x.ob.l x.ob.size=G at *
 generalize x.sh[s]! = S at *
 generalize x.ob.name=onm at *
 generalize x.ob.mode=omd at *
 generalize x.ob.t=ot at *
 generalize x.ob.l=ol at *
 generalize x.ob.size=oz at *
 generalize x.ob.epoch=oe at *
 generalize x.sc=oc at *
 rw [hsa] at hba
 clear hrd hcell hsl hsa ho hp
 have hn8:(s:Int)<(n:Int):=by omega
 go_enter Tryz.func166,Tryz.ntmps166
 go_wp2_with fail
 refine (HHD.out _ hba).mono ?_
 rintro e w2 ⟨rfl,hb2⟩
 have hb02:=hba.trans (hb2.mono hba.size)
 have hB2:w.heap.size<w2.heap.size:=by have:=hb2.size;simp at this;omega
 have hT:w2.heap[w.heap.size]?=some (.cells #[.string onm,.int .i64 omd,.int .i64 ot,.int .i64 ol,.int .i64 oz,.int .i64 oe,.slice (some ⟨b,o,none⟩) n oc] 198):=(hb2.block _ (by simp)).trans (alloc_at _ _)
 have k1:w2.cell? ⟨w.heap.size,1,none⟩=some (.int .i64 omd):=cq hT rfl
 have k2:w2.cell? ⟨w.heap.size,2,none⟩=some (.int .i64 ot):=cq hT rfl
 have k3:w2.cell? ⟨w.heap.size,3,none⟩=some (.int .i64 ol):=cq hT rfl
 have k4:w2.cell? ⟨w.heap.size,4,none⟩=some (.int .i64 oz):=cq hT rfl
 clear hT HHD hc
 go_wp2_with fail
 refine (HGR.out _).mono ?_
 rintro e w3 ⟨rfl,hb3⟩
 have hb03:=hb02.trans (hb3.mono hb02.size)
 clear k1 k2 k3 k4 HGR
 obtain ⟨h,hh⟩:∃h,h=hd.length:=⟨_,rfl⟩
 have hhs:(⟨hd.toArray⟩:ByteArray).size=h:=by show hd.toArray.size=h;simp [hh]
 rw [←hh] at hhl
 have HH:=hid hh
 clear hh
 by_cases hlen:S.size=h+G+8
 ·have hli:(S.size:Int)=(h:Int)+(G:Int)+8:=by omega
  have hSl:S.data.toList.length=h+G+8:=by rw [qgi];exact hlen
  have hle:(h:Int)≤(h:Int)+(G:Int)+8:=by omega
  by_cases hpre:S.extract 0 h=⟨hd.toArray⟩
  ·have hne:((S.extract 0 h).toList == hd)=true:=by
    have:=bytes_beq (S.extract 0 h) ⟨hd.toArray⟩
    rw [decide_eq_true hpre] at this
    simpa using this
   have HPRE:=hid (show S.data.toList.take h=hd by
    have:=ext_list S 0 h
    rw [hpre] at this
    simpa using this.symm)
   have HTW:=hid (HTG.out w3 hb03 (S.extract 0 (h+G)) (by simp;omega))
   have HLN:=hid hSl
   clear hpre HTG hSl hlen
   go_wp2_with fail
   refine HTW.out.mono ?_
   rintro e w4 ⟨rfl,hb4⟩
   have hb04:=hb03.trans (hb4.mono hb03.size)
   clear HTW
   have hle2:(h:Int)≤(h:Int)+(G:Int):=by omega
   have HTT:=hid (show (S.extract 0 (h+G)).data.toList=S.data.toList.take (h+G) by rw [ext_list];simp)
   obtain ⟨bq,hbq⟩:∃bq,bq=(Cof.high (Cof.tag key (S.data.toList.take (h+G))) 8 == (S.extract (h+G) S.size).toList):=⟨_,rfl⟩
   have HBQ:=hid hbq
   have hbq':=hbq.symm
   clear hbq
   go_wp2_with fail
   go_region
   go_wp2_with fail
   go_ret2
   have hl:=HLN.out
   have hdr:(S.extract (h+G) S.size).data.toList=S.data.toList.drop (h+G):=by
    rw [ext_list,List.take_of_length_le]
    rw [List.length_drop,qgi]
    omega
   have hdec:bq=decide ((⟨(Cof.high (Cof.tag key (S.data.toList.take (h+G))) 8).toArray⟩:ByteArray)=S.extract (h+G) S.size):=by
    rw [HBQ.out,←bytes_beq]
    simp
   refine ⟨_,_,rfl,fun hok=>?_,fun hok Q hg=>?_,hb04.drew⟩
   ·rw [hdec] at hok
    have h2:=of_decide_eq_true hok
    have h3:S.data.toList.drop (h+G)=Cof.high (Cof.tag key (S.data.toList.take (h+G))) 8:=by
     rw [←hdr,←h2]
    have:=qjo (len:=G) (H:=h) (m:=h+G+8) (key:=key) hl.symm rfl HPRE.out h3
    rw [ext_list]
    simpa using this
   ·rw [hdec] at hok
    have h2:=of_decide_eq_false hok
    apply h2
    apply ByteArray.ext
    apply Array.ext'
    rw [hdr]
    exact (qbH HH.out.symm hg).2.1.symm
  ·have hne:((S.extract 0 h).toList == hd)=false:=by
    have:=bytes_beq (S.extract 0 h) ⟨hd.toArray⟩
    rw [decide_eq_false hpre] at this
    simpa using this
   have HBAD:=hid (show ∀Q,¬Cof.Good key hd G S.data.toList Q from fun Q hg=>hpre (by
    apply ByteArray.ext
    apply Array.ext'
    rw [ext_list]
    simp only [Nat.sub_zero,List.drop_zero]
    exact (qbH HH.out.symm hg).1))
   clear hpre
   go_wp2_with fail
   go_ret2
   exact ⟨_,_,rfl,nofun,fun _=>HBAD.out,hb03⟩
 ·have hli:¬(S.size:Int)=(h:Int)+(G:Int)+8:=by omega
  have hlj:(!decide ((S.size:Int)=(h:Int)+(G:Int)+8))=true:=by rw [decide_eq_false hli];rfl
  have hlk:((S.size:Int) == (h:Int)+(G:Int)+8)=false:=beq_eq_false_iff_ne.2 hli
  have HBAD:=hid (show ∀Q,¬Cof.Good key hd G S.data.toList Q from fun Q hg=>hlen (by
   have:=congrArg List.length hg.2
   rw [qgi] at this
   rw [this]
   simp [Cof.sealed,Cof.length_high,hg.1,HH.out]
   omega))
  clear hlen
  go_wp2_with fail
  go_ret2
  exact ⟨_,_,rfl,nofun,fun _=>HBAD.out,hb03⟩
end Go.Proofs.YtcegdgmbponapaaGreatDoor