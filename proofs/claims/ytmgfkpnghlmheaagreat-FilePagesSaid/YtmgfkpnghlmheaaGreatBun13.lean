/- Merged. -/
import Derived.Test.YtmgfkpnghlmheaaGreatBun10
import Derived.Test.YtmgfkpnghlmheaaGreatBun11
import Derived.Test.YtmgfkpnghlmheaaGreatBun9
set_option maxHeartbeats 4000000
namespace Go.Hm
open Go Go.RowKit
def u64N(n:Int):Nat:=(n%18446744073709551616).toNat
def plE(t:Int)(c:zab):List Nat:=
 if t=0 then low (u64N c.2.1) 8 else if t=2 then vp c.2.2.1.length++c.2.2.1 else if t=3 then vp (zig c.2.2.2.1)++vp (zig c.2.2.2.2) else []
def zd5(l:List zab):List Nat:=l.map fun c=>u64N c.2.1
def zh5(t:Int)(l:List zab):Bool:=decide (0<=t/\t<=3/\l.length<=65536)&&l.all fun c=>zaf c t false
def plB(t:Int)(l:List zab):List Nat:=if t=1 then low (pk 1 (zd5 l)) ((1*l.length+7)/8) else l.flatMap (plE t)
def plO(t:Int)(l:List zab):Option (List Nat):=if zh5 t l then some (plB t l) else none
theorem zw5(n:Int):u64N n<18446744073709551616:=by unfold u64N;omega
theorem plOk_iff{t:Int}{l:List zab}:zh5 t l=true↔(0<=t/\t<=3/\l.length<=65536)/\ ∀c∈l,zaf c t false=true:=by unfold zh5;rw[Bool.and_eq_true,decide_eq_true_iff,List.all_eq_true]
theorem zgh{c:zab}{t:Int}(h:zaf c t false=true):c.1=false:=by
 unfold zaf at h;cases e:c.1 with
 |false=>rfl
 |true=>rw[e] at h;simp at h
theorem qdt{c:zab}(h:zaf c 1 false=true):c.2.1=0\/c.2.1=1:=by have h0:=zgh h;unfold zaf at h;rw[h0] at h;simp at h;exact h.2
theorem z43{c:zab}(h:zaf c 2 false=true):c.2.2.1.length<=65536:=by have h0:=zgh h;unfold zaf at h;rw[h0] at h;simp at h;exact h.2
theorem zl1{c:zab}(h:zaf c 3 false=true):(-1048576<=c.2.2.2.1/\c.2.2.2.1<=1048576)/\ -1048576<=c.2.2.2.2/\c.2.2.2.2<=1048576:=by have h0:=zgh h;unfold zaf inBox at h;rw[h0] at h;simp at h;omega
theorem zn1{l:List zab}(h:∀c∈l,zaf c 1 false=true):wid (zd5 l)<=1:=by
 have hb:∀x∈zd5 l,x<2:=by intro x hx;obtain⟨c,hc,rfl⟩:=List.mem_map.1 hx;rcases qdt (h c hc) with e|e<;> rw[e]<;> decide
 exact(zgr _ 1 (by omega) fun x hx=>by have:=hb x hx;omega).2 fun x hx=>by simpa using hb x hx
theorem zw6{t:Int}{c:zab}(h:zaf c t false=true):(plE t c).length<=20+c.2.2.1.length:=by
 unfold plE;split
 ·rw[zbk];omega
 ·split
  ·rename_i h2
   subst h2;have:=z43 h;have:=zap (n:=c.2.2.1.length) (by omega);rw[List.length_append];omega
  ·split
   ·rename_i h2
    subst h2;have:=zl1 h;have a:=zap (n:=zig c.2.2.2.1) (by unfold zig;split<;> omega);have b:=zap (n:=zig c.2.2.2.2) (by unfold zig;split<;> omega);rw[List.length_append];omega
   ·simp
end Go.Hm
namespace Go.Proofs.Y
open Go.RowKit Go.Hm
theorem qar{L:List zab}(hR:∀c∈L,zaf c 1 false=true)(hn:L.length<=65536):znr (zd5 L) 1=some (plB 1 L):=by refine(zfr (zd5 L) 1 (by omega) (by unfold zd5;rw[List.length_map];omega) (zn1 hR)).trans ?_;unfold plB;rw[if_pos rfl];unfold zd5;rw[List.length_map]
theorem zkd{w:World}{t n:Int}:Calls Tryz.prog 153 #[.int .i64 t,.int .i64 n] w (zdk (.bool (decide (0<=t/\t<=3/\0<=n/\n<=65536))) w):=by
 by_cases h1:0<=t;all_goals try by_cases h2:t<=3
 all_goals try by_cases h3:0<=n
 all_goals try by_cases h4:n<=65536
 all_goals
  go_enter Tryz.func153,Tryz.ntmps153
  go_wp2
  go_ret
  exact⟨by simp;try omega,rfl⟩
set_option maxRecDepth 100000 in
theorem zl2{w:World}{t:Int}{A:Option Addr}{n c:Nat}{L:List zab}(h:Reads w w.heap.size 5 A n (recs zan L))(hL:∀y∈L,y.2.2.1.length<=140737488351232)(hn:n<=4611686018427387903):
 Calls Tryz.prog 154 #[.int .i64 t,.slice A n c] w (zak (.bool (L.all fun c=>zaf c t false)) w):=by
 obtain rfl:=h.lenCell;have HR:=Hz h;have HL:=Hz hL;clear h hL;obtain⟨M,hM⟩:∃M,M=L.all fun c=>zaf c t false:=⟨_,rfl⟩
 rw[<-hM];have HM:=Hz hM;clear hM;go_enter Tryz.func154,Tryz.ntmps154
 go_wp2_with fail
 go_loopw [9] (fun i wr=>∃k:Nat,k<=L.length/\i= .int .i64 (k:Int)/\New w wr/\Hid (∀c∈L.take k,zaf c t false=true)) (fun i _=>L.length-(intOf i).toNat)
 case atStart=>exact⟨0,Nat.zero_le _,rfl,New.refl _,Hz (by simp)⟩
 case round=>
  obtain⟨k,hk,rfl,hW,hr⟩:=hrel;by_cases hlt:k<L.length
  ·obtain⟨ad,rfl,hb,d0,d1,d2,d3,d4⟩:=(Reads.later HR.out hW).cell5 hlt
   have htk:=zae L k (false,0,[],0,0) hlt;have hmem:L.getD k (false,0,[],0,0)∈L:=by rw[List.getD_eq_getElem?_getD,List.getElem?_eq_getElem hlt];exact List.getElem_mem hlt
   have hy:=HL.out _ hmem;have R1:=fun(W:World)=>zfs (w:=W) (b:=(L.getD k (false,0,[],0,0)).1) (n:=(L.getD k (false,0,[],0,0)).2.1) (s:=(L.getD k (false,0,[],0,0)).2.2.1) (x:=(L.getD k (false,0,[],0,0)).2.2.2.1) (y:=(L.getD k (false,0,[],0,0)).2.2.2.2) (cn:=[]) (t:=t) (nu:=false) hy
   have hno:zaf (L.getD k (false,0,[],0,0)) t false=false->M=false:=fun e=>by
    rw[HM.out];refine Bool.eq_false_iff.2 fun e2=>?_
    have:=(List.all_eq_true.1 e2) _ hmem;rw[e] at this;cases this
   have hyes:zaf (L.getD k (false,0,[],0,0)) t false=true-> ∀c∈L.take (k+1),zaf c t false=true:=fun e c hc=>by
    rw[htk] at hc;rcases List.mem_append.1 hc with hc|hc
    ·exact hr.out c hc
    ·rw[List.mem_singleton.1 hc];exact e
   clear htk hmem hy hr;generalize L.getD k (false,0,[],0,0)=y at*;obtain⟨y0,y1,y2,y3,y4⟩:=y;dsimp only at R1 d0 d1 d2 d3 d4;generalize zaf (y0,y1,y2,y3,y4) t false=m at*;have R1:Hid (∀W,Calls Tryz.prog 52 #[.agg #[.bool y0,.int .i64 y1,.string (zac y2),.int .i64 y3,.int .i64 y4],.agg #[.string ⟨#[]⟩,.int .i64 t,.bool false]] W (zak (.bool m) W)):=Hz R1;have hno:=Hz hno;have hyes:=Hz hyes;have ha:New wr (wr.alloc (.cells #[.bool y0,.int .i64 y1,.string (zac y2),.int .i64 y3,.int .i64 y4] 61)):=(Below.refl _ _).alloc (Nat.le_refl _) _;go_wp2_with fail
   refine(R1.out _).mono ?_;rintro e w1 ⟨rfl,b1⟩;have hl:=New.trans (New.trans hW ha) b1;cases m with
   |false=>
    have hm:=hno.out (by trivial);have HM2:=Hz hm;clear hno hyes hm;go_wp2_with fail
    go_ret
    exact⟨by rw[HM2.out];rfl,hl⟩
   |true=>
    have hy2:=hyes.out (by trivial);have HY2:=Hz hy2;clear hno hyes hy2;go_wp2_with fail
    go_roundw
    case rel=>exact⟨k+1,by omega,by go_num,hl,HY2⟩
    case measure=>simp[intOf];omega
  ·obtain rfl:k=L.length:=by omega
   have hr2:=hr.out;rw[List.take_length] at hr2;have HM2:Hid (M=true):=Hz (by rw[HM.out];exact List.all_eq_true.2 hr2);clear hr hr2;go_wp2_with fail
   go_ret
   exact⟨by rw[HM2.out];rfl,hW⟩
theorem qas(L:List zab)(k:Nat)(h:k<L.length):(zd5 (L.take k)++List.replicate (L.length-k) 0).set k (u64N (L.getD k (false,0,[],0,0)).2.1)=zd5 (L.take (k+1))++List.replicate (L.length-(k+1)) 0:=by
 have hl:(zd5 (L.take k)).length=k:=by unfold zd5;rw[List.length_map,List.length_take];omega
 rw[List.set_append_right _ _ (by omega),hl,Nat.sub_self,show L.length-k=(L.length-(k+1))+1 by omega,List.replicate_succ,List.set_cons_zero,zae L k (false,0,[],0,0) h];unfold zd5;rw[List.map_append,List.append_assoc];rfl
theorem zt8(n:Int):IntKind.u64.wrap n=(u64N n:Int):=by rw[IntKind.wrap_u64];unfold u64N;omega
set_option maxRecDepth 100000 in
theorem zse{w:World}{A:Option Addr}{n c:Nat}{L:List zab}(h:Reads w w.heap.size 5 A n (recs zan L))(hn:n<=65536):
 Calls Tryz.prog 155 #[.slice A n c] w (OptB (znr (zd5 L) 1) w):=by
 obtain rfl:=h.lenCell;have HR:=Hz h;clear h;go_enter Tryz.func155,Tryz.ntmps155
 go_wp2_with (first
  |(refine zcf elW rfl (.tmp 8) (.tmp 8) rfl (W:=w) (B:=w.heap.size) L.length L.length rfl rfl rfl rfl (by omega) (Below.refl _ _) (Nat.le_refl _) rfl (by omega) (by simp only[maxLen];omega) ?_
    intro w3 hown3 hg3 hb3 hs3))
 go_loopw [12] (fun i wr=>∃k:Nat,k<=L.length/\i= .int .i64 (k:Int)/\Own wr w.heap.size 87 (.slice (some ⟨w.heap.size,0,none⟩) L.length L.length) (za2 .u64 (zd5 (L.take k)++List.replicate (L.length-k) 0))/\Below w.heap.size w wr) (fun i _=>L.length-(intOf i).toNat)
 case atStart=>exact⟨0,Nat.zero_le _,rfl,by simpa[zbt,zd5] using hown3,hb3⟩
 case round=>
  obtain⟨k,hk,rfl,hown,hbl⟩:=hrel;clear hown3 hg3 hb3 hs3;by_cases hlt:k<L.length
  ·obtain⟨ad,rfl,hb,d0,d1,d2,d3,d4⟩:=(Reads.later HR.out hbl).cell5 hlt
   have hset:=qas L k hlt;have hwr:=zt8 (L.getD k (false,0,[],0,0)).2.1;have hsz:=hbl.size;generalize L.getD k (false,0,[],0,0)=y at*;obtain⟨y0,y1,y2,y3,y4⟩:=y;dsimp only at hset hwr d0 d1 d2 d3 d4;generalize u64N y1=z at*;have ha:New wr (wr.alloc (.cells #[.bool y0,.int .i64 y1,.string (zac y2),.int .i64 y3,.int .i64 y4] 61)):=(Below.refl _ _).alloc (Nat.le_refl _) _;obtain⟨hg0,hgl,hc,hf,hs⟩:=(hown.later ha).num0 (i:=k) hlt;have hs:=hs z;rw[hset] at hs;have HS:=Hz hs;have hbl2:=New.trans hbl ha;have HB:=Hz (hbl2.setCell (p:=⟨w.heap.size,k,none⟩) (Nat.le_refl _) (.int .u64 (z:Int)));clear hset hs hown;go_wp2_with fail
   go_roundw
   case rel=>exact⟨k+1,by omega,by go_num,HS.out,HB.out⟩
   case measure=>simp[intOf];omega
  ·obtain rfl:k=L.length:=by omega
   rw[Nat.sub_self,List.replicate_zero,List.append_nil,List.take_length] at hown;have P:=Hz (zmw (c:=L.length) 1 hown.reads (fun x hx=>by unfold zd5 at hx;obtain⟨y,_,rfl⟩:=List.mem_map.1 hx;have:=zw5 y.2.1;omega) (by omega) (by omega) (by omega));go_wp2_with fail
   refine P.out.mono ?_;intro e w5 h5;have hz:=hbl.size;generalize znr (zd5 L) 1=o at*;cases o with
   |none=>
    obtain⟨rfl,b5⟩:=h5;go_wp2_with fail
    go_ret2
    exact⟨rfl,hbl.trans (Below.mono b5 hz)⟩
   |some l=>
    obtain⟨A5,n5,c5,rfl,o5,b5⟩:=h5;go_wp2_with fail
    go_ret2
    exact⟨_,_,_,rfl,o5.base_le hz,hbl.trans (Below.mono b5 hz)⟩
theorem qg5:(vp 18446744073709551615).length=10:=by rw[zfz (by omega),zfz (by omega),zfz (by omega),zfz (by omega),zfz (by omega),zfz (by omega),zfz (by omega),zfz (by omega),zfz (by omega),ze4 (by omega)];rfl
def qat(w:World)(e:Ending)(w':World):Prop:=∃r:Nat,e= .returned (.int .i64 (r:Int))/\r<=10000000000/\New w w'
set_option maxRecDepth 100000 in
theorem qau{w:World}{A:Option Addr}{n c:Nat}{L:List zab}(h:Reads w w.heap.size 5 A n (recs zan L))(hn:n<=65536)(hL:∀y∈L,y.2.2.1.length<=65536):
 Calls Tryz.prog 156 #[.slice A n c] w (qat w):=by
 obtain rfl:=h.lenCell;have HR:=Hz h;have HL:=Hz hL;clear h hL;go_enter Tryz.func156,Tryz.ntmps156
 go_wp2_with fail
 go_loopw [3,8] (fun v i wr=>∃k r:Nat,k<=L.length/\i= .int .i64 (k:Int)/\v= .int .i64 (r:Int)/\r<=k*65546/\New w wr) (fun _ i _=>L.length-(intOf i).toNat)
 case atStart=>exact⟨0,0,Nat.zero_le _,rfl,rfl,by omega,New.refl _⟩
 case round=>
  obtain⟨k,r,hk,rfl,rfl,hr,hW⟩:=hrel;by_cases hlt:k<L.length
  ·obtain⟨ad,rfl,hb,d0,d1,d2,d3,d4⟩:=(Reads.later HR.out hW).cell5 hlt
   have hy:=HL.out (L.getD k (false,0,[],0,0)) (by rw[List.getD_eq_getElem?_getD,List.getElem?_eq_getElem hlt];exact List.getElem_mem hlt);generalize L.getD k (false,0,[],0,0)=y at*;obtain⟨y0,y1,y2,y3,y4⟩:=y;dsimp only at hy d0 d1 d2 d3 d4;have zs:=za4 y2;have HY:=Hz (Blk.new wr 61 #[.bool y0,.int .i64 y1,.string (zac y2),.int .i64 y3,.int .i64 y4]);have ha:New wr (wr.alloc (.cells #[.bool y0,.int .i64 y1,.string (zac y2),.int .i64 y3,.int .i64 y4] 61)):=(Below.refl _ _).alloc (Nat.le_refl _) _;have SZ:Hid (∀W,Calls Tryz.prog 118 #[.int .u64 18446744073709551615] W (zdk (.int .i64 10) W)):=Hz fun W=>(zy4 18446744073709551615 W (by omega)).mono (by rintro e w' ⟨rfl,rfl⟩;exact⟨by rw[qg5];rfl,rfl⟩)
   have w1:IntKind.i64.wrap (10+(y2.length:Int))=10+(y2.length:Int):=IntWalk.i64_in _ (by omega);have w2:IntKind.i64.wrap ((r:Int)+(10+(y2.length:Int)))=(r:Int)+(10+(y2.length:Int)):=IntWalk.i64_in _ (by omega);go_wp2_with fail
   refine zam New [(true,0),(true,2),(true,3),(true,4),(false,1),(true,5),(true,6),(true,7)] New.refl New.trans (by kernel_rfl) (by kernel_rfl) (by kernel_rfl) (by kernel_rfl) ?_;have hU:=New.drew (wr.alloc (.cells #[.bool y0,.int .i64 y1,.string (zac y2),.int .i64 y3,.int .i64 y4] 61));repeat(first
    |(refine za8 rfl rfl (fun K hK=>?_);go_simp
      (with_reducible refine(SZ.out _).mono ?_);rintro e w6 ⟨rfl,rfl⟩
      refine hK _ _ (New.refl _) ?_;clear hK)
    |(refine zh8 rfl rfl ?_;simp only[Act.put,List.setIfInBounds_toArray,List.set_cons_zero,List.set_cons_succ])
    |(refine zaq rfl rfl (v:=?_) (fun W hQ=>?_) ?_;rotate_left;(obtain⟨z0,z1,z2,z3,z4⟩:=zcb (HY.out.below (New.trans hU hQ) HY.out.lt);go_simp<;> with_reducible rfl);simp only[Act.put,List.setIfInBounds_toArray,List.set_cons_zero,List.set_cons_succ]))
   refine zb2 ?_;go_wp2_with fail
   go_roundw
   case rel=>exact⟨k+1,r+(10+y2.length),by omega,by go_num,by simp,by omega,New.trans (New.trans hW ha) hU⟩
   case measure=>simp[intOf];omega
  ·obtain rfl:k=L.length:=by omega
   go_wp2_with fail
   go_ret
   exact⟨r,rfl,by omega,hW⟩
end Go.Proofs.Y
namespace Go.Hm
open Go Go.RowKit
theorem zw7{c:zab}(h:zaf c 3 false=true):c.2.2.1=[]:=by have h0:=zgh h;unfold zaf at h;rw[h0] at h;simp at h;exact h.1.2
theorem zmy{c:zab}{t:Int}(h:zaf c t false=true):t=0\/t=1\/t=2\/t=3:=by
 have h0:=zgh h;unfold zaf at h;rw[h0] at h;by_cases h1:t=0
 ·exact .inl h1
 ·by_cases h2:t=1
  ·exact .inr (.inl h2)
  ·by_cases h3:t=2
   ·exact .inr (.inr (.inl h3))
   ·by_cases h4:t=3
    ·exact .inr (.inr (.inr h4))
    ·simp[h1,h2,h3,h4] at h
end Go.Hm
namespace Go.Proofs.Y
open Go.RowKit Go.Hm
def qix(W0:World)(B base:Nat)(l:List Nat)(e:Ending)(w':World):Prop:=∃A n c,e= .returned (.slice A n c)/\Own w' base 5 (.slice A n c) (za2 .u8 l)/\Below B W0 w'
set_option maxRecDepth 100000 in
theorem qe7{w W0:World}{B base:Nat}{A:Option Addr}{n cap:Nat}{l:List Nat}{t:Int}{c:zab}(o:Own w base 5 (.slice A n cap) (za2 .u8 l))(hb:Below B W0 w)(hbB:B<=base)(hbase:base<=w.heap.size)(hn:n<=100000000000)
 (hr:zaf c t false=true)(ht:t≠1)(h8:∀z∈c.2.2.1,z<256)(hi: -9223372036854775808<=c.2.1/\c.2.1<=9223372036854775807):
 Calls Tryz.prog 157 #[.slice A n cap,.int .i64 t,zca c] w (qix W0 B base (l++plE t c)):=by
 have h2:=fun(e:t=2)=>z43 (by rw[<-e];exact hr)
 have h3:=fun(e:t=3)=>zl1 (by rw[<-e];exact hr)
 have h4:=fun(e:t=3)=>zw7 (by rw[<-e];exact hr)
 have h1:=zmy hr;clear hr;obtain⟨y0,y1,y2,y3,y4⟩:=c;dsimp only at h2 h3 h4 h8 hi;unfold plE;dsimp only;show Calls Tryz.prog 157 #[.slice A n cap,.int .i64 t,.agg #[.bool y0,.int .i64 y1,.string (zac y2),.int .i64 y3,.int .i64 y4]] w _;have B0:=Blk.new w 61 #[.bool y0,.int .i64 y1,.string (zac y2),.int .i64 y3,.int .i64 y4];obtain⟨x0,x1,x2,x3,x4⟩:=zcb B0;have ha:New w (w.alloc (.cells #[.bool y0,.int .i64 y1,.string (zac y2),.int .i64 y3,.int .i64 y4] 61)):=(Below.refl _ _).alloc (Nat.le_refl _) _;have o1:=o.later ha;have b1:Below B W0 (w.alloc (.cells #[.bool y0,.int .i64 y1,.string (zac y2),.int .i64 y3,.int .i64 y4] 61)):=hb.trans (Below.mono ha (by omega));have zs:=za4 y2;have hz1:=ha.size;clear o hb;rcases h1 with rfl|rfl|rfl|rfl
 ·rw[if_pos rfl]
  have HL:=Hz (zbk (u64N y1) 8);have U:=Hz (fun(W:World)=>qep (w:=W) (A:=none) (n:=0) (c:=0) (l:=[]) (u64N y1) Reads.none_ (by omega));have hw:=zt8 y1;generalize u64N y1=z at*;go_enter Tryz.func157,Tryz.ntmps157
  go_wp2_with fail
  refine(U.out _).mono ?_;rintro e w2 ⟨A2,n2,c2,rfl,k2,b2⟩;rw[List.nil_append] at k2;have o2:=o1.later b2;have b02:Below B W0 w2:=b1.trans (Below.mono b2 (by omega));have q2:n2<=8:=by have:=k2.len;rw[zaa,HL.out] at this;omega
  have hz2:=b2.size;have r2:=k2.reads;clear k2 b2
  go_wp2_with (refine zau elB rfl (.tmp 19) (.tmp 23) rfl (W:=W0) (B:=B) o2 r2 rfl rfl b02 hbB (by omega) (by omega) (by simp only[maxLen];omega) ?_
               intro A3 c3 w3 _ _ o3 _ b3 _)
  go_ret
  exact⟨_,_,_,rfl,o3,b3⟩
 ·exact absurd rfl ht
 ·rw[if_neg (by decide),if_pos rfl]
  have hl2:=h2 rfl;have V:=Hz (zap (n:=y2.length) (by omega));have P:=Hz (fun(W:World)=>zcz none 0 0 [] y2.length W Reads.none_ (by omega) (by omega));have hw:IntKind.u64.wrap (y2.length:Int)=(y2.length:Int):=by rw[IntKind.wrap_u64];omega
  clear h2 h3 h4;go_enter Tryz.func157,Tryz.ntmps157
  go_wp2_with fail
  refine(P.out _).mono ?_;rintro e w2 ⟨A2,n2,c2,rfl,k2,b2⟩;rw[List.nil_append] at k2;have o2:=o1.later b2;have b02:Below B W0 w2:=b1.trans (Below.mono b2 (by omega));have q2:n2<=10:=by have:=k2.len;rw[zaa] at this;have:=V.out;omega
  have hz2:=b2.size;have r2:=k2.reads;have B2:=B0.below b2 B0.lt;clear k2 b2 x0 x1 x2 x3 x4;go_wp2_with (first
   |(refine zau elB rfl (.tmp 36) (.tmp 38) rfl (W:=W0) (B:=B) o2 r2 rfl rfl b02 hbB (by omega) (by omega) (by simp only[maxLen];omega) ?_
     intro A3 c3 w3 _ _ o3 g3 b3 _;obtain⟨x0,x1,x2,x3,x4⟩:=zcb (B2.push o2 g3 (by decide));have hz3:=g3.size)
   |(refine ze0 elB qdq rfl (.tmp 40) (.tmp 42) rfl (W:=W0) (B:=B) o3 h8 rfl rfl b3 hbB (by omega) (by omega) ?_
     intro A4 c4 w4 _ _ o4 _ b4))
  go_ret
  exact⟨_,_,_,rfl,by rw[<-List.append_assoc];exact o4,b4⟩
 ·rw[if_neg (by decide),if_neg (by decide),if_pos rfl]
  obtain⟨⟨p1,p2⟩,p3,p4⟩:=h3 rfl;have he:=h4 rfl;subst he;have V1:=Hz (zap (n:=zig y3) (by unfold zig;split<;> omega));have V2:=Hz (zap (n:=zig y4) (by unfold zig;split<;> omega));have Z1:=Hz (fun(W:World)=>znu y3 W (by omega) (by omega));have Z2:=Hz (fun(W:World)=>znu y4 W (by omega) (by omega));have P1:=Hz (fun(W:World)=>zcz none 0 0 [] (zig y3) W Reads.none_ (by omega) (by unfold zig;split<;> omega));have P2:=Hz (fun(W:World)=>zcz none 0 0 [] (zig y4) W Reads.none_ (by omega) (by unfold zig;split<;> omega));clear h2 h3 h4;generalize zig y3=z3 at*;generalize zig y4=z4 at*;go_enter Tryz.func157,Tryz.ntmps157
  go_wp2_with fail
  refine(Z1.out _).mono ?_;rintro e w2 ⟨rfl,rfl⟩;go_wp2_with fail
  refine(P1.out _).mono ?_;rintro e w2 ⟨A2,n2,c2,rfl,k2,b2⟩;rw[List.nil_append] at k2;have o2:=o1.later b2;have b02:Below B W0 w2:=b1.trans (Below.mono b2 (by omega));have q2:n2<=10:=by have:=k2.len;rw[zaa] at this;have:=V1.out;omega
  have hz2:=b2.size;have r2:=k2.reads;have B2:=B0.below b2 B0.lt;clear k2 b2 x0 x1 x2 x3 x4
  go_wp2_with (refine zau elB rfl (.tmp 25) (.tmp 30) rfl (W:=W0) (B:=B) o2 r2 rfl rfl b02 hbB (by omega) (by omega) (by simp only[maxLen];omega) ?_
               intro A3 c3 w3 _ _ o3 g3 b3 _;have B3:=B2.push o2 g3 (by decide);obtain⟨x0,x1,x2,x3,x4⟩:=zcb B3;have hz3:=g3.size)
  refine(Z2.out _).mono ?_;rintro e w4 ⟨rfl,rfl⟩;go_wp2_with fail
  refine(P2.out _).mono ?_;rintro e w4 ⟨A4,n4,c4,rfl,k4,b4⟩;rw[List.nil_append] at k4;have o4:=o3.later b4;have b04:Below B W0 w4:=b3.trans (Below.mono b4 (by omega));have q4:n4<=10:=by have:=k4.len;rw[zaa] at this;have:=V2.out;omega
  have hz4:=b4.size;have r4:=k4.reads;have B4:=B3.below b4 B3.lt;clear k4 b4 x0 x1 x2 x3 x4;go_wp2_with (first
   |(refine zau elB rfl (.tmp 36) (.tmp 38) rfl (W:=W0) (B:=B) o4 r4 rfl rfl b04 hbB (by omega) (by omega) (by simp only[maxLen];omega) ?_
     intro A5 c5 w5 _ _ o5 g5 b5 _;obtain⟨x0,x1,x2,x3,x4⟩:=zcb (B4.push o4 g5 (by decide));have hz5:=g5.size)
   |(refine ze0 elB qdq rfl (.tmp 40) (.tmp 42) rfl (W:=W0) (B:=B) o5 (l2:=[]) (by simp) rfl rfl b5 hbB (by omega) (by simp;omega) ?_
     intro A6 c6 w6 _ _ o6 _ b6))
  go_ret
  exact⟨_,_,_,rfl,by rw[List.append_nil] at o6;rw[<-List.append_assoc];exact o6,b6⟩
theorem z45{t:Int}{L:List zab}{k:Nat}(h:k<L.length):(L.take (k+1)).flatMap (plE t)=(L.take k).flatMap (plE t)++plE t (L.getD k (false,0,[],0,0)):=by rw[zae L k (false,0,[],0,0) h,List.flatMap_append];simp
theorem zsf{t:Int}:∀l:List zab,(∀c∈l,zaf c t false=true)->(∀c∈l,c.2.2.1.length<=65536)->(l.flatMap (plE t)).length<=l.length*65556
 | [],_,_=>by simp
 |c::l,h,k=>by
  have a:=zsf l (fun d hd=>h d (by simp[hd])) (fun d hd=>k d (by simp[hd]));have b:=zw6 (h c (by simp));have d:=k c (by simp);rw[List.flatMap_cons,List.length_append,List.length_cons];omega
theorem zi0{c:zab}{t:Int}(h:zaf c t false=true):c.2.2.1.length<=65536:=by
 have h0:=zgh h;rcases zmy h with rfl|rfl|rfl|rfl
 ·unfold zaf at h
  rw[h0] at h;simp at h;rw[h.1];simp
 ·unfold zaf at h
  rw[h0] at h;simp at h;rw[h.1.1];simp
 ·exact z43 h
 ·rw[zw7 h]
  simp
def zai(c:zab):Prop:=(c.2.2.1.length<=140737488351232/\ ∀z∈c.2.2.1,z<256)/\ -9223372036854775808<=c.2.1/\c.2.1<=9223372036854775807
set_option maxRecDepth 100000 in
theorem zkf{w:World}{t:Int}{A:Option Addr}{n c:Nat}{L:List zab}(h:Reads w w.heap.size 5 A n (recs zan L))(hL:∀y∈L,zai y)(hn:n<=4611686018427387903):
 Calls Tryz.prog 120 #[.int .i64 t,.slice A n c] w (OptB (plO t L) w):=by
 obtain rfl:=h.lenCell;have HR:=Hz h;have AR:=Hz (zl2 (t:=t) (c:=c) h (fun y hy=>(hL y hy).1.1) hn);have KN:=Hz (zkd (w:=w) (t:=t) (n:=(L.length:Int)));have ek:zh5 t L=(decide (0<=t/\t<=3/\0<=(L.length:Int)/\(L.length:Int)<=65536)&&L.all fun c=>zaf c t false):=by
  unfold zh5;congr 1
  rw[decide_eq_decide];omega
 obtain⟨M,hM⟩:∃M,M=plO t L:=⟨_,rfl⟩;rw[<-hM];unfold plO at hM;by_cases hk:(0<=t/\t<=3/\0<=(L.length:Int)/\(L.length:Int)<=65536)
 ·rw[decide_eq_true hk] at KN ek
  cases ha:L.all fun c=>zaf c t false with
  |false=>
   rw[ha] at AR;rw[ek,ha] at hM;simp at hM;have HM:=Hz hM;clear hM ek ha hL h;go_enter Tryz.func120,Tryz.ntmps120
   go_wp2_with fail
   refine KN.out.mono ?_;rintro e w1 ⟨rfl,rfl⟩;go_wp2_with fail
   refine AR.out.mono ?_;rintro e w1 ⟨rfl,b1⟩;go_wp2_with fail
   go_ret2
   rw[HM.out];exact⟨rfl,b1⟩
  |true=>
   rw[ha] at AR;rw[ek,ha] at hM;simp at hM;have hR:=List.all_eq_true.1 ha;have hn2:L.length<=65536:=by omega
   by_cases h1:t=1
   ·subst h1
    have hP:=zfr (zd5 L) 1 (by omega) (by unfold zd5;rw[List.length_map];omega) (zn1 hR);have hM2:M=znr (zd5 L) 1:=by rw[hM];unfold plB;rw[if_pos rfl];refine Eq.trans ?_ hP.symm;unfold zd5;rw[List.length_map]
    have HM:=Hz hM2;have PB:=Hz (fun(W:World) (hW:New w W)=>zse (c:=c) (Reads.later HR.out hW) hn2);clear hM hM2 hP ek ha hR hL h;go_enter Tryz.func120,Tryz.ntmps120
    go_wp2_with fail
    refine KN.out.mono ?_;rintro e w1 ⟨rfl,rfl⟩;go_wp2_with fail
    refine AR.out.mono ?_;rintro e w1 ⟨rfl,b1⟩;go_wp2_with fail
    refine(PB.out _ b1).mono ?_;intro e w2 h2;rw[<-HM.out] at h2;cases M with
    |none=>
     obtain⟨rfl,b2⟩:=h2;go_wp2_with fail
     go_ret2
     exact⟨rfl,New.trans b1 b2⟩
    |some l=>
     obtain⟨A2,n2,c2,rfl,o2,b2⟩:=h2;go_wp2_with fail
     go_ret2
     exact⟨_,_,_,rfl,o2.base_le b1.size,New.trans b1 b2⟩
   ·have hM2:M=some (L.flatMap (plE t)):=by rw[hM];unfold plB;rw[if_neg h1]
    have HM:=Hz hM2;have HR2:=Hz hR;have hx:∀c∈L,c.2.2.1.length<=65536:=fun c hc=>zi0 (hR c hc)
    have HX:=Hz hx;have HD:=Hz hL;have RM:=Hz (fun(W:World) (hW:New w W)=>qau (c:=c) (Reads.later HR.out hW) hn2 hx);clear hM hM2 ek ha hR hL h hx;go_enter Tryz.func120,Tryz.ntmps120
    go_wp2_with fail
    refine KN.out.mono ?_;rintro e w1 ⟨rfl,rfl⟩;go_wp2_with fail
    refine AR.out.mono ?_;rintro e w1 ⟨rfl,b1⟩;go_wp2_with fail
    refine(RM.out _ b1).mono ?_;rintro e w2 ⟨r,rfl,hr,b2⟩;have b02:=New.trans b1 b2;have hz2:=b02.size
    go_wp2_with (refine zcf elB rfl (.const (.int .i64 0)) (.tmp 27) rfl (W:=w) (B:=w.heap.size) 0 r rfl rfl rfl rfl (by omega) b02 hz2 rfl (by omega) (by simp only[maxLen];omega) ?_
                 intro w3 o3 _ b3 hs3)
    go_loopw [6,31] (fun v i wr=>∃(k m cc:Nat) (AA:Option Addr),k<=L.length/\i= .int .i64 (k:Int)/\v= .slice AA m cc/\Own wr w.heap.size 5 (.slice AA m cc) (za2 .u8 ((L.take k).flatMap (plE t)))/\Below w.heap.size w wr) (fun _ i _=>L.length-(intOf i).toNat)
    case atStart=>exact⟨0,0,r,_,Nat.zero_le _,rfl,rfl,by have:=o3.base_le hz2;simpa[za2] using this,b3⟩
    case round=>
     obtain⟨k,m,cc,AA,hk2,rfl,rfl,o,b⟩:=hrel;clear o3 b3 hs3 b1 b2 b02 hz2;by_cases hlt:k<L.length
     ·obtain⟨ad,rfl,hb,d0,d1,d2,d3,d4⟩:=(Reads.later HR.out b).cell5 hlt
      have hmem:L.getD k (false,0,[],0,0)∈L:=by rw[List.getD_eq_getElem?_getD,List.getElem?_eq_getElem hlt];exact List.getElem_mem hlt
      have hfs:=z45 (t:=t) hlt;have hfl:=zsf (L.take k) (fun c hc=>HR2.out c (List.mem_of_mem_take hc)) (fun c hc=>HX.out c (List.mem_of_mem_take hc));rw[List.length_take] at hfl;have hm:m<=100000000000:=by have:=o.len;rw[zaa] at this;have:=Nat.min_le_left k L.length;omega
      have h8:=HD.out _ hmem;have hry:=HR2.out _ hmem;clear hmem hfl;generalize L.getD k (false,0,[],0,0)=y at*;have hz:=b.size;have ha:New wr (wr.alloc (.cells (zan y).toArray 61)):=(Below.refl _ _).alloc (Nat.le_refl _) _;have LY:=qe7 (W0:=w) (B:=w.heap.size) (o.later ha) (b.trans (Below.mono ha hz)) (Nat.le_refl _) (by have:=ha.size;omega) hm hry h1 h8.1.2 h8.2;rw[<-hfs] at LY;obtain⟨y0,y1,y2,y3,y4⟩:=y;have LY:Hid (Calls Tryz.prog 157 #[.slice AA m cc,.int .i64 t,.agg #[.bool y0,.int .i64 y1,.string (zac y2),.int .i64 y3,.int .i64 y4]] (wr.alloc (.cells #[.bool y0,.int .i64 y1,.string (zac y2),.int .i64 y3,.int .i64 y4] 61)) (qix w w.heap.size w.heap.size ((L.take (k+1)).flatMap (plE t)))):=Hz LY;dsimp only at d0 d1 d2 d3 d4;clear hfs o b h8 hry;go_wp2_with fail
      refine LY.out.mono ?_;rintro e w5 ⟨A5,n5,c5,rfl,o5,b5⟩;go_wp2_with fail
      go_roundw
      case rel=>exact⟨k+1,n5,c5,A5,by omega,by go_num,rfl,o5,b5⟩
      case measure=>simp[intOf];omega
     ·obtain rfl:k=L.length:=by omega
      rw[List.take_length] at o;go_wp2_with fail
      go_ret2
      rw[HM.out];exact⟨_,_,_,rfl,o,b⟩
 ·rw[decide_eq_false hk] at KN ek
  rw[ek] at hM;simp at hM;have HM:=Hz hM;clear hM ek AR hL h;go_enter Tryz.func120,Tryz.ntmps120
  go_wp2_with fail
  refine KN.out.mono ?_;rintro e w1 ⟨rfl,rfl⟩;go_wp2_with fail
  go_ret2
  rw[HM.out];exact⟨rfl,Below.refl _ _⟩
end Go.Proofs.Y
namespace Go.Hm
end Go.Hm
namespace Go.Proofs.Y
open Go.RowKit Go.Hm
def OverNew(l:List Nat)(w:World)(e:Ending)(w':World):Prop:=
 ∃g A c,e= .returned (.pointer (some ⟨g,0,none⟩))/\w.heap.size<=g/\Blk w' g 154 #[.slice A l.length c,.bool false]/\Own w' w.heap.size 5 (.slice A l.length c) (za2 .u8 l)/\Below w.heap.size w w'
theorem OverNew.cur{w:World}{g:Nat}{l:List Nat}{A:Option Addr}{c base:Nat}(h:Blk w g 154 #[.slice A l.length c,.bool false])(k:Own w base 5 (.slice A l.length c) (za2 .u8 l))(h8:∀x∈l,x<256):Cur w g l false:=by have hc:=k.cap;exact⟨A,c,h,hc.1,hc.2,TR.of_own k,h8,by simp⟩
open Go.RowKit Go.Hm
def CurS(w:World)(g:Nat)(S:St):Prop:=Cur w g (S.getD []) S.isNone
section
variable{w w':World}{g:Nat}{S:St}
theorem CurS.lt(h:CurS w g S):g<w.heap.size:=Cur.lt h
theorem CurS.below(h:CurS w g S)(hb:Below w.heap.size w w'):CurS w' g S:=Cur.below h hb
theorem CurS.keep{g':Nat}{t:TypeId}{cs:Array Value}(h:CurS w g S)(hg:w.grownBy w' (some g'))(hT:Blk w g' t cs)(hne:g≠g')(ht:5≠t):CurS w' g S:=Cur.keep h hg hT hne ht
theorem CurS.blk(h:CurS w g S):∃cs,Blk w g 154 cs:=Cur.blk h
theorem CurS.push{e:TypeId}{base:Nat}{v:Value}{xs:List Value}(h:CurS w g S)(o:Own w base e v xs)(hg:w.grownBy w' v.ownBlock)(he1:e≠154)(he2:5≠e):CurS w' g S:=by
 cases hv:v.ownBlock with
 |none=>
  rw[hv] at hg;exact h.below ((Turns.of_none (T:=[]) hg).new (by simp))
 |some g'=>
  obtain⟨cs,hB⟩:=o.row g' hv;rw[hv] at hg;obtain⟨cs2,hC⟩:=h.blk;exact h.keep hg hB (fun e'=>by subst e';exact Blk.ne_ hB hC he1 rfl) he2
theorem CurS.ok(h:CurS w g S):S.ok:=by intro l e;subst e;exact Cur.lt8 h
theorem CurS.of{l:List Nat}(h:Cur w g l false):CurS w g (some l):=h
theorem CurS.len(h:CurS w g S):(S.getD []).length<=9223372036854775807:=by have:=Cur.len h;unfold maxLen at this;omega
end
def z5g(e0:Ending)(g:Nat)(S:St)(w:World)(e:Ending)(w':World):Prop:=e=e0/\CurS w' g S/\w.grownBy w' (some g)
theorem zjq{w:World}{g:Nat}{S:St}(h:CurS w g S):Calls Tryz.prog 110 #[.pointer (some ⟨g,0,none⟩)] w (z5g (.returned (.tuple #[])) g none w):=zhg h
theorem zzi{w:World}{g:Nat}{S:St}(h:CurS w g S):Calls Tryz.prog 80 #[.pointer (some ⟨g,0,none⟩)] w (zr6 S.isNone w):=zjl h
theorem zgi{w:World}{g:Nat}{S:St}(h:CurS w g S):Calls Tryz.prog 82 #[.pointer (some ⟨g,0,none⟩)] w (zr6 (zp2 S) w):=by
 have:=qej h;have e:zp2 S=(!S.isNone&&(S.getD []).isEmpty):=by
  cases S with
  |none=>rfl
  |some l=>cases l<;> simp[zp2]
 rw[e];exact this
theorem zua{w:World}{g:Nat}{S:St}(h:CurS w g S):Calls Tryz.prog 126 #[.pointer (some ⟨g,0,none⟩)] w (zfg (S.getD []) w):=z9w h
theorem ze8{w:World}{g:Nat}{S:St}(h:CurS w g S):Calls Tryz.prog 122 #[.pointer (some ⟨g,0,none⟩)] w (z5g (.returned (.int .u8 ((zbf S).1:Int))) g (zbf S).2 w):=by
 cases S with
 |none=>exact zmv h (.inl rfl)
 |some l=>
  cases l with
  |nil=>exact zmv h (.inr (by simp))
  |cons b r=>exact zy0 h
def qik(x:List Nat)(g:Nat)(S:St)(w:World)(e:Ending)(w':World):Prop:=
 ∃A n c,e= .returned (.slice A n c)/\n=x.length/\Own w' w.heap.size 5 (.slice A n c) (za2 .u8 x)/\CurS w' g S/\w.grownBy w' (some g)
theorem zc6{w:World}{g:Nat}{n:Int}{S:St}(h:CurS w g S)(h0: -9223372036854775808<=n)(h1:n<=140737488355328):Calls Tryz.prog 123 #[.pointer (some ⟨g,0,none⟩),.int .i64 n] w (qik (zbr n S).1 g (zbr n S).2 w):=by
 rcases zcd n S with hc|⟨l,rfl,h2,h3,hc⟩
 ·rw[hc]
  have hb:S.isNone=true\/n<0\/((S.getD []).length:Int)<n:=by
   unfold zbr at hc;cases S with
   |none=>exact .inl rfl
   |some l=>
    simp only at hc;split at hc
    ·simp at hc
    ·rename_i hh
     simp only[Option.getD_some];omega
  refine(z90 h hb h0 (by omega)).mono ?_;rintro e w' ⟨rfl,k1,k2⟩;exact⟨none,0,0,rfl,rfl,Own.nil_,k1,k2⟩
 ·rw[hc]
  obtain⟨m,rfl⟩:=Int.eq_ofNat_of_zero_le h2;simp only[Int.toNat_natCast];have hm:m<=l.length:=by omega
  refine(z4d (l:=l) (n:=m) h hm (by omega)).mono ?_;rintro e w' ⟨A,c,rfl,k1,k2,k3⟩;exact⟨A,m,c,rfl,by rw[List.length_take];omega,k1,k2,k3⟩
theorem zkg{w:World}{g:Nat}{S:St}(h:CurS w g S):Calls Tryz.prog 111 #[.pointer (some ⟨g,0,none⟩)] w (z5g (.returned (.int .u64 ((zh0 S).1:Int))) g (zh0 S).2 w):=by
 rcases hc:zh0 S with⟨v,T⟩;have hok:=h.ok;cases S with
 |none=>
  simp only[zh0,Prod.mk.injEq] at hc;obtain⟨rfl,rfl⟩:=hc;exact z5f h (.inl rfl)
 |some l=>
  simp only[zh0] at hc;split at hc
  ·rename_i N r hg
   obtain⟨h1,h2⟩:=zww (hok l rfl) hg;simp only[Prod.mk.injEq] at hc;obtain⟨rfl,rfl⟩:=hc;subst h1;exact zw9 h h2
  ·rename_i hg
   simp only[Prod.mk.injEq] at hc;obtain⟨rfl,rfl⟩:=hc;exact z5f h (.inr (qe0 hg))
theorem zcc{w:World}{g:Nat}{m:Int}{S:St}(h:CurS w g S)(hm0: -9223372036854775808<=m)(hm:m<=9223372036854775807):Calls Tryz.prog 79 #[.pointer (some ⟨g,0,none⟩),.int .i64 m] w (z5g (.returned (.int .i64 ((lenS m S).1:Int))) g (lenS m S).2 w):=by
 have hok:=h.ok;by_cases hg:∃N r,S=some (vp N++r)/\(N:Int)<=m
 ·obtain⟨N,r,rfl,hN⟩:=hg
  rw[zby N r hN hm];exact qfg h hN hm
 ·have e:lenS m S=(0,none):=by
   rcases zbp m S hok with h1|⟨N,r,h1,h2,_,_⟩
   ·exact h1
   ·exact absurd ⟨N,r,h1,h2⟩ hg
  rw[e];refine qg8 h ?_ hm0 hm;cases S with
  |none=>exact .inl rfl
  |some l=>
   refine .inr fun N r hl=>?_
   simp only[Option.getD_some] at hl;subst hl;rcases Int.lt_or_le m N with h1|h1
   ·exact h1
   ·exact absurd ⟨N,r,rfl,h1⟩ hg
def RCurS(w:World)(B g:Nat)(S:St):Prop:=RCur w B g (S.getD []) S.isNone
section
variable{w w':World}{B g:Nat}{S:St}
theorem RCurS.lt(h:RCurS w B g S):g<w.heap.size:=RCur.lt h
theorem RCurS.below(h:RCurS w B g S)(hb:Below w.heap.size w w'):RCurS w' B g S:=RCur.below h hb
theorem RCurS.keep{g':Nat}(h:RCurS w B g S)(hg:w.grownBy w' (some g'))(hB:B<=g')(hne:g≠g'):RCurS w' B g S:=RCur.keep h hg hB hne
theorem RCurS.blk(h:RCurS w B g S):∃cs,Blk w g 95 cs:=RCur.blk h
theorem RCurS.push{e:TypeId}{base:Nat}{v:Value}{xs:List Value}(h:RCurS w B g S)(o:Own w base e v xs)(hB:B<=base)(hg:w.grownBy w' v.ownBlock)(he:e≠95):RCurS w' B g S:=by
 cases hv:v.ownBlock with
 |none=>
  rw[hv] at hg;exact h.below ((Turns.of_none (T:=[]) hg).new (by simp))
 |some g'=>
  obtain⟨cs,hC⟩:=h.blk;have h1:=o.lt g' hv;have h2:=o.blk_ne hC he;rw[hv] at hg;exact h.keep hg (by omega) (fun e'=>by subst e';exact h2 hv)
theorem RCurS.new{A:Option Addr}{c:Nat}{l:List Nat}(h:Reads w w.heap.size 1 A l.length (za2 .u8 l))(hc:l.length<=c)(hm:c<=maxLen)(h8:∀x∈l,x<256):
 RCurS (w.alloc (.cells #[.slice A l.length c,.bool false] 95)) w.heap.size w.heap.size (some l):=
 ⟨A,c,Blk.new _ _ _,hc,hm,h.alloc (Nat.le_refl _) _,Nat.le_refl _,h8⟩
theorem RCurS.ok(h:RCurS w B g S):S.ok:=by intro l e;subst e;exact RCur.lt8 h
theorem RCurS.of{l:List Nat}(h:RCur w B g l false):RCurS w B g (some l):=h
end
open Go.RowKit Go.Hm
theorem zn8{w:World}{A:Option Addr}{c:Nat}{L:List Nat}(h:Reads w w.heap.size 1 A L.length (za2 .u64 L))(hn:L.length<=9223372036854775806):
 Calls Tryz.prog 239 #[.slice A L.length c] w (zak (.int .i64 (st L:Nat)) w):=by
 go_enter Tryz.func239,Tryz.ntmps239
 go_wp2
 go_loopw [3] (fun i wr=>∃k:Nat,k<=L.length/\i= .int .i64 (k:Int)/\Hid (∀j,j<k->L.getD j 0=L.getD 0 0)/\Below w.heap.size w wr) (fun i _=>L.length-(intOf i).toNat)
 case atStart=>exact⟨0,by omega,rfl,Hz (fun j hj=>by omega),Below.refl _ _⟩
 case round=>
  obtain⟨k,hk,rfl,hT,hb⟩:=hrel;by_cases hlt:k<L.length
  ·obtain⟨ad,rfl,hbk,hcell⟩:=(h.below hb).num hlt
   obtain⟨ad',e',hbk',hcell'⟩:=(h.below hb).num (i:=0) (by omega);injection e' with e';subst e';rw[zj1] at hcell';have h0:(0:Int)<(L.length:Int):=by omega
   by_cases he:L.getD k 0=L.getD 0 0
   ·have HT:=Hz (show∀j,j<k+1->L.getD j 0=L.getD 0 0 from fun j hj=>by
     by_cases hjk:j=k
     ·rw[hjk];exact he
     ·exact hT.out j (by omega))
    rw[he] at hcell;clear he hT;generalize L.getD 0 0=y at*;go_wp2
    go_quiet (fail)
    go_wp2
    go_roundw
    case rel=>exact⟨k+1,by omega,by go_num,HT,below_drewN hb _⟩
    case measure=>simp[intOf];omega
   ·have hst:=Hz (show st L=k from qa1 (by omega) hT.out (.inr he))
    have hbe:(((L.getD k 0:Nat):Int)==((L.getD 0 0:Nat):Int))=false:=by rw[beq_eq_false_iff_ne];omega
    clear he hT;generalize L.getD k 0=y at*;generalize L.getD 0 0=z at*;go_wp2
    go_quiet (fail)
    go_wp2
    go_ret
    exact⟨by rw[hst.out];simp,below_drewN hb _⟩
  ·obtain rfl:k=L.length:=by omega
   have hst:=Hz (show st L=L.length from qa1 (by omega) hT.out (.inl rfl));clear hT;go_wp2
   go_quiet (fail)
   go_wp2
   go_ret
   exact⟨by rw[hst.out];simp,below_drewN hb _⟩
theorem z5o{w:World}{A:Option Addr}{c:Nat}{L:List Nat}(h:Reads w w.heap.size 1 A L.length (za2 .u64 L))(hn:L.length<=9223372036854775806):
 Calls Tryz.prog 223 #[.slice A L.length c] w (zak (.bool (decide (4<=st L))) w):=by
 have S:=Hz (zn8 (c:=c) h hn);generalize st L=s at*;clear h;go_enter Tryz.func223,Tryz.ntmps223
 go_wp2_with fail
 refine S.out.mono ?_;rintro e w1 ⟨rfl,b1⟩;by_cases h4:4<=s
 ·have d:decide ((4:Int)<=(s:Int))=true:=decide_eq_true (by omega)
  rw[decide_eq_true h4];go_wp2
  go_ret
  exact⟨by simp[h4],b1⟩
 ·have d:decide ((4:Int)<=(s:Int))=false:=decide_eq_false (by omega)
  rw[decide_eq_false h4];go_wp2
  go_ret
  exact⟨by simp;omega,b1⟩
end Go.Proofs.Y
namespace Go.Hm
open Go Go.RowKit
def eqC(a b:zab):Bool:=a.1==b.1&&(a.2.1==b.2.1&&((zac a.2.2.1).toList==(zac b.2.2.1).toList&&(a.2.2.2.1==b.2.2.2.1&&a.2.2.2.2==b.2.2.2.2)))
theorem zz0{a b:zab}(ha:∀z∈a.2.2.1,z<256)(hb:∀z∈b.2.2.1,z<256):eqC a b=decide (a=b):=by obtain⟨a0,a1,a2,a3,a4⟩:=a;obtain⟨b0,b1,b2,b3,b4⟩:=b;unfold eqC;dsimp only at*;rw[zhe ha hb,Bool.eq_iff_iff];simp
def eqS(a b:zc7):Bool:=a.1==b.1&&(a.2.1==b.2.1&&(eqC a.2.2.1 b.2.2.1&&eqC a.2.2.2 b.2.2.2))
theorem qdz{a b:zc7}(h1:∀z∈a.2.2.1.2.2.1,z<256)(h2:∀z∈a.2.2.2.2.2.1,z<256)(h3:∀z∈b.2.2.1.2.2.1,z<256)(h4:∀z∈b.2.2.2.2.2.1,z<256):eqS a b=true↔a=b:=by obtain⟨n,c,p,q⟩:=a;obtain⟨m,d,r,s⟩:=b;unfold eqS;dsimp only at*;rw[zz0 h1 h3,zz0 h2 h4];simp
end Go.Hm
namespace Go.Proofs.Y
open Go.RowKit Go.Hm
set_option maxRecDepth 100000 in
theorem z2f{n n':Int}{b b':Bool}{p q p' q':zab}(W:World):
 (binOp .eql 63 (zbz (n,b,p,q)) (zbz (n',b',p',q'))).run Tryz.prog W= .ok (.bool (eqS (n,b,p,q) (n',b',p',q'))) W:=by
 obtain⟨p1,p2,p3,p4,p5⟩:=p;obtain⟨q1,q2,q3,q4,q5⟩:=q;obtain⟨r1,r2,r3,r4,r5⟩:=p';obtain⟨s1,s2,s3,s4,s5⟩:=q';show(binOp .eql 63 (.agg #[.int .i64 n,.bool b,.bool p1,.int .i64 p2,.string (zac p3),.int .i64 p4,.int .i64 p5,.bool q1,.int .i64 q2,.string (zac q3),.int .i64 q4,.int .i64 q5]) (.agg #[.int .i64 n',.bool b',.bool r1,.int .i64 r2,.string (zac r3),.int .i64 r4,.int .i64 r5,.bool s1,.int .i64 s2,.string (zac s3),.int .i64 s4,.int .i64 s5])).run Tryz.prog W=_;go_simp
 unfold eqS eqC
 repeat' split
 all_goals simp_all
end Go.Proofs.Y
namespace Go.Hm
open Go Go.RowKit
variable{P:Program}
theorem zd8{o:Oper}{a:Act}{w:World}{K:Act->World->Prop}{Q:Exit->Act->World->Prop}(ty:TypeId)(x y:Operand)(ho:o.op= .store ty x y)
 (g:Nat)(cells:Array Value)(hx:a.eval x= .pointer (some ⟨g,0,none⟩))(hy:a.eval y= .agg cells){t:TypeId}{old:Array Value}(hB:Blk w g t old)(hi:(P.info? ty).map (·.size)=some cells.size)
 (hold:old.size=cells.size)(h1:cells.all (·.oneCell')=true)
 (h:∀W,Blk W g t cells->w.grownBy W (some g)->K (a.put o.dst undef) W):o.wp P a w K Q:=by
 refine wp_store_row ty x y ho g cells hx hy t old hB hi hold h1 ?_;refine h _ ?_ ⟨rfl,rfl,rfl,by simp[World.setRow],fun k _ hne=>?_⟩
 ·unfold Blk at hB⊢
  simp[World.setRow,Array.getElem?_modify,hB]
 ·simp[World.setRow,Array.getElem?_modify]
  intro e;exact absurd (by rw[e]) hne
open Go Go.RowKit
theorem z0m{w:World}{g:Nat}{ty:TypeId}{x y a b:Value}(h:Blk w g ty #[x,y]):Blk ((w.setCell ⟨g,0,none⟩ a).setCell ⟨g,1,none⟩ b) g ty #[a,b]:=by simpa using((h.set_ 0 a).set_ 1 b)
theorem zpa{g i:Nat}(u:Value)(w:World):Far g w (w.setCell ⟨g,i,none⟩ u):=
 ⟨rfl,rfl,rfl,by simp[World.setCell],fun k _ hne=>Below.heap_setCell _ _ _ _ (by rintro rfl;exact hne rfl)⟩
theorem zng{g:Nat}(a b:Value)(w:World):Far g w ((w.setCell ⟨g,0,none⟩ a).setCell ⟨g,1,none⟩ b):=Far.trans (zpa a w) (zpa b _)
end Go.Hm
namespace Go.Proofs.Y
open Go.RowKit Go.Hm
set_option maxRecDepth 100000 in
theorem qd5{w:World}{x y:Int}{a b:Nat}(h:ztt x y a b)(hx: -9223372036854775808<=x/\x<=9223372036854775807)(hy: -9223372036854775808<=y/\y<=9223372036854775807):
 Calls Tryz.prog 244 #[.complex .f64 a b] w (zak (.agg #[.int .i64 x,.int .i64 y]) w):=by
 have f1:=fun w:World=>run_convert_float_int (P:=Tryz.prog) w 220 3 .f64 .i64 a _ (by kernel_rfl) (by kernel_rfl) (zxn h.1 hx)
 have f2:=fun w:World=>run_convert_float_int (P:=Tryz.prog) w 220 3 .f64 .i64 b _ (by kernel_rfl) (by kernel_rfl) (zxn h.2 hy)
 have b0:New w (w.alloc (.cells #[.int .i64 x,.int .i64 y] 59)):=(Below.refl _ _).alloc (Nat.le_refl _) _;obtain⟨s0,s1⟩:=za7 (Blk.new w 59 #[.int .i64 x,.int .i64 y]);clear h hx hy;go_enter Tryz.func244,Tryz.ntmps244
 go_wp2
 exact bodyPost_ret (v:= .agg #[.int .i64 x,.int .i64 y]) (by simp[results,Tryz.results244,go_sem,s0,s1]) rfl ⟨rfl,b0⟩
set_option maxRecDepth 100000 in
theorem qcg{w:World}{x y u v:Int}(hx: -2097152<=x/\x<=2097152)(hy: -2097152<=y/\y<=2097152)(hu: -2097152<=u/\u<=2097152)(hv: -2097152<=v/\v<=2097152):
 Calls Tryz.prog 242 #[.agg #[.int .i64 x,.int .i64 y],.agg #[.int .i64 u,.int .i64 v]] w (zak (.agg #[.int .i64 (x+u),.int .i64 (y+v)]) w):=by
 obtain⟨W0,hW0⟩:∃W,W=((w.alloc (.cells #[.int .i64 x,.int .i64 y] 59)).alloc (.cells #[.int .i64 u,.int .i64 v] 59)).alloc (.cells #[.int .i64 0,.int .i64 0] 59):=⟨_,rfl⟩;have b0:New w W0:=by rw[hW0];exact(((Below.refl _ _).alloc (Nat.le_refl _) _).alloc (by simp) _).alloc (by simp;omega) _
 have e1:(w.alloc (.cells #[.int .i64 x,.int .i64 y] 59)).heap.size=w.heap.size+1:=by simp
 have e2:((w.alloc (.cells #[.int .i64 x,.int .i64 y] 59)).alloc (.cells #[.int .i64 u,.int .i64 v] 59)).heap.size=w.heap.size+1+1:=by simp
 have A0:Blk W0 w.heap.size 59 #[.int .i64 x,.int .i64 y]:=by rw[hW0];exact((Blk.new _ _ _).alloc _).alloc _
 have B0:Blk W0 (w.heap.size+1) 59 #[.int .i64 u,.int .i64 v]:=by rw[hW0,<-e1];exact(Blk.new _ _ _).alloc _
 have C0:Blk W0 (w.heap.size+1+1) 59 #[.int .i64 0,.int .i64 0]:=by rw[hW0,<-e2];exact Blk.new _ _ _
 have F:=Hz (fun(W:World) (hW:Far (w.heap.size+1+1) W0 W)=>And.intro (za7 (A0.grown hW (by simp;omega))) (za7 (B0.grown hW (by simp))));have HC:=Hz C0;have HW:=Hz hW0;have HB:=Hz b0;have P1:=Hz (fun(W:World)=>zg4 (w:=W) (x:=x) (y:=y) (by omega) (by omega));have P2:=Hz (fun(W:World)=>zg4 (w:=W) (x:=u) (y:=v) (by omega) (by omega));have P3:=Hz (fun(W:World) (a b c d:Nat) (h1:ztt x y a b) (h2:ztt u v c d)=>show∃re im,cSumBits .add .f64 a b c d=some (re,im)/\ ∀W:World,Calls Tryz.prog 244 #[.complex .f64 re im] W (zak (.agg #[.int .i64 (x+u),.int .i64 (y+v)]) W) by obtain⟨re,im,k1,k2⟩:=qbi h1 h2 (by omega) (by omega);exact⟨re,im,k1,fun W=>qd5 k2 (by omega) (by omega)⟩)
 generalize x+u=rx at*;generalize y+v=ry at*;clear A0 B0 C0 hW0 b0 e1 e2 hx hy hu hv;go_enter Tryz.func242,Tryz.ntmps242
 go_wp2_with fail
 rw[<-HW.out];refine zam (Far (w.heap.size+1+1)) [(true,0),(true,2),(false,1),(false,3),(true,4),(false,5),(false,6)]
  (Far.refl _) Far.trans (by kernel_rfl) (by kernel_rfl) (by kernel_rfl) (by kernel_rfl) ?_
 have hN:=New.drew W0;iterate 2 (
  refine zaq rfl rfl (v:=?_) (fun W hW=>?_) ?_;rotate_left
  ·obtain⟨⟨x0,x1⟩,⟨y0,y1⟩⟩:=F.out W (Far.trans (Far.of_new hN) hW)
   go_simp<;> with_reducible rfl
  simp only[Act.put,List.setIfInBounds_toArray,List.set_cons_zero,List.set_cons_succ])
 refine za8 rfl rfl (fun K hK=>?_);go_simp
 (with_reducible refine(P1.out _).mono ?_)
 rintro e w1 ⟨a,b,rfl,hr1,c1⟩;refine hK _ _ (Far.of_new c1) ?_;clear hK;replace hN:=New.trans hN c1;refine za8 rfl rfl (fun K hK=>?_);go_simp
 (with_reducible refine(P2.out _).mono ?_)
 rintro e w2 ⟨c,d,rfl,hr2,c2⟩;refine hK _ _ (Far.of_new c2) ?_;clear hK;replace hN:=New.trans hN c2;obtain⟨re,im,k1,k2⟩:=P3.out w2 a b c d hr1 hr2;have K2:=Hz k2;have m:=fun w:World=>run_complex_sum (P:=Tryz.prog) w .add (.inl rfl) 218 .f64 a b c d re im k1
 clear k1 k2 hr1 hr2 P1 P2 P3;refine zaq rfl rfl (v:=?_) (fun W hW=>?_) ?_;rotate_left
 ·go_simp<;> with_reducible rfl
 simp only[Act.put,List.setIfInBounds_toArray,List.set_cons_zero,List.set_cons_succ];clear m;refine za8 rfl rfl (fun K hK=>?_);go_simp
 (with_reducible refine(K2.out _).mono ?_)
 rintro e w3 ⟨rfl,c3⟩;refine hK _ _ (Far.of_new c3) ?_;clear hK;replace hN:=New.trans hN c3;have C3:=HC.out.below hN HC.out.lt;obtain⟨z0,z1⟩:=za7 C3;have f0:=C3.frozen 0;have f1:=C3.frozen 1;have S3:=Hz (z0m C3 (a:= .int .i64 rx) (b:= .int .i64 ry));have hF:=zng (g:=w.heap.size+1+1) (.int .i64 rx) (.int .i64 ry) w3;clear C3;refine za8 rfl rfl (fun K hK=>?_);go_simp
 refine hK _ _ hF ?_;clear hK z0 z1 f0 f1;refine zb2 ?_;obtain⟨s0,s1⟩:=za7 S3.out;have bE:=New.far HB.out (Far.trans (Far.of_new hN) hF) (by omega);clear hF S3;go_wp2
 exact bodyPost_ret (v:= .agg #[.int .i64 rx,.int .i64 ry]) (by simp[results,Tryz.results242,go_sem,s0,s1]) rfl ⟨rfl,bE⟩
set_option maxRecDepth 100000 in
theorem qch{w:World}{x y u v:Int}(hx: -2097152<=x/\x<=2097152)(hy: -2097152<=y/\y<=2097152)(hu: -2097152<=u/\u<=2097152)(hv: -2097152<=v/\v<=2097152):
 Calls Tryz.prog 240 #[.agg #[.int .i64 x,.int .i64 y],.agg #[.int .i64 u,.int .i64 v]] w (zak (.agg #[.int .i64 (x-u),.int .i64 (y-v)]) w):=by
 obtain⟨W0,hW0⟩:∃W,W=((w.alloc (.cells #[.int .i64 x,.int .i64 y] 59)).alloc (.cells #[.int .i64 u,.int .i64 v] 59)).alloc (.cells #[.int .i64 0,.int .i64 0] 59):=⟨_,rfl⟩;have b0:New w W0:=by rw[hW0];exact(((Below.refl _ _).alloc (Nat.le_refl _) _).alloc (by simp) _).alloc (by simp;omega) _
 have e1:(w.alloc (.cells #[.int .i64 x,.int .i64 y] 59)).heap.size=w.heap.size+1:=by simp
 have e2:((w.alloc (.cells #[.int .i64 x,.int .i64 y] 59)).alloc (.cells #[.int .i64 u,.int .i64 v] 59)).heap.size=w.heap.size+1+1:=by simp
 have A0:Blk W0 w.heap.size 59 #[.int .i64 x,.int .i64 y]:=by rw[hW0];exact((Blk.new _ _ _).alloc _).alloc _
 have B0:Blk W0 (w.heap.size+1) 59 #[.int .i64 u,.int .i64 v]:=by rw[hW0,<-e1];exact(Blk.new _ _ _).alloc _
 have C0:Blk W0 (w.heap.size+1+1) 59 #[.int .i64 0,.int .i64 0]:=by rw[hW0,<-e2];exact Blk.new _ _ _
 have F:=Hz (fun(W:World) (hW:Far (w.heap.size+1+1) W0 W)=>And.intro (za7 (A0.grown hW (by simp;omega))) (za7 (B0.grown hW (by simp))));have HC:=Hz C0;have HW:=Hz hW0;have HB:=Hz b0;have P1:=Hz (fun(W:World)=>zg4 (w:=W) (x:=x) (y:=y) (by omega) (by omega));have P2:=Hz (fun(W:World)=>zg4 (w:=W) (x:=u) (y:=v) (by omega) (by omega));have P3:=Hz (fun(W:World) (a b c d:Nat) (h1:ztt x y a b) (h2:ztt u v c d)=>show∃re im,cSumBits .sub .f64 a b c d=some (re,im)/\ ∀W:World,Calls Tryz.prog 244 #[.complex .f64 re im] W (zak (.agg #[.int .i64 (x-u),.int .i64 (y-v)]) W) by obtain⟨re,im,k1,k2⟩:=qbj h1 h2 (by omega) (by omega);exact⟨re,im,k1,fun W=>qd5 k2 (by omega) (by omega)⟩)
 generalize x-u=rx at*;generalize y-v=ry at*;clear A0 B0 C0 hW0 b0 e1 e2 hx hy hu hv;go_enter Tryz.func240,Tryz.ntmps240
 go_wp2_with fail
 rw[<-HW.out];refine zam (Far (w.heap.size+1+1)) [(true,0),(true,2),(false,1),(false,3),(true,4),(false,5),(false,6)]
  (Far.refl _) Far.trans (by kernel_rfl) (by kernel_rfl) (by kernel_rfl) (by kernel_rfl) ?_
 have hN:=New.drew W0;iterate 2 (
  refine zaq rfl rfl (v:=?_) (fun W hW=>?_) ?_;rotate_left
  ·obtain⟨⟨x0,x1⟩,⟨y0,y1⟩⟩:=F.out W (Far.trans (Far.of_new hN) hW)
   go_simp<;> with_reducible rfl
  simp only[Act.put,List.setIfInBounds_toArray,List.set_cons_zero,List.set_cons_succ])
 refine za8 rfl rfl (fun K hK=>?_);go_simp
 (with_reducible refine(P1.out _).mono ?_)
 rintro e w1 ⟨a,b,rfl,hr1,c1⟩;refine hK _ _ (Far.of_new c1) ?_;clear hK;replace hN:=New.trans hN c1;refine za8 rfl rfl (fun K hK=>?_);go_simp
 (with_reducible refine(P2.out _).mono ?_)
 rintro e w2 ⟨c,d,rfl,hr2,c2⟩;refine hK _ _ (Far.of_new c2) ?_;clear hK;replace hN:=New.trans hN c2;obtain⟨re,im,k1,k2⟩:=P3.out w2 a b c d hr1 hr2;have K2:=Hz k2;have m:=fun w:World=>run_complex_sum (P:=Tryz.prog) w .sub (.inr rfl) 218 .f64 a b c d re im k1
 clear k1 k2 hr1 hr2 P1 P2 P3;refine zaq rfl rfl (v:=?_) (fun W hW=>?_) ?_;rotate_left
 ·go_simp<;> with_reducible rfl
 simp only[Act.put,List.setIfInBounds_toArray,List.set_cons_zero,List.set_cons_succ];clear m;refine za8 rfl rfl (fun K hK=>?_);go_simp
 (with_reducible refine(K2.out _).mono ?_)
 rintro e w3 ⟨rfl,c3⟩;refine hK _ _ (Far.of_new c3) ?_;clear hK;replace hN:=New.trans hN c3;have C3:=HC.out.below hN HC.out.lt;obtain⟨z0,z1⟩:=za7 C3;have f0:=C3.frozen 0;have f1:=C3.frozen 1;have S3:=Hz (z0m C3 (a:= .int .i64 rx) (b:= .int .i64 ry));have hF:=zng (g:=w.heap.size+1+1) (.int .i64 rx) (.int .i64 ry) w3;clear C3;refine za8 rfl rfl (fun K hK=>?_);go_simp
 refine hK _ _ hF ?_;clear hK z0 z1 f0 f1;refine zb2 ?_;obtain⟨s0,s1⟩:=za7 S3.out;have bE:=New.far HB.out (Far.trans (Far.of_new hN) hF) (by omega);clear hF S3;go_wp2
 exact bodyPost_ret (v:= .agg #[.int .i64 rx,.int .i64 ry]) (by simp[results,Tryz.results240,go_sem,s0,s1]) rfl ⟨rfl,bE⟩
end Go.Proofs.Y
namespace Go.Hm
open Go Go.RowKit
section
variable{α:Type}{t:TypeId}{sz:Nat}{f:α->List Value}
abbrev z33(α:Type):=Option Addr × Nat × List α
def zlv(d:z33 α):Value:= .slice d.1 d.2.2.length d.2.1
theorem znl{D:List (z33 α)}{j:Nat}{d x:z33 α}(h:j<D.length):(D.set j x).getD j d=x:=by rw[List.getD_eq_getElem?_getD,List.getElem?_set_self h];rfl
theorem zwg{D:List (z33 α)}{i j:Nat}{d x:z33 α}(h:i≠j):(D.set j x).getD i d=D.getD i d:=by rw[List.getD_eq_getElem?_getD,List.getElem?_set_ne (by omega),List.getD_eq_getElem?_getD]
structure RowsAp(t:TypeId)(sz:Nat)(f:α->List Value)(w:World)(B:Nat)(D:List (z33 α)):Prop where
 rows:∀d∈D,w.ownsRow B t sz (zlv d) d.2.2.length (recs f d.2.2)
 apart:∀i j,i<D.length->j<D.length->i≠j->(zlv (D.getD i (none,0,[]))).ownBlock=none\/(zlv (D.getD i (none,0,[]))).ownBlock≠(zlv (D.getD j (none,0,[]))).ownBlock
theorem RowsAp.later{w w':World}{B:Nat}{D:List (z33 α)}(h:RowsAp t sz f w B D)(hb:New w w'):RowsAp t sz f w' B D:=⟨fun d hd=>zav (h.rows d hd) hb,h.apart⟩
theorem RowsAp.keepT{w w':World}{B g:Nat}{t':TypeId}{cs:Array Value}{D:List (z33 α)}(h:RowsAp t sz f w B D)(hT:Blk w g t' cs)(hne:t≠t')(hg:w.grownBy w' (some g)):RowsAp t sz f w' B D:=
 ⟨fun d hd=>World.ownsRow.kept (h.rows d hd) hg (.inr (zao (h.rows d hd) hT hne)),h.apart⟩
theorem RowsAp.nil{w:World}{B n:Nat}:RowsAp t sz f w B (List.replicate n (none,0,[])):=by
 refine⟨fun d hd=>?_,fun i j hi hj hne=>?_⟩
 ·rw[List.eq_of_mem_replicate hd]
  exact zcp
 ·rw[List.length_replicate] at hi
  left;rw[List.getD_eq_getElem?_getD,List.getElem?_replicate,if_pos hi];rfl
theorem z87{D:List (z33 α)}{j:Nat}(h:j<D.length):D.getD j (none,0,[])∈D:=by rw[List.getD_eq_getElem?_getD,List.getElem?_eq_getElem h];exact List.getElem_mem h
theorem RowsAp.at_{w:World}{B j:Nat}{D:List (z33 α)}(h:RowsAp t sz f w B D)(hj:j<D.length):w.ownsRow B t sz (zlv (D.getD j (none,0,[]))) (D.getD j (none,0,[])).2.2.length (recs f (D.getD j (none,0,[])).2.2):=h.rows _ (z87 hj)
theorem RowsAp.put{w w':World}{B j:Nat}{D:List (z33 α)}{d:z33 α}(h:RowsAp t sz f w B D)(hj:j<D.length)(hd:w'.ownsRow B t sz (zlv d) d.2.2.length (recs f d.2.2))(hg:w.grownBy w' (zlv (D.getD j (none,0,[]))).ownBlock)
 (hat:(zlv d).ownBlock=(zlv (D.getD j (none,0,[]))).ownBlock\/ ∃g,(zlv d).ownBlock=some g/\w.heap.size<=g):RowsAp t sz f w' B (D.set j d):=by
 have hap:∀i,i<D.length->i≠j->(zlv (D.getD i (none,0,[]))).ownBlock=none\/(zlv (D.getD i (none,0,[]))).ownBlock≠(zlv d).ownBlock:=by
  intro i hi hne;rcases hat with hat|⟨g,hat,hgg⟩
  ·rw[hat]
   exact h.apart i j hi hj hne
  ·rcases hu:(zlv (D.getD i (none,0,[]))).ownBlock with _|k
   ·exact .inl rfl
   ·right
    rw[hat];intro e;injection e with e;have:=(World.ownsRow.lt (h.at_ hi) _ hu).2;omega
 refine⟨fun x hx=>?_,fun i k hi hk hne=>?_⟩
 ·obtain⟨i,hi,rfl⟩:=List.getElem_of_mem hx
  have e:(D.set j d)[i]'hi=(D.set j d).getD i (none,0,[]):=by rw[List.getD_eq_getElem?_getD,List.getElem?_eq_getElem hi];rfl
  have hi:i<D.length:=by simpa using hi
  rw[e];by_cases hij:i=j
  ·subst hij
   rw[znl hj];exact hd
  ·rw[zwg hij]
   exact World.ownsRow.kept (h.at_ hi) hg (h.apart i j hi hj hij)
 ·rw[List.length_set] at hi hk
  by_cases hij:i=j
  ·subst hij
   rw[znl hi,zwg (fun e=>hne e.symm)];exact zf0 (hap k hk (fun e=>hne e.symm))
  ·rw[zwg hij]
   by_cases hkj:k=j
   ·subst hkj
    rw[znl hk];exact hap i hi hij
   ·rw[zwg hkj]
    exact h.apart i k hi hk hne
end
end Go.Hm
