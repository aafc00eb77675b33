/- Merged. -/
import Derived.Test.YtbahbnbpmfgimaaGreatDoorBun13
set_option maxHeartbeats 4000000
namespace Go.Proofs.Y
open Go.RowKit Go.Hm
theorem qc4{L:List zab}(hR:∀c∈L,zaf c 1 false=true)(hn:L.length<=65536):zqt (zdz L) 1=some (plB 1 L):=by refine(zfz (zdz L) 1 (by omega) (by unfold zdz;rw[qpg];omega) (zoy hR)).trans ?_;unfold plB;rw[if_pos rfl];unfold zdz;rw[qpg]
theorem zk6{w:World}{t n:Int}:Calls Tryz.prog 145 #[.int .i64 t,.int .i64 n] w (zdm (.bool (decide (0<=t/\t<=3/\0<=n/\n<=65536))) w):=by
 by_cases h1:0<=t;all_goals try by_cases h2:t<=3
 all_goals try by_cases h3:0<=n
 all_goals try by_cases h4:n<=65536
 all_goals
  go_enter Tryz.func145,Tryz.ntmps145
  go_wp2
  go_ret
  exact⟨by simp;try omega,rfl⟩
set_option maxRecDepth 100000 in
theorem zmz{w:World}{t:Int}{A:Option Addr}{n c:Nat}{L:List zab}(h:Reads w w.heap.size 5 A n (recs za0 L))(hL:∀y∈L,y.2.2.1.length<=140737488351232)(hn:n<=4611686018427387903):
 Calls Tryz.prog 146 #[.int .i64 t,.slice A n c] w (zal (.bool (L.all fun c=>zaf c t false)) w):=by
 obtain rfl:=h.lenCell;have HR:=Hz h;have HL:=Hz hL;clear h hL;obtain⟨M,hM⟩:∃M,M=L.all fun c=>zaf c t false:=⟨_,rfl⟩
 rw[<-hM];have HM:=Hz hM;clear hM;go_enter Tryz.func146,Tryz.ntmps146
 go_wp2_with fail
 go_loopw [9] (fun i wr=>∃k:Nat,k<=L.length/\i= .int .i64 (k:Int)/\New w wr/\Hid (∀c∈L.take k,zaf c t false=true)) (fun i _=>L.length-(intOf i).toNat)
 case atStart=>exact⟨0,qmu _,rfl,New.refl _,Hz (by simp)⟩
 case round=>
  obtain⟨k,hk,rfl,hW,hr⟩:=hrel;by_cases hlt:k<L.length
  ·obtain⟨ad,rfl,hb,d0,d1,d2,d3,d4⟩:=(Reads.later HR.out hW).cell5 hlt
   have htk:=zad L k (false,0,[],0,0) hlt;have hmem:L.getD k (false,0,[],0,0)∈L:=by rw[qoa,qmm hlt];exact qm8 hlt
   have hy:=HL.out _ hmem;have R1:=fun(W:World)=>zf0 (w:=W) (b:=(L.getD k (false,0,[],0,0)).1) (n:=(L.getD k (false,0,[],0,0)).2.1) (s:=(L.getD k (false,0,[],0,0)).2.2.1) (x:=(L.getD k (false,0,[],0,0)).2.2.2.1) (y:=(L.getD k (false,0,[],0,0)).2.2.2.2) (cn:=[]) (t:=t) (nu:=false) hy
   have hno:zaf (L.getD k (false,0,[],0,0)) t false=false->M=false:=fun e=>by
    rw[HM.out];refine qqv.2 fun e2=>?_
    have:=(qo4.1 e2) _ hmem;rw[e] at this;cases this
   have hyes:zaf (L.getD k (false,0,[],0,0)) t false=true-> ∀c∈L.take (k+1),zaf c t false=true:=fun e c hc=>by
    rw[htk] at hc;rcases qny.1 hc with hc|hc
    ·exact hr.out c hc
    ·rw[qnz.1 hc];exact e
   clear htk hmem hy hr;generalize L.getD k (false,0,[],0,0)=y at*;obtain⟨y0,y1,y2,y3,y4⟩:=y;dsimp only at R1 d0 d1 d2 d3 d4;generalize zaf (y0,y1,y2,y3,y4) t false=m at*;have R1:Hid (∀W,Calls Tryz.prog 83 #[.agg #[.bool y0,.int .i64 y1,.string (zae y2),.int .i64 y3,.int .i64 y4],.agg #[.string ⟨#[]⟩,.int .i64 t,.bool false]] W (zal (.bool m) W)):=Hz R1;have hno:=Hz hno;have hyes:=Hz hyes;have ha:New wr (wr.alloc (.cells #[.bool y0,.int .i64 y1,.string (zae y2),.int .i64 y3,.int .i64 y4] 75)):=(Below.refl _ _).alloc (qmt _) _;go_wp2_with fail
   refine(R1.out _).mono ?_;rintro e w1 ⟨rfl,b1⟩;have hl:=New.trans (New.trans hW ha) b1;cases m with
   |false=>
    have hm:=hno.out (by trivial);have HM2:=Hz hm;clear hno hyes hm;go_wp2_with fail
    go_ret
    exact⟨by rw[HM2.out];rfl,hl⟩
   |true=>
    have hy2:=hyes.out (by trivial);have HY2:=Hz hy2;clear hno hyes hy2;go_wp2_with fail
    go_roundw
    case rel=>exact⟨k+1,by omega,by go_num,hl,HY2⟩
    case measure=>simp[intOf];omega
  ·obtain rfl:k=L.length:=by omega
   have hr2:=hr.out;rw[qql] at hr2;have HM2:Hid (M=true):=Hz (by rw[HM.out];exact qo4.2 hr2);clear hr hr2;go_wp2_with fail
   go_ret
   exact⟨by rw[HM2.out];rfl,hW⟩
theorem qc5(L:List zab)(k:Nat)(h:k<L.length):(zdz (L.take k)++List.replicate (L.length-k) 0).set k (u64N (L.getD k (false,0,[],0,0)).2.1)=zdz (L.take (k+1))++List.replicate (L.length-(k+1)) 0:=by
 have hl:(zdz (L.take k)).length=k:=by unfold zdz;rw[qpg,qmq];omega
 rw[qor _ _ (by omega),hl,qos,show L.length-k=(L.length-(k+1))+1 by omega,qot,qou,zad L k (false,0,[],0,0) h];unfold zdz;rw[qp6,qm5];rfl
theorem zu8(n:Int):IntKind.u64.wrap n=(u64N n:Int):=by rw[IntKind.wrap_u64];unfold u64N;omega
set_option maxRecDepth 100000 in
theorem zs9{w:World}{A:Option Addr}{n c:Nat}{L:List zab}(h:Reads w w.heap.size 5 A n (recs za0 L))(hn:n<=65536):
 Calls Tryz.prog 147 #[.slice A n c] w (OptB (zqt (zdz L) 1) w):=by
 obtain rfl:=h.lenCell;have HR:=Hz h;clear h;go_enter Tryz.func147,Tryz.ntmps147
 go_wp2_with (first
  |(refine zca elW rfl (.tmp 8) (.tmp 8) rfl (W:=w) (B:=w.heap.size) L.length L.length rfl rfl rfl rfl (by omega) (Below.refl _ _) (qmt _) rfl (by omega) (by simp only[maxLen];omega) ?_
    intro w3 hown3 hg3 hb3 hs3))
 go_loopw [12] (fun i wr=>∃k:Nat,k<=L.length/\i= .int .i64 (k:Int)/\Own wr w.heap.size 138 (.slice (some ⟨w.heap.size,0,none⟩) L.length L.length) (zan .u64 (zdz (L.take k)++List.replicate (L.length-k) 0))/\Below w.heap.size w wr) (fun i _=>L.length-(intOf i).toNat)
 case atStart=>exact⟨0,qmu _,rfl,by simpa[zb1,zdz] using hown3,hb3⟩
 case round=>
  obtain⟨k,hk,rfl,hown,hbl⟩:=hrel;clear hown3 hg3 hb3 hs3;by_cases hlt:k<L.length
  ·obtain⟨ad,rfl,hb,d0,d1,d2,d3,d4⟩:=(Reads.later HR.out hbl).cell5 hlt
   have hset:=qc5 L k hlt;have hwr:=zu8 (L.getD k (false,0,[],0,0)).2.1;have hsz:=hbl.size;generalize L.getD k (false,0,[],0,0)=y at*;obtain⟨y0,y1,y2,y3,y4⟩:=y;dsimp only at hset hwr d0 d1 d2 d3 d4;generalize u64N y1=z at*;have ha:New wr (wr.alloc (.cells #[.bool y0,.int .i64 y1,.string (zae y2),.int .i64 y3,.int .i64 y4] 75)):=(Below.refl _ _).alloc (qmt _) _;obtain⟨hg0,hgl,hc,hf,hs⟩:=(hown.later ha).num0 (i:=k) hlt;have hs:=hs z;rw[hset] at hs;have HS:=Hz hs;have hbl2:=New.trans hbl ha;have HB:=Hz (hbl2.setCell (p:=⟨w.heap.size,k,none⟩) (qmt _) (.int .u64 (z:Int)));clear hset hs hown;go_wp2_with fail
   go_roundw
   case rel=>exact⟨k+1,by omega,by go_num,HS.out,HB.out⟩
   case measure=>simp[intOf];omega
  ·obtain rfl:k=L.length:=by omega
   rw[qos,qqd,qm3,qql] at hown;have P:=Hz (znn (c:=L.length) 1 hown.reads (fun x hx=>by unfold zdz at hx;obtain⟨y,_,rfl⟩:=qmn.1 hx;have:=zyc y.2.1;omega) (by omega) (by omega) (by omega));go_wp2_with fail
   refine P.out.mono ?_;intro e w5 h5;have hz:=hbl.size;generalize zqt (zdz L) 1=o at*;cases o with
   |none=>
    obtain⟨rfl,b5⟩:=h5;go_wp2_with fail
    go_ret2
    exact⟨rfl,hbl.trans (Below.mono b5 hz)⟩
   |some l=>
    obtain⟨A5,n5,c5,rfl,o5,b5⟩:=h5;go_wp2_with fail
    go_ret2
    exact⟨_,_,_,rfl,o5.base_le hz,hbl.trans (Below.mono b5 hz)⟩
theorem qjo:(vp 18446744073709551615).length=10:=by rw[zf3 (by omega),zf3 (by omega),zf3 (by omega),zf3 (by omega),zf3 (by omega),zf3 (by omega),zf3 (by omega),zf3 (by omega),zf3 (by omega),zf2 (by omega)];rfl
def qc6(w:World)(e:Ending)(w':World):Prop:=∃r:Nat,e= .returned (.int .i64 (r:Int))/\r<=10000000000/\New w w'
set_option maxRecDepth 100000 in
theorem qc7{w:World}{A:Option Addr}{n c:Nat}{L:List zab}(h:Reads w w.heap.size 5 A n (recs za0 L))(hn:n<=65536)(hL:∀y∈L,y.2.2.1.length<=65536):
 Calls Tryz.prog 148 #[.slice A n c] w (qc6 w):=by
 obtain rfl:=h.lenCell;have HR:=Hz h;have HL:=Hz hL;clear h hL;go_enter Tryz.func148,Tryz.ntmps148
 go_wp2_with fail
 go_loopw [3,8] (fun v i wr=>∃k r:Nat,k<=L.length/\i= .int .i64 (k:Int)/\v= .int .i64 (r:Int)/\r<=k*65546/\New w wr) (fun _ i _=>L.length-(intOf i).toNat)
 case atStart=>exact⟨0,0,qmu _,rfl,rfl,by omega,New.refl _⟩
 case round=>
  obtain⟨k,r,hk,rfl,rfl,hr,hW⟩:=hrel;by_cases hlt:k<L.length
  ·obtain⟨ad,rfl,hb,d0,d1,d2,d3,d4⟩:=(Reads.later HR.out hW).cell5 hlt
   have hy:=HL.out (L.getD k (false,0,[],0,0)) (by rw[qoa,qmm hlt];exact qm8 hlt);generalize L.getD k (false,0,[],0,0)=y at*;obtain⟨y0,y1,y2,y3,y4⟩:=y;dsimp only at hy d0 d1 d2 d3 d4;have zs:=zbt y2;have HY:=Hz (Blk.new wr 75 #[.bool y0,.int .i64 y1,.string (zae y2),.int .i64 y3,.int .i64 y4]);have ha:New wr (wr.alloc (.cells #[.bool y0,.int .i64 y1,.string (zae y2),.int .i64 y3,.int .i64 y4] 75)):=(Below.refl _ _).alloc (qmt _) _;have SZ:Hid (∀W,Calls Tryz.prog 132 #[.int .u64 18446744073709551615] W (zdm (.int .i64 10) W)):=Hz fun W=>(z0k 18446744073709551615 W (by omega)).mono (by rintro e w' ⟨rfl,rfl⟩;exact⟨by rw[qjo];rfl,rfl⟩)
   have w1:IntKind.i64.wrap (10+(y2.length:Int))=10+(y2.length:Int):=IntWalk.i64_in _ (by omega);have w2:IntKind.i64.wrap ((r:Int)+(10+(y2.length:Int)))=(r:Int)+(10+(y2.length:Int)):=IntWalk.i64_in _ (by omega);go_wp2_with fail
   refine zax New [(true,0),(true,2),(true,3),(true,4),(false,1),(true,5),(true,6),(true,7)] New.refl New.trans (by kernel_rfl) (by kernel_rfl) (by kernel_rfl) (by kernel_rfl) ?_;have hU:=New.drew (wr.alloc (.cells #[.bool y0,.int .i64 y1,.string (zae y2),.int .i64 y3,.int .i64 y4] 75));repeat(first
    |(refine zba rfl rfl (fun K hK=>?_);go_simp
      (with_reducible refine(SZ.out _).mono ?_);rintro e w6 ⟨rfl,rfl⟩
      refine hK _ _ (New.refl _) ?_;clear hK)
    |(refine qgj rfl rfl ?_;simp only[Act.put,qo6,qou,qo7])
    |(refine zar rfl rfl (v:=?_) (fun W hQ=>?_) ?_;rotate_left;(obtain⟨z0,z1,z2,z3,z4⟩:=zcs (HY.out.below (New.trans hU hQ) HY.out.lt);go_simp<;> with_reducible rfl);simp only[Act.put,qo6,qou,qo7]))
   refine zdh ?_;go_wp2_with fail
   go_roundw
   case rel=>exact⟨k+1,r+(10+y2.length),by omega,by go_num,by simp,by omega,New.trans (New.trans hW ha) hU⟩
   case measure=>simp[intOf];omega
  ·obtain rfl:k=L.length:=by omega
   go_wp2_with fail
   go_ret
   exact⟨r,rfl,by omega,hW⟩
end Go.Proofs.Y
namespace Go.Hm
open Go Go.RowKit
theorem zyf{c:zab}(h:zaf c 3 false=true):c.2.2.1=[]:=by have h0:=zk5 h;unfold zaf at h;rw[h0] at h;simp at h;exact h.1.2
theorem zta{c:zab}{t:Int}(h:zaf c t false=true):t=0\/t=1\/t=2\/t=3:=by
 have h0:=zk5 h;unfold zaf at h;rw[h0] at h;by_cases h1:t=0
 ·exact .inl h1
 ·by_cases h2:t=1
  ·exact .inr (.inl h2)
  ·by_cases h3:t=2
   ·exact .inr (.inr (.inl h3))
   ·by_cases h4:t=3
    ·exact .inr (.inr (.inr h4))
    ·simp[h1,h2,h3,h4] at h
end Go.Hm
namespace Go.Proofs.Y
open Go.RowKit Go.Hm
def qlv(W0:World)(B base:Nat)(l:List Nat)(e:Ending)(w':World):Prop:=∃A n c,e= .returned (.slice A n c)/\Own w' base 5 (.slice A n c) (zan .u8 l)/\Below B W0 w'
set_option maxRecDepth 100000 in
theorem qhj{w W0:World}{B base:Nat}{A:Option Addr}{n cap:Nat}{l:List Nat}{t:Int}{c:zab}(o:Own w base 5 (.slice A n cap) (zan .u8 l))(hb:Below B W0 w)(hbB:B<=base)(hbase:base<=w.heap.size)(hn:n<=100000000000)
 (hr:zaf c t false=true)(ht:t≠1)(h8:∀z∈c.2.2.1,z<256)(hi: -9223372036854775808<=c.2.1/\c.2.1<=9223372036854775807):
 Calls Tryz.prog 149 #[.slice A n cap,.int .i64 t,zc2 c] w (qlv W0 B base (l++plE t c)):=by
 have h2:=fun(e:t=2)=>z7c (by rw[<-e];exact hr)
 have h3:=fun(e:t=3)=>zox (by rw[<-e];exact hr)
 have h4:=fun(e:t=3)=>zyf (by rw[<-e];exact hr)
 have h1:=zta hr;clear hr;obtain⟨y0,y1,y2,y3,y4⟩:=c;dsimp only at h2 h3 h4 h8 hi;unfold plE;dsimp only;show Calls Tryz.prog 149 #[.slice A n cap,.int .i64 t,.agg #[.bool y0,.int .i64 y1,.string (zae y2),.int .i64 y3,.int .i64 y4]] w _;have B0:=Blk.new w 75 #[.bool y0,.int .i64 y1,.string (zae y2),.int .i64 y3,.int .i64 y4];obtain⟨x0,x1,x2,x3,x4⟩:=zcs B0;have ha:New w (w.alloc (.cells #[.bool y0,.int .i64 y1,.string (zae y2),.int .i64 y3,.int .i64 y4] 75)):=(Below.refl _ _).alloc (qmt _) _;have o1:=o.later ha;have b1:Below B W0 (w.alloc (.cells #[.bool y0,.int .i64 y1,.string (zae y2),.int .i64 y3,.int .i64 y4] 75)):=hb.trans (Below.mono ha (by omega));have zs:=zbt y2;have hz1:=ha.size;clear o hb;rcases h1 with rfl|rfl|rfl|rfl
 ·rw[if_pos rfl]
  have HL:=Hz (zbg (u64N y1) 8);have U:=Hz (fun(W:World)=>z6o (w:=W) (A:=none) (n:=0) (c:=0) (l:=[]) (u64N y1) Reads.none_ (by omega));have hw:=zu8 y1;generalize u64N y1=z at*;go_enter Tryz.func149,Tryz.ntmps149
  go_wp2_with fail
  refine(U.out _).mono ?_;rintro e w2 ⟨A2,n2,c2,rfl,k2,b2⟩;rw[qnk] at k2;have o2:=o1.later b2;have b02:Below B W0 w2:=b1.trans (Below.mono b2 (by omega));have q2:n2<=8:=by have:=k2.len;rw[zaa,HL.out] at this;omega
  have hz2:=b2.size;have r2:=k2.reads;clear k2 b2
  go_wp2_with (refine zam elB rfl (.tmp 19) (.tmp 23) rfl (W:=W0) (B:=B) o2 r2 rfl rfl b02 hbB (by omega) (by omega) (by simp only[maxLen];omega) ?_
               intro A3 c3 w3 _ _ o3 _ b3 _)
  go_ret
  exact⟨_,_,_,rfl,o3,b3⟩
 ·exact absurd rfl ht
 ·rw[if_neg (by decide),if_pos rfl]
  have hl2:=h2 rfl;have V:=Hz (zap (n:=y2.length) (by omega));have P:=Hz (fun(W:World)=>zc1 none 0 0 [] y2.length W Reads.none_ (by omega) (by omega));have hw:IntKind.u64.wrap (y2.length:Int)=(y2.length:Int):=by rw[IntKind.wrap_u64];omega
  clear h2 h3 h4;go_enter Tryz.func149,Tryz.ntmps149
  go_wp2_with fail
  refine(P.out _).mono ?_;rintro e w2 ⟨A2,n2,c2,rfl,k2,b2⟩;rw[qnk] at k2;have o2:=o1.later b2;have b02:Below B W0 w2:=b1.trans (Below.mono b2 (by omega));have q2:n2<=10:=by have:=k2.len;rw[zaa] at this;have:=V.out;omega
  have hz2:=b2.size;have r2:=k2.reads;have B2:=B0.below b2 B0.lt;clear k2 b2 x0 x1 x2 x3 x4;go_wp2_with (first
   |(refine zam elB rfl (.tmp 36) (.tmp 38) rfl (W:=W0) (B:=B) o2 r2 rfl rfl b02 hbB (by omega) (by omega) (by simp only[maxLen];omega) ?_
     intro A3 c3 w3 _ _ o3 g3 b3 _;obtain⟨x0,x1,x2,x3,x4⟩:=zcs (B2.push o2 g3 (by decide));have hz3:=g3.size)
   |(refine zd6 elB qfj rfl (.tmp 40) (.tmp 42) rfl (W:=W0) (B:=B) o3 h8 rfl rfl b3 hbB (by omega) (by omega) ?_
     intro A4 c4 w4 _ _ o4 _ b4))
  go_ret
  exact⟨_,_,_,rfl,by rw[<-qm5];exact o4,b4⟩
 ·rw[if_neg (by decide),if_neg (by decide),if_pos rfl]
  obtain⟨⟨p1,p2⟩,p3,p4⟩:=h3 rfl;have he:=h4 rfl;subst he;have V1:=Hz (zap (n:=zig y3) (by unfold zig;split<;> omega));have V2:=Hz (zap (n:=zig y4) (by unfold zig;split<;> omega));have Z1:=Hz (fun(W:World)=>zot y3 W (by omega) (by omega));have Z2:=Hz (fun(W:World)=>zot y4 W (by omega) (by omega));have P1:=Hz (fun(W:World)=>zc1 none 0 0 [] (zig y3) W Reads.none_ (by omega) (by unfold zig;split<;> omega));have P2:=Hz (fun(W:World)=>zc1 none 0 0 [] (zig y4) W Reads.none_ (by omega) (by unfold zig;split<;> omega));clear h2 h3 h4;generalize zig y3=z3 at*;generalize zig y4=z4 at*;go_enter Tryz.func149,Tryz.ntmps149
  go_wp2_with fail
  refine(Z1.out _).mono ?_;rintro e w2 ⟨rfl,rfl⟩;go_wp2_with fail
  refine(P1.out _).mono ?_;rintro e w2 ⟨A2,n2,c2,rfl,k2,b2⟩;rw[qnk] at k2;have o2:=o1.later b2;have b02:Below B W0 w2:=b1.trans (Below.mono b2 (by omega));have q2:n2<=10:=by have:=k2.len;rw[zaa] at this;have:=V1.out;omega
  have hz2:=b2.size;have r2:=k2.reads;have B2:=B0.below b2 B0.lt;clear k2 b2 x0 x1 x2 x3 x4
  go_wp2_with (refine zam elB rfl (.tmp 25) (.tmp 30) rfl (W:=W0) (B:=B) o2 r2 rfl rfl b02 hbB (by omega) (by omega) (by simp only[maxLen];omega) ?_
               intro A3 c3 w3 _ _ o3 g3 b3 _;have B3:=B2.push o2 g3 (by decide);obtain⟨x0,x1,x2,x3,x4⟩:=zcs B3;have hz3:=g3.size)
  refine(Z2.out _).mono ?_;rintro e w4 ⟨rfl,rfl⟩;go_wp2_with fail
  refine(P2.out _).mono ?_;rintro e w4 ⟨A4,n4,c4,rfl,k4,b4⟩;rw[qnk] at k4;have o4:=o3.later b4;have b04:Below B W0 w4:=b3.trans (Below.mono b4 (by omega));have q4:n4<=10:=by have:=k4.len;rw[zaa] at this;have:=V2.out;omega
  have hz4:=b4.size;have r4:=k4.reads;have B4:=B3.below b4 B3.lt;clear k4 b4 x0 x1 x2 x3 x4;go_wp2_with (first
   |(refine zam elB rfl (.tmp 36) (.tmp 38) rfl (W:=W0) (B:=B) o4 r4 rfl rfl b04 hbB (by omega) (by omega) (by simp only[maxLen];omega) ?_
     intro A5 c5 w5 _ _ o5 g5 b5 _;obtain⟨x0,x1,x2,x3,x4⟩:=zcs (B4.push o4 g5 (by decide));have hz5:=g5.size)
   |(refine zd6 elB qfj rfl (.tmp 40) (.tmp 42) rfl (W:=W0) (B:=B) o5 (l2:=[]) (by simp) rfl rfl b5 hbB (by omega) (by simp;omega) ?_
     intro A6 c6 w6 _ _ o6 _ b6))
  go_ret
  exact⟨_,_,_,rfl,by rw[qm3] at o6;rw[<-qm5];exact o6,b6⟩
theorem z7e{t:Int}{L:List zab}{k:Nat}(h:k<L.length):(L.take (k+1)).flatMap (plE t)=(L.take k).flatMap (plE t)++plE t (L.getD k (false,0,[],0,0)):=by rw[zad L k (false,0,[],0,0) h,qp8];simp
theorem ztb{t:Int}:∀l:List zab,(∀c∈l,zaf c t false=true)->(∀c∈l,c.2.2.1.length<=65536)->(l.flatMap (plE t)).length<=l.length*65556
 | [],_,_=>by simp
 |c::l,h,k=>by
  have a:=ztb l (fun d hd=>h d (by simp[hd])) (fun d hd=>k d (by simp[hd]));have b:=zyd (h c (by simp));have d:=k c (by simp);rw[qp1,qni,qnu];omega
theorem zjc{c:zab}{t:Int}(h:zaf c t false=true):c.2.2.1.length<=65536:=by
 have h0:=zk5 h;rcases zta h with rfl|rfl|rfl|rfl
 ·unfold zaf at h
  rw[h0] at h;simp at h;rw[h.1];simp
 ·unfold zaf at h
  rw[h0] at h;simp at h;rw[h.1.1];simp
 ·exact z7c h
 ·rw[zyf h]
  simp
def zaq(c:zab):Prop:=(c.2.2.1.length<=140737488351232/\ ∀z∈c.2.2.1,z<256)/\ -9223372036854775808<=c.2.1/\c.2.1<=9223372036854775807
set_option maxRecDepth 100000 in
theorem zk8{w:World}{t:Int}{A:Option Addr}{n c:Nat}{L:List zab}(h:Reads w w.heap.size 5 A n (recs za0 L))(hL:∀y∈L,zaq y)(hn:n<=4611686018427387903):
 Calls Tryz.prog 134 #[.int .i64 t,.slice A n c] w (OptB (plO t L) w):=by
 obtain rfl:=h.lenCell;have HR:=Hz h;have AR:=Hz (zmz (t:=t) (c:=c) h (fun y hy=>(hL y hy).1.1) hn);have KN:=Hz (zk6 (w:=w) (t:=t) (n:=(L.length:Int)));have ek:zk4 t L=(decide (0<=t/\t<=3/\0<=(L.length:Int)/\(L.length:Int)<=65536)&&L.all fun c=>zaf c t false):=by
  unfold zk4;congr 1
  rw[decide_eq_decide];omega
 obtain⟨M,hM⟩:∃M,M=plO t L:=⟨_,rfl⟩;rw[<-hM];unfold plO at hM;by_cases hk:(0<=t/\t<=3/\0<=(L.length:Int)/\(L.length:Int)<=65536)
 ·rw[decide_eq_true hk] at KN ek
  cases ha:L.all fun c=>zaf c t false with
  |false=>
   rw[ha] at AR;rw[ek,ha] at hM;simp at hM;have HM:=Hz hM;clear hM ek ha hL h;go_enter Tryz.func134,Tryz.ntmps134
   go_wp2_with fail
   refine KN.out.mono ?_;rintro e w1 ⟨rfl,rfl⟩;go_wp2_with fail
   refine AR.out.mono ?_;rintro e w1 ⟨rfl,b1⟩;go_wp2_with fail
   go_ret2
   rw[HM.out];exact⟨rfl,b1⟩
  |true=>
   rw[ha] at AR;rw[ek,ha] at hM;simp at hM;have hR:=qo4.1 ha;have hn2:L.length<=65536:=by omega
   by_cases h1:t=1
   ·subst h1
    have hP:=zfz (zdz L) 1 (by omega) (by unfold zdz;rw[qpg];omega) (zoy hR);have hM2:M=zqt (zdz L) 1:=by rw[hM];unfold plB;rw[if_pos rfl];refine Eq.trans ?_ hP.symm;unfold zdz;rw[qpg]
    have HM:=Hz hM2;have PB:=Hz (fun(W:World) (hW:New w W)=>zs9 (c:=c) (Reads.later HR.out hW) hn2);clear hM hM2 hP ek ha hR hL h;go_enter Tryz.func134,Tryz.ntmps134
    go_wp2_with fail
    refine KN.out.mono ?_;rintro e w1 ⟨rfl,rfl⟩;go_wp2_with fail
    refine AR.out.mono ?_;rintro e w1 ⟨rfl,b1⟩;go_wp2_with fail
    refine(PB.out _ b1).mono ?_;intro e w2 h2;rw[<-HM.out] at h2;cases M with
    |none=>
     obtain⟨rfl,b2⟩:=h2;go_wp2_with fail
     go_ret2
     exact⟨rfl,New.trans b1 b2⟩
    |some l=>
     obtain⟨A2,n2,c2,rfl,o2,b2⟩:=h2;go_wp2_with fail
     go_ret2
     exact⟨_,_,_,rfl,o2.base_le b1.size,New.trans b1 b2⟩
   ·have hM2:M=some (L.flatMap (plE t)):=by rw[hM];unfold plB;rw[if_neg h1]
    have HM:=Hz hM2;have HR2:=Hz hR;have hx:∀c∈L,c.2.2.1.length<=65536:=fun c hc=>zjc (hR c hc)
    have HX:=Hz hx;have HD:=Hz hL;have RM:=Hz (fun(W:World) (hW:New w W)=>qc7 (c:=c) (Reads.later HR.out hW) hn2 hx);clear hM hM2 ek ha hR hL h hx;go_enter Tryz.func134,Tryz.ntmps134
    go_wp2_with fail
    refine KN.out.mono ?_;rintro e w1 ⟨rfl,rfl⟩;go_wp2_with fail
    refine AR.out.mono ?_;rintro e w1 ⟨rfl,b1⟩;go_wp2_with fail
    refine(RM.out _ b1).mono ?_;rintro e w2 ⟨r,rfl,hr,b2⟩;have b02:=New.trans b1 b2;have hz2:=b02.size
    go_wp2_with (refine zca elB rfl (.const (.int .i64 0)) (.tmp 27) rfl (W:=w) (B:=w.heap.size) 0 r rfl rfl rfl rfl (by omega) b02 hz2 rfl (by omega) (by simp only[maxLen];omega) ?_
                 intro w3 o3 _ b3 hs3)
    go_loopw [6,31] (fun v i wr=>∃(k m cc:Nat) (AA:Option Addr),k<=L.length/\i= .int .i64 (k:Int)/\v= .slice AA m cc/\Own wr w.heap.size 5 (.slice AA m cc) (zan .u8 ((L.take k).flatMap (plE t)))/\Below w.heap.size w wr) (fun _ i _=>L.length-(intOf i).toNat)
    case atStart=>exact⟨0,0,r,_,qmu _,rfl,rfl,by have:=o3.base_le hz2;simpa[zan] using this,b3⟩
    case round=>
     obtain⟨k,m,cc,AA,hk2,rfl,rfl,o,b⟩:=hrel;clear o3 b3 hs3 b1 b2 b02 hz2;by_cases hlt:k<L.length
     ·obtain⟨ad,rfl,hb,d0,d1,d2,d3,d4⟩:=(Reads.later HR.out b).cell5 hlt
      have hmem:L.getD k (false,0,[],0,0)∈L:=by rw[qoa,qmm hlt];exact qm8 hlt
      have hfs:=z7e (t:=t) hlt;have hfl:=ztb (L.take k) (fun c hc=>HR2.out c (qnh hc)) (fun c hc=>HX.out c (qnh hc));rw[qmq] at hfl;have hm:m<=100000000000:=by have:=o.len;rw[zaa] at this;have:=Nat.min_le_left k L.length;omega
      have h8:=HD.out _ hmem;have hry:=HR2.out _ hmem;clear hmem hfl;generalize L.getD k (false,0,[],0,0)=y at*;have hz:=b.size;have ha:New wr (wr.alloc (.cells (za0 y).toArray 75)):=(Below.refl _ _).alloc (qmt _) _;have LY:=qhj (W0:=w) (B:=w.heap.size) (o.later ha) (b.trans (Below.mono ha hz)) (qmt _) (by have:=ha.size;omega) hm hry h1 h8.1.2 h8.2;rw[<-hfs] at LY;obtain⟨y0,y1,y2,y3,y4⟩:=y;have LY:Hid (Calls Tryz.prog 149 #[.slice AA m cc,.int .i64 t,.agg #[.bool y0,.int .i64 y1,.string (zae y2),.int .i64 y3,.int .i64 y4]] (wr.alloc (.cells #[.bool y0,.int .i64 y1,.string (zae y2),.int .i64 y3,.int .i64 y4] 75)) (qlv w w.heap.size w.heap.size ((L.take (k+1)).flatMap (plE t)))):=Hz LY;dsimp only at d0 d1 d2 d3 d4;clear hfs o b h8 hry;go_wp2_with fail
      refine LY.out.mono ?_;rintro e w5 ⟨A5,n5,c5,rfl,o5,b5⟩;go_wp2_with fail
      go_roundw
      case rel=>exact⟨k+1,n5,c5,A5,by omega,by go_num,rfl,o5,b5⟩
      case measure=>simp[intOf];omega
     ·obtain rfl:k=L.length:=by omega
      rw[qql] at o;go_wp2_with fail
      go_ret2
      rw[HM.out];exact⟨_,_,_,rfl,o,b⟩
 ·rw[decide_eq_false hk] at KN ek
  rw[ek] at hM;simp at hM;have HM:=Hz hM;clear hM ek AR hL h;go_enter Tryz.func134,Tryz.ntmps134
  go_wp2_with fail
  refine KN.out.mono ?_;rintro e w1 ⟨rfl,rfl⟩;go_wp2_with fail
  go_ret2
  rw[HM.out];exact⟨rfl,Below.refl _ _⟩
end Go.Proofs.Y
