import Derived.Test.YtbahbnbpmfgimaaGreatDoorBun11
set_option maxHeartbeats 4000000
set_option maxRecDepth 100000
namespace Go.Proofs.Y
open Go.RowKit Go.Hm
theorem qck{L:List zab}(hR:∀c∈L,zam c 1 false=true)(hn:L.length<=65536):zq1 (zeg L) 1=some (plB 1 L):=by refine(zf9 (zeg L) 1 (by omega) (by unfold zeg;rw[qos];omega) (zpc hR)).trans ?_;unfold plB;rw[if_pos rfl];unfold zeg;rw[qos]
theorem zlb{w:World}{t n:Int}:Calls Tryz.prog 145 #[.int .i64 t,.int .i64 n] w (zcv (.bool (decide (0<=t/\t<=3/\0<=n/\n<=65536))) w):=by
 by_cases h1:0<=t;all_goals try by_cases h2:t<=3
 all_goals try by_cases h3:0<=n
 all_goals try by_cases h4:n<=65536
 all_goals
  go_enter Tryz.func145,Tryz.ntmps145
  go_wp2
  go_ret
  exact⟨by simp;try omega,rfl⟩
theorem znc{w:World}{t:Int}{A:Option Addr}{n c:Nat}{L:List zab}(h:Reads w w.heap.size 5 A n (recs za4 L))(hL:∀y∈L,y.2.2.1.length<=140737488351232)(hn:n<=4611686018427387903):
 Calls Tryz.prog 146 #[.int .i64 t,.slice A n c] w (zak (.bool (L.all fun c=>zam c t false)) w):=by
 obtain rfl:=h.lenCell;have HR:=qrf h;have HL:=qrf hL;clear h hL;obtain⟨M,hM⟩:∃M,M=L.all fun c=>zam c t false:=⟨_,rfl⟩
 rw[<-hM];have HM:=qrf hM;clear hM;go_enter Tryz.func146,Tryz.ntmps146
 go_wp2_with fail
 go_loopw [9] (fun i wr=>∃k:Nat,k<=L.length/\i= .int .i64 (k:Int)/\New w wr/\Hid (∀c∈L.take k,zam c t false=true)) (fun i _=>L.length-(intOf i).toNat)
 case atStart=>exact⟨0,ql7 _,rfl,qrz _,qrf (by simp)⟩
 case round=>
  obtain⟨k,hk,rfl,hW,hr⟩:=hrel;by_cases hlt:k<L.length
  ·obtain⟨ad,rfl,hb,d0,d1,d2,d3,d4⟩:=(qsg HR.out hW).cell5 hlt
   have htk:=zae L k (false,0,[],0,0) hlt;have hmem:L.getD k (false,0,[],0,0)∈L:=by rw[qnp,qlx hlt];exact qml hlt
   have hy:=HL.out _ hmem;have R1:=fun(W:World)=>zga (w:=W) (b:=(L.getD k (false,0,[],0,0)).1) (n:=(L.getD k (false,0,[],0,0)).2.1) (s:=(L.getD k (false,0,[],0,0)).2.2.1) (x:=(L.getD k (false,0,[],0,0)).2.2.2.1) (y:=(L.getD k (false,0,[],0,0)).2.2.2.2) (cn:=[]) (t:=t) (nu:=false) hy
   have hno:zam (L.getD k (false,0,[],0,0)) t false=false->M=false:=fun e=>by
    rw[HM.out];refine qqc.2 fun e2=>?_
    have:=(qog.1 e2) _ hmem;rw[e] at this;cases this
   have hyes:zam (L.getD k (false,0,[],0,0)) t false=true-> ∀c∈L.take (k+1),zam c t false=true:=fun e c hc=>by
    rw[htk] at hc;rcases qnd.1 hc with hc|hc
    ·exact hr.out c hc
    ·rw[qne.1 hc];exact e
   clear htk hmem hy hr;generalize L.getD k (false,0,[],0,0)=y at*;obtain⟨y0,y1,y2,y3,y4⟩:=y;dsimp only at R1 d0 d1 d2 d3 d4;generalize zam (y0,y1,y2,y3,y4) t false=m at*;have R1:Hid (∀W,Calls Tryz.prog 83 #[.agg #[.bool y0,.int .i64 y1,.string (zai y2),.int .i64 y3,.int .i64 y4],.agg #[.string ⟨#[]⟩,.int .i64 t,.bool false]] W (zak (.bool m) W)):=qrf R1;have hno:=qrf hno;have hyes:=qrf hyes;have ha:New wr (wr.alloc (.cells #[.bool y0,.int .i64 y1,.string (zai y2),.int .i64 y3,.int .i64 y4] 75)):=(qq8 _ _).alloc (ql6 _) _;go_wp2_with fail
   refine(R1.out _).mono ?_;rintro e w1 ⟨rfl,b1⟩;have hl:=qr0 (qr0 hW ha) b1;cases m with
   |false=>
    have hm:=hno.out (by trivial);have HM2:=qrf hm;clear hno hyes hm;go_wp2_with fail
    go_ret
    exact⟨by rw[HM2.out];rfl,hl⟩
   |true=>
    have hy2:=hyes.out (by trivial);have HY2:=qrf hy2;clear hno hyes hy2;go_wp2_with fail
    go_roundw
    case rel=>exact⟨k+1,by omega,by go_num,hl,HY2⟩
    case measure=>simp[intOf];omega
  ·obtain rfl:k=L.length:=by omega
   have hr2:=hr.out;rw[qp1] at hr2;have HM2:Hid (M=true):=qrf (by rw[HM.out];exact qog.2 hr2);clear hr hr2;go_wp2_with fail
   go_ret
   exact⟨by rw[HM2.out];rfl,hW⟩
theorem qcl(L:List zab)(k:Nat)(h:k<L.length):(zeg (L.take k)++List.replicate (L.length-k) 0).set k (u64N (L.getD k (false,0,[],0,0)).2.1)=zeg (L.take (k+1))++List.replicate (L.length-(k+1)) 0:=by
 have hl:(zeg (L.take k)).length=k:=by unfold zeg;rw[qos,ql2];omega
 rw[qn5 _ _ (by omega),hl,qn6,show L.length-k=(L.length-(k+1))+1 by omega,qn7,qn8,zae L k (false,0,[],0,0) h];unfold zeg;rw[qpj,qmi];rfl
theorem zvd(n:Int):IntKind.u64.wrap n=(u64N n:Int):=by rw[qrj];unfold u64N;omega
theorem ztg{w:World}{A:Option Addr}{n c:Nat}{L:List zab}(h:Reads w w.heap.size 5 A n (recs za4 L))(hn:n<=65536):
 Calls Tryz.prog 147 #[.slice A n c] w (OptB (zq1 (zeg L) 1) w):=by
 obtain rfl:=h.lenCell;have HR:=qrf h;clear h;go_enter Tryz.func147,Tryz.ntmps147
 go_wp2_with (first
  |(refine zci elW rfl (.tmp 8) (.tmp 8) rfl (W:=w) (B:=w.heap.size) L.length L.length rfl rfl rfl rfl (by omega) (qq8 _ _) (ql6 _) rfl (by omega) (by simp only[maxLen];omega) ?_
    intro w3 hown3 hg3 hb3 hs3))
 go_loopw [12] (fun i wr=>∃k:Nat,k<=L.length/\i= .int .i64 (k:Int)/\Own wr w.heap.size 138 (.slice (some ⟨w.heap.size,0,none⟩) L.length L.length) (zah .u64 (zeg (L.take k)++List.replicate (L.length-k) 0))/\Below w.heap.size w wr) (fun i _=>L.length-(intOf i).toNat)
 case atStart=>exact⟨0,ql7 _,rfl,by simpa[zb8,zeg] using hown3,hb3⟩
 case round=>
  obtain⟨k,hk,rfl,hown,hbl⟩:=hrel;clear hown3 hg3 hb3 hs3;by_cases hlt:k<L.length
  ·obtain⟨ad,rfl,hb,d0,d1,d2,d3,d4⟩:=(qsg HR.out hbl).cell5 hlt
   have hset:=qcl L k hlt;have hwr:=zvd (L.getD k (false,0,[],0,0)).2.1;have hsz:=hbl.size;generalize L.getD k (false,0,[],0,0)=y at*;obtain⟨y0,y1,y2,y3,y4⟩:=y;dsimp only at hset hwr d0 d1 d2 d3 d4;generalize u64N y1=z at*;have ha:New wr (wr.alloc (.cells #[.bool y0,.int .i64 y1,.string (zai y2),.int .i64 y3,.int .i64 y4] 75)):=(qq8 _ _).alloc (ql6 _) _;obtain⟨hg0,hgl,hc,hf,hs⟩:=(hown.later ha).num0 (i:=k) hlt;have hs:=hs z;rw[hset] at hs;have HS:=qrf hs;have hbl2:=qr0 hbl ha;have HB:=qrf (hbl2.setCell (p:=⟨w.heap.size,k,none⟩) (ql6 _) (.int .u64 (z:Int)));clear hset hs hown;go_wp2_with fail
   go_roundw
   case rel=>exact⟨k+1,by omega,by go_num,HS.out,HB.out⟩
   case measure=>simp[intOf];omega
  ·obtain rfl:k=L.length:=by omega
   rw[qn6,qpq,qmg,qp1] at hown;have P:=qrf (zn1 (c:=L.length) 1 hown.reads (fun x hx=>by unfold zeg at hx;obtain⟨y,_,rfl⟩:=qly.1 hx;have:=zx2 y.2.1;omega) (by omega) (by omega) (by omega));go_wp2_with fail
   refine P.out.mono ?_;intro e w5 h5;have hz:=hbl.size;generalize zq1 (zeg L) 1=o at*;cases o with
   |none=>
    obtain⟨rfl,b5⟩:=h5;go_wp2_with fail
    go_ret2
    exact⟨rfl,hbl.trans (qri b5 hz)⟩
   |some l=>
    obtain⟨A5,n5,c5,rfl,o5,b5⟩:=h5;go_wp2_with fail
    go_ret2
    exact⟨_,_,_,rfl,o5.base_le hz,hbl.trans (qri b5 hz)⟩
theorem qiv:(vp 18446744073709551615).length=10:=by rw[zge (by omega),zge (by omega),zge (by omega),zge (by omega),zge (by omega),zge (by omega),zge (by omega),zge (by omega),zge (by omega),zgd (by omega)];rfl
def qcm(w:World)(e:Ending)(w':World):Prop:=∃r:Nat,e= .returned (.int .i64 (r:Int))/\r<=10000000000/\New w w'
theorem qcn{w:World}{A:Option Addr}{n c:Nat}{L:List zab}(h:Reads w w.heap.size 5 A n (recs za4 L))(hn:n<=65536)(hL:∀y∈L,y.2.2.1.length<=65536):
 Calls Tryz.prog 148 #[.slice A n c] w (qcm w):=by
 obtain rfl:=h.lenCell;have HR:=qrf h;have HL:=qrf hL;clear h hL;go_enter Tryz.func148,Tryz.ntmps148
 go_wp2_with fail
 go_loopw [3,8] (fun v i wr=>∃k r:Nat,k<=L.length/\i= .int .i64 (k:Int)/\v= .int .i64 (r:Int)/\r<=k*65546/\New w wr) (fun _ i _=>L.length-(intOf i).toNat)
 case atStart=>exact⟨0,0,ql7 _,rfl,rfl,by omega,qrz _⟩
 case round=>
  obtain⟨k,r,hk,rfl,rfl,hr,hW⟩:=hrel;by_cases hlt:k<L.length
  ·obtain⟨ad,rfl,hb,d0,d1,d2,d3,d4⟩:=(qsg HR.out hW).cell5 hlt
   have hy:=HL.out (L.getD k (false,0,[],0,0)) (by rw[qnp,qlx hlt];exact qml hlt);generalize L.getD k (false,0,[],0,0)=y at*;obtain⟨y0,y1,y2,y3,y4⟩:=y;dsimp only at hy d0 d1 d2 d3 d4;have zs:=zbt y2;have HY:=qrf (qrv wr 75 #[.bool y0,.int .i64 y1,.string (zai y2),.int .i64 y3,.int .i64 y4]);have ha:New wr (wr.alloc (.cells #[.bool y0,.int .i64 y1,.string (zai y2),.int .i64 y3,.int .i64 y4] 75)):=(qq8 _ _).alloc (ql6 _) _;have SZ:Hid (∀W,Calls Tryz.prog 132 #[.int .u64 18446744073709551615] W (zcv (.int .i64 10) W)):=qrf fun W=>(z0e 18446744073709551615 W (by omega)).mono (by rintro e w' ⟨rfl,rfl⟩;exact⟨by rw[qiv];rfl,rfl⟩)
   have w1:IntKind.i64.wrap (10+(y2.length:Int))=10+(y2.length:Int):=qre _ (by omega);have w2:IntKind.i64.wrap ((r:Int)+(10+(y2.length:Int)))=(r:Int)+(10+(y2.length:Int)):=qre _ (by omega);go_wp2_with fail
   refine zaw New [(true,0),(true,2),(true,3),(true,4),(false,1),(true,5),(true,6),(true,7)] qrz qr0 (by kernel_rfl) (by kernel_rfl) (by kernel_rfl) (by kernel_rfl) ?_;have hU:=qr1 (wr.alloc (.cells #[.bool y0,.int .i64 y1,.string (zai y2),.int .i64 y3,.int .i64 y4] 75));repeat(first
    |(refine za6 rfl rfl (fun K hK=>?_);go_simp
      (with_reducible refine(SZ.out _).mono ?_);rintro e w6 ⟨rfl,rfl⟩
      refine hK _ _ (qrz _) ?_;clear hK)
    |(refine qfv rfl rfl ?_;simp only[Act.put,qoi,qn8,qoj])
    |(refine zaj rfl rfl (v:=?_) (fun W hQ=>?_) ?_;rotate_left;(obtain⟨z0,z1,z2,z3,z4⟩:=zc4 (HY.out.below (qr0 hU hQ) HY.out.lt);go_simp<;> with_reducible rfl);simp only[Act.put,qoi,qn8,qoj]))
   refine zda ?_;go_wp2_with fail
   go_roundw
   case rel=>exact⟨k+1,r+(10+y2.length),by omega,by go_num,by simp,by omega,qr0 (qr0 hW ha) hU⟩
   case measure=>simp[intOf];omega
  ·obtain rfl:k=L.length:=by omega
   go_wp2_with fail
   go_ret
   exact⟨r,rfl,by omega,hW⟩
end Go.Proofs.Y
namespace Go.Hm
open Go Go.RowKit
theorem zx5{c:zab}(h:zam c 3 false=true):c.2.2.1=[]:=by have h0:=zla h;unfold zam at h;rw[h0] at h;simp at h;exact h.1.2
theorem zth{c:zab}{t:Int}(h:zam c t false=true):t=0\/t=1\/t=2\/t=3:=by
 have h0:=zla h;unfold zam at h;rw[h0] at h;by_cases h1:t=0
 ·exact .inl h1
 ·by_cases h2:t=1
  ·exact .inr (.inl h2)
  ·by_cases h3:t=2
   ·exact .inr (.inr (.inl h3))
   ·by_cases h4:t=3
    ·exact .inr (.inr (.inr h4))
    ·simp[h1,h2,h3,h4] at h
end Go.Hm
namespace Go.Proofs.Y
open Go.RowKit Go.Hm
def qkw(W0:World)(B base:Nat)(l:List Nat)(e:Ending)(w':World):Prop:=∃A n c,e= .returned (.slice A n c)/\Own w' base 5 (.slice A n c) (zah .u8 l)/\Below B W0 w'
theorem qgx{w W0:World}{B base:Nat}{A:Option Addr}{n cap:Nat}{l:List Nat}{t:Int}{c:zab}(o:Own w base 5 (.slice A n cap) (zah .u8 l))(hb:Below B W0 w)(hbB:B<=base)(hbase:base<=w.heap.size)(hn:n<=100000000000)
 (hr:zam c t false=true)(ht:t≠1)(h8:∀z∈c.2.2.1,z<256)(hi: -9223372036854775808<=c.2.1/\c.2.1<=9223372036854775807):
 Calls Tryz.prog 149 #[.slice A n cap,.int .i64 t,zdb c] w (qkw W0 B base (l++plE t c)):=by
 have h2:=fun(e:t=2)=>z67 (by rw[<-e];exact hr)
 have h3:=fun(e:t=3)=>zpb (by rw[<-e];exact hr)
 have h4:=fun(e:t=3)=>zx5 (by rw[<-e];exact hr)
 have h1:=zth hr;clear hr;obtain⟨y0,y1,y2,y3,y4⟩:=c;dsimp only at h2 h3 h4 h8 hi;unfold plE;dsimp only;show Calls Tryz.prog 149 #[.slice A n cap,.int .i64 t,.agg #[.bool y0,.int .i64 y1,.string (zai y2),.int .i64 y3,.int .i64 y4]] w _;have B0:=qrv w 75 #[.bool y0,.int .i64 y1,.string (zai y2),.int .i64 y3,.int .i64 y4];obtain⟨x0,x1,x2,x3,x4⟩:=zc4 B0;have ha:New w (w.alloc (.cells #[.bool y0,.int .i64 y1,.string (zai y2),.int .i64 y3,.int .i64 y4] 75)):=(qq8 _ _).alloc (ql6 _) _;have o1:=o.later ha;have b1:Below B W0 (w.alloc (.cells #[.bool y0,.int .i64 y1,.string (zai y2),.int .i64 y3,.int .i64 y4] 75)):=hb.trans (qri ha (by omega));have zs:=zbt y2;have hz1:=ha.size;clear o hb;rcases h1 with rfl|rfl|rfl|rfl
 ·rw[if_pos rfl]
  have HL:=qrf (zbe (u64N y1) 8);have U:=qrf (fun(W:World)=>z6e (w:=W) (A:=none) (n:=0) (c:=0) (l:=[]) (u64N y1) qrs (by omega));have hw:=zvd y1;generalize u64N y1=z at*;go_enter Tryz.func149,Tryz.ntmps149
  go_wp2_with fail
  refine(U.out _).mono ?_;rintro e w2 ⟨A2,n2,c2,rfl,k2,b2⟩;rw[qmx] at k2;have o2:=o1.later b2;have b02:Below B W0 w2:=b1.trans (qri b2 (by omega));have q2:n2<=8:=by have:=k2.len;rw[zaa,HL.out] at this;omega
  have hz2:=b2.size;have r2:=k2.reads;clear k2 b2
  go_wp2_with (refine zal elB rfl (.tmp 19) (.tmp 23) rfl (W:=W0) (B:=B) o2 r2 rfl rfl b02 hbB (by omega) (by omega) (by simp only[maxLen];omega) ?_
               intro A3 c3 w3 _ _ o3 _ b3 _)
  go_ret
  exact⟨_,_,_,rfl,o3,b3⟩
 ·exact absurd rfl ht
 ·rw[if_neg (by decide),if_pos rfl]
  have hl2:=h2 rfl;have V:=qrf (zas (n:=y2.length) (by omega));have P:=qrf (fun(W:World)=>zc9 none 0 0 [] y2.length W qrs (by omega) (by omega));have hw:IntKind.u64.wrap (y2.length:Int)=(y2.length:Int):=by rw[qrj];omega
  clear h2 h3 h4;go_enter Tryz.func149,Tryz.ntmps149
  go_wp2_with fail
  refine(P.out _).mono ?_;rintro e w2 ⟨A2,n2,c2,rfl,k2,b2⟩;rw[qmx] at k2;have o2:=o1.later b2;have b02:Below B W0 w2:=b1.trans (qri b2 (by omega));have q2:n2<=10:=by have:=k2.len;rw[zaa] at this;have:=V.out;omega
  have hz2:=b2.size;have r2:=k2.reads;have B2:=B0.below b2 B0.lt;clear k2 b2 x0 x1 x2 x3 x4;go_wp2_with (first
   |(refine zal elB rfl (.tmp 36) (.tmp 38) rfl (W:=W0) (B:=B) o2 r2 rfl rfl b02 hbB (by omega) (by omega) (by simp only[maxLen];omega) ?_
     intro A3 c3 w3 _ _ o3 g3 b3 _;obtain⟨x0,x1,x2,x3,x4⟩:=zc4 (B2.push o2 g3 (by decide));have hz3:=g3.size)
   |(refine zdo elB qa0 rfl (.tmp 40) (.tmp 42) rfl (W:=W0) (B:=B) o3 h8 rfl rfl b3 hbB (by omega) (by omega) ?_
     intro A4 c4 w4 _ _ o4 _ b4))
  go_ret
  exact⟨_,_,_,rfl,by rw[<-qmi];exact o4,b4⟩
 ·rw[if_neg (by decide),if_neg (by decide),if_pos rfl]
  obtain⟨⟨p1,p2⟩,p3,p4⟩:=h3 rfl;have he:=h4 rfl;subst he;have V1:=qrf (zas (n:=zig y3) (by unfold zig;split<;> omega));have V2:=qrf (zas (n:=zig y4) (by unfold zig;split<;> omega));have Z1:=qrf (fun(W:World)=>zo7 y3 W (by omega) (by omega));have Z2:=qrf (fun(W:World)=>zo7 y4 W (by omega) (by omega));have P1:=qrf (fun(W:World)=>zc9 none 0 0 [] (zig y3) W qrs (by omega) (by unfold zig;split<;> omega));have P2:=qrf (fun(W:World)=>zc9 none 0 0 [] (zig y4) W qrs (by omega) (by unfold zig;split<;> omega));clear h2 h3 h4;generalize zig y3=z3 at*;generalize zig y4=z4 at*;go_enter Tryz.func149,Tryz.ntmps149
  go_wp2_with fail
  refine(Z1.out _).mono ?_;rintro e w2 ⟨rfl,rfl⟩;go_wp2_with fail
  refine(P1.out _).mono ?_;rintro e w2 ⟨A2,n2,c2,rfl,k2,b2⟩;rw[qmx] at k2;have o2:=o1.later b2;have b02:Below B W0 w2:=b1.trans (qri b2 (by omega));have q2:n2<=10:=by have:=k2.len;rw[zaa] at this;have:=V1.out;omega
  have hz2:=b2.size;have r2:=k2.reads;have B2:=B0.below b2 B0.lt;clear k2 b2 x0 x1 x2 x3 x4
  go_wp2_with (refine zal elB rfl (.tmp 25) (.tmp 30) rfl (W:=W0) (B:=B) o2 r2 rfl rfl b02 hbB (by omega) (by omega) (by simp only[maxLen];omega) ?_
               intro A3 c3 w3 _ _ o3 g3 b3 _;have B3:=B2.push o2 g3 (by decide);obtain⟨x0,x1,x2,x3,x4⟩:=zc4 B3;have hz3:=g3.size)
  refine(Z2.out _).mono ?_;rintro e w4 ⟨rfl,rfl⟩;go_wp2_with fail
  refine(P2.out _).mono ?_;rintro e w4 ⟨A4,n4,c4,rfl,k4,b4⟩;rw[qmx] at k4;have o4:=o3.later b4;have b04:Below B W0 w4:=b3.trans (qri b4 (by omega));have q4:n4<=10:=by have:=k4.len;rw[zaa] at this;have:=V2.out;omega
  have hz4:=b4.size;have r4:=k4.reads;have B4:=B3.below b4 B3.lt;clear k4 b4 x0 x1 x2 x3 x4;go_wp2_with (first
   |(refine zal elB rfl (.tmp 36) (.tmp 38) rfl (W:=W0) (B:=B) o4 r4 rfl rfl b04 hbB (by omega) (by omega) (by simp only[maxLen];omega) ?_
     intro A5 c5 w5 _ _ o5 g5 b5 _;obtain⟨x0,x1,x2,x3,x4⟩:=zc4 (B4.push o4 g5 (by decide));have hz5:=g5.size)
   |(refine zdo elB qa0 rfl (.tmp 40) (.tmp 42) rfl (W:=W0) (B:=B) o5 (l2:=[]) (by simp) rfl rfl b5 hbB (by omega) (by simp;omega) ?_
     intro A6 c6 w6 _ _ o6 _ b6))
  go_ret
  exact⟨_,_,_,rfl,by rw[qmg] at o6;rw[<-qmi];exact o6,b6⟩
theorem z69{t:Int}{L:List zab}{k:Nat}(h:k<L.length):(L.take (k+1)).flatMap (plE t)=(L.take k).flatMap (plE t)++plE t (L.getD k (false,0,[],0,0)):=by rw[zae L k (false,0,[],0,0) h,qpl];simp
theorem zti{t:Int}:∀l:List zab,(∀c∈l,zam c t false=true)->(∀c∈l,c.2.2.1.length<=65536)->(l.flatMap (plE t)).length<=l.length*65556
 | [],_,_=>by simp
 |c::l,h,k=>by
  have a:=zti l (fun d hd=>h d (by simp[hd])) (fun d hd=>k d (by simp[hd]));have b:=zx3 (h c (by simp));have d:=k c (by simp);rw[qpe,qmv,qm9];omega
theorem zji{c:zab}{t:Int}(h:zam c t false=true):c.2.2.1.length<=65536:=by
 have h0:=zla h;rcases zth h with rfl|rfl|rfl|rfl
 ·unfold zam at h
  rw[h0] at h;simp at h;rw[h.1];simp
 ·unfold zam at h
  rw[h0] at h;simp at h;rw[h.1.1];simp
 ·exact z67 h
 ·rw[zx5 h]
  simp
def zat(c:zab):Prop:=(c.2.2.1.length<=140737488351232/\ ∀z∈c.2.2.1,z<256)/\ -9223372036854775808<=c.2.1/\c.2.1<=9223372036854775807
theorem zld{w:World}{t:Int}{A:Option Addr}{n c:Nat}{L:List zab}(h:Reads w w.heap.size 5 A n (recs za4 L))(hL:∀y∈L,zat y)(hn:n<=4611686018427387903):
 Calls Tryz.prog 134 #[.int .i64 t,.slice A n c] w (OptB (plO t L) w):=by
 obtain rfl:=h.lenCell;have HR:=qrf h;have AR:=qrf (znc (t:=t) (c:=c) h (fun y hy=>(hL y hy).1.1) hn);have KN:=qrf (zlb (w:=w) (t:=t) (n:=(L.length:Int)));have ek:zk9 t L=(decide (0<=t/\t<=3/\0<=(L.length:Int)/\(L.length:Int)<=65536)&&L.all fun c=>zam c t false):=by
  unfold zk9;congr 1
  rw[decide_eq_decide];omega
 obtain⟨M,hM⟩:∃M,M=plO t L:=⟨_,rfl⟩;rw[<-hM];unfold plO at hM;by_cases hk:(0<=t/\t<=3/\0<=(L.length:Int)/\(L.length:Int)<=65536)
 ·rw[decide_eq_true hk] at KN ek
  cases ha:L.all fun c=>zam c t false with
  |false=>
   rw[ha] at AR;rw[ek,ha] at hM;simp at hM;have HM:=qrf hM;clear hM ek ha hL h;go_enter Tryz.func134,Tryz.ntmps134
   go_wp2_with fail
   refine KN.out.mono ?_;rintro e w1 ⟨rfl,rfl⟩;go_wp2_with fail
   refine AR.out.mono ?_;rintro e w1 ⟨rfl,b1⟩;go_wp2_with fail
   go_ret2
   rw[HM.out];exact⟨rfl,b1⟩
  |true=>
   rw[ha] at AR;rw[ek,ha] at hM;simp at hM;have hR:=qog.1 ha;have hn2:L.length<=65536:=by omega
   by_cases h1:t=1
   ·subst h1
    have hP:=zf9 (zeg L) 1 (by omega) (by unfold zeg;rw[qos];omega) (zpc hR);have hM2:M=zq1 (zeg L) 1:=by rw[hM];unfold plB;rw[if_pos rfl];refine Eq.trans ?_ hP.symm;unfold zeg;rw[qos]
    have HM:=qrf hM2;have PB:=qrf (fun(W:World) (hW:New w W)=>ztg (c:=c) (qsg HR.out hW) hn2);clear hM hM2 hP ek ha hR hL h;go_enter Tryz.func134,Tryz.ntmps134
    go_wp2_with fail
    refine KN.out.mono ?_;rintro e w1 ⟨rfl,rfl⟩;go_wp2_with fail
    refine AR.out.mono ?_;rintro e w1 ⟨rfl,b1⟩;go_wp2_with fail
    refine(PB.out _ b1).mono ?_;intro e w2 h2;rw[<-HM.out] at h2;cases M with
    |none=>
     obtain⟨rfl,b2⟩:=h2;go_wp2_with fail
     go_ret2
     exact⟨rfl,qr0 b1 b2⟩
    |some l=>
     obtain⟨A2,n2,c2,rfl,o2,b2⟩:=h2;go_wp2_with fail
     go_ret2
     exact⟨_,_,_,rfl,o2.base_le b1.size,qr0 b1 b2⟩
   ·have hM2:M=some (L.flatMap (plE t)):=by rw[hM];unfold plB;rw[if_neg h1]
    have HM:=qrf hM2;have HR2:=qrf hR;have hx:∀c∈L,c.2.2.1.length<=65536:=fun c hc=>zji (hR c hc)
    have HX:=qrf hx;have HD:=qrf hL;have RM:=qrf (fun(W:World) (hW:New w W)=>qcn (c:=c) (qsg HR.out hW) hn2 hx);clear hM hM2 ek ha hR hL h hx;go_enter Tryz.func134,Tryz.ntmps134
    go_wp2_with fail
    refine KN.out.mono ?_;rintro e w1 ⟨rfl,rfl⟩;go_wp2_with fail
    refine AR.out.mono ?_;rintro e w1 ⟨rfl,b1⟩;go_wp2_with fail
    refine(RM.out _ b1).mono ?_;rintro e w2 ⟨r,rfl,hr,b2⟩;have b02:=qr0 b1 b2;have hz2:=b02.size
    go_wp2_with (refine zci elB rfl (.const (.int .i64 0)) (.tmp 27) rfl (W:=w) (B:=w.heap.size) 0 r rfl rfl rfl rfl (by omega) b02 hz2 rfl (by omega) (by simp only[maxLen];omega) ?_
                 intro w3 o3 _ b3 hs3)
    go_loopw [6,31] (fun v i wr=>∃(k m cc:Nat) (AA:Option Addr),k<=L.length/\i= .int .i64 (k:Int)/\v= .slice AA m cc/\Own wr w.heap.size 5 (.slice AA m cc) (zah .u8 ((L.take k).flatMap (plE t)))/\Below w.heap.size w wr) (fun _ i _=>L.length-(intOf i).toNat)
    case atStart=>exact⟨0,0,r,_,ql7 _,rfl,rfl,by have:=o3.base_le hz2;simpa[zah] using this,b3⟩
    case round=>
     obtain⟨k,m,cc,AA,hk2,rfl,rfl,o,b⟩:=hrel;clear o3 b3 hs3 b1 b2 b02 hz2;by_cases hlt:k<L.length
     ·obtain⟨ad,rfl,hb,d0,d1,d2,d3,d4⟩:=(qsg HR.out b).cell5 hlt
      have hmem:L.getD k (false,0,[],0,0)∈L:=by rw[qnp,qlx hlt];exact qml hlt
      have hfs:=z69 (t:=t) hlt;have hfl:=zti (L.take k) (fun c hc=>HR2.out c (qmu hc)) (fun c hc=>HX.out c (qmu hc));rw[ql2] at hfl;have hm:m<=100000000000:=by have:=o.len;rw[zaa] at this;have:=Nat.min_le_left k L.length;omega
      have h8:=HD.out _ hmem;have hry:=HR2.out _ hmem;clear hmem hfl;generalize L.getD k (false,0,[],0,0)=y at*;have hz:=b.size;have ha:New wr (wr.alloc (.cells (za4 y).toArray 75)):=(qq8 _ _).alloc (ql6 _) _;have LY:=qgx (W0:=w) (B:=w.heap.size) (o.later ha) (b.trans (qri ha hz)) (ql6 _) (by have:=ha.size;omega) hm hry h1 h8.1.2 h8.2;rw[<-hfs] at LY;obtain⟨y0,y1,y2,y3,y4⟩:=y;have LY:Hid (Calls Tryz.prog 149 #[.slice AA m cc,.int .i64 t,.agg #[.bool y0,.int .i64 y1,.string (zai y2),.int .i64 y3,.int .i64 y4]] (wr.alloc (.cells #[.bool y0,.int .i64 y1,.string (zai y2),.int .i64 y3,.int .i64 y4] 75)) (qkw w w.heap.size w.heap.size ((L.take (k+1)).flatMap (plE t)))):=qrf LY;dsimp only at d0 d1 d2 d3 d4;clear hfs o b h8 hry;go_wp2_with fail
      refine LY.out.mono ?_;rintro e w5 ⟨A5,n5,c5,rfl,o5,b5⟩;go_wp2_with fail
      go_roundw
      case rel=>exact⟨k+1,n5,c5,A5,by omega,by go_num,rfl,o5,b5⟩
      case measure=>simp[intOf];omega
     ·obtain rfl:k=L.length:=by omega
      rw[qp1] at o;go_wp2_with fail
      go_ret2
      rw[HM.out];exact⟨_,_,_,rfl,o,b⟩
 ·rw[decide_eq_false hk] at KN ek
  rw[ek] at hM;simp at hM;have HM:=qrf hM;clear hM ek AR hL h;go_enter Tryz.func134,Tryz.ntmps134
  go_wp2_with fail
  refine KN.out.mono ?_;rintro e w1 ⟨rfl,rfl⟩;go_wp2_with fail
  go_ret2
  rw[HM.out];exact⟨rfl,qq8 _ _⟩
end Go.Proofs.Y
