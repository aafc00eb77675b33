/- Merged. -/
import Derived.Test.YtmgfkpnghlmheaaGreatBun37
set_option maxHeartbeats 8000000
namespace Go.Proofs.Y
open Go.RowKit Go.Hm
def ztg(l:List zab):List (Int × Int):=l.map fun c=>(c.2.2.2.1,c.2.2.2.2)
theorem qci(l:List zab):(ztg l).length=l.length:=by simp[ztg]
theorem qhm(l:List zab):(ztg l).map (·.1)=xsV l:=by unfold ztg xsV;rw[List.map_map];rfl
theorem qhn(l:List zab):(ztg l).map (·.2)=ysV l:=by unfold ztg ysV;rw[List.map_map];rfl
theorem z0n{l:List Int}(h:l.length<=65536):∃b,zjz l=some b:=by unfold zjz;rw[if_neg (by omega)];split<;> exact⟨_,rfl⟩
theorem z70{S:List (Int × Int)}{k:Nat}(h:k<S.length):((S.take (k+1)).map (·.1))=(S.take k).map (·.1)++[(S.getD k (0,0)).1]:=by rw[zae S k (0,0) h];simp
theorem z71{S:List (Int × Int)}{k:Nat}(h:k<S.length):((S.take (k+1)).map (·.2))=(S.take k).map (·.2)++[(S.getD k (0,0)).2]:=by rw[zae S k (0,0) h];simp
set_option maxRecDepth 100000 in
theorem zmq{w:World}{A:Option Addr}{n c:Nat}{L:List zab}(h:Reads w w.heap.size 5 A n (recs zan L))(hr:∀y∈L,zaf y 3 false=true)(hn:n<=65536):
 Calls Tryz.prog 212 #[.slice A n c] w (OptX (encPts L) w):=by
 obtain rfl:=h.lenCell;have HR:=Hz h;obtain⟨S,hS⟩:∃S,S=(zjv 0 (xsV L)).zip (zjv 0 (ysV L)):=⟨_,rfl⟩;have hS1:zf3 (0,0) (ztg L)=some S:=by
  rw[hS,zux (ztg L) (0,0) (fun p hp=>by obtain⟨c,hc,rfl⟩:=List.mem_map.1 hp;have:=zl1 (hr c hc);exact inBox_iff.2 (by dsimp only;omega)),qhm,qhn]
 have hxl:(zjv 0 (xsV L)).length=L.length:=by rw[zkn];simp[xsV]
 have hyl:(zjv 0 (ysV L)).length=L.length:=by rw[zkn];simp[ysV]
 have hSl:S.length=L.length:=by rw[hS,List.length_zip];omega
 have hSx:S.map (·.1)=zjv 0 (xsV L):=by rw[hS];exact List.map_fst_zip (by omega)
 have hSy:S.map (·.2)=zjv 0 (ysV L):=by rw[hS];exact List.map_snd_zip (by omega)
 obtain⟨i1,i2⟩:=qd0 hr;obtain⟨a,ha⟩:=z0n (l:=zjv 0 (xsV L)) (by omega);obtain⟨b,hb⟩:=z0n (l:=zjv 0 (ysV L)) (by omega);have hal:=zhp i1 ha;have hbl:=zhp i2 hb;have HE:Hid (encPts L=some (vp a.length++a++b)):=Hz (by unfold encPts;rw[ha,hb]);rw[<-hSx] at i1 ha;rw[<-hSy] at i2 hb;have HA:=Hz (And.intro i1 ha);have HB:=Hz (And.intro i2 hb);have PS:=fun(W:World) (A:Option Addr) (c:Nat) (hR:Reads W W.heap.size 2 A L.length (zc0 (ztg L)))=>show Calls Tryz.prog 227 #[.slice A L.length c] W (qd6 (some S) W) from by have:=z26 (c:=c) hR (by omega);rw[hS1] at this;exact this
 have PS:=Hz PS;have HSL:=Hz hSl;clear h hr hS hS1 hxl hyl hSx hSy i1 i2 ha hb hSl;have hb0:New w w:=New.refl w;have hz0:w.heap.size<=w.heap.size:=Nat.le_refl _;go_enter Tryz.func212,Tryz.ntmps212
 go_wp2_with (refine zpc qgt rfl (.tmp 17) (.tmp 17) rfl (W:=w) (B:=w.heap.size) L.length rfl rfl rfl rfl hb0 hz0 (by omega) (by simp only[maxLen];omega) ?_
              intro w1 o1 g1 b1 hs1)
 rw[zrs] at o1;clear hb0 hz0 g1;go_loopw [21] (fun i wr=>∃k:Nat,k<=L.length/\i= .int .i64 (k:Int)/\wr.ownsRow w.heap.size 59 2 (.slice (some ⟨w.heap.size,0,none⟩) L.length L.length) L.length (zc0 (ztg (L.take k)++List.replicate (L.length-k) (0,0)))/\New w wr) (fun i _=>L.length-(intOf i).toNat)
 case atStart=>exact⟨0,Nat.zero_le _,rfl,by simpa[ztg] using o1,b1⟩
 case round=>
  clear o1 b1 hs1;obtain⟨k,hk,rfl,o,bw⟩:=hrel;by_cases hlt:k<L.length
  ·obtain⟨ad,rfl,_,d0,d1,d2,d3,d4⟩:=(Reads.later HR.out bw).cell5 hlt
   have hst:ztg (L.take (k+1))=ztg (L.take k)++ztg [L.getD k (false,0,[],0,0)]:=by rw[zae L k (false,0,[],0,0) hlt];simp[ztg]
   have hll:(ztg (L.take k)).length=k:=by rw[qci,List.length_take];omega
   have i1:(k:Int)<(L.length:Int):=by omega
   generalize L.getD k (false,0,[],0,0)=x at*;obtain⟨xb,xn,xs,xx,xy⟩:=x;have hst:ztg (L.take (k+1))=ztg (L.take k)++[(xx,xy)]:=hst;dsimp only at d0 d1 d2 d3 d4;have b2:New wr (wr.alloc (.cells #[.bool xb,.int .i64 xn,.string (zac xs),.int .i64 xx,.int .i64 xy] 61)):=(Below.refl _ _).alloc (Nat.le_refl _) _;have B2:=Blk.new wr 61 #[.bool xb,.int .i64 xn,.string (zac xs),.int .i64 xx,.int .i64 xy];rw[show L.length-k=(L.length-(k+1))+1 by omega,List.replicate_succ] at o;have o2:=Hz (zav o b2);have b02:=New.trans bw b2;obtain⟨p0,p1,p2,p3,p4⟩:=zcb B2;have ead:(⟨w.heap.size,0,none⟩:Addr).add (k*2)=⟨w.heap.size,k*2,none⟩:=by unfold Addr.add;split<;> simp_all
   have HST:=Hz hst;have HLL:=Hz hll;clear hst hll o bw b2 B2
   go_wp2_with (refine zmh rfl 59 (.tmp 30) (.tmp 29) rfl (new:=(xx,xy)) o2.out HLL.out hlt rfl rfl (by kernel_rfl) ?_
                intro w3 o3 g3)
   have b3:=Far.below b02 g3 (Nat.le_refl _) (Nat.le_refl _);have o3:w3.ownsRow w.heap.size 59 2 (.slice (some ⟨w.heap.size,0,none⟩) L.length L.length) L.length (zc0 (ztg (L.take (k+1))++List.replicate (L.length-(k+1)) (0,0))):=by rw[HST.out,List.append_assoc];exact o3
   go_roundw
   case rel=>exact⟨k+1,by omega,by go_num,o3,b3⟩
   case measure=>simp[intOf];omega
  ·obtain rfl:k=L.length:=by omega
   rw[List.take_length,Nat.sub_self,List.replicate_zero,List.append_nil] at o;have HRO:=Hz (Reads.of_own o);clear o hlt;obtain⟨i1,hi1,hz1,hs1,hb1⟩:=info_parts elI.hi;have mk1:=fun W=>run_make (P:=Tryz.prog) W 26 3 i1 _ elI.ht hi1 hz1 .i64 .i64 (L.length:Int) (L.length:Int) (by omega) (by omega) (by rw[hb1];omega) (by omega)
   simp only[Int.toNat_natCast,hs1] at mk1;generalize hC1:madeCells _ (L.length*1)=C1 at mk1;have HC1:=Hz hC1;clear hC1 hi1 hz1 hs1 hb1;have BA:=Blk.new wr 3 C1;have BB:=Blk.new (wr.alloc (.cells C1 3)) 3 C1;have BA2:=BA.alloc (.cells C1 3);have hba:New wr ((wr.alloc (.cells C1 3)).alloc (.cells C1 3)):=((Below.refl _ _).alloc (Nat.le_refl _) _).alloc (by simp) _;simp only[World.size_alloc] at BB;go_upto_region 7 with fail
   go_cut [7,8] (fun s7 s8 wx=>∃gx gy:Nat,s7= .slice (some ⟨gx,0,none⟩) L.length L.length/\s8= .slice (some ⟨gy,0,none⟩) L.length L.length/\gx≠gy/\wr.heap.size<=gx/\wr.heap.size<=gy/\Blk wx gx 3 C1/\Blk wx gy 3 C1/\New wr wx)
   case first=>
    go_region
    all_goals
     go_wp2_with fail
     go_meet
     first
      |exact⟨wr.heap.size,wr.heap.size+1,rfl,rfl,by omega,by omega,by omega,BA2,BB,hba⟩
      |exact⟨wr.heap.size+1,wr.heap.size,rfl,rfl,by omega,by omega,by omega,BB,BA2,hba⟩
      |exact⟨wr.heap.size,wr.heap.size+1,rfl,rfl,by omega,by omega,by omega,BA2,BB,New.trans hba (New.drew _)⟩
      |exact⟨wr.heap.size+1,wr.heap.size,rfl,rfl,by omega,by omega,by omega,BB,BA2,New.trans hba (New.drew _)⟩
   case rest=>
    obtain⟨gx,gy,rfl,rfl,hxy,hgx,hgy,BX,BY,bx⟩:=hcut;have hz:=bw.size;have own0:∀g,wr.heap.size<=g->Blk wc g 3 C1->Go.Hm.Own wc w.heap.size 3 (.slice (some ⟨g,0,none⟩) L.length L.length) (zeq .i64 (List.replicate L.length 0)):=by
     intro g hg hB;have e1:(zeq .i64 (List.replicate L.length 0)).length=L.length:=by rw[zcy,List.length_replicate]
     unfold Go.Hm.Own;rw[e1];refine⟨by rw[e1,Nat.mul_one],.inr ⟨g,L.length,C1,rfl,by omega,hB,Nat.le_refl _,by simp only[maxLen];omega,by rw[<-HC1.out];simp[size_madeCells],?_⟩⟩;rw[<-HC1.out,List.take_of_length_le (by simp[size_madeCells]),zdj];have:=toList_madeCells_one (.int .i64 0) (L.length*1);rw[Nat.mul_one] at this⊢;exact this
    have ox:=own0 gx hgx BX;have oy:=own0 gy hgy BY;have bc:=New.trans bw bx;have RC:=Reads.later HRO.out bx;have lx:=BX.lt;have ly:=BY.lt;have hgx:w.heap.size<=gx:=by omega
    have hgy:w.heap.size<=gy:=by omega
    have PC:=Hz (PS.out wc _ L.length RC);clear own0 BX BY bw bx RC BA BB BA2 hba HC1 mk1 HRO PS hz;go_wp2_with fail
    refine PC.out.mono ?_;rintro e w4 ⟨A4,n4,c4,rfl,o4,b4⟩;obtain rfl:n4=S.length:=(Reads.of_own o4).lenP;have hSl:=HSL.out;have o4:w4.ownsRow wc.heap.size 59 2 (.slice A4 S.length c4) S.length (zc0 S):=o4;have ox:=ox.later b4;have oy:=oy.later b4;have b04:=New.trans bc b4;generalize wc.heap.size=n1 at*;clear PC bc b4;go_wp2_with fail
    go_loopw [41] (fun i wr=>∃k:Nat,k<=S.length/\i= .int .i64 (k:Int)/\Go.Hm.Own wr w.heap.size 3 (.slice (some ⟨gx,0,none⟩) L.length L.length) (zeq .i64 ((S.take k).map (·.1)++List.replicate (L.length-k) 0))/\Go.Hm.Own wr w.heap.size 3 (.slice (some ⟨gy,0,none⟩) L.length L.length) (zeq .i64 ((S.take k).map (·.2)++List.replicate (L.length-k) 0))/\wr.ownsRow n1 59 2 (.slice A4 S.length c4) S.length (zc0 S)/\New w wr) (fun i _=>S.length-(intOf i).toNat)
    case atStart=>exact⟨0,Nat.zero_le _,rfl,by simpa using ox,by simpa using oy,o4,b04⟩
    case round=>
     clear ox oy o4 b04;obtain⟨k,hk,rfl,ox,oy,o4,bw⟩:=hrel;by_cases hlt:k<S.length
     ·obtain⟨ad,rfl,_,d0,d1⟩:=(Reads.of_own o4).pair hlt
      have ms1:=z70 hlt;have ms2:=z71 hlt;have hlx:((S.take k).map (·.1)).length=k:=by rw[List.length_map,List.length_take];omega
      have hly:((S.take k).map (·.2)).length=k:=by rw[List.length_map,List.length_take];omega
      have d2:wr.cell? ⟨(ad.add (k*2)).block,(ad.add (k*2)).off+1,none⟩=some (.int .i64 (S.getD k (0,0)).2):=by rw[<-zbc] at d1;exact d1
      have i1:(k:Int)<(S.length:Int):=by omega
      have i2:(k:Int)<(L.length:Int):=by omega
      have hkL:k<L.length:=by omega
      generalize S.getD k (0,0)=sp at*;obtain⟨sx,sy⟩:=sp;dsimp only at d0 d1 d2 ms1 ms2;have b2:New wr (wr.alloc (.cells #[.int .i64 sx,.int .i64 sy] 59)):=(Below.refl _ _).alloc (Nat.le_refl _) _;have B2:=Blk.new wr 59 #[.int .i64 sx,.int .i64 sy];obtain⟨p0,p1⟩:=za7 B2;have lx2:=(ox.lt gx rfl).2;have ly2:=(oy.lt gy rfl).2;obtain⟨-,-,hcx,hfx,hsx⟩:=ox.int0 hkL;obtain⟨-,-,hcy,hfy,hsy⟩:=oy.int0 hkL;have xA:=hsx sx;have yA:=hsy sy;have nxy:Value.ownBlock (.slice (some ⟨gx,0,none⟩) L.length L.length)=none\/Value.ownBlock (.slice (some ⟨gx,0,none⟩) L.length L.length)≠some gy:= .inr (by simpa[Value.ownBlock] using hxy);have nyx:Value.ownBlock (.slice (some ⟨gy,0,none⟩) L.length L.length)=none\/Value.ownBlock (.slice (some ⟨gy,0,none⟩) L.length L.length)≠some gx:= .inr (by simpa[Value.ownBlock] using fun e=>hxy e.symm);have yx:=oy.kept (zar (g:=gx) (i:=k) (x:= .int .i64 sx)) nyx;have xy:=ox.kept (zar (g:=gy) (i:=k) (x:= .int .i64 sy)) nxy;have yB:=(yx.int0 hkL).2.2.2.2 sy;have xB:=(xy.int0 hkL).2.2.2.2 sx;have xC:=xA.kept (zar (g:=gy) (i:=k) (x:= .int .i64 sy)) nxy;have yC:=yA.kept (zar (g:=gx) (i:=k) (x:= .int .i64 sx)) nyx;rw[zis _ hlx hkL,<-ms1] at xB xC;rw[zis _ hly hkL,<-ms2] at yB yC;have o4x:=World.ownsRow.kept o4 (zar (g:=gx) (i:=k) (x:= .int .i64 sx)) (.inr (fun e=>by have:=(World.ownsRow.lt o4 _ e).1;omega));have o4y:=World.ownsRow.kept o4 (zar (g:=gy) (i:=k) (x:= .int .i64 sy)) (.inr (fun e=>by have:=(World.ownsRow.lt o4 _ e).1;omega));have o4A:=World.ownsRow.kept o4x (zar (g:=gy) (i:=k) (x:= .int .i64 sy)) (.inr (fun e=>by have:=(World.ownsRow.lt o4x _ e).1;omega));have o4B:=World.ownsRow.kept o4y (zar (g:=gx) (i:=k) (x:= .int .i64 sx)) (.inr (fun e=>by have:=(World.ownsRow.lt o4y _ e).1;omega));have bA:=(bw.setCell (p:=⟨gx,k,none⟩) hgx (.int .i64 sx)).setCell (p:=⟨gy,k,none⟩) hgy (.int .i64 sy);have bB:=(bw.setCell (p:=⟨gy,k,none⟩) hgy (.int .i64 sy)).setCell (p:=⟨gx,k,none⟩) hgx (.int .i64 sx);have al:∀W:World,New W ((W.alloc (.cells #[.int .i64 sx,.int .i64 sy] 59)).drew):=fun W=>New.trans ((Below.refl _ _).alloc (Nat.le_refl _) _) (New.drew _)
      have HA1:=Hz (And.intro (xC.later (al _)) (And.intro (yB.later (al _)) (And.intro (zav o4A (al _)) (New.trans bA (al _)))));have HB1:=Hz (And.intro (xB.later (al _)) (And.intro (yC.later (al _)) (And.intro (zav o4B (al _)) (New.trans bB (al _)))));have hcx':∃q,wr.cell? ⟨gx,k,none⟩=some (.int .i64 q):=⟨_,hcx⟩;have hcy':∃q,wr.cell? ⟨gy,k,none⟩=some (.int .i64 q):=⟨_,hcy⟩;clear hcx hcy;obtain⟨q1,hcx⟩:=hcx';obtain⟨q2,hcy⟩:=hcy';have hyx:gy≠gx:=fun e=>hxy e.symm
      clear al xC yB o4A bA xB yC o4B bB o4x o4y xA yA xy yx nxy nyx hsx hsy ox oy o4 bw b2 B2 ms1 ms2 hlx hly d1;go_wp2_with fail
      go_region
      all_goals
       go_wp2_with fail
       go_roundw
       case rel=>
        first
         |exact⟨k+1,by omega,by go_num,HA1.out⟩
         |exact⟨k+1,by omega,by go_num,HB1.out⟩
       case measure=>simp[intOf];omega
     ·obtain rfl:k=S.length:=by omega
      rw[List.take_length,hSl,Nat.sub_self,List.replicate_zero,List.append_nil] at ox;rw[List.take_length,hSl,Nat.sub_self,List.replicate_zero,List.append_nil] at oy;have EX:=Hz (zfb (c:=L.length) ox.reads HA.out.1 (by omega));have hzw:=bw.size;clear o4 hlt;go_wp2_with fail
      refine EX.out.mono ?_;intro e w5 h5;rw[HA.out.2] at h5;obtain⟨A5,n5,c5,rfl,o5,b5⟩:=h5;obtain rfl:n5=a.length:=by have:=o5.len;rwa[zaa] at this
      have EY:=Hz (zfb (c:=L.length) (oy.later b5).reads HB.out.1 (by omega));have b05:=New.trans bw b5;have hz5:=b05.size;clear EX ox oy b5 bw;go_wp2_with fail
      refine EY.out.mono ?_;intro e w6 h6;rw[HB.out.2] at h6;obtain⟨A6,n6,c6,rfl,o6,b6⟩:=h6;obtain rfl:n6=b.length:=by have:=o6.len;rwa[zaa] at this
      have o5:=o5.later b6;have b06:=New.trans b05 b6;have hz6:=b06.size;have hw1:IntKind.u64.wrap (a.length:Int)=(a.length:Int):=by rw[IntKind.wrap_u64];omega
      have PT:=Hz (fun W:World=>zcz none 0 0 [] a.length W Reads.none_ (by omega) (by omega));have hvl:=zap (n:=a.length) (by omega);clear EY b6 b05;generalize hV:vp a.length=V at*;clear hV;go_wp2_with fail
      refine(PT.out _).mono ?_;rintro e w7 ⟨A7,n7,c7,rfl,o7,b7⟩;rw[List.nil_append] at o7;obtain rfl:n7=V.length:=by have:=o7.len;rwa[zaa] at this
      have h57:=zf0 (zgj o7 (o5.base_le (Nat.zero_le _)));have h67:=zf0 (zgj o7 (o6.base_le (Nat.zero_le _)));have o5:=o5.later b7;have o6:=o6.later b7;have b07:=New.trans b06 b7;have hz7:=b07.size;have o7:=o7.base_le (b':=w.heap.size) hz6;clear PT b7 b06;go_wp2_with (first
       |(refine zau elB rfl (.tmp 71) (.tmp 72) rfl (W:=w) (B:=w.heap.size) o7 o5.reads rfl rfl b07 (Nat.le_refl _) hz7 (by omega) (by simp only[maxLen];omega) ?_
         intro A8 c8 w8 _ _ o8 g8 b8 d8;have p6:=o6.kept g8 h67;have hz8:=b8.size)
       |(refine zau elB rfl (.tmp 74) (.tmp 75) rfl (W:=w) (B:=w.heap.size) o8 p6.reads rfl rfl b8 (Nat.le_refl _) hz8 (by omega) (by simp only[maxLen];omega) ?_
         intro A9 c9 w9 _ _ o9 _ b9 _))
      go_ret2
      rw[HE.out];exact⟨_,_,_,rfl,o9,b9⟩
end Go.Proofs.Y
namespace Go.Hm
open Go Go.RowKit
section
variable{P:Program}{ops:Array Oper}{rest:List Oper}{o:Oper}{a:Act}{Q:Exit->Act->World->Prop}
theorem zvx{w:World}(hgd:o.guard=none)(ty:TypeId)(x y:Operand)(ho:o.op= .store ty x y)
 {base:Nat}{e:TypeId}{g n m:Nat}{A B:List zab}{s:Int × Int}(hown:w.ownsRow base e 5 (.slice (some ⟨g,0,none⟩) n n) n (recs zan (A++zaz::B)))(hm:A.length=m)(hmn:m<n)
 (hx:a.eval x= .pointer (some ⟨g,m*5+3,none⟩))(hy:a.eval y= .agg #[.int .i64 s.1,.int .i64 s.2])(hi:(P.info? ty).map (·.size)=some 2)
 (h:∀W,W.ownsRow base e 5 (.slice (some ⟨g,0,none⟩) n n) n (recs zan (A++(false,0,[],s.1,s.2)::B))->w.grownBy W (some g)->wpList P ops Q rest (a.put o.dst undef) W):wpList P ops Q (o::rest) a w:=by
 obtain⟨cs,hB⟩:=zie hown;obtain⟨ad,ea,-,c0,c1,c2,c3,c4⟩:=(Reads.of_own hown).cell5 (i:=m) hmn;injection ea with ea;subst ea;have ead:(⟨g,0,none⟩:Addr).add (m*5)=⟨g,m*5,none⟩:=by unfold Addr.add;split<;> simp_all
 rw[ead] at c3 c4;dsimp only at c3 c4;have ht:w.there g (m*5+3) (#[Value.int .i64 s.1,.int .i64 s.2]:Array Value).size:=by
  intro j hj;have hj:j<2:=hj;refine⟨?_,hB.frozen _⟩;have:j=0\/j=1:=by omega
  rcases this with rfl|rfl
  ·rw[Nat.add_zero,c3];rfl
  ·rw[Nat.add_assoc,c4];rfl
 refine wpList_store_mid hgd ty x y ho g (m*5+3) #[.int .i64 s.1,.int .i64 s.2] hx hy ht hi (by simp[Value.oneCell']) ?_;obtain⟨o1,g1⟩:=World.ownsRow.stored hown (m*5+3) (.int .i64 s.1);obtain⟨o2,g2⟩:=World.ownsRow.stored o1 (m*5+3+1) (.int .i64 s.2);have hl:(recs zan A).length=m*5:=by rw[zat (sz:=5) (fun _=>rfl) A,hm]
 have e2:((recs zan (A++zaz::B)).set (m*5+3) (.int .i64 s.1)).set (m*5+3+1) (.int .i64 s.2)=recs zan (A++(false,0,[],s.1,s.2)::B):=by rw[zas,zas,List.set_append_right _ _ (by omega),List.set_append_right _ _ (by omega),hl,show m*5+3-m*5=3 by omega,show m*5+3+1-m*5=4 by omega];rfl
 rw[e2] at o2;exact h _ o2 (g1.trans g2)
end
end Go.Hm
namespace Go.Proofs.Y
open Go.RowKit Go.Hm
theorem OptI.u{o:Option (List Int)}{w w':World}{e:Ending}(h:OptI o w e w'):
 ∃A n c,e= .returned (.tuple #[.slice A n c,.bool o.isSome])/\Go.Hm.Own w' w.heap.size 3 (.slice A n c) (zeq .i64 (o.getD []))/\New w w':=by
 cases o with
 |none=>exact⟨none,0,0,h.1,Own.nil_,h.2⟩
 |some l=>exact h
theorem zpg(S:St):(zbr ((S.getD []).length:Int) S).1=S.getD []/\(zbr ((S.getD []).length:Int) S).2.isNone=S.isNone:=by
 cases S with
 |none=>exact⟨rfl,rfl⟩
 |some r=>
  have:=zdh r [];rw[List.append_nil] at this;simp only[Option.getD_some];rw[this];exact⟨rfl,rfl⟩
set_option maxRecDepth 100000 in
theorem zms{w:World}{A:Option Addr}{c:Nat}{b:List Nat}{n:Int}(h:Reads w w.heap.size 1 A b.length (za2 .u8 b))(h8:∀x∈b,x<256)(hb:b.length<=140737488351232):
 Calls Tryz.prog 214 #[.slice A b.length c,.int .i64 n] w (z3b 3 3 b n w):=by
 have C:=Hz (zfh (c:=c) h (by omega) h8);have hok:St.ok (some b):=St.ok_some h8;obtain⟨sz,S1,k1⟩:∃sz S1,lenS (b.length:Int) (some b)=(sz,S1):=⟨_,_,rfl⟩;have hok1:S1.ok:=by have:=zba (m:=(b.length:Int)) hok;rwa[k1] at this
 obtain⟨x,S2,k2⟩:∃x S2,zbr (sz:Int) S1=(x,S2):=⟨_,_,rfl⟩;have htk:=zct (n:=(sz:Int)) hok1;rw[k2] at htk;obtain⟨hy1,hy2⟩:=zpg S2;have hs1:(S1.getD []).length<=b.length:=by have:=zc3 (m:=(b.length:Int)) hok;rwa[k1] at this
 have hs2:(S2.getD []).length<=(S1.getD []).length:=by have:=zg3 (n:=(sz:Int)) S1;rwa[k2] at this
 have hszl:(sz:Int)<=(b.length:Int):=by have:=zbx (m:=(b.length:Int)) (some b) (by omega) hok;rwa[k1] at this
 have hxl:x.length<=b.length:=by have:=zem (n:=(sz:Int)) (S:=S1) (by omega);rw[k2] at this;dsimp only at this;omega
 have MK:=Hz (fun ox oy (hx:IsDel x n ox) (hy:IsDel (S2.getD []) n oy)=>zuy h8 (by omega) k1 k2 rfl hx hy);have HX8:=Hz htk.2;have hok2:S2.ok:=htk.1;have HY8:Hid (∀z∈S2.getD [],z<256):=Hz (fun z hz=>by
  cases S2 with
  |none=>cases hz
  |some r=>exact hok2 r rfl z hz)
 have HWS:=Hz (fun(X Y:List Int) P (e:X.length=Y.length) (q:zf2 (0,0) (X.zip Y)=some P)=>(zlj X Y (0,0) P e q).1);clear hok hok1 htk h h8 hok2;go_enter Tryz.func214,Tryz.ntmps214
 go_wp2_with fail
 refine C.out.mono ?_;rintro e w1 ⟨g,rfl,hg,C1,b1⟩;have s1:=CurS.of C1;have LF:=Hz (zua s1);have L1:=zcc (m:=(b.length:Int)) s1 (by omega) (by omega);rw[k1] at L1;replace L1:=Hz L1;unfold zfg at LF;simp only[Option.getD_some] at LF;clear C C1 s1;go_wp2_with fail
 refine LF.out.mono ?_;rintro e w1' ⟨rfl,rfl⟩;go_wp2_with fail
 refine L1.out.mono ?_;rintro e w2 ⟨rfl,s2,g2⟩;have b2:=Far.below b1 g2 hg (Nat.le_refl _);have T1:=zc6 (n:=(sz:Int)) s2 (by omega) (by omega);rw[k2] at T1;replace T1:=Hz T1;clear L1 LF g2 b1 s2;go_wp2_with fail
 refine T1.out.mono ?_;rintro e w3 ⟨A3,n3,c3,rfl,rfl,o3,s3,g3⟩;have b3:=Far.below b2 g3 hg (Nat.le_refl _);have D1:=Hz (zit (c:=c3) (n:=n) o3.reads HX8.out (by omega));clear T1 g3 b2 o3;go_wp2_with fail
 refine D1.out.mono ?_;rintro e w4 ⟨ox,hx,h4⟩;obtain⟨A4,n4,c4,rfl,o4,b4⟩:=h4.u;obtain rfl:n4=(ox.getD []).length:=by have:=o4.len;rwa[zcy] at this
 have s4:=s3.below b4;have hz4:=b3.size;have o4:=o4.base_le (b':=w.heap.size) hz4;have b04:=New.trans b3 b4;have LF:=Hz (zua s4);have T2:=zc6 (n:=((S2.getD []).length:Int)) s4 (by omega) (by omega);rw[hy1] at T2;obtain⟨S3,hS3⟩:∃S3,S3=(zbr ((S2.getD []).length:Int) S2).2:=⟨_,rfl⟩;rw[<-hS3] at T2 hy2;replace T2:=Hz T2;unfold zfg at LF;have HMK:=Hz (fun oy hy=>MK.out ox oy hx hy);have HXX:=Hz hx;clear D1 s3 b3 b4 hS3 hy1 h4 MK hx;generalize hY:S2.getD []=y at*;have hYl:y.length<=b.length:=by omega
 clear hY;go_wp2_with fail
 refine LF.out.mono ?_;rintro e w4' ⟨rfl,rfl⟩;go_wp2_with fail
 refine T2.out.mono ?_;rintro e w5 ⟨A5,n5,c5,rfl,rfl,o5,s5,g5⟩;have b5:=Far.below b04 g5 hg (Nat.le_refl _);have o4:=o4.kept g5 (.inr (zao o4 s4.blk.choose_spec (by decide)));have D2:=Hz (zit (c:=c5) (n:=n) o5.reads HY8.out (by omega));clear T2 g5 b04 o5 LF s4;go_wp2_with fail
 refine D2.out.mono ?_;rintro e w6 ⟨oy,hy,h6⟩;obtain⟨A6,n6,c6,rfl,o6,b6⟩:=h6.u;obtain rfl:n6=(oy.getD []).length:=by have:=o6.len;rwa[zcy] at this
 have HV:=Hz (HMK.out oy hy);have s6:=s5.below b6;have BD:=Hz (zzi s6);have o4:=o4.later b6;have b06:=New.trans b5 b6;rw[hy2] at BD;clear D2 HMK s5 b5 b6 h6 hy2;go_wp2_with fail
 refine BD.out.mono ?_;rintro e w6' ⟨rfl,rfl⟩;clear BD s6;cases S2 with
 |none=>
  have HN:Hid (IsVal 3 3 b n none):=Hz (by simpa[qfx] using HV.out);simp only[Option.isNone_none];go_wp2
  go_ret2
  exact⟨none,HN.out,⟨_,rfl⟩,b06⟩
 |some R=>
  simp only[Option.isNone_some];cases ox with
  |none=>
   have HN:Hid (IsVal 3 3 b n none):=Hz (by simpa[qfx] using HV.out);simp only[Option.isSome_none];go_wp2
   go_ret2
   exact⟨none,HN.out,⟨_,rfl⟩,b06⟩
  |some X=>
   cases oy with
   |none=>
    have HN:Hid (IsVal 3 3 b n none):=Hz (by simpa[qfx] using HV.out);simp only[Option.isSome_none,Option.isSome_some];go_wp2
    go_ret2
    exact⟨none,HN.out,⟨_,rfl⟩,b06⟩
   |some Y=>
    obtain⟨x1,x2,-⟩:=HXX.out.sound X rfl;obtain⟨y1,-,-⟩:=hy.sound Y rfl;have hX6:=zho x2;subst x1;have hYX:Y.length=X.length:=by omega
    simp only[Option.getD_some] at o4 o6;have hV:=HV.out;unfold qfx at hV;dsimp only at hV;have HV2:=Hz hV;have RX:=Hz o4.reads;have RY:=Hz o6.reads;simp only[Option.isSome_some,Option.getD_some];have hz6:=b06.size;clear HXX HV hy hV x2 y1 o4 o6;have hzl:(X.zip Y).length=X.length:=by rw[List.length_zip];omega
    have hzat:∀k,k<X.length->(X.zip Y).getD k (0,0)=(X.getD k 0,Y.getD k 0):=fun k hk=>by simp only[List.getD_eq_getElem?_getD];rw[List.getElem?_eq_getElem (by omega),List.getElem_zip,List.getElem?_eq_getElem hk,List.getElem?_eq_getElem (by omega)];rfl
    have HZ:=Hz hzat;have HZL:=Hz hzl;have HWS2:=Hz (HWS.out X Y);have HYX:=Hz hYX;clear hzat hzl HWS hYX
    go_wp2_with (refine zpc qgt rfl (.tmp 52) (.tmp 52) rfl (W:=w) (B:=w.heap.size) X.length rfl rfl rfl rfl b06 hz6 (by omega) (by simp only[maxLen];omega) ?_
                 intro w7 o7 g7 b7 hs7)
    rw[zrs] at o7;have b67:New w6 w7:=(Turns.of_none (T:=[]) g7).new (by simp);go_loopw [56] (fun i wr=>∃k:Nat,k<=X.length/\i= .int .i64 (k:Int)/\wr.ownsRow w6.heap.size 59 2 (.slice (some ⟨w6.heap.size,0,none⟩) X.length X.length) X.length (zc0 ((X.zip Y).take k++List.replicate (X.length-k) (0,0)))/\New w6 wr) (fun i _=>X.length-(intOf i).toNat)
    case atStart=>exact⟨0,Nat.zero_le _,rfl,by simpa using o7,b67⟩
    case round=>
     clear o7 g7 b7 hs7 b67;obtain⟨k,hk,rfl,o,bw⟩:=hrel;by_cases hlt:k<X.length
     ·obtain⟨ax,hax,_,c0⟩:=(Reads.later RX.out bw).int hlt
      have hyx:=HYX.out;obtain⟨ay,hay,_,c1⟩:=(Reads.later RY.out bw).int (i:=k) (by omega);subst hax hay;have htk:=zae (X.zip Y) k (0,0) (by rw[HZL.out];exact hlt);rw[HZ.out k hlt] at htk;have hll:((X.zip Y).take k).length=k:=by rw[List.length_take,HZL.out];omega
      generalize X.getD k 0=px at*;generalize Y.getD k 0=py at*;rw[show X.length-k=(X.length-(k+1))+1 by omega,List.replicate_succ] at o;have ead:(⟨w6.heap.size,0,none⟩:Addr).add (k*2)=⟨w6.heap.size,k*2,none⟩:=by unfold Addr.add;split<;> simp_all
      have i1:(k:Int)<(X.length:Int):=by omega
      have i2:(k:Int)<(Y.length:Int):=by omega
      have HTK:=Hz htk;have HLL:=Hz hll;have HO:=Hz (show wr.drew.ownsRow w6.heap.size 59 2 (.slice (some ⟨w6.heap.size,0,none⟩) X.length X.length) X.length (zc0 ((X.zip Y).take k++(0,0)::List.replicate (X.length-(k+1)) (0,0))) from o);have bw2:=New.trans bw (New.drew wr);have HBW:=Hz bw2;clear o bw bw2 htk hll hyx;go_wp2
      go_still_tail 12,(by kernel_rfl)
      change wpList _ _ _ _ _ wr.drew
      generalize wr.drew=wd at*
      go_wp2_with (refine zmh rfl 59 (.tmp 70) (.tmp 69) rfl (new:=(px,py)) HO.out HLL.out hlt rfl rfl (by kernel_rfl) ?_
                   intro w9 o9 g9)
      have b9:=Far.below HBW.out g9 (Nat.le_refl _) (Nat.le_refl _);have o9:w9.ownsRow w6.heap.size 59 2 (.slice (some ⟨w6.heap.size,0,none⟩) X.length X.length) X.length (zc0 ((X.zip Y).take (k+1)++List.replicate (X.length-(k+1)) (0,0))):=by rw[HTK.out,List.append_assoc];exact o9
      go_roundw
      case rel=>exact⟨k+1,by omega,by go_num,o9,b9⟩
      case measure=>simp[intOf];omega
     ·obtain rfl:k=X.length:=by omega
      rw[List.take_of_length_le (by rw[HZL.out];exact Nat.le_refl _),Nat.sub_self,List.replicate_zero,List.append_nil] at o;have PW:=Hz (z7z (c:=X.length) (Reads.of_own o) (by omega));have hws:=HWS2.out;have b0w:=New.trans b06 bw;generalize zf2 (0,0) (X.zip Y)=O at*;clear o bw RX RY b06 hlt HWS2;go_wp2_with fail
      refine PW.out.mono ?_;rintro e w8 ⟨A8,n8,c8,rfl,o8,b8⟩;have b08:=New.trans b0w b8;have hz8:=b0w.size;cases O with
      |none=>
       have HN:Hid (IsVal 3 3 b (X.length:Int) none):=Hz HV2.out;simp only[Option.isSome_none];go_wp2
       go_ret2
       exact⟨none,HN.out,⟨_,rfl⟩,b08⟩
      |some p=>
       have hpl:p.length=X.length:=hws p HYX.out.symm rfl;simp only[Option.getD_some] at o8;obtain rfl:n8=p.length:=(Reads.of_own o8).lenP;rw[<-hpl];have R8:=Hz (Reads.of_own o8);have hp6:p.length<=65536:=by omega
       have hzz:=b08.size;simp only[Option.isSome_some];clear hws o8 PW HZ HZL HYX hpl b8 b0w
       go_wp2_with (refine zev qfi rfl (.tmp 79) (.tmp 79) rfl (W:=w) (B:=w.heap.size) p.length rfl rfl rfl rfl b08 hzz (by omega) (by simp only[maxLen];omega) ?_
                    intro w9 o9 g9 b9 hs9)
       rw[zg6] at o9;have b89:New w8 w9:=(Turns.of_none (T:=[]) g9).new (by simp);go_loopw [83] (fun i wr=>∃k:Nat,k<=p.length/\i= .int .i64 (k:Int)/\wr.ownsRow w8.heap.size 61 5 (.slice (some ⟨w8.heap.size,0,none⟩) p.length p.length) p.length (recs zan ((p.take k).map cPt++List.replicate (p.length-k) zaz))/\New w8 wr) (fun i _=>p.length-(intOf i).toNat)
       case atStart=>exact⟨0,Nat.zero_le _,rfl,by simpa using o9,b89⟩
       case round=>
        clear o9 g9 b9 hs9 b89;obtain⟨k,hk,rfl,o,bw⟩:=hrel;by_cases hlt:k<p.length
        ·obtain⟨ax,hax,_,d0,d1⟩:=(Reads.later R8.out bw).pair hlt
         subst hax;have d2:wr.cell? ⟨(ax.add (k*2)).block,(ax.add (k*2)).off+1,none⟩=some (.int .i64 (p.getD k (0,0)).2):=by rw[<-zbc] at d1;exact d1
         have htk:=zae p k (0,0) hlt;have hll:((p.take k).map cPt).length=k:=by rw[List.length_map,List.length_take];omega
         generalize p.getD k (0,0)=q at*;obtain⟨qx,qy⟩:=q;dsimp only at d0 d1 d2;rw[show p.length-k=(p.length-(k+1))+1 by omega,List.replicate_succ] at o;have ead:(⟨w8.heap.size,0,none⟩:Addr).add (k*5)=⟨w8.heap.size,k*5,none⟩:=by unfold Addr.add;split<;> simp_all
         have i1:(k:Int)<(p.length:Int):=by omega
         have b2:New wr (wr.alloc (.cells #[.int .i64 qx,.int .i64 qy] 59)):=(Below.refl _ _).alloc (Nat.le_refl _) _;have B2:=Blk.new wr 59 #[.int .i64 qx,.int .i64 qy];have HO:=Hz (zav o b2);have HBW:=Hz (New.trans bw b2);obtain⟨p0,p1⟩:=za7 B2;have HTK:=Hz htk;have HLL:=Hz hll;clear o bw b2 B2 htk hll d1
         go_wp2_with (refine zvx rfl 59 (.tmp 92) (.tmp 90) rfl (s:=(qx,qy)) HO.out HLL.out hlt rfl rfl (by kernel_rfl) ?_
                      intro w9 o9 g9)
         have b9:=Far.below HBW.out g9 (Nat.le_refl _) (Nat.le_refl _);have o9:w9.ownsRow w8.heap.size 61 5 (.slice (some ⟨w8.heap.size,0,none⟩) p.length p.length) p.length (recs zan ((p.take (k+1)).map cPt++List.replicate (p.length-(k+1)) zaz)):=by rw[HTK.out,List.map_append,List.append_assoc];exact o9
         go_roundw
         case rel=>exact⟨k+1,by omega,by go_num,o9,b9⟩
         case measure=>simp[intOf];omega
        ·obtain rfl:k=p.length:=by omega
         rw[List.take_length,Nat.sub_self,List.replicate_zero,List.append_nil] at o;go_wp2_with fail
         go_ret2
         exact⟨some (p.map cPt),HV2.out,_,_,_,rfl,zbg o hzz,New.trans b08 bw⟩
end Go.Proofs.Y
