/- Merged. -/
import Derived.Test.YtbahbnbpmfgimaaGreatDoorBun13
import Derived.Test.YtbahbnbpmfgimaaGreatDoorBun14
set_option maxHeartbeats 2000000
namespace Go.Hm
open Go Go.RowKit
theorem qao{n k:Nat}(hk:k<8)(x:Nat):(128::(List.replicate (zf1 n) 0++((zic n).take k++List.replicate (8-k) 0))).set (1+zf1 n+k) x=128::(List.replicate (zf1 n) 0++((zic n).take k++(x::List.replicate (8-(k+1)) 0))):=by
 have h1:((zic n).take k).length=k:=by simp[zic];omega
 rw[show 1+zf1 n+k=(zf1 n+k)+1 by omega,List.set_cons_succ,List.set_append_right _ _ (by simp),List.set_append_right _ _ (by rw[h1];simp),h1,List.length_replicate,show zf1 n+k-zf1 n-k=0 by omega,show 8-k=(8-(k+1))+1 by omega,List.replicate_succ,List.set_cons_zero]
theorem z1p{n k:Nat}(hk:k<8):(zic n).take (k+1)=(zic n).take k++[qht n k]:=by
 rw[zac _ k 0 (by simp[zic];exact hk)];congr 1
 simp[zic,hk]
end Go.Hm
namespace Go.Proofs.Y
open Go.RowKit Go.Hm
set_option maxRecDepth 100000 in
theorem z43{w:World}:Calls Tryz.prog 45 #[] w (zal (.agg (zbu zjt)) w):=by
 have b0:New w (w.alloc (.cells (zbu zjt) 98)):=(Below.refl _ _).alloc (Nat.le_refl _) _;have hsz:(Tryz.prog.info? 98).map (·.size)=some (zbu zjt).size:=by kernel_rfl
 have hR:=zaz (Blk.new w 98 (zbu zjt));have H:=Hz (And.intro hsz hR);clear hsz hR;go_enter Tryz.func45,Tryz.ntmps45
 go_wp2
 exact bodyPost_ret (results_cell_row rfl _ _ w.heap.size _ (zbu zjt) (0,0) _ rfl H.out.2 (show Tryz.prog.underlying 98=some (.array 8 97) by kernel_rfl) rfl H.out.1) rfl ⟨rfl,b0⟩
set_option maxRecDepth 100000 in
theorem qfj{w:World}(n:Int):Calls Tryz.prog 47 #[.int .i64 n] w (zck (qfi n) w):=by
 by_cases hn:0<=n/\n<=2147483647
 ·obtain⟨h0,h1⟩:=hn
  obtain⟨N,rfl⟩:=Int.eq_ofNat_of_zero_le h0;have hP:qfi (N:Int)=zt7 N:=by unfold qfi;rw[if_pos ⟨h0,h1⟩,Int.toNat_natCast]
  rw[hP];have d1:decide ((N:Int)<0)=false:=by simp
  have d2:decide ((2147483647:Int)<(N:Int))=false:=by simp;omega
  obtain⟨r,hr⟩:∃r,r=(N+8)%64:=⟨_,rfl⟩;have hzz:zf1 N=63-r:=by unfold zf1;omega
  have hr64:r<64:=by omega
  have e3:((N:Int)+8)%64=(r:Int):=by omega
  have e1:((N:Int)+8).tmod 64=(r:Int):=by rw[Int.tmod_eq_emod_of_nonneg (by omega)];omega
  have HL:=Hz (znh N);have ST:=fun k (hk:k<8) (x:Nat)=>qao (n:=N) hk x
  have TK:=fun k (hk:k<8)=>z1p (n:=N) hk
  have PL:zt7 N=128::(List.replicate (zf1 N) 0++zic N):=rfl;obtain⟨z,hz⟩:∃z,z=zf1 N:=⟨_,rfl⟩;rw[<-hz] at ST PL hzz;have e2:(63:Int)-(r:Int)=(z:Int):=by omega
  have hz64:z<64:=by omega
  have HST:=Hz ST;have HTK:=Hz TK;have HPL:=Hz PL;clear hr hzz hz ST TK PL hP;go_enter Tryz.func47,Tryz.ntmps47
  go_wp2_with (refine zb6 elB rfl _ _ rfl (W:=w) (B:=w.heap.size) (1+z+8) (1+z+8) rfl rfl (by omega) (by omega) (Nat.le_refl _) (Below.refl _ _) (Nat.le_refl _) rfl (by omega) (by simp only[maxLen];omega) ?_;intro w1 o1 g1 b1 z1;have o2:Own w1 w.heap.size 5 (.slice (some ⟨w.heap.size,0,none⟩) (1+z+8) (1+z+8)) (zao .u8 (List.replicate (1+z+8) 0)):=by(rw[zby];exact o1)
               obtain⟨_,_,c0,f0,st⟩:=o2.num0 (i:=0) (by omega))
  have o3:=st 128;rw[show(List.replicate (1+z+8) 0).set 0 128=128::(List.replicate z 0++((zic N).take 0++List.replicate (8-0) 0)) by rw[show 1+z+8=(z+8)+1 by omega,List.replicate_succ,List.set_cons_zero,List.replicate_append_replicate.symm];rfl] at o3
  have b3:=b1.setCell (p:=⟨w.heap.size,0,none⟩) (Nat.le_refl _) (.int .u8 ((128:Nat):Int));have O3:=Hz o3;have B3:=Hz b3;clear c0 f0 st o1 o2 o3 b3 g1 b1;go_loopw [22] (fun i wr=>∃k:Nat,k<=8/\i= .int .i64 (k:Int)/\Hid (Own wr w.heap.size 5 (.slice (some ⟨w.heap.size,0,none⟩) (1+z+8) (1+z+8)) (zao .u8 (128::(List.replicate z 0++((zic N).take k++List.replicate (8-k) 0)))))/\Hid (New w wr)) (fun i _=>8-(intOf i).toNat)
  case atStart=>exact⟨0,by omega,rfl,O3,B3⟩
  case round=>
   clear O3 B3;obtain⟨k,hk,rfl,O,b⟩:=hrel;by_cases hlt:k<8
   ·obtain⟨q,hq⟩:∃q,q=1+z+k:=⟨_,rfl⟩
    obtain⟨sh,hsh⟩:∃q,q=56-8*k:=⟨_,rfl⟩;obtain⟨x,hx⟩:∃x,x=qht N k:=⟨_,rfl⟩;obtain⟨_,hltb,c0,f0,st⟩:=O.out.num0 (i:=q) (by omega);have i1:(1:Int)+(z:Int)+(k:Int)=(q:Int):=by omega
    have i2:(56:Int)-8*(k:Int)=(sh:Int):=by omega
    have v1:8*(N:Int)/2^sh%256=(x:Int):=by rw[hx,hsh];unfold qht;simp
    have o3:=st x;rw[hx,hq,HST.out k hlt,<-hx,<-hq] at o3;have tk:=HTK.out k hlt;rw[<-hx] at tk;rw[show(zic N).take k++(x::List.replicate (8-(k+1)) 0)=(zic N).take (k+1)++List.replicate (8-(k+1)) 0 by rw[tk];simp] at o3;have b3:=b.out.setCell (p:=⟨w.heap.size,q,none⟩) (Nat.le_refl _) (.int .u8 (x:Int));have O3:=Hz o3;have B3:=Hz b3;have hq2:q<1+z+8:=by omega
    clear hq hsh hx st o3 b3 tk O b;go_wp2
    go_roundw
    case rel=>exact⟨k+1,by omega,by go_num,O3,B3⟩
    case measure=>simp[intOf];omega
   ·obtain rfl:k=8:=by omega
    have o:=O.out;rw[List.take_of_length_le (by simp[zic]),show List.replicate (8-8) 0=([]:List Nat) from rfl,List.append_nil,<-HPL.out] at o;have O3:=Hz o;clear o O;go_wp2
    go_ret
    exact⟨_,_,_,rfl,O3.out,b.out⟩
 ·have hP:qfi n=[]:=by unfold qfi;rw[if_neg hn]
  rw[hP];by_cases h0:n<0
  ·have d1:decide (n<0)=true:=by simpa using h0
   clear hn hP;go_enter Tryz.func47,Tryz.ntmps47
   go_wp2
   go_ret
   exact⟨_,_,_,rfl,Own.nil_,New.refl _⟩
  ·have d1:decide (n<0)=false:=by simpa using h0
   have d2:decide (2147483647<n)=true:=by simp;omega
   clear hn hP;go_enter Tryz.func47,Tryz.ntmps47
   go_wp2
   go_ret
   exact⟨_,_,_,rfl,Own.nil_,New.refl _⟩
end Go.Proofs.Y
namespace Go.Hm
open Go Go.RowKit
def boolN(b:Bool):Nat:=if b then 1 else 0
def z26(c:zbc):List Nat:=vp c.1.length++c.1++[c.2.1.toNat,boolN c.2.2]
def zkd(l:List zbc):List Nat:=l.flatMap z26
theorem qcy:zkd []=[]:=rfl
theorem z74(l:List zbc)(c:zbc):zkd (l++[c])=zkd l++(vp c.1.length++c.1++[c.2.1.toNat,boolN c.2.2]):=by simp[zkd,z26]
theorem z75(l:List zbc)(c:zbc):zkd (c::l)=(vp c.1.length++c.1++[c.2.1.toNat,boolN c.2.2])++zkd l:=by simp[zkd,z26]
theorem z0m(l:List zbc)(h:∀x∈l,x.1.length<=100):(zkd l).length<=112*l.length:=by
 induction l with
 |nil=>simp[zkd]
 |cons c l ih=>
  have h1:=ih fun x hx=>h x (by simp[hx])
  have h2:=h c (by simp);have h3:=zap (n:=c.1.length) (by omega);rw[z75];simp only[List.length_append,List.length_cons,List.length_nil] at*;omega
def putC(b:List Nat)(l:List zbc):List Nat:=if zcy l=0 then b++vp l.length++zkd l else b
end Go.Hm
namespace Go.Proofs.Y
open Go.RowKit Go.Hm
theorem qcz(b:Bool)(w:World):Calls Tryz.prog 112 #[.bool b] w (zdl (.int .u8 ((boolN b:Nat):Int)) w):=by
 cases b;all_goals
  go_enter Tryz.func112,Tryz.ntmps112
  go_wp2
  go_ret
  exact⟨rfl,rfl⟩
set_option maxRecDepth 100000 in
theorem qc0{w:World}{A A2:Option Addr}{n c n2 c2:Nat}{b:List Nat}{L:List zbc}(h:Reads w w.heap.size 1 A n (zao .u8 b))(hn:n<=140737488300000)(h2:Reads w w.heap.size 3 A2 n2 (recs zls L))(hL:∀x∈L,(∀z∈x.1,z<256)/\x.1.length<=140737488351232)(hc:n2<=c2)(hn2:n2<=4611686018427387903):
 Calls Tryz.prog 88 #[.slice A n c,.slice A2 n2 c2] w (zck (putC b L) w):=by
 have P0:=Hz (znq (c:=c2) h2 hL hc hn2);obtain rfl:=h2.lenC;by_cases hk:zcy L=0
 ·rw[hk] at P0
  have HO:=Hz (show putC b L=b++vp L.length++zkd L by rw[putC,if_pos hk]);obtain⟨m1,m2,_⟩:=(zek L).1 hk;generalize putC b L=O at*;have M2:=Hz m2;have HLL:=Hz hL;have vl:=zap (n:=L.length) (by omega);have VL:=Hz vl;have hln:=h.len;have LN:=Hz hln;clear hk m2 hL hln;go_enter Tryz.func88,Tryz.ntmps88
  go_wp2_with fail
  refine P0.out.mono ?_;rintro e w1 ⟨rfl,b1⟩;have P1:=Hz (zc0 A n c b L.length w1 (Reads.later h b1) (by omega) (by omega));go_wp2_with fail
  refine P1.out.mono ?_;rintro e w2 ⟨A3,n3,c3,rfl,k3,b2⟩;have b02:=New.trans b1 b2;have Z1:=b1.size;clear P0 P1 b1 vl;go_wp2
  go_loopw [5,20] (fun v i wr=>∃(k:Nat) (A:Option Addr) (m c5:Nat),i= .int .i64 (k:Int)/\k<=L.length/\v= .slice A m c5/\Own wr w.heap.size 5 (.slice A m c5) (zao .u8 (b++vp L.length++zkd (L.take k)))/\New w wr) (fun _ i _=>L.length-(intOf i).toNat)
  case atStart=>exact⟨0,_,_,_,rfl,by omega,rfl,by rw[List.take_zero,qcy,List.append_nil];exact k3.base_le Z1,b02⟩
  case round=>
   obtain⟨k,A5,m5,c5,rfl,hk,rfl,o5,b5⟩:=hrel;have z5:=b5.size;by_cases hlt:k<L.length
   ·obtain⟨ad,rfl,hbk,d0,d1,d2⟩:=(Reads.later h2 b5).colT hlt
    have hx:(L.getD k ([],0,false))∈L:=by rw[List.getD_eq_getElem?_getD,List.getElem?_eq_getElem hlt];exact List.getElem_mem hlt
    obtain⟨x1,x2,x3,x4⟩:=M2.out _ hx;have y1:=(HLL.out _ hx).1;have T:=zac L k ([],0,false) hlt;have q5:m5<=n+7200:=by have l:=o5.len;have l2:=z0m (L.take k) (fun x hx=>(M2.out x (List.mem_of_mem_take hx)).2.1);rw[zaa,List.length_append,List.length_append] at l;rw[List.length_take] at l2;have:=VL.out;have:=LN.out;omega
    have HT:=Hz (show b++vp L.length++zkd (L.take (k+1))=b++vp L.length++zkd (L.take k)++vp (L.getD k ([],0,false)).1.length++(L.getD k ([],0,false)).1++[(L.getD k ([],0,false)).2.1.toNat,boolN (L.getD k ([],0,false)).2.2] by rw[T,z74];simp);clear T hx;generalize(L.getD k ([],0,false)).1=s2 at*;generalize(L.getD k ([],0,false)).2.1=t2 at*;generalize(L.getD k ([],0,false)).2.2=n2 at*;obtain⟨t2,rfl⟩:=Int.eq_ofNat_of_zero_le x3;rw[Int.toNat_natCast] at HT;have zs:=zbn s2;have vs:=zap (n:=s2.length) (by omega);have VS:=Hz vs;have Y1:=Hz y1;have hiz:(k:Int)<(L.length:Int):=by omega
    obtain⟨W1,hW1⟩:∃W,W=wr.alloc (.cells #[.string (zad s2),.int .i64 (t2:Int),.bool n2] 71):=⟨_,rfl⟩;have b51:New w W1:=by rw[hW1];exact Below.alloc b5 b5.size _
    have Y:Blk W1 wr.heap.size 71 #[.string (zad s2),.int .i64 (t2:Int),.bool n2]:=by rw[hW1];exact Blk.new _ _ _
    have o51:Own W1 w.heap.size 5 (.slice A5 m5 c5) (zao .u8 (b++vp L.length++zkd (L.take k))):=by rw[hW1];exact o5.alloc _
    have hg7:wr.heap.size<W1.heap.size:=Y.lt;obtain⟨p0,p1,p2⟩:=zan Y;have P6:=Hz (zc0 none 0 0 [] s2.length W1 Reads.none_ (by omega) (by omega));rw[hW1] at p0 p1 p2;rw[hW1] at P6;clear y1 o5;have HY:=Hz Y;have HW1:=Hz hW1;clear Y vs hW1;go_wp2_with fail
    refine P6.out.mono ?_;rintro e w7 ⟨A7,n7,c7,rfl,k7,b7⟩;rw[<-HW1.out] at b7 k7;rw[List.nil_append] at k7;have b07:=New.trans b51 b7;have o7:=o51.later b7;have Y7:=HY.out.below b7 HY.out.lt;have q7:n7<=10:=by have:=k7.len;rw[zaa] at this;have:=VS.out;omega
    have r7:=k7.reads;have z7:=b07.size;clear b7 k7 P6 p0 p1 p2 o51;go_wp2_with (first
     |(refine zam elB rfl (.tmp 24) (.tmp 29) rfl (W:=w) (B:=w.heap.size) o7 r7 rfl rfl b07 (Nat.le_refl _) z7 (by omega) (by simp only[maxLen];omega) ?_
       intro A8 c8 w8 _ _ o8 g8 b08 _;have Y8:=Y7.push o7 g8 (by decide);obtain⟨p0,p1,p2⟩:=zan Y8;have HY8:=Hz Y8;have z8:=b08.size;clear Y8)
     |(refine zd7 elB qd9 rfl (.tmp 31) (.tmp 33) rfl (W:=w) (B:=w.heap.size) o8 Y1.out rfl rfl b08 (Nat.le_refl _) z8 (by omega) ?_
       intro A9 c9 w9 _ _ o9 g9 b09;have HY9:=Hz (HY8.out.push o8 g9 (by decide));have z9:=b09.size;clear p0 p1 p2))
    have HC:=Hz (fun(W:World) (hW:w9.grownBy W (Value.ownBlock (.slice A9 (m5+n7+s2.length) c9)))=>zan (HY9.out.grown hW (fun e=>o9.blk_ne HY9.out (by decide) e.symm)));refine zaw (fun x y=>x.grownBy y (Value.ownBlock (.slice A9 (m5+n7+s2.length) c9))) [(true,0),(true,1),(true,2),(true,3),(true,4),(true,5),(false,6),(false,7),(false,8),(true,9)]
     (fun x=>World.grownBy.refl x _) World.grownBy.trans (by kernel_rfl) (by kernel_rfl) (by kernel_rfl) (by kernel_rfl) ?_
    have e8:IntKind.u8.wrap (t2:Int)=(t2:Int):=by rw[IntKind.wrap_u8];omega
    have MK:=Hz (fun W=>qcz n2 W);generalize hmk:boolN n2=mk at*;have o10:Own (w9.alloc (.cells #[.int .u8 (t2:Int),.int .u8 (mk:Int)] 5)).drew w.heap.size 5 (.slice A9 (m5+n7+s2.length) c9) (zao .u8 (b++vp L.length++zkd (L.take k)++vp s2.length++s2)):=o9.alloc _;have r10:Reads (w9.alloc (.cells #[.int .u8 (t2:Int),.int .u8 (mk:Int)] 5)).drew (w9.alloc (.cells #[.int .u8 (t2:Int),.int .u8 (mk:Int)] 5)).drew.heap.size 1 (some ⟨w9.heap.size,0,none⟩) 2 (zao .u8 [t2,mk]):=Reads.litV w9 5 #[.int .u8 (t2:Int),.int .u8 (mk:Int)] 2 (zao .u8 [t2,mk]) rfl rfl;repeat(first
     |(refine za7 rfl rfl (fun K hK=>?_);go_simp
       (with_reducible refine(MK.out _).mono ?_)
       rintro e w11 ⟨rfl,rfl⟩;refine hK _ _ (World.grownBy.refl _ _) ?_;clear hK)
     |(refine zar rfl rfl (v:=?_) (fun W hW=>?_) ?_;rotate_left;(obtain⟨p0,p1,p2⟩:=HC.out W (World.grownBy.trans z1w hW);go_simp<;> with_reducible rfl);simp only[Act.put,List.setIfInBounds_toArray,List.set_cons_zero,List.set_cons_succ]))
    refine za7 rfl rfl (fun K hK=>?_);go_simp
    refine hK _ _ (World.grownBy_alloc w9.drew _ _) ?_;clear hK;refine za7 rfl rfl (fun K hK=>?_);have b10:Below w.heap.size w (w9.alloc (.cells #[.int .u8 (t2:Int),.int .u8 (mk:Int)] 5)).drew:=(b09.alloc z9 _).drew;refine zkg elB (.tmp 35) (.tmp 42) rfl (W:=w) (B:=w.heap.size) o10 r10 (by omega) rfl rfl b10 (Nat.le_refl _) b10.size (zch _ _) (by rw[<-o10.len];omega) (by rw[<-o10.len];simp only[maxLen];omega) ?_;intro A11 c11 w11 _ _ o11 g11 b11;refine hK _ _ g11 ?_;clear hK;rw[<-zdk,<-o10.len] at o11;rw[<-o10.len];refine zar rfl rfl (v:=?_) (fun W hW=>?_) ?_;rotate_left
    ·go_simp<;> with_reducible rfl
    simp only[Act.put,List.setIfInBounds_toArray,List.set_cons_zero,List.set_cons_succ];refine zdh ?_;go_wp2
    go_roundw
    case rel=>exact⟨k+1,_,_,_,by go_num,by omega,rfl,by rw[HT.out];exact o11,b11⟩
    case measure=>simp[intOf];omega
   ·obtain rfl:k=L.length:=by omega
    rw[List.take_length] at o5;go_wp2
    go_ret
    exact⟨_,_,_,rfl,by rw[HO.out];exact o5,b5⟩
 ·have HO:=Hz (show putC b L=b by rw[putC,if_neg hk])
  generalize putC b L=O at*;generalize zcy L=ck at*;have e1:(ck != 0)=true:=by simpa using hk
  clear hk;go_enter Tryz.func88,Tryz.ntmps88
  go_wp2_with fail
  refine P0.out.mono ?_;rintro e w1 ⟨rfl,b1⟩;have P1:=Hz (zg4 (c:=c) (Reads.later h b1) (by omega));clear P0;go_wp2_with fail
  refine P1.out.mono ?_;rintro e w2 ⟨A3,n3,c3,rfl,k3,b2⟩;have Z1:=b1.size;go_wp2
  go_ret
  exact⟨_,_,_,rfl,by rw[HO.out];exact k3.base_le Z1,New.trans b1 b2⟩
end Go.Proofs.Y
namespace Go.Hm
open Go Go.RowKit
theorem qda(k:IntKind)(l:List Int)(i:Nat)(x:Int):(za0 k l).set i (.int k x)=za0 k (l.set i x):=by simp[za0]
theorem zeb(k:IntKind)(n:Nat)(x:Int):za0 k (List.replicate n x)=List.replicate n (.int k x):=by simp[za0]
theorem Own.int0{w:World}{base:Nat}{e:TypeId}{g n c i:Nat}{k:IntKind}{l:List Int}(h:Own w base e (.slice (some ⟨g,0,none⟩) n c) (za0 k l))(hi:i<n):
 base<=g/\g<w.heap.size/\w.cell? ⟨g,i,none⟩=some (.int k (l.getD i 0))/\w.frozen? ⟨g,i,none⟩=false/\
  ∀y:Int,Own (w.setCell ⟨g,i,none⟩ (.int k y)) base e (.slice (some ⟨g,0,none⟩) n c) (za0 k (l.set i y)):=by
 have hn:=h.len;rw[zhi] at hn;obtain⟨u,h3,h1,h2,h4,h5,h6⟩:=h.at0 hi;rw[zn1 k l i (by omega)] at h3;injection h3 with h3;subst h3;exact⟨h1,h2,h4,h5,fun y=>by rw[<-qda];exact h6 _⟩
theorem zlp{P:List Int}{n k:Nat}(q:Int)(hP:P.length=k)(hk:k<n):(P++List.replicate (n-k) 0).set k q=(P++[q])++List.replicate (n-(k+1)) 0:=by rw[List.set_append_right _ _ (by omega),hP,Nat.sub_self,show n-k=(n-(k+1))+1 by omega,List.replicate_succ,List.set_cons_zero,List.append_assoc];rfl
theorem zv3{P:List Nat}{n k:Nat}(q:Nat)(hP:P.length=k)(hk:k<n):(P++List.replicate (n-k) 0).set k q=(P++[q])++List.replicate (n-(k+1)) 0:=by rw[List.set_append_right _ _ (by omega),hP,Nat.sub_self,show n-k=(n-(k+1))+1 by omega,List.replicate_succ,List.set_cons_zero,List.append_assoc];rfl
end Go.Hm
namespace Go.Proofs.Y
open Go.RowKit Go.Hm
def qdb(l:List Int)(w:World)(e:Ending)(w':World):Prop:=∃A n c,e= .returned (.slice A n c)/\Go.Hm.Own w' w.heap.size 3 (.slice A n c) (za0 .i64 l)/\New w w'
def OptI(o:Option (List Int))(w:World)(e:Ending)(w':World):Prop:=
 match o with
 |none=>e= .returned (.tuple #[.slice none 0 0,.bool false])/\New w w'
 |some l=>∃A n c,e= .returned (.tuple #[.slice A n c,.bool true])/\Go.Hm.Own w' w.heap.size 3 (.slice A n c) (za0 .i64 l)/\New w w'
set_option maxRecDepth 100000 in
theorem qdc{w:World}{A:Option Addr}{n c:Nat}{l:List Int}(h:Reads w w.heap.size 1 A n (za0 .i64 l))(h0:0<n)(hn:n<=1000000):
 Calls Tryz.prog 209 #[.slice A n c] w (zdl (.int .i64 (leastD l)) w):=by
 obtain rfl:=h.lenI;obtain⟨ad,rfl,_,c0⟩:=h.int h0;rw[zfy] at c0;have t1: ¬(l.length:Int)<1:=by omega
 have t2: ¬l.length<1:=by omega
 have t3:(0:Int)<(l.length:Int):=by omega
 have HR:=Hz h;have L0:Hid (zg5 l 0=l.getD 0 0):=Hz rfl;have LS:Hid (∀j,0<j->zg5 l j=min (zg5 l (j-1)) (l.getD j 0)):=Hz (fun j hj=>by obtain⟨k,rfl⟩:∃k,j=k+1:=⟨j-1,by omega⟩;rfl)
 have LD:Hid (leastD l=zg5 l (l.length-1)):=Hz rfl;clear h;generalize leastD l=LL at*;generalize zg5 l=LK at*;generalize l.getD 0 0=z0 at*;go_enter Tryz.func209,Tryz.ntmps209
 go_wp2_with fail
 go_loop [3,4] (fun v i=>∃j:Nat,0<j/\j<=l.length/\i= .int .i64 (j:Int)/\v= .int .i64 (LK (j-1))) (fun _ i=>l.length+1-(intOf i).toNat)
 case atStart=>exact⟨1,by omega,h0,rfl,by rw[Nat.sub_self,L0.out]⟩
 case round=>
  obtain⟨j,hj0,hj,rfl,rfl⟩:=hrel;clear c0;by_cases hlt:j<l.length
  ·obtain⟨ad',e,_,c1⟩:=HR.out.int hlt
   injection e with e;subst e;have hs:=LS.out j hj0;have HSK:=Hz hs;clear hs;have hki:(j:Int)<(l.length:Int):=by omega
   have hw:IntKind.i64.wrap ((j:Int)+1)=(j:Int)+1:=by rw[IntKind.wrap_i64];omega
   generalize l.getD j 0=x at*;generalize LK (j-1)=y at*;go_wp2_with fail
   go_round
   case rel=>exact⟨j+1,by omega,by omega,by go_num,by first|(rw[Nat.add_sub_cancel,HSK.out];done)|(rw[Nat.add_sub_cancel,HSK.out];exact congrArg (Value.int .i64) (by split<;> omega))⟩
   case measure=>simp[intOf];omega
  ·have hke:j=l.length:=by omega
   have hki: ¬(j:Int)<(l.length:Int):=by omega
   have hv:LK (j-1)=LL:=by rw[LD.out,hke]
   rw[hv];clear hke hv;go_wp2_with fail
   go_ret
   exact⟨rfl,rfl⟩
set_option maxRecDepth 100000 in
theorem z3o{w:World}{A:Option Addr}{n c:Nat}{l:List Int}(h:Reads w w.heap.size 1 A n (za0 .i64 l))(hn:n<=1000000):
 Calls Tryz.prog 195 #[.slice A n c] w (qdb (zd9 l) w):=by
 obtain rfl:=h.lenI;have HR:=Hz h;have SL:=zja l;have HAT:=Hz (zup l);have HS0:Hid (l.length=0->zd9 l=[]):=Hz (fun e=>by rw[List.eq_nil_of_length_eq_zero e];rfl);clear h;generalize zd9 l=S at*;by_cases h0:l.length=0
 ·have e0:((l.length:Int)==0)=true:=by rw[h0];rfl
  have hS:=HS0.out h0;have HS:=Hz hS;have H0:=Hz h0;clear SL h0 hS;go_enter Tryz.func195,Tryz.ntmps195
  go_wp2
  go_ret
  exact⟨none,0,0,rfl,by rw[HS.out];exact Own.nil_,New.refl _⟩
 ·have e0:((l.length:Int)==0)=false:=by rw[beq_eq_false_iff_ne];omega
  obtain⟨m,hm⟩:∃m,m=l.length-1:=⟨_,rfl⟩;rw[<-hm] at SL;have hlm:l.length=m+1:=by omega
  have hw1:IntKind.i64.wrap ((l.length:Int)-1)=(m:Int):=by rw[IntKind.wrap_i64];omega
  have HLM:=Hz hlm;have HSL:=Hz SL;clear hm hlm SL h0;go_enter Tryz.func195,Tryz.ntmps195
  go_wp2_with (refine zb6 elI rfl (.tmp 10) (.tmp 10) rfl (W:=w) (B:=w.heap.size) m m rfl rfl rfl rfl (Nat.le_refl _) (Below.refl _ _) (Nat.le_refl _) rfl (by have:=HLM.out;omega) (by have:=HLM.out;simp only[maxLen];omega) ?_
               intro w1 o1 _ b1 s1)
  clear hw1 e0;go_loopw [14] (fun i wr=>∃k:Nat,k<=m/\i= .int .i64 (k:Int)/\Go.Hm.Own wr w.heap.size 3 (.slice (some ⟨w.heap.size,0,none⟩) m m) (za0 .i64 (S.take k++List.replicate (m-k) 0))/\New w wr) (fun i _=>m-(intOf i).toNat)
  case atStart=>exact⟨0,Nat.zero_le _,rfl,by simpa[zeb] using o1,b1⟩
  case round=>
   clear o1 b1 s1;obtain⟨k,hk,rfl,o,b⟩:=hrel;by_cases hlt:k<m
   ·have hlm:=HLM.out
    obtain⟨ad,rfl,_,c0⟩:=(Reads.later HR.out b).int (i:=k) (by omega);obtain⟨ad',e,_,c1⟩:=(Reads.later HR.out b).int (i:=k+1) (by omega);injection e with e;subst e;have hat:=HAT.out k (by omega);have htk:=zac S k 0 (by have:=HSL.out;omega);obtain⟨hg0,hgl,hc,hf,hset⟩:=o.int0 (i:=k) hlt;have hsl:(S.take k).length=k:=by rw[List.length_take];have:=HSL.out;omega
    have hs2:=hset (S.getD k 0);rw[zlp _ hsl hlt,<-htk,hat] at hs2;have HSet:=Hz hs2;generalize(S.take k++List.replicate (m-k) 0).getD k 0=z at*;generalize l.getD k 0=x at*;generalize l.getD (k+1) 0=y at*;have hw2:IntKind.i64.wrap (y-x)=wrI (y-x):=rfl;obtain⟨j,hj⟩:∃j,j=k+1:=⟨_,rfl⟩;rw[<-hj] at c1 HSet;have hw3:IntKind.i64.wrap ((k:Int)+1)=(j:Int):=by rw[IntKind.wrap_i64];omega
    have i1:(k:Int)<(m:Int):=by omega
    have i2:(k:Int)<(l.length:Int):=by omega
    have i3:(j:Int)<(l.length:Int):=by omega
    have HJ:=Hz hj;have HB:=Hz (fun q=>(below_drewN b q).setCell (p:=⟨w.heap.size,k,none⟩) (Nat.le_refl _) (.int .i64 (wrI (y-x))));clear hat htk hset hs2 hsl hlm hj;go_wp2
    go_still_tail 13,(by kernel_rfl)
    go_wp2
    go_roundw
    case rel=>exact⟨j,by have:=HJ.out;omega,rfl,by first|exact HSet.out|exact(HSet.out).drewN _,by first|exact HB.out _|exact HB.out 0⟩
    case measure=>have:=HJ.out;simp[intOf];omega
   ·obtain rfl:k=m:=by omega
    have hS:S.take k=S:=List.take_of_length_le (by have:=HSL.out;omega);rw[hS,Nat.sub_self,List.replicate_zero,List.append_nil] at o;clear hS;go_wp2
    go_ret
    exact⟨_,_,_,rfl,o,b⟩
theorem z3p(n:Nat)(w:World)(hn:n<=1000000):Calls Tryz.prog 196 #[.int .i64 (n:Int)] w (zdl (.int .i64 (nblk n:Nat)) w):=by
 have h1:IntKind.i64.wrap ((n:Int)+32)=(n:Int)+32:=by rw[IntKind.wrap_i64];omega
 have hq:((n:Int)+31)/32=((nblk n:Nat):Int):=by unfold nblk;omega
 have HQ:=Hz hq;clear hq;generalize nblk n=q at*;go_enter Tryz.func196,Tryz.ntmps196
 go_wp2
 go_ret
 exact⟨congrArg (fun z=>Ending.returned (.int .i64 z)) (by have:=HQ.out;omega),rfl⟩
open Go.RowKit Go.Hm
set_option maxRecDepth 100000 in
theorem zv4{w:World}{A:Option Addr}{n c:Nat}{l:List Int}(h:Reads w w.heap.size 1 A n (za0 .i64 l))(hl:∀x∈l,zi9 x)(h0:0<n)(hn:n<=65536):
 Calls Tryz.prog 197 #[.slice A n c] w (OptB (some (blockD l)) w):=by
 obtain rfl:=h.lenI;have MN:=Hz (qdc (c:=c) h h0 (by omega));have HR:=Hz h;have hll:=zow hl h0;have ZG:=Hz (fun W:World=>zou (leastD l) W hll.1 hll.2);have PT:=Hz (fun W:World=>zc0 none 0 0 [] (zig (leastD l)) W Reads.none_ (by omega) (by have:=zov hll;omega));have hvl:=zap (zov hll);have hmw:=zss hl;have hml:=z6i l;have hw:=zop _ hmw;have PO:=zfv (zfc l) (wid (zfc l)) hw (by rw[hml];exact hn) (Nat.le_refl _);have hm:(wid (zfc l)*l.length+7)/8<=524288:=by have:=Nat.mul_le_mul hw hn;omega
 have hlen:(low (pk (wid (zfc l)) (zfc l)) ((wid (zfc l)*l.length+7)/8)).length=(wid (zfc l)*l.length+7)/8:=za6 _ _;rw[hml] at PO;have HAT:Hid (∀k,k<l.length->(zfc l).getD k 0=(l.getD k 0-leastD l).toNat/\zi9 (l.getD k 0)/\leastD l<=l.getD k 0):=Hz (fun k hk=>by refine⟨?_,hl _ (zik hk),zus (zik hk)⟩;unfold zfc;rw[List.getD_eq_getElem?_getD,List.getElem?_map,List.getD_eq_getElem?_getD,List.getElem?_eq_getElem hk];rfl)
 have HB:Hid (blockD l=vp (zig (leastD l))++[wid (zfc l)]++low (pk (wid (zfc l)) (zfc l)) ((wid (zfc l)*l.length+7)/8)):=Hz (by unfold blockD;simp);have HML:=Hz hml;have HMW:=Hz hmw;have HPO:=Hz PO;have HLL:=Hz hll;clear h hl PO hml hmw hll;generalize blockD l=BD at*;generalize low (pk (wid (zfc l)) (zfc l)) ((wid (zfc l)*l.length+7)/8)=PB at*;generalize(wid (zfc l)*l.length+7)/8=pm at*;generalize zfc l=D at*;generalize leastD l=ll at*;subst hlen;go_enter Tryz.func197,Tryz.ntmps197
 go_wp2_with fail
 refine MN.out.mono ?_;rintro e w1 ⟨rfl,rfl⟩;clear MN
 go_wp2_with (refine zb6 elW rfl (.tmp 15) (.tmp 15) rfl (W:=w) (B:=w.heap.size) l.length l.length rfl rfl rfl rfl (Nat.le_refl _) (Below.refl _ _) (Nat.le_refl _) rfl (by omega) (by simp only[maxLen];omega) ?_
              intro w1 o1 _ b1 s1)
 go_loopw [19] (fun i wr=>∃k:Nat,k<=l.length/\i= .int .i64 (k:Int)/\Go.Hm.Own wr w.heap.size 138 (.slice (some ⟨w.heap.size,0,none⟩) l.length l.length) (zao .u64 (D.take k++List.replicate (l.length-k) 0))/\New w wr) (fun i _=>l.length-(intOf i).toNat)
 case atStart=>exact⟨0,Nat.zero_le _,rfl,by simpa[zby] using o1,b1⟩
 case round=>
  clear o1 b1 s1;obtain⟨k,hk,rfl,o,b⟩:=hrel;by_cases hlt:k<l.length
  ·obtain⟨ad,rfl,_,c0⟩:=(Reads.later HR.out b).int hlt
   obtain⟨e1,e2,e3⟩:=HAT.out k hlt;have htk:=zac D k 0 (by have:=HML.out;omega);obtain⟨hg0,hgl,hc,hf,hset⟩:=o.num0 (i:=k) hlt;have hsl:(D.take k).length=k:=by rw[List.length_take];have:=HML.out;omega
   have hs2:=hset (D.getD k 0);rw[zv3 _ hsl hlt,<-htk,e1] at hs2;have HSet:=Hz hs2;generalize(D.take k++List.replicate (l.length-k) 0).getD k 0=z at*;generalize l.getD k 0=x at*;have hll:=HLL.out;unfold zi9 at e2 hll;have hw2:IntKind.u64.wrap (IntKind.u64.wrap x-IntKind.u64.wrap ll)=(((x-ll).toNat:Nat):Int):=by rw[IntKind.wrap_u64,IntKind.wrap_u64,IntKind.wrap_u64];omega
   generalize(x-ll).toNat=d at*;have i1:(k:Int)<(l.length:Int):=by omega
   have HB2:=Hz (fun q=>(below_drewN b q).setCell (p:=⟨w.heap.size,k,none⟩) (Nat.le_refl _) (.int .u64 (d:Int)));clear e1 e2 e3 hll htk hset hs2 hsl;go_wp2
   go_roundw
   case rel=>exact⟨k+1,by omega,by go_num,by first|exact HSet.out|exact(HSet.out).drewN _,by first|exact HB2.out _|exact HB2.out 0⟩
   case measure=>simp[intOf];omega
  ·obtain rfl:k=l.length:=by omega
   have hS:D.take l.length=D:=List.take_of_length_le (by have:=HML.out;omega);rw[hS,Nat.sub_self,List.replicate_zero,List.append_nil] at o;have W:=Hz (zkq (c:=l.length) o.reads HMW.out (by omega));have K:=znj (c:=l.length) (wid D:Int) o.reads HMW.out (by omega) (by omega) (by omega);rw[HPO.out] at K;replace K:=Hz K;generalize wid D=q at*;clear hS o;go_wp2_with fail
   refine W.out.mono ?_;rintro e w1 ⟨rfl,rfl⟩;go_wp2_with fail
   refine K.out.mono ?_;rintro e w2 ⟨A2,n2,c2,rfl,o2,b2⟩;obtain rfl:n2=PB.length:=by have:=o2.len;rwa[zaa] at this
   clear W K;have b02:=New.trans b b2;have hwq:IntKind.u8.wrap (q:Int)=(q:Int):=by rw[IntKind.wrap_u8];omega
   go_wp2_with fail
   refine(ZG.out _).mono ?_;rintro e w3 ⟨rfl,rfl⟩;go_wp2_with fail
   refine(PT.out _).mono ?_;rintro e w3 ⟨A3,n3,c3,rfl,o3,b3⟩;rw[List.nil_append] at o3;obtain rfl:n3=(vp (zig ll)).length:=by have:=o3.len;rwa[zaa] at this
   have b03:=New.trans b02 b3;have z3:=b3.size;have h23:=zf9 (zhw o3 (o2.base_le (Nat.zero_le _)));have o2:=o2.later b3;have o3:=o3.base_le (b':=w.heap.size) b02.size;clear ZG PT;go_wp2_with (first
    |(refine zci elB rfl (.tmp 43) (.tmp 46) rfl (W:=w) (B:=w.heap.size) o3 rfl rfl q rfl b03 (Nat.le_refl _) b03.size (by omega) (by simp only[maxLen];omega) ?_
      intro A4 c4 w4 _ _ o4 g4 b4 _ d4;have p2:=o2.kept g4 h23;have hz4:=b4.size)
    |(refine zam elB rfl (.tmp 48) (.tmp 49) rfl (W:=w) (B:=w.heap.size) o4 p2.reads rfl rfl b4 (Nat.le_refl _) hz4 (by omega) (by simp only[maxLen];omega) ?_
      intro A5 c5 w5 _ _ o5 _ b5 _))
   go_ret2
   refine⟨A5,_,c5,rfl,?_,b5⟩;rw[HB.out];exact o5
end Go.Proofs.Y
