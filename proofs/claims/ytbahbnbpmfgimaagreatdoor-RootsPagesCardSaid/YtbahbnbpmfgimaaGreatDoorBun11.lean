/- Merged. -/
import Derived.Deep.DeepCutAuto
import Derived.StillTailTactics
import Derived.Test.YtbahbnbpmfgimaaGreatDoorBun10
import Derived.Test.YtbahbnbpmfgimaaGreatDoorBun8
set_option maxHeartbeats 2000000
namespace Go.Hm
open Go Go.RowKit
def zbf(n:Nat):Nat:=if n<2 then 0 else 2^(n-1).log2
theorem zq6{n:Nat}(h:2<=n):zbf n=2^(n-1).log2/\2^(n-1).log2<n/\n<=2^((n-1).log2+1):=by have h1:=qno (n:=n-1) (by omega);have h2:=qnp (n:=n-1);refine⟨by unfold zbf;rw[if_neg (by omega)],by omega,by omega⟩
theorem zd5{n:Nat}(h:2<=n):1<=zbf n/\zbf n<n/\n-zbf n<=zbf n:=by obtain⟨h1,h2,h3⟩:=zq6 h;rw[h1];rw[qnq] at h3;have:=qnr (n:=(n-1).log2) (show 0<2 by omega);omega
open Go Go.RowKit
def qb5(s:List Nat)(n:Nat):List Nat:=s.length::(s++[n])
def upL(s:List Nat)(L:List (List Nat))(k:Nat):List Nat:=qb5 s L.length++(L.take k).flatMap zsn
theorem qb6(s:List Nat)(L:List (List Nat)):upL s L 0=qb5 s L.length:=by simp[upL]
theorem qg2(s:List Nat)(L:List (List Nat)):upL s L L.length=zcu s L:=by simp[upL,qb5,zcu]
theorem qb7(s:List Nat)(L:List (List Nat)){k:Nat}(hk:k<L.length):upL s L (k+1)=upL s L k++zsn (L.getD k []):=by rw[upL,upL,zad _ k [] hk,qp8,qm5];simp
end Go.Hm
namespace Go.Proofs.Y
open Go.RowKit Go.Hm
set_option maxRecDepth 100000 in
theorem zuu{w:World}{s:List Nat}{A:Option Addr}{n c:Nat}{D:List zcv}(h:RowsAt w A n c D)(hn:n<=9223372036854775806)(hs8:∀x∈s,x<256)(hs:s.length<=140737488351232)(ht:zfl (bytesOf D)<=1099511627776):
 Calls Tryz.prog 66 #[.string (zae s),.slice A n c] w (OptB (zbe s (bytesOf D)) w):=by
 obtain rfl:=h.len;have hz:=zbt s;have hB:=zc0 D;have HR:=Hz h;have H8:=Hz hs8;have HT:=Hz ht;by_cases h1:s.length=0
 ·have hO:zbe s (bytesOf D)=none:=by unfold zbe;exact if_neg (by omega)
  rw[hO];obtain rfl:=qna h1;clear h hs8 ht hO;go_enter Tryz.func66,Tryz.ntmps66
  go_wp2
  go_ret2
  exact⟨rfl,Below.refl _ _⟩
 by_cases h2:255<s.length
 ·have hO:zbe s (bytesOf D)=none:=by unfold zbe;exact if_neg (by omega)
  rw[hO];have d0:((s.length:Int)==0)=false:=by rw[beq_eq_false_iff_ne];omega
  have d1:decide ((255:Int)<(s.length:Int))=true:=by simp;omega
  clear h hs8 ht hO;go_enter Tryz.func66,Tryz.ntmps66
  go_wp2
  go_ret2
  exact⟨rfl,Below.refl _ _⟩
 by_cases h3:255<D.length
 ·have hO:zbe s (bytesOf D)=none:=by unfold zbe;exact if_neg (by omega)
  rw[hO];have d0:((s.length:Int)==0)=false:=by rw[beq_eq_false_iff_ne];omega
  have d1:decide ((255:Int)<(s.length:Int))=false:=by simp;omega
  have d2:decide ((255:Int)<(D.length:Int))=true:=by simp;omega
  clear h hs8 ht hO;go_enter Tryz.func66,Tryz.ntmps66
  go_wp2
  go_ret2
  exact⟨rfl,Below.refl _ _⟩
 have hO:zbe s (bytesOf D)=some (zcu s (bytesOf D)):=by unfold zbe;exact if_pos (by omega)
 rw[hO];have d0:((s.length:Int)==0)=false:=by rw[beq_eq_false_iff_ne];omega
 have d1:decide ((255:Int)<(s.length:Int))=false:=by simp;omega
 have d2:decide ((255:Int)<(D.length:Int))=false:=by simp;omega
 have hD:D.length<=255:=by omega
 have hs2:s.length<=255:=by omega
 have HB:=Hz hB;have a1:IntKind.u8.wrap (s.length:Int)=(s.length:Int):=by simp[IntKind.wrap,IntKind.bits,IntKind.signed];omega
 clear h hs8 ht hO h1 h2 h3 hB;go_enter Tryz.func66,Tryz.ntmps66
 go_wp2
 go_loop [6,31] (fun z i=>∃(k m:Nat),k<=D.length/\i= .int .i64 (k:Int)/\z= .int .i64 (m:Int)/\m<=1099511640000/\Hid (m=2+s.length+8*k+zfl ((bytesOf D).take k))) (fun _ i=>D.length-(intOf i).toNat)
 case atStart=>exact⟨0,2+s.length,by omega,rfl,by go_num,by omega,Hz (by simp[zfl])⟩
 case round=>
  obtain⟨k,m,hk,rfl,rfl,hm,HM⟩:=hrel;by_cases hlt:k<D.length
  ·obtain⟨ad,rfl,hb,hc⟩:=HR.out.at_ hlt
   have e1:=zi4 D k;generalize D.getD k (none,0,[])=d at*;have h4:=zoi (L:=bytesOf D) (k:=k) (by rw[HB.out];exact hlt);rw[e1] at h4;have h6:=zij (bytesOf D) (k+1);have hm3:m+(8+d.2.2.length)=2+s.length+8*(k+1)+zfl ((bytesOf D).take (k+1)):=by rw[h4,HM.out];omega
   have hd:d.2.2.length<=1099511627776:=by have:=HT.out;omega
   have hm4:m+(8+d.2.2.length)<=1099511640000:=by have:=HT.out;omega
   have HM3:=Hz hm3;clear e1 h4 h6 hm3;obtain⟨m2,hm2⟩:∃x,x=m+(8+d.2.2.length):=⟨_,rfl⟩;have i1:(m:Int)+(8+(d.2.2.length:Int))=(m2:Int):=by omega
   rw[<-hm2] at HM3 hm4;clear hm2;go_wp2
   go_round
   case rel=>exact⟨k+1,m2,by omega,by go_num,by go_num,hm4,HM3⟩
   case measure=>simp[intOf];omega
  ·obtain rfl:k=D.length:=by omega
   clear HM;have a1:(s.length:Int)%256=(s.length:Int):=by omega
   have a2:(D.length:Int)%256=(D.length:Int):=by omega
   go_wp2_with (first
    |(refine zca elB rfl (.const (.int .i64 0)) (.tmp 41) rfl (W:=w) (B:=w.heap.size) 0 m rfl rfl rfl rfl (by omega) (Below.refl _ _) (qmt _) rfl (by omega) (by simp only[maxLen];omega) ?_
      intro w1 o1 g1 b1 s1;have z1:=b1.size;clear g1 s1)
    |(refine zcj elB rfl (.tmp 43) (.tmp 47) rfl (W:=w) (B:=w.heap.size) (k:= .u8) (l:=[]) o1 rfl rfl s.length rfl b1 (qmt _) z1 (by omega) (by simp only[maxLen];omega) ?_
      intro A2 c2 w2 _ _ o2 _ b2 _ _;have z2:=b2.size)
    |(refine zd6 elB qfj rfl (.tmp 49) (.tmp 50) rfl (W:=w) (B:=w.heap.size) o2 H8.out rfl rfl b2 (qmt _) z2 (by omega) ?_
      intro A3 c3 w3 _ _ o3 _ b3;have z3:=b3.size)
    |(refine zcj elB rfl (.tmp 52) (.tmp 56) rfl (W:=w) (B:=w.heap.size) o3 rfl rfl D.length rfl b3 (qmt _) z3 (by omega) (by simp only[maxLen];omega) ?_
      intro A4 c4 w4 _ _ o4 _ b4 _ _))
   have B4:=Hz b4;have O4:=Hz (show Own w4 w.heap.size 5 (.slice A4 (0+1+s.length+1) c4) (zan .u8 (upL s (bytesOf D) 0)) by rw[qb6,qb5,HB.out];simpa using o4);clear o1 b1 z1 o2 b2 z2 o3 b3 z3 o4 b4;have R4:=Hz (HR.out);obtain⟨q4,hq4⟩:∃q,q=0+1+s.length+1:=⟨_,rfl⟩;rw[<-hq4] at O4⊢;have HQ4:=Hz (show q4=2+s.length+8*0+zfl ((bytesOf D).take 0) by rw[hq4];simp[zfl];omega);clear hq4;go_loopw [9,60] (fun v i wr=>∃(k q c:Nat) (A:Option Addr),k<=D.length/\i= .int .i64 (k:Int)/\v= .slice A q c/\Hid (q=2+s.length+8*k+zfl ((bytesOf D).take k))/\Hid (Own wr w.heap.size 5 (.slice A q c) (zan .u8 (upL s (bytesOf D) k)))/\Hid (New w wr)) (fun _ i _=>D.length-(intOf i).toNat)
   case atStart=>exact⟨0,q4,c4,A4,by omega,rfl,rfl,HQ4,O4,B4⟩
   case round=>
    clear HQ4 O4 B4;obtain⟨k,q,cq,Aq,hk,rfl,rfl,HQ,O,b⟩:=hrel;by_cases hlt:k<D.length
    ·obtain⟨ad,rfl,hb,hc⟩:=(HR.out.later b.out).at_ hlt
     have RD:=Hz (fun(W:World) (hW:New w W)=>((HR.out.later hW).parts.at_ hlt).1);have e1:=zi4 D k;have US:=qb7 s (bytesOf D) (k:=k) (by rw[HB.out];exact hlt);have h4:=zoi (L:=bytesOf D) (k:=k) (by rw[HB.out];exact hlt);have h6:=zij (bytesOf D) (k+1);rw[e1] at h4 US;generalize D.getD k (none,0,[])=d at*;have hp:d.2.2.length<=1099511627776:=by have:=HT.out;omega
     have hq:q<=1099511640000:=by have:=HT.out;have:=HQ.out;omega
     have HQ2:=Hz (show q+8+d.2.2.length=2+s.length+8*(k+1)+zfl ((bytesOf D).take (k+1)) by rw[h4,HQ.out];omega);have HUS:=Hz US;have O2:=Hz (show Own wr w.heap.size 5 (.slice Aq (q+0) cq) (zan .u8 (upL s (bytesOf D) k++low d.2.2.length 0)) by simpa[low] using O.out);have hlow:=Hz (fun j=>show(upL s (bytesOf D) k++low d.2.2.length j).length=(upL s (bytesOf D) k).length+j by rw[qni,zbg]);clear e1 US h4 h6 HQ O;go_wp2
     go_loopw [9,64] (fun v i wr=>∃(j c:Nat) (A:Option Addr),j<=8/\i= .int .i64 (j:Int)/\v= .slice A (q+j) c/\Hid (Own wr w.heap.size 5 (.slice A (q+j) c) (zan .u8 (upL s (bytesOf D) k++low d.2.2.length j)))/\Hid (New w wr)) (fun _ i _=>8-(intOf i).toNat)
     case atStart=>exact⟨0,cq,Aq,by omega,rfl,rfl,O2,b⟩
     case round=>
      clear O2 b hc hb;obtain⟨j,cj,Aj,hj,rfl,rfl,O,b⟩:=hrel;by_cases hlj:j<8
      ·have S:=Hz (zxs d.2.2.length j)
       have j1:(8:Int)*(j:Int)<64:=by omega
       have o:=O.out;have b0:=b.out;have hz:=b0.size;clear O b
       go_wp2_with (refine zcj elB rfl (.tmp 67) (.tmp 75) rfl (W:=w) (B:=w.heap.size) o rfl rfl (d.2.2.length/256^j%256) (by rw[S.out]) b0 (qmt _) (by omega) (by omega) (by simp only[maxLen];omega) ?_
                    intro A3 c3 w3 _ _ o3 _ b3 _ _)
       have O3:=Hz (show Own w3 w.heap.size 5 (.slice A3 (q+(j+1)) c3) (zan .u8 (upL s (bytesOf D) k++low d.2.2.length (j+1))) by rw[qm5] at o3;exact o3);have B3:=Hz b3;clear o o3 b0 b3;go_roundw
       case rel=>exact⟨j+1,c3,A3,by omega,by go_num,rfl,O3,B3⟩
       case measure=>simp[intOf];omega
      ·obtain rfl:j=8:=by omega
       have o:=O.out;have b0:=b.out;have r0:=RD.out _ b0;have hz:=b0.size;clear O b
       go_wp2_with (refine zam elB rfl (.tmp 78) (.tmp 79) rfl (W:=w) (B:=w.heap.size) (base:=w.heap.size) o r0 rfl rfl b0 (qmt _) (by omega) (by omega) (by simp only[maxLen];omega) ?_
                    intro A3 c3 w3 _ _ o3 _ b3 _)
       have O3:=Hz (show Own w3 w.heap.size 5 (.slice A3 (q+8+d.2.2.length) c3) (zan .u8 (upL s (bytesOf D) (k+1))) by rw[HUS.out,zsn,<-qm5];exact o3);have B3:=Hz b3;clear o o3 b0 b3 r0;go_roundw
       case rel=>exact⟨k+1,q+8+d.2.2.length,c3,A3,by omega,by go_num,rfl,HQ2,O3,B3⟩
       case measure=>simp[intOf];omega
    ·obtain rfl:k=D.length:=by omega
     have o:=O.out;rw[<-HB.out,qg2] at o;have O5:=Hz o;clear o O;go_wp2
     go_ret2
     exact⟨_,_,_,rfl,O5.out,b.out⟩
end Go.Proofs.Y
namespace Go.Hm
open Go Go.RowKit
theorem RowsAt.cells{w:World}{ad:Addr}{n c:Nat}{D:List zcv}(h:RowsAt w (some ad) n c D){k:Nat}(hk:k<D.length)(W:World)(hW:New w W):W.cell? (ad.add k)=some (.slice (D.getD k (none,0,[])).1 (D.getD k (none,0,[])).2.2.length (D.getD k (none,0,[])).2.1):=by obtain⟨ad2,e2,_,h2⟩:=(h.later hW).at_ hk;obtain rfl:=qmh e2;exact h2
end Go.Hm
namespace Go.Proofs.Y
open Go.RowKit Go.Hm
end Go.Proofs.Y
namespace Go.Hm
open Go Go.RowKit
end Go.Hm
namespace Go.Proofs.Y
open Go.RowKit Go.Hm
set_option maxRecDepth 100000 in
theorem z2o{w:World}{A:Option Addr}{n c:Nat}{l:List Nat}(h:Reads w w.heap.size 1 A n (zan .u8 l))(hl:n<=140737488355328):
 Calls Tryz.prog 42 #[.slice A n c] w (zcm l w):=by
 obtain rfl:=h.len;rcases A with _|ad
 ·have hl0:l.length=0:=by
   rcases qm9 l.length with h0|h0
   ·exact h0
   ·obtain⟨ad,h',_⟩:=h.2 h0
    cases h'
  obtain rfl:l=[]:=qna hl0;have hq:=fun W:World=>Lib.run_eql_slice_nil (P:=Tryz.prog) W 24 5 none 0 c 0 0 elB.ht
  go_enter Tryz.func42,Tryz.ntmps42
  go_wp2
  go_ret
  exact⟨none,0,0,rfl,Own.nil_,Below.refl _ _⟩
 ·have hq:=fun W:World=>Lib.run_eql_slice_nil (P:=Tryz.prog) W 24 5 (some ad) l.length c 0 0 elB.ht
  go_enter Tryz.func42,Tryz.ntmps42
  go_wp2_with (first
   |(refine zam elB rfl (.tmp 5) (.tmp 6) rfl (W:=w) (B:=w.heap.size) (k:= .u8) (l:=[]) (l2:=l) (c2:=c) (Own.empty _ _) ((h.alloc (qmt _) _).more (by simp)) rfl rfl ((Below.refl _ _).alloc (qmt _) _) (qmt _) (by simp) (by omega) (by simp only[maxLen];omega) ?_
     simp only[qnl,qnk];intro A' c' w' k1 k2 k3 k4 k5 k6))
  go_ret
  exact⟨A',_,c',rfl,k3,k5⟩
end Go.Proofs.Y
namespace Go.Hm
open Go Go.RowKit
theorem zhx{W1 W2:World}{base:Nat}{e e':TypeId}{u v:Value}{xs ys:List Value}(h2:Own W2 W1.heap.size e u xs)(h1:Own W1 base e' v ys):u.ownBlock=none\/u.ownBlock≠v.ownBlock:=by
 rcases hu:u.ownBlock with _|k
 ·exact .inl rfl
 ·refine .inr fun e=>?_
  have a:=(h2.lt k hu).1;have b:=(h1.lt k e.symm).2;omega
theorem zlb{W:World}{base:Nat}{e:TypeId}{u v v':Value}{xs:List Value}(h:u.ownBlock=none\/u.ownBlock≠v.ownBlock)(d:v'.ownBlock=v.ownBlock\/ ∃g,v'.ownBlock=some g/\W.heap.size<=g)(k:Own W base e u xs):u.ownBlock=none\/u.ownBlock≠v'.ownBlock:=by
 rcases hu:u.ownBlock with _|g
 ·exact .inl rfl
 ·right
  rcases d with d|⟨g',d,hg⟩
  ·rw[d,<-hu]
   rcases h with h|h
   ·rw[hu] at h;cases h
   ·exact h
  ·rw[d]
   intro e;injection e with e;have:=(k.lt g hu).2;omega
theorem zgb{u v:Value}(h:u.ownBlock=none\/u.ownBlock≠v.ownBlock):v.ownBlock=none\/v.ownBlock≠u.ownBlock:=by
 rcases hv:v.ownBlock with _|k
 ·exact .inl rfl
 ·refine .inr fun e=>?_
  rcases h with h|h
  ·rw[h] at e;cases e
  ·exact h (by rw[hv,e])
open Go Go.RowKit
def eqC(a b:zab):Bool:=a.1==b.1&&(a.2.1==b.2.1&&((zae a.2.2.1).toList==(zae b.2.2.1).toList&&(a.2.2.2.1==b.2.2.2.1&&a.2.2.2.2==b.2.2.2.2)))
theorem qfu{a b:zab}(ha:∀z∈a.2.2.1,z<256)(hb:∀z∈b.2.2.1,z<256):eqC a b=decide (a=b):=by obtain⟨a0,a1,a2,a3,a4⟩:=a;obtain⟨b0,b1,b2,b3,b4⟩:=b;unfold eqC;dsimp only at*;rw[zkl ha hb,qm6];simp
def eqS(a b:zdc):Bool:=a.1==b.1&&(a.2.1==b.2.1&&(eqC a.2.2.1 b.2.2.1&&eqC a.2.2.2 b.2.2.2))
theorem qj2{a b:zdc}(h1:∀z∈a.2.2.1.2.2.1,z<256)(h2:∀z∈a.2.2.2.2.2.1,z<256)(h3:∀z∈b.2.2.1.2.2.1,z<256)(h4:∀z∈b.2.2.2.2.2.1,z<256):eqS a b=true↔a=b:=by obtain⟨n,c,p,q⟩:=a;obtain⟨m,d,r,s⟩:=b;unfold eqS;dsimp only at*;rw[qfu h1 h3,qfu h2 h4];simp
end Go.Hm
namespace Go.Proofs.Y
open Go.RowKit Go.Hm
set_option maxRecDepth 100000 in
theorem z3n{n n':Int}{b b':Bool}{p q p' q':zab}(W:World):
 (binOp .eql 133 (zcg (n,b,p,q)) (zcg (n',b',p',q'))).run Tryz.prog W= .ok (.bool (eqS (n,b,p,q) (n',b',p',q'))) W:=by
 obtain⟨p1,p2,p3,p4,p5⟩:=p;obtain⟨q1,q2,q3,q4,q5⟩:=q;obtain⟨r1,r2,r3,r4,r5⟩:=p';obtain⟨s1,s2,s3,s4,s5⟩:=q';show(binOp .eql 133 (.agg #[.int .i64 n,.bool b,.bool p1,.int .i64 p2,.string (zae p3),.int .i64 p4,.int .i64 p5,.bool q1,.int .i64 q2,.string (zae q3),.int .i64 q4,.int .i64 q5]) (.agg #[.int .i64 n',.bool b',.bool r1,.int .i64 r2,.string (zae r3),.int .i64 r4,.int .i64 r5,.bool s1,.int .i64 s2,.string (zae s3),.int .i64 s4,.int .i64 s5])).run Tryz.prog W=_;go_simp
 unfold eqS eqC
 repeat' split
 all_goals simp_all
end Go.Proofs.Y
namespace Go.Hm
open Go Go.RowKit
def zph(l:List zbb):Prop:=l.length<=64/\(∀x∈l,0<x.1.length/\x.1.length<=100/\0<=x.2.1/\x.2.1<=3)/\(l.map (·.1)).Nodup
theorem zrt:∀(l a:List zbb),zgs a l=0↔(∀x∈l,0<x.1.length/\x.1.length<=100/\0<=x.2.1/\x.2.1<=3)/\(l.map (·.1)).Nodup/\ ∀x∈l,x.1∉a.map (·.1)
 | [],a=>by simp[zgs]
 |c::l,a=>by
  have key:zlh a c.1 c.2.1=0↔(0<c.1.length/\c.1.length<=100/\0<=c.2.1/\c.2.1<=3)/\c.1∉a.map (·.1):=by
   unfold zlh;by_cases h:zma a c.1
   ·rw[if_pos h]
    refine⟨fun hh=>by omega,fun hh=>?_⟩;rcases h with h|h|h
    ·omega
    ·omega
    ·exact absurd h hh.2
   ·rw[if_neg h]
    by_cases h2:0<=c.2.1/\c.2.1<=3
    ·rw[if_pos h2]
     refine⟨fun _=>⟨⟨?_,?_,h2.1,h2.2⟩,fun hh=>h (.inr (.inr hh))⟩,fun _=>rfl⟩
     ·have: ¬c.1.length=0:=fun hh=>h (.inl hh)
      omega
     ·have: ¬100<c.1.length:=fun hh=>h (.inr (.inl hh))
      omega
    ·rw[if_neg h2]
     exact⟨fun hh=>by omega,fun hh=>by omega⟩
  have ih:=zrt l (a++[c]);have e:zgs a (c::l)=0↔zlh a c.1 c.2.1=0/\zgs (a++[c]) l=0:=by
   rw[zgs];split
   ·rename_i h;exact⟨fun hh=>⟨h,hh⟩,fun hh=>hh.2⟩
   ·rename_i h;exact⟨fun hh=>absurd hh h,fun hh=>absurd hh.1 h⟩
  rw[e,key,ih];simp only[List.forall_mem_cons,qnc,List.nodup_cons,qp6,qnd,qny,qnz];constructor
  ·rintro⟨⟨h1,h2⟩,h3,h4,h5⟩
   refine⟨⟨h1,h3⟩,⟨fun hh=>?_,h4⟩,h2,fun x hx hh=>h5 x hx (.inl hh)⟩;obtain⟨x,hx,hxe⟩:=qmn.1 hh;exact h5 x hx (.inr hxe)
  ·rintro⟨⟨h1,h3⟩,⟨h4,h5⟩,h2,h6⟩
   refine⟨⟨h1,h2⟩,h3,h5,fun x hx hh=>?_⟩;rcases hh with hh|hh
   ·exact h6 x hx hh
   ·exact h4 (qmn.2 ⟨x,hx,hh⟩)
theorem zeh(l:List zbb):zcy l=0↔zph l:=by
 unfold zcy zph;split
 ·exact⟨fun hh=>by omega,fun hh=>by omega⟩
 ·rename_i h
  rw[zrt];simp only[qnd,qqg,not_false_eq_true,implies_true,and_true];exact⟨fun hh=>⟨by omega,hh⟩,fun hh=>hh.2⟩
open Go Go.RowKit
def boolN(b:Bool):Nat:=if b then 1 else 0
def z3y(c:zbb):List Nat:=vp c.1.length++c.1++[c.2.1.toNat,boolN c.2.2]
def zkk(l:List zbb):List Nat:=l.flatMap z3y
theorem qd4:zkk []=[]:=rfl
theorem z8v(l:List zbb)(c:zbb):zkk (l++[c])=zkk l++(vp c.1.length++c.1++[c.2.1.toNat,boolN c.2.2]):=by simp[zkk,z3y]
theorem z8w(l:List zbb)(c:zbb):zkk (c::l)=(vp c.1.length++c.1++[c.2.1.toNat,boolN c.2.2])++zkk l:=by simp[zkk,z3y]
theorem z1c(l:List zbb)(h:∀x∈l,x.1.length<=100):(zkk l).length<=112*l.length:=by
 induction l with
 |nil=>simp[zkk]
 |cons c l ih=>
  have h1:=ih fun x hx=>h x (by simp[hx])
  have h2:=h c (by simp);have h3:=zap (n:=c.1.length) (by omega);rw[z8w];simp only[qni,qnu,qp3] at*;omega
def putC(b:List Nat)(l:List zbb):List Nat:=if zcy l=0 then b++vp l.length++zkk l else b
end Go.Hm
namespace Go.Proofs.Y
open Go.RowKit Go.Hm
theorem qd5(b:Bool)(w:World):Calls Tryz.prog 112 #[.bool b] w (zdm (.int .u8 ((boolN b:Nat):Int)) w):=by
 cases b;all_goals
  go_enter Tryz.func112,Tryz.ntmps112
  go_wp2
  go_ret
  exact⟨rfl,rfl⟩
set_option maxRecDepth 100000 in
theorem qd6{w:World}{A A2:Option Addr}{n c n2 c2:Nat}{b:List Nat}{L:List zbb}(h:Reads w w.heap.size 1 A n (zan .u8 b))(hn:n<=140737488300000)(h2:Reads w w.heap.size 3 A2 n2 (recs zly L))(hL:∀x∈L,(∀z∈x.1,z<256)/\x.1.length<=140737488351232)(hc:n2<=c2)(hn2:n2<=4611686018427387903):
 Calls Tryz.prog 88 #[.slice A n c,.slice A2 n2 c2] w (zcm (putC b L) w):=by
 have P0:=Hz (znu (c:=c2) h2 hL hc hn2);obtain rfl:=h2.lenC;by_cases hk:zcy L=0
 ·rw[hk] at P0
  have HO:=Hz (show putC b L=b++vp L.length++zkk L by rw[putC,if_pos hk]);obtain⟨m1,m2,_⟩:=(zeh L).1 hk;generalize putC b L=O at*;have M2:=Hz m2;have HLL:=Hz hL;have vl:=zap (n:=L.length) (by omega);have VL:=Hz vl;have hln:=h.len;have LN:=Hz hln;clear hk m2 hL hln;go_enter Tryz.func88,Tryz.ntmps88
  go_wp2_with fail
  refine P0.out.mono ?_;rintro e w1 ⟨rfl,b1⟩;have P1:=Hz (zc1 A n c b L.length w1 (Reads.later h b1) (by omega) (by omega));go_wp2_with fail
  refine P1.out.mono ?_;rintro e w2 ⟨A3,n3,c3,rfl,k3,b2⟩;have b02:=New.trans b1 b2;have Z1:=b1.size;clear P0 P1 b1 vl;go_wp2
  go_loopw [5,20] (fun v i wr=>∃(k:Nat) (A:Option Addr) (m c5:Nat),i= .int .i64 (k:Int)/\k<=L.length/\v= .slice A m c5/\Own wr w.heap.size 5 (.slice A m c5) (zan .u8 (b++vp L.length++zkk (L.take k)))/\New w wr) (fun _ i _=>L.length-(intOf i).toNat)
  case atStart=>exact⟨0,_,_,_,rfl,by omega,rfl,by rw[qnj,qd4,qm3];exact k3.base_le Z1,b02⟩
  case round=>
   obtain⟨k,A5,m5,c5,rfl,hk,rfl,o5,b5⟩:=hrel;have z5:=b5.size;by_cases hlt:k<L.length
   ·obtain⟨ad,rfl,hbk,d0,d1,d2⟩:=(Reads.later h2 b5).colT hlt
    have hx:(L.getD k ([],0,false))∈L:=by rw[qoa,qmm hlt];exact qm8 hlt
    obtain⟨x1,x2,x3,x4⟩:=M2.out _ hx;have y1:=(HLL.out _ hx).1;have T:=zad L k ([],0,false) hlt;have q5:m5<=n+7200:=by have l:=o5.len;have l2:=z1c (L.take k) (fun x hx=>(M2.out x (qnh hx)).2.1);rw[zaa,qni,qni] at l;rw[qmq] at l2;have:=VL.out;have:=LN.out;omega
    have HT:=Hz (show b++vp L.length++zkk (L.take (k+1))=b++vp L.length++zkk (L.take k)++vp (L.getD k ([],0,false)).1.length++(L.getD k ([],0,false)).1++[(L.getD k ([],0,false)).2.1.toNat,boolN (L.getD k ([],0,false)).2.2] by rw[T,z8v];simp);clear T hx;generalize(L.getD k ([],0,false)).1=s2 at*;generalize(L.getD k ([],0,false)).2.1=t2 at*;generalize(L.getD k ([],0,false)).2.2=n2 at*;obtain⟨t2,rfl⟩:=qon x3;rw[qng] at HT;have zs:=zbt s2;have vs:=zap (n:=s2.length) (by omega);have VS:=Hz vs;have Y1:=Hz y1;have hiz:(k:Int)<(L.length:Int):=by omega
    obtain⟨W1,hW1⟩:∃W,W=wr.alloc (.cells #[.string (zae s2),.int .i64 (t2:Int),.bool n2] 71):=⟨_,rfl⟩;have b51:New w W1:=by rw[hW1];exact Below.alloc b5 b5.size _
    have Y:Blk W1 wr.heap.size 71 #[.string (zae s2),.int .i64 (t2:Int),.bool n2]:=by rw[hW1];exact Blk.new _ _ _
    have o51:Own W1 w.heap.size 5 (.slice A5 m5 c5) (zan .u8 (b++vp L.length++zkk (L.take k))):=by rw[hW1];exact o5.alloc _
    have hg7:wr.heap.size<W1.heap.size:=Y.lt;obtain⟨p0,p1,p2⟩:=zao Y;have P6:=Hz (zc1 none 0 0 [] s2.length W1 Reads.none_ (by omega) (by omega));rw[hW1] at p0 p1 p2;rw[hW1] at P6;clear y1 o5;have HY:=Hz Y;have HW1:=Hz hW1;clear Y vs hW1;go_wp2_with fail
    refine P6.out.mono ?_;rintro e w7 ⟨A7,n7,c7,rfl,k7,b7⟩;rw[<-HW1.out] at b7 k7;rw[qnk] at k7;have b07:=New.trans b51 b7;have o7:=o51.later b7;have Y7:=HY.out.below b7 HY.out.lt;have q7:n7<=10:=by have:=k7.len;rw[zaa] at this;have:=VS.out;omega
    have r7:=k7.reads;have z7:=b07.size;clear b7 k7 P6 p0 p1 p2 o51;go_wp2_with (first
     |(refine zam elB rfl (.tmp 24) (.tmp 29) rfl (W:=w) (B:=w.heap.size) o7 r7 rfl rfl b07 (qmt _) z7 (by omega) (by simp only[maxLen];omega) ?_
       intro A8 c8 w8 _ _ o8 g8 b08 _;have Y8:=Y7.push o7 g8 (by decide);obtain⟨p0,p1,p2⟩:=zao Y8;have HY8:=Hz Y8;have z8:=b08.size;clear Y8)
     |(refine zd6 elB qfj rfl (.tmp 31) (.tmp 33) rfl (W:=w) (B:=w.heap.size) o8 Y1.out rfl rfl b08 (qmt _) z8 (by omega) ?_
       intro A9 c9 w9 _ _ o9 g9 b09;have HY9:=Hz (HY8.out.push o8 g9 (by decide));have z9:=b09.size;clear p0 p1 p2))
    have HC:=Hz (fun(W:World) (hW:w9.grownBy W (Value.ownBlock (.slice A9 (m5+n7+s2.length) c9)))=>zao (HY9.out.grown hW (fun e=>o9.blk_ne HY9.out (by decide) e.symm)));refine zax (fun x y=>x.grownBy y (Value.ownBlock (.slice A9 (m5+n7+s2.length) c9))) [(true,0),(true,1),(true,2),(true,3),(true,4),(true,5),(false,6),(false,7),(false,8),(true,9)]
     (fun x=>World.grownBy.refl x _) World.grownBy.trans (by kernel_rfl) (by kernel_rfl) (by kernel_rfl) (by kernel_rfl) ?_
    have e8:IntKind.u8.wrap (t2:Int)=(t2:Int):=by rw[IntKind.wrap_u8];omega
    have MK:=Hz (fun W=>qd5 n2 W);generalize hmk:boolN n2=mk at*;have o10:Own (w9.alloc (.cells #[.int .u8 (t2:Int),.int .u8 (mk:Int)] 5)).drew w.heap.size 5 (.slice A9 (m5+n7+s2.length) c9) (zan .u8 (b++vp L.length++zkk (L.take k)++vp s2.length++s2)):=o9.alloc _;have r10:Reads (w9.alloc (.cells #[.int .u8 (t2:Int),.int .u8 (mk:Int)] 5)).drew (w9.alloc (.cells #[.int .u8 (t2:Int),.int .u8 (mk:Int)] 5)).drew.heap.size 1 (some ⟨w9.heap.size,0,none⟩) 2 (zan .u8 [t2,mk]):=Reads.litV w9 5 #[.int .u8 (t2:Int),.int .u8 (mk:Int)] 2 (zan .u8 [t2,mk]) rfl rfl;repeat(first
     |(refine zba rfl rfl (fun K hK=>?_);go_simp
       (with_reducible refine(MK.out _).mono ?_)
       rintro e w11 ⟨rfl,rfl⟩;refine hK _ _ (World.grownBy.refl _ _) ?_;clear hK)
     |(refine zar rfl rfl (v:=?_) (fun W hW=>?_) ?_;rotate_left;(obtain⟨p0,p1,p2⟩:=HC.out W (World.grownBy.trans z2r hW);go_simp<;> with_reducible rfl);simp only[Act.put,qo6,qou,qo7]))
    refine zba rfl rfl (fun K hK=>?_);go_simp
    refine hK _ _ (World.grownBy_alloc w9.drew _ _) ?_;clear hK;refine zba rfl rfl (fun K hK=>?_);have b10:Below w.heap.size w (w9.alloc (.cells #[.int .u8 (t2:Int),.int .u8 (mk:Int)] 5)).drew:=(b09.alloc z9 _).drew;refine zkn elB (.tmp 35) (.tmp 42) rfl (W:=w) (B:=w.heap.size) o10 r10 (by omega) rfl rfl b10 (qmt _) b10.size (zci _ _) (by rw[<-o10.len];omega) (by rw[<-o10.len];simp only[maxLen];omega) ?_;intro A11 c11 w11 _ _ o11 g11 b11;refine hK _ _ g11 ?_;clear hK;rw[<-zdl,<-o10.len] at o11;rw[<-o10.len];refine zar rfl rfl (v:=?_) (fun W hW=>?_) ?_;rotate_left
    ·go_simp<;> with_reducible rfl
    simp only[Act.put,qo6,qou,qo7];refine zdh ?_;go_wp2
    go_roundw
    case rel=>exact⟨k+1,_,_,_,by go_num,by omega,rfl,by rw[HT.out];exact o11,b11⟩
    case measure=>simp[intOf];omega
   ·obtain rfl:k=L.length:=by omega
    rw[qql] at o5;go_wp2
    go_ret
    exact⟨_,_,_,rfl,by rw[HO.out];exact o5,b5⟩
 ·have HO:=Hz (show putC b L=b by rw[putC,if_neg hk])
  generalize putC b L=O at*;generalize zcy L=ck at*;have e1:(ck != 0)=true:=by simpa using hk
  clear hk;go_enter Tryz.func88,Tryz.ntmps88
  go_wp2_with fail
  refine P0.out.mono ?_;rintro e w1 ⟨rfl,b1⟩;have P1:=Hz (zg8 (c:=c) (Reads.later h b1) (by omega));clear P0;go_wp2_with fail
  refine P1.out.mono ?_;rintro e w2 ⟨A3,n3,c3,rfl,k3,b2⟩;have Z1:=b1.size;go_wp2
  go_ret
  exact⟨_,_,_,rfl,by rw[HO.out];exact k3.base_le Z1,New.trans b1 b2⟩
end Go.Proofs.Y
namespace Go.Hm
open Go Go.RowKit
def ztx(S:St):zbb × St:=
 (((zeq ((lenS 100 S).1:Int) (lenS 100 S).2).1,((zcf (zeq ((lenS 100 S).1:Int) (lenS 100 S).2).2).1:Int),decide ((zcf (zcf (zeq ((lenS 100 S).1:Int) (lenS 100 S).2).2).2).1=1)),
   if 1<(zcf (zcf (zeq ((lenS 100 S).1:Int) (lenS 100 S).2).2).2).1 then none else(zcf (zcf (zeq ((lenS 100 S).1:Int) (lenS 100 S).2).2).2).2)
def zej:Nat->St->List zbb × St
 |0,S=>([],S)
 |n+1,S=>((ztx S).1::(zej n (ztx S).2).1,(zej n (ztx S).2).2)
theorem zy3{S:St}(h:S.ok):(ztx S).2.ok:=by
 unfold ztx;simp only;split
 ·exact St.ok_none
 ·exact zs4 (zs4 (zi9 (zb4 h)).1)
theorem z1f:∀(n:Nat) {S:St},S.ok->(zej n S).2.ok
 |0,_,h=>h
 |n+1,_,h=>z1f n (zy3 h)
theorem zlp:∀(n:Nat) (S:St),(zej n S).1.length=n
 |0,_=>rfl
 |n+1,S=>by rw[zej,qnu,zlp n]
theorem zrx:∀(n:Nat) (S:St),(zej (n+1) S).1=(zej n S).1++[(ztx (zej n S).2).1]/\(zej (n+1) S).2=(ztx (zej n S).2).2
 |0,S=>⟨rfl,rfl⟩
 |n+1,S=>by
  obtain⟨h1,h2⟩:=zrx n (ztx S).2;refine⟨?_,h2⟩;rw[zej,h1];rfl
def z82(c:zbb):Prop:=(∀x∈c.1,x<256)/\c.1.length<=100
theorem zv7{S:St}(h:S.ok):z82 (ztx S).1:=by refine⟨(zi9 (zb4 h)).2,?_⟩;have h1:=zos (n:=((lenS 100 S).1:Int)) (S:=(lenS 100 S).2) (by omega);have h2:=zdg (m:=100) S (by omega) h;unfold ztx;simp only;omega
theorem zry:∀(n:Nat) {S:St},S.ok-> ∀c∈(zej n S).1,z82 c
 |0,_,_,c,hc=>by simp[zej] at hc
 |n+1,S,h,c,hc=>by
  rw[zej,qof] at hc;rcases hc with rfl|hc
  ·exact zv7 h
  ·exact zry n (zy3 h) c hc
def getC(S:St):List zbb × St:=
 if(zej (lenS 64 S).1 (lenS 64 S).2).2=none\/ ¬zcy (zej (lenS 64 S).1 (lenS 64 S).2).1=0 then([],none) else zej (lenS 64 S).1 (lenS 64 S).2
open Go Go.RowKit
theorem zhi{P:Program}{t:TypeId}{sz:Nat}(ht:P.underlying t=some (.slice (P.elem t)))(hs:∀w,(sizeOf (P.elem t)).run P w= .ok sz w)(A:Option Addr)(n c k m:Nat)(hk:k<=m)(hc:m<=c)(w:World):
 (Instr.sliceAt t (.slice A n c) (some (.int .i64 (k:Int))) (some (.int .i64 (m:Int))) none).run P w= .ok (.slice (if c=k then A else A.map (·.add (k*sz))) (m-k) (c-k)) w:=by
 rw[run_sliceAt_slice w t _ _ _ _ ht,run_slice_lh w t A n c ht .i64 .i64 (k:Int) (m:Int) (by omega) (by omega) (by omega),hs];simp[Result.andThen,sliced]
theorem qej{P:Program}{t:TypeId}{sz:Nat}(ht:P.underlying t=some (.slice (P.elem t)))(hs:∀w,(sizeOf (P.elem t)).run P w= .ok sz w)(A:Option Addr)(n c m:Nat)(hc:m<=c)(w:World):
 (Instr.sliceAt t (.slice A n c) none (some (.int .i64 (m:Int))) none).run P w= .ok (.slice A m c) w:=by
 rw[run_sliceAt_slice w t _ _ _ _ ht,run_slice_h w t A n c ht .i64 (m:Int) (by omega) (by omega),hs];have e:∀a:Addr,a.add 0=a:=fun a=>by simp[Addr.add]
 cases A<;> simp[Result.andThen,sliced,e]
theorem qek{P:Program}{t:TypeId}{sz:Nat}(ht:P.underlying t=some (.slice (P.elem t)))(hs:∀w,(sizeOf (P.elem t)).run P w= .ok sz w)(A:Option Addr)(n c k:Nat)(hk:k<=n)(w:World):
 (Instr.sliceAt t (.slice A n c) (some (.int .i64 (k:Int))) none none).run P w= .ok (.slice (if c=k then A else A.map (·.add (k*sz))) (n-k) (c-k)) w:=by
 rw[run_sliceAt_slice w t _ _ _ _ ht,run_slice_l w t A n c ht .i64 (k:Int) (by omega) (by omega),hs];simp[Result.andThen,sliced]
open Go Go.RowKit
theorem z4l(a b:Value)(n:Nat):(madeCells #[a,b] (n*2)).toList=(List.replicate n [a,b]).flatten:=by
 induction n with
 |zero=>simp[madeCells]
 |succ n ih=>
  rw[qpz,qp9,<-ih];have e:∀m,m%2=0->(madeCells #[a,b] (m+2)).toList=(madeCells #[a,b] m).toList++[a,b]:=by intro m hm;simp only[madeCells,qqa,qqb,qqc,qp6,qnc,qnd,qm5,qnt,qnk,qnm,qnu,qp3];rw[hm,show(m+1)%2=1 by omega];rfl
  rw[qoo,e (n*2) (by omega)];simp
theorem z4m(n:Nat):(List.replicate n [Value.int .i64 0,.int .i64 0]).flatten=zdk (List.replicate n (0,0)):=by
 induction n with
 |zero=>rfl
 |succ n ih=>
  rw[qot,qq0,ih,qot];rfl
theorem zwl(l m:List (Int × Int)):zdk (l++m)=zdk l++zdk m:=by simp[zdk]
section
variable{P:Program}{ops:Array Oper}{rest:List Oper}{o:Oper}{a:Act}{Q:Exit->Act->World->Prop}
theorem zzd{w:World}{t e:TypeId}{x y:Value}{bytes:Nat}(E:ElT P t e (.agg #[x,y]) 2 bytes)(hgd:o.guard=none)(lo co:Operand)(ho:o.op=Op.makeSlice t lo co)
 {W:World}{B:Nat}{kl kc:IntKind}{L C:Int}(n:Nat)(hl:a.eval lo= .int kl L)(hc:a.eval co= .int kc C)(hL:L=(n:Int))(hC:C=(n:Int))(hb:Below B W w)(hbase:B<=w.heap.size)
 (hn:n*bytes<=140737488355328)(hm:n<=maxLen)
 (h:∀w',w'.ownsRow w.heap.size e 2 (.slice (some ⟨w.heap.size,0,none⟩) n n) n (List.replicate n [x,y]).flatten->w.grownBy w' none->Below B W w'->w'.heap.size=w.heap.size+1->wpList P ops Q rest (a.put o.dst (.slice (some ⟨w.heap.size,0,none⟩) n n)) w'):
 wpList P ops Q (o::rest) a w:=by
 obtain⟨i,hi,hz0,hs1,hb1⟩:=info_parts E.hi;subst hL hC;have hmC:(n:Int)<=9223372036854775807:=by have h:=hm;simp only[maxLen] at h;omega
 have hbC:(i.bytes:Int)*(n:Int)<=281474976710656:=by
  have h:((i.bytes*n:Nat):Int)<=281474976710656:=by rw[hb1,qne];omega
  rwa[qnf] at h
 have hrun:=run_make (P:=P) w t e i (.agg #[x,y]) E.ht hi hz0 kl kc (n:Int) (n:Int) (by omega) (by omega) hbC hmC;rw[qng,hs1] at hrun;refine wpList_plain hgd fun K hK=>?_
 unfold Oper.wp;simp[execOp,ho,hl,hc,hrun,Result.andThen];refine hK _ _ (h _ ?_ (World.grownBy_alloc _ _ _) (hb.alloc hbase _) (by simp));refine⟨by simp,.inr ⟨_,n,_,rfl,qmt _,heap_alloc_new w _,qmt _,hm,by simp[size_madeCells],?_⟩⟩;rw[qnn (by simp[size_madeCells])];exact z4l x y n
theorem zwm{w:World}(hgd:o.guard=none)(ty:TypeId)(x y:Operand)(ho:o.op= .store ty x y)
 {base:Nat}{e:TypeId}{g n m:Nat}{A B:List (Int × Int)}{old new:Int × Int}(hown:w.ownsRow base e 2 (.slice (some ⟨g,0,none⟩) n n) n (zdk (A++old::B)))(hm:A.length=m)(hmn:m<n)
 (hx:a.eval x= .pointer (some ⟨g,m*2,none⟩))(hy:a.eval y= .agg #[.int .i64 new.1,.int .i64 new.2])(hi:(P.info? ty).map (·.size)=some 2)
 (h:∀W,W.ownsRow base e 2 (.slice (some ⟨g,0,none⟩) n n) n (zdk (A++new::B))->w.grownBy W (some g)->wpList P ops Q rest (a.put o.dst undef) W):wpList P ops Q (o::rest) a w:=by
 obtain⟨cs,hB⟩:=zxy hown;obtain⟨ad,ea,-,c0,c1⟩:=(Reads.of_own hown).pair2 (i:=m) hmn;injection ea with ea;subst ea;have ead:(⟨g,0,none⟩:Addr).add (m*2)=⟨g,m*2,none⟩:=by unfold Addr.add;split<;> simp_all
 rw[ead] at c0 c1;dsimp only at c0 c1;have ht:w.there g (m*2) (#[Value.int .i64 new.1,.int .i64 new.2]:Array Value).size:=by
  intro j hj;have hj:j<2:=hj;refine⟨?_,hB.frozen _⟩;have:j=0\/j=1:=by omega
  rcases this with rfl|rfl
  ·rw[qp4,c0];rfl
  ·rw[c1];rfl
 refine wpList_store_mid hgd ty x y ho g (m*2) #[.int .i64 new.1,.int .i64 new.2] hx hy ht hi (by simp[Value.oneCell']) ?_;obtain⟨o1,g1⟩:=World.ownsRow.stored hown (m*2) (.int .i64 new.1);obtain⟨o2,g2⟩:=World.ownsRow.stored o1 (m*2+1) (.int .i64 new.2);have hl:(zdk A).length=m*2:=by rw[zgp,hm]
 have e2:((zdk (A++old::B)).set (m*2) (.int .i64 new.1)).set (m*2+1) (.int .i64 new.2)=zdk (A++new::B):=by rw[zwl,zwl,qor _ _ (by omega),qor _ _ (by omega),hl,qos,show m*2+1-m*2=1 by omega];rfl
 rw[e2] at o2;exact h _ o2 (g1.trans g2)
end
end Go.Hm
namespace Go.Proofs.Y
open Go.RowKit Go.Hm
section
variable{w:World}{ca cb cc:Array Value}{ea eb ec:TypeId}
end
def RowsIn(w:World)(B:Nat)(D:List zex):Prop:=∀d∈D,w.ownsRow B 75 5 (.slice d.1 d.2.2.length d.2.1) d.2.2.length (recs za0 d.2.2)
theorem RowsIn.later{w w':World}{B:Nat}{D:List zex}(h:RowsIn w B D)(hb:New w w'):RowsIn w' B D:=fun d hd=>za1 (h d hd) hb
theorem RowsIn.base{w:World}{B B':Nat}{D:List zex}(h:RowsIn w B D)(hb:B'<=B):RowsIn w B' D:=fun d hd=>zeo (h d hd) hb
theorem RowsIn.keepT{w w':World}{B g:Nat}{t:TypeId}{cs:Array Value}{D:List zex}(h:RowsIn w B D)(hT:Blk w g t cs)(hne:75≠t)(hg:w.grownBy w' (some g)):RowsIn w' B D:=fun d hd=>World.ownsRow.kept (h d hd) hg (.inr (zaj (h d hd) hT hne))
theorem RowsIn.snoc{w:World}{B:Nat}{D:List zex}{d:zex}(h:RowsIn w B D)(hd:w.ownsRow B 75 5 (.slice d.1 d.2.2.length d.2.1) d.2.2.length (recs za0 d.2.2)):RowsIn w B (D++[d]):=by
 intro x hx;rcases qny.1 hx with hx|hx
 ·exact h x hx
 ·obtain rfl:=qnz.1 hx
  exact hd
def TabPost(er:Int)(L:List zbb)(r:Int)(C:List (List zab))(w:World)(e:Ending)(w':World):Prop:=
 ∃(Ac Ad:Option Addr) (cc cd:Nat) (D:List zex),e= .returned (.tuple #[.agg #[.slice Ac L.length cc,.int .i64 r,.slice Ad D.length cd],.int .i64 er])/\
  w'.ownsRow w.heap.size 71 3 (.slice Ac L.length cc) L.length (recs zly L)/\w'.ownsRow w.heap.size 76 1 (.slice Ad D.length cd) D.length (recs zk9 D)/\RowsIn w' w.heap.size D/\D.map (·.2.2)=C/\New w w'
def qki(er:Int)(L:List zbb)(l:List Int):List zbb:=if er=0 then l.map (fun c=>L.getD c.toNat ([],0,false)) else []
def qkj(er fr to_:Int):Int:=if er=0 then to_-fr else 0
def ql1(D:List zex)(fr to_ c:Int):List zab:=((D.getD c.toNat (none,0,[])).2.2.drop fr.toNat).take (to_-fr).toNat
def qkk(er:Int)(D:List zex)(l:List Int)(fr to_:Int):List (List zab):=if er=0 then l.map (ql1 D fr to_) else []
def ProjPost(er:Int)(L:List zbb)(D:List zex)(l:List Int)(fr to_:Int)(w:World)(e:Ending)(w':World):Prop:=
 (er≠0/\e= .returned (.tuple #[.agg #[.slice none 0 0,.int .i64 0,.slice none 0 0],.int .i64 er])/\New w w')\/(er=0/\TabPost 0 (l.map (fun c=>L.getD c.toNat ([],0,false))) (to_-fr) (l.map (ql1 D fr to_)) w e w')
theorem ProjPost.u{er:Int}{L:List zbb}{D:List zex}{l:List Int}{fr to_:Int}{w w':World}{e:Ending}(h:ProjPost er L D l fr to_ w e w'):TabPost er (qki er L l) (qkj er fr to_) (qkk er D l fr to_) w e w':=by
 rcases h with⟨h1,rfl,h2⟩|⟨rfl,h⟩
 ·rw[qki,qkj,qkk,if_neg h1,if_neg h1,if_neg h1]
  exact⟨none,none,0,0,[],rfl,zc3,zc3,fun _ hd=>absurd hd (by simp),rfl,h2⟩
 ·exact h
theorem z90{L:List zbb}{r:Int}{D:List zex}(h:zgk L r D=0):D.length=L.length/\0<=r/\r<=65536/\L.length<=64/\ ∀d∈D,((d.2.2.length:Nat):Int)=r:=by
 unfold zgk at h;split at h
 ·rename_i h1;exact absurd h h1
 ·rename_i h1
  split at h
  ·rename_i h2;exact absurd h h2
  ·rename_i h2
   obtain⟨a,b,c,d⟩:=zwn (Classical.not_not.1 h2);refine⟨a,b,c,?_,d⟩;have h3:=Classical.not_not.1 h1;unfold zcy at h3;split at h3
   ·cases h3
   ·omega
end Go.Proofs.Y
