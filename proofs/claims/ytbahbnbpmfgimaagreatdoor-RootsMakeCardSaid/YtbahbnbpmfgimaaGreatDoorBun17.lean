import Derived.Test.YtbahbnbpmfgimaaGreatDoorBun15
set_option maxHeartbeats 2000000
set_option maxRecDepth 100000
namespace Go.Hm
open Go Go.RowKit
def z52(s:List Nat)(n:Nat):List Nat:=s.length::(s++[n])
def upL(s:List Nat)(L:List (List Nat))(k:Nat):List Nat:=z52 s L.length++(L.take k).flatMap zqx
theorem zzv(s:List Nat)(L:List (List Nat)):upL s L 0=z52 s L.length:=by simp[upL]
theorem z54(s:List Nat)(L:List (List Nat)):upL s L L.length=zc2 s L:=by simp[upL,z52,zc2]
theorem zzw(s:List Nat)(L:List (List Nat)){k:Nat}(hk:k<L.length):upL s L (k+1)=upL s L k++zqx (L.getD k []):=by rw[upL,upL,zae _ k [] hk,qpl,qmi];simp
end Go.Hm
namespace Go.Proofs.Y
open Go.RowKit Go.Hm
theorem zuq{w:World}{s:List Nat}{A:Option Addr}{n c:Nat}{D:List zcx}(h:RowsAt w A n c D)(hn:n<=9223372036854775806)(hs8:∀x∈s,x<256)(hs:s.length<=140737488351232)(ht:zem (bytesOf D)<=1099511627776):
 Calls Tryz.prog 66 #[.string (zai s),.slice A n c] w (OptB (za5 s (bytesOf D)) w):=by
 obtain rfl:=h.len;have hz:=zbt s;have hB:=zby D;have HR:=qrf h;have H8:=qrf hs8;have HT:=qrf ht;by_cases h1:s.length=0
 ·have hO:za5 s (bytesOf D)=none:=by unfold za5;exact if_neg (by omega)
  rw[hO];obtain rfl:=qmn h1;clear h hs8 ht hO;go_enter Tryz.func66,Tryz.ntmps66
  go_wp2
  go_ret2
  exact⟨rfl,qq8 _ _⟩
 by_cases h2:255<s.length
 ·have hO:za5 s (bytesOf D)=none:=by unfold za5;exact if_neg (by omega)
  rw[hO];have d0:((s.length:Int)==0)=false:=by rw[beq_eq_false_iff_ne];omega
  have d1:decide ((255:Int)<(s.length:Int))=true:=by simp;omega
  clear h hs8 ht hO;go_enter Tryz.func66,Tryz.ntmps66
  go_wp2
  go_ret2
  exact⟨rfl,qq8 _ _⟩
 by_cases h3:255<D.length
 ·have hO:za5 s (bytesOf D)=none:=by unfold za5;exact if_neg (by omega)
  rw[hO];have d0:((s.length:Int)==0)=false:=by rw[beq_eq_false_iff_ne];omega
  have d1:decide ((255:Int)<(s.length:Int))=false:=by simp;omega
  have d2:decide ((255:Int)<(D.length:Int))=true:=by simp;omega
  clear h hs8 ht hO;go_enter Tryz.func66,Tryz.ntmps66
  go_wp2
  go_ret2
  exact⟨rfl,qq8 _ _⟩
 have hO:za5 s (bytesOf D)=some (zc2 s (bytesOf D)):=by unfold za5;exact if_pos (by omega)
 rw[hO];have d0:((s.length:Int)==0)=false:=by rw[beq_eq_false_iff_ne];omega
 have d1:decide ((255:Int)<(s.length:Int))=false:=by simp;omega
 have d2:decide ((255:Int)<(D.length:Int))=false:=by simp;omega
 have hD:D.length<=255:=by omega
 have hs2:s.length<=255:=by omega
 have HB:=qrf hB;have a1:IntKind.u8.wrap (s.length:Int)=(s.length:Int):=by simp[IntKind.wrap,IntKind.bits,IntKind.signed];omega
 clear h hs8 ht hO h1 h2 h3 hB;go_enter Tryz.func66,Tryz.ntmps66
 go_wp2
 go_loop [6,31] (fun z i=>∃(k m:Nat),k<=D.length/\i= .int .i64 (k:Int)/\z= .int .i64 (m:Int)/\m<=1099511640000/\Hid (m=2+s.length+8*k+zem ((bytesOf D).take k))) (fun _ i=>D.length-(intOf i).toNat)
 case atStart=>exact⟨0,2+s.length,by omega,rfl,by go_num,by omega,qrf (by simp[zem])⟩
 case round=>
  obtain⟨k,m,hk,rfl,rfl,hm,HM⟩:=hrel;by_cases hlt:k<D.length
  ·obtain⟨ad,rfl,hb,hc⟩:=HR.out.at_ hlt
   have e1:=zff D k;generalize D.getD k (none,0,[])=d at*;have h4:=zkv (L:=bytesOf D) (k:=k) (by rw[HB.out];exact hlt);rw[e1] at h4;have h6:=zgt (bytesOf D) (k+1);have hm3:m+(8+d.2.2.length)=2+s.length+8*(k+1)+zem ((bytesOf D).take (k+1)):=by rw[h4,HM.out];omega
   have hd:d.2.2.length<=1099511627776:=by have:=HT.out;omega
   have hm4:m+(8+d.2.2.length)<=1099511640000:=by have:=HT.out;omega
   have HM3:=qrf hm3;clear e1 h4 h6 hm3;obtain⟨m2,hm2⟩:∃x,x=m+(8+d.2.2.length):=⟨_,rfl⟩;have i1:(m:Int)+(8+(d.2.2.length:Int))=(m2:Int):=by omega
   rw[<-hm2] at HM3 hm4;clear hm2;go_wp2
   go_round
   case rel=>exact⟨k+1,m2,by omega,by go_num,by go_num,hm4,HM3⟩
   case measure=>simp[intOf];omega
  ·obtain rfl:k=D.length:=by omega
   clear HM;have a1:(s.length:Int)%256=(s.length:Int):=by omega
   have a2:(D.length:Int)%256=(D.length:Int):=by omega
   go_wp2_with (first
    |(refine zci elB rfl (.const (.int .i64 0)) (.tmp 41) rfl (W:=w) (B:=w.heap.size) 0 m rfl rfl rfl rfl (by omega) (qq8 _ _) (ql6 _) rfl (by omega) (by simp only[maxLen];omega) ?_
      intro w1 o1 g1 b1 s1;have z1:=b1.size;clear g1 s1)
    |(refine zbr elB rfl (.tmp 43) (.tmp 47) rfl (W:=w) (B:=w.heap.size) (k:= .u8) (l:=[]) o1 rfl rfl s.length rfl b1 (ql6 _) z1 (by omega) (by simp only[maxLen];omega) ?_
      intro A2 c2 w2 _ _ o2 _ b2 _ _;have z2:=b2.size)
    |(refine zdo elB qa0 rfl (.tmp 49) (.tmp 50) rfl (W:=w) (B:=w.heap.size) o2 H8.out rfl rfl b2 (ql6 _) z2 (by omega) ?_
      intro A3 c3 w3 _ _ o3 _ b3;have z3:=b3.size)
    |(refine zbr elB rfl (.tmp 52) (.tmp 56) rfl (W:=w) (B:=w.heap.size) o3 rfl rfl D.length rfl b3 (ql6 _) z3 (by omega) (by simp only[maxLen];omega) ?_
      intro A4 c4 w4 _ _ o4 _ b4 _ _))
   have B4:=qrf b4;have O4:=qrf (show Own w4 w.heap.size 5 (.slice A4 (0+1+s.length+1) c4) (zah .u8 (upL s (bytesOf D) 0)) by rw[zzv,z52,HB.out];simpa using o4);clear o1 b1 z1 o2 b2 z2 o3 b3 z3 o4 b4;have R4:=qrf (HR.out);obtain⟨q4,hq4⟩:∃q,q=0+1+s.length+1:=⟨_,rfl⟩;rw[<-hq4] at O4⊢;have HQ4:=qrf (show q4=2+s.length+8*0+zem ((bytesOf D).take 0) by rw[hq4];simp[zem];omega);clear hq4;go_loopw [9,60] (fun v i wr=>∃(k q c:Nat) (A:Option Addr),k<=D.length/\i= .int .i64 (k:Int)/\v= .slice A q c/\Hid (q=2+s.length+8*k+zem ((bytesOf D).take k))/\Hid (Own wr w.heap.size 5 (.slice A q c) (zah .u8 (upL s (bytesOf D) k)))/\Hid (New w wr)) (fun _ i _=>D.length-(intOf i).toNat)
   case atStart=>exact⟨0,q4,c4,A4,by omega,rfl,rfl,HQ4,O4,B4⟩
   case round=>
    clear HQ4 O4 B4;obtain⟨k,q,cq,Aq,hk,rfl,rfl,HQ,O,b⟩:=hrel;by_cases hlt:k<D.length
    ·obtain⟨ad,rfl,hb,hc⟩:=(HR.out.later b.out).at_ hlt
     have RD:=qrf (fun(W:World) (hW:New w W)=>((HR.out.later hW).parts.at_ hlt).1);have e1:=zff D k;have US:=zzw s (bytesOf D) (k:=k) (by rw[HB.out];exact hlt);have h4:=zkv (L:=bytesOf D) (k:=k) (by rw[HB.out];exact hlt);have h6:=zgt (bytesOf D) (k+1);rw[e1] at h4 US;generalize D.getD k (none,0,[])=d at*;have hp:d.2.2.length<=1099511627776:=by have:=HT.out;omega
     have hq:q<=1099511640000:=by have:=HT.out;have:=HQ.out;omega
     have HQ2:=qrf (show q+8+d.2.2.length=2+s.length+8*(k+1)+zem ((bytesOf D).take (k+1)) by rw[h4,HQ.out];omega);have HUS:=qrf US;have O2:=qrf (show Own wr w.heap.size 5 (.slice Aq (q+0) cq) (zah .u8 (upL s (bytesOf D) k++low d.2.2.length 0)) by simpa[low] using O.out);have hlow:=qrf (fun j=>show(upL s (bytesOf D) k++low d.2.2.length j).length=(upL s (bytesOf D) k).length+j by rw[qmv,zbe]);clear e1 US h4 h6 HQ O;go_wp2
     go_loopw [9,64] (fun v i wr=>∃(j c:Nat) (A:Option Addr),j<=8/\i= .int .i64 (j:Int)/\v= .slice A (q+j) c/\Hid (Own wr w.heap.size 5 (.slice A (q+j) c) (zah .u8 (upL s (bytesOf D) k++low d.2.2.length j)))/\Hid (New w wr)) (fun _ i _=>8-(intOf i).toNat)
     case atStart=>exact⟨0,cq,Aq,by omega,rfl,rfl,O2,b⟩
     case round=>
      clear O2 b hc hb;obtain⟨j,cj,Aj,hj,rfl,rfl,O,b⟩:=hrel;by_cases hlj:j<8
      ·have S:=qrf (zxi d.2.2.length j)
       have j1:(8:Int)*(j:Int)<64:=by omega
       have o:=O.out;have b0:=b.out;have hz:=b0.size;clear O b
       go_wp2_with (refine zbr elB rfl (.tmp 67) (.tmp 75) rfl (W:=w) (B:=w.heap.size) o rfl rfl (d.2.2.length/256^j%256) (by rw[S.out]) b0 (ql6 _) (by omega) (by omega) (by simp only[maxLen];omega) ?_
                    intro A3 c3 w3 _ _ o3 _ b3 _ _)
       have O3:=qrf (show Own w3 w.heap.size 5 (.slice A3 (q+(j+1)) c3) (zah .u8 (upL s (bytesOf D) k++low d.2.2.length (j+1))) by rw[qmi] at o3;exact o3);have B3:=qrf b3;clear o o3 b0 b3;go_roundw
       case rel=>exact⟨j+1,c3,A3,by omega,by go_num,rfl,O3,B3⟩
       case measure=>simp[intOf];omega
      ·obtain rfl:j=8:=by omega
       have o:=O.out;have b0:=b.out;have r0:=RD.out _ b0;have hz:=b0.size;clear O b
       go_wp2_with (refine zal elB rfl (.tmp 78) (.tmp 79) rfl (W:=w) (B:=w.heap.size) (base:=w.heap.size) o r0 rfl rfl b0 (ql6 _) (by omega) (by omega) (by simp only[maxLen];omega) ?_
                    intro A3 c3 w3 _ _ o3 _ b3 _)
       have O3:=qrf (show Own w3 w.heap.size 5 (.slice A3 (q+8+d.2.2.length) c3) (zah .u8 (upL s (bytesOf D) (k+1))) by rw[HUS.out,zqx,<-qmi];exact o3);have B3:=qrf b3;clear o o3 b0 b3 r0;go_roundw
       case rel=>exact⟨k+1,q+8+d.2.2.length,c3,A3,by omega,by go_num,rfl,HQ2,O3,B3⟩
       case measure=>simp[intOf];omega
    ·obtain rfl:k=D.length:=by omega
     have o:=O.out;rw[<-HB.out,z54] at o;have O5:=qrf o;clear o O;go_wp2
     go_ret2
     exact⟨_,_,_,rfl,O5.out,b.out⟩
theorem qbg{w:World}(x:Nat)(hx:x<=9223372036854775807):
 Calls Tryz.prog 104 #[.int .i64 (x:Int)] w (zcb (low x 8) w):=by
 go_enter Tryz.func104,Tryz.ntmps104
 go_wp2
 go_loopw [0,3,4] (fun n v i wr=>∃(k c:Nat) (A:Option Addr),k<=8/\i= .int .i64 (k:Int)/\n= .int .i64 ((x/256^k:Nat):Int)/\v= .slice A k c/\Hid (Own wr w.heap.size 5 (.slice A k c) (zah .u8 (low x k)))/\Hid (New w wr)) (fun _ _ i _=>8-(intOf i).toNat)
 case atStart=>exact⟨0,0,none,by omega,rfl,by simp,rfl,qrf qru,qrf (qq8 _ _)⟩
 case round=>
  obtain⟨k,c,A,hk,rfl,rfl,rfl,O,b⟩:=hrel;by_cases hlt:k<8
  ·obtain⟨y,hy⟩:∃y,y=x/256^k:=⟨_,rfl⟩
   have S:=qrf (show(y:Int)%256=((x/256^k%256:Nat):Int) by rw[<-hy];omega);have hyx:y<=x:=by rw[hy];exact qnh _ _
   have HY:=qrf (show x/256^(k+1)=y/256 by rw[hy,qm3,qo9]);have o:=O.out;have b0:=b.out;have hz:=b0.size;rw[<-hy];obtain⟨z,hz2⟩:∃z,z=y/256:=⟨_,rfl⟩;have q1:(y:Int).tdiv 256=(z:Int):=by rw[qor (by omega)];omega
   have q2:(y:Int)/256=(z:Int):=by omega
   rw[<-hz2] at HY;clear O b hy hz2
   go_wp2_with (refine zbr elB rfl (.tmp 9) (.tmp 12) rfl (W:=w) (B:=w.heap.size) o rfl rfl (x/256^k%256) (by rw[S.out]) b0 (ql6 _) (by omega) (by omega) (by simp only[maxLen];omega) ?_
                intro A3 c3 w3 _ _ o3 _ b3 _ _)
   have O3:=qrf (show Own w3 w.heap.size 5 (.slice A3 (k+1) c3) (zah .u8 (low x (k+1))) from o3);have B3:=qrf b3;clear o o3 b0 b3;go_roundw
   case rel=>exact⟨k+1,c3,A3,by omega,by go_num,by rw[HY.out],rfl,O3,B3⟩
   case measure=>simp[intOf];omega
  ·obtain rfl:k=8:=by omega
   go_wp2
   go_ret
   exact⟨A,8,c,rfl,O.out,b.out⟩
theorem zri{w:World}{s:List Nat}{A:Option Addr}{n c:Nat}{D:List zcx}(h:RowsAt w A n c D)(hn:n<=9223372036854775806)(hs8:∀x∈s,x<256)(hs:s.length<=140737488351232)(ht:zem (bytesOf D)<=1099511627776):
 Calls Tryz.prog 75 #[.string (zai s),.slice A n c] w (OptB (za5 s (bytesOf D)) w):=by
 obtain rfl:=h.len;have hz:=zbt s;have hB:=zby D;have HR:=qrf h;have H8:=qrf hs8;have HT:=qrf ht;by_cases h1:s.length<1
 ·have hO:za5 s (bytesOf D)=none:=by unfold za5;exact if_neg (by omega)
  rw[hO];obtain rfl:=qmn (show s.length=0 by omega);clear h hs8 ht hO;go_enter Tryz.func75,Tryz.ntmps75
  go_wp2
  go_ret2
  exact⟨rfl,qq8 _ _⟩
 by_cases h2:255<s.length
 ·have hO:za5 s (bytesOf D)=none:=by unfold za5;exact if_neg (by omega)
  rw[hO];have d0:decide ((s.length:Int)<1)=false:=decide_eq_false (by omega);have d1:decide ((255:Int)<(s.length:Int))=true:=decide_eq_true (by omega);clear h hs8 ht hO;go_enter Tryz.func75,Tryz.ntmps75
  go_wp2
  go_ret2
  exact⟨rfl,qq8 _ _⟩
 by_cases h3:255<D.length
 ·have hO:za5 s (bytesOf D)=none:=by unfold za5;exact if_neg (by omega)
  rw[hO];have d0:decide ((s.length:Int)<1)=false:=decide_eq_false (by omega);have d1:decide ((255:Int)<(s.length:Int))=false:=decide_eq_false (by omega);have d2:decide ((255:Int)<(D.length:Int))=true:=decide_eq_true (by omega);clear h hs8 ht hO;go_enter Tryz.func75,Tryz.ntmps75
  go_wp2
  go_ret2
  exact⟨rfl,qq8 _ _⟩
 have hO:za5 s (bytesOf D)=some (zc2 s (bytesOf D)):=by unfold za5;exact if_pos (by omega)
 rw[hO];have d0:decide ((s.length:Int)<1)=false:=decide_eq_false (by omega);have d1:decide ((255:Int)<(s.length:Int))=false:=decide_eq_false (by omega);have d2:decide ((255:Int)<(D.length:Int))=false:=decide_eq_false (by omega);have hD:D.length<=255:=by omega
 have hs2:s.length<=255:=by omega
 have HB:=qrf hB;have a1:(s.length:Int)%256=(s.length:Int):=by omega
 have a2:(D.length:Int)%256=(D.length:Int):=by omega
 have o1:Own (w.alloc (.cells #[.int .u8 (s.length:Int)] 5)) w.heap.size 5 (.slice (some ⟨w.heap.size,0,none⟩) 1 1) (zah .u8 [s.length]):=z5l w 5 .u8 [s.length] (by simp[maxLen]);have b1:New w (w.alloc (.cells #[.int .u8 (s.length:Int)] 5)):=(qq8 _ _).alloc (ql6 _) _;have z1:=b1.size;clear h hs8 ht hO h1 h2 h3 hB;go_enter Tryz.func75,Tryz.ntmps75
 go_wp2_with (first
  |(refine zdo elB qa0 rfl (.tmp 25) (.tmp 26) rfl (W:=w) (B:=w.heap.size) o1 H8.out rfl rfl b1 (ql6 _) z1 (by omega) ?_
    intro A3 c3 w3 _ _ o3 _ b3;have z3:=b3.size;clear o1 b1 z1)
  |(refine zbr elB rfl (.tmp 28) (.tmp 32) rfl (W:=w) (B:=w.heap.size) o3 rfl rfl D.length rfl b3 (ql6 _) z3 (by omega) (by simp only[maxLen];omega) ?_
    intro A4 c4 w4 _ _ o4 _ b4 _ _;clear o3 z3 b3))
 have B4:=qrf b4;have O4:=qrf (show Own w4 w.heap.size 5 (.slice A4 (1+s.length+1) c4) (zah .u8 (upL s (bytesOf D) 0)) by rw[zzv,z52,HB.out];simpa using o4);clear o4 b4;obtain⟨q4,hq4⟩:∃q,q=1+s.length+1:=⟨_,rfl⟩;rw[<-hq4] at O4⊢;have HQ4:=qrf (show q4=2+s.length+8*0+zem ((bytesOf D).take 0) by rw[hq4];simp[zem];omega);clear hq4;go_loopw [6,7] (fun v i wr=>∃(k q c:Nat) (A:Option Addr),k<=D.length/\i= .int .i64 (k:Int)/\v= .slice A q c/\Hid (q=2+s.length+8*k+zem ((bytesOf D).take k))/\Hid (Own wr w.heap.size 5 (.slice A q c) (zah .u8 (upL s (bytesOf D) k)))/\Hid (New w wr)) (fun _ i _=>D.length-(intOf i).toNat)
 case atStart=>exact⟨0,q4,c4,A4,by omega,rfl,rfl,HQ4,O4,B4⟩
 case round=>
  clear HQ4 O4 B4;obtain⟨k,q,cq,Aq,hk,rfl,rfl,HQ,O,b⟩:=hrel;by_cases hlt:k<D.length
  ·obtain⟨ad,rfl,hb,hc⟩:=(HR.out.later b.out).at_ hlt
   have RD:=qrf (fun(W:World) (hW:New w W)=>((HR.out.later hW).parts.at_ hlt).1);have RC:=qrf (fun(W:World) (hW:New w W)=>show W.cell? (ad.add k)=some (.slice (D.getD k (none,0,[])).1 (D.getD k (none,0,[])).2.2.length (D.getD k (none,0,[])).2.1) by obtain⟨ad2,e2,_,h2⟩:=(HR.out.later hW).at_ hlt;obtain rfl:=qlj e2;exact h2)
   have e1:=zff D k;have US:=zzw s (bytesOf D) (k:=k) (by rw[HB.out];exact hlt);have h4:=zkv (L:=bytesOf D) (k:=k) (by rw[HB.out];exact hlt);have h6:=zgt (bytesOf D) (k+1);rw[e1] at h4 US;generalize D.getD k (none,0,[])=d at*;have hp:d.2.2.length<=1099511627776:=by have:=HT.out;omega
   have hq:q<=1099511640000:=by have:=HT.out;have:=HQ.out;omega
   have HQ2:=qrf (show q+8+d.2.2.length=2+s.length+8*(k+1)+zem ((bytesOf D).take (k+1)) by rw[h4,HQ.out];omega);have HUS:=qrf US;have LG:=qrf (qbg (w:=wr) d.2.2.length (by omega));have o:=O.out;have b0:=b.out;clear e1 US h4 h6 HQ O;go_wp2_with (first
    |(go_at_call 104;refine LG.out.mono ?_;rintro e w5 ⟨A5,n5,c5,rfl,k5,b5⟩
      have b05:=qr0 b0 b5;have o5:=o.later b5;have r5:=k5.reads;obtain rfl:n5=8:=by have:=k5.len;rw[zaa,zbe] at this;exact this
      have o5:=o5;have r5:=r5;have z5:=b05.size;clear o b0 hc hb)
    |(refine zal elB rfl (.tmp 40) (.tmp 46) rfl (W:=w) (B:=w.heap.size) (base:=w.heap.size) o5 r5 rfl rfl b05 (ql6 _) z5 (by omega) (by simp only[maxLen];omega) ?_
      intro A6 c6 w6 _ _ o6 _ b6 _;have hc6:=RC.out _ b6;have r6:=RD.out _ b6;have z6:=b6.size;clear o5 r5 b05 z5 k5 b5)
    |(refine zal elB rfl (.tmp 48) (.tmp 52) rfl (W:=w) (B:=w.heap.size) (base:=w.heap.size) o6 r6 rfl rfl b6 (ql6 _) z6 (by omega) (by simp only[maxLen];omega) ?_
      intro A7 c7 w7 _ _ o7 _ b7 _;clear o6 r6 z6 hc6 b6))
   have O7:=qrf (show Own w7 w.heap.size 5 (.slice A7 (q+8+d.2.2.length) c7) (zah .u8 (upL s (bytesOf D) (k+1))) by rw[HUS.out,zqx,<-qmi];exact o7);have B7:=qrf b7;clear o7 b7;go_roundw
   case rel=>exact⟨k+1,q+8+d.2.2.length,c7,A7,by omega,by go_num,rfl,HQ2,O7,B7⟩
   case measure=>simp[intOf];omega
  ·obtain rfl:k=D.length:=by omega
   have o:=O.out;rw[<-HB.out,z54] at o;have O5:=qrf o;clear o O;go_wp2
   go_ret2
   exact⟨_,_,_,rfl,O5.out,b.out⟩
end Go.Proofs.Y
namespace Go.Hm
open Go Go.RowKit
theorem zur{α:Type}{l m:List α}{k:Nat}(d:α)(h1:k<l.length)(h2:k<m.length):l.take (k+1)=m.take (k+1)↔l.take k=m.take k/\l.getD k d=m.getD k d:=by
 rw[zae _ k d h1,zae _ k d h2];constructor
 ·intro h
  have:=List.append_inj' h rfl;exact⟨this.1,by simpa using this.2⟩
 ·rintro⟨h,k⟩
  rw[h,k]
theorem RowsAt.cells{w:World}{ad:Addr}{n c:Nat}{D:List zcx}(h:RowsAt w (some ad) n c D){k:Nat}(hk:k<D.length)(W:World)(hW:New w W):W.cell? (ad.add k)=some (.slice (D.getD k (none,0,[])).1 (D.getD k (none,0,[])).2.2.length (D.getD k (none,0,[])).2.1):=by obtain⟨ad2,e2,_,h2⟩:=(h.later hW).at_ hk;obtain rfl:=qlj e2;exact h2
end Go.Hm
namespace Go.Proofs.Y
open Go.RowKit Go.Hm
theorem zsv{w:World}{A B:Option Addr}{n m c e:Nat}{D E:List zcx}(h:RowsAt w A n c D)(k:RowsAt w B m e E)(h8:∀p∈bytesOf D,∀x∈p,x<256)(k8:∀p∈bytesOf E,∀x∈p,x<256)(hn:n<=9223372036854775806)(hm:m<=9223372036854775806):
 Calls Tryz.prog 21 #[.slice A n c,.slice B m e] w (zak (.bool (decide (bytesOf D=bytesOf E))) w):=by
 obtain rfl:=h.len;obtain rfl:=k.len;have HD:=qrf h;have HE:=qrf k;have H8:=qrf h8;have K8:=qrf k8;have LD:=qrf (zby D);have LE:=qrf (zby E);clear h k h8 k8;by_cases hl:D.length=E.length
 ·have d1:((D.length:Int)==(E.length:Int))=true:=by rw[beq_iff_eq];omega
  have HL:=qrf hl;have e1:(D.length:Int)=(E.length:Int):=by omega
  clear hl;go_enter Tryz.func21,Tryz.ntmps21
  go_wp2
  go_loopw [5] (fun i wr=>∃k:Nat,k<=D.length/\i= .int .i64 (k:Int)/\Hid ((bytesOf D).take k=(bytesOf E).take k)/\Hid (New w wr)) (fun i _=>D.length-(intOf i).toNat)
  case atStart=>exact⟨0,by omega,rfl,qrf (by simp),qrf (qq8 _ _)⟩
  case round=>
   obtain⟨k,hk,rfl,T,b⟩:=hrel;by_cases hlt:k<D.length
   ·have k1:=hlt
    have k2:k<E.length:=by have:=HL.out;omega
    obtain⟨ad,rfl,_⟩:=HD.out.at_ k1;obtain⟨ae,rfl,_⟩:=HE.out.at_ k2;have C1:=qrf (fun(W:World) (hW:New w W)=>HD.out.cells k1 W hW);have C2:=qrf (fun(W:World) (hW:New w W)=>HE.out.cells k2 W hW);have R1:=((HD.out.later b.out).parts.at_ k1).1;have R2:=((HE.out.later b.out).parts.at_ k2).1;have e1:=zff D k;have e2:=zff E k;have g1:=H8.out _ (zgu (L:=bytesOf D) (k:=k) (by rw[LD.out];exact hlt));have g2:=K8.out _ (zgu (L:=bytesOf E) (k:=k) (by rw[LE.out];exact k2));have TS:=zur (l:=bytesOf D) (m:=bytesOf E) (k:=k) [] (by rw[LD.out];exact hlt) (by rw[LE.out];exact k2);rw[e1,e2] at TS;rw[e1] at g1;rw[e2] at g2;have BB:=zi6 g1 g2;generalize D.getD k (none,0,[])=d at*;generalize E.getD k (none,0,[])=x at*;have HT:=qrf TS;have HB:=qrf BB;have R1:=qrf R1;have R2:=qrf R2;clear e1 e2 g1 g2 TS BB;go_wp2
    refine zaw New [(true,0),(true,1),(true,2),(true,3),(true,4),(true,5),(true,6),(true,7),(true,8),(true,9),(true,10)]
     qrz qr0 (by kernel_rfl) (by kernel_rfl) (by kernel_rfl) (by kernel_rfl) ?_
    have hU:=qr1 wr;have bU:=qr0 b.out hU;iterate 4 (
     refine zaj rfl rfl (v:=?_) (fun W hW=>?_) ?_;rotate_left
     ·have c1:=C1.out W (qr0 bU hW)
      go_simp<;> with_reducible rfl
     simp only[Act.put,qoi,qn8,qoj])
    refine qey (e:=5) (by kernel_rfl) (by kernel_rfl) (by kernel_rfl) rfl rfl rfl R1.out hU ?_;simp only[Act.put,qoi,qn8,qoj];iterate 4 (
     refine zaj rfl rfl (v:=?_) (fun W hW=>?_) ?_;rotate_left
     ·have c2:=C2.out W (qr0 bU hW)
      go_simp<;> with_reducible rfl
     simp only[Act.put,qoi,qn8,qoj])
    refine qey (e:=5) (by kernel_rfl) (by kernel_rfl) (by kernel_rfl) rfl rfl rfl R2.out hU ?_;simp only[Act.put,qoi,qn8,qoj];refine zaj rfl rfl (v:=?_) (fun W hW=>?_) ?_;rotate_left
    ·skip
     go_simp<;> with_reducible rfl
    simp only[Act.put,qoi,qn8,qoj];refine zda ?_;have B3:=qrf bU;generalize hbb:(!((zai d.2.2).toList==(zai x.2.2).toList))=tb;by_cases hq:d.2.2=x.2.2
    ·have T3:=qrf (HT.out.2 ⟨T.out,hq⟩)
     obtain rfl:tb=false:=by rw[<-hbb,HB.out,decide_eq_true hq];rfl
     clear hbb;clear T hq;go_wp2
     go_roundw
     case rel=>exact⟨k+1,by omega,by go_num,T3,B3⟩
     case measure=>simp[intOf];omega
    ·have HN:Hid (decide (bytesOf D=bytesOf E)=false):=qrf (decide_eq_false fun he=>hq (HT.out.1 (by rw[he])).2)
     obtain rfl:tb=true:=by rw[<-hbb,HB.out,decide_eq_false hq];rfl
     clear hbb;clear T hq;go_wp2
     go_ret
     exact⟨by simp[HN.out],B3.out⟩
   ·obtain rfl:k=D.length:=by omega
    have t:=T.out;rw[qm0 (by rw[LD.out];omega),qm0 (by rw[LE.out];have:=HL.out;omega)] at t;have HN:Hid (decide (bytesOf D=bytesOf E)=true):=qrf (decide_eq_true t);clear t T;go_wp2
    go_ret
    exact⟨by simp[HN.out],b.out⟩
 ·have d1:((D.length:Int)==(E.length:Int))=false:=by rw[beq_eq_false_iff_ne];omega
  have HN:Hid (decide (bytesOf D=bytesOf E)=false):=qrf (decide_eq_false fun he=>hl (by rw[<-LD.out,<-LE.out,he]));have d2: ¬(D.length:Int)=(E.length:Int):=by omega
  go_enter Tryz.func21,Tryz.ntmps21
  go_wp2
  go_ret
  exact⟨by simp[HN.out],qq8 _ _⟩
end Go.Proofs.Y
namespace Go.Hm
open Go Go.RowKit
end Go.Hm
namespace Go.Proofs.Y
open Go.RowKit Go.Hm
theorem z2a{w:World}{A:Option Addr}{n c:Nat}{l:List Nat}(h:Reads w w.heap.size 1 A n (zah .u8 l))(hl:n<=140737488355328):
 Calls Tryz.prog 42 #[.slice A n c] w (zcb l w):=by
 obtain rfl:=h.len;rcases A with _|ad
 ·have hl0:l.length=0:=by
   rcases qmm l.length with h0|h0
   ·exact h0
   ·obtain⟨ad,h',_⟩:=h.2 h0
    cases h'
  obtain rfl:l=[]:=qmn hl0;have hq:=fun W:World=>qrm (P:=Tryz.prog) W 24 5 none 0 c 0 0 elB.ht
  go_enter Tryz.func42,Tryz.ntmps42
  go_wp2
  go_ret
  exact⟨none,0,0,rfl,qru,qq8 _ _⟩
 ·have hq:=fun W:World=>qrm (P:=Tryz.prog) W 24 5 (some ad) l.length c 0 0 elB.ht
  go_enter Tryz.func42,Tryz.ntmps42
  go_wp2_with (first
   |(refine zal elB rfl (.tmp 5) (.tmp 6) rfl (W:=w) (B:=w.heap.size) (k:= .u8) (l:=[]) (l2:=l) (c2:=c) (Own.empty _ _) ((h.alloc (ql6 _) _).more (by simp)) rfl rfl ((qq8 _ _).alloc (ql6 _) _) (ql6 _) (by simp) (by omega) (by simp only[maxLen];omega) ?_
     simp only[qmy,qmx];intro A' c' w' k1 k2 k3 k4 k5 k6))
  go_ret
  exact⟨A',_,c',rfl,k3,k5⟩
end Go.Proofs.Y
namespace Go.Hm
open Go Go.RowKit
theorem TR.push{w w':World}{e t:TypeId}{A:Option Addr}{n base:Nat}{xs ys:List Value}{v:Value}(h:TR w e A n xs)(o:Own w base t v ys)(hg:w.grownBy w' v.ownBlock)(hne:e≠t):TR w' e A n xs:=by
 rcases o.2 with⟨rfl,_⟩|⟨g,cap,cur,rfl,_,hh,_⟩
 ·exact h.grown hg (fun ad g _ hr=>by cases hr)
 ·exact h.keep (g:=g) hg hh hne
def PartsT(e:TypeId)(w:World)(D:List zcx):Prop:=∀d∈D,TR w e d.1 d.2.2.length (zah .u8 d.2.2)/\d.2.2.length<=d.2.1/\d.2.1<=9223372036854775807
theorem PartsT.ins{e:TypeId}{w:World}{D:List zcx}(h:PartsT e w D):PartsIn w D:=fun d hd=>⟨(h d hd).1.1,(h d hd).2⟩
theorem PartsT.below{e:TypeId}{w w':World}{D:List zcx}(h:PartsT e w D)(hb:New w w'):PartsT e w' D:=fun d hd=>⟨(h d hd).1.below hb,(h d hd).2⟩
theorem PartsT.push{e t:TypeId}{w w':World}{D:List zcx}{base:Nat}{v:Value}{ys:List Value}(h:PartsT e w D)(o:Own w base t v ys)(hg:w.grownBy w' v.ownBlock)(hne:e≠t):PartsT e w' D:=fun d hd=>⟨(h d hd).1.push o hg hne,(h d hd).2⟩
theorem PartsT.snoc{e:TypeId}{w:World}{D:List zcx}{d:zcx}(h:PartsT e w D)(k:TR w e d.1 d.2.2.length (zah .u8 d.2.2))(h1:d.2.2.length<=d.2.1)(h2:d.2.1<=9223372036854775807):PartsT e w (D++[d]):=by
 intro x hx;rcases qnd.1 hx with hx|hx
 ·exact h x hx
 ·obtain rfl:=qne.1 hx
  exact⟨k,h1,h2⟩
theorem zir(D:List zcx)(d:zcx):bytesOf (D++[d])=bytesOf D++[d.2.2]:=by simp[bytesOf]
theorem zhg(D:List zcx):(recs zdr D).length=D.length:=by rw[zaz (sz:=1) (fun _=>rfl),qmd]
theorem zl9(D:List zcx)(d:zcx):recs zdr (D++[d])=recs zdr D++[.slice d.1 d.2.2.length d.2.1]:=by rw[za7];rfl
end Go.Hm
namespace Go.Proofs.Y
open Go.RowKit Go.Hm
theorem elR:ElT Tryz.prog 22 24 (.slice none 0 0) 1 24:=⟨by kernel_rfl,by kernel_rfl,rfl,by omega⟩
def ParsePost(o:Option (List Nat × List (List Nat)))(w:World)(e:Ending)(w':World):Prop:=
 ∃A n c D,e= .returned (.tuple #[.string (zai ((o.map Prod.fst).getD [])),.slice A n c,.bool o.isSome])/\RowsAt w' A n c D/\bytesOf D=(o.map Prod.snd).getD []/\New w w'
theorem ParsePost.none_{w w':World}(h:New w w'):ParsePost none w (.returned (.tuple #[.string (zai []),.slice none 0 0,.bool false])) w':=
 ⟨none,0,0,[],rfl,⟨⟨by simp[recs],fun h=>absurd h (by omega)⟩,(fun d hd=>nomatch hd),ql6 _⟩,rfl,h⟩
end Go.Proofs.Y
namespace Go.Hm
open Go Go.RowKit
theorem zhu{P:Program}{t:TypeId}{sz:Nat}(ht:P.underlying t=some (.slice (P.elem t)))(hs:∀w,(sizeOf (P.elem t)).run P w= .ok sz w)(A:Option Addr)(n c k m:Nat)(hk:k<=m)(hc:m<=c)(w:World):
 (Instr.sliceAt t (.slice A n c) (some (.int .i64 (k:Int))) (some (.int .i64 (m:Int))) none).run P w= .ok (.slice (if c=k then A else A.map (·.add (k*sz))) (m-k) (c-k)) w:=by
 rw[run_sliceAt_slice w t _ _ _ _ ht,run_slice_lh w t A n c ht .i64 .i64 (k:Int) (m:Int) (by omega) (by omega) (by omega),hs];simp[Result.andThen,sliced]
theorem qdt{P:Program}{t:TypeId}{sz:Nat}(ht:P.underlying t=some (.slice (P.elem t)))(hs:∀w,(sizeOf (P.elem t)).run P w= .ok sz w)(A:Option Addr)(n c m:Nat)(hc:m<=c)(w:World):
 (Instr.sliceAt t (.slice A n c) none (some (.int .i64 (m:Int))) none).run P w= .ok (.slice A m c) w:=by
 rw[run_sliceAt_slice w t _ _ _ _ ht,run_slice_h w t A n c ht .i64 (m:Int) (by omega) (by omega),hs];have e:∀a:Addr,a.add 0=a:=fun a=>by simp[Addr.add]
 cases A<;> simp[Result.andThen,sliced,e]
theorem qdu{P:Program}{t:TypeId}{sz:Nat}(ht:P.underlying t=some (.slice (P.elem t)))(hs:∀w,(sizeOf (P.elem t)).run P w= .ok sz w)(A:Option Addr)(n c k:Nat)(hk:k<=n)(w:World):
 (Instr.sliceAt t (.slice A n c) (some (.int .i64 (k:Int))) none none).run P w= .ok (.slice (if c=k then A else A.map (·.add (k*sz))) (n-k) (c-k)) w:=by
 rw[run_sliceAt_slice w t _ _ _ _ ht,run_slice_l w t A n c ht .i64 (k:Int) (by omega) (by omega),hs];simp[Result.andThen,sliced]
end Go.Hm
