/- Merged. -/
import Derived.Test.YtbahbnbpmfgimaaGreatDoorBun49
set_option maxHeartbeats 8000000
namespace Go.Proofs.Y
open Go.RowKit Go.Hm
theorem zxm{w W:World}{A:Option Addr}{n c:Nat}{D:List zcv}(h:RowsAt w A n c D)(hf:PartsFine D)(hl:∀p∈bytesOf D,p.length<=9000000)(b:New w W){T:List Nat}(hT:∀x∈T,w.heap.size<=x):DataF W A D T:=by
 obtain rfl:=h.len;have old:∀{B:Option Addr} {k s:Nat} {xs:List Value},Reads w w.heap.size s B k xs->0<k-> ∀ad,B=some ad->ad.block∉T:=by intro B k s xs r hn ad ha hm;obtain⟨ad',e,hb,_⟩:=r.2 hn;rw[ha] at e;injection e with e;subst e;have:=hT _ hm;omega
 refine⟨Reads.later h.row b,old h.row,fun d hd=>?_⟩;obtain⟨p1,p2,p3⟩:=h.parts d hd;have hm:d.2.2∈bytesOf D:=qmn.2 ⟨d,hd,rfl⟩;exact⟨Reads.later p1 b,old p1,p2,p3,(hf _ hm).1,hl _ hm⟩
theorem zzz{L:List (List Nat)}{p:List Nat}(h:p∈L):p.length<=zfl L:=by
 unfold zfl;induction L with
 |nil=>cases h
 |cons x L ih=>
  rw[qnc,qp2];rcases qof.1 h with rfl|h
  ·omega
  ·have:=ih h;omega
def LvN(w:World)(g k:Nat)(P:List (List Nat))(n:Nat)(W:World)(e:Ending)(W':World):Prop:=∃A c,e= .returned (.slice A n c)/\n<=c/\c<=9223372036854775807/\DigsIn w W' A P/\LogN w g k W'/\KeepC W W'
section
variable{w W:World}{g k:Nat}
theorem qfi(hg:w.heap.size<=g)(hG:GlobIn w)(h:LogN w g k W){A:Option Addr}{c:Nat}{D:List zcv}(hR:RowsAt w A D.length c D)(hf:PartsFine D)(hl:∀p∈bytesOf D,p.length<=9000000)(hF:k+D.length<=9000000):
 Calls Tryz.prog 10 #[.pointer (some ⟨g,0,none⟩),.string (zae zbn),.slice A D.length c] W (LvN w g (k+D.length) (lvD zbn (bytesOf D)) D.length W):=by
 obtain⟨F,⟨V,l,b⟩,hk⟩:=h;refine(zmp (s:=zbn) l b.size (by decide) (by decide) (zxm hR hf hl b (l.own (qmt _) hg)) (by omega) (fun w' t=>(hG.new (Turns.below b t (l.own (qmt _) hg) (qmt _))).1)).mono ?_;rintro e W' ⟨v,rfl,o,V',l',_,t⟩;have o:W'.ownsRow W.heap.size tD 32 v (lvD zbn (bytesOf D)).length (recs zet (lvD zbn (bytesOf D))):=o;have hlen:(lvD zbn (bytesOf D)).length=D.length:=by rw[zl1,zc0]
 obtain⟨A',c',rfl,h1,h2⟩:=zcw o;rw[hlen] at h1;refine⟨A',c',by rw[hlen],h1,by simp only[maxLen] at h2;omega,DigsIn.row (zhr _ _) o rfl,⟨_,⟨V',l',Turns.below b t (l.own (qmt _) hg) (qmt _)⟩,?_⟩,KeepC.log l t⟩;have:=zss zbn (bytesOf D);rw[zc0] at this;show(F++lvF zbn (bytesOf D)).length<=_;rw[qni];omega
theorem qi4(hg:w.heap.size<=g)(hG:GlobIn w)(h:LogN w g k W){A:Option Addr}{c:Nat}{D:List zcv}(hR:RowsAt w A D.length c D)(hf:PartsFine D)(hl:∀p∈bytesOf D,p.length<=9000000)(hF:k+2*D.length<=8000000){v:Value}(hv:dV (ovD zbn (bytesOf D))=v):
 Calls Tryz.prog 12 #[.pointer (some ⟨g,0,none⟩),.slice A D.length c] W (qi2 v w g (k+(2*D.length+1)) W):=by
 obtain⟨F,⟨V,l,b⟩,hk⟩:=h;refine(zxd (c:=c) l b.size (zxm hR hf hl b (l.own (qmt _) hg)) (by omega) (fun w' t=>hG.new (Turns.below b t (l.own (qmt _) hg) (qmt _)))).mono ?_;rintro e W' ⟨rfl,V',l',_,t⟩;refine⟨by rw[<-hv];rfl,⟨_,⟨V',l',Turns.below b t (l.own (qmt _) hg) (qmt _)⟩,?_⟩,KeepC.log l t⟩;have:=zst zbn (bytesOf D);rw[zc0] at this;show(F++ovF zbn (bytesOf D)).length<=_;rw[qni];omega
end
set_option maxRecDepth 100000 in
theorem zqj{w:World}{A:Option Addr}{c:Nat}{D:List zcv}(f t:Int)(hR:RowsAt w A D.length c D)(hf:PartsFine D)(hn:D.length<=4611686018427387903)(hG:GlobIn w):
 Calls Tryz.prog 6 #[.slice A D.length c,.int .i64 f,.int .i64 t] w (zal (.bool true) w):=by
 have SM:=Hz (zzy w hG);have HR:=Hz hR;have HF:=Hz hf;have HG:=Hz hG;clear hR hG hf;go_enter Tryz.func6,Tryz.ntmps6
 go_wp2_with fail
 refine SM.out.mono ?_;rintro e w1 ⟨rfl,b1⟩;have B1:=Hz b1;have FW:=Hz (qb4 (HR.out.later b1) (by omega) (fun p hp=>(HF.out p hp).2));clear SM b1;go_wp2_with fail
 refine FW.out.mono ?_;rintro e w2 ⟨rfl,rfl⟩;obtain⟨fw,hfw⟩:∃fw,fw=qk3 (bytesOf D):=⟨_,rfl⟩;rw[<-hfw];have HFW:=Hz hfw;clear hfw FW;go_wp2_with fail
 refine new_any.mono ?_;rintro e w2 ⟨rfl,rfl⟩;have l1:=zmq w1 w.heap.size;obtain⟨w3,hw3⟩:∃W,W=w1.alloc (.cells #[.slice none 0 0] 86):=⟨_,rfl⟩;have b3:New w w3:=by rw[hw3];exact New.trans B1.out (zac _ _)
 rw[<-hw3] at l1;rw[<-hw3];have hgw:w.heap.size<=w1.heap.size:=B1.out.size;generalize w1.heap.size=g at*;have B3:=Hz b3;have S3:=Hz (show LogN w g 0 w3 from⟨[],⟨_,l1,b3⟩,qmt _⟩);clear hw3 B1 b3 l1;cases fw with
 |false=>
  go_wp2
  go_ret
  exact⟨rfl,B3.out⟩
 |true=>
 by_cases a1:30<D.length
 ·have d1:decide ((30:Int)<(D.length:Int))=true:=decide_eq_true (by omega)
  go_wp2
  go_ret
  exact⟨rfl,B3.out⟩
 have d1:decide ((30:Int)<(D.length:Int))=false:=decide_eq_false (by omega);by_cases a2:f<0
 ·have d2:decide (f<0)=true:=decide_eq_true a2
  go_wp2
  go_ret
  exact⟨rfl,B3.out⟩
 have d2:decide (f<0)=false:=decide_eq_false a2;by_cases a3:t<f
 ·have d3:decide (t<f)=true:=decide_eq_true a3
  go_wp2
  go_ret
  exact⟨rfl,B3.out⟩
 have d3:decide (t<f)=false:=decide_eq_false a3;by_cases a4:(D.length:Int)<t
 ·have d4:decide ((D.length:Int)<t)=true:=decide_eq_true a4
  go_wp2
  go_ret
  exact⟨rfl,B3.out⟩
 obtain⟨f,rfl⟩:∃m:Nat,f=(m:Int):=⟨f.toNat,by omega⟩;obtain⟨t,rfl⟩:∃m:Nat,t=(m:Int):=⟨t.toNat,by omega⟩;have d4:decide (D.length<t)=false:=decide_eq_false (by omega);have d3:decide (t<f)=false:=decide_eq_false (by omega);have hfw:zfl (bytesOf D)<=1500:=(of_decide_eq_true (show decide ((bytesOf D).length<=260/\zfl (bytesOf D)<=1500)=true from HFW.out.symm)).2;have hpl:∀p∈bytesOf D,p.length<=9000000:=fun p hp=>by have:p.length<=zfl (bytesOf D):=zzz hp;omega
 have hlen:(lvD zbn (bytesOf D)).length=D.length:=by rw[zl1,zc0]
 have hdg:=zhr zbn (bytesOf D);have LV:=Hz (show Calls Tryz.prog 10 #[.pointer (some ⟨g,0,none⟩),.string ⟨#[112,97,103,101]⟩,.slice A D.length c] w3 (LvN w g (0+D.length) (lvD zbn (bytesOf D)) D.length w3) from qfi hgw HG.out S3.out HR.out HF.out hpl (by omega));obtain⟨cr,er,ir,zr,or_,-⟩:=zg7 (zhs zbn (bytesOf D));have CH:=Hz (fun(W:World) (hs:LogN w g (0+D.length+D.length+(2*D.length+1)) W)=>qi4 hgw HG.out hs HR.out HF.out hpl (by omega) er);obtain⟨jb1,jb2⟩:=qa9 (L:=lvD zbn (bytesOf D)) (f:=f) (t:=t) (by omega) (by omega) (by omega);replace jb2:zq3 ((lvD zbn (bytesOf D)).length:Nat) (f:Int) (sl (lvD zbn (bytesOf D)) f t) (provP (lvD zbn (bytesOf D)) (f:Int) (t:Int))=ovD zbn (bytesOf D):=jb2;rw[hlen] at jb1 jb2;have EQ:=fun W=>qk9 (zhs zbn (bytesOf D)) (zhs zbn (bytesOf D)) W
 rw[er,decide_eq_true rfl] at EQ;generalize ovD zbn (bytesOf D)=od at*;generalize lvD zbn (bytesOf D)=L at*;have PV:=Hz (fun(W:World) (A1:Option Addr) (c1:Nat) (hs:LogN w g (0+D.length) W) (di:DigsIn w W A1 L) (h4:D.length<=c1) (h5:c1<=9223372036854775807)=>show Calls Tryz.prog 30 #[.pointer (some ⟨g,0,none⟩),.slice A1 D.length c1,.int .i64 (f:Int),.int .i64 (t:Int)] W (PrN w g (0+D.length+D.length) (provP L (f:Int) (t:Int)) W) from by have:=qi3 hgw HG.out.1 hs (f:Int) (t:Int) di (by rw[hlen];exact h4) h5 (by rw[hlen];omega);rwa[hlen] at this)
 have hls:(sl L f t).length=t-f:=zlv (by omega);have JN:=Hz (fun(W:World) (A1 A2:Option Addr) (c1 c2:Nat) (hs:LogN w g (0+D.length+D.length) W) (di:DigsIn w W A1 L) (h4:D.length<=c1) (h5:c1<=9223372036854775807) (d1:DigsIn w W A2 (provP L (f:Int) (t:Int))) (h6:(provP L (f:Int) (t:Int)).length<=c2) (h7:c2<=9223372036854775807)=>show Calls Tryz.prog 29 #[.pointer (some ⟨g,0,none⟩),.int .i64 (D.length:Int),.int .i64 (f:Int),.slice (if c1=f then A1 else A1.map (·.add (f*32))) (t-f) (c1-f),.slice A2 (provP L (f:Int) (t:Int)).length c2] W (qi2 (.tuple #[.agg cr,.bool true]) w g (0+D.length+D.length+(2*D.length+1)) W) from by have:=qk1 hgw HG.out.1 hs D.length (f:Int) (c:=c1-f) (P:=sl L f t) (di.sl (lo:=f) (hi:=t) (c:=c1) (by omega) (by omega) (by omega)) (by omega) (by omega) d1 h6 h7 (by omega) (by omega) (by omega) (v:= .agg cr) (b:=true) ((congrArg dV jb2).trans er) jb1;rwa[hls] at this)
 have Ir:=Hz ir;have Zr:=Hz zr;have Or:=Hz or_;have HEQ:=Hz EQ;have HGW:=Hz hgw;have HFT:=Hz (qo8 (show f<=t by omega) (show t<=D.length by omega));generalize hP:provP L (f:Int) (t:Int)=P at*;have HPL:=Hz (show P.length<=P.length from qmt _);have hD30:D.length<=30:=by omega
 clear hP hls er ir zr or_ EQ jb1 jb2 hpl hfw HFW a1 a2 a3 a4 hlen hdg hgw HR HF HPL;go_wp2_with fail
 (with_reducible refine LV.out.mono ?_)
 rintro e w4 ⟨A1,c1,rfl,e1,e2,i4,s4,k4⟩;have SL:=fun W=>zqd A1 D.length c1 f t HFT.out.1 (by have:=HFT.out.2;omega) W
 have S4:=Hz s4;have I4:=Hz i4;have E12:=Hz (qo8 e1 e2);clear LV S3 B3 s4 k4 i4 e1 e2 d1 d2 d3 d4;obtain⟨AS,hAS⟩:∃X,X=(if c1=f then A1 else A1.map (·.add (f*32))):=⟨_,rfl⟩;simp only[<-hAS] at SL;have HAS:=Hz hAS;clear hAS;go_upto_region 9 with fail
 go_cut [11,12] (fun s11 s12 wx=>∃b,s11= .pointer (some ⟨b,0,none⟩)/\s12= .bool true/\ ∃wz,wz=wx/\Hid (Blk wz b tD cr/\LogN w g (0+D.length+D.length+(2*D.length+1)) wz))
 case first=>
  refine zq5 (fun _ _=>True) (.quiet 0 (.quiet 1 (.quiet 2 (.quiet 3 (.quiet 4 (.quiet 5 (.quiet 6 (.quiet 7 (.quiet 8 (.quiet 9 (.quiet 10 (.quiet 11 (.two 12 (.two 13 (.quiet 14 (.quiet 15 (.quiet 16 (.alone 17 (.alone 18 (.quiet 19 .done)))))) 17 (.alone 13 (.quiet 14 (.quiet 15 (.quiet 16 (.alone 18 (.quiet 19 .done))))))) 17 (.alone 12 (.alone 13 (.quiet 14 (.quiet 15 (.quiet 16 (.alone 18 (.quiet 19 .done))))))))))))))))))))
   (fun _=>trivial) (fun _ _=>trivial) (by kernel_rfl) (by kernel_rfl) (by kernel_rfl) (by kernel_rfl) ?_
  have S6:=S4.out.new (New.drew w4);have I6:=DigsIn.keep I4.out (KeepC.new (New.drew w4));obtain⟨u0,hu0⟩:∃W,W=w4.drew:=⟨_,rfl⟩;rw[<-hu0] at S6 I6⊢;have Z0:Hid ((#[.int .u8 0,.int .u8 0,.int .u8 0,.int .u8 0,.int .u8 0,.int .u8 0,.int .u8 0,.int .u8 0,.int .u8 0,.int .u8 0,.int .u8 0,.int .u8 0,.int .u8 0,.int .u8 0,.int .u8 0,.int .u8 0,.int .u8 0,.int .u8 0,.int .u8 0,.int .u8 0,.int .u8 0,.int .u8 0,.int .u8 0,.int .u8 0,.int .u8 0,.int .u8 0,.int .u8 0,.int .u8 0,.int .u8 0,.int .u8 0,.int .u8 0,.int .u8 0]:Array Value).size=cr.size):=Hz Zr.out;have hwu:w.heap.size<=u0.heap.size:=S6.news.size;clear hu0;iterate 7 (
   refine zdy rfl rfl (v:=?_) (fun W' hW=>?_) ?_;rotate_left
   ·go_simp<;> with_reducible rfl
   simp only[Act.put,qo6,qou,qo7])
  refine zdy rfl rfl (v:= .slice AS (t-f) (c1-f)) (fun W' hW=>zg3 (SL W')) ?_;simp only[Act.put,qo6,qou,qo7];iterate 4 (
   refine zdy rfl rfl (v:=?_) (fun W' hW=>?_) ?_;rotate_left
   ·go_simp<;> with_reducible rfl
   simp only[Act.put,qo6,qou,qo7])
  refine z2g ?_ ?_
  ·refine zgj rfl rfl (fun K hK=>?_)
   go_simp
   (with_reducible refine(PV.out u0 A1 c1 S6 I6 E12.out.1 E12.out.2).mono ?_)
   rintro e u1 ⟨A2,c2,rfl,h6,h7,j2,s1,k1⟩;refine hK _ _ trivial ?_;clear hK;have i1:=DigsIn.keep I6 k1;have hw1:w.heap.size<=u1.heap.size:=s1.news.size;refine z2g ?_ ?_
   ·have JC:=JN.out u1 A1 A2 c1 c2 s1 i1 E12.out.1 E12.out.2 j2 h6 h7
    rw[<-HAS.out] at JC;refine zgj rfl rfl (fun K hK=>?_);go_simp
    (with_reducible refine JC.mono ?_)
    rintro e u2 ⟨rfl,s2,k2⟩;refine hK _ _ trivial ?_;clear hK JC;iterate 3 (
     refine zdy rfl rfl (v:=?_) (fun W' hW=>?_) ?_;rotate_left
     ·go_simp<;> with_reducible rfl
     simp only[Act.put,qo6,qou,qo7])
    refine ze6 (zgj rfl rfl (fun K hK=>?_));go_simp
    refine hK _ _ trivial ?_;clear hK;have n7:=zac u2 (.cells #[.int .u8 0,.int .u8 0,.int .u8 0,.int .u8 0,.int .u8 0,.int .u8 0,.int .u8 0,.int .u8 0,.int .u8 0,.int .u8 0,.int .u8 0,.int .u8 0,.int .u8 0,.int .u8 0,.int .u8 0,.int .u8 0,.int .u8 0,.int .u8 0,.int .u8 0,.int .u8 0,.int .u8 0,.int .u8 0,.int .u8 0,.int .u8 0,.int .u8 0,.int .u8 0,.int .u8 0,.int .u8 0,.int .u8 0,.int .u8 0,.int .u8 0,.int .u8 0] 35);have G7:=Blk.new u2 35 #[.int .u8 0,.int .u8 0,.int .u8 0,.int .u8 0,.int .u8 0,.int .u8 0,.int .u8 0,.int .u8 0,.int .u8 0,.int .u8 0,.int .u8 0,.int .u8 0,.int .u8 0,.int .u8 0,.int .u8 0,.int .u8 0,.int .u8 0,.int .u8 0,.int .u8 0,.int .u8 0,.int .u8 0,.int .u8 0,.int .u8 0,.int .u8 0,.int .u8 0,.int .u8 0,.int .u8 0,.int .u8 0,.int .u8 0,.int .u8 0,.int .u8 0,.int .u8 0];have FB:=Hz (Hz (qo8 (za5 G7 cr) (LogN.set_ (s2.new n7) G7 s2.news.size cr)));refine ze6 (zgj rfl rfl (fun K hK=>?_));refine wp_store_row 35 (.tmp 11) (.tmp 71) rfl u2.heap.size cr rfl rfl _ _ (zay G7) Ir.out Z0.out Or.out ?_;refine hK _ _ trivial ?_;clear hK;refine zdy rfl rfl (v:=?_) (fun W' hW=>?_) ?_;rotate_left
    ·go_simp<;> with_reducible rfl
    simp only[Act.put,qo6,qou,qo7];refine zqi ?_;go_wp2_with fail
    go_meet
    exact⟨_,rfl,rfl,_,rfl,FB.out⟩
   ·refine zgj rfl rfl (fun K hK=>?_)
    go_simp
    refine hK _ _ trivial ?_;clear hK;have n7:=zac u1 (.cells #[.int .u8 0,.int .u8 0,.int .u8 0,.int .u8 0,.int .u8 0,.int .u8 0,.int .u8 0,.int .u8 0,.int .u8 0,.int .u8 0,.int .u8 0,.int .u8 0,.int .u8 0,.int .u8 0,.int .u8 0,.int .u8 0,.int .u8 0,.int .u8 0,.int .u8 0,.int .u8 0,.int .u8 0,.int .u8 0,.int .u8 0,.int .u8 0,.int .u8 0,.int .u8 0,.int .u8 0,.int .u8 0,.int .u8 0,.int .u8 0,.int .u8 0,.int .u8 0] 35);have G7:=Blk.new u1 35 #[.int .u8 0,.int .u8 0,.int .u8 0,.int .u8 0,.int .u8 0,.int .u8 0,.int .u8 0,.int .u8 0,.int .u8 0,.int .u8 0,.int .u8 0,.int .u8 0,.int .u8 0,.int .u8 0,.int .u8 0,.int .u8 0,.int .u8 0,.int .u8 0,.int .u8 0,.int .u8 0,.int .u8 0,.int .u8 0,.int .u8 0,.int .u8 0,.int .u8 0,.int .u8 0,.int .u8 0,.int .u8 0,.int .u8 0,.int .u8 0,.int .u8 0,.int .u8 0];have JC:=JN.out _ A1 A2 c1 c2 (s1.new n7) (i1.keep (KeepC.new n7)) E12.out.1 E12.out.2 (j2.keep (KeepC.new n7)) h6 h7;rw[<-HAS.out] at JC;refine ze6 (zgj rfl rfl (fun K hK=>?_));go_simp
    (with_reducible refine JC.mono ?_)
    rintro e u2 ⟨rfl,s2,k2⟩;refine hK _ _ trivial ?_;clear hK JC;have G8:=k2.blk G7 (by decide) (by decide);iterate 3 (
     refine zdy rfl rfl (v:=?_) (fun W' hW=>?_) ?_;rotate_left
     ·go_simp<;> with_reducible rfl
     simp only[Act.put,qo6,qou,qo7])
    have FB:=Hz (Hz (qo8 (za5 G8 cr) (LogN.set_ s2 G8 hw1 cr)));refine ze6 (zgj rfl rfl (fun K hK=>?_));refine wp_store_row 35 (.tmp 11) (.tmp 71) rfl u1.heap.size cr rfl rfl _ _ (zay G8) Ir.out Z0.out Or.out ?_;refine hK _ _ trivial ?_;clear hK;refine zdy rfl rfl (v:=?_) (fun W' hW=>?_) ?_;rotate_left
    ·go_simp<;> with_reducible rfl
    simp only[Act.put,qo6,qou,qo7];refine zqi ?_;go_wp2_with fail
    go_meet
    exact⟨_,rfl,rfl,_,rfl,FB.out⟩
  ·refine zgj rfl rfl (fun K hK=>?_)
   go_simp
   refine hK _ _ trivial ?_;clear hK;have n7:=zac u0 (.cells #[.int .u8 0,.int .u8 0,.int .u8 0,.int .u8 0,.int .u8 0,.int .u8 0,.int .u8 0,.int .u8 0,.int .u8 0,.int .u8 0,.int .u8 0,.int .u8 0,.int .u8 0,.int .u8 0,.int .u8 0,.int .u8 0,.int .u8 0,.int .u8 0,.int .u8 0,.int .u8 0,.int .u8 0,.int .u8 0,.int .u8 0,.int .u8 0,.int .u8 0,.int .u8 0,.int .u8 0,.int .u8 0,.int .u8 0,.int .u8 0,.int .u8 0,.int .u8 0] 35);have G7:=Blk.new u0 35 #[.int .u8 0,.int .u8 0,.int .u8 0,.int .u8 0,.int .u8 0,.int .u8 0,.int .u8 0,.int .u8 0,.int .u8 0,.int .u8 0,.int .u8 0,.int .u8 0,.int .u8 0,.int .u8 0,.int .u8 0,.int .u8 0,.int .u8 0,.int .u8 0,.int .u8 0,.int .u8 0,.int .u8 0,.int .u8 0,.int .u8 0,.int .u8 0,.int .u8 0,.int .u8 0,.int .u8 0,.int .u8 0,.int .u8 0,.int .u8 0,.int .u8 0,.int .u8 0];refine ze6 (zgj rfl rfl (fun K hK=>?_));go_simp
   (with_reducible refine(PV.out _ A1 c1 (S6.new n7) (I6.keep (KeepC.new n7)) E12.out.1 E12.out.2).mono ?_)
   rintro e u1 ⟨A2,c2,rfl,h6,h7,j2,s1,k1⟩;refine hK _ _ trivial ?_;clear hK;have i1:=(I6.keep (KeepC.new n7)).keep k1;have G8:=k1.blk G7 (by decide) (by decide);have JC:=JN.out u1 A1 A2 c1 c2 s1 i1 E12.out.1 E12.out.2 j2 h6 h7;rw[<-HAS.out] at JC;refine ze6 (zgj rfl rfl (fun K hK=>?_));go_simp
   (with_reducible refine JC.mono ?_)
   rintro e u2 ⟨rfl,s2,k2⟩;refine hK _ _ trivial ?_;clear hK JC;have G9:=k2.blk G8 (by decide) (by decide);iterate 3 (
    refine zdy rfl rfl (v:=?_) (fun W' hW=>?_) ?_;rotate_left
    ·go_simp<;> with_reducible rfl
    simp only[Act.put,qo6,qou,qo7])
   have FB:=Hz (Hz (qo8 (za5 G9 cr) (LogN.set_ s2 G9 hwu cr)));refine ze6 (zgj rfl rfl (fun K hK=>?_));refine wp_store_row 35 (.tmp 11) (.tmp 71) rfl u0.heap.size cr rfl rfl _ _ (zay G9) Ir.out Z0.out Or.out ?_;refine hK _ _ trivial ?_;clear hK;refine zdy rfl rfl (v:=?_) (fun W' hW=>?_) ?_;rotate_left
   ·go_simp<;> with_reducible rfl
   simp only[Act.put,qo6,qou,qo7];refine zqi ?_;go_wp2_with fail
   go_meet
   exact⟨_,rfl,rfl,_,rfl,FB.out⟩
 case rest=>
  obtain⟨b,rfl,rfl,wx,rfl,hb⟩:=hcut;have DK:(Tryz.prog).eqGuardType (Tryz.prog).depth 35=false:=by kernel_rfl
  have DK:=Hz DK;have FG:=Hz (fun(W:World) (k:KeepB w wx W)=>k.1.blk hb.out.1 (by decide) (by decide));have HS:=Hz hb.out.2;clear hb PV JN SL S4 I4 E12 HAS;go_wp2_with fail
  refine zax (KeepB w) [(true,0),(true,1),(true,2),(true,3),(true,4),(true,5),(true,6),(true,7),(false,8),(true,9),(true,10),(true,11)]
   (KeepB.refl w) KeepB.trans (by kernel_rfl) (by kernel_rfl) (by kernel_rfl) (by kernel_rfl) ?_
  have hT:=KeepB.new HS.out.news (New.drew wx);have hS:=HS.out.new (New.drew wx);obtain⟨u0,hu0⟩:∃W,W=wx.drew:=⟨_,rfl⟩;rw[<-hu0] at hT hS⊢;clear hu0;iterate 5 (
   refine zar rfl rfl (v:=?_) (fun W hW=>?_) ?_;rotate_left
   ·go_simp<;> with_reducible rfl
   simp only[Act.put,qo6,qou,qo7])
  refine zar rfl rfl (v:= .agg cr) (fun W hW=>zc9 rfl (FG.out W (hT.trans hW)) zcn rfl Ir.out) ?_;simp only[Act.put,qo6,qou,qo7];iterate 2 (
   refine zar rfl rfl (v:=?_) (fun W hW=>?_) ?_;rotate_left
   ·go_simp<;> with_reducible rfl
   simp only[Act.put,qo6,qou,qo7])
  refine zba rfl rfl (fun K hK=>?_);go_simp
  (with_reducible refine(CH.out _ hS).mono ?_)
  rintro e u2 ⟨rfl,s',k'⟩;have kb:=KeepB.log hS.news s'.news k';refine hK _ _ kb ?_;clear hK;replace hS:=s';clear kb k' hT;refine zar rfl rfl (v:= .bool true) (fun W hW=>zsq rfl rfl DK.out (HEQ.out W)) ?_;simp only[Act.put,qo6,qou,qo7];iterate 2 (
   refine zar rfl rfl (v:=?_) (fun W hW=>?_) ?_;rotate_left
   ·go_simp<;> with_reducible rfl
   simp only[Act.put,qo6,qou,qo7])
  refine zdh ?_;have BE:=Hz hS.news;go_wp2
  go_ret
  exact⟨rfl,BE.out⟩
set_option maxRecDepth 100000 in
open Go.WideShapes Go.ChangeShapes in
theorem zkj{H:Type}{enc:TypeId × Value->H}(W:World)(base:Nat)(args:Array Value)(ds:List (DataW H))(ps:List MemPlace)
 (hval:∀(j:Nat) t v,Tryz.f6.params[j]? =some t->args[j]? =some v->Value.okWide Tryz.prog W .any base t v)
 (hA:DataW.TrodAll enc Tryz.prog W 0 (fun _=>true) true Tryz.f6.params.toList args.toList ds ps)(hlt:∀p∈ps,p.block<W.heap.size)
 (hsz:(DataW.weightsEach Tryz.prog Tryz.f6.params.toList ds).all (· <=reachBytes)=true)(hL:laidMetH Tryz.prog zx1 W):
 Calls Tryz.prog 6 args W fun e W'=>e= .returned (.bool true)/\Below W.heap.size W W':=by
 rw[Tryz.params6] at hA hval hsz;obtain⟨v0,v1,v2,d0,d1,d2,p0,p1,p2,rfl,rfl,rfl,h0,h1,h2⟩:=trodAll_three hA;obtain⟨lo,rfl,wlo,wlo'⟩:=z0d (hval 1 _ _ rfl rfl) h1;obtain⟨hi,rfl,whi,whi'⟩:=z0d (hval 2 _ _ rfl rfl) h2;have _:=wlo;have _:=wlo';have _:=whi;have _:=whi';obtain⟨A_l,c_l,L_l,rfl,hr,hf,hm⟩:=qg8 (hval 0 _ _ rfl rfl) h0 (fun p hp=>hlt p (by simp[hp])) (qbz hsz (j:=0) rfl rfl);exact zqj lo hi hr hf hm (zxl hL)
end Go.Proofs.Y
