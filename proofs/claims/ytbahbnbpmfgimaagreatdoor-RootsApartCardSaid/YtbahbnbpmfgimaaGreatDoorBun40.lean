/- Merged. -/
import Derived.Test.YtbahbnbpmfgimaaGreatDoorBun21
import Derived.Test.YtbahbnbpmfgimaaGreatDoorBun27
import Derived.Test.YtbahbnbpmfgimaaGreatDoorBun39
set_option maxHeartbeats 4000000
namespace Go.Proofs.Y
open Go.RowKit Go.Hm
theorem zk5{c:zab}(h:CellFine c):zaq c:=⟨h.1,h.2.1⟩
theorem zx2{t:Int}{l:List zab}(h:zkx t l=true):(plB t l).length<=4300000000:=by
 obtain⟨⟨_,_,h1⟩,h2⟩:=plOk_iff.1 h;unfold plB;split
 ·rw[za6];omega
 ·have:=zsy l h2 (fun c hc=>zjb (h2 c hc))
  omega
set_option maxRecDepth 100000 in
theorem zx3{w:World}{A:Option Addr}{n c:Nat}{t:Int}{L:List zab}(h:Reads w w.heap.size 5 A n (recs zay L))(hL:∀y∈L,CellFine y)(hn:n<=65536):
 Calls Tryz.prog 155 #[.int .i64 t,.slice A n c] w (OptB (zl4 t L) w):=by
 obtain rfl:=h.lenCell;have C:=Hz (zxu (c:=c) h hL (by omega));have hED:∀y∈(zh9 L).1,zaq y:=fun y hy=>zk5 (hL y ((zsu L y).1 hy))
 have hle:=zsv L;have hw:=zo5 (l:=L) hn;have hel:=zs5 hw (by have:=(zox L).len;omega);have hpl:=(zox L).len;obtain⟨M,hM⟩:∃M,M=zl4 t L:=⟨_,rfl⟩;rw[<-hM];unfold zl4 at hM;simp only[hn,if_true] at hM;unfold z6p at C;generalize(zh9 L).1=E at*;generalize(zh9 L).2=P at*;have hvl:∀V,plO t E=some V->V.length<=4300000000:=fun V hV=>by obtain⟨a,b⟩:=plO_iff.1 hV;rw[<-b];exact zx2 a
 have HM:=Hz hM;have HED:=Hz hED;have HW:=Hz hw;have HPL:=Hz hpl;have HVL:=Hz hvl;have HEL:Hid ((zz5 P).length<=40000000000):=Hz (by rw[hpl] at hel;omega);clear hM hED hw h hL hvl hel hpl;go_enter Tryz.func155,Tryz.ntmps155
 go_wp2_with fail
 refine C.out.mono ?_;rintro e w1 ⟨A1,n1,c1,A2,c2,rfl,o1,o2,b1⟩;have hn1:n1=E.length:=(Reads.of_own o1).lenCell;have hz1:=b1.size;have PE:=zk1 (t:=t) (c:=c1) (Reads.of_own o1) HED.out (by omega);have RE:=Hz (fun(W:World) (hW:New w1 W)=>z69 (c:=c2) (o2.later hW).reads o2.cap.1 HW.out (by omega));have hq1:n1<=65536:=by omega
 have HN1:=Hz hn1;generalize plO t E=O at*;have PE:=Hz PE;clear C hle o1 hn1 o2;go_wp2_with fail
 refine PE.out.mono ?_;intro e w2 h2;cases O with
 |none=>
  obtain⟨rfl,b2⟩:=h2;go_wp2_with fail
  go_ret2
  have hM:=HM.out;rw[hM];exact⟨rfl,New.trans b1 b2⟩
 |some V=>
  obtain⟨A3,n3,c3,rfl,o3,b2⟩:=h2;have hn3:n3=V.length:=by have:=o3.len;rwa[zaa] at this
  have hV:=HVL.out V rfl;have RW:=Hz (RE.out w2 b2);have b02:=New.trans b1 b2;have hz2:=b02.size;have HN3:=Hz hn3;have hq3:n3<=4300000000:=by omega
  have hw1:IntKind.u64.wrap (n1:Int)=(n1:Int):=by rw[IntKind.wrap_u64];omega
  have hw3:IntKind.u64.wrap (n3:Int)=(n3:Int):=by rw[IntKind.wrap_u64];omega
  have P1:Hid (∀W,Calls Tryz.prog 111 #[.slice none 0 0,.int .u64 (n1:Int)] W (zck ([]++vp E.length) W)):=Hz (fun W=>by rw[HN1.out];exact zc0 none 0 0 [] E.length W Reads.none_ (by omega) (by have:=HN1.out;omega));have P3:Hid (∀W,Calls Tryz.prog 111 #[.slice none 0 0,.int .u64 (n3:Int)] W (zck ([]++vp V.length) W)):=Hz (fun W=>by rw[HN3.out];exact zc0 none 0 0 [] V.length W Reads.none_ (by omega) (by omega));have V1:=zap (n:=E.length) (by have:=HN1.out;omega);have V3:=zap (n:=V.length) (by omega);clear hn3 hV RE;go_wp2_with fail
  refine RW.out.mono ?_;rintro e w3 ⟨A4,n4,c4,rfl,o4,b3⟩;have hq4:n4<=40000000000:=by have:=o4.len;rw[zaa] at this;have:=HEL.out;omega
  have o3:=o3.later b3;have b03:=New.trans b02 b3;have hz3:=b03.size;clear RW b02 b2 b3 b1;go_wp2_with fail
  refine(P1.out _).mono ?_;rintro e w4 ⟨A5,n5,c5,rfl,k5,b4⟩;rw[List.nil_append] at k5;have hq5:n5<=10:=by have:=k5.len;rw[zaa] at this;omega
  have h35:=zf9 (zhw k5 (o3.base_le (Nat.zero_le _)));have h45:=zf9 (zhw k5 (o4.base_le (Nat.zero_le _)));have o3:=o3.later b4;have o4:=o4.later b4;have b04:=New.trans b03 b4;have hz4:=b04.size;have k5:=k5.base_le hz3;clear b4 b03 P1;go_wp2_with fail
  refine(P3.out _).mono ?_;rintro e w5 ⟨A6,n6,c6,rfl,k6,b5⟩;rw[List.nil_append] at k6;have hq6:n6<=10:=by have:=k6.len;rw[zaa] at this;omega
  have o3:=o3.later b5;have o4:=o4.later b5;have k5:=k5.later b5;have b05:=New.trans b04 b5;have hz5:=b05.size;clear b5 b04 P3;go_wp2_with (first
   |(refine zam elB rfl (.tmp 36) (.tmp 40) rfl (W:=w) (B:=w.heap.size) k5 k6.reads rfl rfl b05 (Nat.le_refl _) (by omega) (by omega) (by simp only[maxLen];omega) ?_
     intro A7 c7 w7 _ _ o7 g7 b7 d7;have h37:=zk4 h35 d7 o3;have h47:=zk4 h45 d7 o4;have p3:=o3.kept g7 h35;have p4:=o4.kept g7 h45;have hz7:=b7.size;clear k5 k6 o3 o4 g7 d7 h35 h45)
   |(refine zam elB rfl (.tmp 42) (.tmp 43) rfl (W:=w) (B:=w.heap.size) o7 p3.reads rfl rfl b7 (Nat.le_refl _) (by omega) (by omega) (by simp only[maxLen];omega) ?_
     intro A8 c8 w8 _ _ o8 g8 b8 d8;have q4:=p4.kept g8 h47;have hz8:=b8.size;clear o7 p3 p4 g8 h37 h47)
   |(refine zam elB rfl (.tmp 45) (.tmp 46) rfl (W:=w) (B:=w.heap.size) o8 q4.reads rfl rfl b8 (Nat.le_refl _) (by omega) (by omega) (by simp only[maxLen];omega) ?_
     intro A9 c9 w9 _ _ o9 _ b9 _))
  go_ret2
  have hM:=HM.out;rw[hM];exact⟨_,_,_,rfl,o9,b9⟩
open Go.RowKit Go.Hm
theorem z7a{t:Int}{l:List zab}{b:List Nat}(h:zl4 t l=some b):b.length<=50000000000:=by
 unfold zl4 at h;split at h
 ·cases h
 ·rename_i V hV
  split at h
  ·rename_i hl
   injection h with h;have p1:=(zox l).len;have e1:=zsv l;have v1:V.length<=4300000000:=by rw[<-(plO_iff.1 hV).2];exact zx2 (plO_iff.1 hV).1
   have el:=zs5 (zo5 hl) (by omega);have a:=zap (n:=(zh9 l).1.length) (by omega);have b:=zap (n:=V.length) (by omega);rw[<-h];simp only[List.length_append];omega
  ·cases h
theorem qcd{t:Int}{l:List zab}{b:List Nat}(hd:∀c∈l,zaq c)(h:zl4 t l=some b):∀x∈b,x<256:=by
 unfold zl4 at h;split at h
 ·cases h
 ·rename_i V hV
  split at h
  ·rename_i hl
   injection h with h;intro x hx;rw[<-h] at hx;simp only[List.mem_append] at hx;rcases hx with((hx|hx)|hx)|hx
   ·exact ze9 _ _ (Nat.le_refl _) x hx
   ·exact ze9 _ _ (Nat.le_refl _) x hx
   ·rw[<-(plO_iff.1 hV).2] at hx
    unfold plB at hx;split at hx
    ·exact zg0 _ _ x hx
    ·obtain⟨c,hc,hx⟩:=List.mem_flatMap.1 hx
     have hcd:=hd c ((zsu l c).1 hc);unfold plE at hx;split at hx
     ·exact zg0 _ _ x hx
     ·split at hx
      ·rcases List.mem_append.1 hx with k|k
       ·exact ze9 _ _ (Nat.le_refl _) x k
       ·exact hcd.1.2 x k
      ·split at hx
       ·rcases List.mem_append.1 hx with k|k
        ·exact ze9 _ _ (Nat.le_refl _) x k
        ·exact ze9 _ _ (Nat.le_refl _) x k
       ·simp at hx
   ·exact zu0 (zo5 hl) x hx
  ·cases h
open Go.RowKit Go.Hm
def qae(x:Int):zab:=(false,x,[],0,0)
theorem ztc{t e:Int}(h:fitsV t e=true):(0<=e/\e<=4)/\0<=t/\t<=3:=by unfold fitsV at h;rw[decide_eq_true_eq] at h;omega
def zhz(l:List zab):List Nat:=l.map fun c=>zig c.2.1
def zit(l:List zab):List Int:=l.map fun c=>c.2.1
def zh5(l:List zab):List (List Nat):=l.map fun c=>c.2.2.1
def xsV(l:List zab):List Int:=l.map fun c=>c.2.2.2.1
def ysV(l:List zab):List Int:=l.map fun c=>c.2.2.2.2
def zqf(a:Int):List Int->List Int
 | []=>[]
 |x::l=>(x-a)::zqf x l
theorem ztd:∀(l:List Int) (a:Int),(zqf a l).length=l.length
 | [],_=>rfl
 |x::l,a=>by rw[zqf,List.length_cons,List.length_cons,ztd l]
theorem zte{l:List Int}:∀{a:Int},(-1048576<=a/\a<=1048576)->(∀x∈l,-1048576<=x/\x<=1048576)-> ∀d∈zqf a l,-2097152<=d/\d<=2097152:=by
 induction l with
 |nil=>intro a _ _ d hd;simp[zqf] at hd
 |cons x l ih=>
  intro a ha h d hd;have hx:=h x (by simp);rw[zqf] at hd;rcases List.mem_cons.1 hd with rfl|hd
  ·omega
  ·exact ih hx (fun y hy=>h y (by simp[hy])) d hd
def encPts(l:List zab):Option (List Nat):=
 match zut (zqf 0 (xsV l)),zut (zqf 0 (ysV l)) with
 |some a,some b=>some (vp a.length++a++b)
 |_,_=>none
theorem zvg:∀(P:List (Int × Int)) (h:Int × Int),(∀p∈P,inBox p.1 p.2=true)->zgb h P=some ((zqf h.1 (P.map (·.1))).zip (zqf h.2 (P.map (·.2))))
 | [],_,_=>rfl
 |p::P,h,hP=>by
  rw[zgb,if_pos (hP p (by simp)),zvg P p (fun q hq=>hP q (by simp[hq]))];rfl
def zfl(t e:Int)(l:List zab):Option (List Nat):=
 if e=0 then plO t l else if e=1 then zl4 t l else if zkx t l=true then
  (if e=2 then some (zz5 (zhz l)) else if e=3 then(if t=3 then encPts l else zut (zit l)) else qek (zh5 l)) else none
theorem qcx{t:Int}{l:List zab}{b:List Nat}(h:zl4 t l=some b):zkx t l=true:=by
 unfold zl4 at h;split at h
 ·cases h
 ·rename_i V hV
  split at h
  ·rename_i hl
   obtain⟨⟨h0,h1,-⟩,h2⟩:=plOk_iff.1 (plO_iff.1 hV).1;exact plOk_iff.2 ⟨⟨h0,h1,hl⟩,fun c hc=>h2 c ((zsu l c).2 hc)⟩
  ·cases h
theorem z70{t e:Int}{l:List zab}{b:List Nat}(h:zfl t e l=some b):zkx t l=true:=by
 unfold zfl at h;split at h
 ·exact(plO_iff.1 h).1
 ·split at h
  ·exact qcx h
  ·split at h
   ·assumption
   ·cases h
structure IsVal(t e:Int)(b:List Nat)(n:Int)(o:Option (List zab)):Prop where
 sound:∀l,o=some l->(l.length:Int)=n/\zfl t e l=some b/\ ∀c∈l,zaq c
 compl:∀l,(∀c∈l,zaq c)->(l.length:Int)=n->zfl t e l=some b->o=some l
theorem IsVal.uniq{t e:Int}{b:List Nat}{n:Int}{o p:Option (List zab)}(h:IsVal t e b n o)(k:IsVal t e b n p):o=p:=by
 cases o with
 |some l=>obtain⟨a,b,c⟩:=h.sound l rfl;exact(k.compl l c a b).symm
 |none=>
  cases p with
  |none=>rfl
  |some l=>obtain⟨a,b,c⟩:=k.sound l rfl;exact h.compl l c a b
theorem zpf{l:List zab}(h:∀c∈l,zaq c):∀x∈zhz l,x<=18446744073709551615:=fun x hx=>by obtain⟨c,hc,rfl⟩:=List.mem_map.1 hx;have:=zov (x:=c.2.1) (h c hc).2;omega
theorem qip{l:List zab}(h:∀c∈l,zae c 3 false=true):(∀x∈zqf 0 (xsV l),zi9 x)/\ ∀y∈zqf 0 (ysV l),zi9 y:=by have a:=zte (l:=xsV l) (a:=0) (by omega) (fun x hx=>by obtain⟨c,hc,rfl⟩:=List.mem_map.1 hx;exact(zoy (h c hc)).1);have b:=zte (l:=ysV l) (a:=0) (by omega) (fun x hx=>by obtain⟨c,hc,rfl⟩:=List.mem_map.1 hx;exact(zoy (h c hc)).2);exact⟨fun x hx=>by have:=a x hx;unfold zi9;omega,fun x hx=>by have:=b x hx;unfold zi9;omega⟩
def zdx(t:Int)(l:List zab):Nat->Int × Nat
 |0=>(-1,0)
 |k+1=>match(if fitsV t (k:Int)=true then zfl t (k:Int) l else none) with
  |some b=>if(zdx t l k).1<0\/b.length<(zdx t l k).2 then((k:Int),b.length) else zdx t l k
  |none=>zdx t l k
def bestV(t:Int)(l:List zab):Int:=(zdx t l 5).1
theorem ztf(t:Int)(l:List zab):∀k,(zdx t l k).1= -1/\(zdx t l k).2=0\/(0<=(zdx t l k).1/\(zdx t l k).1<(k:Int)/\fitsV t (zdx t l k).1=true/\ ∃b,zfl t (zdx t l k).1 l=some b/\b.length=(zdx t l k).2)
 |0=> .inl ⟨rfl,rfl⟩
 |k+1=>by
  have ih:(zdx t l k).1= -1/\(zdx t l k).2=0\/(0<=(zdx t l k).1/\(zdx t l k).1<((k+1:Nat):Int)/\fitsV t (zdx t l k).1=true/\ ∃b,zfl t (zdx t l k).1 l=some b/\b.length=(zdx t l k).2):=by
   rcases ztf t l k with h|⟨h1,h2,h3⟩
   ·exact .inl h
   ·exact .inr ⟨h1,by omega,h3⟩
  rw[zdx];split
  ·rename_i b hb
   split at hb
   ·rename_i hf
    split
    ·exact .inr ⟨by dsimp only;omega,by dsimp only;omega,hf,b,hb,rfl⟩
    ·exact ih
   ·cases hb
  ·exact ih
theorem zjg(t:Int)(l:List zab){k:Nat}(h:0<=(zdx t l k).1):0<=(zdx t l (k+1)).1:=by
 rw[zdx];split
 ·split
  ·dsimp only;omega
  ·exact h
 ·exact h
theorem zvh{t:Int}{l:List zab}(h:zkx t l=true):fitsV t (bestV t l)=true/\ ∃b,zfl t (bestV t l) l=some b:=by
 obtain⟨⟨h0,h1,-⟩,-⟩:=plOk_iff.1 h;have e1:0<=(zdx t l 1).1:=by
  have hv:zfl t ((0:Nat):Int) l=some (plB t l):=by unfold zfl;rw[if_pos (show((0:Nat):Int)=0 from rfl)];exact plO_iff.2 ⟨h,rfl⟩
  have hf:fitsV t ((0:Nat):Int)=true:=by unfold fitsV;rw[decide_eq_true_eq];omega
  rw[zdx,if_pos hf,hv];dsimp only;rw[if_pos (.inl (by rw[zdx];omega))];exact Int.le_refl _
 have e5:=zjg t l (zjg t l (zjg t l (zjg t l e1)));rcases ztf t l 5 with h|⟨_,_,h3,b,h4,_⟩
 ·exact absurd e5 (by rw[h.1];omega)
 ·exact⟨h3,b,h4⟩
end Go.Proofs.Y
namespace Go.Hm
open Go Go.RowKit
theorem Own.str0{w:World}{base:Nat}{e:TypeId}{g n c i:Nat}{l:List (List Nat)}(h:Own w base e (.slice (some ⟨g,0,none⟩) n c) (zqx l))(hi:i<n):
 base<=g/\g<w.heap.size/\w.cell? ⟨g,i,none⟩=some (.string (zad (l.getD i [])))/\w.frozen? ⟨g,i,none⟩=false/\
  ∀y:List Nat,Own (w.setCell ⟨g,i,none⟩ (.string (zad y))) base e (.slice (some ⟨g,0,none⟩) n c) (zqx (l.set i y)):=by
 have hn:=h.len;rw[zn4] at hn;obtain⟨u,h3,h1,h2,h4,h5,h6⟩:=h.at0 hi;rw[z4u l i (by omega)] at h3;injection h3 with h3;subst h3;refine⟨h1,h2,h4,h5,fun y=>?_⟩;have e:zqx (l.set i y)=(zqx l).set i (.string (zad y)):=by simp[zqx]
 rw[e];exact h6 _
theorem z8w{P:List (List Nat)}{n k:Nat}(q:List Nat)(hP:P.length=k)(hk:k<n):(P++List.replicate (n-k) []).set k q=(P++[q])++List.replicate (n-(k+1)) []:=by rw[List.set_append_right _ _ (by omega),hP,Nat.sub_self,show n-k=(n-(k+1))+1 by omega,List.replicate_succ,List.set_cons_zero,List.append_assoc];rfl
end Go.Hm
namespace Go.Proofs.Y
open Go.RowKit Go.Hm
def OptX(o:Option (List Nat))(w:World)(e:Ending)(w':World):Prop:=
 match o with
 |none=>(∃v,e= .returned (.tuple #[v,.bool false]))/\New w w'
 |some l=>∃A n c,e= .returned (.tuple #[.slice A n c,.bool true])/\Go.Hm.Own w' w.heap.size 5 (.slice A n c) (zao .u8 l)/\New w w'
theorem OptB.x{o:Option (List Nat)}{w w':World}{e:Ending}(h:OptB o w e w'):OptX o w e w':=by
 cases o with
 |none=>exact⟨⟨_,h.1⟩,h.2⟩
 |some l=>exact h
theorem OptX.later{o:Option (List Nat)}{w w1 w':World}{e:Ending}(h:OptX o w1 e w')(b:New w w1):OptX o w e w':=by
 cases o with
 |none=>exact⟨h.1,New.trans b h.2⟩
 |some l=>
  obtain⟨A,n,c,h1,h2,h3⟩:=h;exact⟨A,n,c,h1,h2.base_le b.size,New.trans b h3⟩
theorem zjl{w:World}{t:Int}{A:Option Addr}{n c:Nat}{L:List zab}(h:Reads w w.heap.size 5 A n (recs zay L))(hL:∀y∈L,zaq y)(hn:n<=4611686018427387903):
 Calls Tryz.prog 176 #[.int .i64 t,.slice A n c] w (zal (.bool (zkx t L)) w):=by
 have P:=Hz (zk1 (t:=t) (c:=c) h hL hn);have e:(plO t L).isSome=zkx t L:=by unfold plO;cases zkx t L<;> rfl
 rw[<-e];clear h hL e;generalize plO t L=O at*;go_enter Tryz.func176,Tryz.ntmps176
 go_wp2_with fail
 refine P.out.mono ?_;intro e w1 h1;cases O with
 |none=>
  obtain⟨rfl,b1⟩:=h1;go_wp2
  go_ret
  exact⟨rfl,b1⟩
 |some l=>
  obtain⟨A1,n1,c1,rfl,-,b1⟩:=h1;go_wp2
  go_ret
  exact⟨rfl,b1⟩
set_option maxRecDepth 100000 in
theorem zqr{w:World}{t:Int}{A:Option Addr}{n c:Nat}{L:List zab}(h:Reads w w.heap.size 5 A n (recs zay L))(hL:∀y∈L,zaq y)(hn:n<=4611686018):
 Calls Tryz.prog 157 #[.int .i64 t,.slice A n c] w (OptX (zfl t 2 L) w):=by
 obtain rfl:=h.lenCell;have RI:=Hz (zjl (t:=t) (c:=c) h hL (by omega));have hv:zfl t 2 L=if zkx t L=true then some (zz5 (zhz L)) else none:=by unfold zfl;simp
 have hlen:zkx t L=true->L.length<=65536:=fun e=>(plOk_iff.1 e).1.2.2
 obtain⟨X,hX⟩:∃X,X=zfl t 2 L:=⟨_,rfl⟩;rw[<-hX];have HX:=Hz (hX.trans hv);have HR:=Hz h;have HL:=Hz hL;have HW:=Hz (zpf hL);clear hv hX h hL;generalize zkx t L=O at*;go_enter Tryz.func157,Tryz.ntmps157
 go_wp2_with fail
 refine RI.out.mono ?_;rintro e W0 ⟨rfl,b0⟩;clear RI;cases O with
 |false=>
  have hx:X=none:=by rw[HX.out];rfl
  subst hx;go_wp2
  go_ret2
  exact⟨⟨_,rfl⟩,b0⟩
 |true=>
  have hx:=HX.out;rw[if_pos rfl] at hx;replace HX:=Hz hx;clear hx;have hl6:=hlen rfl;clear hlen
  go_wp2_with (refine zb6 elW rfl (.tmp 14) (.tmp 14) rfl (W:=W0) (B:=W0.heap.size) L.length L.length rfl rfl rfl rfl (Nat.le_refl _) (Below.refl _ _) (Nat.le_refl _) rfl (by omega) (by simp only[maxLen];omega) ?_
               intro w1 o1 _ b1 s1)
  go_loopw [18] (fun i wr=>∃k:Nat,k<=L.length/\i= .int .i64 (k:Int)/\Go.Hm.Own wr W0.heap.size 138 (.slice (some ⟨W0.heap.size,0,none⟩) L.length L.length) (zao .u64 (zhz (L.take k)++List.replicate (L.length-k) 0))/\New W0 wr) (fun i _=>L.length-(intOf i).toNat)
  case atStart=>exact⟨0,Nat.zero_le _,rfl,by simpa[zhz,zby,zeb,zqx,zad] using o1,b1⟩
  case round=>
   clear o1 b1 s1;obtain⟨k,hk,rfl,o,b⟩:=hrel;by_cases hlt:k<L.length
   ·obtain⟨ad,rfl,_,d0,d1,d2,d3,d4⟩:=(Reads.later HR.out (New.trans b0 b)).cell5 hlt
    have hd:=HL.out _ (zea (false,0,[],0,0) hlt);have hst:zhz (L.take (k+1))=zhz (L.take k)++zhz [L.getD k (false,0,[],0,0)]:=by rw[zac L k (false,0,[],0,0) hlt];simp[zhz]
    have hll:(zhz (L.take k)).length=k:=by unfold zhz;rw[List.length_map,List.length_take];omega
    have i1:(k:Int)<(L.length:Int):=by omega
    generalize L.getD k (false,0,[],0,0)=x at*;obtain⟨xb,xn,xs,xx,xy⟩:=x;have hst:zhz (L.take (k+1))=zhz (L.take k)++[zig xn]:=hst;dsimp only at d0 d1 d2 d3 d4;have b2:New wr (wr.alloc (.cells #[.bool xb,.int .i64 xn,.string (zad xs),.int .i64 xx,.int .i64 xy] 75)):=(Below.refl _ _).alloc (Nat.le_refl _) _;have B2:=Blk.new wr 75 #[.bool xb,.int .i64 xn,.string (zad xs),.int .i64 xx,.int .i64 xy];have o2:=o.later b2;have b02:=New.trans b b2;obtain⟨p0,p1,p2,p3,p4⟩:=zcq B2;obtain⟨hg0,hgl,hc,hf,hset⟩:=o2.num0 (i:=k) hlt;have hs2:=hset (zig xn);rw[zv3 _ hll hlt,<-hst] at hs2;have HSet:=Hz hs2;have HB2:=Hz (fun q=>b02.setCell (p:=⟨W0.heap.size,k,none⟩) (Nat.le_refl _) q);generalize(zhz (L.take k)++List.replicate (L.length-k) 0).getD k 0=q0 at*;have ZG:=Hz (fun W=>zou xn W hd.2.1 hd.2.2);clear hst hll hset hs2 o b b2 o2 b02 B2 hd;go_wp2_with fail
    refine(ZG.out _).mono ?_;rintro e w5 ⟨rfl,rfl⟩;go_wp2_with fail
    go_roundw
    case rel=>exact⟨k+1,by omega,by go_num,HSet.out,HB2.out _⟩
    case measure=>simp[intOf];omega
   ·obtain rfl:k=L.length:=by omega
    have hS:zhz (L.take L.length)=zhz L:=by rw[List.take_length]
    rw[hS,Nat.sub_self,List.replicate_zero,List.append_nil] at o;clear hS hlt;have b00:=New.trans b0 b;have E:=Hz (z69 (c:=L.length) o.reads (Nat.le_refl _) HW.out hl6);go_wp2_with fail
    refine E.out.mono ?_;rintro e w6 ⟨A6,n6,c6,rfl,o6,b6⟩;go_wp2_with fail
    go_ret2
    rw[HX.out];exact⟨_,_,_,rfl,o6.base_le b00.size,New.trans b00 b6⟩
set_option maxRecDepth 100000 in
theorem zqs{w:World}{A:Option Addr}{n c:Nat}{L:List zab}(h:Reads w w.heap.size 5 A n (recs zay L))(hL:∀y∈L,zaq y)(hn:n<=4611686018):
 Calls Tryz.prog 159 #[.int .i64 0,.slice A n c] w (OptX (zfl 0 3 L) w):=by
 obtain rfl:=h.lenCell;have RI:=Hz (zjl (t:=0) (c:=c) h hL (by omega));have hv:zfl 0 3 L=if zkx 0 L=true then zut (zit L) else none:=by unfold zfl;simp
 obtain⟨X,hX⟩:∃X,X=zfl 0 3 L:=⟨_,rfl⟩;rw[<-hX];have HX:=Hz (hX.trans hv);have HR:=Hz h;have HL:=Hz hL;have HW:Hid (∀x∈zit L,zi9 x):=Hz (fun x hx=>by obtain⟨c,hc,rfl⟩:=List.mem_map.1 hx;exact(hL c hc).2);clear hv hX h hL;generalize zkx 0 L=O at*;go_enter Tryz.func159,Tryz.ntmps159
 go_wp2_with fail
 refine RI.out.mono ?_;rintro e W0 ⟨rfl,b0⟩;clear RI;cases O with
 |false=>
  have hx:X=none:=by rw[HX.out];rfl
  subst hx;go_wp2
  go_ret2
  exact⟨⟨_,rfl⟩,b0⟩
 |true=>
  have hx:=HX.out;rw[if_pos rfl] at hx;replace HX:=Hz hx;clear hx
  go_wp2_with (refine zb6 elI rfl (.tmp 20) (.tmp 20) rfl (W:=W0) (B:=W0.heap.size) L.length L.length rfl rfl rfl rfl (Nat.le_refl _) (Below.refl _ _) (Nat.le_refl _) rfl (by omega) (by simp only[maxLen];omega) ?_
               intro w1 o1 _ b1 s1)
  go_loopw [24] (fun i wr=>∃k:Nat,k<=L.length/\i= .int .i64 (k:Int)/\Go.Hm.Own wr W0.heap.size 3 (.slice (some ⟨W0.heap.size,0,none⟩) L.length L.length) (za0 .i64 (zit (L.take k)++List.replicate (L.length-k) 0))/\New W0 wr) (fun i _=>L.length-(intOf i).toNat)
  case atStart=>exact⟨0,Nat.zero_le _,rfl,by simpa[zit,zby,zeb,zqx,zad] using o1,b1⟩
  case round=>
   clear o1 b1 s1;obtain⟨k,hk,rfl,o,b⟩:=hrel;by_cases hlt:k<L.length
   ·obtain⟨ad,rfl,_,d0,d1,d2,d3,d4⟩:=(Reads.later HR.out (New.trans b0 b)).cell5 hlt
    have hd:=HL.out _ (zea (false,0,[],0,0) hlt);have hst:zit (L.take (k+1))=zit (L.take k)++zit [L.getD k (false,0,[],0,0)]:=by rw[zac L k (false,0,[],0,0) hlt];simp[zit]
    have hll:(zit (L.take k)).length=k:=by unfold zit;rw[List.length_map,List.length_take];omega
    have i1:(k:Int)<(L.length:Int):=by omega
    generalize L.getD k (false,0,[],0,0)=x at*;obtain⟨xb,xn,xs,xx,xy⟩:=x;have hst:zit (L.take (k+1))=zit (L.take k)++[xn]:=hst;dsimp only at d0 d1 d2 d3 d4;have b2:New wr (wr.alloc (.cells #[.bool xb,.int .i64 xn,.string (zad xs),.int .i64 xx,.int .i64 xy] 75)):=(Below.refl _ _).alloc (Nat.le_refl _) _;have B2:=Blk.new wr 75 #[.bool xb,.int .i64 xn,.string (zad xs),.int .i64 xx,.int .i64 xy];have o2:=o.later b2;have b02:=New.trans b b2;obtain⟨p0,p1,p2,p3,p4⟩:=zcq B2;obtain⟨hg0,hgl,hc,hf,hset⟩:=o2.int0 (i:=k) hlt;have hs2:=hset (xn);rw[zlp _ hll hlt,<-hst] at hs2;have HSet:=Hz hs2;have HB2:=Hz (fun q=>b02.setCell (p:=⟨W0.heap.size,k,none⟩) (Nat.le_refl _) q);generalize(zit (L.take k)++List.replicate (L.length-k) 0).getD k 0=q0 at*;clear hst hll hset hs2 o b b2 o2 b02 B2 hd;go_wp2_with fail
    go_roundw
    case rel=>exact⟨k+1,by omega,by go_num,HSet.out,HB2.out _⟩
    case measure=>simp[intOf];omega
   ·obtain rfl:k=L.length:=by omega
    have hS:zit (L.take L.length)=zit L:=by rw[List.take_length]
    rw[hS,Nat.sub_self,List.replicate_zero,List.append_nil] at o;clear hS hlt;have b00:=New.trans b0 b;have E:=Hz (ziz (c:=L.length) o.reads HW.out (by omega));go_wp2_with fail
    refine E.out.mono ?_;intro e w6 h6;have h6:=OptX.later (OptB.x h6) b00;rw[<-HX.out] at h6;cases X with
    |none=>
     obtain⟨⟨v,rfl⟩,b6⟩:=h6;go_wp2_with fail
     go_ret2
     exact⟨⟨_,rfl⟩,b6⟩
    |some d=>
     obtain⟨A6,n6,c6,rfl,o6,b6⟩:=h6;go_wp2_with fail
     go_ret2
     exact⟨_,_,_,rfl,o6,b6⟩
set_option maxRecDepth 100000 in
theorem zpw{w:World}{t:Int}{A:Option Addr}{n c:Nat}{L:List zab}(h:Reads w w.heap.size 5 A n (recs zay L))(hL:∀y∈L,zaq y)(hn:n<=4611686018):
 Calls Tryz.prog 161 #[.int .i64 t,.slice A n c] w (OptX (zfl t 4 L) w):=by
 obtain rfl:=h.lenCell;have RI:=Hz (fun(W:World) (hW:New w W)=>zjl (t:=t) (c:=c) (Reads.later h hW) hL (by omega));have hv:zfl t 4 L=if zkx t L=true then qek (zh5 L) else none:=by unfold zfl;simp
 obtain⟨X,hX⟩:∃X,X=zfl t 4 L:=⟨_,rfl⟩;rw[<-hX];have HX:=Hz (hX.trans hv);have HR:=Hz h;have HL:=Hz hL;have HW:Hid (∀s∈zh5 L,(∀x∈s,x<256)/\s.length<=140737488351232):=Hz (fun x hx=>by obtain⟨c,hc,rfl⟩:=List.mem_map.1 hx;exact⟨(hL c hc).1.2,(hL c hc).1.1⟩);clear hv hX h hL;generalize zkx t L=O at*;have b0:New w w:=New.refl w;go_enter Tryz.func161,Tryz.ntmps161
 go_wp2_with (refine zb6 elS rfl (.tmp 12) (.tmp 12) rfl (W:=w) (B:=w.heap.size) L.length L.length rfl rfl rfl rfl (Nat.le_refl _) (Below.refl _ _) (Nat.le_refl _) rfl (by omega) (by simp only[maxLen];omega) ?_
              intro w1 o1 _ b1 s1)
 go_loopw [16] (fun i wr=>∃k:Nat,k<=L.length/\i= .int .i64 (k:Int)/\Go.Hm.Own wr w.heap.size 9 (.slice (some ⟨w.heap.size,0,none⟩) L.length L.length) (zqx (zh5 (L.take k)++List.replicate (L.length-k) []))/\New w wr) (fun i _=>L.length-(intOf i).toNat)
 case atStart=>exact⟨0,Nat.zero_le _,rfl,by simpa[zh5,zby,zeb,zqx,zad] using o1,b1⟩
 case round=>
  clear o1 b1 s1;obtain⟨k,hk,rfl,o,b⟩:=hrel;by_cases hlt:k<L.length
  ·obtain⟨ad,rfl,_,d0,d1,d2,d3,d4⟩:=(Reads.later HR.out (New.trans b0 b)).cell5 hlt
   have hd:=HL.out _ (zea (false,0,[],0,0) hlt);have hst:zh5 (L.take (k+1))=zh5 (L.take k)++zh5 [L.getD k (false,0,[],0,0)]:=by rw[zac L k (false,0,[],0,0) hlt];simp[zh5]
   have hll:(zh5 (L.take k)).length=k:=by unfold zh5;rw[List.length_map,List.length_take];omega
   have i1:(k:Int)<(L.length:Int):=by omega
   generalize L.getD k (false,0,[],0,0)=x at*;obtain⟨xb,xn,xs,xx,xy⟩:=x;have hst:zh5 (L.take (k+1))=zh5 (L.take k)++[xs]:=hst;dsimp only at d0 d1 d2 d3 d4;have b2:New wr (wr.alloc (.cells #[.bool xb,.int .i64 xn,.string (zad xs),.int .i64 xx,.int .i64 xy] 75)):=(Below.refl _ _).alloc (Nat.le_refl _) _;have B2:=Blk.new wr 75 #[.bool xb,.int .i64 xn,.string (zad xs),.int .i64 xx,.int .i64 xy];have o2:=o.later b2;have b02:=New.trans b b2;obtain⟨p0,p1,p2,p3,p4⟩:=zcq B2;obtain⟨hg0,hgl,hc,hf,hset⟩:=o2.str0 (i:=k) hlt;have hs2:=hset (xs);rw[z8w _ hll hlt,<-hst] at hs2;have HSet:=Hz hs2;have HB2:=Hz (fun q=>b02.setCell (p:=⟨w.heap.size,k,none⟩) (Nat.le_refl _) q);generalize(zh5 (L.take k)++List.replicate (L.length-k) []).getD k []=q0 at*;clear hst hll hset hs2 o b b2 o2 b02 B2 hd;go_wp2_with fail
   go_roundw
   case rel=>exact⟨k+1,by omega,by go_num,HSet.out,HB2.out _⟩
   case measure=>simp[intOf];omega
  ·obtain rfl:k=L.length:=by omega
   have hS:zh5 (L.take L.length)=zh5 L:=by rw[List.take_length]
   rw[hS,Nat.sub_self,List.replicate_zero,List.append_nil] at o;clear hS hlt;have b00:=New.trans b0 b;have E:=Hz (qdf (c:=L.length) o.reads (fun s hs=>(HW.out s hs).1) (fun s hs=>(HW.out s hs).2) (by omega));go_wp2_with fail
   refine E.out.mono ?_;intro e w6 h6;generalize qek (zh5 L)=E6 at*;cases E6 with
   |none=>
    have hx:X=none:=by rw[HX.out];cases O<;> rfl
    subst hx;obtain⟨rfl,b6⟩:=h6;go_wp2_with fail
    go_ret2
    exact⟨⟨_,rfl⟩,New.trans b00 b6⟩
   |some d=>
    obtain⟨A6,n6,c6,rfl,o6,b6⟩:=h6;have b06:=New.trans b00 b6;have RW:=Hz (RI.out _ b06);have o6:=o6.base_le (b':=w.heap.size) b00.size;clear b6 E RI;go_wp2_with fail
    refine RW.out.mono ?_;rintro e w7 ⟨rfl,b7⟩;have o7:=o6.later b7;cases O with
    |false=>
     have hx:X=none:=by rw[HX.out];rfl
     subst hx;go_wp2_with fail
     go_ret2
     exact⟨⟨_,rfl⟩,New.trans b06 b7⟩
    |true=>
     have hx:X=some d:=by rw[HX.out];rfl
     subst hx;go_wp2_with fail
     go_ret2
     exact⟨_,_,_,rfl,o7,New.trans b06 b7⟩
end Go.Proofs.Y
