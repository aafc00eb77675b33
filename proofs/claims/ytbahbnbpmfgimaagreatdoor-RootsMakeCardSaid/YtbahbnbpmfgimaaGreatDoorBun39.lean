import Derived.Test.YtbahbnbpmfgimaaGreatDoorBun25
import Derived.Test.YtbahbnbpmfgimaaGreatDoorBun26
import Derived.Test.YtbahbnbpmfgimaaGreatDoorBun38
set_option maxHeartbeats 4000000
set_option maxRecDepth 100000
namespace Go.Proofs.Y
open Go.RowKit Go.Hm
theorem zlh{c:zab}(h:CellFine c):zat c:=⟨h.1,h.2.1⟩
theorem zye{t:Int}{l:List zab}(h:zk9 t l=true):(plB t l).length<=4300000000:=by
 obtain⟨⟨_,_,h1⟩,h2⟩:=plOk_iff.1 h;unfold plB;split
 ·rw[zbe];omega
 ·have:=zti l h2 (fun c hc=>zji (h2 c hc))
  omega
theorem zyf{w:World}{A:Option Addr}{n c:Nat}{t:Int}{L:List zab}(h:Reads w w.heap.size 5 A n (recs za4 L))(hL:∀y∈L,CellFine y)(hn:n<=65536):
 Calls Tryz.prog 155 #[.int .i64 t,.slice A n c] w (OptB (zmi t L) w):=by
 obtain rfl:=h.lenCell;have C:=qrf (zx6 (c:=c) h hL (by omega));have hED:∀y∈(zin L).1,zat y:=fun y hy=>zlh (hL y ((zte L y).1 hy))
 have hle:=ztf L;have hw:=zpi (l:=L) hn;have hel:=ztm hw (by have:=(zpa L).len;omega);have hpl:=(zpa L).len;obtain⟨M,hM⟩:∃M,M=zmi t L:=⟨_,rfl⟩;rw[<-hM];unfold zmi at hM;simp only[hn,if_true] at hM;unfold z7b at C;generalize(zin L).1=E at*;generalize(zin L).2=P at*;have hvl:∀V,plO t E=some V->V.length<=4300000000:=fun V hV=>by obtain⟨a,b⟩:=plO_iff.1 hV;rw[<-b];exact zye a
 have HM:=qrf hM;have HED:=qrf hED;have HW:=qrf hw;have HPL:=qrf hpl;have HVL:=qrf hvl;have HEL:Hid ((z0p P).length<=40000000000):=qrf (by rw[hpl] at hel;omega);clear hM hED hw h hL hvl hel hpl;go_enter Tryz.func155,Tryz.ntmps155
 go_wp2_with fail
 refine C.out.mono ?_;rintro e w1 ⟨A1,n1,c1,A2,c2,rfl,o1,o2,b1⟩;have hn1:n1=E.length:=(qrt o1).lenCell;have hz1:=b1.size;have PE:=zld (t:=t) (c:=c1) (qrt o1) HED.out (by omega);have RE:=qrf (fun(W:World) (hW:New w1 W)=>z7v (c:=c2) (o2.later hW).reads o2.cap.1 HW.out (by omega));have hq1:n1<=65536:=by omega
 have HN1:=qrf hn1;generalize plO t E=O at*;have PE:=qrf PE;clear C hle o1 hn1 o2;go_wp2_with fail
 refine PE.out.mono ?_;intro e w2 h2;cases O with
 |none=>
  obtain⟨rfl,b2⟩:=h2;go_wp2_with fail
  go_ret2
  have hM:=HM.out;rw[hM];exact⟨rfl,qr0 b1 b2⟩
 |some V=>
  obtain⟨A3,n3,c3,rfl,o3,b2⟩:=h2;have hn3:n3=V.length:=by have:=o3.len;rwa[zaa] at this
  have hV:=HVL.out V rfl;have RW:=qrf (RE.out w2 b2);have b02:=qr0 b1 b2;have hz2:=b02.size;have HN3:=qrf hn3;have hq3:n3<=4300000000:=by omega
  have hw1:IntKind.u64.wrap (n1:Int)=(n1:Int):=by rw[qrj];omega
  have hw3:IntKind.u64.wrap (n3:Int)=(n3:Int):=by rw[qrj];omega
  have P1:Hid (∀W,Calls Tryz.prog 111 #[.slice none 0 0,.int .u64 (n1:Int)] W (zcb ([]++vp E.length) W)):=qrf (fun W=>by rw[HN1.out];exact zc9 none 0 0 [] E.length W qrs (by omega) (by have:=HN1.out;omega));have P3:Hid (∀W,Calls Tryz.prog 111 #[.slice none 0 0,.int .u64 (n3:Int)] W (zcb ([]++vp V.length) W)):=qrf (fun W=>by rw[HN3.out];exact zc9 none 0 0 [] V.length W qrs (by omega) (by omega));have V1:=zas (n:=E.length) (by have:=HN1.out;omega);have V3:=zas (n:=V.length) (by omega);clear hn3 hV RE;go_wp2_with fail
  refine RW.out.mono ?_;rintro e w3 ⟨A4,n4,c4,rfl,o4,b3⟩;have hq4:n4<=40000000000:=by have:=o4.len;rw[zaa] at this;have:=HEL.out;omega
  have o3:=o3.later b3;have b03:=qr0 b02 b3;have hz3:=b03.size;clear RW b02 b2 b3 b1;go_wp2_with fail
  refine(P1.out _).mono ?_;rintro e w4 ⟨A5,n5,c5,rfl,k5,b4⟩;rw[qmx] at k5;have hq5:n5<=10:=by have:=k5.len;rw[zaa] at this;omega
  have h35:=zgj (zh6 k5 (o3.base_le (ql7 _)));have h45:=zgj (zh6 k5 (o4.base_le (ql7 _)));have o3:=o3.later b4;have o4:=o4.later b4;have b04:=qr0 b03 b4;have hz4:=b04.size;have k5:=k5.base_le hz3;clear b4 b03 P1;go_wp2_with fail
  refine(P3.out _).mono ?_;rintro e w5 ⟨A6,n6,c6,rfl,k6,b5⟩;rw[qmx] at k6;have hq6:n6<=10:=by have:=k6.len;rw[zaa] at this;omega
  have o3:=o3.later b5;have o4:=o4.later b5;have k5:=k5.later b5;have b05:=qr0 b04 b5;have hz5:=b05.size;clear b5 b04 P3;go_wp2_with (first
   |(refine zal elB rfl (.tmp 36) (.tmp 40) rfl (W:=w) (B:=w.heap.size) k5 k6.reads rfl rfl b05 (ql6 _) (by omega) (by omega) (by simp only[maxLen];omega) ?_
     intro A7 c7 w7 _ _ o7 g7 b7 d7;have h37:=zlg h35 d7 o3;have h47:=zlg h45 d7 o4;have p3:=o3.kept g7 h35;have p4:=o4.kept g7 h45;have hz7:=b7.size;clear k5 k6 o3 o4 g7 d7 h35 h45)
   |(refine zal elB rfl (.tmp 42) (.tmp 43) rfl (W:=w) (B:=w.heap.size) o7 p3.reads rfl rfl b7 (ql6 _) (by omega) (by omega) (by simp only[maxLen];omega) ?_
     intro A8 c8 w8 _ _ o8 g8 b8 d8;have q4:=p4.kept g8 h47;have hz8:=b8.size;clear o7 p3 p4 g8 h37 h47)
   |(refine zal elB rfl (.tmp 45) (.tmp 46) rfl (W:=w) (B:=w.heap.size) o8 q4.reads rfl rfl b8 (ql6 _) (by omega) (by omega) (by simp only[maxLen];omega) ?_
     intro A9 c9 w9 _ _ o9 _ b9 _))
  go_ret2
  have hM:=HM.out;rw[hM];exact⟨_,_,_,rfl,o9,b9⟩
theorem z7w{t:Int}{l:List zab}{b:List Nat}(h:zmi t l=some b):b.length<=50000000000:=by
 unfold zmi at h;split at h
 ·cases h
 ·rename_i V hV
  split at h
  ·rename_i hl
   injection h with h;have p1:=(zpa l).len;have e1:=ztf l;have v1:V.length<=4300000000:=by rw[<-(plO_iff.1 hV).2];exact zye (plO_iff.1 hV).1
   have el:=ztm (zpi hl) (by omega);have a:=zas (n:=(zin l).1.length) (by omega);have b:=zas (n:=V.length) (by omega);rw[<-h];simp only[qmv];omega
  ·cases h
theorem qcz{t:Int}{l:List zab}{b:List Nat}(hd:∀c∈l,zat c)(h:zmi t l=some b):∀x∈b,x<256:=by
 unfold zmi at h;split at h
 ·cases h
 ·rename_i V hV
  split at h
  ·rename_i hl
   injection h with h;intro x hx;rw[<-h] at hx;simp only[qnd] at hx;rcases hx with((hx|hx)|hx)|hx
   ·exact zfn _ _ (ql6 _) x hx
   ·exact zfn _ _ (ql6 _) x hx
   ·rw[<-(plO_iff.1 hV).2] at hx
    unfold plB at hx;split at hx
    ·exact zgf _ _ x hx
    ·obtain⟨c,hc,hx⟩:=qov.1 hx
     have hcd:=hd c ((zte l c).1 hc);unfold plE at hx;split at hx
     ·exact zgf _ _ x hx
     ·split at hx
      ·rcases qnd.1 hx with k|k
       ·exact zfn _ _ (ql6 _) x k
       ·exact hcd.1.2 x k
      ·split at hx
       ·rcases qnd.1 hx with k|k
        ·exact zfn _ _ (ql6 _) x k
        ·exact zfn _ _ (ql6 _) x k
       ·simp at hx
   ·exact zvi (zpi hl) x hx
  ·cases h
def qat(x:Int):zab:=(false,x,[],0,0)
theorem ztt{t e:Int}(h:fitsV t e=true):(0<=e/\e<=4)/\0<=t/\t<=3:=by unfold fitsV at h;rw[decide_eq_true_eq] at h;omega
def zh9(l:List zab):List Nat:=l.map fun c=>zig c.2.1
def zi0(l:List zab):List Int:=l.map fun c=>c.2.1
def zii(l:List zab):List (List Nat):=l.map fun c=>c.2.2.1
def xsV(l:List zab):List Int:=l.map fun c=>c.2.2.2.1
def ysV(l:List zab):List Int:=l.map fun c=>c.2.2.2.2
def zqs(a:Int):List Int->List Int
 | []=>[]
 |x::l=>(x-a)::zqs x l
theorem ztu:∀(l:List Int) (a:Int),(zqs a l).length=l.length
 | [],_=>rfl
 |x::l,a=>by rw[zqs,qm9,qm9,ztu l]
theorem ztv{l:List Int}:∀{a:Int},(-1048576<=a/\a<=1048576)->(∀x∈l,-1048576<=x/\x<=1048576)-> ∀d∈zqs a l,-2097152<=d/\d<=2097152:=by
 induction l with
 |nil=>intro a _ _ d hd;simp[zqs] at hd
 |cons x l ih=>
  intro a ha h d hd;have hx:=h x (by simp);rw[zqs] at hd;rcases qnu.1 hd with rfl|hd
  ·omega
  ·exact ih hx (fun y hy=>h y (by simp[hy])) d hd
def encPts(l:List zab):Option (List Nat):=
 match zvb (zqs 0 (xsV l)),zvb (zqs 0 (ysV l)) with
 |some a,some b=>some (vp a.length++a++b)
 |_,_=>none
theorem zvy:∀(P:List (Int × Int)) (h:Int × Int),(∀p∈P,inBox p.1 p.2=true)->zgl h P=some ((zqs h.1 (P.map (·.1))).zip (zqs h.2 (P.map (·.2))))
 | [],_,_=>rfl
 |p::P,h,hP=>by
  rw[zgl,if_pos (hP p (by simp)),zvy P p (fun q hq=>hP q (by simp[hq]))];rfl
def zf1(t e:Int)(l:List zab):Option (List Nat):=
 if e=0 then plO t l else if e=1 then zmi t l else if zk9 t l=true then
  (if e=2 then some (z0p (zh9 l)) else if e=3 then(if t=3 then encPts l else zvb (zi0 l)) else qe8 (zii l)) else none
theorem qdj{t:Int}{l:List zab}{b:List Nat}(h:zmi t l=some b):zk9 t l=true:=by
 unfold zmi at h;split at h
 ·cases h
 ·rename_i V hV
  split at h
  ·rename_i hl
   obtain⟨⟨h0,h1,-⟩,h2⟩:=plOk_iff.1 (plO_iff.1 hV).1;exact plOk_iff.2 ⟨⟨h0,h1,hl⟩,fun c hc=>h2 c ((zte l c).2 hc)⟩
  ·cases h
theorem z8m{t e:Int}{l:List zab}{b:List Nat}(h:zf1 t e l=some b):zk9 t l=true:=by
 unfold zf1 at h;split at h
 ·exact(plO_iff.1 h).1
 ·split at h
  ·exact qdj h
  ·split at h
   ·assumption
   ·cases h
structure IsVal(t e:Int)(b:List Nat)(n:Int)(o:Option (List zab)):Prop where
 sound:∀l,o=some l->(l.length:Int)=n/\zf1 t e l=some b/\ ∀c∈l,zat c
 compl:∀l,(∀c∈l,zat c)->(l.length:Int)=n->zf1 t e l=some b->o=some l
theorem IsVal.uniq{t e:Int}{b:List Nat}{n:Int}{o p:Option (List zab)}(h:IsVal t e b n o)(k:IsVal t e b n p):o=p:=by
 cases o with
 |some l=>obtain⟨a,b,c⟩:=h.sound l rfl;exact(k.compl l c a b).symm
 |none=>
  cases p with
  |none=>rfl
  |some l=>obtain⟨a,b,c⟩:=k.sound l rfl;exact h.compl l c a b
theorem zps{l:List zab}(h:∀c∈l,zat c):∀x∈zh9 l,x<=18446744073709551615:=fun x hx=>by obtain⟨c,hc,rfl⟩:=qly.1 hx;have:=zo8 (x:=c.2.1) (h c hc).2;omega
theorem qjb{l:List zab}(h:∀c∈l,zam c 3 false=true):(∀x∈zqs 0 (xsV l),zjg x)/\ ∀y∈zqs 0 (ysV l),zjg y:=by have a:=ztv (l:=xsV l) (a:=0) (by omega) (fun x hx=>by obtain⟨c,hc,rfl⟩:=qly.1 hx;exact(zpb (h c hc)).1);have b:=ztv (l:=ysV l) (a:=0) (by omega) (fun x hx=>by obtain⟨c,hc,rfl⟩:=qly.1 hx;exact(zpb (h c hc)).2);exact⟨fun x hx=>by have:=a x hx;unfold zjg;omega,fun x hx=>by have:=b x hx;unfold zjg;omega⟩
def zec(t:Int)(l:List zab):Nat->Int × Nat
 |0=>(-1,0)
 |k+1=>match(if fitsV t (k:Int)=true then zf1 t (k:Int) l else none) with
  |some b=>if(zec t l k).1<0\/b.length<(zec t l k).2 then((k:Int),b.length) else zec t l k
  |none=>zec t l k
def bestV(t:Int)(l:List zab):Int:=(zec t l 5).1
theorem ztw(t:Int)(l:List zab):∀k,(zec t l k).1= -1/\(zec t l k).2=0\/(0<=(zec t l k).1/\(zec t l k).1<(k:Int)/\fitsV t (zec t l k).1=true/\ ∃b,zf1 t (zec t l k).1 l=some b/\b.length=(zec t l k).2)
 |0=> .inl ⟨rfl,rfl⟩
 |k+1=>by
  have ih:(zec t l k).1= -1/\(zec t l k).2=0\/(0<=(zec t l k).1/\(zec t l k).1<((k+1:Nat):Int)/\fitsV t (zec t l k).1=true/\ ∃b,zf1 t (zec t l k).1 l=some b/\b.length=(zec t l k).2):=by
   rcases ztw t l k with h|⟨h1,h2,h3⟩
   ·exact .inl h
   ·exact .inr ⟨h1,by omega,h3⟩
  rw[zec];split
  ·rename_i b hb
   split at hb
   ·rename_i hf
    split
    ·exact .inr ⟨by dsimp only;omega,by dsimp only;omega,hf,b,hb,rfl⟩
    ·exact ih
   ·cases hb
  ·exact ih
theorem zjn(t:Int)(l:List zab){k:Nat}(h:0<=(zec t l k).1):0<=(zec t l (k+1)).1:=by
 rw[zec];split
 ·split
  ·dsimp only;omega
  ·exact h
 ·exact h
theorem zvz{t:Int}{l:List zab}(h:zk9 t l=true):fitsV t (bestV t l)=true/\ ∃b,zf1 t (bestV t l) l=some b:=by
 obtain⟨⟨h0,h1,-⟩,-⟩:=plOk_iff.1 h;have e1:0<=(zec t l 1).1:=by
  have hv:zf1 t ((0:Nat):Int) l=some (plB t l):=by unfold zf1;rw[if_pos (show((0:Nat):Int)=0 from rfl)];exact plO_iff.2 ⟨h,rfl⟩
  have hf:fitsV t ((0:Nat):Int)=true:=by unfold fitsV;rw[decide_eq_true_eq];omega
  rw[zec,if_pos hf,hv];dsimp only;rw[if_pos (.inl (by rw[zec];omega))];exact Int.le_refl _
 have e5:=zjn t l (zjn t l (zjn t l (zjn t l e1)));rcases ztw t l 5 with h|⟨_,_,h3,b,h4,_⟩
 ·exact absurd e5 (by rw[h.1];omega)
 ·exact⟨h3,b,h4⟩
end Go.Proofs.Y
namespace Go.Hm
open Go Go.RowKit
theorem Own.str0{w:World}{base:Nat}{e:TypeId}{g n c i:Nat}{l:List (List Nat)}(h:Own w base e (.slice (some ⟨g,0,none⟩) n c) (zre l))(hi:i<n):
 base<=g/\g<w.heap.size/\w.cell? ⟨g,i,none⟩=some (.string (zai (l.getD i [])))/\w.frozen? ⟨g,i,none⟩=false/\
  ∀y:List Nat,Own (w.setCell ⟨g,i,none⟩ (.string (zai y))) base e (.slice (some ⟨g,0,none⟩) n c) (zre (l.set i y)):=by
 have hn:=h.len;rw[zol] at hn;obtain⟨u,h3,h1,h2,h4,h5,h6⟩:=h.at0 hi;rw[z48 l i (by omega)] at h3;injection h3 with h3;subst h3;refine⟨h1,h2,h4,h5,fun y=>?_⟩;have e:zre (l.set i y)=(zre l).set i (.string (zai y)):=by simp[zre]
 rw[e];exact h6 _
theorem z9n{P:List (List Nat)}{n k:Nat}(q:List Nat)(hP:P.length=k)(hk:k<n):(P++List.replicate (n-k) []).set k q=(P++[q])++List.replicate (n-(k+1)) []:=by rw[qn5 _ _ (by omega),hP,qn6,show n-k=(n-(k+1))+1 by omega,qn7,qn8,qmi];rfl
end Go.Hm
namespace Go.Proofs.Y
open Go.RowKit Go.Hm
def OptX(o:Option (List Nat))(w:World)(e:Ending)(w':World):Prop:=
 match o with
 |none=>(∃v,e= .returned (.tuple #[v,.bool false]))/\New w w'
 |some l=>∃A n c,e= .returned (.tuple #[.slice A n c,.bool true])/\Go.Hm.Own w' w.heap.size 5 (.slice A n c) (zah .u8 l)/\New w w'
theorem OptB.x{o:Option (List Nat)}{w w':World}{e:Ending}(h:OptB o w e w'):OptX o w e w':=by
 cases o with
 |none=>exact⟨⟨_,h.1⟩,h.2⟩
 |some l=>exact h
theorem OptX.later{o:Option (List Nat)}{w w1 w':World}{e:Ending}(h:OptX o w1 e w')(b:New w w1):OptX o w e w':=by
 cases o with
 |none=>exact⟨h.1,qr0 b h.2⟩
 |some l=>
  obtain⟨A,n,c,h1,h2,h3⟩:=h;exact⟨A,n,c,h1,h2.base_le b.size,qr0 b h3⟩
theorem zjr{w:World}{t:Int}{A:Option Addr}{n c:Nat}{L:List zab}(h:Reads w w.heap.size 5 A n (recs za4 L))(hL:∀y∈L,zat y)(hn:n<=4611686018427387903):
 Calls Tryz.prog 176 #[.int .i64 t,.slice A n c] w (zak (.bool (zk9 t L)) w):=by
 have P:=qrf (zld (t:=t) (c:=c) h hL hn);have e:(plO t L).isSome=zk9 t L:=by unfold plO;cases zk9 t L<;> rfl
 rw[<-e];clear h hL e;generalize plO t L=O at*;go_enter Tryz.func176,Tryz.ntmps176
 go_wp2_with fail
 refine P.out.mono ?_;intro e w1 h1;cases O with
 |none=>
  obtain⟨rfl,b1⟩:=h1;go_wp2
  go_ret
  exact⟨rfl,b1⟩
 |some l=>
  obtain⟨A1,n1,c1,rfl,-,b1⟩:=h1;go_wp2
  go_ret
  exact⟨rfl,b1⟩
theorem zq8{w:World}{t:Int}{A:Option Addr}{n c:Nat}{L:List zab}(h:Reads w w.heap.size 5 A n (recs za4 L))(hL:∀y∈L,zat y)(hn:n<=4611686018):
 Calls Tryz.prog 157 #[.int .i64 t,.slice A n c] w (OptX (zf1 t 2 L) w):=by
 obtain rfl:=h.lenCell;have RI:=qrf (zjr (t:=t) (c:=c) h hL (by omega));have hv:zf1 t 2 L=if zk9 t L=true then some (z0p (zh9 L)) else none:=by unfold zf1;simp
 have hlen:zk9 t L=true->L.length<=65536:=fun e=>(plOk_iff.1 e).1.2.2
 obtain⟨X,hX⟩:∃X,X=zf1 t 2 L:=⟨_,rfl⟩;rw[<-hX];have HX:=qrf (hX.trans hv);have HR:=qrf h;have HL:=qrf hL;have HW:=qrf (zps hL);clear hv hX h hL;generalize zk9 t L=O at*;go_enter Tryz.func157,Tryz.ntmps157
 go_wp2_with fail
 refine RI.out.mono ?_;rintro e W0 ⟨rfl,b0⟩;clear RI;cases O with
 |false=>
  have hx:X=none:=by rw[HX.out];rfl
  subst hx;go_wp2
  go_ret2
  exact⟨⟨_,rfl⟩,b0⟩
 |true=>
  have hx:=HX.out;rw[if_pos rfl] at hx;replace HX:=qrf hx;clear hx;have hl6:=hlen rfl;clear hlen
  go_wp2_with (refine zci elW rfl (.tmp 14) (.tmp 14) rfl (W:=W0) (B:=W0.heap.size) L.length L.length rfl rfl rfl rfl (ql6 _) (qq8 _ _) (ql6 _) rfl (by omega) (by simp only[maxLen];omega) ?_
               intro w1 o1 _ b1 s1)
  go_loopw [18] (fun i wr=>∃k:Nat,k<=L.length/\i= .int .i64 (k:Int)/\Go.Hm.Own wr W0.heap.size 138 (.slice (some ⟨W0.heap.size,0,none⟩) L.length L.length) (zah .u64 (zh9 (L.take k)++List.replicate (L.length-k) 0))/\New W0 wr) (fun i _=>L.length-(intOf i).toNat)
  case atStart=>exact⟨0,ql7 _,rfl,by simpa[zh9,zb8,zeo,zre,zai] using o1,b1⟩
  case round=>
   clear o1 b1 s1;obtain⟨k,hk,rfl,o,b⟩:=hrel;by_cases hlt:k<L.length
   ·obtain⟨ad,rfl,_,d0,d1,d2,d3,d4⟩:=(qsg HR.out (qr0 b0 b)).cell5 hlt
    have hd:=HL.out _ (zd4 (false,0,[],0,0) hlt);have hst:zh9 (L.take (k+1))=zh9 (L.take k)++zh9 [L.getD k (false,0,[],0,0)]:=by rw[zae L k (false,0,[],0,0) hlt];simp[zh9]
    have hll:(zh9 (L.take k)).length=k:=by unfold zh9;rw[qos,ql2];omega
    have i1:(k:Int)<(L.length:Int):=by omega
    generalize L.getD k (false,0,[],0,0)=x at*;obtain⟨xb,xn,xs,xx,xy⟩:=x;have hst:zh9 (L.take (k+1))=zh9 (L.take k)++[zig xn]:=hst;dsimp only at d0 d1 d2 d3 d4;have b2:New wr (wr.alloc (.cells #[.bool xb,.int .i64 xn,.string (zai xs),.int .i64 xx,.int .i64 xy] 75)):=(qq8 _ _).alloc (ql6 _) _;have B2:=qrv wr 75 #[.bool xb,.int .i64 xn,.string (zai xs),.int .i64 xx,.int .i64 xy];have o2:=o.later b2;have b02:=qr0 b b2;obtain⟨p0,p1,p2,p3,p4⟩:=zc4 B2;obtain⟨hg0,hgl,hc,hf,hset⟩:=o2.num0 (i:=k) hlt;have hs2:=hset (zig xn);rw[zwv _ hll hlt,<-hst] at hs2;have HSet:=qrf hs2;have HB2:=qrf (fun q=>b02.setCell (p:=⟨W0.heap.size,k,none⟩) (ql6 _) q);generalize(zh9 (L.take k)++List.replicate (L.length-k) 0).getD k 0=q0 at*;have ZG:=qrf (fun W=>zo7 xn W hd.2.1 hd.2.2);clear hst hll hset hs2 o b b2 o2 b02 B2 hd;go_wp2_with fail
    refine(ZG.out _).mono ?_;rintro e w5 ⟨rfl,rfl⟩;go_wp2_with fail
    go_roundw
    case rel=>exact⟨k+1,by omega,by go_num,HSet.out,HB2.out _⟩
    case measure=>simp[intOf];omega
   ·obtain rfl:k=L.length:=by omega
    have hS:zh9 (L.take L.length)=zh9 L:=by rw[qp1]
    rw[hS,qn6,qpq,qmg] at o;clear hS hlt;have b00:=qr0 b0 b;have E:=qrf (z7v (c:=L.length) o.reads (ql6 _) HW.out hl6);go_wp2_with fail
    refine E.out.mono ?_;rintro e w6 ⟨A6,n6,c6,rfl,o6,b6⟩;go_wp2_with fail
    go_ret2
    rw[HX.out];exact⟨_,_,_,rfl,o6.base_le b00.size,qr0 b00 b6⟩
theorem zq9{w:World}{A:Option Addr}{n c:Nat}{L:List zab}(h:Reads w w.heap.size 5 A n (recs za4 L))(hL:∀y∈L,zat y)(hn:n<=4611686018):
 Calls Tryz.prog 159 #[.int .i64 0,.slice A n c] w (OptX (zf1 0 3 L) w):=by
 obtain rfl:=h.lenCell;have RI:=qrf (zjr (t:=0) (c:=c) h hL (by omega));have hv:zf1 0 3 L=if zk9 0 L=true then zvb (zi0 L) else none:=by unfold zf1;simp
 obtain⟨X,hX⟩:∃X,X=zf1 0 3 L:=⟨_,rfl⟩;rw[<-hX];have HX:=qrf (hX.trans hv);have HR:=qrf h;have HL:=qrf hL;have HW:Hid (∀x∈zi0 L,zjg x):=qrf (fun x hx=>by obtain⟨c,hc,rfl⟩:=qly.1 hx;exact(hL c hc).2);clear hv hX h hL;generalize zk9 0 L=O at*;go_enter Tryz.func159,Tryz.ntmps159
 go_wp2_with fail
 refine RI.out.mono ?_;rintro e W0 ⟨rfl,b0⟩;clear RI;cases O with
 |false=>
  have hx:X=none:=by rw[HX.out];rfl
  subst hx;go_wp2
  go_ret2
  exact⟨⟨_,rfl⟩,b0⟩
 |true=>
  have hx:=HX.out;rw[if_pos rfl] at hx;replace HX:=qrf hx;clear hx
  go_wp2_with (refine zci elI rfl (.tmp 20) (.tmp 20) rfl (W:=W0) (B:=W0.heap.size) L.length L.length rfl rfl rfl rfl (ql6 _) (qq8 _ _) (ql6 _) rfl (by omega) (by simp only[maxLen];omega) ?_
               intro w1 o1 _ b1 s1)
  go_loopw [24] (fun i wr=>∃k:Nat,k<=L.length/\i= .int .i64 (k:Int)/\Go.Hm.Own wr W0.heap.size 3 (.slice (some ⟨W0.heap.size,0,none⟩) L.length L.length) (zap .i64 (zi0 (L.take k)++List.replicate (L.length-k) 0))/\New W0 wr) (fun i _=>L.length-(intOf i).toNat)
  case atStart=>exact⟨0,ql7 _,rfl,by simpa[zi0,zb8,zeo,zre,zai] using o1,b1⟩
  case round=>
   clear o1 b1 s1;obtain⟨k,hk,rfl,o,b⟩:=hrel;by_cases hlt:k<L.length
   ·obtain⟨ad,rfl,_,d0,d1,d2,d3,d4⟩:=(qsg HR.out (qr0 b0 b)).cell5 hlt
    have hd:=HL.out _ (zd4 (false,0,[],0,0) hlt);have hst:zi0 (L.take (k+1))=zi0 (L.take k)++zi0 [L.getD k (false,0,[],0,0)]:=by rw[zae L k (false,0,[],0,0) hlt];simp[zi0]
    have hll:(zi0 (L.take k)).length=k:=by unfold zi0;rw[qos,ql2];omega
    have i1:(k:Int)<(L.length:Int):=by omega
    generalize L.getD k (false,0,[],0,0)=x at*;obtain⟨xb,xn,xs,xx,xy⟩:=x;have hst:zi0 (L.take (k+1))=zi0 (L.take k)++[xn]:=hst;dsimp only at d0 d1 d2 d3 d4;have b2:New wr (wr.alloc (.cells #[.bool xb,.int .i64 xn,.string (zai xs),.int .i64 xx,.int .i64 xy] 75)):=(qq8 _ _).alloc (ql6 _) _;have B2:=qrv wr 75 #[.bool xb,.int .i64 xn,.string (zai xs),.int .i64 xx,.int .i64 xy];have o2:=o.later b2;have b02:=qr0 b b2;obtain⟨p0,p1,p2,p3,p4⟩:=zc4 B2;obtain⟨hg0,hgl,hc,hf,hset⟩:=o2.int0 (i:=k) hlt;have hs2:=hset (xn);rw[zlz _ hll hlt,<-hst] at hs2;have HSet:=qrf hs2;have HB2:=qrf (fun q=>b02.setCell (p:=⟨W0.heap.size,k,none⟩) (ql6 _) q);generalize(zi0 (L.take k)++List.replicate (L.length-k) 0).getD k 0=q0 at*;clear hst hll hset hs2 o b b2 o2 b02 B2 hd;go_wp2_with fail
    go_roundw
    case rel=>exact⟨k+1,by omega,by go_num,HSet.out,HB2.out _⟩
    case measure=>simp[intOf];omega
   ·obtain rfl:k=L.length:=by omega
    have hS:zi0 (L.take L.length)=zi0 L:=by rw[qp1]
    rw[hS,qn6,qpq,qmg] at o;clear hS hlt;have b00:=qr0 b0 b;have E:=qrf (zi5 (c:=L.length) o.reads HW.out (by omega));go_wp2_with fail
    refine E.out.mono ?_;intro e w6 h6;have h6:=OptX.later (OptB.x h6) b00;rw[<-HX.out] at h6;cases X with
    |none=>
     obtain⟨⟨v,rfl⟩,b6⟩:=h6;go_wp2_with fail
     go_ret2
     exact⟨⟨_,rfl⟩,b6⟩
    |some d=>
     obtain⟨A6,n6,c6,rfl,o6,b6⟩:=h6;go_wp2_with fail
     go_ret2
     exact⟨_,_,_,rfl,o6,b6⟩
theorem zqf{w:World}{t:Int}{A:Option Addr}{n c:Nat}{L:List zab}(h:Reads w w.heap.size 5 A n (recs za4 L))(hL:∀y∈L,zat y)(hn:n<=4611686018):
 Calls Tryz.prog 161 #[.int .i64 t,.slice A n c] w (OptX (zf1 t 4 L) w):=by
 obtain rfl:=h.lenCell;have RI:=qrf (fun(W:World) (hW:New w W)=>zjr (t:=t) (c:=c) (qsg h hW) hL (by omega));have hv:zf1 t 4 L=if zk9 t L=true then qe8 (zii L) else none:=by unfold zf1;simp
 obtain⟨X,hX⟩:∃X,X=zf1 t 4 L:=⟨_,rfl⟩;rw[<-hX];have HX:=qrf (hX.trans hv);have HR:=qrf h;have HL:=qrf hL;have HW:Hid (∀s∈zii L,(∀x∈s,x<256)/\s.length<=140737488351232):=qrf (fun x hx=>by obtain⟨c,hc,rfl⟩:=qly.1 hx;exact⟨(hL c hc).1.2,(hL c hc).1.1⟩);clear hv hX h hL;generalize zk9 t L=O at*;have b0:New w w:=qrz w;go_enter Tryz.func161,Tryz.ntmps161
 go_wp2_with (refine zci elS rfl (.tmp 12) (.tmp 12) rfl (W:=w) (B:=w.heap.size) L.length L.length rfl rfl rfl rfl (ql6 _) (qq8 _ _) (ql6 _) rfl (by omega) (by simp only[maxLen];omega) ?_
              intro w1 o1 _ b1 s1)
 go_loopw [16] (fun i wr=>∃k:Nat,k<=L.length/\i= .int .i64 (k:Int)/\Go.Hm.Own wr w.heap.size 9 (.slice (some ⟨w.heap.size,0,none⟩) L.length L.length) (zre (zii (L.take k)++List.replicate (L.length-k) []))/\New w wr) (fun i _=>L.length-(intOf i).toNat)
 case atStart=>exact⟨0,ql7 _,rfl,by simpa[zii,zb8,zeo,zre,zai] using o1,b1⟩
 case round=>
  clear o1 b1 s1;obtain⟨k,hk,rfl,o,b⟩:=hrel;by_cases hlt:k<L.length
  ·obtain⟨ad,rfl,_,d0,d1,d2,d3,d4⟩:=(qsg HR.out (qr0 b0 b)).cell5 hlt
   have hd:=HL.out _ (zd4 (false,0,[],0,0) hlt);have hst:zii (L.take (k+1))=zii (L.take k)++zii [L.getD k (false,0,[],0,0)]:=by rw[zae L k (false,0,[],0,0) hlt];simp[zii]
   have hll:(zii (L.take k)).length=k:=by unfold zii;rw[qos,ql2];omega
   have i1:(k:Int)<(L.length:Int):=by omega
   generalize L.getD k (false,0,[],0,0)=x at*;obtain⟨xb,xn,xs,xx,xy⟩:=x;have hst:zii (L.take (k+1))=zii (L.take k)++[xs]:=hst;dsimp only at d0 d1 d2 d3 d4;have b2:New wr (wr.alloc (.cells #[.bool xb,.int .i64 xn,.string (zai xs),.int .i64 xx,.int .i64 xy] 75)):=(qq8 _ _).alloc (ql6 _) _;have B2:=qrv wr 75 #[.bool xb,.int .i64 xn,.string (zai xs),.int .i64 xx,.int .i64 xy];have o2:=o.later b2;have b02:=qr0 b b2;obtain⟨p0,p1,p2,p3,p4⟩:=zc4 B2;obtain⟨hg0,hgl,hc,hf,hset⟩:=o2.str0 (i:=k) hlt;have hs2:=hset (xs);rw[z9n _ hll hlt,<-hst] at hs2;have HSet:=qrf hs2;have HB2:=qrf (fun q=>b02.setCell (p:=⟨w.heap.size,k,none⟩) (ql6 _) q);generalize(zii (L.take k)++List.replicate (L.length-k) []).getD k []=q0 at*;clear hst hll hset hs2 o b b2 o2 b02 B2 hd;go_wp2_with fail
   go_roundw
   case rel=>exact⟨k+1,by omega,by go_num,HSet.out,HB2.out _⟩
   case measure=>simp[intOf];omega
  ·obtain rfl:k=L.length:=by omega
   have hS:zii (L.take L.length)=zii L:=by rw[qp1]
   rw[hS,qn6,qpq,qmg] at o;clear hS hlt;have b00:=qr0 b0 b;have E:=qrf (qea (c:=L.length) o.reads (fun s hs=>(HW.out s hs).1) (fun s hs=>(HW.out s hs).2) (by omega));go_wp2_with fail
   refine E.out.mono ?_;intro e w6 h6;generalize qe8 (zii L)=E6 at*;cases E6 with
   |none=>
    have hx:X=none:=by rw[HX.out];cases O<;> rfl
    subst hx;obtain⟨rfl,b6⟩:=h6;go_wp2_with fail
    go_ret2
    exact⟨⟨_,rfl⟩,qr0 b00 b6⟩
   |some d=>
    obtain⟨A6,n6,c6,rfl,o6,b6⟩:=h6;have b06:=qr0 b00 b6;have RW:=qrf (RI.out _ b06);have o6:=o6.base_le (b':=w.heap.size) b00.size;clear b6 E RI;go_wp2_with fail
    refine RW.out.mono ?_;rintro e w7 ⟨rfl,b7⟩;have o7:=o6.later b7;cases O with
    |false=>
     have hx:X=none:=by rw[HX.out];rfl
     subst hx;go_wp2_with fail
     go_ret2
     exact⟨⟨_,rfl⟩,qr0 b06 b7⟩
    |true=>
     have hx:X=some d:=by rw[HX.out];rfl
     subst hx;go_wp2_with fail
     go_ret2
     exact⟨_,_,_,rfl,o7,qr0 b06 b7⟩
end Go.Proofs.Y
