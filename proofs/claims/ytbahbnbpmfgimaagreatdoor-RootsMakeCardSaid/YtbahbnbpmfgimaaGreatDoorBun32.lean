import Derived.Test.YtbahbnbpmfgimaaGreatDoorBun29
import Derived.Test.YtbahbnbpmfgimaaGreatDoorBun30
import Derived.Test.YtbahbnbpmfgimaaGreatDoorBun31
set_option maxHeartbeats 2000000
set_option maxRecDepth 100000
namespace Go.Proofs.Y
open Go Go.RowKit Go.Hm
def zbx:List Nat:=[112,97,103,101]
def zcc:List Nat:=[99,104,117,110,107]
def zbv:List Nat:=[103,114,111,117,112]
def zdv:List Nat:=[102,105,108,101]
def lvD(s:List Nat)(D:List (List Nat)):List (List Nat):=(List.range D.length).map fun(k:Nat)=>zb4 s (leafP (k:Int) (D.length:Int) (D.getD k []))
def lvF(s:List Nat)(D:List (List Nat)):List (List Nat):=(List.range D.length).flatMap fun(k:Nat)=>(za5 s (leafP (k:Int) (D.length:Int) (D.getD k []))).toList
theorem zg5(s:List Nat)(D:List (List Nat)):(lvD s D).length=D.length:=by simp[lvD]
theorem zj8(s:List Nat)(D:List (List Nat)):(lvF s D).length<=D.length:=by
 unfold lvF;have:∀n,((List.range n).flatMap fun(k:Nat)=>(za5 s (leafP (k:Int) (D.length:Int) (D.getD k []))).toList).length<=n:=fun n=>by
  induction n with
  |zero=>simp
  |succ n ih=>
   rw[qpp,qpl,qmv];have:(([n].flatMap fun(k:Nat)=>(za5 s (leafP (k:Int) (D.length:Int) (D.getD k []))).toList)).length<=1:=by simp only[qpe,qpv,qmg];cases za5 s (leafP (n:Int) (D.length:Int) (D.getD n []))<;> simp
   omega
 exact this D.length
def zsy(s:List Nat)(D:List (List Nat))(k:Nat):List (List Nat):=(List.range k).map fun(i:Nat)=>zb4 s (leafP (i:Int) (D.length:Int) (D.getD i []))
def zuu(s:List Nat)(D:List (List Nat))(k:Nat):List (List Nat):=(List.range k).flatMap fun(i:Nat)=>(za5 s (leafP (i:Int) (D.length:Int) (D.getD i []))).toList
theorem zz4(s:List Nat)(D:List (List Nat))(k:Nat):(zsy s D k).length=k:=by simp[zsy]
theorem zuv(s:List Nat)(D:List (List Nat))(k:Nat):zsy s D (k+1)=zsy s D k++[zb4 s (leafP (k:Int) (D.length:Int) (D.getD k []))]:=by unfold zsy;rw[qpp,qpj];rfl
theorem zo1(s:List Nat)(D:List (List Nat))(k:Nat):zuu s D (k+1)=zuu s D k++(za5 s (leafP (k:Int) (D.length:Int) (D.getD k []))).toList:=by unfold zuu;rw[qpp,qpl];simp
theorem zz5(s:List Nat)(D:List (List Nat))(k:Nat):(zuu s D k).length<=k:=by
 induction k with
 |zero=>simp[zuu]
 |succ k ih=>
  rw[zo1,qmv];have:(za5 s (leafP (k:Int) (D.length:Int) (D.getD k []))).toList.length<=1:=by cases za5 s (leafP (k:Int) (D.length:Int) (D.getD k []))<;> simp
  omega
theorem zfm(s:List Nat)(D:List (List Nat)):Digs (lvD s D):=by intro d hd;unfold lvD at hd;obtain⟨k,_,rfl⟩:=qly.1 hd;exact zbu _ _
def ovD(s:List Nat)(D:List (List Nat)):List Nat:=(zel (lvD s D)).1
def ovF(s:List Nat)(D:List (List Nat)):List (List Nat):=lvF s D++(zel (lvD s D)).2
theorem zfy(s:List Nat)(D:List (List Nat)):zim (ovD s D):=zdn _ (zfm s D)
theorem zme(s:List Nat)(D:List (List Nat)):(ovF s D).length<=2*D.length+1:=by have h1:=zj8 s D;have h2:=z6k (zfm s D);have h3:=zg5 s D;unfold ovF;rw[qmv];omega
def zqy(X:List (List (List Nat))):List Nat:=ovD zcc (X.map (ovD zbx))
def zrj(X:List (List (List Nat))):List (List Nat):=X.flatMap (ovF zbx)++ovF zcc (X.map (ovD zbx))
def z4x(C:List (List (List (List Nat)))):List Nat:=ovD zbv (C.map zqy)
def qap(C:List (List (List (List Nat)))):List (List Nat):=C.flatMap zrj++ovF zbv (C.map zqy)
def zqz(own:List Nat)(d:List Nat):List Nat:=zb4 zdv [own,d]
def zjx(own:List Nat)(d:List Nat):List (List Nat):=[zc2 zdv [own,d]]
theorem zz6(X:List (List (List Nat))):zim (zqy X):=zfy _ _
theorem zny(C:List (List (List (List Nat)))):zim (z4x C):=zfy _ _
open Go.RowKit Go.Hm
def Box1(g bl bv:Nat)(A:Option Addr)(n c:Nat)(W:World):Prop:=Blk W bl 27 #[.pointer (some ⟨g,0,none⟩)]/\Blk W bv tS #[.slice A n c]
theorem Box1.keep{g B bo bl bv:Nat}{A:Option Addr}{n c:Nat}{W W':World}(h:Box1 g bl bv A n c W)(k:KeepX B bo W W')(h1:bl≠bo)(h2:bv≠bo):Box1 g bl bv A n c W':=
 ⟨k.2 _ _ _ (by decide) (by decide) (.inl (by decide)) h1 h.1,k.2 _ _ _ (by decide) (by decide) (.inl (by decide)) h2 h.2⟩
theorem KeepX.t{B bo:Nat}{W W':World}(h:KeepX B bo W W'){cs:Array Value}(Bb:Blk W bo tS cs):KeepT tW W W':=
 ⟨h.1,fun b _ hb=>h.2 _ _ _ (by decide) (by decide) (.inl (by decide)) (qrx hb Bb (by decide)) hb⟩
def zz7(P:List (List Nat))(base g:Nat)(V:Value)(F:List (List Nat))(w:World)(e:Ending)(w':World):Prop:=
 ∃v,e= .returned v/\w'.ownsRow w.heap.size tD 32 v P.length (recs zfh P)/\ ∃V',LogOf tL w' base g V' F/\(V'.ownBlock=V.ownBlock\/ ∃h,V'.ownBlock=some h/\w.heap.size<=h)/\Turns (g::zbg V) w w'
theorem DrSt.post{w W:World}{B base g bo:Nat}{V0:Value}{F P:List (List Nat)}(h:DrSt w B base g V0 bo F P W){v:Value}(hv:∀v',Blk W bo tS #[v']->v'=v):zz7 P base g V0 F w (.returned v) W:=by obtain⟨V,v',l,a,t,hb,Bb,o⟩:=h;obtain rfl:=hv v' Bb;exact⟨_,rfl,ze4 o hb.1,V,l,a,t⟩
end Go.Proofs.Y
namespace Go.Hm
open Go Go.RowKit
theorem zuy{w:World}{g n sz:Nat}{e:TypeId}{xs:List Value}(h:Blk w g e xs.toArray)(hl:xs.length=n*sz)(hm:n<=maxLen):w.ownsRow g e sz (.slice (some ⟨g,0,none⟩) n n) n xs:=
 ⟨hl,.inr ⟨g,n,xs.toArray,rfl,ql6 _,h,ql6 _,hm,by simpa using hl,by rw[qm0 (by simp[hl])]⟩⟩
end Go.Hm
namespace Go.Proofs.Y
open Go.RowKit Go.Hm
structure DataF(w:World)(A:Option Addr)(D:List zgp)(T:List Nat):Prop where
 row:Reads w w.heap.size 1 A D.length (recs zgq D)
 far:0<D.length-> ∀ad,A=some ad->ad.block∉T
 at_:∀d∈D,BytIn w d/\(0<d.2.2.length-> ∀ad,d.1=some ad->ad.block∉T)/\d.2.2.length<=d.2.1/\d.2.1<=9223372036854775807/\(∀x∈d.2.2,x<256)/\d.2.2.length<=9000000
theorem DataF.turn{w w':World}{A:Option Addr}{D:List zgp}{T T':List Nat}(h:DataF w A D T)(k:Turns T w w')(hT:∀x,x<w.heap.size->x∉T->x∉T'):DataF w' A D T':=by
 refine⟨zdp h.row k h.far,fun hn ad ha=>?_,fun d hd=>?_⟩
 ·obtain⟨ad',e,hb,_⟩:=h.row.2 hn
  rw[ha] at e;injection e with e;subst e;exact hT _ hb (h.far hn ad ha)
 ·obtain⟨a1,a2,a3,a4,a5,a6⟩:=h.at_ d hd
  refine⟨zdp a1 k a2,fun hn ad ha=>?_,a3,a4,a5,a6⟩;obtain⟨ad',e,hb,_⟩:=a1.2 hn;rw[ha] at e;injection e with e;subst e;exact hT _ hb (a2 hn ad ha)
theorem LogOf.keepB{t u:TypeId}{w w':World}{base g x:Nat}{V:Value}{L:List (List Nat)}{cs:Array Value}(h:LogOf t w base g V L)(B:Blk w x u cs)(h1:t≠u)(h2:24≠u)(h3:5≠u)(k:w.grownBy w' (some x)):LogOf t w' base g V L:=by
 have hx:=h.notT B h1 h2;refine h.turn (T:=[x]) (qsa k (by simp)) (fun hm=>?_) (fun y hy e=>?_) (fun y hy _ cs' hB=>?_)
 ·obtain rfl:=qne.1 hm
  exact hx (by simp)
 ·obtain rfl:=qne.1 hy
  exact hx (qps _ (zz2 e))
 ·obtain rfl:=qne.1 hy
  exact qrx hB B h3 rfl
theorem Turns.behind{w w1 w2:World}{T:List Nat}{x:Nat}(h:Turns T w w1)(k:w1.grownBy w2 (some x))(hx:w.heap.size<=x):Turns T w w2:=
 ⟨k.os.trans h.os,k.tape.trans h.tape,k.output.trans h.output,qlw h.size k.size,fun i hi hT=>(k.block i (qlz hi h.size) (fun e=>by injection e with e;omega)).trans (h.block i hi hT)⟩
def z2m:List Value:=List.replicate 32 (.int .u8 0)
def qkg(w:World)(base g go:Nat)(V:Value)(F:List (List Nat))(s:List Nat)(Dl:List (List Nat))(k:Nat)(W:World):Prop:=
 ∃V',LogOf tL W base g V' (F++zuu s Dl k)/\(V'.ownBlock=V.ownBlock\/ ∃h,V'.ownBlock=some h/\w.heap.size<=h)/\Turns (g::zbg V) w W/\Blk W go tD (recs zfh (zsy s Dl k)++(List.replicate (Dl.length-k) z2m).flatten).toArray
theorem zmf{w:World}{base g:Nat}{V:Value}{F:List (List Nat)}(hL:LogOf tL w base g V F)(hbs:base<=w.heap.size){s:List Nat}{A:Option Addr}{c:Nat}{D:List zgp}(hs8:∀x∈s,x<256)(hs:s.length<=140737488351232)(hD:DataF w A D (g::zbg V))(hF:F.length+D.length<=9000000)(hC:∀w',Turns (g::zbg V) w w'->ConstIn w'):
 Calls Tryz.prog 10 #[.pointer (some ⟨g,0,none⟩),.string (zai s),.slice A D.length c] w (zz7 (lvD s (D.map (·.2.2))) base g V (F++lvF s (D.map (·.2.2))) w):=by
 obtain⟨Dl,hDl⟩:∃Dl,Dl=D.map (·.2.2):=⟨_,rfl⟩;rw[<-hDl];have hdl:Dl.length=D.length:=by rw[hDl,qos]
 have HD:=qrf hD;have HL:=qrf hL;have HC:=qrf hC;have HB:=qrf hbs;have HDl:=qrf hDl;have HSs:=qrf (qok hs8 hs);have hdn:=qrf hdl;clear hD hL hC hbs hDl hs8 hs hdl;go_enter Tryz.func10,Tryz.ntmps10
 go_wp2_with (refine z2k elD (by simp) rfl (.tmp 11) (.tmp 11) rfl D.length rfl rfl rfl rfl (by omega) (by simp only[maxLen];omega) ?_
              intro w1 B1 n1 z1)
 have hdn:=hdn;have S0:qkg w base g w.heap.size V F s Dl 0 w1:=by
  refine⟨V,by simpa[zuu] using HL.out.new n1,.inl rfl,qr9 n1,?_⟩;have e:recs zfh (zsy s Dl 0)++(List.replicate (Dl.length-0) z2m).flatten=(List.replicate D.length (Array.replicate 32 (Value.int .u8 0)).toList).flatten:=by rw[hdn.out];simp[zsy,recs,z2m]
  rw[e];exact B1
 have S0:=qrf S0;have HF:=hF;clear B1 z1 n1;go_wp2_with fail
 go_loopw [15] (fun i wr=>∃k:Nat,k<=D.length/\i= .int .i64 (k:Int)/\Hid (qkg w base g w.heap.size V F s Dl k wr)) (fun i _=>D.length-(intOf i).toNat)
 case atStart=>exact⟨0,ql7 _,rfl,S0⟩
 case round=>
  obtain⟨k,hk,rfl,HS⟩:=hrel;clear S0;by_cases hlt:k<D.length
  ·obtain⟨V1,l1,a1,t1,B1⟩:=HS.out
   have hD1:=HD.out.turn t1 (T':=g::zbg V1) (fun x hx hm=>zmb hm hx a1);obtain⟨ad,rfl,hb,hc⟩:=zz9 hD1.row hlt;obtain⟨p1,p2,p3,p4,p5,p6⟩:=hD1.at_ _ (zd4 (none,0,[]) hlt);have hfl:(F++zuu s Dl k).length<=10000000:=by have:=zz5 s Dl k;rw[qmv];omega
   have hg:Dl.getD k []=(D.getD k (none,0,[])).2.2:=by rw[HDl.out,qnp,qou,qlx hlt,qnp,qlx hlt];rfl
   have LF:=zzy (k:=(k:Int)) (n:=(D.length:Int)) (s:=s) l1 (qlw HB.out t1.size) hfl HSs.out.1 HSs.out.2 p1 p5 p6 p3 p4 (fun w' q=>HC.out w' (zbm t1 a1 q));rw[zgg] at LF;have e1:=zuv s Dl k;have e2:=zo1 s Dl k;rw[hdn.out,hg] at e1 e2;have E1:=qrf e1;have E2:=qrf e2;clear hg;generalize D.getD k (none,0,[])=d at*;obtain⟨da,dc,db⟩:=d;dsimp only at hc LF E1 E2;have hHd:=zbu s (leafP (k:Int) (D.length:Int) db);have hki:(k:Int)<(D.length:Int):=by omega
   generalize zb4 s (leafP (k:Int) (D.length:Int) db)=hd at*;generalize(za5 s (leafP (k:Int) (D.length:Int) db)).toList=fr at*;have LF:=qrf LF;have B1:=qrf B1;have l1:=qrf l1;have t1:=qrf t1;have a1:=qrf a1;have hHd:=qrf hHd;clear hD1 hb p1 p2 p3 p4 p5 p6 hfl e1 e2;go_wp2_with fail
   refine LF.out.mono ?_;rintro e w2 ⟨rfl,V2,l2,a2,t2⟩;have B2:=B1.out.touch t2 (l1.out.notT B1.out (by decide) (by decide));have e4:D.length-k=(D.length-(k+1))+1:=by omega
   rw[hdn.out,e4,qn7,qpw] at B2;have hlA:(recs zfh (zsy s Dl k)).length=k*32:=by rw[zaz (sz:=32) zd9,zz4]
   have hA1:=qrf l1;have B2:=qrf B2;clear LF B1 e4
   go_wp2_with (refine zsz rfl tD (.tmp 29) (.tmp 28) rfl w.heap.size (zah .u8 hd).toArray rfl rfl B2.out hlA (by simp[z2m,zah,hHd.out.1]) (zz0 hHd.out.1) (zoy _) ?_
                intro W3 B3 g3 z3)
   have HSn:qkg w base g w.heap.size V F s Dl (k+1) W3:=by
    refine⟨V2,?_,zdz t1.out.size a1.out a2,Turns.behind (zbm t1.out a1.out t2) g3 (ql6 _),?_⟩
    ·rw[E2.out,<-qmi]
     exact l2.keepB B2.out (by decide) (by decide) (by decide) g3
    ·have e5:recs zfh (zsy s Dl (k+1))++(List.replicate (Dl.length-(k+1)) z2m).flatten=recs zfh (zsy s Dl k)++((zah .u8 hd).toArray.toList++(List.replicate (D.length-(k+1)) z2m).flatten):=by
      rw[E1.out,hdn.out,za7,qmi];congr 2
      show zfh hd++[]=_;rw[qmg,zsw hHd.out.1]
     rw[e5];exact B3
   have HSn:=qrf HSn;clear HS HD HL HC HSs l2 a2 t2 B2 B3 g3 z3 hA1 t1 a1 E1 E2;go_wp2_with fail
   go_roundw
   case rel=>exact⟨k+1,by omega,by go_num,HSn⟩
   case measure=>simp[intOf];omega
  ·obtain rfl:k=D.length:=by omega
   obtain⟨V1,l1,a1,t1,B1⟩:=HS.out;have hlen:(lvD s Dl).length=D.length:=by rw[zg5,hdn.out]
   have e6:zsy s Dl D.length=lvD s Dl:=by unfold zsy lvD;rw[hdn.out]
   have e7:zuu s Dl D.length=lvF s Dl:=by unfold zuu lvF;rw[hdn.out]
   rw[hdn.out,qn6,qpq,qpx,qmg,e6] at B1;rw[e7] at l1;have R:=zuy (n:=(lvD s Dl).length) (sz:=32) B1 (by rw[zaz (sz:=32) zd9]) (by rw[hlen];simp only[maxLen];omega);have R:=qrf R;have HP:=qrf (qok l1 (qok a1 t1));have hlen:=qrf hlen;clear HS HD HL HC HSs B1 l1 a1 t1 e6 e7;go_wp2_with fail
   go_ret
   exact⟨_,rfl,by have:=R.out;rw[hlen.out] at this⊢;exact this,V1,HP.out.1,HP.out.2.1,HP.out.2.2⟩
end Go.Proofs.Y
namespace Go.Hm
open Go Go.RowKit
def szL(l:List zbc):Nat:=(l.map fun p=>p.1.toNat).sum
def szC(C:List (List zbc)):Nat:=(C.map szL).sum
def szG(G:List za9):Nat:=(G.map fun g=>szC g.2).sum
def z3q:List zbc->List Nat->List (List Nat)
 | [],_=>[]
 |p::l,x=>x.take p.1.toNat::z3q l (x.drop p.1.toNat)
def zcm:List (List zbc)->List Nat->List (List (List Nat))
 | [],_=>[]
 |l::C,x=>z3q l x::zcm C (x.drop (szL l))
def zfx:List za9->List Nat->List (List (List (List Nat)))
 | [],_=>[]
 |g::G,x=>zcm g.2 x::zfx G (x.drop (szC g.2))
theorem zlo(p:zbc)(l:List zbc):szL (p::l)=p.1.toNat+szL l:=by simp[szL]
theorem zlp(l:List zbc)(C:List (List zbc)):szC (l::C)=szL l+szC C:=by simp[szC]
theorem zlq(g:za9)(G:List za9):szG (g::G)=szC g.2+szG G:=by simp[szG]
theorem zjp:∀(l:List zbc) (x:List Nat),(z3q l x).length=l.length
 | [],_=>rfl
 |p::l,x=>by simp[z3q,zjp l]
theorem zlr:∀(C:List (List zbc)) (x:List Nat),(zcm C x).length=C.length
 | [],_=>rfl
 |l::C,x=>by simp[zcm,zlr C]
theorem zjq:∀(G:List za9) (x:List Nat),(zfx G x).length=G.length
 | [],_=>rfl
 |g::G,x=>by simp[zfx,zjq G]
theorem zyr:∀(l:List zbc) (x:List Nat) (q:Nat),q<l.length->(z3q l x).getD q []=(x.drop (szL (l.take q))).take (l.getD q zb1).1.toNat
 | [],_,_,h=>by simp at h
 |p::l,x,0,_=>by simp[z3q,szL]
 |p::l,x,q+1,h=>by
  simp only[z3q,qp8,qqb,zlo];rw[zyr l _ q (by simpa using h),qoq]
theorem cutC_at:∀(C:List (List zbc)) (x:List Nat) (j:Nat),j<C.length->(zcm C x).getD j []=z3q (C.getD j []) (x.drop (szC (C.take j)))
 | [],_,_,h=>by simp at h
 |l::C,x,0,_=>by simp[zcm,szC]
 |l::C,x,j+1,h=>by
  simp only[zcm,qp8,qqb,zlp];rw[cutC_at C _ j (by simpa using h),qoq]
theorem zi1:∀(G:List za9) (x:List Nat) (k:Nat),k<G.length->(zfx G x).getD k []=zcm (G.getD k zaq).2 (x.drop (szG (G.take k)))
 | [],_,_,h=>by simp at h
 |g::G,x,0,_=>by simp[zfx,szG]
 |g::G,x,k+1,h=>by
  simp only[zfx,qp8,qqb,zlq];rw[zi1 G _ k (by simpa using h),qoq]
theorem z08{l:List zbc}{q:Nat}(h:q<l.length):szL (l.take (q+1))=szL (l.take q)+(l.getD q zb1).1.toNat:=by rw[zae _ q zb1 h];unfold szL;rw[qpj,qpi];simp
theorem zt2{C:List (List zbc)}{j:Nat}(h:j<C.length):szC (C.take (j+1))=szC (C.take j)+szL (C.getD j []):=by rw[zae _ j [] h];unfold szC;rw[qpj,qpi];simp
theorem zt3{G:List za9}{k:Nat}(h:k<G.length):szG (G.take (k+1))=szG (G.take k)+szC (G.getD k zaq).2:=by rw[zae _ k zaq h];unfold szG;rw[qpj,qpi];simp
theorem qfb(l:List zbc)(q:Nat):szL (l.take q)<=szL l:=by
 have e:szL l=szL (l.take q)+szL (l.drop q):=by unfold szL;rw[<-qpi,<-qpj,qoz]
 omega
theorem qfc(C:List (List zbc))(q:Nat):szC (C.take q)<=szC C:=by
 have e:szC C=szC (C.take q)+szC (C.drop q):=by unfold szC;rw[<-qpi,<-qpj,qoz]
 omega
theorem qfd(G:List za9)(q:Nat):szG (G.take q)<=szG G:=by
 have e:szG G=szG (G.take q)+szG (G.drop q):=by unfold szG;rw[<-qpi,<-qpj,qoz]
 omega
theorem zv9:∀(l:List zbc) (x:List Nat),(z3q l x).flatten=x.take (szL l)
 | [],x=>by simp[z3q,szL]
 |p::l,x=>by
  rw[z3q,qpw,zv9 l,zlo,qqi]
theorem zwa:∀(C:List (List zbc)) (x:List Nat),(zcm C x).flatten.flatten=x.take (szC C)
 | [],x=>by simp[zcm,szC]
 |l::C,x=>by
  rw[zcm,qpw,qpm,zv9,zwa C,zlp,qqi]
theorem zwb:∀(G:List za9) (x:List Nat),(zfx G x).flatten.flatten.flatten=x.take (szG G)
 | [],x=>by simp[zfx,szG]
 |g::G,x=>by
  rw[zfx,qpw,qpm,qpm,zwa,zwb G,zlq,qqi]
theorem zni{α:Type}{p:List α}:∀{L:List (List α)},p∈L->p.length<=L.flatten.length
 | [],h=>by cases h
 |q::L,h=>by
  rw[qpw,qmv];rcases qnu.1 h with rfl|h
  ·omega
  ·have:=zni h
   omega
theorem zn9{G:List za9}{x p:List Nat}(h:p∈(zfx G x).flatten.flatten):(∀y∈p,y∈x)/\p.length<=x.length:=by
 have e:=zwb G x;refine⟨fun y hy=>?_,?_⟩
 ·have:y∈(zfx G x).flatten.flatten.flatten:=qqh.2 ⟨p,h,hy⟩
  rw[e] at this;exact qmu this
 ·have h1:p.length<=(zfx G x).flatten.flatten.flatten.length:=zni h
  rw[e,ql2] at h1;omega
theorem zls:∀(C:List (List zbc)) (x:List Nat),(zcm C x).flatten.length=C.flatten.length
 | [],_=>rfl
 |l::C,x=>by
  rw[zcm,qpw,qmv,zls C,zjp,qpw,qmv]
theorem z8v{l:List zbc}(h:∀p∈l,0<=p.1):(szL l:Int)=zcz l:=by
 induction l with
 |nil=>rfl
 |cons p l ih=>
  have h1:=h p (by simp);have h2:=ih fun q hq=>h q (by simp[hq])
  rw[zlo,zkc];omega
theorem z8w{C:List (List zbc)}(h:∀l∈C,∀p∈l,0<=p.1):(szC C:Int)=(C.map zcz).sum:=by
 induction C with
 |nil=>rfl
 |cons l C ih=>
  have h1:=z8v (h l (by simp));have h2:=ih fun q hq=>h q (by simp[hq])
  rw[zlp,qmp,qpf];omega
theorem zys{G:List za9}(h:∀g∈G,∀l∈g.2,∀p∈l,0<=p.1):(szG G:Int)=(G.map zcq).sum:=by
 induction G with
 |nil=>rfl
 |cons g G ih=>
  have h1:=z8w (h g (by simp));have h2:=ih fun q hq=>h q (by simp[hq])
  rw[zlq,qmp,qpf];unfold zcq;unfold zcq at h2;omega
theorem zlt{F:FootS}(h:zb0 F):∀g∈F.groups,∀l∈g.2,∀p∈l,1<=p.1/\p.1<=268435456/\1<=p.2.1/\p.2.1<=65536:=by intro g hg l hl p hp;obtain⟨h1,h2,h3⟩:=h.2.1 g hg;obtain⟨i,hi,rfl⟩:=qo4 hl;have:=(h3 i (by omega)).1 p (by rw[qnp,qlx hi];exact hp);have:=(pageB_most.1 this).1;omega
end Go.Hm
namespace Go.Proofs.Y
open Go Go.RowKit Go.Hm
theorem z3r{F:FootS}(h:zb0 F){k j q:Nat}(hk:k<F.groups.length)(hj:j<F.cols.length):
 zc8 F.groups k j q=((szG (F.groups.take k)+szC ((F.groups.getD k zaq).2.take j)+szL ((za0 F.groups k j).take q):Nat):Int):=by
 have hp:=zlt h;have hgk:F.groups.getD k zaq∈F.groups:=zax zaq hk;have hlen:=(zc5 h hk).2.1;have h1:=zys (G:=F.groups.take k) (fun g hg l hl p hpp=>by have:=hp g (qmu hg) l hl p hpp;omega);have h2:=z8w (C:=(F.groups.getD k zaq).2.take j) (fun l hl p hpp=>by have:=hp _ hgk l (qmu hl) p hpp;omega);have h3:=z8v (l:=(za0 F.groups k j).take q) (fun p hpp=>by have hm:za0 F.groups k j∈(F.groups.getD k zaq).2:=zax [] (by omega);have:=hp _ hgk _ hm p (qmu hpp);omega)
 unfold zc8 zv5 zr2;omega
theorem z3s{F:FootS}(h:zb0 F):zc8 F.groups F.groups.length 0 0=(szG F.groups:Int):=by have h1:=zys (G:=F.groups) (fun g hg l hl p hpp=>by have:=zlt h g hg l hl p hpp;omega);unfold zc8 zv5 zr2;rw[qp1];simp only[qmw,qmq,List.sum_nil];have:zcz []=0:=rfl;omega
end Go.Proofs.Y
namespace Go.Hm
open Go Go.RowKit
abbrev zmu:=Option Addr × Nat × List zi3
def zwj(d:zmu):List Value:=[.slice d.1 d.2.2.length d.2.1]
def byP(d:zgp):List Nat:=d.2.2
def rwP(r:zi3):List (List Nat):=r.2.2.map byP
def gpP(g:zmu):List (List (List Nat)):=g.2.2.map rwP
def PieceIn(w:World)(d:zgp):Prop:=BytIn w d/\d.2.2.length<=d.2.1/\d.2.1<=9223372036854775807
theorem PieceIn.later{w w':World}{d:zgp}(h:PieceIn w d)(hb:New w w'):PieceIn w' d:=⟨h.1.later hb,h.2⟩
def PieceOf(A:Option Addr)(w:World)(d:zgp):Prop:=PieceIn w d/\ ∀ad,d.1=some ad-> ∃a0,A=some a0/\ad.block=a0.block
theorem PieceOf.later{A:Option Addr}{w w':World}{d:zgp}(h:PieceOf A w d)(hb:New w w'):PieceOf A w' d:=⟨h.1.later hb,h.2⟩
theorem z87{A:Option Addr}{k:Nat}{p:Prop}[Decidable p]:∀ad,(if p then A else A.map (·.add k))=some ad-> ∃a0,A=some a0/\ad.block=a0.block:=by
 intro ad h;split at h
 ·exact⟨ad,h,rfl⟩
 ·cases A with
  |none=>cases h
  |some a0=>
   injection h with h;subst h;exact⟨a0,rfl,zao _ _⟩
theorem zp9{α:Type}{f:α->List Value}(hf:∀x,(f x).length=1)(X:List α)(x:α)(k m:Nat)(h:X.length=k){z v:Value}(hv:f x=[v]):
 (recs f X++List.replicate (m+1) z).toArray.setIfInBounds k v=(recs f (X++[x])++List.replicate m z).toArray:=by
 have h2:(recs f X).length=k:=by rw[zaz (sz:=1) hf];omega
 rw[qoi,qn5 _ _ (by omega),h2,qn6,qn7,qn8,za7,qmi];congr 2
 simp[recs,hv]
theorem zht{α:Type}{f:α->List Value}(hf:∀x,(f x).length=1)(X:List α)(m:Nat)(z:Value):(recs f X++List.replicate m z).toArray.size=X.length+m:=by rw[qmz,qmv,zaz (sz:=1) hf,qom,qmd]
end Go.Hm
namespace Go.Proofs.Y
open Go.RowKit Go.Hm
def RowBAt(W:World)(lo:Nat)(r:zi3):Prop:=∃k,lo<k/\r.1=some ⟨k,0,none⟩/\r.2.1=r.2.2.length/\Blk W k 24 (recs zgq r.2.2).toArray
def RowRAt(W:World)(lo:Nat)(g:zmu):Prop:=∃k,lo<k/\g.1=some ⟨k,0,none⟩/\g.2.1=g.2.2.length/\Blk W k 22 (recs zp7 g.2.2).toArray/\ ∀r∈g.2.2,RowBAt W k r
theorem RowBAt.below{W W':World}{lo B:Nat}{r:zi3}(h:RowBAt W lo r)(hb:Below B W W')(hB:W.heap.size<=B):RowBAt W' lo r:=by obtain⟨k,h1,h2,h3,h4⟩:=h;exact⟨k,h1,h2,h3,h4.below hb (by have:=h4.lt;omega)⟩
theorem RowRAt.below{W W':World}{lo B:Nat}{g:zmu}(h:RowRAt W lo g)(hb:Below B W W')(hB:W.heap.size<=B):RowRAt W' lo g:=by obtain⟨k,h1,h2,h3,h4,h5⟩:=h;exact⟨k,h1,h2,h3,h4.below hb (by have:=h4.lt;omega),fun r hr=>(h5 r hr).below hb hB⟩
theorem RowBAt.far{W W':World}{lo g:Nat}{r:zi3}(h:RowBAt W lo r)(hg:W.grownBy W' (some g))(hl:g<=lo):RowBAt W' lo r:=by obtain⟨k,h1,h2,h3,h4⟩:=h;exact⟨k,h1,h2,h3,h4.grown hg (by intro e;injection e with e;omega)⟩
theorem RowRAt.far{W W':World}{lo g:Nat}{r:zmu}(h:RowRAt W lo r)(hg:W.grownBy W' (some g))(hl:g<=lo):RowRAt W' lo r:=by obtain⟨k,h1,h2,h3,h4,h5⟩:=h;exact⟨k,h1,h2,h3,h4.grown hg (by intro e;injection e with e;omega),fun r hr=>(h5 r hr).far hg (by omega)⟩
theorem RowBAt.mv{W W':World}{lo hi:Nat}{r:zi3}(h:RowBAt W lo r)(hw:W.heap.size<=hi)(kp:∀k,lo<k->k<hi->W'.heap[k]? =W.heap[k]?):RowBAt W' lo r:=by obtain⟨k,h1,h2,h3,h4⟩:=h;exact⟨k,h1,h2,h3,(kp k h1 (by have:=h4.lt;omega)).trans h4⟩
theorem RowRAt.mv{W W':World}{lo hi:Nat}{g:zmu}(h:RowRAt W lo g)(hw:W.heap.size<=hi)(kp:∀k,lo<k->k<hi->W'.heap[k]? =W.heap[k]?):RowRAt W' lo g:=by obtain⟨k,h1,h2,h3,h4,h5⟩:=h;exact⟨k,h1,h2,h3,(kp k h1 (by have:=h4.lt;omega)).trans h4,fun r hr=>(h5 r hr).mv hw (fun j hj=>kp j (by omega))⟩
theorem zg7{W:World}{k:Nat}{t:TypeId}{cs:List Value}{n:Nat}(h:Blk W k t cs.toArray)(hn:n=cs.length):Reads W W.heap.size 1 (some ⟨k,0,none⟩) n cs:=by subst hn;refine⟨by simp,fun _=>⟨_,rfl,h.lt,fun j u hu=>?_⟩⟩;rw[Addr.add_mid,qmy,h.cell,List.getElem?_toArray,hu]
theorem RowBAt.inn{W:World}{lo:Nat}{r:zi3}(h:RowBAt W lo r):RowBIn W r:=by obtain⟨k,h1,h2,h3,h4⟩:=h;unfold RowBIn;rw[h2];exact zg7 h4 (by rw[zaz (sz:=1) (fun _=>rfl),qmd])
theorem RowRAt.inn{W:World}{lo:Nat}{g:zmu}(h:RowRAt W lo g):Reads W W.heap.size 1 g.1 g.2.2.length (recs zp7 g.2.2)/\ ∀r∈g.2.2,RowBIn W r:=by obtain⟨k,h1,h2,h3,h4,h5⟩:=h;rw[h2];exact⟨zg7 h4 (by rw[zaz (sz:=1) (fun _=>rfl),qmd]),fun r hr=>(h5 r hr).inn⟩
def SheCutPostA(A0:Option Addr)(G:List za9)(b:List Nat)(w:World)(e:Ending)(w':World):Prop:=
 ∃A X,e= .returned (.slice A X.length X.length)/\New w w'/\(Reads w' w'.heap.size 1 A X.length (recs zwj X)/\ ∀ad,A=some ad->w.heap.size<=ad.block)/\(∀g∈X,g.2.1=g.2.2.length/\(Reads w' w'.heap.size 1 g.1 g.2.2.length (recs zp7 g.2.2)/\ ∀ad,g.1=some ad->w.heap.size<=ad.block)/\ ∀r∈g.2.2,r.2.1=r.2.2.length/\(RowBIn w' r/\ ∀ad,r.1=some ad->w.heap.size<=ad.block)/\ ∀d∈r.2.2,PieceOf A0 w' d)/\X.map gpP=zfx G (b.drop 4)
def z3x(G:List za9)(b:List Nat)(w:World)(e:Ending)(w':World):Prop:=
 ∃A X,e= .returned (.slice A X.length X.length)/\New w w'/\Reads w' w'.heap.size 1 A X.length (recs zwj X)/\(∀g∈X,g.2.1=g.2.2.length/\Reads w' w'.heap.size 1 g.1 g.2.2.length (recs zp7 g.2.2)/\ ∀r∈g.2.2,r.2.1=r.2.2.length/\RowBIn w' r/\ ∀d∈r.2.2,PieceIn w' d)/\X.map gpP=zfx G (b.drop 4)
theorem SheCutPostA.post{A0:Option Addr}{G:List za9}{b:List Nat}{w:World}{e:Ending}{w':World}(h:SheCutPostA A0 G b w e w'):z3x G b w e w':=by obtain⟨A,X,h1,h2,h3,h4,h5⟩:=h;exact⟨A,X,h1,h2,h3.1,fun g hg=>⟨(h4 g hg).1,(h4 g hg).2.1.1,fun r hr=>⟨((h4 g hg).2.2 r hr).1,((h4 g hg).2.2 r hr).2.1.1,fun d hd=>(((h4 g hg).2.2 r hr).2.2 d hd).1⟩⟩,h5⟩
def zod(G:List za9)(k j q:Nat):Nat:=4+szG (G.take k)+szC ((G.getD k zaq).2.take j)+szL ((za0 G k j).take q)
theorem z88(G:List za9):zod G 0 0 0=4:=by simp[zod,szG,szC,szL]
theorem zwk{F:FootS}{b:List Nat}(hs:4+szG F.groups<=b.length){k j q:Nat}(hk:k<F.groups.length)(hj:j<(F.groups.getD k zaq).2.length)(hq:q<(za0 F.groups k j).length):
 zod F.groups k j (q+1)=zod F.groups k j q+((za0 F.groups k j).getD q zb1).1.toNat/\zod F.groups k j (q+1)<=b.length
  /\(((zfx F.groups (b.drop 4)).getD k []).getD j []).getD q []=(b.drop (zod F.groups k j q)).take ((za0 F.groups k j).getD q zb1).1.toNat:=by
 have h1:=z08 hq;have h2:=qfb (za0 F.groups k j) (q+1);have h3:=zt2 hj;have h4:=qfc (F.groups.getD k zaq).2 (j+1);have h5:=zt3 hk;have h6:=qfd F.groups (k+1);refine⟨by unfold zod;omega,?_,?_⟩
 ·unfold zod
  have e:szL ((F.groups.getD k zaq).2.getD j [])=szL (za0 F.groups k j):=rfl;omega
 ·rw[zi1 _ _ _ hk,cutC_at _ _ _ hj]
  have hq':q<((F.groups.getD k zaq).2.getD j []).length:=hq;rw[zyr _ _ _ hq',qoq,qoq,qoq];unfold zod za0;congr 2
  omega
theorem z3y{G:List za9}{k j:Nat}(hj:j<(G.getD k zaq).2.length):zod G k j (za0 G k j).length=zod G k (j+1) 0:=by have h3:=zt2 hj;unfold zod;rw[qp1,qmw,show szL []=0 from rfl,h3];unfold za0;omega
theorem z3z{G:List za9}{k:Nat}(hk:k<G.length):zod G k (G.getD k zaq).2.length 0=zod G (k+1) 0 0:=by have h5:=zt3 hk;unfold zod;rw[qp1,qmw,qmw,qmw,show szL []=0 from rfl,show szC []=0 from rfl,h5];omega
theorem z1c{F:FootS}(h:zb0 F):F.groups.length<=65536/\F.cols.length<=64/\ ∀k,k<F.groups.length->(F.groups.getD k zaq).2.length=F.cols.length/\ ∀j,j<F.cols.length->(za0 F.groups k j).length<=65536:=by obtain⟨r1,r2⟩:=zob h.2.1;have h3:=h.2.2.1;have h4:=h.2.2.2.1;refine⟨by omega,h.1.1,fun k hk=>⟨(zc5 h hk).2.1,fun j hj=>?_⟩⟩;obtain⟨hc,_⟩:=zjo h hk hj;have a:=zfv hc.1;have b:=hc.2;have c:=r2 _ (zax zaq hk);omega
end Go.Proofs.Y
namespace Go.Hm
open Go Go.RowKit
end Go.Hm
namespace Go.Proofs.Y
open Go.RowKit Go.Hm
structure TabOwn(w:World)(B:Nat)(Ac:Option Addr)(cc:Nat)(L:List zbi)(Ad:Option Addr)(cd:Nat)(D:List ze9):Prop where
 cols:w.ownsRow B 71 3 (.slice Ac L.length cc) L.length (recs zl3 L)
 data:w.ownsRow B 76 1 (.slice Ad D.length cd) D.length (recs zle D)
 rows:RowsIn w B D
section
variable{w w':World}{B:Nat}{Ac:Option Addr}{cc:Nat}{L:List zbi}{Ad:Option Addr}{cd:Nat}{D:List ze9}
theorem TabOwn.later(h:TabOwn w B Ac cc L Ad cd D)(hb:New w w'):TabOwn w' B Ac cc L Ad cd D:=⟨za8 h.cols hb,za8 h.data hb,h.rows.later hb⟩
theorem TabOwn.far{g:Nat}(h:TabOwn w B Ac cc L Ad cd D)(hg:w.grownBy w' (some g))(hB:g<B):TabOwn w' B Ac cc L Ad cd D:=
 ⟨qlm h.cols hg (.inr (fun e=>by have:=(qln h.cols _ e).1;omega)),qlm h.data hg (.inr (fun e=>by have:=(qln h.data _ e).1;omega)),
  fun d hd=>qlm (h.rows d hd) hg (.inr (fun e=>by have:=(qln (h.rows d hd) _ e).1;omega))⟩
theorem TabPost.own{er:Int}{r:Int}{C:List (List zab)}{e:Ending}(h:TabPost er L r C w e w'):
 ∃(Ac Ad:Option Addr) (cc cd:Nat) (D:List ze9),e= .returned (.tuple #[.agg #[.slice Ac L.length cc,.int .i64 r,.slice Ad D.length cd],.int .i64 er])/\TabOwn w' w.heap.size Ac cc L Ad cd D/\D.map (·.2.2)=C/\New w w':=by
 obtain⟨Ac,Ad,cc,cd,D,rfl,h1,h2,h3,h4,h5⟩:=h;exact⟨Ac,Ad,cc,cd,D,rfl,⟨h1,h2,h3⟩,h4,h5⟩
end
end Go.Proofs.Y
