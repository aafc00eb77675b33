/- Merged. -/
import Derived.Test.YtbahbnbpmfgimaaGreatDoorBun11
import Derived.Test.YtbahbnbpmfgimaaGreatDoorBun12
set_option maxHeartbeats 1000000
namespace Go.Hm
open Go Go.RowKit
abbrev zbs:List Nat:=[110,111,100,101]
abbrev zbw:List Nat:=[110,111,110,101]
def zb6(s:List Nat)(L:List (List Nat)):List Nat:=(zfk s L).map Int.toNat
def zh4(d:List Nat):Prop:=d.length=32/\ ∀x∈d,x<256
theorem qb3(l:List Nat):∀x∈znk l,0<=x/\x<256:=by intro x hx;unfold znk zxn at hx;obtain⟨k,_,rfl⟩:=qmn.1 hx;unfold qk2;omega
theorem zut(s:List Nat)(L:List (List Nat)):∀x∈zfk s L,0<=x/\x<256:=by
 unfold zfk;cases zbe s L with
 |none=>
  intro x hx;have:x=0:=(qow.1 hx).2;omega
 |some f=>exact qb3 f
theorem z2n{l:List Int}(h:∀x∈l,0<=x):(l.map Int.toNat).map (fun n:Nat=>(n:Int))=l:=by
 rw[qoc];conv=>rhs;rw[<-List.map_id l]
 exact qod fun x hx=>by have:=h x hx;simp;omega
theorem zb3(s:List Nat)(L:List (List Nat)):zh4 (zb6 s L):=by refine⟨by unfold zb6;rw[qpg,zks],fun x hx=>?_⟩;obtain⟨y,hy,rfl⟩:=qmn.1 hx;have:=zut s L y hy;omega
theorem z6e(s:List Nat)(L:List (List Nat)):zan .u8 (zb6 s L)=za7 .u8 (zfk s L):=by
 have:=z2n (l:=zfk s L) fun x hx=>(zut s L x hx).1
 unfold zan za7 zb6;conv=>rhs;rw[<-this]
 simp only[qoc];rfl
theorem zrb{a b:List Nat}:zbe zbs [a,b]=some (zcu zbs [a,b]):=by unfold zbe;exact if_pos ⟨by decide,by decide,by simp⟩
theorem zl0:zbe zbw []=some (zcu zbw []):=by unfold zbe;exact if_pos ⟨by decide,by decide,by simp⟩
def zb8(L:List (List Nat)):List Nat × List (List Nat):=
 if _h0:L.length=0 then(zb6 zbw [],[zcu zbw []])
 else if _h1:L.length=1 then(L.getD 0 [],[])
 else
  let a:=zb8 (L.take (zbf L.length))
  let b:=zb8 (L.drop (zbf L.length))
  (zb6 zbs [a.1,b.1],a.2++b.2++[zcu zbs [a.1,b.1]])
termination_by L.length
decreasing_by
 ·have:=zd5 (n:=L.length) (by omega)
  rw[qmq];omega
 ·have:=zd5 (n:=L.length) (by omega)
  rw[qmp];omega
theorem zih:zb8 []=(zb6 zbw [],[zcu zbw []]):=by rw[zb8];rfl
theorem zii(x:List Nat):zb8 [x]=(x,[]):=by rw[zb8];rfl
theorem zi5{L:List (List Nat)}(h:2<=L.length):zb8 L=(zb6 zbs [(zb8 (L.take (zbf L.length))).1,(zb8 (L.drop (zbf L.length))).1],
 (zb8 (L.take (zbf L.length))).2++(zb8 (L.drop (zbf L.length))).2++[zcu zbs [(zb8 (L.take (zbf L.length))).1,(zb8 (L.drop (zbf L.length))).1]]):=by
 rw[zb8,dif_neg (by omega),dif_neg (by omega)]
theorem qfm{C:List (List Nat)->Prop}(h0:C [])(h1:∀x,C [x])(h2:∀L,2<=L.length->C (L.take (zbf L.length))->C (L.drop (zbf L.length))->C L):∀L,C L:=by
 intro L;induction hn:L.length using Nat.strongRecOn generalizing L with
 |_ n ih=>
  match L,hn with
  | [],_=>exact h0
  | [x],_=>exact h1 x
  |x::y::r,hn=>
   have hs:=zd5 (n:=(x::y::r).length) (by simp);refine h2 _ (by simp) (ih _ ?_ _ rfl) (ih _ ?_ _ rfl)
   ·rw[qmq];omega
   ·rw[qmp];omega
def Digs(L:List (List Nat)):Prop:=∀d∈L,zh4 d
theorem Digs.take{L:List (List Nat)}(h:Digs L)(k:Nat):Digs (L.take k):=fun d hd=>h d (qnh hd)
theorem Digs.drop{L:List (List Nat)}(h:Digs L)(k:Nat):Digs (L.drop k):=fun d hd=>h d (qpa hd)
theorem zdn:∀L,Digs L->zh4 (zb8 L).1:=by
 refine qfm ?_ ?_ ?_
 ·intro _;rw[zih];exact zb3 _ _
 ·intro x h;rw[zii];exact h x (by simp)
 ·intro L h _ _ _;rw[zi5 h];exact zb3 _ _
theorem zf6:∀L,Digs L->1<=L.length->(zb8 L).2.length=L.length-1/\ ∀f∈(zb8 L).2,∃a b,zh4 a/\zh4 b/\zbe zbs [a,b]=some f:=by
 refine qfm ?_ ?_ ?_
 ·intro _ h;simp at h
 ·intro x h _;rw[zii];exact⟨rfl,by simp⟩
 ·intro L h i1 i2 hd _
  obtain⟨s1,s2,s3⟩:=zd5 h;obtain⟨a1,a2⟩:=i1 (hd.take _) (by rw[qmq];omega);obtain⟨b1,b2⟩:=i2 (hd.drop _) (by rw[qmp];omega);rw[zi5 h];refine⟨?_,?_⟩
  ·simp only[qni,a1,b1,qmq,qmp,qnu,qp3]
   omega
  ·intro f hf
   simp only[qny,qnz] at hf;rcases hf with(hf|hf)|rfl
   ·exact a2 f hf
   ·exact b2 f hf
   ·exact⟨_,_,zdn _ (hd.take _),zdn _ (hd.drop _),zrb⟩
open Go Go.RowKit
theorem TR.push{w w':World}{e t:TypeId}{A:Option Addr}{n base:Nat}{xs ys:List Value}{v:Value}(h:TR w e A n xs)(o:Own w base t v ys)(hg:w.grownBy w' v.ownBlock)(hne:e≠t):TR w' e A n xs:=by
 rcases o.2 with⟨rfl,_⟩|⟨g,cap,cur,rfl,_,hh,_⟩
 ·exact h.grown hg (fun ad g _ hr=>by cases hr)
 ·exact h.keep (g:=g) hg hh hne
def PartsT(e:TypeId)(w:World)(D:List zcv):Prop:=∀d∈D,TR w e d.1 d.2.2.length (zan .u8 d.2.2)/\d.2.2.length<=d.2.1/\d.2.1<=9223372036854775807
theorem PartsT.ins{e:TypeId}{w:World}{D:List zcv}(h:PartsT e w D):PartsIn w D:=fun d hd=>⟨(h d hd).1.1,(h d hd).2⟩
theorem PartsT.below{e:TypeId}{w w':World}{D:List zcv}(h:PartsT e w D)(hb:New w w'):PartsT e w' D:=fun d hd=>⟨(h d hd).1.below hb,(h d hd).2⟩
theorem PartsT.push{e t:TypeId}{w w':World}{D:List zcv}{base:Nat}{v:Value}{ys:List Value}(h:PartsT e w D)(o:Own w base t v ys)(hg:w.grownBy w' v.ownBlock)(hne:e≠t):PartsT e w' D:=fun d hd=>⟨(h d hd).1.push o hg hne,(h d hd).2⟩
theorem PartsT.snoc{e:TypeId}{w:World}{D:List zcv}{d:zcv}(h:PartsT e w D)(k:TR w e d.1 d.2.2.length (zan .u8 d.2.2))(h1:d.2.2.length<=d.2.1)(h2:d.2.1<=9223372036854775807):PartsT e w (D++[d]):=by
 intro x hx;rcases qny.1 hx with hx|hx
 ·exact h x hx
 ·obtain rfl:=qnz.1 hx
  exact⟨k,h1,h2⟩
theorem zmx(D:List zcv)(d:zcv):bytesOf (D++[d])=bytesOf D++[d.2.2]:=by simp[bytesOf]
theorem zik(D:List zcv):(recs ze1 D).length=D.length:=by rw[zau (sz:=1) (fun _=>rfl),qm0]
theorem zrc(D:List zcv)(d:zcv):recs ze1 (D++[d])=recs ze1 D++[.slice d.1 d.2.2.length d.2.1]:=by rw[za2];rfl
end Go.Hm
namespace Go.Proofs.Y
open Go.RowKit Go.Hm
theorem elR:ElT Tryz.prog 22 24 (.slice none 0 0) 1 24:=⟨by kernel_rfl,by kernel_rfl,rfl,by omega⟩
def ParsePost(o:Option (List Nat × List (List Nat)))(w:World)(e:Ending)(w':World):Prop:=
 ∃A n c D,e= .returned (.tuple #[.string (zae ((o.map Prod.fst).getD [])),.slice A n c,.bool o.isSome])/\RowsAt w' A n c D/\bytesOf D=(o.map Prod.snd).getD []/\New w w'
theorem ParsePost.none_{w w':World}(h:New w w'):ParsePost none w (.returned (.tuple #[.string (zae []),.slice none 0 0,.bool false])) w':=
 ⟨none,0,0,[],rfl,⟨⟨by simp[recs],fun h=>absurd h (by omega)⟩,(fun d hd=>nomatch hd),qmt _⟩,rfl,h⟩
open Go.RowKit Go.Hm
theorem zkt(l:List Nat):(znk l).length=32:=zgn _
theorem ze2{s:List Nat}{L:List (List Nat)}{f:List Nat}(h:zbe s L=some f)(ht:zfl L<=9900000):f.length<=10000000:=by
 unfold zbe at h;split at h
 ·rename_i hc
  obtain rfl:=qmh h;rw[z2m];unfold zfl at ht;omega
 ·cases h
set_option maxRecDepth 100000 in
theorem zz8{w:World}{s:List Nat}{A:Option Addr}{n c:Nat}{D:List zcv}(h:RowsAt w A n c D)(hn:n<=9223372036854775806)(hs8:∀x∈s,x<256)(hs:s.length<=140737488351232)(ht:zfl (bytesOf D)<=9900000)(hD8:∀p∈bytesOf D,∀x∈p,x<256)(hC:ConstIn w):
 Calls Tryz.prog 31 #[.string (zae s),.slice A n c] w (zal (zue (zfk s (bytesOf D))) w):=by
 have c0:New w (w.alloc (.cells (za7 .u8 zat).toArray 35)):=(Below.refl _ _).alloc (qmt _) _;have FR:=Hz (zuu (h.later c0) hn hs8 hs (by omega));have HC:=Hz hC;have G0:=Hz (Blk.new w 35 (za7 .u8 zat).toArray);have HO:zfk s (bytesOf D)=zfk s (bytesOf D):=rfl;conv at HO=>rhs;unfold zfk
 replace HO:=Hz HO;have HF8:=Hz (fun f (hf:zbe s (bytesOf D)=some f)=>qo8 (zf5 hs8 hD8 hf) (ze2 hf ht));generalize zbe s (bytesOf D)=o at*;generalize zfk s (bytesOf D)=ho at*;obtain⟨W0,hW0⟩:∃W,W=w.alloc (.cells (za7 .u8 zat).toArray 35):=⟨_,rfl⟩;rw[<-hW0] at FR c0 G0;have HW:=Hz hW0;have C0:=Hz c0;clear h hs8 hs ht hD8 hC hW0 c0;go_enter Tryz.func31,Tryz.ntmps31
 go_wp2_with fail
 have F:=FR.out;rw[HW.out] at F;refine F.mono ?_;rintro e w1 hf;obtain⟨A1,n1,c1,rfl,o1,b1⟩:=hf.u;have b1:New W0 w1:=by rw[HW.out];exact b1
 have o1:Own w1 W0.heap.size 5 (.slice A1 n1 c1) (zan .u8 (o.getD [])):=by rw[HW.out];exact o1
 have G1:=Hz (G0.out.below b1 G0.out.lt);have B1:=Hz (New.trans C0.out b1);clear F FR hf HW C0 G0;cases o with
 |none=>
  have hh:ho=zat:=by rw[HO.out];rfl
  subst hh;have H:=Hz (qo8 (zay G1.out) (qo8 (qbx (l:=zat) (by simp[zat])) (qo8 (ze8 .u8 zat) (za5 G1.out (za7 .u8 zat).toArray))));have BE:=Hz (New.far B1.out (zbl (g:=w.heap.size) w1 (za7 .u8 zat).toArray) (qmt _));clear G1 B1 b1 o1 HO;go_wp2_with (refine wpList_store_row rfl 35 (.tmp 4) (.tmp 15) rfl w.heap.size (za7 .u8 zat).toArray rfl rfl _ _ H.out.1 H.out.2.1 rfl H.out.2.2.1 ?_)
  exact bodyPost_ret (results_cell_row rfl _ _ w.heap.size _ (za7 .u8 zat).toArray (0,0) _ rfl H.out.2.2.2 zcn rfl H.out.2.1) rfl ⟨rfl,BE.out⟩
 |some f=>
  have hh:ho=znk f:=by rw[HO.out,qpr,qob]
  subst hh;obtain⟨f8,fl⟩:=HF8.out f rfl;obtain rfl:n1=f.length:=by have:=o1.len;rwa[zaa] at this
  have SU:=Hz (z58 (l:=f) (c:=c1) o1.reads f8 o1.cap.1 (by omega) (HC.out.new B1.out));clear o1 b1 HO HF8 HC;go_wp2_with fail
  (with_reducible refine SU.out.mono ?_)
  rintro e w2 ⟨rfl,b2⟩;have G2:=G1.out.below b2 G1.out.lt;have B2:=New.trans B1.out b2;have hz:(za7 .u8 zat).toArray.size=(za7 .u8 (znk f)).toArray.size:=by simp[za7,zat,zkt]
  have H:=Hz (qo8 (zay G2) (qo8 (qbx (zkt f)) (qo8 hz (qo8 (ze8 .u8 (znk f)) (za5 G2 (za7 .u8 (znk f)).toArray)))));have BE:=Hz (New.far B2 (zbl (g:=w.heap.size) w2 (za7 .u8 (znk f)).toArray) (qmt _));obtain⟨cs,hcs⟩:∃cs,cs=(za7 .u8 (znk f)).toArray:=⟨_,rfl⟩;have hdv:zue (znk f)= .agg cs:=by rw[hcs];rfl
  have HV:=Hz hdv;rw[<-hcs] at H BE⊢;clear hcs hdv;clear G1 B1 G2 B2 b2 SU hz;go_wp2_with (refine wpList_store_row rfl 35 (.tmp 4) (.tmp 17) rfl w.heap.size cs rfl rfl _ _ H.out.1 H.out.2.1 H.out.2.2.1 H.out.2.2.2.1 ?_)
  rw[HV.out];exact bodyPost_ret (results_cell_row rfl _ _ w.heap.size _ cs (0,0) _ rfl H.out.2.2.2.2 zcn rfl H.out.2.1) rfl ⟨rfl,BE.out⟩
set_option maxRecDepth 100000 in
theorem new_any{w:World}:Calls Tryz.prog 9 #[] w fun e w'=>e= .returned (.pointer (some ⟨w.heap.size,0,none⟩))/\w'=w.alloc (.cells #[.slice none 0 0] 86):=by
 go_enter Tryz.func9,Tryz.ntmps9
 go_wp2
 go_ret
 exact⟨rfl,rfl⟩
open Go.RowKit Go.Hm
theorem rowK:(35:TypeId)<Tryz.prog.types.size:=of_decide_eq_true (by kernel_rfl)
open Go.RowKit Go.Hm Go.WideShapes Go.ChangeShapes
theorem gConst:Tryz.prog.globalNamed "hypostyle/sha.constants" =some 1:=by kernel_rfl
theorem tConst:(Tryz.prog.globals[1]?).map (·.type)=some 148:=by kernel_rfl
theorem qjf:(Go.Proofs.YtbahbnbpmfgimaaGreatDoor.Rows.laid_hypostyle_sha_constants:DataW Unit)= .agg (kI.map fun k=> .lit (.int .u32 k)):=by rfl
abbrev zx1:List (String × DataW Unit):=[("hypostyle/sha.constants",Go.Proofs.YtbahbnbpmfgimaaGreatDoor.Rows.laid_hypostyle_sha_constants),("hypostyle/roots.kinds",Go.Proofs.YtbahbnbpmfgimaaGreatDoor.Rows.laid_hypostyle_roots_kinds)]
theorem zsr{W:World}(h:laidMetH Tryz.prog zx1 W):ConstIn W:=by
 rw[MakeChecks.laidMetH_plain _ _ _ (by kernel_rfl)] at h;obtain⟨ps,⟨g0,t0,cs0,f0,p0,q0,hg0,ht0,hv0,hd0,_,hps⟩,_,hblk⟩:=h;obtain rfl:=qmh (gConst.symm.trans hg0);obtain rfl:=qmh (tConst.symm.trans ht0);obtain⟨xs,m1,rfl,hx1,hlen,hn3,hel⟩:=DataW.trod_array (show Tryz.prog.underlying 148=some (.array 64 97) by kernel_rfl) hd0;have c64:Tryz.prog.cellsOf 148=64:=by kernel_rfl
 have c1:Tryz.prog.cellsOf 97=1:=by kernel_rfl
 rw[c64] at hlen;rw[qjf] at hx1;simp only[qmi,DataW.agg.injEq] at hx1;have hcell:∀i,i<64->W.cell? ⟨1,i,none⟩=some (.int .u32 (kI.getD i 0)):=by
  intro i hi;have h1:=hel i hi;rw[c1,qm0] at h1;have hi2:i<cs0.toList.length:=by omega
  have hone:(cs0.toList.drop i).take 1=[cs0.toList[i]]:=by rw[qm4 hi2];rfl
  rw[hone,qmm (by omega)] at h1;obtain⟨x,e1,e2,_⟩:=DataW.trod_int (show Tryz.prog.underlying 97=some (.int .u32) by kernel_rfl) h1;have hk:(xs.map (·.1))[i]? =(kI.map fun k=>(DataW.lit (.int .u32 k):DataW Unit))[i]? :=by rw[hx1.1]
  rw[qpf,qmm (show i<xs.length by omega),qpf,qmm (show i<kI.length from hi)] at hk;simp only[qpr,qmj] at hk;rw[e2] at hk;simp only[DataW.lit.injEq,Lit.int.injEq,true_and] at hk;have hc:=World.var?_cell hg0 hv0 i;rw[hc];simp only[qmg,and_true] at e1;rw[qqh (by simpa using hi2)];have e3:cs0[i]'(by simpa using hi2)=cs0.toList[i]:=by simp
  rw[e3,e1,hk,qoa,qmm (show i<kI.length from hi)];rfl
 refine⟨?_,hcell⟩;have h0:=hcell 0 (by omega);unfold World.cell? at h0;rcases qmx 1 W.heap.size with hz|hz
 ·exact hz
 ·rw[qmy (by omega)] at h0
  cases h0
theorem qce(os:Os)(args:Array Value):laidMetH Tryz.prog zx1 ((World.doorLaid Tryz.prog 19 os).forCall (fun _ _=>0) ⟨#[],args,[]⟩).memory:=
 laidMetH_of_parts3 (fuel:=8) (laidMet_of_run' 8 (by kernel_rfl) (by kernel_rfl)) (by kernel_rfl) (by kernel_rfl)
end Go.Proofs.Y
namespace Go.Hm
open Go Go.RowKit
theorem zrd{L:List (List Nat)}(h:Digs L):(zb8 L).2.length=if L.length=0 then 1 else L.length-1:=by
 by_cases h0:L.length=0
 ·obtain rfl:=qna h0
  rw[zih];rfl
 ·rw[if_neg h0]
  exact(zf6 L h (by omega)).1
theorem zux{L:List (List Nat)}(h:Digs L):(zb8 L).2.length<=L.length+1:=by rw[zrd h];split<;> omega
end Go.Hm
namespace Go.Proofs.Y
open Go.RowKit Go.Hm
theorem zfz(L:List Nat)(x:Nat)(hx:x<=64)(hl:L.length<=65536)(hw:wid L<=x):zqt L (x:Int)=some (low (pk x L) ((x*L.length+7)/8)):=by unfold zqt;rw[if_pos ⟨by omega,by omega,hl,by omega⟩,qng]
theorem zx6(L:List Nat)(x:Nat)(hx:x<=64)(hl:L.length<=65536)(hw:wid L<=x)(hL:∀x∈L,x<=18446744073709551615):zfm (low (pk x L) ((x*L.length+7)/8)) (x:Int) (L.length:Int)=some L:=by
 have h2:=(zhv L x hx hL).1 hw;have h1:=qjd x L h2;have h3:num (low (pk x L) ((x*L.length+7)/8))=pk x L:=by rw[z5p,qgy,qn1];exact qmo h1 (qn4 (by omega) (by omega))
 unfold zfm;rw[if_pos ⟨by omega,by omega,by omega,by omega,by simp only[qng,zbg],by simp only[qng,h3];exact h1⟩];simp only[qng,h3];rw[qgx x L h2 _ (qn1 h1)]
theorem zoq{b l:List Nat}{x n:Int}(h8:∀x∈b,x<256)(h:zfm b x n=some l):zqt l x=some b/\(l.length:Int)=n/\(wid l:Int)<=x/\(∀y∈l,y<=18446744073709551615)/\l.length<=65536:=by
 unfold zfm at h;split at h
 ·rename_i hg
  obtain⟨h1,h2,h3,h4,h5,h6⟩:=hg;injection h with h;obtain⟨x,rfl⟩:=qon h1;obtain⟨n,rfl⟩:=qon h3;simp only[qng] at h5 h6 h;have hx:x<=64:=by omega
  have hlt:∀y∈l,y<2^x:=by rw[<-h];exact qgv _ _ _
  have hll:l.length=n:=by rw[<-h,ze9]
  have hp:2^x<=2^64:=qn4 (by omega) hx;have hb:∀y∈l,y<=18446744073709551615:=fun y hy=>by have:=hlt y hy;omega
  have hw:wid l<=x:=(zhv l x hx hb).2 hlt;refine⟨?_,by omega,by omega,hb,by omega⟩;rw[zfz l x hx (by omega) hw,hll,<-h5,<-h,qgw,qn1 h6,zsm b h8]
 ·cases h
end Go.Proofs.Y
namespace Go.Hm
open Go Go.RowKit
def u64N(n:Int):Nat:=(n%18446744073709551616).toNat
def plE(t:Int)(c:zab):List Nat:=
 if t=0 then low (u64N c.2.1) 8 else if t=2 then vp c.2.2.1.length++c.2.2.1 else if t=3 then vp (zig c.2.2.2.1)++vp (zig c.2.2.2.2) else []
def zdz(l:List zab):List Nat:=l.map fun c=>u64N c.2.1
def zk4(t:Int)(l:List zab):Bool:=decide (0<=t/\t<=3/\l.length<=65536)&&l.all fun c=>zaf c t false
def plB(t:Int)(l:List zab):List Nat:=if t=1 then low (pk 1 (zdz l)) ((1*l.length+7)/8) else l.flatMap (plE t)
def plO(t:Int)(l:List zab):Option (List Nat):=if zk4 t l then some (plB t l) else none
theorem zyc(n:Int):u64N n<18446744073709551616:=by unfold u64N;omega
theorem plOk_iff{t:Int}{l:List zab}:zk4 t l=true↔(0<=t/\t<=3/\l.length<=65536)/\ ∀c∈l,zaf c t false=true:=by unfold zk4;rw[qoe,decide_eq_true_iff,qo4]
theorem zk5{c:zab}{t:Int}(h:zaf c t false=true):c.1=false:=by
 unfold zaf at h;cases e:c.1 with
 |false=>rfl
 |true=>rw[e] at h;simp at h
theorem qfo{c:zab}(h:zaf c 1 false=true):c.2.1=0\/c.2.1=1:=by have h0:=zk5 h;unfold zaf at h;rw[h0] at h;simp at h;exact h.2
theorem z7c{c:zab}(h:zaf c 2 false=true):c.2.2.1.length<=65536:=by have h0:=zk5 h;unfold zaf at h;rw[h0] at h;simp at h;exact h.2
theorem zox{c:zab}(h:zaf c 3 false=true):(-1048576<=c.2.2.2.1/\c.2.2.2.1<=1048576)/\ -1048576<=c.2.2.2.2/\c.2.2.2.2<=1048576:=by have h0:=zk5 h;unfold zaf inBox at h;rw[h0] at h;simp at h;omega
theorem zoy{l:List zab}(h:∀c∈l,zaf c 1 false=true):wid (zdz l)<=1:=by
 have hb:∀x∈zdz l,x<2:=by intro x hx;obtain⟨c,hc,rfl⟩:=qmn.1 hx;rcases qfo (h c hc) with e|e<;> rw[e]<;> decide
 exact(zhv _ 1 (by omega) fun x hx=>by have:=hb x hx;omega).2 fun x hx=>by simpa using hb x hx
theorem zyd{t:Int}{c:zab}(h:zaf c t false=true):(plE t c).length<=20+c.2.2.1.length:=by
 unfold plE;split
 ·rw[zbg];omega
 ·split
  ·rename_i h2
   subst h2;have:=z7c h;have:=zap (n:=c.2.2.1.length) (by omega);rw[qni];omega
  ·split
   ·rename_i h2
    subst h2;have:=zox h;have a:=zap (n:=zig c.2.2.2.1) (by unfold zig;split<;> omega);have b:=zap (n:=zig c.2.2.2.2) (by unfold zig;split<;> omega);rw[qni];omega
   ·simp
end Go.Hm
namespace Go.Proofs.Y
open Go.RowKit Go.Hm
theorem zd9{α:Type}{l:List α}{k:Nat}(d:α)(h:k<l.length):l.getD k d∈l:=by rw[qoa,qmm h];exact qm8 h
open Go.RowKit Go.Hm
def encP(p:List Nat):List Nat:=
 if 4<=st p then vp (2*p.length)++vp (p.getD 0 0) else vp (2*p.length+1)++(wid p::low (pk (wid p) p) ((wid p*p.length+7)/8))
def z0v(l:List Nat):List Nat:=(pcs l).flatMap encP
theorem zyk{l:List Nat}(h:∀x∈l,x<=18446744073709551615){p:List Nat}(hp:p∈pcs l):(∀x∈p,x<=18446744073709551615)/\p.length<=l.length:=by have hf:=z0u l;refine⟨fun x hx=>h x (by rw[<-hf];exact qq1.2 ⟨p,hp,hx⟩),?_⟩;rw[<-hf];obtain⟨a,b,e⟩:=List.append_of_mem hp;rw[e,qp9,qq0,qni,qni];omega
def IsDec(b:List Nat)(n:Int)(o:Option (List Nat)):Prop:=
 ∀l,o=some l↔((l.length:Int)=n/\l.length<=65536/\(∀x∈l,x<=18446744073709551615)/\z0v l=b)
end Go.Proofs.Y
namespace Go.Hm
open Go.RowKit
section
variable{P:Program}{ops:Array Oper}{Q:Exit->Act->World->Prop}{md:Region.Mode}{S:World->Prop}{t0:Nat}
def zsg(md:Region.Mode)(ops:Array Oper):Nat->Nat->Nat->Bool
 |0,_,_=>false
 |n+1,t,i=>match ops[t]? with
  |some ot=>ot.after.any fun e=>Region.binds md e&&(e.on==i||zsg md ops n e.on i)
  |none=>false
def Closed(md:Region.Mode)(ops:Array Oper)(listed:Array Bool):Prop:=∀p op,ops[p]? =some op->listed.getD p false=true-> ∀e∈op.after,Region.binds md e=true->listed.getD e.on false=true
theorem Closed.set_{listed:Array Bool}{j:Nat}(h:Closed md ops listed)(hj:j∈Region.ready md ops listed):Closed md ops (listed.setIfInBounds j true):=by
 intro p op hp hl e he hb;obtain⟨_,oj,hoj,hall⟩:=mem_ready.1 hj;by_cases hpj:p=j
 ·subst hpj
  rw[hoj] at hp;injection hp with hp;subst hp;exact zbd (hall e he hb)
 ·rw[zd7 (qo0 hpj)] at hl
  exact zbd (h p op hp hl e he hb)
theorem Closed.waits{listed:Array Bool}(h:Closed md ops listed):∀{n t i:Nat},zsg md ops n t i=true->(t∈Region.ready md ops listed\/listed.getD t false=true)->listed.getD i false=true
 |0,_,_,hw,_=>by cases hw
 |n+1,t,i,hw,ht=>by
  unfold zsg at hw;cases ho:ops[t]? with
  |none=>rw[ho] at hw;cases hw
  |some ot=>
   rw[ho] at hw;rw[Array.any_eq_true] at hw;obtain⟨j,hj,hw⟩:=hw;simp only[qoe,qo3,beq_iff_eq] at hw;have hon:listed.getD (ot.after[j]).on false=true:=by
    rcases ht with ht|ht
    ·obtain⟨_,o2,ho2,hall⟩:=mem_ready.1 ht
     rw[ho] at ho2;injection ho2 with ho2;subst ho2;exact hall _ (qo1 hj) hw.1
    ·exact h t ot ho ht _ (qo1 hj) hw.1
   rcases hw.2 with e|e
   ·rw[<-e];exact hon
   ·exact h.waits e (.inr hon)
theorem zxf{i:Nat}{oi:Oper}{v:Value}(hi:ops[i]? =some oi)(hit:i≠t0)(hsel:∀(j:Nat) (o:Oper) cs b,ops[j]? =some o->o.op≠ .select cs b)
 (hQ:∀c a w,Q (.panic c) (a.put oi.dst v) w->Q (.panic c) a w)(V:World->Prop)
 (hV:(∀w,V w)\/((∀w,S w->V w)/\zsg md ops ops.size t0 i=true)):
 ∀(fuel:Nat) (listed:Array Bool) (a:Act) (w:World),
  (∀j oj,ops[j]? =some oj->j≠i->listed.getD j true=false->(∀e∈oj.after,Region.binds md e=true->e.on≠i)->oi.apart ops oj=true)->
  Closed md ops listed->i∈Region.ready md ops listed->YieldsIf P ops V oi v a->(listed.getD t0 false=true\/S w)->((∀w,V w)\/listed.getD t0 false=false)->
  zgm P md ops Q t0 S fuel (listed.setIfInBounds i true) (a.put oi.dst v) w->zgm P md ops Q t0 S (fuel+1) listed a w:=by
 have hVw:∀(listed:Array Bool) (w:World),(listed.getD t0 false=true\/S w)->((∀w,V w)\/listed.getD t0 false=false)->V w:=by
  intro listed w hS ht;rcases ht with ht|ht
  ·exact ht w
  ·rcases hS with hS|hS
   ·rw[ht] at hS;cases hS
   ·rcases hV with hV|hV
    ·exact hV w
    ·exact hV.1 w hS
 intro fuel;induction fuel with
 |zero=>
  intro listed a w _ _ hr hy hS ht H;refine⟨fun h=>(by rw[h] at hr;cases hr),fun j hj=>?_⟩;by_cases hji:j=i
  ·subst hji
   exact hy.wpOp hi (hVw listed w hS ht) ⟨hS.imp zbd id,H⟩
  ·have:=ready_mono hj hji
   rw[H.1] at this;cases this
 |succ fuel ih=>
  intro listed a w hfree hcl hr hy hS ht H;refine⟨fun h=>(by rw[h] at hr;cases hr),fun j hj=>?_⟩;by_cases hji:j=i
  ·subst hji
   exact hy.wpOp hi (hVw listed w hS ht) ⟨hS.imp zbd id,H⟩
  ·have h1:=H.2 j (ready_mono hj hji)
   obtain⟨hjun,oj,hoj,hall⟩:=mem_ready.1 hj;have hnot:∀e∈oj.after,Region.binds md e=true->e.on≠i:=fun e he hb heq=>by
    have h1:=hall e he hb;have h0:=(mem_ready.1 hr).1;rw[heq] at h1;rcases qmx i listed.size with h'|h'
    ·simp[h'] at h0 h1;rw[h0] at h1;cases h1
    ·simp[Array.getElem?_eq_none h'] at h1
   have h2:=wpOp_putIf hoj (hfree j oj hoj hji hjun hnot) (fun cs b=>hsel i oi cs b hi) (fun cs b=>hsel j oj cs b hoj) hQ hy h1;have hfree':∀k ok,ops[k]? =some ok->k≠i->(listed.setIfInBounds j true).getD k true=false->
    (∀e∈ok.after,Region.binds md e=true->e.on≠i)->oi.apart ops ok=true:=fun k ok hk hki hun hno=>by
    refine hfree k ok hk hki ?_ hno;by_cases hjk:j=k
    ·subst hjk;exact hjun
    ·rw[getD_set_ne true hjk] at hun;exact hun
   have ht':(∀w,V w)\/(listed.setIfInBounds j true).getD t0 false=false:=by
    rcases hV with hV|⟨_,hwt⟩
    ·exact .inl hV
    ·refine ht.imp id fun ht=>?_
     have hjt:j≠t0:=by
      rintro rfl;have h1:=hcl.waits hwt (.inl hj);have h0:=(mem_ready.1 hr).1;rcases qmx i listed.size with h'|h'
      ·simp[h'] at h0 h1;rw[h0] at h1;cases h1
      ·simp[Array.getElem?_eq_none h'] at h1
     rw[zd7 hjt];exact ht
   refine wpOp_mono (fun a' w' h3=>?_) h2;have hS':(listed.setIfInBounds j true).getD t0 false=true\/S w':=by refine h3.2.1.imp (fun h4=>?_) id;rw[qoz _ _ (fun e=>hji e.symm),zd7 hit] at h4;exact h4
   refine⟨hS',ih (listed.setIfInBounds j true) a' w' hfree' (hcl.set_ hj) (ready_mono hr (qo0 hji)) h3.1 hS' ht' ?_⟩;rw[qoz _ _ hji];exact h3.2.2
theorem zqg{i:Nat}{oi:Oper}{v:Value}{fuel:Nat}{listed:Array Bool}{a:Act}{w:World}(V:World->Prop)(hi:ops[i]? =some oi)(hit:i≠t0)
 (hs:Region.noSelect ops=true)(hf:Region.free md ops listed i=true)(hr:(Region.ready md ops listed).contains i=true)
 (hQ:∀c a w,Q (.panic c) (a.put oi.dst v) w->Q (.panic c) a w)
 (hV:(∀w,V w)\/((∀w,S w->V w)/\zsg md ops ops.size t0 i=true))
 (hcl:Closed md ops listed)(hy:YieldsIf P ops V oi v a)(hS:listed.getD t0 false=true\/S w)(ht:(∀w,V w)\/listed.getD t0 false=false)
 (h:zgm P md ops Q t0 S fuel (listed.setIfInBounds i true) (a.put oi.dst v) w):zgm P md ops Q t0 S (fuel+1) listed a w:=
 zxf hi hit (Region.noSelect_spec hs) hQ V hV fuel listed a w (Region.free_spec hi hf) hcl (by simpa using hr) hy hS ht h
def zua(ops:Array Oper)(t0:Nat):Array Bool->List (Nat × Nat)->Bool
 |listed,[]=>(Region.ready .any ops listed).isEmpty
 |listed,(0,i)::r=>(Region.ready .any ops listed).contains i&&(Region.free .any ops listed i&&(zsg .any ops ops.size t0 i&&(decide (i≠t0)&&(!listed.getD t0 false&&zua ops t0 (listed.setIfInBounds i true) r))))
 |listed,(1,i)::r=>(Region.ready .any ops listed).contains i&&(Region.free .any ops listed i&&(decide (i≠t0)&&zua ops t0 (listed.setIfInBounds i true) r))
 |listed,(_,i)::r=>decide (Region.ready .any ops listed=[i])&&zua ops t0 (listed.setIfInBounds i true) r
variable{R:World->World->Prop}
theorem zxg(hrefl:∀w,R w w)(htrans:∀{x y z},R x y->R y z->R x z)(hs:Region.noSelect ops=true):
 ∀(ord:List (Nat × Nat)) (fuel:Nat) (listed:Array Bool) (d:Bool) (a:Act) (w:World),(d=true->listed.getD t0 false=true)->(∀i∈ord.map (·.2),i<listed.size)->ord.length<=fuel->Closed .any ops listed->zua ops t0 listed ord=true->zjr P ops R Q t0 ord d a w->zgm P .any ops (NoPanic Q) t0 (R w) fuel listed a w:=by
 intro ord;induction ord with
 |nil=>
  intro fuel listed d a w _ _ _ _ hok h;have hr:Region.ready .any ops listed=[]:=by simpa[zua] using hok
  cases fuel with
  |zero=>exact⟨hr,NoPanic.normal h⟩
  |succ fuel=>exact⟨fun _=>NoPanic.normal h,by rw[hr];simp⟩
 |cons x r ih=>
  obtain⟨b,i⟩:=x;intro fuel listed d a w hd hsz hl hcl hok h;obtain⟨fuel,rfl⟩:∃k,fuel=k+1:=⟨fuel-1,by simp at hl;omega⟩;have hl':r.length<=fuel:=by simp at hl;omega
  have hsz':∀k∈r.map (·.2),k<(listed.setIfInBounds i true).size:=fun k hk=>by rw[qo2];exact hsz k (by simp at hk⊢;exact .inr hk)
  have hi0:i<listed.size:=hsz i (by simp)
  match b with
  |0=>
   obtain⟨o,v,ho,hv,hr⟩:=h;simp only[zua,qoe,decide_eq_true_eq,Bool.not_eq_true'] at hok;obtain⟨h1,h2,h3,h4,h5,h6⟩:=hok;exact zqg (R w) ho h4 hs h2 h1 (fun _ _ _ hp=>hp) (.inr ⟨fun _ hh=>hh,h3⟩) hcl hv (.inr (hrefl w)) (.inr h5) (ih fuel _ d _ w (fun e=>zbd (hd e)) hsz' hl' (hcl.set_ (by simpa using h1)) h6 hr)
  |1=>
   obtain⟨o,v,ho,hv,hr⟩:=h;simp only[zua,qoe,decide_eq_true_eq] at hok;obtain⟨h1,h2,h3,h4⟩:=hok;exact zqg (fun _=>True) ho h3 hs h2 h1 (fun _ _ _ hp=>hp) (.inl fun _=>trivial) hcl (hv.imp (fun hh=>⟨hh.1,fun w' _=>hh.2 w'⟩) id) (.inr (hrefl w)) (.inl fun _=>trivial) (ih fuel _ d _ w (fun e=>zbd (hd e)) hsz' hl' (hcl.set_ (by simpa using h1)) h4 hr)
  |b+2=>
   obtain⟨o,ho,hc⟩:=h;simp only[zua,qoe,decide_eq_true_eq] at hok;obtain⟨h1,h3⟩:=hok;refine⟨fun h0=>(by rw[h1] at h0;cases h0),fun j hj=>?_⟩;have hj0:=hj;rw[h1] at hj0;obtain rfl:j=i:=by simpa using hj0
   have hd':(d||j==t0)=true->(listed.setIfInBounds j true).getD t0 false=true:=by
    intro e;rw[qo3,beq_iff_eq] at e;rcases e with e|rfl
    ·exact zbd (hd e)
    ·rw[qox,qoy,if_pos rfl,if_pos hi0];rfl
   unfold wpOp;simp only[ho];split
   ·rename_i hw
    rw[if_pos hw] at hc;refine .inl (Oper.wp_mono (fun a' w' hh=>?_) hc);obtain⟨hR,hh⟩:=hh;have hI:=ih fuel _ _ a' w' hd' hsz' hl' (hcl.set_ hj) h3 hh;by_cases ht:(listed.setIfInBounds j true).getD t0 false=true
    ·exact⟨.inl ht,zen fuel _ a' w' (.inl ht) hI⟩
    ·have hR':R w w':=by
      rcases hR with hR|hR|hR
      ·exact absurd (zbd (hd hR)) ht
      ·exact absurd (hd' (by simp[hR])) ht
      ·exact hR
     exact⟨.inr hR',zen fuel _ a' w' (.inr fun z hz=>htrans hR' hz) hI⟩
   ·rename_i hw
    rw[if_neg hw] at hc;exact⟨.inr (hrefl w),ih fuel _ _ _ w hd' hsz' hl' (hcl.set_ hj) h3 hc⟩
theorem zub{id:Nat}{a:Act}{w:World}(R:World->World->Prop)(t0:Nat)(ord:List (Nat × Nat))(hrefl:∀w,R w w)(htrans:∀{x y z},R x y->R y z->R x z)(hm:P.follows .mixedOrders=true)
 (hs:Region.noSelect ops=true)(hl:(decide (ord.length<=ops.size)&&ord.all fun x=>decide (x.2<ops.size))=true)(hok:zua ops t0 (Array.replicate ops.size false) ord=true)(h:zjr P ops R Q t0 ord false a w.drew):(Code.region id ops true).wp P Q a w:=by
 simp only[qoe,decide_eq_true_eq,qo4] at hl;refine wp_region_noPanic (wp_region_any hm (zi2 _ _ _ _ (zxg hrefl htrans hs ord ops.size _ false a _ (by simp) ?_ hl.1 (by intro p op _ hp;rw[qox,Array.getElem?_replicate] at hp;split at hp<;> cases hp) hok h)));intro i hi;simp only[qmn] at hi;obtain⟨x,hx,rfl⟩:=hi;rw[qo5];exact hl.2 x hx
end
end Go.Hm
