import Derived.Test.YtbahbnbpmfgimaaGreatDoorBun49
set_option maxHeartbeats 8000000
set_option maxRecDepth 100000
namespace Go.Proofs.Y
open Go.RowKit Go.Hm
theorem zl0{w W:World}{A:Option Addr}{n c:Nat}{D:List zcx}(h:RowsAt w A n c D)(hf:PartsFine D)(hl:∀p∈bytesOf D,p.length<=9000000)(b:New w W){T:List Nat}(hT:∀x∈T,w.heap.size<=x):DataF W A D T:=by
 obtain rfl:=h.len;have old:∀{B:Option Addr} {k s:Nat} {xs:List Value},Reads w w.heap.size s B k xs->0<k-> ∀ad,B=some ad->ad.block∉T:=by intro B k s xs r hn ad ha hm;obtain⟨ad',e,hb,_⟩:=r.2 hn;rw[ha] at e;injection e with e;subst e;have:=hT _ hm;omega
 refine⟨qsg h.row b,old h.row,fun d hd=>?_⟩;obtain⟨p1,p2,p3⟩:=h.parts d hd;have hm:d.2.2∈bytesOf D:=qly.2 ⟨d,hd,rfl⟩;exact⟨qsg p1 b,old p1,p2,p3,(hf _ hm).1,hl _ hm⟩
theorem zzm{L:List (List Nat)}{p:List Nat}(h:p∈L):p.length<=zem L:=by
 unfold zem;induction L with
 |nil=>cases h
 |cons x L ih=>
  rw[qmp,qpf];rcases qnu.1 h with rfl|h
  ·omega
  ·have:=ih h;omega
def KeepD(W W':World):Prop:=W.heap.size<=W'.heap.size/\ ∀b cs,Blk W b tD cs->Blk W' b tD cs
theorem KeepD.refl(W:World):KeepD W W:=⟨ql6 _,fun _ _ h=>h⟩
theorem KeepD.trans{a b c:World}(h:KeepD a b)(k:KeepD b c):KeepD a c:=⟨qlw h.1 k.1,fun x cs hb=>k.2 x cs (h.2 x cs hb)⟩
theorem KeepD.new{W W':World}(h:New W W'):KeepD W W':=⟨h.size,fun _ _ hb=>hb.below h hb.lt⟩
abbrev qsx:=@KeepD.new
theorem DigsIn.keepD{w W W':World}{A:Option Addr}{L:List (List Nat)}(h:DigsIn w W A L)(k:KeepD W W'):DigsIn w W' A L:=by
 refine⟨h.1,h.2.imp id fun⟨r,b⟩=>⟨⟨r.1,fun hn=>?_⟩,fun hn ad ha=>?_⟩⟩
 ·obtain⟨ad,e,hb,hc⟩:=r.2 hn
  obtain⟨cs,B⟩:=b hn ad e;have B':=k.2 _ _ B;refine⟨ad,e,B'.lt,fun j u hu=>?_⟩;have e2:W'.heap[(ad.add j).block]? =W.heap[(ad.add j).block]? :=by rw[zao];exact Eq.trans B' (Eq.symm B)
  rw[World.cell?_of_block e2];exact hc j u hu
 ·obtain⟨cs,B⟩:=b hn ad ha
  exact⟨cs,k.2 _ _ B⟩
def Lr(w:World)(g h:Nat)(W:World)(F F':List (List Nat)):Prop:=
 ∃V V',LogOf tL W w.heap.size g V F/\LogOf tR W w.heap.size h V' F'/\(∀x∈zbg V',V.ownBlock≠some x)/\New w W
def zj4(v:Value)(w:World)(g h:Nat)(F F':List (List Nat))(W:World)(e:Ending)(W':World):Prop:=e= .returned v/\Lr w g h W' F F'/\KeepD W W'
theorem qj4{w:World}{b1 b2 g h:Nat}{V V':Value}{F F':List (List Nat)}(l1:LogOf tL w b1 g V F)(l2:LogOf tR w b2 h V' F'):g≠h:=by rintro rfl;obtain⟨_,_,_,_,_,h1,_⟩:=l1;obtain⟨_,_,_,_,_,h2,_⟩:=l2;exact qrx h1 h2 (by decide) rfl
section
variable{w W W':World}{g h:Nat}{F F' F2:List (List Nat)}
theorem Lr.new(l:Lr w g h W F F')(n:New W W'):Lr w g h W' F F':=by obtain⟨V,V',l1,l2,a,b⟩:=l;exact⟨V,V',l1.new n,l2.new n,a,qr0 b n⟩
theorem Lr.news(l:Lr w g h W F F'):New w W:=by obtain⟨V,V',l1,l2,a,b⟩:=l;exact b
theorem Lr.left(l:Lr w g h W F F'):∃V,LogOf tL W w.heap.size g V F:=by obtain⟨V,V',l1,_⟩:=l;exact⟨V,l1⟩
theorem Lr.right(l:Lr w g h W F F'):∃V,LogOf tR W w.heap.size h V F':=by obtain⟨V,V',_,l2,_⟩:=l;exact⟨V',l2⟩
theorem Lr.turnL(l:Lr w g h W F F')(hg:w.heap.size<=g){V V2:Value}(lV:LogOf tL W w.heap.size g V F)(l':LogOf tL W' w.heap.size g V2 F2)(a:V2.ownBlock=V.ownBlock\/ ∃h,V2.ownBlock=some h/\W.heap.size<=h)(t:Turns (g::zbg V) W W'):Lr w g h W' F2 F'/\KeepD W W':=by obtain⟨V1,V',l1,l2,ap,b⟩:=l;obtain rfl:=zxq l1 lV;exact⟨⟨V2,V',l',l2.beside (by decide) (by decide) (by decide) l1 (qj4 l1 l2).symm (zhi ap) t,zmd ap (fun x hx=>(l2.ge x hx).2) a,qse b t (l1.own (ql6 _) hg) (ql6 _)⟩,t.size,fun _ _ hb=>hb.touch t (l1.notT hb (by decide) (by decide))⟩
theorem Lr.turnR(l:Lr w g h W F F')(hh:w.heap.size<=h){V V2:Value}(lV:LogOf tR W w.heap.size h V F')(l':LogOf tR W' w.heap.size h V2 F2)(a:V2.ownBlock=V.ownBlock\/ ∃h,V2.ownBlock=some h/\W.heap.size<=h)(t:Turns (h::zbg V) W W'):Lr w g h W' F F2/\KeepD W W':=by obtain⟨V1,V',l1,l2,ap,b⟩:=l;obtain rfl:=z1i l2 lV;exact⟨⟨V1,V2,l1.beside (by decide) (by decide) (by decide) l2 (qj4 l1 l2) ap t,l',zhi (zmd (zhi ap) (fun x hx=>(l1.ge x hx).2) a),qse b t (l2.own (ql6 _) hh) (ql6 _)⟩,t.size,fun _ _ hb=>hb.touch t (l2.notT hb (by decide) (by decide))⟩
theorem Lr.callL{v V:Value}(l:Lr w g h W F F')(hg:w.heap.size<=g)(lV:LogOf tL W w.heap.size g V F){e:Ending}(p:zc3 tL v w.heap.size g V F2 W e W'):zj4 v w g h F2 F' W e W':=by obtain⟨rfl,V2,l',a,t⟩:=p;exact⟨rfl,l.turnL hg lV l' a t⟩
theorem Lr.callR{v V:Value}(l:Lr w g h W F F')(hh:w.heap.size<=h)(lV:LogOf tR W w.heap.size h V F'){e:Ending}(p:zc3 tR v w.heap.size h V F2 W e W'):zj4 v w g h F F2 W e W':=by obtain⟨rfl,V2,l',a,t⟩:=p;exact⟨rfl,l.turnR hh lV l' a t⟩
theorem qan(hG:GlobIn w)(hg:w.heap.size<=g){V:Value}(l:LogOf tL W w.heap.size g V F)(n:New w W):∀w',Turns (g::zbg V) W w'->GlobIn w':=fun _ t=>hG.new (qse n t (l.own (ql6 _) hg) (ql6 _))
def z13(n:Nat)(P:List (List Nat))(w:World)(g h:Nat)(F F':List (List Nat))(W:World)(e:Ending)(W':World):Prop:=∃A c,e= .returned (.slice A n c)/\n=P.length/\DigsIn w W' A P/\Lr w g h W' F F'/\KeepD W W'
section
variable{A:Option Addr}{c:Nat}{D:List zcx}(hR:RowsAt w A D.length c D)(hf:PartsFine D)(hl:∀p∈bytesOf D,p.length<=9000000)
include hR hf hl
theorem qet(hg:w.heap.size<=g)(hG:GlobIn w)(l:Lr w g h W F F'){s:List Nat}(hs8:∀x∈s,x<256)(hs:s.length<=140737488351232)(hF:F.length+D.length<=9000000):
 Calls Tryz.prog 10 #[.pointer (some ⟨g,0,none⟩),.string (zai s),.slice A D.length c] W (z13 D.length (lvD s (bytesOf D)) w g h (F++lvF s (bytesOf D)) F' W):=by
 obtain⟨V,lV⟩:=l.left;refine(zmf (c:=c) (s:=s) lV l.news.size hs8 hs (zl0 hR hf hl l.news (lV.own (ql6 _) hg)) hF (fun w' t=>(qan hG hg lV l.news w' t).1)).mono ?_;rintro e W' ⟨v,rfl,o,V',l',a,t⟩;have hn:D.length=(lvD s (bytesOf D)).length:=by rw[zg5,zby]
 have o:W'.ownsRow W.heap.size tD 32 v (lvD s (bytesOf D)).length (recs zfh (lvD s (bytesOf D))):=o;obtain⟨A',c',rfl,h1,h2⟩:=zcy o;obtain⟨k1,k2⟩:=l.turnL hg lV l' a t;exact⟨A',c',by rw[<-hn],hn,DigsIn.row (zfm _ _) o rfl,k1,k2⟩
theorem qeu(hh:w.heap.size<=h)(l:Lr w g h W F F'){s:List Nat}(hs8:∀x∈s,x<256)(hs:s.length<=140737488351232)(hD6:D.length<=65536)(hF:F'.length+D.length<=9000000):
 Calls Tryz.prog 11 #[.pointer (some ⟨h,0,none⟩),.string (zai s),.slice A D.length c] W (z13 D.length (lvD s (bytesOf D)) w g h F (F'++lvF s (bytesOf D)) W):=by
 obtain⟨V,lV⟩:=l.right;refine(zib (c:=c) (s:=s) lV l.news.size hs8 hs (zl0 hR hf hl l.news (lV.own (ql6 _) hh)) hD6 hF).mono ?_;rintro e W' ⟨v,rfl,o,V',l',a,t⟩;have hn:D.length=(lvD s (bytesOf D)).length:=by rw[zg5,zby]
 have o:W'.ownsRow W.heap.size tD 32 v (lvD s (bytesOf D)).length (recs zfh (lvD s (bytesOf D))):=o;obtain⟨A',c',rfl,h1,h2⟩:=zcy o;obtain⟨k1,k2⟩:=l.turnR hh lV l' a t;exact⟨A',c',by rw[<-hn],hn,DigsIn.row (zfm _ _) o rfl,k1,k2⟩
theorem qh8(hg:w.heap.size<=g)(hG:GlobIn w)(l:Lr w g h W F F')(hF:F.length+2*D.length<=8000000):
 Calls Tryz.prog 12 #[.pointer (some ⟨g,0,none⟩),.slice A D.length c] W (zj4 (dV (ovD zbx (bytesOf D))) w g h (F++ovF zbx (bytesOf D)) F' W):=by
 obtain⟨V,lV⟩:=l.left;exact(zu1 (c:=c) lV l.news.size (zl0 hR hf hl l.news (lV.own (ql6 _) hg)) hF (qan hG hg lV l.news)).mono fun _ _ p=>l.callL hg lV p
theorem qh9(hh:w.heap.size<=h)(l:Lr w g h W F F')(hD6:D.length<=65536)(hF:F'.length+2*D.length<=8000000):
 Calls Tryz.prog 13 #[.pointer (some ⟨h,0,none⟩),.slice A D.length c] W (zj4 (dV (ovD zbx (bytesOf D))) w g h F (F'++ovF zbx (bytesOf D)) W):=by
 obtain⟨V,lV⟩:=l.right;exact(z33 (c:=c) lV l.news.size (zl0 hR hf hl l.news (lV.own (ql6 _) hh)) hD6 hF).mono fun _ _ p=>l.callR hh lV p
end
section
variable{A:Option Addr}{c:Nat}{L:List (List Nat)}(hR:Reads w w.heap.size 32 A L.length (recs zfh L))(hd:Digs L)
include hR hd
theorem qia(hg:w.heap.size<=g)(hG:GlobIn w)(l:Lr w g h W F F')(hF:F.length+2*L.length<=8000000):
 Calls Tryz.prog 14 #[.pointer (some ⟨g,0,none⟩),.slice A L.length c] W (zj4 (dV (ovD zcc L)) w g h (F++ovF zcc L) F' W):=by
 obtain⟨V,lV⟩:=l.left;exact(zu3 (c:=c) lV l.news.size (zut hR hd l.news (lV.own (ql6 _) hg)) hF (qan hG hg lV l.news)).mono fun _ _ p=>l.callL hg lV p
theorem qib(hh:w.heap.size<=h)(l:Lr w g h W F F')(hL6:L.length<=65536)(hF:F'.length+2*L.length<=8000000):
 Calls Tryz.prog 15 #[.pointer (some ⟨h,0,none⟩),.slice A L.length c] W (zj4 (dV (ovD zcc L)) w g h F (F'++ovF zcc L) W):=by
 obtain⟨V,lV⟩:=l.right;exact(z34 (c:=c) lV l.news.size (qsg hR l.news) hd hL6 hF).mono fun _ _ p=>l.callR hh lV p
theorem qev(hg:w.heap.size<=g)(hG:GlobIn w)(l:Lr w g h W F F')(hF:F.length+2*L.length<=8000000):
 Calls Tryz.prog 16 #[.pointer (some ⟨g,0,none⟩),.slice A L.length c] W (zj4 (dV (ovD zbv L)) w g h (F++ovF zbv L) F' W):=by
 obtain⟨V,lV⟩:=l.left;exact(zrl (c:=c) lV l.news.size (zut hR hd l.news (lV.own (ql6 _) hg)) hF (qan hG hg lV l.news)).mono fun _ _ p=>l.callL hg lV p
theorem qew(hh:w.heap.size<=h)(l:Lr w g h W F F')(hL6:L.length<=65536)(hF:F'.length+2*L.length<=8000000):
 Calls Tryz.prog 17 #[.pointer (some ⟨h,0,none⟩),.slice A L.length c] W (zj4 (dV (ovD zbv L)) w g h F (F'++ovF zbv L) W):=by
 obtain⟨V,lV⟩:=l.right;exact(zy5 (c:=c) lV l.news.size (qsg hR l.news) hd hL6 hF).mono fun _ _ p=>l.callR hh lV p
end
section
variable{A:Option Addr}{c:Nat}{a b:List Nat}(hR:Reads w w.heap.size 1 A a.length (zah .u8 a))(h8:∀x∈a,x<256)(hac:a.length<=c)(hcm:c<=9223372036854775807)(hal:a.length<=9000000)(hb:zim b)
include hR h8 hac hcm hal hb
theorem qj5(hg:w.heap.size<=g)(hG:GlobIn w)(l:Lr w g h W F F')(hF:F.length<=10000000):
 Calls Tryz.prog 18 #[.pointer (some ⟨g,0,none⟩),.slice A a.length c,dV b] W (zj4 (dV (zqz a b)) w g h (F++zjx a b) F' W):=by
 obtain⟨V,lV⟩:=l.left;exact(zs0 lV l.news.size hF (qsg hR l.news) h8 hac hcm hal hb (qan hG hg lV l.news)).mono fun _ _ p=>l.callL hg lV p
theorem qj6(hh:w.heap.size<=h)(l:Lr w g h W F F')(hF:F'.length<=10000000):
 Calls Tryz.prog 19 #[.pointer (some ⟨h,0,none⟩),.slice A a.length c,dV b] W (zj4 (dV (zqz a b)) w g h F (F'++zjx a b) W):=by
 obtain⟨V,lV⟩:=l.right;refine(z9j lV l.news.size hF (qsg hR l.news) (fun hn ad ha hm=>?_) h8 hac hcm hal hb).mono fun _ _ p=>l.callR hh lV p
 obtain⟨ad',e,hlt,_⟩:=hR.2 hn;rw[ha] at e;injection e with e;subst e;have:=lV.own (B:=w.heap.size) (ql6 _) hh _ hm;omega
end
end
theorem qao{w:World}{A B:Option Addr}{c d:Nat}{L:List (List Nat)}(hA:LeafIn w A L [])(hB:LeafIn w B L [])(hL6:L.length<=65536):
 Calls Tryz.prog 20 #[.slice A L.length c,.slice B L.length d] w (zak (.bool true) w):=by
 have LA:=qrf hA;have LB:=qrf hB;have DK:(Tryz.prog).eqGuardType (Tryz.prog).depth 35=false:=by kernel_rfl
 have DK:=qrf DK;clear hA hB;go_enter Tryz.func20,Tryz.ntmps20
 go_wp2_with fail
 go_loopw [5] (fun i wr=>∃k:Nat,k<=L.length/\i= .int .i64 (k:Int)/\Hid (New w wr)) (fun i _=>L.length-(intOf i).toNat)
 case atStart=>exact⟨0,ql7 _,rfl,qrf (qrz _)⟩
 case round=>
  obtain⟨k,hk,rfl,b⟩:=hrel;by_cases hlt:k<L.length
  ·obtain⟨ad,rfl,ha⟩:=LA.out.at_ hlt
   obtain⟨bd,rfl,hb⟩:=LB.out.at_ hlt;have hx:=LA.out.digs _ (zgu hlt);have EQ:=qrf (fun(W:World)=>show(binOp .neq 35 (.agg (zah .u8 (L.getD k [])).toArray) (.agg (zah .u8 (L.getD k [])).toArray)).run Tryz.prog W= .ok (.bool false) W from by have:=qgl hx hx W;rw[decide_eq_true rfl] at this;exact zxp this);have HX:=qrf hx;have HA:=qrf ha;have HB:=qrf hb;have hki:(k:Int)<(L.length:Int):=by omega
   clear ha hb hx;generalize L.getD k []=x at*;go_wp2_with fail
   refine zaw New [(true,0),(true,1),(true,2),(true,3),(true,4),(true,5),(true,6),(true,7),(true,8)]
    qrz qr0 (by kernel_rfl) (by kernel_rfl) (by kernel_rfl) (by kernel_rfl) ?_
   have hU:=qr1 wr;iterate 3 (
    refine zaj rfl rfl (v:=?_) (fun W hW=>?_) ?_;rotate_left
    ·go_simp<;> with_reducible rfl
    simp only[Act.put,qoi,qn8,qoj])
   refine zaj rfl rfl (v:= .agg (zah .u8 x).toArray) (fun W hW=>zgs rfl (HA.out W (qr0 b.out (qr0 hU hW))) zbp rfl (qkf HX.out.1)) ?_;simp only[Act.put,qoi,qn8,qoj];iterate 3 (
    refine zaj rfl rfl (v:=?_) (fun W hW=>?_) ?_;rotate_left
    ·go_simp<;> with_reducible rfl
    simp only[Act.put,qoi,qn8,qoj])
   refine zaj rfl rfl (v:= .agg (zah .u8 x).toArray) (fun W hW=>zgs rfl (HB.out W (qr0 b.out (qr0 hU hW))) zbp rfl (qkf HX.out.1)) ?_;simp only[Act.put,qoi,qn8,qoj];refine zaj rfl rfl (v:= .bool false) (fun W hW=>z6j rfl rfl DK.out (EQ.out W)) ?_;simp only[Act.put,qoi,qn8,qoj];refine zda ?_;have BE:=qrf (qr0 b.out hU);clear hU HA HB EQ HX;go_wp2_with fail
   go_roundw
   case rel=>exact⟨k+1,by omega,by go_num,BE⟩
   case measure=>simp[intOf];omega
  ·obtain rfl:k=L.length:=by omega
   go_wp2_with fail
   go_ret
   exact⟨rfl,b.out⟩
theorem zqp{w W:World}{A:Option Addr}{L:List (List Nat)}(h:DigsIn w W A L)(n:New w W):LeafIn W A L []:=
 ⟨h.2.elim (fun r=>qsg r n) (fun r=>r.1),h.1,fun _ _ _ hm=>nomatch hm⟩
theorem zrb{w:World}{s:List Nat}{A B O:Option Addr}{c d e:Nat}{D:List zcx}{L:List (List Nat)}{own:List Nat}(hs8:∀z∈s,z<256)(hsl:s.length<=140737488351232)
 (hR:RowsAt w A D.length c D)(hf:PartsFine D)(hn:D.length<=4611686018427387903)(kR:Reads w w.heap.size 32 B L.length (recs zfh L))(kD:Digs L)(oR:Reads w w.heap.size 1 O own.length (zah .u8 own))(o8:∀x∈own,x<256)(oc:own.length<=e)(ocm:e<=9223372036854775807)(hG:GlobIn w):
 Calls Tryz.prog 3 #[.string (zai s),.slice A D.length c,.slice B L.length d,.slice O own.length e] w (zak (.bool true) w):=by
 have SM:=qrf (zzl w hG);have HR:=qrf hR;have HF:=qrf hf;have HK:=qrf (qok kR kD);have HO:=qrf (qok oR (qok o8 (qok oc ocm)));have HG:=qrf hG;have S8:=qrf hs8;have z1:=zbt s;clear hR hf kR kD oR o8 oc ocm hG hs8;go_enter Tryz.func3,Tryz.ntmps3
 go_wp2_with fail
 refine SM.out.mono ?_;rintro e0 w1 ⟨rfl,b1⟩;have B1:=qrf b1;have FW:=qrf (qbf (HR.out.later b1) (by omega) (fun p hp=>(HF.out p hp).2));clear SM b1;go_wp2_with fail
 refine FW.out.mono ?_;rintro e0 w2 ⟨rfl,rfl⟩;obtain⟨fw,hfw⟩:∃fw,fw=qj7 (bytesOf D):=⟨_,rfl⟩;rw[<-hfw];have HFW:=qrf hfw;clear hfw FW;go_wp2_with fail
 refine new_any.mono ?_;rintro e0 w2 ⟨rfl,rfl⟩;have l1:=zm1 w1 w.heap.size;obtain⟨w3,hw3⟩:∃W,W=w1.alloc (.cells #[.slice none 0 0] 86):=⟨_,rfl⟩;have b3:New w w3:=by rw[hw3];exact qr0 B1.out (zac _ _)
 rw[<-hw3] at l1;rw[<-hw3];have hgw:w.heap.size<=w1.heap.size:=B1.out.size;generalize w1.heap.size=g at*;have B3:=qrf b3;have L1:=qrf l1;clear hw3 B1 b3 l1;obtain⟨S,hS⟩:∃S,S=zai s:=⟨_,rfl⟩;have HS:=qrf hS;rw[<-hS] at z1⊢;obtain⟨p,hp⟩:∃p,p=s.length:=⟨_,rfl⟩;have HP:=qrf hp;rw[<-hp] at z1 hsl;clear hS hp;cases fw with
 |false=>
  go_wp2
  go_ret
  exact⟨rfl,B3.out⟩
 |true=>
 by_cases a1:300<p
 ·have e1:decide ((300:Int)<(p:Int))=true:=decide_eq_true (by omega)
  go_wp2
  go_ret
  exact⟨rfl,B3.out⟩
 have e1:decide ((300:Int)<(p:Int))=false:=decide_eq_false (by omega);by_cases a2:30<L.length
 ·have e2:decide ((30:Int)<(L.length:Int))=true:=decide_eq_true (by omega)
  go_wp2
  go_ret
  exact⟨rfl,B3.out⟩
 have e2:decide ((30:Int)<(L.length:Int))=false:=decide_eq_false (by omega);by_cases a3:300<own.length
 ·have e3:decide ((300:Int)<(own.length:Int))=true:=decide_eq_true (by omega)
  go_wp2
  go_ret
  exact⟨rfl,B3.out⟩
 have e3:decide ((300:Int)<(own.length:Int))=false:=decide_eq_false (by omega);by_cases a4:30<D.length
 ·have e4:decide ((30:Int)<(D.length:Int))=true:=decide_eq_true (by omega)
  go_wp2
  go_ret
  exact⟨rfl,B3.out⟩
 have e4:decide ((30:Int)<(D.length:Int))=false:=decide_eq_false (by omega);obtain⟨h,hh⟩:∃h,h=w3.heap.size:=⟨_,rfl⟩;obtain⟨w4,hw4⟩:∃W,W=w3.alloc (.cells #[.slice none 0 0] 31):=⟨_,rfl⟩;have hhw:w.heap.size<=h:=by rw[hh];exact B3.out.size
 have S4:Lr w g h w4 [] []:=by rw[hh,hw4];exact⟨_,_,L1.out.new (zac _ _),⟨none,0,0,[],rfl,qrv _ _ _,qru,(fun _ hd=>nomatch hd),rfl⟩,by simp[zbg,Value.ownBlock],qr0 B3.out (zac _ _)⟩
 have HH:=qrf hh;have HW4:=qrf hw4;have hfw:zem (bytesOf D)<=1500:=(of_decide_eq_true (show decide ((bytesOf D).length<=260/\zem (bytesOf D)<=1500)=true from HFW.out.symm)).2;have hpl:∀q∈bytesOf D,q.length<=9000000:=fun q hq=>by have:q.length<=zem (bytesOf D):=zzm hq;omega
 have hsl2:s.length<=140737488351232:=by rw[<-HP.out];exact hsl
 obtain⟨kR,kD⟩:=HK.out;obtain⟨oR,o8,oc,ocm⟩:=HO.out;have hfine:∀q∈bytesOf D,(∀x∈q,x<256)/\q.length<=9000000:=fun q hq=>⟨(HF.out q hq).1,hpl q hq⟩
 have g1:GoodF (lvF s (bytesOf D)):=fun q hq=>zid S8.out hfine q (qqt _ hq)
 have g2:GoodF (ovF zbx (bytesOf D)):=zid (by decide) hfine;have g3:GoodF (ovF zcc L):=zid (by decide) (fun q hq=>zoi (kD q hq));have g4:GoodF (ovF zbv L):=zid (by decide) (fun q hq=>zoi (kD q hq));have g5:GoodF (zjx own (ovD zbv L)):=zxb o8 (by omega) (zfy _ _);have n1:(lvF s (bytesOf D)).length<=30:=by have:=zj8 s (bytesOf D);rw[zby] at this;omega
 have n2:(ovF zbx (bytesOf D)).length<=61:=by have:=zme zbx (bytesOf D);rw[zby] at this;omega
 have n3:=zme zcc L;have n4:=zme zbv L;have n5:(zjx own (ovD zbv L)).length=1:=rfl;have P1:=qrf (fun(W:World) (l:Lr w g h W [] [])=>qet (c:=c) HR.out HF.out hpl hgw HG.out l S8.out hsl2 (by simp;omega));have P2:=qrf (fun(W:World) (F:List (List Nat)) (l:Lr w g h W F [])=>qeu (c:=c) HR.out HF.out hpl hhw l S8.out hsl2 (by omega) (by simp;omega));have P3:=qrf (fun(W:World) (F F':List (List Nat)) (l:Lr w g h W F F') (hF:F.length<=1000)=>qh8 (c:=c) HR.out HF.out hpl hgw HG.out l (by omega));have P4:=qrf (fun(W:World) (F F':List (List Nat)) (l:Lr w g h W F F') (hF:F'.length<=1000)=>qh9 (c:=c) HR.out HF.out hpl hhw l (by omega) (by omega));have P5:=qrf (fun(W:World) (F F':List (List Nat)) (l:Lr w g h W F F') (hF:F.length<=1000)=>qia (c:=d) kR kD hgw HG.out l (by omega));have P6:=qrf (fun(W:World) (F F':List (List Nat)) (l:Lr w g h W F F') (hF:F'.length<=1000)=>qib (c:=d) kR kD hhw l (by omega) (by omega));have P7:=qrf (fun(W:World) (F F':List (List Nat)) (l:Lr w g h W F F') (hF:F.length<=1000)=>qev (c:=d) kR kD hgw HG.out l (by omega));have P8:=qrf (fun(W:World) (F F':List (List Nat)) (l:Lr w g h W F F') (hF:F'.length<=1000)=>qew (c:=d) kR kD hhw l (by omega) (by omega));have P9:=qrf (fun(W:World) (F F':List (List Nat)) (l:Lr w g h W F F') (hF:F.length<=1000)=>qj5 (b:=ovD zbv L) oR o8 oc ocm (by omega) (zfy _ _) hgw HG.out l (by omega));have Pa:=qrf (fun(W:World) (F F':List (List Nat)) (l:Lr w g h W F F') (hF:F'.length<=1000)=>qj6 (b:=ovD zbv L) oR o8 oc ocm (by omega) (zfy _ _) hhw l (by omega));have q2:=zfy zbx (bytesOf D);have q3:=zfy zcc L;have q4:=zfy zbv L;have q5:zim (zqz own (ovD zbv L)):=zbu _ _;have hlP:(lvD s (bytesOf D)).length<=30:=by rw[zg5,zby];omega
 rw[<-HS.out] at P1 P2;generalize lvD s (bytesOf D)=lp at*;generalize lvF s (bytesOf D)=f1 at*;generalize ovF zbx (bytesOf D)=f2 at*;generalize ovF zcc L=f3 at*;generalize ovF zbv L=f4 at*;generalize zjx own (ovD zbv L)=f5 at*;generalize zqz own (ovD zbv L)=v5 at*;generalize ovD zbv L=v4 at*;generalize ovD zcc L=v3 at*;generalize ovD zbx (bytesOf D)=v2 at*;obtain⟨c2,e2',i2,z2,u2,-⟩:=zex q2;obtain⟨c3,e3',i3,z3,u3,-⟩:=zex q3;obtain⟨c4,e4',i4,z4,u4,-⟩:=zex q4;obtain⟨c5,e5',i5,z5,u5,-⟩:=zex q5;have EQ2:=fun W=>qgl q2 q2 W
 rw[e2',decide_eq_true rfl] at EQ2;have EQ3:=fun W=>qgl q3 q3 W
 rw[e3',decide_eq_true rfl] at EQ3;have EQ4:=fun W=>qgl q4 q4 W
 rw[e4',decide_eq_true rfl] at EQ4;have EQ5:=fun W=>qgl q5 q5 W
 rw[e5',decide_eq_true rfl] at EQ5;rw[e2'] at P3 P4;rw[e3'] at P5 P6;rw[e4'] at P7 P8 P9 Pa;rw[e5'] at P9 Pa;have I2:=qrf i2;have Z2:=qrf z2;have U2:=qrf u2;have I3:=qrf i3;have Z3:=qrf z3;have U3:=qrf u3;have I4:=qrf i4;have Z4:=qrf z4;have U4:=qrf u4;have I5:=qrf i5;have Z5:=qrf z5;have U5:=qrf u5;have HQ4:=qrf EQ4;have HQ5:=qrf EQ5;have HN:=qrf (qok n1 (qok n2 (qok n3 (qok n4 (qok n5 (show L.length<=30 by omega))))));have HGF:=qrf (qsm (qsm (qsm (qsm g1 g2) g3) g4) g5);have HLP:=qrf hlP;have R4:=qrf S4;have HG2:=qrf (qok hgw hhw);clear q2 q3 q4 q5 e2' e3' e4' e5' i2 z2 u2 i3 z3 u3 i4 z4 u4 i5 z5 u5 n1 n2 n3 n4 n5 g1 g2 g3 g4 g5 hlP S4 hfw hpl hsl2 kR kD oR o8 oc ocm hfine hh hw4 hgw hhw HFW HR HF HK HO S8 a1 a2 a3 a4 L1;clear EQ4 EQ5;go_wp2_with fail
 rw[<-HW4.out,<-HH.out]
 (with_reducible refine(P1.out w4 R4.out).mono ?_)
 rintro e0 w5 ⟨A1,y1,rfl,h1,i1,R5,k5⟩;have P2:=qrf (P2.out w5 _ R5);have H1:=qrf h1;have i1:=qrf i1;clear R4 R5 k5 P1 HW4 e1 e2 e3 e4 h1;go_wp2_with fail
 (with_reducible refine P2.out.mono ?_)
 rintro e0 w6 ⟨A2,y2,rfl,-,j1,R6,k6⟩;rw[qmx] at R6;have I1:=qrf (DigsIn.keepD i1.out k6);have J1:=qrf j1;have C3:=qrf (P3.out w6 _ _ R6 (by have:=HN.out;omega));have R6:=qrf R6;clear i1 j1 k6 P2 P3;go_wp2_with fail
 (with_reducible refine C3.out.mono ?_)
 rintro e0 w7 ⟨rfl,R7,k7⟩;have C4:=qrf (P4.out w7 _ _ R7 (by have:=HN.out;omega));have K7:=qrf k7;clear C3 P4 R7 k7 R6;go_wp2_with fail
 (with_reducible refine C4.out.mono ?_)
 rintro e0 w8 ⟨rfl,R8,k8⟩;have C5:=qrf (P5.out w8 _ _ R8 (by have:=HN.out;rw[qmv];omega));have K8:=qrf (K7.out.trans k8);clear C4 P5 R8 k8 K7;go_wp2_with fail
 (with_reducible refine C5.out.mono ?_)
 rintro e0 w9 ⟨rfl,R9,k9⟩;have C6:=qrf (P6.out w9 _ _ R9 (by have:=HN.out;rw[qmv];omega));have K9:=qrf (K8.out.trans k9);clear C5 P6 R9 k9 K8;go_wp2_with fail
 (with_reducible refine C6.out.mono ?_)
 rintro e0 w10 ⟨rfl,R10,k10⟩;have C7:=qrf (P7.out w10 _ _ R10 (by have:=HN.out;rw[qmv,qmv];omega));have K10:=qrf (K9.out.trans k10);clear C6 P7 R10 k10 K9;go_wp2_with fail
 (with_reducible refine C7.out.mono ?_)
 rintro e0 w11 ⟨rfl,R11,k11⟩;have m12:=zac w11 (.cells c4 35);have R12:=R11.new m12;have K12:=qrf ((K10.out.trans k11).trans (qsx m12));have G12:=qrf (qrv w11 tD c4);obtain⟨w12,hw12⟩:∃W,W=w11.alloc (.cells c4 35):=⟨_,rfl⟩;rw[<-hw12] at R12 K12 G12;have HW12:=qrf hw12;have C8:=qrf (P8.out w12 _ _ R12 (by have:=HN.out;simp only[qmv];omega));clear C7 P8 R11 R12 k11 K10 m12 hw12 EQ2 EQ3;go_upto_region 12 with(refine wpList_store_row rfl 35 (.tmp 17) (.tmp 82) rfl w11.heap.size c4 rfl rfl _ _ (heap_alloc_new _ _) I4.out Z4.out U4.out ?_;rw[zbb])
 rw[<-HW12.out];clear HW12;generalize w11.heap.size=b17 at*;go_wp2_with fail
 (with_reducible refine C8.out.mono ?_)
 rintro e0 w13 ⟨rfl,R13,k13⟩;have m14:=zac w13 (.cells c4 35);have R14:=R13.new m14;have K14:=qrf ((K12.out.trans k13).trans (qsx m14));have G1214:=qrf ((k13.trans (qsx m14)).2 _ _ G12.out);have G14:=qrf (qrv w13 tD c4);obtain⟨w14,hw14⟩:∃W,W=w13.alloc (.cells c4 35):=⟨_,rfl⟩;rw[<-hw14] at R14 K14 G14 G1214;have HW14:=qrf hw14;have C9:=qrf (P9.out w14 _ _ R14 (by have:=HN.out;simp only[qmv];omega));clear C8 P9 R13 R14 k13 K12 m14 hw14 G12;go_upto_region 13 with(refine wpList_store_row rfl 35 (.tmp 18) (.tmp 85) rfl w13.heap.size c4 rfl rfl _ _ (heap_alloc_new _ _) I4.out Z4.out U4.out ?_;rw[zbb])
 rw[<-HW14.out];clear HW14;generalize w13.heap.size=b18 at*;go_wp2_with (refine zna rfl (.tmp 17) rfl b17 c4 rfl G1214.out I4.out ?_)
 (with_reducible refine C9.out.mono ?_)
 rintro e0 w15 ⟨rfl,R15,k15⟩;have m16:=zac w15 (.cells c5 35);have R16:=R15.new m16;have k16:=k15.trans (qsx m16);have K16:=qrf (K14.out.trans k16);have GA:=qrf (k16.2 _ _ G1214.out);have GB:=qrf (k16.2 _ _ G14.out);have GC:=qrf (qrv w15 tD c5);obtain⟨w16,hw16⟩:∃W,W=w15.alloc (.cells c5 35):=⟨_,rfl⟩;rw[<-hw16] at R16 K16 GA GB GC;have HW16:=qrf hw16;have Ca:=qrf (Pa.out w16 _ _ R16 (by have:=HN.out;simp only[qmv];omega));clear C9 Pa R15 R16 k15 k16 K14 m16 hw16 G1214 G14;go_upto_region 14 with(refine wpList_store_row rfl 35 (.tmp 19) (.tmp 89) rfl w15.heap.size c5 rfl rfl _ _ (heap_alloc_new _ _) I5.out Z5.out U5.out ?_;rw[zbb])
 rw[<-HW16.out];clear HW16;generalize w15.heap.size=b19 at*;go_wp2_with (refine zna rfl (.tmp 18) rfl b18 c4 rfl GB.out I4.out ?_)
 (with_reducible refine Ca.out.mono ?_)
 rintro e0 w17 ⟨rfl,R17,k17⟩;have m18:=zac w17 (.cells c5 35);have R18:=R17.new m18;have k18:=k17.trans (qsx m18);have K18:=K16.out.trans k18;have HA:=qrf (k18.2 _ _ GA.out);have HB:=qrf (k18.2 _ _ GB.out);have HC:=qrf (k18.2 _ _ GC.out);have HD:=qrf (qrv w17 tD c5);have I18:=I1.out.keepD K18;have J18:=J1.out.keepD K18;obtain⟨w18,hw18⟩:∃W,W=w17.alloc (.cells c5 35):=⟨_,rfl⟩;rw[<-hw18] at R18 HA HB HC HD I18 J18;have HW18:=qrf hw18;have R18:=qrf R18;have I18:=qrf I18;have J18:=qrf J18;clear Ca R17 k17 k18 K18 m18 hw18 K16 GA GB GC I1 J1;go_upto_region 15 with(refine wpList_store_row rfl 35 (.tmp 20) (.tmp 93) rfl w17.heap.size c5 rfl rfl _ _ (heap_alloc_new _ _) I5.out Z5.out U5.out ?_;rw[zbb])
 rw[<-HW18.out];clear HW18;generalize w17.heap.size=b20 at*;obtain⟨F,hF⟩:∃F,F=f1++f2++f3++f4++f5:=⟨_,rfl⟩;have GF:=qrf (show GoodF F by rw[hF];exact HGF.out);have hFl:F.length<=1000:=by rw[hF];have:=HN.out;simp only[qmv];omega
 have R18:=qrf (show Lr w g h w18 F F by rw[hF];exact R18.out);clear hF HGF HN;obtain⟨V,l⟩:=R18.out.left;obtain⟨V',l'⟩:=R18.out.right;obtain⟨Am,cm,Dm,_,RM,hbm,hcm2⟩:=l'.rows;have hlt':=l'.lt;have FR:=qrf (fun(W:World) (hW:New w18 W)=>zox (l.new hW) (by omega) (fun q hq=>by have:=(GF.out q hq).2;omega));have CM:=qrf (fun(W:World) (hW:New w18 W)=>(qro hW (p:=⟨h,0,none⟩) hlt').trans hcm2);have RMh:=qrf RM;have HBM:=qrf hbm;have B18:=qrf R18.out.news;obtain⟨nf,hnf⟩:∃n,n=F.length:=⟨_,rfl⟩;rw[<-hnf] at CM RMh hFl;have HNF:=qrf hnf;have DK:(Tryz.prog).eqGuardType (Tryz.prog).depth 35=false:=by kernel_rfl
 have DK:=qrf DK;have SD:=qrf (fun(W:World) (hW:New w18 W)=>show Calls Tryz.prog 20 #[.slice A1 D.length y1,.slice A2 D.length y2] W (zak (.bool true) W) from by have b:=qr0 B18.out hW;have:=qao (c:=y1) (d:=y2) (zqp (DigsIn.keepD I18.out (qsx hW)) b) (zqp (DigsIn.keepD J18.out (qsx hW)) b) (by have:=HLP.out;omega);rwa[<-H1.out] at this)
 clear l l' RM hbm hcm2 hlt' R18 hnf I18 J18 H1 HLP;go_wp2_with fail
 refine zaw New [(true,0),(true,1),(true,2),(true,3),(false,4),(true,5),(true,6),(true,7),(true,8),(true,9),(true,10),(true,11),(true,12),(true,13),(true,14),(true,15),(true,16),(true,17),(true,18),(true,19),(true,20),(true,21),(true,22),(true,23),(true,25),(true,26),(true,27),(true,28),(false,24),(false,29),(true,30),(true,31)]
  qrz qr0 (by kernel_rfl) (by kernel_rfl) (by kernel_rfl) (by kernel_rfl) ?_
 have hU:=qr1 w18;iterate 4 (
  refine zaj rfl rfl (v:=?_) (fun W hW=>?_) ?_;rotate_left
  ·go_simp<;> with_reducible rfl
  simp only[Act.put,qoi,qn8,qoj])
 refine za6 rfl rfl (fun K hK=>?_);go_simp
 (with_reducible refine(SD.out _ hU).mono ?_)
 rintro e0 u1 ⟨rfl,b1⟩;refine hK _ _ b1 ?_;clear hK;replace hU:=qr0 hU b1;clear b1;iterate 8 (
  refine zaj rfl rfl (v:=?_) (fun W hW=>?_) ?_;rotate_left
  ·go_simp<;> with_reducible rfl
  simp only[Act.put,qoi,qn8,qoj])
 refine zaj rfl rfl (v:= .agg c4) (fun W hW=>zcg rfl (qrw HA.out (qr0 hU hW) HA.out.lt) zbp rfl I4.out) ?_;simp only[Act.put,qoi,qn8,qoj];refine zaj rfl rfl (v:= .agg c4) (fun W hW=>zcg rfl (qrw HB.out (qr0 hU hW) HB.out.lt) zbp rfl I4.out) ?_;simp only[Act.put,qoi,qn8,qoj];refine zaj rfl rfl (v:= .bool true) (fun W hW=>znx rfl rfl DK.out (HQ4.out W)) ?_;simp only[Act.put,qoi,qn8,qoj];iterate 2 (
  refine zaj rfl rfl (v:=?_) (fun W hW=>?_) ?_;rotate_left
  ·go_simp<;> with_reducible rfl
  simp only[Act.put,qoi,qn8,qoj])
 refine zaj rfl rfl (v:= .agg c5) (fun W hW=>zcg rfl (qrw HC.out (qr0 hU hW) HC.out.lt) zbp rfl I5.out) ?_;simp only[Act.put,qoi,qn8,qoj];refine zaj rfl rfl (v:= .agg c5) (fun W hW=>zcg rfl (qrw HD.out (qr0 hU hW) HD.out.lt) zbp rfl I5.out) ?_;simp only[Act.put,qoi,qn8,qoj];refine zaj rfl rfl (v:= .bool true) (fun W hW=>znx rfl rfl DK.out (HQ5.out W)) ?_;simp only[Act.put,qoi,qn8,qoj];iterate 3 (
  refine zaj rfl rfl (v:=?_) (fun W hW=>?_) ?_;rotate_left
  ·go_simp<;> with_reducible rfl
  simp only[Act.put,qoi,qn8,qoj])
 iterate 4 (
  refine zaj rfl rfl (v:=?_) (fun W hW=>?_) ?_;rotate_left
  ·have c0:=CM.out W (qr0 hU hW)
   go_simp<;> with_reducible rfl
  simp only[Act.put,qoi,qn8,qoj])
 refine za6 rfl rfl (fun K hK=>?_);go_simp
 (with_reducible refine(FR.out _ hU).mono ?_)
 rintro e17 u2 ⟨A7,c7,D7,rfl,o7,p7,h7,b7⟩;refine hK _ _ b7 ?_;clear hK;have R7:=FramesPost.rows o7 p7;have hU7:=qr0 hU b7;have SA:=zsv R7 (RMh.out.later hU7) (by rw[h7];exact fun q hq=>(GF.out q hq).1) (by rw[HBM.out];exact fun q hq=>(GF.out q hq).1) (by rw[<-HNF.out];omega) (by omega);rw[decide_eq_true (show bytesOf D7=bytesOf Dm by rw[h7,HBM.out])] at SA;rw[<-HNF.out] at SA⊢;replace SA:=qrf SA;clear o7 p7 h7 R7;refine za6 rfl rfl (fun K hK=>?_);go_simp
 (with_reducible refine SA.out.mono ?_)
 rintro e18 u3 ⟨rfl,b8⟩;refine hK _ _ b8 ?_;clear hK;iterate 2 (
  refine zaj rfl rfl (v:=?_) (fun W hW=>?_) ?_;rotate_left
  ·go_simp<;> with_reducible rfl
  simp only[Act.put,qoi,qn8,qoj])
 refine zda ?_;have BE:=qrf (qr0 B18.out (qr0 hU7 b8));go_wp2
 go_ret
 exact⟨rfl,BE.out⟩
open Go.WideShapes Go.ChangeShapes in
theorem zl1{H:Type}{enc:TypeId × Value->H}(W:World)(base:Nat)(args:Array Value)(ds:List (DataW H))(ps:List MemPlace)
 (hval:∀(j:Nat) t v,Tryz.f3.params[j]? =some t->args[j]? =some v->Value.okWide Tryz.prog W .any base t v)
 (hA:DataW.TrodAll enc Tryz.prog W 0 (fun _=>true) true Tryz.f3.params.toList args.toList ds ps)(hlt:∀p∈ps,p.block<W.heap.size)
 (hsz:(DataW.weightsEach Tryz.prog Tryz.f3.params.toList ds).all (· <=reachBytes)=true)(hL:laidMetH Tryz.prog zxo W):
 Calls Tryz.prog 3 args W fun e W'=>e= .returned (.bool true)/\Below W.heap.size W W':=by
 rw[Tryz.params3] at hA hval hsz;obtain⟨v0,v1,v2,v3,d0,d1,d2,d3,p0,p1,p2,p3,rfl,rfl,rfl,h0,h1,h2,h3⟩:=trodAll_four hA;obtain⟨kind,rfl,h8_kind,hl_kind⟩:=qil (hval 0 _ _ rfl rfl) h0 (fun p hp=>hlt p (by simp[hp])) (znw hsz (j:=0) rfl rfl);obtain⟨A_own,c_own,own,rfl,hc_own,hm_own,hr_own,hl_own⟩:=qij (hval 3 _ _ rfl rfl) h3 (fun p hp=>hlt p (by simp[hp])) (znw hsz (j:=3) rfl rfl);obtain⟨A_l,c_l,L_l,rfl,hr,hf,hm⟩:=qgj (hval 1 _ _ rfl rfl) h1 (fun p hp=>hlt p (by simp[hp])) (znw hsz (j:=1) rfl rfl);obtain⟨A_d,c_d,L_d,rfl,kr,kd,kc,km⟩:=qgk (hval 2 _ _ rfl rfl) h2 (fun p hp=>hlt p (by simp[hp])) (znw hsz (j:=2) rfl rfl);exact zrb h8_kind hl_kind hr hf hm kr kd hr_own hl_own hc_own (by omega) (zxc hL)
end Go.Proofs.Y
