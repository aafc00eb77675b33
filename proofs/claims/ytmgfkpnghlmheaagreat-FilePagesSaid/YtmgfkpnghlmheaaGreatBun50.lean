/- Merged. -/
import Derived.Test.YtmgfkpnghlmheaaGreatBun33
import Derived.Test.YtmgfkpnghlmheaaGreatBun49
set_option maxHeartbeats 4000000
namespace Go.Proofs.Y
open Go Go.RowKit Go.Hm
def zdq(C:List (List (List (List Nat))))(k j q:Nat):List (List Nat):=(C.take k).flatten.flatten++(((C.getD k []).take j).flatten++((C.getD k []).getD j []).take q)
section
variable{C:List (List (List (List Nat)))}{k j q:Nat}
theorem zpw:zdq C 0 0 0=[]:=by simp[zdq]
theorem zyt(hq:q<((C.getD k []).getD j []).length):zdq C k j (q+1)=zdq C k j q++[((C.getD k []).getD j []).getD q []]:=by unfold zdq;rw[zae _ q [] hq,List.append_assoc,List.append_assoc]
theorem zwl(hj:j<(C.getD k []).length)(hq:q=((C.getD k []).getD j []).length):zdq C k j q=zdq C k (j+1) 0:=by subst hq;unfold zdq;rw[zae _ j [] hj,List.take_length];simp
theorem zwm(hk:k<C.length)(hj:j=(C.getD k []).length):zdq C k j 0=zdq C (k+1) 0 0:=by subst hj;unfold zdq;rw[zae _ k [] hk,List.take_length];simp
theorem z30(hk:k=C.length):zdq C k 0 0=C.flatten.flatten:=by subst hk;unfold zdq;rw[List.take_length];simp
theorem zr0(hk:k<C.length)(hj:j<(C.getD k []).length):∃R,C.flatten.flatten=zdq C k j q++R:=by
 have h1:C=C.take k++(C.getD k []::C.drop (k+1)):=by
  conv=>lhs;rw[<-List.take_append_drop k C]
  congr 1
  rw[List.getD_eq_getElem?_getD,List.getElem?_eq_getElem hk];exact List.drop_eq_getElem_cons hk
 have h2:C.getD k []=(C.getD k []).take j++((C.getD k []).getD j []::(C.getD k []).drop (j+1)):=by
  conv=>lhs;rw[<-List.take_append_drop j (C.getD k [])]
  congr 1
  rw[List.getD_eq_getElem?_getD (l:=C.getD k []),List.getElem?_eq_getElem hj];exact List.drop_eq_getElem_cons hj
 unfold zdq;generalize C.getD k []=X at*;generalize X.getD j []=Y at*;refine⟨Y.drop q++(X.drop (j+1)).flatten++(C.drop (k+1)).flatten.flatten,?_⟩;conv=>lhs;rw[h1,h2]
 simp only[List.flatten_append,List.flatten_cons,List.append_assoc];rw[<-List.append_assoc (Y.take q) (Y.drop q),List.take_append_drop]
theorem z9j(hk:k<C.length)(hj:j<(C.getD k []).length):(zdq C k j q).length<=C.flatten.flatten.length:=by obtain⟨R,e⟩:=zr0 (q:=q) hk hj;rw[e,List.length_append];omega
theorem zr1(hk:k<C.length)(hj:j<(C.getD k []).length):(zdq C k j q).flatten.length<=C.flatten.flatten.flatten.length:=by obtain⟨R,e⟩:=zr0 (q:=q) hk hj;rw[e,List.flatten_append,List.length_append];omega
end
theorem zmm{L:List za1}{r:Int}{D:List zdw}{gr pr:Int}{E:List Int}(h:(zfc L r D gr pr E).1=0):zfo L r D=0/\zdv gr pr E L=0:=by
 unfold zfc at h;by_cases h1:zfo L r D=0
 ·rw[if_neg (by rw[h1];simp)] at h
  by_cases h2:zdv gr pr E L=0
  ·exact⟨h1,h2⟩
  ·rw[if_pos h2] at h;exact absurd h h2
 ·rw[if_pos h1] at h;exact absurd h h1
theorem qiw{w:World}{Ac:Option Addr}{cc:Nat}{L:List za1}{r:Int}{Ad:Option Addr}{DD:List zdw}{gr pr:Int}{E:List Int}(h:TabIn w Ac cc L Ad DD)(hfi:∀d∈DD,∀y∈d.2.2,CellFine y)(h0:zfo L r DD=0)(h1:zdv gr pr E L=0):WrOk L r (DD.map (·.2.2)) gr pr:=by
 obtain⟨a1,a2,a3,a4,a5⟩:=zpo h0;have hck:zb5 L=0:=by
  unfold zfo at h0;split at h0
  ·rename_i q;exact absurd h0 q
  ·rename_i q;exact Decidable.not_not.1 q
 have hcf:(1<=gr/\gr<=65536)/\1<=pr/\pr<=65536:=by
  unfold zdv at h1;split at h1
  ·omega
  ·rename_i hg
   have hg:=Decidable.not_not.1 hg;exact⟨⟨hg.1,hg.2.1⟩,hg.2.2.1,hg.2.2.2.1⟩
 exact⟨(zdi L).1 hck,fun c hc=>(h.fine c hc).1,by rw[List.length_map];exact a1,⟨a2,a3⟩,fun l hl=>by
  obtain⟨d,hd,rfl⟩:=List.mem_map.1 hl;exact a5 d hd,fun l hl c hc=>by
  obtain⟨d,hd,rfl⟩:=List.mem_map.1 hl;exact zi3 (hfi d hd c hc),hcf⟩
structure Written(L:List za1)(r:Int)(D:List (List zab))(b:List Nat)(F:FootS)(C:List (List (List (List Nat))))(own:List Nat):Prop where
 foot:zbj F
 data:zfm F
 cols:F.cols=L
 rows:F.rows=r
 opened:openO b=some (F,own)
 pages:zh7 F.groups (b.drop 4)=C
 whole:b=zfe C.flatten.flatten.flatten own
 own_:own=zei F
 few:own.length<=1073741824
 table:qc1 F C.flatten.flatten=some D
 bytes:∀x∈b,x<256
 short:b.length<=2147483660
 size:szG F.groups+own.length+12=b.length
theorem qgm{w:World}{Ac:Option Addr}{cc:Nat}{L:List za1}{r:Int}{Ad:Option Addr}{DD:List zdw}{gr pr:Int}{E:List Int}{b:List Nat}(h:TabIn w Ac cc L Ad DD)(hfi:∀d∈DD,∀y∈d.2.2,CellFine y)
 (hw:zfc L r DD gr pr E=(0,b)):∃F C own,Written L r (DD.map (·.2.2)) b F C own:=by
 obtain⟨h0,h1⟩:=zmm (L:=L) (r:=r) (D:=DD) (gr:=gr) (pr:=pr) (E:=E) (by rw[hw]);obtain⟨t1,t2,t3,t4,t5,t6,t7,t8,t9⟩:=z1b (qiw h hfi h0 h1) hw h0 h1;refine⟨_,_,_,t1,t2,rfl,rfl,t5,t6,t3,rfl,t4,?_,t8,t9,(znf t8 (by omega) t5).2.2.2.2.1⟩;unfold readO at t7;rw[t5] at t7;dsimp only at t7;unfold zmk at t7;rw[t6] at t7;split at t7
 ·cases t7
 ·rename_i C' hC'
  injection t7 with t7;injection t7 with _ t7;rw[hC',t7]
structure PageAt(b:List Nat)(F:FootS)(C:List (List (List (List Nat)))):Prop where
 groups:C.length=F.groups.length
 chunks:∀k,k<F.groups.length->(C.getD k []).length=F.cols.length/\(F.groups.getD k zaj).2.length=F.cols.length
 pages:∀k j,k<F.groups.length->j<F.cols.length->((C.getD k []).getD j []).length=(zaw F.groups k j).length
 page:∀k j q,k<F.groups.length->j<F.cols.length->q<(zaw F.groups k j).length->
  zo7 b F (k:Int) (j:Int) (q:Int)=some (((C.getD k []).getD j []).getD q [])/\((((C.getD k []).getD j []).getD q []).length:Int)=((zaw F.groups k j).getD q za9).1
 few:C.flatten.flatten.length<=4194304
 bytes:C.flatten.flatten.flatten.length<=2147483660
theorem Written.at_{L:List za1}{r:Int}{D:List (List zab)}{b:List Nat}{F:FootS}{C:List (List (List (List Nat)))}{own:List Nat}(h:Written L r D b F C own):PageAt b F C:=by
 have hs:4+szG F.groups<=b.length:=by have:=h.size;omega
 have hp:=h.pages;refine⟨by rw[<-hp,zkt],fun k hk=>⟨?_,(zcr h.foot hk).2.1⟩,fun k j hk hj=>?_,fun k j q hk hj hq=>?_,?_,?_⟩
 ·rw[<-hp,zim _ _ k hk,znb]
  exact(zcr h.foot hk).2.1
 ·have hj2:j<(F.groups.getD k zaj).2.length:=by rw[(zcr h.foot hk).2.1];exact hj
  rw[<-hp,zim _ _ k hk,Go.Hm.cutC_at _ _ j hj2,zna];rfl
 ·have hj2:j<(F.groups.getD k zaj).2.length:=by rw[(zcr h.foot hk).2.1];exact hj
  rw[<-hp];refine⟨z1d h.foot (by omega) hk hj hq,?_⟩;obtain⟨a1,a2,a3⟩:=zv6 hs hk hj2 hq;have hz:=znc h.foot _ (zal zaj hk) _ (zal [] hj2) _ (show(zaw F.groups k j).getD q za9∈zaw F.groups k j from zal za9 hq);rw[a3,List.length_take,List.length_drop];omega
 ·have:=zrz h.foot b
  unfold zmk at this;rwa[hp] at this
 ·have h1:=congrArg List.length h.whole
  rw[zio] at h1;have:=h.short;omega
structure PageBy(b:List Nat)(L:List za1)(r:Int)(Gs:List GrD)(C:List (List (List (List Nat)))):Prop where
 groups:C.length=Gs.length
 chunks:∀k,k<Gs.length->(C.getD k []).length=L.length/\(Gs.getD k grZ).2.2.2.length=L.length
 pages:∀k j,k<Gs.length->j<L.length->((C.getD k []).getD j []).length=((Gs.getD k grZ).2.2.2.getD j chZ).2.2.length
 page:∀k j q,k<Gs.length->j<L.length->q<((Gs.getD k grZ).2.2.2.getD j chZ).2.2.length->
  zo7 b (za3 L r Gs) (k:Int) (j:Int) (q:Int)=some (((C.getD k []).getD j []).getD q [])/\((((C.getD k []).getD j []).getD q []).length:Int)=(((Gs.getD k grZ).2.2.2.getD j chZ).2.2.getD q za9).1
 few:C.flatten.flatten.length<=4194304
 bytes:C.flatten.flatten.flatten.length<=2147483660
theorem PageAt.by_{b:List Nat}{L:List za1}{r:Int}{Gs:List GrD}{C:List (List (List (List Nat)))}(h:PageAt b (za3 L r Gs) C):PageBy b L r Gs C:=by
 obtain⟨h1,h2,h3,h4,h5,h6⟩:=h;unfold za3 at h1 h2 h3;dsimp only at h1 h2 h3;simp only[List.length_map] at h1 h2 h3;have hk2:∀k,k<Gs.length->(Gs.getD k grZ).2.2.2.length=L.length:=fun k hk=>by have:=(h2 k hk).2;rw[zbe grP Gs grZ zaj hk] at this;unfold grP at this;simpa using this
 have hpa:∀k j,k<Gs.length->j<L.length->zaw (Gs.map grP) k j=((Gs.getD k grZ).2.2.2.getD j chZ).2.2:=fun k j hk hj=>by unfold zaw;rw[zbe grP Gs grZ zaj hk];unfold grP;dsimp only;rw[zbe (fun x:ChD=>x.2.2) _ chZ [] (by rw[hk2 k hk];exact hj)]
 refine⟨h1,fun k hk=>⟨(h2 k hk).1,hk2 k hk⟩,fun k j hk hj=>by rw[h3 k j hk hj,hpa k j hk hj],fun k j q hk hj hq=>?_,h5,h6⟩;have:=h4 k j q (by unfold za3;simpa using hk) hj (by unfold za3;dsimp only;rw[hpa k j hk hj];exact hq);have e:zaw (za3 L r Gs).groups k j=((Gs.getD k grZ).2.2.2.getD j chZ).2.2:=hpa k j hk hj;rw[e] at this;exact this
theorem qgn{w:World}{n i:Nat}{A:Option Addr}{l:List GrD}(h:Reads w w.heap.size 2 A n (recs grV l))(hi:i<n):
 ∃ad,A=some ad/\ ∀W,New w W->W.cell? (ad.add (i*2))=some (.int .i64 (l.getD i grZ).1)/\W.cell? ⟨(ad.add (i*2)).block,(ad.add (i*2)).off+1,none⟩=some (.slice (l.getD i grZ).2.1 (l.getD i grZ).2.2.2.length (l.getD i grZ).2.2.1):=by
 obtain⟨ad,rfl,_⟩:=h.gr2 hi;refine⟨ad,rfl,fun W hW=>?_⟩;obtain⟨ad',e,_,e0,e1⟩:=(Reads.later h hW).gr2 hi;injection e with e;subst e;exact⟨e0,e1⟩
theorem qgo{w:World}{n i:Nat}{A:Option Addr}{l:List ChD}(h:Reads w w.heap.size 1 A n (recs chV l))(hi:i<n):
 ∃ad,A=some ad/\ ∀W,New w W->W.cell? (ad.add i)=some (.slice (l.getD i chZ).1 (l.getD i chZ).2.2.length (l.getD i chZ).2.1):=by
 obtain⟨ad,rfl,_⟩:=h.ch1 hi;refine⟨ad,rfl,fun W hW=>?_⟩;obtain⟨ad',e,_,e0⟩:=(Reads.later h hW).ch1 hi;injection e with e;subst e;exact e0
theorem z31{w:World}{n i:Nat}{A:Option Addr}{l:List zax}(h:Reads w w.heap.size 14 A n (recs zf7 l))(hi:i<n):
 ∃ad,A=some ad/\ ∀W,New w W->W.cell? (ad.add (i*14))=some (.int .i64 (l.getD i za9).1):=by
 obtain⟨ad,rfl,_⟩:=h.page14 hi;refine⟨ad,rfl,fun W hW=>?_⟩;obtain⟨ad',e,_,e0,_⟩:=(Reads.later h hW).page14 hi;injection e with e;subst e;exact e0
structure PgSt(C:List (List (List (List Nat))))(k j q B:Nat)(S:List Nat)(A:Option Addr)(c:Nat)(X:List zh6)(w:World):Prop where
 str:S=headL_film++(zdq C k j q).flatten
 row:Go.Hm.Own w B 31 (.slice A X.length c) (recs zja X)
 pages:∀d∈X,TR w 5 d.1 d.2.2.length (za2 .u8 d.2.2)
 map:X.map byP=zdq C k j q
theorem PgSt.later{C:List (List (List (List Nat)))}{k j q B:Nat}{S:List Nat}{A:Option Addr}{c:Nat}{X:List zh6}{w w':World}(h:PgSt C k j q B S A c X w)(hb:New w w'):PgSt C k j q B S A c X w':=
 ⟨h.str,h.row.later hb,fun d hd=>(h.pages d hd).below hb,h.map⟩
theorem PgSt.turn{C:List (List (List (List Nat)))}{k j q k' j' q' B:Nat}{S:List Nat}{A:Option Addr}{c:Nat}{X:List zh6}{w:World}(h:PgSt C k j q B S A c X w)(e:zdq C k j q=zdq C k' j' q'):PgSt C k' j' q' B S A c X w:=
 ⟨by rw[<-e];exact h.str,h.row,h.pages,by rw[<-e];exact h.map⟩
theorem PgSt.size{C:List (List (List (List Nat)))}{k j q B:Nat}{S:List Nat}{A:Option Addr}{c:Nat}{X:List zh6}{w:World}(h:PgSt C k j q B S A c X w)(hk:k<C.length)(hj:j<(C.getD k []).length):(zac S).size<=4+C.flatten.flatten.flatten.length:=by have h1:=zr1 (q:=q) hk hj;rw[za4,h.str,List.length_append];have:headL_film.length=4:=rfl;omega
theorem PgSt.len{C:List (List (List (List Nat)))}{k j q B:Nat}{S:List Nat}{A:Option Addr}{c:Nat}{X:List zh6}{w:World}(h:PgSt C k j q B S A c X w):X.length=(zdq C k j q).length:=by rw[<-h.map,List.length_map]
open Go.RowKit Go.Hm
def z9t(L:List za1):Int:=(L.map fun c=>(c.1.length:Int)).sum
def qeg(l:List zab):Int:=(l.map fun c=>(c.2.2.1.length:Int)).sum
def qdo(D:List zdw):Int:=(D.map fun d=>(d.2.2.length:Int)+qeg d.2.2).sum
theorem z9k{L:List za1}{k:Nat}(h:k<L.length):z9t (L.take (k+1))=z9t (L.take k)+((L.getD k ([],0,false)).1.length:Int):=by rw[zae _ k ([],0,false) h];simp[z9t]
theorem z9l{l:List zab}{k:Nat}(h:k<l.length):qeg (l.take (k+1))=qeg (l.take k)+((l.getD k (false,0,[],0,0)).2.2.1.length:Int):=by rw[zae _ k (false,0,[],0,0) h];simp[qeg]
theorem z9m{D:List zdw}{k:Nat}(h:k<D.length):qdo (D.take (k+1))=qdo (D.take k)+(((D.getD k (none,0,[])).2.2.length:Int)+qeg (D.getD k (none,0,[])).2.2):=by rw[zae _ k (none,0,[]) h];simp[qdo]
theorem zyu(a b:Int):IntKind.i64.wrap (IntKind.i64.wrap a+b)=IntKind.i64.wrap (a+b):=by rw[IntKind.wrap_i64,IntKind.wrap_i64,IntKind.wrap_i64];omega
def zwn(n:Int)(w:World)(e:Ending)(w':World):Prop:=∃b,e= .returned (.bool b)/\(b=true->IntKind.i64.wrap n<=3000)/\New w w'
set_option maxRecDepth 100000 in
theorem z9n{w:World}{Ac:Option Addr}{cc:Nat}{L:List za1}{r:Int}{Ad:Option Addr}{cd:Nat}{D:List zdw}(h:TabIn w Ac cc L Ad D):
 Calls Tryz.prog 10 #[.agg #[.slice Ac L.length cc,.int .i64 r,.slice Ad D.length cd]] w (zwn (z9t L+qdo D) w):=by
 obtain⟨W0,hW0⟩:∃W,W=w.alloc (.cells #[.slice Ac L.length cc,.int .i64 r,.slice Ad D.length cd] 25):=⟨_,rfl⟩;have b0:New w W0:=by rw[hW0];exact(Below.refl _ _).alloc (Nat.le_refl _) _
 have B0:Blk W0 w.heap.size 25 #[.slice Ac L.length cc,.int .i64 r,.slice Ad D.length cd]:=by rw[hW0];exact Blk.new _ _ _
 obtain⟨x0,x1,x2⟩:=zad B0;have T:=Hz (h.later b0);have l1:=h.few;have l2:=h.few2;go_enter Tryz.func10,Tryz.ntmps10
 have HW:=Hz hW0;rw[hW0] at x0 x1 x2;clear hW0 h;go_wp2_with fail
 rw[<-HW.out];rw[<-HW.out] at x0 x1 x2;go_loopw [3,4] (fun v i wr=>∃(k:Nat) (x:Int),i= .int .i64 (k:Int)/\v= .int .i64 x/\k<=L.length/\W0=wr/\Hid (x=IntKind.i64.wrap (z9t (L.take k)))) (fun _ i _=>L.length-(intOf i).toNat)
 case atStart=>exact⟨0,0,rfl,rfl,by omega,rfl,Hz (by rw[List.take_zero];rfl)⟩
 case round=>
  obtain⟨k,x,rfl,rfl,hk,rfl,HX⟩:=hrel;by_cases hlt:k<L.length
  ·obtain⟨ad,rfl,hbk,d0,d1,d2⟩:=T.out.cols.colT hlt
   have hx:=(T.out.fine _ (zpx ([],0,false) hlt)).2;have HS:=Hz (z9k hlt);generalize(L.getD k ([],0,false)).1=s2 at*;have zs:=za4 s2;have hiz:(k:Int)<(L.length:Int):=by omega
   have hX2:IntKind.i64.wrap (x+(s2.length:Int))=IntKind.i64.wrap (z9t (L.take (k+1))):=by rw[HS.out,HX.out,zyu]
   generalize hy:IntKind.i64.wrap (x+(s2.length:Int))=y at*;have HX2:=Hz hX2;clear hX2 HX HS;go_wp2
   go_roundw
   case rel=>exact⟨k+1,_,by go_num,rfl,by omega,trivial,HX2⟩
   case measure=>simp[intOf];omega
  ·obtain rfl:k=L.length:=by omega
   go_wp2
   go_loopw [3,5] (fun v i wr=>∃(k:Nat) (x:Int),i= .int .i64 (k:Int)/\v= .int .i64 x/\k<=D.length/\W0=wr/\Hid (x=IntKind.i64.wrap (z9t L+qdo (D.take k)))) (fun _ i _=>D.length-(intOf i).toNat)
   case atStart=>exact⟨0,_,rfl,rfl,by omega,rfl,Hz (by rw[HX.out,List.take_length,List.take_zero];simp[qdo])⟩
   case round=>
    clear HX;obtain⟨k,x,rfl,rfl,hk,rfl,HX⟩:=hrel;by_cases hlt:k<D.length
    ·obtain⟨ad,rfl,hbk,c0⟩:=T.out.data.colD hlt
     have E:=Hz (T.out.within _ (zpx (none,0,[]) hlt));have HD:=Hz (z9m hlt);generalize(D.getD k (none,0,[])).1=aA at*;generalize(D.getD k (none,0,[])).2.2=l at*;generalize(D.getD k (none,0,[])).2.1=cA at*;have hiz:(k:Int)<(D.length:Int):=by omega
     have hll:l.length<=9223372036854775807:=by have:=E.out.2.2.1;have:=E.out.2.2.2.1;omega
     have hX2:IntKind.i64.wrap (x+(l.length:Int))=IntKind.i64.wrap (z9t L+qdo (D.take k)+(l.length:Int)):=by rw[HX.out,zyu]
     generalize hy:IntKind.i64.wrap (x+(l.length:Int))=y at*;have HX2:=Hz hX2;clear hX2 HX;go_wp2
     go_loopw [3,6] (fun v i wr=>∃(j:Nat) (x:Int),i= .int .i64 (j:Int)/\v= .int .i64 x/\j<=l.length/\W0=wr/\Hid (x=IntKind.i64.wrap (z9t L+qdo (D.take k)+(l.length:Int)+qeg (l.take j)))) (fun _ i _=>l.length-(intOf i).toNat)
     case atStart=>exact⟨0,_,rfl,rfl,by omega,rfl,Hz (by rw[HX2.out,List.take_zero];simp[qeg])⟩
     case round=>
      clear HX2;obtain⟨j,x,rfl,rfl,hj,rfl,HX⟩:=hrel;by_cases hlt2:j<l.length
      ·obtain⟨E1,E2,_⟩:=E.out
       obtain⟨ad2,e2,hbk2,d0,d1,d2,d3,d4⟩:=E1.cell5 hlt2;subst e2;have hx:=(E2 _ (zpx (false,0,[],0,0) hlt2)).1;have HS:=Hz (z9l hlt2);generalize(l.getD j (false,0,[],0,0)).2.2.1=s2 at*;have zs:=za4 s2;have hiz2:(j:Int)<(l.length:Int):=by omega
       have hX2:IntKind.i64.wrap (x+(s2.length:Int))=IntKind.i64.wrap (z9t L+qdo (D.take k)+(l.length:Int)+qeg (l.take (j+1))):=by rw[HS.out,HX.out,zyu];congr 1;omega
       generalize hy2:IntKind.i64.wrap (x+(s2.length:Int))=y2 at*;have HX2:=Hz hX2;clear hX2 HX HS;clear E1 E2 d0 d1 d3 d4;go_wp2
       go_roundw
       case rel=>exact⟨j+1,_,by go_num,rfl,by omega,trivial,HX2⟩
       case measure=>simp[intOf];omega
      ·obtain rfl:j=l.length:=by omega
       go_wp2
       go_roundw
       case rel=>exact⟨k+1,_,by go_num,rfl,by omega,trivial,Hz (by rw[HX.out,HD.out,List.take_length];congr 1;omega)⟩
       case measure=>simp[intOf];omega
    ·obtain rfl:k=D.length:=by omega
     have hX:=HX.out;rw[List.take_length] at hX;have HX:=Hz hX;clear hX;go_wp2
     all_goals go_ret
     all_goals refine⟨_,rfl,fun hb=>?_,b0⟩
     all_goals first|(cases hb;done)|(rw[<-HX.out];simpa using hb)|(rw[<-HX.out];assumption)|(rw[<-HX.out];simp_all)|skip
open Go.RowKit Go.Hm
theorem z9o:zac tailL=⟨#[79,80,89,72]⟩:=rfl
set_option maxRecDepth 100000 in
theorem zqg{w:World}{Ac:Option Addr}{cc:Nat}{L:List za1}{r:Int}{Ad:Option Addr}{cd:Nat}{D:List zdw}{g p:Int}{Ae:Option Addr}{ce:Nat}{E:List Int}
 (h:TabIn w Ac cc L Ad D)(hf:∀d∈D,∀y∈d.2.2,CellFine y)(he:Reads w w.heap.size 1 Ae E.length (zeq .i64 E))(hen:E.length<=4611686018427387903):
 Calls Tryz.prog 7 #[.agg #[.slice Ac L.length cc,.int .i64 r,.slice Ad D.length cd],.agg #[.int .i64 g,.int .i64 p,.slice Ae E.length ce]] w (zt9 w):=by
 obtain⟨W1,hW1⟩:∃W,W=(w.alloc (.cells #[.slice Ac L.length cc,.int .i64 r,.slice Ad D.length cd] 25)).alloc (.cells #[.int .i64 g,.int .i64 p,.slice Ae E.length ce] 28):=⟨_,rfl⟩;have b1:New w W1:=by rw[hW1];exact((Below.refl _ _).alloc (Nat.le_refl _) _).alloc (by simp) _
 have BT:Blk W1 w.heap.size 25 #[.slice Ac L.length cc,.int .i64 r,.slice Ad D.length cd]:=by rw[hW1];exact(Blk.new _ _ _).alloc _
 have BC:Blk W1 (w.heap.size+1) 28 #[.int .i64 g,.int .i64 p,.slice Ae E.length ce]:=by rw[hW1];have:=Blk.new (w.alloc (.cells #[.slice Ac L.length cc,.int .i64 r,.slice Ad D.length cd] 25)) 28 #[.int .i64 g,.int .i64 p,.slice Ae E.length ce];rwa[World.size_alloc] at this
 have T:=Hz (fun(W:World) (hW:New W1 W)=>h.later (New.trans b1 hW));have RE:=Hz (fun(W:World) (hW:New W1 W)=>Reads.later he (New.trans b1 hW));have F:=Hz (fun(W:World) (hW:New W1 W)=>zad (BT.below hW BT.lt));have G:=Hz (fun(W:World) (hW:New W1 W)=>zad (BC.below hW BC.lt));have SM:=Hz (zys W1);have HF:=Hz hf;have HW:=Hz hW1;replace b1:=Hz b1;clear h hf he BT BC hW1;go_enter Tryz.func7,Tryz.ntmps7
 go_wp2_with fail
 rw[<-HW.out];refine SM.out.mono ?_;rintro e w1 ⟨rfl,n1⟩;have P:=Hz (z9n (r:=r) (cd:=cd) (T.out w1 n1));obtain⟨x0,x1,x2⟩:=F.out w1 n1;have n1:=Hz n1;clear SM HW;go_wp2_with fail
 refine P.out.mono ?_;rintro e w2 ⟨bb,rfl,hbb,b2⟩;have n2:=Hz (New.trans n1.out b2);clear P x0 x1 x2 n1 b2 hbb;obtain⟨y0,y1,y2⟩:=G.out w2 n2.out;cases bb with
 |false=>
  go_wp2_with fail
  go_ret
  exact⟨rfl,New.trans b1.out n2.out⟩
 |true=>
  by_cases h100:100<E.length
  ·have t1:decide (100<(E.length:Int))=true:=by simp;omega
   go_wp2_with fail
   go_ret
   exact⟨rfl,New.trans b1.out n2.out⟩
  ·have t1:decide (100<(E.length:Int))=false:=by simp;omega
   obtain⟨x0,x1,x2⟩:=F.out w2 n2.out;have WR:=zjb (w:=w2) ⟨Ac,cc,L,r,Ad,cd,D,g,p,Ae,ce,E⟩ (T.out w2 n2.out) (RE.out w2 n2.out) HF.out hen;dsimp only at WR;obtain⟨er,b,hO⟩:∃er b,zfc L r D g p E=(er,b):=⟨_,_,rfl⟩;rw[hO] at WR;by_cases h0:er=0
   ·subst h0
    obtain⟨FF,C,own,hWr⟩:=qgm (T.out w2 n2.out) HF.out hO;have h64:=Hz (show L.length<=64/\D.length=L.length from by have hk:=zpo (zmm (L:=L) (r:=r) (D:=D) (gr:=g) (pr:=p) (E:=E) (by rw[hO])).1;exact⟨hk.2.2.2.1,hk.1⟩)
    have WR:=Hz WR;have HWr:=Hz hWr;clear hO hWr;go_wp2_with fail
    refine WR.out.mono ?_;rintro e w3 ⟨A3,m3,c3,rfl,o3,b3⟩;obtain rfl:m3=b.length:=by have:=o3.len;rwa[zaa] at this
    have n3:=Hz (New.trans n2.out b3);have hcap:=o3.cap;have OP:=Hz (zte (c:=c3) o3.reads HWr.out.bytes (by have:=HWr.out.short;omega) hcap.1 (by have:=hcap.2;simp only[maxLen] at this;omega));have hbc3:=Hz hcap.1;have o3:=Hz o3;clear x0 x1 x2 y0 y1 y2 WR n2 b3 hcap;go_wp2_with fail
    refine OP.out.mono ?_;intro e w4 hq;unfold ztd at hq;rw[HWr.out.opened] at hq;obtain⟨b4,hq⟩:=hq;obtain⟨Ac4,cc4,L4,r4,Ag,cg,Gs,A4,m4,c4,rfl,hP,FI,hcg,o4⟩:=hq;dsimp only at hP o4;have hL:L=L4:=by rw[<-HWr.out.cols,<-hP];rfl
    have hr:r=r4:=by rw[<-HWr.out.rows,<-hP];rfl
    subst hL hr hP;obtain rfl:m4=own.length:=by have:=o4.len;rwa[zaa] at this
    unfold zhx;have hM:=HWr.out.at_.by_;have hFoot:=HWr.out.foot;have hdat:=zkx HWr.out.data;obtain⟨W5,hW5⟩:∃W,W=w4.alloc (.cells #[.slice Ac4 L.length cc4,.int .i64 r,.slice Ag Gs.length cg] 38):=⟨_,rfl⟩;have b5:New w4 W5:=by rw[hW5];exact(Below.refl _ _).alloc (Nat.le_refl _) _
    have BF:Blk W5 w4.heap.size 38 #[.slice Ac4 L.length cc4,.int .i64 r,.slice Ag Gs.length cg]:=by rw[hW5];exact Blk.new _ _ _
    have FF:=Hz (fun(W:World) (hW:New W5 W)=>zad (BF.below hW BF.lt));have FI5:=Hz (fun(W:World) (hW:New W5 W)=>FI.later (New.trans b5 hW));have HB:=Hz (fun(W:World) (hW:New W5 W)=>Reads.later o3.out.reads (New.trans b4 (New.trans b5 hW)));have OB:=Hz (fun(W:World) (hW:New W5 W)=>Reads.later o4.reads (New.trans b5 hW));have PG:=Hz (fun(W:World) (hW:New W5 W) (k j q:Nat) (hk:k<Gs.length) (hj:j<L.length) (hq:q<((Gs.getD k grZ).2.2.2.getD j chZ).2.2.length)=>show Calls Tryz.prog 24 #[.slice A3 b.length c3,.agg #[.slice Ac4 L.length cc4,.int .i64 r,.slice Ag Gs.length cg],.int .i64 k,.int .i64 j,.int .i64 q] W (z0l (some (((C.getD k []).getD j []).getD q [])) W) by have:=ztf (g:=(k:Int)) (c:=(j:Int)) (p:=(q:Int)) (r:=r) (cg:=cg) (HB.out W hW) hbc3.out (FI5.out W hW) hdat;rw[(hM.page k j q hk hj hq).1] at this;exact this)
    have hr8:=hFoot.2.2;have RR:=zyx (r:=r) (cc:=cc4) (cg:=cg) (FI5.out W5 (New.refl _)) hdat (by have h1:=hFoot.2.2.1;have h2:=hFoot.2.2.2.1;have h3:=zez (fun g:za5=>g.1) _ (fun g hg=>by have:=(hFoot.2.1 g hg).1;omega);have h4:(za3 L r Gs).rows=r:=rfl;omega);rw[show zc9 (za3 L r Gs)=true by unfold zc9;simpa using hFoot] at RR;have RR:Calls Tryz.prog 23 #[.agg #[.slice Ac4 L.length cc4,.int .i64 r,.slice Ag Gs.length cg]] W5 (zak (.bool true) W5):=RR;have RR:=Hz RR;have HDat:=Hz hdat;have HM:=Hz hM;have hLn:=FI.few;have hGn:=FI.few2;have HW5:=Hz hW5;have n5:=Hz (New.trans n3.out (New.trans b4 b5));have S0:=Hz (show zac (headL_film++(zdq C 0 0 0).flatten)=⟨#[72,89,80,79]⟩ by rw[zpw];rfl);obtain⟨f0,f1,f2⟩:=FF.out W5 (New.refl _);rw[hW5] at f0 f1 f2;clear hM hFoot hdat hr8 FI BF OP hcg o3 o4 b4 b5 hW5 n3;go_wp2_with fail
    rw[<-HW5.out];refine RR.out.mono ?_;rintro e w6 ⟨rfl,b6⟩;clear RR f0 f1 f2;go_wp2_with fail
    go_loopw [12,13,14] (fun s v i wr=>∃(k c:Nat) (S:List Nat) (A:Option Addr) (X:List zh6),k<=Gs.length/\i= .int .i64 (k:Int)/\s= .string (zac S)/\v= .slice A X.length c/\Hid (PgSt C k 0 0 W5.heap.size S A c X wr)/\Hid (New W5 wr)) (fun _ _ i _=>Gs.length-(intOf i).toNat)
    case atStart=>exact⟨0,0,headL_film++(zdq C 0 0 0).flatten,none,[],Nat.zero_le _,rfl,by rw[S0.out],rfl,Hz ⟨rfl,Go.Hm.Own.nil_,(fun d hd=>(by cases hd)),by rw[zpw];rfl⟩,Hz b6⟩
    case round=>
     obtain⟨k,c,S,A,X,hk,rfl,rfl,rfl,HS,HN⟩:=hrel;clear b6;by_cases hlt:k<Gs.length
     ·obtain⟨hc1,hc2⟩:=HM.out.chunks k hlt
      have hFI:=FI5.out W5 (New.refl _);obtain⟨ag,rfl,KF⟩:=qgn hFI.groups hlt;have hchk:=(hFI.chunks _ (zal grZ hlt)).1;have hpgs:=hFI.pages _ (zal grZ hlt);have PGk:=Hz (fun(W:World) (hW:New W5 W) (j q:Nat) hj hq=>PG.out W hW k j q hlt hj hq);have HMk:=Hz (fun(j q:Nat) hj hq=>(HM.out.page k j q hlt hj hq).2);have HMp:=Hz (fun(j:Nat) hj=>HM.out.pages k j hlt hj);have HCk:=Hz hc1;have hkC:=Hz (show k<C.length by rw[HM.out.groups];exact hlt);have hfew:=Hz HM.out.few;clear hFI hc1;generalize Gs.getD k grZ=gg at*;obtain⟨gr,Ach,cch,Dk⟩:=gg;dsimp only at KF hchk hpgs hc2 PGk HMk HMp;obtain⟨f0,f1,f2⟩:=FF.out wr HN.out;have KF:=Hz KF;have hchk:=Hz hchk;have hpgs:=Hz hpgs;have hc2:=Hz hc2;go_wp2_with fail
      clear f0 f1 f2;generalize wr=w7 at*;go_loopw [12,13,15] (fun s v i wr=>∃(j c:Nat) (S:List Nat) (A:Option Addr) (X:List zh6),j<=L.length/\i= .int .i64 (j:Int)/\s= .string (zac S)/\v= .slice A X.length c/\Hid (PgSt C k j 0 W5.heap.size S A c X wr)/\Hid (New W5 wr)) (fun _ _ i _=>L.length-(intOf i).toNat)
      case atStart=>exact⟨0,c,S,A,X,Nat.zero_le _,rfl,rfl,rfl,HS,HN⟩
      case round=>
       clear HS HN;obtain⟨j,c,S,A,X,hj,rfl,rfl,rfl,HS,HN⟩:=hrel;by_cases hlj:j<L.length
       ·have hjD:j<Dk.length:=by have:=hc2.out;omega
        obtain⟨ac,rfl,JF⟩:=qgo hchk.out hjD;have hpl:=(hpgs.out _ (zal chZ hjD)).1;have hpn:=(hpgs.out _ (zal chZ hjD)).2;have PGj:=Hz (fun(W:World) (hW:New W5 W) (q:Nat) hq=>PGk.out W hW j q hlj hq);have HMj:=Hz (fun(q:Nat) hq=>HMk.out j q hlj hq);have HCj:=Hz (HMp.out j hlj);generalize Dk.getD j chZ=x at*;obtain⟨Ax,cx,pl⟩:=x;dsimp only at JF hpl hpn PGj HMj HCj;obtain⟨f0,f1,f2⟩:=FF.out wr HN.out;have JF:=Hz JF;have hpl:=Hz hpl;go_wp2_with fail
        clear f0 f1 f2;generalize wr=w8 at*;have hjC:=Hz (show j<(C.getD k []).length by rw[HCk.out];exact hlj);go_loopw [12,13,16] (fun s v i wr=>∃(q c:Nat) (S:List Nat) (A:Option Addr) (X:List zh6),q<=pl.length/\i= .int .i64 (q:Int)/\s= .string (zac S)/\v= .slice A X.length c/\Hid (PgSt C k j q W5.heap.size S A c X wr)/\Hid (New W5 wr)) (fun _ _ i _=>pl.length-(intOf i).toNat)
        case atStart=>exact⟨0,c,S,A,X,Nat.zero_le _,rfl,rfl,rfl,HS,HN⟩
        case round=>
         clear HS HN;obtain⟨q,c,S,A,X,hq,rfl,rfl,rfl,HS,HN⟩:=hrel;obtain⟨f0,f1,f2⟩:=FF.out wr HN.out;obtain⟨k0,k1⟩:=KF.out wr HN.out;have j0:=JF.out wr HN.out;by_cases hlq:q<pl.length
         ·obtain⟨ap,rfl,QF⟩:=z31 hpl.out hlq
          have P9:=PGj.out wr HN.out q hlq;have hsz:=HMj.out q hlq;have hX:X.length<=4194304:=by have h1:=HS.out.len;have h2:=z9j (q:=q) hkC.out hjC.out;have:=hfew.out;omega
          have HA:=Hz (zyt (C:=C) (k:=k) (j:=j) (q:=q) (by rw[HCj.out];exact hlq));simp only[<-hsz] at QF;clear hsz;have HXb:=Hz (show(((C.getD k []).getD j []).getD q []).length<=4+C.flatten.flatten.flatten.length by have h1:=zr1 (q:=q+1) hkC.out hjC.out;rw[HA.out,List.flatten_append,List.length_append] at h1;simp only[List.flatten_cons,List.flatten_nil,List.append_nil] at h1;omega)
          generalize((C.getD k []).getD j []).getD q []=x at*;have P9:=Hz P9;have QF:=Hz QF;go_wp2_with fail
          refine P9.out.mono ?_;intro e w9 hq9;obtain⟨b9,A9,n9,c9,rfl,o9⟩:=hq9;obtain rfl:n9=x.length:=by have:=o9.len;rwa[zaa] at this
          have n9:=New.trans HN.out b9;clear f0 f1 f2 k0 k1 j0 P9;obtain⟨f0,f1,f2⟩:=FF.out w9 n9;obtain⟨k0,k1⟩:=KF.out w9 n9;have j0:=JF.out w9 n9;have q0:=QF.out w9 n9;have HS9:=HS.out.later b9;have z9:=n9.size;have e9:=zgb X;have hcat: ¬9223372036854775807<(zac S).size+(zac x).size:=by have h1:=HS.out.size hkC.out hjC.out;have h2:=HXb.out;have h3:=HM.out.bytes;rw[za4 x];omega
          go_wp2_with (at_builtin;(refine zfy qhy rfl (.tmp 109) (.tmp 111) rfl (W:=W5) (B:=W5.heap.size) HS9.row rfl rfl n9 (Nat.le_refl _) z9 rfl (by omega) (by simp only[maxLen];omega) ?_;intro A' c' w' _ _ o' g' b' _ _;have t9:=TR.rowK (TR.of_own o9) HS9.row g' (by decide);have S9:=zd9 (c:=c9) t9.1;rw[e9] at o';rw[e9]))
          have hl1:=Hz (show(X++[(A9,c9,x)]).length=X.length+1 by rw[List.length_append];rfl);have HS':=Hz (show PgSt C k j (q+1) W5.heap.size (S++x) A' c' (X++[(A9,c9,x)]) w' from⟨by rw[HS9.str,HA.out];simp,by rw[hl1.out,zas];exact o',fun d hd=>by
           rcases List.mem_append.1 hd with hd|hd
           ·exact TR.rowK (HS9.pages d hd) HS9.row g' (by decide)
           ·obtain rfl:=List.mem_singleton.1 hd
            exact t9,by rw[List.map_append,HS9.map,HA.out];rfl⟩)
          go_roundw
          case rel=>exact⟨q+1,c',S++x,A',X++[(A9,c9,x)],by omega,by go_num,by rw[zfx],by rw[hl1.out],HS',Hz b'⟩
          case measure=>simp[intOf];omega
         ·obtain rfl:q=pl.length:=by omega
          have HS':=Hz (HS.out.turn (zwl hjC.out HCj.out.symm));clear HS;go_wp2_with fail
          go_roundw
          case rel=>exact⟨j+1,c,S,A,X,by have:=hjC.out;have:=HCk.out;omega,by go_num,rfl,rfl,HS',HN⟩
          case measure=>have:=hjC.out;have:=HCk.out;simp[intOf];omega
       ·obtain rfl:j=L.length:=by omega
        have HS':=Hz (HS.out.turn (zwm hkC.out HCk.out.symm));clear HS;obtain⟨f0,f1,f2⟩:=FF.out wr HN.out;go_wp2_with fail
        go_roundw
        case rel=>exact⟨k+1,c,S,A,X,by have:=hkC.out;have:=HM.out.groups;omega,by go_num,rfl,rfl,HS',HN⟩
        case measure=>have:=hkC.out;have:=HM.out.groups;simp[intOf];omega
     ·obtain rfl:k=Gs.length:=by omega
      have hEnd:=z30 (C:=C) (k:=Gs.length) HM.out.groups.symm;have hS:S=headL_film++C.flatten.flatten.flatten:=by rw[HS.out.str,hEnd]
      have hX:X.map byP=C.flatten.flatten:=by rw[HS.out.map,hEnd]
      have hXl:X.length<=5000000:=by rw[HS.out.len,hEnd];have:=HM.out.few;omega
      have hcap:=HS.out.row.cap;have PI:PgsIn wr A c X:=⟨HS.out.row.reads,hcap.1,fun d hd=>⟨(HS.out.pages d hd).1,by
       have hm:d.2.2∈(zh7 (za3 L r Gs).groups (b.drop 4)).flatten.flatten:=by rw[HWr.out.pages,<-hX];exact List.mem_map.2 ⟨d,hd,rfl⟩
       obtain⟨h1,h2⟩:=z06 hm;exact⟨fun y hy=>HWr.out.bytes y (List.mem_of_mem_drop (h1 y hy)),by have:=HWr.out.short;rw[List.length_drop] at h2;omega⟩⟩⟩
      have TB:=Hz (fun(W:World) (hW:New wr W)=>show Calls Tryz.prog 25 #[.agg #[.slice Ac4 L.length cc4,.int .i64 r,.slice Ag Gs.length cg],.slice A X.length c] W (z05 L r (some (D.map (·.2.2))) W) by have:=zwc (r:=r) (cg:=cg) (FI5.out W (New.trans HN.out hW)) HDat.out (PI.later hW) hXl;rw[hX,HWr.out.table] at this;exact this)
      have OS:=fun(W:World) (hW:New wr W)=>zd9 (c:=c4) (OB.out W (New.trans HN.out hW))
      have OS0:=OS wr (New.refl _);obtain⟨f0,f1,f2⟩:=FF.out wr HN.out;have hl4:low own.length 4=[own.length%256,own.length/256%256,own.length/65536%256,own.length/16777216%256]:=by simp[low]
      have hlow:(#[.int .u8 ((own.length:Int)%256),.int .u8 ((own.length:Int)/256%256),.int .u8 ((own.length:Int)/65536%256),.int .u8 ((own.length:Int)/16777216%256)]:Array Value).toList=za2 .u8 (low own.length 4):=by rw[hl4];simp[za2]
      have LS:=zd9 (c:=4) (znm wr 5 (0,0) _ 4 _ hlow (by simp[za2,zbk]));have hown:=HWr.out.few;have hby:=HM.out.bytes;have hz1:(zac (headL_film++C.flatten.flatten.flatten)).size=4+C.flatten.flatten.flatten.length:=by rw[za4,List.length_append];rfl
      have hz2:=za4 own;have hz3:(zac (low own.length 4)).size=4:=by rw[za4,zbk]
      have hc1: ¬9223372036854775807<(zac (headL_film++C.flatten.flatten.flatten)).size+(zac own).size:=by omega
      have hc2: ¬9223372036854775807<(zac (headL_film++C.flatten.flatten.flatten)).size+(zac own).size+(zac (low own.length 4)).size:=by omega
      have hc3: ¬9223372036854775807<(zac (headL_film++C.flatten.flatten.flatten)).size+(zac own).size+(zac (low own.length 4)).size+4:=by omega
      obtain⟨WL,hWL⟩:∃WL,WL=wr.alloc (.cells #[.int .u8 ((own.length:Int)%256),.int .u8 ((own.length:Int)/256%256),.int .u8 ((own.length:Int)/65536%256),.int .u8 ((own.length:Int)/16777216%256)] 5):=⟨_,rfl⟩;have hbL:New wr WL:=by rw[hWL];exact(Below.refl _ _).alloc (Nat.le_refl _) _
      obtain⟨g0,g1,g2⟩:=FF.out WL (New.trans HN.out hbL);have TB:=Hz (TB.out WL hbL);have nL:=Hz (New.trans HN.out hbL);rw[hWL] at g0 g1 g2;have HWL:=Hz hWL;clear hlow hl4 hz1 hz2 hz3 hown hby hWL hbL;go_wp2_with fail
      rw[<-HWL.out];refine TB.out.mono ?_;intro e w7 hq;obtain⟨A6,B6,c6,d6,D6,rfl,TO,hD6,b6⟩:=(show TabPost 0 L r (D.map (·.2.2)) WL e w7 from hq).own;have n7:=Hz (New.trans nL.out b6);have n17:=Hz (New.trans n5.out n7.out);have hsh:=T.out w7 n17.out;have hl6:D6.length=D.length:=by have:=congrArg List.length hD6;rwa[List.length_map,List.length_map] at this
      have T6:=TO.tabIn (by have:=h64.out;omega) (by have:=h64.out;omega) hsh.fine (fun d hd y hy=>by
       have:d.2.2∈D.map (·.2.2):=by rw[<-hD6];exact List.mem_map.2 ⟨d,hd,rfl⟩
       obtain⟨d',hd',e⟩:=List.mem_map.1 this;exact(HF.out d' hd' y (by rw[e];exact hy)).1)
      have LS:=Hz (fun(W:World) (hW:New w7 W)=>zjj (r:=r) (c1:=c6) (k1:=d6) (c2:=cc) (k2:=cd) (T6.later hW) (T.out W (New.trans n17.out hW)) hD6);clear TB hq TO hD6 hsh hl6 T6 b6 g0 g1 g2 f0 f1 f2;have ba:New w7 (w7.alloc (.cells #[.slice A6 L.length c6,.int .i64 r,.slice B6 D6.length d6] 25)):=(Below.refl _ _).alloc (Nat.le_refl _) _;have BX:=Blk.new w7 25 #[.slice A6 L.length c6,.int .i64 r,.slice B6 D6.length d6];obtain⟨z0,z1,z2⟩:=zad BX;obtain⟨x0,x1,x2⟩:=F.out _ (New.trans n17.out ba);have S6:=Hz (LS.out _ ba);have S8:=zd9 (c:=c3) (HB.out _ (New.trans n7.out ba));have n8:=Hz (New.trans n17.out ba);clear BX LS ba;have hAll:zac (headL_film++C.flatten.flatten.flatten)++zac own++zac (low own.length 4)++⟨#[79,80,89,72]⟩=zac b:=by rw[<-z9o,zfx,zfx,zfx,HWr.out.whole];unfold zfe;simp only[List.append_assoc]
      go_wp2_with fail
      refine S6.out.mono ?_;rintro e w9 ⟨rfl,b9⟩;clear x0 x1 x2 z0 z1 z2 S6 S8 hAll;go_wp2_with fail
      go_ret
      exact⟨rfl,New.trans b1.out (New.trans n8.out b9)⟩
   ·have q2:(er==0)=false:=beq_eq_false_iff_ne.2 h0
    have q3:(er != 0)=true:=by simpa using h0
    have WR:=Hz WR;clear hO;go_wp2_with fail
    refine WR.out.mono ?_;rintro e w3 ⟨A3,m3,c3,rfl,o3,b3⟩;have n3:=Hz (New.trans n2.out b3);clear x0 x1 x2 y0 y1 y2 WR n2 b3 o3;go_wp2_with fail
    go_ret
    exact⟨rfl,New.trans b1.out n3.out⟩
set_option maxRecDepth 100000 in
open Go.WideShapes Go.ChangeShapes in
theorem zk6{H:Type}{enc:TypeId × Value->H}(W:World)(base:Nat)(args:Array Value)(ds:List (DataW H))(ps:List MemPlace)
 (hval:∀(j:Nat) t v,Tryz.f7.params[j]? =some t->args[j]? =some v->Value.okWide Tryz.prog W .any base t v)
 (hA:DataW.TrodAll enc Tryz.prog W 0 (fun _=>true) true Tryz.f7.params.toList args.toList ds ps)(hlt:∀p∈ps,p.block<W.heap.size)
 (hsz:(DataW.weightsEach Tryz.prog Tryz.f7.params.toList ds).all (· <=reachBytes)=true):
 Calls Tryz.prog 7 args W fun e W'=>e= .returned (.bool true)/\Below W.heap.size W W':=by
 rw[Tryz.params7] at hA hval hsz;obtain⟨v0,v1,d0,d1,p0,p1,rfl,rfl,rfl,h0,h1⟩:=trodAll_two hA;obtain⟨Ac,cc,L,r,Ad,cd,D,rfl,hT,_,hF⟩:=qge (hval 0 _ _ rfl rfl) h0 (fun p hp=>hlt p (by simp[hp])) (zzd hsz (j:=0) rfl rfl);obtain⟨g,p,A,c,l,rfl,hc,hm,hr⟩:=qgp (hval 1 _ _ rfl rfl) h1 (fun p hp=>hlt p (by simp[hp])) (zzd hsz (j:=1) rfl rfl);exact zqg hT hF hr (by omega)
end Go.Proofs.Y
