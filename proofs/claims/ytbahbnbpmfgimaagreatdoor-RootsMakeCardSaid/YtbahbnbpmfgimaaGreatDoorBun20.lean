import Derived.Deep.DeepCutAuto
import Derived.Test.YtbahbnbpmfgimaaGreatDoorBun16
import Derived.Test.YtbahbnbpmfgimaaGreatDoorBun17
import Derived.Test.YtbahbnbpmfgimaaGreatDoorBun19
set_option maxHeartbeats 1000000
set_option maxRecDepth 100000
namespace Go.Hm
open Go Go.RowKit Go.Maps
abbrev DW:=DataW Unit
def z55(p:Int × Int):Value:= .agg #[.int .i64 p.1,.int .i64 p.2]
def zow(p:Int × Int):DW:= .agg [.lit (.int .i64 p.1),.lit (.int .i64 p.2)]
def qbh:Value->Option (DW × List MemPlace)
 | .agg ⟨[.int .i64 a,.int .i64 b]⟩=>some (zow (a,b),[])
 |_=>none
theorem qbi(p:Int × Int):qbh (z55 p)=some (zow p,[]):=rfl
theorem z56{v:Value}{z:DW × List MemPlace}(h:qbh v=some z):∃p,v=z55 p/\z=(zow p,[]):=by
 unfold qbh at h;split at h
 ·rename_i a b
  exact⟨(a,b),rfl,(qlj h).symm⟩
 ·cases h
theorem z57{p q:Int × Int}(h:zow p=zow q):p=q:=by simp only[zow,qlr,qli,qls,qlt,true_and,and_true] at h;exact Prod.ext h.1 h.2
def zm9(l:List Int):Value:= .agg (zap .u8 l).toArray
theorem qbj{l m:List Int}(h:zm9 l=zm9 m):l=m:=by simp only[zm9,Value.agg.injEq,Array.mk.injEq,zap] at h;exact(List.map_inj_right (f:=Value.int .u8) (by simp)).1 h
section
variable{P:Program}{k e u:TypeId}
def MapF(P:Program)(k:TypeId)(w:World)(b n:Nat)(f:List Int->Option (Int × Int)):Prop:=
 ∃D:DW,w.ownsMap P k qbh b n D/\IsMap D/\ ∀l kl,keyOf P k (zm9 l)=some kl-> ∀zd,D.atKey kl zd=((f l).map zow).getD zd
theorem MapF.made(w:World):MapF P k (w.alloc (.map #[] 0)) w.heap.size 0 fun _=>none:=
 ⟨.map [],qrn _ _ _ _,isMap_empty,fun _ _ _ _=>rfl⟩
variable{w:World}{b n:Nat}{f:List Int->Option (Int × Int)}
theorem MapF.kept{w':World}{row:Option Nat}(h:MapF P k w b n f)(hg:w.grownBy w' row)(hne:some b≠row):MapF P k w' b n f:=by obtain⟨D,h1,h2,h3⟩:=h;exact⟨D,h1.kept hg hne,h2,h3⟩
theorem MapF.lt(h:MapF P k w b n f):b<w.heap.size:=by obtain⟨D,h1,_⟩:=h;exact h1.lt
theorem MapF.look{t:TypeId}(h:MapF P k w b n f)(K:Keyed P k)(ht:P.underlying t=some (.map k e))(hz:(zeroValue e).run P w= .ok (z55 (0,0)) w){l:List Int}(hkey:∃kl,keyOf P k (zm9 l)=some kl):
 (Instr.lookup t (.map (some b)) (zm9 l) true).run P w= .ok (.tuple #[z55 ((f l).getD (0,0)),.bool (f l).isSome]) w:=by
 obtain⟨D,⟨es,clock,hb,F,_,rfl⟩,h2,h3⟩:=h;obtain⟨kl,hkey⟩:=hkey;have h4:=h3 l kl hkey;rcases fit_look true K ht hz hb F hkey with⟨hrun,_,hat⟩|⟨e0,y,_,_,hrun,hRv,hat,_⟩
 ·cases hf:f l with
  |none=>exact hrun
  |some p=>
   rw[hf] at h4;have h5:=(hat .nil).symm.trans (h4 .nil);cases h5
 ·obtain⟨p,hp,rfl⟩:=z56 hRv
  rw[hp] at hrun;cases hf:f l with
  |none=>
   rw[hf] at h4;have h5:=(hat .nil).symm.trans (h4 .nil);cases h5
  |some q=>
   rw[hf] at h4;have h5:zow p=zow q:=(hat .nil).symm.trans (h4 .nil);rw[z57 h5] at hrun;exact hrun
theorem MapF.put{t:TypeId}(h:MapF P k w b n f)(K:Keyed P k)(ht:P.underlying t=some (.map k e))(hn:n<maxLen){l:List Int}(hkey:∃kl,keyOf P k (zm9 l)=some kl)(p:Int × Int):
 ∃w',(Instr.mapUpdate t (.map (some b)) (zm9 l) (z55 p)).run P w= .ok () w'/\MapF P k w' b (n+1) (fun m=>if m=l then some p else f m)/\w.grownBy w' (some b):=by
 obtain⟨D,h1,h2,h3⟩:=h;obtain⟨kl,hkey⟩:=hkey;obtain⟨w',hrun,ho,hg⟩:=h1.update K ht hn hkey (qbi p);refine⟨w',hrun,⟨_,ho,h2.put _ _,fun m km hm zd=>?_⟩,hg⟩;by_cases he:m=l
 ·subst he
  rw[hm] at hkey;obtain rfl:=qlj hkey;show _=((if m=m then some p else f m).map zow).getD zd;rw[if_pos rfl,atKey_put_same h2 (K.key hm)];rfl
 ·show _=((if m=l then some p else f m).map zow).getD zd
  rw[if_neg he,atKey_put_other,h3 m km hm];intro hk;subst hk;exact he (qbj (K.inj hm hkey))
end
end Go.Hm
namespace Go.Proofs.Y
open Go.RowKit Go.Hm
theorem zhh(l:List Nat):(zi9 l).length=32:=zd8 _
theorem zew{s:List Nat}{L:List (List Nat)}{f:List Nat}(h:za5 s L=some f)(ht:zem L<=9900000):f.length<=10000000:=by
 unfold za5 at h;split at h
 ·rename_i hc
  obtain rfl:=qlj h;rw[z18];unfold zem at ht;omega
 ·cases h
theorem zzx{w:World}{s:List Nat}{A:Option Addr}{n c:Nat}{D:List zcx}(h:RowsAt w A n c D)(hn:n<=9223372036854775806)(hs8:∀x∈s,x<256)(hs:s.length<=140737488351232)(ht:zem (bytesOf D)<=9900000)(hD8:∀p∈bytesOf D,∀x∈p,x<256)(hC:ConstIn w):
 Calls Tryz.prog 31 #[.string (zai s),.slice A n c] w (zak (zm9 (zdj s (bytesOf D))) w):=by
 have c0:New w (w.alloc (.cells (zap .u8 zad).toArray 35)):=(qq8 _ _).alloc (ql6 _) _;have FR:=qrf (zuq (h.later c0) hn hs8 hs (by omega));have HC:=qrf hC;have G0:=qrf (qrv w 35 (zap .u8 zad).toArray);have HO:zdj s (bytesOf D)=zdj s (bytesOf D):=rfl;conv at HO=>rhs;unfold zdj
 replace HO:=qrf HO;have HF8:=qrf (fun f (hf:za5 s (bytesOf D)=some f)=>qok (zfr hs8 hD8 hf) (zew hf ht));generalize za5 s (bytesOf D)=o at*;generalize zdj s (bytesOf D)=ho at*;obtain⟨W0,hW0⟩:∃W,W=w.alloc (.cells (zap .u8 zad).toArray 35):=⟨_,rfl⟩;rw[<-hW0] at FR c0 G0;have HW:=qrf hW0;have C0:=qrf c0;clear h hs8 hs ht hD8 hC hW0 c0;go_enter Tryz.func31,Tryz.ntmps31
 go_wp2_with fail
 have F:=FR.out;rw[HW.out] at F;refine F.mono ?_;rintro e w1 hf;obtain⟨A1,n1,c1,rfl,o1,b1⟩:=hf.u;have b1:New W0 w1:=by rw[HW.out];exact b1
 have o1:Own w1 W0.heap.size 5 (.slice A1 n1 c1) (zah .u8 (o.getD [])):=by rw[HW.out];exact o1
 have G1:=qrf (G0.out.below b1 G0.out.lt);have B1:=qrf (qr0 C0.out b1);clear F FR hf HW C0 G0;cases o with
 |none=>
  have hh:ho=zad:=by rw[HO.out];rfl
  subst hh;have H:=qrf (qok (zaf G1.out) (qok (zxd (l:=zad) (by simp[zad])) (qok (zcs .u8 zad) (zau G1.out (zap .u8 zad).toArray))));have BE:=qrf (qr6 B1.out (za3 (g:=w.heap.size) w1 (zap .u8 zad).toArray) (ql6 _));clear G1 B1 b1 o1 HO;go_wp2_with (refine wpList_store_row rfl 35 (.tmp 4) (.tmp 15) rfl w.heap.size (zap .u8 zad).toArray rfl rfl _ _ H.out.1 H.out.2.1 rfl H.out.2.2.1 ?_)
  exact bodyPost_ret (results_cell_row rfl _ _ w.heap.size _ (zap .u8 zad).toArray (0,0) _ rfl H.out.2.2.2 zbp rfl H.out.2.1) rfl ⟨rfl,BE.out⟩
 |some f=>
  have hh:ho=zi9 f:=by rw[HO.out,qo5,qnq]
  subst hh;obtain⟨f8,fl⟩:=HF8.out f rfl;obtain rfl:n1=f.length:=by have:=o1.len;rwa[zaa] at this
  have SU:=qrf (z5r (l:=f) (c:=c1) o1.reads f8 o1.cap.1 (by omega) (HC.out.new B1.out));clear o1 b1 HO HF8 HC;go_wp2_with fail
  (with_reducible refine SU.out.mono ?_)
  rintro e w2 ⟨rfl,b2⟩;have G2:=G1.out.below b2 G1.out.lt;have B2:=qr0 B1.out b2;have hz:(zap .u8 zad).toArray.size=(zap .u8 (zi9 f)).toArray.size:=by simp[zap,zad,zhh]
  have H:=qrf (qok (zaf G2) (qok (zxd (zhh f)) (qok hz (qok (zcs .u8 (zi9 f)) (zau G2 (zap .u8 (zi9 f)).toArray)))));have BE:=qrf (qr6 B2 (za3 (g:=w.heap.size) w2 (zap .u8 (zi9 f)).toArray) (ql6 _));obtain⟨cs,hcs⟩:∃cs,cs=(zap .u8 (zi9 f)).toArray:=⟨_,rfl⟩;have hdv:zm9 (zi9 f)= .agg cs:=by rw[hcs];rfl
  have HV:=qrf hdv;rw[<-hcs] at H BE⊢;clear hcs hdv;clear G1 B1 G2 B2 b2 SU hz;go_wp2_with (refine wpList_store_row rfl 35 (.tmp 4) (.tmp 17) rfl w.heap.size cs rfl rfl _ _ H.out.1 H.out.2.1 H.out.2.2.1 H.out.2.2.2.1 ?_)
  rw[HV.out];exact bodyPost_ret (results_cell_row rfl _ _ w.heap.size _ cs (0,0) _ rfl H.out.2.2.2.2 zbp rfl H.out.2.1) rfl ⟨rfl,BE.out⟩
theorem z58{w:World}{s:List Nat}{A:Option Addr}{n c:Nat}{D:List zcx}(h:RowsAt w A n c D)(hn:n<=9223372036854775806)(hs8:∀x∈s,x<256)(hs:s.length<=140737488351232)(ht:zem (bytesOf D)<=9900000)(hD8:∀p∈bytesOf D,∀x∈p,x<256):
 Calls Tryz.prog 76 #[.string (zai s),.slice A n c] w (zak (zm9 (zdj s (bytesOf D))) w):=by
 have c0:New w (w.alloc (.cells (zap .u8 zad).toArray 35)):=(qq8 _ _).alloc (ql6 _) _;have FR:=qrf (zri (h.later c0) hn hs8 hs (by omega));have G0:=qrf (qrv w 35 (zap .u8 zad).toArray);have HO:zdj s (bytesOf D)=zdj s (bytesOf D):=rfl;conv at HO=>rhs;unfold zdj
 replace HO:=qrf HO;have HF8:=qrf (fun f (hf:za5 s (bytesOf D)=some f)=>qok (zfr hs8 hD8 hf) (zew hf ht));generalize za5 s (bytesOf D)=o at*;generalize zdj s (bytesOf D)=ho at*;obtain⟨W0,hW0⟩:∃W,W=w.alloc (.cells (zap .u8 zad).toArray 35):=⟨_,rfl⟩;rw[<-hW0] at FR c0 G0;have HW:=qrf hW0;have C0:=qrf c0;clear h hs8 hs ht hD8 hW0 c0;go_enter Tryz.func76,Tryz.ntmps76
 go_wp2_with fail
 have F:=FR.out;rw[HW.out] at F;refine F.mono ?_;rintro e w1 hf;obtain⟨A1,n1,c1,rfl,o1,b1⟩:=hf.u;have b1:New W0 w1:=by rw[HW.out];exact b1
 have o1:Own w1 W0.heap.size 5 (.slice A1 n1 c1) (zah .u8 (o.getD [])):=by rw[HW.out];exact o1
 have G1:=qrf (G0.out.below b1 G0.out.lt);have B1:=qrf (qr0 C0.out b1);clear F FR hf HW C0 G0;cases o with
 |none=>
  have hh:ho=zad:=by rw[HO.out];rfl
  subst hh;have H:=qrf (qok (zaf G1.out) (qok (zxd (l:=zad) (by simp[zad])) (qok (zcs .u8 zad) (zau G1.out (zap .u8 zad).toArray))));have BE:=qrf (qr6 B1.out (za3 (g:=w.heap.size) w1 (zap .u8 zad).toArray) (ql6 _));clear G1 B1 b1 o1 HO;go_wp2_with (refine wpList_store_row rfl 35 (.tmp 4) (.tmp 15) rfl w.heap.size (zap .u8 zad).toArray rfl rfl _ _ H.out.1 H.out.2.1 rfl H.out.2.2.1 ?_)
  exact bodyPost_ret (results_cell_row rfl _ _ w.heap.size _ (zap .u8 zad).toArray (0,0) _ rfl H.out.2.2.2 zbp rfl H.out.2.1) rfl ⟨rfl,BE.out⟩
 |some f=>
  have hh:ho=zi9 f:=by rw[HO.out,qo5,qnq]
  subst hh;obtain⟨f8,fl⟩:=HF8.out f rfl;obtain rfl:n1=f.length:=by have:=o1.len;rwa[zaa] at this
  have SU:=qrf (qa9 (l:=f) (c:=c1) o1.reads f8 (by omega));clear o1 b1 HO HF8;go_wp2_with fail
  (with_reducible refine SU.out.mono ?_)
  rintro e w2 ⟨rfl,b2⟩;have G2:=G1.out.below b2 G1.out.lt;have B2:=qr0 B1.out b2;have hz:(zap .u8 zad).toArray.size=(zap .u8 (zi9 f)).toArray.size:=by simp[zap,zad,zhh]
  have H:=qrf (qok (zaf G2) (qok (zxd (zhh f)) (qok hz (qok (zcs .u8 (zi9 f)) (zau G2 (zap .u8 (zi9 f)).toArray)))));have BE:=qrf (qr6 B2 (za3 (g:=w.heap.size) w2 (zap .u8 (zi9 f)).toArray) (ql6 _));obtain⟨cs,hcs⟩:∃cs,cs=(zap .u8 (zi9 f)).toArray:=⟨_,rfl⟩;have hdv:zm9 (zi9 f)= .agg cs:=by rw[hcs];rfl
  have HV:=qrf hdv;rw[<-hcs] at H BE⊢;clear hcs hdv;clear G1 B1 G2 B2 b2 SU hz;go_wp2_with (refine wpList_store_row rfl 35 (.tmp 4) (.tmp 17) rfl w.heap.size cs rfl rfl _ _ H.out.1 H.out.2.1 H.out.2.2.1 H.out.2.2.2.1 ?_)
  rw[HV.out];exact bodyPost_ret (results_cell_row rfl _ _ w.heap.size _ cs (0,0) _ rfl H.out.2.2.2.2 zbp rfl H.out.2.1) rfl ⟨rfl,BE.out⟩
theorem new_any{w:World}:Calls Tryz.prog 9 #[] w fun e w'=>e= .returned (.pointer (some ⟨w.heap.size,0,none⟩))/\w'=w.alloc (.cells #[.slice none 0 0] 86):=by
 go_enter Tryz.func9,Tryz.ntmps9
 go_wp2
 go_ret
 exact⟨rfl,rfl⟩
theorem rowK:(35:TypeId)<Tryz.prog.types.size:=of_decide_eq_true (by kernel_rfl)
end Go.Proofs.Y
namespace Go.Hm
open Go Go.RowKit
theorem MapF.mono{P:Program}{k:TypeId}{w:World}{b n m:Nat}{f:List Int->Option (Int × Int)}(h:MapF P k w b n f)(hn:n<=m):MapF P k w b m f:=by obtain⟨D,h1,h2⟩:=h;exact⟨D,h1.mono hn,h2⟩
theorem MapF.new{P:Program}{k:TypeId}{w w':World}{b n:Nat}{f:List Int->Option (Int × Int)}(h:MapF P k w b n f)(hb:New w w'):MapF P k w' b n f:=
 h.kept (row:=none) ⟨hb.os,hb.tape,hb.output,hb.size,fun j hj _=>hb.block j hj⟩ (by simp)
end Go.Hm
namespace Go.Proofs.Y
open Go.RowKit Go.Hm
end Go.Proofs.Y
namespace Go.Hm
open Go Go.RowKit
inductive Ev where
 |among (lo hi:Nat)
 |beside (lo hi:Nat)
 |node
end Go.Hm
namespace Go.Proofs.Y
open Go.RowKit Go.Hm Go.WideShapes Go.ChangeShapes Go.Deep
theorem CellFine.data{c:zab}(h:CellFine c):zat c:=⟨h.1,h.2.1⟩
end Go.Proofs.Y
namespace Go.Hm
open Go Go.RowKit
def zt4(S:St):zbi × St:=
 (((ze6 ((lenS 100 S).1:Int) (lenS 100 S).2).1,((zcn (ze6 ((lenS 100 S).1:Int) (lenS 100 S).2).2).1:Int),decide ((zcn (zcn (ze6 ((lenS 100 S).1:Int) (lenS 100 S).2).2).2).1=1)),
   if 1<(zcn (zcn (ze6 ((lenS 100 S).1:Int) (lenS 100 S).2).2).2).1 then none else(zcn (zcn (ze6 ((lenS 100 S).1:Int) (lenS 100 S).2).2).2).2)
def ze0:Nat->St->List zbi × St
 |0,S=>([],S)
 |n+1,S=>((zt4 S).1::(ze0 n (zt4 S).2).1,(ze0 n (zt4 S).2).2)
theorem zyt{S:St}(h:S.ok):(zt4 S).2.ok:=by
 unfold zt4;simp only;split
 ·exact qsp
 ·exact ztb (ztb (zjf (zb9 h)).1)
theorem z09:∀(n:Nat) {S:St},S.ok->(ze0 n S).2.ok
 |0,_,h=>h
 |n+1,_,h=>z09 n (zyt h)
theorem zlu:∀(n:Nat) (S:St),(ze0 n S).1.length=n
 |0,_=>rfl
 |n+1,S=>by rw[ze0,qm9,zlu n]
theorem zr3:∀(n:Nat) (S:St),(ze0 (n+1) S).1=(ze0 n S).1++[(zt4 (ze0 n S).2).1]/\(ze0 (n+1) S).2=(zt4 (ze0 n S).2).2
 |0,S=>⟨rfl,rfl⟩
 |n+1,S=>by
  obtain⟨h1,h2⟩:=zr3 n (zt4 S).2;refine⟨?_,h2⟩;rw[ze0,h1];rfl
def z8x(c:zbi):Prop:=(∀x∈c.1,x<256)/\c.1.length<=100
theorem zwc{S:St}(h:S.ok):z8x (zt4 S).1:=by refine⟨(zjf (zb9 h)).2,?_⟩;have h1:=zo6 (n:=((lenS 100 S).1:Int)) (S:=(lenS 100 S).2) (by omega);have h2:=zds (m:=100) S (by omega) h;unfold zt4;simp only;omega
theorem zr4:∀(n:Nat) {S:St},S.ok-> ∀c∈(ze0 n S).1,z8x c
 |0,_,_,c,hc=>by simp[ze0] at hc
 |n+1,S,h,c,hc=>by
  rw[ze0,qnu] at hc;rcases hc with rfl|hc
  ·exact zwc h
  ·exact zr4 n (zyt h) c hc
def getC(S:St):List zbi × St:=
 if(ze0 (lenS 64 S).1 (lenS 64 S).2).2=none\/ ¬zc7 (ze0 (lenS 64 S).1 (lenS 64 S).2).1=0 then([],none) else ze0 (lenS 64 S).1 (lenS 64 S).2
open Go Go.RowKit Go.Maps
section
variable{P:Program}{k e:TypeId}{F:Nat->Value}
open Classical in
noncomputable def qjf(F:Nat->Value)(v:Value):Option (DWn × List MemPlace):=if h:∃m,v=F m then some (zxz (Classical.choose h),[]) else none
theorem qhp(F:Nat->Value)(m:Nat):∃q,qjf F (F m)=some (zxz q,[])/\F q=F m:=by have h:∃q,F m=F q:=⟨m,rfl⟩;refine⟨Classical.choose h,?_,(Classical.choose_spec h).symm⟩;unfold qjf;rw[dif_pos h]
theorem qd5{v:Value}{z:DWn × List MemPlace}(h:qjf F v=some z):∃q,v=F q/\z=(zxz q,[]):=by
 unfold qjf at h;split at h
 ·rename_i hx
  injection h with h;exact⟨_,Classical.choose_spec hx,h.symm⟩
 ·cases h
theorem qd6{p q:Nat}(h:zxz p=zxz q):p=q:=by simp only[zxz,qls,qlt,true_and] at h;omega
def MapF_mapf(P:Program)(k:TypeId)(F:Nat->Value)(w:World)(b n:Nat)(f:Int->Option Nat):Prop:=
 ∃D:DWn,w.ownsMap P k (qjf F) b n D/\IsMap D/\ ∀x m kl,f x=some m->keyOf P k (.int .i64 x)=some kl-> ∃q,F q=F m/\ ∀zd,D.atKey kl zd=zxz q
theorem MapF_mapf.made(w:World):MapF_mapf P k F (w.alloc (.map #[] 0)) w.heap.size 0 fun _=>none:=
 ⟨.map [],qrn _ _ _ _,isMap_empty,fun _ _ _ h _=>by cases h⟩
variable{w:World}{b n:Nat}{f:Int->Option Nat}
theorem MapF_mapf.kept{w':World}{row:Option Nat}(h:MapF_mapf P k F w b n f)(hg:w.grownBy w' row)(hne:some b≠row):MapF_mapf P k F w' b n f:=by obtain⟨D,h1,h2,h3⟩:=h;exact⟨D,h1.kept hg hne,h2,h3⟩
theorem MapF_mapf.lt(h:MapF_mapf P k F w b n f):b<w.heap.size:=by obtain⟨D,h1,_⟩:=h;exact h1.lt
theorem MapF_mapf.look{t:TypeId}(h:MapF_mapf P k F w b n f)(K:Keyed P k)(ht:P.underlying t=some (.map k e)){z:Value}(hz:(zeroValue e).run P w= .ok z w){x:Int}{m:Nat}(hf:f x=some m)(hkey:∃kl,keyOf P k (.int .i64 x)=some kl):
 (Instr.lookup t (.map (some b)) (.int .i64 x) false).run P w= .ok (F m) w:=by
 obtain⟨D,⟨es,clock,hb,Ft,_,rfl⟩,h2,h3⟩:=h;obtain⟨kl,hkey⟩:=hkey;obtain⟨q,hq,h4⟩:=h3 x m kl hf hkey;rcases fit_look false K ht hz hb Ft hkey with⟨hrun,_,hat⟩|⟨e0,y,_,_,hrun,hRv,hat,_⟩
 ·have h5:=(hat .nil).symm.trans (h4 .nil)
  cases h5
 ·obtain⟨p,hp,rfl⟩:=qd5 hRv
  have h5:zxz p=zxz q:=(hat .nil).symm.trans (h4 .nil);rw[qd6 h5] at hp;rw[hp,hq] at hrun;exact hrun
theorem MapF_mapf.put{t:TypeId}(h:MapF_mapf P k F w b n f)(K:Keyed P k)(ht:P.underlying t=some (.map k e))(hn:n<maxLen){x:Int}(hkey:∃kl,keyOf P k (.int .i64 x)=some kl)(m:Nat):
 ∃w',(Instr.mapUpdate t (.map (some b)) (.int .i64 x) (F m)).run P w= .ok () w'/\MapF_mapf P k F w' b (n+1) (fun y=>if y=x then some m else f y)/\w.grownBy w' (some b):=by
 obtain⟨D,h1,h2,h3⟩:=h;obtain⟨kl,hkey⟩:=hkey;obtain⟨q,hq,hqm⟩:=qhp F m;obtain⟨w',hrun,ho,hg⟩:=h1.update K ht hn hkey hq;refine⟨w',hrun,⟨_,ho,h2.put _ _,fun y m2 km hd hm=>?_⟩,hg⟩;dsimp only at hd;by_cases he:y=x
 ·subst he
  rw[if_pos rfl] at hd;injection hd with hd;subst hd;rw[hm] at hkey;obtain rfl:=qlj hkey;exact⟨q,hqm,fun zd=>atKey_put_same h2 (K.key hm) _ _⟩
 ·rw[if_neg he] at hd
  obtain⟨q2,e2,e3⟩:=h3 y m2 km hd hm;refine⟨q2,e2,fun zd=>?_⟩;rw[atKey_put_other,e3];intro hk;subst hk;have:=K.inj hm hkey;injection this with _ this;exact he this
theorem zmy{ops:Array Oper}{rest:List Oper}{o:Oper}{a:Act}{Q:Exit->Act->World->Prop}(hg:o.guard=none)(m x:Operand)(t:TypeId)(hop:o.op=Op.lookup t m x false)
 (K:Keyed P k)(ht:P.underlying t=some (.map k e)){z:Value}(hz:(zeroValue e).run P w= .ok z w)(hown:MapF_mapf P k F w b n f){y:Int}{q:Nat}(hf:f y=some q)(hkey:∃kl,keyOf P k (.int .i64 y)=some kl)(hm:a.eval m= .map (some b))(hx:a.eval x= .int .i64 y)
 (h:wpList P ops Q rest (a.put o.dst (F q)) w):wpList P ops Q (o::rest) a w:=by
 refine wpList_plain hg fun K' hK'=>?_
 have hrun:=hown.look K ht hz hf hkey;unfold Oper.wp;simp[execOp,hop,hm,hx,hrun,Result.andThen];exact hK' _ _ h
theorem zgn{ops:Array Oper}{rest:List Oper}{o:Oper}{a:Act}{Q:Exit->Act->World->Prop}(hg:o.guard=none)(m x v:Operand)(t:TypeId)(hop:o.op=Op.insert t m x v)
 (K:Keyed P k)(ht:P.underlying t=some (.map k e))(hown:MapF_mapf P k F w b n f)(hn:n<maxLen){y:Int}(hkey:∃kl,keyOf P k (.int .i64 y)=some kl)(q:Nat)
 (hm:a.eval m= .map (some b))(hx:a.eval x= .int .i64 y)(hv:a.eval v=F q)
 (h:∀w',MapF_mapf P k F w' b (n+1) (fun z=>if z=y then some q else f z)->w.grownBy w' (some b)->wpList P ops Q rest (a.put o.dst undef) w'):wpList P ops Q (o::rest) a w:=by
 refine wpList_plain hg fun K' hK'=>?_
 obtain⟨w',hrun,r1,r2⟩:=hown.put K ht hn hkey q;unfold Oper.wp;simp[execOp,hop,hm,hx,hv,hrun,Result.andThen];exact hK' _ _ (h w' r1 r2)
end
end Go.Hm
namespace Go.Proofs.Y
open Go.RowKit Go.Hm
def RowsIn(w:World)(B:Nat)(D:List ze9):Prop:=∀d∈D,w.ownsRow B 75 5 (.slice d.1 d.2.2.length d.2.1) d.2.2.length (recs za4 d.2.2)
theorem RowsIn.later{w w':World}{B:Nat}{D:List ze9}(h:RowsIn w B D)(hb:New w w'):RowsIn w' B D:=fun d hd=>za8 (h d hd) hb
theorem RowsIn.base{w:World}{B B':Nat}{D:List ze9}(h:RowsIn w B D)(hb:B'<=B):RowsIn w B' D:=fun d hd=>ze4 (h d hd) hb
theorem RowsIn.keepT{w w':World}{B g:Nat}{t:TypeId}{cs:Array Value}{D:List ze9}(h:RowsIn w B D)(hT:Blk w g t cs)(hne:75≠t)(hg:w.grownBy w' (some g)):RowsIn w' B D:=fun d hd=>qlm (h d hd) hg (.inr (zav (h d hd) hT hne))
theorem RowsIn.snoc{w:World}{B:Nat}{D:List ze9}{d:ze9}(h:RowsIn w B D)(hd:w.ownsRow B 75 5 (.slice d.1 d.2.2.length d.2.1) d.2.2.length (recs za4 d.2.2)):RowsIn w B (D++[d]):=by
 intro x hx;rcases qnd.1 hx with hx|hx
 ·exact h x hx
 ·obtain rfl:=qne.1 hx
  exact hd
def TabPost(er:Int)(L:List zbi)(r:Int)(C:List (List zab))(w:World)(e:Ending)(w':World):Prop:=
 ∃(Ac Ad:Option Addr) (cc cd:Nat) (D:List ze9),e= .returned (.tuple #[.agg #[.slice Ac L.length cc,.int .i64 r,.slice Ad D.length cd],.int .i64 er])/\
  w'.ownsRow w.heap.size 71 3 (.slice Ac L.length cc) L.length (recs zl3 L)/\w'.ownsRow w.heap.size 76 1 (.slice Ad D.length cd) D.length (recs zle D)/\RowsIn w' w.heap.size D/\D.map (·.2.2)=C/\New w w'
def qjp(er:Int)(L:List zbi)(l:List Int):List zbi:=if er=0 then l.map (fun c=>L.getD c.toNat ([],0,false)) else []
def qjq(er fr to_:Int):Int:=if er=0 then to_-fr else 0
def qk3(D:List ze9)(fr to_ c:Int):List zab:=((D.getD c.toNat (none,0,[])).2.2.drop fr.toNat).take (to_-fr).toNat
def qjr(er:Int)(D:List ze9)(l:List Int)(fr to_:Int):List (List zab):=if er=0 then l.map (qk3 D fr to_) else []
def ProjPost(er:Int)(L:List zbi)(D:List ze9)(l:List Int)(fr to_:Int)(w:World)(e:Ending)(w':World):Prop:=
 (er≠0/\e= .returned (.tuple #[.agg #[.slice none 0 0,.int .i64 0,.slice none 0 0],.int .i64 er])/\New w w')\/(er=0/\TabPost 0 (l.map (fun c=>L.getD c.toNat ([],0,false))) (to_-fr) (l.map (qk3 D fr to_)) w e w')
theorem ProjPost.u{er:Int}{L:List zbi}{D:List ze9}{l:List Int}{fr to_:Int}{w w':World}{e:Ending}(h:ProjPost er L D l fr to_ w e w'):TabPost er (qjp er L l) (qjq er fr to_) (qjr er D l fr to_) w e w':=by
 rcases h with⟨h1,rfl,h2⟩|⟨rfl,h⟩
 ·rw[qjp,qjq,qjr,if_neg h1,if_neg h1,if_neg h1]
  exact⟨none,none,0,0,[],rfl,zdx,zdx,fun _ hd=>absurd hd (by simp),rfl,h2⟩
 ·exact h
theorem z90{L:List zbi}{r:Int}{D:List ze9}(h:zgr L r D=0):D.length=L.length/\0<=r/\r<=65536/\L.length<=64/\ ∀d∈D,((d.2.2.length:Nat):Int)=r:=by
 unfold zgr at h;split at h
 ·rename_i h1;exact absurd h h1
 ·rename_i h1
  split at h
  ·rename_i h2;exact absurd h h2
  ·rename_i h2
   obtain⟨a,b,c,d⟩:=zw0 (Classical.not_not.1 h2);refine⟨a,b,c,?_,d⟩;have h3:=Classical.not_not.1 h1;unfold zc7 at h3;split at h3
   ·cases h3
   ·omega
end Go.Proofs.Y
