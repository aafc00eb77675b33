import Derived.Deep.Onto
import Derived.LoopIn
import Derived.LoopNIn
import Derived.OwnWalkIn
import Derived.RangeFuncBound
import Derived.RangeFuncNested
import Derived.Shelf.RegionOpen
import Derived.Test.YtbahbnbpmfgimaaGreatDoorBun12
set_option maxHeartbeats 4000000
set_option maxRecDepth 100000
namespace Go.Hm
def seg(l:List Nat)(a b:Nat):List Nat:=(l.drop a).take (b-a)
theorem ztl{l:List Nat}{a b:Nat}(h:b<=l.length):(seg l a b).length=b-a:=by unfold seg;rw[ql2,ql0];omega
def zcu(l:List Nat)(f a:Nat):List (Nat × Nat):=
 if _h:l.length<=a then(if f<l.length then [(f,l.length)] else [])
 else if 4<=st (l.drop a) then(if f<a then [(f,a)] else [])++((a,a+st (l.drop a))::zcu l (a+st (l.drop a)) (a+st (l.drop a)))
 else zcu l f (a+st (l.drop a))
termination_by l.length-a
decreasing_by
 ·have:=znd (l:=l.drop a) (by rw[ql0];omega)
  omega
 ·have:=znd (l:=l.drop a) (by rw[ql0];omega)
  omega
theorem zjk{l:List Nat}{f a:Nat}(h:l.length<=a):zcu l f a=if f<l.length then [(f,l.length)] else []:=by rw[zcu,dif_pos h]
theorem zmj{l:List Nat}{f a:Nat}(h:a<l.length)(h4:4<=st (l.drop a)):zcu l f a=(if f<a then [(f,a)] else [])++((a,a+st (l.drop a))::zcu l (a+st (l.drop a)) (a+st (l.drop a))):=by rw[zcu,dif_neg (by omega),if_pos h4]
theorem zka{l:List Nat}{f a:Nat}(h:a<l.length)(h4: ¬4<=st (l.drop a)):zcu l f a=zcu l f (a+st (l.drop a)):=by rw[zcu,dif_neg (by omega),if_neg h4]
theorem qct{l:List Nat}{f a k:Nat}(h:f<=a):seg l f a++(l.drop a).take k=seg l f (a+k):=by
 unfold seg;have e:(l.drop f).take (a+k-f)=(l.drop f).take (a-f)++((l.drop f).drop (a-f)).take k:=by rw[show a+k-f=(a-f)+k by omega,qqi]
 rw[e,qoq,show f+(a-f)=a by omega]
theorem z7r{l:List Nat}{a:Nat}:seg l a a=[]:=by simp[seg]
theorem z2z{l:List Nat}:∀(k f a:Nat),l.length-a<=k->f<=a->a<=l.length->(zcu l f a).map (fun p=>seg l p.1 p.2)=z0n (seg l f a) (l.drop a):=by
 intro k;induction k with
 |zero=>
  intro f a hk hf ha;obtain rfl:a=l.length:=by omega
  have hs:(seg l f l.length).length=l.length-f:=ztl (ql6 _);rw[zjk (ql6 _),qqj,ztj];unfold zve;by_cases h:f<l.length
  ·rw[if_pos h,if_neg (by omega)]
   rfl
  ·rw[if_neg h,if_pos (by omega)]
   rfl
 |succ k ih=>
  intro f a hk hf ha;by_cases he:a=l.length
  ·subst he
   exact ih f l.length (by omega) hf (ql6 _)
  have hl:(l.drop a).length=l.length-a:=ql0;have hp:=znd (l:=l.drop a) (by omega);have hb:=(zgi (l.drop a)).1;by_cases h4:4<=st (l.drop a)
  ·rw[zmj (by omega) h4,ztk (by omega) h4,qpj,qmp,ih _ _ (by omega) (ql6 _) (by omega),z7r,qoq]
   have e1:seg l a (a+st (l.drop a))=(l.drop a).take (st (l.drop a)):=by unfold seg;rw[qqk]
   have hs:(seg l f a).length=a-f:=ztl ha;rw[e1];unfold zve;by_cases h:f<a
   ·rw[if_pos h,if_neg (by omega)]
    rfl
   ·rw[if_neg h,if_pos (by omega)]
    rfl
  ·rw[zka (by omega) h4,zph (by omega) h4,ih _ _ (by omega) (by omega) (by omega),qct hf,qoq]
theorem z20(l:List Nat):(zcu l 0 0).map (fun p=>seg l p.1 p.2)=pcs l:=by have:=z2z (l:=l) l.length 0 0 (by omega) (ql6 _) (ql7 _);rw[z7r,qqa] at this;exact this
abbrev Sp(n:Nat):={p:Nat × Nat // p.1<=p.2/\p.2<=n}
end Go.Hm
namespace Go.Proofs.Y
open Go.RowKit Go.Hm Go.Shelf
attribute [local go_sem] Oper.semAt_some
def slV(A:Option Addr)(c f t:Nat):Value:= .slice (if c=f then A else A.map (·.add f)) (t-f) (c-f)
theorem zpk{w:World}{A:Option Addr}{c f t B:Nat}{L:List Nat}(h:Reads w B 1 A L.length (zah .u64 L))(hc:L.length<=c)(h1:f<=t)(h2:t<=L.length):Reads w B 1 (if c=f then A else A.map (·.add f)) (seg L f t).length (zah .u64 (seg L f t)):=by have a:=h.cut (k:=f) (cap:=c) (by omega) hc;rw[zei] at a;have b:=a.take (k:=t-f) (by omega);rw[ze2] at b;simp only[qmd] at b;rw[ztl h2];exact b
def KB(n0 bo:Nat)(W W':World):Prop:=W.heap.size<=W'.heap.size/\ ∀k,k<n0->k≠bo->W'.heap[k]? =W.heap[k]?
theorem KB.refl(n0 bo:Nat)(W:World):KB n0 bo W W:=⟨ql6 _,fun _ _ _=>rfl⟩
theorem KB.trans{n0 bo:Nat}{a b c:World}(h:KB n0 bo a b)(k:KB n0 bo b c):KB n0 bo a c:=⟨qlw h.1 k.1,fun i h1 h2=>(k.2 i h1 h2).trans (h.2 i h1 h2)⟩
theorem KB.new{n0 bo:Nat}{W W':World}(h:New W W')(hn:n0<=W.heap.size):KB n0 bo W W':=⟨h.size,fun k h1 _=>h.block k (by omega)⟩
abbrev qsr:=@KB.new
theorem KB.cell{n0 bo:Nat}{W W':World}(h:KB n0 bo W W'){p:Addr}(h1:p.block<n0)(h2:p.block≠bo):W'.cell? p=W.cell? p:=World.cell?_of_block (h.2 _ h1 h2)
theorem KB.reads{n0 bo n:Nat}{W W':World}{A:Option Addr}{xs:List Value}(h:KB n0 bo W W')(r:Reads W n0 1 A n xs)(hA:0<n-> ∀ad,A=some ad->ad.block≠bo):Reads W' n0 1 A n xs:=
 ⟨r.1,fun hn=>by obtain⟨ad,e,hb,hc⟩:=r.2 hn;exact⟨ad,e,hb,fun j u hu=>(h.cell (by rw[zao];exact hb) (by rw[zao];exact hA hn ad e)).trans (hc j u hu)⟩⟩
theorem z21{w w':World}(h:New w w'):w.grownBy w' none:=⟨h.os,h.tape,h.output,h.size,fun k hk _=>h.block k hk⟩
theorem qcu{L:List Nat}{a:Nat}:seg L a L.length=L.drop a:=by unfold seg;exact qm0 (by rw[ql0];exact ql6 _)
def qi3{n:Nat}(L:List Nat)(J Jx:List (Sp n)->World->Prop)(e:Ending)(W':World):Prop:=
 (∃v,e= .returned v)/\((∃ys:List (Sp n),ys.map Subtype.val=zcu L 0 0/\J ys W')\/(∃pre,Jx pre W'))
theorem z22{m l bx bo n0 c:Nat}{A:Option Addr}{L:List Nat}(hm:1<=m)(hc:L.length<=c)(hL:L.length<=1000000)(J Jx:List (Sp L.length)->World->Prop)(hJ:∀s W W',J s W->New W W'->J s W')
 (hY:∀pre x W,J pre W->pre.length<(zcu L 0 0).length->YieldAt Fence.wide (m-1) Tryz.prog l #[slV A c x.1.1 x.1.2] W fun e W'=>
  (e= .returned (.bool true)/\J (pre++[x]) W'/\KB n0 bo W W')\/(e= .returned (.bool false)/\Jx (pre++[x]) W'))
 (W:World)(hn0:n0<=W.heap.size)(hbx:bx<n0)(hbo:bx≠bo)(hA:0<L.length-> ∀ad,A=some ad->ad.block≠bo)(hcx:W.cell? ⟨bx,0,none⟩=some (.slice A L.length c))(hr:Reads W n0 1 A L.length (zah .u64 L))(h0:J [] W):
 CallsIn Fence.wide m Tryz.prog 206 #[.func (.yield l) #[] #[],.pointer (some ⟨bx,0,none⟩)] W (qi3 L J Jx):=by
 have HJ:=qrf hJ;have HY:=qrf hY;have HR:=qrf hr;have HA:=qrf hA;clear hJ hY hr hA;refine callsIn_of_wp Tryz.func206 rfl trivial ?_ rfl;simp only[Tryz.ntmps206,qmz,qm9,qpg,Nat.reduceAdd,Nat.reduceSub,Array.replicate_succ,Array.replicate_zero,List.push_toArray,List.append_toArray,qmx,qm8]
 gi_wp2
 gi_loopw [3,4] (fun vf va wr=>∃(f a:Nat) (pre:List (Sp L.length)),vf= .int .i64 (f:Int)/\va= .int .i64 (a:Int)/\f<=a/\a<=L.length/\Hid (pre.map Subtype.val++zcu L f a=zcu L 0 0)/\Hid (J pre wr)/\KB n0 bo W wr)
  (fun _ va _=>L.length-(intOf va).toNat)
 case atStart=>exact⟨0,0,[],rfl,rfl,ql6 _,ql7 _,qrf rfl,qrf h0,KB.refl _ _ _⟩
 case round=>
  obtain⟨f,a,pre,rfl,rfl,hfa,haL,hsp,hJs,hnx⟩:=hrel;have hcr:wr.cell? ⟨bx,0,none⟩=some (.slice A L.length c):=(hnx.cell (p:=⟨bx,0,none⟩) hbx hbo).trans hcx;by_cases hlt:a<L.length
  ·have hp:=znd (l:=L.drop a) (by rw[ql0];omega)
   have hb:=(zgi (L.drop a)).1;rw[ql0] at hb;have sr:=zmj (l:=L) (f:=f) hlt;have ss:=zka (l:=L) (f:=f) hlt;obtain⟨ad,hA,-⟩:=HR.out.2 (by omega);subst hA;have hsz:n0<=wr.heap.size:=qlw hn0 hnx.1;have hca: ¬c=a:=by omega
   have rs:=zpk ((hnx.reads HR.out HA.out).more hsz) hc (f:=a) (t:=L.length) (by omega) (ql6 _);rw[if_neg hca,qcu] at rs;have ST:=zpj (c:=c-a) rs (by rw[ql0];omega);rw[ql0] at ST;have ST:=qrf (show CallsIn Fence.wide (m-1) Tryz.prog 207 #[.slice (some (ad.add a)) (L.length-a) (c-a)] wr _ from callsIn_wide.2 ST);have hcf: ¬c=f:=by omega
   obtain⟨n1,hn1⟩:∃n,n=st (L.drop a):=⟨_,rfl⟩;rw[<-hn1] at hp hb sr ss ST;have HN1:=qrf hn1;have SR:=qrf sr;have SS:=qrf ss;clear hn1 sr ss rs;by_cases h4:4<=n1
   ·have d4:decide ((4:Int)<=(n1:Int))=true:=decide_eq_true (by omega)
    have hsp':=SR.out h4;by_cases hf:f<a
    ·rw[if_pos hf] at hsp'
     have hsp1:=qrf (show pre.map Subtype.val++[(f,a)]++[(a,a+n1)]++zcu L (a+n1) (a+n1)=zcu L 0 0 by rw[<-hsp.out,hsp',qmi,qmi];rfl)
     clear hsp'
     gi_wp2_with fail
     refine⟨trivial,?_⟩;refine ST.out.mono ?_;rintro e w2 ⟨rfl,b2⟩;have hJ2:=HJ.out _ _ _ hJs.out b2;have hcr2:w2.cell? ⟨bx,0,none⟩=some (.slice (some ad) L.length c):=(qro b2 (p:=⟨bx,0,none⟩) (by show bx<wr.heap.size;omega)).trans hcr;have hpl:pre.length<(zcu L 0 0).length:=by have:=congrArg List.length hsp1.out;simp only[qmv,qos,qm9,qpg] at this;omega
     obtain⟨fn,tmps,assign,body,hy,hR⟩:=HY.out pre ⟨(f,a),by omega,by omega⟩ w2 hJ2 hpl;unfold slV at hy;rw[if_neg hcf] at hy;dsimp only[Option.map_some] at hy;have b20:=hnx.trans (qsr b2 hsz)
     gi_wp2_with fail
     refine hR.mono ?_;rintro e w3 (⟨rfl,hJ3,hk3⟩|⟨rfl,hJx3⟩);rotate_left
     ·gi_wp2
      refine⟨fun _ h=>(by cases h),?_⟩
      gi_wp2
      refine bodyPost_ret (results_none rfl _ _ _) rfl ?_;exact⟨⟨_,rfl⟩,.inr ⟨_,hJx3⟩⟩
     have b30:=b20.trans hk3;clear hy hR hcr2;have hcr3:w3.cell? ⟨bx,0,none⟩=some (.slice (some ad) L.length c):=(b30.cell (p:=⟨bx,0,none⟩) hbx hbo).trans hcx;have hpl2:(pre++[(⟨(f,a),by omega,by omega⟩:Sp L.length)]).length<(zcu L 0 0).length:=by have:=congrArg List.length hsp1.out;simp only[qmv,qos,qm9,qpg] at this⊢;omega
     obtain⟨fn2,tmps2,assign2,body2,hy2,hR2⟩:=HY.out (pre++[(⟨(f,a),by omega,by omega⟩:Sp L.length)]) ⟨(a,a+n1),by omega,by omega⟩ w3 hJ3 hpl2;unfold slV at hy2;rw[if_neg hca] at hy2;dsimp only[Option.map_some] at hy2;rw[qqk] at hy2
     gi_wp2_with fail
     refine hR2.mono ?_;rintro e w4 (⟨rfl,hJ4,hk4⟩|⟨rfl,hJx4⟩)
     ·have b40:=b30.trans hk4
      gi_wp2
      go_roundw
      case rel=>exact⟨a+n1,a+n1,_,by go_num,by go_num,ql6 _,by omega,qrf (by simpa using hsp1.out),qrf hJ4,b40⟩
      case measure=>simp[intOf];omega
     ·gi_wp2
      refine bodyPost_ret (results_none rfl _ _ _) rfl ?_;exact⟨⟨_,rfl⟩,.inr ⟨_,hJx4⟩⟩
    ·rw[if_neg hf] at hsp'
     have hsp1:=qrf (show pre.map Subtype.val++[(a,a+n1)]++zcu L (a+n1) (a+n1)=zcu L 0 0 by rw[<-hsp.out,hsp',qmi];rfl)
     clear hsp'
     gi_wp2_with fail
     refine⟨trivial,?_⟩;refine ST.out.mono ?_;rintro e w2 ⟨rfl,b2⟩;have hJ2:=HJ.out _ _ _ hJs.out b2;have b20:=hnx.trans (qsr b2 hsz);have hcr3:w2.cell? ⟨bx,0,none⟩=some (.slice (some ad) L.length c):=(b20.cell (p:=⟨bx,0,none⟩) hbx hbo).trans hcx;have hpl2:(pre).length<(zcu L 0 0).length:=by have:=congrArg List.length hsp1.out;simp only[qmv,qos,qm9,qpg] at this⊢;omega
     obtain⟨fn2,tmps2,assign2,body2,hy2,hR2⟩:=HY.out (pre) ⟨(a,a+n1),by omega,by omega⟩ w2 hJ2 hpl2;unfold slV at hy2;rw[if_neg hca] at hy2;dsimp only[Option.map_some] at hy2;rw[qqk] at hy2
     gi_wp2_with fail
     refine⟨fun _ h=>(by cases h),?_⟩
     gi_wp2_with fail
     refine hR2.mono ?_;rintro e w4 (⟨rfl,hJ4,hk4⟩|⟨rfl,hJx4⟩)
     ·have b40:=b20.trans hk4
      gi_wp2
      go_roundw
      case rel=>exact⟨a+n1,a+n1,_,by go_num,by go_num,ql6 _,by omega,qrf (by simpa using hsp1.out),qrf hJ4,b40⟩
      case measure=>simp[intOf];omega
     ·gi_wp2
      refine bodyPost_ret (results_none rfl _ _ _) rfl ?_;exact⟨⟨_,rfl⟩,.inr ⟨_,hJx4⟩⟩
   ·have hsp':=qrf (show pre.map Subtype.val++zcu L f (a+n1)=zcu L 0 0 by rw[<-SS.out h4];exact hsp.out)
    have d4:decide ((4:Int)<=(n1:Int))=false:=decide_eq_false (by omega)
    gi_wp2_with fail
    refine⟨trivial,?_⟩;refine ST.out.mono ?_;rintro e w2 ⟨rfl,b2⟩;have hJ2:=qrf (HJ.out _ _ _ hJs.out b2);have b20:=qrf (hnx.trans (qsr b2 hsz));clear SR SS HN1 b2 ST hsp
    gi_wp2
    go_roundw
    case rel=>exact⟨f,a+n1,pre,rfl,by go_num,by omega,by omega,hsp',hJ2,b20.out⟩
    case measure=>simp[intOf];omega
  ·obtain rfl:a=L.length:=by omega
   have se:=zjk (l:=L) (f:=f) (ql6 _);by_cases hf:f<L.length
   ·rw[if_pos hf] at se
    have hsp1:=qrf (show pre.map Subtype.val++[(f,L.length)]=zcu L 0 0 by rw[<-se];exact hsp.out);have hpl:pre.length<(zcu L 0 0).length:=by have:=congrArg List.length hsp1.out;simp only[qmv,qos,qm9,qpg] at this;omega
    obtain⟨ad,hA,-⟩:=HR.out.2 (by omega);subst hA;have hcf: ¬c=f:=by omega
    obtain⟨fn,tmps,assign,body,hy,hR⟩:=HY.out pre ⟨(f,L.length),by omega,by omega⟩ wr hJs.out hpl;unfold slV at hy;rw[if_neg hcf] at hy;dsimp only[Option.map_some] at hy;clear se hsp
    gi_wp2_with fail
    refine hR.mono ?_;rintro e W3 (⟨rfl,hJ3,hk3⟩|⟨rfl,hJx3⟩)
    ·gi_wp2
     go_end0
     exact⟨⟨_,rfl⟩,.inl ⟨_,by simpa using hsp1.out,hJ3⟩⟩
    ·gi_wp2
     go_end0
     exact⟨⟨_,rfl⟩,.inr ⟨_,hJx3⟩⟩
   ·rw[if_neg hf] at se
    have hsp1:=qrf (show pre.map Subtype.val=zcu L 0 0 by rw[<-hsp.out,se,qmg]);clear se hsp
    gi_wp2
    go_end0
    exact⟨⟨_,rfl⟩,.inl ⟨_,hsp1.out,hJs.out⟩⟩
def z23(A:Option Addr)(n c:Nat)(w:World)(e:Ending)(w':World):Prop:=e= .returned (.func (.func 206) #[] #[.pointer (some ⟨w.heap.size,0,none⟩)])/\w'=w.alloc (.cells #[.slice A n c] 201)
theorem z24(A:Option Addr)(n c:Nat)(w:World):Calls Tryz.prog 190 #[.slice A n c] w (z23 A n c w):=by
 have hmf:∀(fn:Fn) (first cap:Array Value) (w:World),(Instr.makeFunc fn first cap).run Tryz.prog w= .ok (.func fn first cap) w:=fun _ _ _ _=>rfl
 go_enter Tryz.func190,Tryz.ntmps190
 go_wp2
 go_ret
 exact⟨by simp,rfl⟩
theorem zvf{m bx bo n0 c:Nat}{A:Option Addr}{L:List Nat}(hm:1<=m)(hc:L.length<=c)(hL:L.length<=1000000){w:World}(hn0:n0<=w.heap.size)(hbx:bx<n0)(hbo:bx≠bo)(hA:0<L.length-> ∀ad,A=some ad->ad.block≠bo)(hcx:w.cell? ⟨bx,0,none⟩=some (.slice A L.length c))(hr:Reads w n0 1 A L.length (zah .u64 L)):
 SeqStopsK Fence.wide m Tryz.prog 206 #[.pointer (some ⟨bx,0,none⟩)] (fun x:Sp L.length=> #[slV A c x.1.1 x.1.2]) (KB n0 bo) (fun ys=>ys.map Subtype.val=zcu L 0 0) (fun _=>True) (zcu L 0 0).length w:=fun l J Jx W hW hJ _ hY h0=>by
 refine(z22 (n0:=n0) (bo:=bo) hm hc hL J Jx (fun s W1 W2 hj hn=>hJ s W1 W2 none hj (z21 hn) (fun _ e=>by cases e)) hY W (qlw hn0 hW.size) hbx hbo hA ((hW.cell (p:=⟨bx,0,none⟩) (by show bx<_;omega)).trans hcx) (hr.keep fun p hp=>hW.cell (by omega)) h0).mono ?_;rintro e W' ⟨he,⟨ys,h1,h2⟩|⟨pre,h⟩⟩
 ·exact⟨he,.inl ⟨ys,h1,h2⟩⟩
 ·exact⟨he,.inr ⟨pre,trivial,h⟩⟩
open Go.RowKit Go.Hm Go.Shelf
attribute [local go_sem] Oper.semAt_some
theorem KB.of_below{n0 bo:Nat}{W W':World}(h:Below n0 W W'):KB n0 bo W W':=⟨h.size,fun k h1 _=>h.block k h1⟩
theorem z25{L:List Nat}:∀(k f a:Nat),L.length-a<=k->f<=a->a<=L.length->(zcu L f a).length<=2*(L.length-a)+1:=by
 intro k;induction k with
 |zero=>
  intro f a hk hf ha;rw[zjk (by omega)];split<;> simp
 |succ k ih=>
  intro f a hk hf ha;by_cases he:L.length<=a
  ·rw[zjk he]
   split<;> simp
  have hp:=znd (l:=L.drop a) (by rw[ql0];omega);have hb:=(zgi (L.drop a)).1;rw[ql0] at hb;by_cases h4:4<=st (L.drop a)
  ·rw[zmj (by omega) h4,qmv,qm9]
   have:=ih (a+st (L.drop a)) (a+st (L.drop a)) (by omega) (ql6 _) (by omega);split<;> simp<;> omega
  ·rw[zka (by omega) h4]
   have:=ih f (a+st (L.drop a)) (by omega) (by omega) (by omega);omega
end Go.Proofs.Y
namespace Go.Hm
open Go.RowKit
section
variable{P:Program}{ops:Array Oper}{Q:Exit->Act->World->Prop}{l n:Nat}
theorem qg8{o:Oper}{a:Act}{K:Act->World->Prop}:∀{r:Result Next},o.upon P a K Q r->o.uponIn (Fence.wide.inRound l) n P a K Q r
 | .ok (.value _) _,h=>h
 | .ok .skip _,h=>h
 | .ok (.defer _) _,h=>h
 | .ok (.enter _ _) _,h=>⟨fun e=>(by cases e),CallsIn.inRound l (callsIn_wide.2 h)⟩
 | .ok (.row _ _) _,h=>⟨fun e=>(by cases e),fun c cs _=>(match h c cs with|⟨v,w',r,s⟩=>⟨v,w',r,stepsIn_wide.2 s⟩)⟩
 | .ok (.round _ _ _ _ _) _,h=>h.elim
 | .halt (.panic _) _,h=>h
 | .halt (.unsupported _) _,h=>h.elim
 | .halt .blocked _,h=>h.elim
 | .halt .waiting _,h=>h.elim
 | .halt _ _,h=>by
   revert h
   rename_i x w;cases x<;> intro h<;> first|exact h|exact h.elim
def qcv(ops:Array Oper):Bool:=ops.all fun o=>match o.op with
 | .defer _=>false
 |_=>true
theorem z26(h:qcv ops=true){i:Nat}{o:Oper}(hi:ops[i]? =some o):∀c,o.op≠ .defer c:=by intro c hc;unfold qcv at h;rw[Array.all_eq_true] at h;obtain⟨hlt,rfl⟩:=ql8.1 hi;have:=h i hlt;rw[hc] at this;cases this
theorem qkk{o:Oper}{a:Act}{w:World}{K:Act->World->Prop}(hd:∀c,o.op≠ .defer c)(h:o.wp P a w K Q):o.wpIn (Fence.wide.inRound l) n P a w K Q:=
 ⟨fun _ _=>trivial,by rw[Oper.semAt_plain _ _ _ hd];exact qg8 h⟩
theorem z0q{md:Region.Mode}(hno: ¬LetsOut Q)(hd:qcv ops=true):∀(fuel:Nat) (listed:Array Bool) (a:Act) (w:World),wpAny P md ops Q fuel listed a w->wpAnyIn (Fence.wide.inRound l) n P md ops Q fuel listed a w
 |0,_,_,_,h=>h
 |fuel+1,listed,a,w,h=>⟨h.1,fun i hi=>by
  have h1:=h.2 i hi;unfold wpOp at h1;unfold wpOpIn;cases ho:ops[i]? with
  |none=>
   rw[ho] at h1;exact z0q hno hd fuel _ _ _ h1
  |some o=>
   rw[ho] at h1;dsimp only at h1⊢;split
   ·rename_i hw
    rw[if_pos hw] at h1;rcases h1 with h1|h1
    ·exact Oper.wpIn_mono (fun a w h=>z0q hno hd fuel _ a w h) (qkk (z26 hd ho) h1)
    ·exact absurd h1.2 hno
   ·rename_i hw
    rw[if_neg hw] at h1;exact⟨fun _ _=>trivial,z0q hno hd fuel _ _ _ h1⟩⟩
theorem zgk{id:Nat}{a:Act}{w:World}(R:World->World->Prop)(t0:Nat)(ord:List (Nat × Nat))(hrefl:∀w,R w w)(htrans:∀{x y z},R x y->R y z->R x z)(hm:P.follows .mixedOrders=true)
 (hno:∀a w,¬Q .outgrown a w)(hd:qcv ops=true)(hs:Region.noSelect ops=true)(hl:(decide (ord.length<=ops.size)&&ord.all fun x=>decide (x.2<ops.size))=true)(hok:zqw ops t0 (Array.replicate ops.size false) ord=true)(h:zkq P ops R Q t0 ord false a w.drew):(Code.region id ops true).wpIn (Fence.wide.inRound l) n P Q a w:=by
 simp only[qnt,decide_eq_true_eq,qog] at hl;refine wpIn_mono (wpIn_region_any (Q:=NoPanic Q) hm (z0q ?_ hd _ _ _ _ (zl4 _ _ _ _ (zm3 hrefl htrans hs ord ops.size _ false a _ (by simp) ?_ hl.1 hok h)))) NoPanic.imp
 ·rintro⟨a,w,h⟩
  exact hno a w h
 ·intro i hi
  simp only[qly] at hi;obtain⟨x,hx,rfl⟩:=hi;rw[Array.size_replicate];exact hl.2 x hx
end
end Go.Hm
namespace Go.Proofs.Y
open Go.RowKit Go.Hm
def restB(L:List Nat):List Nat:=wid L::low (pk (wid L) L) ((wid L*L.length+7)/8)
theorem zyb{w:World}{A:Option Addr}{c:Nat}{L:List Nat}(h:Reads w w.heap.size 1 A L.length (zah .u64 L))(hL:∀x∈L,x<=18446744073709551615)(hl:L.length<=65536):
 Calls Tryz.prog 192 #[.slice A L.length c] w (OptB (some (restB L)) w):=by
 have W:=qrf (zk2 (c:=c) h hL (by omega));have hw:=zo2 L hL;have PO:=zf9 L (wid L) hw hl (ql6 _);have hn:(wid L*L.length+7)/8<=524288:=by have:=qp5 hw hl;omega
 have K:=qrf (zn1 (c:=c) (wid L:Int) h hL (by omega) (by omega) (by omega));rw[PO] at K;have hlen:(low (pk (wid L) L) ((wid L*L.length+7)/8)).length=(wid L*L.length+7)/8:=zbe _ _;have HP:Hid (restB L=[wid L]++low (pk (wid L) L) ((wid L*L.length+7)/8)):=qrf rfl;clear PO hL;generalize restB L=RB at*;generalize low (pk (wid L) L) ((wid L*L.length+7)/8)=B at*;generalize(wid L*L.length+7)/8=m at*;generalize wid L=q at*;subst hlen;go_enter Tryz.func192,Tryz.ntmps192
 go_wp2_with fail
 refine W.out.mono ?_;rintro e w1 ⟨rfl,rfl⟩;go_wp2_with fail
 refine K.out.mono ?_;rintro e w2 ⟨A2,n2,c2,rfl,o2,b2⟩;obtain rfl:n2=B.length:=by have:=o2.len;rwa[zaa] at this
 clear W K;have hwq:IntKind.u8.wrap (q:Int)=(q:Int):=by rw[qrg];omega
 go_wp2_with (first
  |(refine zal elB rfl (.tmp 17) (.tmp 18) rfl (W:=w) (B:=w.heap.size) (k:= .u8) (l:=[q]) (l2:=B) (c2:=c2) (World.ownsRow_lit (e:=5) (size:=1) (base:=w.heap.size) w2 #[.int .u8 (q:Int)] 1 b2.size (by decide) rfl) ((o2.reads.alloc (ql6 _) _).more (by simp)) rfl rfl (b2.alloc b2.size _) (ql6 _) (by have:=b2.size;simp;omega) (by omega) (by simp only[maxLen];omega) ?_
    intro A3 c3 w3 _ _ o3 _ b3 _))
 go_ret2
 refine⟨A3,_,c3,rfl,?_,b3⟩;rw[HP.out];exact o3
end Go.Proofs.Y
