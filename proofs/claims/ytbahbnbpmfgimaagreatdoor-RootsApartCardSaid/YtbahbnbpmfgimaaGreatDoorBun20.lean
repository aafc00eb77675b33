/- Merged. -/
import Derived.Test.YtbahbnbpmfgimaaGreatDoorBun19
set_option maxHeartbeats 4000000
namespace Go.Hm
open Go Go.RowKit
abbrev zcl:List Nat:=[110,111,100,101]
abbrev zbs:List Nat:=[110,111,110,101]
def zb2(s:List Nat)(L:List (List Nat)):List Nat:=(zee s L).map Int.toNat
def zlr(d:List Nat):Prop:=d.length=32/\ ∀x∈d,x<256
theorem qaw(l:List Nat):∀x∈sumI l,0<=x/\x<256:=by intro x hx;unfold sumI zud at hx;obtain⟨k,_,rfl⟩:=List.mem_map.1 hx;unfold qhv;omega
theorem zkm(s:List Nat)(L:List (List Nat)):∀x∈zee s L,0<=x/\x<256:=by
 unfold zee;cases za4 s L with
 |none=>
  intro x hx;have:x=0:=(List.mem_replicate.1 hx).2;omega
 |some f=>exact qaw f
theorem zly{l:List Int}(h:∀x∈l,0<=x):(l.map Int.toNat).map (fun n:Nat=>(n:Int))=l:=by
 rw[List.map_map];conv=>rhs;rw[<-List.map_id l]
 exact List.map_congr_left fun x hx=>by have:=h x hx;simp;omega
theorem zb7(s:List Nat)(L:List (List Nat)):zlr (zb2 s L):=by refine⟨by unfold zb2;rw[List.length_map,zkl],fun x hx=>?_⟩;obtain⟨y,hy,rfl⟩:=List.mem_map.1 hx;have:=zkm s L y hy;omega
theorem z5j(s:List Nat)(L:List (List Nat)):zao .u8 (zb2 s L)=za0 .u8 (zee s L):=by
 have:=zly (l:=zee s L) fun x hx=>(zkm s L x hx).1
 unfold zao za0 zb2;conv=>rhs;rw[<-this]
 simp only[List.map_map];rfl
theorem zue{s t:List Nat}{L M:List (List Nat)}(h:zb2 s L=zb2 t M):zee s L=zee t M:=by
 have a:=zly (l:=zee s L) fun x hx=>(zkm s L x hx).1
 have b:=zly (l:=zee t M) fun x hx=>(zkm t M x hx).1
 unfold zb2 at h;rw[<-a,h,b]
theorem zfu{a b:List Nat}:za4 zcl [a,b]=some (zbv zcl [a,b]):=by unfold za4;exact if_pos ⟨by decide,by decide,by simp⟩
theorem zlz:za4 zbs []=some (zbv zbs []):=by unfold za4;exact if_pos ⟨by decide,by decide,by simp⟩
def zcw(L:List (List Nat)):List Nat × List (List Nat):=
 if _h0:L.length=0 then(zb2 zbs [],[zbv zbs []])
 else if _h1:L.length=1 then(L.getD 0 [],[])
 else
  let a:=zcw (L.take (za3 L.length))
  let b:=zcw (L.drop (za3 L.length))
  (zb2 zcl [a.1,b.1],a.2++b.2++[zbv zcl [a.1,b.1]])
termination_by L.length
decreasing_by
 ·have:=zgz (n:=L.length) (by omega)
  rw[List.length_take];omega
 ·have:=zgz (n:=L.length) (by omega)
  rw[List.length_drop];omega
theorem zih:zcw []=(zb2 zbs [],[zbv zbs []]):=by rw[zcw];rfl
theorem zf4(x:List Nat):zcw [x]=(x,[]):=by rw[zcw];rfl
theorem zg2{L:List (List Nat)}(h:2<=L.length):zcw L=(zb2 zcl [(zcw (L.take (za3 L.length))).1,(zcw (L.drop (za3 L.length))).1],
 (zcw (L.take (za3 L.length))).2++(zcw (L.drop (za3 L.length))).2++[zbv zcl [(zcw (L.take (za3 L.length))).1,(zcw (L.drop (za3 L.length))).1]]):=by
 rw[zcw,dif_neg (by omega),dif_neg (by omega)]
theorem z5k{C:List (List Nat)->Prop}(h0:C [])(h1:∀x,C [x])(h2:∀L,2<=L.length->C (L.take (za3 L.length))->C (L.drop (za3 L.length))->C L):∀L,C L:=by
 intro L;induction hn:L.length using Nat.strongRecOn generalizing L with
 |_ n ih=>
  match L,hn with
  | [],_=>exact h0
  | [x],_=>exact h1 x
  |x::y::r,hn=>
   have hs:=zgz (n:=(x::y::r).length) (by simp);refine h2 _ (by simp) (ih _ ?_ _ rfl) (ih _ ?_ _ rfl)
   ·rw[List.length_take];omega
   ·rw[List.length_drop];omega
def Digs(L:List (List Nat)):Prop:=∀d∈L,zlr d
theorem Digs.take{L:List (List Nat)}(h:Digs L)(k:Nat):Digs (L.take k):=fun d hd=>h d (List.mem_of_mem_take hd)
theorem Digs.drop{L:List (List Nat)}(h:Digs L)(k:Nat):Digs (L.drop k):=fun d hd=>h d (List.mem_of_mem_drop hd)
theorem zdn:∀L,Digs L->zlr (zcw L).1:=by
 refine z5k ?_ ?_ ?_
 ·intro _;rw[zih];exact zb7 _ _
 ·intro x h;rw[zf4];exact h x (by simp)
 ·intro L h _ _ _;rw[zg2 h];exact zb7 _ _
theorem zhp:∀L,Digs L->1<=L.length->(zcw L).2.length=L.length-1/\ ∀f∈(zcw L).2,∃a b,zlr a/\zlr b/\za4 zcl [a,b]=some f:=by
 refine z5k ?_ ?_ ?_
 ·intro _ h;simp at h
 ·intro x h _;rw[zf4];exact⟨rfl,by simp⟩
 ·intro L h i1 i2 hd _
  obtain⟨s1,s2,s3⟩:=zgz h;obtain⟨a1,a2⟩:=i1 (hd.take _) (by rw[List.length_take];omega);obtain⟨b1,b2⟩:=i2 (hd.drop _) (by rw[List.length_drop];omega);rw[zg2 h];refine⟨?_,?_⟩
  ·simp only[List.length_append,a1,b1,List.length_take,List.length_drop,List.length_cons,List.length_nil]
   omega
  ·intro f hf
   simp only[List.mem_append,List.mem_singleton] at hf;rcases hf with(hf|hf)|rfl
   ·exact a2 f hf
   ·exact b2 f hf
   ·exact⟨_,_,zdn _ (hd.take _),zdn _ (hd.drop _),zfu⟩
theorem zw6:∀L,Digs L-> ∀M,Digs M->M.length=L.length->(zcw L).1=(zcw M).1->L≠M-> ∃x∈(zcw L).2,∃y∈(zcw M).2,x≠y/\sumI x=sumI y:=by
 refine z5k ?_ ?_ ?_
 ·intro _ M _ hl _ hne
  exact absurd (List.eq_nil_of_length_eq_zero hl).symm hne
 ·intro x _ M _ hl hr hne
  match M,hl with
  | [y],_=>
    rw[zf4,zf4] at hr;have hr:x=y:=hr;rw[hr] at hne;exact absurd rfl hne
 ·intro L h i1 i2 hd M hm hl hr hne
  obtain⟨s1,s2,s3⟩:=zgz h;have hM:2<=M.length:=by omega
  rw[zg2 h,zg2 hM] at hr⊢;rw[hl] at hr⊢;have hr:=zue hr;have d1:=zdn _ (hd.take (za3 L.length));have d2:=zdn _ (hd.drop (za3 L.length));have d3:=zdn _ (hm.take (za3 L.length));have d4:=zdn _ (hm.drop (za3 L.length));have i1:=i1 (hd.take _) (M.take (za3 L.length)) (hm.take _) (by rw[List.length_take,List.length_take,hl]);have i2:=i2 (hd.drop _) (M.drop (za3 L.length)) (hm.drop _) (by rw[List.length_drop,List.length_drop,hl]);have hs:sumI (zbv zcl [(zcw (L.take (za3 L.length))).1,(zcw (L.drop (za3 L.length))).1])=sumI (zbv zcl [(zcw (M.take (za3 L.length))).1,(zcw (M.drop (za3 L.length))).1]):=by unfold zee at hr;rw[zfu,zfu] at hr;exact hr
  by_cases hf:zbv zcl [(zcw (L.take (za3 L.length))).1,(zcw (L.drop (za3 L.length))).1]=zbv zcl [(zcw (M.take (za3 L.length))).1,(zcw (M.drop (za3 L.length))).1]
  ·have ap:=(zod (L:=[(zcw (L.take (za3 L.length))).1,(zcw (L.drop (za3 L.length))).1]) (M:=[(zcw (M.take (za3 L.length))).1,(zcw (M.drop (za3 L.length))).1])
    (by intro p hp;simp at hp;rcases hp with rfl|rfl;rw[d1.1];omega;rw[d2.1];omega) (by intro p hp;simp at hp;rcases hp with rfl|rfl;rw[d3.1];omega;rw[d4.1];omega) zfu zfu).1 hf
   have e:=ap.2;simp only[List.cons.injEq,and_true] at e;by_cases h1:L.take (za3 L.length)=M.take (za3 L.length)
   ·have h2:L.drop (za3 L.length)≠M.drop (za3 L.length):=fun h2=>hne (by rw[<-List.take_append_drop (za3 L.length) L,h1,h2,List.take_append_drop])
    obtain⟨x,hx,y,hy,r⟩:=i2 e.2 h2;exact⟨x,by simp[hx],y,by simp[hy],r⟩
   ·obtain⟨x,hx,y,hy,r⟩:=i1 e.1 h1
    exact⟨x,by simp[hx],y,by simp[hy],r⟩
  ·exact⟨_,by simp,_,by simp,hf,hs⟩
theorem zsf{A B:List (List Nat)}{x y:List Nat}(hx:x∈A)(hy:y∈B)(hne:x≠y)(hs:sumI x=sumI y):∃z,zcu A B=some z:=by
 cases he:zcu A B with
 |some z=>exact⟨z,rfl⟩
 |none=>
  unfold zcu at he;rw[List.findSome?_eq_none_iff] at he;have:=he x hx;rw[Option.map_eq_none_iff,List.find?_eq_none] at this;exact absurd (decide_eq_true ⟨hne,hs⟩) (this y hy)
open Go Go.RowKit
theorem zyp(l:List (Int × Int))(p:Int × Int):zdj (l++[p])=zdj l++[.int .i64 p.1,.int .i64 p.2]:=by simp[zdj]
theorem z3u{h:Int × Int}{l:List (Int × Int)}{k:Nat}(hk:k<l.length):
 zgb h (l.drop k)=if inBox (l.getD k (0,0)).1 (l.getD k (0,0)).2 then(zgb (l.getD k (0,0)) (l.drop (k+1))).map (((l.getD k (0,0)).1-h.1,(l.getD k (0,0)).2-h.2):: ·) else none:=by
 rw[zjs l k (0,0) hk,zgb]
theorem zv5{α:Type}{o:Option (List α)}{x:α}{acc:List α}:(o.map (x:: ·)).map (acc++ ·)=o.map ((acc++[x])++ ·):=by cases o<;> simp
section
variable{P:Program}{ops:Array Oper}{rest:List Oper}{o:Oper}{a:Act}{Q:Exit->Act->World->Prop}
theorem z3v{w:World}{t e:TypeId}{z:Value}{sz bytes:Nat}(E:ElT P t e z sz bytes)(hgd:o.guard=none)(lo co:Operand)(ho:o.op=Op.makeSlice t lo co)
 {W:World}{B:Nat}{kl kc:IntKind}{L C:Int}(n:Nat)(hl:a.eval lo= .int kl L)(hc:a.eval co= .int kc C)(hL:L=0)(hC:C=(n:Int))(hb:Below B W w)(hbase:B<=w.heap.size)
 (hn:n*bytes<=140737488355328)(hm:n<=maxLen)
 (h:∀w',w'.ownsRow w.heap.size e sz (.slice (some ⟨w.heap.size,0,none⟩) 0 n) 0 []->w.grownBy w' none->Below B W w'->w'.heap.size=w.heap.size+1->wpList P ops Q rest (a.put o.dst (.slice (some ⟨w.heap.size,0,none⟩) 0 n)) w'):
 wpList P ops Q (o::rest) a w:=by
 obtain⟨i,hi,hz0,hs1,hb1⟩:=info_parts E.hi;subst hL hC;have hmC:(n:Int)<=9223372036854775807:=by have h:=hm;simp only[maxLen] at h;omega
 have hbC:(i.bytes:Int)*(n:Int)<=281474976710656:=by
  have h:((i.bytes*n:Nat):Int)<=281474976710656:=by rw[hb1,Nat.mul_comm];omega
  rwa[Int.natCast_mul] at h
 have hrun:=run_make (P:=P) w t e i z E.ht hi hz0 kl kc 0 (n:Int) (by omega) (by omega) hbC hmC;rw[Int.toNat_natCast,hs1] at hrun;refine wpList_plain hgd fun K hK=>?_
 unfold Oper.wp;simp[execOp,ho,hl,hc,hrun,Result.andThen];refine hK _ _ (h _ ?_ (World.grownBy_alloc _ _ _) (hb.alloc hbase _) (by simp));exact⟨by simp,.inr ⟨_,n,_,rfl,Nat.le_refl _,heap_alloc_new w _,Nat.zero_le _,hm,by simp[size_madeCells],by simp⟩⟩
end
end Go.Hm
namespace Go.Proofs.Y
open Go.RowKit Go.Hm
theorem qjy:ElT Tryz.prog 251 73 (.agg #[.int .i64 0,.int .i64 0]) 2 16:=⟨by kernel_rfl,by kernel_rfl,rfl,by omega⟩
def qey(o:Option (List (Int × Int)))(w:World)(e:Ending)(w':World):Prop:=
 ∃A n c,e= .returned (.slice A n c)/\w'.ownsRow w.heap.size 73 2 (.slice A n c) n (zdj (o.getD []))/\New w w'
set_option maxRecDepth 100000 in
theorem z3w{w:World}{A:Option Addr}{n c:Nat}{l:List (Int × Int)}(h:Reads w w.heap.size 2 A n (zdj l))(hn:n<=1000000):
 Calls Tryz.prog 194 #[.slice A n c] w (qey (zgb (0,0) l) w):=by
 obtain rfl:=h.lenP;have Z:=Hz (show∀z,(zgb (0,0) (l.drop 0)).map ([]++ ·)=z->zgb (0,0) l=z by intro z hz;rw[<-hz];cases hw:zgb (0,0) l<;> simp[hw])
 generalize zgb (0,0) l=O at*;go_enter Tryz.func194,Tryz.ntmps194
 go_wp2_with (refine z3v qjy rfl _ _ rfl (W:=w) (B:=w.heap.size) l.length rfl rfl rfl rfl (Below.refl _ _) (Nat.le_refl _) (by omega) (by simp only[maxLen];omega) ?_;intro w1 o1 g1 b1 z1)
 obtain⟨W2,hW2⟩:∃W,W=w1.alloc (.cells #[.int .i64 0,.int .i64 0] 73):=⟨_,rfl⟩;have B2:Blk W2 (w.heap.size+1) 73 #[.int .i64 0,.int .i64 0]:=by rw[hW2,<-z1];exact Blk.new _ _ _
 have b2:New w W2:=by rw[hW2];exact b1.alloc (by omega) _
 have o2:W2.ownsRow w.heap.size 73 2 (.slice (some ⟨w.heap.size,0,none⟩) 0 l.length) 0 (zdj []):=by rw[hW2];exact World.ownsRow.alloc o1 _
 have HB2:=Hz B2;have HR:=Hz h;have Z2:=Hz z1;rw[z1] at*;have HW2:=Hz hW2;clear hW2 B2 h o1 g1 b1 z1;go_wp2
 rw[<-HW2.out];go_loopw [3,12] (fun v i wr=>∃(k:Nat) (A:Option Addr) (c:Nat) (acc:List (Int × Int)) (hx hy:Int),k<=l.length/\i= .int .i64 (k:Int)/\v= .slice A k c/\Hid (wr.ownsRow w.heap.size 73 2 (.slice A k c) k (zdj acc))/\Hid ((Value.slice A k c).ownBlock≠some (w.heap.size+1))/\Hid (Blk wr (w.heap.size+1) 73 #[.int .i64 hx,.int .i64 hy])/\New w wr/\Hid (inBox hx hy=true)/\Hid ((zgb (hx,hy) (l.drop k)).map (acc++ ·)=O)) (fun _ i _=>l.length-(intOf i).toNat)
 case atStart=>exact⟨0,_,_,[],0,0,by omega,rfl,rfl,Hz o2,Hz (by simp[Value.ownBlock]),HB2,b2,Hz rfl,Hz (Z.out _ rfl).symm⟩
 case round=>
  obtain⟨k,A1,c1,acc,hx,hy,hk,rfl,rfl,o,N,B,b,I,E⟩:=hrel;by_cases hlt:k<l.length
  ·have hst:=z3u (h:=(hx,hy)) hlt
   have E2:=Hz (E.out.symm.trans (congrArg (fun z=>z.map (acc++ ·)) hst));obtain⟨ad,rfl,hbk,x0,x1⟩:=(Reads.later HR.out b).pair2 hlt;have hpp:l.getD k (0,0)=((l.getD k (0,0)).1,(l.getD k (0,0)).2):=rfl;rw[hpp] at E2;generalize(l.getD k (0,0)).1=x at*;generalize(l.getD k (0,0)).2=y at*;obtain⟨W3,hW3⟩:∃W,W=wr.alloc (.cells #[.int .i64 x,.int .i64 y] 73):=⟨_,rfl⟩;have b3:New wr W3:=by rw[hW3];exact(Below.refl _ _).alloc (Nat.le_refl _) _
   have T3:Blk W3 wr.heap.size 73 #[.int .i64 x,.int .i64 y]:=by rw[hW3];exact Blk.new _ _ _
   have B3:=B.out.below b3 B.out.lt;have F3:=Hz (fun(W:World) (hW:New W3 W)=>And.intro (zbw (T3.below hW T3.lt)) (zbw (B3.below hW B3.lt)));obtain⟨⟨t0,t1⟩,y0,y1⟩:=F3.out W3 (New.refl _);have HW3:=Hz hW3;have HT3:=Hz T3;have HB3:=Hz B3;have WT:=Hz (fun W:World=>zq6 (w:=W) x y);rw[hW3] at t0 t1 y0 y1;clear hst hW3 T3 B3 hpp;go_wp2_with fail
   rw[<-HW3.out]
   (with_reducible refine(WT.out _).mono ?_)
   rintro e w4 ⟨rfl,b4⟩;clear x0 x1 t0 t1 y0 y1 WT HW3;obtain⟨⟨t0,t1⟩,y0,y1⟩:=F3.out w4 b4;cases hnb:inBox x y with
   |false=>
    have hO:O=none:=by rw[E2.out,hnb];simp
    have HO:=Hz hO;have bE:=New.trans b (New.trans b3 b4);clear hO hnb;go_wp2
    go_ret
    exact⟨_,_,_,rfl,by rw[HO.out];exact zdo,bE⟩
   |true=>
    have nb:=inBox_iff.1 hnb;have ib:=inBox_iff.1 I.out;have PA:=Hz (fun W:World=>qdg (w:=W) (x:=x) (y:=y) (u:=hx) (v:=hy) (by omega) (by omega) (by omega) (by omega));have HNB:=Hz hnb;have E3:=Hz (show(zgb (x,y) (l.drop (k+1))).map ((acc++[(x-hx,y-hy)])++ ·)=O by rw[E2.out,hnb,<-zv5];simp);clear nb ib hnb E2 E;go_wp2_with fail
    (with_reducible refine(PA.out _).mono ?_)
    rintro e w5 ⟨rfl,b5⟩;have b35:=New.trans b4 b5;clear t0 t1 y0 y1 PA;generalize x-hx=px at*;generalize y-hy=py at*;have o5:=za5 o.out (New.trans b3 b35);have b05:=New.trans b (New.trans b3 b35);have z0:=b05.size;have hle:w.heap.size+1<wr.heap.size:=B.out.lt;have hz5:wr.heap.size<w5.heap.size:=by have:=HT3.out.lt;have:=b35.size;omega
    obtain⟨W6,hW6⟩:∃W,W=w5.alloc (.cells #[.int .i64 px,.int .i64 py] 73):=⟨_,rfl⟩;have T5:=HT3.out.below b35 HT3.out.lt;have B5:=HB3.out.below b35 HB3.out.lt;have HT5:=Hz T5;have HB5:=Hz B5;clear T5 B5 hW6;have NT:(Value.slice A1 k c1).ownBlock≠some wr.heap.size:=by intro e;have:=(World.ownsRow.lt o.out _ e).2;omega
    have FT:=Hz (fun(W:World) (hW:w5.grownBy W (Value.slice A1 k c1).ownBlock)=>And.intro (HT5.out.grown hW (fun e=>NT e.symm)) (HB5.out.grown hW (fun e=>N.out e.symm)));clear NT
    go_wp2_with (refine zdp qjy rfl (.tmp 19) (.tmp 23) rfl (W:=w) (B:=w.heap.size) (base:=w.heap.size) (n:=k) o5 rfl rfl b05 (Nat.le_refl _) z0 rfl (by simp[Value.oneCell']) (by omega) (by simp only[maxLen];omega) ?_
                 intro A' c' w8 _ _ o' g' b' hsz hat;obtain⟨t0,t1⟩:=zbw (FT.out w8 g').1;obtain⟨y0,y1⟩:=zbw (FT.out w8 g').2;have f0:=(FT.out w8 g').2.frozen 0;have f1:=(FT.out w8 g').2.frozen 1)
    have N8:(Value.slice A' (k+1) c').ownBlock≠some (w.heap.size+1):=by
     rcases hat with e1|⟨gg,e1,e2⟩
     ·rw[e1];exact N.out
     ·rw[e1];simp;omega
    have g6:=z0u (g:=w.heap.size+1) (.int .i64 x) (.int .i64 y) w8;have o9:=World.ownsRow.kept o' g6 (.inr N8);have B9:=qex (FT.out w8 g').2 (a:= .int .i64 x) (b:= .int .i64 y);have b9:=New.far b' g6 (by omega);go_roundw
    case rel=>exact⟨k+1,A',c',acc++[(px,py)],x,y,by omega,by go_num,rfl,Hz (by rw[zyp];exact o9),Hz N8,Hz B9,b9,HNB,E3⟩
    case measure=>simp[intOf];omega
  ·obtain rfl:k=l.length:=by omega
   have HO:=Hz (show O=some acc by rw[<-E.out,List.drop_length,zgb];simp);clear E;go_wp2
   go_ret
   exact⟨_,_,_,rfl,by rw[HO.out];exact o.out,b⟩
end Go.Proofs.Y
namespace Go.Hm
open Go Go.RowKit
theorem IsStat.near{t:Int}{l:List zab}{s:zdb}(h:IsStat t l s)(hl:∀c∈l,near c):near s.2.2.1/\near s.2.2.2:=by
 cases hh:s.2.1 with
 |false=>
  obtain⟨e1,e2⟩:=h.none hh;rw[e1,e2];exact⟨qim,qim⟩
 |true=>exact⟨hl _ (h.least hh).1.1,hl _ (h.most hh).1.1⟩
end Go.Hm
namespace Go.Proofs.Y
open Go.RowKit Go.Hm
def qdk(t:Int)(L:List zab)(w:World)(e:Ending)(w':World):Prop:=∃s,e= .returned (zce s)/\IsStat t L s/\New w w'
set_option maxRecDepth 100000 in
theorem qi1{w:World}{t:Int}{A:Option Addr}{n c:Nat}{L:List zab}(h:Reads w w.heap.size 5 A n (recs zay L))(hL:∀y∈L,near y)(hn:n<=100000):
 Calls Tryz.prog 109 #[.int .i64 t,.slice A n c] w (qdk t L w):=by
 obtain rfl:=h.lenCell;have HR:=Hz h;have HN:=Hz hL;clear h hL;have B0:Blk ((w.alloc (.cells (zb8 zbx).toArray 133)).alloc (.cells (zb8 zbx).toArray 133)) w.heap.size 133 (zb8 zbx).toArray:=(Blk.new _ _ _).alloc _;have B1:Blk ((w.alloc (.cells (zb8 zbx).toArray 133)).alloc (.cells (zb8 zbx).toArray 133)) (w.heap.size+1) 133 (zb8 zbx).toArray:=by have:=Blk.new (w.alloc (.cells (zb8 zbx).toArray 133)) 133 (zb8 zbx).toArray;simpa using this
 have hb0:=zxs w (.cells (zb8 zbx).toArray 133) (.cells (zb8 zbx).toArray 133);have HB0:=Hz B0;have HB1:=Hz B1;have Hb0:=Hz hb0;clear B0 B1 hb0;go_enter Tryz.func109,Tryz.ntmps109
 go_wp2_with fail
 go_loopw [10] (fun i wr=>∃(k:Nat) (s:zdb),k<=L.length/\i= .int .i64 (k:Int)/\Blk wr (w.heap.size+1) 133 (zb8 s).toArray/\Blk wr w.heap.size 133 (zb8 zbx).toArray/\New w wr/\Hid (IsStat t (L.take k) s)) (fun i _=>L.length-(intOf i).toNat)
 case atStart=>exact⟨0,zbx,Nat.zero_le _,rfl,HB1.out,HB0.out,Hb0.out,Hz (zrc t)⟩
 case round=>
  obtain⟨k,s,hk,rfl,B1,B0,hW,hs⟩:=hrel;clear HB0 HB1 Hb0;by_cases hlt:k<L.length
  ·obtain⟨ad,rfl,hb,d0,d1,d2,d3,d4⟩:=(Reads.later HR.out hW).cell5 hlt
   have hst:=hs.out;have htk:=zac L k (false,0,[],0,0) hlt;have hnr:=hst.near (fun c hc=>HN.out c (List.mem_of_mem_take hc));have hnl:=hst.nulls;have hnl2:=zis (L.take k);rw[List.length_take] at hnl2;have hy:near (L.getD k (false,0,[],0,0)):=HN.out _ (by rw[List.getD_eq_getElem?_getD,List.getElem?_eq_getElem hlt];exact List.getElem_mem hlt);have hone:=zrd t (L.getD k (false,0,[],0,0));have hnx:=hst.merge hone;rw[<-htk] at hnx;have hnr2:=hone.near (fun c hc=>by rw[List.mem_singleton.1 hc];exact hy);have hno:=hone.nulls;have hno2:=zis [L.getD k (false,0,[],0,0)];rw[List.length_singleton] at hno2;have M:=fun(W:World)=>z7l (w:=W) (t:=t) hnr.1 hnr.2 hnr2.1 hnr2.2 (by omega) (by omega)
   clear htk hy hone hnl hnl2 hno hno2 hnr hnr2 hst hs;generalize L.getD k (false,0,[],0,0)=y at*;obtain⟨y0,y1,y2,y3,y4⟩:=y;dsimp only at d0 d1 d2 d3 d4;obtain⟨V1,hV⟩:∃V,V=zce (zj5 (y0,y1,y2,y3,y4)):=⟨_,rfl⟩;have S1:Hid (∀W,Calls Tryz.prog 130 #[.agg #[.bool y0,.int .i64 y1,.string (zad y2),.int .i64 y3,.int .i64 y4]] W (zal V1 W)):=Hz fun W=>by rw[hV];exact z2u (y0,y1,y2,y3,y4)
   rw[<-hV] at M;generalize zm0 t s (zj5 (y0,y1,y2,y3,y4))=s2 at*;obtain⟨n,b,⟨p1,p2,p3,p4,p5⟩,⟨q1,q2,q3,q4,q5⟩⟩:=s;obtain⟨n',b',⟨p1',p2',p3',p4',p5'⟩,⟨q1',q2',q3',q4',q5'⟩⟩:=s2;have M1:Hid (∀W,Calls Tryz.prog 129 #[.int .i64 t,.agg #[.int .i64 n,.bool b,.bool p1,.int .i64 p2,.string (zad p3),.int .i64 p4,.int .i64 p5,.bool q1,.int .i64 q2,.string (zad q3),.int .i64 q4,.int .i64 q5],V1] W
    (zal (.agg #[.int .i64 n',.bool b',.bool p1',.int .i64 p2',.string (zad p3'),.int .i64 p4',.int .i64 p5',.bool q1',.int .i64 q2',.string (zad q3'),.int .i64 q4',.int .i64 q5']) W)):=Hz M
   clear M hV;have HNX:=Hz hnx;clear hnx;have hsz:=hW.size;have F:Hid (∀W,New (wr.alloc (.cells #[.bool y0,.int .i64 y1,.string (zad y2),.int .i64 y3,.int .i64 y4] 75)) W->Blk W (w.heap.size+1) 133 #[.int .i64 n,.bool b,.bool p1,.int .i64 p2,.string (zad p3),.int .i64 p4,.int .i64 p5,.bool q1,.int .i64 q2,.string (zad q3),.int .i64 q4,.int .i64 q5]
    /\Blk W w.heap.size 133 (zb8 zbx).toArray/\New w W/\Blk W wr.heap.size 75 #[.bool y0,.int .i64 y1,.string (zad y2),.int .i64 y3,.int .i64 y4]):=Hz fun W hN=>
    ⟨(B1.alloc _).below hN (by have:=B1.lt;simp;omega),(B0.alloc _).below hN (by have:=B0.lt;simp;omega),New.trans hW (New.trans ((Below.refl _ _).alloc (Nat.le_refl _) _) hN),(Blk.new _ _ _).below hN (by simp)⟩
   clear B0 B1;go_wp2_with fail
   refine zcs New 5 [(1,0),(0,1),(0,2),(2,3),(2,4),(2,5)] New.refl New.trans (by kernel_rfl) (by kernel_rfl) (by kernel_rfl) (by kernel_rfl) ?_;have hU:=New.drew (wr.alloc (.cells #[.bool y0,.int .i64 y1,.string (zad y2),.int .i64 y3,.int .i64 y4] 75));repeat(first
    |(refine zbf rfl rfl (fun K hK=>?_);go_simp
      (with_reducible refine(S1.out _).mono ?_);rintro e w6 ⟨rfl,b6⟩
      refine hK _ _ (.inr (.inr b6)) ?_;clear hK;replace hU:=New.trans hU b6)
    |(refine zbf rfl rfl (fun K hK=>?_);go_simp
      (with_reducible refine(M1.out _).mono ?_);rintro e w7 ⟨rfl,b7⟩
      refine hK _ _ (.inr (.inr b7)) ?_;clear hK;replace hU:=New.trans hU b7)
    |(refine zbf rfl rfl (fun K hK=>?_)
      obtain⟨B1,B0,hl,-⟩:=F.out _ hU;refine z6m 133 (.tmp 5) (.tmp 18) rfl (w.heap.size+1) _ rfl rfl B1 (by kernel_rfl) (by simp) (by simp[Value.oneCell']) ?_;intro W5 B1 hlow hfar;replace B0:=hfar _ _ _ (by omega) B0;replace hl:=hlow _ _ hl (by omega);refine hK _ _ (.inr (.inl rfl)) ?_;clear hK hlow hfar)
    |(refine zb1 rfl rfl (v:=?_) (fun W=>?_) ?_;rotate_left;(go_simp<;> with_reducible rfl);simp only[Act.put,List.setIfInBounds_toArray,List.set_cons_zero,List.set_cons_succ])
    |(refine zct rfl rfl (v:=?_) (fun W hQ=>?_) ?_;rotate_left;(obtain⟨B1,-,-,BY⟩:=F.out W (New.trans hU hQ);obtain⟨x0,x1,x2,x3,x4,x5,x6,x7,x8,x9,x10,x11⟩:=zba B1;obtain⟨z0,z1,z2,z3,z4⟩:=zcq BY;clear B1 BY;go_simp<;> with_reducible rfl);simp only[Act.put,List.setIfInBounds_toArray,List.set_cons_zero,List.set_cons_succ]))
   refine zf2 ?_;go_wp2_with fail
   go_roundw
   case rel=>exact⟨k+1,(n',b',(p1',p2',p3',p4',p5'),(q1',q2',q3',q4',q5')),by omega,by go_num,B1,B0,hl,HNX⟩
   case measure=>simp[intOf];omega
  ·obtain rfl:k=L.length:=by omega
   have hs2:=hs.out;rw[List.take_length] at hs2;have HS:=Hz hs2;clear hs hs2;obtain⟨n,b,⟨p1,p2,p3,p4,p5⟩,⟨q1,q2,q3,q4,q5⟩⟩:=s;obtain⟨x0,x1,x2,x3,x4,x5,x6,x7,x8,x9,x10,x11⟩:=zba B1
   go_wp2_with (refine zhv rfl 133 (.tmp 4) (.tmp 20) rfl w.heap.size _ rfl rfl B0 (by kernel_rfl) (by simp[zb8,zbx,zay]) (by simp[Value.oneCell']) ?_
                intro W5 BR hlow hfar;have hl:=hlow _ _ hW (Nat.le_refl _);clear hfar hlow;obtain⟨s0,s1,s2,s3,s4,s5,s6,s7,s8,s9,s10,s11⟩:=zba BR)
   exact bodyPost_ret (v:=zce (n,b,(p1,p2,p3,p4,p5),(q1,q2,q3,q4,q5))) (by simp[results,Tryz.results109,go_sem,s0,s1,s2,s3,s4,s5,s6,s7,s8,s9,s10,s11,zce,zb8,zay]) rfl ⟨_,rfl,HS.out,hl⟩
end Go.Proofs.Y
