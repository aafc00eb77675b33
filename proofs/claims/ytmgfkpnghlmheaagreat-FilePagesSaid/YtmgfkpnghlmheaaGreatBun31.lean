/- Merged. -/
import Derived.Test.YtmgfkpnghlmheaaGreatBun20
import Derived.Test.YtmgfkpnghlmheaaGreatBun23
set_option maxHeartbeats 4000000
namespace Go.Hm
open Go Go.RowKit
theorem zpb(l:List (Int × Int))(p:Int × Int):zc0 (l++[p])=zc0 l++[.int .i64 p.1,.int .i64 p.2]:=by simp[zc0]
theorem z7y{h:Int × Int}{l:List (Int × Int)}{k:Nat}(hk:k<l.length):
 zf2 h (l.drop k)=if nearB (l.getD k (0,0)).1 (l.getD k (0,0)).2&&inBox (h.1+(l.getD k (0,0)).1) (h.2+(l.getD k (0,0)).2) then(zf2 (h.1+(l.getD k (0,0)).1,h.2+(l.getD k (0,0)).2) (l.drop (k+1))).map ((h.1+(l.getD k (0,0)).1,h.2+(l.getD k (0,0)).2):: ·) else none:=by
 rw[zd6 l k (0,0) hk,zf2]
theorem z25{h:Int × Int}{l:List (Int × Int)}{k:Nat}(hk:k<l.length):
 zf3 h (l.drop k)=if inBox (l.getD k (0,0)).1 (l.getD k (0,0)).2 then(zf3 (l.getD k (0,0)) (l.drop (k+1))).map (((l.getD k (0,0)).1-h.1,(l.getD k (0,0)).2-h.2):: ·) else none:=by
 rw[zd6 l k (0,0) hk,zf3]
theorem zmg{α:Type}{o:Option (List α)}{x:α}{acc:List α}:(o.map (x:: ·)).map (acc++ ·)=o.map ((acc++[x])++ ·):=by cases o<;> simp
section
variable{P:Program}{ops:Array Oper}{rest:List Oper}{o:Oper}{a:Act}{Q:Exit->Act->World->Prop}
theorem zrr{w:World}{t e:TypeId}{z:Value}{sz bytes:Nat}(E:ElT P t e z sz bytes)(hgd:o.guard=none)(lo co:Operand)(ho:o.op=Op.makeSlice t lo co)
 {W:World}{B:Nat}{kl kc:IntKind}{L C:Int}(n:Nat)(hl:a.eval lo= .int kl L)(hc:a.eval co= .int kc C)(hL:L=0)(hC:C=(n:Int))(hb:Below B W w)(hbase:B<=w.heap.size)
 (hn:n*bytes<=140737488355328)(hm:n<=maxLen)
 (h:∀w',w'.ownsRow w.heap.size e sz (.slice (some ⟨w.heap.size,0,none⟩) 0 n) 0 []->w.grownBy w' none->Below B W w'->w'.heap.size=w.heap.size+1->wpList P ops Q rest (a.put o.dst (.slice (some ⟨w.heap.size,0,none⟩) 0 n)) w'):
 wpList P ops Q (o::rest) a w:=by
 obtain⟨i,hi,hz0,hs1,hb1⟩:=info_parts E.hi;subst hL hC;have hmC:(n:Int)<=9223372036854775807:=by have h:=hm;simp only[maxLen] at h;omega
 have hbC:(i.bytes:Int)*(n:Int)<=281474976710656:=by
  have h:((i.bytes*n:Nat):Int)<=281474976710656:=by rw[hb1,Nat.mul_comm];omega
  rwa[Int.natCast_mul] at h
 have hrun:=run_make (P:=P) w t e i z E.ht hi hz0 kl kc 0 (n:Int) (by omega) (by omega) hbC hmC;rw[Int.toNat_natCast,hs1] at hrun;refine wpList_plain hgd fun K hK=>?_
 unfold Oper.wp;simp[execOp,ho,hl,hc,hrun,Result.andThen];refine hK _ _ (h _ ?_ (World.grownBy_alloc _ _ _) (hb.alloc hbase _) (by simp));exact⟨by simp,.inr ⟨_,n,_,rfl,Nat.le_refl _,heap_alloc_new w _,Nat.zero_le _,hm,by simp[size_madeCells],by simp⟩⟩
end
end Go.Hm
namespace Go.Proofs.Y
open Go.RowKit Go.Hm
theorem qgt:ElT Tryz.prog 199 59 (.agg #[.int .i64 0,.int .i64 0]) 2 16:=⟨by kernel_rfl,by kernel_rfl,rfl,by omega⟩
def qf5(o:Option (List (Int × Int)))(w:World)(e:Ending)(w':World):Prop:=
 ∃A n c,e= .returned (.tuple #[.slice A n c,.bool o.isSome])/\w'.ownsRow w.heap.size 59 2 (.slice A n c) n (zc0 (o.getD []))/\New w w'
def qd6(o:Option (List (Int × Int)))(w:World)(e:Ending)(w':World):Prop:=
 ∃A n c,e= .returned (.slice A n c)/\w'.ownsRow w.heap.size 59 2 (.slice A n c) n (zc0 (o.getD []))/\New w w'
set_option maxRecDepth 100000 in
theorem z7z{w:World}{A:Option Addr}{n c:Nat}{l:List (Int × Int)}(h:Reads w w.heap.size 2 A n (zc0 l))(hn:n<=1000000):
 Calls Tryz.prog 231 #[.slice A n c] w (qf5 (zf2 (0,0) l) w):=by
 obtain rfl:=h.lenP;have Z:=Hz (show∀z,(zf2 (0,0) (l.drop 0)).map ([]++ ·)=z->zf2 (0,0) l=z by intro z hz;rw[<-hz];cases hw:zf2 (0,0) l<;> simp[hw])
 generalize zf2 (0,0) l=O at*;go_enter Tryz.func231,Tryz.ntmps231
 go_wp2_with (refine zrr qgt rfl _ _ rfl (W:=w) (B:=w.heap.size) l.length rfl rfl rfl rfl (Below.refl _ _) (Nat.le_refl _) (by omega) (by simp only[maxLen];omega) ?_;intro w1 o1 g1 b1 z1)
 obtain⟨W2,hW2⟩:∃W,W=w1.alloc (.cells #[.int .i64 0,.int .i64 0] 59):=⟨_,rfl⟩;have B2:Blk W2 (w.heap.size+1) 59 #[.int .i64 0,.int .i64 0]:=by rw[hW2,<-z1];exact Blk.new _ _ _
 have b2:New w W2:=by rw[hW2];exact b1.alloc (by omega) _
 have o2:W2.ownsRow w.heap.size 59 2 (.slice (some ⟨w.heap.size,0,none⟩) 0 l.length) 0 (zc0 []):=by rw[hW2];exact World.ownsRow.alloc o1 _
 have HB2:=Hz B2;have HR:=Hz h;have Z2:=Hz z1;rw[z1] at*;have HW2:=Hz hW2;clear hW2 B2 h o1 g1 b1 z1;go_wp2
 rw[<-HW2.out];go_loopw [4,13] (fun v i wr=>∃(k:Nat) (A:Option Addr) (c:Nat) (acc:List (Int × Int)) (hx hy:Int),k<=l.length/\i= .int .i64 (k:Int)/\v= .slice A k c/\Hid (wr.ownsRow w.heap.size 59 2 (.slice A k c) k (zc0 acc))/\Hid ((Value.slice A k c).ownBlock≠some (w.heap.size+1))/\Hid (Blk wr (w.heap.size+1) 59 #[.int .i64 hx,.int .i64 hy])/\New w wr/\Hid (inBox hx hy=true)/\Hid ((zf2 (hx,hy) (l.drop k)).map (acc++ ·)=O)) (fun _ i _=>l.length-(intOf i).toNat)
 case atStart=>exact⟨0,_,_,[],0,0,by omega,rfl,rfl,Hz o2,Hz (by simp[Value.ownBlock]),HB2,b2,Hz rfl,Hz (Z.out _ rfl).symm⟩
 case round=>
  obtain⟨k,A1,c1,acc,hx,hy,hk,rfl,rfl,o,N,B,b,I,E⟩:=hrel;by_cases hlt:k<l.length
  ·have hst:=z7y (h:=(hx,hy)) hlt
   have E2:=Hz (E.out.symm.trans (congrArg (fun z=>z.map (acc++ ·)) hst));obtain⟨ad,rfl,hbk,x0,x1⟩:=(Reads.later HR.out b).pair2 hlt;generalize(l.getD k (0,0)).1=x at*;generalize(l.getD k (0,0)).2=y at*;obtain⟨W3,hW3⟩:∃W,W=wr.alloc (.cells #[.int .i64 x,.int .i64 y] 59):=⟨_,rfl⟩;have b3:New wr W3:=by rw[hW3];exact(Below.refl _ _).alloc (Nat.le_refl _) _
   have T3:Blk W3 wr.heap.size 59 #[.int .i64 x,.int .i64 y]:=by rw[hW3];exact Blk.new _ _ _
   have B3:=B.out.below b3 B.out.lt;have F3:=Hz (fun(W:World) (hW:New W3 W)=>And.intro (za7 (T3.below hW T3.lt)) (za7 (B3.below hW B3.lt)));obtain⟨⟨t0,t1⟩,y0,y1⟩:=F3.out W3 (New.refl _);have HW3:=Hz hW3;have HT3:=Hz T3;have HB3:=Hz B3;have WT:=Hz (fun W:World=>zx6 (w:=W) x y);rw[hW3] at t0 t1 y0 y1;clear hst hW3 T3 B3;go_wp2_with fail
   rw[<-HW3.out]
   (with_reducible refine(WT.out _).mono ?_)
   rintro e w4 ⟨rfl,b4⟩;clear x0 x1 t0 t1 y0 y1 WT HW3;obtain⟨⟨t0,t1⟩,y0,y1⟩:=F3.out w4 b4;cases hnb:nearB x y with
   |false=>
    have hO:O=none:=by rw[E2.out,hnb];simp
    have HO:=Hz hO;have bE:=New.trans b (New.trans b3 b4);clear hO hnb;go_wp2
    go_ret2
    exact⟨_,_,_,by rw[HO.out];rfl,by rw[HO.out];exact zcp,bE⟩
   |true=>
    have nb:=nearB_iff.1 hnb;have ib:=inBox_iff.1 I.out;have PA:=Hz (fun W:World=>qcg (w:=W) (x:=hx) (y:=hy) (u:=x) (v:=y) (by omega) (by omega) (by omega) (by omega));rw[hnb] at E2;have HNB:=Hz hnb;clear nb ib hnb;go_wp2_with fail
    (with_reducible refine(PA.out _).mono ?_)
    rintro e w5 ⟨rfl,b5⟩;have b35:=New.trans b4 b5;clear t0 t1 y0 y1 PA;generalize hx+x=px at*;generalize hy+y=py at*;have T5:=HT3.out.below b35 HT3.out.lt;have B5:=HB3.out.below b35 HB3.out.lt;obtain⟨y0,y1⟩:=za7 B5;have f0:=B5.frozen 0;have f1:=B5.frozen 1;obtain⟨W6,hW6⟩:∃W,W=((w5.setCell ⟨w.heap.size+1,0,none⟩ (.int .i64 px)).setCell ⟨w.heap.size+1,1,none⟩ (.int .i64 py)):=⟨_,rfl⟩;have B6:Blk W6 (w.heap.size+1) 59 #[.int .i64 px,.int .i64 py]:=by rw[hW6];exact z0m B5
    have g6:Far (w.heap.size+1) w5 W6:=by rw[hW6];exact zng _ _ _
    have hle:w.heap.size+1<wr.heap.size:=B.out.lt;have T6:=T5.grown g6 (by simp;omega);have o5:=zav o.out (New.trans b3 b35);have o6:=World.ownsRow.kept o5 g6 (.inr N.out);have b6:New w W6:=(New.trans b (New.trans b3 b35)).grown g6 (by have:=b.size;have:=(New.trans b3 b35).size;omega) (fun k hk=>by injection hk with hk;omega);have HB6:=Hz B6;have HT6:=Hz T6;have HO6:=Hz o6;have HW6:=Hz hW6;have z6:=g6.size;have z35:=(New.trans b3 b35).size;clear T5 B5 hW6 B6 g6 T6 o5 o6 b35 b3 b4 b5 HT3 HB3;have PR:=Hz (fun W:World=>zlb (w:=W) px py);obtain⟨q0,q1⟩:=za7 HB6.out;rw[HW6.out] at q0 q1;go_wp2_with fail
    rw[<-HW6.out]
    (with_reducible refine(PR.out _).mono ?_)
    rintro e w7 ⟨rfl,b7⟩;clear y0 y1 f0 f1 q0 q1 PR HW6;have o7:=zav HO6.out b7;have B7:=HB6.out.below b7 HB6.out.lt;obtain⟨q0,q1⟩:=za7 B7;have b07:=New.trans b6 b7;cases hnb:inBox px py with
    |false=>
     have hO:O=none:=by rw[E2.out,hnb];simp
     have HO:=Hz hO;clear hO hnb;go_wp2
     go_ret2
     exact⟨_,_,_,by rw[HO.out];rfl,by rw[HO.out];exact zcp,b07⟩
    |true=>
     have E3:=Hz (show(zf2 (px,py) (l.drop (k+1))).map ((acc++[(px,py)])++ ·)=O by rw[E2.out,hnb,<-zmg];simp);have HI:=Hz hnb;have z0:=b07.size;have HB7:=Hz B7;have hz7:w.heap.size+1<w7.heap.size:=by have:=b7.size;omega
     clear hnb E2 E B7
     go_wp2_with (refine zdc qgt rfl (.tmp 26) (.tmp 28) rfl (W:=w) (B:=w.heap.size) (base:=w.heap.size) (n:=k) o7 rfl rfl b07 (Nat.le_refl _) z0 rfl (by simp[Value.oneCell']) (by omega) (by simp only[maxLen];omega) ?_
                  intro A' c' w8 _ _ o' g' b' hsz hat)
     have N8:(Value.slice A' (k+1) c').ownBlock≠some (w.heap.size+1):=by
      rcases hat with e1|⟨gg,e1,e2⟩
      ·rw[e1];exact N.out
      ·rw[e1];simp;omega
     have B8:=HB7.out.grown g' (fun e=>N.out e.symm);go_roundw
     case rel=>exact⟨k+1,A',c',acc++[(px,py)],px,py,by omega,by go_num,rfl,Hz (by rw[zpb];exact o'),Hz N8,Hz B8,b',HI,E3⟩
     case measure=>simp[intOf];omega
  ·obtain rfl:k=l.length:=by omega
   have HO:=Hz (show O=some acc by rw[<-E.out,List.drop_length,zf2];simp);clear E;go_wp2
   go_ret2
   exact⟨_,_,_,by rw[HO.out];rfl,by rw[HO.out];exact o.out,b⟩
set_option maxRecDepth 100000 in
theorem z26{w:World}{A:Option Addr}{n c:Nat}{l:List (Int × Int)}(h:Reads w w.heap.size 2 A n (zc0 l))(hn:n<=1000000):
 Calls Tryz.prog 227 #[.slice A n c] w (qd6 (zf3 (0,0) l) w):=by
 obtain rfl:=h.lenP;have Z:=Hz (show∀z,(zf3 (0,0) (l.drop 0)).map ([]++ ·)=z->zf3 (0,0) l=z by intro z hz;rw[<-hz];cases hw:zf3 (0,0) l<;> simp[hw])
 generalize zf3 (0,0) l=O at*;go_enter Tryz.func227,Tryz.ntmps227
 go_wp2_with (refine zrr qgt rfl _ _ rfl (W:=w) (B:=w.heap.size) l.length rfl rfl rfl rfl (Below.refl _ _) (Nat.le_refl _) (by omega) (by simp only[maxLen];omega) ?_;intro w1 o1 g1 b1 z1)
 obtain⟨W2,hW2⟩:∃W,W=w1.alloc (.cells #[.int .i64 0,.int .i64 0] 59):=⟨_,rfl⟩;have B2:Blk W2 (w.heap.size+1) 59 #[.int .i64 0,.int .i64 0]:=by rw[hW2,<-z1];exact Blk.new _ _ _
 have b2:New w W2:=by rw[hW2];exact b1.alloc (by omega) _
 have o2:W2.ownsRow w.heap.size 59 2 (.slice (some ⟨w.heap.size,0,none⟩) 0 l.length) 0 (zc0 []):=by rw[hW2];exact World.ownsRow.alloc o1 _
 have HB2:=Hz B2;have HR:=Hz h;have Z2:=Hz z1;rw[z1] at*;have HW2:=Hz hW2;clear hW2 B2 h o1 g1 b1 z1;go_wp2
 rw[<-HW2.out];go_loopw [3,12] (fun v i wr=>∃(k:Nat) (A:Option Addr) (c:Nat) (acc:List (Int × Int)) (hx hy:Int),k<=l.length/\i= .int .i64 (k:Int)/\v= .slice A k c/\Hid (wr.ownsRow w.heap.size 59 2 (.slice A k c) k (zc0 acc))/\Hid ((Value.slice A k c).ownBlock≠some (w.heap.size+1))/\Hid (Blk wr (w.heap.size+1) 59 #[.int .i64 hx,.int .i64 hy])/\New w wr/\Hid (inBox hx hy=true)/\Hid ((zf3 (hx,hy) (l.drop k)).map (acc++ ·)=O)) (fun _ i _=>l.length-(intOf i).toNat)
 case atStart=>exact⟨0,_,_,[],0,0,by omega,rfl,rfl,Hz o2,Hz (by simp[Value.ownBlock]),HB2,b2,Hz rfl,Hz (Z.out _ rfl).symm⟩
 case round=>
  obtain⟨k,A1,c1,acc,hx,hy,hk,rfl,rfl,o,N,B,b,I,E⟩:=hrel;by_cases hlt:k<l.length
  ·have hst:=z25 (h:=(hx,hy)) hlt
   have E2:=Hz (E.out.symm.trans (congrArg (fun z=>z.map (acc++ ·)) hst));obtain⟨ad,rfl,hbk,x0,x1⟩:=(Reads.later HR.out b).pair2 hlt;have hpp:l.getD k (0,0)=((l.getD k (0,0)).1,(l.getD k (0,0)).2):=rfl;rw[hpp] at E2;generalize(l.getD k (0,0)).1=x at*;generalize(l.getD k (0,0)).2=y at*;obtain⟨W3,hW3⟩:∃W,W=wr.alloc (.cells #[.int .i64 x,.int .i64 y] 59):=⟨_,rfl⟩;have b3:New wr W3:=by rw[hW3];exact(Below.refl _ _).alloc (Nat.le_refl _) _
   have T3:Blk W3 wr.heap.size 59 #[.int .i64 x,.int .i64 y]:=by rw[hW3];exact Blk.new _ _ _
   have B3:=B.out.below b3 B.out.lt;have F3:=Hz (fun(W:World) (hW:New W3 W)=>And.intro (za7 (T3.below hW T3.lt)) (za7 (B3.below hW B3.lt)));obtain⟨⟨t0,t1⟩,y0,y1⟩:=F3.out W3 (New.refl _);have HW3:=Hz hW3;have HT3:=Hz T3;have HB3:=Hz B3;have WT:=Hz (fun W:World=>zlb (w:=W) x y);rw[hW3] at t0 t1 y0 y1;clear hst hW3 T3 B3 hpp;go_wp2_with fail
   rw[<-HW3.out]
   (with_reducible refine(WT.out _).mono ?_)
   rintro e w4 ⟨rfl,b4⟩;clear x0 x1 t0 t1 y0 y1 WT HW3;obtain⟨⟨t0,t1⟩,y0,y1⟩:=F3.out w4 b4;cases hnb:inBox x y with
   |false=>
    have hO:O=none:=by rw[E2.out,hnb];simp
    have HO:=Hz hO;have bE:=New.trans b (New.trans b3 b4);clear hO hnb;go_wp2
    go_ret
    exact⟨_,_,_,rfl,by rw[HO.out];exact zcp,bE⟩
   |true=>
    have nb:=inBox_iff.1 hnb;have ib:=inBox_iff.1 I.out;have PA:=Hz (fun W:World=>qch (w:=W) (x:=x) (y:=y) (u:=hx) (v:=hy) (by omega) (by omega) (by omega) (by omega));have HNB:=Hz hnb;have E3:=Hz (show(zf3 (x,y) (l.drop (k+1))).map ((acc++[(x-hx,y-hy)])++ ·)=O by rw[E2.out,hnb,<-zmg];simp);clear nb ib hnb E2 E;go_wp2_with fail
    (with_reducible refine(PA.out _).mono ?_)
    rintro e w5 ⟨rfl,b5⟩;have b35:=New.trans b4 b5;clear t0 t1 y0 y1 PA;generalize x-hx=px at*;generalize y-hy=py at*;have o5:=zav o.out (New.trans b3 b35);have b05:=New.trans b (New.trans b3 b35);have z0:=b05.size;have hle:w.heap.size+1<wr.heap.size:=B.out.lt;have hz5:wr.heap.size<w5.heap.size:=by have:=HT3.out.lt;have:=b35.size;omega
    obtain⟨W6,hW6⟩:∃W,W=w5.alloc (.cells #[.int .i64 px,.int .i64 py] 59):=⟨_,rfl⟩;have T5:=HT3.out.below b35 HT3.out.lt;have B5:=HB3.out.below b35 HB3.out.lt;have HT5:=Hz T5;have HB5:=Hz B5;clear T5 B5 hW6;have NT:(Value.slice A1 k c1).ownBlock≠some wr.heap.size:=by intro e;have:=(World.ownsRow.lt o.out _ e).2;omega
    have FT:=Hz (fun(W:World) (hW:w5.grownBy W (Value.slice A1 k c1).ownBlock)=>And.intro (HT5.out.grown hW (fun e=>NT e.symm)) (HB5.out.grown hW (fun e=>N.out e.symm)));clear NT
    go_wp2_with (refine zdc qgt rfl (.tmp 19) (.tmp 23) rfl (W:=w) (B:=w.heap.size) (base:=w.heap.size) (n:=k) o5 rfl rfl b05 (Nat.le_refl _) z0 rfl (by simp[Value.oneCell']) (by omega) (by simp only[maxLen];omega) ?_
                 intro A' c' w8 _ _ o' g' b' hsz hat;obtain⟨t0,t1⟩:=za7 (FT.out w8 g').1;obtain⟨y0,y1⟩:=za7 (FT.out w8 g').2;have f0:=(FT.out w8 g').2.frozen 0;have f1:=(FT.out w8 g').2.frozen 1)
    have N8:(Value.slice A' (k+1) c').ownBlock≠some (w.heap.size+1):=by
     rcases hat with e1|⟨gg,e1,e2⟩
     ·rw[e1];exact N.out
     ·rw[e1];simp;omega
    have g6:=zng (g:=w.heap.size+1) (.int .i64 x) (.int .i64 y) w8;have o9:=World.ownsRow.kept o' g6 (.inr N8);have B9:=z0m (FT.out w8 g').2 (a:= .int .i64 x) (b:= .int .i64 y);have b9:=New.far b' g6 (by omega);go_roundw
    case rel=>exact⟨k+1,A',c',acc++[(px,py)],x,y,by omega,by go_num,rfl,Hz (by rw[zpb];exact o9),Hz N8,Hz B9,b9,HNB,E3⟩
    case measure=>simp[intOf];omega
  ·obtain rfl:k=l.length:=by omega
   have HO:=Hz (show O=some acc by rw[<-E.out,List.drop_length,zf3];simp);clear E;go_wp2
   go_ret
   exact⟨_,_,_,rfl,by rw[HO.out];exact o.out,b⟩
open Go.RowKit Go.Hm
def Rd(w:World)(gr gc:Nat)(a:List Nat)(room:Int):Prop:=Blk w gr 236 #[.pointer (some ⟨gc,0,none⟩),.string (zac a),.int .i64 room]
theorem Rd.cells{w:World}{gr gc:Nat}{a:List Nat}{room:Int}(h:Rd w gr gc a room):w.cell? ⟨gr,0,none⟩=some (.pointer (some ⟨gc,0,none⟩))/\w.cell? ⟨gr,1,none⟩=some (.string (zac a))/\w.cell? ⟨gr,2,none⟩=some (.int .i64 room):=
 ⟨by rw[Blk.cell h 0];rfl,by rw[Blk.cell h 1];rfl,by rw[Blk.cell h 2];rfl⟩
theorem Rd.far{w w':World}{gr gc:Nat}{a:List Nat}{room:Int}(h:Rd w gr gc a room)(hW:Far gc w w')(hne:gr≠gc):Rd w' gr gc a room:=Blk.grown h hW (by simpa using hne)
theorem Rd.below{w w':World}{gr gc:Nat}{a:List Nat}{room:Int}(h:Rd w gr gc a room)(hW:New w w'):Rd w' gr gc a room:=Blk.below h hW (Blk.lt h)
def qcl(gr gc:Nat)(x:List Nat × List Nat × Int × St)(w:World)(e:Ending)(w':World):Prop:=
 e= .returned (.string (zac x.1))/\Rd w' gr gc x.2.1 x.2.2.1/\CurS w' gc x.2.2.2/\Turns [gr,gc] w w'
set_option maxRecDepth 100000 in
theorem qcm{w:World}{gr gc:Nat}{a:List Nat}{room:Int}{S:St}(h:Rd w gr gc a room)(hc:CurS w gc S)(hne:gr≠gc)(ha8:∀x∈a,x<256)(hal:a.length<=65536)(hr0:0<=room)(hr1:room<=16777216):
 Calls Tryz.prog 235 #[.pointer (some ⟨gr,0,none⟩)] w (qcl gr gc (zeh a room S) w):=by
 have hS:=hc.ok;have hk0:=zbx (m:=a.length) S (by omega) hS;have hS1:=zba (m:=a.length) hS;rcases hE1:lenS (a.length:Int) S with⟨k,S1⟩;rw[hE1] at hk0 hS1;simp only at hk0 hS1;have hm0:=zbx (m:=65536-(k:Int)) S1 (by omega) hS1;have hS2:=zba (m:=65536-(k:Int)) hS1;rcases hE2:lenS (65536-(k:Int)) S1 with⟨m,S2⟩;rw[hE2] at hm0 hS2;simp only at hm0 hS2;have hr8:=(zct (n:=(m:Int)) hS2).2;have hrl:=zem (n:=(m:Int)) (S:=S2) (by omega);rcases hE3:zbr (m:Int) S2 with⟨r,S3⟩;rw[hE3] at hr8 hrl;simp only at hr8 hrl;have F:zeh a room S=if shr a (a.take k++r)=k/\((a.take k++r).length:Int)<=room then(a.take k++r,a.take k++r,room-((a.take k++r).length:Int),S3) else([],a,room,none):=by unfold zeh;simp only[hE1,hE2,hE3]
 have ht8:∀x∈a.take k++r,x<256:=by
  intro x hx;rcases List.mem_append.1 hx with hx|hx
  ·exact ha8 x (List.mem_of_mem_take hx)
  ·exact hr8 x hx
 have htl:(a.take k++r).length<=65536:=by rw[List.length_append,List.length_take];omega
 have i1:=qgx qdq a k (by omega);have sa:=z91 Tryz.prog (a.take k) r (by have:=htl;rw[List.length_append] at this;omega);have z1:=za4 a;have L1:=Hz (fun W (hW:CurS W gc S)=>(zcc (m:=(a.length:Int)) hW (by omega) (by omega)));rw[hE1] at L1;have L2:=Hz (fun W (hW:CurS W gc S1)=>(zcc (m:=65536-(k:Int)) hW (by omega) (by omega)));rw[hE2] at L2;have L3:=Hz (fun W (hW:CurS W gc S2)=>(zc6 (n:=(m:Int)) hW (by omega) (by omega)));rw[hE3] at L3;have HB:=Hz (fun W (hW:Far gc w W)=>(h.far hW hne).cells);have HR:=Hz h;have HC:=Hz hc;have Hne:=Hz hne;have HF:=Hz F;clear hE1 hE2 hE3 hS hS1 hS2 h hc hne F;generalize ht:a.take k++r=t at*;have Ht:=Hz ht;clear ht;have z2:=za4 t;go_enter Tryz.func235,Tryz.ntmps235
 go_wp2
 refine zam (Far gc) [(true,0),(true,1),(true,2),(true,3),(true,4),(true,5),(true,6),(true,7),(true,8),(false,9),(true,10)]
  (Far.refl gc) Far.trans (by kernel_rfl) (by kernel_rfl) (by kernel_rfl) (by kernel_rfl) ?_
 have hU:Far gc w w.drew:=Far.drew gc w;have D0:=HC.out.below (New.drew w);repeat(first
  |(refine za8 rfl rfl (fun K hK=>?_);go_simp
    (with_reducible refine(L1.out _ D0).mono ?_);rintro e w1 ⟨rfl,D1,b1⟩
    refine hK _ _ b1 ?_;clear hK;have hU:=Far.trans hU b1)
  |(refine zaq rfl rfl (v:=?_) (fun W hW=>?_) ?_;rotate_left;(obtain⟨c0,c1,c2⟩:=HB.out W (Far.trans hU hW);go_simp<;> with_reducible rfl);simp only[Act.put,List.setIfInBounds_toArray,List.set_cons_zero,List.set_cons_succ]))
 refine zb2 ?_;go_wp2
 refine zam (Far gc) [(true,0),(true,1),(true,2),(true,3),(true,4),(true,5),(true,6),(true,7),(true,8),(true,9),(false,10),(false,11),(true,12)]
  (Far.refl gc) Far.trans (by kernel_rfl) (by kernel_rfl) (by kernel_rfl) (by kernel_rfl) ?_
 have hU:Far gc w w1.drew:=Far.trans hU (Far.drew gc w1);have D0:=D1.below (New.drew w1);have dk:IntKind.i64.wrap (65536-(k:Int))=65536-(k:Int):=IntWalk.i64_in _ (by omega);repeat(first
  |(refine za8 rfl rfl (fun K hK=>?_);go_simp
    (with_reducible refine(L2.out _ D0).mono ?_);rintro e w2 ⟨rfl,D2,b2⟩
    refine hK _ _ b2 ?_;clear hK;have hU:=Far.trans hU b2)
  |(refine za8 rfl rfl (fun K hK=>?_);go_simp
    (with_reducible refine(L3.out _ D2).mono ?_);rintro e w3 ⟨A3,n3,c3,rfl,rfl,k3,D3,b3⟩
    refine hK _ _ b3 ?_;clear hK;have hU:=Far.trans hU b3)
  |(refine zaq rfl rfl (v:=?_) (fun W hW=>?_) ?_;rotate_left;(obtain⟨c0,c1,c2⟩:=HB.out W (Far.trans hU hW);go_simp<;> with_reducible rfl);simp only[Act.put,List.setIfInBounds_toArray,List.set_cons_zero,List.set_cons_succ]))
 refine zb2 ?_;go_wp2
 refine zam New [(true,0),(true,1),(true,2),(true,3),(true,4),(true,5),(true,6),(true,7),(true,8),(true,9)]
  New.refl New.trans (by kernel_rfl) (by kernel_rfl) (by kernel_rfl) (by kernel_rfl) ?_
 have hV:=New.drew w3;have hU:Far gc w w3.drew:=Far.trans hU (Far.drew gc w3);have D4:=D3.below hV;have r3:=k3.reads;repeat(first
  |(refine qgv elB.ht (by kernel_rfl) (by kernel_rfl) rfl rfl rfl r3 hV ?_;simp only[Act.put,List.setIfInBounds_toArray,List.set_cons_zero,List.set_cons_succ])
  |(refine zaq rfl rfl (v:=?_) (fun W hW=>?_) ?_;rotate_left;(obtain⟨c0,c1,c2⟩:=HB.out W (Far.trans hU (Far.of_new hW));go_simp<;> with_reducible rfl);simp only[Act.put,List.setIfInBounds_toArray,List.set_cons_zero,List.set_cons_succ]))
 refine zb2 ?_;obtain⟨c0,c1,c2⟩:=HB.out _ hU;have R4:=Hz (HR.out.far hU Hne.out);generalize w3.drew=w4 at*;have SH:=Hz (zrq a t ha8 ht8 (by omega) (by omega) w4);by_cases e1:shr a t=k
 ·have d1:((shr a t:Int) != (k:Int))=false:=by rw[e1];simp
  by_cases e2:(t.length:Int)<=room
  ·have d2:decide (room<(t.length:Int))=false:=by simp;omega
   have F:=HF.out;rw[if_pos ⟨e1,e2⟩] at F;have HG:=Hz F;clear F e1 HF;generalize shr a t=j at*;go_wp2_with (first
    |(go_at_call 234;refine SH.out.mono ?_;intro e w5 hh;obtain⟨rfl,b5⟩:=hh.new;clear hh
      have R5:=R4.out.below b5;have D5:=D4.below b5;obtain⟨c0,c1,c2⟩:=R5.cells;have f1:=Blk.frozen R5 1;have f2:=Blk.frozen R5 2;have R5:=Hz R5))
   go_ret
   rw[HG.out];have g5:w5.grownBy ((w5.setCell ⟨gr,1,none⟩ (.string (zac t))).setCell ⟨gr,2,none⟩ (.int .i64 (room-t.length))) (some gr):=zje;refine⟨rfl,?_,D5.keep g5 R5.out Hne.out.symm (by decide),((Turns.of_far hU (by simp)).trans (Turns.of_new b5)).trans (Turns.of_far g5 (by simp))⟩;show Blk _ gr _ _;simpa using(Blk.set_ R5.out 1 (.string (zac t))).set_ 2 (.int .i64 (room-t.length))
  ·have d2:decide (room<(t.length:Int))=true:=by simp;omega
   have F:=HF.out;rw[if_neg (fun hh=>e2 hh.2)] at F;have HG:=Hz F;clear F e1 HF;generalize shr a t=j at*;go_wp2_with (first
    |(go_at_call 234;refine SH.out.mono ?_;intro e w5 hh;obtain⟨rfl,b5⟩:=hh.new;clear hh
      have R5:=R4.out.below b5;have D5:=D4.below b5;obtain⟨c0,c1,c2⟩:=R5.cells;have FL:=Hz (zjq D5);have R5:=Hz R5)
    |(go_at_call 110;refine FL.out.mono ?_;rintro e w6 ⟨rfl,D6,b6⟩))
   go_ret
   rw[HG.out];exact⟨rfl,R5.out.far b6 Hne.out,D6,((Turns.of_far hU (by simp)).trans (Turns.of_new b5)).trans (Turns.of_far b6 (by simp))⟩
 ·have d1:((shr a t:Int) != (k:Int))=true:=by rw[bne_iff_ne];omega
  have F:=HF.out;rw[if_neg (fun hh=>e1 hh.1)] at F;have HG:=Hz F;clear F e1 HF;generalize shr a t=j at*;go_wp2_with (first
   |(go_at_call 234;refine SH.out.mono ?_;intro e w5 hh;obtain⟨rfl,b5⟩:=hh.new;clear hh
     have R5:=R4.out.below b5;have D5:=D4.below b5;obtain⟨c0,c1,c2⟩:=R5.cells;have FL:=Hz (zjq D5);have R5:=Hz R5)
   |(go_at_call 110;refine FL.out.mono ?_;rintro e w6 ⟨rfl,D6,b6⟩))
  go_ret
  rw[HG.out];exact⟨rfl,R5.out.far b6 Hne.out,D6,((Turns.of_far hU (by simp)).trans (Turns.of_new b5)).trans (Turns.of_far b6 (by simp))⟩
set_option maxRecDepth 100000 in
theorem qcn{w:World}{A:Option Addr}{n c:Nat}{b:List Nat}{m:Int}(h:Reads w w.heap.size 1 A n (za2 .u8 b))(h8:∀x∈b,x<256)(hn:n<=140737488355328)(hm: -9223372036854775808<=m)(hm1:m<=9223372036854775807):
 Calls Tryz.prog 217 #[.slice A n c,.int .i64 m] w (OptT (zts b m) w):=by
 obtain rfl:=h.len;by_cases hg:0<=m/\m<=65536
 ·obtain⟨m,rfl⟩:=Int.eq_ofNat_of_zero_le hg.1
  have hD:zts b m=if zp2 (zk8 m [] 16777216 (some b)).2 then some (zk8 m [] 16777216 (some b)).1 else none:=by unfold zts;rw[if_pos hg,Int.toNat_natCast]
  have HD:=Hz hD;have d1:decide ((m:Int)<0)=false:=by simp
  have d2:decide (65536<(m:Int))=false:=by simp;omega
  have hg1:=hg.2;clear hD hg hm hm1;go_enter Tryz.func217,Tryz.ntmps217
  go_wp2_with (first
   |(go_at_call 76;refine(zfh h hn h8).mono ?_;rintro e w1 ⟨gc,rfl,hgc,C1,b1⟩))
  have hgw:w.heap.size<=gc:=hgc;have hz1:=b1.size;have hcl:=C1.lt;have N1:=Hz (show w1.heap.size≠gc by omega);have b1':Below w.heap.size w (w1.alloc (.cells #[.pointer (some ⟨gc,0,none⟩),.string ⟨#[]⟩,.int .i64 16777216] 236)):=b1.alloc hz1 _;go_loopw [8,9] (fun v i wr=>∃(k q:Nat) (A:Option Addr) (m5 c5:Nat) (a:List Nat) (room:Int) (S:St) (pre:List (List Nat)),i= .int .i64 (k:Int)/\v= .slice A m5 c5/\k+q=m/\Own wr w.heap.size 9 (.slice A m5 c5) (zmn pre)/\pre.length=k/\Rd wr w1.heap.size gc a room/\CurS wr gc S/\Below w.heap.size w wr/\
   (∀x∈a,x<256)/\a.length<=65536/\0<=room/\room<=16777216/\Hid (zk8 m [] 16777216 (some b)=(pre++(zk8 q a room S).1,(zk8 q a room S).2))) (fun _ i _=>m-(intOf i).toNat)
  case atStart=>exact⟨0,m,_,_,_,[],16777216,some b,[],rfl,rfl,by omega,Own.nil_,rfl,Blk.new _ _ _,CurS.below (S:=some b) C1 ((Below.refl _ _).alloc (Nat.le_refl _) _),b1',by simp,by simp,by omega,by omega,Hz (by simp)⟩
  case round=>
   obtain⟨k,q,A5,m5,c5,a,room,S,pre,rfl,rfl,hkq,o5,hpre,R5,D5,b5,a8,al,r0,r1,H⟩:=hrel;have z5:=b5.size;have BD:=Hz (zzi D5);have ED:=Hz (zgi D5);have Hpre:=Hz hpre;have l5:=o5.len;rw[zet,hpre] at l5;subst l5;clear hpre;by_cases hq:q=0
   ·obtain rfl:m5=m:=by omega
    have H2:=H.out;rw[zuj q a room (.inl hq),List.append_nil] at H2;have E:=HD.out;rw[H2] at E;simp only at E;have HE:=Hz E;clear hq hkq E H2;generalize zts b m5=o at*;cases hE:zp2 S;all_goals
     rw[hE] at ED HE;clear hE;go_wp2_with (first
      |(go_at_call 82;(with_reducible refine ED.out.mono ?_);rintro e w6 ⟨rfl,rfl⟩))
     go_ret2
     rw[HE.out];first
      |exact⟨rfl,b5⟩
      |exact⟨_,_,_,rfl,o5,b5⟩
   ·obtain⟨q,rfl⟩:∃p,q=p+1:=⟨q-1,by omega⟩
    cases hS:S with
    |none=>
     rw[hS] at BD ED;have H2:=H.out;rw[zuj (q+1) a room (.inr hS),List.append_nil,hS] at H2;have E:=HD.out;rw[H2] at E;have HE:=Hz E;clear hq E H2 hS;generalize zts b m=o at*;have E:o=none:=by rw[HE.out];simp[zp2]
     subst E;go_wp2_with (first
      |(go_at_call 80;(with_reducible refine BD.out.mono ?_);rintro e w6 ⟨rfl,rfl⟩)
      |(go_at_call 82;(with_reducible refine ED.out.mono ?_);rintro e w6 ⟨rfl,rfl⟩))
     go_ret2
     exact⟨rfl,b5⟩
    |some l=>
     rw[hS] at BD;have H2:=H.out;rw[z56 q a room S (by rw[hS];simp)] at H2;have inv:=z52 a room S D5.ok al a8 r0 r1;have T:=Hz (qcm R5 D5 N1.out a8 al r0 r1);clear hS hq;generalize zeh a room S=x at*;obtain⟨t,a',room',S'⟩:=x;obtain⟨i1,i2,i3,i4,i5,i6⟩:=inv;simp only at i1 i2 i3 i4 i5 i6 H2;have H3:=Hz H2;have HA:=Hz (And.intro i1 (And.intro i2 (And.intro i3 i4)));clear H2 i1 i2 i3 i4 i6;have TO:=Hz (fun(w6:World) (hT:Turns [w1.heap.size,gc] wr w6)=>o5.touch hT (fun g hg=>by
      rcases List.mem_cons.1 hg with rfl|hg
      ·exact o5.blk_ne R5 (by decide)
      ·rw[List.mem_singleton] at hg
       subst hg;obtain⟨cs,hC⟩:=D5.blk;exact o5.blk_ne hC (by decide)))
     go_wp2_with (first
      |(go_at_call 80;(with_reducible refine BD.out.mono ?_);rintro e w6 ⟨rfl,rfl⟩)
      |(go_at_call 235;(with_reducible refine T.out.mono ?_);rintro e w6 ⟨rfl,R6,D6,t6⟩
        have o6:=TO.out w6 t6;have b6:=Turns.below b5 t6 (by intro x hx;simp at hx;rcases hx with rfl|rfl<;> omega) (Nat.le_refl _);have z6:=b6.size)
      |(refine zfy elS rfl (.tmp 32) (.tmp 35) rfl (W:=w) (B:=w.heap.size) o6 rfl rfl b6 (Nat.le_refl _) z6 rfl (by rw[zet,Hpre.out];omega) (by rw[zet,Hpre.out];simp only[maxLen];omega) ?_
        intro A7 c7 w7 _ _ o7 g7 b7 _ _))
     go_roundw
     case rel=>exact⟨m5+1,q,_,_,_,a',room',S',pre++[t],by go_num,rfl,by omega,by rw[zwu];exact o7,by rw[List.length_append,Hpre.out];rfl,Blk.push R6 o6 g7 (by decide),CurS.push D6 o6 g7 (by decide) (by decide),b7,HA.out.2.1,HA.out.1,HA.out.2.2.1,HA.out.2.2.2,Hz (by rw[H3.out,List.append_assoc];rfl)⟩
     case measure=>simp[intOf];omega
 ·have hD:zts b m=none:=by unfold zts;rw[if_neg hg]
  rw[hD];by_cases h0:m<0;all_goals
   have d3:65536<m\/m<0:=by omega
   clear hg hD;go_enter Tryz.func217,Tryz.ntmps217
   go_wp2
   all_goals first|(exfalso;omega)|(go_ret2;exact⟨rfl,Below.refl _ _⟩)
end Go.Proofs.Y
