/- Merged. -/
import Derived.Lib.SmallJoins
import Derived.Test.YtbahbnbpmfgimaaGreatDoorBun20
import Derived.Test.YtbahbnbpmfgimaaGreatDoorBun21
set_option maxHeartbeats 4000000
namespace Go.Hm
open Go Go.RowKit
theorem zoe(n:Nat):∀k,k<=64->n<18446744073709551616->(Lib.bitLen n<=k↔n<2^k):=by
 intro k hk hn;refine⟨fun h=>?_,fun h=>Lib.bitLen_le n k hk h⟩;induction k generalizing n with
 |zero=>
  by_cases h0:n=0
  ·omega
  ·have:=Lib.bitLen_half n h0 hn
   omega
 |succ k ih=>
  by_cases h0:n=0
  ·subst h0;exact qog _
  ·have h1:=Lib.bitLen_half n h0 hn
   have h2:=ih (n/2) (by omega) (by omega) (by omega);rw[qnq];omega
theorem z2h{x:Nat}(h0:x≠0)(h:x<9223372036854775808):Lib.bitLen x=x.log2+1/\x.log2<63:=by
 have a1:=qno h0;have a2:=qnp (n:=x);have hl:x.log2<63:=(Nat.pow_lt_pow_iff_right (by omega:1<2)).1 (qoh a1 h);have b1:=(zoe x (x.log2+1) (by omega) (by omega)).2 a2;have b2: ¬Lib.bitLen x<=x.log2:=fun hb=>by have:=(zoe x x.log2 (by omega) (by omega)).1 hb;omega
 omega
end Go.Hm
namespace Go.Proofs.Y
open Go.RowKit Go.Hm
set_option maxRecDepth 100000 in
theorem qgk(x:Nat)(w:World)(h:x<=9223372036854775807):Calls Tryz.prog 103 #[.int .u64 (x:Int)] w (zdm (.int .i64 (Lib.bitLen x:Nat)) w):=by
 have L:=Hz (bits_Len64 (x:Int) w (by omega) (by omega));go_enter Tryz.func103,Tryz.ntmps103
 go_wp2_with (go_at_call 120;refine L.out.mono ?_;rintro e w' ⟨rfl,rfl⟩)
 go_ret
 exact⟨by simp,rfl⟩
set_option maxRecDepth 100000 in
theorem zuj(n:Int)(w:World)(h0: -9223372036854775808<=n)(h:n<=9223372036854775807):Calls Tryz.prog 72 #[.int .i64 n] w (zdm (.int .i64 (zbf n.toNat:Nat)) w):=by
 by_cases h2:n<2
 ·have hs:zbf n.toNat=0:=by unfold zbf;exact if_pos (by omega)
  rw[hs];have d:decide (n<2)=true:=decide_eq_true h2;go_enter Tryz.func72,Tryz.ntmps72
  go_wp2
  go_ret
  exact⟨by simp,rfl⟩
 ·have d:decide (n<2)=false:=decide_eq_false h2
  obtain⟨m,rfl⟩:∃m:Nat,n=(m:Int):=⟨n.toNat,by omega⟩;obtain⟨s1,s2,s3⟩:=zq6 (n:=m) (by omega);obtain⟨b1,b2⟩:=z2h (x:=m-1) (by omega) (by omega);have L:=qgk (m-1) w (by omega);rw[b1] at L;have L:=Hz L;have e1:(m:Int)-1=((m-1:Nat):Int):=by omega
  rw[qng,s1];have hp:2^(m-1).log2<9223372036854775808:=by omega
  generalize hk:(m-1).log2=k at*;obtain⟨p,hpp⟩:∃p,p=2^k:=⟨_,rfl⟩;have e2:((k+1:Nat):Int)-1=(k:Int):=by omega
  clear s1 s2 s3 b1 hk;go_enter Tryz.func72,Tryz.ntmps72
  go_wp2_with (go_at_call 103;refine L.out.mono ?_;rintro e w' ⟨rfl,rfl⟩)
  go_ret
  have c:(2:Int)^k=(p:Int):=by rw[hpp];simp
  have c2:wrap64 ((2:Int)^k)=((2^k:Nat):Int):=by rw[c,<-hpp];rw[<-hpp] at hp;unfold wrap64;omega
  exact⟨by rw[<-c2];rfl,rfl⟩
end Go.Proofs.Y
namespace Go.Hm
open Go Go.RowKit
end Go.Hm
namespace Go.Proofs.Y
open Go.RowKit Go.Hm
def TwoPost(o:Option (List Nat × List Nat))(w:World)(e:Ending)(w':World):Prop:=
 ∃A n c B m d,e= .returned (.tuple #[.slice A n c,.slice B m d,.bool o.isSome])/\Reads w' w'.heap.size 1 A n (zan .u8 ((o.map Prod.fst).getD []))/\Reads w' w'.heap.size 1 B m (zan .u8 ((o.map Prod.snd).getD []))/\(n<=c/\c<=9223372036854775807)/\(m<=d/\d<=9223372036854775807)/\New w w'
theorem TwoPost.none_{w w':World}(h:New w w'):TwoPost none w (.returned (.tuple #[.slice none 0 0,.slice none 0 0,.bool false])) w':=
 ⟨none,0,0,none,0,0,rfl,Reads.none_,Reads.none_,⟨by omega,by omega⟩,⟨by omega,by omega⟩,h⟩
end Go.Proofs.Y
namespace Go.Hm
open Go Go.RowKit
theorem zbp{w w1 w2:World}{g:Nat}{V V1:Value}(t1:Turns (g::zbi V) w w1)(a1:V1.ownBlock=V.ownBlock\/ ∃h,V1.ownBlock=some h/\w.heap.size<=h)(t2:Turns (g::zbi V1) w1 w2):Turns (g::zbi V) w w2:=
 ⟨t2.os.trans t1.os,t2.tape.trans t1.tape,t2.output.trans t1.output,qml t1.size t2.size,fun k hk hT=>by
  refine(t2.block k (qmo hk t1.size) (fun hm=>?_)).trans (t1.block k hk hT);rcases qof.1 hm with rfl|hm
  ·exact hT (by simp)
  ·rcases a1 with a1|⟨h,a1,a2⟩
   ·refine hT (qqf _ ?_)
    unfold zbi at hm⊢;rwa[a1] at hm
   ·unfold zbi at hm
    rw[a1] at hm;simp at hm;omega⟩
theorem zf7{w w1:World}{V V1 V2:Value}(hw:w.heap.size<=w1.heap.size)(a1:V1.ownBlock=V.ownBlock\/ ∃h,V1.ownBlock=some h/\w.heap.size<=h)(a2:V2.ownBlock=V1.ownBlock\/ ∃h,V2.ownBlock=some h/\w1.heap.size<=h):V2.ownBlock=V.ownBlock\/ ∃h,V2.ownBlock=some h/\w.heap.size<=h:=by
 rcases a2 with a2|⟨h,a2,a3⟩
 ·rw[a2];exact a1
 ·exact .inr ⟨h,a2,qml hw a3⟩
theorem zok{w:World}{g x:Nat}{V V1:Value}(hx:x∉g::zbi V)(hw:x<w.heap.size)(a1:V1.ownBlock=V.ownBlock\/ ∃h,V1.ownBlock=some h/\w.heap.size<=h):x∉g::zbi V1:=fun hm=>by
 rcases qof.1 hm with rfl|hm
 ·exact hx (by simp)
 ·rcases a1 with a1|⟨h,a1,a2⟩
  ·refine hx (qqf _ ?_)
   unfold zbi at hm⊢;rwa[a1] at hm
  ·unfold zbi at hm
   rw[a1] at hm;simp at hm;omega
def zet(d:List Nat):List Value:=(List.range 32).map fun i=> .int .u8 ((d.getD i 0:Nat):Int)
theorem zdi(d:List Nat):(zet d).length=32:=by simp[zet]
theorem zol{d:List Nat}(h:d.length=32):zet d=zan .u8 d:=by
 unfold zet zan;refine qm7 (by simp[h]) fun i h1 h2=>?_
 have hi:i<d.length:=by simpa using h2
 simp[List.getD_eq_getElem?_getD,hi]
def dV(d:List Nat):Value:= .agg (zan .u8 d).toArray
theorem zj6(s:List Nat)(L:List (List Nat)):zue (zfk s L)=dV (zb6 s L):=by unfold zue dV;rw[z6e]
structure LeafIn(w:World)(A:Option Addr)(L:List (List Nat))(T:List Nat):Prop where
 row:Reads w w.heap.size 32 A L.length (recs zet L)
 digs:Digs L
 far:0<L.length-> ∀ad,A=some ad->ad.block∉T
theorem LeafIn.turn{w w':World}{A:Option Addr}{L:List (List Nat)}{T T':List Nat}(h:LeafIn w A L T)(k:Turns T w w')(hT:∀x,x<w.heap.size->x∉T->x∉T'):LeafIn w' A L T':=by
 refine⟨⟨h.row.1,fun hn=>?_⟩,h.digs,fun hn ad ha=>?_⟩
 ·obtain⟨ad,e,hb,hc⟩:=h.row.2 hn
  refine⟨ad,e,qmo hb k.size,fun j u hu=>?_⟩;rw[World.cell?_of_block (a:=ad.add j) (k.block (ad.add j).block (by rw[zai];exact hb) (by rw[zai];exact h.far hn ad e))];exact hc j u hu
 ·obtain⟨ad',e,hb,_⟩:=h.row.2 hn
  rw[ha] at e;injection e with e;subst e;exact hT _ hb (h.far hn ad ha)
theorem LeafIn.take{w:World}{A:Option Addr}{L:List (List Nat)}{T:List Nat}(h:LeafIn w A L T){k:Nat}(hk:k<=L.length):LeafIn w A (L.take k) T:=by
 have hl:(L.take k).length=k:=by rw[qmq];omega
 refine⟨?_,h.digs.take k,fun hn=>h.far (by omega)⟩;have:=h.row.take hk;rw[zg5 (sz:=32) zdi L k hk] at this;rwa[hl]
theorem LeafIn.drop{w:World}{A:Option Addr}{L:List (List Nat)}{T:List Nat}(h:LeafIn w A L T){k c:Nat}(hk:k<=L.length)(hc:L.length<=c):LeafIn w (if c=k then A else A.map (·.add (k*32))) (L.drop k) T:=by
 have hl:(L.drop k).length=L.length-k:=by rw[qmp]
 refine⟨?_,h.digs.drop k,fun hn ad ha=>?_⟩
 ·have:=h.row.cut hk hc
  rw[zoh (sz:=32) zdi L k hk] at this;rwa[hl]
 ·split at ha
  ·exact h.far (by omega) ad ha
  ·cases A with
   |none=>cases ha
   |some a=>
    simp only[qpr,qmj] at ha;rw[<-ha,zai];exact h.far (by omega) a rfl
end Go.Hm
namespace Go.Proofs.Y
open Go.RowKit Go.Hm
theorem LogOf.own{t:TypeId}{w:World}{base g B:Nat}{V:Value}{L:List (List Nat)}(h:LogOf t w base g V L)(hb:B<=base)(hg:B<=g):∀x∈g::zbi V,B<=x:=by
 intro x hx;rcases qof.1 hx with rfl|hx
 ·exact hg
 ·exact qml hb (h.ge x hx).1
theorem LogOf.noB{t:TypeId}(ht:t≠5){w:World}{base g:Nat}{V:Value}{L:List (List Nat)}(h:LogOf t w base g V L):∀x∈g::zbi V,x<w.heap.size-> ∀cs,¬Blk w x 5 cs:=by
 obtain⟨A,n,c,D,rfl,h1,h2,_⟩:=h;intro x hx _ cs hB;rcases qof.1 hx with rfl|hx
 ·exact Blk.ne_ h1 hB ht rfl
 ·exact zda h2 hB (by decide) hx
theorem LogOf.notT{t u:TypeId}{w:World}{base g x:Nat}{V:Value}{L:List (List Nat)}{cs:Array Value}(h:LogOf t w base g V L)(hB:Blk w x u cs)(h1:t≠u)(h2:24≠u):x∉g::zbi V:=fun hx=>by
 obtain⟨A,n,c,D,rfl,hb,ho,_⟩:=h;rcases qof.1 hx with rfl|hx
 ·exact Blk.ne_ hb hB h1 rfl
 ·exact zda ho hB h2 hx
abbrev tL:TypeId:=86
end Go.Proofs.Y
namespace Go.Hm
open Go Go.RowKit
theorem z6q(w:World):RowsAt w none 0 0 []:=⟨Reads.none_,(fun _ hd=>nomatch hd),qmt _⟩
theorem ConstIn.turn{W w w':World}{T:List Nat}(hC:ConstIn W)(b:New W w)(k:Turns T w w')(hT:∀x∈T,W.heap.size<=x):ConstIn w':=hC.new (Turns.below b k hT (qmt _))
section
variable{P:Program}{w:World}{a:Act}{dst:Option Tmp}{tt:TypeId}{pos:String}{af:Array Edge}{gd:Option (Nat × Bool)}
theorem zsq{t t2:TypeId}{x y:Operand}{v:Value}{xs ys:Array Value}(hx:a.eval x= .agg xs)(hy:a.eval y= .agg ys)(hm:P.eqGuardType P.depth t=false)(hv:(binOp .eql t (.agg xs) (.agg ys)).run P w= .ok v w):(execOp a.eval ⟨dst,.binOp .eql t x y t2,tt,pos,af,gd⟩).run P w= .ok (.value v) w:=by unfold execOp;simp only[hx,hy,Sem.run_bind,run_eqGuard_agg (hm:=hm),hv,Result.andThen_ok,Sem.run_pure]
end
end Go.Hm
namespace Go.Proofs.Y
open Go.RowKit Go.Hm
theorem LogAt.made(w:World)(base:Nat):LogAt (w.alloc (.cells #[.slice none 0 0] 86)) base w.heap.size (.slice none 0 0) []:=⟨none,0,0,[],rfl,Blk.new _ _ _,Own.nil_,(fun _ hd=>nomatch hd),rfl⟩
end Go.Proofs.Y
set_option maxRecDepth 100000
namespace Go.Hm
open Go Go.RowKit
abbrev qg7:=List Nat × Option Addr × Nat × List zcv
def qlu(r:qg7):List Value:=[.string (zae r.1),.slice r.2.1 r.2.2.2.length r.2.2.1]
def PartsFine(D:List zcv):Prop:=∀p∈bytesOf D,(∀x∈p,x<256)/\p.length<=140737488351232
set_option maxRecDepth 100000 in
theorem PartsFine.lt{D:List zcv}(h:PartsFine D):∀p∈bytesOf D,∀x∈p,x<256:=fun p hp=>(h p hp).1
structure RowIn(w:World)(r:qg7):Prop where
 tag:(∀x∈r.1,x<256)/\r.1.length<=140737488351232
 rows:RowsAt w r.2.1 r.2.2.2.length r.2.2.1 r.2.2.2
 fine:PartsFine r.2.2.2
 few:r.2.2.2.length<=4611686018427387903
set_option maxRecDepth 100000 in
theorem RowIn.later{w w':World}{r:qg7}(h:RowIn w r)(hb:New w w'):RowIn w' r:=⟨h.tag,h.rows.later hb,h.fine,h.few⟩
end Go.Hm
namespace Go.Proofs.Y
open Go.RowKit Go.Hm Go.WideShapes Go.ChangeShapes
section
variable{H:Type}{enc:TypeId × Value->H}{W:World}{base:Nat}{v:Value}{d:DataW H}{ps:List MemPlace}
set_option maxRecDepth 100000 in
theorem qcf(l:List Nat):recs (fun n:Nat=>[.int .u8 (n:Int)]) l=zan .u8 l:=by
 induction l with
 |nil=>rfl
 |cons x l ih=>rw[zg4,ih];rfl
set_option maxRecDepth 100000 in
theorem z2u{cs:List Value}(h:Held enc Tryz.prog W 24 cs):∃x:zcv,cs=ze1 x/\(Reads W W.heap.size 1 x.1 x.2.2.length (zan .u8 x.2.2)/\x.2.2.length<=x.2.1/\x.2.1<=140737488351232/\ ∀z∈x.2.2,z<256):=by
 have ht:Tryz.prog.underlying 24=some (.slice 5):=by kernel_rfl
 obtain⟨A,c,l,h1,h2,_,h4,h5,h6⟩:=h.recs (f:=fun n:Nat=>[.int .u8 (n:Int)]) (sz:=1) (by_:=1) (Q:=fun x=>x<256) 0 ht (by kernel_rfl) (by kernel_rfl) (fun _=>rfl) (by omega) (fun cs hh=>by obtain⟨n,e1,e2⟩:=hh.nat (k:= .u8) rfl (by kernel_rfl);exact⟨n,e1,by simp[IntKind.max,IntKind.signed,IntKind.bits] at e2;omega⟩)
 rw[qcf] at h5;exact⟨(A,c,l),h1,h5,h2,by show c<=_;unfold reachBytes at h4;omega,h6⟩
set_option maxRecDepth 100000 in
theorem z2v{cs:List Value}(h:Held enc Tryz.prog W 22 cs):∃(A:Option Addr) (c:Nat) (D:List zcv),cs=[.slice A D.length c]/\RowsAt W A D.length c D/\PartsFine D/\D.length<=4611686018427387903:=by
 have ht:Tryz.prog.underlying 22=some (.slice 24):=by kernel_rfl
 obtain⟨A,c,l,h1,h2,_,h4,h5,h6⟩:=h.recs (f:=ze1) (sz:=1) (by_:=24) (Q:=fun x=>(Reads W W.heap.size 1 x.1 x.2.2.length (zan .u8 x.2.2)/\x.2.2.length<=x.2.1/\x.2.1<=140737488351232/\ ∀z∈x.2.2,z<256)) (none,0,[]) ht (by kernel_rfl) (by kernel_rfl) (fun _=>rfl) (by omega) (fun cs hh=>z2u hh);refine⟨A,c,l,h1,⟨h5,fun d hd=>⟨(h6 d hd).1,(h6 d hd).2.1,by have:=(h6 d hd).2.2.1;omega⟩,h2⟩,fun p hp=>?_,by unfold reachBytes at h4;omega⟩;obtain⟨d,hd,rfl⟩:=qmn.1 hp;exact⟨(h6 d hd).2.2.2,by have:=(h6 d hd).2.1;have:=(h6 d hd).2.2.1;omega⟩
set_option maxRecDepth 100000 in
theorem qg8(hval:Value.okWide Tryz.prog W .any base 22 v)(h:DataW.Trod enc Tryz.prog W 0 (fun _=>true) true 22 v d ps)(hlt:∀p∈ps,p.block<W.heap.size)(hw:∀n∈d.weights Tryz.prog 22,n<=reachBytes):
 ∃(A:Option Addr) (c:Nat) (D:List zcv),v= .slice A D.length c/\RowsAt W A D.length c D/\PartsFine D/\D.length<=4611686018427387903:=by
 have ht:Tryz.prog.underlying 22=some (.slice 24):=by kernel_rfl
 obtain⟨a0,len,cap,rfl⟩:=okWide_slice ht hval;obtain⟨A,c,D,h1,h2⟩:=z2v (Held.of h hlt hw);simp only[Value.cells,qmg,and_true] at h1;rw[h1];exact⟨A,c,D,rfl,h2⟩
end
end Go.Proofs.Y
namespace Go.Hm
open Go Go.RowKit
structure LogRows(w:World)(A:Option Addr)(L:List qg7):Prop where
 row:Reads w w.heap.size 2 A L.length (recs qlu L)
 fine:∀r∈L,RowIn w r
theorem LogRows.later{w w':World}{A:Option Addr}{L:List qg7}(h:LogRows w A L)(hb:New w w'):LogRows w' A L:=⟨Reads.later h.row hb,fun r hr=>(h.fine r hr).later hb⟩
abbrev qi5:qg7:=([],none,0,[])
theorem LogRows.at_{w:World}{A:Option Addr}{L:List qg7}(h:LogRows w A L){i:Nat}(hi:i<L.length):
 ∃ad,A=some ad/\RowIn w (L.getD i qi5)/\ ∀W,New w W->W.cell? (ad.add (i*2))=some (.string (zae (L.getD i qi5).1))/\W.cell? ⟨(ad.add (i*2)).block,(ad.add (i*2)).off+1,none⟩=some (.slice (L.getD i qi5).2.1 (L.getD i qi5).2.2.2.length (L.getD i qi5).2.2.1):=by
 obtain⟨ad,e,hb,hl,hc⟩:=Reads.rec_ (f:=qlu) (sz:=2) (fun _=>rfl) qi5 h.row hi (by omega);refine⟨ad,e,h.fine _ ?_,fun W hW=>?_⟩
 ·rw[qoa,qmm hi]
  exact qm8 hi
 ·have h0:=hc 0 _ rfl
  have h1:=hc 1 _ rfl;rw[<-za3] at h1;exact⟨(Below.cell hW (by rw[zai];exact hb)).trans h0,(Below.cell hW (by rw[zai];exact hb)).trans h1⟩
def GoodF(F:List (List Nat)):Prop:=∀p∈F,(∀x∈p,x<256)/\p.length<=10000000
theorem GoodF.add{F:List (List Nat)}{o:Option (List Nat)}(h:GoodF F)(ho:∀f,o=some f->(∀x∈f,x<256)/\f.length<=10000000):GoodF (F++o.toList):=by
 intro p hp;rcases qny.1 hp with hp|hp
 ·exact h p hp
 ·cases o with
  |none=>simp at hp
  |some f=>
   obtain rfl:p=f:=by simpa using hp
   exact ho p rfl
end Go.Hm
namespace Go.Proofs.Y
open Go.RowKit Go.Hm
section
variable{P:Program}{w:World}{a:Act}{dst:Option Tmp}{tt:TypeId}{pos:String}{af:Array Edge}{gd:Option (Nat × Bool)}
end
theorem LogAt.own{w:World}{base g B:Nat}{V:Value}{L:List (List Nat)}(h:LogAt w base g V L)(hb:B<=base)(hg:B<=g):∀x∈g::zbi V,B<=x:=by
 intro x hx;rcases qof.1 hx with rfl|hx
 ·exact hg
 ·exact qml hb (h.ge x hx).1
theorem LogAt.noB{w:World}{base g:Nat}{V:Value}{L:List (List Nat)}(h:LogAt w base g V L):∀x∈g::zbi V,x<w.heap.size-> ∀cs,¬Blk w x 5 cs:=by
 obtain⟨A,n,c,D,rfl,h1,h2,_⟩:=h;intro x hx _ cs hB;rcases qof.1 hx with rfl|hx
 ·exact Blk.ne_ h1 hB (by decide) rfl
 ·exact zda h2 hB (by decide) hx
theorem z0e{V:Value}{x:Nat}(h:V.ownBlock=some x):x∈zbi V:=by unfold zbi;rw[h];simp
end Go.Proofs.Y
namespace Go.Hm
open Go Go.RowKit
def qj5(c:zab):Nat:=if c.1 then 0 else 1
def zey(l:List zab):List Nat:=l.map qj5
def zdv(l:List zab):List zab:=l.filter fun c=> !c.1
theorem zlg(l:List zab):(zey l).length=l.length:=by simp[zey]
theorem z09(l:List zab):∀x∈zey l,x<2^1:=by intro x hx;obtain⟨c,_,rfl⟩:=qmn.1 hx;unfold qj5;split<;> decide
theorem z3u(l:List zab)(k:Nat)(h:k<l.length):zey (l.take (k+1))=zey (l.take k)++[qj5 (l.getD k (false,0,[],0,0))]:=by rw[zad l k (false,0,[],0,0) h,zey,qp6];rfl
theorem z8s(l:List zab)(k:Nat)(h:k<l.length):zdv (l.take (k+1))=zdv (l.take k)++(if(l.getD k (false,0,[],0,0)).1 then [] else [l.getD k (false,0,[],0,0)]):=by
 rw[zad l k (false,0,[],0,0) h,zdv,List.filter_append];congr 1
 generalize l.getD k (false,0,[],0,0)=c;cases hh:c.1<;> simp[hh]
theorem ztq(l:List zab):(zdv l).length<=l.length:=List.length_filter_le _ _
end Go.Hm
namespace Go.Proofs.Y
open Go.RowKit Go.Hm
theorem zvv(l:List zab):wid (zey l)<=1/\ ∀x∈zey l,x<=18446744073709551615:=by
 have hb:∀x∈zey l,x<=18446744073709551615:=fun x hx=>by have:=z09 l x hx;omega
 exact⟨(zhv _ 1 (by omega) hb).2 (z09 l),hb⟩
def zcx(l:List zab):List Nat:=low (pk 1 (zey l)) ((1*(zey l).length+7)/8)
theorem z3v{l:List zab}(hl:l.length<=65536):zqt (zey l) 1=some (zcx l):=zfz (zey l) 1 (by omega) (by rw[zlg];exact hl) (zvv l).1
end Go.Proofs.Y
set_option maxRecDepth 100000
namespace Go.Hm
open Go Go.RowKit
structure FootIn(w:World)(Ac:Option Addr)(cc:Nat)(L:List zbb)(Ag:Option Addr)(G:List GrD):Prop where
 cols:Reads w w.heap.size 3 Ac L.length (recs zly L)
 fine:∀x∈L,(∀z∈x.1,z<256)/\x.1.length<=140737488351232
 cap:L.length<=cc
 few:L.length<=4611686018427387903
 groups:Reads w w.heap.size 2 Ag G.length (recs grV G)
 few2:G.length<=4611686018427387903
 chunks:∀g∈G,Reads w w.heap.size 1 g.2.1 g.2.2.2.length (recs chV g.2.2.2)/\g.2.2.2.length<=4611686018427387903
 pages:∀g∈G,∀x∈g.2.2.2,Reads w w.heap.size 14 x.1 x.2.2.length (recs zhb x.2.2)/\x.2.2.length<=4611686018427387903
theorem FootIn.later{w w':World}{Ac:Option Addr}{cc:Nat}{L:List zbb}{Ag:Option Addr}{G:List GrD}(h:FootIn w Ac cc L Ag G)(hb:New w w'):FootIn w' Ac cc L Ag G:=
 ⟨Reads.later h.cols hb,h.fine,h.cap,h.few,Reads.later h.groups hb,h.few2,fun g hg=>⟨Reads.later (h.chunks g hg).1 hb,(h.chunks g hg).2⟩,fun g hg x hx=>⟨Reads.later (h.pages g hg x hx).1 hb,(h.pages g hg x hx).2⟩⟩
def zli(Ac:Option Addr)(cc:Nat)(L:List zbb)(rows:Int)(Ag:Option Addr)(cg:Nat)(G:List GrD):Value:= .agg #[.slice Ac L.length cc,.int .i64 rows,.slice Ag G.length cg]
def zbx(L:List zbb)(rows:Int)(G:List GrD):FootS:=⟨L,rows,G.map grP⟩
end Go.Hm
namespace Go.Proofs.Y
open Go.RowKit Go.Hm Go.WideShapes Go.ChangeShapes
section
variable{H:Type}{enc:TypeId × Value->H}{W:World}{base:Nat}{v:Value}{d:DataW H}{ps:List MemPlace}
end
end Go.Proofs.Y
namespace Go.Hm
open Go
theorem z83(b:Bool):decide (boolN b=1)=b:=by cases b<;> decide
def z84(s:List Nat)(p q:Nat × St):zbb × St:=((s,(p.1:Int),decide (q.1=1)),if 1<q.1 then none else q.2)
theorem z1g(S:St):ztx S=z84 (zeq ((lenS 100 S).1:Int) (lenS 100 S).2).1 (zcf (zeq ((lenS 100 S).1:Int) (lenS 100 S).2).2) (zcf (zcf (zeq ((lenS 100 S).1:Int) (lenS 100 S).2).2).2):=rfl
theorem qd8(c:zbb)(r:List Nat)(h1:c.1.length<=100)(h2:0<=c.2.1):ztx (some (z3y c++r))=(c,some r):=by
 obtain⟨nm,t,u⟩:=c;simp only at h1 h2;obtain⟨t,rfl⟩:=qon h2;have e0:z3y (nm,(t:Int),u)++r=vp nm.length++(nm++(t::boolN u::r)):=by simp[z3y]
 have e1:=zds nm.length (nm++(t::boolN u::r)) (m:=100) (by omega) (by omega);rw[z1g,e0,e1];simp only;rw[zor];have e2:zcf (some (t::boolN u::r))=(t,some (boolN u::r)):=rfl;have e3:zcf (some (boolN u::r))=(boolN u,some r):=rfl;simp only[e2,e3];unfold z84;simp only;rw[if_neg (by cases u<;> decide),z83]
theorem zv8:∀(l:List zbb) (r:List Nat),(∀c∈l,c.1.length<=100/\0<=c.2.1)->zej l.length (some (zkk l++r))=(l,some r)
 | [],r,_=>rfl
 |c::l,r,h=>by
  have hc:=h c (by simp);have e:zkk (c::l)++r=z3y c++(zkk l++r):=by simp[zkk]
  rw[e,qnu,zej,qd8 c _ hc.1 hc.2,zv8 l r (fun x hx=>h x (by simp[hx]))]
theorem qd9(l:List zbb)(r:List Nat)(h:zcy l=0):getC (some (vp l.length++zkk l++r))=(l,some r):=by obtain⟨h1,h2,_⟩:=(zeh l).1 h;unfold getC;rw[qm5,zds l.length (zkk l++r) (m:=64) (by omega) (by omega)];simp only;rw[zv8 l r (fun c hc=>⟨(h2 c hc).2.1,(h2 c hc).2.2.1⟩)];rw[if_neg (by simp[h])]
theorem zrz{S:St}{b:Nat}{r:List Nat}(h:zcf S=(b,some r)):S=some (b::r):=by
 unfold zcf at h;split at h
 ·simp only[qmi,qmj] at h
  rw[h.1,h.2]
 ·simp at h
theorem z85{S:St}{c:zbb}{r:List Nat}(hS:S.ok)(h:ztx S=(c,some r)):S=some (z3y c++r):=by
 rw[z1g] at h;rcases zdf 100 S hS with h0|⟨N,r1,h0,hN,_,h1⟩
 ·rw[h0] at h
  simp[z22,zl2,z84] at h
 ·rw[h1] at h
  simp only at h;rcases ze4 (N:Int) (some r1) with h2|⟨l,hl,_,h3,h2⟩
  ·rw[h2] at h
   simp[zl2,z84] at h
  ·rw[h2] at h
   injection hl with hl;subst hl;simp only[qng] at h;generalize hb1:zcf (some (r1.drop N))=B1 at*;obtain⟨t,S3⟩:=B1;simp only at h;generalize hb2:zcf S3=B2 at*;obtain⟨u,S4⟩:=B2;unfold z84 at h;simp only[qmi] at h;obtain⟨hc,hr⟩:=h;split at hr
   ·cases hr
   ·rename_i hu
    subst hr;have e2:=zrz hb2;subst e2;have e1:=zrz hb1;injection e1 with e1;rw[h0];subst hc;have hlen:(r1.take N).length=N:=by rw[qmq];omega
    have hbu:boolN (decide (u=1))=u:=by
     have:u=0\/u=1:=by omega
     rcases this with rfl|rfl<;> rfl
    unfold z3y;simp only[hlen,qng,hbu];rw[qm5,qm5];congr 2
    rw[show [t,u]++r=r1.drop N by rw[e1];rfl,qpl]
theorem zr0:∀(n:Nat) {S:St} {l:List zbb} {r:List Nat},S.ok->zej n S=(l,some r)->S=some (zkk l++r)
 |0,S,l,r,_,h=>by
  simp only[zej,qmi] at h;obtain⟨rfl,rfl⟩:=h;rfl
 |n+1,S,l,r,hS,h=>by
  rw[zej] at h;have hok:=zy3 hS;generalize hc:ztx S=R at*;obtain⟨c,S1⟩:=R;simp only at h hok;generalize hd:zej n S1=R2 at*;obtain⟨l2,S2⟩:=R2;simp only[qmi] at h;obtain⟨rfl,rfl⟩:=h;have e:=zr0 n hok hd;subst e;rw[z85 hS hc];simp[zkk]
theorem zhe{S:St}{l:List zbb}{r:List Nat}(hS:S.ok)(h:getC S=(l,some r)):zcy l=0/\S=some (vp l.length++zkk l++r):=by
 unfold getC at h;rcases zdf 64 S hS with h0|⟨N,r1,h0,hN,_,h1⟩
 ·rw[h0] at h
  simp[zej] at h
 ·rw[h1] at h
  simp only at h;split at h
  ·simp at h
  ·rename_i hn
   have hok:St.ok (some r1):=St.ok_some fun x hx=>hS _ h0 x (by simp[hx])
   have e:=zr0 N hok h;injection e with e;have hl:l.length=N:=by rw[<-zlp N (some r1),h]
   rw[h] at hn;refine⟨?_,?_⟩
   ·by_cases hk:zcy l=0
    ·exact hk
    ·exact absurd (.inr hk) hn
   ·rw[h0,hl,e,qm5]
theorem z86{S:St}{l:List zbb}(h:getC S=(l,none)):l=[]:=by
 unfold getC at h;split at h
 ·simp at h;exact h
 ·rename_i hn
  rw[h] at hn;simp at hn
theorem z87(n:Nat):∀x∈vp n,x<256:=by
 induction n using Nat.strongRecOn with
 |_ n ih=>
  intro x hx;by_cases hn:n<128
  ·rw[zf2 hn] at hx
   simp at hx;omega
  ·rw[zf3 hn,qof] at hx
   rcases hx with rfl|hx
   ·omega
   ·exact ih (n/128) (by omega) x hx
theorem z88(l:List zbb)(h:∀x∈l,(∀z∈x.1,z<256)/\0<=x.2.1/\x.2.1<=3):∀x∈vp l.length++zkk l,x<256:=by
 intro x hx;rcases qny.1 hx with hx|hx
 ·exact z87 _ x hx
 ·unfold zkk at hx
  obtain⟨y,hy,hx⟩:=qpe.1 hx;obtain⟨h1,h2,h3⟩:=h y hy;unfold z3y at hx;simp only[qny,qof,qqg,or_false] at hx;rcases hx with(hx|hx)|hx|hx
  ·exact z87 _ x hx
  ·exact h1 x hx
  ·omega
  ·subst hx;cases y.2.2<;> decide
open Go Go.RowKit
abbrev ziz:=Option Addr × Nat × List ziy
def zpt(d:ziz):List Value:=[.slice d.1 d.2.2.length d.2.1]
def RowBIn(w:World)(d:ziz):Prop:=Reads w w.heap.size 1 d.1 d.2.2.length (recs zie d.2.2)
theorem RowBIn.later{w w':World}{d:ziz}(h:RowBIn w d)(hb:New w w'):RowBIn w' d:=Reads.later h hb
theorem zwf(D:List ziy):(recs zie D).length=D.length:=by rw[zau (sz:=1) (fun _=>rfl)];omega
theorem z9d(D:List ziy):∀u∈recs zie D,u.oneCell'=true:=by intro u hu;unfold recs at hu;obtain⟨d,_,hd⟩:=qpe.1 hu;obtain rfl:=qnz.1 hd;rfl
end Go.Hm
namespace Go.Proofs.Y
open Go.RowKit Go.Hm
theorem ql7:ElT Tryz.prog 22 24 (.slice none 0 0) 1 24:=⟨by kernel_rfl,by kernel_rfl,rfl,by omega⟩
end Go.Proofs.Y
namespace Go.Hm
open Go Go.RowKit Go.Maps
section
variable{P:Program}{k e:TypeId}{F:Nat->Value}
open Classical in
noncomputable def qj8(F:Nat->Value)(v:Value):Option (DWn × List MemPlace):=if h:∃m,v=F m then some (zx9 (Classical.choose h),[]) else none
theorem qh7(F:Nat->Value)(m:Nat):∃q,qj8 F (F m)=some (zx9 q,[])/\F q=F m:=by have h:∃q,F m=F q:=⟨m,rfl⟩;refine⟨Classical.choose h,?_,(Classical.choose_spec h).symm⟩;unfold qj8;rw[dif_pos h]
theorem qee{v:Value}{z:DWn × List MemPlace}(h:qj8 F v=some z):∃q,v=F q/\z=(zx9 q,[]):=by
 unfold qj8 at h;split at h
 ·rename_i hx
  injection h with h;exact⟨_,Classical.choose_spec hx,h.symm⟩
 ·cases h
theorem qef{p q:Nat}(h:zx9 p=zx9 q):p=q:=by simp only[zx9,DataW.lit.injEq,Lit.int.injEq,true_and] at h;omega
def MapF_mapf(P:Program)(k:TypeId)(F:Nat->Value)(w:World)(b n:Nat)(f:Int->Option Nat):Prop:=
 ∃D:DWn,w.ownsMap P k (qj8 F) b n D/\IsMap D/\ ∀x m kl,f x=some m->keyOf P k (.int .i64 x)=some kl-> ∃q,F q=F m/\ ∀zd,D.atKey kl zd=zx9 q
theorem MapF_mapf.made(w:World):MapF_mapf P k F (w.alloc (.map #[] 0)) w.heap.size 0 fun _=>none:=
 ⟨.map [],World.ownsMap_made _ _ _ _,isMap_empty,fun _ _ _ h _=>by cases h⟩
variable{w:World}{b n:Nat}{f:Int->Option Nat}
theorem MapF_mapf.kept{w':World}{row:Option Nat}(h:MapF_mapf P k F w b n f)(hg:w.grownBy w' row)(hne:some b≠row):MapF_mapf P k F w' b n f:=by obtain⟨D,h1,h2,h3⟩:=h;exact⟨D,h1.kept hg hne,h2,h3⟩
theorem MapF_mapf.lt(h:MapF_mapf P k F w b n f):b<w.heap.size:=by obtain⟨D,h1,_⟩:=h;exact h1.lt
theorem MapF_mapf.look{t:TypeId}(h:MapF_mapf P k F w b n f)(K:Keyed P k)(ht:P.underlying t=some (.map k e)){z:Value}(hz:(zeroValue e).run P w= .ok z w){x:Int}{m:Nat}(hf:f x=some m)(hkey:∃kl,keyOf P k (.int .i64 x)=some kl):
 (Instr.lookup t (.map (some b)) (.int .i64 x) false).run P w= .ok (F m) w:=by
 obtain⟨D,⟨es,clock,hb,Ft,_,rfl⟩,h2,h3⟩:=h;obtain⟨kl,hkey⟩:=hkey;obtain⟨q,hq,h4⟩:=h3 x m kl hf hkey;rcases fit_look false K ht hz hb Ft hkey with⟨hrun,_,hat⟩|⟨e0,y,_,_,hrun,hRv,hat,_⟩
 ·have h5:=(hat .nil).symm.trans (h4 .nil)
  cases h5
 ·obtain⟨p,hp,rfl⟩:=qee hRv
  have h5:zx9 p=zx9 q:=(hat .nil).symm.trans (h4 .nil);rw[qef h5] at hp;rw[hp,hq] at hrun;exact hrun
theorem MapF_mapf.put{t:TypeId}(h:MapF_mapf P k F w b n f)(K:Keyed P k)(ht:P.underlying t=some (.map k e))(hn:n<maxLen){x:Int}(hkey:∃kl,keyOf P k (.int .i64 x)=some kl)(m:Nat):
 ∃w',(Instr.mapUpdate t (.map (some b)) (.int .i64 x) (F m)).run P w= .ok () w'/\MapF_mapf P k F w' b (n+1) (fun y=>if y=x then some m else f y)/\w.grownBy w' (some b):=by
 obtain⟨D,h1,h2,h3⟩:=h;obtain⟨kl,hkey⟩:=hkey;obtain⟨q,hq,hqm⟩:=qh7 F m;obtain⟨w',hrun,ho,hg⟩:=h1.update K ht hn hkey hq;refine⟨w',hrun,⟨_,ho,h2.put _ _,fun y m2 km hd hm=>?_⟩,hg⟩;dsimp only at hd;by_cases he:y=x
 ·subst he
  rw[if_pos rfl] at hd;injection hd with hd;subst hd;rw[hm] at hkey;obtain rfl:=qmh hkey;exact⟨q,hqm,fun zd=>atKey_put_same h2 (K.key hm) _ _⟩
 ·rw[if_neg he] at hd
  obtain⟨q2,e2,e3⟩:=h3 y m2 km hd hm;refine⟨q2,e2,fun zd=>?_⟩;rw[atKey_put_other,e3];intro hk;subst hk;have:=K.inj hm hkey;injection this with _ this;exact he this
theorem zmi{ops:Array Oper}{rest:List Oper}{o:Oper}{a:Act}{Q:Exit->Act->World->Prop}(hg:o.guard=none)(m x:Operand)(t:TypeId)(hop:o.op=Op.lookup t m x false)
 (K:Keyed P k)(ht:P.underlying t=some (.map k e)){z:Value}(hz:(zeroValue e).run P w= .ok z w)(hown:MapF_mapf P k F w b n f){y:Int}{q:Nat}(hf:f y=some q)(hkey:∃kl,keyOf P k (.int .i64 y)=some kl)(hm:a.eval m= .map (some b))(hx:a.eval x= .int .i64 y)
 (h:wpList P ops Q rest (a.put o.dst (F q)) w):wpList P ops Q (o::rest) a w:=by
 refine wpList_plain hg fun K' hK'=>?_
 have hrun:=hown.look K ht hz hf hkey;unfold Oper.wp;simp[execOp,hop,hm,hx,hrun,Result.andThen];exact hK' _ _ h
theorem zgf{ops:Array Oper}{rest:List Oper}{o:Oper}{a:Act}{Q:Exit->Act->World->Prop}(hg:o.guard=none)(m x v:Operand)(t:TypeId)(hop:o.op=Op.insert t m x v)
 (K:Keyed P k)(ht:P.underlying t=some (.map k e))(hown:MapF_mapf P k F w b n f)(hn:n<maxLen){y:Int}(hkey:∃kl,keyOf P k (.int .i64 y)=some kl)(q:Nat)
 (hm:a.eval m= .map (some b))(hx:a.eval x= .int .i64 y)(hv:a.eval v=F q)
 (h:∀w',MapF_mapf P k F w' b (n+1) (fun z=>if z=y then some q else f z)->w.grownBy w' (some b)->wpList P ops Q rest (a.put o.dst undef) w'):wpList P ops Q (o::rest) a w:=by
 refine wpList_plain hg fun K' hK'=>?_
 obtain⟨w',hrun,r1,r2⟩:=hown.put K ht hn hkey q;unfold Oper.wp;simp[execOp,hop,hm,hx,hv,hrun,Result.andThen];exact hK' _ _ (h w' r1 r2)
end
end Go.Hm
namespace Go.Proofs.Y
open Go.RowKit Go.Hm
theorem qib:ElT Tryz.prog 76 75 (.agg #[.bool false,.int .i64 0,.string ⟨#[]⟩,.int .i64 0,.int .i64 0]) 5 48:=⟨by kernel_rfl,by kernel_rfl,rfl,by omega⟩
def z9s(l:List zab)(w:World)(e:Ending)(w':World):Prop:=∃A n c A2 n2 c2,e= .returned (.tuple #[.slice A n c,.slice A2 n2 c2])/\
 Own w' w.heap.size 5 (.slice A n c) (zan .u8 (zcx l))/\w'.ownsRow w.heap.size 75 5 (.slice A2 n2 c2) n2 (recs za0 (zdv l))/\New w w'
theorem qic(a:List Nat)(x y:Nat)(b:List Nat){k:Nat}(h:a.length=k):(a++x::b).set k y=(a++[y])++b:=by subst h;rw[qor _ _ (qmt _)];simp
set_option maxRecDepth 100000 in
theorem zq1{w:World}{A:Option Addr}{n c:Nat}{l:List zab}(h:Reads w w.heap.size 5 A n (recs za0 l))(hn:n<=65536):
 Calls Tryz.prog 126 #[.slice A n c] w (z9s l w):=by
 obtain rfl:=h.lenCell;have SP:=Hz (z3v hn);have MW:=Hz (zvv l);go_enter Tryz.func126,Tryz.ntmps126
 go_wp2_with (refine zca elW rfl (.tmp 11) (.tmp 11) rfl (W:=w) (B:=w.heap.size) l.length l.length rfl rfl rfl rfl (qmt _) (Below.refl _ _) (qmt _) rfl (by omega) (by simp only[maxLen];omega) ?_
              intro w1 o1 _ b1 s1)
 go_loopw [5,15] (fun a i wr=>∃(k:Nat) (A2:Option Addr) (n2 c2:Nat),i= .int .i64 (k:Int)/\k<=l.length/\a= .slice A2 n2 c2/\n2<=k/\Own wr w.heap.size 138 (.slice (some ⟨w.heap.size,0,none⟩) l.length l.length) (zan .u64 (zey (l.take k)++List.replicate (l.length-k) 0))/\
  wr.ownsRow w.heap.size 75 5 (.slice A2 n2 c2) n2 (recs za0 (zdv (l.take k)))/\Below w.heap.size w wr) (fun _ i _=>l.length-(intOf i).toNat)
 case atStart=>exact⟨0,none,0,0,rfl,by omega,rfl,by omega,by simpa[zey,zb1] using o1,by simpa[zdv,recs] using(zc3 (w:=w1) (sz:=5)),b1⟩
 case round=>
  clear o1 b1 s1;obtain⟨k,A2,n2,c2,rfl,hk,rfl,hnk,o,u,b⟩:=hrel;by_cases hlt:k<l.length
  ·obtain⟨ad,rfl,_,d0,d1,d2,d3,d4⟩:=(Reads.later h b).cell5 hlt
   have MS:=Hz (z3u l k hlt);have VS:=Hz (z8s l k hlt);generalize l.getD k (false,0,[],0,0)=x at*;obtain⟨xb,xn,xs,xx,xy⟩:=x;simp only at d0 d1 d2 d3 d4;have hrep:List.replicate (l.length-k) (0:Nat)=0::List.replicate (l.length-(k+1)) 0:=by rw[show l.length-k=(l.length-(k+1))+1 by omega];rfl
   rw[hrep] at o;have hml:(zey (l.take k)).length=k:=by rw[zlg,qmq];omega
   have i1:(k:Int)<(l.length:Int):=by omega
   obtain⟨W2,hW2⟩:∃W,W=wr.alloc (.cells #[.bool xb,.int .i64 xn,.string (zae xs),.int .i64 xx,.int .i64 xy] 75):=⟨_,rfl⟩;have b2:New wr W2:=by rw[hW2];exact(Below.refl _ _).alloc (qmt _) _
   have B2:Blk W2 wr.heap.size 75 #[.bool xb,.int .i64 xn,.string (zae xs),.int .i64 xx,.int .i64 xy]:=by rw[hW2];exact Blk.new _ _ _
   have o2:=o.later b2;have u2:=za1 u b2;have b02:=zg0 b b2 (qmt _);obtain⟨p0,p1,p2,p3,p4⟩:=zcs B2;have HW2:=Hz hW2;cases xb with
   |true=>
    have MS:=MS.out;have VS:=VS.out;simp only[qj5,if_true,qm3] at MS VS;have MS:=Hz MS;have VS:=Hz VS;rw[hW2] at p0 p1 p2 p3 p4;clear hW2 o u b;go_wp2_with fail
    rw[<-HW2.out];go_roundw
    case rel=>exact⟨k+1,_,_,_,by go_num,by omega,rfl,by omega,by rw[MS.out,qm5];exact o2,by rw[VS.out];exact u2,b02⟩
    case measure=>simp[intOf];omega
   |false=>
    have MS:=MS.out;have VS:=VS.out;simp only[qj5,qrc,if_false] at MS VS;have MS:=Hz MS;have VS:=Hz VS;obtain⟨hg0,hgl,hc,hf,hset⟩:=o2.num0 (i:=k) hlt;have o3:=hset 1;rw[qic _ _ _ _ hml] at o3;have hc0:(zey (l.take k)++0::List.replicate (l.length-(k+1)) 0).getD k 0=0:=by rw[qoa,qpk (by omega),hml,qos];rfl
    rw[hc0] at hc;rw[hW2] at p0 p1 p2 p3 p4 hc hf;obtain⟨W3,hW3⟩:∃W,W=W2.setCell ⟨w.heap.size,k,none⟩ (.int .u64 1):=⟨_,rfl⟩;have g3:W2.grownBy W3 (some w.heap.size):=by rw[hW3];exact⟨rfl,rfl,rfl,by simp[World.setCell],fun k _ hk=>Below.heap_setCell _ _ _ _ (by simpa using hk)⟩
    obtain⟨cs3,M3⟩:=o2.row w.heap.size rfl;have u3:=World.ownsRow.kept u2 g3 (.inr (zaj u2 M3 (by decide)));have B3:=B2.grown g3 (by have:=Blk.ne_ B2 M3 (by decide);simpa using this);have b03:Below w.heap.size w W3:=b02.grown g3 b02.size (fun k hk=>by injection hk with hk;omega);have o3:Own W3 w.heap.size 138 (.slice (some ⟨w.heap.size,0,none⟩) l.length l.length) (zan .u64 (zey (l.take k)++[1]++List.replicate (l.length-(k+1)) 0)):=by rw[hW3];exact o3
    have HW3:=Hz (show W3=(wr.alloc (.cells #[.bool false,.int .i64 xn,.string (zae xs),.int .i64 xx,.int .i64 xy] 75)).setCell ⟨w.heap.size,k,none⟩ (.int .u64 1) by rw[hW3,hW2]);obtain⟨q0,q1,q2,q3,q4⟩:=zcs B3;rw[HW3.out] at q0 q1 q2 q3 q4;obtain⟨cs4,M4⟩:=o3.row w.heap.size rfl;have z3:=b03.size;have HZ3:=Hz (show wr.heap.size+1=W3.heap.size by rw[hW3,hW2];simp[World.setCell]);clear hW2 hW3 hset hc0 o u b o2 u2 B2 b02 M3 g3;go_wp2_with (first
     |(rw[<-HW3.out]
       refine zdo qib rfl (.tmp 26) (.tmp 28) rfl (W:=w) (B:=w.heap.size) (base:=w.heap.size) (n:=n2) u3 rfl (by rw[<-HZ3.out];rfl) b03 (qmt _) z3 rfl (by simp[Value.oneCell']) (by omega) (by simp only[maxLen];omega) ?_;intro A5 c5 w5 _ _ u5 g5 b5 _ _))
    go_roundw
    case rel=>exact⟨k+1,_,_,_,by go_num,by omega,rfl,by omega,by rw[MS.out];exact o3.kept g5 (.inr (fun e=>zaj u3 M4 (by decide) e.symm)),by rw[VS.out,za2];exact u5,b5⟩
    case measure=>simp[intOf];omega
  ·obtain rfl:k=l.length:=by omega
   rw[qos,qqd,qm3,qql] at o;rw[qql] at u;have P:=znn (c:=l.length) 1 o.reads MW.out.2 (by omega) (by omega) (by omega);rw[SP.out] at P;have P:=Hz P;clear hlt o;go_wp2_with fail
   refine P.out.mono ?_;rintro e w5 ⟨A5,n5,c5,rfl,o5,b5⟩;go_wp2
   go_ret2
   have z:=b.size;exact⟨_,_,_,_,_,_,rfl,o5.base_le z,za1 u b5,zg0 b b5 (qmt _)⟩
end Go.Proofs.Y
namespace Go.Hm
open Go Go.RowKit
theorem IsStat.near{t:Int}{l:List zab}{s:zdc}(h:IsStat t l s)(hl:∀c∈l,near c):near s.2.2.1/\near s.2.2.2:=by
 cases hh:s.2.1 with
 |false=>
  obtain⟨e1,e2⟩:=h.none hh;rw[e1,e2];exact⟨qj1,qj1⟩
 |true=>exact⟨hl _ (h.least hh).1.1,hl _ (h.most hh).1.1⟩
end Go.Hm
namespace Go.Proofs.Y
open Go.RowKit Go.Hm
def qeq(t:Int)(L:List zab)(w:World)(e:Ending)(w':World):Prop:=∃s,e= .returned (zcg s)/\IsStat t L s/\New w w'
set_option maxRecDepth 100000 in
theorem qkg{w:World}{t:Int}{A:Option Addr}{n c:Nat}{L:List zab}(h:Reads w w.heap.size 5 A n (recs za0 L))(hL:∀y∈L,near y)(hn:n<=100000):
 Calls Tryz.prog 109 #[.int .i64 t,.slice A n c] w (qeq t L w):=by
 obtain rfl:=h.lenCell;have HR:=Hz h;have HN:=Hz hL;clear h hL;have B0:Blk ((w.alloc (.cells (zcb zb0).toArray 133)).alloc (.cells (zcb zb0).toArray 133)) w.heap.size 133 (zcb zb0).toArray:=(Blk.new _ _ _).alloc _;have B1:Blk ((w.alloc (.cells (zcb zb0).toArray 133)).alloc (.cells (zcb zb0).toArray 133)) (w.heap.size+1) 133 (zcb zb0).toArray:=by have:=Blk.new (w.alloc (.cells (zcb zb0).toArray 133)) 133 (zcb zb0).toArray;simpa using this
 have hb0:=zye w (.cells (zcb zb0).toArray 133) (.cells (zcb zb0).toArray 133);have HB0:=Hz B0;have HB1:=Hz B1;have Hb0:=Hz hb0;clear B0 B1 hb0;go_enter Tryz.func109,Tryz.ntmps109
 go_wp2_with fail
 go_loopw [10] (fun i wr=>∃(k:Nat) (s:zdc),k<=L.length/\i= .int .i64 (k:Int)/\Blk wr (w.heap.size+1) 133 (zcb s).toArray/\Blk wr w.heap.size 133 (zcb zb0).toArray/\New w wr/\Hid (IsStat t (L.take k) s)) (fun i _=>L.length-(intOf i).toNat)
 case atStart=>exact⟨0,zb0,qmu _,rfl,HB1.out,HB0.out,Hb0.out,Hz (zrp t)⟩
 case round=>
  obtain⟨k,s,hk,rfl,B1,B0,hW,hs⟩:=hrel;clear HB0 HB1 Hb0;by_cases hlt:k<L.length
  ·obtain⟨ad,rfl,hb,d0,d1,d2,d3,d4⟩:=(Reads.later HR.out hW).cell5 hlt
   have hst:=hs.out;have htk:=zad L k (false,0,[],0,0) hlt;have hnr:=hst.near (fun c hc=>HN.out c (qnh hc));have hnl:=hst.nulls;have hnl2:=ziu (L.take k);rw[qmq] at hnl2;have hy:near (L.getD k (false,0,[],0,0)):=HN.out _ (by rw[qoa,qmm hlt];exact qm8 hlt);have hone:=zrq t (L.getD k (false,0,[],0,0));have hnx:=hst.merge hone;rw[<-htk] at hnx;have hnr2:=hone.near (fun c hc=>by rw[qnz.1 hc];exact hy);have hno:=hone.nulls;have hno2:=ziu [L.getD k (false,0,[],0,0)];rw[qqp] at hno2;have M:=fun(W:World)=>z8c (w:=W) (t:=t) hnr.1 hnr.2 hnr2.1 hnr2.2 (by omega) (by omega)
   clear htk hy hone hnl hnl2 hno hno2 hnr hnr2 hst hs;generalize L.getD k (false,0,[],0,0)=y at*;obtain⟨y0,y1,y2,y3,y4⟩:=y;dsimp only at d0 d1 d2 d3 d4;obtain⟨V1,hV⟩:∃V,V=zcg (zj9 (y0,y1,y2,y3,y4)):=⟨_,rfl⟩;have S1:Hid (∀W,Calls Tryz.prog 130 #[.agg #[.bool y0,.int .i64 y1,.string (zae y2),.int .i64 y3,.int .i64 y4]] W (zal V1 W)):=Hz fun W=>by rw[hV];exact z3m (y0,y1,y2,y3,y4)
   rw[<-hV] at M;generalize zm1 t s (zj9 (y0,y1,y2,y3,y4))=s2 at*;obtain⟨n,b,⟨p1,p2,p3,p4,p5⟩,⟨q1,q2,q3,q4,q5⟩⟩:=s;obtain⟨n',b',⟨p1',p2',p3',p4',p5'⟩,⟨q1',q2',q3',q4',q5'⟩⟩:=s2;have M1:Hid (∀W,Calls Tryz.prog 129 #[.int .i64 t,.agg #[.int .i64 n,.bool b,.bool p1,.int .i64 p2,.string (zae p3),.int .i64 p4,.int .i64 p5,.bool q1,.int .i64 q2,.string (zae q3),.int .i64 q4,.int .i64 q5],V1] W
    (zal (.agg #[.int .i64 n',.bool b',.bool p1',.int .i64 p2',.string (zae p3'),.int .i64 p4',.int .i64 p5',.bool q1',.int .i64 q2',.string (zae q3'),.int .i64 q4',.int .i64 q5']) W)):=Hz M
   clear M hV;have HNX:=Hz hnx;clear hnx;have hsz:=hW.size;have F:Hid (∀W,New (wr.alloc (.cells #[.bool y0,.int .i64 y1,.string (zae y2),.int .i64 y3,.int .i64 y4] 75)) W->Blk W (w.heap.size+1) 133 #[.int .i64 n,.bool b,.bool p1,.int .i64 p2,.string (zae p3),.int .i64 p4,.int .i64 p5,.bool q1,.int .i64 q2,.string (zae q3),.int .i64 q4,.int .i64 q5]
    /\Blk W w.heap.size 133 (zcb zb0).toArray/\New w W/\Blk W wr.heap.size 75 #[.bool y0,.int .i64 y1,.string (zae y2),.int .i64 y3,.int .i64 y4]):=Hz fun W hN=>
    ⟨(B1.alloc _).below hN (by have:=B1.lt;simp;omega),(B0.alloc _).below hN (by have:=B0.lt;simp;omega),New.trans hW (New.trans ((Below.refl _ _).alloc (qmt _) _) hN),(Blk.new _ _ _).below hN (by simp)⟩
   clear B0 B1;go_wp2_with fail
   refine zb2 New 5 [(1,0),(0,1),(0,2),(2,3),(2,4),(2,5)] New.refl New.trans (by kernel_rfl) (by kernel_rfl) (by kernel_rfl) (by kernel_rfl) ?_;have hU:=New.drew (wr.alloc (.cells #[.bool y0,.int .i64 y1,.string (zae y2),.int .i64 y3,.int .i64 y4] 75));repeat(first
    |(refine zav rfl rfl (fun K hK=>?_);go_simp
      (with_reducible refine(S1.out _).mono ?_);rintro e w6 ⟨rfl,b6⟩
      refine hK _ _ (.inr (.inr b6)) ?_;clear hK;replace hU:=New.trans hU b6)
    |(refine zav rfl rfl (fun K hK=>?_);go_simp
      (with_reducible refine(M1.out _).mono ?_);rintro e w7 ⟨rfl,b7⟩
      refine hK _ _ (.inr (.inr b7)) ?_;clear hK;replace hU:=New.trans hU b7)
    |(refine zav rfl rfl (fun K hK=>?_)
      obtain⟨B1,B0,hl,-⟩:=F.out _ hU;refine z7d 133 (.tmp 5) (.tmp 18) rfl (w.heap.size+1) _ rfl rfl B1 (by kernel_rfl) (by simp) (by simp[Value.oneCell']) ?_;intro W5 B1 hlow hfar;replace B0:=hfar _ _ _ (by omega) B0;replace hl:=hlow _ _ hl (by omega);refine hK _ _ (.inr (.inl rfl)) ?_;clear hK hlow hfar)
    |(refine zbh rfl rfl (v:=?_) (fun W=>?_) ?_;rotate_left;(go_simp<;> with_reducible rfl);simp only[Act.put,qo6,qou,qo7])
    |(refine zbm rfl rfl (v:=?_) (fun W hQ=>?_) ?_;rotate_left;(obtain⟨B1,-,-,BY⟩:=F.out W (New.trans hU hQ);obtain⟨x0,x1,x2,x3,x4,x5,x6,x7,x8,x9,x10,x11⟩:=za9 B1;obtain⟨z0,z1,z2,z3,z4⟩:=zcs BY;clear B1 BY;go_simp<;> with_reducible rfl);simp only[Act.put,qo6,qou,qo7]))
   refine zed ?_;go_wp2_with fail
   go_roundw
   case rel=>exact⟨k+1,(n',b',(p1',p2',p3',p4',p5'),(q1',q2',q3',q4',q5')),by omega,by go_num,B1,B0,hl,HNX⟩
   case measure=>simp[intOf];omega
  ·obtain rfl:k=L.length:=by omega
   have hs2:=hs.out;rw[qql] at hs2;have HS:=Hz hs2;clear hs hs2;obtain⟨n,b,⟨p1,p2,p3,p4,p5⟩,⟨q1,q2,q3,q4,q5⟩⟩:=s;obtain⟨x0,x1,x2,x3,x4,x5,x6,x7,x8,x9,x10,x11⟩:=za9 B1
   go_wp2_with (refine zhw rfl 133 (.tmp 4) (.tmp 20) rfl w.heap.size _ rfl rfl B0 (by kernel_rfl) (by simp[zcb,zb0,za0]) (by simp[Value.oneCell']) ?_
                intro W5 BR hlow hfar;have hl:=hlow _ _ hW (qmt _);clear hfar hlow;obtain⟨s0,s1,s2,s3,s4,s5,s6,s7,s8,s9,s10,s11⟩:=za9 BR)
   exact bodyPost_ret (v:=zcg (n,b,(p1,p2,p3,p4,p5),(q1,q2,q3,q4,q5))) (by simp[results,Tryz.results109,go_sem,s0,s1,s2,s3,s4,s5,s6,s7,s8,s9,s10,s11,zcg,zcb,za0]) rfl ⟨_,rfl,HS.out,hl⟩
end Go.Proofs.Y
namespace Go.Hm
open Go Go.RowKit
section
variable{α:Type}{t:TypeId}{sz:Nat}{f:α->List Value}
abbrev z5m(α:Type):=Option Addr × Nat × List α
def zmm(d:z5m α):Value:= .slice d.1 d.2.2.length d.2.1
theorem zn2{D:List (z5m α)}{j:Nat}{d x:z5m α}(h:j<D.length):(D.set j x).getD j d=x:=by rw[qoa,List.getElem?_set_self h];rfl
theorem zw0{D:List (z5m α)}{i j:Nat}{d x:z5m α}(h:i≠j):(D.set j x).getD i d=D.getD i d:=by rw[qoa,List.getElem?_set_ne (by omega),qoa]
structure RowsAp(t:TypeId)(sz:Nat)(f:α->List Value)(w:World)(B:Nat)(D:List (z5m α)):Prop where
 rows:∀d∈D,w.ownsRow B t sz (zmm d) d.2.2.length (recs f d.2.2)
 apart:∀i j,i<D.length->j<D.length->i≠j->(zmm (D.getD i (none,0,[]))).ownBlock=none\/(zmm (D.getD i (none,0,[]))).ownBlock≠(zmm (D.getD j (none,0,[]))).ownBlock
theorem RowsAp.later{w w':World}{B:Nat}{D:List (z5m α)}(h:RowsAp t sz f w B D)(hb:New w w'):RowsAp t sz f w' B D:=⟨fun d hd=>za1 (h.rows d hd) hb,h.apart⟩
theorem RowsAp.keepT{w w':World}{B g:Nat}{t':TypeId}{cs:Array Value}{D:List (z5m α)}(h:RowsAp t sz f w B D)(hT:Blk w g t' cs)(hne:t≠t')(hg:w.grownBy w' (some g)):RowsAp t sz f w' B D:=
 ⟨fun d hd=>World.ownsRow.kept (h.rows d hd) hg (.inr (zaj (h.rows d hd) hT hne)),h.apart⟩
theorem RowsAp.nil{w:World}{B n:Nat}:RowsAp t sz f w B (List.replicate n (none,0,[])):=by
 refine⟨fun d hd=>?_,fun i j hi hj hne=>?_⟩
 ·rw[qrk hd]
  exact zc3
 ·rw[qo9] at hi
  left;rw[qoa,qrl,if_pos hi];rfl
theorem qad{D:List (z5m α)}{j:Nat}(h:j<D.length):D.getD j (none,0,[])∈D:=by rw[qoa,qmm h];exact qm8 h
theorem RowsAp.at_{w:World}{B j:Nat}{D:List (z5m α)}(h:RowsAp t sz f w B D)(hj:j<D.length):w.ownsRow B t sz (zmm (D.getD j (none,0,[]))) (D.getD j (none,0,[])).2.2.length (recs f (D.getD j (none,0,[])).2.2):=h.rows _ (qad hj)
theorem RowsAp.put{w w':World}{B j:Nat}{D:List (z5m α)}{d:z5m α}(h:RowsAp t sz f w B D)(hj:j<D.length)(hd:w'.ownsRow B t sz (zmm d) d.2.2.length (recs f d.2.2))(hg:w.grownBy w' (zmm (D.getD j (none,0,[]))).ownBlock)
 (hat:(zmm d).ownBlock=(zmm (D.getD j (none,0,[]))).ownBlock\/ ∃g,(zmm d).ownBlock=some g/\w.heap.size<=g):RowsAp t sz f w' B (D.set j d):=by
 have hap:∀i,i<D.length->i≠j->(zmm (D.getD i (none,0,[]))).ownBlock=none\/(zmm (D.getD i (none,0,[]))).ownBlock≠(zmm d).ownBlock:=by
  intro i hi hne;rcases hat with hat|⟨g,hat,hgg⟩
  ·rw[hat]
   exact h.apart i j hi hj hne
  ·rcases hu:(zmm (D.getD i (none,0,[]))).ownBlock with _|k
   ·exact .inl rfl
   ·right
    rw[hat];intro e;injection e with e;have:=(World.ownsRow.lt (h.at_ hi) _ hu).2;omega
 refine⟨fun x hx=>?_,fun i k hi hk hne=>?_⟩
 ·obtain⟨i,hi,rfl⟩:=qpq hx
  have e:(D.set j d)[i]'hi=(D.set j d).getD i (none,0,[]):=by rw[qoa,qmm hi];rfl
  have hi:i<D.length:=by simpa using hi
  rw[e];by_cases hij:i=j
  ·subst hij
   rw[zn2 hj];exact hd
  ·rw[zw0 hij]
   exact World.ownsRow.kept (h.at_ hi) hg (h.apart i j hi hj hij)
 ·rw[qmw] at hi hk
  by_cases hij:i=j
  ·subst hij
   rw[zn2 hi,zw0 (fun e=>hne e.symm)];exact zgb (hap k hk (fun e=>hne e.symm))
  ·rw[zw0 hij]
   by_cases hkj:k=j
   ·subst hkj
    rw[zn2 hk];exact hap i hi hij
   ·rw[zw0 hkj]
    exact h.apart i k hi hk hne
end
end Go.Hm
