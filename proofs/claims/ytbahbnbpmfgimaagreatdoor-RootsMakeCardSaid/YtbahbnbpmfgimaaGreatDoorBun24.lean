import Derived.Lib.AppendZeros
import Derived.Test.YtbahbnbpmfgimaaGreatDoorBun21
import Derived.Test.YtbahbnbpmfgimaaGreatDoorBun22
set_option maxHeartbeats 4000000
set_option maxRecDepth 100000
namespace Go.Hm
end Go.Hm
set_option maxRecDepth 100000
namespace Go.Proofs.Y
open Go.RowKit Go.Hm Go.WideShapes Go.ChangeShapes
section
variable{H:Type}{enc:TypeId × Value->H}{W:World}{base:Nat}{v:Value}{d:DataW H}{ps:List MemPlace}
theorem qil(hval:Value.okWide Tryz.prog W .any base 9 v)(h:DataW.Trod enc Tryz.prog W 0 (fun _=>true) true 9 v d ps)(hlt:∀p∈ps,p.block<W.heap.size)(hw:∀n∈d.weights Tryz.prog 9,n<=reachBytes):
 ∃l:List Nat,v= .string (zai l)/\(∀x∈l,x<256)/\l.length<=140737488351232:=by
 have ht:Tryz.prog.underlying 9=some .string:=by kernel_rfl
 obtain⟨s,rfl⟩:=okWide_string ht hval;obtain⟨l,h1,h2,h3⟩:=(Held.of h hlt hw).string ht;refine⟨l,?_,h2,h3⟩;simpa[Value.cells] using h1
end
end Go.Proofs.Y
namespace Go.Hm
open Go Go.RowKit
theorem zux{P:Program}{w:World}{ops:Array Oper}{rest:List Oper}{o:Oper}{a:Act}{Q:Exit->Act->World->Prop}{t e tn:TypeId}{z:Value}{bytes:Nat}{kn:IntKind}(E:ElT P t e z 1 bytes)(hgd:o.guard=none)(s x:Operand)
 (ho:o.op= .call {callee:= .builtin .append,args:= #[s,x],argTypes:= #[t,tn]})(htn:P.underlying tn=some (.int kn))(hz1:z.oneCell'=true)(hs:a.eval s= .slice none 0 0)(n:Nat)(hx:a.eval x= .int .i64 (n:Int))(h0:0<n)(hn:n*bytes<=140737488355328)(hm:n<=maxLen)
 (h:∀w' cap,n<=cap->cap<=maxLen->w'.ownsRow w.heap.size e 1 (.slice (some ⟨w.heap.size,0,none⟩) 0 cap) 0 []->Below w.heap.size w w'->wpList P ops Q rest (a.put o.dst (.slice (some ⟨w.heap.size,0,none⟩) n cap)) w'):
 wpList P ops Q (o::rest) a w:=by
 obtain⟨i,hi,hz0,hs1,hb1⟩:=info_parts E.hi;have hzc:z.cells= #[z]:=by
  revert hz1;unfold Value.oneCell' Value.cells
  cases z<;> simp
 have hsm:n<=9223372036854775807:=by simp only[maxLen] at hm;omega
 refine Lib.wpList_append_run w hgd s x t tn ho _ _ hs hx _ _ (Lib.run_append_nil_zeros w t tn o.type e i z .i64 kn E.ht htn hi hz0 n h0 (by omega) (by omega) (by rw[hb1];omega)) ?_;refine h _ _ (grownCap_ge w n 0 e) (grownCap_le_maxLen w n 0 e hm) ⟨rfl,.inr ⟨w.heap.size,_,_,rfl,ql6 _,heap_alloc_new w.drew _,ql7 _,grownCap_le_maxLen w n 0 e hm,?_,by simp⟩⟩ ⟨rfl,rfl,rfl,by simp,fun k hk=>heap_alloc_old w.drew _ hk⟩;have:=grownCap_ge w n 0 e;simp only[Array.size_append,size_zeroCells,hzc];simp;omega
open Go Go.RowKit
abbrev zgp:=Option Addr × Nat × List Nat
def zgq(d:zgp):List Value:=[.slice d.1 d.2.2.length d.2.1]
theorem zz8(d:zgp):(zgq d).length=1:=rfl
def BytIn(w:World)(d:zgp):Prop:=Reads w w.heap.size 1 d.1 d.2.2.length (zah .u8 d.2.2)
theorem BytIn.later{w w':World}{d:zgp}(h:BytIn w d)(hb:New w w'):BytIn w' d:=qsg h hb
abbrev qso:=@BytIn.later
def zdd(D:List zgp):List Nat:=D.flatMap fun d=>d.2.2
theorem z2l(D:List zgp)(d:zgp):zdd (D++[d])=zdd D++d.2.2:=by simp[zdd]
theorem zrk{D:List zgp}{k:Nat}(hk:k<D.length):zdd (D.take (k+1))=zdd (D.take k)++(D.getD k (none,0,[])).2.2:=by rw[zae _ k (none,0,[]) hk,z2l]
theorem zky(D:List zgp)(k:Nat):(zdd (D.take k)).length<=(zdd D).length:=by
 have e:zdd D=zdd (D.take k)++zdd (D.drop k):=by unfold zdd;rw[<-qpl,qoz]
 rw[e,qmv];omega
theorem zz9{w:World}{B:Nat}{A:Option Addr}{n:Nat}{D:List zgp}(h:Reads w B 1 A n (recs zgq D)){k:Nat}(hk:k<D.length):
 ∃ad,A=some ad/\ad.block<B/\w.cell? (ad.add k)=some (.slice (D.getD k (none,0,[])).1 (D.getD k (none,0,[])).2.2.length (D.getD k (none,0,[])).2.1):=by
 have hn:n=D.length:=by have:=h.1;rw[zaz (sz:=1) (fun _=>rfl)] at this;omega
 obtain⟨ad,u,e,hb,hu,hc⟩:=h.at_ (k:=k) (by omega);have:=zot (f:=zgq) (sz:=1) (fun _=>rfl) D (none,0,[]) k 0 hk (by omega);rw[qmd,qph] at this;rw[this] at hu;obtain rfl:=qlj hu;exact⟨ad,e,hb,hc⟩
end Go.Hm
namespace Go.Proofs.Y
open Go.RowKit Go.Hm
theorem qk6:Tryz.prog.underlying 3=some (.int .i64):=by kernel_rfl
theorem z6m{w:World}{n:Nat}(hn:n<=140737488351232):
 Calls Tryz.prog 92 #[.slice none 0 0,.int .i64 (n:Int)] w (fun e w'=>∃A c,e= .returned (.slice A 0 c)/\w'.ownsRow w.heap.size 5 1 (.slice A 0 c) 0 []/\New w w'):=by
 by_cases h0:n=0
 ·subst h0
  go_enter Tryz.func92,Tryz.ntmps92
  go_wp2_with fail
  go_ret
  exact⟨none,0,rfl,qq6 _ _ _ _,qrz _⟩
 ·have h1: ¬((n:Int)<0):=by omega
  have h2:(0:Int)<(n:Int):=by omega
  have h3:wrap64 ((n:Int)-0)=(n:Int):=by unfold wrap64;omega
  have h4:wrap64 (n:Int)=(n:Int):=by unfold wrap64;omega
  go_enter Tryz.func92,Tryz.ntmps92
  go_wp2_with (refine zux elB rfl (.tmp 20) (.tmp 21) rfl qk6 rfl rfl n rfl (by omega) (by omega) (by simp only[maxLen];omega) ?_
               intro w1 cap hc1 hc2 o1 b1)
  go_ret
  exact⟨_,cap,rfl,o1,b1⟩
end Go.Proofs.Y
set_option maxRecDepth 100000
namespace Go.Hm
open Go Go.RowKit
structure FootIn(w:World)(Ac:Option Addr)(cc:Nat)(L:List zbi)(Ag:Option Addr)(G:List GrD):Prop where
 cols:Reads w w.heap.size 3 Ac L.length (recs zl3 L)
 fine:∀x∈L,(∀z∈x.1,z<256)/\x.1.length<=140737488351232
 cap:L.length<=cc
 few:L.length<=4611686018427387903
 groups:Reads w w.heap.size 2 Ag G.length (recs grV G)
 few2:G.length<=4611686018427387903
 chunks:∀g∈G,Reads w w.heap.size 1 g.2.1 g.2.2.2.length (recs chV g.2.2.2)/\g.2.2.2.length<=4611686018427387903
 pages:∀g∈G,∀x∈g.2.2.2,Reads w w.heap.size 14 x.1 x.2.2.length (recs zhn x.2.2)/\x.2.2.length<=4611686018427387903
theorem FootIn.later{w w':World}{Ac:Option Addr}{cc:Nat}{L:List zbi}{Ag:Option Addr}{G:List GrD}(h:FootIn w Ac cc L Ag G)(hb:New w w'):FootIn w' Ac cc L Ag G:=
 ⟨qsg h.cols hb,h.fine,h.cap,h.few,qsg h.groups hb,h.few2,fun g hg=>⟨qsg (h.chunks g hg).1 hb,(h.chunks g hg).2⟩,fun g hg x hx=>⟨qsg (h.pages g hg x hx).1 hb,(h.pages g hg x hx).2⟩⟩
def zln(Ac:Option Addr)(cc:Nat)(L:List zbi)(rows:Int)(Ag:Option Addr)(cg:Nat)(G:List GrD):Value:= .agg #[.slice Ac L.length cc,.int .i64 rows,.slice Ag G.length cg]
def zb5(L:List zbi)(rows:Int)(G:List GrD):FootS:=⟨L,rows,G.map grP⟩
end Go.Hm
namespace Go.Proofs.Y
open Go.RowKit Go.Hm Go.WideShapes Go.ChangeShapes
end Go.Proofs.Y
namespace Go.Hm
open Go Go.RowKit
theorem zca{α:Type}(f:α->Int)(l:List α)(k:Nat)(d:α)(h:k<l.length):((l.take (k+1)).map f).sum=((l.take k).map f).sum+f (l.getD k d):=by rw[zae l k d h,qpj,qpi];simp
theorem zfj{α:Type}(f:α->Int):∀(l:List α) (k:Nat),(∀x∈l,0<=f x)->((l.take k).map f).sum<=(l.map f).sum
 | [],_,_=>by simp
 |x::l,0,h=>by
  have h1:=h x (by simp);have:=zfj f l 0 fun y hy=>h y (by simp[hy])
  simp at this⊢;omega
 |x::l,k+1,h=>by
  have:=zfj f l k fun y hy=>h y (by simp[hy])
  simp only[qqb,qmp,qpf];omega
theorem zhp{α:Type}(f:α->Int):∀(l:List α),(∀x∈l,0<=f x)->0<=(l.map f).sum
 | [],_=>by simp
 |x::l,h=>by
  have h1:=h x (by simp);have:=zhp f l fun y hy=>h y (by simp[hy])
  simp only[qmp,qpf];omega
abbrev zaq:za9:=(0,[])
abbrev zf5:zbi:=([],0,false)
theorem znf{t:Int}{nu:Bool}{l:List zbc}{r:Int}(h:zes t nu l r):0<=zcz l/\0<=r:=by have:=zfv h.1;have:=h.2;omega
theorem GroupOk.sizes{cols:List zbi}{g:za9}(h:GroupOk cols g):∀l∈g.2,0<=zcz l:=fun l hl=>by obtain⟨i,hi,rfl⟩:=qo4 hl;have:=h.2.2 i (by rw[<-h.2.1];exact hi);rw[qnp (l:=g.2),qlx hi] at this;exact(znf this).1
theorem GroupOk.nonneg{cols:List zbi}{g:za9}(h:GroupOk cols g):0<=zcq g:=zhp _ _ h.sizes
theorem zv3{F:FootS}(h:zb0 F){k:Nat}(hk:k<F.groups.length):((F.groups.take k).map (·.1)).sum+(F.groups.getD k zaq).1<=65536:=by have h1:=zca (fun g:za9=>g.1) F.groups k zaq hk;have h2:=zfj (fun g:za9=>g.1) F.groups (k+1) (fun g hg=>by have:=(h.2.1 g hg).1;omega);have:=h.2.2.1;have:=h.2.2.2.1;omega
theorem zv4{F:FootS}(h:zb0 F){k c:Nat}(hk:k<F.groups.length):((F.groups.take k).map zcq).sum+(((F.groups.getD k zaq).2.take c).map zcz).sum<=1073741824:=by have hg:F.groups.getD k zaq∈F.groups:=zax zaq hk;have h1:=zca zcq F.groups k zaq hk;have h2:=zfj zcq F.groups (k+1) (fun g hg=>(h.2.1 g hg).nonneg);have h3:=zfj zcz (F.groups.getD k zaq).2 c (h.2.1 _ hg).sizes;have h4:=h.2.2.2.2;have h5:zcq (F.groups.getD k zaq)=((F.groups.getD k zaq).2.map zcz).sum:=rfl;omega
theorem zng{t:Int}{nu:Bool}:∀(l:List zbc) (rows size:Int),0<=rows->0<=size->0<=(zfb t nu l rows size).1/\(zfb t nu l rows size).1<=size+rows*268435456
 | [],rows,size,h1,h2=>by simp only[zfb];omega
 |p::l,rows,size,h1,h2=>by
  unfold zfb;split
  ·rename_i hp
   have h3:=(pageB_most.1 hp).1;have:=zng (t:=t) (nu:=nu) l (rows-p.2.1) (size+p.1) (by omega) (by omega);omega
  ·dsimp only;omega
structure FootTo(L:List zbi)(G:List za9)(k:Nat)(rows size:Int):Prop where
 ok:∀g∈G.take k,GroupOk L g
 rows_:rows=((G.take k).map (·.1)).sum
 size_:size=((G.take k).map zcq).sum
 most:0<=rows/\rows<=65536
 few:0<=size/\size<=1073741824
theorem FootTo.zero(L:List zbi)(G:List za9):FootTo L G 0 0 0:=⟨by simp,by simp,by simp,by omega,by omega⟩
structure ChunkTo(L:List zbi)(G:List za9)(k c:Nat)(rows size:Int):Prop where
 ok:∀g∈G.take k,GroupOk L g
 rows_:rows=((G.take k).map (·.1)).sum+(G.getD k zaq).1
 size_:size=((G.take k).map zcq).sum+(((G.getD k zaq).2.take c).map zcz).sum
 here:1<=(G.getD k zaq).1/\(G.getD k zaq).2.length=L.length/\ ∀i,i<c->zes (L.getD i zf5).2.1 (L.getD i zf5).2.2 ((G.getD k zaq).2.getD i []) (G.getD k zaq).1
 most:(G.getD k zaq).1<=rows/\rows<=65536
 few:0<=size/\size<=1073741824
theorem FootTo.enter{L:List zbi}{G:List za9}{k:Nat}{rows size:Int}(h:FootTo L G k rows size)(h1:1<=(G.getD k zaq).1)(h2:(G.getD k zaq).1<=65536-rows)(h3:(G.getD k zaq).2.length=L.length):
 ChunkTo L G k 0 (rows+(G.getD k zaq).1) size:=by
 have:=h.most;exact⟨h.ok,by rw[h.rows_],by rw[h.size_];simp,⟨h1,h3,fun i hi=>by omega⟩,by omega,h.few⟩
theorem ChunkTo.next{L:List zbi}{G:List za9}{k c:Nat}{rows size:Int}(h:ChunkTo L G k c rows size)(hc:c<(G.getD k zaq).2.length)(h1:zes (L.getD c zf5).2.1 (L.getD c zf5).2.2 ((G.getD k zaq).2.getD c []) (G.getD k zaq).1)
 (h2:size+zcz ((G.getD k zaq).2.getD c [])<=1073741824):ChunkTo L G k (c+1) rows (size+zcz ((G.getD k zaq).2.getD c [])):=by
 have h3:=(znf h1).1;have h4:=h.few;refine⟨h.ok,h.rows_,?_,⟨h.here.1,h.here.2.1,fun i hi=>?_⟩,h.most,by omega⟩
 ·rw[zca zcz _ c [] hc,h.size_];omega
 ·by_cases e:i=c
  ·subst e;exact h1
  ·exact h.here.2.2 i (by omega)
theorem ChunkTo.leave{L:List zbi}{G:List za9}{k c:Nat}{rows size:Int}(h:ChunkTo L G k c rows size)(hc:c=(G.getD k zaq).2.length)(hk:k<G.length):FootTo L G (k+1) rows size:=by
 subst hc;have hm:=h.most;have h1:=h.here.1;refine⟨fun g hg=>?_,by rw[h.rows_,zca (fun g:za9=>g.1) G k zaq hk],?_,by omega,h.few⟩
 ·rw[zae G k zaq hk] at hg
  rcases qnd.1 hg with hg|hg
  ·exact h.ok g hg
  ·rw[qne.1 hg]
   exact⟨h.here.1,h.here.2.1,fun i hi=>h.here.2.2 i (by rw[h.here.2.1];exact hi)⟩
 ·rw[zca zcq G k zaq hk,h.size_,qp1]
  rfl
theorem FootTo.no_rows{L:List zbi}{G:List za9}{k:Nat}{rows size r:Int}(h:FootTo L G k rows size)(hk:k<G.length)(hb:(G.getD k zaq).1<1\/65536-rows<(G.getD k zaq).1\/(G.getD k zaq).2.length≠L.length): ¬zb0 ⟨L,r,G⟩:=fun hF=>by
 have hg:=hF.2.1 (G.getD k zaq) (zax zaq hk);have h1:=zv3 hF hk;have h2:=h.rows_;dsimp only at h1;rcases hb with hb|hb|hb
 ·have:=hg.1;omega
 ·omega
 ·exact hb hg.2.1
theorem ChunkTo.no_chunk{L:List zbi}{G:List za9}{k c:Nat}{rows size r:Int}(h:ChunkTo L G k c rows size)(hk:k<G.length)(hc:c<(G.getD k zaq).2.length)
 (hb: ¬zes (L.getD c zf5).2.1 (L.getD c zf5).2.2 ((G.getD k zaq).2.getD c []) (G.getD k zaq).1\/1073741824<size+zcz ((G.getD k zaq).2.getD c [])): ¬zb0 ⟨L,r,G⟩:=fun hF=>by
 have hg:=hF.2.1 (G.getD k zaq) (zax zaq hk);rcases hb with hb|hb
 ·exact hb (hg.2.2 c (by dsimp only;rw[<-h.here.2.1];exact hc))
 ·have h1:=zv4 hF (k:=k) (c:=c+1) hk
  dsimp only at h1;rw[zca zcz _ c [] hc] at h1;have:=h.size_;omega
theorem FootTo.yes{L:List zbi}{G:List za9}{rows size r:Int}(h:FootTo L G G.length rows size)(hc:zpv L):zb0 ⟨L,r,G⟩↔rows=r:=by
 have h1:=h.rows_;have h2:=h.size_;rw[qp1] at h1 h2;have h3:=h.most;have h4:=h.few;have hok:=h.ok;rw[qp1] at hok;constructor
 ·intro hF
  have:=hF.2.2.1;dsimp only at this;omega
 ·intro e
  exact⟨hc,hok,by dsimp only;omega,by dsimp only;omega,by dsimp only;omega⟩
theorem Reads.gr2{w:World}{B n i:Nat}{A:Option Addr}{l:List GrD}(h:Reads w B 2 A n (recs grV l))(hi:i<n):
 ∃ad,A=some ad/\ad.block<B/\w.cell? (ad.add (i*2))=some (.int .i64 (l.getD i (0,none,0,[])).1)/\w.cell? ⟨(ad.add (i*2)).block,(ad.add (i*2)).off+1,none⟩=some (.slice (l.getD i (0,none,0,[])).2.1 (l.getD i (0,none,0,[])).2.2.2.length (l.getD i (0,none,0,[])).2.2.1):=by
 obtain⟨ad,h1,h2,_,h3⟩:=h.rec_ (f:=grV) (sz:=2) (fun _=>rfl) (0,none,0,[]) hi (by omega);refine⟨ad,h1,h2,h3 0 _ rfl,?_⟩;have:=h3 1 _ rfl;rw[<-zba] at this;exact this
theorem Reads.ch1{w:World}{B n i:Nat}{A:Option Addr}{l:List ChD}(h:Reads w B 1 A n (recs chV l))(hi:i<n):
 ∃ad,A=some ad/\ad.block<B/\w.cell? (ad.add i)=some (.slice (l.getD i (none,0,[])).1 (l.getD i (none,0,[])).2.2.length (l.getD i (none,0,[])).2.1):=by
 obtain⟨ad,h1,h2,_,h3⟩:=h.rec_ (f:=chV) (sz:=1) (fun _=>rfl) (none,0,[]) hi (by omega);refine⟨ad,h1,h2,?_⟩;have:=h3 0 _ rfl;rw[qmd] at this;exact this
end Go.Hm
namespace Go.Proofs.Y
open Go.RowKit Go.Hm
theorem zgm{w:World}{A:Option Addr}{n c:Nat}{D:List zgp}(h:Reads w w.heap.size 1 A n (recs zgq D))(hD:∀d∈D,BytIn w d)(hn:n<=140737488351232)(hl:(zdd D).length<=140737488351232):
 Calls Tryz.prog 54 #[.slice A n c] w (zcb (zdd D) w):=by
 have hlen:n=D.length:=by have:=h.1;rw[zaz (sz:=1) (fun _=>rfl)] at this;omega
 subst hlen;have HR:=qrf h;have HD:=qrf hD;clear h hD;go_enter Tryz.func54,Tryz.ntmps54
 go_wp2_with fail
 go_loopw [3,11] (fun s i wr=>∃k:Nat,k<=D.length/\i= .int .i64 (k:Int)/\s= .int .i64 ((zdd (D.take k)).length:Int)/\wr=w) (fun _ i _=>D.length-(intOf i).toNat)
 case atStart=>exact⟨0,ql7 _,rfl,rfl,rfl⟩
 case round=>
  obtain⟨k,hk,rfl,rfl,rfl⟩:=hrel;by_cases hlt:k<D.length
  ·obtain⟨ad,rfl,_,hc⟩:=zz9 HR.out hlt
   have e1:=zrk hlt;have e2:=zky D (k+1);have E1:=qrf e1;have e3:(zdd (D.take (k+1))).length=(zdd (D.take k)).length+(D.getD k (none,0,[])).2.2.length:=by rw[e1,qmv]
   clear e1;generalize D.getD k (none,0,[])=d at*;obtain⟨da,dc,dl⟩:=d;have i1:(k:Int)<(D.length:Int):=by omega
   have i2:wrap64 (((zdd (D.take k)).length:Int)+(dl.length:Int))=((zdd (D.take (k+1))).length:Int):=by rw[e3];dsimp only;unfold wrap64;dsimp only at e3;omega
   have i3: ¬(((zdd (D.take (k+1))).length:Int)<0):=by omega
   have E3:=qrf e3;clear e3;generalize(zdd (D.take k)).length=s0 at*;generalize hs1:(zdd (D.take (k+1))).length=s1 at*;have HS:=qrf hs1;clear hs1;go_wp2_with fail
   go_roundw
   case rel=>exact⟨k+1,by omega,by go_num,by rw[HS.out,i2],by trivial⟩
   case measure=>simp[intOf];omega
  ·obtain rfl:k=D.length:=by omega
   rw[qp1];generalize wr=w0 at*;have G:=qrf (z6m (w:=w0) (n:=(zdd D).length) hl);generalize hs1:(zdd D).length=s1 at*;have HS:=qrf hs1;clear hs1;go_wp2_with fail
   refine G.out.mono ?_;rintro e W1 ⟨A1,c1,rfl,o1,b1⟩;clear G;go_wp2_with fail
   go_loopw [6,27] (fun s i wr=>∃(k:Nat) (A2:Option Addr) (c2:Nat),k<=D.length/\i= .int .i64 (k:Int)/\s= .slice A2 (zdd (D.take k)).length c2/\Go.Hm.Own wr w0.heap.size 5 (.slice A2 (zdd (D.take k)).length c2) (zah .u8 (zdd (D.take k)))/\New w0 wr) (fun _ i _=>D.length-(intOf i).toNat)
   case atStart=>exact⟨0,A1,c1,ql7 _,rfl,rfl,o1,b1⟩
   case round=>
    clear o1 b1;obtain⟨k,A2,c2,hk,rfl,rfl,o,b⟩:=hrel;by_cases hlt:k<D.length
    ·obtain⟨ad,rfl,_,hc⟩:=zz9 (qsg HR.out b) hlt
     have hrd:=qso (HD.out _ (zd4 (none,0,[]) hlt)) b;have e1:=zrk hlt;have e2:=zky D (k+1);rw[HS.out] at e2;have E1:=qrf e1;have e3:(zdd (D.take (k+1))).length=(zdd (D.take k)).length+(D.getD k (none,0,[])).2.2.length:=by rw[e1,qmv]
     have e4:(zdd (D.take (k+1))).length<=140737488351232:=by omega
     clear e1;generalize D.getD k (none,0,[])=d at*;obtain⟨da,dc,dl⟩:=d;have i1:(k:Int)<(D.length:Int):=by omega
     have hrd:Reads _ _ 1 da dl.length (zah .u8 dl):=hrd;have hsz:=b.size;generalize zdd (D.take k)=F at*;generalize hF1:zdd (D.take (k+1))=F1 at*;have HF:=qrf hF1;have e5:F.length+dl.length<=140737488351232:=by have e6:F1.length=F.length+dl.length:=e3;omega
     clear e3;clear hF1
     go_wp2_with (refine zal elB rfl (.tmp 31) (.tmp 32) rfl (W:=w0) (B:=w0.heap.size) (k:= .u8) (l:=F) (l2:=dl) (c2:=dc) o hrd rfl rfl b (ql6 _) hsz (by omega) (by simp only[maxLen];omega) ?_
                  intro A3 c3 w3 hq1 hq2 o3 g3 b3 hq3)
     go_roundw
     case rel=>exact⟨k+1,A3,c3,by omega,by go_num,by rw[HF.out,E1.out,qmv],by rw[HF.out,E1.out,qmv];exact o3,b3⟩
     case measure=>simp[intOf];omega
    ·obtain rfl:k=D.length:=by omega
     rw[qp1] at o⊢;go_wp2_with fail
     go_ret
     exact⟨A2,_,c2,rfl,o,b⟩
end Go.Proofs.Y
namespace Go.Hm
open Go Go.RowKit
abbrev zi3:=Option Addr × Nat × List zgp
def zp7(d:zi3):List Value:=[.slice d.1 d.2.2.length d.2.1]
def RowBIn(w:World)(d:zi3):Prop:=Reads w w.heap.size 1 d.1 d.2.2.length (recs zgq d.2.2)
theorem RowBIn.later{w w':World}{d:zi3}(h:RowBIn w d)(hb:New w w'):RowBIn w' d:=qsg h hb
theorem zp8(D:List zgp):(recs zgq D).length=D.length:=by rw[zaz (sz:=1) (fun _=>rfl)];omega
theorem z86(D:List zgp):∀u∈recs zgq D,u.oneCell'=true:=by intro u hu;unfold recs at hu;obtain⟨d,_,hd⟩:=qov.1 hu;obtain rfl:=qne.1 hd;rfl
end Go.Hm
namespace Go.Proofs.Y
open Go.RowKit Go.Hm
theorem qk2:ElT Tryz.prog 22 24 (.slice none 0 0) 1 24:=⟨by kernel_rfl,by kernel_rfl,rfl,by omega⟩
end Go.Proofs.Y
namespace Go.Hm
open Go Go.RowKit
theorem qfk{w:World}{g:Nat}{ty:TypeId}{x y a b:Value}(h:Blk w g ty #[x,y]):Blk ((w.setCell ⟨g,0,none⟩ a).setCell ⟨g,1,none⟩ b) g ty #[a,b]:=by simpa using((h.set_ 0 a).set_ 1 b)
theorem zqg{g i:Nat}(u:Value)(w:World):Far g w (w.setCell ⟨g,i,none⟩ u):=
 ⟨rfl,rfl,rfl,by simp[World.setCell],fun k _ hne=>qq7 _ _ _ _ (by rintro rfl;exact hne rfl)⟩
theorem z1j{g:Nat}(a b:Value)(w:World):Far g w ((w.setCell ⟨g,0,none⟩ a).setCell ⟨g,1,none⟩ b):=qr3 (zqg a w) (zqg b _)
end Go.Hm
namespace Go.Proofs.Y
open Go.RowKit Go.Hm
theorem qjh{w:World}{x y:Int}{a b:Nat}(h:z3a x y a b)(hx: -9223372036854775808<=x/\x<=9223372036854775807)(hy: -9223372036854775808<=y/\y<=9223372036854775807):
 Calls Tryz.prog 212 #[.complex .f64 a b] w (zak (.agg #[.int .i64 x,.int .i64 y]) w):=by
 have f1:=fun w:World=>run_convert_float_int (P:=Tryz.prog) w 264 3 .f64 .i64 a _ (by kernel_rfl) (by kernel_rfl) (zyk h.1 hx)
 have f2:=fun w:World=>run_convert_float_int (P:=Tryz.prog) w 264 3 .f64 .i64 b _ (by kernel_rfl) (by kernel_rfl) (zyk h.2 hy)
 have b0:New w (w.alloc (.cells #[.int .i64 x,.int .i64 y] 73)):=(qq8 _ _).alloc (ql6 _) _;obtain⟨s0,s1⟩:=zb6 (qrv w 73 #[.int .i64 x,.int .i64 y]);clear h hx hy;go_enter Tryz.func212,Tryz.ntmps212
 go_wp2
 exact bodyPost_ret (v:= .agg #[.int .i64 x,.int .i64 y]) (by simp[results,Tryz.results212,go_sem,s0,s1]) rfl ⟨rfl,b0⟩
theorem qeb{w:World}{x y u v:Int}(hx: -2097152<=x/\x<=2097152)(hy: -2097152<=y/\y<=2097152)(hu: -2097152<=u/\u<=2097152)(hv: -2097152<=v/\v<=2097152):
 Calls Tryz.prog 208 #[.agg #[.int .i64 x,.int .i64 y],.agg #[.int .i64 u,.int .i64 v]] w (zak (.agg #[.int .i64 (x-u),.int .i64 (y-v)]) w):=by
 obtain⟨W0,hW0⟩:∃W,W=((w.alloc (.cells #[.int .i64 x,.int .i64 y] 73)).alloc (.cells #[.int .i64 u,.int .i64 v] 73)).alloc (.cells #[.int .i64 0,.int .i64 0] 73):=⟨_,rfl⟩;have b0:New w W0:=by rw[hW0];exact(((qq8 _ _).alloc (ql6 _) _).alloc (by simp) _).alloc (by simp;omega) _
 have e1:(w.alloc (.cells #[.int .i64 x,.int .i64 y] 73)).heap.size=w.heap.size+1:=by simp
 have e2:((w.alloc (.cells #[.int .i64 x,.int .i64 y] 73)).alloc (.cells #[.int .i64 u,.int .i64 v] 73)).heap.size=w.heap.size+1+1:=by simp
 have A0:Blk W0 w.heap.size 73 #[.int .i64 x,.int .i64 y]:=by rw[hW0];exact((qrv _ _ _).alloc _).alloc _
 have B0:Blk W0 (w.heap.size+1) 73 #[.int .i64 u,.int .i64 v]:=by rw[hW0,<-e1];exact(qrv _ _ _).alloc _
 have C0:Blk W0 (w.heap.size+1+1) 73 #[.int .i64 0,.int .i64 0]:=by rw[hW0,<-e2];exact qrv _ _ _
 have F:=qrf (fun(W:World) (hW:Far (w.heap.size+1+1) W0 W)=>qok (zb6 (A0.grown hW (by simp;omega))) (zb6 (B0.grown hW (by simp))));have HC:=qrf C0;have HW:=qrf hW0;have HB:=qrf b0;have P1:=qrf (fun(W:World)=>zml (w:=W) (x:=x) (y:=y) (by omega) (by omega));have P2:=qrf (fun(W:World)=>zml (w:=W) (x:=u) (y:=v) (by omega) (by omega));have P3:=qrf (fun(W:World) (a b c d:Nat) (h1:z3a x y a b) (h2:z3a u v c d)=>show∃re im,cSumBits .sub .f64 a b c d=some (re,im)/\ ∀W:World,Calls Tryz.prog 212 #[.complex .f64 re im] W (zak (.agg #[.int .i64 (x-u),.int .i64 (y-v)]) W) by obtain⟨re,im,k1,k2⟩:=qc6 h1 h2 (by omega) (by omega);exact⟨re,im,k1,fun W=>qjh k2 (by omega) (by omega)⟩)
 generalize x-u=rx at*;generalize y-v=ry at*;clear A0 B0 C0 hW0 b0 e1 e2 hx hy hu hv;go_enter Tryz.func208,Tryz.ntmps208
 go_wp2_with fail
 rw[<-HW.out];refine zaw (Far (w.heap.size+1+1)) [(true,0),(true,2),(false,1),(false,3),(true,4),(false,5),(false,6)]
  (qr2 _) qr3 (by kernel_rfl) (by kernel_rfl) (by kernel_rfl) (by kernel_rfl) ?_
 have hN:=qr1 W0;iterate 2 (
  refine zaj rfl rfl (v:=?_) (fun W hW=>?_) ?_;rotate_left
  ·obtain⟨⟨x0,x1⟩,⟨y0,y1⟩⟩:=F.out W (qr3 (qr4 hN) hW)
   go_simp<;> with_reducible rfl
  simp only[Act.put,qoi,qn8,qoj])
 refine za6 rfl rfl (fun K hK=>?_);go_simp
 (with_reducible refine(P1.out _).mono ?_)
 rintro e w1 ⟨a,b,rfl,hr1,c1⟩;refine hK _ _ (qr4 c1) ?_;clear hK;replace hN:=qr0 hN c1;refine za6 rfl rfl (fun K hK=>?_);go_simp
 (with_reducible refine(P2.out _).mono ?_)
 rintro e w2 ⟨c,d,rfl,hr2,c2⟩;refine hK _ _ (qr4 c2) ?_;clear hK;replace hN:=qr0 hN c2;obtain⟨re,im,k1,k2⟩:=P3.out w2 a b c d hr1 hr2;have K2:=qrf k2;have m:=fun w:World=>run_complex_sum (P:=Tryz.prog) w .sub (.inr rfl) 262 .f64 a b c d re im k1
 clear k1 k2 hr1 hr2 P1 P2 P3;refine zaj rfl rfl (v:=?_) (fun W hW=>?_) ?_;rotate_left
 ·go_simp<;> with_reducible rfl
 simp only[Act.put,qoi,qn8,qoj];clear m;refine za6 rfl rfl (fun K hK=>?_);go_simp
 (with_reducible refine(K2.out _).mono ?_)
 rintro e w3 ⟨rfl,c3⟩;refine hK _ _ (qr4 c3) ?_;clear hK;replace hN:=qr0 hN c3;have C3:=HC.out.below hN HC.out.lt;obtain⟨z0,z1⟩:=zb6 C3;have f0:=C3.frozen 0;have f1:=C3.frozen 1;have S3:=qrf (qfk C3 (a:= .int .i64 rx) (b:= .int .i64 ry));have hF:=z1j (g:=w.heap.size+1+1) (.int .i64 rx) (.int .i64 ry) w3;clear C3;refine za6 rfl rfl (fun K hK=>?_);go_simp
 refine hK _ _ hF ?_;clear hK z0 z1 f0 f1;refine zda ?_;obtain⟨s0,s1⟩:=zb6 S3.out;have bE:=qr6 HB.out (qr3 (qr4 hN) hF) (by omega);clear hF S3;go_wp2
 exact bodyPost_ret (v:= .agg #[.int .i64 rx,.int .i64 ry]) (by simp[results,Tryz.results208,go_sem,s0,s1]) rfl ⟨rfl,bE⟩
end Go.Proofs.Y
namespace Go.Hm
open Go Go.RowKit
theorem zy7(l:List (Int × Int))(p:Int × Int):zdu (l++[p])=zdu l++[.int .i64 p.1,.int .i64 p.2]:=by simp[zdu]
theorem z4b{h:Int × Int}{l:List (Int × Int)}{k:Nat}(hk:k<l.length):
 zgl h (l.drop k)=if inBox (l.getD k (0,0)).1 (l.getD k (0,0)).2 then(zgl (l.getD k (0,0)) (l.drop (k+1))).map (((l.getD k (0,0)).1-h.1,(l.getD k (0,0)).2-h.2):: ·) else none:=by
 rw[zjz l k (0,0) hk,zgl]
theorem zwx{α:Type}{o:Option (List α)}{x:α}{acc:List α}:(o.map (x:: ·)).map (acc++ ·)=o.map ((acc++[x])++ ·):=by cases o<;> simp
section
variable{P:Program}{ops:Array Oper}{rest:List Oper}{o:Oper}{a:Act}{Q:Exit->Act->World->Prop}
theorem z4c{w:World}{t e:TypeId}{z:Value}{sz bytes:Nat}(E:ElT P t e z sz bytes)(hgd:o.guard=none)(lo co:Operand)(ho:o.op=Op.makeSlice t lo co)
 {W:World}{B:Nat}{kl kc:IntKind}{L C:Int}(n:Nat)(hl:a.eval lo= .int kl L)(hc:a.eval co= .int kc C)(hL:L=0)(hC:C=(n:Int))(hb:Below B W w)(hbase:B<=w.heap.size)
 (hn:n*bytes<=140737488355328)(hm:n<=maxLen)
 (h:∀w',w'.ownsRow w.heap.size e sz (.slice (some ⟨w.heap.size,0,none⟩) 0 n) 0 []->w.grownBy w' none->Below B W w'->w'.heap.size=w.heap.size+1->wpList P ops Q rest (a.put o.dst (.slice (some ⟨w.heap.size,0,none⟩) 0 n)) w'):
 wpList P ops Q (o::rest) a w:=by
 obtain⟨i,hi,hz0,hs1,hb1⟩:=info_parts E.hi;subst hL hC;have hmC:(n:Int)<=9223372036854775807:=by have h:=hm;simp only[maxLen] at h;omega
 have hbC:(i.bytes:Int)*(n:Int)<=281474976710656:=by
  have h:((i.bytes*n:Nat):Int)<=281474976710656:=by rw[hb1,qmr];omega
  rwa[qms] at h
 have hrun:=run_make (P:=P) w t e i z E.ht hi hz0 kl kc 0 (n:Int) (by omega) (by omega) hbC hmC;rw[qmt,hs1] at hrun;refine wpList_plain hgd fun K hK=>?_
 unfold Oper.wp;simp[execOp,ho,hl,hc,hrun,Result.andThen];refine hK _ _ (h _ ?_ (qra _ _ _) (hb.alloc hbase _) (by simp));exact⟨by simp,.inr ⟨_,n,_,rfl,ql6 _,heap_alloc_new w _,ql7 _,hm,by simp[size_madeCells],by simp⟩⟩
end
end Go.Hm
namespace Go.Proofs.Y
open Go.RowKit Go.Hm
theorem qkp:ElT Tryz.prog 251 73 (.agg #[.int .i64 0,.int .i64 0]) 2 16:=⟨by kernel_rfl,by kernel_rfl,rfl,by omega⟩
def qfl(o:Option (List (Int × Int)))(w:World)(e:Ending)(w':World):Prop:=
 ∃A n c,e= .returned (.slice A n c)/\w'.ownsRow w.heap.size 73 2 (.slice A n c) n (zdu (o.getD []))/\New w w'
theorem z4d{w:World}{A:Option Addr}{n c:Nat}{l:List (Int × Int)}(h:Reads w w.heap.size 2 A n (zdu l))(hn:n<=1000000):
 Calls Tryz.prog 194 #[.slice A n c] w (qfl (zgl (0,0) l) w):=by
 obtain rfl:=h.lenP;have Z:=qrf (show∀z,(zgl (0,0) (l.drop 0)).map ([]++ ·)=z->zgl (0,0) l=z by intro z hz;rw[<-hz];cases hw:zgl (0,0) l<;> simp[hw])
 generalize zgl (0,0) l=O at*;go_enter Tryz.func194,Tryz.ntmps194
 go_wp2_with (refine z4c qkp rfl _ _ rfl (W:=w) (B:=w.heap.size) l.length rfl rfl rfl rfl (qq8 _ _) (ql6 _) (by omega) (by simp only[maxLen];omega) ?_;intro w1 o1 g1 b1 z1)
 obtain⟨W2,hW2⟩:∃W,W=w1.alloc (.cells #[.int .i64 0,.int .i64 0] 73):=⟨_,rfl⟩;have B2:Blk W2 (w.heap.size+1) 73 #[.int .i64 0,.int .i64 0]:=by rw[hW2,<-z1];exact qrv _ _ _
 have b2:New w W2:=by rw[hW2];exact b1.alloc (by omega) _
 have o2:W2.ownsRow w.heap.size 73 2 (.slice (some ⟨w.heap.size,0,none⟩) 0 l.length) 0 (zdu []):=by rw[hW2];exact qlo o1 _
 have HB2:=qrf B2;have HR:=qrf h;have Z2:=qrf z1;rw[z1] at*;have HW2:=qrf hW2;clear hW2 B2 h o1 g1 b1 z1;go_wp2
 rw[<-HW2.out];go_loopw [3,12] (fun v i wr=>∃(k:Nat) (A:Option Addr) (c:Nat) (acc:List (Int × Int)) (hx hy:Int),k<=l.length/\i= .int .i64 (k:Int)/\v= .slice A k c/\Hid (wr.ownsRow w.heap.size 73 2 (.slice A k c) k (zdu acc))/\Hid ((Value.slice A k c).ownBlock≠some (w.heap.size+1))/\Hid (Blk wr (w.heap.size+1) 73 #[.int .i64 hx,.int .i64 hy])/\New w wr/\Hid (inBox hx hy=true)/\Hid ((zgl (hx,hy) (l.drop k)).map (acc++ ·)=O)) (fun _ i _=>l.length-(intOf i).toNat)
 case atStart=>exact⟨0,_,_,[],0,0,by omega,rfl,rfl,qrf o2,qrf (by simp[Value.ownBlock]),HB2,b2,qrf rfl,qrf (Z.out _ rfl).symm⟩
 case round=>
  obtain⟨k,A1,c1,acc,hx,hy,hk,rfl,rfl,o,N,B,b,I,E⟩:=hrel;by_cases hlt:k<l.length
  ·have hst:=z4b (h:=(hx,hy)) hlt
   have E2:=qrf (E.out.symm.trans (congrArg (fun z=>z.map (acc++ ·)) hst));obtain⟨ad,rfl,hbk,x0,x1⟩:=(qsg HR.out b).pair2 hlt;have hpp:l.getD k (0,0)=((l.getD k (0,0)).1,(l.getD k (0,0)).2):=rfl;rw[hpp] at E2;generalize(l.getD k (0,0)).1=x at*;generalize(l.getD k (0,0)).2=y at*;obtain⟨W3,hW3⟩:∃W,W=wr.alloc (.cells #[.int .i64 x,.int .i64 y] 73):=⟨_,rfl⟩;have b3:New wr W3:=by rw[hW3];exact(qq8 _ _).alloc (ql6 _) _
   have T3:Blk W3 wr.heap.size 73 #[.int .i64 x,.int .i64 y]:=by rw[hW3];exact qrv _ _ _
   have B3:=B.out.below b3 B.out.lt;have F3:=qrf (fun(W:World) (hW:New W3 W)=>qok (zb6 (T3.below hW T3.lt)) (zb6 (B3.below hW B3.lt)));obtain⟨⟨t0,t1⟩,y0,y1⟩:=F3.out W3 (qrz _);have HW3:=qrf hW3;have HT3:=qrf T3;have HB3:=qrf B3;have WT:=qrf (fun W:World=>zrp (w:=W) x y);rw[hW3] at t0 t1 y0 y1;clear hst hW3 T3 B3 hpp;go_wp2_with fail
   rw[<-HW3.out]
   (with_reducible refine(WT.out _).mono ?_)
   rintro e w4 ⟨rfl,b4⟩;clear x0 x1 t0 t1 y0 y1 WT HW3;obtain⟨⟨t0,t1⟩,y0,y1⟩:=F3.out w4 b4;cases hnb:inBox x y with
   |false=>
    have hO:O=none:=by rw[E2.out,hnb];simp
    have HO:=qrf hO;have bE:=qr0 b (qr0 b3 b4);clear hO hnb;go_wp2
    go_ret
    exact⟨_,_,_,rfl,by rw[HO.out];exact zdx,bE⟩
   |true=>
    have nb:=inBox_iff.1 hnb;have ib:=inBox_iff.1 I.out;have PA:=qrf (fun W:World=>qeb (w:=W) (x:=x) (y:=y) (u:=hx) (v:=hy) (by omega) (by omega) (by omega) (by omega));have HNB:=qrf hnb;have E3:=qrf (show(zgl (x,y) (l.drop (k+1))).map ((acc++[(x-hx,y-hy)])++ ·)=O by rw[E2.out,hnb,<-zwx];simp);clear nb ib hnb E2 E;go_wp2_with fail
    (with_reducible refine(PA.out _).mono ?_)
    rintro e w5 ⟨rfl,b5⟩;have b35:=qr0 b4 b5;clear t0 t1 y0 y1 PA;generalize x-hx=px at*;generalize y-hy=py at*;have o5:=za8 o.out (qr0 b3 b35);have b05:=qr0 b (qr0 b3 b35);have z0:=b05.size;have hle:w.heap.size+1<wr.heap.size:=B.out.lt;have hz5:wr.heap.size<w5.heap.size:=by have:=HT3.out.lt;have:=b35.size;omega
    obtain⟨W6,hW6⟩:∃W,W=w5.alloc (.cells #[.int .i64 px,.int .i64 py] 73):=⟨_,rfl⟩;have T5:=HT3.out.below b35 HT3.out.lt;have B5:=HB3.out.below b35 HB3.out.lt;have HT5:=qrf T5;have HB5:=qrf B5;clear T5 B5 hW6;have NT:(Value.slice A1 k c1).ownBlock≠some wr.heap.size:=by intro e;have:=(qln o.out _ e).2;omega
    have FT:=qrf (fun(W:World) (hW:w5.grownBy W (Value.slice A1 k c1).ownBlock)=>qok (HT5.out.grown hW (fun e=>NT e.symm)) (HB5.out.grown hW (fun e=>N.out e.symm)));clear NT
    go_wp2_with (refine zdy qkp rfl (.tmp 19) (.tmp 23) rfl (W:=w) (B:=w.heap.size) (base:=w.heap.size) (n:=k) o5 rfl rfl b05 (ql6 _) z0 rfl (by simp[Value.oneCell']) (by omega) (by simp only[maxLen];omega) ?_
                 intro A' c' w8 _ _ o' g' b' hsz hat;obtain⟨t0,t1⟩:=zb6 (FT.out w8 g').1;obtain⟨y0,y1⟩:=zb6 (FT.out w8 g').2;have f0:=(FT.out w8 g').2.frozen 0;have f1:=(FT.out w8 g').2.frozen 1)
    have N8:(Value.slice A' (k+1) c').ownBlock≠some (w.heap.size+1):=by
     rcases hat with e1|⟨gg,e1,e2⟩
     ·rw[e1];exact N.out
     ·rw[e1];simp;omega
    have g6:=z1j (g:=w.heap.size+1) (.int .i64 x) (.int .i64 y) w8;have o9:=qlm o' g6 (.inr N8);have B9:=qfk (FT.out w8 g').2 (a:= .int .i64 x) (b:= .int .i64 y);have b9:=qr6 b' g6 (by omega);go_roundw
    case rel=>exact⟨k+1,A',c',acc++[(px,py)],x,y,by omega,by go_num,rfl,qrf (by rw[zy7];exact o9),qrf N8,qrf B9,b9,HNB,E3⟩
    case measure=>simp[intOf];omega
  ·obtain rfl:k=l.length:=by omega
   have HO:=qrf (show O=some acc by rw[<-E.out,qqj,zgl];simp);clear E;go_wp2
   go_ret
   exact⟨_,_,_,rfl,by rw[HO.out];exact o.out,b⟩
end Go.Proofs.Y
