import Derived.Test.YtbahbnbpmfgimaaGreatDoorBun2
set_option maxHeartbeats 200000
namespace Go.Hm
open Go Go.RowKit Go.WideShapes Go.ChangeShapes Go.Deep
def zdu(l:List (Int × Int)):List Value:=l.flatMap fun p=>[.int .i64 p.1,.int .i64 p.2]
theorem zgv(l:List (Int × Int)):(zdu l).length=l.length*2:=by
 induction l with
 |nil=>rfl
 |cons p l ih=>simp only[zdu,qpe,qmv,qm9,qpg] at ih⊢;rw[ih];omega
theorem qbk(l:List (Int × Int)):∀i,i<l.length->(zdu l)[i*2]? =some (.int .i64 (l.getD i (0,0)).1)/\(zdu l)[i*2+1]? =some (.int .i64 (l.getD i (0,0)).2):=by
 induction l with
 |nil=>intro i h;simp at h
 |cons p l ih=>
  intro i h;cases i with
  |zero=>exact⟨rfl,rfl⟩
  |succ i=>
   have:=ih i (by simpa using h);rw[show(i+1)*2=i*2+1+1 by omega];exact this
theorem Reads.lenP{w:World}{B n:Nat}{A:Option Addr}{l:List (Int × Int)}(h:Reads w B 2 A n (zdu l)):n=l.length:=by have:=h.1;rw[zgv] at this;omega
theorem Reads.pair{w:World}{B n i:Nat}{A:Option Addr}{l:List (Int × Int)}(h:Reads w B 2 A n (zdu l))(hi:i<n):
 ∃ad,A=some ad/\ad.block<B/\w.cell? (ad.add (i*2))=some (.int .i64 (l.getD i (0,0)).1)/\w.cell? (ad.add (i*2+1))=some (.int .i64 (l.getD i (0,0)).2):=by
 obtain⟨ad,e,hb,hc⟩:=h.2 (by omega);have hl:=h.lenP;obtain⟨h1,h2⟩:=qbk l i (by omega);exact⟨ad,e,hb,hc _ _ h1,hc _ _ h2⟩
open Go Go.RowKit
section
variable{w w':World}{base sz n:Nat}{e:TypeId}{v:Value}{xs:List Value}
theorem z59{B:Nat}(h:w.ownsRow base e sz v n xs)(hb:Below B w w')(hB:w.heap.size<=B):w'.ownsRow base e sz v n xs:=by
 refine⟨h.1,?_⟩;rcases h.2 with hn|⟨g,cap,cur,rfl,hbg,hgg,rest⟩
 ·exact .inl hn
 ·refine .inr ⟨g,cap,cur,rfl,hbg,?_,rest⟩
  rw[hb.block g (qlz (ql8.1 hgg).1 hB)];exact hgg
theorem za8(h:w.ownsRow base e sz v n xs)(hb:New w w'):w'.ownsRow base e sz v n xs:=z59 h hb (ql6 _)
theorem ze4{b':Nat}(h:w.ownsRow base e sz v n xs)(hb:b'<=base):w.ownsRow b' e sz v n xs:=by
 refine⟨h.1,?_⟩;rcases h.2 with hn|⟨g,cap,cur,hv,hbg,rest⟩
 ·exact .inl hn
 ·exact .inr ⟨g,cap,cur,hv,qlw hb hbg,rest⟩
theorem zcy(h:w.ownsRow base e sz v n xs):∃A c,v= .slice A n c/\n<=c/\c<=maxLen:=by
 rcases h.2 with⟨hv,hn⟩|⟨g,cap,cur,hv,_,_,hc,hm,_⟩
 ·exact⟨none,0,by rw[hv,hn],by omega,by simp[maxLen]⟩
 ·exact⟨_,_,hv,hc,hm⟩
theorem zdx:w.ownsRow base e sz (.slice none 0 0) 0 []:=⟨by simp,.inl ⟨rfl,rfl⟩⟩
theorem zav{g:Nat}{t:TypeId}{cs:Array Value}(h:w.ownsRow base e sz v n xs)(hg:Blk w g t cs)(hne:e≠t):v.ownBlock≠some g:=by
 rcases h.2 with⟨rfl,_⟩|⟨g',cap,cur,rfl,_,hh,_⟩
 ·simp[Value.ownBlock]
 ·intro he
  have:g'=g:=by simpa[Value.ownBlock] using he
  subst this;exact qrx (t:=e) hh hg hne rfl
end
theorem z2b(a b c:Value)(n:Nat):(madeCells #[a,b,c] (n*3)).toList=(List.replicate n [a,b,c]).flatten:=by
 induction n with
 |zero=>simp[madeCells]
 |succ n ih=>
  rw[qon,qpm,<-ih];have e:∀m,m%3=0->(madeCells #[a,b,c] (m+3)).toList=(madeCells #[a,b,c] m).toList++[a,b,c]:=by intro m hm;simp only[madeCells,qpn,qpo,qpp,qpj,qmp,qmq,qmi,qm8,qmx,qmz,qm9,qpg];rw[hm,show(m+1)%3=1 by omega,show(m+2)%3=2 by omega];rfl
  rw[qn2,e (n*3) (by omega)];simp
section
variable{P:Program}{ops:Array Oper}{rest:List Oper}{o:Oper}{a:Act}{Q:Exit->Act->World->Prop}
theorem zdy{w:World}{t e:TypeId}{z:Value}{sz bytes:Nat}(E:ElT P t e z sz bytes)(hgd:o.guard=none)(s x:Operand)
 (ho:o.op= .call {callee:= .builtin .append,args:= #[s,x],argTypes:= #[t,t]})
 {W:World}{B base n:Nat}{v:Value}{us xs:List Value}(hown:w.ownsRow base e sz v n xs)(hs:a.eval s=v)(hx:a.eval x= .slice (some ⟨w.heap.size,0,none⟩) 1 1)
 (hb:Below B W w)(hbB:B<=base)(hbase:base<=w.heap.size)(hus:us.length=sz)(h1:∀u∈us,u.oneCell'=true)
 (hn:(n+1)*bytes<=140737488355328)(hm:n+1<=maxLen)
 (h:∀A' c' w',n+1<=c'->c'<=maxLen->w'.ownsRow base e sz (.slice A' (n+1) c') (n+1) (xs++us)->w.grownBy w' v.ownBlock->Below B W w'->w.heap.size<w'.heap.size->
  (Value.ownBlock (.slice A' (n+1) c')=v.ownBlock\/ ∃g,Value.ownBlock (.slice A' (n+1) c')=some g/\w.heap.size<=g)->wpList P ops Q rest (a.put o.dst (.slice A' (n+1) c')) w'):
 wpList P ops Q (o::rest) a (w.alloc (.cells us.toArray e)):=by
 obtain⟨i,hi,hz0,hz1,hz2⟩:=info_parts E.hi;refine wpList_append_own_at _ hgd s x t ho base e i z sz bytes E.ht hi hz0 hz1 hz2 E.hz E.hs v n xs hs (qlo hown _) ⟨w.heap.size,0,none⟩ 1 1 us hx (by omega) ?_ h1 hm hn (by simp;omega) ?_
 ·have:=qq9 (heap_alloc_new w (.cells us.toArray e))
  simpa using this
 intro v' w' hown' hg _ hat;obtain⟨A',c',rfl,hc1,hc2⟩:=zcy hown';have hg2:w.grownBy w' v.ownBlock:=(qra w (.cells us.toArray e) v.ownBlock).trans hg;have hsz:=hg.size;simp at hsz;refine h A' c' w' hc1 hc2 hown' hg2 (hb.grown hg2 (qlw hbB hbase) (fun k hk=>by have:=(qln hown k hk).1;omega)) (by omega) ?_;rcases hat with e1|e1
 ·exact .inl e1
 ·exact .inr ⟨_,e1,by simp⟩
theorem z2c{w:World}{t e:TypeId}{x y z:Value}{bytes:Nat}(E:ElT P t e (.agg #[x,y,z]) 3 bytes)(hgd:o.guard=none)(lo co:Operand)(ho:o.op=Op.makeSlice t lo co)
 {W:World}{B:Nat}{kl kc:IntKind}{L C:Int}(n:Nat)(hl:a.eval lo= .int kl L)(hc:a.eval co= .int kc C)(hL:L=(n:Int))(hC:C=(n:Int))(hb:Below B W w)(hbase:B<=w.heap.size)
 (hn:n*bytes<=140737488355328)(hm:n<=maxLen)
 (h:∀w',w'.ownsRow w.heap.size e 3 (.slice (some ⟨w.heap.size,0,none⟩) n n) n (List.replicate n [x,y,z]).flatten->w.grownBy w' none->Below B W w'->w'.heap.size=w.heap.size+1->wpList P ops Q rest (a.put o.dst (.slice (some ⟨w.heap.size,0,none⟩) n n)) w'):
 wpList P ops Q (o::rest) a w:=by
 obtain⟨i,hi,hz0,hs1,hb1⟩:=info_parts E.hi;subst hL hC;have hmC:(n:Int)<=9223372036854775807:=by have h:=hm;simp only[maxLen] at h;omega
 have hbC:(i.bytes:Int)*(n:Int)<=281474976710656:=by
  have h:((i.bytes*n:Nat):Int)<=281474976710656:=by rw[hb1,qmr];omega
  rwa[qms] at h
 have hrun:=run_make (P:=P) w t e i (.agg #[x,y,z]) E.ht hi hz0 kl kc (n:Int) (n:Int) (by omega) (by omega) hbC hmC;rw[qmt,hs1] at hrun;refine wpList_plain hgd fun K hK=>?_
 unfold Oper.wp;simp[execOp,ho,hl,hc,hrun,Result.andThen];refine hK _ _ (h _ ?_ (qra _ _ _) (hb.alloc hbase _) (by simp));refine⟨by simp,.inr ⟨_,n,_,rfl,ql6 _,heap_alloc_new w _,ql6 _,hm,by simp[size_madeCells],?_⟩⟩;rw[qm0 (by simp[size_madeCells])];exact z2b x y z n
end
theorem z6a{w w' W:World}{gc gm:Nat}(hb:w.grownBy w' (some gc))(hg:w'.grownBy W (some gm))(hle:w.heap.size<=gm):w.grownBy W (some gc):=
 ⟨hg.os.trans hb.os,hg.tape.trans hb.tape,hg.output.trans hb.output,qlw hb.size hg.size,fun k hk hne=>(hg.block k (qlz hk hb.size) (fun e=>by injection e with e;omega)).trans (hb.block k hk hne)⟩
theorem zxl{w:World}{base:Nat}{e:TypeId}{g n c sz:Nat}{xs:List Value}(h:w.ownsRow base e sz (.slice (some ⟨g,0,none⟩) n c) n xs):∃cs,Blk w g e cs:=by
 rcases h.2 with⟨hv,_⟩|⟨g',cap,cur,hv,_,hh,_⟩
 ·cases hv
 ·injection hv with e1 _ _
  injection e1 with e1;injection e1 with e1;subst e1;exact⟨cur,hh⟩
theorem qbl{A B:List Value}{x y z a b c:Value}{m:Nat}(h:A.length=m):(((A++([x,y,z]++B)).set m a).set (m+1) b).set (m+2) c=A++([a,b,c]++B):=by subst h;rw[qn5 _ _ (ql6 _),qn5 _ _ (by omega),qn5 _ _ (by omega)];simp
theorem qbm{w:World}{base:Nat}{e:TypeId}{g n c m:Nat}{A B:List Value}{x y z a b d:Value}(h:w.ownsRow base e 3 (.slice (some ⟨g,0,none⟩) n c) n (A++([x,y,z]++B)))(hm:A.length=m):
 ∃W,W=((w.setCell ⟨g,m,none⟩ a).setCell ⟨g,m+1,none⟩ b).setCell ⟨g,m+2,none⟩ d/\W.ownsRow base e 3 (.slice (some ⟨g,0,none⟩) n c) n (A++([a,b,d]++B))/\w.grownBy W (some g):=by
 obtain⟨h1,g1⟩:=h.stored m a;obtain⟨h2,g2⟩:=h1.stored (m+1) b;obtain⟨h3,g3⟩:=h2.stored (m+2) d;rw[qbl hm] at h3;exact⟨_,rfl,h3,(g1.trans g2).trans g3⟩
theorem z6b{w w':World}{g gc:Nat}{ty:TypeId}{x y z a b c:Value}(h:Blk w' g ty #[x,y,z])(hb:w.grownBy w' (some gc))(hg:w.heap.size<=g):
 ∃W3,W3=(((w'.setCell ⟨g,0,none⟩ a).setCell ⟨g,1,none⟩ b).setCell ⟨g,2,none⟩ c)/\Blk W3 g ty #[a,b,c]/\w.grownBy W3 (some gc)/\ ∀k,k≠g->W3.heap[k]? =w'.heap[k]? :=by
 refine⟨_,rfl,by simpa using((h.set_ 0 a).set_ 1 b).set_ 2 c,⟨hb.os,hb.tape,hb.output,by simpa[World.setCell] using hb.size,fun k hk hne=>?_⟩,fun k hk=>?_⟩
 ·rw[qq7 _ _ _ _ (show k≠g by omega),qq7 _ _ _ _ (show k≠g by omega),qq7 _ _ _ _ (show k≠g by omega)]
  exact hb.block k hk hne
 ·rw[qq7 _ _ _ _ hk,qq7 _ _ _ _ hk,qq7 _ _ _ _ hk]
theorem z2d{w:World}{row:Option Nat}:w.grownBy w.drew row:=⟨rfl,rfl,rfl,ql6 _,fun _ _ _=>rfl⟩
theorem Reads.litR(w:World)(e:TypeId)(cs:Array Value)(n sz:Nat)(xs:List Value)(h:cs.toList=xs)(hn:xs.length=n*sz):Reads (w.alloc (.cells cs e)) (w.alloc (.cells cs e)).heap.size sz (some ⟨w.heap.size,0,none⟩) n xs:=by refine⟨hn,fun _=>⟨_,rfl,by simp,?_⟩⟩;have:=qq9 (heap_alloc_new w (.cells cs e));rwa[h] at this
abbrev qsh:=@Reads.litR
theorem Reads.pair2{w:World}{B n i:Nat}{A:Option Addr}{l:List (Int × Int)}(h:Reads w B 2 A n (zdu l))(hi:i<n):
 ∃ad,A=some ad/\ad.block<B/\w.cell? (ad.add (i*2))=some (.int .i64 (l.getD i (0,0)).1)/\w.cell? ⟨(ad.add (i*2)).block,(ad.add (i*2)).off+1,none⟩=some (.int .i64 (l.getD i (0,0)).2):=by
 obtain⟨ad,h1,h2,h3,h4⟩:=h.pair hi;rw[<-zba] at h4;exact⟨ad,h1,h2,h3,h4⟩
open Go Go.RowKit
abbrev zbi:=List Nat × Int × Bool
def zl3(c:zbi):List Value:=[.string (zai c.1),.int .i64 c.2.1,.bool c.2.2]
theorem Reads.colT{w:World}{B n i:Nat}{A:Option Addr}{l:List zbi}(h:Reads w B 3 A n (recs zl3 l))(hi:i<n):
 ∃ad,A=some ad/\ad.block<B/\w.cell? (ad.add (i*3))=some (.string (zai (l.getD i ([],0,false)).1))/\w.cell? ⟨(ad.add (i*3)).block,(ad.add (i*3)).off+1,none⟩=some (.int .i64 (l.getD i ([],0,false)).2.1)/\w.cell? ⟨(ad.add (i*3)).block,(ad.add (i*3)).off+2,none⟩=some (.bool (l.getD i ([],0,false)).2.2):=by
 obtain⟨ad,h1,h2,_,h3⟩:=h.rec_ (f:=zl3) (sz:=3) (fun _=>rfl) ([],0,false) hi (by omega);refine⟨ad,h1,h2,h3 0 _ rfl,?_,?_⟩
 ·have:=h3 1 _ rfl
  rw[<-zba] at this;exact this
 ·have:=h3 2 _ rfl
  rw[<-zba] at this;exact this
theorem Reads.lenC{w:World}{B n:Nat}{A:Option Addr}{l:List zbi}(h:Reads w B 3 A n (recs zl3 l)):n=l.length:=h.lenR (f:=zl3) (sz:=3) (fun _=>rfl) (by omega)
theorem zar{w:World}{g:Nat}{ty:TypeId}{x y z:Value}(h:Blk w g ty #[x,y,z]):w.cell? ⟨g,0,none⟩=some x/\w.cell? ⟨g,1,none⟩=some y/\w.cell? ⟨g,2,none⟩=some z:=by have h0:=h.cell 0;have h1:=h.cell 1;have h2:=h.cell 2;simp at h0 h1 h2;exact⟨h0,h1,h2⟩
open Go Go.RowKit
abbrev zab:=Bool × Int × List Nat × Int × Int
def za4(c:zab):List Value:=[.bool c.1,.int .i64 c.2.1,.string (zai c.2.2.1),.int .i64 c.2.2.2.1,.int .i64 c.2.2.2.2]
def zbf:zab:=(false,0,[],0,0)
def zdb(c:zab):Value:= .agg (za4 c).toArray
def inBox(x y:Int):Bool:=decide (-1048576<=x)&&decide (x<=1048576)&&decide (-1048576<=y)&&decide (y<=1048576)
def zam(c:zab)(t:Int)(nu:Bool):Bool:=
 if c.1 then nu&&decide (c.2.1=0/\c.2.2.1=[]/\c.2.2.2.1=0/\c.2.2.2.2=0)
 else if t=0 then decide (c.2.2.1=[]/\c.2.2.2.1=0/\c.2.2.2.2=0)
 else if t=1 then decide ((c.2.2.1=[]/\c.2.2.2.1=0/\c.2.2.2.2=0)/\(c.2.1=0\/c.2.1=1))
 else if t=2 then decide ((c.2.1=0/\c.2.2.2.1=0/\c.2.2.2.2=0)/\c.2.2.1.length<=65536)
 else if t=3 then decide (c.2.1=0/\c.2.2.1=[])&&inBox c.2.2.2.1 c.2.2.2.2
 else false
theorem zc4{w:World}{g:Nat}{ty:TypeId}{a b c d e:Value}(h:Blk w g ty #[a,b,c,d,e]):w.cell? ⟨g,0,none⟩=some a/\w.cell? ⟨g,1,none⟩=some b/\w.cell? ⟨g,2,none⟩=some c/\w.cell? ⟨g,3,none⟩=some d/\w.cell? ⟨g,4,none⟩=some e:=by have h0:=h.cell 0;have h1:=h.cell 1;have h2:=h.cell 2;have h3:=h.cell 3;have h4:=h.cell 4;simp at h0 h1 h2 h3 h4;exact⟨h0,h1,h2,h3,h4⟩
theorem zb6{w:World}{g:Nat}{ty:TypeId}{a b:Value}(h:Blk w g ty #[a,b]):w.cell? ⟨g,0,none⟩=some a/\w.cell? ⟨g,1,none⟩=some b:=by have h0:=h.cell 0;have h1:=h.cell 1;simp at h0 h1;exact⟨h0,h1⟩
theorem Reads.cell5{w:World}{B n i:Nat}{A:Option Addr}{l:List zab}(h:Reads w B 5 A n (recs za4 l))(hi:i<n):
 ∃ad,A=some ad/\ad.block<B/\w.cell? (ad.add (i*5))=some (.bool (l.getD i (false,0,[],0,0)).1)/\w.cell? ⟨(ad.add (i*5)).block,(ad.add (i*5)).off+1,none⟩=some (.int .i64 (l.getD i (false,0,[],0,0)).2.1)
  /\w.cell? ⟨(ad.add (i*5)).block,(ad.add (i*5)).off+2,none⟩=some (.string (zai (l.getD i (false,0,[],0,0)).2.2.1))/\w.cell? ⟨(ad.add (i*5)).block,(ad.add (i*5)).off+3,none⟩=some (.int .i64 (l.getD i (false,0,[],0,0)).2.2.2.1)
  /\w.cell? ⟨(ad.add (i*5)).block,(ad.add (i*5)).off+4,none⟩=some (.int .i64 (l.getD i (false,0,[],0,0)).2.2.2.2):=by
 obtain⟨ad,h1,h2,_,h3⟩:=h.rec_ (f:=za4) (sz:=5) (fun _=>rfl) (false,0,[],0,0) hi (by omega);refine⟨ad,h1,h2,h3 0 _ rfl,?_,?_,?_,?_⟩
 ·have:=h3 1 _ rfl
  rw[<-zba] at this;exact this
 ·have:=h3 2 _ rfl
  rw[<-zba] at this;exact this
 ·have:=h3 3 _ rfl
  rw[<-zba] at this;exact this
 ·have:=h3 4 _ rfl
  rw[<-zba] at this;exact this
theorem Reads.lenCell{w:World}{B n:Nat}{A:Option Addr}{l:List zab}(h:Reads w B 5 A n (recs za4 l)):n=l.length:=h.lenR (f:=za4) (sz:=5) (fun _=>rfl) (by omega)
def zh8(f t s:Nat):Nat:=(t-f+s-1)/s
def z0z(f t s i:Nat):Int × Int:=(((f+i*s:Nat):Int),((min (f+(i+1)*s) t:Nat):Int))
def zgw(f t s:Nat):List (Int × Int):=(List.range (zh8 f t s)).map (z0z f t s)
theorem zgx{f t s:Nat}(hs:0<s)(k:Nat):k<zh8 f t s↔f+k*s<t:=by unfold zh8;rw[<-Nat.succ_le_iff,Nat.le_div_iff_mul_le hs,qn2];omega
theorem z00{f t s:Nat}(hs:0<s):zh8 f t s<=t-f:=by
 rcases qmm (zh8 f t s) with h|h
 ·omega
 ·have:=(zgx (f:=f) (t:=t) hs (zh8 f t s-1)).1 (by omega)
  have:zh8 f t s-1<=(zh8 f t s-1)*s:=Nat.le_mul_of_pos_right _ hs;omega
theorem zgb(f t s:Nat):(zgw f t s).length=zh8 f t s:=by simp[zgw]
theorem zpq{f t s i:Nat}(hi:i<zh8 f t s):(zgw f t s).getD i (0,0)=z0z f t s i:=by simp[zgw,List.getD_eq_getElem?_getD,List.getElem?_map,List.getElem?_range hi]
theorem zpr{f t s k:Nat}(hk:k<zh8 f t s):(zgw f t s).take (k+1)=(zgw f t s).take k++[z0z f t s k]:=by rw[zae _ k (0,0) (by rw[zgb];exact hk),zpq hk]
def atN(f t s k:Nat):Nat:=min (f+k*s) t
theorem z01{f t s k:Nat}(hk:f+k*s<t):atN f t s k=f+k*s/\atN f t s (k+1)=atN f t s k+min s (t-atN f t s k)/\z0z f t s k=((atN f t s k:Int),(atN f t s (k+1):Int)):=by
 have h1:atN f t s k=f+k*s:=by unfold atN;omega
 refine⟨h1,?_,?_⟩
 ·rw[h1];unfold atN;rw[qn2];omega
 ·rw[h1];rfl
def zd5(f t s:Int):List (Int × Int):=if f<0\/t<=f\/65536<t\/s<1 then [] else zgw f.toNat t.toNat s.toNat
theorem zvv{f t s:Int}(h:f<0\/t<=f\/65536<t\/s<1):zd5 f t s=[]:=by rw[zd5,if_pos h]
theorem z02{f t s:Nat}(h1:f<t)(h2:t<=65536)(h3:0<s):zd5 f t s=zgw f t s:=by rw[zd5,if_neg (by omega)];simp
theorem zts(f t s:Int):(zd5 f t s).length<=65536:=by
 unfold zd5;split
 ·simp
 ·rw[zgb]
  have:=z00 (f:=f.toNat) (t:=t.toNat) (s:=s.toNat) (by omega);omega
def qk0(x:Int × Int)(f t:Int):Prop:=x.1<t/\f<x.2/\f<t
instance(x:Int × Int)(f t:Int):Decidable (qk0 x f t):=by unfold qk0;exact inferInstance
open Go Go.RowKit
inductive Plan3 where
 |done
 |quiet (i:Nat) (p:Plan3)
 |alone (i:Nat) (p:Plan3)
 |two (i:Nat) (p:Plan3) (j:Nat) (q:Plan3)
 |three (i:Nat) (p:Plan3) (j:Nat) (q:Plan3) (k:Nat) (r:Plan3)
section
variable{P:Program}{ops:Array Oper}{Q:Exit->Act->World->Prop}
def Plan3.ok(ops:Array Oper):Array Bool->Plan3->Bool
 |listed,.done=>(Region.ready .any ops listed).isEmpty
 |listed,.quiet i p=>(Region.ready .any ops listed).contains i&&(Region.free .any ops listed i&&p.ok ops (listed.setIfInBounds i true))
 |listed,.alone i p=>decide (Region.ready .any ops listed=[i])&&p.ok ops (listed.setIfInBounds i true)
 |listed,.two i p j q=>decide (Region.ready .any ops listed=[i,j])&&(p.ok ops (listed.setIfInBounds i true)&&q.ok ops (listed.setIfInBounds j true))
 |listed,.three i p j q k r=>decide (Region.ready .any ops listed=[i,j,k])&&(p.ok ops (listed.setIfInBounds i true)&&(q.ok ops (listed.setIfInBounds j true)&&r.ok ops (listed.setIfInBounds k true)))
def Plan3.size:Plan3->Nat
 | .done=>0
 | .quiet _ p=>p.size+1
 | .alone _ p=>p.size+1
 | .two _ p _ q=>Nat.max p.size q.size+1
 | .three _ p _ q _ r=>Nat.max p.size (Nat.max q.size r.size)+1
def zgo(P:Program)(ops:Array Oper)(R:World->World->Prop)(Q:Exit->Act->World->Prop)(i:Nat)(K:Act->World->Prop)(a:Act)(w:World):Prop:=
 ∃o,ops[i]? =some o/\if Region.wanted o (yielded ops a.tmps) then o.wp P a w (fun a' w'=>R w w'/\K a' w') (NoPanic Q) else K (a.put o.dst undef) w
def zdg(P:Program)(ops:Array Oper)(R:World->World->Prop)(Q:Exit->Act->World->Prop):Plan3->Act->World->Prop
 | .done,a,w=>Q .normal a w
 | .quiet i p,a,w=>∃o v,ops[i]? =some o/\((Region.wanted o (yielded ops a.tmps)=true/\ ∀w',R w w'->(execOp a.eval o).run P w'= .ok (.value v) w')\/(Region.wanted o (yielded ops a.tmps)=false/\v=undef))/\zdg P ops R Q p (a.put o.dst v) w
 | .alone i p,a,w=>zgo P ops R Q i (zdg P ops R Q p) a w
 | .two i p j q,a,w=>zgo P ops R Q i (zdg P ops R Q p) a w/\zgo P ops R Q j (zdg P ops R Q q) a w
 | .three i p j q k r,a,w=>zgo P ops R Q i (zdg P ops R Q p) a w/\(zgo P ops R Q j (zdg P ops R Q q) a w/\zgo P ops R Q k (zdg P ops R Q r) a w)
variable{R:World->World->Prop}
theorem zqk(hrefl:∀w,R w w)(htrans:∀{x y z},R x y->R y z->R x z)(hs:Region.noSelect ops=true):
 ∀(p:Plan3) (fuel:Nat) (listed:Array Bool) (a:Act) (w:World),p.size<=fuel->p.ok ops listed=true->zdg P ops R Q p a w->wpAnyH P .any ops (NoPanic Q) (R w) fuel listed a w:=by
 have key:∀(p:Plan3),(∀(fuel:Nat) (listed:Array Bool) (a:Act) (w:World),p.size<=fuel->p.ok ops listed=true->zdg P ops R Q p a w->wpAnyH P .any ops (NoPanic Q) (R w) fuel listed a w)->
  ∀(j:Nat) (fuel:Nat) (listed:Array Bool) (a:Act) (w:World),p.size<=fuel->p.ok ops (listed.setIfInBounds j true)=true->zgo P ops R Q j (zdg P ops R Q p) a w->
   wpOp P ops (NoPanic Q) j (fun a' w'=>R w w'/\wpAnyH P .any ops (NoPanic Q) (R w) fuel (listed.setIfInBounds j true) a' w') a w:=by
  intro p ih j fuel listed a w hl h3 hc;obtain⟨o,ho,hc⟩:=hc;unfold wpOp;simp only[ho];split
  ·rename_i hw
   rw[if_pos hw] at hc;exact .inl (Oper.wp_mono (fun a' w' hh=>⟨hh.1,zhx (fun z hz=>htrans hh.1 hz) fuel _ a' w' (ih fuel _ a' w' hl h3 hh.2)⟩) hc)
  ·rename_i hw
   rw[if_neg hw] at hc;exact⟨hrefl w,ih fuel _ _ w hl h3 hc⟩
 intro p;induction p with
 |done=>
  intro fuel listed a w _ hok h;exact wpAnyH_done (by simpa[Plan3.ok] using hok) (NoPanic.normal h) fuel
 |quiet i p ih=>
  intro fuel listed a w hl hok h;obtain⟨fuel,rfl⟩:∃k,fuel=k+1:=⟨fuel-1,by simp[Plan3.size] at hl;omega⟩;obtain⟨o,v,ho,hv,hr⟩:=h;simp only[Plan3.ok,qnt] at hok;obtain⟨h1,h2,h3⟩:=hok;exact wpAnyH_take ho hs h2 h1 (fun _ _ _ hp=>hp) hv (hrefl w) (ih fuel _ _ w (by simp[Plan3.size] at hl;omega) h3 hr)
 |alone i p ih=>
  intro fuel listed a w hl hok h;obtain⟨fuel,rfl⟩:∃k,fuel=k+1:=⟨fuel-1,by simp[Plan3.size] at hl;omega⟩;simp only[Plan3.ok,qnt,decide_eq_true_eq] at hok;obtain⟨h1,h3⟩:=hok;refine wpAnyH_all h1 (by simp) ?_;intro j hj;obtain rfl:j=i:=by simpa using hj
  exact key p ih j fuel listed a w (by simp[Plan3.size] at hl;omega) h3 h
 |two i p j q ihp ihq=>
  intro fuel listed a w hl hok h;obtain⟨fuel,rfl⟩:∃k,fuel=k+1:=⟨fuel-1,by simp[Plan3.size] at hl;omega⟩;simp only[Plan3.ok,qnt,decide_eq_true_eq] at hok;obtain⟨h1,h3,h4⟩:=hok;have hl':Nat.max p.size q.size<=fuel:=by simp[Plan3.size] at hl;exact hl
  refine wpAnyH_all h1 (by simp) ?_;intro k hk;have hk:k=i\/k=j:=by simpa using hk
  rcases hk with rfl|rfl
  ·exact key p ihp k fuel listed a w (qlw (qq2 _ _) hl') h3 h.1
  ·exact key q ihq k fuel listed a w (qlw (qq3 _ _) hl') h4 h.2
 |three i p j q l r ihp ihq ihr=>
  intro fuel listed a w hl hok h;obtain⟨fuel,rfl⟩:∃k,fuel=k+1:=⟨fuel-1,by simp[Plan3.size] at hl;omega⟩;simp only[Plan3.ok,qnt,decide_eq_true_eq] at hok;obtain⟨h1,h3,h4,h5⟩:=hok;have hl':Nat.max p.size (Nat.max q.size r.size)<=fuel:=by simp[Plan3.size] at hl;exact hl
  refine wpAnyH_all h1 (by simp) ?_;intro k hk;have hk:k=i\/k=j\/k=l:=by simpa using hk
  rcases hk with rfl|rfl|rfl
  ·exact key p ihp k fuel listed a w (qlw (qq2 _ _) hl') h3 h.1
  ·exact key q ihq k fuel listed a w (qlw (qlw (qq2 _ _) (qq3 _ _)) hl') h4 h.2.1
  ·exact key r ihr k fuel listed a w (qlw (qlw (qq3 _ _) (qq3 _ _)) hl') h5 h.2.2
theorem zql{id:Nat}{a:Act}{w:World}(R:World->World->Prop)(p:Plan3)(hrefl:∀w,R w w)(htrans:∀{x y z},R x y->R y z->R x z)(hm:P.follows .mixedOrders=true)
 (hs:Region.noSelect ops=true)(hl:decide (p.size<=ops.size)=true)(hok:p.ok ops (Array.replicate ops.size false)=true)(h:zdg P ops R Q p a w.drew):(Code.region id ops true).wp P Q a w:=
 wp_region_noPanic (wp_region_held hm (zqk hrefl htrans hs p ops.size _ a _ (by simpa using hl) hok h))
variable{i j:Nat}{p q:Plan3}{a:Act}{w:World}{v:Value}
theorem zsi(h:Q .normal a w):zdg P ops R Q .done a w:=h
section
variable{dst:Option Tmp}{op:Op}{ty:TypeId}{pos:String}{af:Array Edge}{gd:Option (Nat × Bool)}
theorem zki(ho:ops[i]? =some ⟨dst,op,ty,pos,af,gd⟩)(hw:Region.wanted ⟨dst,op,ty,pos,af,gd⟩ (yielded ops a.tmps)=true)(hv:∀w',R w w'->(execOp a.eval ⟨dst,op,ty,pos,af,gd⟩).run P w'= .ok (.value v) w')(h:zdg P ops R Q p (a.put dst v) w):zdg P ops R Q (.quiet i p) a w:=
 ⟨_,v,ho,.inl ⟨hw,hv⟩,h⟩
theorem zjw{K0:Act->World->Prop}(ho:ops[i]? =some ⟨dst,op,ty,pos,af,gd⟩)(hw:Region.wanted ⟨dst,op,ty,pos,af,gd⟩ (yielded ops a.tmps)=true)(h:∀K:Act->World->Prop,(∀a' w',R w w'->K0 a' w'->K a' w')->Oper.wp P ⟨dst,op,ty,pos,af,gd⟩ a w K (NoPanic Q)):zgo P ops R Q i K0 a w:=
 ⟨_,ho,by rw[if_pos hw];exact h _ fun _ _ h1 h2=>⟨h1,h2⟩⟩
theorem zic(h:zgo P ops R Q i (zdg P ops R Q p) a w):zdg P ops R Q (.alone i p) a w:=h
theorem z91(h:zgo P ops R Q i (zdg P ops R Q p) a w)(h2:zgo P ops R Q j (zdg P ops R Q q) a w):zdg P ops R Q (.two i p j q) a w:=⟨h,h2⟩
end
end
end Go.Hm
