/- Merged. -/
import Derived.Deep.RegionHeld3
import Derived.Shelf.Strconv.Itoa0
import Derived.Test.YtbahbnbpmfgimaaGreatDoorBun1
import Derived.Test.YtbahbnbpmfgimaaGreatDoorRows
set_option maxHeartbeats 200000
namespace Go.Proofs.Y
open Go.Shelf
def zxq:Go.Shelf.Ren:=⟨fun|129=>120|n=>n,fun|53=>138|3=>3|4=>4|46=>170|5=>5|9=>9|n=>n,fun|n=>n⟩
theorem qgg:Go.Proofs.Lays.n129 Tryz.prog zxq:={
 mixed:=by kernel_rfl
 f129:=Tryz.func120.trans (congrArg some (by kernel_rfl))
 t3:=Tryz.underlying3
 a3:=Tryz.isAgg3
 z3:=Tryz.sizeOf3
 v3:=Tryz.zeroValue3
 t4:=Tryz.underlying4
 a4:=Tryz.isAgg4
 z4:=Tryz.sizeOf4
 v4:=Tryz.zeroValue4
 t5:=Tryz.underlying5
 a5:=Tryz.isAgg5
 z5:=Tryz.sizeOf5
 v5:=Tryz.zeroValue5
 t9:=Tryz.underlying9
 a9:=Tryz.isAgg9
 z9:=Tryz.sizeOf9
 v9:=Tryz.zeroValue9
 t46:=Tryz.underlying170
 a46:=Tryz.isAgg170
 z46:=Tryz.sizeOf170
 v46:=Tryz.zeroValue170
 t53:=Tryz.underlying138
 a53:=Tryz.isAgg138
 z53:=Tryz.sizeOf138
 v53:=Tryz.zeroValue138}
theorem bits_Len64(x:Int)(w:World)(h0:0<=x)(h1:x<=18446744073709551615):
 Calls Tryz.prog 120 #[.int .u64 x] w fun e w'=>e= .returned (.int .i64 (Lib.bitLen x.toNat))/\w'=w:=Any.bits_Len64 qgg x w h0 h1
open Go.Hm
theorem Tryz.own:ownKnob Tryz.prog.godebug=none:=by kernel_rfl
theorem Tryz.laidOut:laidOutB Tryz.prog=true:=by kernel_rfl
theorem elB:ElT Tryz.prog 24 5 (.int .u8 0) 1 1:=⟨by kernel_rfl,by kernel_rfl,rfl,by omega⟩
theorem elW:ElT Tryz.prog 201 138 (.int .u64 0) 1 8:=⟨by kernel_rfl,by kernel_rfl,rfl,by omega⟩
theorem elI:ElT Tryz.prog 57 3 (.int .i64 0) 1 8:=⟨by kernel_rfl,by kernel_rfl,rfl,by omega⟩
theorem zni{w:World}{B n c:Nat}{A:Option Addr}{l:List Nat}(h:Reads w B 1 A n (zan .u8 l)):(convert 24 9 (.slice A n c)).run Tryz.prog w= .ok (.string (zae l)) w:=
 qgf (e:=5) (by kernel_rfl) (by kernel_rfl) (by kernel_rfl) h
end Go.Proofs.Y
namespace Go.Hm
def vp(n:Nat):List Nat:=if _h:n<128 then [n] else(n%128+128)::vp (n/128)
theorem zf2{n:Nat}(h:n<128):vp n=[n]:=by rw[vp,dif_pos h]
theorem zf3{n:Nat}(h: ¬n<128):vp n=(n%128+128)::vp (n/128):=by rw[vp,dif_neg h]
theorem qi8(k:Nat):∀n,n<128^(k+1)->(vp n).length<=k+1:=by
 induction k with
 |zero=>intro n h;rw[zf2 (by omega)];simp
 |succ k ih=>
  intro n h;by_cases hn:n<128
  ·rw[zf2 hn];simp
  ·rw[zf3 hn]
   have:=ih (n/128) (qns (by rw[qnq] at h;omega));simp;omega
theorem zap{n:Nat}(h:n<18446744073709551616):(vp n).length<=10:=qi8 9 n (by omega)
theorem zug(n:Nat):0<(vp n).length:=by
 by_cases hn:n<128
 ·rw[zf2 hn];simp
 ·rw[zf3 hn];simp
def low(n:Nat):Nat->List Nat
 |0=>[]
 |k+1=>low n k++[n/256^k%256]
theorem zbg(n k:Nat):(low n k).length=k:=by induction k<;> simp_all[low]
def num:List Nat->Nat
 | []=>0
 |b::l=>b+256*num l
theorem zz0(l:List Nat)(b:Nat):num (l++[b])=num l+b*256^l.length:=by
 induction l with
 |nil=>simp[num]
 |cons a l ih=>simp only[qnt,num,ih,qnu,qnq];rw[qnv,qmk];congr 2;rw[qnw,qne 256]
theorem zq7(l:List Nat)(h:∀x∈l,x<256):num l<256^l.length:=by
 induction l with
 |nil=>simp[num]
 |cons a l ih=>
  have h1:=ih fun x hx=>h x (by simp[hx])
  have h2:=h a (by simp);simp only[num,qnu,qnq];omega
theorem zad{α:Type}(l:List α)(k:Nat)(d:α)(h:k<l.length):l.take (k+1)=l.take k++[l.getD k d]:=by rw[List.take_add_one,qmm h];simp[h]
theorem z5p(n k:Nat):num (low n k)=n%256^k:=by
 induction k with
 |zero=>simp[low,num,Nat.mod_one]
 |succ k ih=>
  rw[low,zz0,ih,zbg,qnq,Nat.mod_mul,qne (256^k)]
theorem zg1(n k:Nat):∀x∈low n k,x<256:=by
 induction k with
 |zero=>intro x hx;simp[low] at hx
 |succ k ih=>
  intro x hx;simp only[low,qny,qnz] at hx;rcases hx with hx|hx
  ·exact ih x hx
  ·subst hx;exact qn0 _ (by omega)
theorem zjt{α:Type}(l:List α)(k:Nat)(d:α)(h:k<l.length):l.drop k=l.getD k d::l.drop (k+1):=by rw[qm4 h];simp[h]
theorem zkm{n k:Nat}(h:n<256^k):num (low n k)=n:=by rw[z5p,qn1 h]
open Go.RowKit
theorem Own.at0{w:World}{base:Nat}{e:TypeId}{g n c i:Nat}{xs:List Value}(h:Own w base e (.slice (some ⟨g,0,none⟩) n c) xs)(hi:i<n):
 ∃u,xs[i]? =some u/\base<=g/\g<w.heap.size/\w.cell? ⟨g,i,none⟩=some u/\w.frozen? ⟨g,i,none⟩=false/\
  ∀u':Value,Own (w.setCell ⟨g,i,none⟩ u') base e (.slice (some ⟨g,0,none⟩) n c) (xs.set i u'):=by
 obtain⟨g',u,he,h1,h2,h3,h4,h5,h6⟩:=h.at_ hi;injection he with he;injection he with he;subst he;exact⟨u,h3,h1,h2,h4,h5,h6⟩
theorem Own.num0{w:World}{base:Nat}{e:TypeId}{g n c i:Nat}{k:IntKind}{l:List Nat}(h:Own w base e (.slice (some ⟨g,0,none⟩) n c) (zan k l))(hi:i<n):
 base<=g/\g<w.heap.size/\w.cell? ⟨g,i,none⟩=some (.int k ((l.getD i 0:Nat):Int))/\w.frozen? ⟨g,i,none⟩=false/\
  ∀y:Nat,Own (w.setCell ⟨g,i,none⟩ (.int k (y:Int))) base e (.slice (some ⟨g,0,none⟩) n c) (zan k (l.set i y)):=by
 have hn:=h.len;rw[zaa] at hn;obtain⟨u,h3,h1,h2,h4,h5,h6⟩:=h.at0 hi;rw[zxp k l i (by omega)] at h3;injection h3 with h3;subst h3;exact⟨h1,h2,h4,h5,fun y=>by rw[<-qbm];exact h6 _⟩
theorem ql2(a b:Nat)(ha:a<=9223372036854775807):IntKind.i64.wrap ((a:Int)/(b:Int))=((a/b:Nat):Int):=by rw[<-Int.natCast_ediv];have:a/b<=a:=qn2 _ _;generalize a/b=q at*;exact IntWalk.i64_in _ (by omega)
theorem zsh(a:Nat)(ha:a<=9223372036854775807):∃q r:Nat,Hid (q=a/8/\r=a%8)/\8*q<=a/\r<8/\a<8*q+8/\IntKind.i64.wrap ((a:Int)/8)=(q:Int)/\(a:Int).tmod 8=(r:Int):=
 ⟨a/8,a%8,Hz ⟨rfl,rfl⟩,by omega,by omega,by omega,ql2 a 8 ha,by rw[qn3 (by omega)];omega⟩
theorem qk7(y j:Nat)(hy:y<=18446744073709551615):∃t:Nat,Hid (t=y/2^j%2)/\t<=1/\bits .and .u64 ((y:Int)/2^j) 1=(t:Int)/\IntKind.u8.wrap (t:Int)=(t:Int):=by refine⟨y/2^j%2,Hz rfl,by omega,?_,by rw[IntKind.wrap_u8];omega⟩;have h1:y/2^j<=y:=qn2 _ _;have:=u64_and_nat (y/2^j) 1 (by omega) (by omega);rw[Nat.and_one_is_mod] at this;rw[<-this];congr 1
theorem qgh(b r q:Nat)(hb:b<2^r)(hc:q<=1)(hr:r<8):bits .or .u8 (b:Int) ((q:Int)*2^r%256)=((b+q*2^r:Nat):Int):=by
 have h7:2^r<=2^7:=qn4 (by omega) (by omega);have hq:q*2^r<=1*2^r:=qms _ hc;have e:((q:Int)*2^r%256)=((q*2^r:Nat):Int):=by
  have e2:((q*2^r:Nat):Int)=(q:Int)*2^r:=by simp
  rw[<-e2];omega
 rw[e,u8_or_nat _ _ (by omega) (by omega),qn5,<-qne (2^r),<-qn6 hb,qn7]
open Go Go.RowKit
theorem zuh(l:List Nat)(i j:Nat):(zae l).extract i j=zae ((l.drop i).take (j-i)):=by refine ByteArray.ext ?_;rw[ByteArray.data_extract];show((l.map UInt8.ofNat).toArray).extract i j=(((l.drop i).take (j-i)).map UInt8.ofNat).toArray;simp
theorem z5q(l:List Nat)(i:Nat):(zae l).extract i l.length=zae (l.drop i):=by rw[zuh,qnn (by rw[qmp];omega)]
theorem qbn(l:List Nat)(k:Nat)(h8:∀x∈l,x<256)(hk:k<(zae l).size):((zae l)[k]'hk).toNat=l.getD k 0:=by
 have hk':k<l.length:=by rwa[zbt] at hk
 show(((l.map UInt8.ofNat).toArray)[k]'(by simpa using hk')).toNat=_;simp only[List.getElem_toArray,qn8,qn9];rw[qoa,qmm hk',qob];exact qn1 (h8 _ (qm8 hk'))
section
variable{P:Program}{t:TypeId}
theorem z5r(ht:P.underlying t=some .string)(l:List Nat)(h8:∀x∈l,x<256)(k:Nat)(hk:k<l.length)(w:World):
 (Instr.index t (.string (zae l)) (.int .i64 (k:Int))).run P w= .ok (.int .u8 ((l.getD k 0:Nat):Int)) w:=by
 rw[run_index_string w t (zae l) .i64 (k:Int) ht,dif_pos ⟨by omega,by rw[zbt];omega⟩];rw[qbn l _ h8];simp
theorem qbo(ht:P.underlying t=some .string)(l:List Nat)(k:Nat)(hk:k<=l.length)(w:World):
 (Instr.slice t (.string (zae l)) (some (.int .i64 (k:Int))) none none).run P w= .ok (.string (zae (l.drop k))) w:=by
 rw[run_slice_string_from_if w t (zae l) .i64 (k:Int) ht,if_pos ⟨by omega,by rw[zbt];omega⟩,qng,zbt,z5q]
end
theorem zsi(l:List Nat)(h8:∀x∈l,x<256):Lib.strCells (zae l)=zan .u8 l:=by
 unfold Lib.strCells zan;show((l.map UInt8.ofNat).toArray.toList).map _=_;simp only[qoc];refine qod fun x hx=>?_
 simp only[Function.comp,qn9];rw[qn1 (by have:=h8 x hx;omega)]
def zq8(l:List (List Nat)):List Value:=l.map fun s=> .string (zae s)
theorem zob(l:List (List Nat)):(zq8 l).length=l.length:=by simp[zq8]
theorem z5s(l:List (List Nat))(i:Nat)(h:i<l.length):(zq8 l)[i]? =some (.string (zae (l.getD i []))):=by simp[zq8,List.getElem?_eq_getElem h]
theorem Reads.lenT{w:World}{B n:Nat}{A:Option Addr}{l:List (List Nat)}(h:Reads w B 1 A n (zq8 l)):n=l.length:=by have:=h.1;rw[zob] at this;omega
theorem Reads.str{w:World}{B n:Nat}{A:Option Addr}{l:List (List Nat)}{i:Nat}(h:Reads w B 1 A n (zq8 l))(hi:i<n):∃ad,A=some ad/\ad.block<B/\w.cell? (ad.add i)=some (.string (zae (l.getD i []))):=by
 obtain⟨ad,u,e,hb,hu,hc⟩:=h.at_ hi;have hl:i<l.length:=by have:=h.lenT;omega
 rw[z5s l i hl] at hu;injection hu with hu;subst hu;exact⟨ad,e,hb,hc⟩
theorem zoc{L:List (List Nat)}{k:Nat}{Q:List Nat->Prop}(h:∀x∈L,Q x)(hk:k<L.length):Q (L.getD k []):=by rw[qoa,qmm hk];exact h _ (qm8 hk)
section
variable{P:Program}{ops:Array Oper}{rest:List Oper}{o:Oper}{a:Act}{Q:Exit->Act->World->Prop}
theorem zd6{w:World}{t e ts:TypeId}(E:ElT P t e (.int .u8 0) 1 1)(hts:P.underlying ts=some .string)(hgd:o.guard=none)(s x:Operand)
 (ho:o.op= .call {callee:= .builtin .append,args:= #[s,x],argTypes:= #[t,ts]})
 {W:World}{B base n c:Nat}{A:Option Addr}{l l2:List Nat}(hown:Own w base e (.slice A n c) (zan .u8 l))(h8:∀x∈l2,x<256)(hs:a.eval s= .slice A n c)(hx:a.eval x= .string (zae l2))
 (hb:Below B W w)(hbB:B<=base)(hbase:base<=w.heap.size)(hn:n+l2.length<=140737488355328)
 (h:∀A' c' w',n+l2.length<=c'->c'<=maxLen->Own w' base e (.slice A' (n+l2.length) c') (zan .u8 (l++l2))->w.grownBy w' (Value.ownBlock (.slice A n c))->Below B W w'->wpList P ops Q rest (a.put o.dst (.slice A' (n+l2.length) c')) w'):
 wpList P ops Q (o::rest) a w:=by
 obtain⟨i,hi,hz0,hz1,hz2⟩:=info_parts E.hi;have hln:=hown.len;rw[zaa] at hln;have hown':w.ownsRow base e 1 (.slice A n c) n (zan .u8 l):=by unfold Own at hown;rwa[zaa,<-hln] at hown
 refine Lib.wpList_append_own_string w hgd s x t ts ho base e i E.ht hts hi hz0 hz1 hz2 _ n _ hs hown' (zae l2) hx (by rw[zbt];unfold maxLen;omega) (by rw[zbt];exact hn) hbase ?_;intro v' w' h1 h2 _;rw[zsi l2 h8,<-zdl,zbt] at h1;have hown2:Own w' base e v' (zan .u8 (l++l2)):=by unfold Own;rw[zaa,qni,<-hln];exact h1
 obtain⟨A',c',rfl,hc1,hc2⟩:=hown2.slice;rw[zaa,qni,<-hln] at hc1 hown2⊢;exact h A' c' w' hc1 hc2 hown2 h2 (hb.grown h2 (qml hbB hbase) (fun k hk=>by have:=(hown.lt k hk).1;omega))
end
open Go.RowKit
section
variable{P:Program}{ops:Array Oper}{Q:Exit->Act->World->Prop}
theorem zfr{S S':World->Prop}(h:∀w,S w->S' w):∀(fuel:Nat) (listed:Array Bool) (a:Act) (w:World),wpAnyH P .any ops Q S fuel listed a w->wpAnyH P .any ops Q S' fuel listed a w
 |0,_,_,_,hh=>hh
 |fuel+1,_,_,_,hh=>⟨hh.1,fun i hi=>wpOp_mono (fun a' w' h'=>⟨h w' h'.1,zfr h fuel _ a' w' h'.2⟩) (hh.2 i hi)⟩
def qgi(ops:Array Oper):Array Bool->List (Bool × Nat)->Bool
 |listed,[]=>(Region.ready .any ops listed).isEmpty
 |listed,(true,i)::r=>(Region.ready .any ops listed).contains i&&(Region.free .any ops listed i&&qgi ops (listed.setIfInBounds i true) r)
 |listed,(false,i)::r=>decide (Region.ready .any ops listed=[i])&&qgi ops (listed.setIfInBounds i true) r
def z5j(P:Program)(ops:Array Oper)(R:World->World->Prop)(Q:Exit->Act->World->Prop):List (Bool × Nat)->Act->World->Prop
 | [],a,w=>Q .normal a w
 |(true,i)::r,a,w=>∃o v,ops[i]? =some o/\((Region.wanted o (yielded ops a.tmps)=true/\ ∀w',R w w'->(execOp a.eval o).run P w'= .ok (.value v) w')\/(Region.wanted o (yielded ops a.tmps)=false/\v=undef))/\z5j P ops R Q r (a.put o.dst v) w
 |(false,i)::r,a,w=>∃o,ops[i]? =some o/\if Region.wanted o (yielded ops a.tmps) then o.wp P a w (fun a' w'=>R w w'/\z5j P ops R Q r a' w') (NoPanic Q) else z5j P ops R Q r (a.put o.dst undef) w
variable{R:World->World->Prop}
theorem zui(hrefl:∀w,R w w)(htrans:∀{x y z},R x y->R y z->R x z)(hs:Region.noSelect ops=true):
 ∀(ord:List (Bool × Nat)) (fuel:Nat) (listed:Array Bool) (a:Act) (w:World),ord.length<=fuel->qgi ops listed ord=true->z5j P ops R Q ord a w->wpAnyH P .any ops (NoPanic Q) (R w) fuel listed a w:=by
 intro ord;induction ord with
 |nil=>
  intro fuel listed a w _ hok h;exact wpAnyH_done (by simpa[qgi] using hok) (NoPanic.normal h) fuel
 |cons x r ih=>
  obtain⟨b,i⟩:=x;intro fuel listed a w hl hok h;obtain⟨fuel,rfl⟩:∃k,fuel=k+1:=⟨fuel-1,by simp at hl;omega⟩;have hl':r.length<=fuel:=by simp at hl;omega
  cases b with
  |true=>
   obtain⟨o,v,ho,hv,hr⟩:=h;simp only[qgi,qoe] at hok;obtain⟨h1,h2,h3⟩:=hok;exact wpAnyH_take ho hs h2 h1 (fun _ _ _ hp=>hp) hv (hrefl w) (ih fuel _ _ w hl' h3 hr)
  |false=>
   obtain⟨o,ho,hc⟩:=h;simp only[qgi,qoe,decide_eq_true_eq] at hok;obtain⟨h1,h3⟩:=hok;refine wpAnyH_all h1 (by simp) ?_;intro j hj;obtain rfl:j=i:=by simpa using hj
   unfold wpOp;simp only[ho];split
   ·rename_i hw
    rw[if_pos hw] at hc;exact .inl (Oper.wp_mono (fun a' w' hh=>⟨hh.1,zfr (fun z hz=>htrans hh.1 hz) fuel _ a' w' (ih fuel _ a' w' hl' h3 hh.2)⟩) hc)
   ·rename_i hw
    rw[if_neg hw] at hc;exact⟨hrefl w,ih fuel _ _ w hl' h3 hc⟩
theorem zax{id:Nat}{a:Act}{w:World}(R:World->World->Prop)(ord:List (Bool × Nat))(hrefl:∀w,R w w)(htrans:∀{x y z},R x y->R y z->R x z)(hm:P.follows .mixedOrders=true)
 (hs:Region.noSelect ops=true)(hl:decide (ord.length<=ops.size)=true)(hok:qgi ops (Array.replicate ops.size false) ord=true)(h:z5j P ops R Q ord a w.drew):(Code.region id ops true).wp P Q a w:=
 wp_region_noPanic (wp_region_held hm (zui hrefl htrans hs ord ops.size _ a _ (by simpa using hl) hok h))
abbrev New(w w':World):Prop:=Below w.heap.size w w'
theorem New.refl(w:World):New w w:=Below.refl _ _
theorem New.trans{x y z:World}(h:New x y)(k:New y z):New x z:=Below.trans h (Below.mono k h.size)
theorem New.drew(w:World):New w w.drew:=(Below.refl _ _).drew
abbrev Far(g:Nat)(w w':World):Prop:=w.grownBy w' (some g)
theorem Far.refl(g:Nat)(w:World):Far g w w:=World.grownBy.refl w _
theorem Far.trans{g:Nat}{x y z:World}(h:Far g x y)(k:Far g y z):Far g x z:=World.grownBy.trans h k
theorem Far.drew(g:Nat)(w:World):Far g w w.drew:=⟨rfl,rfl,rfl,qmt _,fun _ _ _=>rfl⟩
theorem Far.of_new{g:Nat}{w w':World}(h:New w w'):Far g w w':=⟨h.os,h.tape,h.output,h.size,fun k hk _=>h.block k hk⟩
theorem Far.below{g B:Nat}{a w w':World}(h:Below B a w)(hg:Far g w w')(hB:B<=g)(hBw:B<=a.heap.size):Below B a w':=zbj h hg hB hBw
theorem New.far{w w0 w1:World}{g:Nat}(h:New w w0)(k:Far g w0 w1)(hg:w.heap.size<=g):New w w1:=Far.below h k hg (qmt _)
variable{i:Nat}{r:List (Bool × Nat)}{a:Act}{w:World}{o:Oper}{v:Value}
theorem zdh(h:Q .normal a w):z5j P ops R Q [] a w:=h
section
variable{dst:Option Tmp}{op:Op}{ty:TypeId}{pos:String}{af:Array Edge}{gd:Option (Nat × Bool)}
theorem zar(ho:ops[i]? =some ⟨dst,op,ty,pos,af,gd⟩)(hw:Region.wanted ⟨dst,op,ty,pos,af,gd⟩ (yielded ops a.tmps)=true)(hv:∀w',R w w'->(execOp a.eval ⟨dst,op,ty,pos,af,gd⟩).run P w'= .ok (.value v) w')(h:z5j P ops R Q r (a.put dst v) w):z5j P ops R Q ((true,i)::r) a w:=
 ⟨_,v,ho,.inl ⟨hw,hv⟩,h⟩
theorem qgj{b:Bool}(ho:ops[i]? =some ⟨dst,op,ty,pos,af,gd⟩)(hw:Region.wanted ⟨dst,op,ty,pos,af,gd⟩ (yielded ops a.tmps)=false)(h:z5j P ops R Q r (a.put dst undef) w):z5j P ops R Q ((b,i)::r) a w:=by
 cases b
 ·exact⟨_,ho,by rw[if_neg (by simp[hw])];exact h⟩
 ·exact⟨_,undef,ho,.inr ⟨hw,rfl⟩,h⟩
theorem zba(ho:ops[i]? =some ⟨dst,op,ty,pos,af,gd⟩)(hw:Region.wanted ⟨dst,op,ty,pos,af,gd⟩ (yielded ops a.tmps)=true)(h:∀K:Act->World->Prop,(∀a' w',R w w'->z5j P ops R Q r a' w'->K a' w')->Oper.wp P ⟨dst,op,ty,pos,af,gd⟩ a w K (NoPanic Q)):z5j P ops R Q ((false,i)::r) a w:=
 ⟨_,ho,by rw[if_pos hw];exact h _ fun _ _ h1 h2=>⟨h1,h2⟩⟩
end
end
open Go
theorem zq9(x y k:Nat)(hy:y<2^k):(x*2^k) ||| y=x*2^k+y:=by rw[qne,<-qn6 hy]
theorem z5t(x y k:Nat)(hy:y<2^k)(hx:x%2^k=0):x ||| y=x+y:=nat_join k x y hx hy
theorem qk8(x:Nat):bits .or .u8 ((x:Int)%256) 128=((x%128+128:Nat):Int):=by
 have h:=u8_or_nat (x%256) 128 (by omega) (by omega);rw[show((x:Int)%256)=((x%256:Nat):Int) from by omega,show(128:Int)=((128:Nat):Int) from rfl,h];congr 1
 by_cases hx:x%256<128
 ·rw[qn5,z5t 128 (x%256) 7 hx rfl];omega
 ·have e:x%256=128+x%128:=by omega
  rw[e,qn5,<-z5t 128 (x%128) 7 (by omega) rfl,<-Nat.or_assoc,Nat.or_self,z5t 128 (x%128) 7 (by omega) rfl];omega
theorem zhp(T:List Nat)(k:Nat)(hk:k<=T.length)(h8:∀x∈T,x<256):num (T.take k)<2^(8*k):=by have h:=zq7 (T.take k) (fun x hx=>h8 x (qnh hx));rw[qmq,qmr hk,show(256:Nat)=2^8 from rfl,<-qoi] at h;exact h
theorem zfj(T:List Nat)(k:Nat)(h8:∀x∈T,x<256):T.getD k 0<256:=by
 by_cases hk:k<T.length
 ·rw[qoa,qmm hk]
  exact h8 _ (qm8 hk)
 ·rw[qoa,qoj (by omega)]
  simp
theorem zsj(T:List Nat)(k:Nat)(hk:k<T.length)(h8:∀x∈T,x<256):num (T.take k) ||| (T.getD k 0*2^(8*k))=num (T.take (k+1)):=by rw[zad T k 0 hk,zz0,qmq,qmr (by omega),qn5,zq9 _ _ _ (zhp T k (by omega) h8),show(256:Nat)=2^8 from rfl,<-qoi,qn7]
theorem zgw{x k m:Nat}(hx:x<256)(hk:8*(k+1)<=m):x*2^(8*k)<2^m:=by
 have h1:x*2^(8*k)<256*2^(8*k):=qok hx (qog _);have h2:256*2^(8*k)=2^(8*(k+1)):=by rw[qnv,qol,qne]
 have h3:2^(8*(k+1))<=2^m:=qn4 (by omega) hk;omega
theorem zxr(T:List Nat)(k:Nat)(hk:k<T.length)(hT:T.length<=1)(h8:∀x∈T,x<256):
 bits .or .u8 ((num (T.take k):Nat):Int) (((T.getD k 0:Nat):Int)*2^(8*k)%256)=((num (T.take (k+1)):Nat):Int):=by
 have hx:=zfj T k h8;have hm:=zgw (m:=8) hx (show 8*(k+1)<=8 by omega);have hn:=zhp T k (by omega) h8;have hn2:2^(8*k)<=2^8:=qn4 (by omega) (by omega);have e1:(((T.getD k 0:Nat):Int)*2^(8*k)%256)=((T.getD k 0*2^(8*k):Nat):Int):=by
  have e2:((T.getD k 0*2^(8*k):Nat):Int)=((T.getD k 0:Nat):Int)*2^(8*k):=by simp
  have e3:((T.getD k 0*2^(8*k):Nat):Int)<256:=by have:T.getD k 0*2^(8*k)<256:=hm;omega
  rw[e2] at e3⊢
  skip
  exact qom (by rw[<-e2];omega) e3
 rw[e1,u8_or_nat _ _ (qmo hn hn2) hm,zsj T k hk h8]
theorem zuk(T:List Nat)(k:Nat)(hk:k<T.length)(hT:T.length<=4)(h8:∀x∈T,x<256):
 bits .or .u32 ((num (T.take k):Nat):Int) (((T.getD k 0:Nat):Int)%4294967296*2^(8*k)%4294967296)=((num (T.take (k+1)):Nat):Int):=by
 have hx:=zfj T k h8;have hm:=zgw (m:=32) hx (show 8*(k+1)<=32 by omega);have hn:=zhp T k (by omega) h8;have hn2:2^(8*k)<=2^32:=qn4 (by omega) (by omega);have e1:(((T.getD k 0:Nat):Int)%4294967296*2^(8*k)%4294967296)=((T.getD k 0*2^(8*k):Nat):Int):=by
  have e2:((T.getD k 0*2^(8*k):Nat):Int)=((T.getD k 0:Nat):Int)*2^(8*k):=by simp
  have e3:((T.getD k 0*2^(8*k):Nat):Int)<4294967296:=by have:T.getD k 0*2^(8*k)<4294967296:=hm;omega
  rw[e2] at e3⊢;rw[qom (a:=((T.getD k 0:Nat):Int)) (by omega) (by omega)];exact qom (by rw[<-e2];omega) e3
 rw[e1,u32_or_nat _ _ (qmo hn hn2) hm,zsj T k hk h8]
theorem zul(T:List Nat)(k:Nat)(hk:k<T.length)(hT:T.length<=8)(h8:∀x∈T,x<256):
 bits .or .u64 ((num (T.take k):Nat):Int) (IntKind.u64.wrap (IntKind.u64.wrap ((T.getD k 0:Nat):Int)*2^(8*k)))=((num (T.take (k+1)):Nat):Int):=by
 rw[IntKind.wrap_u64,IntKind.wrap_u64];have hx:=zfj T k h8;have hm:=zgw (m:=64) hx (show 8*(k+1)<=64 by omega);have hn:=zhp T k (by omega) h8;have hn2:2^(8*k)<=2^64:=qn4 (by omega) (by omega);have e1:(((T.getD k 0:Nat):Int)%18446744073709551616*2^(8*k)%18446744073709551616)=((T.getD k 0*2^(8*k):Nat):Int):=by
  have e2:((T.getD k 0*2^(8*k):Nat):Int)=((T.getD k 0:Nat):Int)*2^(8*k):=by simp
  have e3:((T.getD k 0*2^(8*k):Nat):Int)<18446744073709551616:=by have:T.getD k 0*2^(8*k)<18446744073709551616:=hm;omega
  rw[e2] at e3⊢;rw[qom (a:=((T.getD k 0:Nat):Int)) (by omega) (by omega)];exact qom (by rw[<-e2];omega) e3
 rw[e1,u64_or_nat _ _ (qmo hn hn2) hm,zsj T k hk h8]
theorem zxs(x k:Nat):((x:Int)/2^(8*k)%256)=((x/256^k%256:Nat):Int):=by rw[show(256:Nat)^k=2^(8*k) by rw[show(256:Nat)=2^8 from rfl,<-qoi]];simp
open Go.RowKit Go.WideShapes Go.ChangeShapes
section
variable{H:Type}{enc:TypeId × Value->H}{P:Program}
theorem zkq(hl:laidOutB P=true){W W':World}{sp:Nat->Bool}(hb:Below W.heap.size W W'):
 ∀{ts:List TypeId} {vs:List Value} {ds:List (DataW H)} {ps:List MemPlace},(∀t∈ts,P.readableRec t=true/\t<P.types.size)->DataW.TrodAll enc P W 0 (fun _=>true) true ts vs ds ps->
  (∀p∈ps,p.block<W.heap.size)->(∀p∈ps,sp p.block=true)->DataW.TrodAll enc P W' 0 sp true ts vs ds ps
 | [],_,_,_,_,h,_,_=>by
   obtain⟨rfl,rfl,rfl⟩:=trodAll_nil h;rfl
 |t::ts,_,_,_,hr,h,hlt,hsp=>by
  obtain⟨v,vs,d,ds,p,q,rfl,rfl,rfl,h1,h2⟩:=trodAll_cons h;refine⟨p,q,?_,zkq hl hb (fun t ht=>hr t (by simp[ht])) h2 (fun x hx=>hlt x (by simp[hx])) (fun x hx=>hsp x (by simp[hx])),rfl⟩;exact WideElems.Trod_stays hl (hr t (by simp)).1 (hr t (by simp)).2 h1 (fun x hx=>hb.same (hlt x (by simp[hx]))) (fun x hx=>hsp x (by simp[hx]))
theorem qby{f:Func}{s:ChangeSpec}{tb:TypeId}{W W':World}{args:Array Value}{ds gs:List (DataW H)}{before:List MemPlace}
 (hl:laidOutB P=true)(hrt:f.resultTypes= #[tb])(htb:P.underlying tb=some .bool)(hr:∀t∈f.params.toList,P.readableRec t=true/\t<P.types.size)
 (hv:s.vars=[])(hs:s.fn H (ds++gs)={results:=[.lit (.bool true)],args:=ds})
 (hW:DataW.Whole enc P f.params.toList s.vars false W args.toList ds gs before)(hb:Below W.heap.size W W'):
 s.post enc P f false true false false W args (.bool true) W':=by
 have hlt:∀p∈before,p.block<W.heap.size:=fun p hp=>hW.lt p hp
 obtain⟨p,q,hA,hV,rfl,hfz,hnd⟩:=id hW;rw[hv] at hV;obtain⟨rfl,rfl⟩:=trodVars_none hV;simp only[qm3] at hlt;have hargs:=zkq (sp:=fun b=>decide (b<W.heap.size)) hl hb hr hA hlt (fun x hx=>by simpa using hlt x hx);refine⟨ds,[],p++[],[],p,[],hW,?_,?_,?_,World.keptBut_mono (fun x hx=>⟨hx,?_⟩) (hb.frame (· ∈p++[])),fun h=>by cases h⟩
 ·rw[hs,hrt]
  exact trodAll_mk1 (shut_bool htb true)
 ·rw[hs];exact hargs
 ·rw[hs,hv];rfl
 ·exact .inr (.inl (by simpa using hx))
end
theorem qbz{H:Type}{P:Program}{ts:List TypeId}{ds:List (DataW H)}(h:(DataW.weightsEach P ts ds).all (· <=reachBytes)=true){j:Nat}{t:TypeId}{d:DataW H}(ht:ts[j]? =some t)(hd:ds[j]? =some d):
 ∀n∈d.weights P t,n<=reachBytes:=fun n hn=>by
 have:=qo4.1 h n (DataW.weights_mem_each ht hd n hn);simpa using this
def pk(w:Nat):List Nat->Nat
 | []=>0
 |x::l=>x+2^w*pk w l
theorem z59(w:Nat)(l:List Nat)(x:Nat):pk w (l++[x])=pk w l+2^(w*l.length)*x:=by
 induction l with
 |nil=>simp[pk]
 |cons a l ih=>
  simp only[qnt,pk,ih,qnu];rw[qnv,qps,qol];simp only[qne,qnw,qmk]
theorem qjd(w:Nat)(l:List Nat)(h:∀x∈l,x<2^w):pk w l<2^(w*l.length):=by
 induction l with
 |nil=>simp[pk]
 |cons a l ih=>
  have h1:=ih fun x hx=>h x (by simp[hx])
  have h2:=h a (by simp);simp only[pk,qnu];rw[qps,qol,qne (2^(w*l.length))];have:2^w*(pk w l+1)<=2^w*2^(w*l.length):=qpt _ h1;rw[qnv] at this;omega
def zqk(w:Nat):Nat->Nat->List Nat
 |0,_=>[]
 |n+1,B=>zqk w n B++[B/2^(w*n)%2^w]
theorem ze9(w n B:Nat):(zqk w n B).length=n:=by induction n<;> simp_all[zqk]
theorem qgv(w n B:Nat):∀x∈zqk w n B,x<2^w:=by
 induction n with
 |zero=>intro x hx;simp[zqk] at hx
 |succ n ih=>
  intro x hx;simp only[zqk,qny,qnz] at hx;rcases hx with hx|hx
  ·exact ih x hx
  ·subst hx;exact qn0 _ (qog w)
theorem z6a(w n B i:Nat)(h:i<n):(zqk w n B).getD i 0=B/2^(w*i)%2^w:=by
 induction n with
 |zero=>omega
 |succ n ih=>
  rw[zqk,qoa];by_cases hi:i<n
  ·rw[qov (by rw[ze9];exact hi),<-qoa,ih hi]
  ·obtain rfl:i=n:=by omega
   rw[qpk (by rw[ze9];exact qmt _),ze9];simp
theorem qgw(w n B:Nat):pk w (zqk w n B)=B%2^(w*n):=by
 induction n with
 |zero=>simp[zqk,pk,Nat.mod_one]
 |succ n ih=>rw[zqk,z59,ih,ze9,qps,qol,Nat.mod_mul]
theorem qgx(w:Nat)(l:List Nat)(h:∀x∈l,x<2^w)(B:Nat)(hB:B%2^(w*l.length)=pk w l):zqk w l.length B=l:=by
 have key:∀(m:List Nat),(∀x∈m,x<2^w)-> ∀i,i<m.length->pk w m/2^(w*i)%2^w=m.getD i 0:=by
  intro m;induction m with
  |nil=>intro _ i hi;simp at hi
  |cons a m ih=>
   intro hm i hi;have ha:=hm a (by simp);cases i with
   |zero=>simp[pk,Nat.add_mul_mod_self_left,Nat.mod_eq_of_lt ha]
   |succ i=>
    rw[pk,qps,qn7 (w*i),qol,<-qpv,qpw _ _ (qog w),qpx ha,qnl,ih (fun x hx=>hm x (by simp[hx])) i (by simpa using hi)];simp
 refine qm7 (ze9 _ _ _) fun i h1 h2=>?_
 have e1:(zqk w l.length B).getD i 0=(zqk w l.length B)[i]:=by rw[qoa,qmm h1];rfl
 have e2:l.getD i 0=l[i]:=by rw[qoa,qmm h2];rfl
 rw[<-e1,<-e2,z6a w l.length B i h2,<-key l h i h2,<-hB];have hs:w*l.length=w*i+(w+w*(l.length-i-1)):=by
  have e:l.length=i+(1+(l.length-i-1)):=by omega
  conv=>lhs;rw[e]
  rw[qnv,qnv,qm0]
 rw[hs,qol,qpy,qol,Nat.mod_mul_right_mod]
theorem zkr(X s i:Nat)(h:i<s):(low X s).getD i 0=X/256^i%256:=by
 induction s with
 |zero=>omega
 |succ s ih=>
  rw[low,qoa];by_cases hi:i<s
  ·rw[qov (by rw[zbg];exact hi),<-qoa,ih hi]
  ·obtain rfl:i=s:=by omega
   rw[qpk (by rw[zbg];exact qmt _),zbg];simp
theorem zsm(b:List Nat)(h:∀x∈b,x<256):low (num b) b.length=b:=by
 have key:∀(m:List Nat),(∀x∈m,x<256)-> ∀i,i<m.length->num m/256^i%256=m.getD i 0:=by
  intro m;induction m with
  |nil=>intro _ i hi;simp at hi
  |cons a m ih=>
   intro hm i hi;have ha:=hm a (by simp);cases i with
   |zero=>simp[num];omega
   |succ i=>
    rw[num,qnq,qne (256^i),<-qpv,show(a+256*num m)/256=num m by omega,ih (fun x hx=>hm x (by simp[hx])) i (by simpa using hi)];simp
 refine qm7 (zbg _ _) fun i h1 h2=>?_
 have e1:(low (num b) b.length).getD i 0=(low (num b) b.length)[i]:=by rw[qoa,qmm h1];rfl
 have e2:b.getD i 0=b[i]:=by rw[qoa,qmm h2];rfl
 rw[<-e1,<-e2,zkr _ _ _ h2,key b h i h2]
theorem zz7(b:List Nat)(h:∀x∈b,x<256)(i:Nat)(hi:i<b.length):b.getD i 0=num b/256^i%256:=by have:=zkr (num b) b.length i hi;rwa[zsm b h] at this
theorem qb0(s:Nat):low 0 s=List.replicate s 0:=by
 induction s with
 |zero=>rfl
 |succ s ih=>rw[low,ih,qpz];simp
theorem qgy(k:Nat):(256:Nat)^k=2^(8*k):=by rw[show(256:Nat)=2^8 from rfl,<-qoi]
theorem qgz(X s a c:Nat)(ha:a<8*s)(hX:X<2^a)(hc:c<=1):
 (low X s).set (a/8) ((low X s).getD (a/8) 0+c*2^(a%8))=low (X+c*2^a) s/\(low X s).getD (a/8) 0<2^(a%8)/\(low X s).getD (a/8) 0+c*2^(a%8)<256:=by
 have hq:a/8<s:=by omega
 have ea:2^a=256^(a/8)*2^(a%8):=by rw[qgy,<-qol];congr 1;omega
 have hr:2^(a%8)<=2^7:=qn4 (by omega) (by omega);have h0:X/256^(a/8)<2^(a%8):=by apply qns;rw[<-ea];exact hX
 have hb:(low X s).getD (a/8) 0=X/256^(a/8):=by rw[zkr _ _ _ hq];exact qn1 (by omega)
 have hcc:c*2^(a%8)<=2^(a%8):=by
  calc c*2^(a%8)<=1*2^(a%8):=qms _ hc
   _=_:=qp0 _
 have hlt:X/256^(a/8)+c*2^(a%8)<256:=by omega
 refine⟨?_,by rw[hb];exact h0,by rw[hb];exact hlt⟩;refine qm7 (by simp[zbg]) fun i h1 h2=>?_
 have h2':i<s:=by rwa[zbg] at h2
 have h1':i<(low X s).length:=by rwa[zbg]
 have e2:(low (X+c*2^a) s)[i]=(X+c*2^a)/256^i%256:=by rw[<-zkr _ _ _ h2',qoa,qmm h2];rfl
 have e1:(low X s)[i]'h1'=X/256^i%256:=by rw[<-zkr _ _ _ h2',qoa,qmm h1'];rfl
 rw[e2,List.getElem_set];by_cases hi:a/8=i
 ·subst hi
  rw[if_pos rfl,hb,ea,show c*(256^(a/8)*2^(a%8))=256^(a/8)*(c*2^(a%8)) from qnw _ _ _,qpw _ _ (qnr (by omega)),qn1 hlt]
 ·rw[if_neg hi,e1]
  rcases Nat.lt_or_gt_of_ne hi with hlt'|hgt
  ·have hp:2^(a+1)<=256^i:=by rw[qgy];exact qn4 (by omega) (by omega)
   have hca:c*2^a<=2^a:=by
    calc c*2^a<=1*2^a:=qms _ hc
     _=_:=qp0 _
   rw[qnq] at hp;rw[qpx (by omega),qpx (by omega)]
  ·have es:2^a=256^i*(256*2^(a-8*(i+1))):=by
    rw[qgy,show(256:Nat)=2^8 from rfl,<-qol,<-qol];congr 1;omega
   rw[es,show c*(256^i*(256*2^(a-8*(i+1))))=256^i*(256*(c*2^(a-8*(i+1)))) by simp only[qnw],qpw _ _ (qnr (by omega)),qpu]
theorem zmw(y j:Nat):y%2^(j+1)=y%2^j+2^j*(y/2^j%2):=by rw[qnq,Nat.mod_mul]
theorem qg0{X m:Nat}(y j:Nat)(hX:X<2^m):X+y%2^j*2^m<2^(m+j):=by have h1:y%2^j<2^j:=qn0 _ (qog _);have h2:(y%2^j+1)*2^m<=2^j*2^m:=qms _ h1;rw[qop,qp0] at h2;rw[qol,qne (2^m)];omega
theorem z6b{X m:Nat}(s y j a q r t:Nat)(hX:X<2^m)(ha:a=m+j)(hs:a<8*s)(hq:q=a/8/\r=a%8)(ht:t=y/2^j%2):
 (low (X+y%2^j*2^m) s).getD q 0<2^r/\(low (X+y%2^j*2^m) s).set q ((low (X+y%2^j*2^m) s).getD q 0+t*2^r)=low (X+y%2^(j+1)*2^m) s:=by
 obtain⟨rfl,rfl⟩:=hq;have h:=qgz (X+y%2^j*2^m) s a t hs (by rw[ha];exact qg0 y j hX) (by omega);refine⟨h.2.1,h.1.trans ?_⟩;congr 1
 rw[zmw,qop,ht,ha,qol,qmk];congr 2
 rw[qne (2^m),<-qoq,qne (y/2^j%2)]
def st(l:List Nat):Nat:=(l.takeWhile fun y=>y==l.getD 0 0).length
theorem qjt(p:Nat->Bool):∀(l:List Nat) (n:Nat),n<=l.length->(∀i,i<n->p (l.getD i 0)=true)->(n=l.length\/p (l.getD n 0)=false)->(l.takeWhile p).length=n
 | [],n,h1,_,_=>by simp at h1;simp[h1]
 |x::r,0,_,_,h3=>by
  rcases h3 with h3|h3
  ·simp at h3
  ·have:p x=false:=by simpa using h3
   simp[this]
 |x::r,n+1,h1,h2,h3=>by
  have hx:p x=true:=by simpa using h2 0 (by omega)
  rw[qqy,if_pos hx,qnu,qjt p r n (by simpa using h1) (fun i hi=>by simpa using h2 (i+1) (by omega)) (by simpa using h3)]
theorem qdc{l:List Nat}{n:Nat}(h1:n<=l.length)(h2:∀i,i<n->l.getD i 0=l.getD 0 0)(h3:n=l.length\/l.getD n 0≠l.getD 0 0):st l=n:=
 qjt _ l n h1 (fun i hi=>by simpa using h2 i hi) (h3.imp id fun h=>by simpa using h)
theorem z7r(p:Nat->Bool):∀l:List Nat,(l.takeWhile p).length<=l.length/\(∀i,i<(l.takeWhile p).length->p (l.getD i 0)=true)/\((l.takeWhile p).length=l.length\/p (l.getD (l.takeWhile p).length 0)=false)
 | []=>by simp
 |x::r=>by
  obtain⟨a,b,c⟩:=z7r p r;by_cases hx:p x=true
  ·rw[qqy,if_pos hx,qnu]
   refine⟨by simpa using a,fun i hi=>?_,by simpa using c⟩;cases i with
   |zero=>simpa using hx
   |succ i=>simpa using b i (by omega)
  ·rw[qqy,if_neg hx]
   refine⟨by simp,by simp,.inr (by simpa using hx)⟩
theorem zga(l:List Nat):st l<=l.length/\(∀i,i<st l->l.getD i 0=l.getD 0 0)/\(st l=l.length\/l.getD (st l) 0≠l.getD 0 0):=by obtain⟨a,b,c⟩:=z7r (fun y=>y==l.getD 0 0) l;exact⟨a,fun i hi=>by simpa using b i hi,c.imp id fun h=>by unfold st;simpa using h⟩
theorem zm0{l:List Nat}(h:0<l.length):1<=st l:=by
 obtain⟨a,b,c⟩:=zga l;rcases qm9 (st l) with h0|h0
 ·rw[h0] at c
  rcases c with c|c
  ·omega
  ·exact absurd rfl c
 ·exact h0
theorem zjd{l m:List Nat}{i:Nat}(h:i<l.length):(l++m).getD i 0=l.getD i 0:=by simp[List.getD_eq_getElem?_getD,List.getElem?_append_left h]
theorem zrl{l:List Nat}{i k:Nat}(h:i<k):(l.take k).getD i 0=l.getD i 0:=by simp[List.getD_eq_getElem?_getD,h]
theorem qju{l m:List Nat}(h:st (l++m)<=l.length)(h0:0<l.length):st l=st (l++m):=by
 obtain⟨a,b,c⟩:=zga (l++m);refine qdc h (fun i hi=>?_) ?_
 ·have:=b i hi
  rwa[zjd (by omega),zjd h0] at this
 ·by_cases e:st (l++m)=l.length
  ·exact .inl e
  ·rcases c with c|c
   ·rw[c,qni] at h e
    omega
   ·rw[zjd (by omega),zjd h0] at c
    exact .inr c
theorem z7s{l m:List Nat}:st l<=st (l++m):=by
 rcases qm9 l.length with h0|h0
 ·have:=(zga l).1
  omega
 by_cases h:st (l++m)<=l.length
 ·exact qqz (qju h h0)
 ·have:=(zga l).1
  omega
theorem qhs(l:List Nat):st (l.take (st l))=st l:=by
 obtain⟨a,b,c⟩:=zga l;have hl:(l.take (st l)).length=st l:=by rw[qmq];omega
 rcases qm9 (st l) with h0|h0
 ·have:=(zga (l.take (st l))).1
  omega
 ·refine qdc (by omega) (fun i hi=>?_) (.inl hl.symm)
  rw[zrl hi,zrl h0];exact b i hi
def z0t(rest l:List Nat):List (List Nat):=
 if _h:l.length=0 then(if rest.length=0 then [] else [rest])
 else if 4<=st l then(if rest.length=0 then [] else [rest])++(l.take (st l)::z0t [] (l.drop (st l)))
 else z0t (rest++l.take (st l)) (l.drop (st l))
termination_by l.length
decreasing_by
 ·have:=zm0 (l:=l) (by omega)
  rw[qmp];omega
 ·have:=zm0 (l:=l) (by omega)
  rw[qmp];omega
def pcs(l:List Nat):List (List Nat):=z0t [] l
def zu9(rest:List Nat):List (List Nat):=if rest.length=0 then [] else [rest]
theorem ztc(rest:List Nat):z0t rest []=zu9 rest:=by rw[z0t];rfl
theorem ztd{rest l:List Nat}(h0:0<l.length)(h:4<=st l):z0t rest l=zu9 rest++(l.take (st l)::z0t [] (l.drop (st l))):=by rw[z0t,dif_neg (by omega),if_pos h];rfl
theorem zo3{rest l:List Nat}(h0:0<l.length)(h: ¬4<=st l):z0t rest l=z0t (rest++l.take (st l)) (l.drop (st l)):=by rw[z0t,dif_neg (by omega),if_neg h]
theorem z7t{C:List Nat->List Nat->Prop}(h0:∀rest,C rest [])
 (h1:∀rest l,0<l.length->4<=st l->C [] (l.drop (st l))->C rest l)
 (h2:∀rest l,0<l.length-> ¬4<=st l->C (rest++l.take (st l)) (l.drop (st l))->C rest l):∀rest l,C rest l:=by
 intro rest l;induction hn:l.length using Nat.strongRecOn generalizing rest l with
 |_ n ih=>
  rcases qm9 l.length with hz|hz
  ·obtain rfl:=qna hz
   exact h0 rest
  ·have hp:=zm0 hz
   have hd:(l.drop (st l)).length<n:=by rw[qmp];omega
   by_cases h:4<=st l
   ·exact h1 rest l hz h (ih _ hd _ _ rfl)
   ·exact h2 rest l hz h (ih _ hd _ _ rfl)
theorem zrm(rest:List Nat):(zu9 rest).flatten=rest:=by
 unfold zu9;split
 ·rename_i h
  exact(qna h).symm
 ·simp
theorem z7u:∀rest l,(z0t rest l).flatten=rest++l:=by
 refine z7t ?_ ?_ ?_
 ·intro rest
  rw[ztc,zrm,qm3]
 ·intro rest l h0 h ih
  rw[ztd h0 h,qp9,zrm,qq0,ih,qnk,qpl]
 ·intro rest l h0 h ih
  rw[zo3 h0 h,ih,qm5,qpl]
def zyj(p:List Nat):Prop:=0<p.length/\(4<=st p->st p=p.length)
theorem qht:∀rest l,(rest=[]\/st (rest++l)<4)-> ∀p∈z0t rest l,zyj p:=by
 have hr:∀rest l:List Nat,(rest=[]\/st (rest++l)<4)-> ∀p∈zu9 rest,zyj p:=by
  intro rest l hc p hp;unfold zu9 at hp;split at hp
  ·cases hp
  ·rename_i hl
   obtain rfl:=qnz.1 hp;refine⟨by omega,fun h4=>?_⟩;rcases hc with rfl|hc
   ·simp at hl
   ·have:=z7s (l:=p) (m:=l)
    omega
 refine z7t ?_ ?_ ?_
 ·intro rest hc p hp
  rw[ztc] at hp;exact hr rest [] hc p hp
 ·intro rest l h0 h ih hc p hp
  rw[ztd h0 h] at hp;rcases qny.1 hp with hp|hp
  ·exact hr rest l hc p hp
  ·rcases qof.1 hp with rfl|hp
   ·have hl:(l.take (st l)).length=st l:=by have:=(zga l).1;rw[qmq];omega
    exact⟨by omega,fun _=>by rw[qhs,hl]⟩
   ·exact ih (.inl rfl) p hp
 ·intro rest l h0 h ih hc p hp
  rw[zo3 h0 h] at hp;refine ih (.inr ?_) p hp;rw[qm5,qpl];rcases hc with rfl|hc
  ·simpa using h
  ·exact hc
theorem qjv(l:List Nat):∀p∈pcs l,zyj p:=qht [] l (.inl rfl)
theorem z0u(l:List Nat):(pcs l).flatten=l:=z7u [] l
open Go Go.RowKit
inductive Plan where
 |done
 |quiet (i:Nat) (p:Plan)
 |alone (i:Nat) (p:Plan)
 |two (i:Nat) (p:Plan) (j:Nat) (q:Plan)
section
variable{P:Program}{ops:Array Oper}{Q:Exit->Act->World->Prop}
def Plan.ok(ops:Array Oper):Array Bool->Plan->Bool
 |listed,.done=>(Region.ready .any ops listed).isEmpty
 |listed,.quiet i p=>(Region.ready .any ops listed).contains i&&(Region.free .any ops listed i&&p.ok ops (listed.setIfInBounds i true))
 |listed,.alone i p=>decide (Region.ready .any ops listed=[i])&&p.ok ops (listed.setIfInBounds i true)
 |listed,.two i p j q=>decide (Region.ready .any ops listed=[i,j])&&(p.ok ops (listed.setIfInBounds i true)&&q.ok ops (listed.setIfInBounds j true))
def Plan.size:Plan->Nat
 | .done=>0
 | .quiet _ p=>p.size+1
 | .alone _ p=>p.size+1
 | .two _ p _ q=>Nat.max p.size q.size+1
def zne(P:Program)(ops:Array Oper)(R:World->World->Prop)(Q:Exit->Act->World->Prop)(i:Nat)(K:Act->World->Prop)(a:Act)(w:World):Prop:=
 ∃o,ops[i]? =some o/\if Region.wanted o (yielded ops a.tmps) then o.wp P a w (fun a' w'=>R w w'/\K a' w') (NoPanic Q) else K (a.put o.dst undef) w
def zfq(P:Program)(ops:Array Oper)(R:World->World->Prop)(Q:Exit->Act->World->Prop):Plan->Act->World->Prop
 | .done,a,w=>Q .normal a w
 | .quiet i p,a,w=>∃o v,ops[i]? =some o/\((Region.wanted o (yielded ops a.tmps)=true/\ ∀w',R w w'->(execOp a.eval o).run P w'= .ok (.value v) w')\/(Region.wanted o (yielded ops a.tmps)=false/\v=undef))/\zfq P ops R Q p (a.put o.dst v) w
 | .alone i p,a,w=>zne P ops R Q i (zfq P ops R Q p) a w
 | .two i p j q,a,w=>zne P ops R Q i (zfq P ops R Q p) a w/\zne P ops R Q j (zfq P ops R Q q) a w
variable{R:World->World->Prop}
theorem zq4(hrefl:∀w,R w w)(htrans:∀{x y z},R x y->R y z->R x z)(hs:Region.noSelect ops=true):
 ∀(p:Plan) (fuel:Nat) (listed:Array Bool) (a:Act) (w:World),p.size<=fuel->p.ok ops listed=true->zfq P ops R Q p a w->wpAnyH P .any ops (NoPanic Q) (R w) fuel listed a w:=by
 have key:∀(p:Plan),(∀(fuel:Nat) (listed:Array Bool) (a:Act) (w:World),p.size<=fuel->p.ok ops listed=true->zfq P ops R Q p a w->wpAnyH P .any ops (NoPanic Q) (R w) fuel listed a w)->
  ∀(j:Nat) (fuel:Nat) (listed:Array Bool) (a:Act) (w:World),p.size<=fuel->p.ok ops (listed.setIfInBounds j true)=true->zne P ops R Q j (zfq P ops R Q p) a w->
   wpOp P ops (NoPanic Q) j (fun a' w'=>R w w'/\wpAnyH P .any ops (NoPanic Q) (R w) fuel (listed.setIfInBounds j true) a' w') a w:=by
  intro p ih j fuel listed a w hl h3 hc;obtain⟨o,ho,hc⟩:=hc;unfold wpOp;simp only[ho];split
  ·rename_i hw
   rw[if_pos hw] at hc;exact .inl (Oper.wp_mono (fun a' w' hh=>⟨hh.1,zfr (fun z hz=>htrans hh.1 hz) fuel _ a' w' (ih fuel _ a' w' hl h3 hh.2)⟩) hc)
  ·rename_i hw
   rw[if_neg hw] at hc;exact⟨hrefl w,ih fuel _ _ w hl h3 hc⟩
 intro p;induction p with
 |done=>
  intro fuel listed a w _ hok h;exact wpAnyH_done (by simpa[Plan.ok] using hok) (NoPanic.normal h) fuel
 |quiet i p ih=>
  intro fuel listed a w hl hok h;obtain⟨fuel,rfl⟩:∃k,fuel=k+1:=⟨fuel-1,by simp[Plan.size] at hl;omega⟩;obtain⟨o,v,ho,hv,hr⟩:=h;simp only[Plan.ok,qoe] at hok;obtain⟨h1,h2,h3⟩:=hok;exact wpAnyH_take ho hs h2 h1 (fun _ _ _ hp=>hp) hv (hrefl w) (ih fuel _ _ w (by simp[Plan.size] at hl;omega) h3 hr)
 |alone i p ih=>
  intro fuel listed a w hl hok h;obtain⟨fuel,rfl⟩:∃k,fuel=k+1:=⟨fuel-1,by simp[Plan.size] at hl;omega⟩;simp only[Plan.ok,qoe,decide_eq_true_eq] at hok;obtain⟨h1,h3⟩:=hok;refine wpAnyH_all h1 (by simp) ?_;intro j hj;obtain rfl:j=i:=by simpa using hj
  exact key p ih j fuel listed a w (by simp[Plan.size] at hl;omega) h3 h
 |two i p j q ihp ihq=>
  intro fuel listed a w hl hok h;obtain⟨fuel,rfl⟩:∃k,fuel=k+1:=⟨fuel-1,by simp[Plan.size] at hl;omega⟩;simp only[Plan.ok,qoe,decide_eq_true_eq] at hok;obtain⟨h1,h3,h4⟩:=hok;have hl':Nat.max p.size q.size<=fuel:=by simp[Plan.size] at hl;exact hl
  refine wpAnyH_all h1 (by simp) ?_;intro k hk;have hk:k=i\/k=j:=by simpa using hk
  rcases hk with rfl|rfl
  ·exact key p ihp k fuel listed a w (qml (qrm _ _) hl') h3 h.1
  ·exact key q ihq k fuel listed a w (qml (qrn _ _) hl') h4 h.2
theorem zq5{id:Nat}{a:Act}{w:World}(R:World->World->Prop)(p:Plan)(hrefl:∀w,R w w)(htrans:∀{x y z},R x y->R y z->R x z)(hm:P.follows .mixedOrders=true)
 (hs:Region.noSelect ops=true)(hl:decide (p.size<=ops.size)=true)(hok:p.ok ops (Array.replicate ops.size false)=true)(h:zfq P ops R Q p a w.drew):(Code.region id ops true).wp P Q a w:=
 wp_region_noPanic (wp_region_held hm (zq4 hrefl htrans hs p ops.size _ a _ (by simpa using hl) hok h))
variable{i j:Nat}{p q:Plan}{a:Act}{w:World}{v:Value}
theorem zqi(h:Q .normal a w):zfq P ops R Q .done a w:=h
section
variable{dst:Option Tmp}{op:Op}{ty:TypeId}{pos:String}{af:Array Edge}{gd:Option (Nat × Bool)}
theorem zdy(ho:ops[i]? =some ⟨dst,op,ty,pos,af,gd⟩)(hw:Region.wanted ⟨dst,op,ty,pos,af,gd⟩ (yielded ops a.tmps)=true)(hv:∀w',R w w'->(execOp a.eval ⟨dst,op,ty,pos,af,gd⟩).run P w'= .ok (.value v) w')(h:zfq P ops R Q p (a.put dst v) w):zfq P ops R Q (.quiet i p) a w:=
 ⟨_,v,ho,.inl ⟨hw,hv⟩,h⟩
theorem zgj{K0:Act->World->Prop}(ho:ops[i]? =some ⟨dst,op,ty,pos,af,gd⟩)(hw:Region.wanted ⟨dst,op,ty,pos,af,gd⟩ (yielded ops a.tmps)=true)(h:∀K:Act->World->Prop,(∀a' w',R w w'->K0 a' w'->K a' w')->Oper.wp P ⟨dst,op,ty,pos,af,gd⟩ a w K (NoPanic Q)):zne P ops R Q i K0 a w:=
 ⟨_,ho,by rw[if_pos hw];exact h _ fun _ _ h1 h2=>⟨h1,h2⟩⟩
theorem ze6(h:zne P ops R Q i (zfq P ops R Q p) a w):zfq P ops R Q (.alone i p) a w:=h
theorem z2g(h:zne P ops R Q i (zfq P ops R Q p) a w)(h2:zne P ops R Q j (zfq P ops R Q q) a w):zfq P ops R Q (.two i p j q) a w:=⟨h,h2⟩
end
end
end Go.Hm
