/- Merged. -/
import Derived.Deep.Fields
import Derived.OpenShut
import Derived.Test.YtbahbnbpmfgimaaGreatDoorBun2
set_option maxHeartbeats 200000
namespace Go.Hm
open Go.RowKit
theorem Own.at0{w:World}{base:Nat}{e:TypeId}{g n c i:Nat}{xs:List Value}(h:Own w base e (.slice (some ⟨g,0,none⟩) n c) xs)(hi:i<n):
 ∃u,xs[i]? =some u/\base<=g/\g<w.heap.size/\w.cell? ⟨g,i,none⟩=some u/\w.frozen? ⟨g,i,none⟩=false/\
  ∀u':Value,Own (w.setCell ⟨g,i,none⟩ u') base e (.slice (some ⟨g,0,none⟩) n c) (xs.set i u'):=by
 obtain⟨g',u,he,h1,h2,h3,h4,h5,h6⟩:=h.at_ hi;injection he with he;injection he with he;subst he;exact⟨u,h3,h1,h2,h4,h5,h6⟩
theorem Own.num0{w:World}{base:Nat}{e:TypeId}{g n c i:Nat}{k:IntKind}{l:List Nat}(h:Own w base e (.slice (some ⟨g,0,none⟩) n c) (zao k l))(hi:i<n):
 base<=g/\g<w.heap.size/\w.cell? ⟨g,i,none⟩=some (.int k ((l.getD i 0:Nat):Int))/\w.frozen? ⟨g,i,none⟩=false/\
  ∀y:Nat,Own (w.setCell ⟨g,i,none⟩ (.int k (y:Int))) base e (.slice (some ⟨g,0,none⟩) n c) (zao k (l.set i y)):=by
 have hn:=h.len;rw[zaa] at hn;obtain⟨u,h3,h1,h2,h4,h5,h6⟩:=h.at0 hi;rw[zwx k l i (by omega)] at h3;injection h3 with h3;subst h3;exact⟨h1,h2,h4,h5,fun y=>by rw[<-qah];exact h6 _⟩
theorem qkg(a b:Nat)(ha:a<=9223372036854775807):IntKind.i64.wrap ((a:Int)/(b:Int))=((a/b:Nat):Int):=by rw[<-Int.natCast_ediv];have:a/b<=a:=Nat.div_le_self _ _;generalize a/b=q at*;exact IntWalk.i64_in _ (by omega)
theorem zr9(a:Nat)(ha:a<=9223372036854775807):∃q r:Nat,Hid (q=a/8/\r=a%8)/\8*q<=a/\r<8/\a<8*q+8/\IntKind.i64.wrap ((a:Int)/8)=(q:Int)/\(a:Int).tmod 8=(r:Int):=
 ⟨a/8,a%8,Hz ⟨rfl,rfl⟩,by omega,by omega,by omega,qkg a 8 ha,by rw[Int.tmod_eq_emod_of_nonneg (by omega)];omega⟩
theorem qjm(y j:Nat)(hy:y<=18446744073709551615):∃t:Nat,Hid (t=y/2^j%2)/\t<=1/\bits .and .u64 ((y:Int)/2^j) 1=(t:Int)/\IntKind.u8.wrap (t:Int)=(t:Int):=by refine⟨y/2^j%2,Hz rfl,by omega,?_,by rw[IntKind.wrap_u8];omega⟩;have h1:y/2^j<=y:=Nat.div_le_self _ _;have:=u64_and_nat (y/2^j) 1 (by omega) (by omega);rw[Nat.and_one_is_mod] at this;rw[<-this];congr 1
theorem qe9(b r q:Nat)(hb:b<2^r)(hc:q<=1)(hr:r<8):bits .or .u8 (b:Int) ((q:Int)*2^r%256)=((b+q*2^r:Nat):Int):=by
 have h7:2^r<=2^7:=Nat.pow_le_pow_right (by omega) (by omega);have hq:q*2^r<=1*2^r:=Nat.mul_le_mul_right _ hc;have e:((q:Int)*2^r%256)=((q*2^r:Nat):Int):=by
  have e2:((q*2^r:Nat):Int)=(q:Int)*2^r:=by simp
  rw[<-e2];omega
 rw[e,u8_or_nat _ _ (by omega) (by omega),Nat.or_comm,<-Nat.mul_comm (2^r),<-Nat.two_pow_add_eq_or_of_lt hb,Nat.add_comm]
open Go Go.RowKit
theorem zt2(l:List Nat)(i j:Nat):(zad l).extract i j=zad ((l.drop i).take (j-i)):=by refine ByteArray.ext ?_;rw[ByteArray.data_extract];show((l.map UInt8.ofNat).toArray).extract i j=(((l.drop i).take (j-i)).map UInt8.ofNat).toArray;simp
theorem z4s(l:List Nat)(i:Nat):(zad l).extract i l.length=zad (l.drop i):=by rw[zt2,List.take_of_length_le (by rw[List.length_drop];omega)]
theorem qai(l:List Nat)(k:Nat)(h8:∀x∈l,x<256)(hk:k<(zad l).size):((zad l)[k]'hk).toNat=l.getD k 0:=by
 have hk':k<l.length:=by rwa[zbn] at hk
 show(((l.map UInt8.ofNat).toArray)[k]'(by simpa using hk')).toNat=_;simp only[List.getElem_toArray,List.getElem_map,UInt8.toNat_ofNat'];rw[List.getD_eq_getElem?_getD,List.getElem?_eq_getElem hk',Option.getD_some];exact Nat.mod_eq_of_lt (h8 _ (List.getElem_mem hk'))
section
variable{P:Program}{t:TypeId}
theorem z4t(ht:P.underlying t=some .string)(l:List Nat)(h8:∀x∈l,x<256)(k:Nat)(hk:k<l.length)(w:World):
 (Instr.index t (.string (zad l)) (.int .i64 (k:Int))).run P w= .ok (.int .u8 ((l.getD k 0:Nat):Int)) w:=by
 rw[run_index_string w t (zad l) .i64 (k:Int) ht,dif_pos ⟨by omega,by rw[zbn];omega⟩];rw[qai l _ h8];simp
theorem qaj(ht:P.underlying t=some .string)(l:List Nat)(k:Nat)(hk:k<=l.length)(w:World):
 (Instr.slice t (.string (zad l)) (some (.int .i64 (k:Int))) none none).run P w= .ok (.string (zad (l.drop k))) w:=by
 rw[run_slice_string_from_if w t (zad l) .i64 (k:Int) ht,if_pos ⟨by omega,by rw[zbn];omega⟩,Int.toNat_natCast,zbn,z4s]
end
theorem zsa(l:List Nat)(h8:∀x∈l,x<256):Lib.strCells (zad l)=zao .u8 l:=by
 unfold Lib.strCells zao;show((l.map UInt8.ofNat).toArray.toList).map _=_;simp only[List.map_map];refine List.map_congr_left fun x hx=>?_
 simp only[Function.comp,UInt8.toNat_ofNat'];rw[Nat.mod_eq_of_lt (by have:=h8 x hx;omega)]
def zqx(l:List (List Nat)):List Value:=l.map fun s=> .string (zad s)
theorem zn4(l:List (List Nat)):(zqx l).length=l.length:=by simp[zqx]
theorem z4u(l:List (List Nat))(i:Nat)(h:i<l.length):(zqx l)[i]? =some (.string (zad (l.getD i []))):=by simp[zqx,List.getElem?_eq_getElem h]
theorem Reads.lenT{w:World}{B n:Nat}{A:Option Addr}{l:List (List Nat)}(h:Reads w B 1 A n (zqx l)):n=l.length:=by have:=h.1;rw[zn4] at this;omega
theorem Reads.str{w:World}{B n:Nat}{A:Option Addr}{l:List (List Nat)}{i:Nat}(h:Reads w B 1 A n (zqx l))(hi:i<n):∃ad,A=some ad/\ad.block<B/\w.cell? (ad.add i)=some (.string (zad (l.getD i []))):=by
 obtain⟨ad,u,e,hb,hu,hc⟩:=h.at_ hi;have hl:i<l.length:=by have:=h.lenT;omega
 rw[z4u l i hl] at hu;injection hu with hu;subst hu;exact⟨ad,e,hb,hc⟩
theorem zn5{L:List (List Nat)}{k:Nat}{Q:List Nat->Prop}(h:∀x∈L,Q x)(hk:k<L.length):Q (L.getD k []):=by rw[List.getD_eq_getElem?_getD,List.getElem?_eq_getElem hk];exact h _ (List.getElem_mem hk)
section
variable{P:Program}{ops:Array Oper}{rest:List Oper}{o:Oper}{a:Act}{Q:Exit->Act->World->Prop}
theorem zd7{w:World}{t e ts:TypeId}(E:ElT P t e (.int .u8 0) 1 1)(hts:P.underlying ts=some .string)(hgd:o.guard=none)(s x:Operand)
 (ho:o.op= .call {callee:= .builtin .append,args:= #[s,x],argTypes:= #[t,ts]})
 {W:World}{B base n c:Nat}{A:Option Addr}{l l2:List Nat}(hown:Own w base e (.slice A n c) (zao .u8 l))(h8:∀x∈l2,x<256)(hs:a.eval s= .slice A n c)(hx:a.eval x= .string (zad l2))
 (hb:Below B W w)(hbB:B<=base)(hbase:base<=w.heap.size)(hn:n+l2.length<=140737488355328)
 (h:∀A' c' w',n+l2.length<=c'->c'<=maxLen->Own w' base e (.slice A' (n+l2.length) c') (zao .u8 (l++l2))->w.grownBy w' (Value.ownBlock (.slice A n c))->Below B W w'->wpList P ops Q rest (a.put o.dst (.slice A' (n+l2.length) c')) w'):
 wpList P ops Q (o::rest) a w:=by
 obtain⟨i,hi,hz0,hz1,hz2⟩:=info_parts E.hi;have hln:=hown.len;rw[zaa] at hln;have hown':w.ownsRow base e 1 (.slice A n c) n (zao .u8 l):=by unfold Own at hown;rwa[zaa,<-hln] at hown
 refine Lib.wpList_append_own_string w hgd s x t ts ho base e i E.ht hts hi hz0 hz1 hz2 _ n _ hs hown' (zad l2) hx (by rw[zbn];unfold maxLen;omega) (by rw[zbn];exact hn) hbase ?_;intro v' w' h1 h2 _;rw[zsa l2 h8,<-zdk,zbn] at h1;have hown2:Own w' base e v' (zao .u8 (l++l2)):=by unfold Own;rw[zaa,List.length_append,<-hln];exact h1
 obtain⟨A',c',rfl,hc1,hc2⟩:=hown2.slice;rw[zaa,List.length_append,<-hln] at hc1 hown2⊢;exact h A' c' w' hc1 hc2 hown2 h2 (hb.grown h2 (Nat.le_trans hbB hbase) (fun k hk=>by have:=(hown.lt k hk).1;omega))
end
open Go.RowKit
structure Turns(T:List Nat)(w w':World):Prop where
 os:w'.os=w.os
 tape:w'.tape=w.tape
 output:w'.output=w.output
 size:w.heap.size<=w'.heap.size
 block:∀k,k<w.heap.size->k∉T->w'.heap[k]? =w.heap[k]?
section
variable{T T':List Nat}{w w' w2:World}
theorem Turns.refl(T:List Nat)(w:World):Turns T w w:=⟨rfl,rfl,rfl,Nat.le_refl _,fun _ _ _=>rfl⟩
theorem Turns.trans(h:Turns T w w')(k:Turns T w' w2):Turns T w w2:=
 ⟨k.os.trans h.os,k.tape.trans h.tape,k.output.trans h.output,Nat.le_trans h.size k.size,fun i hi hT=>(k.block i (Nat.lt_of_lt_of_le hi h.size) hT).trans (h.block i hi hT)⟩
theorem Turns.more(h:Turns T w w')(hs:∀x∈T,x∈T'):Turns T' w w':=⟨h.os,h.tape,h.output,h.size,fun i hi hT=>h.block i hi fun hx=>hT (hs i hx)⟩
theorem Turns.of_new(h:Below w.heap.size w w'):Turns T w w':=⟨h.os,h.tape,h.output,h.size,fun k hk _=>h.block k hk⟩
theorem Turns.of_far{g:Nat}(h:w.grownBy w' (some g))(hg:g∈T):Turns T w w':=
 ⟨h.os,h.tape,h.output,h.size,fun k hk hT=>h.block k hk (fun e=>by injection e with e;subst e;exact hT hg)⟩
theorem Turns.of_none(h:w.grownBy w' none):Turns T w w':=⟨h.os,h.tape,h.output,h.size,fun k hk _=>h.block k hk (by simp)⟩
theorem Turns.drew(T:List Nat)(w:World):Turns T w w.drew:=⟨rfl,rfl,rfl,Nat.le_refl _,fun _ _ _=>rfl⟩
theorem Turns.drewN(T:List Nat)(w:World)(n:Nat):Turns T w (w.drewN n):=⟨rfl,rfl,rfl,Nat.le_refl _,fun _ _ _=>rfl⟩
theorem Turns.setCell{g i:Nat}(u:Value)(hg:g∈T)(w:World):Turns T w (w.setCell ⟨g,i,none⟩ u):=
 ⟨rfl,rfl,rfl,by simp[World.setCell],fun k _ hT=>Below.heap_setCell _ _ _ _ (by rintro rfl;exact hT hg)⟩
theorem Turns.new_{x:Nat}(h:Turns (x::T) w w')(hx:w.heap.size<=x):Turns T w w':=
 ⟨h.os,h.tape,h.output,h.size,fun i hi hT=>h.block i hi fun hm=>by
  rcases List.mem_cons.1 hm with rfl|hm
  ·omega
  ·exact hT hm⟩
theorem Turns.below{B:Nat}{a:World}(h:Below B a w)(k:Turns T w w')(hT:∀x∈T,B<=x)(hB:B<=a.heap.size):Below B a w':=
 ⟨k.os.trans h.os,k.tape.trans h.tape,k.output.trans h.output,Nat.le_trans h.size k.size,fun i hi=>(k.block i (by have:=h.size;omega) (fun hm=>by have:=hT i hm;omega)).trans (h.block i hi)⟩
theorem Turns.new(k:Turns T w w')(hT:∀x∈T,w.heap.size<=x):Below w.heap.size w w':=k.below (Below.refl _ _) hT (Nat.le_refl _)
theorem Blk.touch{g:Nat}{t:TypeId}{cs:Array Value}(h:Blk w g t cs)(k:Turns T w w')(hg:g∉T):Blk w' g t cs:=(k.block g h.lt hg).trans h
theorem Own.touch{base:Nat}{e:TypeId}{v:Value}{xs:List Value}(h:Own w base e v xs)(k:Turns T w w')(hT:∀x∈T,v.ownBlock≠some x):Own w' base e v xs:=by
 refine⟨h.1,?_⟩;rcases h.2 with hn|⟨g,cap,cur,rfl,hbg,hgg,rest⟩
 ·exact .inl hn
 ·refine .inr ⟨g,cap,cur,rfl,hbg,?_,rest⟩
  rw[k.block g (Array.getElem?_eq_some_iff.1 hgg).1 (fun hm=>hT g hm rfl)];exact hgg
theorem Reads.touch{B size n:Nat}{A:Option Addr}{xs:List Value}(h:Reads w B size A n xs)(k:Turns T w w')(hT:∀x∈T,B<=x)(hB:B<=w.heap.size):Reads w' B size A n xs:=
 h.keep fun p hp=>World.cell?_of_block (k.block p.block (by omega) (fun hm=>by have:=hT _ hm;omega))
theorem Turns.far{g:Nat}(h:Turns [g] w w'):w.grownBy w' (some g):=⟨h.os,h.tape,h.output,h.size,fun k hk hne=>h.block k hk (by intro hm;simp at hm;subst hm;exact hne rfl)⟩
end
theorem Own.row{w:World}{base:Nat}{e:TypeId}{v:Value}{xs:List Value}(h:Own w base e v xs):∀g,v.ownBlock=some g-> ∃cs,Blk w g e cs:=by
 intro g hg;rcases h.2 with⟨rfl,_⟩|⟨g',cap,cur,rfl,_,hh,_⟩
 ·simp[Value.ownBlock] at hg
 ·have:g'=g:=by simpa[Value.ownBlock] using hg
  subst this;exact⟨cur,hh⟩
theorem Blk.push{w w':World}{g:Nat}{t e:TypeId}{cs:Array Value}{base:Nat}{v:Value}{xs:List Value}(h:Blk w g t cs)(o:Own w base e v xs)(hg:w.grownBy w' v.ownBlock)(hne:e≠t):Blk w' g t cs:=
 h.grown hg (fun e'=>o.blk_ne h hne e'.symm)
theorem Reads.litV(w:World)(e:TypeId)(cs:Array Value)(n:Nat)(xs:List Value)(h:cs.toList=xs)(hn:n=xs.length):Reads (w.alloc (.cells cs e)) (w.alloc (.cells cs e)).heap.size 1 (some ⟨w.heap.size,0,none⟩) n xs:=by subst hn;refine⟨by simp,fun _=>⟨_,rfl,by simp,?_⟩⟩;have:=World.news_of_block (heap_alloc_new w (.cells cs e));rwa[h] at this
theorem New.alloc{w w':World}(o:Obj)(h:Below (w.alloc o).heap.size (w.alloc o) w'):New w w':=((Below.refl _ w).alloc (Nat.le_refl _) o).trans (h.mono (by simp))
theorem zn6(w:World)(m n:Nat):(w.drewN m).drewN n=w.drewN (m+n):=by simp[World.drewN,Nat.add_assoc]
theorem zg1(w:World)(k:Nat):New w (w.drewN k):=⟨rfl,rfl,rfl,Nat.le_refl _,fun _ _=>rfl⟩
theorem Reads.later{w0 w:World}{A:Option Addr}{n s:Nat}{xs:List Value}(h:Reads w0 w0.heap.size s A n xs)(hb:Below w0.heap.size w0 w):Reads w w.heap.size s A n xs:=(h.below hb).more hb.size
theorem Own.later{w0 w:World}{base:Nat}{e:TypeId}{v:Value}{xs:List Value}(h:Own w0 base e v xs)(hb:Below w0.heap.size w0 w):Own w base e v xs:=h.below hb (Nat.le_refl _)
open Go
theorem zqy(x y k:Nat)(hy:y<2^k):(x*2^k) ||| y=x*2^k+y:=by rw[Nat.mul_comm,<-Nat.two_pow_add_eq_or_of_lt hy]
theorem z4w(x y k:Nat)(hy:y<2^k)(hx:x%2^k=0):x ||| y=x+y:=nat_join k x y hx hy
theorem qjn(x:Nat):bits .or .u8 ((x:Int)%256) 128=((x%128+128:Nat):Int):=by
 have h:=u8_or_nat (x%256) 128 (by omega) (by omega);rw[show((x:Int)%256)=((x%256:Nat):Int) from by omega,show(128:Int)=((128:Nat):Int) from rfl,h];congr 1
 by_cases hx:x%256<128
 ·rw[Nat.or_comm,z4w 128 (x%256) 7 hx rfl];omega
 ·have e:x%256=128+x%128:=by omega
  rw[e,Nat.or_comm,<-z4w 128 (x%128) 7 (by omega) rfl,<-Nat.or_assoc,Nat.or_self,z4w 128 (x%128) 7 (by omega) rfl];omega
theorem zhm(T:List Nat)(k:Nat)(hk:k<=T.length)(h8:∀x∈T,x<256):num (T.take k)<2^(8*k):=by have h:=zqw (T.take k) (fun x hx=>h8 x (List.mem_of_mem_take hx));rw[List.length_take,Nat.min_eq_left hk,show(256:Nat)=2^8 from rfl,<-Nat.pow_mul] at h;exact h
theorem zfg(T:List Nat)(k:Nat)(h8:∀x∈T,x<256):T.getD k 0<256:=by
 by_cases hk:k<T.length
 ·rw[List.getD_eq_getElem?_getD,List.getElem?_eq_getElem hk]
  exact h8 _ (List.getElem_mem hk)
 ·rw[List.getD_eq_getElem?_getD,List.getElem?_eq_none (by omega)]
  simp
theorem zsb(T:List Nat)(k:Nat)(hk:k<T.length)(h8:∀x∈T,x<256):num (T.take k) ||| (T.getD k 0*2^(8*k))=num (T.take (k+1)):=by rw[zac T k 0 hk,zy9,List.length_take,Nat.min_eq_left (by omega),Nat.or_comm,zqy _ _ _ (zhm T k (by omega) h8),show(256:Nat)=2^8 from rfl,<-Nat.pow_mul,Nat.add_comm]
theorem zgt{x k m:Nat}(hx:x<256)(hk:8*(k+1)<=m):x*2^(8*k)<2^m:=by
 have h1:x*2^(8*k)<256*2^(8*k):=Nat.mul_lt_mul_of_pos_right hx (Nat.two_pow_pos _);have h2:256*2^(8*k)=2^(8*(k+1)):=by rw[Nat.mul_add,Nat.pow_add,Nat.mul_comm]
 have h3:2^(8*(k+1))<=2^m:=Nat.pow_le_pow_right (by omega) hk;omega
theorem zwz(T:List Nat)(k:Nat)(hk:k<T.length)(hT:T.length<=1)(h8:∀x∈T,x<256):
 bits .or .u8 ((num (T.take k):Nat):Int) (((T.getD k 0:Nat):Int)*2^(8*k)%256)=((num (T.take (k+1)):Nat):Int):=by
 have hx:=zfg T k h8;have hm:=zgt (m:=8) hx (show 8*(k+1)<=8 by omega);have hn:=zhm T k (by omega) h8;have hn2:2^(8*k)<=2^8:=Nat.pow_le_pow_right (by omega) (by omega);have e1:(((T.getD k 0:Nat):Int)*2^(8*k)%256)=((T.getD k 0*2^(8*k):Nat):Int):=by
  have e2:((T.getD k 0*2^(8*k):Nat):Int)=((T.getD k 0:Nat):Int)*2^(8*k):=by simp
  have e3:((T.getD k 0*2^(8*k):Nat):Int)<256:=by have:T.getD k 0*2^(8*k)<256:=hm;omega
  rw[e2] at e3⊢
  skip
  exact Int.emod_eq_of_lt (by rw[<-e2];omega) e3
 rw[e1,u8_or_nat _ _ (Nat.lt_of_lt_of_le hn hn2) hm,zsb T k hk h8]
theorem zt4(T:List Nat)(k:Nat)(hk:k<T.length)(hT:T.length<=4)(h8:∀x∈T,x<256):
 bits .or .u32 ((num (T.take k):Nat):Int) (((T.getD k 0:Nat):Int)%4294967296*2^(8*k)%4294967296)=((num (T.take (k+1)):Nat):Int):=by
 have hx:=zfg T k h8;have hm:=zgt (m:=32) hx (show 8*(k+1)<=32 by omega);have hn:=zhm T k (by omega) h8;have hn2:2^(8*k)<=2^32:=Nat.pow_le_pow_right (by omega) (by omega);have e1:(((T.getD k 0:Nat):Int)%4294967296*2^(8*k)%4294967296)=((T.getD k 0*2^(8*k):Nat):Int):=by
  have e2:((T.getD k 0*2^(8*k):Nat):Int)=((T.getD k 0:Nat):Int)*2^(8*k):=by simp
  have e3:((T.getD k 0*2^(8*k):Nat):Int)<4294967296:=by have:T.getD k 0*2^(8*k)<4294967296:=hm;omega
  rw[e2] at e3⊢;rw[Int.emod_eq_of_lt (a:=((T.getD k 0:Nat):Int)) (by omega) (by omega)];exact Int.emod_eq_of_lt (by rw[<-e2];omega) e3
 rw[e1,u32_or_nat _ _ (Nat.lt_of_lt_of_le hn hn2) hm,zsb T k hk h8]
theorem zt5(T:List Nat)(k:Nat)(hk:k<T.length)(hT:T.length<=8)(h8:∀x∈T,x<256):
 bits .or .u64 ((num (T.take k):Nat):Int) (IntKind.u64.wrap (IntKind.u64.wrap ((T.getD k 0:Nat):Int)*2^(8*k)))=((num (T.take (k+1)):Nat):Int):=by
 rw[IntKind.wrap_u64,IntKind.wrap_u64];have hx:=zfg T k h8;have hm:=zgt (m:=64) hx (show 8*(k+1)<=64 by omega);have hn:=zhm T k (by omega) h8;have hn2:2^(8*k)<=2^64:=Nat.pow_le_pow_right (by omega) (by omega);have e1:(((T.getD k 0:Nat):Int)%18446744073709551616*2^(8*k)%18446744073709551616)=((T.getD k 0*2^(8*k):Nat):Int):=by
  have e2:((T.getD k 0*2^(8*k):Nat):Int)=((T.getD k 0:Nat):Int)*2^(8*k):=by simp
  have e3:((T.getD k 0*2^(8*k):Nat):Int)<18446744073709551616:=by have:T.getD k 0*2^(8*k)<18446744073709551616:=hm;omega
  rw[e2] at e3⊢;rw[Int.emod_eq_of_lt (a:=((T.getD k 0:Nat):Int)) (by omega) (by omega)];exact Int.emod_eq_of_lt (by rw[<-e2];omega) e3
 rw[e1,u64_or_nat _ _ (Nat.lt_of_lt_of_le hn hn2) hm,zsb T k hk h8]
theorem zw0(x k:Nat):((x:Int)/2^(8*k)%256)=((x/256^k%256:Nat):Int):=by rw[show(256:Nat)^k=2^(8*k) by rw[show(256:Nat)=2^8 from rfl,<-Nat.pow_mul]];simp
def pk(w:Nat):List Nat->Nat
 | []=>0
 |x::l=>x+2^w*pk w l
theorem z5c(w:Nat)(l:List Nat)(x:Nat):pk w (l++[x])=pk w l+2^(w*l.length)*x:=by
 induction l with
 |nil=>simp[pk]
 |cons a l ih=>
  simp only[List.cons_append,pk,ih,List.length_cons];rw[Nat.mul_add,Nat.mul_succ,Nat.pow_add];simp only[Nat.mul_comm,Nat.mul_left_comm,Nat.add_assoc]
theorem qhw(w:Nat)(l:List Nat)(h:∀x∈l,x<2^w):pk w l<2^(w*l.length):=by
 induction l with
 |nil=>simp[pk]
 |cons a l ih=>
  have h1:=ih fun x hx=>h x (by simp[hx])
  have h2:=h a (by simp);simp only[pk,List.length_cons];rw[Nat.mul_succ,Nat.pow_add,Nat.mul_comm (2^(w*l.length))];have:2^w*(pk w l+1)<=2^w*2^(w*l.length):=Nat.mul_le_mul_left _ h1;rw[Nat.mul_add] at this;omega
def zqd(w:Nat):Nat->Nat->List Nat
 |0,_=>[]
 |n+1,B=>zqd w n B++[B/2^(w*n)%2^w]
theorem ze7(w n B:Nat):(zqd w n B).length=n:=by induction n<;> simp_all[zqd]
theorem qfn(w n B:Nat):∀x∈zqd w n B,x<2^w:=by
 induction n with
 |zero=>intro x hx;simp[zqd] at hx
 |succ n ih=>
  intro x hx;simp only[zqd,List.mem_append,List.mem_singleton] at hx;rcases hx with hx|hx
  ·exact ih x hx
  ·subst hx;exact Nat.mod_lt _ (Nat.two_pow_pos w)
theorem z5d(w n B i:Nat)(h:i<n):(zqd w n B).getD i 0=B/2^(w*i)%2^w:=by
 induction n with
 |zero=>omega
 |succ n ih=>
  rw[zqd,List.getD_eq_getElem?_getD];by_cases hi:i<n
  ·rw[List.getElem?_append_left (by rw[ze7];exact hi),<-List.getD_eq_getElem?_getD,ih hi]
  ·obtain rfl:i=n:=by omega
   rw[List.getElem?_append_right (by rw[ze7];exact Nat.le_refl _),ze7];simp
theorem qfo(w n B:Nat):pk w (zqd w n B)=B%2^(w*n):=by
 induction n with
 |zero=>simp[zqd,pk,Nat.mod_one]
 |succ n ih=>rw[zqd,z5c,ih,ze7,Nat.mul_succ,Nat.pow_add,Nat.mod_mul]
theorem qfp(w:Nat)(l:List Nat)(h:∀x∈l,x<2^w)(B:Nat)(hB:B%2^(w*l.length)=pk w l):zqd w l.length B=l:=by
 have key:∀(m:List Nat),(∀x∈m,x<2^w)-> ∀i,i<m.length->pk w m/2^(w*i)%2^w=m.getD i 0:=by
  intro m;induction m with
  |nil=>intro _ i hi;simp at hi
  |cons a m ih=>
   intro hm i hi;have ha:=hm a (by simp);cases i with
   |zero=>simp[pk,Nat.add_mul_mod_self_left,Nat.mod_eq_of_lt ha]
   |succ i=>
    rw[pk,Nat.mul_succ,Nat.add_comm (w*i),Nat.pow_add,<-Nat.div_div_eq_div_mul,Nat.add_mul_div_left _ _ (Nat.two_pow_pos w),Nat.div_eq_of_lt ha,Nat.zero_add,ih (fun x hx=>hm x (by simp[hx])) i (by simpa using hi)];simp
 refine List.ext_getElem (ze7 _ _ _) fun i h1 h2=>?_
 have e1:(zqd w l.length B).getD i 0=(zqd w l.length B)[i]:=by rw[List.getD_eq_getElem?_getD,List.getElem?_eq_getElem h1];rfl
 have e2:l.getD i 0=l[i]:=by rw[List.getD_eq_getElem?_getD,List.getElem?_eq_getElem h2];rfl
 rw[<-e1,<-e2,z5d w l.length B i h2,<-key l h i h2,<-hB];have hs:w*l.length=w*i+(w+w*(l.length-i-1)):=by
  have e:l.length=i+(1+(l.length-i-1)):=by omega
  conv=>lhs;rw[e]
  rw[Nat.mul_add,Nat.mul_add,Nat.mul_one]
 rw[hs,Nat.pow_add,Nat.mod_mul_right_div_self,Nat.pow_add,Nat.mod_mul_right_mod]
theorem zkk(X s i:Nat)(h:i<s):(low X s).getD i 0=X/256^i%256:=by
 induction s with
 |zero=>omega
 |succ s ih=>
  rw[low,List.getD_eq_getElem?_getD];by_cases hi:i<s
  ·rw[List.getElem?_append_left (by rw[za6];exact hi),<-List.getD_eq_getElem?_getD,ih hi]
  ·obtain rfl:i=s:=by omega
   rw[List.getElem?_append_right (by rw[za6];exact Nat.le_refl _),za6];simp
theorem zse(b:List Nat)(h:∀x∈b,x<256):low (num b) b.length=b:=by
 have key:∀(m:List Nat),(∀x∈m,x<256)-> ∀i,i<m.length->num m/256^i%256=m.getD i 0:=by
  intro m;induction m with
  |nil=>intro _ i hi;simp at hi
  |cons a m ih=>
   intro hm i hi;have ha:=hm a (by simp);cases i with
   |zero=>simp[num];omega
   |succ i=>
    rw[num,Nat.pow_succ,Nat.mul_comm (256^i),<-Nat.div_div_eq_div_mul,show(a+256*num m)/256=num m by omega,ih (fun x hx=>hm x (by simp[hx])) i (by simpa using hi)];simp
 refine List.ext_getElem (za6 _ _) fun i h1 h2=>?_
 have e1:(low (num b) b.length).getD i 0=(low (num b) b.length)[i]:=by rw[List.getD_eq_getElem?_getD,List.getElem?_eq_getElem h1];rfl
 have e2:b.getD i 0=b[i]:=by rw[List.getD_eq_getElem?_getD,List.getElem?_eq_getElem h2];rfl
 rw[<-e1,<-e2,zkk _ _ _ h2,key b h i h2]
theorem zzh(b:List Nat)(h:∀x∈b,x<256)(i:Nat)(hi:i<b.length):b.getD i 0=num b/256^i%256:=by have:=zkk (num b) b.length i hi;rwa[zse b h] at this
theorem qat(s:Nat):low 0 s=List.replicate s 0:=by
 induction s with
 |zero=>rfl
 |succ s ih=>rw[low,ih,List.replicate_succ'];simp
theorem qfq(k:Nat):(256:Nat)^k=2^(8*k):=by rw[show(256:Nat)=2^8 from rfl,<-Nat.pow_mul]
theorem qfr(X s a c:Nat)(ha:a<8*s)(hX:X<2^a)(hc:c<=1):
 (low X s).set (a/8) ((low X s).getD (a/8) 0+c*2^(a%8))=low (X+c*2^a) s/\(low X s).getD (a/8) 0<2^(a%8)/\(low X s).getD (a/8) 0+c*2^(a%8)<256:=by
 have hq:a/8<s:=by omega
 have ea:2^a=256^(a/8)*2^(a%8):=by rw[qfq,<-Nat.pow_add];congr 1;omega
 have hr:2^(a%8)<=2^7:=Nat.pow_le_pow_right (by omega) (by omega);have h0:X/256^(a/8)<2^(a%8):=by apply Nat.div_lt_of_lt_mul;rw[<-ea];exact hX
 have hb:(low X s).getD (a/8) 0=X/256^(a/8):=by rw[zkk _ _ _ hq];exact Nat.mod_eq_of_lt (by omega)
 have hcc:c*2^(a%8)<=2^(a%8):=by
  calc c*2^(a%8)<=1*2^(a%8):=Nat.mul_le_mul_right _ hc
   _=_:=Nat.one_mul _
 have hlt:X/256^(a/8)+c*2^(a%8)<256:=by omega
 refine⟨?_,by rw[hb];exact h0,by rw[hb];exact hlt⟩;refine List.ext_getElem (by simp[za6]) fun i h1 h2=>?_
 have h2':i<s:=by rwa[za6] at h2
 have h1':i<(low X s).length:=by rwa[za6]
 have e2:(low (X+c*2^a) s)[i]=(X+c*2^a)/256^i%256:=by rw[<-zkk _ _ _ h2',List.getD_eq_getElem?_getD,List.getElem?_eq_getElem h2];rfl
 have e1:(low X s)[i]'h1'=X/256^i%256:=by rw[<-zkk _ _ _ h2',List.getD_eq_getElem?_getD,List.getElem?_eq_getElem h1'];rfl
 rw[e2,List.getElem_set];by_cases hi:a/8=i
 ·subst hi
  rw[if_pos rfl,hb,ea,show c*(256^(a/8)*2^(a%8))=256^(a/8)*(c*2^(a%8)) from Nat.mul_left_comm _ _ _,Nat.add_mul_div_left _ _ (Nat.pow_pos (by omega)),Nat.mod_eq_of_lt hlt]
 ·rw[if_neg hi,e1]
  rcases Nat.lt_or_gt_of_ne hi with hlt'|hgt
  ·have hp:2^(a+1)<=256^i:=by rw[qfq];exact Nat.pow_le_pow_right (by omega) (by omega)
   have hca:c*2^a<=2^a:=by
    calc c*2^a<=1*2^a:=Nat.mul_le_mul_right _ hc
     _=_:=Nat.one_mul _
   rw[Nat.pow_succ] at hp;rw[Nat.div_eq_of_lt (by omega),Nat.div_eq_of_lt (by omega)]
  ·have es:2^a=256^i*(256*2^(a-8*(i+1))):=by
    rw[qfq,show(256:Nat)=2^8 from rfl,<-Nat.pow_add,<-Nat.pow_add];congr 1;omega
   rw[es,show c*(256^i*(256*2^(a-8*(i+1))))=256^i*(256*(c*2^(a-8*(i+1)))) by simp only[Nat.mul_left_comm],Nat.add_mul_div_left _ _ (Nat.pow_pos (by omega)),Nat.add_mul_mod_self_left]
theorem zmu(y j:Nat):y%2^(j+1)=y%2^j+2^j*(y/2^j%2):=by rw[Nat.pow_succ,Nat.mod_mul]
theorem qfs{X m:Nat}(y j:Nat)(hX:X<2^m):X+y%2^j*2^m<2^(m+j):=by have h1:y%2^j<2^j:=Nat.mod_lt _ (Nat.two_pow_pos _);have h2:(y%2^j+1)*2^m<=2^j*2^m:=Nat.mul_le_mul_right _ h1;rw[Nat.add_mul,Nat.one_mul] at h2;rw[Nat.pow_add,Nat.mul_comm (2^m)];omega
theorem z5e{X m:Nat}(s y j a q r t:Nat)(hX:X<2^m)(ha:a=m+j)(hs:a<8*s)(hq:q=a/8/\r=a%8)(ht:t=y/2^j%2):
 (low (X+y%2^j*2^m) s).getD q 0<2^r/\(low (X+y%2^j*2^m) s).set q ((low (X+y%2^j*2^m) s).getD q 0+t*2^r)=low (X+y%2^(j+1)*2^m) s:=by
 obtain⟨rfl,rfl⟩:=hq;have h:=qfr (X+y%2^j*2^m) s a t hs (by rw[ha];exact qfs y j hX) (by omega);refine⟨h.2.1,h.1.trans ?_⟩;congr 1
 rw[zmu,Nat.add_mul,ht,ha,Nat.pow_add,Nat.add_assoc];congr 2
 rw[Nat.mul_comm (2^m),<-Nat.mul_assoc,Nat.mul_comm (y/2^j%2)]
open Go Go.RowKit Go.WideShapes Go.ChangeShapes Go.Deep
def zdj(l:List (Int × Int)):List Value:=l.flatMap fun p=>[.int .i64 p.1,.int .i64 p.2]
theorem zgl(l:List (Int × Int)):(zdj l).length=l.length*2:=by
 induction l with
 |nil=>rfl
 |cons p l ih=>simp only[zdj,List.flatMap_cons,List.length_append,List.length_cons,List.length_nil] at ih⊢;rw[ih];omega
theorem qa3(l:List (Int × Int)):∀i,i<l.length->(zdj l)[i*2]? =some (.int .i64 (l.getD i (0,0)).1)/\(zdj l)[i*2+1]? =some (.int .i64 (l.getD i (0,0)).2):=by
 induction l with
 |nil=>intro i h;simp at h
 |cons p l ih=>
  intro i h;cases i with
  |zero=>exact⟨rfl,rfl⟩
  |succ i=>
   have:=ih i (by simpa using h);rw[show(i+1)*2=i*2+1+1 by omega];exact this
theorem Reads.lenP{w:World}{B n:Nat}{A:Option Addr}{l:List (Int × Int)}(h:Reads w B 2 A n (zdj l)):n=l.length:=by have:=h.1;rw[zgl] at this;omega
theorem Reads.pair{w:World}{B n i:Nat}{A:Option Addr}{l:List (Int × Int)}(h:Reads w B 2 A n (zdj l))(hi:i<n):
 ∃ad,A=some ad/\ad.block<B/\w.cell? (ad.add (i*2))=some (.int .i64 (l.getD i (0,0)).1)/\w.cell? (ad.add (i*2+1))=some (.int .i64 (l.getD i (0,0)).2):=by
 obtain⟨ad,e,hb,hc⟩:=h.2 (by omega);have hl:=h.lenP;obtain⟨h1,h2⟩:=qa3 l i (by omega);exact⟨ad,e,hb,hc _ _ h1,hc _ _ h2⟩
open Go Go.RowKit
theorem zhe{P:Program}{t:TypeId}{sz:Nat}(ht:P.underlying t=some (.slice (P.elem t)))(hs:∀w,(sizeOf (P.elem t)).run P w= .ok sz w)(A:Option Addr)(n c k m:Nat)(hk:k<=m)(hc:m<=c)(w:World):
 (Instr.sliceAt t (.slice A n c) (some (.int .i64 (k:Int))) (some (.int .i64 (m:Int))) none).run P w= .ok (.slice (if c=k then A else A.map (·.add (k*sz))) (m-k) (c-k)) w:=by
 rw[run_sliceAt_slice w t _ _ _ _ ht,run_slice_lh w t A n c ht .i64 .i64 (k:Int) (m:Int) (by omega) (by omega) (by omega),hs];simp[Result.andThen,sliced]
theorem qdd{P:Program}{t:TypeId}{sz:Nat}(ht:P.underlying t=some (.slice (P.elem t)))(hs:∀w,(sizeOf (P.elem t)).run P w= .ok sz w)(A:Option Addr)(n c m:Nat)(hc:m<=c)(w:World):
 (Instr.sliceAt t (.slice A n c) none (some (.int .i64 (m:Int))) none).run P w= .ok (.slice A m c) w:=by
 rw[run_sliceAt_slice w t _ _ _ _ ht,run_slice_h w t A n c ht .i64 (m:Int) (by omega) (by omega),hs];have e:∀a:Addr,a.add 0=a:=fun a=>by simp[Addr.add]
 cases A<;> simp[Result.andThen,sliced,e]
theorem qde{P:Program}{t:TypeId}{sz:Nat}(ht:P.underlying t=some (.slice (P.elem t)))(hs:∀w,(sizeOf (P.elem t)).run P w= .ok sz w)(A:Option Addr)(n c k:Nat)(hk:k<=n)(w:World):
 (Instr.sliceAt t (.slice A n c) (some (.int .i64 (k:Int))) none none).run P w= .ok (.slice (if c=k then A else A.map (·.add (k*sz))) (n-k) (c-k)) w:=by
 rw[run_sliceAt_slice w t _ _ _ _ ht,run_slice_l w t A n c ht .i64 (k:Int) (by omega) (by omega),hs];simp[Result.andThen,sliced]
end Go.Hm
