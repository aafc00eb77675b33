/- Merged. -/
import Derived.Deep.Fields
import Derived.OpenShut
import Derived.Test.YtmgfkpnghlmheaaGreatBun2
set_option maxHeartbeats 200000
namespace Go.Hm
open Go
theorem qdp(x y k:Nat)(hy:y<2^k):(x*2^k) ||| y=x*2^k+y:=by rw[Nat.mul_comm,<-Nat.two_pow_add_eq_or_of_lt hy]
theorem z4a(x y k:Nat)(hy:y<2^k)(hx:x%2^k=0):x ||| y=x+y:=nat_join k x y hx hy
theorem qih(x:Nat):bits .or .u8 ((x:Int)%256) 128=((x%128+128:Nat):Int):=by
 have h:=u8_or_nat (x%256) 128 (by omega) (by omega);rw[show((x:Int)%256)=((x%256:Nat):Int) from by omega,show(128:Int)=((128:Nat):Int) from rfl,h];congr 1
 by_cases hx:x%256<128
 ·rw[Nat.or_comm,z4a 128 (x%256) 7 hx rfl];omega
 ·have e:x%256=128+x%128:=by omega
  rw[e,Nat.or_comm,<-z4a 128 (x%128) 7 (by omega) rfl,<-Nat.or_assoc,Nat.or_self,z4a 128 (x%128) 7 (by omega) rfl];omega
theorem zhf(T:List Nat)(k:Nat)(hk:k<=T.length)(h8:∀x∈T,x<256):num (T.take k)<2^(8*k):=by have h:=zqh (T.take k) (fun x hx=>h8 x (List.mem_of_mem_take hx));rw[List.length_take,Nat.min_eq_left hk,show(256:Nat)=2^8 from rfl,<-Nat.pow_mul] at h;exact h
theorem zr4(T:List Nat)(k:Nat)(h8:∀x∈T,x<256):T.getD k 0<256:=by
 by_cases hk:k<T.length
 ·rw[List.getD_eq_getElem?_getD,List.getElem?_eq_getElem hk]
  exact h8 _ (List.getElem_mem hk)
 ·rw[List.getD_eq_getElem?_getD,List.getElem?_eq_none (by omega)]
  simp
theorem zr5(T:List Nat)(k:Nat)(hk:k<T.length)(h8:∀x∈T,x<256):num (T.take k) ||| (T.getD k 0*2^(8*k))=num (T.take (k+1)):=by rw[zae T k 0 hk,zyy,List.length_take,Nat.min_eq_left (by omega),Nat.or_comm,qdp _ _ _ (zhf T k (by omega) h8),show(256:Nat)=2^8 from rfl,<-Nat.pow_mul,Nat.add_comm]
theorem zgq{x k m:Nat}(hx:x<256)(hk:8*(k+1)<=m):x*2^(8*k)<2^m:=by
 have h1:x*2^(8*k)<256*2^(8*k):=Nat.mul_lt_mul_of_pos_right hx (Nat.two_pow_pos _);have h2:256*2^(8*k)=2^(8*(k+1)):=by rw[Nat.mul_add,Nat.pow_add,Nat.mul_comm]
 have h3:2^(8*(k+1))<=2^m:=Nat.pow_le_pow_right (by omega) hk;omega
theorem zwq(T:List Nat)(k:Nat)(hk:k<T.length)(hT:T.length<=1)(h8:∀x∈T,x<256):
 bits .or .u8 ((num (T.take k):Nat):Int) (((T.getD k 0:Nat):Int)*2^(8*k)%256)=((num (T.take (k+1)):Nat):Int):=by
 have hx:=zr4 T k h8;have hm:=zgq (m:=8) hx (show 8*(k+1)<=8 by omega);have hn:=zhf T k (by omega) h8;have hn2:2^(8*k)<=2^8:=Nat.pow_le_pow_right (by omega) (by omega);have e1:(((T.getD k 0:Nat):Int)*2^(8*k)%256)=((T.getD k 0*2^(8*k):Nat):Int):=by
  have e2:((T.getD k 0*2^(8*k):Nat):Int)=((T.getD k 0:Nat):Int)*2^(8*k):=by simp
  have e3:((T.getD k 0*2^(8*k):Nat):Int)<256:=by have:T.getD k 0*2^(8*k)<256:=hm;omega
  rw[e2] at e3⊢
  skip
  exact Int.emod_eq_of_lt (by rw[<-e2];omega) e3
 rw[e1,u8_or_nat _ _ (Nat.lt_of_lt_of_le hn hn2) hm,zr5 T k hk h8]
theorem ztu(T:List Nat)(k:Nat)(hk:k<T.length)(hT:T.length<=4)(h8:∀x∈T,x<256):
 bits .or .u32 ((num (T.take k):Nat):Int) (((T.getD k 0:Nat):Int)%4294967296*2^(8*k)%4294967296)=((num (T.take (k+1)):Nat):Int):=by
 have hx:=zr4 T k h8;have hm:=zgq (m:=32) hx (show 8*(k+1)<=32 by omega);have hn:=zhf T k (by omega) h8;have hn2:2^(8*k)<=2^32:=Nat.pow_le_pow_right (by omega) (by omega);have e1:(((T.getD k 0:Nat):Int)%4294967296*2^(8*k)%4294967296)=((T.getD k 0*2^(8*k):Nat):Int):=by
  have e2:((T.getD k 0*2^(8*k):Nat):Int)=((T.getD k 0:Nat):Int)*2^(8*k):=by simp
  have e3:((T.getD k 0*2^(8*k):Nat):Int)<4294967296:=by have:T.getD k 0*2^(8*k)<4294967296:=hm;omega
  rw[e2] at e3⊢;rw[Int.emod_eq_of_lt (a:=((T.getD k 0:Nat):Int)) (by omega) (by omega)];exact Int.emod_eq_of_lt (by rw[<-e2];omega) e3
 rw[e1,u32_or_nat _ _ (Nat.lt_of_lt_of_le hn hn2) hm,zr5 T k hk h8]
theorem ztv(T:List Nat)(k:Nat)(hk:k<T.length)(hT:T.length<=8)(h8:∀x∈T,x<256):
 bits .or .u64 ((num (T.take k):Nat):Int) (IntKind.u64.wrap (IntKind.u64.wrap ((T.getD k 0:Nat):Int)*2^(8*k)))=((num (T.take (k+1)):Nat):Int):=by
 rw[IntKind.wrap_u64,IntKind.wrap_u64];have hx:=zr4 T k h8;have hm:=zgq (m:=64) hx (show 8*(k+1)<=64 by omega);have hn:=zhf T k (by omega) h8;have hn2:2^(8*k)<=2^64:=Nat.pow_le_pow_right (by omega) (by omega);have e1:(((T.getD k 0:Nat):Int)%18446744073709551616*2^(8*k)%18446744073709551616)=((T.getD k 0*2^(8*k):Nat):Int):=by
  have e2:((T.getD k 0*2^(8*k):Nat):Int)=((T.getD k 0:Nat):Int)*2^(8*k):=by simp
  have e3:((T.getD k 0*2^(8*k):Nat):Int)<18446744073709551616:=by have:T.getD k 0*2^(8*k)<18446744073709551616:=hm;omega
  rw[e2] at e3⊢;rw[Int.emod_eq_of_lt (a:=((T.getD k 0:Nat):Int)) (by omega) (by omega)];exact Int.emod_eq_of_lt (by rw[<-e2];omega) e3
 rw[e1,u64_or_nat _ _ (Nat.lt_of_lt_of_le hn hn2) hm,zr5 T k hk h8]
theorem z4b(x k:Nat):((x:Int)/2^(8*k)%256)=((x/256^k%256:Nat):Int):=by rw[show(256:Nat)^k=2^(8*k) by rw[show(256:Nat)=2^8 from rfl,<-Nat.pow_mul]];simp
open Go.RowKit
theorem Own.at0{w:World}{base:Nat}{e:TypeId}{g n c i:Nat}{xs:List Value}(h:Own w base e (.slice (some ⟨g,0,none⟩) n c) xs)(hi:i<n):
 ∃u,xs[i]? =some u/\base<=g/\g<w.heap.size/\w.cell? ⟨g,i,none⟩=some u/\w.frozen? ⟨g,i,none⟩=false/\
  ∀u':Value,Own (w.setCell ⟨g,i,none⟩ u') base e (.slice (some ⟨g,0,none⟩) n c) (xs.set i u'):=by
 obtain⟨g',u,he,h1,h2,h3,h4,h5,h6⟩:=h.at_ hi;injection he with he;injection he with he;subst he;exact⟨u,h3,h1,h2,h4,h5,h6⟩
theorem Own.num0{w:World}{base:Nat}{e:TypeId}{g n c i:Nat}{k:IntKind}{l:List Nat}(h:Own w base e (.slice (some ⟨g,0,none⟩) n c) (za2 k l))(hi:i<n):
 base<=g/\g<w.heap.size/\w.cell? ⟨g,i,none⟩=some (.int k ((l.getD i 0:Nat):Int))/\w.frozen? ⟨g,i,none⟩=false/\
  ∀y:Nat,Own (w.setCell ⟨g,i,none⟩ (.int k (y:Int))) base e (.slice (some ⟨g,0,none⟩) n c) (za2 k (l.set i y)):=by
 have hn:=h.len;rw[zaa] at hn;obtain⟨u,h3,h1,h2,h4,h5,h6⟩:=h.at0 hi;rw[z34 k l i (by omega)] at h3;injection h3 with h3;subst h3;exact⟨h1,h2,h4,h5,fun y=>by rw[<-z9v];exact h6 _⟩
theorem qi4(a b:Nat)(ha:a<=9223372036854775807):IntKind.i64.wrap ((a:Int)/(b:Int))=((a/b:Nat):Int):=by rw[<-Int.natCast_ediv];have:a/b<=a:=Nat.div_le_self _ _;generalize a/b=q at*;exact IntWalk.i64_in _ (by omega)
theorem zr8(a:Nat)(ha:a<=9223372036854775807):∃q r:Nat,Hid (q=a/8/\r=a%8)/\8*q<=a/\r<8/\a<8*q+8/\IntKind.i64.wrap ((a:Int)/8)=(q:Int)/\(a:Int).tmod 8=(r:Int):=
 ⟨a/8,a%8,Hz ⟨rfl,rfl⟩,by omega,by omega,by omega,qi4 a 8 ha,by rw[Int.tmod_eq_emod_of_nonneg (by omega)];omega⟩
theorem qii(y j:Nat)(hy:y<=18446744073709551615):∃t:Nat,Hid (t=y/2^j%2)/\t<=1/\bits .and .u64 ((y:Int)/2^j) 1=(t:Int)/\IntKind.u8.wrap (t:Int)=(t:Int):=by refine⟨y/2^j%2,Hz rfl,by omega,?_,by rw[IntKind.wrap_u8];omega⟩;have h1:y/2^j<=y:=Nat.div_le_self _ _;have:=u64_and_nat (y/2^j) 1 (by omega) (by omega);rw[Nat.and_one_is_mod] at this;rw[<-this];congr 1
theorem qel(b r q:Nat)(hb:b<2^r)(hc:q<=1)(hr:r<8):bits .or .u8 (b:Int) ((q:Int)*2^r%256)=((b+q*2^r:Nat):Int):=by
 have h7:2^r<=2^7:=Nat.pow_le_pow_right (by omega) (by omega);have hq:q*2^r<=1*2^r:=Nat.mul_le_mul_right _ hc;have e:((q:Int)*2^r%256)=((q*2^r:Nat):Int):=by
  have e2:((q*2^r:Nat):Int)=(q:Int)*2^r:=by simp
  rw[<-e2];omega
 rw[e,u8_or_nat _ _ (by omega) (by omega),Nat.or_comm,<-Nat.mul_comm (2^r),<-Nat.two_pow_add_eq_or_of_lt hb,Nat.add_comm]
open Go.RowKit
structure Turns(T:List Nat)(w w':World):Prop where
 os:w'.os=w.os
 tape:w'.tape=w.tape
 output:w'.output=w.output
 size:w.heap.size<=w'.heap.size
 block:∀k,k<w.heap.size->k∉T->w'.heap[k]? =w.heap[k]?
section
variable{T T':List Nat}{w w' w2:World}
theorem Turns.refl(T:List Nat)(w:World):Turns T w w:=⟨rfl,rfl,rfl,Nat.le_refl _,fun _ _ _=>rfl⟩
theorem Turns.trans(h:Turns T w w')(k:Turns T w' w2):Turns T w w2:=
 ⟨k.os.trans h.os,k.tape.trans h.tape,k.output.trans h.output,Nat.le_trans h.size k.size,fun i hi hT=>(k.block i (Nat.lt_of_lt_of_le hi h.size) hT).trans (h.block i hi hT)⟩
theorem Turns.more(h:Turns T w w')(hs:∀x∈T,x∈T'):Turns T' w w':=⟨h.os,h.tape,h.output,h.size,fun i hi hT=>h.block i hi fun hx=>hT (hs i hx)⟩
theorem Turns.of_new(h:Below w.heap.size w w'):Turns T w w':=⟨h.os,h.tape,h.output,h.size,fun k hk _=>h.block k hk⟩
theorem Turns.of_far{g:Nat}(h:w.grownBy w' (some g))(hg:g∈T):Turns T w w':=
 ⟨h.os,h.tape,h.output,h.size,fun k hk hT=>h.block k hk (fun e=>by injection e with e;subst e;exact hT hg)⟩
theorem Turns.of_none(h:w.grownBy w' none):Turns T w w':=⟨h.os,h.tape,h.output,h.size,fun k hk _=>h.block k hk (by simp)⟩
theorem Turns.drew(T:List Nat)(w:World):Turns T w w.drew:=⟨rfl,rfl,rfl,Nat.le_refl _,fun _ _ _=>rfl⟩
theorem Turns.drewN(T:List Nat)(w:World)(n:Nat):Turns T w (w.drewN n):=⟨rfl,rfl,rfl,Nat.le_refl _,fun _ _ _=>rfl⟩
theorem Turns.setCell{g i:Nat}(u:Value)(hg:g∈T)(w:World):Turns T w (w.setCell ⟨g,i,none⟩ u):=
 ⟨rfl,rfl,rfl,by simp[World.setCell],fun k _ hT=>Below.heap_setCell _ _ _ _ (by rintro rfl;exact hT hg)⟩
theorem Turns.below{B:Nat}{a:World}(h:Below B a w)(k:Turns T w w')(hT:∀x∈T,B<=x)(hB:B<=a.heap.size):Below B a w':=
 ⟨k.os.trans h.os,k.tape.trans h.tape,k.output.trans h.output,Nat.le_trans h.size k.size,fun i hi=>(k.block i (by have:=h.size;omega) (fun hm=>by have:=hT i hm;omega)).trans (h.block i hi)⟩
theorem Turns.new(k:Turns T w w')(hT:∀x∈T,w.heap.size<=x):Below w.heap.size w w':=k.below (Below.refl _ _) hT (Nat.le_refl _)
theorem Blk.touch{g:Nat}{t:TypeId}{cs:Array Value}(h:Blk w g t cs)(k:Turns T w w')(hg:g∉T):Blk w' g t cs:=(k.block g h.lt hg).trans h
theorem Own.touch{base:Nat}{e:TypeId}{v:Value}{xs:List Value}(h:Own w base e v xs)(k:Turns T w w')(hT:∀x∈T,v.ownBlock≠some x):Own w' base e v xs:=by
 refine⟨h.1,?_⟩;rcases h.2 with hn|⟨g,cap,cur,rfl,hbg,hgg,rest⟩
 ·exact .inl hn
 ·refine .inr ⟨g,cap,cur,rfl,hbg,?_,rest⟩
  rw[k.block g (Array.getElem?_eq_some_iff.1 hgg).1 (fun hm=>hT g hm rfl)];exact hgg
theorem Reads.touch{B size n:Nat}{A:Option Addr}{xs:List Value}(h:Reads w B size A n xs)(k:Turns T w w')(hT:∀x∈T,B<=x)(hB:B<=w.heap.size):Reads w' B size A n xs:=
 h.keep fun p hp=>World.cell?_of_block (k.block p.block (by omega) (fun hm=>by have:=hT _ hm;omega))
theorem Turns.far{g:Nat}(h:Turns [g] w w'):w.grownBy w' (some g):=⟨h.os,h.tape,h.output,h.size,fun k hk hne=>h.block k hk (by intro hm;simp at hm;subst hm;exact hne rfl)⟩
end
theorem Own.row{w:World}{base:Nat}{e:TypeId}{v:Value}{xs:List Value}(h:Own w base e v xs):∀g,v.ownBlock=some g-> ∃cs,Blk w g e cs:=by
 intro g hg;rcases h.2 with⟨rfl,_⟩|⟨g',cap,cur,rfl,_,hh,_⟩
 ·simp[Value.ownBlock] at hg
 ·have:g'=g:=by simpa[Value.ownBlock] using hg
  subst this;exact⟨cur,hh⟩
theorem Blk.push{w w':World}{g:Nat}{t e:TypeId}{cs:Array Value}{base:Nat}{v:Value}{xs:List Value}(h:Blk w g t cs)(o:Own w base e v xs)(hg:w.grownBy w' v.ownBlock)(hne:e≠t):Blk w' g t cs:=
 h.grown hg (fun e'=>o.blk_ne h hne e'.symm)
theorem Reads.litV(w:World)(e:TypeId)(cs:Array Value)(n:Nat)(xs:List Value)(h:cs.toList=xs)(hn:n=xs.length):Reads (w.alloc (.cells cs e)) (w.alloc (.cells cs e)).heap.size 1 (some ⟨w.heap.size,0,none⟩) n xs:=by subst hn;refine⟨by simp,fun _=>⟨_,rfl,by simp,?_⟩⟩;have:=World.news_of_block (heap_alloc_new w (.cells cs e));rwa[h] at this
theorem New.alloc{w w':World}(o:Obj)(h:Below (w.alloc o).heap.size (w.alloc o) w'):New w w':=((Below.refl _ w).alloc (Nat.le_refl _) o).trans (h.mono (by simp))
theorem zno(w:World)(m n:Nat):(w.drewN m).drewN n=w.drewN (m+n):=by simp[World.drewN,Nat.add_assoc]
theorem zel(w:World)(k:Nat):New w (w.drewN k):=⟨rfl,rfl,rfl,Nat.le_refl _,fun _ _=>rfl⟩
theorem Reads.later{w0 w:World}{A:Option Addr}{n s:Nat}{xs:List Value}(h:Reads w0 w0.heap.size s A n xs)(hb:Below w0.heap.size w0 w):Reads w w.heap.size s A n xs:=(h.below hb).more hb.size
theorem Own.later{w0 w:World}{base:Nat}{e:TypeId}{v:Value}{xs:List Value}(h:Own w0 base e v xs)(hb:Below w0.heap.size w0 w):Own w base e v xs:=h.below hb (Nat.le_refl _)
open Go Go.RowKit
theorem zlz(l:List Nat)(i j:Nat):(zac l).extract i j=zac ((l.drop i).take (j-i)):=by refine ByteArray.ext ?_;rw[ByteArray.data_extract];show((l.map UInt8.ofNat).toArray).extract i j=(((l.drop i).take (j-i)).map UInt8.ofNat).toArray;simp
theorem z4l(l:List Nat)(i:Nat):(zac l).extract i l.length=zac (l.drop i):=by rw[zlz,List.take_of_length_le (by rw[List.length_drop];omega)]
theorem qev(l:List Nat)(j:Nat):(zac l).extract 0 j=zac (l.take j):=by rw[zlz];simp
theorem z97(l:List Nat)(k:Nat)(h8:∀x∈l,x<256)(hk:k<(zac l).size):((zac l)[k]'hk).toNat=l.getD k 0:=by
 have hk':k<l.length:=by rwa[za4] at hk
 show(((l.map UInt8.ofNat).toArray)[k]'(by simpa using hk')).toNat=_;simp only[List.getElem_toArray,List.getElem_map,UInt8.toNat_ofNat'];rw[List.getD_eq_getElem?_getD,List.getElem?_eq_getElem hk',Option.getD_some];exact Nat.mod_eq_of_lt (h8 _ (List.getElem_mem hk'))
section
variable{P:Program}{t:TypeId}
theorem z4m(ht:P.underlying t=some .string)(l:List Nat)(h8:∀x∈l,x<256)(k:Nat)(hk:k<l.length)(w:World):
 (Instr.index t (.string (zac l)) (.int .i64 (k:Int))).run P w= .ok (.int .u8 ((l.getD k 0:Nat):Int)) w:=by
 rw[run_index_string w t (zac l) .i64 (k:Int) ht,dif_pos ⟨by omega,by rw[za4];omega⟩];rw[z97 l _ h8];simp
theorem z98(ht:P.underlying t=some .string)(l:List Nat)(k:Nat)(hk:k<=l.length)(w:World):
 (Instr.slice t (.string (zac l)) (some (.int .i64 (k:Int))) none none).run P w= .ok (.string (zac (l.drop k))) w:=by
 rw[run_slice_string_from_if w t (zac l) .i64 (k:Int) ht,if_pos ⟨by omega,by rw[za4];omega⟩,Int.toNat_natCast,za4,z4l]
theorem qgx(ht:P.underlying t=some .string)(l:List Nat)(k:Nat)(hk:k<=l.length)(w:World):
 (Instr.slice t (.string (zac l)) none (some (.int .i64 (k:Int))) none).run P w= .ok (.string (zac (l.take k))) w:=by
 rw[run_slice_string_to_if w t (zac l) .i64 (k:Int) ht,if_pos ⟨by omega,by rw[za4];omega⟩,Int.toNat_natCast,qev]
end
theorem zsb(l:List Nat)(h8:∀x∈l,x<256):Lib.strCells (zac l)=za2 .u8 l:=by
 unfold Lib.strCells za2;show((l.map UInt8.ofNat).toArray.toList).map _=_;simp only[List.map_map];refine List.map_congr_left fun x hx=>?_
 simp only[Function.comp,UInt8.toNat_ofNat'];rw[Nat.mod_eq_of_lt (by have:=h8 x hx;omega)]
def zmn(l:List (List Nat)):List Value:=l.map fun s=> .string (zac s)
theorem zet(l:List (List Nat)):(zmn l).length=l.length:=by simp[zmn]
theorem zwu(l m:List (List Nat)):zmn (l++m)=zmn l++zmn m:=by simp[zmn]
theorem z4n(l:List (List Nat))(i:Nat)(h:i<l.length):(zmn l)[i]? =some (.string (zac (l.getD i []))):=by simp[zmn,List.getElem?_eq_getElem h]
theorem Reads.lenT{w:World}{B n:Nat}{A:Option Addr}{l:List (List Nat)}(h:Reads w B 1 A n (zmn l)):n=l.length:=by have:=h.1;rw[zet] at this;omega
theorem Reads.str{w:World}{B n:Nat}{A:Option Addr}{l:List (List Nat)}{i:Nat}(h:Reads w B 1 A n (zmn l))(hi:i<n):∃ad,A=some ad/\ad.block<B/\w.cell? (ad.add i)=some (.string (zac (l.getD i []))):=by
 obtain⟨ad,u,e,hb,hu,hc⟩:=h.at_ hi;have hl:i<l.length:=by have:=h.lenT;omega
 rw[z4n l i hl] at hu;injection hu with hu;subst hu;exact⟨ad,e,hb,hc⟩
theorem znq{L:List (List Nat)}{k:Nat}{Q:List Nat->Prop}(h:∀x∈L,Q x)(hk:k<L.length):Q (L.getD k []):=by rw[List.getD_eq_getElem?_getD,List.getElem?_eq_getElem hk];exact h _ (List.getElem_mem hk)
section
variable{P:Program}{ops:Array Oper}{rest:List Oper}{o:Oper}{a:Act}{Q:Exit->Act->World->Prop}
theorem ze0{w:World}{t e ts:TypeId}(E:ElT P t e (.int .u8 0) 1 1)(hts:P.underlying ts=some .string)(hgd:o.guard=none)(s x:Operand)
 (ho:o.op= .call {callee:= .builtin .append,args:= #[s,x],argTypes:= #[t,ts]})
 {W:World}{B base n c:Nat}{A:Option Addr}{l l2:List Nat}(hown:Own w base e (.slice A n c) (za2 .u8 l))(h8:∀x∈l2,x<256)(hs:a.eval s= .slice A n c)(hx:a.eval x= .string (zac l2))
 (hb:Below B W w)(hbB:B<=base)(hbase:base<=w.heap.size)(hn:n+l2.length<=140737488355328)
 (h:∀A' c' w',n+l2.length<=c'->c'<=maxLen->Own w' base e (.slice A' (n+l2.length) c') (za2 .u8 (l++l2))->w.grownBy w' (Value.ownBlock (.slice A n c))->Below B W w'->wpList P ops Q rest (a.put o.dst (.slice A' (n+l2.length) c')) w'):
 wpList P ops Q (o::rest) a w:=by
 obtain⟨i,hi,hz0,hz1,hz2⟩:=info_parts E.hi;have hln:=hown.len;rw[zaa] at hln;have hown':w.ownsRow base e 1 (.slice A n c) n (za2 .u8 l):=by unfold Own at hown;rwa[zaa,<-hln] at hown
 refine Lib.wpList_append_own_string w hgd s x t ts ho base e i E.ht hts hi hz0 hz1 hz2 _ n _ hs hown' (zac l2) hx (by rw[za4];unfold maxLen;omega) (by rw[za4];exact hn) hbase ?_;intro v' w' h1 h2 _;rw[zsb l2 h8,<-zds,za4] at h1;have hown2:Own w' base e v' (za2 .u8 (l++l2)):=by unfold Own;rw[zaa,List.length_append,<-hln];exact h1
 obtain⟨A',c',rfl,hc1,hc2⟩:=hown2.slice;rw[zaa,List.length_append,<-hln] at hc1 hown2⊢;exact h A' c' w' hc1 hc2 hown2 h2 (hb.grown h2 (Nat.le_trans hbB hbase) (fun k hk=>by have:=(hown.lt k hk).1;omega))
end
open Go.RowKit Go.WideShapes Go.ChangeShapes
section
variable{H:Type}{enc:TypeId × Value->H}{P:Program}
theorem zkc(hl:laidOutB P=true){W W':World}{sp:Nat->Bool}(hb:Below W.heap.size W W'):
 ∀{ts:List TypeId} {vs:List Value} {ds:List (DataW H)} {ps:List MemPlace},(∀t∈ts,P.readableRec t=true/\t<P.types.size)->DataW.TrodAll enc P W 0 (fun _=>true) true ts vs ds ps->
  (∀p∈ps,p.block<W.heap.size)->(∀p∈ps,sp p.block=true)->DataW.TrodAll enc P W' 0 sp true ts vs ds ps
 | [],_,_,_,_,h,_,_=>by
   obtain⟨rfl,rfl,rfl⟩:=trodAll_nil h;rfl
 |t::ts,_,_,_,hr,h,hlt,hsp=>by
  obtain⟨v,vs,d,ds,p,q,rfl,rfl,rfl,h1,h2⟩:=trodAll_cons h;refine⟨p,q,?_,zkc hl hb (fun t ht=>hr t (by simp[ht])) h2 (fun x hx=>hlt x (by simp[hx])) (fun x hx=>hsp x (by simp[hx])),rfl⟩;exact WideElems.Trod_stays hl (hr t (by simp)).1 (hr t (by simp)).2 h1 (fun x hx=>hb.same (hlt x (by simp[hx]))) (fun x hx=>hsp x (by simp[hx]))
theorem qak{f:Func}{s:ChangeSpec}{tb:TypeId}{W W':World}{args:Array Value}{ds gs:List (DataW H)}{before:List MemPlace}
 (hl:laidOutB P=true)(hrt:f.resultTypes= #[tb])(htb:P.underlying tb=some .bool)(hr:∀t∈f.params.toList,P.readableRec t=true/\t<P.types.size)
 (hv:s.vars=[])(hs:s.fn H (ds++gs)={results:=[.lit (.bool true)],args:=ds})
 (hW:DataW.Whole enc P f.params.toList s.vars false W args.toList ds gs before)(hb:Below W.heap.size W W'):
 s.post enc P f false true false false W args (.bool true) W':=by
 have hlt:∀p∈before,p.block<W.heap.size:=fun p hp=>hW.lt p hp
 obtain⟨p,q,hA,hV,rfl,hfz,hnd⟩:=id hW;rw[hv] at hV;obtain⟨rfl,rfl⟩:=trodVars_none hV;simp only[List.append_nil] at hlt;have hargs:=zkc (sp:=fun b=>decide (b<W.heap.size)) hl hb hr hA hlt (fun x hx=>by simpa using hlt x hx);refine⟨ds,[],p++[],[],p,[],hW,?_,?_,?_,World.keptBut_mono (fun x hx=>⟨hx,?_⟩) (hb.frame (· ∈p++[])),fun h=>by cases h⟩
 ·rw[hs,hrt]
  exact trodAll_mk1 (shut_bool htb true)
 ·rw[hs];exact hargs
 ·rw[hs,hv];rfl
 ·exact .inr (.inl (by simpa using hx))
end
theorem zzd{H:Type}{P:Program}{ts:List TypeId}{ds:List (DataW H)}(h:(DataW.weightsEach P ts ds).all (· <=reachBytes)=true){j:Nat}{t:TypeId}{d:DataW H}(ht:ts[j]? =some t)(hd:ds[j]? =some d):
 ∀n∈d.weights P t,n<=reachBytes:=fun n hn=>by
 have:=List.all_eq_true.1 h n (DataW.weights_mem_each ht hd n hn);simpa using this
theorem z1i{C:Checked}{os:Os}{f:FuncId}{fn:Func}{s:ChangeSpec}{tb:TypeId}{H:Type}{enc:TypeId × Value->H}
 (own:ownKnob C.prog.godebug=none)(hl:laidOutB C.prog=true)(started:os.Started)(noInit:C.prog.inits.idxOf? f=none)(hfn:C.prog.funcs[f]? =some fn)
 (hrt:fn.resultTypes= #[tb])(htb:C.prog.underlying tb=some .bool)(hr:∀t∈fn.params.toList,C.prog.readableRec t=true/\t<C.prog.types.size)
 (hv:s.vars=[])(hs:∀ds:List (DataW H),ds.length=fn.params.size->s.fn H ds={results:=[.lit (.bool true)],args:=ds})
 (witness:∃(w:World) (tape:Tape) (i:Input),w.os=os/\(w.forCall tape i).Shaped C.prog/\i.vars=[]/\Input.okWide C.prog (w.forCall tape i) .any w.heap.size f i/\
  s.pre6 enc C.prog fn [] false (w.forCall tape i).memory i.args/\({}:Assume).holds C.prog (lone (Frame.enter C.prog f i.args .normal) [] (w.forCall tape i)))
 (contract:∀(W:World) (base:Nat) (args:Array Value) (ds:List (DataW H)) (ps:List MemPlace),
  (∀(j:Nat) t v,fn.params[j]? =some t->args[j]? =some v->Value.okWide C.prog W .any base t v)->
  DataW.TrodAll enc C.prog W 0 (fun _=>true) true fn.params.toList args.toList ds ps->(∀p∈ps,p.block<W.heap.size)->W.noneFrozen ps->
  (DataW.weightsEach C.prog fn.params.toList ds).all (· <=reachBytes)=true->
  Calls C.prog f args W fun e W'=>e= .returned (.bool true)/\Below W.heap.size W W'):
 ReturnsInHanded {} C os f .any (s.pre6 enc C.prog fn [] false) (s.post enc C.prog fn false true false false):=by
 refine returnsInHanded_of_change_sized own started noInit hfn witness ?_;intro W base args ds gs before hval hW _ hsz _;have hlt:∀p∈before,p.block<W.heap.size:=fun p hp=>hW.lt p hp
 obtain⟨p,q,hA,hV,rfl,hfz,_⟩:=id hW;rw[hv] at hV;obtain⟨rfl,rfl⟩:=trodVars_none hV;have hvt:s.plain.varTypes C.prog=[]:=by simp[ChangeSpec.plain,DataSpec.varTypes,hv]
 rw[hvt,List.append_nil,List.append_nil] at hsz;simp only[List.append_nil] at hlt hfz;refine(contract W base args ds p hval hA hlt hfz hsz).mono fun e W' ⟨he,hb⟩=>⟨_,he,?_⟩
 have hdl:∀{ts:List TypeId} {vs:List Value} {ds:List (DataW H)} {ps:List MemPlace},DataW.TrodAll enc C.prog W 0 (fun _=>true) true ts vs ds ps->ds.length=ts.length:=by
  intro ts;induction ts with
  |nil=>intro vs ds ps h;obtain⟨_,rfl,_⟩:=trodAll_nil h;rfl
  |cons t ts ih=>intro vs ds ps h;obtain⟨v,vs',d,ds',p',q',_,rfl,_,_,h2⟩:=trodAll_cons h;simp[ih h2]
 exact qak hl hrt htb hr hv (by rw[List.append_nil];exact hs ds (by simpa using hdl hA)) hW hb
open Go Go.RowKit Go.WideShapes Go.ChangeShapes Go.Deep
section
variable{H:Type}{enc:TypeId × Value->H}{P:Program}{W:World}{t e:TypeId}{cs:List Value}
def Held(enc:TypeId × Value->H)(P:Program)(W:World)(t:TypeId)(cs:List Value):Prop:=
 ∃(fuel:Nat) (d:DataW H) (ps:List MemPlace),DataW.trod enc P W 0 (fun _=>true) true fuel t cs=some (d,ps)/\(∀p∈ps,p.block<W.heap.size)/\ ∀n∈d.weights P t,n<=reachBytes
theorem Held.of{v:Value}{d:DataW H}{ps:List MemPlace}(h:DataW.Trod enc P W 0 (fun _=>true) true t v d ps)(hlt:∀p∈ps,p.block<W.heap.size)(hw:∀n∈d.weights P t,n<=reachBytes):Held enc P W t v.cells.toList:=by obtain⟨fuel,h⟩:=h;exact⟨fuel,d,ps,h,hlt,hw⟩
theorem Held.int{k:IntKind}(ht:P.underlying t=some (.int k))(h:Held enc P W t cs):∃n,cs=[.int k n]/\k.min<=n/\n<=k.max:=by obtain⟨fuel,d,ps,h,_,_⟩:=h;obtain⟨n,rfl,_,hw⟩:=DataW.trod_int ht h;simp only[Lit.wf,Bool.and_eq_true,decide_eq_true_eq] at hw;exact⟨n,rfl,hw.1,hw.2⟩
theorem Held.i64(ht:P.underlying t=some (.int .i64))(h:Held enc P W t cs):∃n:Int,cs=[.int .i64 n]/\ -9223372036854775808<=n/\n<=9223372036854775807:=by obtain⟨n,h1,h2,h3⟩:=h.int ht;simp[IntKind.min,IntKind.max,IntKind.signed,IntKind.bits] at h2 h3;exact⟨n,h1,h2,by omega⟩
theorem Held.bool(ht:P.underlying t=some .bool)(h:Held enc P W t cs):∃b,cs=[.bool b]:=by obtain⟨fuel,d,ps,h,_,_⟩:=h;obtain⟨b,rfl,_⟩:=DataW.trod_bool ht h;exact⟨b,rfl⟩
theorem qe3(s:ByteArray):∃l:List Nat,s=zac l/\(∀x∈l,x<256)/\l.length=s.size:=by
 refine⟨s.data.toList.map UInt8.toNat,?_,?_,by simp⟩
 ·refine ByteArray.ext ?_
  show s.data=((s.data.toList.map UInt8.toNat).map UInt8.ofNat).toArray;rw[List.map_map];have:(UInt8.ofNat ∘ UInt8.toNat)=id:=by funext x;simp
  rw[this];simp
 ·intro x hx
  simp only[List.mem_map] at hx;obtain⟨y,_,rfl⟩:=hx;exact y.toNat_lt
theorem Held.string(ht:P.underlying t=some .string)(h:Held enc P W t cs):∃l:List Nat,cs=[.string (zac l)]/\(∀x∈l,x<256)/\l.length<=140737488351232:=by obtain⟨fuel,d,ps,h,_,hw⟩:=h;obtain⟨s,rfl,hx,_⟩:=DataW.trod_string ht h;simp only[Prod.mk.injEq] at hx;obtain⟨rfl,_⟩:=hx;obtain⟨l,rfl,h8,hl⟩:=qe3 s;refine⟨l,rfl,h8,?_⟩;have:=hw (zac l).data.toList.length (by simp[DataW.weights]);rw[Array.length_toList] at this;have e:(zac l).data.size=l.length:=hl.symm;rw[e] at this;unfold reachBytes at this;omega
theorem zjp{d:DataW H}:∀{ds:List (DataW H)},d∈ds-> ∀n∈d.weights P e,n∈DataW.weightsAll P e ds
 | [],h,_,_=>by cases h
 |x::ds,h,n,hn=>by
  rw[DataW.weightsAll,List.mem_append];rcases List.mem_cons.1 h with rfl|h
  ·exact .inl hn
  ·exact .inr (zjp h n hn)
theorem Held.field{fs:Array Field}(ht:P.underlying t=some (.struct fs))(h:Held enc P W t cs):cs.length=P.cellsOf t/\ ∀(i:Nat) (f:Field),fs[i]? =some f->Held enc P W f.type ((cs.drop f.offset).take (P.cellsOf f.type)):=by obtain⟨fuel,d,ps,h,hlt,hw⟩:=h;obtain⟨xs,n,rfl,hx,hl,hxl,hf⟩:=DataW.trod_struct ht h;simp only[Prod.mk.injEq] at hx;obtain⟨rfl,rfl⟩:=hx;refine⟨hl,fun i f hi=>?_⟩;have hil:i<fs.size:=(Array.getElem?_eq_some_iff.1 hi).1;have hxi:xs[i]? =some (xs[i]'(by omega)):=List.getElem?_eq_getElem (by omega);refine⟨n,(xs[i]'(by omega)).1,(xs[i]'(by omega)).2,(hf i f hi).trans hxi,fun p hp=>hlt p (List.mem_flatMap.2 ⟨_,List.getElem_mem _,hp⟩),fun m hm=>hw m ?_⟩;rw[DataW.weights];simp only[ht];exact DataW.weights_mem_each (j:=i) (t:=f.type) (d:=(xs[i]'(by omega)).1) (by rw[List.getElem?_map,Array.getElem?_toList,hi];rfl) (by rw[List.getElem?_map,hxi];rfl) m hm
theorem Held.slice(ht:P.underlying t=some (.slice e))(h:Held enc P W t cs):
 cs=[.slice none 0 0]\/ ∃(a:Addr) (len cap:Nat),cs=[.slice (some a) len cap]/\len<=cap/\cap<=maxLen/\cap*P.bytesOf e<=reachBytes/\(0<cap*P.cellsOf e->a.block<W.heap.size)/\
  ∀i,i<cap-> ∃cs',W.cells? 0 (a.add (i*P.cellsOf e)) (P.cellsOf e)=some cs'/\Held enc P W e cs':=by
 obtain⟨fuel,d,ps,h,hlt,hw⟩:=h;rcases open_slice ht h with⟨hcs,_⟩|⟨a,len,cap,m,n,D,Pl,hcs,_,hl,hm,hmm,hx,hi⟩
 ·exact .inl hcs
 ·rw[if_pos rfl] at hmm
  subst hmm;simp only[Prod.mk.injEq] at hx;obtain⟨rfl,rfl⟩:=hx;have hwm:∀x∈(m*P.bytesOf e)::(DataW.weightsAll P e ((List.range len).map D)++DataW.weightsAll P e ((List.range (m-len)).map fun j=>D (len+j))),x<=reachBytes:=by intro x hx;refine hw x ?_;rw[DataW.weights];simp only[ht,List.length_map,List.length_range];rw[show len+(m-len)=m by omega];exact hx
  refine .inr ⟨a,len,m,hcs,hl,hm,hwm _ (by simp),fun h0=>?_,fun i him=>?_⟩
  ·exact hlt (.cell a.block a.off) (by rw[List.mem_append];left;unfold MemPlace.row;simp only[List.mem_map,List.mem_range];exact⟨0,h0,rfl⟩)
  ·obtain⟨cs',hc,ht'⟩:=hi i him
   refine⟨cs',hc,n,D i,Pl i,ht',fun p hp=>hlt p ?_,fun k hk=>hwm k ?_⟩
   ·rw[List.mem_append]
    right;exact List.mem_flatMap.2 ⟨i,by simpa using him,hp⟩
   ·rw[List.mem_cons,List.mem_append]
    right;by_cases hil:i<len
    ·exact .inl (zjp (List.mem_map.2 ⟨i,by simpa using hil,rfl⟩) k hk)
    ·exact .inr (zjp (List.mem_map.2 ⟨i-len,by simp;omega,by rw[show len+(i-len)=i by omega]⟩) k hk)
def recs{α:Type}(f:α->List Value)(l:List α):List Value:=l.flatMap f
theorem zg1{α:Type}(f:α->List Value)(x:α)(l:List α):recs f (x::l)=f x++recs f l:=rfl
theorem zas{α:Type}(f:α->List Value)(l m:List α):recs f (l++m)=recs f l++recs f m:=by simp[recs]
theorem zat{α:Type}{f:α->List Value}{sz:Nat}(hf:∀x,(f x).length=sz)(l:List α):(recs f l).length=l.length*sz:=by
 induction l with
 |nil=>simp[recs]
 |cons x l ih=>rw[zg1,List.length_append,hf,ih,List.length_cons,Nat.succ_mul,Nat.add_comm]
theorem zn0{α:Type}{f:α->List Value}{sz:Nat}(hf:∀x,(f x).length=sz)(l:List α)(d:α):∀i j,i<l.length->j<sz->(recs f l)[i*sz+j]? =(f (l.getD i d))[j]? :=by
 induction l with
 |nil=>intro i j h;simp at h
 |cons x l ih=>
  intro i j hi hj;cases i with
  |zero=>
   rw[zg1,Nat.zero_mul,Nat.zero_add,List.getElem?_append_left (by rw[hf];exact hj)];rfl
  |succ i=>
   rw[zg1,List.getElem?_append_right (by rw[hf,Nat.succ_mul];omega),hf,show(i+1)*sz+j-sz=i*sz+j by rw[Nat.succ_mul];omega,ih i j (by simpa using hi) hj];simp
theorem z4v{α:Type}{f:α->List Value}{sz:Nat}(hf:∀x,(f x).length=sz)(l:List α)(k:Nat)(hk:k<=l.length):(recs f l).drop (k*sz)=recs f (l.drop k):=by
 conv=>lhs;rw[<-List.take_append_drop k l,zas]
 rw[List.drop_left'];rw[zat hf,List.length_take,Nat.min_eq_left hk]
theorem zt6{α:Type}{f:α->List Value}{sz:Nat}(hf:∀x,(f x).length=sz)(l:List α)(k:Nat)(hk:k<=l.length):(recs f l).take (k*sz)=recs f (l.take k):=by
 conv=>lhs;rw[<-List.take_append_drop k l,zas]
 rw[List.take_left'];rw[zat hf,List.length_take,Nat.min_eq_left hk]
theorem Reads.rec_{α:Type}{f:α->List Value}{sz:Nat}(hf:∀x,(f x).length=sz){w:World}{B n i:Nat}{A:Option Addr}{l:List α}(d:α)(h:Reads w B sz A n (recs f l))(hi:i<n)(h0:0<sz):
 ∃ad,A=some ad/\ad.block<B/\i<l.length/\ ∀j u,(f (l.getD i d))[j]? =some u->w.cell? (ad.add (i*sz+j))=some u:=by
 obtain⟨ad,e,hb,hc⟩:=h.2 (by omega);have hl:=h.1;rw[zat hf] at hl;have hll:l.length=n:=Nat.eq_of_mul_eq_mul_right h0 hl;refine⟨ad,e,hb,by omega,fun j u hu=>hc _ u ?_⟩;have hj:j<sz:=by rw[<-hf (l.getD i d)];exact(List.getElem?_eq_some_iff.1 hu).1
 rw[zn0 hf l d i j (by omega) hj];exact hu
theorem Reads.lenR{α:Type}{f:α->List Value}{sz:Nat}(hf:∀x,(f x).length=sz){w:World}{B n:Nat}{A:Option Addr}{l:List α}(h:Reads w B sz A n (recs f l))(h0:0<sz):n=l.length:=by have hl:=h.1;rw[zat hf] at hl;exact(Nat.eq_of_mul_eq_mul_right h0 hl).symm
theorem zw1{α:Type}{p:Nat->α->Prop}(d:α):∀n,(∀i,i<n-> ∃x,p i x)-> ∃l:List α,l.length=n/\ ∀i,i<n->p i (l.getD i d):=by
 intro n;induction n with
 |zero=>intro _;exact⟨[],rfl,fun i h=>by omega⟩
 |succ n ih=>
  intro h;obtain⟨l,hl,hp⟩:=ih (fun i hi=>h i (by omega));obtain⟨x,hx⟩:=h n (by omega);refine⟨l++[x],by simp[hl],fun i hi=>?_⟩;by_cases hin:i<n
  ·have e:(l++[x]).getD i d=l.getD i d:=by rw[List.getD_eq_getElem?_getD,List.getElem?_append_left (by omega),<-List.getD_eq_getElem?_getD]
   rw[e];exact hp i hin
  ·obtain rfl:i=n:=by omega
   have e:(l++[x]).getD i d=x:=by rw[List.getD_eq_getElem?_getD,List.getElem?_append_right (by omega),hl];simp
   rw[e];exact hx
theorem Held.recs{α:Type}{f:α->List Value}{sz by_:Nat}{Q:α->Prop}(d:α)(ht:P.underlying t=some (.slice e))(hC:P.cellsOf e=sz)(hby:P.bytesOf e=by_)(hf:∀x,(f x).length=sz)(h0:0<sz)
 (hel:∀cs,Held enc P W e cs-> ∃x,cs=f x/\Q x)(h:Held enc P W t cs):
 ∃A c,∃l:List α,cs=[.slice A l.length c]/\l.length<=c/\c<=maxLen/\c*by_<=reachBytes/\Reads W W.heap.size sz A l.length (Hm.recs f l)/\ ∀x∈l,Q x:=by
 rcases h.slice ht with rfl|⟨a,len,cap,rfl,hl,hm,hw,hb,hi⟩
 ·exact⟨none,0,[],rfl,by simp,by simp[maxLen],by simp,⟨by simp[Hm.recs],fun h=>by simp at h⟩,by simp⟩
 ·rw[hC] at hi hb
  rw[hby] at hw;obtain⟨l,hll,hp⟩:=zw1 (p:=fun i x=>W.cells? 0 (a.add (i*sz)) sz=some (f x)/\Q x) d len (fun i hil=>by obtain⟨cs',hc,hh⟩:=hi i (by omega);obtain⟨x,rfl,hq⟩:=hel cs' hh;exact⟨x,hc,hq⟩)
  subst hll;refine⟨some a,cap,l,rfl,hl,hm,hw,⟨by rw[zat hf],fun hn=>⟨a,rfl,hb (Nat.mul_pos (by omega) h0),fun j u hu=>?_⟩⟩,fun x hx=>?_⟩
  ·have hj:j<l.length*sz:=by
    rw[<-zat hf];exact(List.getElem?_eq_some_iff.1 hu).1
   have hjd:j/sz<l.length:=by rw[Nat.mul_comm] at hj;exact Nat.div_lt_of_lt_mul hj
   have hjm:j%sz<sz:=Nat.mod_lt _ h0;obtain⟨hc,_⟩:=hp (j/sz) hjd;obtain⟨_,_,hat⟩:=World.cells?_some hc;have:=hat (j%sz) hjm;rw[Go.Deep.add_add,Nat.mul_comm (j/sz),Nat.div_add_mod] at this;rw[this,<-hu];have e:=zn0 hf l d (j/sz) (j%sz) hjd hjm;rw[Nat.mul_comm (j/sz),Nat.div_add_mod] at e;rw[e]
  ·obtain⟨i,hi',rfl⟩:=List.getElem_of_mem hx
   have:=(hp i hi').2;rwa[List.getD_eq_getElem?_getD,List.getElem?_eq_getElem hi'] at this
end
open Go Go.RowKit Go.WideShapes Go.ChangeShapes Go.Deep
def zc0(l:List (Int × Int)):List Value:=l.flatMap fun p=>[.int .i64 p.1,.int .i64 p.2]
theorem zge(l:List (Int × Int)):(zc0 l).length=l.length*2:=by
 induction l with
 |nil=>rfl
 |cons p l ih=>simp only[zc0,List.flatMap_cons,List.length_append,List.length_cons,List.length_nil] at ih⊢;rw[ih];omega
theorem qal(l:List (Int × Int)):∀i,i<l.length->(zc0 l)[i*2]? =some (.int .i64 (l.getD i (0,0)).1)/\(zc0 l)[i*2+1]? =some (.int .i64 (l.getD i (0,0)).2):=by
 induction l with
 |nil=>intro i h;simp at h
 |cons p l ih=>
  intro i h;cases i with
  |zero=>exact⟨rfl,rfl⟩
  |succ i=>
   have:=ih i (by simpa using h);rw[show(i+1)*2=i*2+1+1 by omega];exact this
theorem Reads.lenP{w:World}{B n:Nat}{A:Option Addr}{l:List (Int × Int)}(h:Reads w B 2 A n (zc0 l)):n=l.length:=by have:=h.1;rw[zge] at this;omega
theorem Reads.pair{w:World}{B n i:Nat}{A:Option Addr}{l:List (Int × Int)}(h:Reads w B 2 A n (zc0 l))(hi:i<n):
 ∃ad,A=some ad/\ad.block<B/\w.cell? (ad.add (i*2))=some (.int .i64 (l.getD i (0,0)).1)/\w.cell? (ad.add (i*2+1))=some (.int .i64 (l.getD i (0,0)).2):=by
 obtain⟨ad,e,hb,hc⟩:=h.2 (by omega);have hl:=h.lenP;obtain⟨h1,h2⟩:=qal l i (by omega);exact⟨ad,e,hb,hc _ _ h1,hc _ _ h2⟩
def zhv(f t s:Nat):Nat:=(t-f+s-1)/s
def zz3(f t s i:Nat):Int × Int:=(((f+i*s:Nat):Int),((min (f+(i+1)*s) t:Nat):Int))
def zgl(f t s:Nat):List (Int × Int):=(List.range (zhv f t s)).map (zz3 f t s)
theorem zgm{f t s:Nat}(hs:0<s)(k:Nat):k<zhv f t s↔f+k*s<t:=by unfold zhv;rw[<-Nat.succ_le_iff,Nat.le_div_iff_mul_le hs,Nat.succ_mul];omega
theorem zz4{f t s:Nat}(hs:0<s):zhv f t s<=t-f:=by
 rcases Nat.eq_zero_or_pos (zhv f t s) with h|h
 ·omega
 ·have:=(zgm (f:=f) (t:=t) hs (zhv f t s-1)).1 (by omega)
  have:zhv f t s-1<=(zhv f t s-1)*s:=Nat.le_mul_of_pos_right _ hs;omega
theorem zfu(f t s:Nat):(zgl f t s).length=zhv f t s:=by simp[zgl]
theorem zoi{f t s i:Nat}(hi:i<zhv f t s):(zgl f t s).getD i (0,0)=zz3 f t s i:=by simp[zgl,List.getD_eq_getElem?_getD,List.getElem?_map,List.getElem?_range hi]
theorem zoj{f t s k:Nat}(hk:k<zhv f t s):(zgl f t s).take (k+1)=(zgl f t s).take k++[zz3 f t s k]:=by rw[zae _ k (0,0) (by rw[zfu];exact hk),zoi hk]
def atN(f t s k:Nat):Nat:=min (f+k*s) t
theorem zz5{f t s k:Nat}(hk:f+k*s<t):atN f t s k=f+k*s/\atN f t s (k+1)=atN f t s k+min s (t-atN f t s k)/\zz3 f t s k=((atN f t s k:Int),(atN f t s (k+1):Int)):=by
 have h1:atN f t s k=f+k*s:=by unfold atN;omega
 refine⟨h1,?_,?_⟩
 ·rw[h1];unfold atN;rw[Nat.succ_mul];omega
 ·rw[h1];rfl
def zcq(f t s:Int):List (Int × Int):=if f<0\/t<=f\/65536<t\/s<1 then [] else zgl f.toNat t.toNat s.toNat
theorem zuu{f t s:Int}(h:f<0\/t<=f\/65536<t\/s<1):zcq f t s=[]:=by rw[zcq,if_pos h]
theorem zz6{f t s:Nat}(h1:f<t)(h2:t<=65536)(h3:0<s):zcq f t s=zgl f t s:=by rw[zcq,if_neg (by omega)];simp
theorem zsv(f t s:Int):(zcq f t s).length<=65536:=by
 unfold zcq;split
 ·simp
 ·rw[zfu]
  have:=zz4 (f:=f.toNat) (t:=t.toNat) (s:=s.toNat) (by omega);omega
def z9r(x:Int × Int)(f t:Int):Prop:=x.1<t/\f<x.2/\f<t
instance(x:Int × Int)(f t:Int):Decidable (z9r x f t):=by unfold z9r;exact inferInstance
end Go.Hm
