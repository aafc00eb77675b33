/- Merged. -/
import Derived.Deep.Fields
import Derived.OpenShut
import Derived.Shelf.Strconv.Itoa0
import Derived.Test.YtmgfkpnghlmheaaGreatBun2
import Derived.Test.YtmgfkpnghlmheaaGreatRows
set_option maxHeartbeats 200000
namespace Go.Proofs.Y
open Go.Shelf
def zwj:Go.Shelf.Ren:=⟨fun|129=>151|n=>n,fun|53=>87|3=>3|4=>4|46=>66|5=>5|9=>9|n=>n,fun|n=>n⟩
theorem qei:Go.Proofs.Lays.n129 Tryz.prog zwj:={
 mixed:=by kernel_rfl
 f129:=Tryz.func151.trans (congrArg some (by kernel_rfl))
 t3:=Tryz.underlying3
 a3:=Tryz.isAgg3
 z3:=Tryz.sizeOf3
 v3:=Tryz.zeroValue3
 t4:=Tryz.underlying4
 a4:=Tryz.isAgg4
 z4:=Tryz.sizeOf4
 v4:=Tryz.zeroValue4
 t5:=Tryz.underlying5
 a5:=Tryz.isAgg5
 z5:=Tryz.sizeOf5
 v5:=Tryz.zeroValue5
 t9:=Tryz.underlying9
 a9:=Tryz.isAgg9
 z9:=Tryz.sizeOf9
 v9:=Tryz.zeroValue9
 t46:=Tryz.underlying66
 a46:=Tryz.isAgg66
 z46:=Tryz.sizeOf66
 v46:=Tryz.zeroValue66
 t53:=Tryz.underlying87
 a53:=Tryz.isAgg87
 z53:=Tryz.sizeOf87
 v53:=Tryz.zeroValue87}
theorem bits_Len64(x:Int)(w:World)(h0:0<=x)(h1:x<=18446744073709551615):
 Calls Tryz.prog 151 #[.int .u64 x] w fun e w'=>e= .returned (.int .i64 (Lib.bitLen x.toNat))/\w'=w:=Any.bits_Len64 qei x w h0 h1
open Go.Hm
theorem Tryz.own:ownKnob Tryz.prog.godebug=none:=by kernel_rfl
theorem Tryz.laidOut:laidOutB Tryz.prog=true:=by kernel_rfl
theorem elB:ElT Tryz.prog 31 5 (.int .u8 0) 1 1:=⟨by kernel_rfl,by kernel_rfl,rfl,by omega⟩
theorem elW:ElT Tryz.prog 146 87 (.int .u64 0) 1 8:=⟨by kernel_rfl,by kernel_rfl,rfl,by omega⟩
theorem elI:ElT Tryz.prog 26 3 (.int .i64 0) 1 8:=⟨by kernel_rfl,by kernel_rfl,rfl,by omega⟩
theorem zeu{w:World}{B n c:Nat}{A:Option Addr}{l:List Nat}(h:Reads w B 1 A n (za3 .u8 l)):(convert 31 9 (.slice A n c)).run Tryz.prog w= .ok (.string (zad l)) w:=
 z3v (e:=5) (by kernel_rfl) (by kernel_rfl) (by kernel_rfl) h
end Go.Proofs.Y
namespace Go.Hm
open Go
theorem qdo(x y k:Nat)(hy:y<2^k):(x*2^k) ||| y=x*2^k+y:=by rw[Nat.mul_comm,<-Nat.two_pow_add_eq_or_of_lt hy]
theorem z3x(x y k:Nat)(hy:y<2^k)(hx:x%2^k=0):x ||| y=x+y:=nat_join k x y hx hy
theorem qih(x:Nat):bits .or .u8 ((x:Int)%256) 128=((x%128+128:Nat):Int):=by
 have h:=u8_or_nat (x%256) 128 (by omega) (by omega);rw[show((x:Int)%256)=((x%256:Nat):Int) from by omega,show(128:Int)=((128:Nat):Int) from rfl,h];congr 1
 by_cases hx:x%256<128
 ·rw[Nat.or_comm,z3x 128 (x%256) 7 hx rfl];omega
 ·have e:x%256=128+x%128:=by omega
  rw[e,Nat.or_comm,<-z3x 128 (x%128) 7 (by omega) rfl,<-Nat.or_assoc,Nat.or_self,z3x 128 (x%128) 7 (by omega) rfl];omega
theorem zhj(T:List Nat)(k:Nat)(hk:k<=T.length)(h8:∀x∈T,x<256):num (T.take k)<2^(8*k):=by have h:=zqn (T.take k) (fun x hx=>h8 x (List.mem_of_mem_take hx));rw[List.length_take,Nat.min_eq_left hk,show(256:Nat)=2^8 from rfl,<-Nat.pow_mul] at h;exact h
theorem zr7(T:List Nat)(k:Nat)(h8:∀x∈T,x<256):T.getD k 0<256:=by
 by_cases hk:k<T.length
 ·rw[List.getD_eq_getElem?_getD,List.getElem?_eq_getElem hk]
  exact h8 _ (List.getElem_mem hk)
 ·rw[List.getD_eq_getElem?_getD,List.getElem?_eq_none (by omega)]
  simp
theorem zr8(T:List Nat)(k:Nat)(hk:k<T.length)(h8:∀x∈T,x<256):num (T.take k) ||| (T.getD k 0*2^(8*k))=num (T.take (k+1)):=by rw[zae T k 0 hk,zym,List.length_take,Nat.min_eq_left (by omega),Nat.or_comm,qdo _ _ _ (zhj T k (by omega) h8),show(256:Nat)=2^8 from rfl,<-Nat.pow_mul,Nat.add_comm]
theorem zgp{x k m:Nat}(hx:x<256)(hk:8*(k+1)<=m):x*2^(8*k)<2^m:=by
 have h1:x*2^(8*k)<256*2^(8*k):=Nat.mul_lt_mul_of_pos_right hx (Nat.two_pow_pos _);have h2:256*2^(8*k)=2^(8*(k+1)):=by rw[Nat.mul_add,Nat.pow_add,Nat.mul_comm]
 have h3:2^(8*(k+1))<=2^m:=Nat.pow_le_pow_right (by omega) hk;omega
theorem zwl(T:List Nat)(k:Nat)(hk:k<T.length)(hT:T.length<=1)(h8:∀x∈T,x<256):
 bits .or .u8 ((num (T.take k):Nat):Int) (((T.getD k 0:Nat):Int)*2^(8*k)%256)=((num (T.take (k+1)):Nat):Int):=by
 have hx:=zr7 T k h8;have hm:=zgp (m:=8) hx (show 8*(k+1)<=8 by omega);have hn:=zhj T k (by omega) h8;have hn2:2^(8*k)<=2^8:=Nat.pow_le_pow_right (by omega) (by omega);have e1:(((T.getD k 0:Nat):Int)*2^(8*k)%256)=((T.getD k 0*2^(8*k):Nat):Int):=by
  have e2:((T.getD k 0*2^(8*k):Nat):Int)=((T.getD k 0:Nat):Int)*2^(8*k):=by simp
  have e3:((T.getD k 0*2^(8*k):Nat):Int)<256:=by have:T.getD k 0*2^(8*k)<256:=hm;omega
  rw[e2] at e3⊢
  skip
  exact Int.emod_eq_of_lt (by rw[<-e2];omega) e3
 rw[e1,u8_or_nat _ _ (Nat.lt_of_lt_of_le hn hn2) hm,zr8 T k hk h8]
theorem ztx(T:List Nat)(k:Nat)(hk:k<T.length)(hT:T.length<=4)(h8:∀x∈T,x<256):
 bits .or .u32 ((num (T.take k):Nat):Int) (((T.getD k 0:Nat):Int)%4294967296*2^(8*k)%4294967296)=((num (T.take (k+1)):Nat):Int):=by
 have hx:=zr7 T k h8;have hm:=zgp (m:=32) hx (show 8*(k+1)<=32 by omega);have hn:=zhj T k (by omega) h8;have hn2:2^(8*k)<=2^32:=Nat.pow_le_pow_right (by omega) (by omega);have e1:(((T.getD k 0:Nat):Int)%4294967296*2^(8*k)%4294967296)=((T.getD k 0*2^(8*k):Nat):Int):=by
  have e2:((T.getD k 0*2^(8*k):Nat):Int)=((T.getD k 0:Nat):Int)*2^(8*k):=by simp
  have e3:((T.getD k 0*2^(8*k):Nat):Int)<4294967296:=by have:T.getD k 0*2^(8*k)<4294967296:=hm;omega
  rw[e2] at e3⊢;rw[Int.emod_eq_of_lt (a:=((T.getD k 0:Nat):Int)) (by omega) (by omega)];exact Int.emod_eq_of_lt (by rw[<-e2];omega) e3
 rw[e1,u32_or_nat _ _ (Nat.lt_of_lt_of_le hn hn2) hm,zr8 T k hk h8]
theorem zty(T:List Nat)(k:Nat)(hk:k<T.length)(hT:T.length<=8)(h8:∀x∈T,x<256):
 bits .or .u64 ((num (T.take k):Nat):Int) (IntKind.u64.wrap (IntKind.u64.wrap ((T.getD k 0:Nat):Int)*2^(8*k)))=((num (T.take (k+1)):Nat):Int):=by
 rw[IntKind.wrap_u64,IntKind.wrap_u64];have hx:=zr7 T k h8;have hm:=zgp (m:=64) hx (show 8*(k+1)<=64 by omega);have hn:=zhj T k (by omega) h8;have hn2:2^(8*k)<=2^64:=Nat.pow_le_pow_right (by omega) (by omega);have e1:(((T.getD k 0:Nat):Int)%18446744073709551616*2^(8*k)%18446744073709551616)=((T.getD k 0*2^(8*k):Nat):Int):=by
  have e2:((T.getD k 0*2^(8*k):Nat):Int)=((T.getD k 0:Nat):Int)*2^(8*k):=by simp
  have e3:((T.getD k 0*2^(8*k):Nat):Int)<18446744073709551616:=by have:T.getD k 0*2^(8*k)<18446744073709551616:=hm;omega
  rw[e2] at e3⊢;rw[Int.emod_eq_of_lt (a:=((T.getD k 0:Nat):Int)) (by omega) (by omega)];exact Int.emod_eq_of_lt (by rw[<-e2];omega) e3
 rw[e1,u64_or_nat _ _ (Nat.lt_of_lt_of_le hn hn2) hm,zr8 T k hk h8]
theorem z3y(x k:Nat):((x:Int)/2^(8*k)%256)=((x/256^k%256:Nat):Int):=by rw[show(256:Nat)^k=2^(8*k) by rw[show(256:Nat)=2^8 from rfl,<-Nat.pow_mul]];simp
open Go.RowKit
structure Turns(T:List Nat)(w w':World):Prop where
 os:w'.os=w.os
 tape:w'.tape=w.tape
 output:w'.output=w.output
 size:w.heap.size<=w'.heap.size
 block:∀k,k<w.heap.size->k∉T->w'.heap[k]? =w.heap[k]?
section
variable{T T':List Nat}{w w' w2:World}
theorem Turns.refl(T:List Nat)(w:World):Turns T w w:=⟨rfl,rfl,rfl,Nat.le_refl _,fun _ _ _=>rfl⟩
theorem Turns.trans(h:Turns T w w')(k:Turns T w' w2):Turns T w w2:=
 ⟨k.os.trans h.os,k.tape.trans h.tape,k.output.trans h.output,Nat.le_trans h.size k.size,fun i hi hT=>(k.block i (Nat.lt_of_lt_of_le hi h.size) hT).trans (h.block i hi hT)⟩
theorem Turns.more(h:Turns T w w')(hs:∀x∈T,x∈T'):Turns T' w w':=⟨h.os,h.tape,h.output,h.size,fun i hi hT=>h.block i hi fun hx=>hT (hs i hx)⟩
theorem Turns.of_new(h:Below w.heap.size w w'):Turns T w w':=⟨h.os,h.tape,h.output,h.size,fun k hk _=>h.block k hk⟩
theorem Turns.of_far{g:Nat}(h:w.grownBy w' (some g))(hg:g∈T):Turns T w w':=
 ⟨h.os,h.tape,h.output,h.size,fun k hk hT=>h.block k hk (fun e=>by injection e with e;subst e;exact hT hg)⟩
theorem Turns.of_none(h:w.grownBy w' none):Turns T w w':=⟨h.os,h.tape,h.output,h.size,fun k hk _=>h.block k hk (by simp)⟩
theorem Turns.drew(T:List Nat)(w:World):Turns T w w.drew:=⟨rfl,rfl,rfl,Nat.le_refl _,fun _ _ _=>rfl⟩
theorem Turns.drewN(T:List Nat)(w:World)(n:Nat):Turns T w (w.drewN n):=⟨rfl,rfl,rfl,Nat.le_refl _,fun _ _ _=>rfl⟩
theorem Turns.setCell{g i:Nat}(u:Value)(hg:g∈T)(w:World):Turns T w (w.setCell ⟨g,i,none⟩ u):=
 ⟨rfl,rfl,rfl,by simp[World.setCell],fun k _ hT=>Below.heap_setCell _ _ _ _ (by rintro rfl;exact hT hg)⟩
theorem Turns.below{B:Nat}{a:World}(h:Below B a w)(k:Turns T w w')(hT:∀x∈T,B<=x)(hB:B<=a.heap.size):Below B a w':=
 ⟨k.os.trans h.os,k.tape.trans h.tape,k.output.trans h.output,Nat.le_trans h.size k.size,fun i hi=>(k.block i (by have:=h.size;omega) (fun hm=>by have:=hT i hm;omega)).trans (h.block i hi)⟩
theorem Turns.new(k:Turns T w w')(hT:∀x∈T,w.heap.size<=x):Below w.heap.size w w':=k.below (Below.refl _ _) hT (Nat.le_refl _)
theorem Blk.touch{g:Nat}{t:TypeId}{cs:Array Value}(h:Blk w g t cs)(k:Turns T w w')(hg:g∉T):Blk w' g t cs:=(k.block g h.lt hg).trans h
theorem Own.touch{base:Nat}{e:TypeId}{v:Value}{xs:List Value}(h:Own w base e v xs)(k:Turns T w w')(hT:∀x∈T,v.ownBlock≠some x):Own w' base e v xs:=by
 refine⟨h.1,?_⟩;rcases h.2 with hn|⟨g,cap,cur,rfl,hbg,hgg,rest⟩
 ·exact .inl hn
 ·refine .inr ⟨g,cap,cur,rfl,hbg,?_,rest⟩
  rw[k.block g (Array.getElem?_eq_some_iff.1 hgg).1 (fun hm=>hT g hm rfl)];exact hgg
theorem Reads.touch{B size n:Nat}{A:Option Addr}{xs:List Value}(h:Reads w B size A n xs)(k:Turns T w w')(hT:∀x∈T,B<=x)(hB:B<=w.heap.size):Reads w' B size A n xs:=
 h.keep fun p hp=>World.cell?_of_block (k.block p.block (by omega) (fun hm=>by have:=hT _ hm;omega))
theorem Turns.far{g:Nat}(h:Turns [g] w w'):w.grownBy w' (some g):=⟨h.os,h.tape,h.output,h.size,fun k hk hne=>h.block k hk (by intro hm;simp at hm;subst hm;exact hne rfl)⟩
end
theorem Own.row{w:World}{base:Nat}{e:TypeId}{v:Value}{xs:List Value}(h:Own w base e v xs):∀g,v.ownBlock=some g-> ∃cs,Blk w g e cs:=by
 intro g hg;rcases h.2 with⟨rfl,_⟩|⟨g',cap,cur,rfl,_,hh,_⟩
 ·simp[Value.ownBlock] at hg
 ·have:g'=g:=by simpa[Value.ownBlock] using hg
  subst this;exact⟨cur,hh⟩
theorem Blk.push{w w':World}{g:Nat}{t e:TypeId}{cs:Array Value}{base:Nat}{v:Value}{xs:List Value}(h:Blk w g t cs)(o:Own w base e v xs)(hg:w.grownBy w' v.ownBlock)(hne:e≠t):Blk w' g t cs:=
 h.grown hg (fun e'=>o.blk_ne h hne e'.symm)
theorem Reads.litV(w:World)(e:TypeId)(cs:Array Value)(n:Nat)(xs:List Value)(h:cs.toList=xs)(hn:n=xs.length):Reads (w.alloc (.cells cs e)) (w.alloc (.cells cs e)).heap.size 1 (some ⟨w.heap.size,0,none⟩) n xs:=by subst hn;refine⟨by simp,fun _=>⟨_,rfl,by simp,?_⟩⟩;have:=World.news_of_block (heap_alloc_new w (.cells cs e));rwa[h] at this
theorem New.alloc{w w':World}(o:Obj)(h:Below (w.alloc o).heap.size (w.alloc o) w'):New w w':=((Below.refl _ w).alloc (Nat.le_refl _) o).trans (h.mono (by simp))
theorem zn0(w:World)(m n:Nat):(w.drewN m).drewN n=w.drewN (m+n):=by simp[World.drewN,Nat.add_assoc]
theorem zic(w:World)(k:Nat):New w (w.drewN k):=⟨rfl,rfl,rfl,Nat.le_refl _,fun _ _=>rfl⟩
theorem Reads.later{w0 w:World}{A:Option Addr}{n s:Nat}{xs:List Value}(h:Reads w0 w0.heap.size s A n xs)(hb:Below w0.heap.size w0 w):Reads w w.heap.size s A n xs:=(h.below hb).more hb.size
theorem Own.later{w0 w:World}{base:Nat}{e:TypeId}{v:Value}{xs:List Value}(h:Own w0 base e v xs)(hb:Below w0.heap.size w0 w):Own w base e v xs:=h.below hb (Nat.le_refl _)
open Go Go.RowKit
theorem zmd(l:List Nat)(i j:Nat):(zad l).extract i j=zad ((l.drop i).take (j-i)):=by refine ByteArray.ext ?_;rw[ByteArray.data_extract];show((l.map UInt8.ofNat).toArray).extract i j=(((l.drop i).take (j-i)).map UInt8.ofNat).toArray;simp
theorem z39(l:List Nat)(i:Nat):(zad l).extract i l.length=zad (l.drop i):=by rw[zmd,List.take_of_length_le (by rw[List.length_drop];omega)]
theorem qew(l:List Nat)(j:Nat):(zad l).extract 0 j=zad (l.take j):=by rw[zmd];simp
theorem z91(l:List Nat)(k:Nat)(h8:∀x∈l,x<256)(hk:k<(zad l).size):((zad l)[k]'hk).toNat=l.getD k 0:=by
 have hk':k<l.length:=by rwa[zbh] at hk
 show(((l.map UInt8.ofNat).toArray)[k]'(by simpa using hk')).toNat=_;simp only[List.getElem_toArray,List.getElem_map,UInt8.toNat_ofNat'];rw[List.getD_eq_getElem?_getD,List.getElem?_eq_getElem hk',Option.getD_some];exact Nat.mod_eq_of_lt (h8 _ (List.getElem_mem hk'))
section
variable{P:Program}{t:TypeId}
theorem z4a(ht:P.underlying t=some .string)(l:List Nat)(h8:∀x∈l,x<256)(k:Nat)(hk:k<l.length)(w:World):
 (Instr.index t (.string (zad l)) (.int .i64 (k:Int))).run P w= .ok (.int .u8 ((l.getD k 0:Nat):Int)) w:=by
 rw[run_index_string w t (zad l) .i64 (k:Int) ht,dif_pos ⟨by omega,by rw[zbh];omega⟩];rw[z91 l _ h8];simp
theorem z92(ht:P.underlying t=some .string)(l:List Nat)(k:Nat)(hk:k<=l.length)(w:World):
 (Instr.slice t (.string (zad l)) (some (.int .i64 (k:Int))) none none).run P w= .ok (.string (zad (l.drop k))) w:=by
 rw[run_slice_string_from_if w t (zad l) .i64 (k:Int) ht,if_pos ⟨by omega,by rw[zbh];omega⟩,Int.toNat_natCast,zbh,z39]
theorem qgw(ht:P.underlying t=some .string)(l:List Nat)(k:Nat)(hk:k<=l.length)(w:World):
 (Instr.slice t (.string (zad l)) none (some (.int .i64 (k:Int))) none).run P w= .ok (.string (zad (l.take k))) w:=by
 rw[run_slice_string_to_if w t (zad l) .i64 (k:Int) ht,if_pos ⟨by omega,by rw[zbh];omega⟩,Int.toNat_natCast,qew]
end
theorem zse(l:List Nat)(h8:∀x∈l,x<256):Lib.strCells (zad l)=za3 .u8 l:=by
 unfold Lib.strCells za3;show((l.map UInt8.ofNat).toArray.toList).map _=_;simp only[List.map_map];refine List.map_congr_left fun x hx=>?_
 simp only[Function.comp,UInt8.toNat_ofNat'];rw[Nat.mod_eq_of_lt (by have:=h8 x hx;omega)]
def zm1(l:List (List Nat)):List Value:=l.map fun s=> .string (zad s)
theorem zeq(l:List (List Nat)):(zm1 l).length=l.length:=by simp[zm1]
theorem zwp(l m:List (List Nat)):zm1 (l++m)=zm1 l++zm1 m:=by simp[zm1]
theorem z4b(l:List (List Nat))(i:Nat)(h:i<l.length):(zm1 l)[i]? =some (.string (zad (l.getD i []))):=by simp[zm1,List.getElem?_eq_getElem h]
theorem Reads.lenT{w:World}{B n:Nat}{A:Option Addr}{l:List (List Nat)}(h:Reads w B 1 A n (zm1 l)):n=l.length:=by have:=h.1;rw[zeq] at this;omega
theorem Reads.str{w:World}{B n:Nat}{A:Option Addr}{l:List (List Nat)}{i:Nat}(h:Reads w B 1 A n (zm1 l))(hi:i<n):∃ad,A=some ad/\ad.block<B/\w.cell? (ad.add i)=some (.string (zad (l.getD i []))):=by
 obtain⟨ad,u,e,hb,hu,hc⟩:=h.at_ hi;have hl:i<l.length:=by have:=h.lenT;omega
 rw[z4b l i hl] at hu;injection hu with hu;subst hu;exact⟨ad,e,hb,hc⟩
theorem zn2{L:List (List Nat)}{k:Nat}{Q:List Nat->Prop}(h:∀x∈L,Q x)(hk:k<L.length):Q (L.getD k []):=by rw[List.getD_eq_getElem?_getD,List.getElem?_eq_getElem hk];exact h _ (List.getElem_mem hk)
section
variable{P:Program}{ops:Array Oper}{rest:List Oper}{o:Oper}{a:Act}{Q:Exit->Act->World->Prop}
theorem zev{w:World}{t e ts:TypeId}(E:ElT P t e (.int .u8 0) 1 1)(hts:P.underlying ts=some .string)(hgd:o.guard=none)(s x:Operand)
 (ho:o.op= .call {callee:= .builtin .append,args:= #[s,x],argTypes:= #[t,ts]})
 {W:World}{B base n c:Nat}{A:Option Addr}{l l2:List Nat}(hown:Own w base e (.slice A n c) (za3 .u8 l))(h8:∀x∈l2,x<256)(hs:a.eval s= .slice A n c)(hx:a.eval x= .string (zad l2))
 (hb:Below B W w)(hbB:B<=base)(hbase:base<=w.heap.size)(hn:n+l2.length<=140737488355328)
 (h:∀A' c' w',n+l2.length<=c'->c'<=maxLen->Own w' base e (.slice A' (n+l2.length) c') (za3 .u8 (l++l2))->w.grownBy w' (Value.ownBlock (.slice A n c))->Below B W w'->wpList P ops Q rest (a.put o.dst (.slice A' (n+l2.length) c')) w'):
 wpList P ops Q (o::rest) a w:=by
 obtain⟨i,hi,hz0,hz1,hz2⟩:=info_parts E.hi;have hln:=hown.len;rw[zaa] at hln;have hown':w.ownsRow base e 1 (.slice A n c) n (za3 .u8 l):=by unfold Own at hown;rwa[zaa,<-hln] at hown
 refine Lib.wpList_append_own_string w hgd s x t ts ho base e i E.ht hts hi hz0 hz1 hz2 _ n _ hs hown' (zad l2) hx (by rw[zbh];unfold maxLen;omega) (by rw[zbh];exact hn) hbase ?_;intro v' w' h1 h2 _;rw[zse l2 h8,<-zdo,zbh] at h1;have hown2:Own w' base e v' (za3 .u8 (l++l2)):=by unfold Own;rw[zaa,List.length_append,<-hln];exact h1
 obtain⟨A',c',rfl,hc1,hc2⟩:=hown2.slice;rw[zaa,List.length_append,<-hln] at hc1 hown2⊢;exact h A' c' w' hc1 hc2 hown2 h2 (hb.grown h2 (Nat.le_trans hbB hbase) (fun k hk=>by have:=(hown.lt k hk).1;omega))
end
def pv:Nat->List Nat->Option (Nat × List Nat)
 |0,_=>none
 |_+1,[]=>none
 |f+1,b::r=>if b<128 then some (b,r) else
   match pv f r with
   |some (0,_)=>none
   |some (N+1,r')=>some (b-128+128*(N+1),r')
   |none=>none
theorem qgz:∀(f N:Nat) (r:List Nat),(vp N).length<=f->pv f (vp N++r)=some (N,r):=by
 intro f;induction f with
 |zero=>intro N r h;have:=zma N;omega
 |succ f ih=>
  intro N r h;by_cases hN:N<128
  ·rw[zez hN];simp[pv,hN]
  ·rw[zfr hN] at h⊢
   simp only[List.cons_append,pv];rw[if_neg (by omega),ih (N/128) r (by simpa using h)];obtain⟨m,hm⟩:∃m,N/128=m+1:=⟨N/128-1,by omega⟩;simp only[hm];congr 2
   omega
theorem qe0:∀(f N:Nat) (l r:List Nat),(∀x∈l,x<256)->pv f l=some (N,r)->l=vp N++r/\(vp N).length<=f:=by
 intro f;induction f with
 |zero=>intro N l r _ h;simp[pv] at h
 |succ f ih=>
  intro N l r h8 h;cases l with
  |nil=>simp[pv] at h
  |cons b s=>
   simp only[pv] at h;by_cases hb:b<128
   ·rw[if_pos hb] at h
    simp only[Option.some.injEq,Prod.mk.injEq] at h;obtain⟨rfl,rfl⟩:=h;rw[zez hb];simp
   ·rw[if_neg hb] at h
    split at h
    ·simp at h
    ·rename_i M r' hM
     simp only[Option.some.injEq,Prod.mk.injEq] at h;obtain⟨rfl,rfl⟩:=h;obtain⟨h1,h2⟩:=ih _ _ _ (fun x hx=>h8 x (by simp[hx])) hM;have hb2:=h8 b (by simp);rw[zfr (by omega),show(b-128+128*(M+1))/128=M+1 by omega,show(b-128+128*(M+1))%128+128=b by omega,List.cons_append,<-h1];refine⟨rfl,by simp;exact h2⟩
    ·simp at h
def gv(l:List Nat):Option (Nat × List Nat):=
 match pv 10 l with
 |some (N,r)=>if N<18446744073709551616 then some (N,r) else none
 |none=>none
theorem qdq(N:Nat)(r:List Nat)(hN:N<18446744073709551616):gv (vp N++r)=some (N,r):=by unfold gv;rw[qgz 10 N r (zaj hN)];simp[hN]
theorem zwr{l r:List Nat}{N:Nat}(h8:∀x∈l,x<256)(h:gv l=some (N,r)):l=vp N++r/\N<18446744073709551616:=by
 unfold gv at h;split at h
 ·rename_i M s hM
  split at h
  ·simp only[Option.some.injEq,Prod.mk.injEq] at h
   obtain⟨rfl,rfl⟩:=h;exact⟨(qe0 _ _ _ _ h8 hM).1,‹_›⟩
  ·cases h
 ·cases h
theorem qe1{l:List Nat}(h:gv l=none):∀N r,l=vp N++r->18446744073709551616<=N:=by
 intro N r hl;rcases Nat.lt_or_ge N 18446744073709551616 with hN|hN
 ·rw[hl,qdq N r hN] at h
  cases h
 ·exact hN
abbrev St:=Option (List Nat)
def zh4:St->Nat × St
 |none=>(0,none)
 |some l=>match gv l with
  |some (N,r)=>(N,some r)
  |none=>(0,none)
def lenS(m:Int)(S:St):Nat × St:=
 match zh4 S with
 |(N,some r)=>if(N:Int)<=m then(N,some r) else(0,none)
 |(_,none)=>(0,none)
def zbc:St->Nat × St
 |some (b::r)=>(b,some r)
 |_=>(0,none)
def zbt(n:Int):St->List Nat × St
 |some l=>if 0<=n/\n<=(l.length:Int) then(l.take n.toNat,some (l.drop n.toNat)) else([],none)
 |none=>([],none)
def zqa(S:St):Bool:=decide (S=some [])
def St.ok(S:St):Prop:=∀l,S=some l-> ∀x∈l,x<256
theorem St.ok_none:St.ok none:=fun _ h=>by cases h
theorem St.ok_some{l:List Nat}(h:∀x∈l,x<256):St.ok (some l):=fun _ e=>by injection e with e;subst e;exact h
theorem zi2(N:Nat)(r:List Nat)(hN:N<18446744073709551616):zh4 (some (vp N++r))=(N,some r):=by simp[zh4,qdq N r hN]
theorem zb2(N:Nat)(r:List Nat){m:Int}(hN:(N:Int)<=m)(hm:m<=9223372036854775807):lenS m (some (vp N++r))=(N,some r):=by simp only[lenS,zi2 N r (by omega),if_pos hN]
theorem zgw(m:Int):lenS m none=(0,none):=rfl
theorem z4d:zh4 none=(0,none):=rfl
theorem zi3:zbc none=(0,none):=rfl
theorem zdr(n:Int):zbt n none=([],none):=rfl
theorem zbq(m:Int)(S:St)(hS:S.ok):lenS m S=(0,none)\/ ∃N r,S=some (vp N++r)/\(N:Int)<=m/\N<18446744073709551616/\lenS m S=(N,some r):=by
 unfold lenS zh4;cases S with
 |none=>exact .inl rfl
 |some l=>
  simp only;cases hg:gv l with
  |none=>exact .inl rfl
  |some p=>
   obtain⟨N,r⟩:=p;obtain⟨h1,h2⟩:=zwr (hS l rfl) hg;simp only;split
   ·exact .inr ⟨N,r,by rw[h1],‹_›,h2,rfl⟩
   ·exact .inl rfl
theorem zgx(S:St)(hS:S.ok):zh4 S=(0,none)\/ ∃N r,S=some (vp N++r)/\N<18446744073709551616/\zh4 S=(N,some r):=by
 unfold zh4;cases S with
 |none=>exact .inl rfl
 |some l=>
  simp only;cases hg:gv l with
  |none=>exact .inl rfl
  |some p=>
   obtain⟨N,r⟩:=p;obtain⟨h1,h2⟩:=zwr (hS l rfl) hg;exact .inr ⟨N,r,by rw[h1],h2,rfl⟩
theorem zca(n:Int)(S:St):zbt n S=([],none)\/ ∃l,S=some l/\0<=n/\n<=(l.length:Int)/\zbt n S=(l.take n.toNat,some (l.drop n.toNat)):=by
 unfold zbt;cases S with
 |none=>exact .inl rfl
 |some l=>
  simp only;split
  ·rename_i h;exact .inr ⟨l,rfl,h.1,h.2,rfl⟩
  ·exact .inl rfl
theorem zdf(a b:List Nat):zbt (a.length:Int) (some (a++b))=(a,some b):=by simp only[zbt];rw[if_pos ⟨by omega,by rw[List.length_append];omega⟩];simp
theorem zb1{m:Int}(S:St)(hm:0<=m)(hS:S.ok):((lenS m S).1:Int)<=m:=by
 rcases zbq m S hS with h|⟨N,r,_,h1,_,h⟩
 ·rw[h];exact hm
 ·rw[h];exact h1
theorem za6{m:Int}{S:St}(hS:S.ok):(lenS m S).2.ok:=by
 rcases zbq m S hS with h|⟨N,r,h0,_,_,h⟩
 ·rw[h];exact St.ok_none
 ·rw[h];exact St.ok_some fun x hx=>hS _ h0 x (by simp[hx])
theorem zsf{S:St}(hS:S.ok):(zh4 S).2.ok:=by
 rcases zgx S hS with h|⟨N,r,h0,_,h⟩
 ·rw[h];exact St.ok_none
 ·rw[h];exact St.ok_some fun x hx=>hS _ h0 x (by simp[hx])
theorem zjx{S:St}(hS:S.ok):(zh4 S).1<18446744073709551616:=by
 rcases zgx S hS with h|⟨N,r,h0,h1,h⟩
 ·rw[h];decide
 ·rw[h];exact h1
theorem zna{S:St}(hS:S.ok):(zbc S).2.ok:=by
 unfold zbc;split
 ·exact St.ok_some fun x hx=>hS _ rfl x (by simp[hx])
 ·exact St.ok_none
theorem zhp{S:St}(hS:S.ok):(zbc S).1<256:=by
 unfold zbc;split
 ·exact hS _ rfl _ (by simp)
 ·decide
theorem zcq{n:Int}{S:St}(hS:S.ok):(zbt n S).2.ok/\ ∀x∈(zbt n S).1,x<256:=by
 rcases zca n S with h|⟨l,h0,_,_,h⟩
 ·rw[h];exact⟨St.ok_none,by simp⟩
 ·rw[h];exact⟨St.ok_some fun x hx=>hS _ h0 x (List.mem_of_mem_drop hx),fun x hx=>hS _ h0 x (List.mem_of_mem_take hx)⟩
theorem zeh{n:Int}{S:St}(hn:0<=n):((zbt n S).1.length:Int)<=n:=by
 rcases zca n S with h|⟨l,_,h1,h2,h⟩
 ·rw[h];simpa using hn
 ·rw[h,List.length_take];omega
theorem zc5{m:Int}{S:St}(hS:S.ok):((lenS m S).2.getD []).length<=(S.getD []).length:=by
 rcases zbq m S hS with h|⟨N,r,rfl,_,_,h⟩
 ·rw[h];simp
 ·rw[h];simp
theorem zn4{S:St}:((zbc S).2.getD []).length<=(S.getD []).length:=by unfold zbc;split<;> simp
open Go Go.RowKit Go.WideShapes Go.ChangeShapes Go.Deep
section
variable{H:Type}{enc:TypeId × Value->H}{P:Program}{W:World}{t e:TypeId}{cs:List Value}
def Held(enc:TypeId × Value->H)(P:Program)(W:World)(t:TypeId)(cs:List Value):Prop:=
 ∃(fuel:Nat) (d:DataW H) (ps:List MemPlace),DataW.trod enc P W 0 (fun _=>true) true fuel t cs=some (d,ps)/\(∀p∈ps,p.block<W.heap.size)/\ ∀n∈d.weights P t,n<=reachBytes
theorem Held.of{v:Value}{d:DataW H}{ps:List MemPlace}(h:DataW.Trod enc P W 0 (fun _=>true) true t v d ps)(hlt:∀p∈ps,p.block<W.heap.size)(hw:∀n∈d.weights P t,n<=reachBytes):Held enc P W t v.cells.toList:=by obtain⟨fuel,h⟩:=h;exact⟨fuel,d,ps,h,hlt,hw⟩
theorem Held.int{k:IntKind}(ht:P.underlying t=some (.int k))(h:Held enc P W t cs):∃n,cs=[.int k n]/\k.min<=n/\n<=k.max:=by obtain⟨fuel,d,ps,h,_,_⟩:=h;obtain⟨n,rfl,_,hw⟩:=DataW.trod_int ht h;simp only[Lit.wf,Bool.and_eq_true,decide_eq_true_eq] at hw;exact⟨n,rfl,hw.1,hw.2⟩
theorem Held.i64(ht:P.underlying t=some (.int .i64))(h:Held enc P W t cs):∃n:Int,cs=[.int .i64 n]/\ -9223372036854775808<=n/\n<=9223372036854775807:=by obtain⟨n,h1,h2,h3⟩:=h.int ht;simp[IntKind.min,IntKind.max,IntKind.signed,IntKind.bits] at h2 h3;exact⟨n,h1,h2,by omega⟩
theorem Held.bool(ht:P.underlying t=some .bool)(h:Held enc P W t cs):∃b,cs=[.bool b]:=by obtain⟨fuel,d,ps,h,_,_⟩:=h;obtain⟨b,rfl,_⟩:=DataW.trod_bool ht h;exact⟨b,rfl⟩
theorem qe4(s:ByteArray):∃l:List Nat,s=zad l/\(∀x∈l,x<256)/\l.length=s.size:=by
 refine⟨s.data.toList.map UInt8.toNat,?_,?_,by simp⟩
 ·refine ByteArray.ext ?_
  show s.data=((s.data.toList.map UInt8.toNat).map UInt8.ofNat).toArray;rw[List.map_map];have:(UInt8.ofNat ∘ UInt8.toNat)=id:=by funext x;simp
  rw[this];simp
 ·intro x hx
  simp only[List.mem_map] at hx;obtain⟨y,_,rfl⟩:=hx;exact y.toNat_lt
theorem Held.string(ht:P.underlying t=some .string)(h:Held enc P W t cs):∃l:List Nat,cs=[.string (zad l)]/\(∀x∈l,x<256)/\l.length<=140737488351232:=by obtain⟨fuel,d,ps,h,_,hw⟩:=h;obtain⟨s,rfl,hx,_⟩:=DataW.trod_string ht h;simp only[Prod.mk.injEq] at hx;obtain⟨rfl,_⟩:=hx;obtain⟨l,rfl,h8,hl⟩:=qe4 s;refine⟨l,rfl,h8,?_⟩;have:=hw (zad l).data.toList.length (by simp[DataW.weights]);rw[Array.length_toList] at this;have e:(zad l).data.size=l.length:=hl.symm;rw[e] at this;unfold reachBytes at this;omega
theorem zj0{d:DataW H}:∀{ds:List (DataW H)},d∈ds-> ∀n∈d.weights P e,n∈DataW.weightsAll P e ds
 | [],h,_,_=>by cases h
 |x::ds,h,n,hn=>by
  rw[DataW.weightsAll,List.mem_append];rcases List.mem_cons.1 h with rfl|h
  ·exact .inl hn
  ·exact .inr (zj0 h n hn)
theorem Held.field{fs:Array Field}(ht:P.underlying t=some (.struct fs))(h:Held enc P W t cs):cs.length=P.cellsOf t/\ ∀(i:Nat) (f:Field),fs[i]? =some f->Held enc P W f.type ((cs.drop f.offset).take (P.cellsOf f.type)):=by obtain⟨fuel,d,ps,h,hlt,hw⟩:=h;obtain⟨xs,n,rfl,hx,hl,hxl,hf⟩:=DataW.trod_struct ht h;simp only[Prod.mk.injEq] at hx;obtain⟨rfl,rfl⟩:=hx;refine⟨hl,fun i f hi=>?_⟩;have hil:i<fs.size:=(Array.getElem?_eq_some_iff.1 hi).1;have hxi:xs[i]? =some (xs[i]'(by omega)):=List.getElem?_eq_getElem (by omega);refine⟨n,(xs[i]'(by omega)).1,(xs[i]'(by omega)).2,(hf i f hi).trans hxi,fun p hp=>hlt p (List.mem_flatMap.2 ⟨_,List.getElem_mem _,hp⟩),fun m hm=>hw m ?_⟩;rw[DataW.weights];simp only[ht];exact DataW.weights_mem_each (j:=i) (t:=f.type) (d:=(xs[i]'(by omega)).1) (by rw[List.getElem?_map,Array.getElem?_toList,hi];rfl) (by rw[List.getElem?_map,hxi];rfl) m hm
theorem Held.slice(ht:P.underlying t=some (.slice e))(h:Held enc P W t cs):
 cs=[.slice none 0 0]\/ ∃(a:Addr) (len cap:Nat),cs=[.slice (some a) len cap]/\len<=cap/\cap<=maxLen/\cap*P.bytesOf e<=reachBytes/\(0<cap*P.cellsOf e->a.block<W.heap.size)/\
  ∀i,i<cap-> ∃cs',W.cells? 0 (a.add (i*P.cellsOf e)) (P.cellsOf e)=some cs'/\Held enc P W e cs':=by
 obtain⟨fuel,d,ps,h,hlt,hw⟩:=h;rcases open_slice ht h with⟨hcs,_⟩|⟨a,len,cap,m,n,D,Pl,hcs,_,hl,hm,hmm,hx,hi⟩
 ·exact .inl hcs
 ·rw[if_pos rfl] at hmm
  subst hmm;simp only[Prod.mk.injEq] at hx;obtain⟨rfl,rfl⟩:=hx;have hwm:∀x∈(m*P.bytesOf e)::(DataW.weightsAll P e ((List.range len).map D)++DataW.weightsAll P e ((List.range (m-len)).map fun j=>D (len+j))),x<=reachBytes:=by intro x hx;refine hw x ?_;rw[DataW.weights];simp only[ht,List.length_map,List.length_range];rw[show len+(m-len)=m by omega];exact hx
  refine .inr ⟨a,len,m,hcs,hl,hm,hwm _ (by simp),fun h0=>?_,fun i him=>?_⟩
  ·exact hlt (.cell a.block a.off) (by rw[List.mem_append];left;unfold MemPlace.row;simp only[List.mem_map,List.mem_range];exact⟨0,h0,rfl⟩)
  ·obtain⟨cs',hc,ht'⟩:=hi i him
   refine⟨cs',hc,n,D i,Pl i,ht',fun p hp=>hlt p ?_,fun k hk=>hwm k ?_⟩
   ·rw[List.mem_append]
    right;exact List.mem_flatMap.2 ⟨i,by simpa using him,hp⟩
   ·rw[List.mem_cons,List.mem_append]
    right;by_cases hil:i<len
    ·exact .inl (zj0 (List.mem_map.2 ⟨i,by simpa using hil,rfl⟩) k hk)
    ·exact .inr (zj0 (List.mem_map.2 ⟨i-len,by simp;omega,by rw[show len+(i-len)=i by omega]⟩) k hk)
def recs{α:Type}(f:α->List Value)(l:List α):List Value:=l.flatMap f
theorem zif{α:Type}(f:α->List Value)(x:α)(l:List α):recs f (x::l)=f x++recs f l:=rfl
theorem zaw{α:Type}(f:α->List Value)(l m:List α):recs f (l++m)=recs f l++recs f m:=by simp[recs]
theorem zar{α:Type}{f:α->List Value}{sz:Nat}(hf:∀x,(f x).length=sz)(l:List α):(recs f l).length=l.length*sz:=by
 induction l with
 |nil=>simp[recs]
 |cons x l ih=>rw[zif,List.length_append,hf,ih,List.length_cons,Nat.succ_mul,Nat.add_comm]
theorem zoc{α:Type}{f:α->List Value}{sz:Nat}(hf:∀x,(f x).length=sz)(l:List α)(d:α):∀i j,i<l.length->j<sz->(recs f l)[i*sz+j]? =(f (l.getD i d))[j]? :=by
 induction l with
 |nil=>intro i j h;simp at h
 |cons x l ih=>
  intro i j hi hj;cases i with
  |zero=>
   rw[zif,Nat.zero_mul,Nat.zero_add,List.getElem?_append_left (by rw[hf];exact hj)];rfl
  |succ i=>
   rw[zif,List.getElem?_append_right (by rw[hf,Nat.succ_mul];omega),hf,show(i+1)*sz+j-sz=i*sz+j by rw[Nat.succ_mul];omega,ih i j (by simpa using hi) hj];simp
theorem z4k{α:Type}{f:α->List Value}{sz:Nat}(hf:∀x,(f x).length=sz)(l:List α)(k:Nat)(hk:k<=l.length):(recs f l).drop (k*sz)=recs f (l.drop k):=by
 conv=>lhs;rw[<-List.take_append_drop k l,zaw]
 rw[List.drop_left'];rw[zar hf,List.length_take,Nat.min_eq_left hk]
theorem zt9{α:Type}{f:α->List Value}{sz:Nat}(hf:∀x,(f x).length=sz)(l:List α)(k:Nat)(hk:k<=l.length):(recs f l).take (k*sz)=recs f (l.take k):=by
 conv=>lhs;rw[<-List.take_append_drop k l,zaw]
 rw[List.take_left'];rw[zar hf,List.length_take,Nat.min_eq_left hk]
theorem Reads.rec_{α:Type}{f:α->List Value}{sz:Nat}(hf:∀x,(f x).length=sz){w:World}{B n i:Nat}{A:Option Addr}{l:List α}(d:α)(h:Reads w B sz A n (recs f l))(hi:i<n)(h0:0<sz):
 ∃ad,A=some ad/\ad.block<B/\i<l.length/\ ∀j u,(f (l.getD i d))[j]? =some u->w.cell? (ad.add (i*sz+j))=some u:=by
 obtain⟨ad,e,hb,hc⟩:=h.2 (by omega);have hl:=h.1;rw[zar hf] at hl;have hll:l.length=n:=Nat.eq_of_mul_eq_mul_right h0 hl;refine⟨ad,e,hb,by omega,fun j u hu=>hc _ u ?_⟩;have hj:j<sz:=by rw[<-hf (l.getD i d)];exact(List.getElem?_eq_some_iff.1 hu).1
 rw[zoc hf l d i j (by omega) hj];exact hu
theorem Reads.lenR{α:Type}{f:α->List Value}{sz:Nat}(hf:∀x,(f x).length=sz){w:World}{B n:Nat}{A:Option Addr}{l:List α}(h:Reads w B sz A n (recs f l))(h0:0<sz):n=l.length:=by have hl:=h.1;rw[zar hf] at hl;exact(Nat.eq_of_mul_eq_mul_right h0 hl).symm
theorem zww{α:Type}{p:Nat->α->Prop}(d:α):∀n,(∀i,i<n-> ∃x,p i x)-> ∃l:List α,l.length=n/\ ∀i,i<n->p i (l.getD i d):=by
 intro n;induction n with
 |zero=>intro _;exact⟨[],rfl,fun i h=>by omega⟩
 |succ n ih=>
  intro h;obtain⟨l,hl,hp⟩:=ih (fun i hi=>h i (by omega));obtain⟨x,hx⟩:=h n (by omega);refine⟨l++[x],by simp[hl],fun i hi=>?_⟩;by_cases hin:i<n
  ·have e:(l++[x]).getD i d=l.getD i d:=by rw[List.getD_eq_getElem?_getD,List.getElem?_append_left (by omega),<-List.getD_eq_getElem?_getD]
   rw[e];exact hp i hin
  ·obtain rfl:i=n:=by omega
   have e:(l++[x]).getD i d=x:=by rw[List.getD_eq_getElem?_getD,List.getElem?_append_right (by omega),hl];simp
   rw[e];exact hx
theorem Held.recs{α:Type}{f:α->List Value}{sz by_:Nat}{Q:α->Prop}(d:α)(ht:P.underlying t=some (.slice e))(hC:P.cellsOf e=sz)(hby:P.bytesOf e=by_)(hf:∀x,(f x).length=sz)(h0:0<sz)
 (hel:∀cs,Held enc P W e cs-> ∃x,cs=f x/\Q x)(h:Held enc P W t cs):
 ∃A c,∃l:List α,cs=[.slice A l.length c]/\l.length<=c/\c<=maxLen/\c*by_<=reachBytes/\Reads W W.heap.size sz A l.length (Hm.recs f l)/\ ∀x∈l,Q x:=by
 rcases h.slice ht with rfl|⟨a,len,cap,rfl,hl,hm,hw,hb,hi⟩
 ·exact⟨none,0,[],rfl,by simp,by simp[maxLen],by simp,⟨by simp[Hm.recs],fun h=>by simp at h⟩,by simp⟩
 ·rw[hC] at hi hb
  rw[hby] at hw;obtain⟨l,hll,hp⟩:=zww (p:=fun i x=>W.cells? 0 (a.add (i*sz)) sz=some (f x)/\Q x) d len (fun i hil=>by obtain⟨cs',hc,hh⟩:=hi i (by omega);obtain⟨x,rfl,hq⟩:=hel cs' hh;exact⟨x,hc,hq⟩)
  subst hll;refine⟨some a,cap,l,rfl,hl,hm,hw,⟨by rw[zar hf],fun hn=>⟨a,rfl,hb (Nat.mul_pos (by omega) h0),fun j u hu=>?_⟩⟩,fun x hx=>?_⟩
  ·have hj:j<l.length*sz:=by
    rw[<-zar hf];exact(List.getElem?_eq_some_iff.1 hu).1
   have hjd:j/sz<l.length:=by rw[Nat.mul_comm] at hj;exact Nat.div_lt_of_lt_mul hj
   have hjm:j%sz<sz:=Nat.mod_lt _ h0;obtain⟨hc,_⟩:=hp (j/sz) hjd;obtain⟨_,_,hat⟩:=World.cells?_some hc;have:=hat (j%sz) hjm;rw[Go.Deep.add_add,Nat.mul_comm (j/sz),Nat.div_add_mod] at this;rw[this,<-hu];have e:=zoc hf l d (j/sz) (j%sz) hjd hjm;rw[Nat.mul_comm (j/sz),Nat.div_add_mod] at e;rw[e]
  ·obtain⟨i,hi',rfl⟩:=List.getElem_of_mem hx
   have:=(hp i hi').2;rwa[List.getD_eq_getElem?_getD,List.getElem?_eq_getElem hi'] at this
end
open Go Go.RowKit Go.WideShapes Go.ChangeShapes Go.Deep
def zcy(l:List (Int × Int)):List Value:=l.flatMap fun p=>[.int .i64 p.1,.int .i64 p.2]
theorem zga(l:List (Int × Int)):(zcy l).length=l.length*2:=by
 induction l with
 |nil=>rfl
 |cons p l ih=>simp only[zcy,List.flatMap_cons,List.length_append,List.length_cons,List.length_nil] at ih⊢;rw[ih];omega
theorem qag(l:List (Int × Int)):∀i,i<l.length->(zcy l)[i*2]? =some (.int .i64 (l.getD i (0,0)).1)/\(zcy l)[i*2+1]? =some (.int .i64 (l.getD i (0,0)).2):=by
 induction l with
 |nil=>intro i h;simp at h
 |cons p l ih=>
  intro i h;cases i with
  |zero=>exact⟨rfl,rfl⟩
  |succ i=>
   have:=ih i (by simpa using h);rw[show(i+1)*2=i*2+1+1 by omega];exact this
theorem Reads.lenP{w:World}{B n:Nat}{A:Option Addr}{l:List (Int × Int)}(h:Reads w B 2 A n (zcy l)):n=l.length:=by have:=h.1;rw[zga] at this;omega
theorem Reads.pair{w:World}{B n i:Nat}{A:Option Addr}{l:List (Int × Int)}(h:Reads w B 2 A n (zcy l))(hi:i<n):
 ∃ad,A=some ad/\ad.block<B/\w.cell? (ad.add (i*2))=some (.int .i64 (l.getD i (0,0)).1)/\w.cell? (ad.add (i*2+1))=some (.int .i64 (l.getD i (0,0)).2):=by
 obtain⟨ad,e,hb,hc⟩:=h.2 (by omega);have hl:=h.lenP;obtain⟨h1,h2⟩:=qag l i (by omega);exact⟨ad,e,hb,hc _ _ h1,hc _ _ h2⟩
end Go.Hm
