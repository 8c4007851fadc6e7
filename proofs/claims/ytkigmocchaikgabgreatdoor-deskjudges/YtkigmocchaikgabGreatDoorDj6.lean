import Derived.Test.YtkigmocchaikgabGreatDoorDj4
import Derived.Test.YtkigmocchaikgabGreatDoorDj5
import Derived.Test.YtkigmocchaikgabGreatDoorDj2
import Derived.Test.YtkigmocchaikgabGreatDoorProg
/- The reference's numbers and words; a text, cut. -/
namespace Go.Proofs.YtkigmocchaikgabGreatDoor
open Go.RowKit Go.Lib
abbrev bs (l:List UInt8):ByteArray:=⟨l.toArray⟩
theorem zw6 (t:ByteArray):bs t.data.toList=t:=by obtain ⟨⟨l⟩⟩:=t;rfl
theorem zhd (a b:List UInt8):bs a++bs b=bs (a++b):=by apply ByteArray.ext;simp
theorem zdw (l:List UInt8):(bs l).size=l.length:=by simp [ByteArray.size]
theorem zdq (t:ByteArray):t.data.toList.length=t.size:=(Lib.size_eq t).symm
theorem yans (t:ByteArray) (a b:Nat):(t.extract a b).data.toList=(t.data.toList.drop a).take (b - a):=by
 rw [ByteArray.data_extract,Array.toList_extract]
theorem zve (t:ByteArray) (a b:Nat):t.extract a b=bs ((t.data.toList.drop a).take (b - a)):=by rw [← yans,zw6]
theorem yabc (t:ByteArray):t.extract 1 ((t.size:Int)).toNat=bs t.data.toList.tail:=by
 rw [zve,Int.toNat_natCast,List.take_of_length_le (by rw [List.length_drop,zdq];omega),List.drop_one]
theorem zlj (t:ByteArray) {j:Nat} (h:j<t.data.toList.length):zee t j=(t.data.toList[j]).toBitVec:=by
 unfold zee
 rw [Array.getD_eq_getD_getElem?,Array.getElem?_eq_getElem (by simpa using h)];simp
theorem yaus {a b:UInt8}:(a.toBitVec==b.toBitVec)=decide (a=b):=by
 by_cases h:a=b
 ·subst h;simp
 ·rw [decide_eq_false h]
  exact beq_eq_false_iff_ne.2 fun e=>h (UInt8.toBitVec_inj.1 e)
theorem zwv (x:BitVec 64):zl6 (((splice (rows 1 [.y 0#8]) 0 [.y (BitVec.setWidth 8 (badd (48#64) (x % 10#64)))]).drop 0).take 1)=bs [UInt8.ofNat (48+x.toNat % 10)]:=by
 show ByteArray.mk #[UInt8.ofBitVec (BitVec.setWidth 8 (48#64+x % 10#64))]=ByteArray.mk #[UInt8.ofNat (48+x.toNat % 10)]
 have e:∀ d,d<10→BitVec.setWidth 8 (48#64+BitVec.ofNat 64 d)=BitVec.ofNat 8 (48+d):=by decide
 have e2:x % 10#64=BitVec.ofNat 64 (x.toNat % 10):=by
  apply BitVec.eq_of_toNat_eq
  rw [BitVec.toNat_umod,show (10#64).toNat=10 from rfl,BitVec.toNat_ofNat]
  omega
 rw [e2,e _ (Nat.mod_lt _ (by decide))]
 rfl
theorem zg3 (u:Nat) (hu:u<18446744073709551616):Ok 13 [.c (.u (BitVec.ofNat 64 u))] (.c (.s (bs (decDigits u)))):=by
 induction u using Nat.strongRecOn with
 | _ u ih =>
  have hx:(BitVec.ofNat 64 u).toNat=u:=by rw [BitVec.toNat_ofNat];omega
  have hn:nv (BitVec.ofNat 64 u)=(u:Int):=by show ((BitVec.ofNat 64 u).toNat:Int)=_;rw [hx]
  refine yaxs (u:=bs (decDigits (u / 10))) (fun h=>?_) (fun h=>?_)
  ·rw [hn,decide_eq_true_eq] at h
   rw [zwv,hx,zfp (by omega),show u % 10=u by omega]
  ·rw [hn,decide_eq_false_iff_not] at h
   have hl:(decDigits (u / 10)).length≤20:=by rw [decDigits_length];exact nDigits_le20 _ (by omega)
   refine ⟨?_,?_,?_⟩
   ·rw [zwv,zdw,zdw]
    exact decide_eq_true (by simp only [List.length_cons,List.length_nil];omega)
   ·have e:BitVec.ofNat 64 u / 10#64=BitVec.ofNat 64 (u / 10):=by
     apply BitVec.eq_of_toNat_eq
     rw [BitVec.toNat_udiv,hx,show (10#64).toNat=10 from rfl,BitVec.toNat_ofNat]
     omega
    rw [e]
    exact ih (u / 10) (by omega) (by omega)
   ·rw [zwv,hx,zhd,zl8 (u:=u) (by omega)]
theorem yabt (x:BitVec 64):Ok 13 [.c (.u x)] (.c (.s (bs (decDigits x.toNat)))):=by
 have:=zg3 x.toNat (by have:=x.isLt;omega)
 rwa [BitVec.ofNat_toNat,BitVec.setWidth_eq] at this
theorem zi8 (n:Nat):BitVec.ofInt 64 (n:Int)=BitVec.ofNat 64 n:=by simp
theorem yah6 (u:Nat) (h:u<18446744073709551616):(decDigits u).length≤20:=by rw [decDigits_length];exact nDigits_le20 _ h
theorem yakh (a:UInt8) (l:List UInt8):ByteArray.mk #[a]++bs l=bs (a::l):=zhd [a] l
theorem yagh (n:Int) (h0:-64≤n) (h1:n≤64):Ok 87 [.c (.i n)] (.c (.s (bs (itoa n)))):=by
 refine yawb (u:=bs (decDigits n.natAbs)) (fun h=>?_) (fun h=>?_)
 ·rw [decide_eq_true_eq] at h
  have hl:=yah6 n.natAbs (by omega)
  refine ⟨?_,?_,?_⟩
  ·rw [zdw];exact decide_eq_true (by omega)
  ·rw [IntKind.wrap_i64,show (0 - n+9223372036854775808) % 18446744073709551616 - 9223372036854775808=((n.natAbs:Nat):Int) by omega,zi8]
   exact zg3 _ (by omega)
  ·rw [itoa,if_pos h]
   exact congrArg (fun l=>AV.c (.s l)) (yakh 45 _)
 ·rw [decide_eq_false_iff_not] at h
  obtain ⟨k,rfl⟩:∃ k:Nat,n=k:=⟨n.toNat,by omega⟩
  refine ⟨?_,?_⟩
  ·rw [zi8,Int.natAbs_natCast]
   exact zg3 _ (by omega)
  ·rw [itoa,if_neg h,Int.natAbs_natCast,Int.toNat_natCast]
theorem yabb (n:Int) (h0:0≤n) (h1:n≤64):Ok 85 [.c (.i n)] (.c (.s (bs (114::itoa n)))):=by
 obtain ⟨k,rfl⟩:∃ k:Nat,n=k:=⟨n.toNat,by omega⟩
 have hl:=yah6 k (by omega)
 have:=ybay (n1:=(k:Int)) (u:=bs (decDigits k)) (zaa (by rw [zdw];exact decide_eq_true (by omega)) rfl) (by rw [zi8];exact zg3 _ (by omega))
 rw [itoa,if_neg (by omega),Int.toNat_natCast,← yakh]
 exact this
theorem yatz {i:Ins} (hs:i.s=-1∨0≤i.s∧i.s≤64):Ok 86 [.ag i.cs] (.c (.s (bs (za7 i 2)))):=by
 by_cases h:i.s=-1
 ·rw [show za7 i 2=decDigits i.im.toNat by simp [za7,h]]
  exact ybam (by simp [h]) (yabt _)
 ·have h2:=hs.resolve_left h
  rw [show za7 i 2=114::itoa i.s by simp [za7,h]]
  exact ybar (by simp [h]) (yabb _ h2.1 h2.2)
theorem ybas {j:Nat} (h:j≤5000):IntKind.i64.wrap ((j:Int)+1)=((j+1:Nat):Int):=by rw [IntKind.wrap_i64];omega
theorem ze3 {j:Nat} (h:j≤5000):pe (.c (.i (IntKind.i64.wrap ((j:Int)+1))))=pe (.c (.i (↑(j+1):Int))):=by rw [ybas h]
theorem yaq4 {t:ByteArray} {w:World} {β:Bs} {m:Nat} (ht:t.size≤4096) (hF:∀ k,(cx w β m []).F k→k<0):∀ (n j:Nat) (x:BitVec 64),j+n=(t.data.toList.take 20).length→AR 69 Tryz.f69 (cx w β m []) 0 (vaRK t x j) (REff w β ⟨.c (.u (((t.data.toList.take 20).drop j).foldl digV x)),[],none⟩)
 | 0,j,x,hj=>by
  rw [List.drop_eq_nil_of_le (by omega),List.foldl_nil]
  rw [List.length_take,zdq] at hj
  by_cases h:j<t.size
  ·exact yaym (zaa (decide_eq_true (by omega)) (zaa (zad (decide_eq_false (by omega))) rfl))
  ·exact yawj (zaa (zad (decide_eq_false (by omega))) rfl)
 | n+1,j,x,hj=>by
  have hl:=hj
  rw [List.length_take,zdq] at hl
  have hj2:j<(t.data.toList.take 20).length:=by omega
  rw [List.drop_eq_getElem_cons hj2,List.foldl_cons]
  refine yayj (zaa (decide_eq_true (by omega)) (zaa (decide_eq_true (by omega)) (zaa (decide_eq_true (by omega)) rfl))) (ze3 (by omega)) hF ?_
  have e:badd (bmul (10#64) x) (BitVec.setWidth 64 (zee t (j:Int).toNat - 48#8))=digV x ((t.data.toList.take 20)[j]):=by
   rw [Int.toNat_natCast,zlj t (by rw [zdq];omega),List.getElem_take];rfl
  rw [e]
  exact yaq4 ht hF n (j+1) _ (by omega)
theorem zhk {t:ByteArray} (ht:t.size≤4096):Ok 69 [.c (.s t)] (.c (.u (valP t.data.toList))) :=
 zgr Tryz.func69 rfl rfl (zwa rfl) rfl (fun _ _ h=>(nomatch h)) fun _ _=>yapz (fun _ h=>h) (yaq4 ht (fun _ h=>h) _ 0 _ (Nat.zero_add _))
theorem yax0 (t:ByteArray) (c:UInt8) (h:0<t.size):(zee t 0==c.toBitVec)=decide (t.data.toList.head?=some c):=by
 have h1:0<t.data.toList.length:=by rw [zdq];exact h
 have e:∀ (l:List UInt8) (h:0<l.length),decide (l[0]=c)=decide (l.head?=some c):=fun l h=>by
  cases l with
  | nil=>simp at h
  | cons a r=>simp
 rw [zlj t h1,yaus]
 exact e _ h1
theorem zt7 (t:ByteArray):(bs t.data.toList.tail).size≤t.size:=by rw [zdw,List.length_tail,zdq];omega
theorem yabs {t:ByteArray} (ht:t.size≤4096):Ok 70 [.c (.s t)] (.c (.i (zgk t.data.toList))):=by
 have hs:=zdq t
 unfold zgk
 by_cases h4:4<t.size
 ·rw [if_pos (by omega)]
  exact ybal (zaa (decide_eq_true (by omega)) rfl)
 ·rw [if_neg (by omega)]
  have d4:(!decide (4<(t.size:Int)))=true:=zad (decide_eq_false (by omega))
  by_cases h0:0<t.size
  ·have b0:=yax0 t 45 h0
   have d0:decide (0<(t.size:Int))=true:=decide_eq_true (by omega)
   by_cases h45:t.data.toList.head?=some 45
   ·rw [if_pos h45]
    rw [decide_eq_true h45] at b0
    refine ybah (zaa d4 (zaa d0 (zaa (decide_eq_true h0) (zaa b0 (zaa (zaa (decide_eq_true (by omega)) (decide_eq_true (Int.le_refl _))) rfl))))) ?_
    rw [yabc]
    exact zhk (Nat.le_trans (zt7 t) ht)
   ·rw [if_neg h45]
    rw [decide_eq_false h45] at b0
    exact yba2 (zaa d4 (zaa d0 (zaa (decide_eq_true h0) (zaa (zad b0) rfl)))) (zhk ht)
  ·have hl:t.data.toList=[]:=List.length_eq_zero_iff.1 (by omega)
   rw [if_neg (by rw [hl];simp)]
   exact ybaz (zaa d4 (zaa (zad (decide_eq_false (by omega))) rfl)) (zhk ht)
theorem yaai {t:ByteArray} (ht:t.size≤4096):Ok 68 [.c (.s t)] (.c (.i (regP t.data.toList))):=by
 have hs:=zdq t
 unfold regP
 by_cases h2:t.size<2
 ·rw [if_pos (by omega)]
  exact yba6 (zaa (decide_eq_true (by omega)) rfl)
 ·rw [if_neg (by omega)]
  refine ybaw (zaa (zad (decide_eq_false (by omega))) (zaa (zaa (decide_eq_true (by omega)) (decide_eq_true (Int.le_refl _))) rfl)) ?_
  rw [yabc]
  exact yabs (Nat.le_trans (zt7 t) ht)
def wcell (ws:List (List UInt8)):List AC:=ws.map fun l=>.s (bs l)
theorem zdh (ws:List (List UInt8)):(wcell ws).flatMap AC.ks=[]:=by
 induction ws with
 | nil=>rfl
 | cons a l ih=>exact ih
theorem zv7 (a:List (List UInt8)) (l:List UInt8):wcell a++[.s (bs l)]=wcell (a++[l]):=by simp [wcell]
theorem zhc (ws:List (List UInt8)):(wcell ws).length=ws.length:=by simp [wcell]
theorem zww (t:ByteArray) (c:BitVec 8) (q p j r:Nat) (ws:List (List UInt8)):Kn.Low (zoz t c q p j r (wcell ws)):=zg2 rfl rfl ⟨zdh ws,trivial⟩
abbrev cuYK (t:ByteArray) (c:BitVec 8) (q p j r:Nat) (A:List AC):Kn:=⟨[(0,.c (.s t)),(1,.c (.y c)),(2,.c (.i (q:Int))),(7,.c (.sx 78 r)),(8,.c (.i (p:Int))),(9,.c (.i (j:Int)))],[(78,Ent.mk true A 1)],79⟩
theorem yaif (t:ByteArray) (c:BitVec 8) (q p j r:Nat) (ws:List (List UInt8)):Kn.Low (cuYK t c q p j r (wcell ws)):=zg2 rfl rfl ⟨zdh ws,trivial⟩
theorem yaq5 (t:ByteArray) (c:BitVec 8) (q p j r:Nat) (ws:List (List UInt8)):(cuYK t c q p j r (wcell ws)).ren (swp 50 78) 51=zoz t c q p j r (wcell ws):=by
 unfold Kn.ren renH
 simp only [List.map_cons,List.map_nil,Ent.ren,zck _ (zdh ws)]
 rfl
abbrev yaeq (R:List (List UInt8)):Eff:=⟨.c (.sx 50 R.length),[],some (50,⟨true,wcell R,1⟩)⟩
theorem yag0 (R:List (List UInt8)):EKeys 0 [] (some 50) (yaeq R):=by
 refine ⟨fun k hk=>Or.inr ?_,fun _ _ hm=>(nomatch hm),fun k en' h'=>?_,fun _ h=>(nomatch h),fun k h=>⟨Nat.zero_le _,rfl⟩⟩
 ·rw [List.mem_singleton.1 hk]
 ·injection h' with h';injection h' with _ h';subst h';exact zdh R
def zge (c:UInt8) (l:List UInt8) (q p j:Nat):List (List UInt8):=if j≤l.length then cutL c q ((l.drop p).take (j - p)) (l.drop j) else []
theorem yaa5 (c:UInt8) (l:List UInt8) (k p:Nat) (ws:List (List UInt8)):ws++zge c l (k+1) p l.length=(ws++[(l.drop p).take (l.length - p)])++zge c l k (l.length+1) (l.length+1):=by
 unfold zge
 rw [if_pos (Nat.le_refl _),if_neg (by omega),List.drop_length,cutL]
 simp
theorem yabe {c:UInt8} {l:List UInt8} {k p j:Nat} (hj:j<l.length) (h:l[j]=c) (ws:List (List UInt8)):ws++zge c l (k+1) p j=(ws++[(l.drop p).take (j - p)])++zge c l k (j+1) (j+1):=by
 unfold zge
 rw [if_pos (by omega),if_pos (by omega),List.drop_eq_getElem_cons hj,cutL,if_pos h]
 simp
theorem zv9 {c:UInt8} {l:List UInt8} {k p j:Nat} (hj:j<l.length) (hp:p≤j) (h:l[j]≠c):zge c l (k+1) p j=zge c l (k+1) p (j+1):=by
 unfold zge
 rw [if_pos (by omega),if_pos (by omega),List.drop_eq_getElem_cons hj,cutL,if_neg h]
 congr 1
 have e:j+1 - p=(j - p)+1:=by omega
 rw [e,List.take_add_one,List.getElem?_drop,show p+(j - p)=j by omega,List.getElem?_eq_getElem hj]
 rfl
theorem yaja {t:ByteArray} (ht:t.size≤4096) (c:UInt8) {q:Nat} {w:World} {β:Bs} (hF:∀ k,(cx w β 0 []).F k→k<0):∀ (n j p:Nat) (ws:List (List UInt8)),j+n=t.size+1→p≤j→ws≠[]→ws.length≤q→q≤100 →
  AR 27 Tryz.f27 (cx w β 0 []) 0 (zoz t c.toBitVec q p j ws.length (wcell ws)) (REff w β (yaeq (ws++zge c t.data.toList (q - ws.length) p j)))
 | 0,j,p,ws,hj,hp,hne,hq,_=>by
  have e:zge c t.data.toList (q - ws.length) p j=[]:=by unfold zge;rw [if_neg (by rw [zdq];omega)]
  rw [e,List.append_nil]
  exact yaul (zaa (zad (decide_eq_false (by omega))) rfl) (yag0 ws)
 | n+1,j,p,ws,hj,hp,hne,hq,hq1=>by
  have hs:=zdq t
  have dj:decide ((j:Int)≤(t.size:Int))=true:=decide_eq_true (by omega)
  by_cases hr:ws.length<q
  ·obtain ⟨k,hk⟩:∃ k,q - ws.length=k+1:=⟨q - ws.length - 1,by omega⟩
   have dr:decide ((ws.length:Int)<(q:Int))=true:=decide_eq_true (by omega)
   have hw0:0<ws.length:=List.length_pos_iff.2 hne
   have da:(Nat.beq (ws.length*1) (wcell ws).length&&decide (ws.length+1≤137438953472)&&Nat.blt 0 ws.length)=true:=by
    rw [zhc,Nat.mul_one,Nat.beq_refl,decide_eq_true (by omega)]
    simpa using hw0
   have dp:(decide ((p:Int)≤(j:Int))&&decide ((j:Int)≤(t.size:Int)))=true:=zaa (decide_eq_true (by omega)) dj
   have ea:Eff.mk (.c (.sx 78 (ws.length+1))) [(50,[])] (some (51+10+11+6,Ent.mk true (wcell ws++((splice (rows 1 [.s (ByteArray.mk #[])]) 0 [.s (ByteArray.extract t ((p:Int)).toNat ((j:Int)).toNat)]).drop 0).take 1) 1))=Eff.mk (.c (.sx 78 (ws.length+1))) [(50,[])] (some (78,Ent.mk true (wcell ws++[.s (ByteArray.extract t p j)]) 1)):=rfl
   have nx:∀ ws':List (List UInt8),ws'=ws++[(t.data.toList.drop p).take (j - p)]→AR 27 Tryz.f27 (cx w β 0 []) 0 (cuYK t c.toBitVec q (j+1) (j+1) (ws.length+1) (wcell ws++[.s (ByteArray.extract t p j)])) (REff w β (yaeq (ws'++zge c t.data.toList k (j+1) (j+1)))):=fun ws' hw=>by
    have hl:ws'.length=ws.length+1:=by rw [hw];simp
    rw [zve,zv7,← hw,← hl]
    refine ART.ren (swp 50 78) 51 (zsa 50 78) (yaq5 _ _ _ _ _ _ _) (fun k hk=>absurd (hF k hk) (by omega)) (zww _ _ _ _ _ _ _) ?_
    rw [show k=q - ws'.length by omega]
    exact yaja ht c hF n (j+1) (j+1) ws' (by omega) (Nat.le_refl _) (by rw [hw];simp) (by omega) hq1
   have lo:Kn.Low (cuYK t c.toBitVec q (j+1) (j+1) (ws.length+1) (wcell ws++[.s (ByteArray.extract t p j)])):=by rw [zve,zv7];exact yaif _ _ _ _ _ _ _
   have hF':∀ k,(cx w β 0 []).F k→k<79:=fun k hk=>absurd (hF k hk) (by omega)
   rw [hk]
   by_cases he:j=t.size
   ·have de:((j:Int)==(t.size:Int))=true:=by rw [he];simp
    refine yau5 (zaa dj (zaa dr (zaa de (zaa dp (zaa da rfl))))) ea (ze3 (by omega)) (ze3 (by omega)) lo hF' ?_
    have:=nx _ rfl
    have e2:j=t.data.toList.length:=by omega
    rw [e2,← yaa5,← e2] at this
    exact this
   ·have de:(!((j:Int)==(t.size:Int)))=true:=by simp;omega
    have hjl:j<t.data.toList.length:=by omega
    have dl:decide ((j:Int).toNat<t.size)=true:=decide_eq_true (by omega)
    have db:(zee t (j:Int).toNat==c.toBitVec)=decide (t.data.toList[j]=c):=by rw [Int.toNat_natCast,zlj t hjl,yaus]
    by_cases hc:t.data.toList[j]=c
    ·rw [decide_eq_true hc] at db
     refine yarb (zaa dj (zaa dr (zaa de (zaa dl (zaa db (zaa dp (zaa da rfl))))))) ea (ze3 (by omega)) (ze3 (by omega)) lo hF' ?_
     rw [yabe hjl hc]
     exact nx _ rfl
    ·rw [decide_eq_false hc] at db
     refine yaru (zaa dj (zaa dr (zaa de (zaa dl (zaa (zad db) rfl))))) (ze3 (by omega)) (zww _ _ _ _ _ _ _) (fun k hk=>absurd (hF k hk) (by omega)) ?_
     rw [zv9 hjl hp hc,← hk]
     exact yaja ht c hF n (j+1) p ws (by omega) (by omega) hne hq hq1
  ·have e:q - ws.length=0:=by omega
   have e2:zge c t.data.toList 0 p j=[]:=by unfold zge;split <;> simp [cutL]
   rw [e,e2,List.append_nil]
   exact yatt (zaa dj (zaa (zad (decide_eq_false (by omega))) rfl)) (yag0 ws)
theorem yah7 {t:ByteArray} (ht:t.size≤4096) (c:UInt8) {k:Nat} (hk:k<100) {w:World} {β:Bs} (hF:∀ k,(cx w β 0 []).F k→k<0):∀ (n j p:Nat),j+n=t.size→p≤j →
  AR 27 Tryz.f27 (cx w β 0 []) 0 (yahy t c.toBitVec (k+1) p j) (REff w β (yaeq (zge c t.data.toList (k+1) p j))):=fun n j p hj hp=>by
 have hs:=zdq t
 have dj:decide ((j:Int)≤(t.size:Int))=true:=decide_eq_true (by omega)
 have dr:decide (0<((k+1:Nat):Int))=true:=decide_eq_true (by omega)
 have dp:(decide ((p:Int)≤(j:Int))&&decide ((j:Int)≤(t.size:Int)))=true:=zaa (decide_eq_true (by omega)) dj
 have nx:AR 27 Tryz.f27 (cx w β 0 []) 0 (cuYK t c.toBitVec (k+1) (j+1) (j+1) 1 [.s (ByteArray.extract t p j)]) (REff w β (yaeq ([(t.data.toList.drop p).take (j - p)]++zge c t.data.toList k (j+1) (j+1)))):=by
  rw [zve]
  refine ART.ren (swp 50 78) 51 (zsa 50 78) (yaq5 _ _ _ _ _ _ [(t.data.toList.drop p).take (j - p)]) (fun k hk=>absurd (hF k hk) (by omega)) (zww _ _ _ _ _ _ _) ?_
  exact yaja ht c hF n (j+1) (j+1) [(t.data.toList.drop p).take (j - p)] (by omega) (Nat.le_refl _) (by simp) (by simp) (by omega)
 have lo:Kn.Low (cuYK t c.toBitVec (k+1) (j+1) (j+1) 1 [.s (ByteArray.extract t p j)]):=by rw [zve];exact yaif _ _ _ _ _ _ [(t.data.toList.drop p).take (j - p)]
 have hF':∀ k,(cx w β 0 []).F k→k<79:=fun k hk=>absurd (hF k hk) (by omega)
 by_cases he:j=t.size
 ·have de:((j:Int)==(t.size:Int))=true:=by rw [he];simp
  refine yar0 (zaa dj (zaa dr (zaa de (zaa dp rfl)))) rfl (ze3 (by omega)) (ze3 (by omega)) lo hF' ?_
  have e2:j=t.data.toList.length:=by omega
  have:=yaa5 c t.data.toList k p []
  rw [← e2,List.nil_append,List.nil_append] at this
  rw [this]
  exact nx
 ·have de:(!((j:Int)==(t.size:Int)))=true:=by simp;omega
  have hjl:j<t.data.toList.length:=by omega
  have dl:decide ((j:Int).toNat<t.size)=true:=decide_eq_true (by omega)
  have db:(zee t (j:Int).toNat==c.toBitVec)=decide (t.data.toList[j]=c):=by rw [Int.toNat_natCast,zlj t hjl,yaus]
  by_cases hc:t.data.toList[j]=c
  ·rw [decide_eq_true hc] at db
   refine yasv (zaa dj (zaa dr (zaa de (zaa dl (zaa db (zaa dp rfl)))))) rfl (ze3 (by omega)) (ze3 (by omega)) lo hF' ?_
   have:=yabe (k:=k) (p:=p) hjl hc []
   rw [List.nil_append,List.nil_append] at this
   rw [this]
   exact nx
  ·rw [decide_eq_false hc] at db
   refine yavf (zaa dj (zaa dr (zaa de (zaa dl (zaa (zad db) rfl))))) (ze3 (by omega)) (fun k hk=>absurd (hF k hk) (by omega)) ?_
   rw [zv9 hjl hp hc]
   match n,hj with
   | 0,hj=>omega
   | n+1,hj=>exact yah7 ht c hk hF n (j+1) p (by omega) (by omega)
 termination_by n=>n
theorem yay9 {t:ByteArray} (ht:t.size≤4096) (c:UInt8) {k:Nat} (hk:k<100):CallOK Tryz.prog ⟨27,[.c (.s t),.c (.y c.toBitVec),.c (.i ((k+1:Nat):Int))],[],yaeq (cutL c (k+1) [] t.data.toList)⟩:=by
 refine zla Tryz.func27 rfl rfl rfl rfl (zdh _) fun w β _=>?_
 have e:cutL c (k+1) [] t.data.toList=zge c t.data.toList (k+1) 0 0:=by unfold zge;rw [if_pos (by omega)];rfl
 rw [e]
 exact yapi (fun _ h=>absurd h (by show ¬ _<0;omega)) (yah7 ht c hk (fun _ h=>h) t.size 0 0 (by omega) (Nat.le_refl _))
theorem yaqx {t:ByteArray} (ht:t.size≤4096) (c:UInt8) {k:Nat} (hk:k<100) (K:Nat):CallOK Tryz.prog ⟨27,[.c (.s t),.c (.y c.toBitVec),.c (.i ((k+1:Nat):Int))],[],⟨.c (.sx K (cutL c (k+1) [] t.data.toList).length),[],some (K,⟨true,wcell (cutL c (k+1) [] t.data.toList),1⟩)⟩⟩:=by
 refine ((yay9 ht c hk).ren (swp 50 K) (zbl 50 K)).congr ?_
 unfold CallRec.ren Eff.ren renH
 simp only [List.map_cons,List.map_nil,Option.map_some,Ent.ren,zck _ (zdh _),AV.ren,AC.ren,zel]
end Go.Proofs.YtkigmocchaikgabGreatDoor
namespace Go.Proofs.YtkigmocchaikgabGreatDoor
open Go.RowKit
section
abbrev ctRK (L:List Ins) (c j:Nat) (t:ByteArray):Kn:=⟨[(0,.c (.sl 0 0 L.length c)),(3,.c (.s t)),(4,.c (.i (j:Int)))],[(0,Ent.mk false (pcell L) 0)],1⟩
variable {i:Ins} {m u1 u2 u3 u4 t:ByteArray} {A:List AC} {L:List Ins} {c j n:Nat} {C:Cx} {R:Ending→World→Prop} {w:World} {β:Bs} {n1:Int} {x:BitVec 64}
theorem yaz5 (h:(decide (0≤i.op)&&decide (i.op<16)&&(AC.isS (A[0+(i.op).toNat*1]?.getD (.b false))&&Nat.blt (0+(i.op).toNat*1) A.length&&(decide (ByteArray.size m+1≤9223372036854775807)&&(decide (ByteArray.size (m++ByteArray.mk #[OfNat.ofNat 32])+ByteArray.size u1≤9223372036854775807)&&(decide (ByteArray.size (m++ByteArray.mk #[OfNat.ofNat 32]++u1)+1≤9223372036854775807)&&(decide (ByteArray.size (m++ByteArray.mk #[OfNat.ofNat 32]++u1++ByteArray.mk #[OfNat.ofNat 32])+ByteArray.size u2≤9223372036854775807)&&(decide (ByteArray.size (m++ByteArray.mk #[OfNat.ofNat 32]++u1++ByteArray.mk #[OfNat.ofNat 32]++u2)+1≤9223372036854775807)&&true)))))))=true) (c0:CO 66 [] [] (Eff.mk (.c (.sl 2 0 16 16)) [] (some (2,Ent.mk true A 0)))) (c1:pe (.c (.s (AC.asS (A[0+(i.op).toNat*1]?.getD (.b false)))))=pe (.c (.s m))) (c2:Ok 38 [.c (.i i.op)] (.c (.b true))) (c3:Ok 85 [.c (.i i.d)] (.c (.s u1))) (c4:Ok 86 [.ag i.cs] (.c (.s u2))) :
  Ok 33 [.ag i.cs] (.c (.s (m++ByteArray.mk #[OfNat.ofNat 32]++u1++ByteArray.mk #[OfNat.ofNat 32]++u2++ByteArray.mk #[OfNat.ofNat 10]))) :=
 zaf [true] ([]) [(1,4)] Tryz.func33 rfl rfl rfl rfl (by kernel_rfl) h (zab c0 (zac c1 (zab c2 (zab c3 (zab c4 zae)))))
theorem yaw1 (h:(decide (0≤i.op)&&decide (i.op<16)&&(AC.isS (A[0+(i.op).toNat*1]?.getD (.b false))&&Nat.blt (0+(i.op).toNat*1) A.length&&(i.op==10&&(decide (ByteArray.size m+1≤9223372036854775807)&&(decide (ByteArray.size (m++ByteArray.mk #[OfNat.ofNat 32])+ByteArray.size u1≤9223372036854775807)&&(decide (ByteArray.size (m++ByteArray.mk #[OfNat.ofNat 32]++u1)+1≤9223372036854775807)&&(decide (ByteArray.size (m++ByteArray.mk #[OfNat.ofNat 32]++u1++ByteArray.mk #[OfNat.ofNat 32])+ByteArray.size u2≤9223372036854775807)&&(decide (ByteArray.size (m++ByteArray.mk #[OfNat.ofNat 32]++u1++ByteArray.mk #[OfNat.ofNat 32]++u2)+1≤9223372036854775807)&&(decide (ByteArray.size (m++ByteArray.mk #[OfNat.ofNat 32]++u1++ByteArray.mk #[OfNat.ofNat 32]++u2++ByteArray.mk #[OfNat.ofNat 32])+ByteArray.size u3≤9223372036854775807)&&(decide (ByteArray.size (m++ByteArray.mk #[OfNat.ofNat 32]++u1++ByteArray.mk #[OfNat.ofNat 32]++u2++ByteArray.mk #[OfNat.ofNat 32]++u3)+1≤9223372036854775807)&&(decide (ByteArray.size (m++ByteArray.mk #[OfNat.ofNat 32]++u1++ByteArray.mk #[OfNat.ofNat 32]++u2++ByteArray.mk #[OfNat.ofNat 32]++u3++ByteArray.mk #[OfNat.ofNat 32])+ByteArray.size u4≤9223372036854775807)&&(decide (ByteArray.size (m++ByteArray.mk #[OfNat.ofNat 32]++u1++ByteArray.mk #[OfNat.ofNat 32]++u2++ByteArray.mk #[OfNat.ofNat 32]++u3++ByteArray.mk #[OfNat.ofNat 32]++u4)+1≤9223372036854775807)&&true))))))))))))=true) (c0:CO 66 [] [] (Eff.mk (.c (.sl 2 0 16 16)) [] (some (2,Ent.mk true A 0)))) (c1:pe (.c (.s (AC.asS (A[0+(i.op).toNat*1]?.getD (.b false)))))=pe (.c (.s m))) (c2:Ok 38 [.c (.i i.op)] (.c (.b false))) (c3:Ok 13 [.c (.u i.im)] (.c (.s u1))) (c4:Ok 85 [.c (.i i.d)] (.c (.s u2))) (c5:Ok 85 [.c (.i i.s)] (.c (.s u3))) (c6:Ok 87 [.c (.i i.of)] (.c (.s u4))) :
  Ok 33 [.ag i.cs] (.c (.s (m++ByteArray.mk #[OfNat.ofNat 32]++u1++ByteArray.mk #[OfNat.ofNat 32]++u2++ByteArray.mk #[OfNat.ofNat 32]++u3++ByteArray.mk #[OfNat.ofNat 32]++u4++ByteArray.mk #[OfNat.ofNat 10]))) :=
 zaf [false,true] ([]) [(1,4)] Tryz.func33 rfl rfl rfl rfl (by kernel_rfl) h (zab c0 (zac c1 (zab c2 (zab c3 (zab c4 (zab c5 (zab c6 zae)))))))
theorem yavy (h:(decide (0≤i.op)&&decide (i.op<16)&&(AC.isS (A[0+(i.op).toNat*1]?.getD (.b false))&&Nat.blt (0+(i.op).toNat*1) A.length&&(!i.op==10&&(i.op==11&&(decide (ByteArray.size m+1≤9223372036854775807)&&(decide (ByteArray.size (m++ByteArray.mk #[OfNat.ofNat 32])+ByteArray.size u1≤9223372036854775807)&&(decide (ByteArray.size (m++ByteArray.mk #[OfNat.ofNat 32]++u1)+1≤9223372036854775807)&&(decide (ByteArray.size (m++ByteArray.mk #[OfNat.ofNat 32]++u1++ByteArray.mk #[OfNat.ofNat 32])+ByteArray.size u2≤9223372036854775807)&&(decide (ByteArray.size (m++ByteArray.mk #[OfNat.ofNat 32]++u1++ByteArray.mk #[OfNat.ofNat 32]++u2)+1≤9223372036854775807)&&(decide (ByteArray.size (m++ByteArray.mk #[OfNat.ofNat 32]++u1++ByteArray.mk #[OfNat.ofNat 32]++u2++ByteArray.mk #[OfNat.ofNat 32])+ByteArray.size u3≤9223372036854775807)&&(decide (ByteArray.size (m++ByteArray.mk #[OfNat.ofNat 32]++u1++ByteArray.mk #[OfNat.ofNat 32]++u2++ByteArray.mk #[OfNat.ofNat 32]++u3)+1≤9223372036854775807)&&(decide (ByteArray.size (m++ByteArray.mk #[OfNat.ofNat 32]++u1++ByteArray.mk #[OfNat.ofNat 32]++u2++ByteArray.mk #[OfNat.ofNat 32]++u3++ByteArray.mk #[OfNat.ofNat 32])+ByteArray.size u4≤9223372036854775807)&&(decide (ByteArray.size (m++ByteArray.mk #[OfNat.ofNat 32]++u1++ByteArray.mk #[OfNat.ofNat 32]++u2++ByteArray.mk #[OfNat.ofNat 32]++u3++ByteArray.mk #[OfNat.ofNat 32]++u4)+1≤9223372036854775807)&&true)))))))))))))=true) (c0:CO 66 [] [] (Eff.mk (.c (.sl 2 0 16 16)) [] (some (2,Ent.mk true A 0)))) (c1:pe (.c (.s (AC.asS (A[0+(i.op).toNat*1]?.getD (.b false)))))=pe (.c (.s m))) (c2:Ok 38 [.c (.i i.op)] (.c (.b false))) (c3:Ok 13 [.c (.u i.im)] (.c (.s u1))) (c4:Ok 85 [.c (.i i.d)] (.c (.s u2))) (c5:Ok 87 [.c (.i i.of)] (.c (.s u3))) (c6:Ok 85 [.c (.i i.s)] (.c (.s u4))) :
  Ok 33 [.ag i.cs] (.c (.s (m++ByteArray.mk #[OfNat.ofNat 32]++u1++ByteArray.mk #[OfNat.ofNat 32]++u2++ByteArray.mk #[OfNat.ofNat 32]++u3++ByteArray.mk #[OfNat.ofNat 32]++u4++ByteArray.mk #[OfNat.ofNat 10]))) :=
 zaf [false,false,true] ([]) [(1,4)] Tryz.func33 rfl rfl rfl rfl (by kernel_rfl) h (zab c0 (zac c1 (zab c2 (zab c3 (zab c4 (zab c5 (zab c6 zae)))))))
theorem yawe (h:(decide (0≤i.op)&&decide (i.op<16)&&(AC.isS (A[0+(i.op).toNat*1]?.getD (.b false))&&Nat.blt (0+(i.op).toNat*1) A.length&&(!i.op==10&&(!i.op==11&&(decide (ByteArray.size m+1≤9223372036854775807)&&(decide (ByteArray.size (m++ByteArray.mk #[OfNat.ofNat 32])+ByteArray.size u1≤9223372036854775807)&&(decide (ByteArray.size (m++ByteArray.mk #[OfNat.ofNat 32]++u1)+1≤9223372036854775807)&&(decide (ByteArray.size (m++ByteArray.mk #[OfNat.ofNat 32]++u1++ByteArray.mk #[OfNat.ofNat 32])+ByteArray.size u2≤9223372036854775807)&&(decide (ByteArray.size (m++ByteArray.mk #[OfNat.ofNat 32]++u1++ByteArray.mk #[OfNat.ofNat 32]++u2)+1≤9223372036854775807)&&(decide (ByteArray.size (m++ByteArray.mk #[OfNat.ofNat 32]++u1++ByteArray.mk #[OfNat.ofNat 32]++u2++ByteArray.mk #[OfNat.ofNat 32])+ByteArray.size u3≤9223372036854775807)&&(decide (ByteArray.size (m++ByteArray.mk #[OfNat.ofNat 32]++u1++ByteArray.mk #[OfNat.ofNat 32]++u2++ByteArray.mk #[OfNat.ofNat 32]++u3)+1≤9223372036854775807)&&true)))))))))))=true) (c0:CO 66 [] [] (Eff.mk (.c (.sl 2 0 16 16)) [] (some (2,Ent.mk true A 0)))) (c1:pe (.c (.s (AC.asS (A[0+(i.op).toNat*1]?.getD (.b false)))))=pe (.c (.s m))) (c2:Ok 38 [.c (.i i.op)] (.c (.b false))) (c3:Ok 34 [.c (.i i.op)] (.c (.b true))) (c4:Ok 85 [.c (.i i.d)] (.c (.s u1))) (c5:Ok 86 [.ag i.cs] (.c (.s u2))) (c6:Ok 87 [.c (.i i.of)] (.c (.s u3))) :
  Ok 33 [.ag i.cs] (.c (.s (m++ByteArray.mk #[OfNat.ofNat 32]++u1++ByteArray.mk #[OfNat.ofNat 32]++u2++ByteArray.mk #[OfNat.ofNat 32]++u3++ByteArray.mk #[OfNat.ofNat 10]))) :=
 zaf [false,false,false,true] ([]) [(1,4)] Tryz.func33 rfl rfl rfl rfl (by kernel_rfl) h (zab c0 (zac c1 (zab c2 (zab c3 (zab c4 (zab c5 (zab c6 zae)))))))
theorem yazu (h:(decide (0≤i.op)&&decide (i.op<16)&&(AC.isS (A[0+(i.op).toNat*1]?.getD (.b false))&&Nat.blt (0+(i.op).toNat*1) A.length&&(!i.op==10&&(!i.op==11&&(i.op==12&&(decide (ByteArray.size m+1≤9223372036854775807)&&(decide (ByteArray.size (m++ByteArray.mk #[OfNat.ofNat 32])+ByteArray.size u1≤9223372036854775807)&&(decide (ByteArray.size (m++ByteArray.mk #[OfNat.ofNat 32]++u1)+1≤9223372036854775807)&&true))))))))=true) (c0:CO 66 [] [] (Eff.mk (.c (.sl 2 0 16 16)) [] (some (2,Ent.mk true A 0)))) (c1:pe (.c (.s (AC.asS (A[0+(i.op).toNat*1]?.getD (.b false)))))=pe (.c (.s m))) (c2:Ok 38 [.c (.i i.op)] (.c (.b false))) (c3:Ok 34 [.c (.i i.op)] (.c (.b false))) (c4:Ok 87 [.c (.i i.of)] (.c (.s u1))) :
  Ok 33 [.ag i.cs] (.c (.s (m++ByteArray.mk #[OfNat.ofNat 32]++u1++ByteArray.mk #[OfNat.ofNat 10]))) :=
 zaf [false,false,false,false,true] ([]) [(1,4)] Tryz.func33 rfl rfl rfl rfl (by kernel_rfl) h (zab c0 (zac c1 (zab c2 (zab c3 (zab c4 zae)))))
theorem yaxr (h:(decide (0≤i.op)&&decide (i.op<16)&&(AC.isS (A[0+(i.op).toNat*1]?.getD (.b false))&&Nat.blt (0+(i.op).toNat*1) A.length&&(!i.op==10&&(!i.op==11&&(!i.op==12&&(decide (ByteArray.size m+1≤9223372036854775807)&&true))))))=true) (c0:CO 66 [] [] (Eff.mk (.c (.sl 2 0 16 16)) [] (some (2,Ent.mk true A 0)))) (c1:pe (.c (.s (AC.asS (A[0+(i.op).toNat*1]?.getD (.b false)))))=pe (.c (.s m))) (c2:Ok 38 [.c (.i i.op)] (.c (.b false))) (c3:Ok 34 [.c (.i i.op)] (.c (.b false))) :
  Ok 33 [.ag i.cs] (.c (.s (m++ByteArray.mk #[OfNat.ofNat 10]))) :=
 zaf [false,false,false,false,false] ([]) [(1,4)] Tryz.func33 rfl rfl rfl rfl (by kernel_rfl) h (zab c0 (zac c1 (zab c2 (zab c3 zae))))
theorem yape (lo:Kn.Low ⟨[(0,.c (.sl 0 0 L.length c)),(3,.c (.s (ByteArray.mk #[]))),(4,.c (.i 0))],[(0,Ent.mk false (pcell L) 0)],1⟩) (hF:∀ k,C.F k→k<1) (z:AR 14 Tryz.f14 C 0 ⟨[(0,.c (.sl 0 0 L.length c)),(3,.c (.s (ByteArray.mk #[]))),(4,.c (.i 0))],[(0,Ent.mk false (pcell L) 0)],1⟩ R) :
  BO 14 Tryz.f14 C [.c (.sl 0 0 L.length c)] [(0,Ent.mk false (pcell L) 0)] 1 R :=
 zai [] ([true]) [] Tryz.func14 (by kernel_rfl) rfl zae lo hF z
theorem yazd (h:(decide ((j:Int)<(L.length:Int))&&(decide ((j:Int)<(L.length:Int))&&(Nat.ble (0+(j:Int).toNat*5+5) (pcell L).length&&(decide (ByteArray.size t+ByteArray.size u1≤9223372036854775807)&&true))))=true) (c0:pe (.ag (((pcell L).drop (0+(j:Int).toNat*5)).take 5))=pe (.ag i.cs)) (c1:Ok 33 [.ag i.cs] (.c (.s u1))) (c2:pe (.c (.s (t++u1)))=pe (.c (.s m))) (c3:pe (.c (.i (IntKind.i64.wrap ((j:Int)+1))))=pe (.c (.i (↑(j+1):Int)))) (lo:Kn.Low (ctRK L c (j+1) m)) (hF:∀ k,C.F k→k<1) (z:AR 14 Tryz.f14 C 0 (ctRK L c (j+1) m) R) :
  AR 14 Tryz.f14 C 0 (ctRK L c j t) R :=
 zai [true] ([true]) [(5,4),(5,6),(4,1)] Tryz.func14 (by kernel_rfl) h (zac c0 (zab c1 (zac c2 (zac c3 zae)))) lo hF z
theorem yaxc (h:(!decide ((j:Int)<(L.length:Int))&&true)=true) :
  AR 14 Tryz.f14 (cx w β n []) 0 (ctRK L c j t) (REff w β ⟨.c (.s t),[],none⟩) :=
 zah [] none [false] ([true]) [] Tryz.func14 (zat rfl n) (by kernel_rfl) h zae
theorem yazs (h:(decide (0<(↑(ByteArray.size t):Int))&&(decide (0<ByteArray.size t)&&(zee t 0==114#8&&true)))=true) (c0:Ok 68 [.c (.s t)] (.c (.i n1))) (hk:EKeys n [0] none ⟨.tu [],[(0,[.i i.op,.i i.d,.i n1,.u i.im,.i i.of])],none⟩) :
  BO 67 Tryz.f67 (cx w β n [0]) [.c (.s t),.c (.w 0)] [(0,Ent.mk true i.cs 0)] 1 (REff w β ⟨.tu [],[(0,[.i i.op,.i i.d,.i n1,.u i.im,.i i.of])],none⟩) :=
 zah [0] none [true,true] ([]) [] Tryz.func67 hk (by kernel_rfl) h (zab c0 zae)
theorem yayu (h:(decide (0<(↑(ByteArray.size t):Int))&&(decide (0<ByteArray.size t)&&(!zee t 0==114#8&&true)))=true) (c0:Ok 69 [.c (.s t)] (.c (.u x))) (hk:EKeys n [0] none ⟨.tu [],[(0,[.i i.op,.i i.d,.i (-1),.u x,.i i.of])],none⟩) :
  BO 67 Tryz.f67 (cx w β n [0]) [.c (.s t),.c (.w 0)] [(0,Ent.mk true i.cs 0)] 1 (REff w β ⟨.tu [],[(0,[.i i.op,.i i.d,.i (-1),.u x,.i i.of])],none⟩) :=
 zah [0] none [true,false] ([]) [] Tryz.func67 hk (by kernel_rfl) h (zab c0 zae)
theorem yayy (h:(!decide (0<(↑(ByteArray.size t):Int))&&true)=true) (c0:Ok 69 [.c (.s t)] (.c (.u x))) (hk:EKeys n [0] none ⟨.tu [],[(0,[.i i.op,.i i.d,.i (-1),.u x,.i i.of])],none⟩) :
  BO 67 Tryz.f67 (cx w β n [0]) [.c (.s t),.c (.w 0)] [(0,Ent.mk true i.cs 0)] 1 (REff w β ⟨.tu [],[(0,[.i i.op,.i i.d,.i (-1),.u x,.i i.of])],none⟩) :=
 zah [0] none [false,false] ([]) [] Tryz.func67 hk (by kernel_rfl) h (zab c0 zae)
end
section
abbrev rcAK (L:List Ins) (c j:Nat):Kn:=⟨[(0,.c (.sl 0 0 L.length c)),(3,.c (.i (j:Int)))],[(0,Ent.mk false (pcell L) 0)],1⟩
abbrev rcBK (L:List Ins) (c j:Nat):Kn:=⟨[(0,.c (.sl 0 0 L.length c)),(4,.c (.i (j:Int)))],[(0,Ent.mk false (pcell L) 0)],1⟩
abbrev rcCK (L:List Ins) (c j:Nat):Kn:=⟨[(0,.c (.sl 0 0 L.length c)),(5,.c (.i (j:Int)))],[(0,Ent.mk false (pcell L) 0)],1⟩
variable {op a lo hi d q s of:Int} {V:AV} {i:Ins} {L:List Ins} {c n:Nat} {w:World} {β:Bs} {C:Cx} {R:Ending→World→Prop} {E:Eff} {m:Mach} {mem:ByteArray} {x im:BitVec 64}
theorem zov (h:(op==13&&true)=true) :
  Ok 34 [.c (.i op)] (.c (.b true)) :=
 zaf [true] [] [] Tryz.func34 rfl rfl rfl rfl (by kernel_rfl) h zae
theorem zos (h:(!op==13&&true)=true) :
  Ok 34 [.c (.i op)] (.c (.b (op==14))) :=
 zaf [false] [] [] Tryz.func34 rfl rfl rfl rfl (by kernel_rfl) h zae
theorem zl3
  (l0:(op==13)=true→(AV.c (.b true)=V))
  (l1:(op==13)=false→(AV.c (.b (op==14))=V)) :
  Ok 34 [.c (.i op)] V :=
 (tf (op==13)).elim (fun h0=>(match l0 h0 with | e=>zam (zov (zaa h0 rfl)) e)) (fun h0=>(match l1 h0 with | e=>zam (zos (zaa (zad h0) rfl)) e))
theorem zrp (h:(op==10&&true)=true) :
  Ok 75 [.c (.i op)] (.c (.b true)) :=
 zaf [true] [] [] Tryz.func75 rfl rfl rfl rfl (by kernel_rfl) h zae
theorem zrh (h:(!op==10&&true)=true) :
  Ok 75 [.c (.i op)] (.c (.b (op==11))) :=
 zaf [false] [] [] Tryz.func75 rfl rfl rfl rfl (by kernel_rfl) h zae
theorem zox
  (l0:(op==10)=true→(AV.c (.b true)=V))
  (l1:(op==10)=false→(AV.c (.b (op==11))=V)) :
  Ok 75 [.c (.i op)] V :=
 (tf (op==10)).elim (fun h0=>(match l0 h0 with | e=>zam (zrp (zaa h0 rfl)) e)) (fun h0=>(match l1 h0 with | e=>zam (zrh (zaa (zad h0) rfl)) e))
theorem zro (c0:Ok 35 [.c (.i op),.c (.i 1),.c (.i 9)] (.c (.b (decide (1≤op)&&decide (op≤9))))) :
  Ok 38 [.c (.i op)] (.c (.b (decide (1≤op)&&decide (op≤9)))) :=
 zaf [] [] [] Tryz.func38 rfl rfl rfl rfl (by kernel_rfl) rfl (zab c0 zae)
theorem zuz (h:(decide (lo≤a)&&true)=true) :
  Ok 35 [.c (.i a),.c (.i lo),.c (.i hi)] (.c (.b (decide (a≤hi)))) :=
 zaf [true] [] [] Tryz.func35 rfl rfl rfl rfl (by kernel_rfl) h zae
theorem zwl (h:(!decide (lo≤a)&&true)=true) :
  Ok 35 [.c (.i a),.c (.i lo),.c (.i hi)] (.c (.b false)) :=
 zaf [false] [] [] Tryz.func35 rfl rfl rfl rfl (by kernel_rfl) h zae
theorem zsq
  (l0:(decide (lo≤a))=true→(AV.c (.b (decide (a≤hi)))=V))
  (l1:(decide (lo≤a))=false→(AV.c (.b false)=V)) :
  Ok 35 [.c (.i a),.c (.i lo),.c (.i hi)] V :=
 (tf (decide (lo≤a))).elim (fun h0=>(match l0 h0 with | e=>zam (zuz (zaa h0 rfl)) e)) (fun h0=>(match l1 h0 with | e=>zam (zwl (zaa (zad h0) rfl)) e))
theorem yaiw (c0:Ok 35 [.c (.i d),.c (.i 0),.c (.i 5)] (.c (.b (decide (0≤d)&&decide (d≤5))))) :
  Ok 122 [.c (.i d)] (.c (.b (decide (0≤d)&&decide (d≤5)))) :=
 zaf [] [] [] Tryz.func122 rfl rfl rfl rfl (by kernel_rfl) rfl (zab c0 zae)
theorem zvi (h:(decide (1≤i.op)&&decide (i.op≤9)&&(regB i.d&&(regB i.s&&true)))=true) (c0:Ok 38 [.c (.i i.op)] (.c (.b (decide (1≤i.op)&&decide (i.op≤9))))) (c1:Ok 122 [.c (.i i.d)] (.c (.b (regB i.d)))) (c2:Ok 122 [.c (.i i.s)] (.c (.b (regB i.s)))) :
  Ok 71 [.ag i.cs,.c (.i q)] (.c (.b true)) :=
 zaf [true,true,true] [] [] Tryz.func71 rfl rfl rfl rfl (by kernel_rfl) h (zab c0 (zab c1 (zab c2 zae)))
theorem zv5 (h:(decide (1≤i.op)&&decide (i.op≤9)&&(regB i.d&&(!regB i.s&&true)))=true) (c0:Ok 38 [.c (.i i.op)] (.c (.b (decide (1≤i.op)&&decide (i.op≤9))))) (c1:Ok 122 [.c (.i i.d)] (.c (.b (regB i.d)))) (c2:Ok 122 [.c (.i i.s)] (.c (.b (regB i.s)))) :
  Ok 71 [.ag i.cs,.c (.i q)] (.c (.b (i.s==-1))) :=
 zaf [true,true,false] [] [] Tryz.func71 rfl rfl rfl rfl (by kernel_rfl) h (zab c0 (zab c1 (zab c2 zae)))
theorem zul (h:(decide (1≤i.op)&&decide (i.op≤9)&&(!regB i.d&&true))=true) (c0:Ok 38 [.c (.i i.op)] (.c (.b (decide (1≤i.op)&&decide (i.op≤9))))) (c1:Ok 122 [.c (.i i.d)] (.c (.b (regB i.d)))) :
  Ok 71 [.ag i.cs,.c (.i q)] (.c (.b false)) :=
 zaf [true,false] [] [] Tryz.func71 rfl rfl rfl rfl (by kernel_rfl) h (zab c0 (zab c1 zae))
theorem zv4 (h:(!(decide (1≤i.op)&&decide (i.op≤9))&&((i.op==10||i.op==11)&&(regB i.d&&(regB i.s&&(decide (-64≤i.of)&&decide (i.of≤64)&&(eqb i.im 1#64&&true))))))=true) (c0:Ok 38 [.c (.i i.op)] (.c (.b (decide (1≤i.op)&&decide (i.op≤9))))) (c1:Ok 75 [.c (.i i.op)] (.c (.b (i.op==10||i.op==11)))) (c2:Ok 122 [.c (.i i.d)] (.c (.b (regB i.d)))) (c3:Ok 122 [.c (.i i.s)] (.c (.b (regB i.s)))) (c4:Ok 35 [.c (.i i.of),.c (.i (-64)),.c (.i 64)] (.c (.b (decide (-64≤i.of)&&decide (i.of≤64))))) :
  Ok 71 [.ag i.cs,.c (.i q)] (.c (.b true)) :=
 zaf [false,true,true,true,true,true,true,true] [] [] Tryz.func71 rfl rfl rfl rfl (by kernel_rfl) h (zab c0 (zab c1 (zab c2 (zab c3 (zab c4 zae)))))
theorem ztk (h:(!(decide (1≤i.op)&&decide (i.op≤9))&&((i.op==10||i.op==11)&&(regB i.d&&(regB i.s&&(decide (-64≤i.of)&&decide (i.of≤64)&&(!eqb i.im 1#64&&(eqb i.im 2#64&&true)))))))=true) (c0:Ok 38 [.c (.i i.op)] (.c (.b (decide (1≤i.op)&&decide (i.op≤9))))) (c1:Ok 75 [.c (.i i.op)] (.c (.b (i.op==10||i.op==11)))) (c2:Ok 122 [.c (.i i.d)] (.c (.b (regB i.d)))) (c3:Ok 122 [.c (.i i.s)] (.c (.b (regB i.s)))) (c4:Ok 35 [.c (.i i.of),.c (.i (-64)),.c (.i 64)] (.c (.b (decide (-64≤i.of)&&decide (i.of≤64))))) :
  Ok 71 [.ag i.cs,.c (.i q)] (.c (.b true)) :=
 zaf [false,true,true,true,true,false,true,true] [] [] Tryz.func71 rfl rfl rfl rfl (by kernel_rfl) h (zab c0 (zab c1 (zab c2 (zab c3 (zab c4 zae)))))
theorem zt6 (h:(!(decide (1≤i.op)&&decide (i.op≤9))&&((i.op==10||i.op==11)&&(regB i.d&&(regB i.s&&(decide (-64≤i.of)&&decide (i.of≤64)&&(!eqb i.im 1#64&&(!eqb i.im 2#64&&(eqb i.im 4#64&&true))))))))=true) (c0:Ok 38 [.c (.i i.op)] (.c (.b (decide (1≤i.op)&&decide (i.op≤9))))) (c1:Ok 75 [.c (.i i.op)] (.c (.b (i.op==10||i.op==11)))) (c2:Ok 122 [.c (.i i.d)] (.c (.b (regB i.d)))) (c3:Ok 122 [.c (.i i.s)] (.c (.b (regB i.s)))) (c4:Ok 35 [.c (.i i.of),.c (.i (-64)),.c (.i 64)] (.c (.b (decide (-64≤i.of)&&decide (i.of≤64))))) :
  Ok 71 [.ag i.cs,.c (.i q)] (.c (.b true)) :=
 zaf [false,true,true,true,true,false,false,true] [] [] Tryz.func71 rfl rfl rfl rfl (by kernel_rfl) h (zab c0 (zab c1 (zab c2 (zab c3 (zab c4 zae)))))
theorem ztq (h:(!(decide (1≤i.op)&&decide (i.op≤9))&&((i.op==10||i.op==11)&&(regB i.d&&(regB i.s&&(decide (-64≤i.of)&&decide (i.of≤64)&&(!eqb i.im 1#64&&(!eqb i.im 2#64&&(!eqb i.im 4#64&&true))))))))=true) (c0:Ok 38 [.c (.i i.op)] (.c (.b (decide (1≤i.op)&&decide (i.op≤9))))) (c1:Ok 75 [.c (.i i.op)] (.c (.b (i.op==10||i.op==11)))) (c2:Ok 122 [.c (.i i.d)] (.c (.b (regB i.d)))) (c3:Ok 122 [.c (.i i.s)] (.c (.b (regB i.s)))) (c4:Ok 35 [.c (.i i.of),.c (.i (-64)),.c (.i 64)] (.c (.b (decide (-64≤i.of)&&decide (i.of≤64))))) :
  Ok 71 [.ag i.cs,.c (.i q)] (.c (.b (eqb i.im 8#64))) :=
 zaf [false,true,true,true,true,false,false,false] [] [] Tryz.func71 rfl rfl rfl rfl (by kernel_rfl) h (zab c0 (zab c1 (zab c2 (zab c3 (zab c4 zae)))))
theorem zuo (h:(!(decide (1≤i.op)&&decide (i.op≤9))&&((i.op==10||i.op==11)&&(regB i.d&&(regB i.s&&(!(decide (-64≤i.of)&&decide (i.of≤64))&&true)))))=true) (c0:Ok 38 [.c (.i i.op)] (.c (.b (decide (1≤i.op)&&decide (i.op≤9))))) (c1:Ok 75 [.c (.i i.op)] (.c (.b (i.op==10||i.op==11)))) (c2:Ok 122 [.c (.i i.d)] (.c (.b (regB i.d)))) (c3:Ok 122 [.c (.i i.s)] (.c (.b (regB i.s)))) (c4:Ok 35 [.c (.i i.of),.c (.i (-64)),.c (.i 64)] (.c (.b (decide (-64≤i.of)&&decide (i.of≤64))))) :
  Ok 71 [.ag i.cs,.c (.i q)] (.c (.b false)) :=
 zaf [false,true,true,true,false] [] [] Tryz.func71 rfl rfl rfl rfl (by kernel_rfl) h (zab c0 (zab c1 (zab c2 (zab c3 (zab c4 zae)))))
theorem zvz (h:(!(decide (1≤i.op)&&decide (i.op≤9))&&((i.op==10||i.op==11)&&(regB i.d&&(!regB i.s&&true))))=true) (c0:Ok 38 [.c (.i i.op)] (.c (.b (decide (1≤i.op)&&decide (i.op≤9))))) (c1:Ok 75 [.c (.i i.op)] (.c (.b (i.op==10||i.op==11)))) (c2:Ok 122 [.c (.i i.d)] (.c (.b (regB i.d)))) (c3:Ok 122 [.c (.i i.s)] (.c (.b (regB i.s)))) :
  Ok 71 [.ag i.cs,.c (.i q)] (.c (.b false)) :=
 zaf [false,true,true,false,false] [] [] Tryz.func71 rfl rfl rfl rfl (by kernel_rfl) h (zab c0 (zab c1 (zab c2 (zab c3 zae))))
theorem ztx (h:(!(decide (1≤i.op)&&decide (i.op≤9))&&((i.op==10||i.op==11)&&(!regB i.d&&true)))=true) (c0:Ok 38 [.c (.i i.op)] (.c (.b (decide (1≤i.op)&&decide (i.op≤9))))) (c1:Ok 75 [.c (.i i.op)] (.c (.b (i.op==10||i.op==11)))) (c2:Ok 122 [.c (.i i.d)] (.c (.b (regB i.d)))) :
  Ok 71 [.ag i.cs,.c (.i q)] (.c (.b false)) :=
 zaf [false,true,false,false,false] [] [] Tryz.func71 rfl rfl rfl rfl (by kernel_rfl) h (zab c0 (zab c1 (zab c2 zae)))
theorem zsm (h:(!(decide (1≤i.op)&&decide (i.op≤9))&&(!(i.op==10||i.op==11)&&((i.op==13||i.op==14)&&(regB i.d&&(regB i.s&&true)))))=true) (c0:Ok 38 [.c (.i i.op)] (.c (.b (decide (1≤i.op)&&decide (i.op≤9))))) (c1:Ok 75 [.c (.i i.op)] (.c (.b (i.op==10||i.op==11)))) (c2:Ok 34 [.c (.i i.op)] (.c (.b (i.op==13||i.op==14)))) (c3:Ok 122 [.c (.i i.d)] (.c (.b (regB i.d)))) (c4:Ok 122 [.c (.i i.s)] (.c (.b (regB i.s)))) (c5:Ok 35 [.c (.i i.of),.c (.i 0),.c (.i q)] (.c (.b (decide (0≤i.of)&&decide (i.of≤q))))) :
  Ok 71 [.ag i.cs,.c (.i q)] (.c (.b (decide (0≤i.of)&&decide (i.of≤q)))) :=
 zaf [false,false,true,true,true,true] [] [] Tryz.func71 rfl rfl rfl rfl (by kernel_rfl) h (zab c0 (zab c1 (zab c2 (zab c3 (zab c4 (zab c5 zae))))))
theorem zru (h:(!(decide (1≤i.op)&&decide (i.op≤9))&&(!(i.op==10||i.op==11)&&((i.op==13||i.op==14)&&(regB i.d&&(!regB i.s&&(i.s==-1&&true))))))=true) (c0:Ok 38 [.c (.i i.op)] (.c (.b (decide (1≤i.op)&&decide (i.op≤9))))) (c1:Ok 75 [.c (.i i.op)] (.c (.b (i.op==10||i.op==11)))) (c2:Ok 34 [.c (.i i.op)] (.c (.b (i.op==13||i.op==14)))) (c3:Ok 122 [.c (.i i.d)] (.c (.b (regB i.d)))) (c4:Ok 122 [.c (.i i.s)] (.c (.b (regB i.s)))) (c5:Ok 35 [.c (.i i.of),.c (.i 0),.c (.i q)] (.c (.b (decide (0≤i.of)&&decide (i.of≤q))))) :
  Ok 71 [.ag i.cs,.c (.i q)] (.c (.b (decide (0≤i.of)&&decide (i.of≤q)))) :=
 zaf [false,false,true,true,false,true] [] [] Tryz.func71 rfl rfl rfl rfl (by kernel_rfl) h (zab c0 (zab c1 (zab c2 (zab c3 (zab c4 (zab c5 zae))))))
theorem zrc (h:(!(decide (1≤i.op)&&decide (i.op≤9))&&(!(i.op==10||i.op==11)&&((i.op==13||i.op==14)&&(regB i.d&&(!regB i.s&&(!i.s==-1&&true))))))=true) (c0:Ok 38 [.c (.i i.op)] (.c (.b (decide (1≤i.op)&&decide (i.op≤9))))) (c1:Ok 75 [.c (.i i.op)] (.c (.b (i.op==10||i.op==11)))) (c2:Ok 34 [.c (.i i.op)] (.c (.b (i.op==13||i.op==14)))) (c3:Ok 122 [.c (.i i.d)] (.c (.b (regB i.d)))) (c4:Ok 122 [.c (.i i.s)] (.c (.b (regB i.s)))) :
  Ok 71 [.ag i.cs,.c (.i q)] (.c (.b false)) :=
 zaf [false,false,true,true,false,false] [] [] Tryz.func71 rfl rfl rfl rfl (by kernel_rfl) h (zab c0 (zab c1 (zab c2 (zab c3 (zab c4 zae)))))
theorem zsu (h:(!(decide (1≤i.op)&&decide (i.op≤9))&&(!(i.op==10||i.op==11)&&((i.op==13||i.op==14)&&(!regB i.d&&true))))=true) (c0:Ok 38 [.c (.i i.op)] (.c (.b (decide (1≤i.op)&&decide (i.op≤9))))) (c1:Ok 75 [.c (.i i.op)] (.c (.b (i.op==10||i.op==11)))) (c2:Ok 34 [.c (.i i.op)] (.c (.b (i.op==13||i.op==14)))) (c3:Ok 122 [.c (.i i.d)] (.c (.b (regB i.d)))) :
  Ok 71 [.ag i.cs,.c (.i q)] (.c (.b false)) :=
 zaf [false,false,true,false,false] [] [] Tryz.func71 rfl rfl rfl rfl (by kernel_rfl) h (zab c0 (zab c1 (zab c2 (zab c3 zae))))
theorem zqz (h:(!(decide (1≤i.op)&&decide (i.op≤9))&&(!(i.op==10||i.op==11)&&(!(i.op==13||i.op==14)&&(i.op==12&&true))))=true) (c0:Ok 38 [.c (.i i.op)] (.c (.b (decide (1≤i.op)&&decide (i.op≤9))))) (c1:Ok 75 [.c (.i i.op)] (.c (.b (i.op==10||i.op==11)))) (c2:Ok 34 [.c (.i i.op)] (.c (.b (i.op==13||i.op==14)))) (c3:Ok 35 [.c (.i i.of),.c (.i 0),.c (.i q)] (.c (.b (decide (0≤i.of)&&decide (i.of≤q))))) :
  Ok 71 [.ag i.cs,.c (.i q)] (.c (.b (decide (0≤i.of)&&decide (i.of≤q)))) :=
 zaf [false,false,false,true] [] [] Tryz.func71 rfl rfl rfl rfl (by kernel_rfl) h (zab c0 (zab c1 (zab c2 (zab c3 zae))))
theorem zsz (h:(!(decide (1≤i.op)&&decide (i.op≤9))&&(!(i.op==10||i.op==11)&&(!(i.op==13||i.op==14)&&(!i.op==12&&true))))=true) (c0:Ok 38 [.c (.i i.op)] (.c (.b (decide (1≤i.op)&&decide (i.op≤9))))) (c1:Ok 75 [.c (.i i.op)] (.c (.b (i.op==10||i.op==11)))) (c2:Ok 34 [.c (.i i.op)] (.c (.b (i.op==13||i.op==14)))) :
  Ok 71 [.ag i.cs,.c (.i q)] (.c (.b true)) :=
 zaf [false,false,false,false] [] [] Tryz.func71 rfl rfl rfl rfl (by kernel_rfl) h (zab c0 (zab c1 (zab c2 zae)))
theorem zrz
  (l0:(decide (1≤i.op)&&decide (i.op≤9))=true→(regB i.d)=true→(regB i.s)=true→(Ok 38 [.c (.i i.op)] (.c (.b (decide (1≤i.op)&&decide (i.op≤9)))))∧(Ok 122 [.c (.i i.d)] (.c (.b (regB i.d))))∧(Ok 122 [.c (.i i.s)] (.c (.b (regB i.s))))∧(AV.c (.b true)=V))
  (l1:(decide (1≤i.op)&&decide (i.op≤9))=true→(regB i.d)=true→(regB i.s)=false→(Ok 38 [.c (.i i.op)] (.c (.b (decide (1≤i.op)&&decide (i.op≤9)))))∧(Ok 122 [.c (.i i.d)] (.c (.b (regB i.d))))∧(Ok 122 [.c (.i i.s)] (.c (.b (regB i.s))))∧(AV.c (.b (i.s==-1))=V))
  (l2:(decide (1≤i.op)&&decide (i.op≤9))=true→(regB i.d)=false→(Ok 38 [.c (.i i.op)] (.c (.b (decide (1≤i.op)&&decide (i.op≤9)))))∧(Ok 122 [.c (.i i.d)] (.c (.b (regB i.d))))∧(AV.c (.b false)=V))
  (l3:(decide (1≤i.op)&&decide (i.op≤9))=false→(i.op==10||i.op==11)=true→(regB i.d)=true→(regB i.s)=true→(decide (-64≤i.of)&&decide (i.of≤64))=true→(eqb i.im 1#64)=true→(Ok 38 [.c (.i i.op)] (.c (.b (decide (1≤i.op)&&decide (i.op≤9)))))∧(Ok 75 [.c (.i i.op)] (.c (.b (i.op==10||i.op==11))))∧(Ok 122 [.c (.i i.d)] (.c (.b (regB i.d))))∧(Ok 122 [.c (.i i.s)] (.c (.b (regB i.s))))∧(Ok 35 [.c (.i i.of),.c (.i (-64)),.c (.i 64)] (.c (.b (decide (-64≤i.of)&&decide (i.of≤64)))))∧(AV.c (.b true)=V))
  (l4:(decide (1≤i.op)&&decide (i.op≤9))=false→(i.op==10||i.op==11)=true→(regB i.d)=true→(regB i.s)=true→(decide (-64≤i.of)&&decide (i.of≤64))=true→(eqb i.im 1#64)=false→(eqb i.im 2#64)=true→(Ok 38 [.c (.i i.op)] (.c (.b (decide (1≤i.op)&&decide (i.op≤9)))))∧(Ok 75 [.c (.i i.op)] (.c (.b (i.op==10||i.op==11))))∧(Ok 122 [.c (.i i.d)] (.c (.b (regB i.d))))∧(Ok 122 [.c (.i i.s)] (.c (.b (regB i.s))))∧(Ok 35 [.c (.i i.of),.c (.i (-64)),.c (.i 64)] (.c (.b (decide (-64≤i.of)&&decide (i.of≤64)))))∧(AV.c (.b true)=V))
  (l5:(decide (1≤i.op)&&decide (i.op≤9))=false→(i.op==10||i.op==11)=true→(regB i.d)=true→(regB i.s)=true→(decide (-64≤i.of)&&decide (i.of≤64))=true→(eqb i.im 1#64)=false→(eqb i.im 2#64)=false→(eqb i.im 4#64)=true→(Ok 38 [.c (.i i.op)] (.c (.b (decide (1≤i.op)&&decide (i.op≤9)))))∧(Ok 75 [.c (.i i.op)] (.c (.b (i.op==10||i.op==11))))∧(Ok 122 [.c (.i i.d)] (.c (.b (regB i.d))))∧(Ok 122 [.c (.i i.s)] (.c (.b (regB i.s))))∧(Ok 35 [.c (.i i.of),.c (.i (-64)),.c (.i 64)] (.c (.b (decide (-64≤i.of)&&decide (i.of≤64)))))∧(AV.c (.b true)=V))
  (l6:(decide (1≤i.op)&&decide (i.op≤9))=false→(i.op==10||i.op==11)=true→(regB i.d)=true→(regB i.s)=true→(decide (-64≤i.of)&&decide (i.of≤64))=true→(eqb i.im 1#64)=false→(eqb i.im 2#64)=false→(eqb i.im 4#64)=false→(Ok 38 [.c (.i i.op)] (.c (.b (decide (1≤i.op)&&decide (i.op≤9)))))∧(Ok 75 [.c (.i i.op)] (.c (.b (i.op==10||i.op==11))))∧(Ok 122 [.c (.i i.d)] (.c (.b (regB i.d))))∧(Ok 122 [.c (.i i.s)] (.c (.b (regB i.s))))∧(Ok 35 [.c (.i i.of),.c (.i (-64)),.c (.i 64)] (.c (.b (decide (-64≤i.of)&&decide (i.of≤64)))))∧(AV.c (.b (eqb i.im 8#64))=V))
  (l7:(decide (1≤i.op)&&decide (i.op≤9))=false→(i.op==10||i.op==11)=true→(regB i.d)=true→(regB i.s)=true→(decide (-64≤i.of)&&decide (i.of≤64))=false→(Ok 38 [.c (.i i.op)] (.c (.b (decide (1≤i.op)&&decide (i.op≤9)))))∧(Ok 75 [.c (.i i.op)] (.c (.b (i.op==10||i.op==11))))∧(Ok 122 [.c (.i i.d)] (.c (.b (regB i.d))))∧(Ok 122 [.c (.i i.s)] (.c (.b (regB i.s))))∧(Ok 35 [.c (.i i.of),.c (.i (-64)),.c (.i 64)] (.c (.b (decide (-64≤i.of)&&decide (i.of≤64)))))∧(AV.c (.b false)=V))
  (l8:(decide (1≤i.op)&&decide (i.op≤9))=false→(i.op==10||i.op==11)=true→(regB i.d)=true→(regB i.s)=false→(Ok 38 [.c (.i i.op)] (.c (.b (decide (1≤i.op)&&decide (i.op≤9)))))∧(Ok 75 [.c (.i i.op)] (.c (.b (i.op==10||i.op==11))))∧(Ok 122 [.c (.i i.d)] (.c (.b (regB i.d))))∧(Ok 122 [.c (.i i.s)] (.c (.b (regB i.s))))∧(AV.c (.b false)=V))
  (l9:(decide (1≤i.op)&&decide (i.op≤9))=false→(i.op==10||i.op==11)=true→(regB i.d)=false→(Ok 38 [.c (.i i.op)] (.c (.b (decide (1≤i.op)&&decide (i.op≤9)))))∧(Ok 75 [.c (.i i.op)] (.c (.b (i.op==10||i.op==11))))∧(Ok 122 [.c (.i i.d)] (.c (.b (regB i.d))))∧(AV.c (.b false)=V))
  (l10:(decide (1≤i.op)&&decide (i.op≤9))=false→(i.op==10||i.op==11)=false→(i.op==13||i.op==14)=true→(regB i.d)=true→(regB i.s)=true→(Ok 38 [.c (.i i.op)] (.c (.b (decide (1≤i.op)&&decide (i.op≤9)))))∧(Ok 75 [.c (.i i.op)] (.c (.b (i.op==10||i.op==11))))∧(Ok 34 [.c (.i i.op)] (.c (.b (i.op==13||i.op==14))))∧(Ok 122 [.c (.i i.d)] (.c (.b (regB i.d))))∧(Ok 122 [.c (.i i.s)] (.c (.b (regB i.s))))∧(Ok 35 [.c (.i i.of),.c (.i 0),.c (.i q)] (.c (.b (decide (0≤i.of)&&decide (i.of≤q)))))∧(AV.c (.b (decide (0≤i.of)&&decide (i.of≤q)))=V))
  (l11:(decide (1≤i.op)&&decide (i.op≤9))=false→(i.op==10||i.op==11)=false→(i.op==13||i.op==14)=true→(regB i.d)=true→(regB i.s)=false→(i.s==-1)=true→(Ok 38 [.c (.i i.op)] (.c (.b (decide (1≤i.op)&&decide (i.op≤9)))))∧(Ok 75 [.c (.i i.op)] (.c (.b (i.op==10||i.op==11))))∧(Ok 34 [.c (.i i.op)] (.c (.b (i.op==13||i.op==14))))∧(Ok 122 [.c (.i i.d)] (.c (.b (regB i.d))))∧(Ok 122 [.c (.i i.s)] (.c (.b (regB i.s))))∧(Ok 35 [.c (.i i.of),.c (.i 0),.c (.i q)] (.c (.b (decide (0≤i.of)&&decide (i.of≤q)))))∧(AV.c (.b (decide (0≤i.of)&&decide (i.of≤q)))=V))
  (l12:(decide (1≤i.op)&&decide (i.op≤9))=false→(i.op==10||i.op==11)=false→(i.op==13||i.op==14)=true→(regB i.d)=true→(regB i.s)=false→(i.s==-1)=false→(Ok 38 [.c (.i i.op)] (.c (.b (decide (1≤i.op)&&decide (i.op≤9)))))∧(Ok 75 [.c (.i i.op)] (.c (.b (i.op==10||i.op==11))))∧(Ok 34 [.c (.i i.op)] (.c (.b (i.op==13||i.op==14))))∧(Ok 122 [.c (.i i.d)] (.c (.b (regB i.d))))∧(Ok 122 [.c (.i i.s)] (.c (.b (regB i.s))))∧(AV.c (.b false)=V))
  (l13:(decide (1≤i.op)&&decide (i.op≤9))=false→(i.op==10||i.op==11)=false→(i.op==13||i.op==14)=true→(regB i.d)=false→(Ok 38 [.c (.i i.op)] (.c (.b (decide (1≤i.op)&&decide (i.op≤9)))))∧(Ok 75 [.c (.i i.op)] (.c (.b (i.op==10||i.op==11))))∧(Ok 34 [.c (.i i.op)] (.c (.b (i.op==13||i.op==14))))∧(Ok 122 [.c (.i i.d)] (.c (.b (regB i.d))))∧(AV.c (.b false)=V))
  (l14:(decide (1≤i.op)&&decide (i.op≤9))=false→(i.op==10||i.op==11)=false→(i.op==13||i.op==14)=false→(i.op==12)=true→(Ok 38 [.c (.i i.op)] (.c (.b (decide (1≤i.op)&&decide (i.op≤9)))))∧(Ok 75 [.c (.i i.op)] (.c (.b (i.op==10||i.op==11))))∧(Ok 34 [.c (.i i.op)] (.c (.b (i.op==13||i.op==14))))∧(Ok 35 [.c (.i i.of),.c (.i 0),.c (.i q)] (.c (.b (decide (0≤i.of)&&decide (i.of≤q)))))∧(AV.c (.b (decide (0≤i.of)&&decide (i.of≤q)))=V))
  (l15:(decide (1≤i.op)&&decide (i.op≤9))=false→(i.op==10||i.op==11)=false→(i.op==13||i.op==14)=false→(i.op==12)=false→(Ok 38 [.c (.i i.op)] (.c (.b (decide (1≤i.op)&&decide (i.op≤9)))))∧(Ok 75 [.c (.i i.op)] (.c (.b (i.op==10||i.op==11))))∧(Ok 34 [.c (.i i.op)] (.c (.b (i.op==13||i.op==14))))∧(AV.c (.b true)=V)) :
  Ok 71 [.ag i.cs,.c (.i q)] V :=
 (tf (decide (1≤i.op)&&decide (i.op≤9))).elim (fun h0=>(tf (regB i.d)).elim (fun h1=>(tf (regB i.s)).elim (fun h2=>(match l0 h0 h1 h2 with | ⟨c0,c1,c2,e⟩=>zam (zvi (zaa h0 (zaa h1 (zaa h2 rfl))) c0 c1 c2) e)) (fun h2=>(match l1 h0 h1 h2 with | ⟨c0,c1,c2,e⟩=>zam (zv5 (zaa h0 (zaa h1 (zaa (zad h2) rfl))) c0 c1 c2) e))) (fun h1=>(match l2 h0 h1 with | ⟨c0,c1,e⟩=>zam (zul (zaa h0 (zaa (zad h1) rfl)) c0 c1) e))) (fun h0=>(tf (i.op==10||i.op==11)).elim (fun h1=>(tf (regB i.d)).elim (fun h2=>(tf (regB i.s)).elim (fun h3=>(tf (decide (-64≤i.of)&&decide (i.of≤64))).elim (fun h4=>(tf (eqb i.im 1#64)).elim (fun h5=>(match l3 h0 h1 h2 h3 h4 h5 with | ⟨c0,c1,c2,c3,c4,e⟩=>zam (zv4 (zaa (zad h0) (zaa h1 (zaa h2 (zaa h3 (zaa h4 (zaa h5 rfl)))))) c0 c1 c2 c3 c4) e)) (fun h5=>(tf (eqb i.im 2#64)).elim (fun h6=>(match l4 h0 h1 h2 h3 h4 h5 h6 with | ⟨c0,c1,c2,c3,c4,e⟩=>zam (ztk (zaa (zad h0) (zaa h1 (zaa h2 (zaa h3 (zaa h4 (zaa (zad h5) (zaa h6 rfl))))))) c0 c1 c2 c3 c4) e)) (fun h6=>(tf (eqb i.im 4#64)).elim (fun h7=>(match l5 h0 h1 h2 h3 h4 h5 h6 h7 with | ⟨c0,c1,c2,c3,c4,e⟩=>zam (zt6 (zaa (zad h0) (zaa h1 (zaa h2 (zaa h3 (zaa h4 (zaa (zad h5) (zaa (zad h6) (zaa h7 rfl)))))))) c0 c1 c2 c3 c4) e)) (fun h7=>(match l6 h0 h1 h2 h3 h4 h5 h6 h7 with | ⟨c0,c1,c2,c3,c4,e⟩=>zam (ztq (zaa (zad h0) (zaa h1 (zaa h2 (zaa h3 (zaa h4 (zaa (zad h5) (zaa (zad h6) (zaa (zad h7) rfl)))))))) c0 c1 c2 c3 c4) e))))) (fun h4=>(match l7 h0 h1 h2 h3 h4 with | ⟨c0,c1,c2,c3,c4,e⟩=>zam (zuo (zaa (zad h0) (zaa h1 (zaa h2 (zaa h3 (zaa (zad h4) rfl))))) c0 c1 c2 c3 c4) e))) (fun h3=>(match l8 h0 h1 h2 h3 with | ⟨c0,c1,c2,c3,e⟩=>zam (zvz (zaa (zad h0) (zaa h1 (zaa h2 (zaa (zad h3) rfl)))) c0 c1 c2 c3) e))) (fun h2=>(match l9 h0 h1 h2 with | ⟨c0,c1,c2,e⟩=>zam (ztx (zaa (zad h0) (zaa h1 (zaa (zad h2) rfl))) c0 c1 c2) e))) (fun h1=>(tf (i.op==13||i.op==14)).elim (fun h2=>(tf (regB i.d)).elim (fun h3=>(tf (regB i.s)).elim (fun h4=>(match l10 h0 h1 h2 h3 h4 with | ⟨c0,c1,c2,c3,c4,c5,e⟩=>zam (zsm (zaa (zad h0) (zaa (zad h1) (zaa h2 (zaa h3 (zaa h4 rfl))))) c0 c1 c2 c3 c4 c5) e)) (fun h4=>(tf (i.s==-1)).elim (fun h5=>(match l11 h0 h1 h2 h3 h4 h5 with | ⟨c0,c1,c2,c3,c4,c5,e⟩=>zam (zru (zaa (zad h0) (zaa (zad h1) (zaa h2 (zaa h3 (zaa (zad h4) (zaa h5 rfl)))))) c0 c1 c2 c3 c4 c5) e)) (fun h5=>(match l12 h0 h1 h2 h3 h4 h5 with | ⟨c0,c1,c2,c3,c4,e⟩=>zam (zrc (zaa (zad h0) (zaa (zad h1) (zaa h2 (zaa h3 (zaa (zad h4) (zaa (zad h5) rfl)))))) c0 c1 c2 c3 c4) e)))) (fun h3=>(match l13 h0 h1 h2 h3 with | ⟨c0,c1,c2,c3,e⟩=>zam (zsu (zaa (zad h0) (zaa (zad h1) (zaa h2 (zaa (zad h3) rfl)))) c0 c1 c2 c3) e))) (fun h2=>(tf (i.op==12)).elim (fun h3=>(match l14 h0 h1 h2 h3 with | ⟨c0,c1,c2,c3,e⟩=>zam (zqz (zaa (zad h0) (zaa (zad h1) (zaa (zad h2) (zaa h3 rfl)))) c0 c1 c2 c3) e)) (fun h3=>(match l15 h0 h1 h2 h3 with | ⟨c0,c1,c2,e⟩=>zam (zsz (zaa (zad h0) (zaa (zad h1) (zaa (zad h2) (zaa (zad h3) rfl)))) c0 c1 c2) e)))))
theorem zuv (h:(decide (1≤i.op)&&decide (i.op≤9)&&(i.of==0&&(i.s==-1&&true)))=true) (c0:Ok 38 [.c (.i i.op)] (.c (.b (decide (1≤i.op)&&decide (i.op≤9))))) :
  Ok 72 [.ag i.cs] (.c (.b true)) :=
 zaf [true,true,true] [] [] Tryz.func72 rfl rfl rfl rfl (by kernel_rfl) h (zab c0 zae)
theorem zub (h:(decide (1≤i.op)&&decide (i.op≤9)&&(i.of==0&&(!i.s==-1&&true)))=true) (c0:Ok 38 [.c (.i i.op)] (.c (.b (decide (1≤i.op)&&decide (i.op≤9))))) :
  Ok 72 [.ag i.cs] (.c (.b (eqb i.im 0#64))) :=
 zaf [true,true,false] [] [] Tryz.func72 rfl rfl rfl rfl (by kernel_rfl) h (zab c0 zae)
theorem zt5 (h:(decide (1≤i.op)&&decide (i.op≤9)&&(!i.of==0&&true))=true) (c0:Ok 38 [.c (.i i.op)] (.c (.b (decide (1≤i.op)&&decide (i.op≤9))))) :
  Ok 72 [.ag i.cs] (.c (.b false)) :=
 zaf [true,false] [] [] Tryz.func72 rfl rfl rfl rfl (by kernel_rfl) h (zab c0 zae)
theorem zvs (h:(!(decide (1≤i.op)&&decide (i.op≤9))&&((i.op==13||i.op==14)&&(i.s==-1&&true)))=true) (c0:Ok 38 [.c (.i i.op)] (.c (.b (decide (1≤i.op)&&decide (i.op≤9))))) (c1:Ok 34 [.c (.i i.op)] (.c (.b (i.op==13||i.op==14)))) :
  Ok 72 [.ag i.cs] (.c (.b true)) :=
 zaf [false,true,true] [] [] Tryz.func72 rfl rfl rfl rfl (by kernel_rfl) h (zab c0 (zab c1 zae))
theorem ztv (h:(!(decide (1≤i.op)&&decide (i.op≤9))&&((i.op==13||i.op==14)&&(!i.s==-1&&true)))=true) (c0:Ok 38 [.c (.i i.op)] (.c (.b (decide (1≤i.op)&&decide (i.op≤9))))) (c1:Ok 34 [.c (.i i.op)] (.c (.b (i.op==13||i.op==14)))) :
  Ok 72 [.ag i.cs] (.c (.b (eqb i.im 0#64))) :=
 zaf [false,true,false] [] [] Tryz.func72 rfl rfl rfl rfl (by kernel_rfl) h (zab c0 (zab c1 zae))
theorem zup (h:(!(decide (1≤i.op)&&decide (i.op≤9))&&(!(i.op==13||i.op==14)&&(i.op==12&&(i.d==0&&(i.s==0&&true)))))=true) (c0:Ok 38 [.c (.i i.op)] (.c (.b (decide (1≤i.op)&&decide (i.op≤9))))) (c1:Ok 34 [.c (.i i.op)] (.c (.b (i.op==13||i.op==14)))) :
  Ok 72 [.ag i.cs] (.c (.b (eqb i.im 0#64))) :=
 zaf [false,false,true,true,true] [] [] Tryz.func72 rfl rfl rfl rfl (by kernel_rfl) h (zab c0 (zab c1 zae))
theorem ztt (h:(!(decide (1≤i.op)&&decide (i.op≤9))&&(!(i.op==13||i.op==14)&&(i.op==12&&(i.d==0&&(!i.s==0&&true)))))=true) (c0:Ok 38 [.c (.i i.op)] (.c (.b (decide (1≤i.op)&&decide (i.op≤9))))) (c1:Ok 34 [.c (.i i.op)] (.c (.b (i.op==13||i.op==14)))) :
  Ok 72 [.ag i.cs] (.c (.b false)) :=
 zaf [false,false,true,true,false] [] [] Tryz.func72 rfl rfl rfl rfl (by kernel_rfl) h (zab c0 (zab c1 zae))
theorem zvn (h:(!(decide (1≤i.op)&&decide (i.op≤9))&&(!(i.op==13||i.op==14)&&(i.op==12&&(!i.d==0&&true))))=true) (c0:Ok 38 [.c (.i i.op)] (.c (.b (decide (1≤i.op)&&decide (i.op≤9))))) (c1:Ok 34 [.c (.i i.op)] (.c (.b (i.op==13||i.op==14)))) :
  Ok 72 [.ag i.cs] (.c (.b false)) :=
 zaf [false,false,true,false,false] [] [] Tryz.func72 rfl rfl rfl rfl (by kernel_rfl) h (zab c0 (zab c1 zae))
theorem ztc (h:(!(decide (1≤i.op)&&decide (i.op≤9))&&(!(i.op==13||i.op==14)&&(!i.op==12&&(i.op==15&&true))))=true) (c0:Ok 38 [.c (.i i.op)] (.c (.b (decide (1≤i.op)&&decide (i.op≤9))))) (c1:Ok 34 [.c (.i i.op)] (.c (.b (i.op==13||i.op==14)))) :
  Ok 72 [.ag i.cs] (.c (.b (eqCs i.cs (splice [.i 0,.i 0,.i 0,.u 0#64,.i 0] 0 [.i 15])))) :=
 zaf [false,false,false,true] [] [] Tryz.func72 rfl rfl rfl rfl (by kernel_rfl) h (zab c0 (zab c1 zae))
theorem zwe (h:(!(decide (1≤i.op)&&decide (i.op≤9))&&(!(i.op==13||i.op==14)&&(!i.op==12&&(!i.op==15&&true))))=true) (c0:Ok 38 [.c (.i i.op)] (.c (.b (decide (1≤i.op)&&decide (i.op≤9))))) (c1:Ok 34 [.c (.i i.op)] (.c (.b (i.op==13||i.op==14)))) :
  Ok 72 [.ag i.cs] (.c (.b true)) :=
 zaf [false,false,false,false] [] [] Tryz.func72 rfl rfl rfl rfl (by kernel_rfl) h (zab c0 (zab c1 zae))
theorem zrr
  (l0:(decide (1≤i.op)&&decide (i.op≤9))=true→(i.of==0)=true→(i.s==-1)=true→(Ok 38 [.c (.i i.op)] (.c (.b (decide (1≤i.op)&&decide (i.op≤9)))))∧(AV.c (.b true)=V))
  (l1:(decide (1≤i.op)&&decide (i.op≤9))=true→(i.of==0)=true→(i.s==-1)=false→(Ok 38 [.c (.i i.op)] (.c (.b (decide (1≤i.op)&&decide (i.op≤9)))))∧(AV.c (.b (eqb i.im 0#64))=V))
  (l2:(decide (1≤i.op)&&decide (i.op≤9))=true→(i.of==0)=false→(Ok 38 [.c (.i i.op)] (.c (.b (decide (1≤i.op)&&decide (i.op≤9)))))∧(AV.c (.b false)=V))
  (l3:(decide (1≤i.op)&&decide (i.op≤9))=false→(i.op==13||i.op==14)=true→(i.s==-1)=true→(Ok 38 [.c (.i i.op)] (.c (.b (decide (1≤i.op)&&decide (i.op≤9)))))∧(Ok 34 [.c (.i i.op)] (.c (.b (i.op==13||i.op==14))))∧(AV.c (.b true)=V))
  (l4:(decide (1≤i.op)&&decide (i.op≤9))=false→(i.op==13||i.op==14)=true→(i.s==-1)=false→(Ok 38 [.c (.i i.op)] (.c (.b (decide (1≤i.op)&&decide (i.op≤9)))))∧(Ok 34 [.c (.i i.op)] (.c (.b (i.op==13||i.op==14))))∧(AV.c (.b (eqb i.im 0#64))=V))
  (l5:(decide (1≤i.op)&&decide (i.op≤9))=false→(i.op==13||i.op==14)=false→(i.op==12)=true→(i.d==0)=true→(i.s==0)=true→(Ok 38 [.c (.i i.op)] (.c (.b (decide (1≤i.op)&&decide (i.op≤9)))))∧(Ok 34 [.c (.i i.op)] (.c (.b (i.op==13||i.op==14))))∧(AV.c (.b (eqb i.im 0#64))=V))
  (l6:(decide (1≤i.op)&&decide (i.op≤9))=false→(i.op==13||i.op==14)=false→(i.op==12)=true→(i.d==0)=true→(i.s==0)=false→(Ok 38 [.c (.i i.op)] (.c (.b (decide (1≤i.op)&&decide (i.op≤9)))))∧(Ok 34 [.c (.i i.op)] (.c (.b (i.op==13||i.op==14))))∧(AV.c (.b false)=V))
  (l7:(decide (1≤i.op)&&decide (i.op≤9))=false→(i.op==13||i.op==14)=false→(i.op==12)=true→(i.d==0)=false→(Ok 38 [.c (.i i.op)] (.c (.b (decide (1≤i.op)&&decide (i.op≤9)))))∧(Ok 34 [.c (.i i.op)] (.c (.b (i.op==13||i.op==14))))∧(AV.c (.b false)=V))
  (l8:(decide (1≤i.op)&&decide (i.op≤9))=false→(i.op==13||i.op==14)=false→(i.op==12)=false→(i.op==15)=true→(Ok 38 [.c (.i i.op)] (.c (.b (decide (1≤i.op)&&decide (i.op≤9)))))∧(Ok 34 [.c (.i i.op)] (.c (.b (i.op==13||i.op==14))))∧(AV.c (.b (eqCs i.cs (splice [.i 0,.i 0,.i 0,.u 0#64,.i 0] 0 [.i 15])))=V))
  (l9:(decide (1≤i.op)&&decide (i.op≤9))=false→(i.op==13||i.op==14)=false→(i.op==12)=false→(i.op==15)=false→(Ok 38 [.c (.i i.op)] (.c (.b (decide (1≤i.op)&&decide (i.op≤9)))))∧(Ok 34 [.c (.i i.op)] (.c (.b (i.op==13||i.op==14))))∧(AV.c (.b true)=V)) :
  Ok 72 [.ag i.cs] V :=
 (tf (decide (1≤i.op)&&decide (i.op≤9))).elim (fun h0=>(tf (i.of==0)).elim (fun h1=>(tf (i.s==-1)).elim (fun h2=>(match l0 h0 h1 h2 with | ⟨c0,e⟩=>zam (zuv (zaa h0 (zaa h1 (zaa h2 rfl))) c0) e)) (fun h2=>(match l1 h0 h1 h2 with | ⟨c0,e⟩=>zam (zub (zaa h0 (zaa h1 (zaa (zad h2) rfl))) c0) e))) (fun h1=>(match l2 h0 h1 with | ⟨c0,e⟩=>zam (zt5 (zaa h0 (zaa (zad h1) rfl)) c0) e))) (fun h0=>(tf (i.op==13||i.op==14)).elim (fun h1=>(tf (i.s==-1)).elim (fun h2=>(match l3 h0 h1 h2 with | ⟨c0,c1,e⟩=>zam (zvs (zaa (zad h0) (zaa h1 (zaa h2 rfl))) c0 c1) e)) (fun h2=>(match l4 h0 h1 h2 with | ⟨c0,c1,e⟩=>zam (ztv (zaa (zad h0) (zaa h1 (zaa (zad h2) rfl))) c0 c1) e))) (fun h1=>(tf (i.op==12)).elim (fun h2=>(tf (i.d==0)).elim (fun h3=>(tf (i.s==0)).elim (fun h4=>(match l5 h0 h1 h2 h3 h4 with | ⟨c0,c1,e⟩=>zam (zup (zaa (zad h0) (zaa (zad h1) (zaa h2 (zaa h3 (zaa h4 rfl))))) c0 c1) e)) (fun h4=>(match l6 h0 h1 h2 h3 h4 with | ⟨c0,c1,e⟩=>zam (ztt (zaa (zad h0) (zaa (zad h1) (zaa h2 (zaa h3 (zaa (zad h4) rfl))))) c0 c1) e))) (fun h3=>(match l7 h0 h1 h2 h3 with | ⟨c0,c1,e⟩=>zam (zvn (zaa (zad h0) (zaa (zad h1) (zaa h2 (zaa (zad h3) rfl)))) c0 c1) e))) (fun h2=>(tf (i.op==15)).elim (fun h3=>(match l8 h0 h1 h2 h3 with | ⟨c0,c1,e⟩=>zam (ztc (zaa (zad h0) (zaa (zad h1) (zaa (zad h2) (zaa h3 rfl)))) c0 c1) e)) (fun h3=>(match l9 h0 h1 h2 h3 with | ⟨c0,c1,e⟩=>zam (zwe (zaa (zad h0) (zaa (zad h1) (zaa (zad h2) (zaa (zad h3) rfl)))) c0 c1) e)))))
theorem yanm (h:(!(decide (1≤(L.length:Int))&&decide ((L.length:Int)≤64))&&true)=true) (c0:Ok 35 [.c (.i (L.length:Int)),.c (.i 1),.c (.i 64)] (.c (.b (decide (1≤(L.length:Int))&&decide ((L.length:Int)≤64))))) :
  BO 29 Tryz.f29 (cx w β n []) [.c (.sl 0 0 L.length c)] [(0,Ent.mk false (pcell L) 0)] 1 (REff w β ⟨.c (.i 2),[],none⟩) :=
 zah [] none [true] [true] [] Tryz.func29 (zat rfl n) (by kernel_rfl) h (zab c0 zae)
theorem yanf (h:(!!(decide (1≤(L.length:Int))&&decide ((L.length:Int)≤64))&&true)=true) (c0:Ok 35 [.c (.i (L.length:Int)),.c (.i 1),.c (.i 64)] (.c (.b (decide (1≤(L.length:Int))&&decide ((L.length:Int)≤64))))) (lo:Kn.Low ⟨[(0,.c (.sl 0 0 L.length c)),(3,.c (.i 0))],[(0,Ent.mk false (pcell L) 0)],1⟩) (hF:∀ k,C.F k→k<1) (z:AR 29 Tryz.f29 C 0 ⟨[(0,.c (.sl 0 0 L.length c)),(3,.c (.i 0))],[(0,Ent.mk false (pcell L) 0)],1⟩ R) :
  BO 29 Tryz.f29 C [.c (.sl 0 0 L.length c)] [(0,Ent.mk false (pcell L) 0)] 1 R :=
 zai [false] [true] [] Tryz.func29 (by kernel_rfl) h (zab c0 zae) lo hF z
theorem yaki (hn:n≤1)
  (l0:(!(decide (1≤(L.length:Int))&&decide ((L.length:Int)≤64)))=true→(Ok 35 [.c (.i (L.length:Int)),.c (.i 1),.c (.i 64)] (.c (.b (decide (1≤(L.length:Int))&&decide ((L.length:Int)≤64)))))∧((⟨.c (.i 2),[],none⟩:Eff)=E))
  (l1:(!(decide (1≤(L.length:Int))&&decide ((L.length:Int)≤64)))=false→(Ok 35 [.c (.i (L.length:Int)),.c (.i 1),.c (.i 64)] (.c (.b (decide (1≤(L.length:Int))&&decide ((L.length:Int)≤64)))))∧Kn.Low ⟨[(0,.c (.sl 0 0 L.length c)),(3,.c (.i 0))],[(0,Ent.mk false (pcell L) 0)],1⟩∧AR 29 Tryz.f29 (cx w β n []) 0 ⟨[(0,.c (.sl 0 0 L.length c)),(3,.c (.i 0))],[(0,Ent.mk false (pcell L) 0)],1⟩ (REff w β E)) :
  BO 29 Tryz.f29 (cx w β n []) [.c (.sl 0 0 L.length c)] [(0,Ent.mk false (pcell L) 0)] 1 (REff w β E) :=
 (tf (!(decide (1≤(L.length:Int))&&decide ((L.length:Int)≤64)))).elim (fun h0=>(match l0 h0 with | ⟨c0,e⟩=>za6 (yanm (zaa h0 rfl) c0) e)) (fun h0=>(match l1 h0 with | ⟨c0,lo,z⟩=>yanf (zaa (zad h0) rfl) c0 lo (fun _ hk=>Nat.lt_of_lt_of_le hk hn) z))
theorem yazj {j:Nat} (h:(decide ((j:Int)<(L.length:Int))&&(decide ((j:Int)<(L.length:Int))&&(AC.isI ((pcell L)[0+(j:Int).toNat*5+0]?.getD (.b false))&&Nat.blt (0+(j:Int).toNat*5+0) (pcell L).length&&(!(decide (1≤(elt L j).op)&&decide ((elt L j).op≤15))&&true))))=true) (c0:pe (.c (.i (AC.asI ((pcell L)[0+(j:Int).toNat*5+0]?.getD (.b false)))))=pe (.c (.i (elt L j).op))) (c1:Ok 35 [.c (.i (elt L j).op),.c (.i 1),.c (.i 15)] (.c (.b (decide (1≤(elt L j).op)&&decide ((elt L j).op≤15))))) :
  AR 29 Tryz.f29 (cx w β n []) 0 (rcAK L c j) (REff w β ⟨.c (.i 4),[],none⟩) :=
 zah [] none [true,true] [true] [(6,4)] Tryz.func29 (zat rfl n) (by kernel_rfl) h (zac c0 (zab c1 zae))
theorem yawi {j:Nat} (h:(decide ((j:Int)<(L.length:Int))&&(decide ((j:Int)<(L.length:Int))&&(AC.isI ((pcell L)[0+(j:Int).toNat*5+0]?.getD (.b false))&&Nat.blt (0+(j:Int).toNat*5+0) (pcell L).length&&(!!(decide (1≤(elt L j).op)&&decide ((elt L j).op≤15))&&true))))=true) (c0:pe (.c (.i (AC.asI ((pcell L)[0+(j:Int).toNat*5+0]?.getD (.b false)))))=pe (.c (.i (elt L j).op))) (c1:Ok 35 [.c (.i (elt L j).op),.c (.i 1),.c (.i 15)] (.c (.b (decide (1≤(elt L j).op)&&decide ((elt L j).op≤15))))) (lo:Kn.Low ⟨[(0,.c (.sl 0 0 L.length c)),(3,.c (.i (IntKind.i64.wrap ((j:Int)+1))))],[(0,Ent.mk false (pcell L) 0)],1⟩) (hF:∀ k,C.F k→k<1) (z:AR 29 Tryz.f29 C 0 ⟨[(0,.c (.sl 0 0 L.length c)),(3,.c (.i (IntKind.i64.wrap ((j:Int)+1))))],[(0,Ent.mk false (pcell L) 0)],1⟩ R) :
  AR 29 Tryz.f29 C 0 (rcAK L c j) R :=
 zai [true,false] [true] [(6,4)] Tryz.func29 (by kernel_rfl) h (zac c0 (zab c1 zae)) lo hF z
theorem yas9 {j:Nat} (hn:n≤1)
  (l0:(!(decide (1≤(elt L j).op)&&decide ((elt L j).op≤15)))=true→(decide ((j:Int)<(L.length:Int)))=true∧(decide ((j:Int)<(L.length:Int)))=true∧(AC.isI ((pcell L)[0+(j:Int).toNat*5+0]?.getD (.b false))&&Nat.blt (0+(j:Int).toNat*5+0) (pcell L).length)=true∧(pe (.c (.i (AC.asI ((pcell L)[0+(j:Int).toNat*5+0]?.getD (.b false)))))=pe (.c (.i (elt L j).op)))∧(Ok 35 [.c (.i (elt L j).op),.c (.i 1),.c (.i 15)] (.c (.b (decide (1≤(elt L j).op)&&decide ((elt L j).op≤15)))))∧((⟨.c (.i 4),[],none⟩:Eff)=E))
  (l1:(!(decide (1≤(elt L j).op)&&decide ((elt L j).op≤15)))=false→(decide ((j:Int)<(L.length:Int)))=true∧(decide ((j:Int)<(L.length:Int)))=true∧(AC.isI ((pcell L)[0+(j:Int).toNat*5+0]?.getD (.b false))&&Nat.blt (0+(j:Int).toNat*5+0) (pcell L).length)=true∧(pe (.c (.i (AC.asI ((pcell L)[0+(j:Int).toNat*5+0]?.getD (.b false)))))=pe (.c (.i (elt L j).op)))∧(Ok 35 [.c (.i (elt L j).op),.c (.i 1),.c (.i 15)] (.c (.b (decide (1≤(elt L j).op)&&decide ((elt L j).op≤15)))))∧Kn.Low ⟨[(0,.c (.sl 0 0 L.length c)),(3,.c (.i (IntKind.i64.wrap ((j:Int)+1))))],[(0,Ent.mk false (pcell L) 0)],1⟩∧AR 29 Tryz.f29 (cx w β n []) 0 ⟨[(0,.c (.sl 0 0 L.length c)),(3,.c (.i (IntKind.i64.wrap ((j:Int)+1))))],[(0,Ent.mk false (pcell L) 0)],1⟩ (REff w β E)) :
  AR 29 Tryz.f29 (cx w β n []) 0 (rcAK L c j) (REff w β E) :=
 (tf (!(decide (1≤(elt L j).op)&&decide ((elt L j).op≤15)))).elim (fun h0=>(match l0 h0 with | ⟨o0,o1,o2,c0,c1,e⟩=>za6 (yazj (zaa o0 (zaa o1 (zaa o2 (zaa h0 rfl)))) c0 c1) e)) (fun h0=>(match l1 h0 with | ⟨o0,o1,o2,c0,c1,lo,z⟩=>yawi (zaa o0 (zaa o1 (zaa o2 (zaa (zad h0) rfl)))) c0 c1 lo (fun _ hk=>Nat.lt_of_lt_of_le hk hn) z))
theorem yar2 {j:Nat} (h:(!decide ((j:Int)<(L.length:Int))&&true)=true) (lo:Kn.Low ⟨[(0,.c (.sl 0 0 L.length c)),(4,.c (.i 0))],[(0,Ent.mk false (pcell L) 0)],1⟩) (hF:∀ k,C.F k→k<1) (z:AR 29 Tryz.f29 C 1 ⟨[(0,.c (.sl 0 0 L.length c)),(4,.c (.i 0))],[(0,Ent.mk false (pcell L) 0)],1⟩ R) :
  AR 29 Tryz.f29 C 0 (rcAK L c j) R :=
 zai [false] [true] [] Tryz.func29 (by kernel_rfl) h zae lo hF z
theorem yaxi {j:Nat} (h:(decide ((j:Int)<(L.length:Int))&&(decide ((j:Int)<(L.length:Int))&&(Nat.ble (0+(j:Int).toNat*5+5) (pcell L).length&&(!inB (elt L j) (↑(L.length - 1 - j):Int)&&true))))=true) (c0:pe (.ag (((pcell L).drop (0+(j:Int).toNat*5)).take 5))=pe (.ag (elt L j).cs)) (c1:pe (.c (.i (IntKind.i64.wrap (IntKind.i64.wrap ((L.length:Int) - 2) - (j:Int)))))=pe (.c (.i ((↑(L.length - 1 - j):Int) - 1)))) (c2:pe (.c (.b (inB (elt L j) ((↑(L.length - 1 - j):Int) - 1+1))))=pe (.c (.b (inB (elt L j) (↑(L.length - 1 - j):Int))))) (c3:Ok 71 [.ag (elt L j).cs,.c (.i ((↑(L.length - 1 - j):Int) - 1))] (.c (.b (inB (elt L j) ((↑(L.length - 1 - j):Int) - 1+1))))) :
  AR 29 Tryz.f29 (cx w β n []) 1 (rcBK L c j) (REff w β ⟨.c (.i 3),[],none⟩) :=
 zys [] none 2000 [pe (.ag (elt L j).cs),pe (.c (.i ((↑(L.length - 1 - j):Int) - 1))),pe (.c (.b (inB (elt L j) ((↑(L.length - 1 - j):Int) - 1+1)))),pe (.c (.b (inB (elt L j) (↑(L.length - 1 - j):Int))))] [true,true] [true] [(11,3),(11,8),(11,9)] Tryz.func29 (zat rfl n) (by kernel_rfl) h (zac c0 (zac c1 (zac c2 (zab c3 zae))))
theorem yayr {j:Nat} (h:(decide ((j:Int)<(L.length:Int))&&(decide ((j:Int)<(L.length:Int))&&(Nat.ble (0+(j:Int).toNat*5+5) (pcell L).length&&(!!inB (elt L j) (↑(L.length - 1 - j):Int)&&true))))=true) (c0:pe (.ag (((pcell L).drop (0+(j:Int).toNat*5)).take 5))=pe (.ag (elt L j).cs)) (c1:pe (.c (.i (IntKind.i64.wrap (IntKind.i64.wrap ((L.length:Int) - 2) - (j:Int)))))=pe (.c (.i ((↑(L.length - 1 - j):Int) - 1)))) (c2:pe (.c (.b (inB (elt L j) ((↑(L.length - 1 - j):Int) - 1+1))))=pe (.c (.b (inB (elt L j) (↑(L.length - 1 - j):Int))))) (c3:Ok 71 [.ag (elt L j).cs,.c (.i ((↑(L.length - 1 - j):Int) - 1))] (.c (.b (inB (elt L j) ((↑(L.length - 1 - j):Int) - 1+1))))) (lo:Kn.Low ⟨[(0,.c (.sl 0 0 L.length c)),(4,.c (.i (IntKind.i64.wrap ((j:Int)+1))))],[(0,Ent.mk false (pcell L) 0)],1⟩) (hF:∀ k,C.F k→k<1) (z:AR 29 Tryz.f29 C 1 ⟨[(0,.c (.sl 0 0 L.length c)),(4,.c (.i (IntKind.i64.wrap ((j:Int)+1))))],[(0,Ent.mk false (pcell L) 0)],1⟩ R) :
  AR 29 Tryz.f29 C 1 (rcBK L c j) R :=
 yaly ⟨[(0,.c (.sl 0 0 L.length c)),(4,.c (.i (IntKind.i64.wrap ((j:Int)+1))))],[(0,Ent.mk false (pcell L) 0)],1⟩ 2000 [pe (.ag (elt L j).cs),pe (.c (.i ((↑(L.length - 1 - j):Int) - 1))),pe (.c (.b (inB (elt L j) ((↑(L.length - 1 - j):Int) - 1+1)))),pe (.c (.b (inB (elt L j) (↑(L.length - 1 - j):Int))))] [true,false] [true] [(11,3),(11,8),(11,9)] Tryz.func29 (by kernel_rfl) h (zac c0 (zac c1 (zac c2 (zab c3 zae)))) lo hF z
theorem yasi {j:Nat} (hn:n≤1)
  (l0:(!inB (elt L j) (↑(L.length - 1 - j):Int))=true→(decide ((j:Int)<(L.length:Int)))=true∧(decide ((j:Int)<(L.length:Int)))=true∧(Nat.ble (0+(j:Int).toNat*5+5) (pcell L).length)=true∧(pe (.ag (((pcell L).drop (0+(j:Int).toNat*5)).take 5))=pe (.ag (elt L j).cs))∧(pe (.c (.i (IntKind.i64.wrap (IntKind.i64.wrap ((L.length:Int) - 2) - (j:Int)))))=pe (.c (.i ((↑(L.length - 1 - j):Int) - 1))))∧(pe (.c (.b (inB (elt L j) ((↑(L.length - 1 - j):Int) - 1+1))))=pe (.c (.b (inB (elt L j) (↑(L.length - 1 - j):Int)))))∧(Ok 71 [.ag (elt L j).cs,.c (.i ((↑(L.length - 1 - j):Int) - 1))] (.c (.b (inB (elt L j) ((↑(L.length - 1 - j):Int) - 1+1)))))∧((⟨.c (.i 3),[],none⟩:Eff)=E))
  (l1:(!inB (elt L j) (↑(L.length - 1 - j):Int))=false→(decide ((j:Int)<(L.length:Int)))=true∧(decide ((j:Int)<(L.length:Int)))=true∧(Nat.ble (0+(j:Int).toNat*5+5) (pcell L).length)=true∧(pe (.ag (((pcell L).drop (0+(j:Int).toNat*5)).take 5))=pe (.ag (elt L j).cs))∧(pe (.c (.i (IntKind.i64.wrap (IntKind.i64.wrap ((L.length:Int) - 2) - (j:Int)))))=pe (.c (.i ((↑(L.length - 1 - j):Int) - 1))))∧(pe (.c (.b (inB (elt L j) ((↑(L.length - 1 - j):Int) - 1+1))))=pe (.c (.b (inB (elt L j) (↑(L.length - 1 - j):Int)))))∧(Ok 71 [.ag (elt L j).cs,.c (.i ((↑(L.length - 1 - j):Int) - 1))] (.c (.b (inB (elt L j) ((↑(L.length - 1 - j):Int) - 1+1)))))∧Kn.Low ⟨[(0,.c (.sl 0 0 L.length c)),(4,.c (.i (IntKind.i64.wrap ((j:Int)+1))))],[(0,Ent.mk false (pcell L) 0)],1⟩∧AR 29 Tryz.f29 (cx w β n []) 1 ⟨[(0,.c (.sl 0 0 L.length c)),(4,.c (.i (IntKind.i64.wrap ((j:Int)+1))))],[(0,Ent.mk false (pcell L) 0)],1⟩ (REff w β E)) :
  AR 29 Tryz.f29 (cx w β n []) 1 (rcBK L c j) (REff w β E) :=
 (tf (!inB (elt L j) (↑(L.length - 1 - j):Int))).elim (fun h0=>(match l0 h0 with | ⟨o0,o1,o2,c0,c1,c2,c3,e⟩=>za6 (yaxi (zaa o0 (zaa o1 (zaa o2 (zaa h0 rfl)))) c0 c1 c2 c3) e)) (fun h0=>(match l1 h0 with | ⟨o0,o1,o2,c0,c1,c2,c3,lo,z⟩=>yayr (zaa o0 (zaa o1 (zaa o2 (zaa (zad h0) rfl)))) c0 c1 c2 c3 lo (fun _ hk=>Nat.lt_of_lt_of_le hk hn) z))
theorem yatj {j:Nat} (h:(!decide ((j:Int)<(L.length:Int))&&true)=true) (lo:Kn.Low ⟨[(0,.c (.sl 0 0 L.length c)),(5,.c (.i 0))],[(0,Ent.mk false (pcell L) 0)],1⟩) (hF:∀ k,C.F k→k<1) (z:AR 29 Tryz.f29 C 2 ⟨[(0,.c (.sl 0 0 L.length c)),(5,.c (.i 0))],[(0,Ent.mk false (pcell L) 0)],1⟩ R) :
  AR 29 Tryz.f29 C 1 (rcBK L c j) R :=
 zai [false] [true] [] Tryz.func29 (by kernel_rfl) h zae lo hF z
theorem yav8 {j:Nat} (h:(decide ((j:Int)<(L.length:Int))&&(decide ((j:Int)<(L.length:Int))&&(Nat.ble (0+(j:Int).toNat*5+5) (pcell L).length&&(!zbd (elt L j)&&true))))=true) (c0:pe (.ag (((pcell L).drop (0+(j:Int).toNat*5)).take 5))=pe (.ag (elt L j).cs)) (c1:Ok 72 [.ag (elt L j).cs] (.c (.b (zbd (elt L j))))) :
  AR 29 Tryz.f29 (cx w β n []) 2 (rcCK L c j) (REff w β ⟨.c (.i 1),[],none⟩) :=
 zah [] none [true,true] [true] [(16,3)] Tryz.func29 (zat rfl n) (by kernel_rfl) h (zac c0 (zab c1 zae))
theorem yazy {j:Nat} (h:(decide ((j:Int)<(L.length:Int))&&(decide ((j:Int)<(L.length:Int))&&(Nat.ble (0+(j:Int).toNat*5+5) (pcell L).length&&(!!zbd (elt L j)&&true))))=true) (c0:pe (.ag (((pcell L).drop (0+(j:Int).toNat*5)).take 5))=pe (.ag (elt L j).cs)) (c1:Ok 72 [.ag (elt L j).cs] (.c (.b (zbd (elt L j))))) (lo:Kn.Low ⟨[(0,.c (.sl 0 0 L.length c)),(5,.c (.i (IntKind.i64.wrap ((j:Int)+1))))],[(0,Ent.mk false (pcell L) 0)],1⟩) (hF:∀ k,C.F k→k<1) (z:AR 29 Tryz.f29 C 2 ⟨[(0,.c (.sl 0 0 L.length c)),(5,.c (.i (IntKind.i64.wrap ((j:Int)+1))))],[(0,Ent.mk false (pcell L) 0)],1⟩ R) :
  AR 29 Tryz.f29 C 2 (rcCK L c j) R :=
 zai [true,false] [true] [(16,3)] Tryz.func29 (by kernel_rfl) h (zac c0 (zab c1 zae)) lo hF z
theorem yavp {j:Nat} (hn:n≤1)
  (l0:(!zbd (elt L j))=true→(decide ((j:Int)<(L.length:Int)))=true∧(decide ((j:Int)<(L.length:Int)))=true∧(Nat.ble (0+(j:Int).toNat*5+5) (pcell L).length)=true∧(pe (.ag (((pcell L).drop (0+(j:Int).toNat*5)).take 5))=pe (.ag (elt L j).cs))∧(Ok 72 [.ag (elt L j).cs] (.c (.b (zbd (elt L j)))))∧((⟨.c (.i 1),[],none⟩:Eff)=E))
  (l1:(!zbd (elt L j))=false→(decide ((j:Int)<(L.length:Int)))=true∧(decide ((j:Int)<(L.length:Int)))=true∧(Nat.ble (0+(j:Int).toNat*5+5) (pcell L).length)=true∧(pe (.ag (((pcell L).drop (0+(j:Int).toNat*5)).take 5))=pe (.ag (elt L j).cs))∧(Ok 72 [.ag (elt L j).cs] (.c (.b (zbd (elt L j)))))∧Kn.Low ⟨[(0,.c (.sl 0 0 L.length c)),(5,.c (.i (IntKind.i64.wrap ((j:Int)+1))))],[(0,Ent.mk false (pcell L) 0)],1⟩∧AR 29 Tryz.f29 (cx w β n []) 2 ⟨[(0,.c (.sl 0 0 L.length c)),(5,.c (.i (IntKind.i64.wrap ((j:Int)+1))))],[(0,Ent.mk false (pcell L) 0)],1⟩ (REff w β E)) :
  AR 29 Tryz.f29 (cx w β n []) 2 (rcCK L c j) (REff w β E) :=
 (tf (!zbd (elt L j))).elim (fun h0=>(match l0 h0 with | ⟨o0,o1,o2,c0,c1,e⟩=>za6 (yav8 (zaa o0 (zaa o1 (zaa o2 (zaa h0 rfl)))) c0 c1) e)) (fun h0=>(match l1 h0 with | ⟨o0,o1,o2,c0,c1,lo,z⟩=>yazy (zaa o0 (zaa o1 (zaa o2 (zaa (zad h0) rfl)))) c0 c1 lo (fun _ hk=>Nat.lt_of_lt_of_le hk hn) z))
theorem yar3 {j:Nat} (h:(!decide ((j:Int)<(L.length:Int))&&(decide (0≤IntKind.i64.wrap ((L.length:Int) - 1))&&decide (IntKind.i64.wrap ((L.length:Int) - 1)<(L.length:Int))&&(AC.isI ((pcell L)[0+(IntKind.i64.wrap ((L.length:Int) - 1)).toNat*5+0]?.getD (.b false))&&Nat.blt (0+(IntKind.i64.wrap ((L.length:Int) - 1)).toNat*5+0) (pcell L).length&&(zbz L != 15&&true))))=true) (c0:pe (.c (.i (AC.asI ((pcell L)[0+(IntKind.i64.wrap ((L.length:Int) - 1)).toNat*5+0]?.getD (.b false)))))=pe (.c (.i (zbz L)))) :
  AR 29 Tryz.f29 (cx w β n []) 2 (rcCK L c j) (REff w β ⟨.c (.i 1),[],none⟩) :=
 zah [] none [false,true] [true] [(18,6)] Tryz.func29 (zat rfl n) (by kernel_rfl) h (zac c0 zae)
theorem yas3 {j:Nat} (h:(!decide ((j:Int)<(L.length:Int))&&(decide (0≤IntKind.i64.wrap ((L.length:Int) - 1))&&decide (IntKind.i64.wrap ((L.length:Int) - 1)<(L.length:Int))&&(AC.isI ((pcell L)[0+(IntKind.i64.wrap ((L.length:Int) - 1)).toNat*5+0]?.getD (.b false))&&Nat.blt (0+(IntKind.i64.wrap ((L.length:Int) - 1)).toNat*5+0) (pcell L).length&&(!zbz L != 15&&true))))=true) (c0:pe (.c (.i (AC.asI ((pcell L)[0+(IntKind.i64.wrap ((L.length:Int) - 1)).toNat*5+0]?.getD (.b false)))))=pe (.c (.i (zbz L)))) :
  AR 29 Tryz.f29 (cx w β n []) 2 (rcCK L c j) (REff w β ⟨.c (.i 0),[],none⟩) :=
 zah [] none [false,false] [true] [(18,6)] Tryz.func29 (zat rfl n) (by kernel_rfl) h (zac c0 zae)
theorem yapu {j:Nat}
  (l0:(zbz L != 15)=true→(!decide ((j:Int)<(L.length:Int)))=true∧(decide (0≤IntKind.i64.wrap ((L.length:Int) - 1))&&decide (IntKind.i64.wrap ((L.length:Int) - 1)<(L.length:Int)))=true∧(AC.isI ((pcell L)[0+(IntKind.i64.wrap ((L.length:Int) - 1)).toNat*5+0]?.getD (.b false))&&Nat.blt (0+(IntKind.i64.wrap ((L.length:Int) - 1)).toNat*5+0) (pcell L).length)=true∧(pe (.c (.i (AC.asI ((pcell L)[0+(IntKind.i64.wrap ((L.length:Int) - 1)).toNat*5+0]?.getD (.b false)))))=pe (.c (.i (zbz L))))∧((⟨.c (.i 1),[],none⟩:Eff)=E))
  (l1:(zbz L != 15)=false→(!decide ((j:Int)<(L.length:Int)))=true∧(decide (0≤IntKind.i64.wrap ((L.length:Int) - 1))&&decide (IntKind.i64.wrap ((L.length:Int) - 1)<(L.length:Int)))=true∧(AC.isI ((pcell L)[0+(IntKind.i64.wrap ((L.length:Int) - 1)).toNat*5+0]?.getD (.b false))&&Nat.blt (0+(IntKind.i64.wrap ((L.length:Int) - 1)).toNat*5+0) (pcell L).length)=true∧(pe (.c (.i (AC.asI ((pcell L)[0+(IntKind.i64.wrap ((L.length:Int) - 1)).toNat*5+0]?.getD (.b false)))))=pe (.c (.i (zbz L))))∧((⟨.c (.i 0),[],none⟩:Eff)=E)) :
  AR 29 Tryz.f29 (cx w β n []) 2 (rcCK L c j) (REff w β E) :=
 (tf (zbz L != 15)).elim (fun h0=>(match l0 h0 with | ⟨o0,o1,o2,c0,e⟩=>za6 (yar3 (zaa o0 (zaa o1 (zaa o2 (zaa h0 rfl)))) c0) e)) (fun h0=>(match l1 h0 with | ⟨o0,o1,o2,c0,e⟩=>za6 (yas3 (zaa o0 (zaa o1 (zaa o2 (zaa (zad h0) rfl)))) c0) e))
theorem yanx (c0:Ok 35 [.c (.i 0),.c (.i 1),.c (.i 64)] (.c (.b false))) :
  Ok 29 [.c zco] (.c (.i 2)) :=
 zaf [true] [] [] Tryz.func29 rfl rfl rfl rfl (by kernel_rfl) rfl (zab c0 zae)
theorem zt3 (h:(decide (op<12)&&(op != 1&&(op != 10&&(decide (op<12)&&(s != -1&&(!op==15&&true))))))=true) (hk:EKeys n [] (some 44) ⟨.c (.sx 44 2),[],some (44,Ent.mk true [.i d,.i s] 1)⟩) :
  BO 37 Tryz.f37 (cx w β n []) [.ag (Ins.mk op d s im of).cs] [] 0 (REff w β ⟨.c (.sx 44 2),[],some (44,Ent.mk true [.i d,.i s] 1)⟩) :=
 zah [] (some 44) [true,true,true,true,true,true,true,false] [] [] Tryz.func37 hk (by kernel_rfl) h zae
theorem yakn (h:(decide (op<12)&&(op != 1&&(op != 10&&(decide (op<12)&&(!s != -1&&(!op==15&&true))))))=true) (hk:EKeys n [] (some 25) ⟨.c (.sx 25 1),[],some (25,Ent.mk true [.i d] 1)⟩) :
  BO 37 Tryz.f37 (cx w β n []) [.ag (Ins.mk op d s im of).cs] [] 0 (REff w β ⟨.c (.sx 25 1),[],some (25,Ent.mk true [.i d] 1)⟩) :=
 zah [] (some 25) [true,true,true,true,true,true,false,false] [] [] Tryz.func37 hk (by kernel_rfl) h zae
theorem zw0 (h:(s != -1&&true)=true) (c0:Ok 34 [.c (.i 13)] (.c (.b true))) (c1:Ok 34 [.c (.i 13)] (.c (.b true))) (hk:EKeys n [] (some 44) ⟨.c (.sx 44 2),[],some (44,Ent.mk true [.i d,.i s] 1)⟩) :
  BO 37 Tryz.f37 (cx w β n []) [.ag (Ins.mk 13 d s im of).cs] [] 0 (REff w β ⟨.c (.sx 44 2),[],some (44,Ent.mk true [.i d,.i s] 1)⟩) :=
 zah [] (some 44) [false,false,false,true,false,true,true,false] [] [] Tryz.func37 hk (by kernel_rfl) h (zab c0 (zab c1 zae))
theorem zzt (h:(!s != -1&&true)=true) (c0:Ok 34 [.c (.i 13)] (.c (.b true))) (c1:Ok 34 [.c (.i 13)] (.c (.b true))) (hk:EKeys n [] (some 25) ⟨.c (.sx 25 1),[],some (25,Ent.mk true [.i d] 1)⟩) :
  BO 37 Tryz.f37 (cx w β n []) [.ag (Ins.mk 13 d s im of).cs] [] 0 (REff w β ⟨.c (.sx 25 1),[],some (25,Ent.mk true [.i d] 1)⟩) :=
 zah [] (some 25) [false,false,false,true,false,true,false,false] [] [] Tryz.func37 hk (by kernel_rfl) h (zab c0 (zab c1 zae))
theorem zw1 (h:(s != -1&&true)=true) (c0:Ok 34 [.c (.i 14)] (.c (.b true))) (c1:Ok 34 [.c (.i 14)] (.c (.b true))) (hk:EKeys n [] (some 44) ⟨.c (.sx 44 2),[],some (44,Ent.mk true [.i d,.i s] 1)⟩) :
  BO 37 Tryz.f37 (cx w β n []) [.ag (Ins.mk 14 d s im of).cs] [] 0 (REff w β ⟨.c (.sx 44 2),[],some (44,Ent.mk true [.i d,.i s] 1)⟩) :=
 zah [] (some 44) [false,false,false,true,false,true,true,false] [] [] Tryz.func37 hk (by kernel_rfl) h (zab c0 (zab c1 zae))
theorem zx0 (h:(!s != -1&&true)=true) (c0:Ok 34 [.c (.i 14)] (.c (.b true))) (c1:Ok 34 [.c (.i 14)] (.c (.b true))) (hk:EKeys n [] (some 25) ⟨.c (.sx 25 1),[],some (25,Ent.mk true [.i d] 1)⟩) :
  BO 37 Tryz.f37 (cx w β n []) [.ag (Ins.mk 14 d s im of).cs] [] 0 (REff w β ⟨.c (.sx 25 1),[],some (25,Ent.mk true [.i d] 1)⟩) :=
 zah [] (some 25) [false,false,false,true,false,true,false,false] [] [] Tryz.func37 hk (by kernel_rfl) h (zab c0 (zab c1 zae))
theorem yadi (h:(s != -1&&true)=true) (c0:Ok 34 [.c (.i 1)] (.c (.b false))) (hk:EKeys n [] (some 38) ⟨.c (.sx 38 1),[],some (38,Ent.mk true [.i s] 1)⟩) :
  BO 37 Tryz.f37 (cx w β n []) [.ag (Ins.mk 1 d s im of).cs] [] 0 (REff w β ⟨.c (.sx 38 1),[],some (38,Ent.mk true [.i s] 1)⟩) :=
 zah [] (some 38) [true,false,false,false,true,true,true,false] [] [] Tryz.func37 hk (by kernel_rfl) h (zab c0 zae)
theorem yaf5 (h:(!s != -1&&true)=true) (c0:Ok 34 [.c (.i 1)] (.c (.b false))) :
  Ok 37 [.ag (Ins.mk 1 d s im of).cs] (.c zco) :=
 zaf [true,false,false,false,true,true,false,false] [] [] Tryz.func37 rfl rfl rfl rfl (by kernel_rfl) h (zab c0 zae)
theorem zzb (h:(s != -1&&true)=true) (c0:Ok 34 [.c (.i 10)] (.c (.b false))) (hk:EKeys n [] (some 38) ⟨.c (.sx 38 1),[],some (38,Ent.mk true [.i s] 1)⟩) :
  BO 37 Tryz.f37 (cx w β n []) [.ag (Ins.mk 10 d s im of).cs] [] 0 (REff w β ⟨.c (.sx 38 1),[],some (38,Ent.mk true [.i s] 1)⟩) :=
 zah [] (some 38) [true,true,false,false,true,true,true,false] [] [] Tryz.func37 hk (by kernel_rfl) h (zab c0 zae)
theorem yahl (c0:Ok 34 [.c (.i 12)] (.c (.b false))) (c1:Ok 34 [.c (.i 12)] (.c (.b false))) :
  Ok 37 [.ag (Ins.mk 12 d s im of).cs] (.c zco) :=
 zaf [false,false,false,false,false,false,false,false] [] [] Tryz.func37 rfl rfl rfl rfl (by kernel_rfl) rfl (zab c0 (zab c1 zae))
theorem yajk (c0:Ok 34 [.c (.i 15)] (.c (.b false))) (c1:Ok 34 [.c (.i 15)] (.c (.b false))) (hk:EKeys n [] (some 39) ⟨.c (.sx 39 1),[],some (39,Ent.mk true [.i 0] 1)⟩) :
  BO 37 Tryz.f37 (cx w β n []) [.ag (Ins.mk 15 d s im of).cs] [] 0 (REff w β ⟨.c (.sx 39 1),[],some (39,Ent.mk true [.i 0] 1)⟩) :=
 zah [] (some 39) [false,false,false,false,false,false,false,true] [] [] Tryz.func37 hk (by kernel_rfl) rfl (zab c0 (zab c1 zae))
end
section
variable {m:Mach} {w:World} {β:Bs} {n c:Nat} {C:Cx} {R:Ending→World→Prop} {E:Eff} {u:V6 Bool} {j e q:Int} {mem:ByteArray} {x:BitVec 64} {V:AV} {L:List Ins}
end
section
variable {i:Ins} {m:Mach} {jp:Bool} {V:AV} {d s of:Int} {im:BitVec 64}
end
section
variable {i:Ins} {m:Mach} {C:Cx} {R:Ending→World→Prop} {u:V6 Bool} {j d s of op:Int} {w:World} {β:Bs} {n:Nat} {E:Eff} {im:BitVec 64}
end
theorem zao (op:Int):Ok 34 [.c (.i op)] (.c (.b (op==13||op==14))):=by
 apply zl3 <;> (intros;simp_all)
theorem zfy (op:Int):Ok 75 [.c (.i op)] (.c (.b (op==10||op==11))):=by
 apply zox <;> (intros;simp_all)
theorem zcb (a lo hi:Int):Ok 35 [.c (.i a),.c (.i lo),.c (.i hi)] (.c (.b (decide (lo≤a)&&decide (a≤hi)))):=by
 apply zsq <;> (intro h;rw [h];rfl)
theorem zdv (op:Int):Ok 38 [.c (.i op)] (.c (.b (decide (1≤op)&&decide (op≤9)))):=zro (zcb _ _ _)
theorem yae4 (d:Int):(decide (0≤d)&&decide (d≤5))=regB d:=by
 unfold regB
 congr 1
 exact decide_eq_decide.2 (by omega)
theorem yah0 (d:Int):Ok 122 [.c (.i d)] (.c (.b (regB d))):=by
 rw [← yae4]
 exact yaiw (zcb _ _ _)
theorem yatv {i:Ins} {q:Int} (h:1≤i.op∧i.op≤9):inB i q=(regB i.d&&srcB i.s):=by
 unfold inB
 rw [if_neg (by omega),if_neg (by omega),if_neg (by omega),if_neg (by omega)]
theorem yaln {i:Ins} (h:1≤i.op∧i.op≤9):zbd i=(decide (i.of=0)&&(decide (i.s=-1)||eqb i.im 0#64)):=by
 unfold zbd
 rw [if_neg (by omega),if_neg (by omega),if_neg (by omega),if_neg (by omega)]
theorem zk2 {i:Ins} (q:Int) (hk:zcl i=true):Ok 71 [.ag i.cs,.c (.i q)] (.c (.b (inB i (q+1)))):=by
 have hw:(decide (i.of<q+1))=decide (i.of≤q):=decide_eq_decide.2 (by omega)
 have hr:=kind_iff.1 hk
 have hc:(1≤i.op∧i.op≤9)∨i.op=10∨i.op=11∨i.op=12∨i.op=13∨i.op=14∨i.op=15:=by omega
 apply zrz
 all_goals intros
 all_goals repeat' apply And.intro
 all_goals first
  | exact yah0 _
  | exact zao _
  | exact zfy _
  | exact zdv _
  | exact zcb _ _ _
  | skip
 all_goals (refine congrArg (fun b=>AV.c (AC.b b)) ?_)
 all_goals
  rcases hc with hc | hc | hc | hc | hc | hc | hc
  ·rw [yatv hc]
   simp_all [srcB]
   try first | rfl | omega
  all_goals (simp_all [inB,srcB,zcj,zc0];try first | rfl | omega)
theorem zku {i:Ins} (hk:zcl i=true):Ok 72 [.ag i.cs] (.c (.b (zbd i))):=by
 have hr:=kind_iff.1 hk
 have hc:(1≤i.op∧i.op≤9)∨i.op=10∨i.op=11∨i.op=12∨i.op=13∨i.op=14∨i.op=15:=by omega
 apply zrr
 all_goals intros
 all_goals repeat' apply And.intro
 all_goals first
  | exact zao _
  | exact zdv _
  | skip
 all_goals (refine congrArg (fun b=>AV.c (AC.b b)) ?_)
 all_goals
  rcases hc with hc | hc | hc | hc | hc | hc | hc
  ·rw [yaln hc]
   simp_all
   try omega
  all_goals (simp_all [zbd,eqCs,eqC,splice,Ins.cs,Bool.and_assoc];try rfl;try omega)
section
variable {L:List Ins} {c:Nat} {w:World} {β:Bs} {E:Eff}
abbrev rcKn (L:List Ins) (c a:Nat) (j:Int):Kn:=⟨[(0,.c (.sl 0 0 L.length c)),(a,.c (.i j))],pH L,1⟩
theorem yaqb {j:Nat} (h:j<L.length):(pcell L)[0+Int.toNat (j:Int)*5+0]?=some (.i (elt L j).op):=by
 have h1:=yabr (L:=L) (k:=j) h (.b false)
 have h2:j*5<(pcell L).length:=by rw [zau];omega
 rw [List.getD_eq_getElem?_getD,List.getElem?_eq_getElem h2] at h1
 rw [show 0+Int.toNat (j:Int)*5+0=j*5 by omega,List.getElem?_eq_getElem h2]
 exact congrArg some h1
theorem yab1 (hL:L.length≤64):∀ n j:Nat,j+n=L.length→((L.drop j).all zcl=false→⟨.c (.i 4),[],none⟩=E) →
  ((L.drop j).all zcl=true→ART Tryz.prog 29 (cx w β 1 []) Tryz.f29.ntmps (zdm Tryz.f29 1) (rcKn L c 4 0) (REff w β E)) →
  ART Tryz.prog 29 (cx w β 1 []) Tryz.f29.ntmps (zdm Tryz.f29 0) (rcKn L c 3 j) (REff w β E)
 | 0,j,h,hy,hz=>by
  refine yar2 (by rw [jn (by omega)];rfl) (zlf rfl) (fun _ h=>h) (hz ?_)
  rw [List.drop_eq_nil_of_le (by omega)];rfl
 | n+1,j,h,hy,hz=>by
  have hj:j<L.length:=by omega
  rw [zhj hj,List.all_cons] at hy hz
  have o2:(AC.isI (Option.getD (pcell L)[0+Int.toNat (j:Int)*5+0]? (AC.b false))&&Nat.blt (0+Int.toNat (j:Int)*5+0) (pcell L).length)=true:=by
   rw [yaqb hj,zau];simp [AC.isI];omega
  have c0:Eff.mk (AV.c (AC.i (AC.asI (Option.getD (pcell L)[0+Int.toNat (j:Int)*5+0]? (AC.b false))))) [] none=Eff.mk (AV.c (AC.i (elt L j).op)) [] none:=by rw [yaqb hj];rfl
  refine yas9 (by omega) (fun a=>⟨jl hj,jl hj,o2,c0,zcb _ _ _,hy ?_⟩) (fun a=>⟨jl hj,jl hj,o2,c0,zcb _ _ _,zlf rfl,?_⟩)
  ·have:zcl (elt L j)=false:=by simp at a;simp [zcl];omega
   rw [this];rfl
  ·have:zcl (elt L j)=true:=by simpa [zcl] using a
   rw [this] at hy hz
   rw [zhx (by omega)]
   exact yab1 hL n (j+1) (by omega) (fun h=>hy h) (fun h=>hz h)
theorem yaap (hL:L.length≤64) (hK:L.all zcl=true):∀ n j:Nat,j+n=L.length→(zfk (L.drop j)=false→⟨.c (.i 3),[],none⟩=E) →
  (zfk (L.drop j)=true→ART Tryz.prog 29 (cx w β 1 []) Tryz.f29.ntmps (zdm Tryz.f29 2) (rcKn L c 5 0) (REff w β E)) →
  ART Tryz.prog 29 (cx w β 1 []) Tryz.f29.ntmps (zdm Tryz.f29 1) (rcKn L c 4 j) (REff w β E)
 | 0,j,h,hy,hz=>by
  refine yatj (by rw [jn (by omega)];rfl) (zlf rfl) (fun _ h=>h) (hz ?_)
  rw [List.drop_eq_nil_of_le (by omega)];rfl
 | n+1,j,h,hy,hz=>by
  have hj:j<L.length:=by omega
  have el:((L.drop (j+1)).length:Int)=((L.length - 1 - j:Nat):Int):=by rw [List.length_drop];omega
  rw [zhj hj,zfk,el] at hy hz
  have hk:zcl (elt L j)=true:=yach hK hj
  have ew:IntKind.wrap IntKind.i64 (IntKind.wrap IntKind.i64 ((L.length:Int) - 2) - (j:Int))=((L.length - 1 - j:Nat):Int) - 1:=by
   rw [zfj (n:=(L.length:Int) - 2) (by omega) (by omega),zfj (by omega) (by omega)];omega
  have c1:Eff.mk (AV.c (AC.i (IntKind.wrap IntKind.i64 (IntKind.wrap IntKind.i64 ((L.length:Int) - 2) - (j:Int))))) [] none=Eff.mk (AV.c (AC.i (((L.length - 1 - j:Nat):Int) - 1))) [] none:=by rw [ew]
  have c2:Eff.mk (AV.c (AC.b (inB (elt L j) (((L.length - 1 - j:Nat):Int) - 1+1)))) [] none=Eff.mk (AV.c (AC.b (inB (elt L j) ((L.length - 1 - j:Nat):Int)))) [] none:=by
   rw [show ((L.length - 1 - j:Nat):Int) - 1+1=((L.length - 1 - j:Nat):Int) by omega]
  refine yasi (by omega) (fun a=>⟨jl hj,jl hj,pble hj,zdk hj,c1,c2,zk2 _ hk,hy ?_⟩) (fun a=>⟨jl hj,jl hj,pble hj,zdk hj,c1,c2,zk2 _ hk,zlf rfl,?_⟩)
  ·have:inB (elt L j) ((L.length - 1 - j:Nat):Int)=false:=by simpa using a
   rw [this];rfl
  ·have:inB (elt L j) ((L.length - 1 - j:Nat):Int)=true:=by simpa using a
   rw [this] at hy hz
   rw [zhx (by omega)]
   exact yaap hL hK n (j+1) (by omega) (fun h=>hy h) (fun h=>hz h)
theorem yabu (h0:0<L.length) (hL:L.length≤64) (hK:L.all zcl=true):∀ n j:Nat,j+n=L.length→((L.drop j).all zbd=false→⟨.c (.i 1),[],none⟩=E) →
  ((L.drop j).all zbd=true→⟨.c (.i (if zbz L≠15 then 1 else 0)),[],none⟩=E) →
  ART Tryz.prog 29 (cx w β 1 []) Tryz.f29.ntmps (zdm Tryz.f29 2) (rcKn L c 5 j) (REff w β E)
 | 0,j,h,hy,hz=>by
  have hz:=hz (by rw [List.drop_eq_nil_of_le (by omega)];rfl)
  have o0:(!decide ((j:Int)<(L.length:Int)))=true:=by rw [jn (by omega)];rfl
  have o1:(decide (0≤IntKind.wrap IntKind.i64 ((L.length:Int) - 1))&&decide (IntKind.wrap IntKind.i64 ((L.length:Int) - 1)<(L.length:Int)))=true:=by
   rw [zfj (by omega) (by omega)];simp;omega
  have o2:(AC.isI (Option.getD (pcell L)[0+Int.toNat (IntKind.wrap IntKind.i64 ((L.length:Int) - 1))*5+0]? (AC.b false))&&Nat.blt (0+Int.toNat (IntKind.wrap IntKind.i64 ((L.length:Int) - 1))*5+0) (pcell L).length)=true:=by
   rw [zhr h0 hL,zfj (by omega) (by omega),zau];simp [AC.isI];omega
  have c0:Eff.mk (AV.c (AC.i (AC.asI (Option.getD (pcell L)[0+Int.toNat (IntKind.wrap IntKind.i64 ((L.length:Int) - 1))*5+0]? (AC.b false))))) [] none=Eff.mk (AV.c (AC.i (zbz L))) [] none:=by rw [zhr h0 hL];rfl
  refine yapu (fun a=>⟨o0,o1,o2,c0,?_⟩) (fun a=>⟨o0,o1,o2,c0,?_⟩)
  ·rw [← hz,if_pos (by simpa using a)]
  ·rw [← hz,if_neg (by simpa using a)]
 | n+1,j,h,hy,hz=>by
  have hj:j<L.length:=by omega
  have hk:zcl (elt L j)=true:=yach hK hj
  rw [zhj hj,List.all_cons] at hy hz
  refine yavp (by omega) (fun a=>⟨jl hj,jl hj,pble hj,zdk hj,zku hk,hy ?_⟩) (fun a=>⟨jl hj,jl hj,pble hj,zdk hj,zku hk,zlf rfl,?_⟩)
  ·have:zbd (elt L j)=false:=by simpa using a
   rw [this];rfl
  ·have:zbd (elt L j)=true:=by simpa using a
   rw [this] at hy hz
   rw [zhx (by omega)]
   exact yabu h0 hL hK n (j+1) (by omega) (fun h=>hy h) (fun h=>hz h)
end
theorem zt1 (L:List Ins) (c:Nat):CallOK Tryz.prog ⟨29,[.c (.sl 0 0 L.length c)],pH L,⟨.c (.i (zan L)),[],none⟩⟩:=by
 refine zgr Tryz.func29 rfl rfl (zqn rfl) rfl ro_p fun w β=>?_
 refine yaki (Nat.le_refl 1) (fun a=>⟨zcb _ _ _,?_⟩) (fun a=>⟨zcb _ _ _,zlf rfl,?_⟩)
 ·unfold zan
  rw [if_pos (by simp at a;omega)]
 ·have h:1≤(L.length:Int)∧(L.length:Int)≤64:=by simpa using a
  have h0:0<L.length:=by omega
  have h1:L.length≤64:=by omega
  unfold zan
  rw [if_neg (by omega)]
  refine yab1 h1 L.length 0 (by omega) (fun h=>?_) (fun h=>?_)
  ·rw [if_pos (by simpa using h)]
  ·have hK:L.all zcl=true:=by simpa using h
   rw [if_neg (by simpa using h)]
   refine yaap h1 hK L.length 0 (by omega) (fun h=>?_) (fun h=>?_)
   ·rw [if_pos (by simpa using h)]
   ·rw [if_neg (by simpa using h)]
    refine yabu h0 h1 hK L.length 0 (by omega) (fun h=>?_) (fun h=>?_)
    ·rw [if_pos (by simpa using h)]
    ·have e:¬ (L.all zbd=false):=by simpa using h
     rw [if_neg e]
theorem zqx:Ok 29 [.c zco] (.c (.i (zan []))):=yanx (zcb _ _ _)
theorem zhg {op d s of:Int} {im:BitVec 64} (K:Nat) (h:(2≤op∧op≤9)∨op=11∨op=13∨op=14) (hs:s≠-1) :
  CallOK Tryz.prog ⟨37,[.ag (Ins.mk op d s im of).cs],[],⟨.c (.sx K 2),[],some (K,⟨true,[.i d,.i s],1⟩)⟩⟩:=by
 have b:(s != -1)=true:=by simpa using hs
 have key:CallOK Tryz.prog ⟨37,[.ag (Ins.mk op d s im of).cs],[],⟨.c (.sx 44 2),[],some (44,⟨true,[.i d,.i s],1⟩)⟩⟩:=by
  refine zla Tryz.func37 rfl rfl rfl rfl rfl fun w β hk=>?_
  rcases h with h | h | h | h
  ·exact zt3 (by simp [b];omega) hk
  ·exact zt3 (by simp [b];omega) hk
  ·subst h;exact zw0 (by rw [b];rfl) (zao 13) (zao 13) hk
  ·subst h;exact zw1 (by rw [b];rfl) (zao 14) (zao 14) hk
 exact key.ren (swp 44 K) (zbl 44 K)
theorem zls {op d of:Int} {im:BitVec 64} (K:Nat) (h:(2≤op∧op≤9)∨op=13∨op=14) :
  CallOK Tryz.prog ⟨37,[.ag (Ins.mk op d (-1) im of).cs],[],⟨.c (.sx K 1),[],some (K,⟨true,[.i d],1⟩)⟩⟩:=by
 have key:CallOK Tryz.prog ⟨37,[.ag (Ins.mk op d (-1) im of).cs],[],⟨.c (.sx 25 1),[],some (25,⟨true,[.i d],1⟩)⟩⟩:=by
  refine zla Tryz.func37 rfl rfl rfl rfl rfl fun w β hk=>?_
  rcases h with h | h | h
  ·exact yakn (by simp;omega) hk
  ·subst h;exact zzt rfl (zao 13) (zao 13) hk
  ·subst h;exact zx0 rfl (zao 14) (zao 14) hk
 exact key.ren (swp 25 K) (zbl 25 K)
theorem zlo {op d s of:Int} {im:BitVec 64} (K:Nat) (h:op=1∨op=10) (hs:s≠-1) :
  CallOK Tryz.prog ⟨37,[.ag (Ins.mk op d s im of).cs],[],⟨.c (.sx K 1),[],some (K,⟨true,[.i s],1⟩)⟩⟩:=by
 have b:(s != -1)=true:=by simpa using hs
 have key:CallOK Tryz.prog ⟨37,[.ag (Ins.mk op d s im of).cs],[],⟨.c (.sx 38 1),[],some (38,⟨true,[.i s],1⟩)⟩⟩:=by
  refine zla Tryz.func37 rfl rfl rfl rfl rfl fun w β hk=>?_
  rcases h with h | h
  ·subst h;exact yadi (by rw [b];rfl) (zao 1) hk
  ·subst h;exact zzb (by rw [b];rfl) (zao 10) hk
 exact key.ren (swp 38 K) (zbl 38 K)
theorem yabi {d of:Int} {im:BitVec 64}:Ok 37 [.ag (Ins.mk 1 d (-1) im of).cs] (.c zco):=yaf5 rfl (zao 1)
theorem zrf {d s of:Int} {im:BitVec 64}:Ok 37 [.ag (Ins.mk 12 d s im of).cs] (.c zco):=yahl (zao 12) (zao 12)
theorem yabp {d s of:Int} {im:BitVec 64} (K:Nat):CallOK Tryz.prog ⟨37,[.ag (Ins.mk 15 d s im of).cs],[],⟨.c (.sx K 1),[],some (K,⟨true,[.i 0],1⟩)⟩⟩:=by
 have key:CallOK Tryz.prog ⟨37,[.ag (Ins.mk 15 d s im of).cs],[],⟨.c (.sx 39 1),[],some (39,⟨true,[.i 0],1⟩)⟩⟩ :=
  zla Tryz.func37 rfl rfl rfl rfl rfl fun w β hk=>yajk (zao 15) (zao 15) hk
 exact key.ren (swp 39 K) (zbl 39 K)
end Go.Proofs.YtkigmocchaikgabGreatDoor
namespace Go.Proofs.YtkigmocchaikgabGreatDoor
open Go.RowKit Go.Lib
def nmC:List AC:=wcell ([]::oNames)
theorem yaq3:nmC.flatMap AC.ks=[]:=zdh _
set_option maxRecDepth 100000 in
theorem names_ok:CallOK Tryz.prog ⟨66,[],[],⟨.c (.sl 1 0 16 16),[],some (1,⟨true,nmC,0⟩)⟩⟩ :=
 zla Tryz.func66 rfl rfl rfl rfl yaq3 fun _ _ hk=>zah [] (some 1) [] [] [] Tryz.func66 hk (by kernel_rfl) rfl zae
theorem zcf (K:Nat):CallOK Tryz.prog ⟨66,[],[],⟨.c (.sl K 0 16 16),[],some (K,⟨true,nmC,0⟩)⟩⟩:=by
 refine (names_ok.ren (swp 1 K) (zbl 1 K)).congr ?_
 unfold CallRec.ren Eff.ren renH
 simp only [List.map_nil,Option.map_some,Ent.ren,zck _ yaq3,AV.ren,AC.ren,zel]
theorem yalv:nmC.length=16:=rfl
theorem yai6 {k:Nat} (h:k<15):nmC[k+1]?=some (.s (bs (nmL k))):=by
 have e:oNames[k]?=some (nmL k):=by
  rw [nmL,List.getD_eq_getElem?_getD,List.getElem?_eq_getElem (show k<oNames.length from h)];rfl
 show (wcell oNames)[k]?=_
 unfold wcell
 rw [List.getElem?_map,e];rfl
structure Rg (i:Ins):Prop where
 d:0≤i.d
 s:i.s=-1∨0≤i.s
 m:i.op=10∨i.op=11→0≤i.s
theorem yaze {i:Ins} {n:Int} (hi:inB i n=true) (hb:zbd i=true):Rg i:=by
 obtain ⟨op,d,s,im,f⟩:=i
 simp only [inB,regB,srcB,zcj] at hi
 simp only [zbd] at hb
 refine ⟨?_,?_,?_⟩ <;> simp only
 all_goals
  repeat' split at hi
  all_goals
   repeat' split at hb
   all_goals
    simp only [Bool.and_eq_true,Bool.or_eq_true,decide_eq_true_eq] at hi hb
    omega
theorem yba8 {L:List Ins} (h:zan L=0):∀ i∈L,Rg i:=by
 have hB:=zyi h
 unfold zan at h
 split at h
 ·omega
 split at h
 ·omega
 split at h
 ·omega
 rename_i h3
 have h3':zfk L=true:=by simpa using h3
 intro i hi
 obtain ⟨n,_,h5⟩:=zl7 h3' hi
 exact yaze h5 (hB i hi)
theorem zkz {a:Nat} (h:a≤1000):decide (a≤9223372036854775807)=true:=decide_eq_true (by omega)
theorem sz1 (c:UInt8):ByteArray.size (ByteArray.mk #[c])=1:=rfl
set_option maxRecDepth 100000 in
theorem zu7 {i:Ins} (h:Fld i) (hr:Rg i):Ok 33 [.ag i.cs] (.c (.s (bs (zgj i)))):=by
 have h1:=h.o1
 have h2:=h.o2
 obtain ⟨k,hk⟩:∃ k:Nat,i.op=(k:Int)+1:=⟨(i.op - 1).toNat,by omega⟩
 have hk15:k<15:=by omega
 have ho:0+(i.op).toNat*1=k+1:=by omega
 have hnm:=yai6 hk15
 have g0:(decide (0≤i.op)&&decide (i.op<16))=true:=zaa (decide_eq_true (by omega)) (decide_eq_true (by omega))
 have g1:(AC.isS (nmC[0+(i.op).toNat*1]?.getD (.b false))&&Nat.blt (0+(i.op).toNat*1) nmC.length)=true:=by
  rw [ho,hnm,yalv]
  refine zaa rfl ?_
  simp;omega
 have g2:pe (.c (.s (AC.asS (nmC[0+(i.op).toNat*1]?.getD (.b false)))))=pe (.c (.s (bs (nmL k)))):=by rw [ho,hnm];rfl
 have hln:=yaid k
 have hw:=zsl h
 have sW:∀ p,(bs (za7 i p)).size≤22:=fun p=>by rw [zdw];exact hw p
 have sN:(bs (nmL k)).size≤5:=by rw [zdw];exact hln
 have w0:Ok 85 [.c (.i i.d)] (.c (.s (bs (za7 i 0)))):=yabb _ hr.d h.d.2
 have w2:Ok 86 [.ag i.cs] (.c (.s (bs (za7 i 2)))):=yatz (hr.s.imp id fun x=>⟨x,h.s.2⟩)
 have w3:Ok 13 [.c (.u i.im)] (.c (.s (bs (za7 i 3)))):=yabt _
 have w4:Ok 87 [.c (.i i.of)] (.c (.s (bs (za7 i 4)))):=yagh _ h.f.1 h.f.2
 have hl:zgj i=nmL k++zeg i (plcs i.op)++[10]:=by unfold zgj;rw [show (i.op - 1).toNat=k by omega]
 have cR:=zdv i.op
 have cB:=zao i.op
 rw [hl]
 by_cases h9:i.op≤9
 ·rw [decide_eq_true h1,decide_eq_true h9] at cR
  have e:plcs i.op=[0,2]:=by unfold plcs;rw [if_neg (by omega),if_neg (by omega),if_neg (by omega),if_neg (by omega),if_neg (by omega)]
  refine zam (yaz5 (u1:=bs (za7 i 0)) (u2:=bs (za7 i 2)) ?_ (zcf 2) g2 cR w0 w2) ?_
  ·have a:=sW 0;have b:=sW 2
   refine zaa g0 (zaa g1 ?_)
   repeat' apply zaa
   all_goals first | rfl | (refine zkz ?_;(try simp only [ByteArray.size_append,sz1]);omega)
  ·show AV.c (.s (bs (nmL k)++bs [32]++bs (za7 i 0)++bs [32]++bs (za7 i 2)++bs [10]))=_
   simp only [zhd,e]
   simp [zeg]
 ·rw [decide_eq_false h9,Bool.and_false] at cR
  by_cases h10:i.op=10
  ·have w1:Ok 85 [.c (.i i.s)] (.c (.s (bs (za7 i 1)))):=yabb _ (hr.m (Or.inl h10)) h.s.2
   have e:plcs i.op=[3,0,1,4]:=by simp [plcs,h10]
   refine zam (yaw1 (u1:=bs (za7 i 3)) (u2:=bs (za7 i 0)) (u3:=bs (za7 i 1)) (u4:=bs (za7 i 4)) ?_ (zcf 2) g2 cR w3 w0 w1 w4) ?_
   ·have a:=sW 0;have b:=sW 1;have c:=sW 3;have d:=sW 4
    refine zaa g0 (zaa g1 (zaa (by simp [h10]) ?_))
    repeat' apply zaa
    all_goals first | rfl | (refine zkz ?_;(try simp only [ByteArray.size_append,sz1]);omega)
   ·show AV.c (.s (bs (nmL k)++bs [32]++bs (za7 i 3)++bs [32]++bs (za7 i 0)++bs [32]++bs (za7 i 1)++bs [32]++bs (za7 i 4)++bs [10]))=_
    simp only [zhd,e]
    simp [zeg]
  ·have f10:(!(i.op==10))=true:=by simp [h10]
   by_cases h11:i.op=11
   ·have w1:Ok 85 [.c (.i i.s)] (.c (.s (bs (za7 i 1)))):=yabb _ (hr.m (Or.inr h11)) h.s.2
    have e:plcs i.op=[3,0,4,1]:=by simp [plcs,h11]
    refine zam (yavy (u1:=bs (za7 i 3)) (u2:=bs (za7 i 0)) (u3:=bs (za7 i 4)) (u4:=bs (za7 i 1)) ?_ (zcf 2) g2 cR w3 w0 w4 w1) ?_
    ·have a:=sW 0;have b:=sW 1;have c:=sW 3;have d:=sW 4
     refine zaa g0 (zaa g1 (zaa f10 (zaa (by simp [h11]) ?_)))
     repeat' apply zaa
     all_goals first | rfl | (refine zkz ?_;(try simp only [ByteArray.size_append,sz1]);omega)
    ·show AV.c (.s (bs (nmL k)++bs [32]++bs (za7 i 3)++bs [32]++bs (za7 i 0)++bs [32]++bs (za7 i 4)++bs [32]++bs (za7 i 1)++bs [10]))=_
     simp only [zhd,e]
     simp [zeg]
   ·have f11:(!(i.op==11))=true:=by simp [h11]
    by_cases h13:i.op=13∨i.op=14
    ·have cB2:Ok 34 [.c (.i i.op)] (.c (.b true)):=zam cB (by rcases h13 with e | e <;> rw [e] <;> rfl)
     have e:plcs i.op=[0,2,4]:=by unfold plcs;rw [if_neg h10,if_neg h11,if_neg (by omega),if_pos h13]
     refine zam (yawe (u1:=bs (za7 i 0)) (u2:=bs (za7 i 2)) (u3:=bs (za7 i 4)) ?_ (zcf 2) g2 cR cB2 w0 w2 w4) ?_
     ·have a:=sW 0;have b:=sW 2;have c:=sW 4
      refine zaa g0 (zaa g1 (zaa f10 (zaa f11 ?_)))
      repeat' apply zaa
      all_goals first | rfl | (refine zkz ?_;(try simp only [ByteArray.size_append,sz1]);omega)
     ·show AV.c (.s (bs (nmL k)++bs [32]++bs (za7 i 0)++bs [32]++bs (za7 i 2)++bs [32]++bs (za7 i 4)++bs [10]))=_
      simp only [zhd,e]
      simp [zeg]
    ·have cB2:Ok 34 [.c (.i i.op)] (.c (.b false)):=zam cB (by
      have e13:(i.op==13)=false:=beq_eq_false_iff_ne.2 fun e=>h13 (Or.inl e)
      have e14:(i.op==14)=false:=beq_eq_false_iff_ne.2 fun e=>h13 (Or.inr e)
      rw [e13,e14];rfl)
     by_cases h12:i.op=12
     ·have e:plcs i.op=[4]:=by simp [plcs,h12]
      refine zam (yazu (u1:=bs (za7 i 4)) ?_ (zcf 2) g2 cR cB2 w4) ?_
      ·have a:=sW 4
       refine zaa g0 (zaa g1 (zaa f10 (zaa f11 (zaa (by simp [h12]) ?_))))
       repeat' apply zaa
       all_goals first | rfl | (refine zkz ?_;(try simp only [ByteArray.size_append,sz1]);omega)
      ·show AV.c (.s (bs (nmL k)++bs [32]++bs (za7 i 4)++bs [10]))=_
       simp only [zhd,e]
       simp [zeg]
     ·have e:plcs i.op=[]:=by unfold plcs;rw [if_neg h10,if_neg h11,if_neg h12,if_neg h13,if_pos (by omega)]
      refine zam (yaxr ?_ (zcf 2) g2 cR cB2) ?_
      ·refine zaa g0 (zaa g1 (zaa f10 (zaa f11 (zaa (by simp [h12]) ?_))))
       repeat' apply zaa
       all_goals first | rfl | (refine zkz ?_;omega)
      ·show AV.c (.s (bs (nmL k)++bs [10]))=_
       simp only [zhd,e]
       simp [zeg]
theorem yaqm (L:List Ins) (c j:Nat) (t:ByteArray):Kn.Low (ctRK L c j t):=zg2 rfl rfl ⟨zaj L,trivial⟩
theorem yac0 {L:List Ins} {j:Nat} (h:j<L.length):shown (L.take (j+1))=shown (L.take j)++zgj (elt L j):=by
 have e:L[j]?=some (elt L j):=by unfold elt;rw [List.getD_eq_getElem?_getD,List.getElem?_eq_getElem h];rfl
 rw [zmw e]
 simp [shown]
theorem yasr {L:List Ins} {j:Nat} (h:j<L.length):elt L j∈L:=by
 unfold elt;rw [List.getD_eq_getElem?_getD,List.getElem?_eq_getElem h]
 exact List.getElem_mem _
theorem yap5 {L:List Ins} {c:Nat} (he:zan L=0) {w:World} {β:Bs}:∀ n j,j+n=L.length →
  AR 14 Tryz.f14 (cx w β 1 []) 0 (ctRK L c j (bs (shown (L.take j)))) (REff w β ⟨.c (.s (bs (shown L))),[],none⟩)
 | 0,j,hj=>by
  rw [List.take_of_length_le (by omega)]
  exact yaxc (zaa (zad (decide_eq_false (by omega))) rfl)
 | n+1,j,hj=>by
  obtain ⟨h64,hF⟩:=zg4 he
  have hm:=yasr (L:=L) (j:=j) (by omega)
  have d0:decide ((j:Int)<(L.length:Int))=true:=decide_eq_true (by omega)
  have hl:=zpx (hF _ hm)
  have hs:=zhe (L:=L.take j) fun x hx=>hF x (List.mem_of_mem_take hx)
  rw [List.length_take] at hs
  refine yazd (i:=elt L j) (u1:=bs (zgj (elt L j))) (m:=bs (shown (L.take (j+1)))) (zaa d0 (zaa d0 (zaa (pble (by omega)) (zaa ?_ rfl)))) (zdk (by omega)) (zu7 (hF _ hm) (yba8 he _ hm)) ?_ (ze3 (by omega)) (yaqm _ _ _ _) (fun _ h=>h) (yap5 he n (j+1) (by omega))
  ·rw [zdw,zdw];exact decide_eq_true (by omega)
  ·rw [zhd,yac0 (by omega)]
theorem zin {L:List Ins} (c:Nat) (he:zan L=0):CallOK Tryz.prog ⟨14,[.c (.sl 0 0 L.length c)],pH L,⟨.c (.s (bs (shown L))),[],none⟩⟩ :=
 zgr Tryz.func14 rfl rfl (zqn rfl) rfl ro_p fun _ _=>yape (yaqm _ _ 0 _) (fun _ h=>h) (yap5 he _ 0 (Nat.zero_add _))
end Go.Proofs.YtkigmocchaikgabGreatDoor
namespace Go.Proofs.YtkigmocchaikgabGreatDoor
abbrev E5:List AC:=[.s ⟨#[]⟩,.s ⟨#[]⟩,.s ⟨#[]⟩,.s ⟨#[]⟩,.s ⟨#[]⟩]
end Go.Proofs.YtkigmocchaikgabGreatDoor
namespace Go.Proofs.YtkigmocchaikgabGreatDoor
open Go.RowKit
section
abbrev guYK (r j:Nat) (o:Int) (D:List AC):Kn:=⟨[(2,.c (.w 0)),(3,.c (.sx 4 (r+5))),(4,.c (.w 6)),(5,.c (.i (j:Int)))],[(0,Ent.mk true i0.cs 0),(4,Ent.mk true D 1),(6,Ent.mk true [.i o,.i 0,.i 0,.u 0#64,.i 0] 0)],8⟩
variable {t m u w1 w2 w3 w4:ByteArray} {r j n:Nat} {D A:List AC} {C:Cx} {R:Ending→World→Prop} {o d s2 f:Int} {i:Ins} {w:World} {β:Bs} {x:BitVec 64}
theorem yao1 (h:(Nat.beq (r*1) D.length&&decide (r+5≤137438953472)&&Nat.blt 0 r&&true)=true) (c0:CO 27 [.c (.s t),.c (.y 32#8),.c (.i 6)] [] (Eff.mk (.c (.sx 2 r)) [] (some (2,Ent.mk true D 1)))) (c1:Eff.mk (.c (.sx 4 (r+5))) [(2,[])] (some (0+1+3,Ent.mk true (D++((splice (splice (splice (splice (splice (rows 5 [.s (ByteArray.mk #[])]) 0 [.s (ByteArray.mk #[])]) 1 [.s (ByteArray.mk #[])]) 2 [.s (ByteArray.mk #[])]) 3 [.s (ByteArray.mk #[])]) 4 [.s (ByteArray.mk #[])]).drop 0).take 5) 1))=Eff.mk (.c (.sx 4 (r+5))) [(2,[])] (some (4,Ent.mk true (D++E5) 1))) (lo:Kn.Low ⟨[(2,.c (.w 0)),(3,.c (.sx 4 (r+5))),(4,.c (.w 6)),(5,.c (.i 1))],[(0,Ent.mk true [.i 0,.i 0,.i 0,.u 0#64,.i 0] 0),(4,Ent.mk true (D++E5) 1),(6,Ent.mk true [.i 0,.i 0,.i 0,.u 0#64,.i 0] 0)],8⟩) (hF:∀ k,C.F k→k<8) (z:AR 28 Tryz.f28 C 0 ⟨[(2,.c (.w 0)),(3,.c (.sx 4 (r+5))),(4,.c (.w 6)),(5,.c (.i 1))],[(0,Ent.mk true [.i 0,.i 0,.i 0,.u 0#64,.i 0] 0),(4,Ent.mk true (D++E5) 1),(6,Ent.mk true [.i 0,.i 0,.i 0,.u 0#64,.i 0] 0)],8⟩ R) :
  BO 28 Tryz.f28 C [.c (.s t)] [] 0 R :=
 zai [] ([true]) [(1,3)] Tryz.func28 (by kernel_rfl) h (zab c0 (zac c1 zae)) lo hF z
theorem yaxm (h:(decide ((j:Int)<16)&&(decide ((j:Int)<16)&&(AC.isS (A[0+(j:Int).toNat*1]?.getD (.b false))&&Nat.blt (0+(j:Int).toNat*1) A.length&&(decide (0<(↑(r+5):Int))&&(AC.isS (D[0]?.getD (.b false))&&Nat.blt 0 D.length&&(ByteArray.toList m==ByteArray.toList u&&true))))))=true) (c0:CO 66 [] [] (Eff.mk (.c (.sl 9 0 16 16)) [] (some (9,Ent.mk true A 0)))) (c1:CO 66 [] [] (Eff.mk (.c (.sl 12 0 16 16)) [] (some (12,Ent.mk true A 0)))) (c2:pe (.c (.s (AC.asS (A[0+(j:Int).toNat*1]?.getD (.b false)))))=pe (.c (.s m))) (c3:pe (.c (.s (AC.asS (D[0]?.getD (.b false)))))=pe (.c (.s u))) (c4:pe (.c (.i (IntKind.i64.wrap ((j:Int)+1))))=pe (.c (.i (↑(j+1):Int)))) (lo:Kn.Low (guYK r (j+1) (j:Int) D)) (hF:∀ k,C.F k→k<8) (z:AR 28 Tryz.f28 C 0 (guYK r (j+1) (j:Int) D) R) :
  AR 28 Tryz.f28 C 0 (guYK r j o D) R :=
 zai [true,true] ([true]) [(6,3),(6,6),(5,1)] Tryz.func28 (by kernel_rfl) h (zab c0 (zab c1 (zac c2 (zac c3 (zac c4 zae))))) lo hF z
theorem yax1 (h:(decide ((j:Int)<16)&&(decide ((j:Int)<16)&&(AC.isS (A[0+(j:Int).toNat*1]?.getD (.b false))&&Nat.blt (0+(j:Int).toNat*1) A.length&&(decide (0<(↑(r+5):Int))&&(AC.isS (D[0]?.getD (.b false))&&Nat.blt 0 D.length&&(!ByteArray.toList m==ByteArray.toList u&&true))))))=true) (c0:CO 66 [] [] (Eff.mk (.c (.sl 9 0 16 16)) [] (some (9,Ent.mk true A 0)))) (c1:CO 66 [] [] (Eff.mk (.c (.sl 12 0 16 16)) [] (some (12,Ent.mk true A 0)))) (c2:pe (.c (.s (AC.asS (A[0+(j:Int).toNat*1]?.getD (.b false)))))=pe (.c (.s m))) (c3:pe (.c (.s (AC.asS (D[0]?.getD (.b false)))))=pe (.c (.s u))) (c4:pe (.c (.i (IntKind.i64.wrap ((j:Int)+1))))=pe (.c (.i (↑(j+1):Int)))) (lo:Kn.Low (guYK r (j+1) o D)) (hF:∀ k,C.F k→k<8) (z:AR 28 Tryz.f28 C 0 (guYK r (j+1) o D) R) :
  AR 28 Tryz.f28 C 0 (guYK r j o D) R :=
 zai [true,false] ([true]) [(6,3),(6,6),(5,1)] Tryz.func28 (by kernel_rfl) h (zab c0 (zab c1 (zac c2 (zac c3 (zac c4 zae))))) lo hF z
theorem yay3 (h:(!decide ((j:Int)<16)&&(decide (1<(↑(r+5):Int))&&(AC.isS (D[1]?.getD (.b false))&&Nat.blt 1 D.length&&(decide (2<(↑(r+5):Int))&&(AC.isS (D[2]?.getD (.b false))&&Nat.blt 2 D.length&&true)))))=true) (c0:CO 66 [] [] (Eff.mk (.c (.sl 9 0 16 16)) [] (some (9,Ent.mk true A 0)))) (c1:Ok 38 [.c (.i o)] (.c (.b true))) (c2:pe (.c (.s (AC.asS (D[1]?.getD (.b false)))))=pe (.c (.s w1))) (c3:Ok 68 [.c (.s w1)] (.c (.i d))) (c4:pe (.c (.s (AC.asS (D[2]?.getD (.b false)))))=pe (.c (.s w2))) (c5:CO 67 [.c (.s w2),.c (.w 6)] [(6,Ent.mk true [.i o,.i d,.i 0,.u 0#64,.i 0] 0)] (Eff.mk (.tu []) [(6,i.cs)] none)) :
  AR 28 Tryz.f28 (cx w β n []) 0 (guYK r j o D) (REff w β ⟨.ag i.cs,[],none⟩) :=
 zah [] none [false,true] ([true]) [(10,2),(11,3)] Tryz.func28 (zat rfl n) (by kernel_rfl) h (zab c0 (zab c1 (zac c2 (zab c3 (zac c4 (zab c5 zae))))))
theorem yay6 (h:(!decide ((j:Int)<16)&&(o==10&&(decide (1<(↑(r+5):Int))&&(AC.isS (D[1]?.getD (.b false))&&Nat.blt 1 D.length&&(decide (2<(↑(r+5):Int))&&(AC.isS (D[2]?.getD (.b false))&&Nat.blt 2 D.length&&(decide (3<(↑(r+5):Int))&&(AC.isS (D[3]?.getD (.b false))&&Nat.blt 3 D.length&&(decide (4<(↑(r+5):Int))&&(AC.isS (D[4]?.getD (.b false))&&Nat.blt 4 D.length&&true))))))))))=true) (c0:CO 66 [] [] (Eff.mk (.c (.sl 9 0 16 16)) [] (some (9,Ent.mk true A 0)))) (c1:Ok 38 [.c (.i o)] (.c (.b false))) (c2:pe (.c (.s (AC.asS (D[1]?.getD (.b false)))))=pe (.c (.s w1))) (c3:Ok 69 [.c (.s w1)] (.c (.u x))) (c4:pe (.c (.s (AC.asS (D[2]?.getD (.b false)))))=pe (.c (.s w2))) (c5:Ok 68 [.c (.s w2)] (.c (.i d))) (c6:pe (.c (.s (AC.asS (D[3]?.getD (.b false)))))=pe (.c (.s w3))) (c7:Ok 68 [.c (.s w3)] (.c (.i s2))) (c8:pe (.c (.s (AC.asS (D[4]?.getD (.b false)))))=pe (.c (.s w4))) (c9:Ok 70 [.c (.s w4)] (.c (.i f))) :
  AR 28 Tryz.f28 (cx w β n []) 0 (guYK r j o D) (REff w β ⟨.ag [.i o,.i d,.i s2,.u x,.i f],[],none⟩) :=
 zah [] none [false,false,true] ([true]) [(13,2),(13,6),(13,10),(13,14)] Tryz.func28 (zat rfl n) (by kernel_rfl) h (zab c0 (zab c1 (zac c2 (zab c3 (zac c4 (zab c5 (zac c6 (zab c7 (zac c8 (zab c9 zae))))))))))
theorem yayt (h:(!decide ((j:Int)<16)&&(!o==10&&(o==11&&(decide (1<(↑(r+5):Int))&&(AC.isS (D[1]?.getD (.b false))&&Nat.blt 1 D.length&&(decide (2<(↑(r+5):Int))&&(AC.isS (D[2]?.getD (.b false))&&Nat.blt 2 D.length&&(decide (3<(↑(r+5):Int))&&(AC.isS (D[3]?.getD (.b false))&&Nat.blt 3 D.length&&(decide (4<(↑(r+5):Int))&&(AC.isS (D[4]?.getD (.b false))&&Nat.blt 4 D.length&&true)))))))))))=true) (c0:CO 66 [] [] (Eff.mk (.c (.sl 9 0 16 16)) [] (some (9,Ent.mk true A 0)))) (c1:Ok 38 [.c (.i o)] (.c (.b false))) (c2:pe (.c (.s (AC.asS (D[1]?.getD (.b false)))))=pe (.c (.s w1))) (c3:Ok 69 [.c (.s w1)] (.c (.u x))) (c4:pe (.c (.s (AC.asS (D[2]?.getD (.b false)))))=pe (.c (.s w2))) (c5:Ok 68 [.c (.s w2)] (.c (.i d))) (c6:pe (.c (.s (AC.asS (D[3]?.getD (.b false)))))=pe (.c (.s w3))) (c7:Ok 70 [.c (.s w3)] (.c (.i f))) (c8:pe (.c (.s (AC.asS (D[4]?.getD (.b false)))))=pe (.c (.s w4))) (c9:Ok 68 [.c (.s w4)] (.c (.i s2))) :
  AR 28 Tryz.f28 (cx w β n []) 0 (guYK r j o D) (REff w β ⟨.ag [.i o,.i d,.i s2,.u x,.i f],[],none⟩) :=
 zah [] none [false,false,false,true] ([true]) [(15,2),(15,6),(15,10),(15,14)] Tryz.func28 (zat rfl n) (by kernel_rfl) h (zab c0 (zab c1 (zac c2 (zab c3 (zac c4 (zab c5 (zac c6 (zab c7 (zac c8 (zab c9 zae))))))))))
theorem yaxb (h:(!decide ((j:Int)<16)&&(!o==10&&(!o==11&&(decide (1<(↑(r+5):Int))&&(AC.isS (D[1]?.getD (.b false))&&Nat.blt 1 D.length&&(decide (2<(↑(r+5):Int))&&(AC.isS (D[2]?.getD (.b false))&&Nat.blt 2 D.length&&(decide (3<(↑(r+5):Int))&&(AC.isS (D[3]?.getD (.b false))&&Nat.blt 3 D.length&&true)))))))))=true) (c0:CO 66 [] [] (Eff.mk (.c (.sl 9 0 16 16)) [] (some (9,Ent.mk true A 0)))) (c1:Ok 38 [.c (.i o)] (.c (.b false))) (c2:Ok 34 [.c (.i o)] (.c (.b true))) (c3:pe (.c (.s (AC.asS (D[1]?.getD (.b false)))))=pe (.c (.s w1))) (c4:Ok 68 [.c (.s w1)] (.c (.i d))) (c5:pe (.c (.s (AC.asS (D[2]?.getD (.b false)))))=pe (.c (.s w2))) (c6:CO 67 [.c (.s w2),.c (.w 6)] [(6,Ent.mk true [.i o,.i d,.i 0,.u 0#64,.i 0] 0)] (Eff.mk (.tu []) [(6,i.cs)] none)) (c7:pe (.c (.s (AC.asS (D[3]?.getD (.b false)))))=pe (.c (.s w3))) (c8:Ok 70 [.c (.s w3)] (.c (.i f))) :
  AR 28 Tryz.f28 (cx w β n []) 0 (guYK r j o D) (REff w β ⟨.ag [.i i.op,.i i.d,.i i.s,.u i.im,.i f],[],none⟩) :=
 zah [] none [false,false,false,false,true] ([true]) [(17,2),(18,3),(19,2)] Tryz.func28 (zat rfl n) (by kernel_rfl) h (zab c0 (zab c1 (zab c2 (zac c3 (zab c4 (zac c5 (zab c6 (zac c7 (zab c8 zae)))))))))
theorem yayp (h:(!decide ((j:Int)<16)&&(!o==10&&(!o==11&&(o==12&&(decide (1<(↑(r+5):Int))&&(AC.isS (D[1]?.getD (.b false))&&Nat.blt 1 D.length&&true))))))=true) (c0:CO 66 [] [] (Eff.mk (.c (.sl 9 0 16 16)) [] (some (9,Ent.mk true A 0)))) (c1:Ok 38 [.c (.i o)] (.c (.b false))) (c2:Ok 34 [.c (.i o)] (.c (.b false))) (c3:pe (.c (.s (AC.asS (D[1]?.getD (.b false)))))=pe (.c (.s w1))) (c4:Ok 70 [.c (.s w1)] (.c (.i f))) :
  AR 28 Tryz.f28 (cx w β n []) 0 (guYK r j o D) (REff w β ⟨.ag [.i o,.i 0,.i 0,.u 0#64,.i f],[],none⟩) :=
 zah [] none [false,false,false,false,false,true] ([true]) [(21,2)] Tryz.func28 (zat rfl n) (by kernel_rfl) h (zab c0 (zab c1 (zab c2 (zac c3 (zab c4 zae)))))
theorem yawu (h:(!decide ((j:Int)<16)&&(!o==10&&(!o==11&&(!o==12&&true))))=true) (c0:CO 66 [] [] (Eff.mk (.c (.sl 9 0 16 16)) [] (some (9,Ent.mk true A 0)))) (c1:Ok 38 [.c (.i o)] (.c (.b false))) (c2:Ok 34 [.c (.i o)] (.c (.b false))) :
  AR 28 Tryz.f28 (cx w β n []) 0 (guYK r j o D) (REff w β ⟨.ag [.i o,.i 0,.i 0,.u 0#64,.i 0],[],none⟩) :=
 zah [] none [false,false,false,false,false,false] ([true]) [] Tryz.func28 (zat rfl n) (by kernel_rfl) h (zab c0 (zab c1 (zab c2 zae)))
end
section
abbrev yaok (t:ByteArray) (r j:Nat) (D:List AC):Kn:=⟨[(0,.c (.s t)),(4,.c (.sx 6 r)),(5,.c zco),(6,.c (.i (j:Int)))],[(6,Ent.mk true D 1)],51⟩
abbrev zoq (t:ByteArray) (r j:Nat) (D:List AC) (M:List Ins):Kn:=⟨[(0,.c (.s t)),(4,.c (.sx 6 r)),(5,.c (.sx 50 M.length)),(6,.c (.i (j:Int)))],[(6,Ent.mk true D 1),(50,Ent.mk true (pcell M) 5)],51⟩
variable {t x u:ByteArray} {r j n:Nat} {D:List AC} {C:Cx} {R:Ending→World→Prop} {i:Ins} {M:List Ins} {w:World} {β:Bs} {e:Int}
theorem yal5 (h:(decide (4096<(↑(ByteArray.size t):Int))&&true)=true) :
  Ok 11 [.c (.s t)] (.tu [.c zco,.c (.b false)]) :=
 zaf [true] ([]) [] Tryz.func11 rfl rfl rfl rfl (by kernel_rfl) h zae
theorem yao0 (h:(!decide (4096<(↑(ByteArray.size t):Int))&&true)=true) (c0:CO 27 [.c (.s t),.c (.y 10#8),.c (.i 66)] [] (Eff.mk (.c (.sx 6 r)) [] (some (6,Ent.mk true D 1)))) (lo:Kn.Low ⟨[(0,.c (.s t)),(4,.c (.sx 6 r)),(5,.c zco),(6,.c (.i 0))],[(6,Ent.mk true D 1)],51⟩) (hF:∀ k,C.F k→k<51) (z:AR 11 Tryz.f11 C 0 ⟨[(0,.c (.s t)),(4,.c (.sx 6 r)),(5,.c zco),(6,.c (.i 0))],[(6,Ent.mk true D 1)],51⟩ R) :
  BO 11 Tryz.f11 C [.c (.s t)] [] 0 R :=
 zai [false] ([true]) [] Tryz.func11 (by kernel_rfl) h (zab c0 zae) lo hF z
theorem yava (h:(decide ((↑(j+1):Int)<(r:Int))&&(decide ((j:Int)<(r:Int))&&(AC.isS (D[(j:Int).toNat*1]?.getD (.b false))&&Nat.blt ((j:Int).toNat*1) D.length&&true)))=true) (c0:pe (.c (.i (IntKind.i64.wrap ((j:Int)+1))))=pe (.c (.i (↑(j+1):Int)))) (c1:pe (.c (.s (AC.asS (D[(j:Int).toNat*1]?.getD (.b false)))))=pe (.c (.s x))) (c2:Ok 28 [.c (.s x)] (.ag i.cs)) (c3:Eff.mk (.c (.sx 63 1)) [] (some (51+5+7,Ent.mk true i.cs 5))=Eff.mk (.c (.sx 63 1)) [] (some (63,Ent.mk true (pcell [i]) 5))) (c4:pe (.c (.i (IntKind.i64.wrap ((j:Int)+1))))=pe (.c (.i (↑(j+1):Int)))) (lo:Kn.Low ⟨[(0,.c (.s t)),(4,.c (.sx 6 r)),(5,.c (.sx 63 1)),(6,.c (.i (↑(j+1):Int)))],[(6,Ent.mk true D 1),(63,Ent.mk true (pcell [i]) 5)],64⟩) (hF:∀ k,C.F k→k<64) (z:AR 11 Tryz.f11 C 0 ⟨[(0,.c (.s t)),(4,.c (.sx 6 r)),(5,.c (.sx 63 1)),(6,.c (.i (↑(j+1):Int)))],[(6,Ent.mk true D 1),(63,Ent.mk true (pcell [i]) 5)],64⟩ R) :
  AR 11 Tryz.f11 C 0 (yaok t r j D) R :=
 zai [true] ([true]) [(6,1),(8,4),(8,7),(7,1)] Tryz.func11 (by kernel_rfl) h (zac c0 (zac c1 (zab c2 (zac c3 (zac c4 zae))))) lo hF z
theorem yas4 (h:(decide ((↑(j+1):Int)<(r:Int))&&(decide ((j:Int)<(r:Int))&&(AC.isS (D[(j:Int).toNat*1]?.getD (.b false))&&Nat.blt ((j:Int).toNat*1) D.length&&(Nat.beq (M.length*5) (pcell M).length&&decide (M.length+1≤137438953472)&&Nat.blt 0 M.length&&true))))=true) (c0:pe (.c (.i (IntKind.i64.wrap ((j:Int)+1))))=pe (.c (.i (↑(j+1):Int)))) (c1:pe (.c (.s (AC.asS (D[(j:Int).toNat*1]?.getD (.b false)))))=pe (.c (.s x))) (c2:Ok 28 [.c (.s x)] (.ag i.cs)) (c3:Eff.mk (.c (.sx 63 (M.length+1))) [(50,[])] (some (51+5+7,Ent.mk true (pcell M++((splice (rows 1 [.i 0,.i 0,.i 0,.u 0#64,.i 0]) 0 i.cs).drop 0).take 5) 5))=Eff.mk (.c (.sx 63 (M.length+1))) [(50,[])] (some (63,Ent.mk true (pcell (M++[i])) 5))) (c4:pe (.c (.i (IntKind.i64.wrap ((j:Int)+1))))=pe (.c (.i (↑(j+1):Int)))) (lo:Kn.Low ⟨[(0,.c (.s t)),(4,.c (.sx 6 r)),(5,.c (.sx 63 (M.length+1))),(6,.c (.i (↑(j+1):Int)))],[(6,Ent.mk true D 1),(63,Ent.mk true (pcell (M++[i])) 5)],64⟩) (hF:∀ k,C.F k→k<64) (z:AR 11 Tryz.f11 C 0 ⟨[(0,.c (.s t)),(4,.c (.sx 6 r)),(5,.c (.sx 63 (M.length+1))),(6,.c (.i (↑(j+1):Int)))],[(6,Ent.mk true D 1),(63,Ent.mk true (pcell (M++[i])) 5)],64⟩ R) :
  AR 11 Tryz.f11 C 0 (zoq t r j D M) R :=
 zai [true] ([true]) [(6,1),(8,4),(8,7),(7,1)] Tryz.func11 (by kernel_rfl) h (zac c0 (zac c1 (zab c2 (zac c3 (zac c4 zae))))) lo hF z
theorem yarf (h:(!decide ((↑(j+1):Int)<(r:Int))&&true)=true) (c0:pe (.c (.i (IntKind.i64.wrap ((j:Int)+1))))=pe (.c (.i (↑(j+1):Int)))) (c1:Ok 29 [.c zco] (.c (.i 2))) :
  AR 11 Tryz.f11 (cx w β n []) 0 (yaok t r j D) (REff w β ⟨.tu [.c zco,.c (.b false)],[],none⟩) :=
 zah [] none [false,true,true] ([true]) [(6,1)] Tryz.func11 (zat rfl n) (by kernel_rfl) h (zac c0 (zab c1 zae))
theorem yaur (h:(!decide ((↑(j+1):Int)<(r:Int))&&(e != 0&&true))=true) (c0:pe (.c (.i (IntKind.i64.wrap ((j:Int)+1))))=pe (.c (.i (↑(j+1):Int)))) (c1:CO 29 [.c (.sx 50 M.length)] [(50,Ent.mk true (pcell M) 5)] (pe (.c (.i e)))) :
  AR 11 Tryz.f11 (cx w β n []) 0 (zoq t r j D M) (REff w β ⟨.tu [.c zco,.c (.b false)],[],none⟩) :=
 zah [] none [false,true,true] ([true]) [(6,1)] Tryz.func11 (zat rfl n) (by kernel_rfl) h (zac c0 (zab c1 zae))
theorem yasq (h:(!decide ((↑(j+1):Int)<(r:Int))&&(!ByteArray.toList u==ByteArray.toList t&&true))=true) (c0:pe (.c (.i (IntKind.i64.wrap ((j:Int)+1))))=pe (.c (.i (↑(j+1):Int)))) (c1:CO 29 [.c (.sx 50 M.length)] [(50,Ent.mk true (pcell M) 5)] (pe (.c (.i 0)))) (c2:CO 14 [.c (.sx 50 M.length)] [(50,Ent.mk true (pcell M) 5)] (pe (.c (.s u)))) :
  AR 11 Tryz.f11 (cx w β n []) 0 (zoq t r j D M) (REff w β ⟨.tu [.c zco,.c (.b false)],[],none⟩) :=
 zah [] none [false,false,true] ([true]) [(6,1)] Tryz.func11 (zat rfl n) (by kernel_rfl) h (zac c0 (zab c1 (zab c2 zae)))
theorem yatg (h:(!decide ((↑(j+1):Int)<(r:Int))&&(!!ByteArray.toList u==ByteArray.toList t&&true))=true) (c0:pe (.c (.i (IntKind.i64.wrap ((j:Int)+1))))=pe (.c (.i (↑(j+1):Int)))) (c1:CO 29 [.c (.sx 50 M.length)] [(50,Ent.mk true (pcell M) 5)] (pe (.c (.i 0)))) (c2:CO 14 [.c (.sx 50 M.length)] [(50,Ent.mk true (pcell M) 5)] (pe (.c (.s u)))) (hk:EKeys n [] (some 50) ⟨.tu [.c (.sx 50 M.length),.c (.b true)],[],some (50,Ent.mk true (pcell M) 5)⟩) :
  AR 11 Tryz.f11 (cx w β n []) 0 (zoq t r j D M) (REff w β ⟨.tu [.c (.sx 50 M.length),.c (.b true)],[],some (50,Ent.mk true (pcell M) 5)⟩) :=
 zah [] (some 50) [false,false,false] ([true]) [(6,1)] Tryz.func11 hk (by kernel_rfl) h (zac c0 (zab c1 (zab c2 zae)))
end
end Go.Proofs.YtkigmocchaikgabGreatDoor
namespace Go.Proofs.YtkigmocchaikgabGreatDoor
open Go.RowKit Go.Lib
theorem zig (l:List UInt8):(bs l).toList=l:=by rw [zep]
theorem yaxg {P:Program} {f:FuncId} {fn:Func} {args:List AV} {cs cs':List AC} {v:AV} (hf:P.funcs[f]?=some fn) (hb:fn.body.isSome=true) (hN:Nat.ble args.length fn.ntmps=true) (ha:(zev args).all (fun k=>Nat.blt k 1)=true) (hcs:cs.flatMap AC.ks=[]) (hne:cs≠[]) (hv:v.ks=[]) (hc:cs'.flatMap AC.ks=[])
  (h:∀ w β,EKeys 1 [0] none ⟨v,[(0,cs')],none⟩→ART P f (cx w β 1 [0]) fn.ntmps [.code (zdp fn)] (Kn.start args [(0,⟨true,cs,0⟩)] 1) (REff w β ⟨v,[(0,cs')],none⟩)):CallOK P ⟨f,args,[(0,⟨true,cs,0⟩)],⟨v,[(0,cs')],none⟩⟩:=by
 have e:EKeys 1 [0] none ⟨v,[(0,cs')],none⟩:=by
  refine ⟨fun k hk=>?_,fun k cs hm=>?_,fun _ _ h'=>(nomatch h'),fun k h=>?_,fun _ h=>(nomatch h)⟩
  ·simp only at hk;rw [hv] at hk;cases hk
  ·have:=List.mem_singleton.1 hm;injection this with _ h2;subst h2;exact hc
  ·rw [List.mem_singleton.1 h];decide
 have hB:Begin args [(0,⟨true,cs,0⟩)] 1:=by
  refine ⟨fun v hv k hk=>?_,fun k e he=>?_⟩
  ·have h2:=List.all_eq_true.1 ha k (List.mem_flatMap.2 ⟨v,hv,hk⟩)
   simpa using h2
  ·obtain ⟨rfl,rfl⟩:=zbh he
   exact ⟨by decide,fun c hc j hj=>(ze1 hcs hc hj).elim⟩
 refine zm4 [0] none hf hb hN hB (fun k hk=>?_) (fun _ _ h'=>(nomatch h')) (fun _ h=>(nomatch h)) e (fun k cs' hm=>?_) (fun k en h1 h2=>?_) fun w β _=>h w β e
 ·simp only at hk;rw [hv] at hk;cases hk
 ·have:=List.mem_singleton.1 hm;injection this with h1 h2;subst h1
  exact ⟨⟨true,cs,0⟩,rfl,rfl,hne⟩
 ·obtain ⟨rfl,_⟩:=zbh h1;exact List.mem_singleton.2 rfl
theorem yban {t:ByteArray} (ht:t.size≤4096) (i:Ins):CallOK Tryz.prog ⟨67,[.c (.s t),.c (.w 0)],[(0,⟨true,i.cs,0⟩)],⟨.tu [],[(0,(zoy i t.data.toList).cs)],none⟩⟩:=by
 refine yaxg Tryz.func67 rfl rfl rfl rfl (by simp [Ins.cs]) rfl rfl fun w β hk=>?_
 unfold zoy at hk ⊢
 by_cases h0:0<t.size
 ·have b0:=yax0 t 114 h0
  have d0:decide (0<(t.size:Int))=true:=decide_eq_true (by omega)
  by_cases h:t.data.toList.head?=some 114
  ·rw [if_pos h] at hk ⊢
   rw [decide_eq_true h] at b0
   exact yazs (zaa d0 (zaa (decide_eq_true h0) (zaa b0 rfl))) (yaai ht) hk
  ·rw [if_neg h] at hk ⊢
   rw [decide_eq_false h] at b0
   exact yayu (zaa d0 (zaa (decide_eq_true h0) (zaa (zad b0) rfl))) (zhk ht) hk
 ·have hl:t.data.toList=[]:=List.length_eq_zero_iff.1 (by rw [zdq];omega)
  have h:¬ t.data.toList.head?=some 114:=by rw [hl];simp
  rw [if_neg h] at hk ⊢
  exact yayy (zaa (zad (decide_eq_false (by omega))) rfl) (zhk ht) hk
theorem yazf {t:ByteArray} (ht:t.size≤4096) (i:Ins) (K:Nat):CallOK Tryz.prog ⟨67,[.c (.s t),.c (.w K)],[(K,⟨true,i.cs,0⟩)],⟨.tu [],[(K,(zoy i t.data.toList).cs)],none⟩⟩:=by
 refine ((yban ht i).ren (swp 0 K) (zbl 0 K)).congr ?_
 unfold CallRec.ren Eff.ren renH
 simp only [List.map_cons,List.map_nil,Option.map_none,Ent.ren,AV.ren,AC.ren,zel,Ins.cs]
def zqq (l:List UInt8):Nat→Int
 | 0=>0
 | j+1=>if 1≤j∧nmL (j - 1)=l then (j:Int) else zqq l j
theorem zth {l:List UInt8} (h:∀ k,k<15→nmL k≠l):∀ j,j≤16→zqq l j=0
 | 0,_=>rfl
 | j+1,hj=>by
  unfold zqq
  rw [if_neg (fun e=>h (j - 1) (by omega) e.2),zth h j (by omega)]
theorem yajp:∀ k,k<15→zqq (nmL k) 16=(k:Int)+1:=by decide
theorem yasn (l:List UInt8):zqq l 16=opP l:=by
 unfold opP
 cases h:zjx l with
 | some k =>
  obtain ⟨hk,rfl⟩:=zhn h
  exact yajp k hk
 | none=>exact zth (fun k hk e=>by rw [← e,zlp k hk] at h;cases h) 16 (Nat.le_refl _)
theorem yank (l:List UInt8):0≤opP l∧opP l≤15:=by
 unfold opP
 cases h:zjx l with
 | some k =>
  obtain ⟨hk,_⟩:=zhn h
  simp only
  omega
 | none=>simp
theorem wd (ws:List (List UInt8)) {k:Nat} (hk:k<5):(wcell ws++E5)[k]?=some (.s (bs (ws.getD k []))):=by
 by_cases h:k<ws.length
 ·rw [List.getElem?_append_left (by rw [zhc];exact h),List.getD_eq_getElem?_getD]
  unfold wcell
  rw [List.getElem?_map,List.getElem?_eq_getElem h];rfl
 ·have e:ws.getD k []=[]:=by rw [List.getD_eq_getElem?_getD,List.getElem?_eq_none (by omega)];rfl
  rw [List.getElem?_append_right (by rw [zhc];omega),e]
  show (List.replicate 5 (AC.s ⟨#[]⟩))[k - (wcell ws).length]?=_
  rw [List.getElem?_replicate,if_pos (by omega)]
abbrev guK (ws:List (List UInt8)) (j:Nat) (o:Int):Kn:=guYK ws.length j o (wcell ws++E5)
theorem ybau (ws:List (List UInt8)):(wcell ws++E5).flatMap AC.ks=[]:=by rw [List.flatMap_append,zdh];rfl
theorem yajh (ws:List (List UInt8)) (j:Nat) (o:Int):Kn.Low (guK ws j o):=zg2 rfl rfl ⟨rfl,ybau ws,rfl,trivial⟩
theorem yare (ws:List (List UInt8)) {k:Nat} (hk:k<5):(AC.isS ((wcell ws++E5)[k]?.getD (.b false))&&Nat.blt k (wcell ws++E5).length)=true:=by
 rw [wd ws hk]
 refine zaa rfl ?_
 rw [List.length_append]
 simp;omega
theorem yath (ws:List (List UInt8)) {k:Nat} (hk:k<5):pe (.c (.s (AC.asS ((wcell ws++E5)[k]?.getD (.b false)))))=pe (.c (.s (bs (ws.getD k [])))):=by rw [wd ws hk];rfl
theorem yap4 (ws:List (List UInt8)) {C:Cx} {R:Ending→World→Prop} (hF:∀ k,C.F k→k<8) (z:AR 28 Tryz.f28 C 0 (guK ws 16 (opP (ws.getD 0 []))) R):∀ n j,j+n=16→1≤j→AR 28 Tryz.f28 C 0 (guK ws j (zqq (ws.getD 0 []) j)) R
 | 0,j,hj,_=>by
  obtain rfl:j=16:=by omega
  rw [yasn];exact z
 | n+1,j,hj,h1=>by
  obtain ⟨k,rfl⟩:∃ k,j=k+1:=⟨j - 1,by omega⟩
  have hk:k<15:=by omega
  have d0:decide (((k+1:Nat):Int)<16)=true:=decide_eq_true (by omega)
  have dr:decide (0<(((ws.length+5:Nat)):Int))=true:=decide_eq_true (by omega)
  have e0:0+((k+1:Nat):Int).toNat*1=k+1:=by omega
  have g1:(AC.isS (nmC[0+((k+1:Nat):Int).toNat*1]?.getD (.b false))&&Nat.blt (0+((k+1:Nat):Int).toNat*1) nmC.length)=true:=by
   rw [e0,yai6 hk,yalv]
   refine zaa rfl ?_
   simp;omega
  have g2:pe (.c (.s (AC.asS (nmC[0+((k+1:Nat):Int).toNat*1]?.getD (.b false)))))=pe (.c (.s (bs (nmL k)))):=by rw [e0,yai6 hk];rfl
  have ih:=yap4 ws hF z n (k+1+1) (by omega) (by omega)
  have es:zqq (ws.getD 0 []) (k+1+1)=if nmL k=ws.getD 0 [] then ((k+1:Nat):Int) else zqq (ws.getD 0 []) (k+1):=by
   show (if 1≤k+1∧nmL (k+1 - 1)=ws.getD 0 [] then ((k+1:Nat):Int) else zqq (ws.getD 0 []) (k+1))=_
   simp
  rw [es] at ih
  by_cases h:nmL k=ws.getD 0 []
  ·rw [if_pos h] at ih
   exact yaxm (zaa d0 (zaa d0 (zaa g1 (zaa dr (zaa (yare ws (by decide)) (zaa (by rw [zig,zig,h];simp) rfl)))))) (zcf 9) (zcf 12) g2 (yath ws (by decide)) (ze3 (by omega)) (yajh _ _ _) hF ih
  ·rw [if_neg h] at ih
   exact yax1 (zaa d0 (zaa d0 (zaa g1 (zaa dr (zaa (yare ws (by decide)) (zaa (zad (by rw [zig,zig];exact beq_eq_false_iff_ne.2 h)) rfl)))))) (zcf 9) (zcf 12) g2 (yath ws (by decide)) (ze3 (by omega)) (yajh _ _ _) hF ih
theorem yba7 (ws:List (List UInt8)) (hs:∀ k,(bs (ws.getD k [])).size≤4096) {w:World} {β:Bs} {n:Nat}:AR 28 Tryz.f28 (cx w β n []) 0 (guK ws 16 (opP (ws.getD 0 []))) (REff w β ⟨.ag (yaak ws).cs,[],none⟩):=by
 have d0:(!decide (((16:Nat):Int)<16))=true:=rfl
 have dr:∀ k:Nat,k<5→decide ((k:Int)<(((ws.length+5:Nat)):Int))=true:=fun k h=>decide_eq_true (by omega)
 have g:∀ k,k<5→_:=fun k h=>yare ws h
 have p:∀ k,k<5→_:=fun k h=>yath ws h
 have vR:∀ k,Ok 68 [.c (.s (bs (ws.getD k [])))] (.c (.i (regP (ws.getD k [])))):=fun k=>yaai (hs k)
 have vS:∀ k,Ok 70 [.c (.s (bs (ws.getD k [])))] (.c (.i (zgk (ws.getD k [])))):=fun k=>yabs (hs k)
 have vV:∀ k,Ok 69 [.c (.s (bs (ws.getD k [])))] (.c (.u (valP (ws.getD k [])))):=fun k=>zhk (hs k)
 have hr:=yank (ws.getD 0 [])
 unfold yaak
 generalize opP (ws.getD 0 [])=o at *
 have cR:=zdv o
 have cB:=zao o
 unfold yak9
 by_cases h9:1≤o∧o≤9
 ·rw [if_pos h9]
  rw [decide_eq_true h9.1,decide_eq_true h9.2] at cR
  exact yay3 (zaa d0 (zaa (dr 1 (by decide)) (zaa (g 1 (by decide)) (zaa (dr 2 (by decide)) (zaa (g 2 (by decide)) rfl))))) (zcf 9) cR (p 1 (by decide)) (vR 1) (p 2 (by decide)) (yazf (hs 2) ⟨o,regP (ws.getD 1 []),0,0,0⟩ 6)
 ·rw [if_neg h9]
  have cR2:Ok 38 [.c (.i o)] (.c (.b false)):=zam cR (by
   rcases Int.lt_or_le o 1 with h | h
   ·rw [decide_eq_false (by omega)];rfl
   ·rw [decide_eq_false (show ¬ o≤9 by omega),Bool.and_false])
  by_cases h10:o=10
  ·subst h10
   rw [if_pos rfl]
   exact yay6 (zaa d0 (zaa rfl (zaa (dr 1 (by decide)) (zaa (g 1 (by decide)) (zaa (dr 2 (by decide)) (zaa (g 2 (by decide)) (zaa (dr 3 (by decide)) (zaa (g 3 (by decide)) (zaa (dr 4 (by decide)) (zaa (g 4 (by decide)) rfl)))))))))) (zcf 9) cR2 (p 1 (by decide)) (vV 1) (p 2 (by decide)) (vR 2) (p 3 (by decide)) (vR 3) (p 4 (by decide)) (vS 4)
  ·rw [if_neg h10]
   have f10:(!(o==10))=true:=by simp [h10]
   by_cases h11:o=11
   ·subst h11
    rw [if_pos rfl]
    exact yayt (zaa d0 (zaa f10 (zaa rfl (zaa (dr 1 (by decide)) (zaa (g 1 (by decide)) (zaa (dr 2 (by decide)) (zaa (g 2 (by decide)) (zaa (dr 3 (by decide)) (zaa (g 3 (by decide)) (zaa (dr 4 (by decide)) (zaa (g 4 (by decide)) rfl))))))))))) (zcf 9) cR2 (p 1 (by decide)) (vV 1) (p 2 (by decide)) (vR 2) (p 3 (by decide)) (vS 3) (p 4 (by decide)) (vR 4)
   ·rw [if_neg h11]
    have f11:(!(o==11))=true:=by simp [h11]
    by_cases h13:o=13∨o=14
    ·rw [if_pos h13]
     have cB2:Ok 34 [.c (.i o)] (.c (.b true)):=zam cB (by rcases h13 with e | e <;> rw [e] <;> rfl)
     exact yaxb (i:=zoy ⟨o,regP (ws.getD 1 []),0,0,0⟩ (ws.getD 2 [])) (zaa d0 (zaa f10 (zaa f11 (zaa (dr 1 (by decide)) (zaa (g 1 (by decide)) (zaa (dr 2 (by decide)) (zaa (g 2 (by decide)) (zaa (dr 3 (by decide)) (zaa (g 3 (by decide)) rfl))))))))) (zcf 9) cR2 cB2 (p 1 (by decide)) (vR 1) (p 2 (by decide)) (yazf (hs 2) ⟨o,regP (ws.getD 1 []),0,0,0⟩ 6) (p 3 (by decide)) (vS 3)
    ·rw [if_neg h13]
     have cB2:Ok 34 [.c (.i o)] (.c (.b false)):=zam cB (by
      have e13:(o==13)=false:=beq_eq_false_iff_ne.2 fun e=>h13 (Or.inl e)
      have e14:(o==14)=false:=beq_eq_false_iff_ne.2 fun e=>h13 (Or.inr e)
      rw [e13,e14];rfl)
     by_cases h12:o=12
     ·subst h12
      rw [if_pos rfl]
      exact yayp (zaa d0 (zaa f10 (zaa f11 (zaa rfl (zaa (dr 1 (by decide)) (zaa (g 1 (by decide)) rfl)))))) (zcf 9) cR2 cB2 (p 1 (by decide)) (vS 1)
     ·rw [if_neg h12]
      exact yawu (zaa d0 (zaa f10 (zaa f11 (zaa (by simp [h12]) rfl)))) (zcf 9) cR2 cB2
theorem yaaj {l:List UInt8} {c:UInt8} {k:Nat} (j:Nat):((cutL c k [] l).getD j []).length≤l.length:=by
 rw [List.getD_eq_getElem?_getD]
 cases h:(cutL c k [] l)[j]? with
 | none=>simp
 | some x=>exact zx6 c l [] k l.length (by simp) x (List.mem_of_getElem? h)
theorem yacm {t:ByteArray} (ht:t.size≤4096):Ok 28 [.c (.s t)] (.ag (zdu t.data.toList).cs):=by
 refine zgr Tryz.func28 rfl rfl (zwa rfl) rfl (fun _ _ h=>(nomatch h)) fun w β=>?_
 have hc:=yaqx ht 32 (k:=5) (by omega) 2
 have hl:=zhp 32 t.data.toList [] 6
 have h0:0<(cutL 32 6 [] t.data.toList).length:=List.length_pos_iff.2 (znq 32 5 _ _)
 have hs:∀ k,(bs ((cutL 32 6 [] t.data.toList).getD k [])).size≤4096:=fun k=>by
  rw [zdw]
  have:=yaaj (l:=t.data.toList) (c:=32) (k:=6) k
  rw [zdq] at this
  omega
 unfold zdu
 generalize cutL 32 6 [] t.data.toList=ws at *
 have g0:(Nat.beq (ws.length*1) (wcell ws).length&&decide (ws.length+5≤137438953472)&&Nat.blt 0 ws.length)=true:=by
  rw [zhc,Nat.mul_one,Nat.beq_refl,decide_eq_true (by omega)]
  simpa using h0
 exact yao1 (zaa g0 rfl) hc rfl (yajh ws 1 0) (fun k hk=>absurd hk (Nat.not_lt_zero k)) (yap4 ws (fun k hk=>absurd hk (Nat.not_lt_zero k)) (yba7 ws hs) 15 1 rfl (Nat.le_refl _))
theorem p_sx {f:Nat} {L:List Ins} {v:AV} (h:∀ c,CallOK Tryz.prog ⟨f,[.c (.sl 0 0 L.length c)],pH L,⟨v,[],none⟩⟩) (hv:∀ ρ,v.ren ρ=v) (K:Nat) (b:Bool) (r:Nat):CallOK Tryz.prog ⟨f,[.c (.sx K L.length)],[(K,⟨b,pcell L,r⟩)],⟨v,[],none⟩⟩:=by
 refine CallOK.of_cap (xs:=[]) (bs:=[]) fun c=>?_
 refine CallOK.more (H:=[(K,⟨false,pcell L,0⟩)]) ?_ ⟨fun j en hj=>?_⟩
 ·refine ((h c).ren (swp 0 K) (zbl 0 K)).congr ?_
  unfold CallRec.ren Eff.ren renH
  have e:AV.ren (swp 0 K) (.c (.sl 0 0 L.length c))=.c (.sl K 0 L.length c):=by simp only [AV.ren,AC.ren,zel]
  simp only [List.map_cons,List.map_nil,Option.map_none,Ent.ren,zck _ (zaj L),e,zel,hv,List.nil_append]
 ·obtain ⟨rfl,rfl⟩:=zbh hj
  exact ⟨⟨b,pcell L,r⟩,by rw [zav,if_pos rfl],rfl,fun h=>(by cases h),Or.inl rfl⟩
theorem yaud (t:ByteArray) (r j:Nat) (ws:List (List UInt8)):Kn.Low (yaok t r j (wcell ws)):=zg2 rfl rfl ⟨zdh ws,trivial⟩
theorem yaiy (t:ByteArray) (r j:Nat) (ws:List (List UInt8)) (M:List Ins):Kn.Low (zoq t r j (wcell ws) M):=zg2 rfl rfl ⟨zdh ws,zaj M,trivial⟩
abbrev cfYK (t:ByteArray) (r j q:Nat) (D:List AC) (M:List Ins):Kn:=⟨[(0,.c (.s t)),(4,.c (.sx 6 r)),(5,.c (.sx 63 q)),(6,.c (.i (j:Int)))],[(6,Ent.mk true D 1),(63,Ent.mk true (pcell M) 5)],64⟩
theorem yaj8 (t:ByteArray) (r j q:Nat) (ws:List (List UInt8)) (M:List Ins):Kn.Low (cfYK t r j q (wcell ws) M):=zg2 rfl rfl ⟨zdh ws,zaj M,trivial⟩
theorem yap6 (t:ByteArray) (r j q:Nat) (ws:List (List UInt8)) (M:List Ins) (hq:q=M.length):(cfYK t r j q (wcell ws) M).ren (swp 50 63) 51=zoq t r j (wcell ws) M:=by
 subst hq
 unfold Kn.ren renH
 simp only [List.map_cons,List.map_nil,Ent.ren,zck _ (zdh ws),zck _ (zaj M)]
 rfl
theorem yavu {ws:List (List UInt8)} {j:Nat} (h:j<ws.length):(wcell ws)[(j:Int).toNat*1]?=some (.s (bs (ws.getD j []))):=by
 rw [Int.toNat_natCast,Nat.mul_one]
 unfold wcell
 rw [List.getElem?_map,List.getD_eq_getElem?_getD,List.getElem?_eq_getElem h];rfl
theorem yazv {ws:List (List UInt8)} {j:Nat} (h:j<ws.length):(AC.isS ((wcell ws)[(j:Int).toNat*1]?.getD (.b false))&&Nat.blt ((j:Int).toNat*1) (wcell ws).length)=true:=by
 rw [yavu h,zhc]
 refine zaa rfl ?_
 simpa using h
theorem yayq {ws:List (List UInt8)} {j:Nat} (h:j<ws.length):pe (.c (.s (AC.asS ((wcell ws)[(j:Int).toNat*1]?.getD (.b false)))))=pe (.c (.s (bs (ws.getD j [])))):=by rw [yavu h];rfl
theorem yaju (ws:List (List UInt8)) {j:Nat} (h:j<ws.length):(ws.take j).map zdu++[zdu (ws.getD j [])]=(ws.take (j+1)).map zdu:=by
 rw [List.take_add_one,List.map_append,List.getElem?_eq_getElem h,List.getD_eq_getElem?_getD,List.getElem?_eq_getElem h];rfl
theorem zuw (i:Ins):i.cs=pcell [i]:=by simp [pcell]
theorem yaqp {t:ByteArray} {ws:List (List UInt8)} (hs:∀ k,(bs (ws.getD k [])).size≤4096) (h66:ws.length≤66) {C:Cx} {R:Ending→World→Prop} (hF:∀ k,C.F k→k<0) (z:AR 11 Tryz.f11 C 0 (zoq t ws.length (ws.length - 1) (wcell ws) (ws.dropLast.map zdu)) R):∀ n j,j+n+1=ws.length→1≤j→AR 11 Tryz.f11 C 0 (zoq t ws.length j (wcell ws) ((ws.take j).map zdu)) R
 | 0,j,hj,_=>by
  obtain rfl:j=ws.length - 1:=by omega
  rw [← List.dropLast_eq_take];exact z
 | n+1,j,hj,h1=>by
  have hl:((ws.take j).map zdu).length=j:=by rw [List.length_map,List.length_take];omega
  have d0:decide (((j+1:Nat):Int)<(ws.length:Int))=true:=decide_eq_true (by omega)
  have d1:decide ((j:Int)<(ws.length:Int))=true:=decide_eq_true (by omega)
  have hjw:j<ws.length:=by omega
  have da:(Nat.beq (((ws.take j).map zdu).length*5) (pcell ((ws.take j).map zdu)).length&&decide (((ws.take j).map zdu).length+1≤137438953472)&&Nat.blt 0 ((ws.take j).map zdu).length)=true:=by
   rw [zau,Nat.beq_refl,hl,decide_eq_true (by omega)]
   simp;omega
  have hg:=yacm (hs j)
  refine yas4 (zaa d0 (zaa d1 (zaa (yazv hjw) (zaa da rfl)))) (ze3 (by omega)) (yayq hjw) hg ?_ (ze3 (by omega)) (yaj8 _ _ _ _ _ _) (fun k hk=>absurd (hF k hk) (Nat.not_lt_zero k)) ?_
  ·rw [yahb,← zuw];rfl
  ·have e:=yaju ws hjw
   refine ART.ren (swp 50 63) 51 (zsa 50 63) (yap6 _ _ _ _ _ _ (by simp)) (fun k hk=>absurd (hF k hk) (Nat.not_lt_zero k)) (yaiy _ _ _ _ _) ?_
   show AR 11 Tryz.f11 C 0 (zoq t ws.length (j+1) (wcell ws) ((ws.take j).map zdu++[zdu (bs (ws.getD j [])).data.toList])) R
   rw [show (bs (ws.getD j [])).data.toList=ws.getD j [] from rfl,e]
   exact yaqp hs h66 hF z n (j+1) (by omega) (by omega)
theorem yay4 {t:ByteArray} (ht:t.size≤4096) {C:Cx} {R:Ending→World→Prop} (hF:∀ k,C.F k→k<0)
  (zn:zhy t=[]→AR 11 Tryz.f11 C 0 (yaok t 1 0 (wcell (cutL 10 66 [] t.data.toList))) R)
  (zx:AR 11 Tryz.f11 C 0 (zoq t (cutL 10 66 [] t.data.toList).length ((cutL 10 66 [] t.data.toList).length - 1) (wcell (cutL 10 66 [] t.data.toList)) (zhy t)) R) :
  BO 11 Tryz.f11 C [.c (.s t)] [] 0 R:=by
 have hc:=yaqx ht 10 (k:=65) (by omega) 6
 have hl:=zhp 10 t.data.toList [] 66
 have h0:0<(cutL 10 66 [] t.data.toList).length:=List.length_pos_iff.2 (znq 10 65 _ _)
 have hs:∀ k,(bs ((cutL 10 66 [] t.data.toList).getD k [])).size≤4096:=fun k=>by
  rw [zdw]
  have:=yaaj (l:=t.data.toList) (c:=10) (k:=66) k
  rw [zdq] at this
  omega
 unfold zhy at zn zx
 generalize cutL 10 66 [] t.data.toList=ws at *
 refine yao0 (zaa (zad (decide_eq_false (by omega))) rfl) hc (yaud t ws.length 0 ws) (fun k hk=>absurd (hF k hk) (Nat.not_lt_zero k)) ?_
 by_cases h1:ws.length=1
 ·have e:ws.dropLast=[]:=List.length_eq_zero_iff.1 (by rw [List.length_dropLast];omega)
  rw [h1]
  exact zn (by rw [e];rfl)
 ·have hg:=yacm (hs 0)
  have d0:decide (((0+1:Nat):Int)<(ws.length:Int))=true:=decide_eq_true (by omega)
  have d1:decide (((0:Nat):Int)<(ws.length:Int))=true:=decide_eq_true (by omega)
  refine yava (j:=0) (zaa d0 (zaa d1 (zaa (yazv h0) rfl))) (ze3 (by omega)) (yayq h0) hg (by rw [zuw]) (ze3 (by omega)) (yaj8 _ _ _ _ _ _) (fun k hk=>absurd (hF k hk) (Nat.not_lt_zero k)) ?_
  refine ART.ren (swp 50 63) 51 (zsa 50 63) (yap6 _ _ _ _ _ _ rfl) (fun k hk=>absurd (hF k hk) (Nat.not_lt_zero k)) (yaiy _ _ _ _ _) ?_
  have e:=yaju ws h0
  have e2:[zdu (bs (ws.getD 0 [])).data.toList]=(ws.take 1).map zdu:=by rw [← e];rfl
  rw [e2]
  exact yaqp hs hl hF zx (ws.length - 2) 1 (by omega) (Nat.le_refl _)
theorem yavn (L:List Ins):EKeys 0 [] (some 50) ⟨.tu [.c (.sx 50 L.length),.c (.b true)],[],some (50,⟨true,pcell L,5⟩)⟩:=by
 refine ⟨fun k hk=>Or.inr ?_,fun _ _ hm=>(nomatch hm),fun k en' h'=>?_,fun _ h=>(nomatch h),fun k h=>⟨Nat.zero_le _,rfl⟩⟩
 ·rw [List.mem_singleton.1 hk]
 ·injection h' with h';injection h' with _ h';subst h';exact zaj L
theorem zz5 (M:List Ins):CallOK Tryz.prog ⟨29,[.c (.sx 50 M.length)],[(50,⟨true,pcell M,5⟩)],⟨.c (.i (zan M)),[],none⟩⟩:=p_sx (fun c=>zt1 M c) (fun _=>rfl) 50 true 5
theorem zr4 {t:ByteArray} {L:List Ins} (h:zym t=some L):CallOK Tryz.prog ⟨11,[.c (.s t)],[],⟨.tu [.c (.sx 50 L.length),.c (.b true)],[],some (50,⟨true,pcell L,5⟩)⟩⟩:=by
 unfold zym at h
 split at h
 ·rename_i ht
  split at h
  ·rename_i hL
   injection h with h
   subst h
   have h0:=znq 10 65 t.data.toList []
   have hl:=List.length_pos_iff.2 h0
   have h66:=zhp 10 t.data.toList [] 66
   refine zla Tryz.func11 rfl rfl rfl rfl (zaj _) fun w β _=>?_
   refine yay4 ht (fun k hk=>hk) (fun e=>?_) ?_
   ·rw [e] at hL;exact absurd hL.1 (by decide)
   ·have hc:=zz5 (zhy t)
    rw [hL.1] at hc
    refine yatg (u:=t) (zaa (zad (decide_eq_false (by omega))) (zaa (by simp) rfl)) (ze3 (by omega)) hc ?_ (yavn _)
    have:=p_sx (fun c=>zin c hL.1) (fun _=>rfl) 50 true 5
    rwa [show bs (shown (zhy t))=t from hL.2] at this
  ·cases h
 ·cases h
theorem zr1 {t:ByteArray} (h:zym t=none):Ok 11 [.c (.s t)] (.tu [.c zco,.c (.b false)]):=by
 unfold zym at h
 split at h
 ·rename_i ht
  split at h
  ·cases h
  ·rename_i hL
   have h0:=znq 10 65 t.data.toList []
   have hl:=List.length_pos_iff.2 h0
   have h66:=zhp 10 t.data.toList [] 66
   refine zgr Tryz.func11 rfl rfl (zwa rfl) rfl (fun _ _ h=>(nomatch h)) fun w β=>?_
   refine yay4 ht (fun k hk=>hk) (fun _=>?_) ?_
   ·exact yarf (zaa (zad (decide_eq_false (by omega))) rfl) (ze3 (by omega)) zqx
   ·have hc:=zz5 (zhy t)
    by_cases he:zan (zhy t)=0
    ·rw [he] at hc
     have hne:(⟨(shown (zhy t)).toArray⟩:ByteArray)≠t:=fun e=>hL ⟨he,e⟩
     refine yasq (u:=bs (shown (zhy t))) (zaa (zad (decide_eq_false (by omega))) (zaa (zad ?_) rfl)) (ze3 (by omega)) hc (p_sx (fun c=>zin c he) (fun _=>rfl) 50 true 5)
     rw [zig,zep]
     exact beq_eq_false_iff_ne.2 fun e=>hne ((congrArg (fun l=>bs l) e).trans (zw6 t))
    ·refine yaur (e:=zan (zhy t)) (zaa (zad (decide_eq_false (by omega))) (zaa (by simpa using he) rfl)) (ze3 (by omega)) hc
 ·exact yal5 (zaa (decide_eq_true (by omega)) rfl)
end Go.Proofs.YtkigmocchaikgabGreatDoor
namespace Go.Proofs.YtkigmocchaikgabGreatDoor
open Go.RowKit
section
variable {L L2:List Ins} {q c d j n:Nat} {C:Cx} {R:Ending→World→Prop} {u:Ins} {w:World} {β:Bs}
end
end Go.Proofs.YtkigmocchaikgabGreatDoor
namespace Go.Proofs.YtkigmocchaikgabGreatDoor
open Go.Shelf Go.RowKit Go.Sort Go.Lib
end Go.Proofs.YtkigmocchaikgabGreatDoor
namespace Go.Proofs.YtkigmocchaikgabGreatDoor
def g2:List Ins:=[⟨10,0,1,8#64,0⟩,⟨15,0,0,0#64,0⟩]
def memB:ByteArray:=zl6 ((List.range 64).map fun j=>AC.y (BitVec.ofNat 8 (j+1)))
def m1:Mach:=⟨1,⟨0#64,9#64,0#64,0#64,0#64,0#64⟩,⟨true,true,false,false,false,false⟩,memB,0⟩
end Go.Proofs.YtkigmocchaikgabGreatDoor
namespace Go.Proofs.YtkigmocchaikgabGreatDoor
open Go.Shelf Go.RowKit Go.Sort Go.Lib
theorem yahs {L:List Ins} {W:World} {b o c:Nat} (h:PAt W b o L) (hw:Gw W) (he:zan L=0):Calls Tryz.prog 18 #[.slice (some ⟨b,o,none⟩) L.length c] W fun e w'=>e=.returned (.tuple #[.string ⟨(shown L).toArray⟩,.int .i64 0])∧Below W.heap.size W w' :=
 zj4 h hw (zg4 he).1 he (zg4 he).2
end Go.Proofs.YtkigmocchaikgabGreatDoor
namespace Go.Proofs.YtkigmocchaikgabGreatDoor
open Go.RowKit
section
variable {L L2 L3 L4 L5 M:List Ins} {c p n j q r:Nat} {e tr t1:Int} {w:World} {β:Bs} {C:Cx} {R:Ending→World→Prop} {S S2 S3:List St}
end
end Go.Proofs.YtkigmocchaikgabGreatDoor
