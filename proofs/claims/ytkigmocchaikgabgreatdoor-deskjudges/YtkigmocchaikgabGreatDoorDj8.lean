import Derived.Test.YtkigmocchaikgabGreatDoorDj5
import Derived.Test.YtkigmocchaikgabGreatDoorProg
import Derived.Test.YtkigmocchaikgabGreatDoorDj2
import Derived.Test.YtkigmocchaikgabGreatDoorDj3
import Derived.Test.YtkigmocchaikgabGreatDoorDj7
import Derived.Test.YtkigmocchaikgabGreatDoorDj6
/- Ways of bodies, written by a program (ways.py): what each asks for, and hands back. -/
namespace Go.Proofs.YtkigmocchaikgabGreatDoor
open Go.RowKit
section
variable {a b p q n2:V4} {i1 i2 al i may r bl ov:Bool} {V:AV} {x kv km y:BitVec 64}
theorem zwv :
  Ok 39 [.ag a.cs] (.c (.b (eqb a.l a.h))) :=
 zaf [] ([]) [] Tryz.func39 rfl rfl rfl rfl (by kernel_rfl) rfl zae
theorem yad2 (h:(!i1&&true)=true) :
  Ok 128 [.ag a.cs,.c (.b i1),.ag b.cs,.c (.b i2)] (.tu [.ag [.u 0#64,.u 0#64,.u 0#64,.u 0#64],.ag [.u 0#64,.u 0#64,.u 0#64,.u 0#64],.c (.b false)]) :=
 zaf [true,true] ([]) [] Tryz.func128 rfl rfl rfl rfl (by kernel_rfl) h zae
theorem yaft (h:(!!i1&&(!i2&&true))=true) :
  Ok 128 [.ag a.cs,.c (.b i1),.ag b.cs,.c (.b i2)] (.tu [.ag [.u 0#64,.u 0#64,.u 0#64,.u 0#64],.ag [.u 0#64,.u 0#64,.u 0#64,.u 0#64],.c (.b false)]) :=
 zaf [false,true] ([]) [] Tryz.func128 rfl rfl rfl rfl (by kernel_rfl) h zae
theorem yads (h:(!!i1&&(!!i2&&true))=true) :
  Ok 128 [.ag a.cs,.c (.b i1),.ag b.cs,.c (.b i2)] (.tu [.ag a.cs,.ag b.cs,.c (.b true)]) :=
 zaf [false,false] ([]) [] Tryz.func128 rfl rfl rfl rfl (by kernel_rfl) h zae
theorem yai7 (h:(al&&(eqb a.l x&&true))=true) (c0:Ok 39 [.ag a.cs] (.c (.b al))) :
  Ok 127 [.ag a.cs,.c (.u x)] (.tu [.ag [.u 0#64,.u 0#64,.u 0#64,.u 0#64],.c (.b false)]) :=
 zaf [true,true] ([]) [] Tryz.func127 rfl rfl rfl rfl (by kernel_rfl) h (zab c0 zae)
theorem yaly {n:V4} (h:(al&&(!eqb a.l x&&(!eqb a.l x&&(eqb a.h x&&true))))=true) (c0:Ok 39 [.ag a.cs] (.c (.b al))) (c1:Ok 126 [.ag [.u a.v,.u a.m,.u a.l,.u (bsub a.h 1#64)]] (.tu [.ag n.cs,.c (.b i)])) :
  Ok 127 [.ag a.cs,.c (.u x)] (.tu [.ag n.cs,.c (.b i)]) :=
 zaf [true,false,false,true] ([]) [] Tryz.func127 rfl rfl rfl rfl (by kernel_rfl) h (zab c0 (zab c1 zae))
theorem yaj5 {n:V4} (h:(al&&(!eqb a.l x&&(!eqb a.l x&&(!eqb a.h x&&true))))=true) (c0:Ok 39 [.ag a.cs] (.c (.b al))) (c1:Ok 126 [.ag a.cs] (.tu [.ag n.cs,.c (.b i)])) :
  Ok 127 [.ag a.cs,.c (.u x)] (.tu [.ag n.cs,.c (.b i)]) :=
 zaf [true,false,false,false] ([]) [] Tryz.func127 rfl rfl rfl rfl (by kernel_rfl) h (zab c0 (zab c1 zae))
theorem yahd {n:V4} (h:(!al&&(eqb a.l x&&true))=true) (c0:Ok 39 [.ag a.cs] (.c (.b al))) (c1:Ok 126 [.ag [.u a.v,.u a.m,.u (badd a.l 1#64),.u a.h]] (.tu [.ag n.cs,.c (.b i)])) :
  Ok 127 [.ag a.cs,.c (.u x)] (.tu [.ag n.cs,.c (.b i)]) :=
 zaf [false,false,true] ([]) [] Tryz.func127 rfl rfl rfl rfl (by kernel_rfl) h (zab c0 (zab c1 zae))
theorem yakw {n:V4} (h:(!al&&(!eqb a.l x&&(eqb a.h x&&true)))=true) (c0:Ok 39 [.ag a.cs] (.c (.b al))) (c1:Ok 126 [.ag [.u a.v,.u a.m,.u a.l,.u (bsub a.h 1#64)]] (.tu [.ag n.cs,.c (.b i)])) :
  Ok 127 [.ag a.cs,.c (.u x)] (.tu [.ag n.cs,.c (.b i)]) :=
 zaf [false,false,false,true] ([]) [] Tryz.func127 rfl rfl rfl rfl (by kernel_rfl) h (zab c0 (zab c1 zae))
theorem yain {n:V4} (h:(!al&&(!eqb a.l x&&(!eqb a.h x&&true)))=true) (c0:Ok 39 [.ag a.cs] (.c (.b al))) (c1:Ok 126 [.ag a.cs] (.tu [.ag n.cs,.c (.b i)])) :
  Ok 127 [.ag a.cs,.c (.u x)] (.tu [.ag n.cs,.c (.b i)]) :=
 zaf [false,false,false,false] ([]) [] Tryz.func127 rfl rfl rfl rfl (by kernel_rfl) h (zab c0 (zab c1 zae))
theorem zx2 (h:(!may&&true)=true) (c0:Ok 129 [.ag [.u a.v,.u a.m],.ag [.u b.v,.u b.m]] (.tu [.ag [.u kv,.u km],.c (.b may)])) :
  Ok 78 [.ag a.cs,.ag b.cs] (.tu [.ag [.u 0#64,.u 0#64,.u 0#64,.u 0#64],.ag [.u 0#64,.u 0#64,.u 0#64,.u 0#64],.c (.b false)]) :=
 zaf [true] ([]) [] Tryz.func78 rfl rfl rfl rfl (by kernel_rfl) h (zab c0 zae)
theorem zwp {n:V4} (h:(!!may&&true)=true) (c0:Ok 129 [.ag [.u a.v,.u a.m],.ag [.u b.v,.u b.m]] (.tu [.ag [.u kv,.u km],.c (.b may)])) (c1:Ok 126 [.ag [.u kv,.u km,.u (bmax a.l b.l),.u (bmin a.h b.h)]] (.tu [.ag n.cs,.c (.b i)])) (c2:Ok 128 [.ag n.cs,.c (.b i),.ag n.cs,.c (.b i)] (.tu [.ag p.cs,.ag q.cs,.c (.b r)])) :
  Ok 78 [.ag a.cs,.ag b.cs] (.tu [.ag p.cs,.ag q.cs,.c (.b r)]) :=
 zaf [false] ([]) [] Tryz.func78 rfl rfl rfl rfl (by kernel_rfl) h (zab c0 (zab c1 (zab c2 zae)))
theorem yafp (h:(eqb b.h 0#64&&true)=true) :
  Ok 81 [.ag a.cs,.ag b.cs] (.tu [.ag [.u 0#64,.u 0#64,.u 0#64,.u 0#64],.ag [.u 0#64,.u 0#64,.u 0#64,.u 0#64],.c (.b false)]) :=
 zaf [true,true] ([]) [] Tryz.func81 rfl rfl rfl rfl (by kernel_rfl) h zae
theorem yadb (h:(!eqb b.h 0#64&&(eqb a.l 18446744073709551615#64&&true))=true) :
  Ok 81 [.ag a.cs,.ag b.cs] (.tu [.ag [.u 0#64,.u 0#64,.u 0#64,.u 0#64],.ag [.u 0#64,.u 0#64,.u 0#64,.u 0#64],.c (.b false)]) :=
 zaf [false,true] ([]) [] Tryz.func81 rfl rfl rfl rfl (by kernel_rfl) h zae
theorem yac0 {n:V4} (h:(!eqb b.h 0#64&&(!eqb a.l 18446744073709551615#64&&true))=true) (c0:Ok 126 [.ag [.u a.v,.u a.m,.u a.l,.u (bmin a.h (bsub b.h 1#64))]] (.tu [.ag n.cs,.c (.b i)])) (c1:Ok 126 [.ag [.u b.v,.u b.m,.u (bmax b.l (badd a.l 1#64)),.u b.h]] (.tu [.ag n2.cs,.c (.b i2)])) (c2:Ok 128 [.ag n.cs,.c (.b i),.ag n2.cs,.c (.b i2)] (.tu [.ag p.cs,.ag q.cs,.c (.b r)])) :
  Ok 81 [.ag a.cs,.ag b.cs] (.tu [.ag p.cs,.ag q.cs,.c (.b r)]) :=
 zaf [false,false] ([]) [] Tryz.func81 rfl rfl rfl rfl (by kernel_rfl) h (zab c0 (zab c1 (zab c2 zae)))
theorem zsg {n:V4} (c0:Ok 126 [.ag [.u a.v,.u a.m,.u (bmax a.l b.l),.u a.h]] (.tu [.ag n.cs,.c (.b i)])) (c1:Ok 126 [.ag [.u b.v,.u b.m,.u b.l,.u (bmin b.h a.h)]] (.tu [.ag n2.cs,.c (.b i2)])) (c2:Ok 128 [.ag n.cs,.c (.b i),.ag n2.cs,.c (.b i2)] (.tu [.ag p.cs,.ag q.cs,.c (.b r)])) :
  Ok 80 [.ag a.cs,.ag b.cs] (.tu [.ag p.cs,.ag q.cs,.c (.b r)]) :=
 zaf [] ([]) [] Tryz.func80 rfl rfl rfl rfl (by kernel_rfl) rfl (zab c0 (zab c1 (zab c2 zae)))
theorem zxw {n:V4} (h:(bl&&(al&&true))=true) (c0:Ok 39 [.ag b.cs] (.c (.b bl))) (c1:Ok 127 [.ag a.cs,.c (.u b.l)] (.tu [.ag n.cs,.c (.b i)])) (c2:Ok 39 [.ag a.cs] (.c (.b al))) (c3:Ok 127 [.ag b.cs,.c (.u a.l)] (.tu [.ag n2.cs,.c (.b i2)])) (c4:Ok 128 [.ag n.cs,.c (.b i),.ag n2.cs,.c (.b i2)] (.tu [.ag p.cs,.ag q.cs,.c (.b r)])) :
  Ok 77 [.ag a.cs,.ag b.cs] (.tu [.ag p.cs,.ag q.cs,.c (.b r)]) :=
 zaf [true,true] ([]) [] Tryz.func77 rfl rfl rfl rfl (by kernel_rfl) h (zab c0 (zab c1 (zab c2 (zab c3 (zab c4 zae)))))
theorem zu7 {n:V4} (h:(bl&&(!al&&true))=true) (c0:Ok 39 [.ag b.cs] (.c (.b bl))) (c1:Ok 127 [.ag a.cs,.c (.u b.l)] (.tu [.ag n.cs,.c (.b i)])) (c2:Ok 39 [.ag a.cs] (.c (.b al))) (c3:Ok 128 [.ag n.cs,.c (.b i),.ag b.cs,.c (.b true)] (.tu [.ag p.cs,.ag q.cs,.c (.b r)])) :
  Ok 77 [.ag a.cs,.ag b.cs] (.tu [.ag p.cs,.ag q.cs,.c (.b r)]) :=
 zaf [true,false] ([]) [] Tryz.func77 rfl rfl rfl rfl (by kernel_rfl) h (zab c0 (zab c1 (zab c2 (zab c3 zae))))
theorem zvh (h:(!bl&&(al&&true))=true) (c0:Ok 39 [.ag b.cs] (.c (.b bl))) (c1:Ok 39 [.ag a.cs] (.c (.b al))) (c2:Ok 127 [.ag b.cs,.c (.u a.l)] (.tu [.ag n2.cs,.c (.b i2)])) (c3:Ok 128 [.ag a.cs,.c (.b true),.ag n2.cs,.c (.b i2)] (.tu [.ag p.cs,.ag q.cs,.c (.b r)])) :
  Ok 77 [.ag a.cs,.ag b.cs] (.tu [.ag p.cs,.ag q.cs,.c (.b r)]) :=
 zaf [false,true] ([]) [] Tryz.func77 rfl rfl rfl rfl (by kernel_rfl) h (zab c0 (zab c1 (zab c2 (zab c3 zae))))
theorem zuv (h:(!bl&&(!al&&true))=true) (c0:Ok 39 [.ag b.cs] (.c (.b bl))) (c1:Ok 39 [.ag a.cs] (.c (.b al))) (c2:Ok 128 [.ag a.cs,.c (.b true),.ag b.cs,.c (.b true)] (.tu [.ag p.cs,.ag q.cs,.c (.b r)])) :
  Ok 77 [.ag a.cs,.ag b.cs] (.tu [.ag p.cs,.ag q.cs,.c (.b r)]) :=
 zaf [false,false] ([]) [] Tryz.func77 rfl rfl rfl rfl (by kernel_rfl) h (zab c0 (zab c1 (zab c2 zae)))
theorem zzl {n:Int} (h:(n==8&&true)=true) (c0:Ok 73 [] (.ag p.cs)) :
  Ok 83 [.c (.i n)] (.ag p.cs) :=
 zaf [true] ([]) [] Tryz.func83 rfl rfl rfl rfl (by kernel_rfl) h (zab c0 zae)
theorem zh9 {n:Int} (h:(!n==8&&(decide (0≤IntKind.i64.wrap (8*n))&&decide (IntKind.i64.wrap (8*n)≤64)&&true))=true) :
  Ok 83 [.c (.i n)] (.ag [.u 0#64,.u (bsub (bshl (1#64) (IntKind.i64.wrap (8*n)).toNat) 1#64),.u 0#64,.u (bsub (bshl (1#64) (IntKind.i64.wrap (8*n)).toNat) 1#64)]) :=
 zaf [false] ([]) [] Tryz.func83 rfl rfl rfl rfl (by kernel_rfl) h zae
theorem zwj {n:Int} (h:(n==1&&(n==1&&(decide (nv (BitVec.ofInt 64 (IntKind.i64.wrap (64 - IntKind.i64.wrap (8*n))))≤64)&&true)))=true) :
  Ok 101 [.c (.i n)] (.tu [.ag [.u 0#64,.u (bshr (18446744073709551615#64) (nv (BitVec.ofInt 64 (IntKind.i64.wrap (64 - IntKind.i64.wrap (8*n))))).toNat),.u 0#64,.u (bshr (18446744073709551615#64) (nv (BitVec.ofInt 64 (IntKind.i64.wrap (64 - IntKind.i64.wrap (8*n))))).toNat)],.c (.i 0)]) :=
 zaf [true,true] ([]) [] Tryz.func101 rfl rfl rfl rfl (by kernel_rfl) h zae
theorem zu9 {n:Int} (h:(!n==1&&(n==2&&(n==2&&(decide (nv (BitVec.ofInt 64 (IntKind.i64.wrap (64 - IntKind.i64.wrap (8*n))))≤64)&&true))))=true) :
  Ok 101 [.c (.i n)] (.tu [.ag [.u 0#64,.u (bshr (18446744073709551615#64) (nv (BitVec.ofInt 64 (IntKind.i64.wrap (64 - IntKind.i64.wrap (8*n))))).toNat),.u 0#64,.u (bshr (18446744073709551615#64) (nv (BitVec.ofInt 64 (IntKind.i64.wrap (64 - IntKind.i64.wrap (8*n))))).toNat)],.c (.i 0)]) :=
 zaf [false,true,true] ([]) [] Tryz.func101 rfl rfl rfl rfl (by kernel_rfl) h zae
theorem zv0 {n:Int} (h:(!n==1&&(!n==2&&(n==4&&(n==4&&(decide (nv (BitVec.ofInt 64 (IntKind.i64.wrap (64 - IntKind.i64.wrap (8*n))))≤64)&&true)))))=true) :
  Ok 101 [.c (.i n)] (.tu [.ag [.u 0#64,.u (bshr (18446744073709551615#64) (nv (BitVec.ofInt 64 (IntKind.i64.wrap (64 - IntKind.i64.wrap (8*n))))).toNat),.u 0#64,.u (bshr (18446744073709551615#64) (nv (BitVec.ofInt 64 (IntKind.i64.wrap (64 - IntKind.i64.wrap (8*n))))).toNat)],.c (.i 0)]) :=
 zaf [false,false,true,true] ([]) [] Tryz.func101 rfl rfl rfl rfl (by kernel_rfl) h zae
theorem zub {n:Int} (h:(!n==1&&(!n==2&&(!n==4&&(n==8&&(decide (nv (BitVec.ofInt 64 (IntKind.i64.wrap (64 - IntKind.i64.wrap (8*n))))≤64)&&true)))))=true) :
  Ok 101 [.c (.i n)] (.tu [.ag [.u 0#64,.u (bshr (18446744073709551615#64) (nv (BitVec.ofInt 64 (IntKind.i64.wrap (64 - IntKind.i64.wrap (8*n))))).toNat),.u 0#64,.u (bshr (18446744073709551615#64) (nv (BitVec.ofInt 64 (IntKind.i64.wrap (64 - IntKind.i64.wrap (8*n))))).toNat)],.c (.i 0)]) :=
 zaf [false,false,false,true] ([]) [] Tryz.func101 rfl rfl rfl rfl (by kernel_rfl) h zae
theorem yael (h:(!eqb y 0#64&&(!eqb y zero&&true))=true) :
  Ok 124 [.c (.u x),.c (.u y)] (.c (.b (decide (nv (18446744073709551615#64 / y)<nv x)))) :=
 zaf [true] ([]) [] Tryz.func124 rfl rfl rfl rfl (by kernel_rfl) h zae
theorem yage (h:(!!eqb y 0#64&&true)=true) :
  Ok 124 [.c (.u x),.c (.u y)] (.c (.b false)) :=
 zaf [false] ([]) [] Tryz.func124 rfl rfl rfl rfl (by kernel_rfl) h zae
theorem yad1 (h:(decide (nv (badd a.l b.l)<nv a.l)==decide (nv (badd a.h b.h)<nv a.h)&&true)=true) (c0:Ok 123 [.c (.i 2),.ag [.u a.v,.u a.m],.ag [.u b.v,.u b.m]] (.ag [.u kv,.u km])) (c1:Ok 126 [.ag [.u kv,.u km,.u (badd a.l b.l),.u (badd a.h b.h)]] (.tu [.ag p.cs,.c (.b i)])) :
  Ok 76 [.c (.i 2),.ag a.cs,.ag b.cs] (.ag p.cs) :=
 zaf [true,true,true] ([]) [] Tryz.func76 rfl rfl rfl rfl (by kernel_rfl) h (zab c0 (zab c1 zae))
theorem yafj (h:(!decide (nv (badd a.l b.l)<nv a.l)==decide (nv (badd a.h b.h)<nv a.h)&&true)=true) (c0:Ok 123 [.c (.i 2),.ag [.u a.v,.u a.m],.ag [.u b.v,.u b.m]] (.ag [.u kv,.u km])) (c1:Ok 126 [.ag [.u kv,.u km,.u 0#64,.u 18446744073709551615#64]] (.tu [.ag p.cs,.c (.b i)])) :
  Ok 76 [.c (.i 2),.ag a.cs,.ag b.cs] (.ag p.cs) :=
 zaf [true,true,false] ([]) [] Tryz.func76 rfl rfl rfl rfl (by kernel_rfl) h (zab c0 (zab c1 zae))
theorem yafs (h:(decide (nv a.l<nv b.h)==decide (nv a.h<nv b.l)&&true)=true) (c0:Ok 123 [.c (.i 3),.ag [.u a.v,.u a.m],.ag [.u b.v,.u b.m]] (.ag [.u kv,.u km])) (c1:Ok 126 [.ag [.u kv,.u km,.u (bsub a.l b.h),.u (bsub a.h b.l)]] (.tu [.ag p.cs,.c (.b i)])) :
  Ok 76 [.c (.i 3),.ag a.cs,.ag b.cs] (.ag p.cs) :=
 zaf [true,false,true,true] ([]) [] Tryz.func76 rfl rfl rfl rfl (by kernel_rfl) h (zab c0 (zab c1 zae))
theorem yafd (h:(!decide (nv a.l<nv b.h)==decide (nv a.h<nv b.l)&&true)=true) (c0:Ok 123 [.c (.i 3),.ag [.u a.v,.u a.m],.ag [.u b.v,.u b.m]] (.ag [.u kv,.u km])) (c1:Ok 126 [.ag [.u kv,.u km,.u 0#64,.u 18446744073709551615#64]] (.tu [.ag p.cs,.c (.b i)])) :
  Ok 76 [.c (.i 3),.ag a.cs,.ag b.cs] (.ag p.cs) :=
 zaf [true,false,true,false] ([]) [] Tryz.func76 rfl rfl rfl rfl (by kernel_rfl) h (zab c0 (zab c1 zae))
theorem yaf2 (c0:Ok 123 [.c (.i 5),.ag [.u a.v,.u a.m],.ag [.u b.v,.u b.m]] (.ag [.u kv,.u km])) (c1:Ok 126 [.ag [.u kv,.u km,.u 0#64,.u (bmin a.h b.h)]] (.tu [.ag p.cs,.c (.b i)])) :
  Ok 76 [.c (.i 5),.ag a.cs,.ag b.cs] (.ag p.cs) :=
 zaf [true,false,false,false,true] ([]) [] Tryz.func76 rfl rfl rfl rfl (by kernel_rfl) rfl (zab c0 (zab c1 zae))
theorem yady (c0:Ok 123 [.c (.i 6),.ag [.u a.v,.u a.m],.ag [.u b.v,.u b.m]] (.ag [.u kv,.u km])) (c1:Ok 126 [.ag [.u kv,.u km,.u (bmax a.l b.l),.u 18446744073709551615#64]] (.tu [.ag p.cs,.c (.b i)])) :
  Ok 76 [.c (.i 6),.ag a.cs,.ag b.cs] (.ag p.cs) :=
 zaf [true,false,false,false,false,true] ([]) [] Tryz.func76 rfl rfl rfl rfl (by kernel_rfl) rfl (zab c0 (zab c1 zae))
theorem yad6 (c0:Ok 123 [.c (.i 7),.ag [.u a.v,.u a.m],.ag [.u b.v,.u b.m]] (.ag [.u kv,.u km])) (c1:Ok 126 [.ag [.u kv,.u km,.u 0#64,.u 18446744073709551615#64]] (.tu [.ag p.cs,.c (.b i)])) :
  Ok 76 [.c (.i 7),.ag a.cs,.ag b.cs] (.ag p.cs) :=
 zaf [true,false,false,false,false,false,false,false] ([]) [] Tryz.func76 rfl rfl rfl rfl (by kernel_rfl) rfl (zab c0 (zab c1 zae))
theorem yafw (h:(!ov&&true)=true) (c0:Ok 123 [.c (.i 4),.ag [.u a.v,.u a.m],.ag [.u b.v,.u b.m]] (.ag [.u kv,.u km])) (c1:Ok 124 [.c (.u a.h),.c (.u b.h)] (.c (.b ov))) (c2:Ok 126 [.ag [.u kv,.u km,.u (bmul a.l b.l),.u (bmul a.h b.h)]] (.tu [.ag p.cs,.c (.b i)])) :
  Ok 76 [.c (.i 4),.ag a.cs,.ag b.cs] (.ag p.cs) :=
 zaf [true,false,false,true,true] ([]) [] Tryz.func76 rfl rfl rfl rfl (by kernel_rfl) h (zab c0 (zab c1 (zab c2 zae)))
theorem yacr (h:(!!ov&&true)=true) (c0:Ok 123 [.c (.i 4),.ag [.u a.v,.u a.m],.ag [.u b.v,.u b.m]] (.ag [.u kv,.u km])) (c1:Ok 124 [.c (.u a.h),.c (.u b.h)] (.c (.b ov))) (c2:Ok 126 [.ag [.u kv,.u km,.u 0#64,.u 18446744073709551615#64]] (.tu [.ag p.cs,.c (.b i)])) :
  Ok 76 [.c (.i 4),.ag a.cs,.ag b.cs] (.ag p.cs) :=
 zaf [true,false,false,true,false] ([]) [] Tryz.func76 rfl rfl rfl rfl (by kernel_rfl) h (zab c0 (zab c1 (zab c2 zae)))
theorem zye (h:(!al&&true)=true) (c0:Ok 39 [.ag b.cs] (.c (.b al))) (c1:Ok 126 [.ag [.u 0#64,.u 18446744073709551615#64,.u 0#64,.u 18446744073709551615#64]] (.tu [.ag p.cs,.c (.b i)])) :
  Ok 76 [.c (.i 8),.ag a.cs,.ag b.cs] (.ag p.cs) :=
 zaf [false,false,false,false,false,false,true,false] ([]) [] Tryz.func76 rfl rfl rfl rfl (by kernel_rfl) h (zab c0 (zab c1 zae))
theorem zx6 (h:(al&&(decide (0≤IntKind.i64.wrap (nv (band b.l 63#64)))&&decide (IntKind.i64.wrap (nv (band b.l 63#64))≤64)&&(decide (0≤IntKind.i64.wrap (nv (band b.l 63#64)))&&decide (IntKind.i64.wrap (nv (band b.l 63#64))≤64)&&(eqb (bshr (bshl a.h (IntKind.i64.wrap (nv (band b.l 63#64))).toNat) (IntKind.i64.wrap (nv (band b.l 63#64))).toNat) a.h&&(decide (0≤IntKind.i64.wrap (nv (band b.l 63#64)))&&decide (IntKind.i64.wrap (nv (band b.l 63#64))≤64)&&(decide (0≤IntKind.i64.wrap (nv (band b.l 63#64)))&&decide (IntKind.i64.wrap (nv (band b.l 63#64))≤64)&&true))))))=true) (c0:Ok 39 [.ag b.cs] (.c (.b al))) (c1:Ok 125 [.c (.i 8),.ag [.u a.v,.u a.m],.c (.i (IntKind.i64.wrap (nv (band b.l 63#64))))] (.ag [.u kv,.u km])) (c2:Ok 126 [.ag [.u kv,.u km,.u (bshl a.l (IntKind.i64.wrap (nv (band b.l 63#64))).toNat),.u (bshl a.h (IntKind.i64.wrap (nv (band b.l 63#64))).toNat)]] (.tu [.ag p.cs,.c (.b i)])) :
  Ok 76 [.c (.i 8),.ag a.cs,.ag b.cs] (.ag p.cs) :=
 zaf [false,false,false,false,false,false,true,true,true] ([]) [] Tryz.func76 rfl rfl rfl rfl (by kernel_rfl) h (zab c0 (zab c1 (zab c2 zae)))
theorem zy9 (h:(al&&(decide (0≤IntKind.i64.wrap (nv (band b.l 63#64)))&&decide (IntKind.i64.wrap (nv (band b.l 63#64))≤64)&&(decide (0≤IntKind.i64.wrap (nv (band b.l 63#64)))&&decide (IntKind.i64.wrap (nv (band b.l 63#64))≤64)&&(!eqb (bshr (bshl a.h (IntKind.i64.wrap (nv (band b.l 63#64))).toNat) (IntKind.i64.wrap (nv (band b.l 63#64))).toNat) a.h&&true))))=true) (c0:Ok 39 [.ag b.cs] (.c (.b al))) (c1:Ok 125 [.c (.i 8),.ag [.u a.v,.u a.m],.c (.i (IntKind.i64.wrap (nv (band b.l 63#64))))] (.ag [.u kv,.u km])) (c2:Ok 126 [.ag [.u kv,.u km,.u 0#64,.u 18446744073709551615#64]] (.tu [.ag p.cs,.c (.b i)])) :
  Ok 76 [.c (.i 8),.ag a.cs,.ag b.cs] (.ag p.cs) :=
 zaf [false,false,false,false,false,false,true,true,false] ([]) [] Tryz.func76 rfl rfl rfl rfl (by kernel_rfl) h (zab c0 (zab c1 (zab c2 zae)))
theorem zxv (h:(!al&&true)=true) (c0:Ok 39 [.ag b.cs] (.c (.b al))) (c1:Ok 126 [.ag [.u 0#64,.u 18446744073709551615#64,.u 0#64,.u a.h]] (.tu [.ag p.cs,.c (.b i)])) :
  Ok 76 [.c (.i 9),.ag a.cs,.ag b.cs] (.ag p.cs) :=
 zaf [false,false,false,false,false,false,false,true,false] ([]) [] Tryz.func76 rfl rfl rfl rfl (by kernel_rfl) h (zab c0 (zab c1 zae))
theorem zxc (h:(al&&(decide (0≤IntKind.i64.wrap (nv (band b.l 63#64)))&&decide (IntKind.i64.wrap (nv (band b.l 63#64))≤64)&&(decide (0≤IntKind.i64.wrap (nv (band b.l 63#64)))&&decide (IntKind.i64.wrap (nv (band b.l 63#64))≤64)&&true)))=true) (c0:Ok 39 [.ag b.cs] (.c (.b al))) (c1:Ok 125 [.c (.i 9),.ag [.u a.v,.u a.m],.c (.i (IntKind.i64.wrap (nv (band b.l 63#64))))] (.ag [.u kv,.u km])) (c2:Ok 126 [.ag [.u kv,.u km,.u (bshr a.l (IntKind.i64.wrap (nv (band b.l 63#64))).toNat),.u (bshr a.h (IntKind.i64.wrap (nv (band b.l 63#64))).toNat)]] (.tu [.ag p.cs,.c (.b i)])) :
  Ok 76 [.c (.i 9),.ag a.cs,.ag b.cs] (.ag p.cs) :=
 zaf [false,false,false,false,false,false,false,true,true] ([]) [] Tryz.func76 rfl rfl rfl rfl (by kernel_rfl) h (zab c0 (zab c1 (zab c2 zae)))
end
theorem okc {f:Nat} {A:Array Value} {V:Value} {args:List AV} {v:AV} (h:∀ w,Calls Tryz.prog f A w fun e w'=>e=.returned V∧Below w.heap.size w w') (hA:∀ β,(args.map (AV.g β)).toArray=A) (hV:∀ β,v.g β=V) (hv:v.ks=[]):Ok f args v :=
 zd3 hA hV hv fun w _=>h w
theorem V4.rt_of {a:V4} (h:a.ok=true):a.rt=true:=(zea _ _).2 (zbf h).1
theorem zng {a b:V4} (ha:a.rt=true) (hb:b.rt=true):(eqb (band a.v a.m) zero&&eqb (band b.v b.m) zero)=true:=by
 rw [show eqb (band a.v a.m) zero=true from ha,show eqb (band b.v b.m) zero=true from hb];rfl
theorem zgr {a b:V4} (ha:a.ok=true) (hb:b.ok=true):(valB a.v a.m a.l a.h&&valB b.v b.m b.l b.h)=true:=by
 rw [show valB a.v a.m a.l a.h=true from ha,show valB b.v b.m b.l b.h=true from hb];rfl
theorem zn1 (a:V4):Ok 98 [.ag a.cs] (.c (.i (er a.ok))):=okc (zlc a.v a.m a.l a.h) (fun _=>rfl) (fun _=>rfl) rfl
theorem yaa0 (x:BitVec 64):Ok 144 [.c (.u x)] (.ag (V4.of x).cs):=okc (yahz x) (fun _=>rfl) (fun _=>rfl) rfl
theorem yalk:Ok 54 [] (.ag V4.any.cs):=okc yaf0 (fun _=>rfl) (fun _=>rfl) rfl
theorem yadu {a b:V4} (ha:a.ok=true) (hb:b.ok=true):Ok 109 [.ag a.cs,.ag b.cs] (.tu [.ag (a.join b).cs,.c (.i 0)]) :=
 okc (zxp (zgr ha hb)) (fun _=>rfl) (fun _=>rfl) rfl
theorem yacg (x:BitVec 64):Ok 74 [.c (.u x)] (.ag (V4.of x).cs):=okc (zvg x) (fun _=>rfl) (fun _=>rfl) rfl
theorem zt2:Ok 73 [] (.ag V4.any.cs):=okc zqs (fun _=>rfl) (fun _=>rfl) rfl
theorem zdp {a:V4} (hr:a.rt=true):Ok 126 [.ag a.cs] (.tu [.ag a.norm.cs,.c (.b a.nok)]):=by
 unfold V4.norm
 cases hn:a.nok
 ·exact okc (zv7 hr hn) (fun _=>rfl) (fun _=>rfl) rfl
 ·exact okc (zyh hr hn) (fun _=>rfl) (fun _=>rfl) rfl
theorem yafg {a b:V4} (ha:a.rt=true) (hb:b.rt=true) :
  Ok 129 [.ag [.u a.v,.u a.m],.ag [.u b.v,.u b.m]] (.tu [.ag (if a.meets b then [.u (bor a.v b.v),.u (band a.m b.m)] else [.u zero,.u zero]),.c (.b (a.meets b))]):=by
 cases hm:a.meets b
 ·obtain ⟨j,hj,hno,hok⟩:=yasx hm
  exact okc (fun w=>zxr a.v a.m b.v b.m j hj hno hok w) (fun _=>rfl) (fun _=>rfl) rfl
 ·obtain ⟨h1,h2,h3⟩:=yajk (zng ha hb) hm
  refine okc (A:=#[Bt a.v a.m,Bt b.v b.m]) (V:=.tuple #[Bt (bor a.v b.v) (band a.m b.m),.bool true]) (fun w=>?_) (fun _=>rfl) (fun _=>rfl) rfl
  have h:=zma a.v a.m b.v b.m h1 w
  rw [h2,h3] at h
  exact h
theorem zny {a:V4} {op:Int} (hop:op=8∨op=9) (hr:a.rt=true) {n:Nat} (hn:n<64) :
  Ok 125 [.c (.i op),.ag [.u a.v,.u a.m],.c (.i n)] (.ag (if op=8 then [.u (bshl a.v n),.u (bshl a.m n)] else [.u (bshr a.v n),.u (bshr a.m n)])):=by
 rcases hop with rfl | rfl
 ·refine okc (A:=#[N 8,Bt a.v a.m,N n]) (V:=Bt (bshl a.v n) (bshl a.m n)) (fun w=>?_) (fun _=>rfl) (fun _=>rfl) rfl
  have h:=zf2 true 8 rfl a.v a.m n hn w
  rw [(zlh hr n).1,(zlh hr n).2] at h
  exact h
 ·refine okc (A:=#[N 9,Bt a.v a.m,N n]) (V:=Bt (bshr a.v n) (bshr a.m n)) (fun w=>?_) (fun _=>rfl) (fun _=>rfl) rfl
  have h:=zf2 false 9 rfl a.v a.m n hn w
  rw [(zo5 hr n).1,(zo5 hr n).2] at h
  exact h
theorem zc2 {a b:V4} {op:Int} (hop:2≤op∧op≤7) (ha:a.rt=true) (hb:b.rt=true) :
  Ok 123 [.c (.i op),.ag [.u a.v,.u a.m],.ag [.u b.v,.u b.m]] (.ag [.u (twoP op a.v a.m b.v b.m).1,.u (twoP op a.v a.m b.v b.m).2]):=by
 by_cases h4:op=4
 ·subst h4;exact okc (zxi hb) (fun _=>rfl) (fun _=>rfl) rfl
 ·exact okc (zsd (hid (by omega)) ha hb) (fun _=>rfl) (fun _=>rfl) rfl
theorem zd0 (a:V4):Ok 39 [.ag a.cs] (.c (.b a.alone)):=zwv
theorem zd2 (a b:V4) (i1 i2:Bool):Ok 128 [.ag a.cs,.c (.b i1),.ag b.cs,.c (.b i2)] (.tu [.ag (lvV (i1&&i2) a).cs,.ag (lvV (i1&&i2) b).cs,.c (.b (i1&&i2))]):=by
 cases i1
 ·exact yad2 rfl
 ·cases i2
  ·exact yaft rfl
  ·exact yads rfl
theorem zf9 (a:V4):a.norm=lvV a.nok a.nrm:=rfl
theorem yaiu (p q:Bool) (a:V4):lvV p (lvV q a)=lvV (p&&q) a:=by cases p <;> cases q <;> rfl
theorem zne {a b:V4} (ha:a.ok=true) (hb:b.ok=true):Ok 78 [.ag a.cs,.ag b.cs] (.tu [.ag (a.equal b).1.cs,.ag (a.equal b).2.1.cs,.c (.b (a.equal b).2.2)]):=by
 have hm:=yafg (V4.rt_of ha) (V4.rt_of hb)
 unfold V4.equal
 cases h:a.meets b with
 | false=>rw [h] at hm;exact zx2 rfl hm
 | true =>
  rw [h] at hm
  have hrt:(a.rawEqual b).rt=true:=(zea _ _).2 (by
   have r1:=(zbf ha).1
   have r2:=(zbf hb).1
   intro j
   have h3:=r1 j;have h4:=r2 j
   show (bit (bor a.v b.v) j&&bit (band a.m b.m) j)=false
   rw [zap,zaz]
   revert h3 h4
   cases bit a.v j <;> cases bit a.m j <;> cases bit b.v j <;> cases bit b.m j <;> simp)
  have hn:=zdp hrt
  have hbt:=zd2 (a.rawEqual b).norm (a.rawEqual b).norm (a.rawEqual b).nok (a.rawEqual b).nok
  have:=zwp rfl hm hn hbt
  rw [zf9,yaiu] at this
  simp only [if_true,zhe,Bool.true_and]
  cases hk:(a.rawEqual b).nok <;> rw [hk] at this <;> exact this
theorem zpy {a b:V4} (ha:a.ok=true) (hb:b.ok=true):Ok 81 [.ag a.cs,.ag b.cs] (.tu [.ag (a.less b).1.cs,.ag (a.less b).2.1.cs,.c (.b (a.less b).2.2)]):=by
 unfold V4.less
 cases h1:eqb b.h zero with
 | true=>exact yafp (by rw [show eqb b.h 0#64=true from h1];rfl)
 | false =>
  cases h2:eqb a.l top with
  | true=>exact yadb (by rw [show eqb b.h 0#64=false from h1,show eqb a.l 18446744073709551615#64=true from h2];rfl)
  | false =>
   have n1:=zdp (a:=⟨a.v,a.m,a.l,bmin a.h (bsub b.h one)⟩) (show a.rt=true from V4.rt_of ha)
   have n2:=zdp (a:=⟨b.v,b.m,bmax b.l (badd a.l one),b.h⟩) (show b.rt=true from V4.rt_of hb)
   have:=yac0 (a:=a) (b:=b) (by rw [show eqb b.h 0#64=false from h1,show eqb a.l 18446744073709551615#64=false from h2];rfl) n1 n2 (zd2 _ _ _ _)
   rw [zf9,zf9,yaiu,yaiu] at this
   simp only [Bool.or_self,Bool.false_eq_true,if_false,zhe,Bool.true_and]
   revert this
   generalize V4.nok _=k1
   generalize V4.nok _=k2
   intro this
   cases k1 <;> cases k2 <;> exact this
theorem ziz {a b:V4} (ha:a.ok=true) (hb:b.ok=true):Ok 80 [.ag a.cs,.ag b.cs] (.tu [.ag (a.notLess b).1.cs,.ag (a.notLess b).2.1.cs,.c (.b (a.notLess b).2.2)]):=by
 have n1:=zdp (a:=⟨a.v,a.m,bmax a.l b.l,a.h⟩) (show a.rt=true from V4.rt_of ha)
 have n2:=zdp (a:=⟨b.v,b.m,b.l,bmin b.h a.h⟩) (show b.rt=true from V4.rt_of hb)
 have:=zsg (a:=a) (b:=b) n1 n2 (zd2 _ _ _ _)
 rw [zf9,zf9,yaiu,yaiu] at this
 unfold V4.notLess
 simp only [zhe,Bool.true_and]
 revert this
 generalize V4.nok _=k1
 generalize V4.nok _=k2
 intro this
 cases k1 <;> cases k2 <;> exact this
theorem zt6 {a:V4} (hr:a.rt=true) (x:BitVec 64) :
  Ok 127 [.ag a.cs,.c (.u x)] (.tu [.ag (lvV (!(a.alone&&eqb a.l x)) (a.without (V4.of x)).norm).cs,.c (.b (!(a.alone&&eqb a.l x)&&(a.without (V4.of x)).nok))]):=by
 have hx:eqb x x=true:=zix x
 have hal:=zd0 a
 have e0:a.without (V4.of x)=⟨a.v,a.m,if eqb a.l x then badd a.l one else a.l,if !eqb a.l x&&eqb a.h x then bsub a.h one else a.h⟩:=by
  simp only [V4.without,V4.of,woL,woH,hx,Bool.true_and]
 have hn:∀ l h,Ok 126 [.ag (V4.cs ⟨a.v,a.m,l,h⟩)] (.tu [.ag (V4.norm ⟨a.v,a.m,l,h⟩).cs,.c (.b (V4.nok ⟨a.v,a.m,l,h⟩))]):=fun l h=>zdp (a:=⟨a.v,a.m,l,h⟩) (show a.rt=true from hr)
 rw [e0]
 cases h1:eqb a.l x with
 | true =>
  cases h2:a.alone with
  | true=>rw [h2] at hal;exact yai7 (by rw [h1];rfl) hal
  | false=>rw [h2] at hal;exact yahd (by rw [h1];rfl) hal (hn (badd a.l one) a.h)
 | false =>
  cases h2:a.alone with
  | true =>
   rw [h2] at hal
   cases h3:eqb a.h x with
   | true=>exact yaly (by rw [h1,h3];rfl) hal (hn a.l (bsub a.h one))
   | false=>exact yaj5 (by rw [h1,h3];rfl) hal (hn a.l a.h)
  | false =>
   rw [h2] at hal
   cases h3:eqb a.h x with
   | true=>exact yakw (by rw [h1,h3];rfl) hal (hn a.l (bsub a.h one))
   | false=>exact yain (by rw [h1,h3];rfl) hal (hn a.l a.h)
theorem V4.norm_ok {a:V4} (h:a.ok=true):a.nok=true∧a.nrm=a∧a.norm=a:=by
 obtain ⟨h1,h2,h3,h4,h5⟩:=zo3 h
 have e:a.nrm=a:=by cases a;simp only [V4.nrm] at *;rw [h2,h3,h4,h5]
 refine ⟨h1,e,?_⟩
 unfold V4.norm
 rw [show a.nok=true from h1]
 exact e
theorem zf1 {a b:V4} (h:b.alone=false):a.without b=a:=by
 have h':eqb b.l b.h=false:=h
 simp only [V4.without,woL,woH,h',Bool.false_and]
 rfl
theorem zen {a b:V4} (h:b.alone=true):a.without b=a.without (V4.of b.l):=by
 have h':eqb b.l b.h=true:=h
 simp only [V4.without,V4.of,woL,woH,h',zix]
theorem zms {a b:V4} (ha:a.ok=true) (hb:b.ok=true):Ok 77 [.ag a.cs,.ag b.cs] (.tu [.ag (a.other b).1.cs,.ag (a.other b).2.1.cs,.c (.b (a.other b).2.2)]):=by
 have a1:=zd0 a
 have b1:=zd0 b
 have na:=V4.norm_ok ha
 have nb:=V4.norm_ok hb
 have ra:=zt6 (V4.rt_of ha) b.l
 have rb:=zt6 (V4.rt_of hb) a.l
 unfold V4.other
 cases h1:b.alone with
 | true =>
  cases h2:a.alone with
  | true =>
   rw [h1] at b1;rw [h2] at a1
   rw [h2] at ra;rw [h1] at rb
   have hsym:eqb b.l a.l=eqb a.l b.l:=by rw [Bool.eq_iff_iff,zdm,zdm];exact eq_comm
   have:=zxw rfl b1 ra a1 rb (zd2 _ _ _ _)
   rw [hsym,zf9,zf9] at this
   rw [zen h1,zen h2]
   simp only [zhe]
   revert this
   generalize V4.nrm _=n1
   generalize V4.nrm _=n2
   generalize V4.nok _=k1
   generalize V4.nok _=k2
   generalize eqb a.l b.l=q
   intro this
   cases k1 <;> cases k2 <;> cases q <;> exact this
  | false =>
   rw [h1] at b1;rw [h2] at a1
   rw [h2] at ra
   have:=zu7 rfl b1 ra a1 (zd2 _ b _ _)
   rw [zf9] at this
   rw [zen h1,zf1 h2]
   simp only [zhe,nb.1,nb.2.1]
   revert this
   generalize V4.nrm _=n1
   generalize V4.nok _=k1
   intro this
   cases k1 <;> exact this
 | false =>
  cases h2:a.alone with
  | true =>
   rw [h1] at b1;rw [h2] at a1
   rw [h1] at rb
   have:=zvh rfl b1 a1 rb (zd2 a _ _ _)
   rw [zf9] at this
   rw [zen h2,zf1 h1]
   simp only [zhe,na.1,na.2.1]
   revert this
   generalize V4.nrm _=n1
   generalize V4.nok _=k1
   intro this
   cases k1 <;> exact this
  | false =>
   rw [h1] at b1;rw [h2] at a1
   have:=zuv rfl b1 a1 (zd2 a b _ _)
   rw [zf1 h2,zf1 h1]
   simp only [zhe,na.1,na.2.1,nb.1,nb.2.1]
   exact this
theorem zcv {n:V4} (hr:n.rt=true):Hid (∀ w,Calls Tryz.prog 156 #[Vl n.v n.m n.l n.h] w fun e w'=>e=.returned (.tuple #[Vl n.norm.v n.norm.m n.norm.l n.norm.h,.bool n.nok,N 0])∧Below w.heap.size w w'):=by
 intro w
 unfold V4.norm
 cases hn:n.nok
 ·exact zte hr hn w
 ·exact zsv hr hn w
def Four (f:Nat) (a b:V4) (r:V4×V4×Bool):Prop:=Ok f [.ag a.cs,.ag b.cs] (.tu [.ag r.1.cs,.ag r.2.1.cs,.c (.b r.2.2),.c (.i 0)])
theorem zjr {f:Nat} {a b x y:V4} {may:Bool} (h:∀ w,Calls Tryz.prog f #[Vl a.v a.m a.l a.h,Vl b.v b.m b.l b.h] w fun e w'=>e=.returned (.tuple #[lv (may&&(x.nok&&y.nok)) (Vl x.norm.v x.norm.m x.norm.l x.norm.h),lv (may&&(x.nok&&y.nok)) (Vl y.norm.v y.norm.m y.norm.l y.norm.h),.bool (may&&(x.nok&&y.nok)),N 0])∧Below w.heap.size w w') :
  Four f a b (zhe may x y):=by
 refine okc h (fun _=>rfl) (fun _=>?_) ?_
 ·simp only [zhe,V4.norm]
  cases may <;> cases x.nok <;> cases y.nok <;> rfl
 ·rfl
theorem zgz {a b:V4} (ha:a.ok=true) (hb:b.ok=true):Four 104 a b (a.equal b):=by
 have r1:=V4.rt_of ha
 have r2:=V4.rt_of hb
 have hbb:=zgr ha hb
 unfold V4.equal
 cases hm:a.meets b with
 | false =>
  have n:=zcv (n:=⟨zero,zero,bmax a.l b.l,bmin a.h b.h⟩) ((zea _ _).2 (zoj zero))
  have:=zjr (f:=104) (a:=a) (b:=b) (may:=false) fun w=>zgq hbb w (hid (fun B w' hc=>zvz hc (hid (fun w=>yasa (zng r1 r2) hm w)) rfl rfl)) n n
  exact this
 | true =>
  have hrt:(a.rawEqual b).rt=true:=(zea _ _).2 (by
   have r1:=(zbf ha).1
   have r2:=(zbf hb).1
   intro j
   have h3:=r1 j;have h4:=r2 j
   show (bit (bor a.v b.v) j&&bit (band a.m b.m) j)=false
   rw [zap,zaz]
   revert h3 h4
   cases bit a.v j <;> cases bit a.m j <;> cases bit b.v j <;> cases bit b.m j <;> simp)
  exact zjr (f:=104) (a:=a) (b:=b) (may:=true) fun w=>zgq hbb w (hid (fun B w' hc=>zvz hc (hid (fun w=>yakj (zng r1 r2) hm w)) rfl rfl)) (zcv hrt) (zcv hrt)
theorem zhd {a b:V4} (ha:a.ok=true) (hb:b.ok=true):Four 103 a b (a.other b) :=
 zjr (f:=103) (a:=a) (b:=b) fun w=>zmx (zgr ha hb) w (hid (fun _ _ hc=>yale hc rfl)) (zcv (n:=a.without b) (show a.rt=true from V4.rt_of ha)) (zcv (n:=b.without a) (show b.rt=true from V4.rt_of hb))
theorem zie {a b:V4} (ha:a.ok=true) (hb:b.ok=true):Four 106 a b (a.less b):=by
 unfold V4.less
 cases hz:(eqb b.h zero||eqb a.l top) with
 | true =>
  have:=zjr (f:=106) (a:=a) (b:=b) (may:=false) fun w=>zh5 (zgr ha hb) w (hid (fun B w' hc=>yam6 hc hz)) (zcv (V4.rt_of ha)) (zcv (V4.rt_of hb))
  exact this
 | false =>
  rw [Bool.or_eq_false_iff] at hz
  have n1:=zcv (n:=⟨a.v,a.m,bmax a.l a.l,bmin a.h (bsub b.h one)⟩) (show a.rt=true from V4.rt_of ha)
  have n2:=zcv (n:=⟨b.v,b.m,bmax b.l (badd a.l one),bmin b.h b.h⟩) (show b.rt=true from V4.rt_of hb)
  have:=zjr (f:=106) (a:=a) (b:=b) (may:=true) fun w=>zh5 (zgr ha hb) w (hid (fun B w' hc=>yaho hc hz.1 hz.2)) n1 n2
  rw [zs8,zvi] at this
  exact this
theorem zfd {a b:V4} (ha:a.ok=true) (hb:b.ok=true):Four 105 a b (a.notLess b):=by
 have n1:=zcv (n:=⟨a.v,a.m,bmax a.l b.l,bmin a.h a.h⟩) (show a.rt=true from V4.rt_of ha)
 have n2:=zcv (n:=⟨b.v,b.m,bmax b.l b.l,bmin b.h a.h⟩) (show b.rt=true from V4.rt_of hb)
 have:=zjr (f:=105) (a:=a) (b:=b) (may:=true) fun w=>zjp (zgr ha hb) w (hid (fun B w' hc=>zyq hc)) n1 n2
 rw [zs8,zvi] at this
 exact this
theorem zf6 (y:BitVec 64):IntKind.wrap IntKind.i64 (nv (band y 63#64))=(six y:Int):=by
 have h:=zna y
 rw [zvy,IntKind.wrap_i64]
 omega
theorem yahv {a:V4} (h:a.ok=true):hasV a.v a.m a.l a.h a.l=true:=by
 obtain ⟨_,h2,_,h4,_⟩:=zbf h
 unfold hasV
 rw [show valB a.v a.m a.l a.h=true from h,h2]
 simp [h4]
theorem yaht {a b:V4} {op:Int} (hop:2≤op∧op≤9) (ha:a.ok=true) (hb:b.ok=true):(V4.raw2 op a b).rt=true :=
 (zea _ _).2 (yacq hop (yahv ha) (yahv hb)).1
theorem zo8 {a b:V4} {op:Int} (hop:2≤op∧op≤9) (ha:a.ok=true) (hb:b.ok=true):Ok 108 [.c (.i op),.ag a.cs,.ag b.cs] (.tu [.ag (V4.two op a b).cs,.c (.i 0)]):=by
 have hr:=yaht hop ha hb
 unfold V4.two V4.norm
 cases hn:(V4.raw2 op a b).nok
 ·exact okc (zs6 (zgr ha hb) hop hr hn) (fun _=>rfl) (fun _=>rfl) rfl
 ·exact okc (zw7 (zgr ha hb) hop hr hn) (fun _=>rfl) (fun _=>rfl) rfl
theorem yaek (x y:BitVec 64):Ok 124 [.c (.u x),.c (.u y)] (.c (.b (zyt x y))):=by
 unfold zyt
 cases h:eqb y zero with
 | true=>exact yage (by rw [show eqb y 0#64=true from h];rfl)
 | false =>
  have e:decide (18446744073709551615 / nv y<nv x)=decide (nv (18446744073709551615#64 / y)<nv x):=by
   have:nv (18446744073709551615#64 / y)=18446744073709551615 / nv y:=by
    unfold nv
    rw [BitVec.toNat_udiv]
    rfl
   rw [this]
  rw [e]
  exact yael (by rw [show eqb y 0#64=false from h,h];rfl)
theorem zi2 {a b:V4} {op:Int} (hop:2≤op∧op≤9) (ha:a.ok=true) (hb:b.ok=true):Ok 76 [.c (.i op),.ag a.cs,.ag b.cs] (.ag (V4.two op a b).cs):=by
 have ra:=V4.rt_of ha
 have rb:=V4.rt_of hb
 have hrt:=yaht hop ha hb
 have hn:=zdp hrt
 have hcase:op=2∨op=3∨op=4∨op=5∨op=6∨op=7∨op=8∨op=9:=by omega
 rcases hcase with rfl | rfl | rfl | rfl | rfl | rfl | rfl | rfl
 ·have ht:=zc2 (op:=2) (by decide) ra rb
  by_cases hc:decide (nv (badd a.l b.l)<nv a.l)=decide (nv (badd a.h b.h)<nv a.h)
  ·have e:V4.raw2 2 a b=⟨(twoP 2 a.v a.m b.v b.m).1,(twoP 2 a.v a.m b.v b.m).2,badd a.l b.l,badd a.h b.h⟩:=by
    simp only [V4.raw2,rk,zce,addB,if_pos hc];rfl
   unfold V4.two
   rw [e] at hn ⊢
   exact yad1 (by rw [hc];simp) ht hn
  ·have e:V4.raw2 2 a b=⟨(twoP 2 a.v a.m b.v b.m).1,(twoP 2 a.v a.m b.v b.m).2,zero,top⟩:=by
    simp only [V4.raw2,rk,zce,addB,if_neg hc];rfl
   unfold V4.two
   rw [e] at hn ⊢
   exact yafj (by simpa using hc) ht hn
 ·have ht:=zc2 (op:=3) (by decide) ra rb
  by_cases hc:decide (nv a.l<nv b.h)=decide (nv a.h<nv b.l)
  ·have e:V4.raw2 3 a b=⟨(twoP 3 a.v a.m b.v b.m).1,(twoP 3 a.v a.m b.v b.m).2,bsub a.l b.h,bsub a.h b.l⟩:=by
    simp only [V4.raw2,rk,zce,subB,if_pos hc];rfl
   unfold V4.two
   rw [e] at hn ⊢
   exact yafs (by rw [hc];simp) ht hn
  ·have e:V4.raw2 3 a b=⟨(twoP 3 a.v a.m b.v b.m).1,(twoP 3 a.v a.m b.v b.m).2,zero,top⟩:=by
    simp only [V4.raw2,rk,zce,subB,if_neg hc];rfl
   unfold V4.two
   rw [e] at hn ⊢
   exact yafd (by simpa using hc) ht hn
 ·have ht:=zc2 (op:=4) (by decide) ra rb
  have ho:=yaek a.h b.h
  cases hc:zyt a.h b.h with
  | false =>
   have e:V4.raw2 4 a b=⟨(twoP 4 a.v a.m b.v b.m).1,(twoP 4 a.v a.m b.v b.m).2,bmul a.l b.l,bmul a.h b.h⟩:=by
    simp only [V4.raw2,rk,zce,mulB,hc];rfl
   unfold V4.two
   rw [e] at hn ⊢
   rw [hc] at ho
   exact yafw rfl ht ho hn
  | true =>
   have e:V4.raw2 4 a b=⟨(twoP 4 a.v a.m b.v b.m).1,(twoP 4 a.v a.m b.v b.m).2,zero,top⟩:=by
    simp only [V4.raw2,rk,zce,mulB,hc];rfl
   unfold V4.two
   rw [e] at hn ⊢
   rw [hc] at ho
   exact yacr rfl ht ho hn
 ·exact yaf2 (zc2 (op:=5) (by decide) ra rb) hn
 ·exact yady (zc2 (op:=6) (by decide) ra rb) hn
 ·exact yad6 (zc2 (op:=7) (by decide) ra rb) hn
 ·have hal:=zd0 b
  have hlt:=zna b.l
  cases hc:b.alone with
  | false =>
   have e:V4.raw2 8 a b=⟨zero,top,zero,top⟩:=by
    have hc':eqb b.l b.h=false:=hc
    simp only [V4.raw2,rk,hc',if_true];rfl
   unfold V4.two
   rw [e] at hn ⊢
   rw [hc] at hal
   exact zye rfl hal hn
  | true =>
   have hc':eqb b.l b.h=true:=hc
   have hs:=zny (a:=a) (op:=8) (Or.inl rfl) ra hlt
   rw [hc] at hal
   rw [← zf6] at hs
   have e6:Int.toNat (IntKind.wrap IntKind.i64 (nv (band b.l 63#64)))=six b.l:=by rw [zf6];rfl
   unfold V4.two
   cases hq:eqb (bshr (bshl a.h (six b.l)) (six b.l)) a.h with
   | true =>
    have e:V4.raw2 8 a b=⟨bshl a.v (six b.l),bshl a.m (six b.l),bshl a.l (six b.l),bshl a.h (six b.l)⟩:=by
     simp only [V4.raw2,rk,hc',if_true,shlB,hq]
    rw [e] at hn ⊢
    rw [← e6] at hn
    rw [← e6] at hs
    have:=zx6 (a:=a) (b:=b) (al:=true) (by rw [e6,zf6,hq];simp;omega) hal hs hn
    rw [e6] at this
    exact this
   | false =>
    have e:V4.raw2 8 a b=⟨bshl a.v (six b.l),bshl a.m (six b.l),zero,top⟩:=by
     simp only [V4.raw2,rk,hc',if_true,shlB,hq];rfl
    rw [e] at hn ⊢
    exact zy9 (a:=a) (b:=b) (al:=true) (by rw [e6,zf6,hq];simp;omega) hal hs hn
 ·have hal:=zd0 b
  have hlt:=zna b.l
  cases hc:b.alone with
  | false =>
   have e:V4.raw2 9 a b=⟨zero,top,zero,a.h⟩:=by
    have hc':eqb b.l b.h=false:=hc
    simp only [V4.raw2,rk,hc'];rfl
   unfold V4.two
   rw [e] at hn ⊢
   rw [hc] at hal
   exact zxv rfl hal hn
  | true =>
   have hc':eqb b.l b.h=true:=hc
   have hs:=zny (a:=a) (op:=9) (Or.inr rfl) ra hlt
   rw [hc] at hal
   rw [← zf6] at hs
   have e6:Int.toNat (IntKind.wrap IntKind.i64 (nv (band b.l 63#64)))=six b.l:=by rw [zf6];rfl
   have e:V4.raw2 9 a b=⟨bshr a.v (six b.l),bshr a.m (six b.l),bshr a.l (six b.l),bshr a.h (six b.l)⟩:=by
    simp only [V4.raw2,rk,hc'];rfl
   unfold V4.two
   rw [e] at hn ⊢
   rw [← e6] at hn
   rw [← e6] at hs
   have:=zxc (a:=a) (b:=b) (al:=true) (by rw [zf6];simp;omega) hal hs hn
   rw [e6] at this
   exact this
theorem zwc {n:Int} (hn:n=1∨n=2∨n=4∨n=8):Ok 101 [.c (.i n)] (.tu [.ag (V4.bytes n).cs,.c (.i 0)]):=by
 rcases hn with rfl | rfl | rfl | rfl
 ·exact zwj (by decide +kernel)
 ·exact zu9 (by decide +kernel)
 ·exact zv0 (by decide +kernel)
 ·exact zub (by decide +kernel)
theorem zwt {n:Int} (hn:n=1∨n=2∨n=4∨n=8):Ok 83 [.c (.i n)] (.ag (V4.bytes n).cs):=by
 rcases hn with rfl | rfl | rfl | rfl
 ·exact zh9 (by decide +kernel)
 ·exact zh9 (by decide +kernel)
 ·exact zh9 (by decide +kernel)
 ·exact zzl rfl zt2
section
variable {w:World} {β:Bs} {n:Nat}
end
theorem p_at {P:Program} {f:Nat} {args args':List AV} {L:List Ins} {e:Eff} (h:CallOK P ⟨f,args,pH L,e⟩) (K:Nat) (b:Bool) (ha:args.map (AV.ren (swp 0 K))=args') (he:e.ren (swp 0 K)=e):CallOK P ⟨f,args',[(K,⟨b,pcell L,0⟩)],e⟩:=by
 have h1:=h.ren (swp 0 K) (zbm 0 K)
 unfold CallRec.ren at h1
 simp only [ha,he] at h1
 refine h1.more ⟨fun k en hk=>?_⟩
 have e1:renH (swp 0 K) (pH L)=[(K,⟨false,pcell L,0⟩)]:=by
  show [(swp 0 K 0,Ent.mk false ((pcell L).map (AC.ren (swp 0 K))) 0)]=_
  rw [zck _ (zaj L)]
  rfl
 rw [e1,zav] at hk
 split at hk
 ·rename_i hk'
  injection hk with hk
  subst hk hk'
  exact ⟨⟨b,pcell L,0⟩,by rw [zav,if_pos rfl],rfl,fun h=>(by cases h),Or.inl rfl⟩
 ·cases hk
section
abbrev zbh (t:St) (j:Int):Kn:=⟨[(1,.c (.w 0)),(14,.ag (bcs t.s)),(15,.c (.i j))],[(0,Ent.mk true t.cs 0)],1⟩
abbrev zb7 (t u b:St) (j:Int):Kn:=⟨[(2,.c (.w 0)),(3,.c (.w 1)),(4,.c (.w 2)),(6,.c (.w 19)),(28,.c (.i j))],[(0,Ent.mk true t.cs 0),(1,Ent.mk true u.cs 0),(2,Ent.mk true St.z.cs 0),(19,Ent.mk true b.cs 0)],20⟩
variable {t u b b2:St} {d j e f:Int} {a:V4} {w:World} {β:Bs} {n:Nat} {C:Cx} {R:Ending→World→Prop} {E:Eff} {m:Mach}
theorem yapa (h:(decide (0≤d)&&decide (d<6)&&(Nat.ble (1+d.toNat*1+1) (t.cs).length&&true&&(decide (0≤d)&&decide (d<6)&&(Nat.ble (7+d.toNat*4+(a.cs).length) ((St.mk t.live ((t.s).set d.toNat true) t.r).cs).length&&true&&true))))=true) (c0:we 0 ((t.cs).set (1+d.toNat*1) (.b true))=we 0 ((St.mk t.live ((t.s).set d.toNat true) t.r).cs)) (c1:we 0 (splice (St.mk t.live ((t.s).set d.toNat true) t.r).cs (7+d.toNat*4) a.cs)=we 0 ((St.wth t d.toNat a).cs)) :
  Ok 53 [.ag t.cs,.c (.i d),.ag a.cs] (.ag [.b t.live,.b ((t.s).set d.toNat true).x0,.b ((t.s).set d.toNat true).x1,.b ((t.s).set d.toNat true).x2,.b ((t.s).set d.toNat true).x3,.b ((t.s).set d.toNat true).x4,.b ((t.s).set d.toNat true).x5,.u (((t.r).set d.toNat a).x0).v,.u (((t.r).set d.toNat a).x0).m,.u (((t.r).set d.toNat a).x0).l,.u (((t.r).set d.toNat a).x0).h,.u (((t.r).set d.toNat a).x1).v,.u (((t.r).set d.toNat a).x1).m,.u (((t.r).set d.toNat a).x1).l,.u (((t.r).set d.toNat a).x1).h,.u (((t.r).set d.toNat a).x2).v,.u (((t.r).set d.toNat a).x2).m,.u (((t.r).set d.toNat a).x2).l,.u (((t.r).set d.toNat a).x2).h,.u (((t.r).set d.toNat a).x3).v,.u (((t.r).set d.toNat a).x3).m,.u (((t.r).set d.toNat a).x3).l,.u (((t.r).set d.toNat a).x3).h,.u (((t.r).set d.toNat a).x4).v,.u (((t.r).set d.toNat a).x4).m,.u (((t.r).set d.toNat a).x4).l,.u (((t.r).set d.toNat a).x4).h,.u (((t.r).set d.toNat a).x5).v,.u (((t.r).set d.toNat a).x5).m,.u (((t.r).set d.toNat a).x5).l,.u (((t.r).set d.toNat a).x5).h]) :=
 zaf [] ([]) [(1,5),(1,8)] Tryz.func53 rfl rfl rfl rfl (by kernel_rfl) h (zac c0 (zac c1 zae))
theorem yalp (c0:Ok 54 [] (.ag a.cs)) (c1:Ok 53 [.ag St.e.cs,.c (.i 1),.ag a.cs] (.ag t.cs)) :
  Ok 20 [] (.ag t.cs) :=
 zaf [] ([]) [] Tryz.func20 rfl rfl rfl rfl (by kernel_rfl) rfl (zab c0 (zab c1 zae))
theorem yamg (h:(!t.live&&(!eqCs t.cs St.z.cs&&true))=true) :
  BO 56 Tryz.f56 (cx w β n []) [.ag t.cs] [] 0 (REff w β ⟨.c (.i 1),[],none⟩) :=
 zah [] none [true,true] ([true]) [] Tryz.func56 (zau rfl n) (by kernel_rfl) h zae
theorem yam0 (h:(!t.live&&(!!eqCs t.cs St.z.cs&&true))=true) (lo:Kn.Low (zbh t 0)) (hF:∀ k,C.F k→k<1) (z:AR 56 Tryz.f56 C 0 (zbh t 0) R) :
  BO 56 Tryz.f56 C [.ag t.cs] [] 0 R :=
 zai [true,false] ([true]) [] Tryz.func56 (by kernel_rfl) h zae lo hF z
theorem yaom (h:(!!t.live&&true)=true) (lo:Kn.Low (zbh t 0)) (hF:∀ k,C.F k→k<1) (z:AR 56 Tryz.f56 C 0 (zbh t 0) R) :
  BO 56 Tryz.f56 C [.ag t.cs] [] 0 R :=
 zai [false,false] ([true]) [] Tryz.func56 (by kernel_rfl) h zae lo hF z
theorem yagv (hn:n≤1)
  (l0:(!t.live)=true→(!eqCs t.cs St.z.cs)=true→((⟨.c (.i 1),[],none⟩:Eff)=E))
  (l1:(!t.live)=true→(!eqCs t.cs St.z.cs)=false→Kn.Low (zbh t 0)∧AR 56 Tryz.f56 (cx w β n []) 0 (zbh t 0) (REff w β E))
  (l2:(!t.live)=false→Kn.Low (zbh t 0)∧AR 56 Tryz.f56 (cx w β n []) 0 (zbh t 0) (REff w β E)) :
  BO 56 Tryz.f56 (cx w β n []) [.ag t.cs] [] 0 (REff w β E) :=
 (tf (!t.live)).elim (fun h0=>(tf (!eqCs t.cs St.z.cs)).elim (fun h1=>(match l0 h0 h1 with | e=>za5 (yamg (zaa h0 (zaa h1 rfl))) e)) (fun h1=>(match l1 h0 h1 with | ⟨lo,z⟩=>yam0 (zaa h0 (zaa (zad h1) rfl)) lo (fun _ hk=>Nat.lt_of_lt_of_le hk hn) z))) (fun h0=>(match l2 h0 with | ⟨lo,z⟩=>yaom (zaa (zad h0) rfl) lo (fun _ hk=>Nat.lt_of_lt_of_le hk hn) z))
theorem yado (h:(decide (j<6)&&(AC.isB ((bcs t.s)[j.toNat*1]?.getD (.b false))&&Nat.blt (j.toNat*1) (bcs t.s).length&&(decide (0≤j)&&decide (j<6))&&((t.s).get j.toNat&&(decide (0≤j)&&decide (j<6)&&(Nat.ble (7+j.toNat*4+4) (t.cs).length&&(er (V4.ok ((t.r).get j.toNat)) != 0&&true))))))=true) (c0:pe (.c (.b (AC.asB ((bcs t.s)[j.toNat*1]?.getD (.b false)))))=pe (.c (.b ((t.s).get j.toNat)))) (c1:pe (.ag (((t.cs).drop (7+j.toNat*4)).take 4))=pe (.ag ((t.r).get j.toNat).cs)) (c2:Ok 98 [.ag ((t.r).get j.toNat).cs] (.c (.i (er (V4.ok ((t.r).get j.toNat)))))) :
  AR 56 Tryz.f56 (cx w β n []) 0 (zbh t j) (REff w β ⟨.c (.i 1),[],none⟩) :=
 zah [] none [true,true,true,true] ([true]) [(5,1),(6,5),(6,16)] Tryz.func56 (zau rfl n) (by kernel_rfl) h (zac c0 (zac c1 (zab c2 zae)))
theorem yae8 (h:(decide (j<6)&&(AC.isB ((bcs t.s)[j.toNat*1]?.getD (.b false))&&Nat.blt (j.toNat*1) (bcs t.s).length&&(decide (0≤j)&&decide (j<6))&&((t.s).get j.toNat&&(decide (0≤j)&&decide (j<6)&&(Nat.ble (7+j.toNat*4+4) (t.cs).length&&(!er (V4.ok ((t.r).get j.toNat)) != 0&&(!!(t.s).get j.toNat&&true)))))))=true) (c0:pe (.c (.b (AC.asB ((bcs t.s)[j.toNat*1]?.getD (.b false)))))=pe (.c (.b ((t.s).get j.toNat)))) (c1:pe (.ag (((t.cs).drop (7+j.toNat*4)).take 4))=pe (.ag ((t.r).get j.toNat).cs)) (c2:Ok 98 [.ag ((t.r).get j.toNat).cs] (.c (.i (er (V4.ok ((t.r).get j.toNat)))))) (lo:Kn.Low (zbh t (IntKind.i64.wrap (j+1)))) (hF:∀ k,C.F k→k<1) (z:AR 56 Tryz.f56 C 0 (zbh t (IntKind.i64.wrap (j+1))) R) :
  AR 56 Tryz.f56 C 0 (zbh t j) R :=
 zai [true,true,false,false,false] ([true]) [(5,1),(6,5),(6,16)] Tryz.func56 (by kernel_rfl) h (zac c0 (zac c1 (zab c2 zae))) lo hF z
theorem yae5 (h:(decide (j<6)&&(AC.isB ((bcs t.s)[j.toNat*1]?.getD (.b false))&&Nat.blt (j.toNat*1) (bcs t.s).length&&(decide (0≤j)&&decide (j<6))&&(!(t.s).get j.toNat&&(!(t.s).get j.toNat&&(decide (0≤j)&&decide (j<6)&&(Nat.ble (7+j.toNat*4+4) (t.cs).length&&(!eqCs ((t.r).get j.toNat).cs [.u 0#64,.u 0#64,.u 0#64,.u 0#64]&&true)))))))=true) (c0:pe (.c (.b (AC.asB ((bcs t.s)[j.toNat*1]?.getD (.b false)))))=pe (.c (.b ((t.s).get j.toNat)))) (c1:pe (.ag (((t.cs).drop (7+j.toNat*4)).take 4))=pe (.ag ((t.r).get j.toNat).cs)) :
  AR 56 Tryz.f56 (cx w β n []) 0 (zbh t j) (REff w β ⟨.c (.i 1),[],none⟩) :=
 zah [] none [true,false,false,true,true] ([true]) [(5,1),(6,5),(6,16)] Tryz.func56 (zau rfl n) (by kernel_rfl) h (zac c0 (zac c1 zae))
theorem yaf5 (h:(decide (j<6)&&(AC.isB ((bcs t.s)[j.toNat*1]?.getD (.b false))&&Nat.blt (j.toNat*1) (bcs t.s).length&&(decide (0≤j)&&decide (j<6))&&(!(t.s).get j.toNat&&(!(t.s).get j.toNat&&(decide (0≤j)&&decide (j<6)&&(Nat.ble (7+j.toNat*4+4) (t.cs).length&&(!!eqCs ((t.r).get j.toNat).cs [.u 0#64,.u 0#64,.u 0#64,.u 0#64]&&true)))))))=true) (c0:pe (.c (.b (AC.asB ((bcs t.s)[j.toNat*1]?.getD (.b false)))))=pe (.c (.b ((t.s).get j.toNat)))) (c1:pe (.ag (((t.cs).drop (7+j.toNat*4)).take 4))=pe (.ag ((t.r).get j.toNat).cs)) (lo:Kn.Low (zbh t (IntKind.i64.wrap (j+1)))) (hF:∀ k,C.F k→k<1) (z:AR 56 Tryz.f56 C 0 (zbh t (IntKind.i64.wrap (j+1))) R) :
  AR 56 Tryz.f56 C 0 (zbh t j) R :=
 zai [true,false,false,true,false] ([true]) [(5,1),(6,5),(6,16)] Tryz.func56 (by kernel_rfl) h (zac c0 (zac c1 zae)) lo hF z
theorem zyd (hn:n≤1)
  (l0:((t.s).get j.toNat)=true→(er (V4.ok ((t.r).get j.toNat)) != 0)=true→(decide (j<6))=true∧(AC.isB ((bcs t.s)[j.toNat*1]?.getD (.b false))&&Nat.blt (j.toNat*1) (bcs t.s).length&&(decide (0≤j)&&decide (j<6)))=true∧(decide (0≤j)&&decide (j<6))=true∧(Nat.ble (7+j.toNat*4+4) (t.cs).length)=true∧(pe (.c (.b (AC.asB ((bcs t.s)[j.toNat*1]?.getD (.b false)))))=pe (.c (.b ((t.s).get j.toNat))))∧(pe (.ag (((t.cs).drop (7+j.toNat*4)).take 4))=pe (.ag ((t.r).get j.toNat).cs))∧(Ok 98 [.ag ((t.r).get j.toNat).cs] (.c (.i (er (V4.ok ((t.r).get j.toNat))))))∧((⟨.c (.i 1),[],none⟩:Eff)=E))
  (l1:((t.s).get j.toNat)=true→(er (V4.ok ((t.r).get j.toNat)) != 0)=false→(decide (j<6))=true∧(AC.isB ((bcs t.s)[j.toNat*1]?.getD (.b false))&&Nat.blt (j.toNat*1) (bcs t.s).length&&(decide (0≤j)&&decide (j<6)))=true∧(decide (0≤j)&&decide (j<6))=true∧(Nat.ble (7+j.toNat*4+4) (t.cs).length)=true∧(!!(t.s).get j.toNat)=true∧(pe (.c (.b (AC.asB ((bcs t.s)[j.toNat*1]?.getD (.b false)))))=pe (.c (.b ((t.s).get j.toNat))))∧(pe (.ag (((t.cs).drop (7+j.toNat*4)).take 4))=pe (.ag ((t.r).get j.toNat).cs))∧(Ok 98 [.ag ((t.r).get j.toNat).cs] (.c (.i (er (V4.ok ((t.r).get j.toNat))))))∧Kn.Low (zbh t (IntKind.i64.wrap (j+1)))∧AR 56 Tryz.f56 (cx w β n []) 0 (zbh t (IntKind.i64.wrap (j+1))) (REff w β E))
  (l2:((t.s).get j.toNat)=false→(!eqCs ((t.r).get j.toNat).cs [.u 0#64,.u 0#64,.u 0#64,.u 0#64])=true→(decide (j<6))=true∧(AC.isB ((bcs t.s)[j.toNat*1]?.getD (.b false))&&Nat.blt (j.toNat*1) (bcs t.s).length&&(decide (0≤j)&&decide (j<6)))=true∧(decide (0≤j)&&decide (j<6))=true∧(Nat.ble (7+j.toNat*4+4) (t.cs).length)=true∧(pe (.c (.b (AC.asB ((bcs t.s)[j.toNat*1]?.getD (.b false)))))=pe (.c (.b ((t.s).get j.toNat))))∧(pe (.ag (((t.cs).drop (7+j.toNat*4)).take 4))=pe (.ag ((t.r).get j.toNat).cs))∧((⟨.c (.i 1),[],none⟩:Eff)=E))
  (l3:((t.s).get j.toNat)=false→(!eqCs ((t.r).get j.toNat).cs [.u 0#64,.u 0#64,.u 0#64,.u 0#64])=false→(decide (j<6))=true∧(AC.isB ((bcs t.s)[j.toNat*1]?.getD (.b false))&&Nat.blt (j.toNat*1) (bcs t.s).length&&(decide (0≤j)&&decide (j<6)))=true∧(decide (0≤j)&&decide (j<6))=true∧(Nat.ble (7+j.toNat*4+4) (t.cs).length)=true∧(pe (.c (.b (AC.asB ((bcs t.s)[j.toNat*1]?.getD (.b false)))))=pe (.c (.b ((t.s).get j.toNat))))∧(pe (.ag (((t.cs).drop (7+j.toNat*4)).take 4))=pe (.ag ((t.r).get j.toNat).cs))∧Kn.Low (zbh t (IntKind.i64.wrap (j+1)))∧AR 56 Tryz.f56 (cx w β n []) 0 (zbh t (IntKind.i64.wrap (j+1))) (REff w β E)) :
  AR 56 Tryz.f56 (cx w β n []) 0 (zbh t j) (REff w β E) :=
 (tf ((t.s).get j.toNat)).elim (fun h0=>(tf (er (V4.ok ((t.r).get j.toNat)) != 0)).elim (fun h1=>(match l0 h0 h1 with | ⟨o0,o1,o2,o3,c0,c1,c2,e⟩=>za5 (yado (zaa o0 (zaa o1 (zaa h0 (zaa o2 (zaa o3 (zaa h1 rfl)))))) c0 c1 c2) e)) (fun h1=>(match l1 h0 h1 with | ⟨o0,o1,o2,o3,o4,c0,c1,c2,lo,z⟩=>yae8 (zaa o0 (zaa o1 (zaa h0 (zaa o2 (zaa o3 (zaa (zad h1) (zaa o4 rfl))))))) c0 c1 c2 lo (fun _ hk=>Nat.lt_of_lt_of_le hk hn) z))) (fun h0=>(tf (!eqCs ((t.r).get j.toNat).cs [.u 0#64,.u 0#64,.u 0#64,.u 0#64])).elim (fun h1=>(match l2 h0 h1 with | ⟨o0,o1,o2,o3,c0,c1,e⟩=>za5 (yae5 (zaa o0 (zaa o1 (zaa (zad h0) (zaa (zad h0) (zaa o2 (zaa o3 (zaa h1 rfl))))))) c0 c1) e)) (fun h1=>(match l3 h0 h1 with | ⟨o0,o1,o2,o3,c0,c1,lo,z⟩=>yaf5 (zaa o0 (zaa o1 (zaa (zad h0) (zaa (zad h0) (zaa o2 (zaa o3 (zaa (zad h1) rfl))))))) c0 c1 lo (fun _ hk=>Nat.lt_of_lt_of_le hk hn) z)))
theorem yapv :
  AR 56 Tryz.f56 (cx w β n []) 0 (zbh t 6) (REff w β ⟨.c (.i 0),[],none⟩) :=
 zah [] none [false] ([true]) [] Tryz.func56 (zau rfl n) (by kernel_rfl) rfl zae
theorem yapy (h:(e != 0&&true)=true) (c0:Ok 56 [.ag t.cs] (.c (.i e))) :
  BO 59 Tryz.f59 (cx w β n []) [.ag t.cs,.ag u.cs] [] 0 (REff w β ⟨.tu [.ag St.z.cs,.c (.i 1)],[],none⟩) :=
 zah [] none [true,true] ([true]) [] Tryz.func59 (zau rfl n) (by kernel_rfl) h (zab c0 zae)
theorem yaps (h:(!e != 0&&(f != 0&&true))=true) (c0:Ok 56 [.ag t.cs] (.c (.i e))) (c1:Ok 56 [.ag u.cs] (.c (.i f))) :
  BO 59 Tryz.f59 (cx w β n []) [.ag t.cs,.ag u.cs] [] 0 (REff w β ⟨.tu [.ag St.z.cs,.c (.i 1)],[],none⟩) :=
 zah [] none [false,true] ([true]) [] Tryz.func59 (zau rfl n) (by kernel_rfl) h (zab c0 (zab c1 zae))
theorem yan1 (h:(!e != 0&&(!f != 0&&(!t.live&&true)))=true) (c0:Ok 56 [.ag t.cs] (.c (.i e))) (c1:Ok 56 [.ag u.cs] (.c (.i f))) :
  BO 59 Tryz.f59 (cx w β n []) [.ag t.cs,.ag u.cs] [] 0 (REff w β ⟨.tu [.ag u.cs,.c (.i 0)],[],none⟩) :=
 zah [] none [false,false,true] ([true]) [] Tryz.func59 (zau rfl n) (by kernel_rfl) h (zab c0 (zab c1 zae))
theorem yam1 (h:(!e != 0&&(!f != 0&&(!!t.live&&(!u.live&&true))))=true) (c0:Ok 56 [.ag t.cs] (.c (.i e))) (c1:Ok 56 [.ag u.cs] (.c (.i f))) :
  BO 59 Tryz.f59 (cx w β n []) [.ag t.cs,.ag u.cs] [] 0 (REff w β ⟨.tu [.ag t.cs,.c (.i 0)],[],none⟩) :=
 zah [] none [false,false,false,true] ([true]) [] Tryz.func59 (zau rfl n) (by kernel_rfl) h (zab c0 (zab c1 zae))
theorem yapj (h:(!e != 0&&(!f != 0&&(!!t.live&&(!!u.live&&true))))=true) (c0:Ok 56 [.ag t.cs] (.c (.i e))) (c1:Ok 56 [.ag u.cs] (.c (.i f))) (lo:Kn.Low ⟨[(2,.c (.w 0)),(3,.c (.w 1)),(4,.c (.w 2)),(6,.c (.w 19)),(28,.c (.i 0))],[(0,Ent.mk true t.cs 0),(1,Ent.mk true u.cs 0),(2,Ent.mk true St.z.cs 0),(19,Ent.mk true St.e.cs 0)],20⟩) (hF:∀ k,C.F k→k<20) (z:AR 59 Tryz.f59 C 0 ⟨[(2,.c (.w 0)),(3,.c (.w 1)),(4,.c (.w 2)),(6,.c (.w 19)),(28,.c (.i 0))],[(0,Ent.mk true t.cs 0),(1,Ent.mk true u.cs 0),(2,Ent.mk true St.z.cs 0),(19,Ent.mk true St.e.cs 0)],20⟩ R) :
  BO 59 Tryz.f59 C [.ag t.cs,.ag u.cs] [] 0 R :=
 zai [false,false,false,false] ([true]) [] Tryz.func59 (by kernel_rfl) h (zab c0 (zab c1 zae)) lo hF z
theorem yagg (hn:n≤20)
  (l0:(e != 0)=true→(Ok 56 [.ag t.cs] (.c (.i e)))∧((⟨.tu [.ag St.z.cs,.c (.i 1)],[],none⟩:Eff)=E))
  (l1:(e != 0)=false→(f != 0)=true→(Ok 56 [.ag t.cs] (.c (.i e)))∧(Ok 56 [.ag u.cs] (.c (.i f)))∧((⟨.tu [.ag St.z.cs,.c (.i 1)],[],none⟩:Eff)=E))
  (l2:(e != 0)=false→(f != 0)=false→(!t.live)=true→(Ok 56 [.ag t.cs] (.c (.i e)))∧(Ok 56 [.ag u.cs] (.c (.i f)))∧((⟨.tu [.ag u.cs,.c (.i 0)],[],none⟩:Eff)=E))
  (l3:(e != 0)=false→(f != 0)=false→(!t.live)=false→(!u.live)=true→(Ok 56 [.ag t.cs] (.c (.i e)))∧(Ok 56 [.ag u.cs] (.c (.i f)))∧((⟨.tu [.ag t.cs,.c (.i 0)],[],none⟩:Eff)=E))
  (l4:(e != 0)=false→(f != 0)=false→(!t.live)=false→(!u.live)=false→(Ok 56 [.ag t.cs] (.c (.i e)))∧(Ok 56 [.ag u.cs] (.c (.i f)))∧Kn.Low ⟨[(2,.c (.w 0)),(3,.c (.w 1)),(4,.c (.w 2)),(6,.c (.w 19)),(28,.c (.i 0))],[(0,Ent.mk true t.cs 0),(1,Ent.mk true u.cs 0),(2,Ent.mk true St.z.cs 0),(19,Ent.mk true St.e.cs 0)],20⟩∧AR 59 Tryz.f59 (cx w β n []) 0 ⟨[(2,.c (.w 0)),(3,.c (.w 1)),(4,.c (.w 2)),(6,.c (.w 19)),(28,.c (.i 0))],[(0,Ent.mk true t.cs 0),(1,Ent.mk true u.cs 0),(2,Ent.mk true St.z.cs 0),(19,Ent.mk true St.e.cs 0)],20⟩ (REff w β E)) :
  BO 59 Tryz.f59 (cx w β n []) [.ag t.cs,.ag u.cs] [] 0 (REff w β E) :=
 (tf (e != 0)).elim (fun h0=>(match l0 h0 with | ⟨c0,e⟩=>za5 (yapy (zaa h0 rfl) c0) e)) (fun h0=>(tf (f != 0)).elim (fun h1=>(match l1 h0 h1 with | ⟨c0,c1,e⟩=>za5 (yaps (zaa (zad h0) (zaa h1 rfl)) c0 c1) e)) (fun h1=>(tf (!t.live)).elim (fun h2=>(match l2 h0 h1 h2 with | ⟨c0,c1,e⟩=>za5 (yan1 (zaa (zad h0) (zaa (zad h1) (zaa h2 rfl))) c0 c1) e)) (fun h2=>(tf (!u.live)).elim (fun h3=>(match l3 h0 h1 h2 h3 with | ⟨c0,c1,e⟩=>za5 (yam1 (zaa (zad h0) (zaa (zad h1) (zaa (zad h2) (zaa h3 rfl)))) c0 c1) e)) (fun h3=>(match l4 h0 h1 h2 h3 with | ⟨c0,c1,lo,z⟩=>yapj (zaa (zad h0) (zaa (zad h1) (zaa (zad h2) (zaa (zad h3) rfl)))) c0 c1 lo (fun _ hk=>Nat.lt_of_lt_of_le hk hn) z)))))
theorem yac1 (h:(decide (j<6)&&(decide (0≤j)&&decide (j<6)&&(AC.isB ((t.cs)[1+j.toNat*1]?.getD (.b false))&&Nat.blt (1+j.toNat*1) (t.cs).length&&((t.s).get j.toNat&&(decide (0≤j)&&decide (j<6)&&(AC.isB ((u.cs)[1+j.toNat*1]?.getD (.b false))&&Nat.blt (1+j.toNat*1) (u.cs).length&&((u.s).get j.toNat&&(decide (0≤j)&&decide (j<6)&&(Nat.ble (7+j.toNat*4+4) (t.cs).length&&(decide (0≤j)&&decide (j<6)&&(Nat.ble (7+j.toNat*4+4) (u.cs).length&&true)))))))))))=true) (c0:pe (.c (.b (AC.asB ((t.cs)[1+j.toNat*1]?.getD (.b false)))))=pe (.c (.b ((t.s).get j.toNat)))) (c1:pe (.c (.b (AC.asB ((u.cs)[1+j.toNat*1]?.getD (.b false)))))=pe (.c (.b ((u.s).get j.toNat)))) (c2:pe (.ag (((t.cs).drop (7+j.toNat*4)).take 4))=pe (.ag ((t.r).get j.toNat).cs)) (c3:pe (.ag (((u.cs).drop (7+j.toNat*4)).take 4))=pe (.ag ((u.r).get j.toNat).cs)) (c4:Ok 109 [.ag ((t.r).get j.toNat).cs,.ag ((u.r).get j.toNat).cs] (.tu [.ag a.cs,.c (.i 0)])) (c5:Ok 53 [.ag b.cs,.c (.i j),.ag a.cs] (.ag b2.cs)) (lo:Kn.Low (zb7 t u b2 (IntKind.i64.wrap (j+1)))) (hF:∀ k,C.F k→k<20) (z:AR 59 Tryz.f59 C 0 (zb7 t u b2 (IntKind.i64.wrap (j+1))) R) :
  AR 59 Tryz.f59 C 0 (zb7 t u b j) R :=
 zai [true,true,true] ([true]) [(11,3),(11,8),(12,3),(12,7)] Tryz.func59 (by kernel_rfl) h (zac c0 (zac c1 (zac c2 (zac c3 (zab c4 (zab c5 zae)))))) lo hF z
theorem yaep (h:(decide (j<6)&&(decide (0≤j)&&decide (j<6)&&(AC.isB ((t.cs)[1+j.toNat*1]?.getD (.b false))&&Nat.blt (1+j.toNat*1) (t.cs).length&&((t.s).get j.toNat&&(decide (0≤j)&&decide (j<6)&&(AC.isB ((u.cs)[1+j.toNat*1]?.getD (.b false))&&Nat.blt (1+j.toNat*1) (u.cs).length&&(!(u.s).get j.toNat&&true)))))))=true) (c0:pe (.c (.b (AC.asB ((t.cs)[1+j.toNat*1]?.getD (.b false)))))=pe (.c (.b ((t.s).get j.toNat)))) (c1:pe (.c (.b (AC.asB ((u.cs)[1+j.toNat*1]?.getD (.b false)))))=pe (.c (.b ((u.s).get j.toNat)))) (lo:Kn.Low (zb7 t u b (IntKind.i64.wrap (j+1)))) (hF:∀ k,C.F k→k<20) (z:AR 59 Tryz.f59 C 0 (zb7 t u b (IntKind.i64.wrap (j+1))) R) :
  AR 59 Tryz.f59 C 0 (zb7 t u b j) R :=
 zai [true,true,false] ([true]) [(11,3),(11,8),(12,3),(12,7)] Tryz.func59 (by kernel_rfl) h (zac c0 (zac c1 zae)) lo hF z
theorem yadf (h:(decide (j<6)&&(decide (0≤j)&&decide (j<6)&&(AC.isB ((t.cs)[1+j.toNat*1]?.getD (.b false))&&Nat.blt (1+j.toNat*1) (t.cs).length&&(!(t.s).get j.toNat&&true))))=true) (c0:pe (.c (.b (AC.asB ((t.cs)[1+j.toNat*1]?.getD (.b false)))))=pe (.c (.b ((t.s).get j.toNat)))) (lo:Kn.Low (zb7 t u b (IntKind.i64.wrap (j+1)))) (hF:∀ k,C.F k→k<20) (z:AR 59 Tryz.f59 C 0 (zb7 t u b (IntKind.i64.wrap (j+1))) R) :
  AR 59 Tryz.f59 C 0 (zb7 t u b j) R :=
 zai [true,false,false] ([true]) [(11,3),(11,8),(12,3),(12,7)] Tryz.func59 (by kernel_rfl) h (zac c0 zae) lo hF z
theorem zxs (hn:n≤20)
  (l0:((t.s).get j.toNat)=true→((u.s).get j.toNat)=true→(decide (j<6))=true∧(decide (0≤j)&&decide (j<6))=true∧(AC.isB ((t.cs)[1+j.toNat*1]?.getD (.b false))&&Nat.blt (1+j.toNat*1) (t.cs).length)=true∧(decide (0≤j)&&decide (j<6))=true∧(AC.isB ((u.cs)[1+j.toNat*1]?.getD (.b false))&&Nat.blt (1+j.toNat*1) (u.cs).length)=true∧(decide (0≤j)&&decide (j<6))=true∧(Nat.ble (7+j.toNat*4+4) (t.cs).length)=true∧(decide (0≤j)&&decide (j<6))=true∧(Nat.ble (7+j.toNat*4+4) (u.cs).length)=true∧(pe (.c (.b (AC.asB ((t.cs)[1+j.toNat*1]?.getD (.b false)))))=pe (.c (.b ((t.s).get j.toNat))))∧(pe (.c (.b (AC.asB ((u.cs)[1+j.toNat*1]?.getD (.b false)))))=pe (.c (.b ((u.s).get j.toNat))))∧(pe (.ag (((t.cs).drop (7+j.toNat*4)).take 4))=pe (.ag ((t.r).get j.toNat).cs))∧(pe (.ag (((u.cs).drop (7+j.toNat*4)).take 4))=pe (.ag ((u.r).get j.toNat).cs))∧(Ok 109 [.ag ((t.r).get j.toNat).cs,.ag ((u.r).get j.toNat).cs] (.tu [.ag a.cs,.c (.i 0)]))∧(Ok 53 [.ag b.cs,.c (.i j),.ag a.cs] (.ag b2.cs))∧Kn.Low (zb7 t u b2 (IntKind.i64.wrap (j+1)))∧AR 59 Tryz.f59 (cx w β n []) 0 (zb7 t u b2 (IntKind.i64.wrap (j+1))) (REff w β E))
  (l1:((t.s).get j.toNat)=true→((u.s).get j.toNat)=false→(decide (j<6))=true∧(decide (0≤j)&&decide (j<6))=true∧(AC.isB ((t.cs)[1+j.toNat*1]?.getD (.b false))&&Nat.blt (1+j.toNat*1) (t.cs).length)=true∧(decide (0≤j)&&decide (j<6))=true∧(AC.isB ((u.cs)[1+j.toNat*1]?.getD (.b false))&&Nat.blt (1+j.toNat*1) (u.cs).length)=true∧(pe (.c (.b (AC.asB ((t.cs)[1+j.toNat*1]?.getD (.b false)))))=pe (.c (.b ((t.s).get j.toNat))))∧(pe (.c (.b (AC.asB ((u.cs)[1+j.toNat*1]?.getD (.b false)))))=pe (.c (.b ((u.s).get j.toNat))))∧Kn.Low (zb7 t u b (IntKind.i64.wrap (j+1)))∧AR 59 Tryz.f59 (cx w β n []) 0 (zb7 t u b (IntKind.i64.wrap (j+1))) (REff w β E))
  (l2:((t.s).get j.toNat)=false→(decide (j<6))=true∧(decide (0≤j)&&decide (j<6))=true∧(AC.isB ((t.cs)[1+j.toNat*1]?.getD (.b false))&&Nat.blt (1+j.toNat*1) (t.cs).length)=true∧(pe (.c (.b (AC.asB ((t.cs)[1+j.toNat*1]?.getD (.b false)))))=pe (.c (.b ((t.s).get j.toNat))))∧Kn.Low (zb7 t u b (IntKind.i64.wrap (j+1)))∧AR 59 Tryz.f59 (cx w β n []) 0 (zb7 t u b (IntKind.i64.wrap (j+1))) (REff w β E)) :
  AR 59 Tryz.f59 (cx w β n []) 0 (zb7 t u b j) (REff w β E) :=
 (tf ((t.s).get j.toNat)).elim (fun h0=>(tf ((u.s).get j.toNat)).elim (fun h1=>(match l0 h0 h1 with | ⟨o0,o1,o2,o3,o4,o5,o6,o7,o8,c0,c1,c2,c3,c4,c5,lo,z⟩=>yac1 (zaa o0 (zaa o1 (zaa o2 (zaa h0 (zaa o3 (zaa o4 (zaa h1 (zaa o5 (zaa o6 (zaa o7 (zaa o8 rfl))))))))))) c0 c1 c2 c3 c4 c5 lo (fun _ hk=>Nat.lt_of_lt_of_le hk hn) z)) (fun h1=>(match l1 h0 h1 with | ⟨o0,o1,o2,o3,o4,c0,c1,lo,z⟩=>yaep (zaa o0 (zaa o1 (zaa o2 (zaa h0 (zaa o3 (zaa o4 (zaa (zad h1) rfl))))))) c0 c1 lo (fun _ hk=>Nat.lt_of_lt_of_le hk hn) z))) (fun h0=>(match l2 h0 with | ⟨o0,o1,o2,c0,lo,z⟩=>yadf (zaa o0 (zaa o1 (zaa o2 (zaa (zad h0) rfl)))) c0 lo (fun _ hk=>Nat.lt_of_lt_of_le hk hn) z))
theorem yamq :
  AR 59 Tryz.f59 (cx w β n []) 0 (zb7 t u b 6) (REff w β ⟨.tu [.ag b.cs,.c (.i 0)],[],none⟩) :=
 zah [] none [false] ([true]) [] Tryz.func59 (zau rfl n) (by kernel_rfl) rfl zae
end
end Go.Proofs.YtkigmocchaikgabGreatDoor
namespace Go.Proofs.YtkigmocchaikgabGreatDoor
theorem V4.ok_rt {a:V4} (h:a.ok=true):RtB a.v a.m:=(zbf h).1
theorem V4.has_ok {a:V4} {x:BitVec 64} (h:a.has x=true):a.ok=true:=(znf h).1
theorem V4.nrm_ok {a:V4} (hr:RtB a.v a.m) (h:a.nok=true):a.nrm.ok=true:=zfl hr h
theorem V4.nrm_has {a:V4} {x:BitVec 64} (hr:RtB a.v a.m) (hx:rawV a.v a.m a.l a.h x=true):a.nok=true∧a.nrm.has x=true:=yam5 hr hx
theorem V4.has_iff {a:V4} {x:BitVec 64}:a.has x=true↔a.ok=true∧hasB a.v a.m x=true∧nv a.l≤nv x∧nv x≤nv a.h:=by
 simp only [V4.has,hasV,V4.ok,Bool.and_eq_true,decide_eq_true_eq]
theorem V4.low_has {a:V4} (h:a.ok=true):a.has a.l=true:=by
 obtain ⟨_,h2,_,h4,_⟩:=zbf h
 exact V4.has_iff.2 ⟨h,h2,Int.le_refl _,h4⟩
theorem V4.le {a:V4} (h:a.ok=true):nv a.l≤nv a.h:=(zbf h).2.2.2.1
theorem V4.stays {a:V4} (h:a.ok=true):a.nok=true∧a.nrm=a:=by
 obtain ⟨h1,h2,h3,h4,h5⟩:=zo3 h
 refine ⟨h1,?_⟩
 cases a;simp only [V4.nrm] at *;rw [h2,h3,h4,h5]
theorem V4.two_has {op:Int} {a b:V4} {x y:BitVec 64} (hop:2≤op∧op≤9) (hx:a.has x=true) (hy:b.has y=true):(V4.two op a b).has (numN op x y)=true:=by
 obtain ⟨h1,h2⟩:=yacq hop hx hy
 obtain ⟨h3,h4⟩:=V4.nrm_has (a:=V4.raw2 op a b) h1 h2
 unfold V4.two V4.norm
 rw [if_pos h3]
 exact h4
theorem V4.two_ok {op:Int} {a b:V4} (hop:2≤op∧op≤9) (ha:a.ok=true) (hb:b.ok=true):(V4.two op a b).ok=true:=V4.has_ok (V4.two_has hop (V4.low_has ha) (V4.low_has hb))
theorem V4.join_has {a b:V4} {x:BitVec 64} (ha:a.ok=true) (hb:b.ok=true) (h:a.has x=true∨b.has x=true):(a.join b).has x=true:=by
 obtain ⟨_,h2,h3⟩:=zko ha hb
 rcases h with h | h
 ·exact yabb h2 h
 ·exact yabb h3 h
theorem V4.join_ok {a b:V4} (ha:a.ok=true) (hb:b.ok=true):(a.join b).ok=true:=V4.has_ok (V4.join_has ha hb (Or.inl (V4.low_has ha)))
theorem zus {v m:BitVec 64} (h:RtB v m):insB v m v m=true:=zhk h h fun _ hx=>hx
theorem yarx (x:BitVec 64):hasB x zero x=true:=by
 have hr:RtB x zero:=fun j=>by rw [zbb];cases bit x j <;> rfl
 refine (za0 _ _ _).2 ⟨hr,fun j hj=>?_⟩
 rw [zbb];cases bit x j <;> rfl
theorem yahh (x:BitVec 64):sM x x=zero:=by
 apply bext
 intro j hj
 rw [zbb]
 exact (zm7 x x j hj).2 fun _ _=>rfl
theorem V4.of_ok (x:BitVec 64):(V4.of x).ok=true:=by
 have h:=yarx x
 have hs:spV x x=x:=by
  unfold spV
  rw [yahh]
  apply bext
  intro j hj
  rw [zas _ _ _ hj,zbb];cases bit x j <;> rfl
 show valB x zero x x=true
 unfold valB
 rw [h,yahh,hs,zus ((za0 _ _ _).1 h).1]
 simp
theorem yasm {l h:BitVec 64} {n:Nat} (hn:n<64) (hl:l=zero) (hb:bit h n=true):∀ j,j≤n→bit (sM l h) j=true:=by
 intro j hj
 cases hc:bit (sM l h) j with
 | true=>rfl
 | false =>
  have:=(zm7 l h j (by omega)).1 hc n hj
  rw [hl,zbb,hb] at this
  cases this
theorem V4.low_ok {h:BitVec 64} (n:Nat) (hn:n≤64) (hb:∀ j,j<64→bit h j=decide (j<n)) (h0:0<n):V4.ok ⟨zero,h,zero,h⟩=true∧∀ x,nv x≤nv h→V4.has ⟨zero,h,zero,h⟩ x=true:=by
 have hr:RtB zero h:=zoj h
 have g0:hasB zero h zero=true:=(za0 _ _ _).2 ⟨hr,fun j hj=>by rw [zbb];rfl⟩
 have g1:hasB zero h h=true:=(za0 _ _ _).2 ⟨hr,fun j hj=>by rw [zbb];cases bit h j <;> rfl⟩
 have hle:nv zero≤nv h:=(ends h).1
 have sm:sM zero h=h:=by
  apply bext
  intro j hj
  rw [hb j hj]
  by_cases c:j<n
  ·rw [yasm (n:=n - 1) (by omega) rfl (by rw [hb _ (by omega)];simp;omega) j (by omega)];simp [c]
  ·have:bit (sM zero h) j=false:=(zm7 _ _ _ hj).2 fun i hi=>by
    by_cases c':i<64
    ·rw [zbb,hb i c'];simp;omega
    ·rw [zba _ _ (by omega),zba _ _ (by omega)]
   rw [this];simp [c]
 have sp:spV zero h=zero:=by
  unfold spV
  apply bext
  intro j hj
  rw [zas _ _ _ hj,zbb];rfl
 have ho:V4.ok ⟨zero,h,zero,h⟩=true:=by
  show valB zero h zero h=true
  unfold valB
  rw [g0,g1,sm,sp,zus hr]
  simp [hle]
 refine ⟨ho,fun x hx=>V4.has_iff.2 ⟨ho,(za0 _ _ _).2 ⟨hr,fun j hj=>?_⟩,(ends x).1,hx⟩⟩
 -- a bit that h lacks, x lacks
 rw [zbb]
 have:=zf5 (l:=zero) (h:=h) (x:=x) (ends x).1 hx
 rw [sm,sp] at this
 have h2:=((za0 _ _ _).1 this).2 j hj
 rw [zbb] at h2
 exact h2
theorem V4.any_has (x:BitVec 64):V4.any.has x=true:=(V4.low_ok (h:=top) 64 (Nat.le_refl _) (fun j hj=>by rw [zqn _ hj];simp [hj]) (by decide)).2 x (ends x).2
theorem V4.any_ok:V4.any.ok=true:=V4.has_ok (V4.any_has zero)
theorem zut (n:Int):∃ k,0<k∧k≤64∧∀ j,j<64→bit (zmt n) j=decide (j<k):=by
 have key:∀ (k:Nat) (x:BitVec 64),(∀ j:Fin 64,x.getLsbD j.1=decide (j.1<k))→∀ j,j<64→bit x j=decide (j<k):=fun k x h j hj=>h ⟨j,hj⟩
 unfold zmt
 split
 ·exact ⟨64,by decide,by decide,fun j hj=>by rw [zqn _ hj];simp [hj]⟩
 ·split
  ·exact ⟨32,by decide,by decide,key 32 _ (by decide)⟩
  ·split
   ·exact ⟨16,by decide,by decide,key 16 _ (by decide)⟩
   ·exact ⟨8,by decide,by decide,key 8 _ (by decide)⟩
theorem V4.bytes_has (n:Int) (x:BitVec 64) (hx:nv x≤nv (zmt n)):(V4.bytes n).has x=true:=by
 obtain ⟨k,h1,h2,h3⟩:=zut n
 exact (V4.low_ok k h2 h3 h1).2 x hx
theorem V4.bytes_ok (n:Int):(V4.bytes n).ok=true:=V4.has_ok (V4.bytes_has n zero (ends _).1)
theorem zlv {may:Bool} {x y:V4} (hx:RtB x.v x.m) (hy:RtB y.v y.m) (h:(zhe may x y).2.2=true):(zhe may x y).1.ok=true∧(zhe may x y).2.1.ok=true:=by
 have h':(may&&(x.nok&&y.nok))=true:=h
 simp only [zhe,lvV,h',if_true]
 simp only [Bool.and_eq_true] at h'
 exact ⟨V4.nrm_ok hx h'.2.1,V4.nrm_ok hy h'.2.2⟩
theorem yago {a b:V4} (ha:a.ok=true) (hb:b.ok=true):RtB (bor a.v b.v) (band a.m b.m):=by
 have r1:=V4.ok_rt ha
 have r2:=V4.ok_rt hb
 intro j
 have h3:=r1 j;have h4:=r2 j
 rw [zap,zaz]
 revert h3 h4
 cases bit a.v j <;> cases bit a.m j <;> cases bit b.v j <;> cases bit b.m j <;> simp
theorem V4.equal_ok {a b:V4} (ha:a.ok=true) (hb:b.ok=true) (h:(a.equal b).2.2=true):(a.equal b).1.ok=true∧(a.equal b).2.1.ok=true:=by
 unfold V4.equal at h ⊢
 split at h
 ·rename_i hm
  rw [if_pos hm]
  exact zlv (yago ha hb) (yago ha hb) h
 ·cases h
theorem V4.other_ok {a b:V4} (ha:a.ok=true) (hb:b.ok=true) (h:(a.other b).2.2=true):(a.other b).1.ok=true∧(a.other b).2.1.ok=true :=
 zlv (show RtB a.v a.m from V4.ok_rt ha) (show RtB b.v b.m from V4.ok_rt hb) h
theorem V4.less_ok {a b:V4} (ha:a.ok=true) (hb:b.ok=true) (h:(a.less b).2.2=true):(a.less b).1.ok=true∧(a.less b).2.1.ok=true:=by
 unfold V4.less at h ⊢
 split at h
 ·cases h
 ·rename_i hm
  rw [if_neg hm]
  exact zlv (show RtB a.v a.m from V4.ok_rt ha) (show RtB b.v b.m from V4.ok_rt hb) h
theorem V4.notLess_ok {a b:V4} (ha:a.ok=true) (hb:b.ok=true) (h:(a.notLess b).2.2=true):(a.notLess b).1.ok=true∧(a.notLess b).2.1.ok=true :=
 zlv (show RtB a.v a.m from V4.ok_rt ha) (show RtB b.v b.m from V4.ok_rt hb) h
theorem V4.eq_iff {a b:V4}:eqCs a.cs b.cs=true↔a=b:=by
 cases a;cases b
 simp [V4.cs,eqCs,eqC,eqb]
theorem zkg {p:Nat→Bool}:zcx p 6=false↔∀ j,j<6→p j=false:=by
 simp only [zcx,Bool.or_eq_false_iff]
 constructor
 ·rintro ⟨h0,h1,h2,h3,h4,h5,_⟩
  exact lt6 h0 h1 h2 h3 h4 h5
 ·intro h
  exact ⟨h 0 (by decide),h 1 (by decide),h 2 (by decide),h 3 (by decide),h 4 (by decide),h 5 (by decide),trivial⟩
theorem St.z_iff {t:St}:eqCs t.cs St.z.cs=true↔t=St.z:=by
 obtain ⟨l,⟨s0,s1,s2,s3,s4,s5⟩,⟨⟨a0,a1,a2,a3⟩,⟨b0,b1,b2,b3⟩,⟨c0,c1,c2,c3⟩,⟨d0,d1,d2,d3⟩,⟨e0,e1,e2,e3⟩,⟨f0,f1,f2,f3⟩⟩⟩:=t
 simp [St.cs,St.z,no6,V6.rep,V4.z,eqCs,eqC,eqb,and_assoc]
theorem V4.z_iff {a:V4}:eqCs a.cs V4.z.cs=true↔a=V4.z:=V4.eq_iff
structure St.Ok (t:St):Prop where
 dead:t.live=false→t=St.z
 set:∀ j,j<6→t.s.get j=true→(t.r.get j).ok=true
 unset:∀ j,j<6→t.s.get j=false→t.r.get j=V4.z
theorem badR_no {t:St} {j:Nat}:badR t j=false↔((t.s.get j=true→(t.r.get j).ok=true)∧(t.s.get j=false→t.r.get j=V4.z)):=by
 unfold badR
 cases h:t.s.get j with
 | true=>simp
 | false =>
  rw [← V4.z_iff]
  simp
theorem St.ok_iff {t:St}:t.ok=true↔t.Ok:=by
 unfold St.ok
 rw [Bool.and_eq_true,Bool.or_eq_true,St.z_iff,Bool.not_eq_true',zkg]
 constructor
 ·rintro ⟨h1,h2⟩
  exact ⟨fun h=>h1.resolve_left (by rw [h];decide),fun j hj=>(badR_no.1 (h2 j hj)).1,fun j hj=>(badR_no.1 (h2 j hj)).2⟩
 ·intro h
  refine ⟨?_,fun j hj=>badR_no.2 ⟨h.set j hj,h.unset j hj⟩⟩
  cases hl:t.live with
  | true=>exact Or.inl rfl
  | false=>exact Or.inr (h.dead hl)
theorem zyn {α:Type} (a:α):∀ j,j<6→(V6.rep a).get j=a:=lt6 rfl rfl rfl rfl rfl rfl
theorem zzb:∀ j,j<6→no6.get j=false:=lt6 rfl rfl rfl rfl rfl rfl
theorem St.z_Ok:St.z.Ok:=⟨fun _=>rfl,fun j hj h=>(by rw [show St.z.s=no6 from rfl,zzb j hj] at h;cases h),fun j hj _=>zyn _ j hj⟩
theorem St.e_Ok:St.e.Ok:=⟨fun h=>(by cases h),fun j hj h=>(by rw [show St.e.s=no6 from rfl,zzb j hj] at h;cases h),fun j hj _=>zyn _ j hj⟩
theorem St.wth_s {t:St} {d j:Nat} {a:V4} (hd:d<6) (hj:j<6):(t.wth d a).s.get j=if d=j then true else t.s.get j:=V6.get_set _ _ _ _ hd hj
theorem St.wth_r {t:St} {d j:Nat} {a:V4} (hd:d<6) (hj:j<6):(t.wth d a).r.get j=if d=j then a else t.r.get j:=V6.get_set _ _ _ _ hd hj
theorem St.wth_Ok {t:St} {d:Nat} {a:V4} (hd:d<6) (hl:t.live=true) (ha:a.ok=true) (h:t.Ok):(t.wth d a).Ok:=by
 refine ⟨fun hn=>?_,fun j hj hs=>?_,fun j hj hs=>?_⟩
 ·have:t.live=false:=hn
  rw [hl] at this;cases this
 ·rw [St.wth_s hd hj] at hs
  rw [St.wth_r hd hj]
  split
  ·exact ha
  ·rename_i hne;rw [if_neg hne] at hs;exact h.set j hj hs
 ·rw [St.wth_s hd hj] at hs
  rw [St.wth_r hd hj]
  split
  ·rename_i hne;rw [if_pos hne] at hs;cases hs
  ·rename_i hne;rw [if_neg hne] at hs;exact h.unset j hj hs
theorem yaim:beginS.Ok:=St.wth_Ok (by decide) rfl V4.any_ok St.e_Ok
structure St.Has (t:St) (m:Mach):Prop where
 ok:t.Ok
 live:t.live=true
 mach:yahb m=0
 fin:m.fin=0
 reg:∀ j,j<6→t.s.get j=true→m.s.get j=true∧(t.r.get j).has (m.r.get j)=true
theorem lackR_no {t:St} {m:Mach} {j:Nat}:yavo t m j=false↔(t.s.get j=true→m.s.get j=true∧(t.r.get j).has (m.r.get j)=true):=by
 unfold yavo
 cases t.s.get j <;> cases m.s.get j <;> cases (t.r.get j).has (m.r.get j) <;> simp
theorem St.has_iff {t:St} {m:Mach}:t.has m=true↔t.Has m:=by
 unfold St.has
 rw [Bool.and_eq_true,Bool.and_eq_true,Bool.and_eq_true,Bool.and_eq_true,St.ok_iff,decide_eq_true_eq,decide_eq_true_eq,Bool.not_eq_true',zkg]
 constructor
 ·rintro ⟨h1,h2,h3,h4,h5⟩
  exact ⟨h1,h2,h3,h4,fun j hj=>lackR_no.1 (h5 j hj)⟩
 ·intro h
  exact ⟨h.ok,h.live,h.mach,h.fin,fun j hj=>lackR_no.2 (h.reg j hj)⟩
theorem zh1 (t u:St):∀ n,n≤6→∀ b:St,(zcy t u n b).live=b.live∧∀ j,j<6 →
  (zcy t u n b).s.get j=(if 6 - n≤j then ((t.s.get j&&u.s.get j)||b.s.get j) else b.s.get j) ∧
  (zcy t u n b).r.get j=(if 6 - n≤j∧(t.s.get j&&u.s.get j)=true then (t.r.get j).join (u.r.get j) else b.r.get j)
 | 0,_,b=>⟨rfl,fun j hj=>⟨by rw [if_neg (by omega)];rfl,by rw [if_neg (by omega)];rfl⟩⟩
 | n+1,hn,b=>by
  obtain ⟨h1,h2⟩:=zh1 t u n (by omega) (zhx t u (5 - n) b)
  have hk:5 - n<6:=by omega
  have hb:(zhx t u (5 - n) b).live=b.live∧∀ j,j<6→(zhx t u (5 - n) b).s.get j=(if 5 - n=j then ((t.s.get j&&u.s.get j)||b.s.get j) else b.s.get j) ∧
    (zhx t u (5 - n) b).r.get j=(if 5 - n=j∧(t.s.get j&&u.s.get j)=true then (t.r.get j).join (u.r.get j) else b.r.get j):=by
   unfold zhx
   cases hc:(t.s.get (5 - n)&&u.s.get (5 - n)) with
   | true =>
    rw [if_pos rfl]
    refine ⟨rfl,fun j hj=>?_⟩
    rw [St.wth_s hk hj,St.wth_r hk hj]
    by_cases hjj:5 - n=j
    ·subst hjj;simp [hc]
    ·simp [hjj]
   | false =>
    rw [if_neg (by decide)]
    refine ⟨rfl,fun j hj=>?_⟩
    by_cases hjj:5 - n=j
    ·subst hjj;simp [hc]
    ·simp [hjj]
  refine ⟨h1.trans hb.1,fun j hj=>?_⟩
  obtain ⟨h3,h4⟩:=h2 j hj
  obtain ⟨h5,h6⟩:=hb.2 j hj
  show (zcy t u n (zhx t u (5 - n) b)).s.get j=_∧(zcy t u n (zhx t u (5 - n) b)).r.get j=_
  rw [h3,h4,h5,h6]
  have pick:∀ {p q r:Prop} [Decidable p] [Decidable q] [Decidable r] (x y:Bool) (v w:V4),(r↔(p∨q))→¬ (p∧q)→((if p then (x||(if q then (x||y) else y)) else (if q then (x||y) else y))=(if r then (x||y) else y)) ∧
    ((if p∧x=true then v else (if q∧x=true then v else w))=(if r∧x=true then v else w)):=by
   intro p q r _ _ _ x y v w h1 h2
   by_cases hp:p
   ·have hq:¬ q:=fun hq=>h2 ⟨hp,hq⟩
    have hr:r:=h1.2 (Or.inl hp)
    simp [hp,hq,hr]
   ·by_cases hq:q
    ·have hr:r:=h1.2 (Or.inr hq)
     simp [hp,hq,hr]
    ·have hr:¬ r:=fun hr=>(h1.1 hr).elim hp hq
     simp [hp,hq,hr]
  exact pick _ _ _ _ (by omega) (by omega)
theorem St.join_live {t u:St} (ht:t.live=true) (hu:u.live=true):(t.join u).live=true∧∀ j,j<6 →
  (t.join u).s.get j=(t.s.get j&&u.s.get j)∧(t.join u).r.get j=(if (t.s.get j&&u.s.get j)=true then (t.r.get j).join (u.r.get j) else V4.z):=by
 unfold St.join
 rw [if_pos ht,if_pos hu]
 obtain ⟨h1,h2⟩:=zh1 t u 6 (Nat.le_refl 6) St.e
 refine ⟨h1,fun j hj=>?_⟩
 obtain ⟨h3,h4⟩:=h2 j hj
 rw [h3,h4,if_pos (by omega),show St.e.s=no6 from rfl,show St.e.r=V6.rep V4.z from rfl,zzb j hj,zyn _ j hj,Bool.or_false]
 exact ⟨rfl,by simp⟩
theorem St.join_Ok {t u:St} (ht:t.Ok) (hu:u.Ok):(t.join u).Ok:=by
 by_cases h1:t.live=true
 ·by_cases h2:u.live=true
  ·obtain ⟨h3,h4⟩:=St.join_live h1 h2
   refine ⟨fun h=>(by rw [h3] at h;cases h),fun j hj hs=>?_,fun j hj hs=>?_⟩
   ·obtain ⟨h5,h6⟩:=h4 j hj
    rw [h5] at hs
    rw [h6,if_pos hs]
    rw [Bool.and_eq_true] at hs
    exact V4.join_ok (ht.set j hj hs.1) (hu.set j hj hs.2)
   ·obtain ⟨h5,h6⟩:=h4 j hj
    rw [h5] at hs
    rw [h6,if_neg (by rw [hs];decide)]
  ·unfold St.join;rw [if_pos h1,if_neg h2];exact ht
 ·unfold St.join;rw [if_neg h1];exact hu
theorem St.join_Has {t u:St} {m:Mach} (ht:t.Ok) (hu:u.Ok) (h:t.Has m∨u.Has m):(t.join u).Has m:=by
 by_cases h1:t.live=true
 ·by_cases h2:u.live=true
  ·obtain ⟨h3,h4⟩:=St.join_live h1 h2
   have key:∀ j,j<6→(t.join u).s.get j=true→m.s.get j=true∧((t.join u).r.get j).has (m.r.get j)=true:=by
    intro j hj hs
    obtain ⟨h5,h6⟩:=h4 j hj
    rw [h5] at hs
    rw [h6,if_pos hs]
    rw [Bool.and_eq_true] at hs
    rcases h with h | h
    ·exact ⟨(h.reg j hj hs.1).1,V4.join_has (ht.set j hj hs.1) (hu.set j hj hs.2) (Or.inl (h.reg j hj hs.1).2)⟩
    ·exact ⟨(h.reg j hj hs.2).1,V4.join_has (ht.set j hj hs.1) (hu.set j hj hs.2) (Or.inr (h.reg j hj hs.2).2)⟩
   rcases h with h | h
   ·exact ⟨St.join_Ok ht hu,h3,h.mach,h.fin,key⟩
   ·exact ⟨St.join_Ok ht hu,h3,h.mach,h.fin,key⟩
  ·have e:t.join u=t:=by unfold St.join;rw [if_pos h1,if_neg h2]
   rw [e]
   exact h.resolve_right fun h=>h2 h.live
 ·have e:t.join u=u:=by unfold St.join;rw [if_neg h1]
  rw [e]
  exact h.resolve_left fun h=>h1 h.live
end Go.Proofs.YtkigmocchaikgabGreatDoor
namespace Go.Proofs.YtkigmocchaikgabGreatDoor
open Go.RowKit
section
variable {j:Int}
theorem zv3 (h:regB j=true):decide (j<6)=true:=decide_eq_true (regB_iff.1 h).2
theorem b_ok (u:V6 Bool) (h:regB j=true):(AC.isB (Option.getD (bcs u)[Int.toNat j*1]? (AC.b false))&&Nat.blt (Int.toNat j*1) (List.length (bcs u))&&(decide (0≤j)&&decide (j<6)))=true :=
 zcb (P:=fun j=>(AC.isB (Option.getD (bcs u)[Int.toNat j*1]? (AC.b false))&&Nat.blt (Int.toNat j*1) (List.length (bcs u))&&(decide (0≤j)&&decide (j<6)))=true) h rfl rfl rfl rfl rfl rfl
theorem zzj (u:V6 Bool) (h:regB j=true):Eff.mk (AV.c (AC.b (AC.asB (Option.getD (bcs u)[Int.toNat j*1]? (AC.b false))))) [] none=Eff.mk (AV.c (AC.b (V6.get u (Int.toNat j)))) [] none :=
 zcb (P:=fun j=>Eff.mk (AV.c (AC.b (AC.asB (Option.getD (bcs u)[Int.toNat j*1]? (AC.b false))))) [] none=Eff.mk (AV.c (AC.b (V6.get u (Int.toNat j)))) [] none) h rfl rfl rfl rfl rfl rfl
theorem zw3 (t:St) (h:regB j=true):(AC.isB (Option.getD (St.cs t)[1+Int.toNat j*1]? (AC.b false))&&Nat.blt (1+Int.toNat j*1) (List.length (St.cs t)))=true :=
 zcb (P:=fun j=>(AC.isB (Option.getD (St.cs t)[1+Int.toNat j*1]? (AC.b false))&&Nat.blt (1+Int.toNat j*1) (List.length (St.cs t)))=true) h rfl rfl rfl rfl rfl rfl
theorem zn2 (t:St) (h:regB j=true):Eff.mk (AV.c (AC.b (AC.asB (Option.getD (St.cs t)[1+Int.toNat j*1]? (AC.b false))))) [] none=Eff.mk (AV.c (AC.b (V6.get (St.s t) (Int.toNat j)))) [] none :=
 zcb (P:=fun j=>Eff.mk (AV.c (AC.b (AC.asB (Option.getD (St.cs t)[1+Int.toNat j*1]? (AC.b false))))) [] none=Eff.mk (AV.c (AC.b (V6.get (St.s t) (Int.toNat j)))) [] none) h rfl rfl rfl rfl rfl rfl
theorem zbe (t:St) (h:regB j=true):Nat.ble (7+Int.toNat j*4+4) (List.length (St.cs t))=true :=
 zcb (P:=fun j=>Nat.ble (7+Int.toNat j*4+4) (List.length (St.cs t))=true) h rfl rfl rfl rfl rfl rfl
theorem zax (t:St) (h:regB j=true):Eff.mk (AV.ag (List.take 4 (List.drop (7+Int.toNat j*4) (St.cs t)))) [] none=Eff.mk (AV.ag (V4.cs (V6.get (St.r t) (Int.toNat j)))) [] none:=by rw [yanu h]
end
theorem zn8 {n:Nat} (hn:n+1≤6):regB ((6 - (n+1):Nat):Int)=true:=by rw [regB_iff];omega
theorem zog {n:Nat} (hn:n+1≤6):((6 - (n+1):Nat):Int).toNat=5 - n:=by omega
theorem zjf {n:Nat} (hn:n+1≤6):IntKind.wrap IntKind.i64 (((6 - (n+1):Nat):Int)+1)=((6 - n:Nat):Int):=by rw [zfp (by omega) (by omega)];omega
theorem zsq (b:Bool):(er b != 0)=!b:=by cases b <;> rfl
theorem zb9 {t:St} {d:Int} (a:V4) (h:regB d=true):Ok 53 [.ag t.cs,.c (.i d),.ag a.cs] (.ag (t.wth d.toNat a).cs):=by
 have h1:=regB_iff.1 h
 have h2:=zbp h
 refine yapa ?_ ?_ ?_
 ·simp [h1.1,h1.2,yaih,V4.cs];omega
 ·rw [zsu h]
 ·rw [zsm a h];rfl
theorem yakl:Ok 20 [] (.ag beginS.cs):=yalp (a:=V4.any) (t:=beginS) yalk (zb9 (t:=St.e) (d:=1) V4.any rfl)
abbrev fcKn (t:St) (j:Int):Kn:=⟨[(1,.c (.w 0)),(14,.ag (bcs t.s)),(15,.c (.i j))],[(0,⟨true,t.cs,0⟩)],1⟩
theorem yap5 {t:St} {w:World} {β:Bs} {E:Eff}:∀ n,n≤6→(zcx (badR t) n=true→⟨.c (.i 1),[],none⟩=E)→(zcx (badR t) n=false→⟨.c (.i 0),[],none⟩=E) →
  ART Tryz.prog 56 (cx w β 0 []) Tryz.f56.ntmps (zdk Tryz.f56 0) (fcKn t (6 - n:Nat)) (REff w β E)
 | 0,_,_,hz=>za5 yapv (hz rfl)
 | n+1,hn,hy,hz=>by
  have hj:=zn8 hn
  have ej:=zog hn
  have f0:=zv3 hj
  have f1:=b_ok t.s hj
  have f2:(decide (0≤((6 - (n+1):Nat):Int))&&decide (((6 - (n+1):Nat):Int)<6))=true:=hj
  have f3:=zbe t hj
  have f4:=zzj t.s hj
  have f5:=zax t hj
  have yes:badR t (5 - n)=true→(⟨.c (.i 1),[],none⟩:Eff)=E:=fun h=>hy (by rw [zcx,h];rfl)
  have next:badR t (5 - n)=false→ART Tryz.prog 56 (cx w β 0 []) Tryz.f56.ntmps (zdk Tryz.f56 0) (fcKn t (IntKind.wrap IntKind.i64 (((6 - (n+1):Nat):Int)+1))) (REff w β E):=by
   intro hb
   rw [zjf hn]
   refine yap5 n (by omega) (fun h=>hy ?_) (fun h=>hz ?_)
   ·rw [zcx,hb,h];rfl
   ·rw [zcx,hb,h];rfl
  refine zyd (by omega) (fun a b=>⟨f0,f1,f2,f3,f4,f5,zn1 _,yes ?_⟩) (fun a b=>⟨f0,f1,f2,f3,?_,f4,f5,zn1 _,zc8 rfl,next ?_⟩) (fun a b=>⟨f0,f1,f2,f3,f4,f5,yes ?_⟩) (fun a b=>⟨f0,f1,f2,f3,f4,f5,zc8 rfl,next ?_⟩)
  ·rw [ej] at a b
   rw [zsq] at b
   unfold badR;rw [a,b];rfl
  ·rw [a];rfl
  ·rw [ej] at a b
   rw [zsq] at b
   unfold badR;rw [a,b];rfl
  ·rw [ej] at a b
   unfold badR;rw [a];exact b
  ·rw [ej] at a b
   unfold badR;rw [a];exact b
theorem zde (t:St):Ok 56 [.ag t.cs] (.c (.i (er t.ok))):=by
 refine zk5 Tryz.func56 rfl rfl rfl rfl fun w β=>?_
 have main:(t.live||eqCs t.cs St.z.cs)=true→ART Tryz.prog 56 (cx w β 0 []) Tryz.f56.ntmps (zdk Tryz.f56 0) (fcKn t 0) (REff w β ⟨.c (.i (er t.ok)),[],none⟩):=by
  intro h
  refine yap5 6 (Nat.le_refl 6) (fun k=>?_) (fun k=>?_)
  ·unfold St.ok;rw [h,k];rfl
  ·unfold St.ok;rw [h,k];rfl
 refine yagv (Nat.zero_le 1) (fun a b=>?_) (fun a b=>⟨zc8 rfl,main ?_⟩) (fun a=>⟨zc8 rfl,main ?_⟩)
 ·have b:(!eqCs t.cs St.z.cs)=true:=b
  have h:(t.live||eqCs t.cs St.z.cs)=false:=by
   revert a b
   cases t.live <;> cases eqCs t.cs St.z.cs <;> decide
  unfold St.ok;rw [h];rfl
 ·have b:(!eqCs t.cs St.z.cs)=false:=b
  rw [yaky b];cases t.live <;> rfl
 ·rw [yaky a];rfl
abbrev fjKn (t u b:St) (j:Int):Kn:=⟨[(2,.c (.w 0)),(3,.c (.w 1)),(4,.c (.w 2)),(6,.c (.w 19)),(28,.c (.i j))],[(0,⟨true,t.cs,0⟩),(1,⟨true,u.cs,0⟩),(2,⟨true,St.z.cs,0⟩),(19,⟨true,b.cs,0⟩)],20⟩
theorem yaqk {t u:St} (ht:t.Ok) (hu:u.Ok) {w:World} {β:Bs}:∀ n,n≤6→∀ b:St,
  ART Tryz.prog 59 (cx w β 0 []) Tryz.f59.ntmps (zdk Tryz.f59 0) (fjKn t u b (6 - n:Nat)) (REff w β ⟨.tu [.ag (zcy t u n b).cs,.c (.i 0)],[],none⟩)
 | 0,_,b=>yamq
 | n+1,hn,b=>by
  have hj:=zn8 hn
  have ej:=zog hn
  have hlt:5 - n<6:=by omega
  have f0:=zv3 hj
  have f1:=zw3 t hj
  have f2:(decide (0≤((6 - (n+1):Nat):Int))&&decide (((6 - (n+1):Nat):Int)<6))=true:=hj
  have f3:=zw3 u hj
  have f4:=zbe t hj
  have f5:=zbe u hj
  have f6:=zn2 t hj
  have f7:=zn2 u hj
  have f8:=zax t hj
  have f9:=zax u hj
  have next:∀ b':St,zhx t u (5 - n) b=b'→ART Tryz.prog 59 (cx w β 0 []) Tryz.f59.ntmps (zdk Tryz.f59 0) (fjKn t u b' (IntKind.wrap IntKind.i64 (((6 - (n+1):Nat):Int)+1))) (REff w β ⟨.tu [.ag (zcy t u (n+1) b).cs,.c (.i 0)],[],none⟩):=by
   intro b' hb
   rw [zjf hn,zcy,hb]
   exact yaqk ht hu n (by omega) b'
  have hJ:t.s.get ((6 - (n+1):Nat):Int).toNat=true→u.s.get ((6 - (n+1):Nat):Int).toNat=true→Ok 109 [.ag (t.r.get ((6 - (n+1):Nat):Int).toNat).cs,.ag (u.r.get ((6 - (n+1):Nat):Int).toNat).cs] (.tu [.ag ((t.r.get ((6 - (n+1):Nat):Int).toNat).join (u.r.get ((6 - (n+1):Nat):Int).toNat)).cs,.c (.i 0)]):=fun a d=>by
   rw [ej] at a d ⊢
   exact yadu (ht.set _ hlt a) (hu.set _ hlt d)
  refine zxs (a:=(t.r.get ((6 - (n+1):Nat):Int).toNat).join (u.r.get ((6 - (n+1):Nat):Int).toNat)) (b2:=b.wth ((6 - (n+1):Nat):Int).toNat ((t.r.get ((6 - (n+1):Nat):Int).toNat).join (u.r.get ((6 - (n+1):Nat):Int).toNat))) (by omega)
   (fun a d=>⟨f0,f2,f1,f2,f3,f2,f4,f2,f5,f6,f7,f8,f9,hJ a d,zb9 _ hj,zc8 rfl,next _ ?_⟩) (fun a d=>⟨f0,f2,f1,f2,f3,f6,f7,zc8 rfl,next _ ?_⟩) (fun a=>⟨f0,f2,f1,f6,zc8 rfl,next _ ?_⟩)
  ·rw [ej] at a d ⊢
   unfold zhx;rw [a,d];rfl
  ·rw [ej] at a d
   unfold zhx;rw [a,d];rfl
  ·rw [ej] at a
   unfold zhx;rw [a];rfl
def yad9 (t u:St):Int:=if t.ok&&u.ok then 0 else 1
def yae6 (t u:St):St:=if t.ok&&u.ok then t.join u else St.z
theorem yanb (t u:St):Ok 59 [.ag t.cs,.ag u.cs] (.tu [.ag (yae6 t u).cs,.c (.i (yad9 t u))]):=by
 refine zk5 Tryz.func59 rfl rfl rfl rfl fun w β=>?_
 have bad:(t.ok&&u.ok)=false→(⟨.tu [.ag St.z.cs,.c (.i 1)],[],none⟩:Eff)=⟨.tu [.ag (yae6 t u).cs,.c (.i (yad9 t u))],[],none⟩:=fun h=>by unfold yae6 yad9;rw [h];rfl
 refine yagg (e:=er t.ok) (f:=er u.ok) (Nat.zero_le 20) (fun a=>⟨zde t,bad ?_⟩) (fun a b=>⟨zde t,zde u,bad ?_⟩) (fun a b d=>⟨zde t,zde u,?_⟩) (fun a b d e=>⟨zde t,zde u,?_⟩) (fun a b d e=>⟨zde t,zde u,zc8 rfl,?_⟩)
 ·rw [zsq] at a
  rw [show t.ok=false by simpa using a];rfl
 ·rw [zsq] at b
  rw [show u.ok=false by simpa using b];cases t.ok <;> rfl
 all_goals
  rw [zsq] at a b
  have a:t.ok=true:=by simpa using a
  have b:u.ok=true:=by simpa using b
  have hA:yae6 t u=t.join u:=by unfold yae6;rw [a,b];rfl
  have hE:yad9 t u=0:=by unfold yad9;rw [a,b];rfl
  rw [hA,hE]
  unfold St.join
 ·rw [if_neg (by simpa using d)]
 ·rw [if_pos (by simpa using d),if_neg (by simpa using e)]
 ·rw [if_pos (by simpa using d),if_pos (by simpa using e)]
  exact yaqk (St.ok_iff.1 a) (St.ok_iff.1 b) 6 (Nat.le_refl 6) St.e
end Go.Proofs.YtkigmocchaikgabGreatDoor
namespace Go.Proofs.YtkigmocchaikgabGreatDoor
theorem fine_right {i:Ins}:zfv i=true↔Right i 65:=by
 unfold zfv
 rw [Bool.and_eq_true,Bool.and_eq_true]
 exact ⟨fun ⟨a,b,c⟩=>⟨a,b,c⟩,fun h=>⟨h.kind,h.fits,h.bare⟩⟩
theorem zp8 {o n n':Int} (h:n≤n') (hg:zch o n=true):zch o n'=true:=by
 simp only [zch,Bool.and_eq_true,decide_eq_true_eq] at hg ⊢
 omega
theorem Right.mono {i:Ins} {n n':Int} (h:n≤n') (hr:Right i n):Right i n':=by
 refine ⟨hr.kind,?_,hr.bare⟩
 have:=hr.fits
 unfold inB at this ⊢
 by_cases c1:i.op=10∨i.op=11
 ·rw [if_pos c1] at this ⊢;exact this
 rw [if_neg c1] at this ⊢
 by_cases c2:i.op=12
 ·rw [if_pos c2] at this ⊢;exact zp8 h this
 rw [if_neg c2] at this ⊢
 by_cases c3:i.op=13∨i.op=14
 ·rw [if_pos c3] at this ⊢
  rw [Bool.and_eq_true] at this ⊢
  exact ⟨this.1,zp8 h this.2⟩
 rw [if_neg c3] at this ⊢
 exact this
theorem zrp {u s:V6 Bool} (h:lacks u s=false):∀ j,j<6→u.get j=true→s.get j=true:=by
 rw [zj5,zkg] at h
 intro j hj hu
 have:=h j hj
 rw [hu] at this
 simpa using this
theorem zsi {v:V6 Bool} {k j:Nat} (hk:k<6) (hj:j<6):(v.set k true).get j=if k=j then true else v.get j:=V6.get_set _ _ _ _ hk hj
theorem yaw7 {i:Ins} (h1:i.op≠12) (h2:i.op≠15) (hs:regB i.s=true):(zaw i).get i.s.toNat=true:=by
 have h3:=regB_iff.1 hs
 have h4:=zbp hs
 unfold zaw
 rw [if_neg h1,if_neg h2,if_neg (by omega),zsi h4 h4,if_pos rfl]
theorem ybar {i:Ins} (h1:i.op≠12) (h2:i.op≠15) (h3:i.op≠1) (h4:i.op≠10) (hd:regB i.d=true) (hs:srcB i.s=true):(zaw i).get i.d.toNat=true:=by
 have h5:=zbp hd
 unfold zaw
 rw [if_neg h1,if_neg h2,if_neg (by omega:¬ (i.op=1∨i.op=10))]
 by_cases c:i.s=-1
 ·rw [if_pos c,zsi h5 h5,if_pos rfl]
 ·rw [if_neg c]
  have h6:=zbp ((srcB_iff.1 hs).resolve_left c)
  rw [zsi h6 h5,zsi h5 h5,if_pos rfl]
  split <;> rfl
theorem zey {i:Ins} {n:Int} {t:St} (hr:Right i n) (ht:t.Ok) (hu:lacks (zaw i) t.s=false) (h1:i.op≠12) (h2:i.op≠15):(srcV i t).ok=true:=by
 have hg:=zbn hr
 unfold srcV
 by_cases c:i.s=-1
 ·rw [if_pos c];exact V4.of_ok _
 ·rw [if_neg c]
  have hs:=(srcB_iff.1 hg.2).resolve_left c
  exact ht.set _ (zbp hs) (zrp hu _ (zbp hs) (yaw7 h1 h2 hs))
theorem zdx {i:Ins} {n:Int} {t:St} (hr:Right i n) (ht:t.Ok) (hu:lacks (zaw i) t.s=false) (h1:i.op≠12) (h2:i.op≠15) (h3:i.op≠1) (h4:i.op≠10):(t.r.get i.d.toNat).ok=true:=by
 have hg:=zbn hr
 exact ht.set _ (zbp hg.1) (zrp hu _ (zbp hg.1) (ybar h1 h2 h3 h4 hg.1 hg.2))
theorem zwm {i:Ins} {t:St} (h:zej i t=0):lacks (zaw i) t.s=false∧(i.op=10→farS i (t.r.get i.s.toNat)=false)∧(i.op=11→farS i (t.r.get i.d.toNat)=false):=by
 unfold zej at h
 by_cases c0:lacks (zaw i) t.s=true
 ·rw [if_pos c0] at h;exact absurd h (by decide)
 rw [if_neg c0] at h
 refine ⟨by simpa using c0,fun h1=>?_,fun h1=>?_⟩
 ·rw [if_pos h1] at h
  cases hf:farS i (t.r.get i.s.toNat) with
  | false=>rfl
  | true=>rw [hf] at h;exact absurd h (by decide)
 ·rw [if_neg (by omega),if_pos h1] at h
  cases hf:farS i (t.r.get i.d.toNat) with
  | false=>rfl
  | true=>rw [hf] at h;exact absurd h (by decide)
theorem zld {i:Ins} {n:Int} (h:Right i n):i.op=10∨i.op=11∨i.op=12∨i.op=13∨i.op=14∨i.op=15∨i.op=1∨(2≤i.op∧i.op≤9):=by
 have:=kind_iff.1 h.kind
 omega
section
variable {i:Ins} {t:St} {m:Mach}
theorem zsp (h:i.op=10):goS i t=(t.wth i.d.toNat (V4.bytes (nv i.im)),St.z):=by unfold goS;rw [if_pos h]
theorem zl1 (h:i.op=11):goS i t=(t,St.z):=by unfold goS;rw [if_neg (by omega),if_pos h]
theorem zr5 (h:i.op=12):goS i t=(St.z,t):=by unfold goS;rw [if_neg (by omega),if_neg (by omega),if_pos h]
theorem yabg (h:i.op=13):goS i t=(zeo i t ((t.r.get i.d.toNat).other (srcV i t)),zeo i t ((t.r.get i.d.toNat).equal (srcV i t))):=by
 unfold goS;rw [if_neg (by omega),if_neg (by omega),if_neg (by omega),if_pos h]
theorem yab0 (h:i.op=14):goS i t=(zeo i t ((t.r.get i.d.toNat).notLess (srcV i t)),zeo i t ((t.r.get i.d.toNat).less (srcV i t))):=by
 unfold goS;rw [if_neg (by omega),if_neg (by omega),if_neg (by omega),if_neg (by omega),if_pos h]
theorem zrg (h:i.op=15):goS i t=(St.z,St.z):=by
 unfold goS;rw [if_neg (by omega),if_neg (by omega),if_neg (by omega),if_neg (by omega),if_neg (by omega),if_pos h]
theorem zrq (h:i.op=1):goS i t=(t.wth i.d.toNat (srcV i t),St.z):=by
 unfold goS;rw [if_neg (by omega),if_neg (by omega),if_neg (by omega),if_neg (by omega),if_neg (by omega),if_neg (by omega),if_pos h]
theorem zqt (h:2≤i.op∧i.op≤9):goS i t=(t.wth i.d.toNat (V4.two i.op (t.r.get i.d.toNat) (srcV i t)),St.z):=by
 unfold goS;rw [if_neg (by omega),if_neg (by omega),if_neg (by omega),if_neg (by omega),if_neg (by omega),if_neg (by omega),if_neg (by omega)]
end
theorem zln {i:Ins} {n:Int} {t:St} {x:V4×V4×Bool} (hr:Right i n) (ht:t.Ok) (hl:t.live=true) (hx:x.2.2=true→x.1.ok=true∧x.2.1.ok=true):(zeo i t x).Ok:=by
 have hg:=zbn hr
 unfold zeo
 by_cases c:x.2.2=true
 ·rw [if_pos c]
  have h1:=St.wth_Ok (zbp hg.1) hl (hx c).1 ht
  by_cases cs:i.s=-1
  ·rw [if_pos cs];exact h1
  ·rw [if_neg cs]
   have hs:=(srcB_iff.1 hg.2).resolve_left cs
   exact St.wth_Ok (zbp hs) hl (hx c).2 h1
 ·rw [if_neg c];exact St.z_Ok
theorem yav6 {i:Ins} {n:Int} {t:St} (hr:Right i n) (ht:t.Ok) (hl:t.live=true) (h0:zej i t=0):(goS i t).1.Ok∧(goS i t).2.Ok:=by
 have hd:=zbp (zbn hr).1
 obtain ⟨hu,h10,h11⟩:=zwm h0
 rcases zld hr with c | c | c | c | c | c | c | c
 ·rw [zsp c];exact ⟨St.wth_Ok hd hl (V4.bytes_ok _) ht,St.z_Ok⟩
 ·rw [zl1 c];exact ⟨ht,St.z_Ok⟩
 ·rw [zr5 c];exact ⟨St.z_Ok,ht⟩
 ·have hs:=zey hr ht hu (by omega) (by omega)
  have hdv:=zdx hr ht hu (by omega) (by omega) (by omega) (by omega)
  rw [yabg c];exact ⟨zln hr ht hl (V4.other_ok hdv hs),zln hr ht hl (V4.equal_ok hdv hs)⟩
 ·have hs:=zey hr ht hu (by omega) (by omega)
  have hdv:=zdx hr ht hu (by omega) (by omega) (by omega) (by omega)
  rw [yab0 c];exact ⟨zln hr ht hl (V4.notLess_ok hdv hs),zln hr ht hl (V4.less_ok hdv hs)⟩
 ·rw [zrg c];exact ⟨St.z_Ok,St.z_Ok⟩
 ·rw [zrq c];exact ⟨St.wth_Ok hd hl (zey hr ht hu (by omega) (by omega)) ht,St.z_Ok⟩
 ·have hs:=zey hr ht hu (by omega) (by omega)
  have hdv:=zdx hr ht hu (by omega) (by omega) (by omega) (by omega)
  rw [zqt c];exact ⟨St.wth_Ok hd hl (V4.two_ok (by omega) hdv hs) ht,St.z_Ok⟩
theorem zrz {i:Ins} {n:Int} {t:St} (hr:Right i n) (ht:t.Ok):(zag i t).1.Ok∧(zag i t).2.1.Ok:=by
 unfold zag
 by_cases hl:t.live=true
 ·rw [if_pos hl]
  by_cases h0:zej i t=0
  ·rw [if_pos h0];exact yav6 hr ht hl h0
  ·rw [if_neg h0];exact ⟨St.z_Ok,St.z_Ok⟩
 ·rw [if_neg hl];exact ⟨St.z_Ok,St.z_Ok⟩
end Go.Proofs.YtkigmocchaikgabGreatDoor
namespace Go.Proofs.YtkigmocchaikgabGreatDoor
open Go.RowKit
theorem yax8 (a:Ins):(zan [a,zgu]==0)=(zcl a&&(inB a 1&&zbc a)):=by
 have e1:zcl zgu=true:=rfl
 have e2:inB zgu 0=true:=rfl
 have e3:zbc zgu=true:=rfl
 have e4:zb3 [a,zgu]=15:=rfl
 cases h1:zcl a <;> cases h2:inB a 1 <;> cases h3:zbc a <;> simp [zan,List.all,zfq,h1,h2,h3,e1,e2,e3,e4]
theorem yavv {i:Ins} {n n':Int} (h:i.op≠12) (h2:i.op≠13) (h3:i.op≠14):inB i n=inB i n':=by
 unfold inB
 by_cases c:i.op=10∨i.op=11
 ·rw [if_pos c,if_pos c]
 ·have h4:¬ (i.op=13∨i.op=14):=by omega
  simp only [if_neg c,if_neg h,if_neg h4]
theorem yanw {op d s of:Int} {im:BitVec 64} (ho:op=12∨op=13∨op=14):zfv ⟨op,d,s,im,of⟩=((zan [⟨op,d,s,im,0⟩,zgu]==0)&&zch of 65):=by
 rw [yax8]
 unfold zfv
 have eb:zbc ⟨op,d,s,im,of⟩=zbc ⟨op,d,s,im,0⟩:=by
  unfold zbc
  simp only
  rcases ho with rfl | rfl | rfl <;> rfl
 have ek:zcl ⟨op,d,s,im,of⟩=zcl ⟨op,d,s,im,0⟩:=rfl
 have ei:inB ⟨op,d,s,im,of⟩ 65=(inB ⟨op,d,s,im,0⟩ 1&&zch of 65):=by
  have g:zch 0 1=true:=rfl
  unfold inB
  simp only
  rcases ho with rfl | rfl | rfl
  ·simp [g]
  ·simp [g]
  ·simp [g]
 rw [eb,ek,ei]
 cases zcl ⟨op,d,s,im,0⟩ <;> cases inB ⟨op,d,s,im,0⟩ 1 <;> cases zbc ⟨op,d,s,im,0⟩ <;> cases zch of 65 <;> rfl
theorem yaz2 (i:Ins):Ok 55 [.ag i.cs] (.c (.b (zfv i))):=by
 have out:∀ {b:Bool},zfv i=b→AV.c (AC.b b)=AV.c (AC.b (zfv i)):=fun h=>by rw [h]
 by_cases ho:i.op=12∨i.op=13∨i.op=14
 ·have hf:=yanw (op:=i.op) (d:=i.d) (s:=i.s) (of:=i.of) (im:=i.im) ho
  have hf:zfv i=((zan [⟨i.op,i.d,i.s,i.im,0⟩,zgu]==0)&&zch i.of 65):=hf
  have low:decide (i.of<0)=true→zfv i=false:=fun h=>by
   have:i.of<0:=of_decide_eq_true h
   rw [hf,show zch i.of 65=false by unfold zch;rw [decide_eq_false (by omega)];rfl];simp
  have high:decide (64<i.of)=true→zfv i=false:=fun h=>by
   have:64<i.of:=of_decide_eq_true h
   rw [hf,show zch i.of 65=false by unfold zch;rw [decide_eq_false (by omega:¬ i.of<65)];simp];simp
  have mid:decide (i.of<0)=false→decide (64<i.of)=false→zfv i=(zan [⟨i.op,i.d,i.s,i.im,0⟩,zgu]==0):=fun h k=>by
   have h:¬ i.of<0:=of_decide_eq_false h
   have k:¬ 64<i.of:=of_decide_eq_false k
   rw [hf,show zch i.of 65=true by unfold zch;rw [decide_eq_true (by omega:0≤i.of),decide_eq_true (by omega:i.of<65)];rfl];simp
  have call:∀ K,CallOK Tryz.prog ⟨19,[.c (.sl K 0 2 2)],[(K,⟨true,pcell [⟨i.op,i.d,i.s,i.im,0⟩,zgu],0⟩)],⟨.c (.i (zan [⟨i.op,i.d,i.s,i.im,0⟩,zgu])),[],none⟩⟩:=fun K=>by
   refine p_at (zi0 [⟨i.op,i.d,i.s,i.im,0⟩,zgu] 2) K true ?_ rfl
   show [AV.c (AC.sl (swp 0 K 0) 0 2 2)]=_
   rfl
  exact yahi (e:=zan [⟨i.op,i.d,i.s,i.im,0⟩,zgu])
   (fun a b=>out (low b)) (fun a b c=>out (high c)) (fun a b c=>⟨call 18,out (mid b c)⟩)
   (fun _ a b=>out (low b)) (fun _ a b c=>out (high c)) (fun _ a b c=>⟨call 20,out (mid b c)⟩)
   (fun _ _ a b=>out (low b)) (fun _ _ a b c=>out (high c)) (fun _ _ a b c=>⟨call 22,out (mid b c)⟩)
   (fun a b c=>absurd ho (by simp at a b c;omega))
 ·have hf:zfv i=(zan [i,zgu]==0):=by
   rw [yax8]
   unfold zfv
   rw [yavv (n:=65) (n':=1) (by omega) (by omega) (by omega)]
  have call:∀ K,CallOK Tryz.prog ⟨19,[.c (.sl K 0 2 2)],[(K,⟨true,pcell [i,zgu],0⟩)],⟨.c (.i (zan [i,zgu])),[],none⟩⟩:=fun K=>by
   refine p_at (zi0 [i,zgu] 2) K true ?_ rfl
   show [AV.c (AC.sl (swp 0 K 0) 0 2 2)]=_
   rfl
  have no:∀ {P:Prop},i.op=12∨i.op=13∨i.op=14→P:=fun h=>absurd h ho
  exact yahi (e:=zan [i,zgu])
   (fun a b=>no (Or.inl (by simpa using a))) (fun a b c=>no (Or.inl (by simpa using a))) (fun a b c=>no (Or.inl (by simpa using a)))
   (fun _ a b=>no (Or.inr (Or.inl (by simpa using a)))) (fun _ a b c=>no (Or.inr (Or.inl (by simpa using a)))) (fun _ a b c=>no (Or.inr (Or.inl (by simpa using a))))
   (fun _ _ a b=>no (Or.inr (Or.inr (by simpa using a)))) (fun _ _ a b c=>no (Or.inr (Or.inr (by simpa using a)))) (fun _ _ a b c=>no (Or.inr (Or.inr (by simpa using a))))
   (fun a b c=>⟨call 12,out hf⟩)
def farE (i:Ins) (a:V4):Int:=if farS i a then 2 else 0
theorem zv5 {i:Ins} {a:V4} (ha:a.ok=true):Ok 100 [.ag i.cs,.ag a.cs] (.c (.i (farE i a))):=by
 have h1:=yaa0 (BitVec.ofInt 64 i.of)
 have h2:=zo8 (op:=2) (by decide) ha (V4.of_ok (BitVec.ofInt 64 i.of))
 refine yacw (b:=V4.of (BitVec.ofInt 64 i.of)) (c:=V4.two 2 a (V4.of (BitVec.ofInt 64 i.of))) (fun h=>⟨h1,h2,?_⟩) (fun h=>⟨h1,h2,?_⟩)
 ·unfold farE farS;rw [h];rfl
 ·unfold farE farS;rw [h];rfl
theorem zbo {i:Ins} {t:St} (h:srcB i.s=true):Ok 107 [.ag i.cs,.ag t.cs] (.ag (srcV i t).cs):=by
 unfold srcV
 refine zxz (b:=V4.of i.im) (fun a=>⟨yaa0 _,?_⟩) (fun a=>?_)
 ·rw [if_pos (by simpa using a)]
 ·have a:¬ i.s=-1:=by simpa using a
  have hs:=(srcB_iff.1 h).resolve_left a
  exact ⟨hs,zbe t hs,zax t hs,by rw [if_neg a]⟩
section
variable {i:Ins} {t:St}
theorem yabo {x:V4×V4×Bool} (h:(!x.2.2)=true):AV.ag St.z.cs=AV.ag (zeo i t x).cs:=by
 unfold zeo;rw [if_neg (by simpa using h)]
theorem yack {x:V4×V4×Bool} (h:(!x.2.2)=false) (k:(i.s != -1)=true):AV.ag ((t.wth i.d.toNat x.1).wth i.s.toNat x.2.1).cs=AV.ag (zeo i t x).cs:=by
 unfold zeo;rw [if_pos (by simpa using h),if_neg (by simpa using k)]
theorem yabp {x:V4×V4×Bool} (h:(!x.2.2)=false) (k:(i.s != -1)=false):AV.ag (t.wth i.d.toNat x.1).cs=AV.ag (zeo i t x).cs:=by
 unfold zeo;rw [if_pos (by simpa using h),if_pos (by simpa using k)]
theorem yaat (hs:srcB i.s=true) (k:(i.s != -1)=true):regB i.s=true:=(srcB_iff.1 hs).resolve_left (by simpa using k)
theorem yafn (hd:regB i.d=true) (hs:srcB i.s=true) (hv:(t.r.get i.d.toNat).ok=true) (hw:(srcV i t).ok=true):Ok 102 [.ag i.cs,.ag t.cs,.c (.f 103 [])] (.ag (zeo i t ((t.r.get i.d.toNat).other (srcV i t))).cs) :=
 zzd (b:=srcV i t) (x:=((t.r.get i.d.toNat).other (srcV i t)).1) (y:=((t.r.get i.d.toNat).other (srcV i t)).2.1) (q:=((t.r.get i.d.toNat).other (srcV i t)).2.2) (t1:=t.wth i.d.toNat ((t.r.get i.d.toNat).other (srcV i t)).1) (t2:=(t.wth i.d.toNat ((t.r.get i.d.toNat).other (srcV i t)).1).wth i.s.toNat ((t.r.get i.d.toNat).other (srcV i t)).2.1)
  (fun a=>⟨hd,zbe t hd,zax t hd,zbo hs,zhd hv hw,yabo a⟩) (fun a k=>⟨hd,zbe t hd,zax t hd,zbo hs,zhd hv hw,zb9 _ hd,zb9 _ (yaat hs k),yack a k⟩) (fun a k=>⟨hd,zbe t hd,zax t hd,zbo hs,zhd hv hw,zb9 _ hd,yabp a k⟩)
theorem yadk (hd:regB i.d=true) (hs:srcB i.s=true) (hv:(t.r.get i.d.toNat).ok=true) (hw:(srcV i t).ok=true):Ok 102 [.ag i.cs,.ag t.cs,.c (.f 104 [])] (.ag (zeo i t ((t.r.get i.d.toNat).equal (srcV i t))).cs) :=
 zy2 (b:=srcV i t) (x:=((t.r.get i.d.toNat).equal (srcV i t)).1) (y:=((t.r.get i.d.toNat).equal (srcV i t)).2.1) (q:=((t.r.get i.d.toNat).equal (srcV i t)).2.2) (t1:=t.wth i.d.toNat ((t.r.get i.d.toNat).equal (srcV i t)).1) (t2:=(t.wth i.d.toNat ((t.r.get i.d.toNat).equal (srcV i t)).1).wth i.s.toNat ((t.r.get i.d.toNat).equal (srcV i t)).2.1)
  (fun a=>⟨hd,zbe t hd,zax t hd,zbo hs,zgz hv hw,yabo a⟩) (fun a k=>⟨hd,zbe t hd,zax t hd,zbo hs,zgz hv hw,zb9 _ hd,zb9 _ (yaat hs k),yack a k⟩) (fun a k=>⟨hd,zbe t hd,zax t hd,zbo hs,zgz hv hw,zb9 _ hd,yabp a k⟩)
theorem yacy (hd:regB i.d=true) (hs:srcB i.s=true) (hv:(t.r.get i.d.toNat).ok=true) (hw:(srcV i t).ok=true):Ok 102 [.ag i.cs,.ag t.cs,.c (.f 105 [])] (.ag (zeo i t ((t.r.get i.d.toNat).notLess (srcV i t))).cs) :=
 zyw (b:=srcV i t) (x:=((t.r.get i.d.toNat).notLess (srcV i t)).1) (y:=((t.r.get i.d.toNat).notLess (srcV i t)).2.1) (q:=((t.r.get i.d.toNat).notLess (srcV i t)).2.2) (t1:=t.wth i.d.toNat ((t.r.get i.d.toNat).notLess (srcV i t)).1) (t2:=(t.wth i.d.toNat ((t.r.get i.d.toNat).notLess (srcV i t)).1).wth i.s.toNat ((t.r.get i.d.toNat).notLess (srcV i t)).2.1)
  (fun a=>⟨hd,zbe t hd,zax t hd,zbo hs,zfd hv hw,yabo a⟩) (fun a k=>⟨hd,zbe t hd,zax t hd,zbo hs,zfd hv hw,zb9 _ hd,zb9 _ (yaat hs k),yack a k⟩) (fun a k=>⟨hd,zbe t hd,zax t hd,zbo hs,zfd hv hw,zb9 _ hd,yabp a k⟩)
theorem yafe (hd:regB i.d=true) (hs:srcB i.s=true) (hv:(t.r.get i.d.toNat).ok=true) (hw:(srcV i t).ok=true):Ok 102 [.ag i.cs,.ag t.cs,.c (.f 106 [])] (.ag (zeo i t ((t.r.get i.d.toNat).less (srcV i t))).cs) :=
 zyb (b:=srcV i t) (x:=((t.r.get i.d.toNat).less (srcV i t)).1) (y:=((t.r.get i.d.toNat).less (srcV i t)).2.1) (q:=((t.r.get i.d.toNat).less (srcV i t)).2.2) (t1:=t.wth i.d.toNat ((t.r.get i.d.toNat).less (srcV i t)).1) (t2:=(t.wth i.d.toNat ((t.r.get i.d.toNat).less (srcV i t)).1).wth i.s.toNat ((t.r.get i.d.toNat).less (srcV i t)).2.1)
  (fun a=>⟨hd,zbe t hd,zax t hd,zbo hs,zie hv hw,yabo a⟩) (fun a k=>⟨hd,zbe t hd,zax t hd,zbo hs,zie hv hw,zb9 _ hd,zb9 _ (yaat hs k),yack a k⟩) (fun a k=>⟨hd,zbe t hd,zax t hd,zbo hs,zie hv hw,zb9 _ hd,yabp a k⟩)
end
abbrev ftKn (i:Ins) (t:St) (u:V6 Bool) (j:Int):Kn:=⟨[(2,.c (.w 0)),(3,.c (.w 1)),(8,.ag (bcs u)),(9,.c (.i j))],[(0,⟨true,i.cs,0⟩),(1,⟨true,t.cs,0⟩)],2⟩
theorem yaqs {i:Ins} {t:St} {u:V6 Bool} {w:World} {β:Bs} {E:Eff}:∀ n,n≤6→(zcx (fun j=>u.get j&&!t.s.get j) n=true→⟨.c (.i 1),[],none⟩=E) →
  (zcx (fun j=>u.get j&&!t.s.get j) n=false→ART Tryz.prog 57 (cx w β 0 []) Tryz.f57.ntmps (zdk Tryz.f57 0) (ftKn i t u 6) (REff w β E)) →
  ART Tryz.prog 57 (cx w β 0 []) Tryz.f57.ntmps (zdk Tryz.f57 0) (ftKn i t u (6 - n:Nat)) (REff w β E)
 | 0,_,_,hz=>hz rfl
 | n+1,hn,hy,hz=>by
  have hj:=zn8 hn
  have ej:=zog hn
  have f0:=zv3 hj
  have f1:=b_ok u hj
  have f2:(decide (0≤((6 - (n+1):Nat):Int))&&decide (((6 - (n+1):Nat):Int)<6))=true:=hj
  have f3:=zw3 t hj
  have f4:=zzj u hj
  have f5:=zn2 t hj
  have yes:(u.get (5 - n)&&!t.s.get (5 - n))=true→(⟨.c (.i 1),[],none⟩:Eff)=E:=fun h=>hy (by rw [zcx,h];rfl)
  have next:(u.get (5 - n)&&!t.s.get (5 - n))=false→ART Tryz.prog 57 (cx w β 0 []) Tryz.f57.ntmps (zdk Tryz.f57 0) (ftKn i t u (IntKind.wrap IntKind.i64 (((6 - (n+1):Nat):Int)+1))) (REff w β E):=by
   intro hb
   rw [zjf hn]
   refine yaqs n (by omega) (fun h=>hy ?_) (fun h=>hz ?_)
   ·rw [zcx,hb,h];rfl
   ·rw [zcx,hb,h];rfl
  refine zzp (by omega) (fun a b=>⟨f0,f1,f2,f3,f4,f5,yes ?_⟩) (fun a b=>⟨f0,f1,f2,f3,f4,f5,zc8 rfl,next ?_⟩) (fun a=>⟨f0,f1,f4,zc8 rfl,next ?_⟩)
  ·rw [ej] at a b;rw [a,b];rfl
  ·rw [ej] at a b;rw [a,b];rfl
  ·rw [ej] at a;rw [a];rfl
theorem yane {i:Ins} {t:St} (hr:Right i 65) (ht:t.Ok):Ok 57 [.ag i.cs,.ag t.cs] (.c (.i (zej i t))):=by
 refine zk5 Tryz.func57 rfl rfl rfl rfl fun w β=>?_
 have hg:=zbn hr
 refine yanx (u:=zaw i) (zt3 (Or.inr (Or.inr hg))) (zc8 rfl) (fun _ h=>absurd h (by simp [cx])) (yaqs 6 (Nat.le_refl 6) (fun h=>?_) (fun h=>?_))
 ·rw [← zj5] at h
  unfold zej;rw [if_pos h]
 ·rw [← zj5] at h
  unfold zej
  rw [if_neg (by rw [h];decide)]
  by_cases c1:i.op=10
  ·obtain ⟨_,hs,_⟩:=zbv hr (Or.inl c1)
   have hok:=ht.set _ (zbp hs) (zrp h _ (zbp hs) (yaw7 (by omega) (by omega) hs))
   rw [if_pos c1]
   exact zm1 (e:=farE i (t.r.get i.s.toNat)) (fun _=>⟨hs,zbe t hs,zax t hs,zv5 hok,rfl⟩) (fun a _=>absurd c1 (by simpa using a)) (fun a _=>absurd c1 (by simpa using a))
  rw [if_neg c1]
  by_cases c2:i.op=11
  ·have hok:=zdx hr ht h (by omega) (by omega) (by omega) c1
   rw [if_pos c2]
   exact zm1 (e:=farE i (t.r.get i.d.toNat)) (fun a=>absurd (show i.op=10 by simpa using a) c1) (fun _ _=>⟨hg.1,zbe t hg.1,zax t hg.1,zv5 hok,rfl⟩) (fun _ a=>absurd c2 (by simpa using a))
  rw [if_neg c2]
  exact zm1 (e:=0) (fun a=>absurd (show i.op=10 by simpa using a) c1) (fun _ a=>absurd (show i.op=11 by simpa using a) c2) (fun _ _=>rfl)
theorem zay {i:Ins} {k:Int} (h:i.op≠k):(!i.op==k)=true:=by simpa using h
theorem zfg {i:Ins} {k:Int} (h:i.op=k):(i.op==k)=true:=by simpa using h
theorem yake {x:BitVec 64} (h:zc6 x=true):nv x=1∨nv x=2∨nv x=4∨nv x=8 :=
 yaj4 (P:=fun x=>nv x=1∨nv x=2∨nv x=4∨nv x=8) h (Or.inl rfl) (Or.inr (Or.inl rfl)) (Or.inr (Or.inr (Or.inl rfl))) (Or.inr (Or.inr (Or.inr rfl)))
theorem yavq {i:Ins} {t:St} (hr:Right i 65) (ht:t.Ok) (h0:zej i t=0):Ok 58 [.ag i.cs,.ag t.cs] (.tu [.ag (goS i t).1.cs,.ag (goS i t).2.cs]):=by
 have hg:=zbn hr
 obtain ⟨hu,_,_⟩:=zwm h0
 rcases zld hr with c | c | c | c | c | c | c | c
 ·obtain ⟨_,_,hz,_⟩:=zbv hr (Or.inl c)
  rw [zsp c]
  have hn:=yake hz
  exact yarp (zaa (zfg c) rfl) (by rw [zfp (by omega) (by omega)]) (zwc hn) (zb9 _ hg.1)
 ·rw [zl1 c]
  exact yaur (zaa (zay (by omega)) (zaa (zfg c) rfl))
 ·rw [zr5 c]
  exact yara (zaa (zay (by omega)) (zaa (zay (by omega)) (zaa (zfg c) rfl)))
 ·have hs:=zey hr ht hu (by omega) (by omega)
  have hv:=zdx hr ht hu (by omega) (by omega) (by omega) (by omega)
  rw [yabg c]
  exact yanz (zaa (zay (by omega)) (zaa (zay (by omega)) (zaa (zay (by omega)) (zaa (zfg c) rfl)))) (yafn hg.1 hg.2 hv hs) (yadk hg.1 hg.2 hv hs)
 ·have hs:=zey hr ht hu (by omega) (by omega)
  have hv:=zdx hr ht hu (by omega) (by omega) (by omega) (by omega)
  rw [yab0 c]
  exact yamr (zaa (zay (by omega)) (zaa (zay (by omega)) (zaa (zay (by omega)) (zaa (zay (by omega)) (zaa (zfg c) rfl))))) (yacy hg.1 hg.2 hv hs) (yafe hg.1 hg.2 hv hs)
 ·rw [zrg c]
  exact yard (zaa (zay (by omega)) (zaa (zay (by omega)) (zaa (zay (by omega)) (zaa (zay (by omega)) (zaa (zay (by omega)) (zaa (zfg c) rfl))))))
 ·rw [zrq c]
  exact yas1 (zaa (zay (by omega)) (zaa (zay (by omega)) (zaa (zay (by omega)) (zaa (zay (by omega)) (zaa (zay (by omega)) (zaa (zay (by omega)) (zaa (zfg c) rfl))))))) (zbo hg.2) (zb9 _ hg.1)
 ·have hs:=zey hr ht hu (by omega) (by omega)
  have hv:=zdx hr ht hu (by omega) (by omega) (by omega) (by omega)
  rw [zqt c]
  exact yata (zaa (zay (by omega)) (zaa (zay (by omega)) (zaa (zay (by omega)) (zaa (zay (by omega)) (zaa (zay (by omega)) (zaa (zay (by omega)) (zaa (zay (by omega)) (zaa hg.1 (zaa (zbe t hg.1) rfl))))))))) (zax t hg.1) (zbo hg.2) (zo8 (by omega) hv hs) (zb9 _ hg.1)
theorem yao1 (i:Ins) (t:St):Ok 21 [.ag i.cs,.ag t.cs] (.tu [.ag (zo0 i t).1.cs,.ag (zo0 i t).2.1.cs,.c (.i (zo0 i t).2.2),.c (.i (yaem i t))]):=by
 have h1:=yaz2 i
 have h2:=zde t
 have bad:(zfv i&&t.ok)=false→AV.tu [AT.ag (St.cs St.z),AT.ag (St.cs St.z),AT.c (AC.i 0),AT.c (AC.i 1)]=.tu [.ag (zo0 i t).1.cs,.ag (zo0 i t).2.1.cs,.c (.i (zo0 i t).2.2),.c (.i (yaem i t))]:=fun h=>by
  unfold zo0 yaem;rw [h];rfl
 by_cases hb:(zfv i&&t.ok)=true
 ·have hb':=hb
  rw [Bool.and_eq_true] at hb'
  have hr:=fine_right.1 hb'.1
  have ht:=St.ok_iff.1 hb'.2
  have h3:=yane hr ht
  have eA:zo0 i t=zag i t:=by unfold zo0;rw [if_pos hb]
  have eE:yaem i t=0:=by unfold yaem;rw [if_pos hb]
  rw [eA,eE]
  unfold zag
  by_cases hl:t.live=true
  ·rw [if_pos hl]
   by_cases h0:zej i t=0
   ·rw [if_pos h0]
    refine zjk (tr:=zej i t) (fun a=>?_) (fun _ a=>?_) (fun _ _ a=>?_) (fun _ _ _ a=>?_) (fun _ _ _ _=>⟨h1,h2,h3,yavq hr ht h0,rfl⟩)
    ·rw [hb'.1] at a;cases a
    ·rw [zsq,hb'.2] at a;cases a
    ·rw [hl] at a;cases a
    ·rw [h0] at a;cases a
   ·rw [if_neg h0]
    refine zjk (t1:=t) (t2:=t) (tr:=zej i t) (fun a=>?_) (fun _ a=>?_) (fun _ _ a=>?_) (fun _ _ _ a=>⟨h1,h2,h3,rfl⟩) (fun _ _ _ a=>?_)
    ·rw [hb'.1] at a;cases a
    ·rw [zsq,hb'.2] at a;cases a
    ·rw [hl] at a;cases a
    ·exact absurd (by simpa using a) h0
  ·rw [if_neg hl]
   refine zjk (t1:=t) (t2:=t) (tr:=zej i t) (fun a=>?_) (fun _ a=>?_) (fun _ _ _=>⟨h1,h2,rfl⟩) (fun _ _ a=>?_) (fun _ _ a=>?_)
   ·rw [hb'.1] at a;cases a
   ·rw [zsq,hb'.2] at a;cases a
   ·exact absurd (by simpa using a) hl
   ·exact absurd (by simpa using a) hl
 ·have hb:(zfv i&&t.ok)=false:=by simpa using hb
  refine zjk (t1:=t) (t2:=t) (tr:=0) (fun a=>⟨h1,bad hb⟩) (fun _ a=>⟨h1,h2,bad hb⟩) (fun a b=>?_) (fun a b=>?_) (fun a b=>?_)
  all_goals
   rw [zsq] at b
   rw [show zfv i=true by simpa using a,show t.ok=true by simpa using b] at hb
   cases hb
theorem ze8 {t:St} {d:Int} (a:V4) (h:regB d=true):Ok 82 [.ag t.cs,.c (.i d),.ag a.cs] (.ag (t.wth d.toNat a).cs):=by
 have h1:=regB_iff.1 h
 have h2:=zbp h
 refine yani ?_ ?_ ?_
 ·simp [h1.1,h1.2,yaih,V4.cs];omega
 ·rw [zsu h]
 ·rw [zsm a h];rfl
theorem zfa {i:Ins} {t:St} (x:V4×V4×Bool) (hd:regB i.d=true) (hs:srcB i.s=true):Ok 79 [.ag i.cs,.ag t.cs,.ag x.1.cs,.ag x.2.1.cs,.c (.b x.2.2)] (.ag (zeo i t x).cs):=by
 refine yajs (t1:=t.wth i.d.toNat x.1) (t2:=(t.wth i.d.toNat x.1).wth i.s.toNat x.2.1) (fun a=>?_) (fun a b=>?_) (fun a b=>?_)
 ·unfold zeo;rw [if_neg (by simpa using a)]
 ·have hn:i.s≠-1:=by simpa using b
  refine ⟨ze8 _ hd,ze8 _ ((srcB_iff.1 hs).resolve_left hn),?_⟩
  unfold zeo;rw [if_pos (by simpa using a),if_neg hn]
 ·have hn:i.s=-1:=by simpa using b
  refine ⟨ze8 _ hd,?_⟩
  unfold zeo;rw [if_pos (by simpa using a),if_pos hn]
theorem zm2 {u s:V6 Bool}:∀ d,d<6→lacks (u.set d true) s=(lacks u s||!s.get d) :=
 lt6 (by cases h:s.x0 <;> simp [lacks,V6.set,V6.get,h]) (by cases h:s.x1 <;> simp [lacks,V6.set,V6.get,h]) (by cases h:s.x2 <;> simp [lacks,V6.set,V6.get,h]) (by cases h:s.x3 <;> simp [lacks,V6.set,V6.get,h]) (by cases h:s.x4 <;> simp [lacks,V6.set,V6.get,h]) (by cases h:s.x5 <;> simp [lacks,V6.set,V6.get,h])
theorem yahl (s:V6 Bool):lacks no6 s=false:=rfl
def zw0 (Us:List Int) (t:St):Bool:=Us.any fun d=>!t.s.get d.toNat
def stE (i:Ins) (t:St):Eff:=⟨.tu [.ag (zag i t).1.cs,.ag (zag i t).2.1.cs,.c (.i (zag i t).2.2)],[],none⟩
theorem yaoc {i:Ins} {t:St} (hl:t.live=true) (h:lacks (zaw i) t.s=true):stE i t=⟨.tu [.ag St.z.cs,.ag St.z.cs,.c (.i 1)],[],none⟩:=by
 have e:zej i t=1:=by unfold zej;rw [if_pos h]
 unfold stE zag
 rw [if_pos hl,e,if_neg (by decide)]
theorem zgk {i:Ins} {t:St} (hl:t.live=true) (h:zej i t=0):stE i t=⟨.tu [.ag (goS i t).1.cs,.ag (goS i t).2.cs,.c (.i 0)],[],none⟩:=by
 unfold stE zag
 rw [if_pos hl,if_pos h]
theorem yalq {i:Ins} {t:St} (hl:t.live=true) (h:zej i t=2):stE i t=⟨.tu [.ag St.z.cs,.ag St.z.cs,.c (.i 2)],[],none⟩:=by
 unfold stE zag
 rw [if_pos hl,h,if_neg (by decide)]
abbrev ssKn (i:Ins) (t:St) (q k:Nat) (U:List AC):Kn:=⟨[(2,.c (.w 0)),(3,.c (.w 1)),(4,.c (.w 2)),(5,.c (.w 3)),(7,.c (.sx 9 q)),(8,.c (.i (k:Int)))],[(0,⟨true,i.cs,0⟩),(1,⟨true,t.cs,0⟩),(2,⟨true,St.z.cs,0⟩),(3,⟨true,St.z.cs,0⟩),(9,⟨true,U,1⟩)],10⟩
theorem zq5 (Us:List Int):(Us.map AC.i).flatMap AC.ks=[]:=by
 induction Us with
 | nil=>rfl
 | cons d l ih=>rw [List.map_cons,List.flatMap_cons,ih];rfl
theorem yaql (i:Ins) (t:St) (q k:Nat) (Us:List Int):Kn.Low (ssKn i t q k (Us.map AC.i)):=zg9 rfl rfl ⟨rfl,rfl,rfl,rfl,zq5 Us,trivial⟩
theorem yap7 {i:Ins} {t:St} {Us:List Int} (hl:t.live=true) (h2:Us.length≤2) (hU:∀ d,d∈Us→regB d=true) (hlk:lacks (zaw i) t.s=zw0 Us t) {w:World} {β:Bs}
  (z:lacks (zaw i) t.s=false→ART Tryz.prog 31 (cx w β 0 []) Tryz.f31.ntmps (zdk Tryz.f31 0) (ssKn i t Us.length Us.length (Us.map AC.i)) (REff w β (stE i t))):∀ n k,k+n=Us.length→(∀ j,j<k→t.s.get (Us.getD j 0).toNat=true) →
  ART Tryz.prog 31 (cx w β 0 []) Tryz.f31.ntmps (zdk Tryz.f31 0) (ssKn i t Us.length k (Us.map AC.i)) (REff w β (stE i t))
 | 0,k,hk,ha=>by
  obtain rfl:k=Us.length:=by omega
  refine z ?_
  rw [hlk]
  unfold zw0
  rw [List.any_eq_false]
  intro d hd
  obtain ⟨j,hj,rfl⟩:=List.mem_iff_getElem.1 hd
  have:=ha j hj
  rw [List.getD_eq_getElem?_getD,List.getElem?_eq_getElem hj] at this
  simpa using this
 | n+1,k,hk,ha=>by
  have hlt:k<Us.length:=by omega
  have hm:Us.getD k 0∈Us:=by rw [List.getD_eq_getElem?_getD,List.getElem?_eq_getElem hlt];exact List.getElem_mem hlt
  have hr:=hU _ hm
  have hg:(Us.map AC.i)[Int.toNat (k:Int)*1]?=some (.i (Us.getD k 0)):=by
   rw [Int.toNat_natCast,Nat.mul_one,List.getElem?_map,List.getD_eq_getElem?_getD,List.getElem?_eq_getElem hlt];rfl
  have d0:decide ((k:Int)<(Us.length:Int))=true:=decide_eq_true (by omega)
  have d1:(AC.isI (Option.getD (Us.map AC.i)[Int.toNat (k:Int)*1]? (AC.b false))&&Nat.blt (Int.toNat (k:Int)*1) (Us.map AC.i).length)=true:=by
   rw [hg,Bool.and_eq_true]
   exact ⟨rfl,by rw [List.length_map,Nat.blt_eq];omega⟩
  have e0:Eff.mk (AV.c (AC.i (AC.asI (Option.getD (Us.map AC.i)[Int.toNat (k:Int)*1]? (AC.b false))))) [] none=Eff.mk (AV.c (AC.i (Us.getD k 0))) [] none:=by rw [hg];rfl
  refine zy6 (d:=Us.getD k 0) (by decide) (fun a=>⟨d0,d0,d1,hr,zw3 t hr,e0,zn2 t hr,?_⟩) (fun a=>⟨d0,d0,d1,hr,zw3 t hr,e0,zn2 t hr,by rw [zhz (by omega)],yaql _ _ _ _ _,?_⟩)
  ·refine (yaoc hl ?_).symm
   rw [hlk]
   exact List.any_eq_true.2 ⟨_,hm,a⟩
  ·refine yap7 hl h2 hU hlk z n (k+1) (by omega) fun j hj=>?_
   by_cases e:j=k
   ·subst e;simpa using a
   ·exact ha j (by omega)
theorem ssGo {i:Ins} {t:St} {Us:List Int} (hl:t.live=true) (h2:Us.length≤2) (hU:∀ d,d∈Us→regB d=true) (hlk:lacks (zaw i) t.s=zw0 Us t) (hu:CallOK Tryz.prog ⟨37,[.ag i.cs],[],⟨.c (.sx 9 Us.length),[],some (9,⟨true,Us.map AC.i,1⟩)⟩⟩)
  (z:∀ w β,lacks (zaw i) t.s=false→ART Tryz.prog 31 (cx w β 0 []) Tryz.f31.ntmps (zdk Tryz.f31 0) (ssKn i t Us.length Us.length (Us.map AC.i)) (REff w β (stE i t))):Ok 31 [.ag i.cs,.ag t.cs] (stE i t).v :=
 zk5 Tryz.func31 rfl rfl rfl rfl fun w β=>yao9 (zaa (by rw [hl];rfl) rfl) hu (yaql i t _ 0 Us) (fun _ h=>absurd h (Nat.not_lt_zero _)) (yap7 hl h2 hU hlk (z w β) Us.length 0 (by omega) fun _ h=>absurd h (Nat.not_lt_zero _))
section
variable {i:Ins} {t:St}
theorem dn (q:Nat):(!decide ((q:Int)<(q:Int)))=true:=by rw [decide_eq_false (by omega)];rfl
theorem zd8 (h:i.op≠10) (h':i.op≠11):Ok 75 [.c (.i i.op)] (.c (.b false)):=zam (zgh i.op) (by rw [beq_eq_false_iff_ne.2 h,beq_eq_false_iff_ne.2 h'];rfl)
theorem zi4 (h:i.op=10∨i.op=11):Ok 75 [.c (.i i.op)] (.c (.b true)):=zam (zgh i.op) (by rcases h with h | h <;> rw [h] <;> rfl)
theorem zff (hu:lacks (zaw i) t.s=false) (h:i.op≠10) (h':i.op≠11):zej i t=0:=by
 unfold zej;rw [if_neg (by rw [hu];decide),if_neg h,if_neg h']
theorem s_ne (h:i.s≠-1):(i.s != -1)=true:=by simpa using h
theorem s_is (h:i.s=-1):(!i.s != -1)=true:=by simp [h]
theorem yamc (h:i.s=-1):srcV i t=V4.of i.im:=by unfold srcV;rw [if_pos h]
theorem zvc (h:i.s≠-1):srcV i t=t.r.get i.s.toNat:=by unfold srcV;rw [if_neg h]
theorem yad3 {d:Int} (h:regB d=true):lacks ((no6).set d.toNat true) t.s=zw0 [d] t:=by
 rw [zm2 _ (zbp h),yahl];simp [zw0]
theorem yao4 {d s:Int} (h:regB d=true) (h':regB s=true):lacks (((no6).set d.toNat true).set s.toNat true) t.s=zw0 [d,s] t:=by
 rw [zm2 _ (zbp h'),zm2 _ (zbp h),yahl];simp [zw0]
theorem mem1 {d:Int} (h:regB d=true):∀ e,e∈[d]→regB e=true:=fun e he=>by rw [List.mem_singleton.1 he];exact h
theorem mem2 {d s:Int} (h:regB d=true) (h':regB s=true):∀ e,e∈[d,s]→regB e=true:=fun e he=>by
 rcases List.mem_cons.1 he with h1 | h1
 ·rw [h1];exact h
 ·rw [List.mem_singleton.1 h1];exact h'
theorem yabj (h:(2≤i.op∧i.op≤9)∨i.op=13∨i.op=14) (hs:i.s=-1):zaw i=(no6).set i.d.toNat true:=by
 unfold zaw;rw [if_neg (by omega),if_neg (by omega),if_pos hs,if_neg (by omega)]
theorem zjs (h:(2≤i.op∧i.op≤9)∨i.op=11∨i.op=13∨i.op=14) (hs:i.s≠-1):zaw i=((no6).set i.d.toNat true).set i.s.toNat true:=by
 unfold zaw;rw [if_neg (by omega),if_neg (by omega),if_neg hs,if_neg (by omega)]
theorem yabf (h:i.op=1∨i.op=10) (hs:i.s≠-1):zaw i=(no6).set i.s.toNat true:=by
 unfold zaw;rw [if_neg (by omega),if_neg (by omega),if_neg hs,if_pos h]
end
theorem zk2 {i:Ins} {t:St} (hr:Right i 65) (ht:t.Ok):Ok 31 [.ag i.cs,.ag t.cs] (stE i t).v:=by
 by_cases hl:t.live=true
 ·have hg:=zbn hr
  have hd:=hg.1
  have so:i.s≠-1→regB i.s=true:=fun h=>(srcB_iff.1 hg.2).resolve_left h
  have cI:=yacg i.im
  have cO:=yacg (BitVec.ofInt 64 i.of)
  rcases zld hr with c | c | c | c | c | c | c | c
  ·-- load
   obtain ⟨_,hs,hz,_⟩:=zbv hr (Or.inl c)
   have hn:i.s≠-1:=fun e=>by rw [e] at hs;cases hs
   refine ssGo (Us:=[i.s]) hl (by simp) (mem1 hs) (by rw [yabf (Or.inr c) hn];exact yad3 hs) (zlr 9 (Or.inr c) hn) fun w β hu=>?_
   have hv:(t.r.get i.s.toNat).ok=true:=by have:=zey hr ht hu (by omega) (by omega);rwa [zvc hn] at this
   have cT:=zi2 (op:=2) (by decide) hv (V4.of_ok (BitVec.ofInt 64 i.of))
   have hn8:=yake hz
   have cB:Ok 83 [.c (.i (IntKind.wrap IntKind.i64 (nv i.im)))] (.ag (V4.bytes (nv i.im)).cs):=by rw [zfp (by omega) (by omega)];exact zwt hn8
   refine yal5 (fun a=>⟨dn _,s_ne hn,hs,zbe t hs,hd,zbe t hd,zfg c,cI,zax t hs,zax t hd,zi4 (Or.inl c),cO,cT,?_⟩) (fun a=>⟨dn _,s_ne hn,hs,zbe t hs,hd,zbe t hd,zfg c,hd,zbe t hd,zay (by omega),zay (by omega),zay (by omega),zay (by omega),zfg c,cI,zax t hs,zax t hd,zi4 (Or.inl c),cO,cT,zax t hd,cB,ze8 _ hd,?_⟩)
   ·refine (yalq hl ?_).symm
    unfold zej farS;rw [if_neg (by rw [hu];decide),if_pos c,if_pos a]
   ·rw [zgk hl ?_,zsp c]
    unfold zej farS;rw [if_neg (by rw [hu];decide),if_pos c,if_neg (by rw [a];decide)]
  ·-- store
   obtain ⟨_,hs,hz,_⟩:=zbv hr (Or.inr c)
   have hn:i.s≠-1:=fun e=>by rw [e] at hs;cases hs
   refine ssGo (Us:=[i.d,i.s]) hl (by simp) (mem2 hd hs) (by rw [zjs (Or.inr (Or.inl c)) hn];exact yao4 hd hs) (zhj 9 (Or.inr (Or.inl c)) hn) fun w β hu=>?_
   have hv:=zdx hr ht hu (by omega) (by omega) (by omega) (by omega)
   have cT:=zi2 (op:=2) (by decide) hv (V4.of_ok (BitVec.ofInt 64 i.of))
   refine yamm (fun a=>⟨dn _,s_ne hn,hs,zbe t hs,hd,zbe t hd,zay (by omega),cI,zax t hs,zax t hd,zi4 (Or.inr c),cO,cT,?_⟩) (fun a=>⟨dn _,s_ne hn,hs,zbe t hs,hd,zbe t hd,zay (by omega),hd,zbe t hd,zay (by omega),zay (by omega),zay (by omega),zay (by omega),zay (by omega),zfg c,cI,zax t hs,zax t hd,zi4 (Or.inr c),cO,cT,zax t hd,?_⟩)
   ·refine (yalq hl ?_).symm
    unfold zej farS;rw [if_neg (by rw [hu];decide),if_neg (by omega),if_pos c,if_pos a]
   ·rw [zgk hl ?_,zl1 c]
    unfold zej farS;rw [if_neg (by rw [hu];decide),if_neg (by omega),if_pos c,if_neg (by rw [a];decide)]
  ·-- jump
   obtain ⟨_,_,d0,s0⟩:=zfn hr c
   have hs:regB i.s=true:=by rw [s0];rfl
   have hu:lacks (zaw i) t.s=false:=by unfold zaw;rw [if_pos c];rfl
   have e:=zgk hl (zff hu (by omega) (by omega))
   rw [zr5 c] at e
   rw [e]
   refine yaue (zaa (by rw [hl];rfl) (zaa (s_ne (by omega)) (zaa hs (zaa (zbe t hs) (zaa hd (zaa (zbe t hd) (zaa (zay (by omega)) (zaa hd (zaa (zbe t hd) (zaa (zay (by omega)) (zaa (zfg c) rfl))))))))))) ?_ cI (zax t hs) (zax t hd) (zd8 (by omega) (by omega)) (zax t hd)
   have:=zq0 (d:=i.d) (s:=i.s) (of:=i.of) (im:=i.im)
   rw [← c] at this
   exact this
  ·-- ifeq
   by_cases hs:i.s=-1
   ·refine ssGo (Us:=[i.d]) hl (by simp) (mem1 hd) (by rw [yabj (Or.inr (Or.inl c)) hs];exact yad3 hd) (by rw [show AV.ag i.cs=AV.ag (Ins.mk i.op i.d (-1) i.im i.of).cs from by unfold Ins.cs;rw [hs]];exact zlk 9 (Or.inr (Or.inl c))) fun w β hu=>?_
    have hv:=zdx hr ht hu (by omega) (by omega) (by omega) (by omega)
    refine za5 (yanm (zaa (dn _) (zaa (s_is hs) (zaa hd (zaa (zbe t hd) (zaa (zay (by omega)) (zaa hd (zaa (zbe t hd) (zaa (zay (by omega)) (zaa (zay (by omega)) (zaa (zfg c) rfl)))))))))) cI (zax t hd) (zd8 (by omega) (by omega)) (zax t hd) (zms hv (V4.of_ok _)) (zne hv (V4.of_ok _)) (zfa ((t.r.get i.d.toNat).other (V4.of i.im)) hd hg.2) (zfa ((t.r.get i.d.toNat).equal (V4.of i.im)) hd hg.2)) ?_
    rw [zgk hl (zff hu (by omega) (by omega)),yabg c,yamc hs]
   ·have h1:=so hs
    refine ssGo (Us:=[i.d,i.s]) hl (by simp) (mem2 hd h1) (by rw [zjs (Or.inr (Or.inr (Or.inl c))) hs];exact yao4 hd h1) (zhj 9 (Or.inr (Or.inr (Or.inl c))) hs) fun w β hu=>?_
    have hv:=zdx hr ht hu (by omega) (by omega) (by omega) (by omega)
    have hw:(t.r.get i.s.toNat).ok=true:=by have:=zey hr ht hu (by omega) (by omega);rwa [zvc hs] at this
    refine za5 (yaor (zaa (dn _) (zaa (s_ne hs) (zaa h1 (zaa (zbe t h1) (zaa hd (zaa (zbe t hd) (zaa (zay (by omega)) (zaa hd (zaa (zbe t hd) (zaa (zay (by omega)) (zaa (zay (by omega)) (zaa (zfg c) rfl)))))))))))) cI (zax t h1) (zax t hd) (zd8 (by omega) (by omega)) (zax t hd) (zms hv hw) (zne hv hw) (zfa ((t.r.get i.d.toNat).other (t.r.get i.s.toNat)) hd hg.2) (zfa ((t.r.get i.d.toNat).equal (t.r.get i.s.toNat)) hd hg.2)) ?_
    rw [zgk hl (zff hu (by omega) (by omega)),yabg c,zvc hs]
  ·-- iflt
   by_cases hs:i.s=-1
   ·refine ssGo (Us:=[i.d]) hl (by simp) (mem1 hd) (by rw [yabj (Or.inr (Or.inr c)) hs];exact yad3 hd) (by rw [show AV.ag i.cs=AV.ag (Ins.mk i.op i.d (-1) i.im i.of).cs from by unfold Ins.cs;rw [hs]];exact zlk 9 (Or.inr (Or.inr c))) fun w β hu=>?_
    have hv:=zdx hr ht hu (by omega) (by omega) (by omega) (by omega)
    refine za5 (yaoo (zaa (dn _) (zaa (s_is hs) (zaa hd (zaa (zbe t hd) (zaa (zay (by omega)) (zaa hd (zaa (zbe t hd) (zaa (zay (by omega)) (zaa (zay (by omega)) (zaa (zay (by omega)) (zaa (zfg c) rfl))))))))))) cI (zax t hd) (zd8 (by omega) (by omega)) (zax t hd) (ziz hv (V4.of_ok _)) (zpy hv (V4.of_ok _)) (zfa ((t.r.get i.d.toNat).notLess (V4.of i.im)) hd hg.2) (zfa ((t.r.get i.d.toNat).less (V4.of i.im)) hd hg.2)) ?_
    rw [zgk hl (zff hu (by omega) (by omega)),yab0 c,yamc hs]
   ·have h1:=so hs
    refine ssGo (Us:=[i.d,i.s]) hl (by simp) (mem2 hd h1) (by rw [zjs (Or.inr (Or.inr (Or.inr c))) hs];exact yao4 hd h1) (zhj 9 (Or.inr (Or.inr (Or.inr c))) hs) fun w β hu=>?_
    have hv:=zdx hr ht hu (by omega) (by omega) (by omega) (by omega)
    have hw:(t.r.get i.s.toNat).ok=true:=by have:=zey hr ht hu (by omega) (by omega);rwa [zvc hs] at this
    refine za5 (yams (zaa (dn _) (zaa (s_ne hs) (zaa h1 (zaa (zbe t h1) (zaa hd (zaa (zbe t hd) (zaa (zay (by omega)) (zaa hd (zaa (zbe t hd) (zaa (zay (by omega)) (zaa (zay (by omega)) (zaa (zay (by omega)) (zaa (zfg c) rfl))))))))))))) cI (zax t h1) (zax t hd) (zd8 (by omega) (by omega)) (zax t hd) (ziz hv hw) (zpy hv hw) (zfa ((t.r.get i.d.toNat).notLess (t.r.get i.s.toNat)) hd hg.2) (zfa ((t.r.get i.d.toNat).less (t.r.get i.s.toNat)) hd hg.2)) ?_
    rw [zgk hl (zff hu (by omega) (by omega)),yab0 c,zvc hs]
  ·-- exit
   obtain ⟨d0,s0,_,_⟩:=zl5 hr c
   have hs:regB i.s=true:=by rw [s0];rfl
   have eu:zaw i=(no6).set (0:Int).toNat true:=by unfold zaw;rw [if_neg (by omega),if_pos c];rfl
   refine ssGo (Us:=[0]) hl (by decide) (mem1 rfl) (by rw [eu];exact yad3 rfl) ?_ fun w β hu=>?_
   ·have:=yab3 (d:=i.d) (s:=i.s) (of:=i.of) (im:=i.im) 9
    rw [← c] at this
    exact this
   ·refine za5 (yarw (zaa (dn _) (zaa (s_ne (by omega)) (zaa hs (zaa (zbe t hs) (zaa hd (zaa (zbe t hd) (zaa (zay (by omega)) (zaa hd (zaa (zbe t hd) (zaa (zfg c) rfl)))))))))) cI (zax t hs) (zax t hd) (zd8 (by omega) (by omega)) (zax t hd)) ?_
    rw [zgk hl (zff hu (by omega) (by omega)),zrg c]
  ·-- mov
   by_cases hs:i.s=-1
   ·have hu:lacks (zaw i) t.s=false:=by unfold zaw;rw [if_neg (by omega),if_neg (by omega),if_pos hs,if_pos (Or.inl c)];rfl
    have e:=zgk hl (zff hu (by omega) (by omega))
    rw [zrq c,yamc hs] at e
    rw [e]
    refine yarj (zaa (by rw [hl];rfl) (zaa (s_is hs) (zaa hd (zaa (zbe t hd) (zaa (zay (by omega)) (zaa hd (zaa (zbe t hd) (zaa (zay (by omega)) (zaa (zay (by omega)) (zaa (zay (by omega)) (zaa (zay (by omega)) (zaa (zay (by omega)) (zaa (zay (by omega)) (zaa (zfg c) rfl)))))))))))))) ?_ cI (zax t hd) (zd8 (by omega) (by omega)) (zax t hd) (ze8 _ hd)
    rw [show AV.ag i.cs=AV.ag (Ins.mk 1 i.d (-1) i.im i.of).cs from by unfold Ins.cs;rw [c,hs]]
    exact yaay
   ·have h1:=so hs
    refine ssGo (Us:=[i.s]) hl (by simp) (mem1 h1) (by rw [yabf (Or.inl c) hs];exact yad3 h1) (zlr 9 (Or.inl c) hs) fun w β hu=>?_
    refine za5 (yau1 (zaa (dn _) (zaa (s_ne hs) (zaa h1 (zaa (zbe t h1) (zaa hd (zaa (zbe t hd) (zaa (zay (by omega)) (zaa hd (zaa (zbe t hd) (zaa (zay (by omega)) (zaa (zay (by omega)) (zaa (zay (by omega)) (zaa (zay (by omega)) (zaa (zay (by omega)) (zaa (zay (by omega)) (zaa (zfg c) rfl)))))))))))))))) cI (zax t h1) (zax t hd) (zd8 (by omega) (by omega)) (zax t hd) (ze8 _ hd)) ?_
    rw [zgk hl (zff hu (by omega) (by omega)),zrq c,zvc hs]
  ·-- reckons
   by_cases hs:i.s=-1
   ·refine ssGo (Us:=[i.d]) hl (by simp) (mem1 hd) (by rw [yabj (Or.inl c) hs];exact yad3 hd) (by rw [show AV.ag i.cs=AV.ag (Ins.mk i.op i.d (-1) i.im i.of).cs from by unfold Ins.cs;rw [hs]];exact zlk 9 (Or.inl c)) fun w β hu=>?_
    have hv:=zdx hr ht hu (by omega) (by omega) (by omega) (by omega)
    refine za5 (yat0 (zaa (dn _) (zaa (s_is hs) (zaa hd (zaa (zbe t hd) (zaa (zay (by omega)) (zaa hd (zaa (zbe t hd) (zaa (zay (by omega)) (zaa (zay (by omega)) (zaa (zay (by omega)) (zaa (zay (by omega)) (zaa (zay (by omega)) (zaa (zay (by omega)) (zaa (zay (by omega)) rfl)))))))))))))) cI (zax t hd) (zd8 (by omega) (by omega)) (zax t hd) (zi2 c hv (V4.of_ok _)) (ze8 _ hd)) ?_
    rw [zgk hl (zff hu (by omega) (by omega)),zqt c,yamc hs]
   ·have h1:=so hs
    refine ssGo (Us:=[i.d,i.s]) hl (by simp) (mem2 hd h1) (by rw [zjs (Or.inl c) hs];exact yao4 hd h1) (zhj 9 (Or.inl c) hs) fun w β hu=>?_
    have hv:=zdx hr ht hu (by omega) (by omega) (by omega) (by omega)
    have hw:(t.r.get i.s.toNat).ok=true:=by have:=zey hr ht hu (by omega) (by omega);rwa [zvc hs] at this
    refine za5 (yasr (zaa (dn _) (zaa (s_ne hs) (zaa h1 (zaa (zbe t h1) (zaa hd (zaa (zbe t hd) (zaa (zay (by omega)) (zaa hd (zaa (zbe t hd) (zaa (zay (by omega)) (zaa (zay (by omega)) (zaa (zay (by omega)) (zaa (zay (by omega)) (zaa (zay (by omega)) (zaa (zay (by omega)) (zaa (zay (by omega)) rfl)))))))))))))))) cI (zax t h1) (zax t hd) (zd8 (by omega) (by omega)) (zax t hd) (zi2 c hv hw) (ze8 _ hd)) ?_
    rw [zgk hl (zff hu (by omega) (by omega)),zqt c,zvc hs]
 ·have hl:t.live=false:=by simpa using hl
  refine zk5 Tryz.func31 rfl rfl rfl rfl fun w β=>za5 (yapu (zaa (by rw [hl];rfl) rfl)) ?_
  unfold stE zag
  rw [if_neg (by rw [hl];decide)]
section
variable {a b p:V4} {i:Bool}
theorem zze (c0:Ok 130 [.ag [.u a.v,.u a.m],.ag [.u b.v,.u b.m]] (.ag [.u (jV a.v a.m b.v b.m),.u (jM a.v a.m b.v b.m)])) (c1:Ok 126 [.ag [.u (jV a.v a.m b.v b.m),.u (jM a.v a.m b.v b.m),.u (bmin a.l b.l),.u (bmax a.h b.h)]] (.tu [.ag p.cs,.c (.b i)])) :
  Ok 84 [.ag a.cs,.ag b.cs] (.ag p.cs) :=
 zaf [] ([]) [] Tryz.func84 rfl rfl rfl rfl (by kernel_rfl) rfl (zab c0 (zab c1 zae))
end
section
abbrev zc3 (t u b:St) (j:Int):Kn:=⟨[(2,.c (.w 0)),(3,.c (.w 1)),(4,.c (.w 2)),(5,.c (.w 10)),(6,.c (.i j))],[(0,Ent.mk true t.cs 0),(1,Ent.mk true u.cs 0),(2,Ent.mk true St.z.cs 0),(10,Ent.mk true b.cs 0)],11⟩
variable {a:V4} {t u b:St} {w:World} {β:Bs} {n:Nat} {C:Cx} {R:Ending→World→Prop} {E:Eff} {j:Int}
theorem yai8 (c0:Ok 73 [] (.ag a.cs)) :
  Ok 30 [] (.ag [.b true,.b false,.b true,.b false,.b false,.b false,.b false,.u 0#64,.u 0#64,.u 0#64,.u 0#64,.u a.v,.u a.m,.u a.l,.u a.h,.u 0#64,.u 0#64,.u 0#64,.u 0#64,.u 0#64,.u 0#64,.u 0#64,.u 0#64,.u 0#64,.u 0#64,.u 0#64,.u 0#64,.u 0#64,.u 0#64,.u 0#64,.u 0#64]) :=
 zaf [] ([]) [] Tryz.func30 rfl rfl rfl rfl (by kernel_rfl) rfl (zab c0 zae)
theorem yapc (h:(!t.live&&true)=true) :
  BO 32 Tryz.f32 (cx w β n []) [.ag t.cs,.ag u.cs] [] 0 (REff w β ⟨.ag u.cs,[],none⟩) :=
 zah [] none [true] ([true]) [] Tryz.func32 (zau rfl n) (by kernel_rfl) h zae
theorem yamh (h:(!!t.live&&(!u.live&&true))=true) :
  BO 32 Tryz.f32 (cx w β n []) [.ag t.cs,.ag u.cs] [] 0 (REff w β ⟨.ag t.cs,[],none⟩) :=
 zah [] none [false,true] ([true]) [] Tryz.func32 (zau rfl n) (by kernel_rfl) h zae
theorem yam3 (h:(!!t.live&&(!!u.live&&true))=true) (lo:Kn.Low ⟨[(2,.c (.w 0)),(3,.c (.w 1)),(4,.c (.w 2)),(5,.c (.w 10)),(6,.c (.i 0))],[(0,Ent.mk true t.cs 0),(1,Ent.mk true u.cs 0),(2,Ent.mk true St.z.cs 0),(10,Ent.mk true St.e.cs 0)],11⟩) (hF:∀ k,C.F k→k<11) (z:AR 32 Tryz.f32 C 0 ⟨[(2,.c (.w 0)),(3,.c (.w 1)),(4,.c (.w 2)),(5,.c (.w 10)),(6,.c (.i 0))],[(0,Ent.mk true t.cs 0),(1,Ent.mk true u.cs 0),(2,Ent.mk true St.z.cs 0),(10,Ent.mk true St.e.cs 0)],11⟩ R) :
  BO 32 Tryz.f32 C [.ag t.cs,.ag u.cs] [] 0 R :=
 zai [false,false] ([true]) [] Tryz.func32 (by kernel_rfl) h zae lo hF z
theorem yajf (hn:n≤11)
  (l0:(!t.live)=true→((⟨.ag u.cs,[],none⟩:Eff)=E))
  (l1:(!t.live)=false→(!u.live)=true→((⟨.ag t.cs,[],none⟩:Eff)=E))
  (l2:(!t.live)=false→(!u.live)=false→Kn.Low ⟨[(2,.c (.w 0)),(3,.c (.w 1)),(4,.c (.w 2)),(5,.c (.w 10)),(6,.c (.i 0))],[(0,Ent.mk true t.cs 0),(1,Ent.mk true u.cs 0),(2,Ent.mk true St.z.cs 0),(10,Ent.mk true St.e.cs 0)],11⟩∧AR 32 Tryz.f32 (cx w β n []) 0 ⟨[(2,.c (.w 0)),(3,.c (.w 1)),(4,.c (.w 2)),(5,.c (.w 10)),(6,.c (.i 0))],[(0,Ent.mk true t.cs 0),(1,Ent.mk true u.cs 0),(2,Ent.mk true St.z.cs 0),(10,Ent.mk true St.e.cs 0)],11⟩ (REff w β E)) :
  BO 32 Tryz.f32 (cx w β n []) [.ag t.cs,.ag u.cs] [] 0 (REff w β E) :=
 (tf (!t.live)).elim (fun h0=>(match l0 h0 with | e=>za5 (yapc (zaa h0 rfl)) e)) (fun h0=>(tf (!u.live)).elim (fun h1=>(match l1 h0 h1 with | e=>za5 (yamh (zaa (zad h0) (zaa h1 rfl))) e)) (fun h1=>(match l2 h0 h1 with | ⟨lo,z⟩=>yam3 (zaa (zad h0) (zaa (zad h1) rfl)) lo (fun _ hk=>Nat.lt_of_lt_of_le hk hn) z)))
theorem yaej (h:(decide (j<6)&&(decide (0≤j)&&decide (j<6)&&(AC.isB ((t.cs)[1+j.toNat*1]?.getD (.b false))&&Nat.blt (1+j.toNat*1) (t.cs).length&&((t.s).get j.toNat&&(decide (0≤j)&&decide (j<6)&&(AC.isB ((u.cs)[1+j.toNat*1]?.getD (.b false))&&Nat.blt (1+j.toNat*1) (u.cs).length&&((u.s).get j.toNat&&(decide (0≤j)&&decide (j<6)&&(Nat.ble (1+j.toNat*1+1) (b.cs).length&&true&&(decide (0≤j)&&decide (j<6)&&(Nat.ble (7+j.toNat*4+4) (t.cs).length&&(decide (0≤j)&&decide (j<6)&&(Nat.ble (7+j.toNat*4+4) (u.cs).length&&(decide (0≤j)&&decide (j<6)&&(Nat.ble (7+j.toNat*4+(a.cs).length) ((St.mk b.live ((b.s).set j.toNat true) b.r).cs).length&&true&&true)))))))))))))))=true) (c0:pe (.c (.b (AC.asB ((t.cs)[1+j.toNat*1]?.getD (.b false)))))=pe (.c (.b ((t.s).get j.toNat)))) (c1:pe (.c (.b (AC.asB ((u.cs)[1+j.toNat*1]?.getD (.b false)))))=pe (.c (.b ((u.s).get j.toNat)))) (c2:we 10 ((b.cs).set (1+j.toNat*1) (.b true))=we 10 ((St.mk b.live ((b.s).set j.toNat true) b.r).cs)) (c3:pe (.ag (((t.cs).drop (7+j.toNat*4)).take 4))=pe (.ag ((t.r).get j.toNat).cs)) (c4:pe (.ag (((u.cs).drop (7+j.toNat*4)).take 4))=pe (.ag ((u.r).get j.toNat).cs)) (c5:Ok 84 [.ag ((t.r).get j.toNat).cs,.ag ((u.r).get j.toNat).cs] (.ag a.cs)) (c6:we 10 (splice (St.mk b.live ((b.s).set j.toNat true) b.r).cs (7+j.toNat*4) a.cs)=we 10 ((St.wth b j.toNat a).cs)) (lo:Kn.Low ⟨[(2,.c (.w 0)),(3,.c (.w 1)),(4,.c (.w 2)),(5,.c (.w 10)),(6,.c (.i (IntKind.i64.wrap (j+1))))],[(0,Ent.mk true t.cs 0),(1,Ent.mk true u.cs 0),(2,Ent.mk true St.z.cs 0),(10,Ent.mk true [.b b.live,.b ((b.s).set j.toNat true).x0,.b ((b.s).set j.toNat true).x1,.b ((b.s).set j.toNat true).x2,.b ((b.s).set j.toNat true).x3,.b ((b.s).set j.toNat true).x4,.b ((b.s).set j.toNat true).x5,.u (((b.r).set j.toNat a).x0).v,.u (((b.r).set j.toNat a).x0).m,.u (((b.r).set j.toNat a).x0).l,.u (((b.r).set j.toNat a).x0).h,.u (((b.r).set j.toNat a).x1).v,.u (((b.r).set j.toNat a).x1).m,.u (((b.r).set j.toNat a).x1).l,.u (((b.r).set j.toNat a).x1).h,.u (((b.r).set j.toNat a).x2).v,.u (((b.r).set j.toNat a).x2).m,.u (((b.r).set j.toNat a).x2).l,.u (((b.r).set j.toNat a).x2).h,.u (((b.r).set j.toNat a).x3).v,.u (((b.r).set j.toNat a).x3).m,.u (((b.r).set j.toNat a).x3).l,.u (((b.r).set j.toNat a).x3).h,.u (((b.r).set j.toNat a).x4).v,.u (((b.r).set j.toNat a).x4).m,.u (((b.r).set j.toNat a).x4).l,.u (((b.r).set j.toNat a).x4).h,.u (((b.r).set j.toNat a).x5).v,.u (((b.r).set j.toNat a).x5).m,.u (((b.r).set j.toNat a).x5).l,.u (((b.r).set j.toNat a).x5).h] 0)],11⟩) (hF:∀ k,C.F k→k<11) (z:AR 32 Tryz.f32 C 0 ⟨[(2,.c (.w 0)),(3,.c (.w 1)),(4,.c (.w 2)),(5,.c (.w 10)),(6,.c (.i (IntKind.i64.wrap (j+1))))],[(0,Ent.mk true t.cs 0),(1,Ent.mk true u.cs 0),(2,Ent.mk true St.z.cs 0),(10,Ent.mk true [.b b.live,.b ((b.s).set j.toNat true).x0,.b ((b.s).set j.toNat true).x1,.b ((b.s).set j.toNat true).x2,.b ((b.s).set j.toNat true).x3,.b ((b.s).set j.toNat true).x4,.b ((b.s).set j.toNat true).x5,.u (((b.r).set j.toNat a).x0).v,.u (((b.r).set j.toNat a).x0).m,.u (((b.r).set j.toNat a).x0).l,.u (((b.r).set j.toNat a).x0).h,.u (((b.r).set j.toNat a).x1).v,.u (((b.r).set j.toNat a).x1).m,.u (((b.r).set j.toNat a).x1).l,.u (((b.r).set j.toNat a).x1).h,.u (((b.r).set j.toNat a).x2).v,.u (((b.r).set j.toNat a).x2).m,.u (((b.r).set j.toNat a).x2).l,.u (((b.r).set j.toNat a).x2).h,.u (((b.r).set j.toNat a).x3).v,.u (((b.r).set j.toNat a).x3).m,.u (((b.r).set j.toNat a).x3).l,.u (((b.r).set j.toNat a).x3).h,.u (((b.r).set j.toNat a).x4).v,.u (((b.r).set j.toNat a).x4).m,.u (((b.r).set j.toNat a).x4).l,.u (((b.r).set j.toNat a).x4).h,.u (((b.r).set j.toNat a).x5).v,.u (((b.r).set j.toNat a).x5).m,.u (((b.r).set j.toNat a).x5).l,.u (((b.r).set j.toNat a).x5).h] 0)],11⟩ R) :
  AR 32 Tryz.f32 C 0 (zc3 t u b j) R :=
 zai [true,true,true] ([true]) [(9,3),(9,8),(10,3),(11,4),(11,8),(11,12)] Tryz.func32 (by kernel_rfl) h (zac c0 (zac c1 (zac c2 (zac c3 (zac c4 (zab c5 (zac c6 zae))))))) lo hF z
theorem yadr (h:(decide (j<6)&&(decide (0≤j)&&decide (j<6)&&(AC.isB ((t.cs)[1+j.toNat*1]?.getD (.b false))&&Nat.blt (1+j.toNat*1) (t.cs).length&&((t.s).get j.toNat&&(decide (0≤j)&&decide (j<6)&&(AC.isB ((u.cs)[1+j.toNat*1]?.getD (.b false))&&Nat.blt (1+j.toNat*1) (u.cs).length&&(!(u.s).get j.toNat&&true)))))))=true) (c0:pe (.c (.b (AC.asB ((t.cs)[1+j.toNat*1]?.getD (.b false)))))=pe (.c (.b ((t.s).get j.toNat)))) (c1:pe (.c (.b (AC.asB ((u.cs)[1+j.toNat*1]?.getD (.b false)))))=pe (.c (.b ((u.s).get j.toNat)))) (lo:Kn.Low (zc3 t u b (IntKind.i64.wrap (j+1)))) (hF:∀ k,C.F k→k<11) (z:AR 32 Tryz.f32 C 0 (zc3 t u b (IntKind.i64.wrap (j+1))) R) :
  AR 32 Tryz.f32 C 0 (zc3 t u b j) R :=
 zai [true,true,false] ([true]) [(9,3),(9,8),(10,3),(11,4),(11,8),(11,12)] Tryz.func32 (by kernel_rfl) h (zac c0 (zac c1 zae)) lo hF z
theorem yafi (h:(decide (j<6)&&(decide (0≤j)&&decide (j<6)&&(AC.isB ((t.cs)[1+j.toNat*1]?.getD (.b false))&&Nat.blt (1+j.toNat*1) (t.cs).length&&(!(t.s).get j.toNat&&true))))=true) (c0:pe (.c (.b (AC.asB ((t.cs)[1+j.toNat*1]?.getD (.b false)))))=pe (.c (.b ((t.s).get j.toNat)))) (lo:Kn.Low (zc3 t u b (IntKind.i64.wrap (j+1)))) (hF:∀ k,C.F k→k<11) (z:AR 32 Tryz.f32 C 0 (zc3 t u b (IntKind.i64.wrap (j+1))) R) :
  AR 32 Tryz.f32 C 0 (zc3 t u b j) R :=
 zai [true,false,false] ([true]) [(9,3),(9,8),(10,3),(11,4),(11,8),(11,12)] Tryz.func32 (by kernel_rfl) h (zac c0 zae) lo hF z
theorem zyy (hn:n≤11)
  (l0:((t.s).get j.toNat)=true→((u.s).get j.toNat)=true→(decide (j<6))=true∧(decide (0≤j)&&decide (j<6))=true∧(AC.isB ((t.cs)[1+j.toNat*1]?.getD (.b false))&&Nat.blt (1+j.toNat*1) (t.cs).length)=true∧(decide (0≤j)&&decide (j<6))=true∧(AC.isB ((u.cs)[1+j.toNat*1]?.getD (.b false))&&Nat.blt (1+j.toNat*1) (u.cs).length)=true∧(decide (0≤j)&&decide (j<6))=true∧(Nat.ble (1+j.toNat*1+1) (b.cs).length&&true)=true∧(decide (0≤j)&&decide (j<6))=true∧(Nat.ble (7+j.toNat*4+4) (t.cs).length)=true∧(decide (0≤j)&&decide (j<6))=true∧(Nat.ble (7+j.toNat*4+4) (u.cs).length)=true∧(decide (0≤j)&&decide (j<6))=true∧(Nat.ble (7+j.toNat*4+(a.cs).length) ((St.mk b.live ((b.s).set j.toNat true) b.r).cs).length&&true)=true∧(pe (.c (.b (AC.asB ((t.cs)[1+j.toNat*1]?.getD (.b false)))))=pe (.c (.b ((t.s).get j.toNat))))∧(pe (.c (.b (AC.asB ((u.cs)[1+j.toNat*1]?.getD (.b false)))))=pe (.c (.b ((u.s).get j.toNat))))∧(we 10 ((b.cs).set (1+j.toNat*1) (.b true))=we 10 ((St.mk b.live ((b.s).set j.toNat true) b.r).cs))∧(pe (.ag (((t.cs).drop (7+j.toNat*4)).take 4))=pe (.ag ((t.r).get j.toNat).cs))∧(pe (.ag (((u.cs).drop (7+j.toNat*4)).take 4))=pe (.ag ((u.r).get j.toNat).cs))∧(Ok 84 [.ag ((t.r).get j.toNat).cs,.ag ((u.r).get j.toNat).cs] (.ag a.cs))∧(we 10 (splice (St.mk b.live ((b.s).set j.toNat true) b.r).cs (7+j.toNat*4) a.cs)=we 10 ((St.wth b j.toNat a).cs))∧Kn.Low ⟨[(2,.c (.w 0)),(3,.c (.w 1)),(4,.c (.w 2)),(5,.c (.w 10)),(6,.c (.i (IntKind.i64.wrap (j+1))))],[(0,Ent.mk true t.cs 0),(1,Ent.mk true u.cs 0),(2,Ent.mk true St.z.cs 0),(10,Ent.mk true [.b b.live,.b ((b.s).set j.toNat true).x0,.b ((b.s).set j.toNat true).x1,.b ((b.s).set j.toNat true).x2,.b ((b.s).set j.toNat true).x3,.b ((b.s).set j.toNat true).x4,.b ((b.s).set j.toNat true).x5,.u (((b.r).set j.toNat a).x0).v,.u (((b.r).set j.toNat a).x0).m,.u (((b.r).set j.toNat a).x0).l,.u (((b.r).set j.toNat a).x0).h,.u (((b.r).set j.toNat a).x1).v,.u (((b.r).set j.toNat a).x1).m,.u (((b.r).set j.toNat a).x1).l,.u (((b.r).set j.toNat a).x1).h,.u (((b.r).set j.toNat a).x2).v,.u (((b.r).set j.toNat a).x2).m,.u (((b.r).set j.toNat a).x2).l,.u (((b.r).set j.toNat a).x2).h,.u (((b.r).set j.toNat a).x3).v,.u (((b.r).set j.toNat a).x3).m,.u (((b.r).set j.toNat a).x3).l,.u (((b.r).set j.toNat a).x3).h,.u (((b.r).set j.toNat a).x4).v,.u (((b.r).set j.toNat a).x4).m,.u (((b.r).set j.toNat a).x4).l,.u (((b.r).set j.toNat a).x4).h,.u (((b.r).set j.toNat a).x5).v,.u (((b.r).set j.toNat a).x5).m,.u (((b.r).set j.toNat a).x5).l,.u (((b.r).set j.toNat a).x5).h] 0)],11⟩∧AR 32 Tryz.f32 (cx w β n []) 0 ⟨[(2,.c (.w 0)),(3,.c (.w 1)),(4,.c (.w 2)),(5,.c (.w 10)),(6,.c (.i (IntKind.i64.wrap (j+1))))],[(0,Ent.mk true t.cs 0),(1,Ent.mk true u.cs 0),(2,Ent.mk true St.z.cs 0),(10,Ent.mk true [.b b.live,.b ((b.s).set j.toNat true).x0,.b ((b.s).set j.toNat true).x1,.b ((b.s).set j.toNat true).x2,.b ((b.s).set j.toNat true).x3,.b ((b.s).set j.toNat true).x4,.b ((b.s).set j.toNat true).x5,.u (((b.r).set j.toNat a).x0).v,.u (((b.r).set j.toNat a).x0).m,.u (((b.r).set j.toNat a).x0).l,.u (((b.r).set j.toNat a).x0).h,.u (((b.r).set j.toNat a).x1).v,.u (((b.r).set j.toNat a).x1).m,.u (((b.r).set j.toNat a).x1).l,.u (((b.r).set j.toNat a).x1).h,.u (((b.r).set j.toNat a).x2).v,.u (((b.r).set j.toNat a).x2).m,.u (((b.r).set j.toNat a).x2).l,.u (((b.r).set j.toNat a).x2).h,.u (((b.r).set j.toNat a).x3).v,.u (((b.r).set j.toNat a).x3).m,.u (((b.r).set j.toNat a).x3).l,.u (((b.r).set j.toNat a).x3).h,.u (((b.r).set j.toNat a).x4).v,.u (((b.r).set j.toNat a).x4).m,.u (((b.r).set j.toNat a).x4).l,.u (((b.r).set j.toNat a).x4).h,.u (((b.r).set j.toNat a).x5).v,.u (((b.r).set j.toNat a).x5).m,.u (((b.r).set j.toNat a).x5).l,.u (((b.r).set j.toNat a).x5).h] 0)],11⟩ (REff w β E))
  (l1:((t.s).get j.toNat)=true→((u.s).get j.toNat)=false→(decide (j<6))=true∧(decide (0≤j)&&decide (j<6))=true∧(AC.isB ((t.cs)[1+j.toNat*1]?.getD (.b false))&&Nat.blt (1+j.toNat*1) (t.cs).length)=true∧(decide (0≤j)&&decide (j<6))=true∧(AC.isB ((u.cs)[1+j.toNat*1]?.getD (.b false))&&Nat.blt (1+j.toNat*1) (u.cs).length)=true∧(pe (.c (.b (AC.asB ((t.cs)[1+j.toNat*1]?.getD (.b false)))))=pe (.c (.b ((t.s).get j.toNat))))∧(pe (.c (.b (AC.asB ((u.cs)[1+j.toNat*1]?.getD (.b false)))))=pe (.c (.b ((u.s).get j.toNat))))∧Kn.Low (zc3 t u b (IntKind.i64.wrap (j+1)))∧AR 32 Tryz.f32 (cx w β n []) 0 (zc3 t u b (IntKind.i64.wrap (j+1))) (REff w β E))
  (l2:((t.s).get j.toNat)=false→(decide (j<6))=true∧(decide (0≤j)&&decide (j<6))=true∧(AC.isB ((t.cs)[1+j.toNat*1]?.getD (.b false))&&Nat.blt (1+j.toNat*1) (t.cs).length)=true∧(pe (.c (.b (AC.asB ((t.cs)[1+j.toNat*1]?.getD (.b false)))))=pe (.c (.b ((t.s).get j.toNat))))∧Kn.Low (zc3 t u b (IntKind.i64.wrap (j+1)))∧AR 32 Tryz.f32 (cx w β n []) 0 (zc3 t u b (IntKind.i64.wrap (j+1))) (REff w β E)) :
  AR 32 Tryz.f32 (cx w β n []) 0 (zc3 t u b j) (REff w β E) :=
 (tf ((t.s).get j.toNat)).elim (fun h0=>(tf ((u.s).get j.toNat)).elim (fun h1=>(match l0 h0 h1 with | ⟨o0,o1,o2,o3,o4,o5,o6,o7,o8,o9,o10,o11,o12,c0,c1,c2,c3,c4,c5,c6,lo,z⟩=>yaej (zaa o0 (zaa o1 (zaa o2 (zaa h0 (zaa o3 (zaa o4 (zaa h1 (zaa o5 (zaa o6 (zaa o7 (zaa o8 (zaa o9 (zaa o10 (zaa o11 (zaa o12 rfl))))))))))))))) c0 c1 c2 c3 c4 c5 c6 lo (fun _ hk=>Nat.lt_of_lt_of_le hk hn) z)) (fun h1=>(match l1 h0 h1 with | ⟨o0,o1,o2,o3,o4,c0,c1,lo,z⟩=>yadr (zaa o0 (zaa o1 (zaa o2 (zaa h0 (zaa o3 (zaa o4 (zaa (zad h1) rfl))))))) c0 c1 lo (fun _ hk=>Nat.lt_of_lt_of_le hk hn) z))) (fun h0=>(match l2 h0 with | ⟨o0,o1,o2,c0,lo,z⟩=>yafi (zaa o0 (zaa o1 (zaa o2 (zaa (zad h0) rfl)))) c0 lo (fun _ hk=>Nat.lt_of_lt_of_le hk hn) z))
theorem yapl :
  AR 32 Tryz.f32 (cx w β n []) 0 (zc3 t u b 6) (REff w β ⟨.ag b.cs,[],none⟩) :=
 zah [] none [false] ([true]) [] Tryz.func32 (zau rfl n) (by kernel_rfl) rfl zae
end
theorem yadp {a b:V4} (ha:a.ok=true) (hb:b.ok=true):Ok 84 [.ag a.cs,.ag b.cs] (.ag (a.join b).cs):=by
 have h1:Ok 130 [.ag [.u a.v,.u a.m],.ag [.u b.v,.u b.m]] (.ag [.u (jV a.v a.m b.v b.m),.u (jM a.v a.m b.v b.m)]):=by
  refine okc (A:=#[Bt a.v a.m,Bt b.v b.m]) (V:=Bt (jV a.v a.m b.v b.m) (jM a.v a.m b.v b.m)) (fun w=>?_) (fun _=>rfl) (fun _=>rfl) rfl
  have hj:=zvf a.v a.m b.v b.m w
  rw [(yakb (zng (V4.rt_of ha) (V4.rt_of hb))).1,(yakb (zng (V4.rt_of ha) (V4.rt_of hb))).2] at hj
  exact hj
 have hf:=(zko ha hb).1
 have h2:=zdp (a:=a.rawJoin b) ((zea _ _).2 (zkf a.v a.m b.v b.m))
 unfold V4.norm at h2
 rw [if_pos (show (a.rawJoin b).nok=true from hf)] at h2
 exact zze h1 h2
theorem yahf:Ok 30 [] (.ag beginS.cs):=yai8 (a:=V4.any) zt2
abbrev rjKn (t u b:St) (j:Int):Kn:=⟨[(2,.c (.w 0)),(3,.c (.w 1)),(4,.c (.w 2)),(5,.c (.w 10)),(6,.c (.i j))],[(0,⟨true,t.cs,0⟩),(1,⟨true,u.cs,0⟩),(2,⟨true,St.z.cs,0⟩),(10,⟨true,b.cs,0⟩)],11⟩
theorem yaqh {t u:St} (ht:t.Ok) (hu:u.Ok) {w:World} {β:Bs}:∀ n,n≤6→∀ b:St,
  ART Tryz.prog 32 (cx w β 0 []) Tryz.f32.ntmps (zdk Tryz.f32 0) (rjKn t u b (6 - n:Nat)) (REff w β ⟨.ag (zcy t u n b).cs,[],none⟩)
 | 0,_,b=>yapl
 | n+1,hn,b=>by
  have hj:=zn8 hn
  have ej:=zog hn
  have hlt:5 - n<6:=by omega
  have f0:=zv3 hj
  have f1:=zw3 t hj
  have f2:(decide (0≤((6 - (n+1):Nat):Int))&&decide (((6 - (n+1):Nat):Int)<6))=true:=hj
  have f3:=zw3 u hj
  have f4:=zbe t hj
  have f5:=zbe u hj
  have f6:=zn2 t hj
  have f7:=zn2 u hj
  have f8:=zax t hj
  have f9:=zax u hj
  have next:∀ b':St,zhx t u (5 - n) b=b'→ART Tryz.prog 32 (cx w β 0 []) Tryz.f32.ntmps (zdk Tryz.f32 0) (rjKn t u b' (IntKind.wrap IntKind.i64 (((6 - (n+1):Nat):Int)+1))) (REff w β ⟨.ag (zcy t u (n+1) b).cs,[],none⟩):=by
   intro b' hb
   rw [zjf hn,zcy,hb]
   exact yaqh ht hu n (by omega) b'
  have hJ:t.s.get ((6 - (n+1):Nat):Int).toNat=true→u.s.get ((6 - (n+1):Nat):Int).toNat=true→Ok 84 [.ag (t.r.get ((6 - (n+1):Nat):Int).toNat).cs,.ag (u.r.get ((6 - (n+1):Nat):Int).toNat).cs] (.ag ((t.r.get ((6 - (n+1):Nat):Int).toNat).join (u.r.get ((6 - (n+1):Nat):Int).toNat)).cs):=fun a d=>by
   rw [ej] at a d ⊢
   exact yadp (ht.set _ hlt a) (hu.set _ hlt d)
  have g1:(Nat.ble (1+Int.toNat ((6 - (n+1):Nat):Int)*1+1) (List.length (St.cs b))&&true)=true :=
   zcb (P:=fun j=>(Nat.ble (1+Int.toNat j*1+1) (List.length (St.cs b))&&true)=true) hj rfl rfl rfl rfl rfl rfl
  have g2:∀ (b:St) (a:V4),(Nat.ble (7+Int.toNat ((6 - (n+1):Nat):Int)*4+List.length (V4.cs a)) (List.length (St.cs b))&&true)=true:=fun b a =>
   zcb (P:=fun j=>(Nat.ble (7+Int.toNat j*4+List.length (V4.cs a)) (List.length (St.cs b))&&true)=true) hj rfl rfl rfl rfl rfl rfl
  have g3:Eff.mk (AV.raw undef) [(10,List.set (St.cs b) (1+Int.toNat ((6 - (n+1):Nat):Int)*1) (AC.b true))] none=Eff.mk (AV.raw undef) [(10,St.cs (St.mk (St.live b) (V6.set (St.s b) (Int.toNat ((6 - (n+1):Nat):Int)) true) (St.r b)))] none:=by rw [zsu hj]
  have g4:∀ (b:St) (a:V4),Eff.mk (AV.raw undef) [(10,splice (St.cs (St.mk (St.live b) (V6.set (St.s b) (Int.toNat ((6 - (n+1):Nat):Int)) true) (St.r b))) (7+Int.toNat ((6 - (n+1):Nat):Int)*4) (V4.cs a))] none=Eff.mk (AV.raw undef) [(10,St.cs (St.wth b (Int.toNat ((6 - (n+1):Nat):Int)) a))] none:=fun b a=>by rw [zsm a hj];rfl
  refine zyy (a:=(t.r.get ((6 - (n+1):Nat):Int).toNat).join (u.r.get ((6 - (n+1):Nat):Int).toNat)) (by omega) (fun a d=>?_) (fun a d=>?_) (fun a=>?_)
  ·refine ⟨f0,f2,f1,f2,f3,f2,g1,f2,f4,f2,f5,f2,g2 _ _,f6,f7,g3,f8,f9,hJ a d,g4 _ _,zc8 rfl,?_⟩
   refine next (b.wth ((6 - (n+1):Nat):Int).toNat ((t.r.get ((6 - (n+1):Nat):Int).toNat).join (u.r.get ((6 - (n+1):Nat):Int).toNat))) ?_
   rw [ej] at a d ⊢
   unfold zhx;rw [a,d];rfl
  ·repeat' apply And.intro
   all_goals first | assumption | exact zc8 rfl | exact next b (by rw [ej] at a d;unfold zhx;rw [a,d];rfl)
  ·repeat' apply And.intro
   all_goals first | assumption | exact zc8 rfl | exact next b (by rw [ej] at a;unfold zhx;rw [a];rfl)
theorem znz {t u:St} (ht:t.Ok) (hu:u.Ok):Ok 32 [.ag t.cs,.ag u.cs] (.ag (t.join u).cs):=by
 refine zk5 Tryz.func32 rfl rfl rfl rfl fun w β=>?_
 unfold St.join
 refine yajf (Nat.zero_le 11) (fun a=>?_) (fun a b=>?_) (fun a b=>⟨zc8 rfl,?_⟩)
 ·rw [if_neg (by simpa using a)]
 ·rw [if_pos (by simpa using a),if_neg (by simpa using b)]
 ·rw [if_pos (by simpa using a),if_pos (by simpa using b)]
  exact yaqh ht hu 6 (Nat.le_refl 6) St.e
section
abbrev znn (L:List Ins) (c j:Nat) (S:List St):Kn:=⟨[(2,.c (.w 1)),(5,.c (.sl 10 0 L.length L.length)),(24,.c (.sl 0 0 L.length c)),(25,.c (.i (L.length:Int))),(26,.c (.i (j:Int)))],[(0,Ent.mk false (pcell L) 0),(1,Ent.mk true [.i 0,.i 0,zco] 0),(10,Ent.mk true (scell S) 0)],11⟩
variable {S S1 S2:List St} {q c n j:Nat} {k e tr g:Int} {t j1 b a:St} {w:World} {β:Bs} {E:Eff} {L:List Ins} {C:Cx} {R:Ending→World→Prop}
theorem yavn (h:(t.live&&(decide (0≤k)&&decide (k<(q:Int))&&(Nat.ble (0+k.toNat*31+31) (scell S).length&&(decide (0≤k)&&decide (k<(q:Int))&&(Nat.ble (0+k.toNat*31+(j1.cs).length) (scell S).length&&true&&true)))))=true) (c0:pe (.ag (((scell S).drop (0+k.toNat*31)).take 31))=pe (.ag (stAt S k.toNat).cs)) (c1:Ok 59 [.ag (stAt S k.toNat).cs,.ag t.cs] (.tu [.ag j1.cs,.c (.i e)])) (c2:we 0 (splice (scell S) (0+k.toNat*31) j1.cs)=we 0 (scell (S.set k.toNat j1))) (hk:EKeys n [0] none ⟨.tu [],[(0,scell (S.set k.toNat j1))],none⟩) :
  BO 23 Tryz.f23 (cx w β n [0]) [.c (.sl 0 0 q c),.c (.i k),.ag t.cs] [(0,Ent.mk true (scell S) 0)] 1 (REff w β ⟨.tu [],[(0,scell (S.set k.toNat j1))],none⟩) :=
 zah [0] none [true] ([]) [(2,5),(2,12)] Tryz.func23 hk (by kernel_rfl) h (zac c0 (zab c1 (zac c2 zae)))
theorem yar9 (h:(!t.live&&true)=true) (hk:EKeys n [0] none ⟨.tu [],[(0,scell S)],none⟩) :
  BO 23 Tryz.f23 (cx w β n [0]) [.c (.sl 0 0 q c),.c (.i k),.ag t.cs] [(0,Ent.mk true (scell S) 0)] 1 (REff w β ⟨.tu [],[(0,scell S)],none⟩) :=
 zah [0] none [false] ([]) [(2,5),(2,12)] Tryz.func23 hk (by kernel_rfl) h zae
theorem yann
  (l0:t.live=true→(decide (0≤k)&&decide (k<(q:Int)))=true∧(Nat.ble (0+k.toNat*31+31) (scell S).length)=true∧(decide (0≤k)&&decide (k<(q:Int)))=true∧(Nat.ble (0+k.toNat*31+(j1.cs).length) (scell S).length&&true)=true∧(pe (.ag (((scell S).drop (0+k.toNat*31)).take 31))=pe (.ag (stAt S k.toNat).cs))∧(Ok 59 [.ag (stAt S k.toNat).cs,.ag t.cs] (.tu [.ag j1.cs,.c (.i e)]))∧(we 0 (splice (scell S) (0+k.toNat*31) j1.cs)=we 0 (scell (S.set k.toNat j1)))∧EKeys n [0] none ⟨.tu [],[(0,scell (S.set k.toNat j1))],none⟩∧((⟨.tu [],[(0,scell (S.set k.toNat j1))],none⟩:Eff)=E))
  (l1:t.live=false→EKeys n [0] none ⟨.tu [],[(0,scell S)],none⟩∧((⟨.tu [],[(0,scell S)],none⟩:Eff)=E)) :
  BO 23 Tryz.f23 (cx w β n [0]) [.c (.sl 0 0 q c),.c (.i k),.ag t.cs] [(0,Ent.mk true (scell S) 0)] 1 (REff w β E) :=
 (tf t.live).elim (fun h0=>(match l0 h0 with | ⟨o0,o1,o2,o3,c0,c1,c2,hk,e⟩=>za5 (yavn (zaa h0 (zaa o0 (zaa o1 (zaa o2 (zaa o3 rfl))))) c0 c1 c2 hk) e)) (fun h0=>(match l1 h0 with | ⟨hk,e⟩=>za5 (yar9 (zaa (zad h0) rfl) hk) e))
theorem yaup (h:(!e != 0&&(decide ((L.length:Int)≤(L.length:Int))&&decide ((L.length:Int)≤1099511627776)&&true&&(decide (0<(L.length:Int))&&(Nat.ble (0+(b.cs).length) (scell (List.replicate L.length St.z)).length&&true&&true))))=true) (c0:CO 19 [.c (.sl 0 0 L.length c)] [(0,Ent.mk false (pcell L) 0)] (pe (.c (.i e)))) (c1:Eff.mk (.c (.sl 10 0 (L.length:Int).toNat (L.length:Int).toNat)) [] (some (1+2+3+2+2,Ent.mk true (rows (L.length:Int).toNat St.z.cs) 0))=Eff.mk (.c (.sl 10 0 L.length L.length)) [] (some (10,Ent.mk true (scell (List.replicate L.length St.z)) 0))) (c2:Ok 20 [] (.ag b.cs)) (c3:we 10 (splice (scell (List.replicate L.length St.z)) 0 b.cs)=we 10 (scell ((List.replicate L.length St.z).set 0 b))) (lo:Kn.Low ⟨[(2,.c (.w 1)),(5,.c (.sl 10 0 L.length L.length)),(24,.c (.sl 0 0 L.length c)),(25,.c (.i (L.length:Int))),(26,.c (.i 0))],[(0,Ent.mk false (pcell L) 0),(1,Ent.mk true [.i 0,.i 0,zco] 0),(10,Ent.mk true (scell ((List.replicate L.length St.z).set 0 b)) 0)],11⟩) (hF:∀ k,C.F k→k<11) (z:AR 8 Tryz.f8 C 0 ⟨[(2,.c (.w 1)),(5,.c (.sl 10 0 L.length L.length)),(24,.c (.sl 0 0 L.length c)),(25,.c (.i (L.length:Int))),(26,.c (.i 0))],[(0,Ent.mk false (pcell L) 0),(1,Ent.mk true [.i 0,.i 0,zco] 0),(10,Ent.mk true (scell ((List.replicate L.length St.z).set 0 b)) 0)],11⟩ R) :
  BO 8 Tryz.f8 C [.c (.sl 0 0 L.length c)] [(0,Ent.mk false (pcell L) 0)] 1 R :=
 zai [false] ([true]) [(4,2),(5,3)] Tryz.func8 (by kernel_rfl) h (zab c0 (zac c1 (zab c2 (zac c3 zae)))) lo hF z
theorem yanf (h:(decide ((j:Int)<(L.length:Int))&&(decide ((j:Int)<(L.length:Int))&&(Nat.ble (0+(j:Int).toNat*5+5) (pcell L).length&&(decide ((j:Int)<(L.length:Int))&&(Nat.ble (0+(j:Int).toNat*31+31) (scell S).length&&(tr != 0&&(decide ((↑(j+1):Int)≤(L.length:Int))&&decide ((L.length:Int)≤(L.length:Int))&&true)))))))=true) (c0:pe (.ag (((pcell L).drop (0+(j:Int).toNat*5)).take 5))=pe (.ag (elt L j).cs)) (c1:pe (.ag (((scell S).drop (0+(j:Int).toNat*31)).take 31))=pe (.ag (stAt S j).cs)) (c2:Ok 21 [.ag (elt L j).cs,.ag (stAt S j).cs] (.tu [.ag a.cs,.ag b.cs,.c (.i tr),.c (.i g)])) (c3:pe (.c (.i (IntKind.i64.wrap ((j:Int)+1))))=pe (.c (.i (↑(j+1):Int)))) (c4:pe (.c (.sl 10 0 ((↑(j+1):Int)).toNat ((L.length:Int)).toNat))=pe (.c (.sl 10 0 (j+1) L.length))) (c5:CO 22 [.c (.sl 10 0 (j+1) L.length)] [(10,Ent.mk true (scell S) 0)] (Eff.mk (.c (.sx 43 (j+1))) [] (some (43,Ent.mk true (scell (S.take (j+1))) 31)))) (hk:EKeys n [] (some 43) ⟨.tu [.ag [.i tr,.i (j:Int),.sx 43 (j+1)],.c (.i 0)],[],some (43,Ent.mk true (scell (S.take (j+1))) 31)⟩) :
  AR 8 Tryz.f8 (cx w β n []) 0 (znn L c j S) (REff w β ⟨.tu [.ag [.i tr,.i (j:Int),.sx 43 (j+1)],.c (.i 0)],[],some (43,Ent.mk true (scell (S.take (j+1))) 31)⟩) :=
 zah [] (some 43) [true,true] ([true]) [(8,2),(9,4),(11,4),(11,5)] Tryz.func8 hk (by kernel_rfl) h (zac c0 (zac c1 (zab c2 (zac c3 (zac c4 (zab c5 zae))))))
theorem yakv (h:(decide ((j:Int)<(L.length:Int))&&(decide ((j:Int)<(L.length:Int))&&(Nat.ble (0+(j:Int).toNat*5+5) (pcell L).length&&(decide ((j:Int)<(L.length:Int))&&(Nat.ble (0+(j:Int).toNat*31+31) (scell S).length&&(!tr != 0&&true))))))=true) (c0:pe (.ag (((pcell L).drop (0+(j:Int).toNat*5)).take 5))=pe (.ag (elt L j).cs)) (c1:pe (.ag (((scell S).drop (0+(j:Int).toNat*31)).take 31))=pe (.ag (stAt S j).cs)) (c2:Ok 21 [.ag (elt L j).cs,.ag (stAt S j).cs] (.tu [.ag a.cs,.ag b.cs,.c (.i tr),.c (.i g)])) (c3:pe (.c (.i (IntKind.i64.wrap ((j:Int)+1))))=pe (.c (.i (↑(j+1):Int)))) (c4:CO 23 [.c (.sl 10 0 L.length L.length),.c (.i (↑(j+1):Int)),.ag a.cs] [(10,Ent.mk true (scell S) 0)] (Eff.mk (.tu []) [(10,scell S1)] none)) (c5:pe (.c (.i (IntKind.i64.wrap ((j:Int)+1))))=pe (.c (.i (↑(j+1):Int)))) (c6:pe (.c (.i (IntKind.i64.wrap ((↑(j+1):Int)+(elt L j).of))))=pe (.c (.i ((↑(j+1):Int)+(elt L j).of)))) (c7:CO 23 [.c (.sl 10 0 L.length L.length),.c (.i ((↑(j+1):Int)+(elt L j).of)),.ag b.cs] [(10,Ent.mk true (scell S1) 0)] (Eff.mk (.tu []) [(10,scell S2)] none)) (c8:pe (.c (.i (IntKind.i64.wrap ((j:Int)+1))))=pe (.c (.i (↑(j+1):Int)))) (lo:Kn.Low (znn L c (j+1) S2)) (hF:∀ k,C.F k→k<11) (z:AR 8 Tryz.f8 C 0 (znn L c (j+1) S2) R) :
  AR 8 Tryz.f8 C 0 (znn L c j S) R :=
 zai [true,false] ([true]) [(8,2),(9,4),(12,2),(13,2),(13,5),(14,0)] Tryz.func8 (by kernel_rfl) h (zac c0 (zac c1 (zab c2 (zac c3 (zab c4 (zac c5 (zac c6 (zab c7 (zac c8 zae))))))))) lo hF z
theorem yauw (h:(!decide ((j:Int)<(L.length:Int))&&true)=true) (hk:EKeys n [] (some 10) ⟨.tu [.ag [.i 0,.i 0,.sl 10 0 L.length L.length],.c (.i 0)],[],some (10,Ent.mk true (scell S) 0)⟩) :
  AR 8 Tryz.f8 (cx w β n []) 0 (znn L c j S) (REff w β ⟨.tu [.ag [.i 0,.i 0,.sl 10 0 L.length L.length],.c (.i 0)],[],some (10,Ent.mk true (scell S) 0)⟩) :=
 zah [] (some 10) [false] ([true]) [] Tryz.func8 hk (by kernel_rfl) h zae
end
section
variable {S:List St} {q c n:Nat} {w:World} {β:Bs} {L:List Ins}
theorem yai3 (h:(Nat.ble (0+q*31) (scell S).length&&(decide (0+q≤137438953472)&&decide (0<0+q))&&true)=true) (c0:Eff.mk (.c (.sx 6 (0+q))) [] (some (1+1+2+2,Ent.mk true (((rows 0 St.z.cs).drop 0).take 0++((scell S).drop 0).take (q*31)) 31))=Eff.mk (.c (.sx 6 q)) [] (some (6,Ent.mk true (scell (S.take q)) 31))) (hk:EKeys n [] (some 6) ⟨.c (.sx 6 q),[],some (6,Ent.mk true (scell (S.take q)) 31)⟩) :
  BO 22 Tryz.f22 (cx w β n []) [.c (.sl 0 0 q c)] [(0,Ent.mk false (scell S) 0)] 1 (REff w β ⟨.c (.sx 6 q),[],some (6,Ent.mk true (scell (S.take q)) 31)⟩) :=
 zah [] (some 6) [false] ([]) [(3,2)] Tryz.func22 hk (by kernel_rfl) h (zac c0 zae)
theorem yahw (h:(Nat.ble (0+L.length*5) (pcell L).length&&(decide (0+L.length≤137438953472)&&decide (0<0+L.length))&&true)=true) (c0:Eff.mk (.c (.sx 6 (0+L.length))) [] (some (1+1+2+2,Ent.mk true (((rows 0 [.i 0,.i 0,.i 0,.u 0#64,.i 0]).drop 0).take 0++((pcell L).drop 0).take (L.length*5)) 5))=Eff.mk (.c (.sx 6 L.length)) [] (some (6,Ent.mk true (pcell L) 5))) (hk:EKeys n [] (some 6) ⟨.c (.sx 6 L.length),[],some (6,Ent.mk true (pcell L) 5)⟩) :
  BO 114 Tryz.f114 (cx w β n []) [.c (.sl 0 0 L.length c)] [(0,Ent.mk false (pcell L) 0)] 1 (REff w β ⟨.c (.sx 6 L.length),[],some (6,Ent.mk true (pcell L) 5)⟩) :=
 zah [] (some 6) [false] ([]) [(3,2)] Tryz.func114 hk (by kernel_rfl) h (zac c0 zae)
end
end Go.Proofs.YtkigmocchaikgabGreatDoor
