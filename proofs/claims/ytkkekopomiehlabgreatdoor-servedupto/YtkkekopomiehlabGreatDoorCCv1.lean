import Derived.Test.YtkkekopomiehlabGreatDoorCLn1
import Derived.Lib.ConvBytes
import Derived.Laws.IdiomStrings
set_option linter.unusedVariables false
set_option linter.unusedSimpArgs false
set_option maxHeartbeats 40000000
open Go.RowKit
set_option maxRecDepth 4000
namespace Go.Proofs.YtkkekopomiehlabGreatDoor
theorem zum (w:World)(e:TypeId)(s:ByteArray):Below w.heap.size w (Lib.bytesWorld w e s) :=
 ⟨rfl,rfl,rfl,by rw[Lib.bytesWorld_size];omega,fun k hk=>Lib.bytesWorld_at_old w e s k hk⟩
theorem yaek {P:Program}{ops:Array Oper}{rest:List Oper}{o:Oper}{a:Act}{w:World}{Q:Exit->Act->World->Prop}(hgd:o.guard=none)(src dst e:TypeId)(x:Operand)(ho:o.op=.convert src dst x)(s:ByteArray)(hx:a.eval x=.string s){u:TypeDesc}(hs:P.underlying src=some u)(hd:P.underlying dst=some (.slice e))(he:P.underlying e=some (.int .u8))
  (h:∀ c w',Below w.heap.size w w'->w'.heap.size=w.heap.size+1->(∀ j (hj:j<s.data.toList.length),w'.cell? ⟨w.heap.size,j,none⟩=some (.int .u8 (s.data.toList[j].toNat:Int)))->wpList P ops Q rest (a.put o.dst (.slice (some ⟨w.heap.size,0,none⟩) s.size c)) w'):wpList P ops Q (o::rest) a w:=by
 refine wpList_plain hgd fun K hK=>?_;unfold Oper.wp execOp;simp only[ho,hx,Sem.run_bind,Lib.run_convert_string_bytes w src dst e s hs hd he,Result.andThen_ok,Sem.run_pure];refine hK _ _ (h _ _ (zum w e s) (Lib.bytesWorld_size w e s) fun j hj=>?_);rw[Lib.bytesWorld_cell w e s j (by simpa using hj),List.getD_eq_getElem?_getD,List.getElem?_eq_getElem hj];rfl
theorem yael {P:Program}{ops:Array Oper}{rest:List Oper}{o:Oper}{a:Act}{w:World}{Q:Exit->Act->World->Prop}(hgd:o.guard=none)(src dst e:TypeId)(x:Operand)(ho:o.op=.convert src dst x)(s:ByteArray)(g c:Nat)(hx:a.eval x=.slice (some ⟨g,0,none⟩) s.size c)(hs:P.underlying src=some (.slice e))(hd:P.underlying dst=some .string)(he:P.underlying e=some (.int .u8))
  (hc:∀ j (hj:j<s.data.toList.length),w.cell? ⟨g,j,none⟩=some (.int .u8 (s.data.toList[j].toNat:Int)))
  (h:wpList P ops Q rest (a.put o.dst (.string s)) w):wpList P ops Q (o::rest) a w:=by
 refine wpList_plain hgd fun K hK=>?_;have hr:=run_convert_bytes_back (P:=P) w src dst e ⟨g,0,none⟩ c s.data.toList hs he hd (fun j hj=>by
  have:=hc j hj;rw[show (⟨g,0,none⟩:Addr).add j=⟨g,j,none⟩ by
   unfold Addr.add;by_cases h0:j=0
   ·subst h0;rfl
   ·rw[if_neg h0];simp]
  exact this)
 have hz:s.data.toList.length=s.size:=by rw[Array.length_toList];rfl
 have he2:(⟨s.data.toList.toArray⟩:ByteArray)=s:=by cases s;rfl
 rw[hz,he2]at hr;unfold Oper.wp execOp;simp only[ho,hx,Sem.run_bind,hr,Result.andThen_ok,Sem.run_pure];exact hK _ _ h
end Go.Proofs.YtkkekopomiehlabGreatDoor
