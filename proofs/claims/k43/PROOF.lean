import PyProof.Rows.All
import Wide.All
import OpenK.AllK
import Wide.FinOn
import Lean
import PyProof.EqAt
import PyProof.EqKinds
import PyProof.TupleCall
import PyProof.CompUse
import PyProof.P3Eq
import PyProof.NeData
import PyProof.P3In
import PyProof.EnumMake
import PyProof.Draws
import PyProof.ConsumeWalk
import PyProof.Rows.SetFrom
import PyProof.SetRoads
import PyProof.Rows.SortWalk
import PyProof.ListRange
import PyProof.WalksMore
import KE.KSortTup
import KE.KSortKey
import KE.KLam
import KE.KNestM
import PySem.Challenge.RW_handnames_k43_types_of_one_round
set_option Elab.async false
set_option linter.all false
set_option bootstrap.genMatcherCode false
set_option maxRecDepth 100000
set_option maxHeartbeats 4000000
namespace PySem.W.Fast
def tw17285056135929971136:=0
def tw3984603304941760770:=0
def tw5677441954078217797:=0
def tw10423416258054345385:=0
def tw10292159731393226697:=0
def tw7301951714948228586:=0
def tw370257183001088688:=0
def tw16218447169328426726:=0
def tw9165536419776403329:=0
def tw15087109062947318060:=0
def tw15206411838541420851:=0
def tw17393519776502707189:=0
def tw5450555875812833357:=0
def tw7776125384636739556:=0
def tw9234118692822973806:=0
def tw10192661496476174502:=0
def tw15891662233570742755:=0
def tw6937709168458462576:=0
def tw8997623510662562142:=0
def tw14220632468951677493:=0
def tw3222557230975288183:=0
def tw4096381526080461200:=0
def tw2067917320267397106:=0
def tw9919482124842102514:=0
def tw16209336808087891074:=0
def tw13384162789763231732:=0
def tw10949515587365437075:=0
def tw11275983506883445729:=0
def tw8690295296148924423:=0
def tw13920158260409551475:=0
def tw14305022379797524476:=0
def tw17367060187136227468:=0
def tw2060278213862771085:=0
def tw13544561792982883437:=0
def tw2414992683601626152:=0
def tw2605435061011035688:=0
def tw5072533541870398713:=0
def tw665320061716176471:=0
def tw3316187067887545981:=0
def tw17740151354834422046:=0
def tw13832034625422275085:=0
def tw8770990231501438305:=0
def tw10899424003534960582:=0
def tw16336719846056893091:=0
def tw9000151704012399497:=0
def tw9346053572433500108:=0
def tw8853168118692969044:=0
def tw2077592993396847486:=0
def tw11403785423384036653:=0
def tw5430923283708568724:=0
def tw15593407848975999860:=0
def tw16025458675129322240:=0
def tw3940685287863243861:=0
def tw6107489445494557847:=0
def tw5052802003141072037:=0
def tw9042202057769466007:=0
def tw6275729926953485828:=0
def tw6314144401931508217:=0
def tw6159774209900696189:=0
def tw3386745921015284856:=0
def tw2376865346899503542:=0
def tw11028175413289006140:=0
def tw2765346763206452160:=0
def tw15819788286845230026:=0
def tw5919825076531660166:=0
def tw369015964251708636:=0
def tw17239750811428068672:=0
def tw18181651029009058695:=0
def tw6141928772389288058:=0
def tw4009648190200190179:=0
def tw11417304613922126182:=0
def tw18069358855899370091:=0
def tw17044219828832528136:=0
def tw5126739110465112989:=0
def tw5721164378677367406:=0
def tw9031985628483079523:=0
def tw1047658699671413947:=0
def tw17166051661952317232:=0
def tw9781648111400177187:=0
def tw10871169985888962898:=0
def tw15795328286085025856:=0
def tw8561901756237644916:=0
def tw7880351517843528748:=0
def tw18299068538294711036:=0
def tw18032448987402322197:=0
end PySem.W.Fast
local macro_rules (kind:=Lean.Parser.Command.declaration)
|s=>do
 if (s[1].isOfKind ``Lean.Parser.Command.definition||s[1].isOfKind ``Lean.Parser.Command.abbrev)&&s[0].getArgs.all (·.isNone) then return s.setArg 0 (<-`(command|noncomputable def x:=0)).raw[0]
 else Lean.Macro.throwUnsupported
def Ag:=@PySem.wpAny_bind
def Ah:=@PySem.wpAny_pure
def Ai:=@PySem.Heap.get?_push_of_some
def Aj:=@List.getElem?_eq_getElem
def Ak:=@List.length_map
def Al:=@Bool.and_eq_true
def Am:=@PySem.Heap.get?_push_size
def An:=@List.size_toArray
def Ao:=@PySem.Heap.lt_size
def Ap:=@Nat.le_refl
def Aq:=@List.getElem?_append_left
def Ar:=@Nat.ne_of_lt
def As:=@List.getElem?_eq_some_iff
def At:=@Bool.false_ne_true
def Au:=@List.mem_append_right
def Av:=@List.mem_cons_self
def Aw:=@List.getD_eq_getElem?_getD
def Ax:=@Array.length_toList
def Ay:=@List.length_append
def Az:=@decide_eq_true_eq
def AA:=@List.mem_cons
def AB:=@Nat.lt_of_lt_of_le
def AC:=@List.mem_cons_of_mem
def AD:=@PySem.sizeLine_eq
def AE:=@Option.isNone_iff_eq_none
def AF:=@Nat.lt_succ_self
def AG:=@List.getElem?_map
def AH:=@List.mem_range
def AI:=@PySem.wpAny_mono
def AJ:=@PySem.wpAny_holding
def AK:=@PySem.wpAny_newObj_type
def AL:=@List.getElem?_append_right
def AM:=@Nat.lt_succ_of_lt
def AN:=@List.length_range
def AO:=@List.take_succ_eq_append_getElem
def AQ:=@List.all_eq_true
def AR:=@Option.some.inj
def AS:=@List.mem_of_getElem?
def AT:=@List.getElem?_eq_none
def AU:=@List.mem_singleton
def AV:=@List.getElem?_set_ne
def AW:=@List.map_cons
def AX:=@PyProof.Rows.callWith_type1
def AY:=@PySem.wpAny_call_entry
def AZ:=@List.findIdx?_eq_some_iff_getElem
def Ba:=@List.getElem_mem
def Bb:=@decide_eq_true
def Bc:=@PySem.wpAny_Call_Name_kw
def Bd:=@PySem.Heap.get?_update_self
def Be:=@Array.getElem?_toList
def Bf:=@decide_eq_false
def Bg:=@List.length_cons
def Bh:=@Array.getElem?_eq_getElem
def Bi:=@List.getElem?_set_self
def Bj:=@Nat.zero_le
def Bk:=@Nat.le_trans
def Bl:=@Nat.le_succ
def Bm:=@PySem.lookup_relabel_local
def Bn:=@List.mem_append
def Bo:=@List.length_take
def Bp:=@PySem.Heap.SameBut.update
def Bq:=@List.set_append_right
def Br:=@Option.isSome_iff_exists
def Bs:=@List.append_nil
def Bt:=@PySem.codeAny_builtin
def Bu:=@PySem.Calls.spliced_cons
def Bv:=@PySem.wpAny_callSpecial?_slot
def Bw:=@PySem.F.plainAttrs_list
def Bx:=@PySem.Around.under_plainId
def By:=@List.mem_flatMap
def Bz:=@PySem.Calls.spliced_nil
def BA:=@PySem.Heap.get?_update_other
def BB:=@List.append_assoc
def BC:=@of_decide_eq_true
def BD:=@Int.toNat_natCast
def BE:=@Bool.not_eq_true'
def BF:=@List.nodup_iff_pairwise_ne
def BG:=@List.map_append
def BH:=@PyProof.Rows.slot_tuple_getitem
def BI:=@List.pairwise_cons
def BJ:=@Bool.false_eq_true
def BK:=@Nat.lt_irrefl
def BL:=@List.all_cons
def BM:=@List.mem_map
def BN:=@List.flatten_cons
def BO:=@PySem.W.kia_one
def BP:=@List.replicate_succ
def BQ:=@PyProof.Rows.F.plain_set_update_loop
def BR:=@List.mem_map_of_mem
def BS:=@PySem.wpAny_rule
def BU:=@PyProof.Rows.listItems_at
def BV:=@List.nodup_cons
def BW:=@List.find?_cons
def BX:=@PySem.codeAny_mono
def BY:=@Array.toArray_toList
def BZ:=@PySem.wpAny_setState_of
def Ca:=@PySem.call_meets
def Cb:=@List.length_erase_of_mem
def Cc:=@PySem.mem_of_lookup
def Cd:=@PySem.wpAny_setEntries_of
def Ce:=@List.flatten_append
def Cg:=@PySem.Heap.size_push
def Ch:=@PySem.wpAny_setField
def Ci:=@List.length_eq_zero_iff
def Cj:=@PySem.F.plain_list_iadd
def Ck:=@Nat.le_of_lt
def Cm:=@PySem.wpAny_typeOf
def Cn:=@PySem.Calls.callWith_builtin
def Co:=@Option.map_eq_some_iff
def Cp:=@List.take_of_length_le
def Cq:=@List.range_succ
def Cr:=@PySem.wpAny_standAt
def Cs:=@PySem.wpAny_attempt
def Ct:=@PySem.wpAny_newList
def Cu:=@PyProof.Rows.listUpdate_at
def Cv:=@Option.some.injEq
def Cw:=@List.mem_iff_getElem
def Cy:=@List.mem_erase_of_ne
def Cz:=@List.perm_ext_iff_of_nodup
def CA:=@PySem.wpAny_askSetting
def CB:=@List.not_mem_nil
def CC:=@PySem.wpAny_isInstance
def CD:=@PySem.wpAny_binaryOp_repeat_ref
def CF:=@List.getElem?_eq_none_iff
def CG:=@PySem.Calls.call_function_entry
def CI:=@PyProof.Rows.F.entry_set_update_loop
def CJ:=@List.flatMap_append
def CK:=@PySem.F.args_tuple_add_2
def CL:=@PySem.wpAny_comprehension_free
def CM:=@PySem.wpAny_passesOwn
def CN:=@List.length_nil
def CO:=@Int.emod_lt_of_pos
def CP:=@PySem.wpAny_tupleItemsOf
def CQ:=@PySem.F.entry_tuple_add
def CS:=@PySem.wpAny_field
def CT:=@Nat.ne_of_gt
def CU:=@PySem.F.slot_tuple_add
def CV:=@PySem.codeAny_compStart_list
def CW:=@List.map_map
def CY:=@List.pairwise_map
def CZ:=@PySem.Heap.get?_push_ne
def Da:=@List.length_replicate
def Db:=@List.getElem?_toArray
def Dc:=@List.take_append_drop
def Dd:=@List.getElem_inj
def De:=@PyProof.Rows.callWith_builtin1
def Df:=@PySem.typeIs_int
def Dg:=@Nat.le_of_not_lt
def Dh:=@List.lookup_cons
def Di:=@PySem.Heap.size_update
def Dj:=@List.take_length
def Dk:=@List.mem_flatten
def Dl:=@PySem.plainId_quiet
def Dm:=@Bool.not_true
def Dn:=@PySem.Calls.evalArgs_plain
def Do:=@PySem.wpAny_newFunctionEnv
def Dp:=@List.mem_of_mem_tail
def Dq:=@Array.getElem_toList
def Dr:=@Bool.eq_iff_iff
def Ds:=@PyProof.Rows.entry_list_sort
def Dt:=@List.find?_some
def Du:=@Int.emod_nonneg
def Dv:=@PyProof.Rows.get?_update_seq
def Dw:=@List.filterMap_cons
def Dx:=@Int.toNat_of_nonneg
def Dy:=@List.getElem?_range
def Dz:=@PySem.Heap.get?_update_ne
def DA:=@List.length_reverse
def DB:=@List.filter_eq_self
def DC:=@List.map_congr_left
def DD:=@PyProof.Rows.slot_list_sort
def DE:=@PyProof.Rows.list_sort_tree
def DF:=@PyProof.Rows.args_list_sort
def DG:=@PySem.F.entry_proto_collect
def DH:=@PySem.F.plain_proto_collect
def DI:=@PyProof.Rows.IntsAre.int_at
def DJ:=@PySem.wpAny_richCompare_same_room
def DK:=@PySem.Calls.Name_function_global
def DL:=@PySem.wpAny_newFunctionEnv_cells
def DM:=@Nat.lt_of_le_of_lt
def DN:=@PySem.wpAny_runValue
def DO:=@PyProof.Rows.listUpdate_at
def DP:=@PySem.wpAny_fieldsOf
def DQ:=@PyProof.Rows.plain_sorted
def DR:=@PyProof.Rows.entry_sorted
def DS:=@PyProof.Rows.args_sorted1
def DT:=@List.findIdx?_eq_none_iff
def DU:=@PySem.F.slot_list_reverse
def DV:=@PySem.wpAny_truthy_bool
def DW:=@List.take_sublist
def DX:=@List.reverse_cons
def DY:=@PySem.wpAny_of_eq
def DZ:=@List.nodup_append
def Ea:=@Array.toList_push
def Eb:=@List.ext_getElem?
def Ec:=@PyProof.Rows.seqEpoch_at
def Ed:=@PyProof.Rows.tupleItemsOf_
def Ee:=@PyProof.Rows.kind_sorted
def Ef:=@PySem.F.slot_list_extend
def Eg:=@PySem.F.type_list_extend
def Eh:=@Bool.and_self
def Ei:=@PySem.noFill_tuple_add
def Ej:=@List.length_drop
def Ek:=@Option.bind_some
def El:=@PyProof.Rows.size_push'
def Em:=@PySem.F.entry_list_iadd
def En:=@Int.eq_ofNat_of_zero_le
def Eo:=@PySem.W.kat_cons
def Ep:=@PySem.W.kat_kind
def Er:=@List.mem_singleton_self
def Es:=@PySem.wpAny_call
def Et:=@PySem.intKind_is
def Eu:=@Int.ne_of_gt
def Ew:=@List.of_mem_zip
def Ey:=@List.nil_append
def Ez:=@List.forIn_cons
def EA:=@PySem.codeAny_of_tree
def EB:=@Bool.or_eq_true
def EC:=@PySem.isSubtype_type
def ED:=@PySem.wpAny_newTuple
def EE:=@if_false
def EF:=@PySem.rangeSize_one
def EG:=@PySem.seq_tuple_add
def EH:=@List.any_cons
def EJ:=@Prod.mk.injEq
def EK:=@PySem.wpAny_load
def EN:=@or_false
namespace L2
open PySem PySem.Spec PyProof.Rows
abbrev Key:=Sum Int Str
def Z6:Key->Value->Bool
 | .inl k,v=>Value.isInt k v
 | .inr x,v=>Value.isStrOf x v
def xC (w:World):Key->Int
 | .inl k=>hashInt k
 | .inr x=>hashStr w x
theorem f7:∀ {k:Key} {v:Value},Z6 k v=true->(∃ i t,k=Sum.inl i/\v=Value.int i t)\/(∃ x t,k=Sum.inr x/\v=Value.str x t)
 | .inl i,v,h=>by
  obtain ⟨t,e⟩:=Value.isInt_shape h;exact .inl ⟨i,t,rfl,e⟩
 | .inr x,v,h=>by
  obtain ⟨t,e⟩:=Value.isStrOf_shape h;exact .inr ⟨x,t,rfl,e⟩
theorem hE (i:Int) (t:Tok):Z6 (.inl i) (.int i t)=true:=by simp [Z6,Value.isInt]
theorem gR (x:Str) (t:Tok):Z6 (.inr x) (.str x t)=true:=by simp [Z6,Value.isStrOf]
theorem pr (a b:Int):decide ((Sum.inl a:Key)=Sum.inl b)=(a==b):=by grind
theorem sr (a b:Str):decide ((Sum.inr a:Key)=Sum.inr b)=decide (a=b):=by grind
theorem rD (a:Int) (b:Str):decide ((Sum.inl a:Key)=Sum.inr b)=false:=by grind
theorem rK (a:Str) (b:Int):decide ((Sum.inr a:Key)=Sum.inl b)=false:=by grind
def j8 (prog:Program) (w:World):PySem.KeyKind prog w Key where
 is:=Z6
 hash:=xC w
 inj:=λv a b f d=>by
  rcases f7 f with ⟨i,t,rfl,rfl⟩ | ⟨x,t,rfl,rfl⟩
  ·rcases f7 d with ⟨j,u,rfl,e⟩ | ⟨y,u,rfl,e⟩
   ·grind
   ·exact nomatch e
  ·rcases f7 d with ⟨j,u,rfl,e⟩ | ⟨y,u,rfl,e⟩
   ·exact nomatch e
   ·grind
 byValue:=λk v h=>by
  rcases f7 h with ⟨i,t,rfl,rfl⟩ | ⟨x,t,rfl,rfl⟩ <;> rfl
 pyHash:=λc h=>by
  rcases f7 c with ⟨i,t,rfl,rfl⟩ | ⟨x,t,rfl,rfl⟩
  ·exact wpAny_pyHash_int h
  ·exact wpAny_pyHash_str h
 eqBool:=λg c h=>by
  rcases f7 g with ⟨i,t,rfl,rfl⟩ | ⟨x,t,rfl,rfl⟩
  ·rcases f7 c with ⟨j,u,rfl,rfl⟩ | ⟨y,u,rfl,rfl⟩
   ·rw [pr] at h;exact wpAny_eqBool_int h
   ·rw [rD] at h;exact SeqAt.EqAt.int_str i t y u _ _ _ _ h
  ·rcases f7 c with ⟨j,u,rfl,rfl⟩ | ⟨y,u,rfl,rfl⟩
   ·rw [rK] at h;exact SeqAt.EqAt.str_int x t j u _ _ _ _ h
   ·rw [sr] at h;exact wpAny_eqBool_str h
 «strs»:=λk x t v h=>by
  rcases f7 h with ⟨i,u,rfl,e⟩ | ⟨y,u,rfl,e⟩
  ·exact nomatch e
  ·injection e with e1 _;subst e1;cases v <;> rfl
theorem bE (prog:Program) (w:World) (i:Int) (t:Tok):(j8 prog w).is (.inl i) (.int i t)=true:=hE i t
theorem cR (prog:Program) (w:World) (x:Str) (t:Tok):(j8 prog w).is (.inr x) (.str x t)=true:=gR x t
inductive V where
 | non | bl (b:Bool) | int (i:Int) | str (x:Str) | byt (b:Array UInt8) | flt (b:UInt64) | ref (a:Addr) | ty (n:String)
 deriving DecidableEq
def RelV:V->Value->Prop
 | .non,u=>u=Value.none
 | .bl b,u=>u=Value.bool b
 | .int i,u=>∃ t,u=Value.int i t
 | .str x,u=>∃ t,u=Value.str x t
 | .byt b,u=>∃ t,u=Value.bytes b t
 | .flt b,u=>∃ t,u=Value.float b t
 | .ref a,u=>u=Value.ref a
 | .ty n,u=>u=Value.type n
abbrev Vals:List V->List Value->Prop:=Paired RelV
theorem Vals.length (r:Vals xs us):xs.length=us.length:=Paired.length r
theorem Vals.get:∀ {xs:List V} {us:List Value} {i:Nat} {x:V},Vals xs us->xs[i]?=some x->∃ u,us[i]?=some u/\RelV x u
 | _,_,_,_,.nil,e=>by simp at e
 | _,_,0,_,.cons r _,e=>by simp at e;subst e;exact ⟨_,rfl,r⟩
 | _,_,i+1,x,.cons _ t,e=>by
  obtain ⟨u,b,a⟩:=Vals.get t (by simpa using e);exact ⟨u,by simpa using b,a⟩
theorem Vals.set (r:RelV x u):∀ {xs:List V} {us:List Value} (i:Nat),Vals xs us->Vals (xs.set i x) (us.set i u)
 | _,_,_,.nil=>.nil
 | _,_,0,.cons _ t=>.cons r t
 | _,_,i+1,.cons q t=>.cons q (Vals.set r i t)
theorem Vals.append:∀ {xs ys:List V} {us ws:List Value},Vals xs us->Vals ys ws->Vals (xs++ys) (us++ws)
 | _,_,_,_,.nil,s=>s
 | _,_,_,_,.cons r t,s=>.cons r (Vals.append t s)
theorem Vals.take:∀ {xs:List V} {us:List Value} (n:Nat),Vals xs us->Vals (xs.take n) (us.take n)
 | _,_,0,_=>.nil
 | _,_,_+1,.nil=>.nil
 | _,_,n+1,.cons r t=>.cons r (Vals.take n t)
theorem Vals.drop:∀ {xs:List V} {us:List Value} (n:Nat),Vals xs us->Vals (xs.drop n) (us.drop n)
 | _,_,0,r=>r
 | _,_,_+1,.nil=>.nil
 | _,_,n+1,.cons _ t=>Vals.drop n t
def RelO:Option V->Option Value->Prop
 | some v,some u=>RelV v u
 | none,none=>True
 | _,_=>False
def KV {κ:Type}:List (κ×V)->List (κ×Value)->Prop:=Paired λ(p:κ×V) (q:κ×Value)=>p.1=q.1/\RelV p.2 q.2
def kV:Key->V
 | .inl i=>.int i
 | .inr x=>.str x
inductive HO where
 | lst (xs:List V)
 | tup (xs:List V)
 | dK (kvs:List (Key×V)) | dT (kvs:List (List Key×V))
 | set (S:Int->Bool) (n:Nat)
 | ins (C dx:Addr) (fs:List (Str×V))
 | own (x:Addr)
 | xd (fs:List (Str×V))
 | met (f x:Addr)
 | rng (lo hi:Int)
 | frz (o:Obj) (u:HO)
 | tbl (ps:Array Value)
 | ext (φ:Heap->Prop)
abbrev Hp:=Addr->Option HO
def upd (H:Hp) (a:Addr) (o:HO):Hp:=λb=>if b=a then some o else H b
theorem b6:upd H a o a=some o:=by unfold upd;rw [if_pos rfl]
theorem b1 {a b:Addr} {o:HO} (h:b≠a):upd H a o b=H b:=by unfold upd;rw [if_neg h]
theorem jJ {H:Hp} {a b:Addr} {o u:HO} (h:H a=some o) (h':H b=some u) (d:o≠u):a≠b:=by grind
theorem b3 {H:Hp} {a b:Addr} {o:HO} (h:H a=some o) (h':H b=none):a≠b:=by grind
def TupN (h:Heap) (a:Addr) (items:Array Value):Prop:=∃ o,h.get? a=some o/\o.cls=.type "tuple"/\∃ n,o.data=.seq items n/\o.dict=none
theorem TupN.is (x:TupN h a items):IsTup h a items:=let ⟨o,e,c,n,d,_⟩:=x;⟨o,e,c,n,d⟩
theorem TupN.new (h:Heap) (items:Array Value):TupN (h.push { cls:=.type "tuple",data:=.seq items }) h.objs.size items:=⟨_,Am _ rfl,rfl,_,rfl,rfl⟩
section
variable (P:Program) (w:World)
def ObjOk (H:Hp) (h:Heap) (a:Addr):HO->Prop
 | .lst xs=>xs.length<=sizeLine/\∃ (its:List Value) (n:Nat),Vals xs its/\h.get? a=some { cls:=.type "list",data:=.seq its.toArray n }
 | .tup xs=>xs.length<=sizeLine/\∃ its:List Value,Vals xs its/\TupN h a its.toArray
 | .dK kvs=>kvs.length<=sizeLine/\(a==sysModules)=false/\∃ vs,KV kvs vs/\h.DictOf (j8 P w) a vs
 | .dT kvs=>kvs.length<=sizeLine/\(a==sysModules)=false/\∃ xs:List (List Key×Addr×Value),
   Paired (λ(p:List Key×V) (q:List Key×Addr×Value)=>p.1=q.1/\H q.2.1=some (.tup (p.1.map kV))/\RelV p.2 q.2.2) kvs xs /\
   ∃ o es ep,h.get? a=some o/\o.ExactDict/\o.data=.dict es ep/\es.toList=xs.map (entryOfKey (tupleKind (j8 P w)))/\(xs.map (·.1)).Nodup
 | .set S n=>h.SetOf (intKind P w) a S n
 | .ins C dx fs=>H dx=some (.own a)/\fs.length<=1000/\dx≠a/\h.get? a=some (PySem.W.instObj C dx) /\
   ∃ mA,h.Ns1 dx mA/\(∀ f,RelO (fs.lookup f) (mA f))/\PySem.Within mA (fs.map (·.1))
 | .own _=>∃ o,h.get? a=some o
 | .xd fs=>∃ mA,h.Ns1 a mA/\∀ f,RelO (fs.lookup f) (mA f)
 | .rng lo hi=>∃ t u v,h.get? a=some { cls:=.type "range",data:=.fields #[.int lo t,.int hi u,.int 1 v] }
 | .frz o u=>h.get? a=some o/\ObjOk H h a u
 | .tbl ps=>∃ tb:Array Value,h.get? a=some { cls:=.none,data:=.fields tb }/\TriplesOk tb.toList/\∀ pos cv,codeAmong pos tb.toList=some cv->∃ c o vs t q,cv=.ref c/\H c=some (.frz o (.own a))/\o.data=.fields vs/\vs[1]?=some (.str q t)/\ps[0]?=some (.str q 0)
 | .met f x=>h.get? a=some (PySem.W.methodObj (.ref f) (.ref x))
 | .ext φ=>φ h/\(∃ o,h.get? a=some o)/\∀ h1 h2:Heap,φ h1->(∀ o,h1.get? a=some o->h2.get? a=some o)->φ h2
def HOk (H:Hp) (h:Heap):Prop:=∀ a o,H a=some o->ObjOk P w H h a o
end
section
variable {P:Program} {w:World} {H H':Hp} {h h':Heap} {a:Addr} {o:HO}
theorem ObjOk.lt (x:ObjOk P w H h a o):a<h.objs.size:=by
 cases o with
 | lst xs=>obtain ⟨_,_,_,_,e⟩:=x;exact Ao e
 | tup xs=>obtain ⟨_,_,_,p⟩:=x;exact p.is.lt
 | dK kvs=>obtain ⟨_,_,_,_,o,_,_,e,_⟩:=x;exact Ao e
 | dT kvs=>obtain ⟨_,_,_,_,o,_,_,e,_⟩:=x;exact Ao e
 | set S n=>obtain ⟨o,_,_,_,e,_⟩:=x;exact Ao e
 | ins C dx fs=>obtain ⟨_,_,_,e,_⟩:=x;exact Ao e
 | own y=>obtain ⟨_,e⟩:=x;exact Ao e
 | xd fs=>obtain ⟨_,⟨_,_,_,e,_⟩,_⟩:=x;exact Ao e
 | rng lo hi=>obtain ⟨_,_,_,e⟩:=x;exact Ao e
 | frz ob u=>obtain ⟨e,_⟩:=x;exact Ao e
 | tbl ps=>obtain ⟨_,e,_⟩:=x;exact Ao e
 | met f y=>exact Ao (x)
 | ext φ=>obtain ⟨_,⟨_,e⟩,_⟩:=x;exact Ao e
theorem Paired.mapP:∀ {c:List α} {d:List β},Paired F c d->(∀ a b,F a b->G a b)->Paired G c d
 | _,_,.nil,_=>.nil
 | _,_,.cons r t,f=>.cons (f _ _ r) (Paired.mapP t f)
theorem ObjOk.stay (x:ObjOk P w H h a o) (k:∀ b u,(b=a\/H b=some (.own a))->h.get? b=some u->h'.get? b=some u)
  (ho:∀ b,H b=some (.own a)->H' b=some (.own a)) (ht:∀ b xs,H b=some (.tup xs)->H' b=some (.tup xs)) (hz:∀ b o u,H b=some (.frz o u)->H' b=some (.frz o u):=by exact λ_ _ _ q=>q):ObjOk P w H' h' a o:=by
 induction o with
 | lst xs=>obtain ⟨z,its,n,r,e⟩:=x;exact ⟨z,its,n,r,k _ _ (.inl rfl) e⟩
 | tup xs=>obtain ⟨z,its,r,ob,e,c⟩:=x;exact ⟨z,its,r,ob,k _ _ (.inl rfl) e,c⟩
 | dK kvs=>obtain ⟨z,y,vs,r,ob,es,ep,e,c⟩:=x;exact ⟨z,y,vs,r,ob,es,ep,k _ _ (.inl rfl) e,c⟩
 | dT kvs=>
  obtain ⟨z,y,xs,r,ob,es,ep,e,c⟩:=x;exact ⟨z,y,xs,Paired.mapP r λp q z=>⟨z.1,ht _ _ z.2.1,z.2.2⟩,ob,es,ep,k _ _ (.inl rfl) e,c⟩
 | set S n=>obtain ⟨ob,es,ep,t,e,c⟩:=x;exact ⟨ob,es,ep,t,k _ _ (.inl rfl) e,c⟩
 | ins C dx fs=>
  obtain ⟨d,z,ne,e,mA,⟨od,es,ep,e2,c⟩,r⟩:=x;exact ⟨ho _ d,z,ne,k _ _ (.inl rfl) e,mA,⟨od,es,ep,k _ _ (.inr d) e2,c⟩,r⟩
 | own y=>obtain ⟨ob,e⟩:=x;exact ⟨ob,k _ _ (.inl rfl) e⟩
 | xd fs=>obtain ⟨mA,⟨od,es,ep,e,c⟩,r⟩:=x;exact ⟨mA,⟨od,es,ep,k _ _ (.inl rfl) e,c⟩,r⟩
 | rng lo hi=>obtain ⟨t,u,v,e⟩:=x;exact ⟨t,u,v,k _ _ (.inl rfl) e⟩
 | frz ob u ih=>obtain ⟨e,q⟩:=x;exact ⟨k _ _ (.inl rfl) e,ih q⟩
 | tbl ps=>
  obtain ⟨tb,e,z,q⟩:=x;exact ⟨tb,k _ _ (.inl rfl) e,z,λpos cv y=>let ⟨c,o,vs,t,q,h1,h2,h3⟩:=q pos cv y;⟨c,o,vs,t,q,h1,hz _ _ _ h2,h3⟩⟩
 | met f y=>
  have e:=x;exact k a _ (.inl rfl) e
 | ext φ=>obtain ⟨p,⟨o,e⟩,st⟩:=x;exact ⟨st _ _ p λo q=>k _ _ (.inl rfl) q,⟨o,k _ _ (.inl rfl) e⟩,st⟩
theorem HOk.lt (x:HOk P w H h) (e:H a=some o):a<h.objs.size:=(x a o e).lt
theorem HOk.fresh (x:HOk P w H h) (e:h.objs.size<=a):H a=none:=by
 cases q:H a with
 | none=>rfl
 | some u=>exact absurd (AB (x.lt q) e) (BK _)
theorem HOk.kept (x:HOk P w H h) (k:∀ b u,h.get? b=some u->h'.get? b=some u):HOk P w H h':=λa o e=>
 (x a o e).stay (λb u _ q=>k b u q) (λ_ q=>q) λ_ _ q=>q
theorem HOk.laid (x:HOk P w H h) (k:∀ b u,h.get? b=some u->h'.get? b=some u) (hp:h.objs.size<=a) (new:ObjOk P w (upd H a o) h' a o):HOk P w (upd H a o) h':=λb u e=>by
 have hn:=x.fresh hp;by_cases hb:b=a
 ·subst hb;rw [b6] at e;cases e;exact new
 ·rw [b1 hb] at e;exact (x b u e).stay (λc v _ q=>k c v q) (λc q=>by rw [b1 (b3 q hn)];exact q) (λc xs q=>by rw [b1 (b3 q hn)];exact q) λc o u q=>by rw [b1 (b3 q hn)];exact q
end
def Rd (H:Hp) (a:Addr) (u:HO):Prop:=H a=some u\/∃ o,H a=some (.frz o u)
theorem Rd.ok {H:Hp} {h:Heap} {a:Addr} {u:HO} (r:Rd H a u) (x:HOk P w H h):ObjOk P w H h a u:=by
 rcases r with r | ⟨o,r⟩
 ·exact x a u r
 ·obtain ⟨_,q⟩:=x a _ r;exact q
def Mut:Option HO->Prop
 | some (.lst _)=>True
 | some (.dK _)=>True
 | some (.dT _)=>True
 | some (.set _ _)=>True
 | some (.ins _ _ _)=>True
 | some (.ext _)=>True
 | _=>False
section
variable {P:Program} {w:World} {H:Hp} {h h':Heap} {x e:Addr} {o':HO}
theorem HOk.write (ok:HOk P w H h) (mu:Mut (H x)) (he:e=x\/H e=some (.own x)) (k:∀ b u,b≠e->h.get? b=some u->h'.get? b=some u) (heo:∃ u,h'.get? e=some u)
  (new:ObjOk P w (upd H x o') h' x o'):HOk P w (upd H x o') h':=λb u q=>by
 have nown:∀ c y,H c=some (.own y)->c≠x:=λc y r z=>by subst z;rw [r] at mu;exact mu
 have ntup:∀ c xs,H c=some (.tup xs)->c≠x:=λc xs r z=>by subst z;rw [r] at mu;exact mu
 by_cases hb:b=x
 ·subst hb;rw [b6] at q;cases q;exact new
 ·rw [b1 hb] at q;by_cases hbe:b=e
  ·have q':H b=some (.own x):=by
    rcases he with z | z
    ·grind
    ·rw [hbe];exact z
   rw [q] at q';cases q';obtain ⟨v,hv⟩:=heo;exact ⟨v,by rw [hbe];exact hv⟩
  ·refine (ok b u q).stay (λc v hc r=>k c v ?_ r) (λc r=>by rw [b1 (nown c b r)];exact r) (λc xs r=>by rw [b1 (ntup c xs r)];exact r) λc o u r=>by rw [b1 (λz=>by subst z;rw [r] at mu;exact mu)];exact r
   rcases hc with rfl | hc
   ·exact hbe
   ·grind
end
structure Un (fs ex:List Addr) (H H':Hp) (h h':Heap):Prop where
 keep:∀ b o,h.get? b=some o->H b=none->b∉fs->b∉ex->h'.get? b=some o
 slot:∀ b o,h.get? b=some o->H b=none->b∈fs->b∉ex->∃ sl,h'.get? b=some { o with slots:=sl }
 free:∀ b o,h.get? b=some o->H b=none->b∉ex->H' b=none
 there:∀ b o,h.get? b=some o->b∉ex->∃ o',h'.get? b=some o'
 tups:∀ b xs,H b=some (.tup xs)->H' b=some (.tup xs)
 frzs:∀ b o u,H b=some (.frz o u)->H' b=some (.frz o u)
 tbls:∀ b ps,H b=some (.tbl ps)->∃ more,H' b=some (.tbl (ps++more))
section
variable {fs fs' ex ex':List Addr} {H H1 H2:Hp} {h h1 h2 h':Heap} {a x e:Addr} {o:HO}
theorem Un.any (u:Un fs ex H H1 h h1) {b:Addr} {ob:Obj} (q:h.get? b=some ob) (n:H b=none) (c:b∉ex):∃ d,h1.get? b=some { ob with slots:=d }:=by
 by_cases a:b∈fs
 ·exact u.slot b ob q n a c
 ·exact ⟨ob.slots,u.keep b ob q n a c⟩
theorem Un.kept (k:∀ b u,h.get? b=some u->h'.get? b=some u):Un fs ex H H h h':=
 ⟨λb ob q _ _ _=>k b ob q,λb ob q _ _ _=>⟨ob.slots,k b ob q⟩,λ_ _ _ n _=>n,λb ob q _=>⟨ob,k b ob q⟩,λ_ _ q=>q,λ_ _ _ q=>q,λ_ ps q=>⟨#[],by rw [q];simp⟩⟩
theorem Un.refl:Un fs ex H H h h:=Un.kept λ_ _ q=>q
theorem Un.laid (k:∀ b u,h.get? b=some u->h'.get? b=some u) (d:h.objs.size<=a) (c:H a=none):Un fs ex H (upd H a o) h h' where
 keep:=λb u q _ _ _=>k b u q
 slot:=λb u q _ _ _=>⟨u.slots,k b u q⟩
 free:=λb u q n _=>by rw [b1 (Ar (AB (Ao q) d))];exact n
 there:=λb u q _=>⟨u,k b u q⟩
 tups:=λb xs q=>by rw [b1 (b3 q c)];exact q
 frzs:=λb u xs q=>by rw [b1 (b3 q c)];exact q
 tbls:=λb ps q=>⟨#[],by rw [b1 (b3 q c),q];simp⟩
theorem Un.write (a:Mut (H x)) (i:e=x\/H e=some (.own x)) (k:∀ b u,b≠e->h.get? b=some u->h'.get? b=some u) (g:∃ u,h'.get? e=some u):Un fs ex H (upd H x o) h h':=by
 have d:∀ b,H b=none->b≠x:=λb n z=>by subst z;rw [n] at a;exact a
 have f:∀ b,H b=none->b≠e:=λb n z=>by
  subst z;rcases i with r | r
  ·exact d b n r
  ·rw [n] at r;cases r
 have c:∀ b u,H b=some u->¬ Mut (some u)->b≠x:=λb u q j z=>by subst z;rw [q] at a;exact j a
 refine ⟨λb u q n _ _=>k b u (f b n) q,λb u q n _ _=>⟨u.slots,k b u (f b n) q⟩,λb u q n _=>by rw [b1 (d b n)];exact n,λb u q _=>?_,
  λb xs q=>by rw [b1 (c b _ q λz=>z)];exact q,λb u xs q=>by rw [b1 (c b _ q λz=>z)];exact q,λb ps q=>⟨#[],by rw [b1 (c b _ q λz=>z),q];simp⟩⟩
 grind
end
def trk (h:Heap) (H:Hp):List Addr:=(List.range h.objs.size).filter λa=>(H a).isSome
def bV (h:Heap) (H:Hp):Heap:=PySem.W.hideAll h (trk h H)
theorem gC (h:Heap) (H:Hp):(bV h H).objs.size=h.objs.size:=PySem.W.hideAll_size _ _
theorem T3 {H:Hp} {b:Addr} {o:Obj} (e:h.get? b=some o) (n:H b=none):(bV h H).get? b=some o:=
 PySem.W.hideAll_get _ e λa=>by
  have q:=(List.mem_filter.mp a).2;rw [n] at q;simp at q
theorem oR (e:(bV h H).get? b=some o):h.get? b=some o/\H b=none:=by
 have a:=PySem.W.of_hideAll (trk h H) e;refine ⟨a,?_⟩;cases q:H b with
 | none=>rfl
 | some x=>
  have c:b∈trk h H:=List.mem_filter.mpr ⟨AH.mpr (Ao a),by simp [q]⟩;have z:(bV h H).get? b=none:=PySem.W.hideAll_none (trk h H) c;rw [z] at e;cases e
def vg (mg:Str->Option Value) (h:Heap):Prop:=∃ bm ob,mg "__builtins__" = some (.ref bm)/\bm≠builtinsNs/\h.get? bm=some ob/\ob.cls=.type "module"/\ob.dict=some builtinsNs/\ob.data=.plain
structure Mod (K:PySem.W.Frag) (mg:Str->Option Value) (base:Heap):Prop where
 kin:K.In base
 glob:base.Ns mainGlobals mg
 blt:∃ mb,base.Ns builtinsNs mb/\∀ x:Str,x ≠ "__name__"->mb x=bootBuiltins x
 nolimit:base.NoLimit
 bm:vg mg base
structure Cx where
 prog:Program
 w:World
 K:PySem.W.Frag
 mg:Str->Option Value
 base:Heap
 A:Around
 N:List Str
 s₀:Shared
 H₀:Hp
 env:Env
 outer:List Env
 stack:List Env
 ex:List Addr
 fn:Str->Bool
 calm:Bool
 pn:List (Addr×Obj)
 xe:Value->Shared->Prop
def frs (l:List Env):List Addr:=l.filterMap (·.frame)
abbrev Cx.fs (X:Cx):List Addr:=frs X.outer
def Vis (a:Scope) (x:Str):Prop:=a.names.lookup x=some .local\/a.names.lookup x=some .cell\/a.names.lookup x=some .free
def Loc (a:Scope) (x:Str):Prop:=a.names.lookup x=some .local\/a.names.lookup x=some .cell
def xZ (a:Env) (h:Heap) (m:Str->Option Value) (x:Str) (u:Value):Prop:=
 (a.kindOf x=some .local/\m x=some u)\/((a.kindOf x=some .cell\/a.kindOf x=some .free)/\∃ c,a.cells.lookup x=some c/\h.IsCell c (some u))
structure Cx.Ok (X:Cx):Prop where
 mod:Mod X.K X.mg X.base
 kind:X.env.scope.kind=.function
 glob:X.env.globals=mainGlobals
 blt:X.env.builtins=builtinsNs
 above:X.s₀.heap.objs.size<=X.env.locals
 inj:∀ x y c,X.env.cells.lookup x=some c->X.env.cells.lookup y=some c->x=y
 has:∀ x,(X.env.kindOf x=some .cell\/X.env.kindOf x=some .free)->∃ c,X.env.cells.lookup x=some c
 cab:∀ x c,X.fn x=true->X.env.cells.lookup x=some c->X.s₀.heap.objs.size<=c
 hd:X.calm=true->X.A.handled=none
 frames:X.A.frames=some X.stack
 stk:X.stack=X.outer\/(X.stack=X.env :: X.outer/\X.env.frame=some X.env.locals)
 exf:∀ b∈X.ex,b≠X.env.locals/\∀ x c,X.env.cells.lookup x=some c->c≠b
 bs:∀ b o,X.base.get? b=some o->X.s₀.heap.get? b=some o/\X.H₀ b=none
 bsz:X.base.objs.size<=X.s₀.heap.objs.size
 noex:∀ b o,X.base.get? b=some o->b∉X.ex
 exfs:∀ b∈X.ex,b∉X.fs
 funs:X.s₀.heap.FunFrames X.base X.outer
 frf:∀ b∈X.fs,X.H₀ b=none
structure Inv (X:Cx) (pins:List (Addr×Obj)) (σ:List (Option V)) (H:Hp) (s:Shared):Prop where
 ok:X.Ok
 os:s.os=X.s₀.os
 bare:AllBare s.gens
 base:Un X.fs X.ex X.H₀ H X.s₀.heap s.heap
 loc:∃ m,s.heap.Ns X.env.locals m/\∀ (i:Nat) (x:Str) (v:V),X.N[i]?=some x->σ[i]?=some (some v)->Vis X.env.scope x->∃ u,RelV v u/\xZ X.env s.heap m x u
 cell:∀ x c,X.env.cells.lookup x=some c->∃ v,s.heap.IsCell c v
 free:H X.env.locals=none
 freeC:∀ x c,X.env.cells.lookup x=some c->H c=none
 pin:∀ p∈X.pn++pins,s.heap.get? p.1=some p.2/\H p.1=none/\p.1≠X.env.locals/\p.1∉X.fs/\∀ v,p.2.data≠.cell v
 hok:HOk X.prog X.w H s.heap
 len:σ.length=X.N.length
section
variable {X:Cx} {pins:List (Addr×Obj)} {σ:List (Option V)} {H H':Hp} {s:Shared} {h':Heap}
theorem Cx.Ok.nofr (c:X.Ok) {b:Addr} {o:Obj} (e:X.base.get? b=some o):b∉X.fs:=λa=>by
 have:=(c.funs.mem a).1;rw [e] at this;cases this
theorem Inv.bs (I:Inv X pins σ H s):∀ b o,X.base.get? b=some o->s.heap.get? b=some o/\H b=none:=λb o e=>
 ⟨I.base.keep b o (I.ok.bs b o e).1 (I.ok.bs b o e).2 (I.ok.nofr e) (I.ok.noex b o e),I.base.free b o (I.ok.bs b o e).1 (I.ok.bs b o e).2 (I.ok.noex b o e)⟩
theorem Inv.bk (I:Inv X pins σ H s):∀ b o,X.base.get? b=some o->s.heap.get? b=some o:=λb o e=>(I.bs b o e).1
theorem Inv.mod (I:Inv X pins σ H s):Mod X.K X.mg X.base:=I.ok.mod
theorem Inv.kIn (I:Inv X pins σ H s):X.K.In s.heap:=I.ok.mod.kin.keeps I.bk
theorem Inv.lt (I:Inv X pins σ H s):X.env.locals<s.heap.objs.size:=let ⟨_,a,_⟩:=I.loc;a.lt
theorem Inv.sz (I:Inv X pins σ H s):X.s₀.heap.objs.size<=s.heap.objs.size:=Bk I.ok.above (Ck I.lt)
theorem Inv.nofs (I:Inv X pins σ H s) {a:Addr} (h:s.heap.objs.size<=a):a∉X.fs:=λb=>by
 obtain ⟨_,o,c,_⟩:=I.ok.funs.mem b;exact absurd (AB (Ao c) (Bk I.sz h)) (BK _)
theorem Inv.cne (I:Inv X pins σ H s):∀ x c,X.env.cells.lookup x=some c->c≠X.env.locals:=λx c e z=>by
 obtain ⟨v,o,d,hd⟩:=I.cell x c e;obtain ⟨m,⟨o',es,f,a,b,_⟩,_⟩:=I.loc;rw [z,a] at d;cases d;rw [b] at hd;cases hd
theorem Inv.funs (I:Inv X pins σ H s):s.heap.FunFrames X.base X.outer:=by
 have a:∀ (l:List Env),(∀ b∈frs l,b∈X.fs)->X.s₀.heap.FunFrames X.base l->s.heap.FunFrames X.base l:=by
  intro l;induction l with
  | nil=>intro _ _;trivial
  | cons j r n=>
   intro hs k;obtain ⟨g,⟨L,o,c,i,h,hd⟩,m⟩:=k;have f:=hs L (by unfold frs;rw [Dw,c];exact Av);obtain ⟨p,e⟩:=I.base.slot L o h (I.ok.frf L f) f λz=>I.ok.exfs L z f;exact ⟨g,⟨L,_,c,i,e,hd⟩,n (λb d=>hs b (by unfold frs;rw [Dw,c];exact AC _ d)) m⟩
 exact a X.outer (λ_ d=>d) I.ok.funs
theorem Inv.stack (I:Inv X pins σ H s):s.heap.FunFrames X.base X.stack:=by
 rcases I.ok.stk with e | ⟨e,hf⟩
 ·rw [e];exact I.funs
 ·rw [e];obtain ⟨m,a,_⟩:=I.loc;refine .cons (by rw [I.ok.kind];decide) hf a ?_ I.funs;exact Heap.get?_none_of_le (Bk I.ok.bsz I.ok.above)
theorem Inv.stkSub (I:Inv X pins σ H s):∀ b∈frs X.stack,b∈X.env.locals :: X.fs:=λb a=>by
 rcases I.ok.stk with e | ⟨e,hf⟩
 ·grind
 ·rw [e] at a;unfold frs at a;rw [Dw,hf] at a;exact a
theorem Inv.stkFree (I:Inv X pins σ H s):∀ b∈frs X.stack,H b=none:=λb a=>by
 rcases AA.mp (I.stkSub b a) with e | a
 ·rw [e];exact I.free
 ·obtain ⟨_,o,c,_⟩:=I.ok.funs.mem a;exact I.base.free b o c (I.ok.frf b a) λz=>I.ok.exfs b z a
theorem Inv.step {d':Drawn} {ch:List Addr} (I:Inv X pins σ H s)
  (h:∀ b∈ch,(b∈X.ex\/X.s₀.heap.objs.size<=b)/\b≠X.env.locals/\(∀ x c,X.env.cells.lookup x=some c->c≠b)/\∀ p∈X.pn++pins,p.1≠b)
  (j:∀ b o,b≠X.env.locals->b∉X.fs->b∉ch->s.heap.get? b=some o->H b=none->h'.get? b=some o)
  (A:∀ b o,b≠X.env.locals->b∈X.fs->b∉ch->s.heap.get? b=some o->H b=none->∃ O,h'.get? b=some { o with slots:=O }) (f:∀ b o,b∉ch->s.heap.get? b=some o->H b=none->H' b=none)
  (C:∀ b o,b∉ch->s.heap.get? b=some o->∃ o',h'.get? b=some o')
  (G:∀ b xs,H b=some (.tup xs)->H' b=some (.tup xs)) (J:∀ b o u,H b=some (.frz o u)->H' b=some (.frz o u)) (E:∀ b ps,H b=some (.tbl ps)->∃ F,H' b=some (.tbl (ps++F)))
  (ns:∀ m,s.heap.Ns X.env.locals m->h'.Ns X.env.locals m) (N:HOk X.prog X.w H' h') (Y:AllBare g') :
  Inv X pins σ H' { s with heap:=h',gens:=g',drawn:=d',toks:=t' }:=by
 have K:∀ b o,X.s₀.heap.get? b=some o->b≠X.env.locals:=λb o e=>Ar (AB (Ao e) I.ok.above);have w:∀ b o,X.s₀.heap.get? b=some o->b∉X.ex->b∉ch:=λb o e a B=>by
  rcases (h b B).1 with z | z
  ·exact a z
  ·exact absurd (AB (Ao e) z) (BK _)
 have t:∀ x c,X.env.cells.lookup x=some c->∀ v,s.heap.IsCell c v->h'.IsCell c v:=λx c e v ⟨o,D,hd⟩=>by
  have g:=λz=>(h c z).2.2.1 x c e rfl;by_cases P:c∈X.fs
  ·obtain ⟨O,q⟩:=A c o (I.cne x c e) P g D (I.freeC x c e);exact ⟨_,q,hd⟩
  ·exact ⟨o,j c o (I.cne x c e) P g D (I.freeC x c e),hd⟩
 refine ⟨I.ok,I.os,Y,⟨λb o e n B a=>?_,λb o e n B a=>?_,λb o e n a=>?_,λb o e a=>?_,λb xs e=>G b xs (I.base.tups b xs e),λb o xs e=>J b o xs (I.base.frzs b o xs e),λb ps e=>?_⟩,?_,λx c e=>?_,?_,λx c e=>?_,λp S=>?_,N,I.len⟩
 ·exact j b o (K b o e) B (w b o e a) (I.base.keep b o e n B a) (I.base.free b o e n a)
 ·obtain ⟨O,y⟩:=I.base.slot b o e n B a;obtain ⟨M,L⟩:=A b _ (K b o e) B (w b o e a) y (I.base.free b o e n a);exact ⟨M,L⟩
 ·obtain ⟨o',y⟩:=I.base.there b o e a;exact f b o' (w b o e a) y (I.base.free b o e n a)
 ·obtain ⟨o',y⟩:=I.base.there b o e a;exact C b o' (w b o e a) y
 ·obtain ⟨U,y⟩:=I.base.tbls b ps e;obtain ⟨m2,L⟩:=E b _ y;exact ⟨U++m2,by rw [L,Array.append_assoc]⟩
 ·obtain ⟨m,V,T⟩:=I.loc;refine ⟨m,ns m V,λi x v y L W=>?_⟩;obtain ⟨u,r,l⟩:=T i x v y L W;refine ⟨u,r,?_⟩;rcases l with l | ⟨k,c,e,z⟩
  ·exact .inl l
  ·exact .inr ⟨k,c,e,t x c e _ z⟩
 ·obtain ⟨v,z⟩:=I.cell x c e;exact ⟨v,t x c e v z⟩
 ·obtain ⟨m,⟨o,_,_,D,_⟩,_⟩:=I.loc;exact f _ o (λz=>(h _ z).2.1 rfl) D I.free
 ·obtain ⟨v,o,D,hd⟩:=I.cell x c e;exact f c o (λz=>(h c z).2.2.1 x c e rfl) D (I.freeC x c e)
 ·obtain ⟨e,n,R,Q,d⟩:=I.pin p S;have g:=λz=>(h p.1 z).2.2.2 p S rfl;exact ⟨j p.1 p.2 R Q g e n,f p.1 p.2 g e n,R,Q,d⟩
theorem Inv.un (I:Inv X pins σ H s) (u:Un X.fs [] H H' s.heap h') (c:HOk X.prog X.w H' h'):Inv X pins σ H' { s with heap:=h',toks:=t' }:=by
 obtain ⟨m,⟨o,es,k,g,r⟩,_⟩:=id I.loc;obtain ⟨l,j⟩:=u.any g I.free (by simp);exact I.step (ch:=[]) (λ_ z=>nomatch z) (λb o _ d _ e n=>u.keep b o e n d (by simp)) (λb o _ d _ e n=>u.slot b o e n d (by simp)) (λb o _ e n=>u.free b o e n (by simp)) (λb o _ e=>u.there b o e (by simp)) u.tups u.frzs u.tbls (λm' i=>by
  obtain ⟨o',es',f,a,h⟩:=i;rw [g] at a;cases a;exact ⟨_,es',f,j,h⟩) c I.bare
theorem Inv.call {d':Drawn} {ch:List Addr} (I:Inv X pins σ H s) (u:Un (frs X.stack) ch H H' s.heap h') (g:HOk X.prog X.w H' h') (q:AllBare g')
  (f:∀ b∈ch,(b∈X.ex\/X.s₀.heap.objs.size<=b)/\b≠X.env.locals/\(∀ x c,X.env.cells.lookup x=some c->c≠b)/\∀ p∈X.pn++pins,p.1≠b) :
  Inv X pins σ H' { s with heap:=h',gens:=g',drawn:=d',toks:=t' }:=by
 obtain ⟨m,⟨o,es,v,j,r⟩,_⟩:=id I.loc;obtain ⟨w,i⟩:=u.any j I.free λz=>(f _ z).2.1 rfl;exact I.step f (λb o i l a e n=>u.keep b o e n (λz=>(AA.mp (I.stkSub b z)).elim i l) a) (λb o _ _ a e n=>u.any e n a) (λb o a e n=>u.free b o e n a) (λb o a e=>u.there b o e a) u.tups u.frzs u.tbls (λm' t=>by
  obtain ⟨o',es',h,d,k⟩:=t;rw [j] at d;cases d;exact ⟨_,es',h,i,k⟩) g q
theorem Inv.turned {it:Addr} (I:Inv X pins σ H s) (k:∀ b o,b≠it->s.heap.get? b=some o->h'.get? b=some o) (g:H it=none) (j:it≠X.env.locals)
  (l:it∈X.ex\/X.s₀.heap.objs.size<=it) (t:∀ x c,X.env.cells.lookup x=some c->c≠it) (y:∀ p∈X.pn++pins,p.1≠it):Inv X pins σ H { s with heap:=h',toks:=t' }:=by
 have d:∀ b u,H b=some u->b≠it:=λb u e z=>by rw [z,g] at e;cases e
 refine I.step (ch:=[it]) (λb w=>?_) (λb o _ _ a e _=>k b o (λz=>a (by simp [z])) e) (λb o _ _ a e _=>⟨o.slots,k b o (λz=>a (by simp [z])) e⟩) (λ_ _ _ _ n=>n)
  (λb o a e=>⟨o,k b o (λz=>a (by simp [z])) e⟩) (λ_ _ e=>e) (λ_ _ _ e=>e) (λb ps e=>⟨#[],by rw [e];simp⟩) (λm i=>?_) (λb u e=>?_) I.bare
 ·grind
 ·obtain ⟨o,es,h,f,r⟩:=i;exact ⟨o,es,h,k _ o (Ne.symm j) f,r⟩
 ·refine (I.hok b u e).stay (λc v a q=>k c v ?_ q) (λ_ q=>q) λ_ _ q=>q;rcases a with z | z
  ·rw [z];exact d b u e
  ·exact d c _ z
theorem Inv.tok (I:Inv X pins σ H s) (t:Nat):Inv X pins σ H { s with toks:=t }:=I.un Un.refl I.hok
theorem Inv.kept (I:Inv X pins σ H s) (k:∀ b u,s.heap.get? b=some u->h'.get? b=some u):Inv X pins σ H { s with heap:=h',toks:=t' }:=I.un (Un.kept k) (I.hok.kept k)
theorem Inv.laid {a:Addr} {o:HO} {t':Nat} (I:Inv X pins σ H s) (k:∀ b u,s.heap.get? b=some u->h'.get? b=some u) (d:s.heap.objs.size<=a) (c:ObjOk X.prog X.w (upd H a o) h' a o) :
  Inv X pins σ (upd H a o) { s with heap:=h',toks:=t' }:=I.un (Un.laid k d (I.hok.fresh d)) (I.hok.laid k d c)
theorem Inv.write (I:Inv X pins σ H s) (f:Mut (H x)) (d:e=x\/H e=some (.own x)) (k:∀ b u,b≠e->s.heap.get? b=some u->h'.get? b=some u) (a:∃ u,h'.get? e=some u)
  (c:ObjOk X.prog X.w (upd H x o) h' x o):Inv X pins σ (upd H x o) { s with heap:=h',toks:=t' }:=I.un (Un.write f d k a) (I.hok.write f d k a c)
theorem Inv.weak (I:Inv X pins σ H s) (d:σ'.length=σ.length) (w:∀ (i:Nat) v,σ'[i]?=some (some v)->σ[i]?=some (some v)):Inv X pins σ' H s:=
 ⟨I.ok,I.os,I.bare,I.base,let ⟨m,b,a⟩:=I.loc;⟨m,b,λi x v e c f=>a i x v e (w i v c) f⟩,I.cell,I.free,I.freeC,I.pin,I.hok,d.trans I.len⟩
theorem Inv.pins_of (I:Inv X pins σ H s) (h:∀ p∈pins',s.heap.get? p.1=some p.2/\H p.1=none/\p.1≠X.env.locals/\p.1∉X.fs/\∀ v,p.2.data≠.cell v):Inv X pins' σ H s:=
 ⟨I.ok,I.os,I.bare,I.base,I.loc,I.cell,I.free,I.freeC,λp a=>(Bn.mp a).elim (λz=>I.pin p (List.mem_append_left _ z)) (h p),I.hok,I.len⟩
theorem bo {N:List Str} (e:N.Nodup) {i j:Nat} {x:Str} (a:N[i]?=some x) (b:N[j]?=some x):i=j:=by
 obtain ⟨f,d⟩:=As.mp a;obtain ⟨g,c⟩:=As.mp b;exact (Dd e).mp (d.trans c.symm)
theorem X9 {i:Nat} {x:Str} {v:V} {u:Value} {Q:Unit->Shared->Prop} (I:Inv X pins σ H s) (hN:X.N.Nodup) (O:X.N[i]?=some x) (t:Loc X.env.scope x) (r:RelV v u)
  (h:∀ s',Inv X pins (σ.set i (some v)) H s'->(∃ a,Heap.SameBut a s.heap s'.heap/\(a=X.env.locals\/X.env.cells.lookup x=some a))->Q () s') (hf:X.fn x=true\/X.env.scope.names.lookup x=some .local:=by first | exact .inl rfl | exact .inr rfl | assumption):wpAny M A (storeName X.env x u) Q E s:=by
 obtain ⟨m,Z,hl⟩:=id I.loc;have L:(X.env.scope.kind==.class||(X.env.scope.kind==.module&&X.env.locals != X.env.globals))=false:=by rw [I.ok.kind];rfl
 have B:i<σ.length:=by rw [I.len];exact (As.mp O).1
 have C:=I.cne;have f:∀ {a:Addr} {h':Heap},(∃ o,s.heap.get? a=some o/\H a=none)->Heap.SameBut a s.heap h'->HOk X.prog X.w H h':=λ{a h'} ha hs b ob e=>by
  obtain ⟨_,_,hfree⟩:=ha;refine (I.hok b ob e).stay (λc w' l q=>(hs.2 c ?_).trans q) (λ_ q=>q) λ_ _ q=>q;rintro rfl;rcases l with rfl | l
  ·grind
  ·grind
 rcases t with hk | hk
 ·refine wpAny_storeName_local hk Z (λh' W hs=>?_) L;obtain ⟨oL,_,_,hoL,_⟩:=id Z;refine h _ ⟨I.ok,I.os,I.bare,⟨λb o e n D t=>?_,λb o e n D t=>?_,I.base.free,λb o e t=>?_,I.base.tups,I.base.frzs,I.base.tbls⟩,⟨_,W,λj y T g w e3=>?_⟩,λy c e=>?_,I.free,I.freeC,λp hp=>?_,f ⟨oL,hoL,I.free⟩ hs,by simpa using I.len⟩ ⟨_,hs,.inl rfl⟩
  ·exact (hs.2 b (Ar (AB (Ao e) I.ok.above))).trans (I.base.keep b o e n D t)
  ·obtain ⟨sl,g⟩:=I.base.slot b o e n D t;exact ⟨sl,(hs.2 b (Ar (AB (Ao e) I.ok.above))).trans g⟩
  ·obtain ⟨o',g⟩:=I.base.there b o e t;exact ⟨o',(hs.2 b (Ar (AB (Ao e) I.ok.above))).trans g⟩
  ·by_cases F:j=i
   ·subst F;rw [O] at g;cases g;rw [Bi B] at w;cases w;exact ⟨u,r,.inl ⟨hk,by simp⟩⟩
   ·rw [AV (Ne.symm F)] at w;obtain ⟨Y,r',q⟩:=hl j y T g w e3;refine ⟨Y,r',?_⟩;rcases q with ⟨k,e⟩ | ⟨k,c,e,z⟩
    ·refine .inl ⟨k,?_⟩;have:y≠x:=λe=>F (bo hN g (e▸O));simp [this,e]
    ·exact .inr ⟨k,c,e,z.sameBut hs (C y c e)⟩
  ·obtain ⟨w',z⟩:=I.cell y c e;exact ⟨w',z.sameBut hs (C y c e)⟩
  ·obtain ⟨e,n,R,U,d⟩:=I.pin p hp;exact ⟨(hs.2 p.1 R).trans e,n,R,U,d⟩
 ·have G:X.fn x=true:=by
   rcases hf with z | z
   ·exact z
   ·rw [z] at hk;cases hk
  obtain ⟨c,l⟩:=I.ok.has x (.inl hk);obtain ⟨w',z⟩:=I.cell x c l;refine wpAny_storeName_cell I.ok.kind hk l z (λh' N hs=>?_);obtain ⟨oc,J,P⟩:=id z;refine h { s with heap:=h' } ⟨I.ok,I.os,I.bare,⟨λb o e n D t=>?_,λb o e n D t=>?_,I.base.free,λb o e t=>?_,I.base.tups,I.base.frzs,I.base.tbls⟩,⟨m,Z.sameBut hs (Ne.symm (C x c l)),λj y T g w e3=>?_⟩,λy S e=>?_,I.free,I.freeC,λp hp=>?_,f ⟨oc,J,I.freeC x c l⟩ hs,by simpa using I.len⟩ ⟨c,hs,.inr l⟩
  ·exact (hs.2 b (Ar (AB (Ao e) (I.ok.cab x c G l)))).trans (I.base.keep b o e n D t)
  ·obtain ⟨sl,g⟩:=I.base.slot b o e n D t;exact ⟨sl,(hs.2 b (Ar (AB (Ao e) (I.ok.cab x c G l)))).trans g⟩
  ·obtain ⟨o',g⟩:=I.base.there b o e t;exact ⟨o',(hs.2 b (Ar (AB (Ao e) (I.ok.cab x c G l)))).trans g⟩
  ·by_cases F:j=i
   ·subst F;rw [O] at g;cases g;rw [Bi B] at w;cases w;exact ⟨u,r,.inr ⟨.inl hk,c,l,N⟩⟩
   ·rw [AV (Ne.symm F)] at w;obtain ⟨Y,r',q⟩:=hl j y T g w e3;refine ⟨Y,r',?_⟩;rcases q with q | ⟨k,S,e,z'⟩
    ·exact .inl q
    ·refine .inr ⟨k,S,e,z'.sameBut hs ?_⟩;rintro rfl;exact F (bo hN g (I.ok.inj _ _ _ e l▸O))
  ·by_cases K:S=c
   ·subst K;exact ⟨_,N⟩
   ·obtain ⟨w2,z2⟩:=I.cell y S e;exact ⟨w2,z2.sameBut hs K⟩
  ·obtain ⟨e,n,R,U,d⟩:=I.pin p hp;refine ⟨(hs.2 p.1 ?_).trans e,n,R,U,d⟩;intro q;rw [q,J] at e;have q':=AR e;exact d w' (by rw [<- q'];exact P)
theorem cZ {i:Nat} {x:Str} {v:V} {u:Value} {Q:Unit->Shared->Prop} (I:Inv X pins σ H s) (e:X.N.Nodup) (c:X.N[i]?=some x) (a:Loc X.env.scope x) (r:RelV v u)
  (h:∀ s',Inv X pins (σ.set i (some v)) H s'->Q () s') (b:X.fn x=true\/X.env.scope.names.lookup x=some .local:=by first | exact .inl rfl | exact .inr rfl | assumption):wpAny M A (storeName X.env x u) Q E s:=
 X9 I e c a r (λs' d _=>h s' d) b
theorem Inv.call' {ch:List Addr} (I:Inv X pins σ H s) (g:s'.os=s.os) (u:Un (frs X.stack) ch H H' s.heap s'.heap) (d:HOk X.prog X.w H' s'.heap) (f:AllBare s'.gens)
  (a:∀ b∈ch,(b∈X.ex\/X.s₀.heap.objs.size<=b)/\b≠X.env.locals/\(∀ x c,X.env.cells.lookup x=some c->c≠b)/\∀ p∈X.pn++pins,p.1≠b):Inv X pins σ H' s':=by
 obtain ⟨h',g',d',t',o'⟩:=s';have e:=g;subst e;exact I.call u d f a
end
abbrev XK:=Value->Option Addr->Hp->Prop
abbrev St:=List (Option V)
abbrev VK:=V->Hp->Prop
abbrev TE:=St->Hp->VK->Prop
abbrev TT:=St->Hp->(Bool->Hp->Prop)->Prop
abbrev TA:=St->Hp->(List V->Hp->Prop)->Prop
structure Ends where
 nx:St->Hp->Prop
 rt:VK
 bk:St->Hp->Prop:=λ_ _=>False
 ct:St->Hp->Prop:=λ_ _=>False
abbrev TS:=Ends->St->Hp->Prop
def EP (X:Cx) (pins:List (Addr×Obj)) (σ:St) (Q:VK) (u:Value) (s':Shared):Prop:=∃ v H',Inv X pins σ H' s'/\RelV v u/\Q v H'
def TP (X:Cx) (pins:List (Addr×Obj)) (σ:St) (Q:Bool->Hp->Prop) (b:Bool) (s':Shared):Prop:=∃ H',Inv X pins σ H' s'/\Q b H'
def AP (X:Cx) (pins:List (Addr×Obj)) (σ:St) (Q:List V->Hp->Prop) (us:List Value) (s':Shared):Prop:=∃ vs H',Inv X pins σ H' s'/\Vals vs us/\Q vs H'
def SP (X:Cx) (pins:List (Addr×Obj)) (D:Ends) (f:Flow) (s':Shared):Prop:=
 match f with
 | .next=>∃ a H',Inv X pins a H' s'/\D.nx a H'
 | .brk=>∃ a H',Inv X pins a H' s'/\D.bk a H'
 | .cont=>∃ a H',Inv X pins a H' s'/\D.ct a H'
 | .ret u=>∃ v a H',Inv X pins a H' s'/\RelV v u/\D.rt v H'
def PE (X:Cx) (e:Expr) (t:TE):Prop:=
 ∀ (pins:List (Addr×Obj)) (s:Shared) (σ:St) (H:Hp) (Q:VK),Inv X pins σ H s->t σ H Q->wpAny (model X.prog X.w) X.A (eval e X.env) (EP X pins σ Q) X.xe s
def PT (X:Cx) (e:Expr) (t:TT):Prop:=
 ∀ (pins:List (Addr×Obj)) (s:Shared) (σ:St) (H:Hp) (Q:Bool->Hp->Prop),Inv X pins σ H s->t σ H Q->wpAny (model X.prog X.w) X.A (isTrue e X.env (eval e X.env)) (TP X pins σ Q) X.xe s
def PW (X:Cx) (e:Expr) (t:TT):Prop:=
 ∀ (a:Sem Value) (pins:List (Addr×Obj)) (s:Shared) (σ:St) (H:Hp) (Q:Bool->Hp->Prop),Inv X pins σ H s->t σ H Q->wpAny (model X.prog X.w) X.A (isTrue e X.env a) (TP X pins σ Q) X.xe s
theorem PW.pt (h:PW X e t):PT X e t:=h _
def PA (X:Cx) (es:List Expr) (t:TA):Prop:=
 ∀ (pos:Pos) (pins:List (Addr×Obj)) (s:Shared) (σ:St) (H:Hp) (Q:List V->Hp->Prop),Inv X pins σ H s->t σ H Q->wpAny (model X.prog X.w) X.A (spliced (backTo pos (starEach es X.env))) (AP X pins σ Q) X.xe s
def PS (X:Cx) (st:Stmt) (t:TS):Prop:=
 ∀ (pins:List (Addr×Obj)) (s:Shared) (σ:St) (H:Hp) (D:Ends),Inv X pins σ H s->t D σ H->wpAny (model X.prog X.w) X.A (exec st X.env) (SP X pins D) X.xe s
def PSs (X:Cx) (st:List Stmt) (t:TS):Prop:=
 ∀ (pins:List (Addr×Obj)) (s:Shared) (σ:St) (H:Hp) (D:Ends),Inv X pins σ H s->t D σ H->wpAny (model X.prog X.w) X.A (execs st X.env) (SP X pins D) X.xe s
theorem thn {M:Model} {A:Around} {E:Value->Shared->Prop} {s:Shared} (h:wpAny M A t Q E s) (b:∀ a s,Q a s->Q' a s):wpAny M A t Q' E s:=AI h b λ_ _ x=>x
section
variable {X:Cx}
def uH (i:Nat):TE:=λσ H Q=>∃ v,σ[i]?=some (some v)/\Q v H
def tC (v:V):TE:=λ_ H Q=>Q v H
theorem jw {pos:Pos} (o:X.N[i]?=some x) (p:Vis X.env.scope x) (hd:(x==("__debug__" : Str))=false:=by decide) (f:(x==("__classdict__" : Str))=false:=by decide):PE X (.Name x pos) (uH i):=by
 intro pins s σ H Q I h;obtain ⟨v,e,h⟩:=h;obtain ⟨m,j,k⟩:=I.loc;obtain ⟨u,r,l⟩:=k i x v o e p;have d:EP X pins σ Q u s:=⟨v,H,I,r,h⟩;rcases l with ⟨b,n⟩ | ⟨b,c,g,a⟩
 ·exact wpAny_Name (wpAny_loadName_local I.ok.kind b j n d) hd
 ·rcases b with b | b
  ·exact wpAny_Name (wpAny_loadName_cell I.ok.kind b g a d) hd
  ·exact wpAny_Name (wpAny_loadName_free I.ok.kind b g a d f) hd
theorem lV {i j pos}:PE X (.Constant (.int i) j pos) (tC (.int i)):=λ_ _ _ H _ I h=>wpAny_Constant_int ⟨.int i,H,I.tok _,⟨_,rfl⟩,h⟩
theorem vz {b j pos}:PE X (.Constant (.bool b) j pos) (tC (.bl b)):=λ_ _ _ H _ I h=>Constant_bool ⟨.bl b,H,I,rfl,h⟩
theorem qG {j pos}:PE X (.Constant .none j pos) (tC .non):=λ_ _ _ H _ I h=>Constant_none ⟨.non,H,I,rfl,h⟩
theorem qY {x j pos}:PE X (.Constant (.str x) j pos) (tC (.str x)):=λ_ _ _ H _ I h=>Calls.Constant_str ⟨.str x,H,I.tok _,⟨_,rfl⟩,h⟩
def Gl (X:Cx) (x:Str):Prop:=X.env.kindOf x=some .globalImplicit
theorem av {pins:List (Addr×Obj)} {s:Shared} {σ:St} {H:Hp} {x:Str} {u:Value} {pos:Pos} {Q:Value->Shared->Prop} (I:Inv X pins σ H s) (a:Gl X x) (b:X.mg x=some u) (h:Q u s)
  (hd:(x==("__debug__" : Str))=false:=by decide):wpAny (model X.prog X.w) X.A (eval (.Name x pos) X.env) Q E s:=
 DK I.ok.kind a (Calls.loadGlobal_global (by rw [I.ok.glob];exact I.mod.glob.keeps I.bk) b h) hd
theorem u6 {E:Value->Shared->Prop} {pins:List (Addr×Obj)} {s:Shared} {σ:St} {H:Hp} {x:Str} {u:Value} {pos:Pos} {Q:Value->Shared->Prop} (I:Inv X pins σ H s) (d:Gl X x) (e:X.mg x=none) (f:bootBuiltins x=some u) (h:Q u s)
  (a:x ≠ "__name__":=by decide) (hd:(x==("__debug__" : Str))=false:=by decide):wpAny (model X.prog X.w) X.A (eval (.Name x pos) X.env) Q E s:=by
 obtain ⟨g,b,c⟩:=I.mod.blt;exact DK I.ok.kind d (Calls.loadGlobal_builtin (by rw [I.ok.glob];exact I.mod.glob.keeps I.bk) e (by rw [I.ok.blt];exact b.keeps I.bk) ((c x a).trans f) h) hd
theorem ny {u:Value} {pos:Pos} (a:Gl X x) (b:X.mg x=some u) (r:RelV v u) (hd:(x==("__debug__" : Str))=false:=by decide):PE X (.Name x pos) (tC v):=
 λ_ _ _ H _ I h=>av I a b ⟨v,H,I,r,h⟩ hd
theorem nD {u:Value} {pos:Pos} (c:Gl X x) (d:X.mg x=none) (b:bootBuiltins x=some u) (r:RelV v u) (a:x ≠ "__name__":=by decide) (hd:(x==("__debug__" : Str))=false:=by decide):PE X (.Name x pos) (tC v):=
 λ_ _ _ H _ I h=>u6 I c d b ⟨v,H,I,r,h⟩ a hd
variable {a b:Expr} {ta tb:TE} {pos:Pos}
variable {tA tB':TT} {rest:List Expr}
def xO (t u:TT):TT:=λσ H Q=>t σ H λc a=>if c=true then u σ a Q else Q false a
def tOr (t u:TT):TT:=λσ H Q=>t σ H λc a=>if c=true then Q true a else u σ a Q
def rO (t:TT):TT:=λσ H Q=>t σ H λc a=>Q (!c) a
theorem pw_and1 (b:PT X a tA):PW X (.BoolOp .And [a] pos) tA:=by
 intro d pins s σ H Q I h;refine isTrue_and (thn (b pins s σ H Q I h) λc f e=>?_);cases c with
 | true=>exact isTrue_and_nil e
 | false=>exact e
theorem pw_or1 (b:PT X a tA):PW X (.BoolOp .Or [a] pos) tA:=by
 intro d pins s σ H Q I h;refine isTrue_or (thn (b pins s σ H Q I h) λc f e=>?_);cases c with
 | false=>exact isTrue_or_nil e
 | true=>exact e
theorem pw_and (g:PT X a tA) (j:PW X (.BoolOp .And (b :: rest) pos) tB'):PW X (.BoolOp .And (a :: b :: rest) pos) (xO tA tB'):=by
 intro i pins s σ H Q I h;refine isTrue_and (thn (g pins s σ H _ I h) λc k ⟨e,d,f⟩=>?_);cases c with
 | true=>exact j i pins k σ e Q d f
 | false=>exact ⟨e,d,f⟩
theorem pw_or (g:PT X a tA) (j:PW X (.BoolOp .Or (b :: rest) pos) tB'):PW X (.BoolOp .Or (a :: b :: rest) pos) (tOr tA tB'):=by
 intro i pins s σ H Q I h;refine isTrue_or (thn (g pins s σ H _ I h) λc k ⟨e,d,f⟩=>?_);cases c with
 | true=>exact ⟨e,d,f⟩
 | false=>exact j i pins k σ e Q d f
theorem qP (d:PT X a tA):PT X (.UnaryOp .Not a pos) (rO tA):=by
 intro pins s σ H Q I h;exact isTrue_not (d pins s σ H (λc b=>Q (!c) b) I h)
def tIf (t:TT) (b d:TE):TE:=λσ H Q=>t σ H λc a=>if c=true then b σ a Q else d σ a Q
theorem kI (l:PT X c tA) (j:PE X a ta) (k:PE X b tb):PE X (.IfExp c a b pos) (tIf tA ta tb):=by
 intro pins s σ H Q I h;refine wpAny_IfExp (thn (l pins s σ H _ I h) λd g ⟨f,e,i⟩=>?_);cases d with
 | true=>exact j pins g σ f Q e i
 | false=>exact k pins g σ f Q e i
end
def SqL (K:PySem.W.Frag) (H:Hp) (a:Addr) (xs:List V):Prop:=
 Rd H a (.lst xs) \/
  ∃ (o:Obj) (b:Array Value) (n:Nat),K.lookup a=some o/\o.cls=.type "list"/\o.dict=none/\o.data=.seq b n/\b.size<=sizeLine/\Vals xs b.toList
def SqT (K:PySem.W.Frag) (H:Hp) (a:Addr) (xs:List V):Prop:=
 Rd H a (.tup xs) \/
  ∃ (o:Obj) (b:Array Value) (n:Nat),K.lookup a=some o/\o.cls=.type "tuple"/\o.data=.seq b n/\b.size<=sizeLine/\Vals xs b.toList
def wv:Value->Option V
 | .none=>some .non
 | .bool b=>some (.bl b)
 | .int i _=>some (.int i)
 | .str x _=>some (.str x)
 | .bytes b _=>some (.byt b)
 | .float b _=>some (.flt b)
 | .ref a=>some (.ref a)
 | .type n=>some (.ty n)
 | _=>none
theorem RelV.abs (r:RelV x u):wv u=some x:=by
 cases x with
 | non=>cases r;rfl
 | bl _=>cases r;rfl
 | int _=>obtain ⟨t,rfl⟩:=r;rfl
 | str _=>obtain ⟨t,rfl⟩:=r;rfl
 | byt _=>obtain ⟨t,rfl⟩:=r;rfl
 | flt _=>obtain ⟨t,rfl⟩:=r;rfl
 | ref _=>cases r;rfl
 | ty _=>cases r;rfl
theorem RelV.inj {u:Value} (r:RelV x u) (q:RelV y u):x=y:=AR (r.abs.symm.trans q.abs)
theorem Vals.inj:∀ {xs ys:List V} {us:List Value},Vals xs us->Vals ys us->xs=ys
 | _,_,_,.nil,.nil=>rfl
 | _,_,_,.cons r t,.cons a t'=>by rw [r.inj a,Vals.inj t t']
section
variable {X:Cx} {pins:List (Addr×Obj)} {σ:St} {H:Hp} {s:Shared} {a:Addr} {xs ys:List V}
theorem Inv.list (I:Inv X pins σ H s) (h:SqL X.K H a xs):∃ b:List Value,Vals xs b/\PlainL s.heap a b.toArray/\xs.length<=sizeLine:=by
 rcases h with h | ⟨o,b,n,hk,hc,hd,hs,hz,r⟩
 ·obtain ⟨z,b,n,r,e⟩:=h.ok I.hok;exact ⟨b,r,⟨_,n,e,rfl,rfl,rfl⟩,z⟩
 ·refine ⟨b.toList,r,⟨o,n,I.kIn a o hk,hc,hd,by simpa using hs⟩,?_⟩;have e:=r.length;simp at e;omega
theorem Inv.tuple (I:Inv X pins σ H s) (h:SqT X.K H a xs):∃ b:List Value,Vals xs b/\IsTup s.heap a b.toArray/\xs.length<=sizeLine:=by
 rcases h with h | ⟨o,b,n,hk,hc,hs,hz,r⟩
 ·obtain ⟨z,b,r,p⟩:=h.ok I.hok;exact ⟨b,r,p.is,z⟩
 ·refine ⟨b.toList,r,⟨o,I.kIn a o hk,hc,n,by simpa using hs⟩,?_⟩;have e:=r.length;simp at e;omega
theorem Inv.list_inj (I:Inv X pins σ H s) (h:SqL X.K H a xs) (h':SqL X.K H a ys):xs=ys:=by
 obtain ⟨b,r,⟨o,n,e,_,_,d⟩,_⟩:=I.list h;obtain ⟨its',f,⟨o',g,c,_,_,d'⟩,_⟩:=I.list h';rw [e] at c;cases c;rw [d] at d';injection d' with d1 _;have:b=its':=by simpa using congrArg Array.toList d1
 subst this;exact r.inj f
theorem Inv.tuple_inj (I:Inv X pins σ H s) (h:SqT X.K H a xs) (h':SqT X.K H a ys):xs=ys:=by
 obtain ⟨b,r,⟨o,e,_,n,d⟩,_⟩:=I.tuple h;obtain ⟨its',f,⟨o',c,_,g,d'⟩,_⟩:=I.tuple h';rw [e] at c;cases c;rw [d] at d';injection d' with d1 _;have:b=its':=by simpa using congrArg Array.toList d1
 subst this;exact r.inj f
end
abbrev Cx.wish (X:Cx) (E:Value->Shared->Prop):Cx:={ X with xe:=E }
abbrev Cx.nox (X:Cx):Cx:=X.wish λ_ _=>False
theorem Cx.Ok.wish {X:Cx} (a:X.Ok) (E:Value->Shared->Prop):(X.wish E).Ok:=
 ⟨a.mod,a.kind,a.glob,a.blt,a.above,a.inj,a.has,a.cab,a.hd,a.frames,a.stk,a.exf,a.bs,a.bsz,a.noex,a.exfs,a.funs,a.frf⟩
theorem Cx.Ok.unwish {X:Cx} {E:Value->Shared->Prop} (a:(X.wish E).Ok):X.Ok:=
 ⟨a.mod,a.kind,a.glob,a.blt,a.above,a.inj,a.has,a.cab,a.hd,a.frames,a.stk,a.exf,a.bs,a.bsz,a.noex,a.exfs,a.funs,a.frf⟩
section
variable {X:Cx} {pins:List (Addr×Obj)} {σ:St} {H:Hp} {s:Shared} {E:Value->Shared->Prop}
theorem Inv.wish (I:Inv X pins σ H s) (E:Value->Shared->Prop):Inv (X.wish E) pins σ H s:=⟨I.ok.wish E,I.os,I.bare,I.base,I.loc,I.cell,I.free,I.freeC,I.pin,I.hok,I.len⟩
theorem Inv.unwish (I:Inv (X.wish E) pins σ H s):Inv X pins σ H s:=⟨I.ok.unwish,I.os,I.bare,I.base,I.loc,I.cell,I.free,I.freeC,I.pin,I.hok,I.len⟩
theorem SP.unwish (h:SP (X.wish E) pins D f s'):SP X pins D f s':=by
 cases f with
 | next=>obtain ⟨σ',H',I,q⟩:=h;exact ⟨σ',H',I.unwish,q⟩
 | brk=>obtain ⟨σ',H',I,q⟩:=h;exact ⟨σ',H',I.unwish,q⟩
 | cont=>obtain ⟨σ',H',I,q⟩:=h;exact ⟨σ',H',I.unwish,q⟩
 | ret u=>obtain ⟨v,σ',H',I,r,q⟩:=h;exact ⟨v,σ',H',I.unwish,r,q⟩
theorem PSs.nox {st:List Stmt} {t:TS} (h:PSs X.nox st t):PSs X st t:=λpins s σ H D I a=>
 AI (h pins s σ H D (I.wish _) a) (λ_ _ q=>q.unwish) λ_ _ z=>False.elim z
end
section
variable {X:Cx} {st:Stmt} {rest:List Stmt} {t u:TS} {e:Expr} {te:TE} {pos:Pos}
def tNext:TS:=λD σ H=>D.nx σ H
def wU (t u:TS):TS:=λD σ H=>t { D with nx:=u D } σ H
theorem oA:PSs X [] tNext:=λ_ _ σ H _ I h=>wpAny_execs_nil ⟨σ,H,I,h⟩
theorem ik (h1:PS X st t) (h2:PSs X rest u):PSs X (st :: rest) (wU t u):=by
 intro pins s σ H D I h;refine wpAny_execs_cons (thn (h1 pins s σ H { D with nx:=u D } I h) λf s1 q=>?_);cases f with
 | next=>
  obtain ⟨σ',H',I',q⟩:=q;exact h2 pins s1 σ' H' D I' q
 | ret v=>exact q
 | brk=>exact q
 | cont=>exact q
def tBreak:TS:=λD σ H=>D.bk σ H
def tCont:TS:=λD σ H=>D.ct σ H
theorem oX:PS X (.Pass pos) tNext:=λ_ _ σ H _ I h=>wpAny_Pass ⟨σ,H,I,h⟩
theorem lJ:PS X (.Break pos) tBreak:=λ_ _ σ H _ I h=>wpAny_Break ⟨σ,H,I,h⟩
theorem bG:PS X (.Continue pos) tCont:=λ_ _ σ H _ I h=>wpAny_Continue ⟨σ,H,I,h⟩
theorem Inv.quiet {σ:St} {H:Hp} {s:Shared} (I:Inv X pins σ H s):interactive X.env=false:=by simp [interactive,I.ok.kind]
def uN (te:TE):TS:=λD σ H=>te σ H λ_ a=>D.nx σ a
theorem oB (a:PE X e te) (hs:swapsWith e none pos.line X.env=pure false:=by rfl):PS X (.Expr e pos) (uN te):=by
 intro pins s σ H D I h;exact wpAny_Expr_any (thn (a pins s σ H _ I h) λv f ⟨x,c,b,g,d⟩=>⟨σ,c,b,d⟩) I.quiet hs
def xQ (te:TE):TS:=λD σ H=>te σ H D.rt
theorem pg (a:PE X e te):PS X (.Return (some e) pos) (xQ te):=by
 intro pins s σ H D I h;exact wpAny_Return_some (thn (a pins s σ H _ I h) λv g ⟨x,c,b,f,d⟩=>⟨x,σ,c,b,f,d⟩)
def tRetN:TS:=λD _ H=>D.rt .non H
theorem oQ:PS X (.Return none pos) tRetN:=λ_ _ σ H _ I h=>wpAny_Return_none ⟨.non,σ,H,I,rfl,h⟩
def wf (c:TT) (t u:TS):TS:=λD σ H=>c σ H λb a=>if b=true then t D σ a else u D σ a
theorem ps_if {j:TT} (m:PT X c j) (k:PSs X a t) (l:PSs X b u):PS X (.If c a b pos) (wf j t u):=by
 intro pins s σ H D I h;refine wpAny_If (thn (m pins s σ H _ I h) λd g ⟨f,e,i⟩=>?_);cases d with
 | true=>exact k pins g σ f D e i
 | false=>exact l pins g σ f D e i
def tNever:TS:=λ_ _ _=>False
theorem kj:PS X st tNever:=λ_ _ _ _ _ _ h=>h.elim
end
abbrev TG:=V->St->Hp->(St->Hp->Prop)->Prop
abbrev TGs:=List V->St->Hp->(St->Hp->Prop)->Prop
def PG (X:Cx) (a:Expr) (t:TG):Prop:=
 ∀ (pins:List (Addr×Obj)) (s:Shared) (σ:St) (H:Hp) (v:V) (u:Value) (Q:St->Hp->Prop),Inv X pins σ H s->RelV v u->t v σ H Q ->
  wpAny (model X.prog X.w) X.A (assign a X.env u) (λ_ s'=>∃ b H',Inv X pins b H' s'/\Q b H') X.xe s
def PGs (X:Cx) (b:List Expr) (t:TGs):Prop:=
 ∀ (pins:List (Addr×Obj)) (s:Shared) (σ:St) (H:Hp) (vs:List V) (us:List Value) (Q:St->Hp->Prop),Inv X pins σ H s->Vals vs us->t vs σ H Q ->
  wpAny (model X.prog X.w) X.A (assignInOrder ((assignEach b X.env).map (·.2)) us) (λ_ s'=>∃ a H',Inv X pins a H' s'/\Q a H') X.xe s
abbrev sL:=V->V->V->Hp->(Hp->Prop)->Prop
def se (X:Cx) (t:sL):Prop:=
 ∀ (pins:List (Addr×Obj)) (s:Shared) (σ:St) (H:Hp) (o i v:V) (b a u:Value) (Q:Hp->Prop),Inv X pins σ H s->RelV o b->RelV i a->RelV v u->t o i v H Q ->
  wpAny (model X.prog X.w) X.A (setItem b a u) (λ_ s'=>∃ H',Inv X pins σ H' s'/\Q H') X.xe s
section
variable {X:Cx} {pos:Pos}
def fS (i:Nat):TG:=λv σ H Q=>Q (σ.set i (some v)) H
theorem C8 (e:X.N.Nodup) (c:X.N[i]?=some x) (a:Loc X.env.scope x) (b:X.fn x=true\/X.env.scope.names.lookup x=some .local:=by first | exact .inl rfl | exact .inr rfl | assumption):PG X (.Name x pos) (fS i):=by
 intro pins s σ H v u Q I r h;exact wpAny_assign_Name (cZ I e c a r (λs' d=>⟨_,H,d,h⟩) b)
def gNil:TGs:=λvs σ H Q=>vs=[]/\Q σ H
def td (t:TG) (u:TGs):TGs:=λvs σ H Q=>∃ v r,vs=v :: r/\t v σ H λa H'=>u r a H' Q
theorem oV:PGs X [] gNil:=by
 intro pins s σ H vs us Q I r h;obtain ⟨e,h⟩:=h;subst e;cases r;exact assignInOrder_nil ⟨σ,H,I,h⟩
theorem lL {t:TG} {u:TGs} (b:PG X e t) (g:PGs X es u)
  (hs:(assignEach (e :: es) X.env).map (·.2)=assign e X.env :: (assignEach es X.env).map (·.2):=by rfl):PGs X (e :: es) (td t u):=by
 intro pins s σ H vs us Q I r h;obtain ⟨v,l,f,h⟩:=h;subst f;cases r with
 | cons r i=>
  rw [hs];refine assignInOrder_cons (thn (b pins s σ H _ _ _ I r h) λ_ j ⟨a,d,c,k⟩=>?_);exact g pins j a d _ _ Q c i k
def wq (K:PySem.W.Frag) (n:Nat) (t:TGs):TG:=λv σ H Q=>∃ a xs,v=.ref a/\SqT K H a xs/\xs.length=n/\t xs σ H Q
theorem rY {k:Nat} {t:TGs} {n:Nat} (x:X.calm=true) (h:PGs X es t)
  (i:(assignEach es X.env).length=n:=by rfl) (d:(assignEach es X.env).findIdx? (·.1)=none:=by rfl):PG X (.Tuple es k pos) (wq X.K n t):=by
 intro pins s σ H v u Q I r c;obtain ⟨a,xs,w,j,p,c⟩:=c;subst w;cases r;obtain ⟨q,f,l,hz⟩:=I.tuple j;refine assign_Tuple_tuple (I.ok.hd x) l (by simp [i,<- p,f.length]) d λh' g=>?_;have m:=I.kept (t':=s.toks) λb o e=>g b o (Ar (Ao e)) e;exact h pins _ σ H xs _ Q m (by simpa using f) c
def wa (c d:TE) (t:sL):TG:=λv σ H Q=>c σ H λo b=>d σ b λi e=>t o i v e λa=>Q σ a
theorem qX {c d:TE} {t:sL} (w:PE X o c) (A:PE X i d) (hs:se X t)
  (q:∀ v,assign (.Subscript o i pos) X.env v=(do
   let a <- holding [v] (eval o X.env)
   let b <- holding [v,a] (eval i X.env)
   standAt pos
   holding [v,a,b] (setItem a b v)
   release [v,a,b] []):=by intro _;rfl):PG X (.Subscript o i pos) (wa c d t):=by
 intro pins s σ H v u Q I r h;rw [q];refine Ag (AJ (thn (w pins s σ H _ I h) λa f ⟨x,l,g,p,n⟩=>?_));refine Ag (AJ (thn (A pins f σ l _ g n) λb C ⟨y,D,z,k,e⟩=>?_));refine Ag (Cr (Ag (AJ (thn (hs pins C σ D x y v a b u _ z p k r e) λ_ E ⟨B,j,m⟩=>?_))));exact wpAny_release ⟨σ,B,j,m⟩
def oM (te:TE) (g:TG):TS:=λD σ H=>te σ H λx a=>g x σ a D.nx
theorem jG {tg e:Expr} {te:TE} {g:TG} (a:PE X e te) (f:PG X tg g) (hs:swapsWithSole [tg] e pos.line X.env=pure false:=by rfl) (l:swappedStores [tg] e X.env=pure none:=by rfl)
  (b:(assignEach [tg] X.env).map (·.2)=[assign tg X.env]:=by rfl):PS X (.Assign [tg] e pos) (oM te g):=by
 intro pins s σ H D I h;refine wpAny_Assign_stores (thn (a pins s σ H _ I h) λv i ⟨x,d,c,k,j⟩=>?_) hs l;rw [b];exact thn (f pins i σ d x v _ c k j) λ_ m q=>q
theorem lP (k:X.N.Nodup) (f:X.N[i]?=some x) (a:Loc X.env.scope x) (d:PE X e te) (hs:swapsWith e (some (.Name x pos')) pos.line X.env=pure false:=by rfl) (b:X.fn x=true\/X.env.scope.names.lookup x=some .local:=by first | exact .inl rfl | exact .inr rfl | assumption) :
  PS X (.Assign [.Name x pos'] e pos) (oM te (fS i)):=by
 intro pins s σ H D I h;refine wpAny_Assign_Name (thn (d pins s σ H _ I h) λv n ⟨y,j,g,m,l⟩=>?_) hs;exact cZ g k f a m (λo c=>⟨_,j,c,l⟩) b
end
structure It where
 go:Nat->Hp->Prop
 yld:Nat->Hp->V->Hp->Prop
 stop:Nat->Hp->Prop
def P4 (X:Cx) (pins:List (Addr×Obj)) (H:Hp) (b:Addr):Prop:=
 H b=none/\b≠X.env.locals/\b∉X.fs/\(b∈X.ex\/X.s₀.heap.objs.size<=b)/\(∀ x c,X.env.cells.lookup x=some c->c≠b)/\∀ p∈X.pn++pins,p.1≠b
theorem Inv.fpOk {σ:St} {H H':Hp} {s:Shared} {b:Addr} (I:Inv X pins σ H s) (a:s.heap.objs.size<=b) (f:H' b=none):P4 X pins H' b:=by
 refine ⟨f,CT (AB I.lt a),I.nofs a,.inr (Bk I.sz a),λx c e z=>?_,λp d z=>?_⟩
 ·obtain ⟨v,q⟩:=I.cell x c e;exact absurd (AB q.lt (by rw [z];exact a)) (BK _)
 ·exact absurd (AB (Ao (I.pin p d).1) (by rw [z];exact a)) (BK _)
structure Turn (P:Program) (w:World) (K:PySem.W.Frag) (tg:Expr) (J:It) (fp:List Addr) (it:Addr) (tn:Nat->Heap->Prop):Prop where
 mem:it∈fp
 obj:∀ i h,tn i h->∀ b∈fp,∃ o,h.get? b=some o/\∀ v,o.data≠.cell v
 keep:∀ i h h',tn i h->(∀ b∈fp,∀ o,h.get? b=some o->h'.get? b=some o)->tn i h'
 item:∀ (X:Cx),X.prog=P->X.w=w->X.K=K->X.calm=true->∀ (i:Nat) (pins:List (Addr×Obj)) (s:Shared) (σ:St) (H:Hp) (E:Value->Shared->Prop),Inv X pins σ H s->(∀ b∈fp,P4 X pins H b)->tn i s.heap->J.go i H ->
  wpAny (model P w) X.A (pyNext (.ref it)) (λr s1=>∃ u,r=some u /\
   wpAny (model P w) X.A (letOwnedTupleGo tg (.ref it) u) (λ_ s2=>∃ x H',Inv X pins σ H' s2/\RelV x u/\J.yld i H x H'/\tn (i+1) s2.heap/\∀ b∈fp,H' b=none) E s1) E s
 done:∀ (X:Cx),X.prog=P->X.w=w->X.K=K->X.calm=true->∀ (i:Nat) (pins:List (Addr×Obj)) (s:Shared) (σ:St) (H:Hp) (E:Value->Shared->Prop),Inv X pins σ H s->(∀ b∈fp,P4 X pins H b)->tn i s.heap->J.stop i H ->
  wpAny (model P w) X.A (pyNext (.ref it)) (λr s1=>r=none/\Inv X pins σ H s1) E s
 self:∀ (A:Around) (i:Nat) (s:Shared) (Q:Value->Shared->Prop) (E:Value->Shared->Prop),tn i s.heap->Q (.ref it) s->wpAny (model P w) A (pyIter (.ref it)) Q E s
abbrev TI:=St->Hp->(It->Hp->Prop)->Prop
def PIE (X:Cx) (pins:List (Addr×Obj)) (σ:St) (tg:Expr) (R:It->Hp->Prop) (a:Value) (d:Shared):Prop:=
 ∃ (it:Addr) (c:List Addr) (tn:Nat->Heap->Prop) (J:It) (H':Hp),a=.ref it/\Inv X pins σ H' d/\Turn X.prog X.w X.K tg J c it tn/\tn 0 d.heap/\(∀ b∈c,P4 X pins H' b)/\R J H'
def PI (X:Cx) (tg a:Expr) (b:TI):Prop:=
 ∀ (pins:List (Addr×Obj)) (s:Shared) (σ:St) (H:Hp) (R:It->Hp->Prop),Inv X pins σ H s->b σ H R ->
  wpAny (model X.prog X.w) X.A (eval a X.env) (λv c=>wpAny (model X.prog X.w) X.A (pyIter v) (PIE X pins σ tg R) X.xe c) X.xe s
theorem lS {s:Shared} {tg:Expr} {it:Addr} {u:Value} {o:Obj} {n:String} {vs:Array Value} {Q:Unit->Shared->Prop} (c:s.heap.get? it=some o) (b:o.cls=.type n) (hd:o.data=.fields vs)
  (d:["enumerate","zip","dict_itemiterator","dict_reverseitemiterator","odict_iterator","itertools.zip_longest","itertools.pairwise"].contains n=false) (a:Q () s):wpAny M A (letOwnedTupleGo tg (.ref it) u) Q E s:=by
 cases tg <;> first
  | exact Ah a
  | (cases u <;> first
    | exact Ah a
    | (refine Ag (EK c ?_);rw [b,hd];show wpAny M A (if (["enumerate","zip","dict_itemiterator","dict_reverseitemiterator","odict_iterator","itertools.zip_longest","itertools.pairwise"].contains n&&vs[0]?==some (rawInt _))=true then _ else _) Q E s;rw [if_neg (by intro h;rw [d,Bool.false_and] at h;cases h)];exact Ah a))
def Itl (K:PySem.W.Frag) (a:Addr):It:=
 ⟨λi H=>∃ xs x,SqL K H a xs/\xs[i]?=some x,λi H x H'=>H'=H/\∀ xs,SqL K H a xs->xs[i]?=some x,λi H=>∃ xs,SqL K H a xs/\xs.length<=i⟩
def Itt (K:PySem.W.Frag) (a:Addr):It:=
 ⟨λi H=>∃ xs x,SqT K H a xs/\xs[i]?=some x,λi H x H'=>H'=H/\∀ xs,SqT K H a xs->xs[i]?=some x,λi H=>∃ xs,SqT K H a xs/\xs.length<=i⟩
def Itr (lo:Int) (n:Nat):It:=⟨λi _=>i<n,λi H x H'=>H'=H/\x=.int (lo+i),λi _=>n<=i⟩
theorem hZ {K:PySem.W.Frag} {tg:Expr} (a it:Addr):Turn P w K tg (Itl K a) [it] it (λi h=>h.IsListIter it a i) where
 mem:=by simp
 obj:=λi h st b f=>by
  have e:b=it:=by simpa using f
  subst e;obtain ⟨o,e,c,d⟩:=st;exact ⟨o,e,λv z=>by rw [d] at z;cases z⟩
 keep:=λi h h' st k=>st.at λo e=>k it (by simp) o e
 item:=by
  intro X G D A J i pins s σ H E I j st F;subst G D A;obtain ⟨xs,x,l,B⟩:=F;obtain ⟨n,C,p,hz⟩:=I.list l;obtain ⟨u,S,N⟩:=C.get B;obtain ⟨y,q,O,m,t,r⟩:=j it (by simp);refine wpAny_pyNext_list_item st p.isList (by simpa using S) λh' g R=>?_;have M:=I.turned (t':=s.toks) (λb o f e=>(R.2 b f).trans e) y q m t r;obtain ⟨o,e,c,d⟩:=id g;exact ⟨u,rfl,lS e c d (by decide) ⟨x,H,M,N,⟨rfl,λys Q=>by rw [I.list_inj Q l];exact B⟩,g,λb f=>(j b f).1⟩⟩
 done:=by
  intro X G D A J i pins s σ H E I j st F;subst G D A;obtain ⟨xs,l,B⟩:=F;obtain ⟨n,C,p,hz⟩:=I.list l;obtain ⟨y,q,O,m,t,r⟩:=j it (by simp);have T:=C.length;exact wpAny_pyNext_list_end (I.ok.hd J) st p.isList (by simp;omega) λh' L=>⟨rfl,I.turned (λb o f e=>L b o f e) y q m t r⟩
 self:=λ_ _ _ _ _ st h=>wpAny_pyIter_listiter st h
theorem eI {K:PySem.W.Frag} {tg:Expr} (a it:Addr):Turn P w K tg (Itt K a) [it] it (λi h=>h.IsTupleIter it a i) where
 mem:=by simp
 obj:=λi h st b f=>by
  have e:b=it:=by simpa using f
  subst e;obtain ⟨o,e,c,d⟩:=st;exact ⟨o,e,λv z=>by rw [d] at z;cases z⟩
 keep:=λi h h' st k=>st.at λo e=>k it (by simp) o e
 item:=by
  intro X G D A J i pins s σ H E I j st F;subst G D A;obtain ⟨xs,x,l,B⟩:=F;obtain ⟨n,C,p,hz⟩:=I.tuple l;obtain ⟨u,S,N⟩:=C.get B;obtain ⟨y,q,O,m,t,r⟩:=j it (by simp);refine wpAny_pyNext_tuple_item st (p) (by simpa using S) λh' g R=>?_;have M:=I.turned (t':=s.toks) (λb o f e=>(R.2 b f).trans e) y q m t r;obtain ⟨o,e,c,d⟩:=id g;exact ⟨u,rfl,lS e c d (by decide) ⟨x,H,M,N,⟨rfl,λys Q=>by rw [I.tuple_inj Q l];exact B⟩,g,λb f=>(j b f).1⟩⟩
 done:=by
  intro X G D A J i pins s σ H E I j st F;subst G D A;obtain ⟨xs,l,B⟩:=F;obtain ⟨n,C,p,hz⟩:=I.tuple l;obtain ⟨y,q,O,m,t,r⟩:=j it (by simp);have T:=C.length;exact wpAny_pyNext_tuple_end (I.ok.hd J) st (p) (by simp;omega) λh' L=>⟨rfl,I.turned (λb o f e=>L b o f e) y q m t r⟩
 self:=λ_ _ _ _ _ st h=>wpAny_pyIter_tupleiter st h
theorem de {K:PySem.W.Frag} {tg:Expr} (it:Addr) (lo:Int) (n:Nat):Turn P w K tg (Itr lo n) [it] it (λi h=>IsRangeIter h it (lo+(i:Nat) * 1) ((n:Int)-(i:Nat)) 1) where
 mem:=by simp
 obj:=λi h st b a=>by
  have e:b=it:=by simpa using a
  subst e;exact ⟨_,st,λv z=>by
   have D:=z;cases D⟩
 keep:=λi h h' st k=>k it (by simp) _ st
 item:=by
  intro X x r q g i pins s σ H E I d st u;subst x r q;obtain ⟨p,j,C,f,m,l⟩:=d it (by simp);have W:=Walks.range (prog:=X.prog) (w:=X.w) (I.ok.hd g) it lo 1 n;refine W.item i s _ _ u st λv h' G A c F=>?_;obtain ⟨t,rfl⟩:=A;have B:Inv X pins σ H { s with heap:=h',toks:=G }:=I.turned (λb o a e=>F b o (by simpa using a) e) p j f m l;refine ⟨_,rfl,lS c rfl rfl (by decide) ⟨.int (lo+i),H,B,⟨t,?_⟩,⟨rfl,rfl⟩,c,λb a=>(d b a).1⟩⟩;rw [Int.mul_one]
 done:=by
  intro X x r q g i pins s σ H E I d st u;subst x r q;obtain ⟨p,j,C,f,m,l⟩:=d it (by simp);exact wpAny_pyNext_range_end (I.ok.hd g) st (by have:n<=i:=u;omega) λh' y=>⟨rfl,I.turned (λb o a e=>y b o a e) p j f m l⟩
 self:=λ_ _ _ _ _ st h=>wpAny_pyIter_rangeiter st h
section
variable {X:Cx} {tg:Expr}
theorem bZ {σ:St} {H:Hp} {s:Shared} {R:It->Hp->Prop} {E:Value->Shared->Prop} {lo a:Int} {t u v:Tok} {d:Nat} (I:Inv X pins σ H s) (f:-(2 ^ 62)<=lo) (j:lo<2 ^ 62) (l:-(2 ^ 62)<=a) (h:a<2 ^ 62)
  (q:R (Itr lo (a-lo).toNat) H):wpAny (model X.prog X.w) X.A (pyIter (.ref s.heap.objs.size)) (PIE X pins σ tg R) E { s with heap:=s.heap.push { cls:=.type "range",data:=.fields #[.int lo t,.int a u,.int 1 v] },toks:=d }:=by
 refine wpAny_pyIter_range (IsRange.new ..) (small_one f j l h) ?_;have c:Inv X pins σ H { s with heap:=s.heap.push { cls:=.type "range",data:=.fields #[.int lo t,.int a u,.int 1 v] },toks:=d }:=I.kept λb o e=>Ai _ e;refine ⟨(s.heap.push { cls:=.type "range",data:=.fields #[.int lo t,.int a u,.int 1 v] }).objs.size,[(s.heap.push { cls:=.type "range",data:=.fields #[.int lo t,.int a u,.int 1 v] }).objs.size],_,_,H,rfl,
  c.kept λb o e=>Ai _ e,de _ lo (a-lo).toNat,?_,λb k=>?_,q⟩
 ·have i:lo+((0:Nat):Int) * 1=lo:=by simp
  have g:(((a-lo).toNat:Nat):Int)-((0:Nat):Int)=Builtin.Range.rangeSize lo a 1:=by rw [EF];split <;> omega
  rw [i,g];exact Am _ rfl
 ·have e:b=(s.heap.push { cls:=.type "range",data:=.fields #[.int lo t,.int a u,.int 1 v] }).objs.size:=by simpa using k
  subst e;exact c.fpOk (Ap _) (c.hok.fresh (Ap _))
def wF (a:TA):TI:=λσ H R=>a σ H λvs b=>∃ j:Int,vs=[.int j]/\-(2 ^ 62)<=j/\j<2 ^ 62/\R (Itr 0 j.toNat) b
def vp (a:TA):TI:=λσ H R=>a σ H λvs b=>∃ i j:Int,vs=[.int i,.int j]/\(-(2 ^ 62)<=i/\i<2 ^ 62/\-(2 ^ 62)<=j/\j<2 ^ 62)/\R (Itr i (j-i).toNat) b
theorem gI (f:Gl X "range") (k:X.mg "range" = none) (c:PA X [a] ta) (hs:starEach [a] X.env=[(false,eval a X.env)]:=by rfl):PI X tg (.Call (.Name "range" p) [a] [] pos) (wF ta):=by
 intro pins s σ H R I h;refine Call_ (u6 I f k boot_range (AX (thn (c pos pins s σ H _ I h) λus m ⟨vs,n,d,l,b⟩=>?_) hs rfl));obtain ⟨j,e,b,g,q⟩:=b;subst e;cases l with
 | cons r i=>
  cases i;obtain ⟨t,rfl⟩:=r;exact call_range_1 (bZ d (by omega) (by omega) b g (by simpa using q))
theorem iE {p pos:Pos} (u:Gl X "range") (v:X.mg "range" = none) (g:PA X [a,b] ta) (hs:starEach [a,b] X.env=[(false,eval a X.env),(false,eval b X.env)]:=by rfl) (c:starEach [b] X.env=[(false,eval b X.env)]:=by rfl) :
  PI X tg (.Call (.Name "range" p) [a,b] [] pos) (vp ta):=by
 intro pins s σ H R I h;refine Call_ (u6 I u v boot_range (AX (thn (g pos pins s σ H _ I h) λus x ⟨vs,y,l,w,f⟩=>?_) (by rw [hs,c]) (by rw [c];rfl)));obtain ⟨i,j,e,⟨f,o,m,n⟩,q⟩:=f;subst e;cases w with
 | cons r d=>
  cases d with
  | cons k d=>
   cases d;obtain ⟨t,rfl⟩:=r;obtain ⟨t',rfl⟩:=k;exact call_range_2 (bZ l f o m n q)
def xG (f:TI) (g:TG) (c:TS):TS:=λD σ H=>f σ H λJ d=>∃ W:Nat->Nat->St->Hp->Prop,(∃ m,W 0 m σ d)/\∀ i m σ H,W i m σ H ->
 (J.stop i H/\D.nx σ H)\/(J.go i H/\∃ N:St->Hp->Prop,(∀ a H',N a H'->∃ m',m'<m/\W (i+1) m' a H')/\∀ x H',J.yld i H x H'->g x σ H' λb e=>c { D with nx:=N,ct:=N,bk:=D.nx } b e)
def j5 (a:List Addr) (h:Heap):List (Addr×Obj):=a.filterMap λb=>(h.get? b).map λo=>(b,o)
theorem f9 {b:Addr} {o:Obj} (a:b∈fp) (e:h.get? b=some o):(b,o)∈j5 fp h:=List.mem_filterMap.mpr ⟨b,a,by rw [e];rfl⟩
theorem hB (a:p∈j5 fp h):p.1∈fp/\h.get? p.1=some p.2:=by
 obtain ⟨b,c,e⟩:=List.mem_filterMap.mp a;cases q:h.get? b with
 | none=>rw [q] at e;cases e
 | some o=>
  rw [q] at e;have d:=AR e;subst d;exact ⟨c,q⟩
theorem Inv.pinned {σ:St} {H:Hp} {s:Shared} {a:List Addr} (I:Inv X pins σ H s) (i:∀ b∈a,P4 X pins H b) (k:∀ b∈a,∃ o,s.heap.get? b=some o/\∀ v,o.data≠.cell v):Inv X (pins++j5 a s.heap) σ H s:=
 I.pins_of λp j=>(Bn.mp j).elim (λz=>I.pin p (Au _ z)) λz=>by
  obtain ⟨c,e⟩:=hB z;obtain ⟨h,l,g,_⟩:=i p.1 c;obtain ⟨o,f,d⟩:=k p.1 c;rw [e] at f;cases f;exact ⟨e,h,l,g,d⟩
theorem Inv.unpinned {σ:St} {H:Hp} {s:Shared} (I:Inv X (pins++pl) σ H s):Inv X pins σ H s:=I.pins_of λp a=>I.pin p (Au _ (List.mem_append_left _ a))
theorem rV {wi:TI} {g:TG} {tb:TS} {pos:Pos} (hp:PassesOwn (model X.prog X.w) X.A X.env X.xe) (hc:X.calm=true) (hi:PI X tg iter wi) (hg:PG X tg g) (hb:PSs X body tb)
  (hs:∀ x,foldedSetIterable iter X.env x=pure x:=by intro _;rfl):PS X (.For tg iter body [] pos) (xG wi g tb):=by
 intro pins s σ H D I h;refine wpAny_For (thn (hi pins s σ H _ I h) λv s1 h1=>thn h1 λitv s2 h2=>?_) hs;obtain ⟨it,fp,tn,J,H2,e,I2,T,st2,f2,W,⟨m0,w0⟩,turn⟩:=h2;subst e;have stat:∀ {H':Hp},(∀ b∈fp,H' b=none)->∀ b∈fp,P4 X pins H' b:=λhn b hb=>⟨hn b hb,(f2 b hb).2⟩;refine codeAny_forLoop_any (λn s'=>∃ i σ' H',Inv X pins σ' H' s'/\tn i s'.heap/\(∀ b∈fp,H' b=none)/\W i n σ' H') ?_ m0 ⟨0,σ,H2,I2,st2,λb hb=>(f2 b hb).1,w0⟩;rintro n s3 ⟨i,σ3,H3,I3,st3,fr3,w3⟩;rcases turn i n σ3 H3 w3 with ⟨stop,qn⟩ | ⟨go,N,hN,step⟩
 ·refine CM hp (thn (T.done X rfl rfl rfl hc i pins s3 σ3 H3 X.xe I3 (stat fr3) st3 stop) λr s4 ⟨hr,I4⟩=>?_);subst hr;exact wpAny_execs_nil ⟨σ3,H3,I4,qn⟩
 ·refine CM hp (thn (T.item X rfl rfl rfl hc i pins s3 σ3 H3 X.xe I3 (stat fr3) st3 go) λr s4 ⟨u,hr,h4⟩=>?_);subst hr;refine CM hp (thn h4 λ_ s5 ⟨x,H5,I5,r5,y5,st5,fr5⟩=>?_);have I5':=I5.pinned (stat fr5) (T.obj _ _ st5);refine CM hp (thn (hg _ s5 σ3 H5 x u _ I5' r5 (step x H5 y5)) λ_ s6 ⟨σ6,H6,I6,q6⟩=>?_);refine CM hp (thn (hb _ s6 σ6 H6 _ I6 q6) λf s7 q7=>?_);have again:∀ {σ7:St} {H7:Hp},Inv X (pins++j5 fp s5.heap) σ7 H7 s7->N σ7 H7->∃ m,m<n/\∃ i σ' H',Inv X pins σ' H' s7/\tn i s7.heap/\(∀ b∈fp,H' b=none)/\W i m σ' H':=λ{σ7 H7} I7 n7=>by
   obtain ⟨m',hm,w7⟩:=hN σ7 H7 n7;refine ⟨m',hm,i+1,σ7,H7,I7.unpinned,T.keep _ _ _ st5 λb hb o e=>(I7.pin (b,o) (Au _ (Au _ (f9 hb e)))).1,λb hb=>?_,w7⟩;obtain ⟨o,e,d⟩:=T.obj _ _ st5 b hb;exact (I7.pin (b,o) (Au _ (Au _ (f9 hb e)))).2.1
  cases f with
  | next=>obtain ⟨σ7,H7,I7,n7⟩:=q7;exact again I7 n7
  | cont=>obtain ⟨σ7,H7,I7,n7⟩:=q7;exact again I7 n7
  | brk=>obtain ⟨σ7,H7,I7,q7⟩:=q7;exact ⟨σ7,H7,I7.unpinned,q7⟩
  | ret v=>obtain ⟨x7,σ7,H7,I7,r7,q7⟩:=q7;exact ⟨x7,σ7,H7,I7.unpinned,r7,q7⟩
end
abbrev R2:=V->V->Hp->VK->Prop
def OpR (X:Cx) (f:Value->Value->Sem Value) (r:R2):Prop:=
 ∀ (pins:List (Addr×Obj)) (s:Shared) (σ:St) (H:Hp) (x y:V) (v u:Value) (Q:VK),Inv X pins σ H s->RelV x v->RelV y u->r x y H Q ->
  wpAny (model X.prog X.w) X.A (f v u) (EP X pins σ Q) X.xe s
def UnR (X:Cx) (f:Value->Sem Value) (r:V->Hp->VK->Prop):Prop:=
 ∀ (pins:List (Addr×Obj)) (s:Shared) (σ:St) (H:Hp) (x:V) (v:Value) (Q:VK),Inv X pins σ H s->RelV x v->r x H Q ->
  wpAny (model X.prog X.w) X.A (f v) (EP X pins σ Q) X.xe s
def j3 (X:Cx) (f:Value) (r:List V->Hp->VK->Prop):Prop:=
 ∀ (pins:List (Addr×Obj)) (s:Shared) (σ:St) (H:Hp) (xs:List V) (us:List Value) (Q:VK),Inv X pins σ H s->Vals xs us->r xs H Q ->
  wpAny (model X.prog X.w) X.A (call f us) (EP X pins σ Q) X.xe s
def wZ (X:Cx) (r:V->Hp->(Bool->Hp->Prop)->Prop):Prop:=
 ∀ (pins:List (Addr×Obj)) (s:Shared) (σ:St) (H:Hp) (x:V) (v:Value) (Q:Bool->Hp->Prop),Inv X pins σ H s->RelV x v->r x H Q ->
  wpAny (model X.prog X.w) X.A (truthy v) (TP X pins σ Q) X.xe s
def tOp (r:R2) (a b:TE):TE:=λσ H Q=>a σ H λx d=>b σ d λy c=>r x y c Q
def tUn (r:V->Hp->VK->Prop) (a:TE):TE:=λσ H Q=>a σ H λx b=>r x b Q
def rI (C:Int->Int->Prop) (g:Int->Int->V):R2:=λx y H Q=>∃ i j,x=.int i/\y=.int j/\C i j/\Q (g i j) H
def rI0 (g:Int->Int->V):R2:=λx y H Q=>∃ i j,x=.int i/\y=.int j/\Q (g i j) H
def rU (g:Int->V):V->Hp->VK->Prop:=λx H Q=>∃ i,x=.int i/\Q (g i) H
section
variable {X:Cx} {a b c:Expr} {ta tb tc:TE} {pos:Pos}
theorem ph (j:PE X a ta) (l:PE X b tb) {pins:List (Addr×Obj)} {s:Shared} {σ:St} {H:Hp} {R:V->V->Hp->Prop} (I:Inv X pins σ H s)
  (h:ta σ H λx g=>tb σ g λy d=>R x y d) {Q:Value->Shared->Prop} {f:Value->Value->Sem Value}
  (o:∀ v u i x y d,Inv X pins σ d i->RelV x v->RelV y u->R x y d->wpAny (model X.prog X.w) X.A (f v u) Q X.xe i) :
  wpAny (model X.prog X.w) X.A (eval a X.env) (λv c=>wpAny (model X.prog X.w) X.A (eval b X.env) (λu e=>wpAny (model X.prog X.w) X.A (f v u) Q X.xe e) X.xe c) X.xe s:=by
 refine thn (j pins s σ H _ I h) λv m ⟨x,g,k,t,n⟩=>?_;refine thn (l pins m σ g _ k n) λu i ⟨y,d,q,p,r⟩=>?_;grind
theorem vV (d:OpR X (binaryOp op) r) (c:PE X a ta) (g:PE X b tb):PE X (.BinOp a op b pos) (tOp r ta tb):=by
 intro pins s σ H Q I h;exact wpAny_BinOp (ph c g I h λv u j x y k e i f q=>d pins j σ k x y v u Q e i f q)
theorem wL (c:UnR X (unaryOp op) r) (b:PE X a ta):PE X (.UnaryOp op a pos) (tUn r ta):=by
 intro pins s σ H Q I h;exact UnaryOp_ (thn (b pins s σ H _ I h) λv f ⟨x,e,d,i,g⟩=>c pins f σ e x v Q d i g)
theorem opI {C:Int->Int->Prop} {g:Int->Int->Int}
  (a:∀ (i j:Int) (t u:Tok) (s:Shared) (Q:Value->Shared->Prop) (E:Value->Shared->Prop),C i j->Q (.int (g i j) s.toks) { s with toks:=s.toks+1 }->wpAny (model X.prog X.w) X.A (f (.int i t) (.int j u)) Q E s) :
  OpR X f (rI C λi j=>.int (g i j)):=by
 intro pins s σ H x y v u Q I d c h;obtain ⟨i,j,rfl,rfl,b,q⟩:=h;obtain ⟨t,rfl⟩:=d;obtain ⟨t',rfl⟩:=c;exact a i j t t' s _ _ b ⟨.int (g i j),H,I.tok _,⟨_,rfl⟩,q⟩
theorem vk {g:Int->Int->Int}
  (a:∀ (i j:Int) (t u:Tok) (s:Shared) (Q:Value->Shared->Prop) (E:Value->Shared->Prop),Q (.int (g i j) s.toks) { s with toks:=s.toks+1 }->wpAny (model X.prog X.w) X.A (f (.int i t) (.int j u)) Q E s) :
  OpR X f (rI0 λi j=>.int (g i j)):=by
 intro pins s σ H x y v u Q I c b h;obtain ⟨i,j,rfl,rfl,q⟩:=h;obtain ⟨t,rfl⟩:=c;obtain ⟨t',rfl⟩:=b;exact a i j t t' s _ _ ⟨.int (g i j),H,I.tok _,⟨_,rfl⟩,q⟩
theorem mI {g:Int->Int->Bool}
  (a:∀ (i j:Int) (t u:Tok) (s:Shared) (Q:Value->Shared->Prop) (E:Value->Shared->Prop),Q (.bool (g i j)) s->wpAny (model X.prog X.w) X.A (f (.int i t) (.int j u)) Q E s) :
  OpR X f (rI0 λi j=>.bl (g i j)):=by
 intro pins s σ H x y v u Q I c b h;obtain ⟨i,j,rfl,rfl,q⟩:=h;obtain ⟨t,rfl⟩:=c;obtain ⟨t',rfl⟩:=b;exact a i j t t' s _ _ ⟨.bl (g i j),H,I,rfl,q⟩
def ji (i j:Int):Prop:=0<j/\j<1073741824
def mV (i j:Int):Prop:=0<=j/\j<=1000000/\i.natAbs<2 ^ 64
def CMul (i j:Int):Prop:=(-(2 ^ 64)<i/\i<2 ^ 64)\/(-(2 ^ 64)<j/\j<2 ^ 64)
theorem CMul.ok (h:CMul i j):IntMulOk i j:=by
 rcases h with ⟨b,a⟩ | ⟨b,a⟩
 ·exact .of_left (intBits_le_64 b a)
 ·exact .of_right (intBits_le_64 b a)
theorem tF:OpR X (binaryOp .Add) (rI0 λi j=>.int (i+j)):=vk λ_ _ _ _ _ _ _ q=>add_int q
theorem rX:OpR X (binaryOp .Sub) (rI0 λi j=>.int (i-j)):=vk λ_ _ _ _ _ _ _ q=>sub_int q
theorem sC:OpR X (binaryOp .Mult) (rI CMul λi j=>.int (i * j)):=opI λ_ _ _ _ _ _ _ a q=>mul_int q a.ok
theorem mN:OpR X (binaryOp .FloorDiv) (rI ji λi j=>.int (i / j)):=opI λi j _ _ _ _ _ a q=>by
 have c:=a.1;have b:=a.2;exact floordiv_int (by omega) (by rw [Int.fdiv_eq_ediv_of_nonneg i (by omega)];exact q) (.inl (PyProof.noPylong_small (by omega)))
theorem rj:OpR X (binaryOp .Mod) (rI (λ_ j=>0<j) λi j=>.int (i % j)):=opI λi j _ _ _ _ _ a q=>by
 have b:=a;exact mod_int' (by omega) (by rw [Int.fmod_eq_emod_of_nonneg i (by omega)];exact q)
theorem rf:OpR X (binaryOp .Pow) (rI mV λi j=>.int (i ^ j.toNat)):=opI λ_ _ _ _ _ _ _ a q=>pow_int_small a.1 a.2.1 a.2.2 q
theorem unI {g:Int->Int}
  (a:∀ (i:Int) (t:Tok) (s:Shared) (Q:Value->Shared->Prop) (E:Value->Shared->Prop),Q (.int (g i) s.toks) { s with toks:=s.toks+1 }->wpAny (model X.prog X.w) X.A (f (.int i t)) Q E s) :
  UnR X f (rU λi=>.int (g i)):=by
 intro pins s σ H x v Q I b h;obtain ⟨i,rfl,q⟩:=h;obtain ⟨t,rfl⟩:=b;exact a i t s _ _ ⟨.int (g i),H,I.tok _,⟨_,rfl⟩,q⟩
theorem pc:UnR X (unaryOp .USub) (rU λi=>.int (-i)):=unI λ_ _ _ _ _ q=>neg_int q
end
def vS:V->V->Bool
 | .non,.non=>true | .non,.int _=>true | .int _,.non=>true | .non,.bl _=>true | .bl _,.non=>true | .non,.str _=>true | .str _,.non=>true
 | .int _,.int _=>true | .bl _,.bl _=>true | .str _,.str _=>true | .byt _,.byt _=>true
 | .int _,.str _=>true | .str _,.int _=>true | .bl _,.str _=>true | .str _,.bl _=>true
 | _,_=>false
def rEq:R2:=λx y H Q=>vS x y=true/\Q (.bl (decide (x=y))) H
def rNe:R2:=λx y H Q=>vS x y=true/\Q (.bl (!decide (x=y))) H
theorem eY {i j:Int}:decide (V.int i=V.int j)=(i==j):=by grind
theorem jd {i j:Bool}:decide (V.bl i=V.bl j)=(i==j):=by grind
theorem eV {i j:Str}:decide (V.str i=V.str j)=(i==j):=by grind
theorem fJ:decide (V.byt i=V.byt j)=(i.toList==j.toList):=by
 rw [Dr];simp_all
section
variable {X:Cx} {a b c:Expr} {ta tb tc:TE} {pos:Pos}
theorem c8 {σ:St} {H:Hp} {s:Shared} {Q:VK} {k a:Bool} (I:Inv X pins σ H s) (q:Q (.bl k) H) (e:k=a):EP X pins σ Q (.bool a) s:=by
 subst e;exact ⟨.bl k,H,I,rfl,q⟩
theorem tw:OpR X (compareOp .Eq) rEq:=by
 intro pins s σ H x y v u Q I rx ry h;obtain ⟨hs,q⟩:=h;cases x with
 | non=>
  cases rx;cases y with
  | non=>cases ry;exact PySem.EqNone.eq_none_none (c8 I q (by simp))
  | bl j=>cases ry;exact PySem.EqNone.eq_none_bool (c8 I q (by simp))
  | int j=>obtain ⟨t',rfl⟩:=ry;exact PySem.EqNone.eq_none_int (c8 I q (by simp))
  | str j=>obtain ⟨t',rfl⟩:=ry;exact PySem.EqNone.eq_none_str (c8 I q (by simp))
  | _=>exact absurd (hs) At
 | bl i=>
  cases rx;cases y with
  | non=>cases ry;exact PySem.EqNone.eq_bool_none (c8 I q (by simp))
  | bl j=>cases ry;exact eq_bool (c8 I q jd)
  | str j=>obtain ⟨t',rfl⟩:=ry;exact PySem.EqMixed.eq_bool_str (c8 I q (by simp))
  | _=>exact absurd (hs) At
 | int i=>
  obtain ⟨t,rfl⟩:=rx;cases y with
  | non=>cases ry;exact PySem.EqNone.eq_int_none (c8 I q (by simp))
  | int j=>obtain ⟨t',rfl⟩:=ry;exact eq_int (c8 I q eY)
  | str j=>obtain ⟨t',rfl⟩:=ry;exact PySem.EqMixed.eq_int_str (c8 I q (by simp))
  | _=>exact absurd (hs) At
 | str i=>
  obtain ⟨t,rfl⟩:=rx;cases y with
  | non=>cases ry;exact PySem.EqNone.eq_str_none (c8 I q (by simp))
  | bl j=>cases ry;exact PySem.EqMixed.eq_str_bool (c8 I q (by simp))
  | int j=>obtain ⟨t',rfl⟩:=ry;exact PySem.EqMixed.eq_str_int (c8 I q (by simp))
  | str j=>obtain ⟨t',rfl⟩:=ry;exact eq_str (c8 I q eV)
  | _=>exact absurd (hs) At
 | byt i=>
  obtain ⟨t,rfl⟩:=rx;cases y with
  | byt j=>obtain ⟨t',rfl⟩:=ry;exact PySem.W.eq_bytes (c8 I q fJ)
  | _=>exact absurd (hs) At
 | _=>cases y <;> exact absurd (hs) At
theorem tX:OpR X (compareOp .NotEq) rNe:=by
 intro pins s σ H x y v u Q I rx ry h;obtain ⟨hs,q⟩:=h;cases x with
 | non=>
  cases rx;cases y with
  | non=>cases ry;exact PySem.EqNone.ne_none_none (c8 I q (by simp))
  | bl j=>cases ry;exact PySem.EqNone.ne_none_bool (c8 I q (by simp))
  | int j=>obtain ⟨t',rfl⟩:=ry;exact PySem.EqNone.ne_none_int (c8 I q (by simp))
  | str j=>obtain ⟨t',rfl⟩:=ry;exact PySem.EqNone.ne_none_str (c8 I q (by simp))
  | _=>exact absurd (hs) At
 | bl i=>
  cases rx;cases y with
  | non=>cases ry;exact PySem.EqNone.ne_bool_none (c8 I q (by simp))
  | bl j=>cases ry;exact ne_bool (c8 I q (congrArg not jd))
  | str j=>obtain ⟨t',rfl⟩:=ry;exact PySem.EqMixed.ne_bool_str (c8 I q (by simp))
  | _=>exact absurd (hs) At
 | int i=>
  obtain ⟨t,rfl⟩:=rx;cases y with
  | non=>cases ry;exact PySem.EqNone.ne_int_none (c8 I q (by simp))
  | int j=>obtain ⟨t',rfl⟩:=ry;exact ne_int (c8 I q (congrArg not eY))
  | str j=>obtain ⟨t',rfl⟩:=ry;exact PySem.EqMixed.ne_int_str (c8 I q (by simp))
  | _=>exact absurd (hs) At
 | str i=>
  obtain ⟨t,rfl⟩:=rx;cases y with
  | non=>cases ry;exact PySem.EqNone.ne_str_none (c8 I q (by simp))
  | bl j=>cases ry;exact PySem.EqMixed.ne_str_bool (c8 I q (by simp))
  | int j=>obtain ⟨t',rfl⟩:=ry;exact PySem.EqMixed.ne_str_int (c8 I q (by simp))
  | str j=>obtain ⟨t',rfl⟩:=ry;exact ne_str (c8 I q (congrArg not eV))
  | _=>exact absurd (hs) At
 | byt i=>
  obtain ⟨t,rfl⟩:=rx;cases y with
  | byt j=>obtain ⟨t',rfl⟩:=ry;exact PySem.W.ne_bytes (c8 I q (congrArg not fJ))
  | _=>exact absurd (hs) At
 | _=>cases y <;> exact absurd (hs) At
theorem uV:OpR X (compareOp .Lt) (rI0 λi j=>.bl (decide (i<j))):=mI λ_ _ _ _ _ _ _ q=>lt_int q
theorem wD:OpR X (compareOp .LtE) (rI0 λi j=>.bl (decide (i<=j))):=mI λ_ _ _ _ _ _ _ q=>le_int q
theorem vF:OpR X (compareOp .Gt) (rI0 λi j=>.bl (decide (j<i))):=mI λ_ _ _ _ _ _ _ q=>gt_int q
theorem vJ:OpR X (compareOp .GtE) (rI0 λi j=>.bl (decide (j<=i))):=mI λ_ _ _ _ _ _ _ q=>ge_int q
theorem pB (d:OpR X (compareOp op) r) (c:PE X a ta) (g:PE X b tb) (k:behindInMarks op b=false):PE X (.Compare a [op] [b] pos) (tOp r ta tb):=by
 intro pins s σ H Q I h;exact wpAny_Compare1 (ph c g I h λv u j x y l e i f q=>d pins j σ l x y v u Q e i f q) k
def uO (t:TE):TT:=λσ H Q=>t σ H λx H'=>∃ k,x=.bl k/\Q k H'
theorem oY (w:OpR X (compareOp op) r) (t:PE X a ta) (j:PE X b tb) (o:behindInMarks op b=false):PT X (.Compare a [op] [b] pos) (uO (tOp r ta tb)):=by
 intro pins s σ H Q I h;refine wpAny_isTrue_Compare1 (thn (t pins s σ H _ I h) λv f ⟨x,m,g,q,p⟩=>thn (j pins f σ m _ g p) λu C ⟨y,D,A,l,d⟩=>
  thn (w pins C σ D x y v u _ A q l d) λc F ⟨z,B,i,E,k,e,n⟩=>?_) o
 subst e;cases E;exact DV ⟨B,i,n⟩
def qJ (K:PySem.W.Frag) (x:V) (H:Hp) (k:Bool):Prop:=
 match x with
 | .non=>k=false
 | .bl b=>k=b
 | .int i=>k=(i != 0)
 | .str y=>y.length<=sizeLine/\k=((y.length:Int) != 0)
 | .byt y=>y.size<=sizeLine/\k=((y.size:Int) != 0)
 | .ref p=>(∃ xs,SqL K H p xs/\k=!xs.isEmpty)\/(∃ xs,SqT K H p xs/\k=!xs.isEmpty)\/∃ a,H p=some (.dK a)/\k=!a.isEmpty
 | _=>False
theorem eE (r:KV kvs vs):(!vs.isEmpty)=!kvs.isEmpty:=by
 cases r <;> rfl
theorem R5 (r:Vals xs its):(!its.toArray.isEmpty)=!xs.isEmpty:=by
 cases r <;> simp
theorem L9:(sizeLine:Nat)<2 ^ 63:=by rw [AD];decide
theorem tH:wZ X (λx H Q=>∃ k,qJ X.K x H k/\Q k H):=by
 intro pins s σ H x v Q I rx h;obtain ⟨k,e,q⟩:=h;have hl:=L9;have hs:=AD;cases x with
 | non=>
  cases rx;have e':=e;subst e';exact truthy_none ⟨H,I,q⟩
 | bl b=>
  cases rx;have e':=e;subst e';exact DV ⟨H,I,q⟩
 | int i=>
  obtain ⟨t,rfl⟩:=rx;have e':=e;subst e';exact PySem.P.truthy_int ⟨H,I,q⟩
 | str y=>
  obtain ⟨t,rfl⟩:=rx;obtain ⟨hy,e'⟩:=e;subst e';exact PySem.P.truthy_str (by omega) ⟨H,I.tok _,q⟩
 | byt y=>
  obtain ⟨t,rfl⟩:=rx;obtain ⟨hy,e'⟩:=e;subst e';exact PySem.W.truthy_bytes (by omega) ⟨H,I.tok _,q⟩
 | ref p=>
  cases rx;have e':=e;rcases e' with ⟨xs,hx,e'⟩ | ⟨xs,hx,e'⟩ | ⟨kvs,hx,e'⟩
  ·subst e';obtain ⟨its,r,pl,hz⟩:=I.list hx;have hlen:=r.length;exact wpAny_truthy_list pl.isList (by simp;omega) ⟨H,I.tok _,by rw [R5 r];exact q⟩
  ·subst e';obtain ⟨its,r,pl,hz⟩:=I.tuple hx;have hlen:=r.length;exact truthy_tuple pl (by simp;omega) ⟨H,I.tok _,by rw [R5 r];exact q⟩
  ·subst e';obtain ⟨hz,hS,vs,r,m⟩:=I.hok p _ hx;have hlen:=Paired.length r;exact wpAny_truthy_dict hS m (by omega) ⟨H,I.tok _,by rw [eE r];exact q⟩
 | _=>exact (e).elim
theorem lD (c:PE X a ta) (d:∀ b,isTrue a X.env b=(do let v <- b;standAt a.pos;holding [v] (truthy v))) :
  PT X a (λσ H Q=>ta σ H λx H'=>∃ k,qJ X.K x H' k/\Q k H'):=by
 intro pins s σ H Q I h;exact isTrue_plain (thn (c pins s σ H _ I h) λv g ⟨x,f,e,j,i⟩=>tH pins g σ f x v Q e j i) (d _)
theorem dR:OpR X (binaryOp .Add) (λx y H Q=>∃ i j,x=.str i/\y=.str j/\i.length+j.length<=sizeLine/\Q (.str (i++j)) H):=by
 intro pins s σ H x y v u Q I b a h;obtain ⟨i,j,rfl,rfl,hz,q⟩:=h;obtain ⟨t,rfl⟩:=b;obtain ⟨t',rfl⟩:=a;exact add_str (λt' c=>⟨.str (i++j),H,I.tok _,⟨_,rfl⟩,q⟩) hz
theorem G1 (r:Vals [x] us):∃ u,us=[u]/\RelV x u:=by
 cases r with
 | cons b a=>cases a;exact ⟨_,rfl,b⟩
theorem pO (r:Vals [x,y] us):∃ u w',us=[u,w']/\RelV x u/\RelV y w':=by
 cases r with
 | cons b a=>
  cases a with
  | cons d c=>cases c;exact ⟨_,_,rfl,b,d⟩
end
theorem hW {h:Heap} {c:Addr} {mA:Str->Option Value} (n:h.Ns1 c mA):∃ od,h.get? c=some od/\∀ name,PySem.W.lookIn name od=some (mA name):=by
 obtain ⟨o,es,k,g,hd,d,_,j⟩:=n;refine ⟨o,g,λname=>?_⟩;have e:=j name;unfold nsFind findBy at e;rw [<- Array.find?_toList] at e;unfold PySem.W.lookIn;rw [hd];dsimp only;split
 ·grind
 ·rename_i q;rw [q] at e;have a:es.toList.any (·.refKey)=false:=by
   rw [List.any_eq_false];intro y f;obtain ⟨z,t,b⟩:=d y (Array.mem_toList_iff.mp f);simp [DictEntry.refKey,b]
  have i:¬ es.toList.any (·.refKey)=true:=by rw [a];exact At
  rw [if_neg i];exact congrArg some e
theorem RelO.some_of (r:RelO (some v) o):∃ u,o=some u/\RelV v u:=by
 cases o with
 | none=>exact (r).elim
 | some u=>exact ⟨u,rfl,r⟩
def E6 (K:PySem.W.Frag) (C:Addr) (f:Str):Prop:=PySem.W.findIn K (.ref C) f=some none
structure Room (q:Bool) (k:Nat) (A:Around):Prop where
 hd:q=false->A.handled=none
 dp:A.depth+3 * k+5<recursionLimit
 un:A.units+16 * k+200<cLine
 gd:A.guards=some []
theorem Room.any {k:Nat} {A:Around} (r:Room false k A):Room q k A:=⟨λ_=>r.hd rfl,r.dp,r.un,r.gd⟩
theorem Room.deeper (r:Room q (k+1) A) (a:Env):Room q k (A.deeper a):=
 ⟨r.hd,by have:=r.dp;show A.depth+1+3 * k+5<_;omega,by have:=r.un;show A.units+3+16 * k+200<_;omega,r.gd⟩
theorem Room.in1 (r:Room q (k+1) A):Room q k A.in1:=
 ⟨r.hd,by have:=r.dp;show A.depth+3 * k+5<_;omega,by have:=r.un;show A.units+1+16 * k+200<_;omega,r.gd⟩
theorem Room.depth (r:Room q k A):A.depth<recursionLimit:=by have:=r.dp;omega
theorem Room.units (r:Room q k A):A.units+64<cLine:=by have:=r.un;omega
def tNil:TA:=λ_ H Q=>Q [] H
def uU (d:TE) (a:TA):TA:=λσ H Q=>d σ H λx c=>a σ c λxs b=>Q (x :: xs) b
section
variable {X:Cx} {e:Expr} {es:List Expr} {te:TE} {t:TA} {pos:Pos}
theorem jF:PA X [] tNil:=λ_ _ _ _ H Q I h=>Bz ⟨[],H,I,.nil,h⟩
theorem ax (a:PE X e te) (g:PA X es t) (hs:starEach (e :: es) X.env=(false,eval e X.env) :: starEach es X.env:=by rfl):PA X (e :: es) (uU te t):=by
 intro pos pins s σ H Q I h;rw [hs];refine Bu (thn (a pins s σ H _ I h) λu j ⟨x,f,d,m,l⟩=>?_);exact thn (g pos pins j σ f _ d l) λus n ⟨xs,k,c,b,i⟩=>⟨x :: xs,k,c,.cons m b,i⟩
def xN (t:TA):TE:=λσ H Q=>t σ H λxs a=>xs.length<=sizeLine/\∀ p,a p=none->Q (.ref p) (upd a p (.tup xs))
def wu (t:TA):TE:=λσ H Q=>t σ H λxs a=>xs.length<=sizeLine/\∀ p,a p=none->Q (.ref p) (upd a p (.lst xs))
theorem rA {x1} (h:PA X es t):PE X (.Tuple es x1 pos) (xN t):=by
 intro pins s σ H Q I f;refine wpAny_Tuple_spliced (thn (h pos pins s σ H _ I f) λus c ⟨xs,g,a,r,z,q⟩=>⟨by rw [<- r.length];exact z,?_⟩);have d:=a.hok.fresh (Ap _);refine ⟨.ref c.heap.objs.size,upd g c.heap.objs.size (.tup xs),a.laid (λb u e=>Ai _ e) (Ap _) ?_,rfl,q _ d⟩;exact ⟨z,us,r,⟨_,Am _ rfl,rfl,_,rfl,rfl⟩⟩
theorem jq (h:PA X es t):PE X (.List es pos) (wu t):=by
 intro pins s σ H Q I f;refine wpAny_List_spliced (thn (h pos pins s σ H _ I f) λus c ⟨xs,g,a,r,z,q⟩=>⟨by rw [<- r.length];exact z,?_⟩);have d:=a.hok.fresh (Ap _);refine ⟨.ref c.heap.objs.size,upd g c.heap.objs.size (.lst xs),a.laid (λb u e=>Ai _ e) (Ap _) ?_,rfl,q _ d⟩;exact ⟨z,us,0,r,Am _ rfl⟩
end
abbrev Sp:=List V->Hp->VK->XK->Prop
structure CXT where
 cx:List Env->Hp->Shared->XK->Value->Shared->Prop
 q:Bool
instance:CoeFun CXT λ_=>List Env->Hp->Shared->XK->Value->Shared->Prop:=⟨CXT.cx⟩
structure Env0 (P:Program) (w:World) (K:PySem.W.Frag) (mg:Str->Option Value) (base:Heap) (A:Around) (outer:List Env) (s:Shared) (H:Hp):Prop where
 frames:A.frames=some outer
 mod:Mod K mg base
 bs:∀ b o,base.get? b=some o->s.heap.get? b=some o/\H b=none
 bsz:base.objs.size<=s.heap.objs.size
 funs:s.heap.FunFrames base outer
 frf:∀ b∈frs outer,H b=none
 hok:HOk P w H s.heap
 bare:AllBare s.gens
def CE (a:List Env) (P:Program) (w:World) (H:Hp) (s:Shared) (Q:VK) (u:Value) (s':Shared):Prop:=
 ∃ v H',s'.os=s.os/\AllBare s'.gens/\Un (frs a) [] H H' s.heap s'.heap/\HOk P w H' s'.heap/\RelV v u/\Q v H'
def CR (CX:CXT) (a:List Env) (P:Program) (w:World) (H:Hp) (s:Shared) (Q:VK) (E:XK) (r:Result) (s':Shared):Prop:=
 match r with
 | .ok (.ret u)=>CE a P w H s Q u s'
 | .ok _=>False
 | .error e=>CX a H s E e s'
structure FnOk (P:Program) (w:World) (K:PySem.W.Frag) (mg:Str->Option Value) (base:Heap) (CX:CXT) (k:Nat) (f:Addr) (fd:FuncData) (ps:List Str) (sp:Sp):Prop where
 len:∀ vs H Q E,sp vs H Q E->vs.length=ps.length
 run:∀ (A:Around) (outer:List Env) (s:Shared) (H:Hp) (args:Args) (us:List Value) (vs:List V) (Q:VK) (E:XK),Room CX.q k A->Env0 P w K mg base A outer s H->BindsTo s fd args (ps.zip us)->Vals vs us->sp vs H Q E ->
  codeAny (model P w) A (.call (.ref f) args) (CR CX outer P w H s Q E) s
theorem FnOk.imp {K:PySem.W.Frag} {d:Str->Option Value} {a:Heap} {CX:CXT} {k:Nat} {f:Addr} {fd:FuncData} {ps:List Str} {sp sp':Sp} (F:FnOk P w K d a CX k f fd ps sp)
  (h:∀ vs H Q E,sp' vs H Q E->sp vs H Q E):FnOk P w K d a CX k f fd ps sp':=
 ⟨λvs H Q E q=>F.len vs H Q E (h _ _ _ _ q),λA b s H c us vs Q E g e i j hs=>F.run A b s H c us vs Q E g e i j (h _ _ _ _ hs)⟩
section
variable {X:Cx} {pins:List (Addr×Obj)} {σ:St} {H:Hp} {s s':Shared}
theorem Inv.env0 (I:Inv X pins σ H s):Env0 X.prog X.w X.K X.mg X.base X.A X.stack s H:=
 ⟨I.ok.frames,I.ok.mod,I.bs,Bk I.ok.bsz I.sz,I.stack,I.stkFree,I.hok,I.bare⟩
theorem Inv.after (I:Inv X pins σ H s) (h:CE X.stack X.prog X.w H s Q u s'):EP X pins σ Q u s':=by
 obtain ⟨v,H',f,a,i,e,r,q⟩:=h;obtain ⟨j,g,d,t,c⟩:=s';obtain rfl:c=s.os:=f;exact ⟨v,H',I.call i e a (λb z=>absurd z (by simp)),r,q⟩
end
def pT (sp:Sp) (a:List V) (E:XK) (t:TA):TE:=λσ H Q=>t σ H λvs b=>sp (vs++a) b Q E
def Binds (K:PySem.W.Frag) (fd:FuncData) (ps:List Str) (ds:List Value):Prop:=
 ∀ (s:Shared) (us:List Value),K.In s.heap->(us++ds).length=ps.length->BindsTo s fd ⟨us,[]⟩ (ps.zip (us++ds))
theorem Binds.all {K:PySem.W.Frag} {fd:FuncData} {ps:List Str} (h:∀ us:List Value,us.length=ps.length->bindArgs fd ⟨us,[]⟩=pure (ps.zip us)):Binds K fd ps []:=λs us _ a=>by
 rw [Bs] at a ⊢;exact .of_eq (h us a)
def aJ (CX:CXT) (X:Cx) (E:XK):Prop:=∀ (pins:List (Addr×Obj)) (σ:St) (H:Hp) (s:Shared) (e:Value) (s':Shared),Inv X pins σ H s->CX X.stack H s E e s'->X.xe e s'
section
variable {X:Cx} {CX:CXT} {k:Nat} {f C:Addr} {fd:FuncData} {ps:List Str} {sp:Sp} {dvs:List V} {ds:List Value} {E:XK} {x m:Str} {p pos apos:Pos} {e o:Expr} {es:List Expr} {ta:TE} {t:TA}
theorem jN {σ:St} {H:Hp} {s:Shared} {Q:VK} {us:List Value} {vs:List V} (F:FnOk X.prog X.w X.K X.mg X.base CX k f fd ps sp) (hr:Room CX.q k X.A) (hb:Binds X.K fd ps ds) (hd:Vals dvs ds) (hx:aJ CX X E)
  (I:Inv X pins σ H s) (r:Vals vs us) (h:sp (vs++dvs) H Q E):wpAny (model X.prog X.w) X.A (call (.ref f) us) (EP X pins σ Q) X.xe s:=by
 have r2:=r.append hd;have hl:(us++ds).length=ps.length:=by rw [<- r2.length];exact F.len _ _ _ _ h
 refine Es (BX (F.run X.A X.stack s H ⟨us,[]⟩ (us++ds) (vs++dvs) Q E hr I.env0 (hb s us I.kIn hl) r2 h) λr s' hq=>?_);cases r with
 | error e=>exact hx pins σ H s e s' I hq
 | ok fl=>
  cases fl with
  | ret u=>exact I.after hq
  | next=>exact False.elim hq
  | brk=>exact False.elim hq
  | cont=>exact False.elim hq
theorem mj (F:FnOk X.prog X.w X.K X.mg X.base CX k f fd ps sp) (l:Room CX.q k X.A) (m:Gl X x) (o:X.mg x=some (.ref f)) (d:PySem.W.keepIn X.K (.ref f)=true) (n:Binds X.K fd ps ds) (hd:Vals dvs ds) (g:aJ CX X E)
  (i:PA X (e :: es) t) (a:(x==("__debug__" : Str))=false:=by decide) (j:starEach (e :: es) X.env=(false,eval e X.env) :: starEach es X.env:=by rfl) (b:(backTo pos (starEach es X.env)).any (·.1)=false:=by rfl) :
  PE X (.Call (.Name x p) (e :: es) [] pos) (pT sp dvs E t):=by
 intro pins s σ H Q I h;refine Bc (av I m o ?_ a);refine PySem.W.callWith_K I.ok.mod.kin d (thn (i pos pins s σ H _ I h) λus v ⟨vs,u,c,r,q⟩=>⟨c.kIn,?_⟩) j b;exact jN F l n hd g c r q
theorem jo (F:FnOk X.prog X.w X.K X.mg X.base CX k f fd ps sp) (d:Room CX.q k X.A) (e:Gl X x) (i:X.mg x=some (.ref f)) (b:PySem.W.keepIn X.K (.ref f)=true) (g:Binds X.K fd ps ds) (hd:Vals dvs ds) (c:aJ CX X E)
  (a:(x==("__debug__" : Str))=false:=by decide):PE X (.Call (.Name x p) [] [] pos) (pT sp dvs E tNil):=by
 intro pins s σ H Q I h;refine Bc (av I e i ?_ a);exact PySem.W.callWith_K0 I.kIn b (jN F d g hd c I .nil h)
end
structure FnScope (N P:List Str) (sc:Scope):Prop where
 kind:sc.kind=.function
 co:sc.isCoroutine=false
 gen:sc.isGenerator=false
 nd:N.Nodup
 pre:N.take P.length=P
 par:∀ x∈P,sc.names.lookup x=some .local\/sc.names.lookup x=some .cell
 nofree:∀ y∈sc.names,y.2≠.free
theorem Z0 {b:Str->Option NameKind} {x:Str}:∀ {a:List (Str×Value)} {m:Str->Option Value},(∀ v,(x,v)∉a)->bindL b a m x=m x
 | [],_,_=>rfl
 | (n,v) :: r,m,h=>by
  unfold bindL;rw [Z0 λw c=>h w (AC _ c)];split
  ·have:x≠n:=by rintro rfl;exact h v Av
   simp [this]
  ·rfl
theorem aA {b:Str->Option NameKind} {x:Str}:∀ {a:List (Str×Value)} {m:Str->Option Value},(∀ v,(x,v)∉a)->bindC b a m x=m x
 | [],_,_=>rfl
 | (n,v) :: r,m,h=>by
  unfold bindC;rw [aA λw c=>h w (AC _ c)];split
  ·rfl
  ·have:x≠n:=by rintro rfl;exact h v Av
   simp [this]
theorem Z9 {a:Str->Option NameKind} {x:Str} {v:Value}:∀ {P:List Str} {vs:List Value} {i:Nat} {m:Str->Option Value},P.Nodup->P[i]?=some x->vs[i]?=some v->a x=some .local ->
  bindL a (P.zip vs) m x=some v
 | [],_,_,_,_,h,_,_=>by simp at h
 | _ :: _,[],_,_,_,_,h,_=>by simp at h
 | p :: P,w :: vs,0,m,d,b,c,e=>by
  simp at b c;subst b;subst c;show bindL a ((p,w) :: P.zip vs) m p=_;unfold bindL;rw [Z0 λv f=>(BV.mp d).1 (Ew f).1,if_pos e];simp
 | p :: P,w :: vs,i+1,m,d,b,c,e=>by
  unfold bindL;exact Z9 (BV.mp d).2 (by simpa using b) (by simpa using c) e
theorem Z3 {a:Str->Option NameKind} {x:Str} {v:Value}:∀ {P:List Str} {vs:List Value} {i:Nat} {m:Str->Option Value},P.Nodup->P[i]?=some x->vs[i]?=some v->a x≠some .local ->
  bindC a (P.zip vs) m x=some v
 | [],_,_,_,_,h,_,_=>by simp at h
 | _ :: _,[],_,_,_,_,h,_=>by simp at h
 | p :: P,w :: vs,0,m,d,b,c,e=>by
  simp at b c;subst b;subst c;show bindC a ((p,w) :: P.zip vs) m p=_;unfold bindC;rw [aA λv f=>(BV.mp d).1 (Ew f).1,if_neg e];simp
 | p :: P,w :: vs,i+1,m,d,b,c,e=>by
  unfold bindC;exact Z3 (BV.mp d).2 (by simpa using b) (by simpa using c) e
def start (N:List Str) (vs:List V):St:=vs.map some++List.replicate (N.length-vs.length) none
def S8 (CX:CXT) (P:Program) (w:World) (K:PySem.W.Frag) (mg:Str->Option Value) (base:Heap) (N:List Str) (qual:Str) (scope:Scope) (f:Addr) (cd:Value) (A:Around) (outer:List Env) (s:Shared) (H:Hp) (E:XK):Cx where
 prog:=P
 w:=w
 K:=K
 mg:=mg
 base:=base
 A:=A.deeper (envOfC qual scope s.heap.objs.size f cd)
 N:=N
 s₀:=s
 H₀:=H
 env:=envOfC qual scope s.heap.objs.size f cd
 outer:=outer
 stack:=envOfC qual scope s.heap.objs.size f cd :: outer
 ex:=[]
 calm:=!CX.q
 fn:=λ_=>true
 pn:=[]
 xe:=λe s'=>wpAny (model P w) (A.deeper (envOfC qual scope s.heap.objs.size f cd)) (leaving (envOfC qual scope s.heap.objs.size f cd) e) (λ_ s''=>CX outer H s E e s'') (λe' s''=>CX outer H s E e' s'') s'
theorem bH {a:Scope} {n:Nat} {x:Str} (h:a.names.lookup x=some .cell):∃ c,(cellsFrom n a.names []).lookup x=some c:=by
 have q:=PySem.W.cellsFrom_some a.names n [] (.inl h);exact Br.mp q
theorem aB {P:Program} {w:World} {K:PySem.W.Frag} {G:Str->Option Value} {l:Heap} {N ps:List Str} {j:Str} {d:Scope} {f:Addr} {F:Value} {A:Around} {g:List Env} {s L:Shared} {H:Hp} {E:XK} {us:List Value} {vs:List V}
  (S:FnScope N ps d) (hd:CX.q=false->A.handled=none) (m:Env0 P w K G l A g s H) (T:vs.length=ps.length) (r:Vals vs us)
  (x:InCallC s s.heap.objs.size (bindL (envOfC j d s.heap.objs.size f F).kindOf (ps.zip us) λ_=>none) (cellsFrom (s.heap.objs.size+1) d.names []) (bindC (envOfC j d s.heap.objs.size f F).kindOf (ps.zip us) λ_=>none) L) :
  Inv (S8 CX P w K G l N j d f F A g s H E) [] (start N vs) H L:=by
 have Q:ps.length<=N.length:=by have:=congrArg List.length S.pre;rw [Bo] at this;omega
 obtain ⟨D,U,rfl,J⟩:=x.done;have n:∀ b:Addr,b∉(S8 CX P w K G l N j d f F A g s H E).ex:=λb z=>absurd (show b∈([]:List Addr) from z) (by simp);refine ⟨⟨m.mod,S.kind,rfl,rfl,Ap _,λy z c D o=>?_,λy t=>?_,λy c _ h=>?_,λz=>hd (by have z:(!CX.q)=true:=z;simpa using z),Around.frames_deeper m.frames,.inr ⟨rfl,rfl⟩,λb z=>absurd z (n b),m.bs,m.bsz,λb _ _=>n b,λb z=>absurd z (n b),m.funs,m.frf⟩,
  rfl,m.bare,Un.kept J,⟨_,x.toInCall.ns,λi y v D o W=>?_⟩,λy c h=>⟨_,x.cell y c h⟩,m.hok.fresh (Ap _),λy c h=>?_,λp C=>absurd (show p∈([]:List (Addr×Obj)) from C) (by simp),m.hok.kept J,?_⟩
 ·exact name_of_addr x.apart (Cc D) (Cc o)
 ·have t:=t;rcases t with t | t
  ·exact bH t
  ·exact absurd rfl (S.nofree _ (Cc t))
 ·exact Ck (x.above y c (Cc h))
 ·have I:i<vs.length:=by
   unfold start at o;by_cases I:i<vs.length
   ·exact I
   ·grind
  have R:vs[i]?=some v:=by
   unfold start at o;rw [Aq (by simpa using I),AG] at o;cases e:vs[i]? with
   | none=>rw [e] at o;cases o
   | some a=>grind
  obtain ⟨u,M,O⟩:=r.get R;have C:ps[i]?=some y:=by
   rw [<- S.pre,List.getElem?_take_of_lt (by omega)];exact D
  have B:ps.Nodup:=by rw [<- S.pre];exact S.nd.sublist (DW _ _)
  refine ⟨u,O,?_⟩;rcases S.par y (AS C) with k | k
  ·exact .inl ⟨k,Z9 B C M k⟩
  ·obtain ⟨c,e⟩:=bH k;refine .inr ⟨.inl k,c,e,?_⟩;have q:=x.cell y c e;rw [Z3 B C M (by show d.names.lookup y≠_;rw [k];decide)] at q;exact q
 ·exact m.hok.fresh (Ck (x.above y c (Cc h)))
 ·unfold start;show _=N.length;rw [Ay,Ak,Da];omega
theorem tP {K:PySem.W.Frag} {mg:Str->Option Value} {base:Heap} {k:Nat} {f:Addr} {name qual:Str} {params:Arguments} {body:List Stmt} {scope:Scope} {dV kV doc pm cdv ct oc:Value} {an od:Option Addr}
  {osl:Array (Option Value)} {N ps:List Str} {sp:Sp} (lk:K.lookup f=some ⟨oc,od,.func (PySem.W.fnOf name qual params body scope dV kV doc pm an cdv ct),osl⟩) (hcd:PySem.W.codeIn K cdv qual=true) (S:FnScope N ps scope)
  (len:∀ vs H Q E,sp vs H Q E->vs.length=ps.length)
  (hbody:∀ (A:Around) (outer:List Env) (s:Shared) (H:Hp) (vs:List V) (Q:VK) (E:XK),Room CX.q k (A.deeper (envOfC qual scope s.heap.objs.size f cdv))->sp vs H Q E ->
   ∃ t,PSs (S8 CX P w K mg base N qual scope f cdv A outer s H E) body t/\t { nx:=λ_ H'=>Q .non H',rt:=Q } (start N vs) H) :
  FnOk P w K mg base CX (k+1) f (PySem.W.fnOf name qual params body scope dV kV doc pm an cdv ct) ps sp:=by
 refine ⟨len,λA outer s H args us vs Q E hr e0 hb r hsp=>?_⟩;have hl:=len _ _ _ _ hsp;have KX:=e0.mod.kin.keeps λb o e=>(e0.bs b o e).1;have lim:=e0.mod.nolimit.keeps λb o e=>(e0.bs b o e).1;have hkind:∀ y∈ps.zip us,scope.names.lookup y.1=some .local\/(scope.names.lookup y.1=some .cell/\((cellsFrom (s.heap.objs.size+1) scope.names []).lookup y.1).isSome=true):=λ⟨n,v⟩ hy=>by
  rcases S.par n (Ew hy).1 with q | q
  ·exact .inl q
  ·exact .inr ⟨q,PySem.W.cellsFrom_some _ _ _ (.inl q)⟩
 refine codeAny_call_function hr.depth (KX _ _ lk) rfl S.co S.gen rfl (PySem.W.codeRec_of KX hcd) (hb _ _ _ _ ?_);refine DL S.kind hkind λenv he s1 x=>?_;subst he;refine ⟨lim.keeps x.toInCall.keep,codeAny_func ?_⟩;obtain ⟨t,ht,hq⟩:=hbody A outer s H vs Q E (hr.deeper _) hsp;have I:Inv (S8 CX P w K mg base N qual scope f cdv A outer s H E) [] (start N vs) H s1:=aB S hr.hd e0 hl r x;refine AI (ht [] s1 (start N vs) H _ I hq) (λfl s' hs=>?_) λe s' hs=>hs;have fin:∀ {σ':St} {H':Hp} {v:V} {u:Value},Inv (S8 CX P w K mg base N qual scope f cdv A outer s H E) [] σ' H' s'->RelV v u->Q v H'->CE outer P w H s Q u s':=
  λ{σ' H' v u} J rv q=>⟨v,H',J.os,J.bare,J.base,J.hok,rv,q⟩
 cases fl with
 | ret u=>
  obtain ⟨v,σ',H',J,rv,q⟩:=hs;exact fin J rv q
 | next=>
  obtain ⟨σ',H',J,q⟩:=hs;exact fin (v:=V.non) J rfl q
 | brk=>
  obtain ⟨_,_,_,q⟩:=hs;exact False.elim q
 | cont=>
  obtain ⟨_,_,_,q⟩:=hs;exact False.elim q
section
variable {X:Cx} {x:Str} {p pos:Pos} {e:Expr} {es:List Expr} {t:TA} {id T:String} {r:List V->Hp->VK->Prop}
def tCB (r:List V->Hp->VK->Prop) (t:TA):TE:=λσ H Q=>t σ H λvs a=>r vs a Q
theorem cD (n:j3 X (.builtin id) r) (l:Gl X x) (m:X.mg x=none) (c:bootBuiltins x=some (.builtin id)) (d:PA X (e :: es) t) (f:x ≠ "__name__":=by decide) (a:(x==("__debug__" : Str))=false:=by decide)
  (g:starEach (e :: es) X.env=(false,eval e X.env) :: starEach es X.env:=by rfl) (b:(backTo pos (starEach es X.env)).any (·.1)=false:=by rfl):PE X (.Call (.Name x p) (e :: es) [] pos) (tCB r t):=by
 intro pins s σ H Q I h;refine Bc (u6 I l m c ?_ f a);exact De (thn (d pos pins s σ H _ I h) λus i ⟨vs,k,j,q,o⟩=>n pins i σ k vs us Q j q o) g b
theorem gy (n:j3 X (.type T) r) (l:Gl X x) (m:X.mg x=none) (c:bootBuiltins x=some (.type T)) (d:PA X (e :: es) t) (f:x ≠ "__name__":=by decide) (a:(x==("__debug__" : Str))=false:=by decide)
  (g:starEach (e :: es) X.env=(false,eval e X.env) :: starEach es X.env:=by rfl) (b:(backTo pos (starEach es X.env)).any (·.1)=false:=by rfl):PE X (.Call (.Name x p) (e :: es) [] pos) (tCB r t):=by
 intro pins s σ H Q I h;refine Bc (u6 I l m c ?_ f a);exact AX (thn (d pos pins s σ H _ I h) λus i ⟨vs,k,j,q,o⟩=>n pins i σ k vs us Q j q o) g b
end
end L2
namespace HT
open PySem PyProof.Rows
section
variable {prog:Program} {w:World} {A:Around} {E:Value->Shared->Prop} {s:Shared}
theorem cat_tup (q:IsTup s.heap t vs.toArray) (v:IsTup s.heap b ws.toArray) (p:vs≠[])
  (r:ws=[]->Q (.ref t) s) (u:ws≠[]->Q (.ref s.heap.objs.size) { s with heap:=s.heap.push { cls:=.type "tuple",data:=.seq (vs++ws).toArray } })
  (hsz:vs.length+ws.length<=sizeLine):wpAny (model prog w) A (binaryOp .Add (.ref t) (.ref b)) Q E s:=by
 obtain ⟨⟨cls,k,data,o⟩,f,x,n,hd⟩:=id q;obtain ⟨⟨m,d,i,c⟩,a,h,l,j⟩:=id v;subst x hd h j;have e:vs.toArray++ws.toArray=(vs++ws).toArray:=by simp
 by_cases g:ws=[]
 ·exact concat_meets ⟨_,f,rfl⟩ ⟨_,a,rfl⟩ Ei EG CU CQ (CK _ _)
   (tuple_addW1 t b vs.toArray ws.toArray n l k d o c (by simpa using p) (by simp [g])) ⟨f,a,r g⟩
 ·refine concat_meets ⟨_,f,rfl⟩ ⟨_,a,rfl⟩ Ei EG CU CQ (CK _ _)
   (tuple_addW2 t b vs.toArray ws.toArray n l k d o c (by simpa using p) (by simpa using g) (by rw [An,An];exact hsz)) ⟨f,a,?_⟩
  rw [e];exact u g
def sIx (n d:Nat):Option Int->Nat
 | none=>d
 | some v=>if v<0 then (v+(n:Int)).toNat else min v.toNat n
theorem sIx_none (n d:Nat):sIx n d none=d:=rfl
theorem pa (n d:Nat) (hd:d<=n) (o:Option Int):sIx n d o<=n:=by
 cases o with
 | none=>exact hd
 | some v=>
  show (if v<0 then (v+(n:Int)).toNat else min v.toNat n)<=n;by_cases a:v<0
  ·rw [if_pos a];omega
  ·grind
theorem fM (v:Int) (n d:Nat):(if v<0 then max (v+(n:Int)) 0 else min v (n:Int))=((sIx n d (some v):Nat):Int):=by
 show (if v<0 then max (v+(n:Int)) 0 else min v (n:Int))=(((if v<0 then (v+(n:Int)).toNat else min v.toNat n):Nat):Int);grind
theorem eH (lo hi:Option Int) (n:Nat):Builtin.Slice.sliceAdjust lo hi 1 (n:Int)=(((sIx n 0 lo:Nat):Int),((sIx n n hi:Nat):Int)):=by
 have h1:¬ ((1:Int)<0):=by omega
 refine Prod.ext ?_ ?_
 ·cases lo with
  | none=>rfl
  | some v=>exact fM v n 0
 ·cases hi with
  | none=>rfl
  | some v=>exact fM v n n
theorem cw (i j:Nat):Builtin.Slice.slicePlaces (i:Int) (j:Int) 1=j-i:=by
 unfold Builtin.Slice.slicePlaces;grind
theorem U6 (p:IsPart v o) (h:Q o s):wpAny (model prog w) A (Builtin.Slice.slicePartIndex v) Q E s:=by
 cases p with
 | none=>exact slicePart_none h
 | int i t=>exact slicePart_int h
theorem sliceApplied_gen {lo hi:Option Int} {n:Nat} {Q:Int×Int×Nat->Shared->Prop} (hs:s.heap.IsSliceOf sl vl vu .none) (pl:IsPart vl lo) (pu:IsPart vu hi)
  (h:Q (((sIx n 0 lo:Nat):Int),1,sIx n n hi-sIx n 0 lo) s):wpAny (model prog w) A (Builtin.Slice.sliceApplied (.ref sl) (pure (n:Int))) Q E s:=by
 obtain ⟨os,hos,hcs,hds⟩:=id hs;refine Ag (Ag (CS hos hds rfl (Ag (CS hos hds rfl (Ag (CS hos hds rfl (Ah ?_)))))));refine Ag (slicePart_none ?_);rw [if_neg (by decide)];refine Ag (U6 pl (Ag (U6 pu (Ag (Ah ?_)))));show wpAny _ _ (match Builtin.Slice.sliceAdjust lo hi 1 (n:Int) with | (lo,hi)=>pure (lo,(1:Int),Builtin.Slice.slicePlaces lo hi 1)) _ _ s;rw [eH lo hi n];show wpAny _ _ (pure (((sIx n 0 lo:Nat):Int),(1:Int),Builtin.Slice.slicePlaces ((sIx n 0 lo:Nat):Int) ((sIx n n hi:Nat):Int) 1)) _ _ s;rw [cw];exact Ah h
theorem jT (xs:Array Value) (i k:Nat):((List.range k).filterMap λ(m:Nat)=>xs[((i:Int)+(m:Int) * 1).toNat]?).toArray=((xs.toList.drop i).take k).toArray:=by
 have e:(λ(m:Nat)=>xs[((i:Int)+(m:Int) * 1).toNat]?)=λm=>xs[i+m]?:=by
  funext m;have:((i:Int)+(m:Int) * 1).toNat=i+m:=by omega
  rw [this]
 rw [e];have:=pick_run xs i k;rw [List.filterMap_map] at this;have e2:((λx=>xs[x]?) ∘ λx=>i+x)=λm=>xs[i+m]?:=rfl;grind
theorem getItem_tuple_cut {items:Array Value} {i j:Value} {lo b:Option Int} {Q:Value->Shared->Prop} (c:IsTup s.heap t items) (hs:s.heap.IsSliceOf sl i j .none) (pl:IsPart i lo) (k:IsPart j b)
  (m:¬ (sIx items.size 0 lo=0/\sIx items.size items.size b=items.size))
  (h:Q (.ref s.heap.objs.size) { s with heap:=s.heap.push { cls:=.type "tuple",data:=.seq ((items.toList.drop (sIx items.size 0 lo)).take (sIx items.size items.size b-sIx items.size 0 lo)).toArray } })
  (hsz:items.size<=sizeLine):wpAny (model prog w) A (getItem (.ref t) (.ref sl)) Q E s:=by
 have a:sizeOk (.seq ((items.toList.drop (sIx items.size 0 lo)).take (sIx items.size items.size b-sIx items.size 0 lo)).toArray):=by
  show ((items.toList.drop (sIx items.size 0 lo)).take (sIx items.size items.size b-sIx items.size 0 lo)).toArray.size<=sizeLine;rw [An,Bo,Ej,Ax];omega
 have n:sIx items.size items.size b<=items.size:=pa _ _ (Ap _) b;obtain ⟨l,d,e,hds⟩:=id hs;have g:s.TypeIs (.ref sl) "slice":=⟨l,d,e⟩;unfold getItem;try with_reducible refine AJ ?_
 first | refine Ag (Ah ?_) | skip
 refine Ag (wpAny_sequenceKey c.typeIs (by decide) ?_);refine Ag (Bv c.typeIs BH
  (AY BH c.typeIs entry_tuple_getitem ?_ (args_tuple_getitem _ _)))
 show wpAny _ _ (Builtin.Tuple.tupleItemsOf (.ref t) >>= _) _ _ s;refine Ag (Ed c ?_);refine Ag (Cm g ?_);rw [if_pos (by decide)];refine Ag (sliceApplied_gen hs pl k ?_);have f:¬ ((((sIx items.size 0 lo:Nat):Int)==0&&(1:Int)==1&&(sIx items.size items.size b-sIx items.size 0 lo)==items.size)=true):=by
  intro q;rw [Al,Al] at q;have p:=eq_of_beq q.1.1;have o:=eq_of_beq q.2;exact m ⟨by omega,by omega⟩
 show wpAny _ _ (if (((sIx items.size 0 lo:Nat):Int)==0&&(1:Int)==1&&(sIx items.size items.size b-sIx items.size 0 lo)==items.size)=true then _ else _) _ _ s;rw [if_neg f,jT];first
  | exact Ag (AK (Ah ⟨_,rfl,Ah h⟩) a)
  | exact Ag (AK (Ag (Ah (Ah ⟨_,rfl,Ah h⟩))) a)
  | exact Ag (Ag (AK (Ah (Ah ⟨_,rfl,Ah h⟩)) a))
  | exact Ag (Ag (AK (Ah ⟨_,rfl,Ah h⟩) a))
end
end HT
namespace L2
open PySem PySem.Spec PyProof.Rows
abbrev TO:=St->Hp->(Option Int->Hp->Prop)->Prop
def PO (X:Cx) (e:Option Expr) (t:TO):Prop:=
 ∀ (pins:List (Addr×Obj)) (s:Shared) (σ:St) (H:Hp) (Q:Option Int->Hp->Prop),Inv X pins σ H s->t σ H Q ->
  wpAny (model X.prog X.w) X.A (evalPart e X.env) (λu s'=>∃ o H',Inv X pins σ H' s'/\IsPart u o/\Q o H') X.xe s
def tNoPart:TO:=λ_ H Q=>Q none H
def va (t:TE):TO:=λσ H Q=>t σ H λx a=>∃ i,x=.int i/\Q (some i) a
section
variable {X:Cx} {e:Expr} {te:TE} {lo hi:Option Expr} {tl th:TO} {pos p2:Pos}
theorem mC:PO X none tNoPart:=by
 intro pins s σ H Q I h;rw [evalPart_none];exact Ah ⟨none,H,I,.none,h⟩
theorem mz (h:PE X e te):PO X (some e) (va te):=by
 intro pins s σ H Q I f;rw [evalPart_some];refine thn (h pins s σ H _ I f) λu g ⟨x,b,a,d,c⟩=>?_;obtain ⟨i,rfl,q⟩:=c;obtain ⟨t,rfl⟩:=d;exact ⟨some i,b,a,.int i t,q⟩
def SlR (X:Cx) (r:V->Option Int->Option Int->Hp->VK->Prop):Prop:=
 ∀ (pins:List (Addr×Obj)) (s:Shared) (σ:St) (H:Hp) (x:V) (v c b:Value) (lo a:Option Int) (d:Addr) (Q:VK),Inv X pins σ H s->RelV x v->s.heap.IsSliceOf d c b .none->IsPart c lo->IsPart b a->r x lo a H Q ->
  ∃ T id,typeLookup (.type T) "__getitem__" = pure (some (.builtin id))/\s.TypeIs v T/\wpAny (model X.prog X.w) X.A (getItem v (.ref d)) (EP X pins σ Q) X.xe s
def tSl (r:V->Option Int->Option Int->Hp->VK->Prop) (te:TE) (a d:TO):TE:=λσ H Q=>te σ H λx c=>a σ c λl e=>d σ e λu b=>r x l u b Q
theorem ky (j:SlR X r) (o:PE X e te) (g:PO X lo tl) (J:PO X hi th):PE X (.Subscript e (.Slice lo hi none p2) pos) (tSl r te tl th):=by
 intro pins s σ H Q I h;refine Subscript_ (thn (o pins s σ H _ I h) λv m ⟨x,y,t,C,B⟩=>?_);refine wpAny_Slice (thn (g pins m σ y _ t B) λc F ⟨l,G,D,pl,i⟩=>thn (J pins F σ G _ D i) λd a ⟨u,f,w,n,z⟩=>?_);rw [evalPart_none];refine Ah ?_;have k:Inv X pins σ f { a with heap:=a.heap.push { cls:=.type "slice",data:=.fields #[c,d,.none] } }:=w.kept λb ob q=>Ai _ q;obtain ⟨T,id,A,p,E⟩:=j pins { a with heap:=a.heap.push { cls:=.type "slice",data:=.fields #[c,d,.none] } } σ f x v c d l u a.heap.objs.size Q k C (Heap.IsSliceOf.new ..) pl n z;exact tail_any p A E (by with_unfolding_all rfl)
def gT (xs:List V) (lo a:Option Int):List V:=(xs.drop (HT.sIx xs.length 0 lo)).take (HT.sIx xs.length xs.length a-HT.sIx xs.length 0 lo)
theorem O9 (xs:List V) (lo a:Option Int):(gT xs lo a).length<=xs.length:=by
 unfold gT;grind
def wS (K:PySem.W.Frag):V->Option Int->Option Int->Hp->VK->Prop:=λx lo b H Q=>∃ a xs,x=.ref a/\SqT K H a xs /\
 ¬ (HT.sIx xs.length 0 lo=0/\HT.sIx xs.length xs.length b=xs.length)/\∀ p,H p=none->Q (.ref p) (upd H p (.tup (gT xs lo b)))
theorem si:SlR X (wS X.K):=by
 intro pins s σ H x v l m lo e n Q I j hs pl i h;obtain ⟨a,xs,rfl,g,k,q⟩:=h;cases j;obtain ⟨d,r,f,hz⟩:=I.tuple g;have c:d.toArray.size=xs.length:=by rw [An];exact r.length.symm
 refine ⟨"tuple",_,PyProof.Rows.slot_tuple_getitem.lookup,f.typeIs,?_⟩;refine HT.getItem_tuple_cut f hs pl i (by rw [c];exact k) ?_ (by rw [c];exact hz);rw [c];refine ⟨.ref s.heap.objs.size,_,I.laid (λb ob q=>Ai _ q) (Ap _) ?_,rfl,q _ (I.hok.fresh (Ap _))⟩;exact ⟨Bk (O9 xs lo e) hz,_,(r.drop (HT.sIx xs.length 0 lo)).take (HT.sIx xs.length xs.length e-HT.sIx xs.length 0 lo),TupN.new _ _⟩
def vN (K:PySem.W.Frag):R2:=λx y H Q=>∃ a b xs ys,x=.ref a/\y=.ref b/\SqT K H a xs/\SqT K H b ys/\xs≠[]/\xs.length+ys.length<=sizeLine /\
 (ys=[]->Q (.ref a) H)/\(ys≠[]->∀ p,H p=none->Q (.ref p) (upd H p (.tup (xs++ys))))
theorem Vals.nil_iff (r:Vals xs us):us=[]↔xs=[]:=by
 cases r with
 | nil=>simp
 | cons _ _=>simp
theorem oN:OpR X (binaryOp .Add) (vN X.K):=by
 intro pins s σ H x y v u Q I n k h;obtain ⟨a,b,xs,ys,rfl,rfl,g,m,f,hz,p,l⟩:=h;cases n;cases k;obtain ⟨j,d,o,_⟩:=I.tuple g;obtain ⟨e,c,i,_⟩:=I.tuple m;refine HT.cat_tup o i (λz=>f (d.nil_iff.mp z)) (λz=>⟨.ref a,H,I,rfl,p (c.nil_iff.mp z)⟩) (λz=>?_) (by rw [<- d.length,<- c.length];exact hz);refine ⟨.ref s.heap.objs.size,_,I.laid (λb ob q=>Ai _ q) (Ap _) ?_,rfl,l (λw=>z (c.nil_iff.mpr w)) _ (I.hok.fresh (Ap _))⟩;exact ⟨by rw [Ay];exact hz,_,d.append c,TupN.new _ _⟩
end
def ixN (n:Nat) (i:Int):Option Nat:=if 0<=i then (if i<n then some i.toNat else none) else if -(n:Int)<=i then some (i+n).toNat else none
def atI {a:Type} (xs:List a) (i:Int):Option a:=(ixN xs.length i).bind λj=>xs[j]?
theorem aE (h:ixN n i=some j):seqIndex? i n=some j/\j<n/\-(n:Int)<=i/\i<n:=by
 unfold ixN at h;by_cases b:0<=i
 ·rw [if_pos b] at h;by_cases a:i<n
  ·rw [if_pos a] at h;have e:=AR h;exact ⟨by rw [seqIndex_of b a,e],by omega,by omega,a⟩
  ·grind
 ·rw [if_neg b] at h;by_cases a:-(n:Int)<=i
  ·rw [if_pos a] at h;have e:=AR h;exact ⟨by rw [seqIndex_neg (by omega) a,e],by omega,a,by omega⟩
  ·grind
theorem fg (h:atI xs i=some v):∃ j,seqIndex? i xs.length=some j/\xs[j]?=some v/\j<xs.length/\-(xs.length:Int)<=i/\i<xs.length:=by
 unfold atI at h;cases e:ixN xs.length i with
 | none=>rw [e] at h;cases h
 | some j=>
  rw [e] at h;obtain ⟨c,b,a,d⟩:=aE e;exact ⟨j,c,h,b,a,d⟩
theorem aG {j:Nat} {v:α} (h:xs[j]?=some v):atI xs (j:Int)=some v:=by
 have hj:=(As.mp h).1;have e:ixN xs.length (j:Int)=some j:=by
  unfold ixN;rw [if_pos (by omega),if_pos (by omega)];simp
 unfold atI;rw [e];exact h
def al (b:Expr):Prop:=∀ o i,subscripted b false o i=operate [o,i] (getItem o i)
def IxR (X:Cx) (r:R2):Prop:=
 ∀ (b a:Expr) (pins:List (Addr×Obj)) (s:Shared) (σ:St) (H:Hp) (x y:V) (v u:Value) (Q:VK),Inv X pins σ H s->RelV x v->RelV y u->r x y H Q ->
  subscripted a false v u=operate [v,u] (getItem v u)->wpAny (model X.prog X.w) X.A (subscriptTail b a v u) (EP X pins σ Q) X.xe s
def MtR (X:Cx) (id:String) (r:V->List V->Hp->VK->Prop):Prop:=
 ∀ (pins:List (Addr×Obj)) (s:Shared) (σ:St) (H:Hp) (x:V) (xs:List V) (v:Value) (us:List Value) (Q:VK),Inv X pins σ H s->RelV x v->Vals xs us->r x xs H Q ->
  wpAny (model X.prog X.w) X.A (call (.builtin id) (v :: us)) (EP X pins σ Q) X.xe s
section
variable {X:Cx} {a b:Expr} {ta tb:TE} {pos:Pos}
theorem pJ (f:IxR X r) (c:PE X a ta) (g:PE X b tb) (hs:al b):PE X (.Subscript a b pos) (tOp r ta tb):=by
 intro pins s σ H Q I h;exact Subscript_ (ph c g I h λv u j x y k d i e q=>f a b pins j σ k x y v u Q d i e q (hs _ _))
def wh (K:PySem.W.Frag):R2:=λx y H Q=>∃ p xs i v,x=.ref p/\y=.int i/\SqL K H p xs/\atI xs i=some v/\Q v H
def xR (K:PySem.W.Frag):R2:=λx y H Q=>∃ p xs i v,x=.ref p/\y=.int i/\SqT K H p xs/\atI xs i=some v/\Q v H
theorem nM:IxR X (wh X.K):=by
 intro f e pins s σ H x y v u Q I D n h hs;obtain ⟨p,xs,i,z,rfl,rfl,E,A,q⟩:=h;cases D;obtain ⟨t,rfl⟩:=n;obtain ⟨d,r,pl,hz⟩:=I.list E;obtain ⟨j,b,C,G,m,B⟩:=fg A;obtain ⟨w,k,c⟩:=r.get C;have o:=r.length;have F:=L9;have a:EP X pins σ Q w s:=⟨z,H,I,c,q⟩;by_cases l:0<=i
 ·have g:i.toNat=j:=by
   rw [seqIndex_of l B] at b;exact AR b
  exact item_listR pl.isList l (by omega) (by rw [g];simpa using k) a hs
 ·have g:(i+(d.toArray.size:Int)).toNat=j:=by
   rw [seqIndex_neg (by omega) m] at b;rw [An,<- o];exact AR b
  exact subscriptTail_builtinR pl.isList.typeIs slot_list_getitem.lookup
   (wpAny_getItem_list_neg pl.isList (by omega) (by rw [An] <;> omega) (by omega) (by rw [g];simpa using k) ⟨rfl,a⟩) hs
theorem kZ:IxR X (xR X.K):=by
 intro b d pins s σ H x y v u Q I A l h hs;obtain ⟨p,xs,i,z,rfl,rfl,g,e,q⟩:=h;cases A;obtain ⟨t,rfl⟩:=l;obtain ⟨k,r,pl,hz⟩:=I.tuple g;obtain ⟨j,f,o,D,C,E⟩:=fg e;obtain ⟨w,n,c⟩:=r.get o;have m:=r.length;have B:=L9;have a:EP X pins σ Q w s:=⟨z,H,I,c,q⟩;exact subscriptTail_builtinR pl.typeIs slot_tuple_getitem.lookup
  (getItem_tuple pl (by omega) (by omega) (by rw [An,<- m];exact f) (by simpa using n) ⟨rfl,a⟩) hs
theorem dz (a:List Value) (n j:Nat) (u:Value):Obj.mapSeq (·.setIfInBounds j u) { cls:=.type "list",data:=.seq a.toArray n }={ cls:=.type "list",data:=.seq (a.set j u).toArray n }:=by
 simp [Obj.mapSeq]
theorem Inv.lst {σ:St} {H:Hp} {s:Shared} {p:Addr} {xs:List V} (I:Inv X pins σ H s) (h:H p=some (.lst xs)) :
  ∃ (a:List Value) (n:Nat),Vals xs a/\s.heap.get? p=some { cls:=.type "list",data:=.seq a.toArray n }/\xs.length<=sizeLine:=by
 obtain ⟨z,a,n,r,e⟩:=I.hok p _ h;grind
theorem Inv.lstUpd {σ:St} {H:Hp} {s:Shared} {p:Addr} {xs ys:List V} {a its':List Value} {n c:Nat} {f:Obj->Obj} (I:Inv X pins σ H s) (h:H p=some (.lst xs))
  (g:s.heap.get? p=some { cls:=.type "list",data:=.seq a.toArray n }) (d:f { cls:=.type "list",data:=.seq a.toArray n }={ cls:=.type "list",data:=.seq its'.toArray c }) (r:Vals ys its') (hz:ys.length<=sizeLine) (t:Nat) :
  Inv X pins σ (upd H p (.lst ys)) { s with heap:=s.heap.update p f,toks:=t }:=by
 have e:(s.heap.update p f).get? p=some { cls:=.type "list",data:=.seq its'.toArray c }:=by
  rw [Bd f g (by rw [d] <;> rfl),d]
 refine I.write (by rw [h];trivial) (.inl rfl) (λb u i q=>(BA _ _ (Ne.symm i)).trans q) ⟨_,e⟩ ?_;exact ⟨hz,its',c,r,e⟩
def rSetL:V->V->V->Hp->(Hp->Prop)->Prop:=λo i v H Q=>∃ p xs k j,o=.ref p/\i=.int k/\H p=some (.lst xs)/\ixN xs.length k=some j/\Q (upd H p (.lst (xs.set j v)))
theorem jB:se X rSetL:=by
 intro pins s σ H o i v D B u Q I z x A h;obtain ⟨p,xs,k,j,rfl,rfl,f,y,q⟩:=h;cases z;obtain ⟨t,rfl⟩:=x;obtain ⟨a,n,r,d,hz⟩:=I.lst f;obtain ⟨b,E,w,l⟩:=aE y;have e:=r.length;have C:=L9;have g:Inv X pins σ (upd H p (.lst (xs.set j v))) { s with heap:=s.heap.update p (Obj.mapSeq (·.setIfInBounds j u)) }:=
  I.lstUpd f d (dz a n j u) (r.set A j) (by rw [List.length_set];exact hz) s.toks
 by_cases m:0<=k
 ·have c:k.toNat=j:=by
   rw [seqIndex_of m l] at b;exact AR b
  exact PySem.W.ki_setAt d m (by omega) (by rw [An,<- e];exact l) (by rw [c];exact ⟨_,g,q⟩)
 ·have c:(k+(a.toArray.size:Int)).toNat=j:=by
   rw [seqIndex_neg (by omega) w] at b;rw [An,<- e];exact AR b
  exact PySem.W.ki_setBack d (by omega) (by rw [An,<- e];exact w) (by omega) (by rw [c];exact ⟨_,g,q⟩)
theorem aI (lo a:Option Int) (n:Nat):(sliceBounds lo a none n).1=((HT.sIx n 0 lo:Nat):Int)/\(sliceBounds lo a none n).2.1=((HT.sIx n n a:Nat):Int)/\(sliceBounds lo a none n).2.2=1:=by
 refine ⟨?_,?_,rfl⟩
 ·cases lo with
  | none=>simp [sliceBounds,HT.sIx]
  | some i=>
   simp only [sliceBounds,HT.sIx,Option.getD_none,show (1:Int) > 0 by decide,if_true];by_cases h:i<0
   ·grind
   ·grind
 ·cases a with
  | none=>simp [sliceBounds,HT.sIx]
  | some i=>
   simp only [sliceBounds,HT.sIx,Option.getD_none,show (1:Int) > 0 by decide,if_true];by_cases h:i<0
   ·grind
   ·grind
theorem X6 (a:List Value) (lo b:Option Int):slicePick a.toArray lo b none=((a.drop (HT.sIx a.length 0 lo)).take (HT.sIx a.length a.length b-HT.sIx a.length 0 lo)).toArray:=by
 obtain ⟨c,d,e⟩:=aI lo b a.toArray.size;unfold slicePick;rw [c,d,e];simp only [sliceRange_one,pick_run,An] <;> rfl
def xA (K:PySem.W.Frag):V->Option Int->Option Int->Hp->VK->Prop:=λx lo b H Q=>∃ a xs,x=.ref a/\SqL K H a xs/\∀ p,H p=none->Q (.ref p) (upd H p (.lst (gT xs lo b)))
theorem mY:SlR X (xA X.K):=by
 intro pins s σ H x v k l lo d m Q I j hs pl g h;obtain ⟨a,xs,rfl,f,q⟩:=h;cases j;obtain ⟨i,r,e,hz⟩:=I.list f;have c:=r.length;refine ⟨"list",_,slot_list_getitem.lookup,e.isList.typeIs,?_⟩;refine wpAny_getItem_list_slice e.isList hs pl g .none (by simp) ?_ (by rw [An] <;> omega);rw [X6,<- c];refine ⟨.ref s.heap.objs.size,_,I.laid (λb ob q=>Ai _ q) (Ap _) ?_,rfl,q _ (I.hok.fresh (Ap _))⟩;exact ⟨Bk (O9 xs lo d) hz,_,0,(r.drop (HT.sIx xs.length 0 lo)).take (HT.sIx xs.length xs.length d-HT.sIx xs.length 0 lo),Am _ rfl⟩
theorem aV:j3 X (.builtin "len") (λxs H Q=>∃ p ys,xs=[.ref p]/\(SqL X.K H p ys\/SqT X.K H p ys)/\Q (.int ys.length) H):=by
 intro pins s σ H xs us Q I r h;obtain ⟨p,ys,rfl,b,q⟩:=h;obtain ⟨u,rfl,e⟩:=G1 r;cases e;have f:=L9;rcases b with b | b
 ·obtain ⟨d,c,pl,hz⟩:=I.list b;have a:=c.length;exact Calls.call_len_list pl.isList (by simp <;> omega) ⟨.int ys.length,H,I.tok _,⟨s.toks+1,by rw [An,a]⟩,q⟩
 ·obtain ⟨d,c,pl,hz⟩:=I.tuple b;have a:=c.length;exact len_tuple pl (by simp <;> omega) ⟨.int ys.length,H,I.tok _,⟨s.toks+1,by rw [An,a]⟩,q⟩
theorem aO:j3 X (.builtin "len") (λxs H Q=>∃ z,xs=[.str z]/\z.length<=sizeLine/\Q (.int z.length) H):=by
 intro pins s σ H xs us Q I r h;obtain ⟨z,rfl,hz,q⟩:=h;obtain ⟨u,rfl,t,rfl⟩:=G1 r;have hn:=L9;exact len_str (by omega) ⟨.int z.length,H,I.tok _,⟨_,rfl⟩,q⟩
theorem J9:j3 X (.type "list") (λxs H Q=>∃ p ys,xs=[.ref p]/\(SqL X.K H p ys\/SqT X.K H p ys)/\∀ l,H l=none->Q (.ref l) (upd H l (.lst ys))):=by
 intro pins s σ H xs us Q I r h;obtain ⟨p,ys,rfl,j,q⟩:=h;obtain ⟨u,rfl,t⟩:=G1 r;cases t;have i:∀ (a:List Value),Vals ys a->ys.length<=sizeLine->∀ (h':Heap) (c:Nat),(∀ b o',s.heap.get? b=some o'->h'.get? b=some o') ->
   h'.get? s.heap.objs.size=some { cls:=.type "list",dict:=none,data:=.seq a.toArray c,slots:=#[] }->EP X pins σ Q (.ref s.heap.objs.size) { s with heap:=h' }:=λa d hz h' c g e=>
  ⟨.ref s.heap.objs.size,_,I.laid g (Ap _) (show ObjOk X.prog X.w _ h' _ (.lst ys) from ⟨hz,a,c,d,e⟩),rfl,q _ (I.hok.fresh (Ap _))⟩
 rcases j with j | j
 ·obtain ⟨a,d,pl,hz⟩:=I.list j;have f:=d.length;obtain ⟨o,k,m,n,hd⟩:=pl.isList;exact call_list_seq p (.inl rfl) k m hd (λh' c g e=>i a d hz h' c g e) (by simp <;> omega)
 ·obtain ⟨a,d,pl,hz⟩:=I.tuple j;have f:=d.length;obtain ⟨o,k,m,n,hd⟩:=pl;exact call_list_seq p (.inr rfl) k m hd (λh' c g e=>i a d hz h' c g e) (by simp <;> omega)
theorem D8:j3 X (.type "tuple") (λxs H Q=>∃ p ys,xs=[.ref p]/\((SqL X.K H p ys/\∀ l,H l=none->Q (.ref l) (upd H l (.tup ys)))\/(SqT X.K H p ys/\Q (.ref p) H))):=by
 intro pins s σ H xs us Q I r h;obtain ⟨p,ys,rfl,h⟩:=h;obtain ⟨u,rfl,k⟩:=G1 r;cases k;rcases h with ⟨c,q⟩ | ⟨c,q⟩
 ·obtain ⟨a,d,pl,hz⟩:=I.list c;have f:=d.length;refine call_tuple_list pl.isList (λh' i=>?_) (by simp <;> omega);have g:=I.kept (t':=s.toks) i;have j:Inv X pins σ (upd H h'.objs.size (.tup ys)) { s with heap:=h'.push { cls:=.type "tuple",data:=.seq a.toArray } }:=
   g.laid (λb o e=>Ai _ e) (Ap _) (⟨hz,a,d,TupN.new _ _⟩)
  exact ⟨.ref h'.objs.size,_,j,rfl,q _ (g.hok.fresh (Ap _))⟩
 ·obtain ⟨a,d,pl,hz⟩:=I.tuple c;exact call_tuple_same pl ⟨.ref p,H,I,rfl,q⟩
def tyV (K:PySem.W.Frag) (T:String) (x:V) (H:Hp):Prop:=match x with
 | .str _=>T = "str"
 | .int _=>T = "int"
 | .ref p=>(T = "list"/\∃ xs,SqL K H p xs)\/(T = "tuple"/\∃ o,K.lookup p=some o/\o.cls=.type "tuple"/\o.dict=none) \/
   (T = "dict"/\((∃ a,H p=some (.dK a))\/∃ a,H p=some (.dT a)))\/(T = "set"/\∃ S n,H p=some (.set S n))\/(T = "tuple"/\∃ xs,Rd H p (.tup xs))
 | _=>False
theorem aZ {σ:St} {H:Hp} {s:Shared} {T:String} {x:V} {v:Value} (I:Inv X pins σ H s) (r:RelV x v) (ty:tyV X.K T x H) :
  s.TypeIs v T/\∀ a,v=.ref a->∃ ob,s.heap.get? a=some ob/\ob.dict=none:=by
 cases x with
 | str z=>
  obtain ⟨t,rfl⟩:=r;cases (ty);exact ⟨typeIs_str s z t,λ_ e=>nomatch e⟩
 | int i=>
  obtain ⟨t,rfl⟩:=r;cases (ty);exact ⟨Df s i t,λ_ e=>nomatch e⟩
 | ref p=>
  cases r;rcases ty with ⟨rfl,xs,hq⟩ | ⟨rfl,o,hk,hc,hd⟩ | ⟨rfl,hk⟩ | ⟨rfl,S,n,hk⟩ | ⟨rfl,xs,hk⟩
  ·obtain ⟨its,_,pl,_⟩:=I.list hq;refine ⟨pl.isList.typeIs,λa e=>?_⟩;cases e;obtain ⟨o,n,e,c,hd,_⟩:=pl;exact ⟨o,e,hd⟩
  ·refine ⟨⟨o,I.kIn p o hk,hc⟩,λa e=>?_⟩;cases e;exact ⟨o,I.kIn _ o hk,hd⟩
  ·have z:∃ o,s.heap.get? p=some o/\o.ExactDict:=by
    rcases hk with ⟨kvs,hk⟩ | ⟨kvs,hk⟩
    ·obtain ⟨_,_,_,_,o,_,_,e,ex,_⟩:=I.hok p _ hk;exact ⟨o,e,ex⟩
    ·obtain ⟨_,_,_,_,o,_,_,e,ex,_⟩:=I.hok p _ hk;exact ⟨o,e,ex⟩
   obtain ⟨o,e,ex⟩:=z;refine ⟨⟨o,e,ex.1⟩,λa e2=>?_⟩;cases e2;exact ⟨o,e,ex.2.1⟩
  ·obtain ⟨o,_,_,_,e,ex,_⟩:=I.hok p _ hk;refine ⟨⟨o,e,ex.1⟩,λa e2=>?_⟩;cases e2;exact ⟨o,e,ex.2.1⟩
  ·obtain ⟨_,its,_,o,e,c,n,_,hd⟩:=(hk.ok I.hok);exact ⟨⟨o,e,c⟩,λa e2=>by cases e2;exact ⟨o,e,hd⟩⟩
 | _=>exact False.elim ty
def wT (K:PySem.W.Frag) (T:String) (r:V->List V->Hp->VK->Prop) (b:TE):TE:=λσ H Q=>b σ H λx a=>tyV K T x a/\r x [] a Q
def tBM (K:PySem.W.Frag) (T:String) (r:V->List V->Hp->VK->Prop) (c:TE) (t:TA):TE:=λσ H Q=>c σ H λx a=>tyV K T x a/\t σ a λxs b=>r x xs b Q
variable {o e:Expr} {es:List Expr} {to:TE} {t:TA} {name:Str} {apos cpos:Pos} {T id:String} {r:V->List V->Hp->VK->Prop}
theorem tM (j:PlainAttrs T) (c:Slot T name id) (d:typeOf (.builtin id)=pure (.type "method_descriptor")) (n:MtR X id r) (i:PE X o to)
  (b:attributeBase o name X.env (eval o X.env)=eval o X.env:=by rfl) (a:(apos.endLine==cpos.line)=true:=by rfl):PE X (.Call (.Attribute o name apos) [] [] cpos) (wT X.K T r to):=by
 intro pins s σ H Q I h;refine wpAny_Call_method0_late b a (thn (i pins s σ H _ I h) λv p ⟨x,l,e,f,g,q⟩=>?_);obtain ⟨k,m⟩:=aZ e f g;exact ⟨T,id,j,c,d,k,m,Cn rfl (PySem.evalArgs_none (n pins p σ l x [] v [] Q e f .nil q))⟩
theorem pX (l:PlainAttrs T) (d:Slot T name id) (g:typeOf (.builtin id)=pure (.type "method_descriptor")) (z:MtR X id r) (C:PE X o to) (B:PA X (e :: es) t)
  (c:attributeBase o name X.env (eval o X.env)=eval o X.env:=by rfl)
  (f:((backTo cpos (starEach (e :: es) X.env)).all (λx=>!x.1)&&(backToKw cpos (keywordEach [] X.env)).all (λx=>x.1.isSome)
   && decide ((e :: es).length+([]:List Keyword).length+(if ([]:List Keyword).isEmpty then 0 else 1)<30))=true:=by rfl)
  (b:(apos.endLine==cpos.line)=true:=by rfl) (hs:starEach (e :: es) X.env=(false,eval e X.env) :: starEach es X.env:=by rfl) (a:(backTo cpos (starEach es X.env)).any (·.1)=false:=by rfl) :
  PE X (.Call (.Attribute o name apos) (e :: es) [] cpos) (tBM X.K T r to t):=by
 intro pins s σ H Q I h;refine wpAny_Call_method_late c f b rfl (thn (C pins s σ H _ I h) λv p ⟨x,w,j,k,q,A⟩=>?_);obtain ⟨m,y⟩:=aZ j k q;refine ⟨T,id,l,d,g,m,y,?_⟩;have i:=B cpos pins p σ w _ j A;rw [hs] at i ⊢;refine Cn (by show (false||(backTo cpos (starEach es X.env)).any (·.1))=false;rw [a] <;> rfl) (Dn ?_);exact thn i λus E ⟨vs,F,D,u,n⟩=>z pins E σ F x vs v us Q D k u n
end
def MtM (X:Cx) (id:String) (r:V->List V->Hp->VK->Prop):Prop:=
 ∀ (pins:List (Addr×Obj)) (s:Shared) (σ:St) (H:Hp) (x:V) (xs:List V) (v:Value) (us:List Value) (Q:VK),Inv X pins σ H s->RelV x v->Vals xs us->r x xs H Q ->
  wpAny (model X.prog X.w) X.A (call (.builtin id) (v :: us)) (EP X pins σ Q) X.xe s
theorem Vals.one:∀ {x:V} {us:List Value},Vals [x] us->∃ u,us=[u]/\RelV x u
 | _,_,.cons r .nil=>⟨_,rfl,r⟩
theorem Vals.eraseIdx:∀ {xs:List V} {us:List Value} (i:Nat),Vals xs us->Vals (xs.eraseIdx i) (us.eraseIdx i)
 | _,_,_,.nil=>.nil
 | _,_,0,.cons _ t=>t
 | _,_,i+1,.cons r t=>.cons r (Vals.eraseIdx i t)
theorem Vals.reverse (h:Vals xs us):Vals xs.reverse us.reverse:=by
 induction h with
 | nil=>exact .nil
 | cons r t a=>rw [DX,DX];exact Vals.append a (.cons r .nil)
theorem Vals.rep (h:Vals xs us):∀ k:Nat,Vals (List.replicate k xs).flatten (List.replicate k us).flatten
 | 0=>.nil
 | k+1=>by
  rw [BP,BP,BN,BN];exact Vals.append h (Vals.rep h k)
theorem gV {a:Type}:∀ (l:List a) (i:Nat),(l.eraseIdx i).length<=l.length
 | [],_=>Ap _
 | _ :: _,0=>Bl _
 | _ :: r,i+1=>Nat.succ_le_succ (gV r i)
theorem M0 (b:List Value):∀ (k:Nat) (a:List Value),
  List.foldl (λf c=>f++c) a.toArray (List.replicate k b.toArray)=(a++(List.replicate k b).flatten).toArray
 | 0,a=>by simp
 | k+1,a=>by
  have e:a.toArray++b.toArray=(a++b).toArray:=by simp
  have d:(a++b)++(List.replicate k b).flatten=a++(List.replicate (k+1) b).flatten:=by
   rw [BP,BN,BB]
  rw [<- d,<- M0 b k (a++b),<- e,BP,List.foldl_cons]
section
variable {X:Cx} {pins:List (Addr×Obj)} {σ:St} {H:Hp} {s:Shared} {l b:Addr} {xs ys zs:List V}
theorem Inv.lset {a its':List Value} {n:Nat} {f:Array Value->Array Value} {t':Nat} (I:Inv X pins σ H s) (c:H l=some (.lst xs))
  (e:s.heap.get? l=some { cls:=.type "list",data:=.seq a.toArray n }) (b:f a.toArray=its'.toArray) (g:Vals ys its') (hz:ys.length<=sizeLine) :
  Inv X pins σ (upd H l (.lst ys)) { s with heap:=s.heap.update l (Obj.mapSeq f),toks:=t' }:=by
 have q:=PySem.IsL.update e f;rw [b] at q;refine I.write (by rw [c];exact trivial) (.inl rfl) (λi u d h=>(BA s.heap (Obj.mapSeq f) (Ne.symm d)).trans h) ⟨_,q⟩ ?_;exact ⟨hz,its',_,g,q⟩
theorem Inv.lnew (I:Inv X pins σ H s) (a:Vals ys its) (hz:ys.length<=sizeLine) :
  Inv X pins σ (upd H s.heap.objs.size (.lst ys)) { s with heap:=s.heap.push { cls:=.type "list",data:=.seq its.toArray },toks:=t' }:=
 I.laid (λ_ _ q=>Ai _ q) (Ap _) ⟨hz,its,0,a,Am _ rfl⟩
theorem Inv.fresh (I:Inv X pins σ H s):H s.heap.objs.size=none:=I.hok.fresh (Ap _)
theorem Inv.lstM (I:Inv X pins σ H s) (b:H l=some (.lst xs)):xs.length<=sizeLine/\∃ (a:List Value) (n:Nat),Vals xs a/\xs.length=a.length/\s.heap.get? l=some { cls:=.type "list",data:=.seq a.toArray n }:=by
 obtain ⟨z,a,n,r,e⟩:=I.hok l _ b;exact ⟨z,a,n,r,r.length,e⟩
theorem bC (h:n<=sizeLine):Builtin.List.listTooLong n=false:=by
 unfold Builtin.List.listTooLong;grind
end
section
variable {X:Cx}
def rAppend:V->List V->Hp->VK->Prop:=λx vs H Q=>∃ l xs y,x=.ref l/\vs=[y]/\H l=some (.lst xs)/\xs.length<sizeLine/\Q .non (upd H l (.lst (xs++[y])))
theorem C6:MtM X "list.append" rAppend:=by
 intro pins s σ H x vs v us Q I d f h;obtain ⟨l,xs,y,rfl,rfl,b,hz,q⟩:=h;cases d;obtain ⟨u,rfl,c⟩:=f.one;obtain ⟨z,a,n,r,g,e⟩:=I.lstM b;refine Ca F.slot_list_append ⟨_,e,rfl⟩ F.entry_list_append (F.args_list_append_2 _ _) (PySem.list_append l a.toArray n u (by rw [An];omega)) ⟨e,?_⟩;refine ⟨.non,_,I.lset b e (by simp) (r.append (.cons c .nil)) ?_,rfl,q⟩;grind
def rPopAt:V->List V->Hp->VK->Prop:=λx vs H Q=>∃ l xs i k y,x=.ref l/\vs=[.int i]/\H l=some (.lst xs)/\-(2 ^ 63)<=i/\i<2 ^ 63/\seqIndex? i xs.length=some k/\xs[k]?=some y/\Q y (upd H l (.lst (xs.eraseIdx k)))
theorem lG:MtM X "list.pop" rPopAt:=by
 intro pins s σ H x vs v us Q I p A h;obtain ⟨l,xs,i,k,y,rfl,rfl,c,g,o,d,f,q⟩:=h;cases p;obtain ⟨u,rfl,m⟩:=A.one;obtain ⟨t,rfl⟩:=m;obtain ⟨z,b,n,r,j,e⟩:=I.lstM c;obtain ⟨w,B,a⟩:=r.get f;refine Ca F.slot_list_pop ⟨_,e,rfl⟩ F.entry_list_pop (F.args_list_pop_2 _ _)
  (MeetsSeq.list_pop_at l b.toArray n i t k w (fitsIndex_both g o) (by rw [An,<- j];exact d) (by rw [<- Be];exact B) (by rw [An];omega)) ⟨e,?_⟩
 refine ⟨y,_,I.lset c e ?_ (r.eraseIdx k) ?_,a,q⟩
 ·grind
 ·grind
def rCat:R2:=λx y H Q=>∃ l b xs a,x=.ref l/\y=.ref b/\H l=some (.lst xs)/\H b=some (.lst a)/\xs.length+a.length<=sizeLine/\∀ p,H p=none->Q (.ref p) (upd H p (.lst (xs++a)))
theorem pk:OpR X (binaryOp .Add) rCat:=by
 intro pins s σ H x y v u Q I m k h;obtain ⟨l,b,xs,A,rfl,rfl,o,g,hz,q⟩:=h;cases m;cases k;obtain ⟨z,c,n,r,t,e⟩:=I.lstM o;obtain ⟨p,a,w,f,j,i⟩:=I.lstM g;refine PySem.P.add_list e i ?_ (by rw [An,An];omega);have d:c.toArray++a.toArray=(c++a).toArray:=by simp
 rw [d];exact ⟨.ref _,_,I.lnew (r.append f) (by rw [Ay];omega),rfl,q _ I.fresh⟩
def rRep:R2:=λx y H Q=>∃ l k xs,x=.ref l/\y=.int k/\H l=some (.lst xs)/\-(2 ^ 63)<=k/\k<2 ^ 63/\xs.length * k.toNat<=sizeLine /\
 ∀ p,H p=none->Q (.ref p) (upd H p (.lst (List.replicate k.toNat xs).flatten))
theorem fA {a:Type} (xs:List a) (k:Nat):(List.replicate k xs).flatten.length=k * xs.length:=by simp_all
theorem qB:OpR X (binaryOp .Mult) rRep:=by
 intro pins s σ H x y v u Q I rx ry h;obtain ⟨l,k,xs,rfl,rfl,hH,h1,h2,hz,q⟩:=h;cases rx;obtain ⟨t,rfl⟩:=ry;obtain ⟨z,its,n,r,hl,e⟩:=I.lstM hH;have hlen:its.toArray.size * k.toNat<=sizeLine:=by rw [An,<- hl];exact hz
 have hcap:¬ its.toArray.size * k.toNat > (2 ^ 63-1) / 8:=by
  have:(sizeLine:Nat)<=(2 ^ 63-1) / 8:=by decide
  omega
 have hfit:¬ (!Builtin.List.listFitsIndex k)=true:=by
  rw [fitsIndex_both h1 h2];exact At
 have hlong:¬ Builtin.List.listTooLong (its.toArray.size * k.toNat)=true:=by
  rw [bC hlen];exact At
 have hnew:List.foldl (λx1 x2=>x1++x2) #[] (List.replicate (if its.toArray.isEmpty=true then 0 else k.toNat) its.toArray)=(List.replicate k.toNat its).flatten.toArray:=by
  have f0:=λm=>by
   have:=M0 its m [];rw [Ey] at this;exact this
  rw [f0];cases its with
  | nil=>simp
  | cons a r'=>rw [if_neg (by simp)]
 refine CD (by decide) ⟨_,e,rfl⟩ (λs'=>Df s' k t) noFill_list_mul F.fills_int_mul F.slot_int_rmul repeat_list F.slot_int_index.lookup
  (Ca F.slot_int_rmul (Df s k t) F.entry_int_rmul (F.args_int_rmul_2 _ _) (int___rmul___int_list k t l its.toArray n)
   ⟨e,rfl,⟨_,e,rfl⟩,Ca F.slot_list_mul ⟨_,e,rfl⟩ F.entry_list_mul (F.args_list_mul_2 _ _) (AutoListH.list___mul___list_int_3 l its.toArray n k t hfit hcap hlong) ⟨e,?_⟩⟩)
 rw [hnew];exact ⟨.ref _,_,I.lnew (r.rep k.toNat) (by rw [fA,Nat.mul_comm];exact hz),rfl,q _ I.fresh⟩
end
section
variable {κ:Type} [DecidableEq κ]
def P3 (a:List (κ×V)) (k:κ):Option V:=(a.find? λb=>decide (b.1=k)).map (·.2)
def z8 (a:List (κ×V)) (k:κ) (v:V):List (κ×V):=
 if (a.any λb=>decide (b.1=k))=true then a.map (λb=>if b.1=k then (b.1,v) else b) else a++[(k,v)]
theorem F7 {k:κ} (e:p.1=k):P3 (p :: r) k=some p.2:=by simp [P3,BW,e]
theorem K0 {k:κ} (e:¬ p.1=k):P3 (p :: r) k=P3 r k:=by simp [P3,BW,e]
theorem ck (k:κ):∀ a:List (κ×V),(a.any λb=>decide (b.1=k))=(P3 a k).isSome
 | []=>rfl
 | p :: r=>by
  rw [EH];by_cases e:p.1=k
  ·simp only [F7 e,Bb e,Bool.true_or,Option.isSome_some]
  ·rw [K0 e,Bf e,Bool.false_or];exact ck k r
theorem O7 (a:List (κ×V)) (k:κ) (v:V):(z8 a k v).length<=a.length+1:=by
 unfold z8;grind
theorem RelO.isSome_eq (r:RelO o u):o.isSome=u.isSome:=by
 cases o with
 | none=>cases u with
  | none=>rfl
  | some _=>exact (r).elim
 | some _=>cases u with
  | none=>exact (r).elim
  | some _=>rfl
theorem KV.val (r:KV kvs vs) (k:κ):RelO (P3 kvs k) (valueAt vs k):=by
 induction r with
 | nil=>exact True.intro
 | @cons p q ps a h t g=>
  obtain ⟨d,f⟩:=h;by_cases e:p.1=k
  ·have c:=d.symm.trans e;have b:valueAt (q :: a) k=some q.2:=by simp [valueAt,BW,c]
   rw [F7 e,b];exact f
  ·have c:¬ q.1=k:=λz=>e (d.trans z);have b:valueAt (q :: a) k=valueAt a k:=by simp [valueAt,BW,c]
   rw [K0 e,b];exact g
theorem KV.any (r:KV kvs vs) (k:κ):(kvs.any λa=>decide (a.1=k))=vs.any λa=>decide (a.1=k):=by
 induction r with
 | nil=>rfl
 | cons h t b=>grind
theorem KV.repl (r:KV kvs vs) (k:κ) {y:V} {u:Value} (d:RelV y u) :
  KV (kvs.map λa=>if a.1=k then (a.1,y) else a) (vs.map λa=>if a.1=k then (a.1,u) else a):=by
 induction r with
 | nil=>exact .nil
 | @cons p q ps g h t b=>
  rw [AW,AW];refine .cons ?_ b;obtain ⟨c,f⟩:=h;by_cases e:p.1=k
  ·grind
  ·grind
theorem KV.put (r:KV kvs vs) (k:κ) {y:V} {u:Value} (a:RelV y u):KV (z8 kvs k y) (stored vs k u):=by
 unfold z8 stored;rw [r.any k];by_cases e:(vs.any λb=>decide (b.1=k))=true
 ·rw [if_pos e,if_pos e];exact r.repl k a
 ·rw [if_neg e,if_neg e];exact Paired.snoc r ⟨rfl,a⟩
theorem KV.length {vs:List (κ×Value)} (r:KV kvs vs):kvs.length=vs.length:=Paired.length r
end
theorem kF {k:Key} {u:Value} (r:RelV (kV k) u):(j8 P w).is k u=true:=by
 cases k with
 | inl i=>obtain ⟨t,e⟩:=(r);subst e;exact bE P w i t
 | inr x=>obtain ⟨t,e⟩:=(r);subst e;exact cR P w x t
theorem Z4:∀ {a:List Key} {us:List Value},Vals (a.map kV) us->ItemsAre (j8 P w) a us
 | [],_,r=>by rw [List.map_nil] at r;cases r;exact .nil
 | k :: a,_,r=>by
  rw [AW] at r;cases r with
  | cons h t=>exact .cons (kF h) (Z4 t)
abbrev KT (H:Hp):List (List Key×V)->List (List Key×Addr×Value)->Prop:=Paired λp q=>p.1=q.1/\H q.2.1=some (.tup (p.1.map kV))/\RelV p.2 q.2.2
theorem KT.val (r:KT H kvs xs) (k:List Key):RelO (P3 kvs k) ((atKey xs k).map (·.2)):=by
 induction r with
 | nil=>exact True.intro
 | @cons p q ps a h t g=>
  obtain ⟨d,_,f⟩:=h;by_cases e:p.1=k
  ·have c:=d.symm.trans e;have b:atKey (q :: a) k=some q.2:=by simp [atKey,BW,c]
   rw [F7 e,b];exact f
  ·have c:¬ q.1=k:=λz=>e (d.trans z);have b:atKey (q :: a) k=atKey a k:=by simp [atKey,BW,c]
   rw [K0 e,b];exact g
theorem KT.repl (r:KT H kvs xs) (k:List Key) {y:V} {u:Value} (d:RelV y u) :
  KT H (kvs.map λa=>if a.1=k then (a.1,y) else a) (xs.map (putAt k u)):=by
 induction r with
 | nil=>exact .nil
 | @cons p q ps i h t b=>
  rw [AW,AW];refine .cons ?_ b;obtain ⟨c,f,g⟩:=h;unfold putAt;by_cases e:p.1=k
  ·grind
  ·grind
theorem KT.put (r:KT H kvs xs) (k:List Key) {b:Addr} {y:V} {u:Value} (c:H b=some (.tup (k.map kV))) (a:RelV y u) :
  KT H (z8 kvs k y) (storedH xs k b u):=by
 have e:(kvs.any λd=>decide (d.1=k))=(atKey xs k).isSome:=by
  rw [ck,(r.val k).isSome_eq,Option.isSome_map]
 unfold z8 storedH;rw [e];by_cases q:(atKey xs k).isSome=true
 ·rw [if_pos q,if_pos q];exact r.repl k a
 ·rw [if_neg q,if_neg q];exact Paired.snoc r ⟨rfl,c,a⟩
theorem KT.keeps {a:List (List Key×V)} {xs:List (List Key×Addr×Value)} (r:KT H a xs) (c:∀ b ys,H b=some (.tup ys)->H' b=some (.tup ys)):KT H' a xs:=
 Paired.mapP r λ_ _ z=>⟨z.1,c _ _ z.2.1,z.2.2⟩
section
variable {P:Program} {w:World} {H:Hp} {h:Heap} {a:Addr}
theorem pE (b:HOk P w H h) (e:Rd H a u):ObjOk P w H h a u:=e.ok b
theorem fI (b:HOk P w H h) (e:Rd H a (.dK kvs)):kvs.length<=sizeLine/\(a==sysModules)=false/\∃ vs,KV kvs vs/\h.DictOf (j8 P w) a vs:=
 pE b e
theorem vD (b:HOk P w H h) (e:H a=some (.dK kvs)):kvs.length<=sizeLine/\(a==sysModules)=false/\∃ vs,KV kvs vs/\h.DictOf (j8 P w) a vs:=fI b (.inl e)
theorem cy (g:HOk P w H h) (e:H a=some (.tup (ks.map kV))):(tupleKind (j8 P w)).is h ks a:=by
 obtain ⟨_,b,r,o,c,d,n,f⟩:=(g a _ e);exact ⟨o,b.toArray,n,c,d,f.1,by simpa using Z4 r⟩
theorem jA (d:HOk P w H h) (e:Rd H a (.dT kvs)):kvs.length<=sizeLine/\(a==sysModules)=false /\
  ∃ xs,KT H kvs xs/\h.DictOfH (tupleKind (j8 P w)) a xs:=by
 obtain ⟨z,y,xs,r,o,es,s,g,j,n,i,u⟩:=(pE d e);refine ⟨z,y,xs,r,o,es,s,g,j,n,i,λx b=>?_,u⟩;have f:∀ {l:List (List Key×V)} {m:List (List Key×Addr×Value)},KT H l m->∀ x∈m,(tupleKind (j8 P w)).is h x.1 x.2.1:=by
  intro l m q;induction q with
  | nil=>intro x b;exact nomatch b
  | @cons p q ps v c t k=>
   intro x b;rcases AA.mp b with e | b
   ·subst e;exact cy d (by rw [<- c.1];exact c.2.1)
   ·exact k x b
 grind
theorem tW (b:HOk P w H h) (e:H a=some (.dT kvs)):kvs.length<=sizeLine/\(a==sysModules)=false /\
  ∃ xs,KT H kvs xs/\h.DictOfH (tupleKind (j8 P w)) a xs:=jA b (.inl e)
end
def DGet (H:Hp) (a:Addr) (y:V) (r:Option V):Prop:=
 (∃ c k,Rd H a (.dK c)/\y=kV k/\r=P3 c k)\/∃ c k b,Rd H a (.dT c)/\y=.ref b/\H b=some (.tup (k.map kV))/\r=P3 c k
def DPut (H:Hp) (a:Addr) (y v:V) (H':Hp):Prop:=
 (∃ c k,H a=some (.dK c)/\y=kV k/\c.length<sizeLine/\H'=upd H a (.dK (z8 c k v))) \/
 ∃ c k b,H a=some (.dT c)/\y=.ref b/\H b=some (.tup (k.map kV))/\c.length<sizeLine/\H'=upd H a (.dT (z8 c k v))
theorem DGet.k {k:Key} (e:H a=some (.dK kvs)):DGet H a (kV k) (P3 kvs k):=.inl ⟨kvs,k,.inl e,rfl,rfl⟩
theorem DPut.k {k:Key} {v:V} (e:H a=some (.dK kvs)) (b:kvs.length<sizeLine):DPut H a (kV k) v (upd H a (.dK (z8 kvs k v))):=.inl ⟨kvs,k,e,rfl,b,rfl⟩
section
variable {X:Cx} {pins:List (Addr×Obj)} {σ:St} {H:Hp} {s:Shared} {a:Addr} {y v:V} {u r:Value} {o:Option V} {A:Around} {E:Value->Shared->Prop}
theorem iA (t:A.units+1<cLine) (I:Inv X pins σ H s) (g:DGet H a y (some v)) (o:RelV y u) (h:∀ w' s',Inv X pins σ H s'->RelV v w'->Q w' s') :
  wpAny (model X.prog X.w) A (getItem (.ref a) u) Q E s:=by
 rcases g with ⟨n,k,e,i,l⟩ | ⟨n,k,b,e,i,q,l⟩
 ·subst i;obtain ⟨z,hd,vs,d,f⟩:=fI I.hok e;obtain ⟨w',m,c⟩:=RelO.some_of (by rw [l];exact d.val k);exact wpAny_getItem_of (kF o) f.mapOf m (h w' _ (I.tok _) c)
 ·subst i;cases (o);obtain ⟨z,hd,xs,d,f⟩:=jA I.hok e;obtain ⟨w',m,c⟩:=RelO.some_of (by rw [l];exact d.val k);obtain ⟨p,r,j⟩:=Co.mp m;refine wpAny_getItem_heap (tupleKind_room_in1 t) (cy I.hok q) f r ?_;rw [j];exact h w' _ (I.tok _) c
theorem eN {ob:HO} (I:Inv X pins σ H s) (e:Mut (H a)) (hs:Heap.SameBut a s.heap h') (d:∃ q,h'.get? a=some q) (c:ObjOk X.prog X.w (upd H a ob) h' a ob) :
  Inv X pins σ (upd H a ob) { s with heap:=h',toks:=t' }:=
 I.write e (.inl rfl) (λb q f z=>(hs.2 b f).trans z) d c
theorem sR {b:List (Key×V)} {vs:List (Key×Value)} (z:b.length<=sizeLine) (hd:(a==sysModules)=false) (c:KV b vs) (d:h'.DictOf (j8 P w) a vs) :
  ObjOk P w H' h' a (.dK b):=⟨z,hd,vs,c,d⟩
theorem gu (L:A.units+1<cLine) (I:Inv X pins σ H s) (g:DPut H a y v H') (w:RelV y u) (B:RelV v r) (h:∀ s',Inv X pins σ H' s'->Q () s') :
  wpAny (model X.prog X.w) A (setItem (.ref a) u r) Q E s:=by
 rcases g with ⟨d,k,e,p,l,n⟩ | ⟨d,k,b,e,p,t,l,n⟩
 ·subst p n;obtain ⟨z,hd,vs,f,o⟩:=vD I.hok e;have hz:vs.length<=sizeLine:=by rw [<- f.length];exact z
  have m:(z8 d k v).length<=sizeLine:=by have:=O7 d k v;omega
  refine wpAny_setItem_pairs (kF w) o λh' i hs=>h _ ?_;have D:∃ q,h'.get? a=some q:=let ⟨q,_,_,j,_⟩:=i;⟨q,j⟩
  exact eN I (by rw [e];exact True.intro) hs D (sR m hd (f.put k B) i)
 ·subst p n;cases (w);obtain ⟨z,hd,xs,f,o⟩:=tW I.hok e;have hz:xs.length<=sizeLine:=by rw [<- Paired.length f];exact z
  have m:(z8 d k v).length<=sizeLine:=by have:=O7 d k v;omega
  refine wpAny_setItem_heap (tupleKind_room_in1 L) (cy I.hok t) o λh' i hs=>h _ ?_;obtain ⟨q,es,F,j,J,K,C,_,G⟩:=i;refine eN I (by rw [e];exact True.intro) hs ⟨q,j⟩ ⟨m,hd,_,(f.put k t B).keeps λc ys x=>?_,q,es,F,j,J,K,C,G⟩;rw [b1 (jJ x e (λz=>nomatch z))];exact x
end
section
variable {X:Cx} {pins:List (Addr×Obj)} {σ:St} {H:Hp} {s:Shared} {a:Addr} {kvs:List (Key×V)} {k:Key} {u:Value} {A:Around} {E:Value->Shared->Prop}
theorem vP (I:Inv X pins σ H s) (e:Rd H a (.dK kvs)) (h:∀ t s',Inv X pins σ H s'->Q (.int kvs.length t) s'):wpAny (model X.prog X.w) A (call (.builtin "len") [.ref a]) Q E s:=by
 obtain ⟨z,hd,vs,b,c⟩:=fI I.hok e;refine call_len_dict hd c (by rw [<- b.length];rw [AD] at z;omega) ?_;rw [<- b.length];exact h _ _ (I.tok _)
end
theorem cY {σ:St} {H:Hp} {s:Shared} {a:Addr} {y:V} {o:Option V} (I:Inv X pins σ H s) (g:DGet H a y o):s.TypeIs (.ref a) "dict":=by
 rcases g with ⟨d,k,e,_,_⟩ | ⟨d,k,b,e,_,_,_⟩
 ·obtain ⟨_,_,vs,_,c⟩:=fI I.hok e;exact c.typeIs
 ·obtain ⟨_,_,xs,_,c⟩:=jA I.hok e;exact c.typeIs
end L2
namespace Att
open PySem PySem.W PySem.Calls PyProof.Rows
theorem P5:∀ (ns:List Int) (vs:List Value),WellAll P h vs (ns.map WData.int)->IntsAre vs ns:=by
 intro ns;induction ns with
 | nil=>
  intro vs w;rw [List.map_nil] at w;cases w;exact .nil
 | cons n ns c=>
  intro vs w;rw [AW] at w;cases w with
  | cons a b=>
   cases a;exact .cons _ _ (c _ b)
theorem gY {l:OpenLaw} {n:Nat} (hn:l.most=some n) {P:Params} {h:Heap} {args:List WData} {vals:List Value}
  (hpre:l.row.toRowW.claim.pre args=true) (hwl:WellAll P h vals args) :
  ∃ a vs ns,vals=[Value.ref a]/\args=[WData.list (ns.map WData.int)]/\h.get? a=some { cls:=.type "list",data:=.seq vs.toArray }/\IntsAre vs ns/\ns.length<=n:=by
 have hsh:=(pre_splitW hpre).1;have hc:=(pre_splitW hpre).2;obtain ⟨d,r,rfl,h1,h2⟩:=hasAllW_cons hsh;obtain rfl:=hasAllW_nil h2;obtain ⟨xs,rfl,h3⟩:=hasW_list h1;obtain ⟨ns,rfl⟩:=items_int h3;have hlen:ns.length<=n:=by
  have h4:(WTm.not (.lt (.lit (.int (n:Int))) (.len (.arg 0)))).holds [] { args:=[.list (ns.map .int)] }=true:=by
   have h4:=(holds_andW hc).1;rw [hn] at h4;exact h4
  have h5:=condW_of h4 (w_not (w_lt w_lit (w_len_list (w_arg rfl))));rw [Ak] at h5;refine Dg λq=>?_;have q':(n:Int)<((ns.length:Nat):Int):=by omega
  first
   | (rw [Bb q'] at h5;exact absurd h5 (by decide))
   | (simp at h5;omega)
 cases hwl with
 | cons w1 w2=>
  cases w2;cases w1 with
  | list ho hall=>exact ⟨_,_,ns,rfl,rfl,ho,P5 ns _ hall,hlen⟩
theorem gM (l:OpenLaw) (a:List WData):l.row.toRowW.claim.post a (.bool true) a=true:=
 postW_of
  (show WShape.has [] (.bool true) .bool=true by first | rfl | decide | simp [WShape.has,WShape.arms,WShape.armsAll])
  (w_eq_bool (w_res rfl) w_lit) rfl
theorem attach_call {l:OpenLaw} {n:Nat} {q:Program} {e:List Str} {H:(Str->Option Value)->Heap->Prop} {D:World->Heap->Prop} {d:DefRec}
  (M:l.most=some n) (z:d.params.defaults=[])
  (k:∀ (w:World) (c b:Shared) (s A:Str->Option Value) (m:Addr) (o:Obj) (x t g:Value) (a:Addr) (vs:List Value) (ns:List Int),
   Ground q e [] H w c s A b.heap->D w b.heap ->
   b.heap.get? m=some o->o.data=.func (docDef d.name d.params d.body d.scope x t g)->b.heap.CodeRec t d.name->s d.name=some (.ref m) ->
   b.heap.get? a=some { cls:=.type "list",data:=.seq vs.toArray }->IntsAre vs ns->ns.length<=n->b.gens=#[] ->
   codeAny (model l.prog w) callerA (.call (.ref m) ⟨[.ref a],[]⟩) (λr s'=>r=.ok (.ret (.bool true))/\OldK b.heap s'.heap/\s'.os=b.os/\AllBare s'.gens) b) :
  WalkO q e H D l.row.toRowW d [] (λf vs=>PySem.call f vs):=by
 intro w c b s A G Y m o x t g L I Q hd y B v S E C U j F P u K;obtain rfl:L=.none:=Dflts.none B z;obtain rfl:I=.none:=Dflts.noKw B;obtain ⟨a,vs,ns,rfl,rfl,i,h,p⟩:=gY M j u;refine enter_call (BX (k w c b s A m o x t g a vs ns G Y Q (fd_plain hd) y v i h p S) λr s' R=>?_);obtain ⟨rfl,N,T,J⟩:=R;exact ⟨.inl ⟨.bool true,.bool true,[],rfl,λ_=>rfl,.bool true,gM l _,λ_=>⟨List.Pairwise.nil,λ_ O=>(nomatch O)⟩⟩,N,T,J⟩
end Att
namespace L2
open PySem PySem.Spec PyProof.Rows
theorem vals_ints:∀ {vs:List Value} {ns:List Int},IntsAre vs ns->Vals (ns.map V.int) vs
 | _,_,.nil=>.nil
 | _,_,.cons n t h=>.cons ⟨t,rfl⟩ (vals_ints h)
def u9 (s:Stmt):Arguments:=match s with
 | .FunctionDef _ a _ _ _ _ _ _ _ _=>a
 | _=>{ posonlyargs:=[],args:=[],vararg:=none,kwonlyargs:=[],kw_defaults:=[],kwarg:=none,defaults:=[] }
def j6 (s:Stmt):List Stmt:=match s with
 | .FunctionDef _ _ b _ _ _ _ _ _ _=>b
 | _=>[]
def b9 (s:Stmt):Scope:=match s with
 | .FunctionDef _ _ _ _ _ _ a _ _ _=>a
 | _=>{ kind:=.function,names:=[],isGenerator:=false,isCoroutine:=false }
abbrev CX0:CXT:=⟨λ_ _ _ _ _ _=>False,false⟩
abbrev E0:XK:=λ_ _ _=>False
structure Fun (K:PySem.W.Frag) (x qual:Str) (st:Stmt) (f:Addr) (fd:FuncData):Prop where
 ex:∃ (oc:Value) (od:Option Addr) (kV doc pm:Value) (an:Option Addr) (cdv ct:Value) (osl:Array (Option Value)),
  fd=PySem.W.fnOf x qual (u9 st) (j6 st) (b9 st) .none kV doc pm an cdv ct/\K.lookup f=some ⟨oc,od,.func fd,osl⟩/\PySem.W.codeIn K cdv qual=true
 kp:PySem.W.keepIn K (.ref f)=true
section
variable {P:Program} {w:World} {K:PySem.W.Frag} {mg:Str->Option Value} {base:Heap}
theorem Fun.binds {st:Stmt} {f:Addr} {fd:FuncData} {ps:List Str} (F:Fun K x qual st f fd)
  (h:∀ (e b c:Value) (g:Option Addr) (a d:Value) (us:List Value),us.length=ps.length->bindArgs (PySem.W.fnOf x qual (u9 st) (j6 st) (b9 st) .none e b c g a d) ⟨us,[]⟩=pure (ps.zip us)):Binds K fd ps []:=by
 obtain ⟨k,od,e,b,c,g,a,d,j,rfl,l,i⟩:=F.ex;exact .all (h e b c g a d)
theorem jt {st:Stmt} {f:Addr} {j:Value} {od h:Option Addr} {d:Array (Option Value)} {i b e a g:Value} (l:K.lookup f=some ⟨j,od,.func (PySem.W.fnOf x qual (u9 st) (j6 st) (b9 st) .none i b e h a g),d⟩)
  (c:PySem.W.codeIn K a qual=true) (k:PySem.W.keepIn K (.ref f)=true):Fun K x qual st f (PySem.W.fnOf x qual (u9 st) (j6 st) (b9 st) .none i b e h a g):=⟨⟨j,od,i,b,e,h,a,g,d,rfl,l,c⟩,k⟩
end
theorem uR {k:Nat} (a:Room q k A):A.units+1<cLine:=DM (Nat.add_le_add_left (by decide:1<=64) _) a.units
section
variable {X:Cx}
theorem gc:j3 X (.builtin "len") (λxs H Q=>∃ a b,xs=[V.ref a]/\H a=some (.dK b)/\Q (.int b.length) H):=by
 intro pins s σ H xs us Q I r h;obtain ⟨a,b,rfl,d,q⟩:=h;obtain ⟨u,rfl,e⟩:=G1 r;cases e;exact vP I (.inl d) λt s' c=>⟨.int b.length,H,c,⟨t,rfl⟩,q⟩
end
theorem iH {A B:Prop} (h:A):if true=true then A else B:=by grind
theorem T5 {b a:Type} (g:a->b->a) {f:b->a->Sem (ForInStep a)}:∀ (l:List b) (c:a),(∀ x∈l,∀ c,f x c=pure (.yield (g c x)))->forIn l c f=pure (l.foldl g c)
 | [],_,_=>rfl
 | x :: l,c,h=>by
  rw [Ez,h x Av,pure_bind];exact T5 g l (g c x) λy d=>h y (AC _ d)
def i9 (cells:List (Str×Addr)) (a:List (Str×Addr)) (x:Str×NameKind):List (Str×Addr):=if x.2=NameKind.free then (x.1,(cells.lookup x.1).getD 0) :: a else a
def N4 (cells:List (Str×Addr)) (a:List (Str×NameKind)):List (Str×Addr):=a.foldl (i9 cells) []
theorem y8 (h:∀ x∈scope.names,x.2=NameKind.free->∃ c,env.cells.lookup x.1=some c):closureFor scope env=pure (N4 env.cells scope.names):=by
 simp only [closureFor];rw [T5 (i9 env.cells) scope.names [] (λx e c=>by
  obtain ⟨n,k⟩:=x;by_cases b:k=NameKind.free
  ·subst b;obtain ⟨a,d⟩:=h _ e rfl;simp [cellOf,i9,d]
  ·have:(k==NameKind.free)=false:=by simpa using b
   simp [i9,b,this])]
 rfl
theorem E5:∀ (b:List (Str×NameKind)) (f:List (Str×Addr)),(∀ x∈b,x.2=NameKind.free->∃ c,cells.lookup x.1=some c)->(∀ x c,f.lookup x=some c->cells.lookup x=some c) ->
  ∀ x c,(b.foldl (i9 cells) f).lookup x=some c->cells.lookup x=some c
 | [],_,_,g,x,c,e=>g x c e
 | y :: r,f,h,g,x,c,e=>by
  refine E5 r (i9 cells f y) (λz hz=>h z (AC _ hz)) (λz d q=>?_) x c e;unfold i9 at q;split at q
  ·rename_i i;obtain ⟨a,j⟩:=h y Av i;rw [Dh] at q;split at q
   ·grind
   ·exact g z d q
  ·exact g z d q
theorem W0:∀ (b:List (Str×NameKind)) (a:List (Str×Addr)) (x:Str),(a.lookup x).isSome=true->((b.foldl (i9 cells) a).lookup x).isSome=true
 | [],_,_,h=>h
 | y :: r,a,x,h=>by
  refine W0 r (i9 cells a y) x ?_;unfold i9;split
  ·grind
  ·exact h
theorem U7:∀ (a:List (Str×NameKind)) (b:List (Str×Addr)) (x:Str),(x,NameKind.free)∈a->((a.foldl (i9 cells) b).lookup x).isSome=true
 | [],_,_,h=>nomatch h
 | y :: r,b,x,h=>by
  rcases AA.mp h with h | h
  ·subst h;refine W0 r _ x ?_;simp [i9]
  ·exact U7 r _ x h
theorem mem_of_lookup {c d:Type} [BEq c] [LawfulBEq c]:∀ {l:List (c×d)} {x:c} {y:d},l.lookup x=some y->(x,y)∈l
 | [],_,_,h=>by simp at h
 | (a,b) :: r,x,y,h=>by
  rw [Dh] at h;split at h
  ·rename_i e;have:x=a:=by simpa using e
   cases h;subst this;exact Av
  ·exact AC _ (mem_of_lookup h)
theorem O5 {f:Str×NameKind->Str×NameKind} (a:∀ y,(f y).1=y.1):∀ (l:List (Str×NameKind)) (x:Str),(l.map f).lookup x=(l.lookup x).map λk=>(f (x,k)).2
 | [],_=>rfl
 | (n,k) :: r,x=>by
  rw [AW,show f (n,k) :: r.map f=((f (n,k)).1,(f (n,k)).2) :: r.map f from rfl,Dh,Dh,a];cases b:x==n with
  | true=>
   have e:x=n:=by simpa using b
   subst e;rfl
  | false=>exact O5 a r x
def rlF (a:Env) (y:Str×NameKind):Str×NameKind:=if (y.2==.free&&a.scope.kind==.function&&a.kindOf y.1==some .cell) then (y.1,.cell) else (y.1,y.2)
theorem oF (a:Env) (y:Str×NameKind):(rlF a y).1=y.1:=by unfold rlF;split <;> rfl
theorem B7 (a:Scope) (b:Env) (x:Str):(relabel a b).names.lookup x=(a.names.lookup x).map λk=>(rlF b (x,k)).2:=O5 (oF b) a.names x
theorem X3 (h:scope.names.lookup x=some .free):(relabel scope env).names.lookup x=some .cell\/(relabel scope env).names.lookup x=some .free:=by
 rw [B7,h];unfold rlF;grind
theorem L8 (h:(relabel scope env).names.lookup x=some k) (d:k=.cell\/k=.free) (b:∀ y∈scope.names,y.2≠NameKind.cell):scope.names.lookup x=some .free:=by
 rw [B7] at h;cases e:scope.names.lookup x with
 | none=>rw [e] at h;cases h
 | some a=>
  rw [e] at h;have h':(rlF env (x,a)).2=k:=AR h;have c:=b (x,a) (mem_of_lookup e);unfold rlF at h';split at h'
  ·grind
  ·grind
theorem HOk.sameBut {a:Addr} (g:HOk P w H h) (f:H a=none) (hs:Heap.SameBut a h h'):HOk P w H h':=λb ob e=>by
 refine (g b ob e).stay (λc w' d q=>(hs.2 c ?_).trans q) (λ_ q=>q) λ_ _ q=>q;rintro rfl;rcases d with rfl | d
 ·rw [f] at e;cases e
 ·rw [f] at d;cases d
theorem Un.sameBut {C:Addr} (u:Un fs ex H H' h h1) (hs:Heap.SameBut C h1 h') (g:h.objs.size<=C):Un fs ex H H' h h':=by
 have d:∀ b o,h.get? b=some o->b≠C:=λb o e=>Ar (AB (Ao e) g);exact ⟨λb o e n c a=>(hs.2 b (d b o e)).trans (u.keep b o e n c a),λb o e n c a=>let ⟨f,q⟩:=u.slot b o e n c a;⟨f,(hs.2 b (d b o e)).trans q⟩,u.free,
  λb o e a=>let ⟨o',q⟩:=u.there b o e a;⟨o',(hs.2 b (d b o e)).trans q⟩,u.tups,u.frzs,u.tbls⟩
def b4 (X:Cx) (pins:List (Addr×Obj)) (N':List Str) (a:Scope) (C:Addr) (b:List Addr) (s:Shared) (H:Hp):Cx where
 prog:=X.prog
 w:=X.w
 K:=X.K
 mg:=X.mg
 base:=X.base
 A:=X.A
 N:=N'
 s₀:=s
 H₀:=H
 env:=compEnvC a (N4 X.env.cells a.names) C X.env
 outer:=X.stack
 stack:=X.stack
 ex:=b
 fn:=λ_=>false
 calm:=X.calm
 pn:=X.pn++pins
 xe:=λ_ _=>False
structure CompText (N:List Str) (env:Env) (N':List Str) (k:Nat) (caps:List Nat) (scope:Scope):Prop where
 kind:scope.kind=.function
 cell:∀ y∈scope.names,y.2≠NameKind.cell
 loc:∀ y∈scope.names,y.2=NameKind.local->scope.names.lookup y.1=some .local
 free:∀ y∈scope.names,y.2=NameKind.free->scope.names.lookup y.1=some .free/\(env.scope.names.lookup y.1=some .cell\/env.scope.names.lookup y.1=some .free)
 cps:∀ (j i:Nat),caps[j]?=some i->∃ x,N[i]?=some x/\N'[k+j]?=some x/\scope.names.lookup x=some .free
 len:N'.length=k+caps.length
def k5 (caps:List Nat) (σ:St):St:=caps.map λi=>(σ[i]?).join
theorem iI {j:Nat} {v:V} (h:(k5 caps σ)[j]?=some (some v)):∃ i,caps[j]?=some i/\σ[i]?=some (some v):=by
 unfold k5 at h;grind
section
variable {X:Cx} {pins:List (Addr×Obj)} {σ:St} {H:Hp} {s:Shared} {N':List Str} {k:Nat} {caps:List Nat} {scope:Scope} {fp:List Addr}
theorem nV (T:CompText X.N X.env N' k caps scope) (I:Inv X pins σ H s) (i:∀ b∈fp,P4 X pins H b) {C:Addr} (n:s.heap.objs.size<=C) (j:∀ b∈fp,b<s.heap.objs.size):(b4 X pins N' scope C fp s H).Ok:=by
 have p:∀ x∈scope.names,x.2=NameKind.free->∃ c,X.env.cells.lookup x.1=some c:=λx g q=>I.ok.has x.1 (T.free x g q).2;have f:=E5 scope.names [] p λx c e=>by simp at e
 refine ⟨I.mod,?_,I.ok.glob,I.ok.blt,n,λx y c a b=>I.ok.inj x y c (f x c a) (f y c b),λx g=>?_,λx c m=>(by cases m),I.ok.hd,I.ok.frames,.inl rfl,λb d=>⟨?_,λx c e=>(i b d).2.2.2.2.1 x c (f x c e)⟩,I.bs,?_,λb o e d=>?_,λb d l=>?_,I.stack,I.stkFree⟩
 ·exact T.kind
 ·have h:scope.names.lookup x=some .free:=by
   rcases g with g | g
   ·exact L8 g (.inl rfl) T.cell
   ·exact L8 g (.inr rfl) T.cell
  exact Br.mp (U7 scope.names [] x (mem_of_lookup h))
 ·exact Ar (AB (j b d) n)
 ·exact Bk I.ok.bsz I.sz
 ·rcases (i b d).2.2.2.1 with z | z
  ·exact I.ok.noex b o e z
  ·exact absurd (AB (Ao (I.ok.bs b o e).1) z) (BK _)
 ·rcases AA.mp (I.stkSub b l) with z | z
  ·exact (i b d).2.1 z
  ·exact (i b d).2.2.1 z
theorem E7 (T:CompText X.N X.env N' k caps scope) (I:Inv X pins σ H s) (hf:∀ b∈fp,P4 X pins H b) (K:∀ b∈fp,b<s.heap.objs.size) {h':Heap} {m:Str->Option Value} {t:Nat}
  (hn:h'.Ns (s.heap.objs.size+1) m) (q:∀ b o,s.heap.get? b=some o->h'.get? b=some o) (Z:h'.get? s.heap.objs.size=some { cls:=.type "list",data:=.seq #[] }) :
  Inv (b4 X pins N' scope (s.heap.objs.size+1) fp s H) [] (List.replicate k none++k5 caps σ) (upd H s.heap.objs.size (.lst [])) { s with heap:=h',toks:=t }:=by
 have V:=nV T I hf (Bl _) K;have fr:∀ x∈scope.names,x.2=NameKind.free->∃ c,X.env.cells.lookup x.1=some c:=λx W q=>I.ok.has x.1 (T.free x W q).2;have a:=E5 scope.names [] fr λx c e=>by simp at e
 have A:=I.hok.fresh (Ap _);have lt:∀ b u,H b=some u->b<s.heap.objs.size:=λb u e=>I.hok.lt e;refine ⟨V,rfl,I.bare,Un.laid q (Ap _) A,⟨m,hn,λi x v Y J e3=>?_⟩,λx c e=>?_,?_,λx c e=>?_,λp U=>?_,I.hok.laid q (Ap _) ⟨Bj _,[],_,.nil,Z⟩,?_⟩
 ·by_cases S:i<k
  ·grind
  ·rw [AL (by simpa using Dg S)] at J;rw [Da] at J;obtain ⟨j,hj,hv⟩:=iI J;obtain ⟨y,h1,N,L⟩:=T.cps _ _ hj;have F:k+(i-k)=i:=by omega
   rw [F] at N;have D:=AR (N.symm.trans Y);subst D;have g:=(T.free (y,.free) (mem_of_lookup L) rfl).2;obtain ⟨mX,hnX,M⟩:=I.loc;obtain ⟨u,r,l⟩:=M j y v h1 hv (by rcases g with z | z;exact .inr (.inl z);exact .inr (.inr z));refine ⟨u,r,?_⟩;rcases l with ⟨G,_⟩ | ⟨_,c,Q,h⟩
   ·have f:X.env.scope.names.lookup y=some .local:=G;rcases g with z | z
    ·rw [f] at z;cases z
    ·rw [f] at z;cases z
   ·obtain ⟨O,B⟩:=Br.mp (U7 scope.names [] y (mem_of_lookup L));have:=AR ((a y O B).symm.trans Q);subst this;obtain ⟨C,w,hd⟩:=h;exact .inr ⟨X3 L,O,B,C,q _ _ w,hd⟩
 ·obtain ⟨v,C,w,hd⟩:=I.cell x c (a x c e);exact ⟨v,C,q _ _ w,hd⟩
 ·show upd H s.heap.objs.size (.lst []) (s.heap.objs.size+1)=none;rw [b1 (Nat.succ_ne_self _)];exact I.hok.fresh (Bl _)
 ·obtain ⟨v,C,w,hd⟩:=I.cell x c (a x c e);rw [b1 (Ar (Ao w))];exact I.freeC x c (a x c e)
 ·have E:p∈X.pn++pins:=by
   have:=U;rwa [Bs] at this
  obtain ⟨e,n,R,nf,d⟩:=I.pin p E;refine ⟨q _ _ e,?_,Ar (AM (Ao e)),λP=>?_,d⟩
  ·rw [b1 (Ar (Ao e))];exact n
  ·rcases AA.mp (I.stkSub p.1 P) with z | z
   ·exact R z
   ·exact nf z
 ·show _=N'.length;rw [T.len,Ay,Da];unfold k5;rw [Ak]
end
def PTL (X:Cx) (ifs:List Expr) (t:TT):Prop:=
 ∀ (pins:List (Addr×Obj)) (s:Shared) (σ:St) (H:Hp) (Q:Bool->Hp->Prop),Inv X pins σ H s->t σ H Q ->
  wpAny (model X.prog X.w) X.A (forIn ifs true λc r=>if r=true then do let a <- isTrue c X.env (eval c X.env);pure (ForInStep.yield a) else pure (ForInStep.yield r)) (TP X pins σ Q) X.xe s
def tTrue:TT:=λ_ H Q=>Q true H
theorem mn:PTL X [] tTrue:=λ_ _ _ H _ I h=>by
 rw [List.forIn_nil];exact Ah ⟨H,I,h⟩
theorem mO (h:PT X c t):PTL X [c] t:=λpins s σ H Q I q=>by
 rw [Ez];refine Ag ?_;rw [if_pos rfl];refine Ag (thn (h pins s σ H Q I q) λb s' ⟨H',d,a⟩=>Ah ?_);dsimp only;rw [List.forIn_nil];exact Ah ⟨H',d,a⟩
def iw (caps:List Nat) (j:TI) (h:TT) (te:TE):TE:=λσ H Q=>j σ H λJ g=>∀ a,g a=none->∃ W:Nat->Nat->List V->Hp->Prop,(∃ m,W 0 m [] (upd g a (.lst []))) /\
 ∀ i m ys c,W i m ys c->c a=some (.lst ys)/\((J.stop i c/\Q (.ref a) c)\/(J.go i c/\∀ x f,J.yld i c x f->h (some x :: k5 caps σ) f λb e=>
  if b=true then te (some x :: k5 caps σ) e λy d=>d a=some (.lst ys)/\ys.length<sizeLine/\∃ m',m'<m/\W (i+1) m' (ys++[y]) (upd d a (.lst (ys++[y])))
  else ∃ m',m'<m/\W (i+1) m' ys e))
theorem v1 {a:Type} {t:Sem a} {Q:a->Shared->Prop} {u:Sem Unit} (c:u=pure ()) (h:wpAny M A u (λ_ b=>wpAny M A t Q E b) E s):wpAny M A t Q E s:=by
 have d:=Ag h;grind
theorem b7 {s:Shared} {a:Type} {t:Sem a} {Q:a->Shared->Prop} (h:wpAny M A t Q (λ_ _=>False) s):wpAny M A t Q E s:=AI h (λ_ _ q=>q) λ_ _ q=>q.elim
theorem nF {O A:Expr} {x:Str} {px:Pos} {ifs:List Expr} {a:Scope} {pos:Pos} {N':List Str} {caps:List Nat} {wi:TI} {tc:TT} {te:TE}
  (T:CompText X.N X.env N' 1 caps a) (hc:X.calm=true) (hN:N'.Nodup) (hx0:N'[0]?=some x) (hxl:a.names.lookup x=some .local) (hi:PI X (.Name x px) A wi)
  (ht:∀ pins C g s H,PTL (b4 X pins N' a C g s H) ifs tc) (he:∀ pins C g s H,PE (b4 X pins N' a C g s H) O te)
  (hs:∀ x,foldedSetIterable A X.env x=pure x:=by intro _;rfl):PE X (.ListComp O [⟨.Name x px,A,ifs,0⟩] a pos) (iw caps wi tc te):=by
 intro pins s σ H Q I h;have fr:∀ x∈a.names,x.2=NameKind.free->∃ c,X.env.cells.lookup x.1=some c:=λx hx hk=>I.ok.has x.1 (T.free x hx hk).2;rw [eval_ListComp];refine CL rfl hs (y8 fr) T.kind T.loc ?_;refine thn (hi pins s σ H _ I h) λv s1 h1=>thn h1 λitv f h2=>?_;obtain ⟨it,g,tn,J,E,rfl,I2,G,st2,f2,h2⟩:=h2;obtain ⟨W,⟨m0,w0⟩,turn⟩:=h2 f.heap.objs.size (I2.hok.fresh (Ap _));have hlt:=λb l=>let ⟨o,e,_⟩:=G.obj _ _ st2 b l;Ao e
 refine AK (Do T.cell (by intro y hy;simp at hy) (λh₁ m k=>?_) T.kind);have hC:(f.heap.push { cls:=.type "list",dict:=none,data:=.seq ([]:List Value).toArray }).objs.size=f.heap.objs.size+1:=Cg ..;rw [hC] at m k;have old:=λb o e=>k.extBut b o (Ar (AM (Ao e))) (Ai _ (Ai _ e));have hacc:=k.extBut _ _ (Ar (AF _)) (Ai _ (Am _ rfl));have w:=G.keep _ _ _ st2 λb _ o e=>old b o e;have I3:=E7 (t:=f.toks+([]:List (Str×Value)).length) T I2 f2 hlt m old hacc;have D:∀ {H':Hp},(∀ b∈g,H' b=none)->∀ b∈g,P4 (b4 X pins N' a (f.heap.objs.size+1) g f E) [] H' b:=λhn b l=>by
  refine ⟨hn b l,(I3.ok.exf b l).1,I3.ok.exfs b l,.inl l,(I3.ok.exf b l).2,λp hp=>?_⟩;have hp':p∈X.pn++pins:=by
   have:=hp;rwa [Bs] at this
  exact (f2 b l).2.2.2.2.2 p hp'
 have F:∀ s3:Shared,s3={ f with heap:=h₁,toks:=f.toks+([]:List (Str×Value)).length } ->
   codeAny (model X.prog X.w) X.A (.compLoop (.ListComp O [⟨.Name x px,A,ifs,0⟩] a pos) 0 (.ref it) (.ref f.heap.objs.size) (compEnvC a (N4 X.env.cells a.names) (f.heap.objs.size+1) X.env))
    (compPost (model X.prog X.w) X.A X.xe none (EP X pins σ Q) (.ref f.heap.objs.size) (f.heap.objs.size+1)) s3:=by
  rintro s3 rfl;refine codeAny_compLoop_tests (λn s'=>∃ i ys H',Inv (b4 X pins N' a (f.heap.objs.size+1) g f E) [] (none :: k5 caps σ) H' s'/\tn i s'.heap/\(∀ b∈g,H' b=none)/\W i n ys H') ?_ m0
   ⟨0,[],_,I3,w,λb l=>by rw [b1 (Ar (hlt b l))];exact (f2 b l).1,w0⟩ (λ_=>rfl)
  rintro n s4 ⟨i,ys,R,I4,Y,fr4,w4⟩;obtain ⟨hacc4,P⟩:=turn i n ys R w4;refine b7 ?_;rcases P with ⟨stop,q⟩ | ⟨go,step⟩
  ·refine thn (G.done (b4 X pins N' a (f.heap.objs.size+1) g f E) rfl rfl rfl hc i [] s4 _ R (λ_ _=>False) I4 (D fr4) Y stop) λr s5 ⟨hr,V⟩=>?_;subst hr;obtain ⟨m5,hn5,_⟩:=id V.loc;refine ⟨m5,hn5,λh' hs'=>?_⟩;refine ⟨.ref f.heap.objs.size,R,?_,rfl,q⟩;refine I2.call' V.os (Un.sameBut V.base hs' (Bl _)) (V.hok.sameBut V.free hs') V.bare λb l=>?_;have:=f2 b l;exact ⟨this.2.2.2.1,this.2.1,this.2.2.2.2.1,this.2.2.2.2.2⟩
  ·refine thn (G.item (b4 X pins N' a (f.heap.objs.size+1) g f E) rfl rfl rfl hc i [] s4 _ R (λ_ _=>False) I4 (D fr4) Y go) λr s5 ⟨u,hr,h5⟩=>?_;subst hr;refine b7 (v1 rfl (thn h5 λ_ s6 ⟨xv,H6,I6,r6,y6,L,fr6⟩=>?_));have I6':=I6.pinned (D fr6) (G.obj _ _ L);refine thn (C8 (X:=b4 X pins N' a (f.heap.objs.size+1) g f E) hN hx0 (.inl (Bm hxl)) (.inr (Bm hxl)) _ s6 _ H6 xv u (λσ2 R=>σ2=some xv :: k5 caps σ/\R=H6) I6' r6 ⟨rfl,rfl⟩) λ_ s7 ⟨σ7,H7,I7,e7,e7'⟩=>?_;subst e7 e7';have B:∀ {σ8:St} {S:Hp} {s8:Shared},Inv (b4 X pins N' a (f.heap.objs.size+1) g f E) ([]++j5 g s6.heap) σ8 S s8->tn (i+1) s8.heap/\∀ b∈g,S b=none:=λ{σ8 S s8} N=>by
    refine ⟨G.keep _ _ _ L λb l o e=>(N.pin (b,o) (Au _ (Au _ (f9 l e)))).1,λb l=>?_⟩;obtain ⟨o,e,d⟩:=G.obj _ _ L b l;exact (N.pin (b,o) (Au _ (Au _ (f9 l e)))).2.1
   refine b7 (thn (ht pins _ g f E _ s7 _ _ _ I7 (step xv _ y6)) λb s8 ⟨S,N,q8⟩=>?_);have wk:∀ {U:Hp} {s9:Shared},Inv (b4 X pins N' a (f.heap.objs.size+1) g f E) ([]++j5 g s6.heap) (some xv :: k5 caps σ) U s9->Inv (b4 X pins N' a (f.heap.objs.size+1) g f E) [] (none :: k5 caps σ) U s9:=λ{U s9} I9=>
    I9.unpinned.weak rfl λj v e=>by
     cases j with
     | zero=>simp at e
     | succ j=>simpa using e
   cases b with
   | false=>
    obtain ⟨m',hm,w'⟩:=q8;exact ⟨m',hm,i+1,ys,S,wk N,(B N).1,(B N).2,w'⟩
   | true=>
    refine b7 (thn (he pins _ g f E _ s8 _ S _ N q8) λz s9 ⟨y,U,I9,r9,M,hl9,m',hm,w'⟩=>?_);refine b7 (thn (C6 _ s9 _ U (.ref f.heap.objs.size) [y] (.ref f.heap.objs.size) [z] (λ_ H'=>H'=upd U f.heap.objs.size (.lst (ys++[y]))) I9 rfl (.cons r9 .nil) ⟨_,ys,y,rfl,rfl,M,hl9,rfl⟩) λ_ s10 ⟨_,H10,K,_,e10⟩=>?_);subst e10;exact ⟨m',hm,i+1,ys++[y],_,wk K,(B K).1,(B K).2,w'⟩
 have Z:=CV (F _ rfl) (G.self _ 0 _ _ _ w (F _ rfl));rw [<- hC] at Z;exact Z
theorem dE {K w:Expr} {x:Str} {px:Pos} {y:Str} {py N:Pos} {iy:Nat} {ifs:List Expr} {f:Scope} {pos:Pos} {N':List Str} {caps:List Nat} {wi:TI} {tc:TT} {te:TE}
  (hsw:swapsWith (.ListComp K [⟨.Name x px,w,ifs,0⟩] f pos) (some (.Name y py)) N.line X.env=pure true) (hNX:X.N.Nodup) (hiy:X.N[iy]?=some y) (hy:Loc X.env.scope y) (hf:X.fn y=true\/X.env.scope.names.lookup y=some .local)
  (T:CompText X.N X.env N' 1 caps f) (hc:X.calm=true) (hN:N'.Nodup) (hx0:N'[0]?=some x) (hxl:f.names.lookup x=some .local) (hi:PI X (.Name x px) w wi)
  (ht:∀ pins C l s H,PTL (b4 X pins N' f C l s H) ifs tc) (he:∀ pins C l s H,PE (b4 X pins N' f C l s H) K te)
  (hs:∀ x,foldedSetIterable w X.env x=pure x:=by intro _;rfl):PS X (.Assign [.Name y py] (.ListComp K [⟨.Name x px,w,ifs,0⟩] f pos) N) (oM (iw caps wi tc te) (fS iy)):=by
 intro pins s σ H D I h;have fr:∀ x∈f.names,x.2=NameKind.free->∃ c,X.env.cells.lookup x.1=some c:=λx hx hk=>I.ok.has x.1 (T.free x hx hk).2;rw [exec_Assign_Name_used _ _ _ _ hsw];refine Ag (Cr (Ag ?_));refine Ag (AI (CL rfl hs (y8 fr) T.kind T.loc ?_) (λ_ s' hq=>Ah (Ah hq)) λ_ _ e=>e);refine thn (hi pins s σ H _ I h) λv s1 h1=>thn h1 λitv g h2=>?_;obtain ⟨it,l,tn,J,G,rfl,O,M,st2,f2,h2⟩:=h2;obtain ⟨W,⟨m0,w0⟩,turn⟩:=h2 g.heap.objs.size (O.hok.fresh (Ap _));have hlt:=λb k=>let ⟨o,e,_⟩:=M.obj _ _ st2 b k;Ao e
 refine AK (Do T.cell (by intro y hy;simp at hy) (λh₁ A m=>?_) T.kind);have hC:(g.heap.push { cls:=.type "list",dict:=none,data:=.seq ([]:List Value).toArray }).objs.size=g.heap.objs.size+1:=Cg ..;rw [hC] at A m;have old:=λb o e=>m.extBut b o (Ar (AM (Ao e))) (Ai _ (Ai _ e));have hacc:=m.extBut _ _ (Ar (AF _)) (Ai _ (Am _ rfl));have E:=M.keep _ _ _ st2 λb _ o e=>old b o e;have I3:=E7 (t:=g.toks+([]:List (Str×Value)).length) T O f2 hlt A old hacc;have F:∀ {H':Hp},(∀ b∈l,H' b=none)->∀ b∈l,P4 (b4 X pins N' f (g.heap.objs.size+1) l g G) [] H' b:=λhn b k=>by
  refine ⟨hn b k,(I3.ok.exf b k).1,I3.ok.exfs b k,.inl k,(I3.ok.exf b k).2,λp hp=>?_⟩;have hp':p∈X.pn++pins:=by
   have:=hp;rwa [Bs] at this
  exact (f2 b k).2.2.2.2.2 p hp'
 have L:∀ s3:Shared,s3={ g with heap:=h₁,toks:=g.toks+([]:List (Str×Value)).length } ->
   codeAny (model X.prog X.w) X.A (.compLoop (.ListComp K [⟨.Name x px,w,ifs,0⟩] f pos) 0 (.ref it) (.ref g.heap.objs.size) (compEnvC f (N4 X.env.cells f.names) (g.heap.objs.size+1) X.env))
    (compPost (model X.prog X.w) X.A X.xe (some (assign (.Name y py) X.env)) (λ_ s'=>SP X pins D .next s') (.ref g.heap.objs.size) (g.heap.objs.size+1)) s3:=by
  rintro s3 rfl;refine codeAny_compLoop_tests (λn s'=>∃ i ys H',Inv (b4 X pins N' f (g.heap.objs.size+1) l g G) [] (none :: k5 caps σ) H' s'/\tn i s'.heap/\(∀ b∈l,H' b=none)/\W i n ys H') ?_ m0
   ⟨0,[],_,I3,E,λb k=>by rw [b1 (Ar (hlt b k))];exact (f2 b k).1,w0⟩ (λ_=>rfl)
  rintro n s4 ⟨i,ys,Z,I4,st4,fr4,w4⟩;obtain ⟨hacc4,S⟩:=turn i n ys Z w4;refine b7 ?_;rcases S with ⟨stop,q⟩ | ⟨go,step⟩
  ·refine thn (M.done (b4 X pins N' f (g.heap.objs.size+1) l g G) rfl rfl rfl hc i [] s4 _ Z (λ_ _=>False) I4 (F fr4) st4 stop) λr s5 ⟨hr,V⟩=>?_;subst hr;obtain ⟨m5,hn5,_⟩:=id V.loc;have IX:=O.call' V.os V.base V.hok V.bare λb k=>by
    have:=f2 b k;exact ⟨this.2.2.2.1,this.2.1,this.2.2.2.2.1,this.2.2.2.2.2⟩
   have C0:g.heap.objs.size<=g.heap.objs.size+1:=Bl _;have cC:∀ z c,X.env.cells.lookup z=some c->c≠g.heap.objs.size+1:=λz c e=>by
    obtain ⟨v,oc,ho,_⟩:=O.cell z c e;exact Ar (AM (Ao ho))
   have lC:=Ar (AM O.lt);refine wpAny_assign_Name (X9 (v:=.ref g.heap.objs.size) IX hNX hiy hy rfl (λs6 I6 ⟨a,sb,ha⟩=>?_) hf);have aC:g.heap.objs.size+1≠a:=λz=>by
    rcases ha with ha | ha
    ·grind
    ·exact cC _ _ ha z.symm
   refine ⟨m5,hn5.sameBut sb aC,λh' hs'=>?_⟩;refine ⟨_,Z,I6.turned (λb o k e=>hs'.extBut b o k e) V.free lC.symm (.inr (Bk O.sz C0)) cC (λp hp=>?_),q⟩;exact Ar (AM (Ao (O.pin p hp).1))
  ·refine thn (M.item (b4 X pins N' f (g.heap.objs.size+1) l g G) rfl rfl rfl hc i [] s4 _ Z (λ_ _=>False) I4 (F fr4) st4 go) λr s5 ⟨u,hr,h5⟩=>?_;subst hr;refine b7 (v1 rfl (thn h5 λ_ s6 ⟨xv,H6,I6,r6,y6,U,fr6⟩=>?_));have I6':=I6.pinned (F fr6) (M.obj _ _ U);refine thn (C8 (X:=b4 X pins N' f (g.heap.objs.size+1) l g G) hN hx0 (.inl (Bm hxl)) (.inr (Bm hxl)) _ s6 _ H6 xv u (λσ2 Z=>σ2=some xv :: k5 caps σ/\Z=H6) I6' r6 ⟨rfl,rfl⟩) λ_ s7 ⟨σ7,H7,I7,e7,e7'⟩=>?_;subst e7 e7';have B:∀ {σ8:St} {Y:Hp} {s8:Shared},Inv (b4 X pins N' f (g.heap.objs.size+1) l g G) ([]++j5 l s6.heap) σ8 Y s8->tn (i+1) s8.heap/\∀ b∈l,Y b=none:=λ{σ8 Y s8} Q=>by
    refine ⟨M.keep _ _ _ U λb k o e=>(Q.pin (b,o) (Au _ (Au _ (f9 k e)))).1,λb k=>?_⟩;obtain ⟨o,e,d⟩:=M.obj _ _ U b k;exact (Q.pin (b,o) (Au _ (Au _ (f9 k e)))).2.1
   refine b7 (thn (ht pins _ l g G _ s7 _ _ _ I7 (step xv _ y6)) λb s8 ⟨Y,Q,q8⟩=>?_);have wk:∀ {H9:Hp} {s9:Shared},Inv (b4 X pins N' f (g.heap.objs.size+1) l g G) ([]++j5 l s6.heap) (some xv :: k5 caps σ) H9 s9->Inv (b4 X pins N' f (g.heap.objs.size+1) l g G) [] (none :: k5 caps σ) H9 s9:=λ{H9 s9} I9=>
    I9.unpinned.weak rfl λj v e=>by
     cases j with
     | zero=>simp at e
     | succ j=>simpa using e
   cases b with
   | false=>
    obtain ⟨m',hm,w'⟩:=q8;exact ⟨m',hm,i+1,ys,Y,wk Q,(B Q).1,(B Q).2,w'⟩
   | true=>
    refine b7 (thn (he pins _ l g G _ s8 _ Y _ Q q8) λz s9 ⟨y,H9,I9,r9,P,hl9,m',hm,w'⟩=>?_);refine b7 (thn (C6 _ s9 _ H9 (.ref g.heap.objs.size) [y] (.ref g.heap.objs.size) [z] (λ_ H'=>H'=upd H9 g.heap.objs.size (.lst (ys++[y]))) I9 rfl (.cons r9 .nil) ⟨_,ys,y,rfl,rfl,P,hl9,rfl⟩) λ_ s10 ⟨_,H10,R,_,e10⟩=>?_);subst e10;exact ⟨m',hm,i+1,ys++[y],_,wk R,(B R).1,(B R).2,w'⟩
 have fin:=CV (L _ rfl) (M.self _ 0 _ _ _ E (L _ rfl));rw [<- hC] at fin;exact fin
section
variable {prog:Program} {w:World} {A:Around} {R:Result->Shared->Prop} {s:Shared}
theorem bD (elt t0 i0 target iter:Expr) (ifs0 ifs:List Expr) (scope:Scope) (pos:Pos) (it acc:Value) (env:PySem.Env) :
  compTurn (.ListComp elt [⟨t0,i0,ifs0,0⟩,⟨target,iter,ifs,0⟩] scope pos) 1 it acc env=(do
   standAt iter.pos
   match <- pyNext it with
   | none=>pure (.done .next)
   | some v=>
    letOwnedTupleGo target it v
    assign target env v
    let mut ok:=true
    for c in ifs do
     if ok then ok <- isTrue c env (eval c env)
    if ok then
     (do let _ <- call (.builtin "list.append") [acc,<- eval elt env])
    again (.compLoop (.ListComp elt [⟨t0,i0,ifs0,0⟩,⟨target,iter,ifs,0⟩] scope pos) 1 it acc env)):=by rfl
theorem nJ {C F i0 b y:Expr} {p ifs:List Expr} {o:Scope} {pos:Pos} {it B:Value} {a:PySem.Env} (I:Nat->Shared->Prop)
  (D:∀ n s,I n s->wpAny (model prog w) A (pyNext it) (λr d=>match r with
   | none=>R (.ok .next) d
   | some v=>wpAny (model prog w) A (assign b a v) (λ_ i=>
     wpAny (model prog w) A (forIn ifs true λc r=>if r=true then do let t <- isTrue c a (eval c a);pure (ForInStep.yield t) else pure (ForInStep.yield r)) (λt f=>
      if t=true then wpAny (model prog w) A (eval C a) (λx g=>
       wpAny (model prog w) A (call (.builtin "list.append") [B,x]) (λ_ k=>∃ m,m<n/\I m k) (notedBy (model prog w) A a λe s'=>R (.error e) s') g) (notedBy (model prog w) A a λe s'=>R (.error e) s') f
      else ∃ m,m<n/\I m f) (notedBy (model prog w) A a λe s'=>R (.error e) s') i) (notedBy (model prog w) A a λe s'=>R (.error e) s') d) (notedBy (model prog w) A a λe s'=>R (.error e) s') s)
  (n:Nat) (h:I n s) (E:∀ v,letOwnedTupleGo b it v=pure ():=by intro _;rfl) :
  codeAny (model prog w) A (.compLoop (.ListComp C [⟨F,i0,p,0⟩,⟨b,y,ifs,0⟩] o pos) 1 it B a) R s:=by
 refine codeAny_loop rfl I (λn s G=>?_) n h;refine wpAny_noted ?_;rw [bD];refine Ag (Cr (Ag (AI (D n s G) (λr d l=>?_) λ_ _ h'=>h')));cases r with
 | none=>exact Ah l
 | some v=>
  refine Ag (DY (E v) ?_);refine Ag (AI l (λ_ i z=>Ag (AI z (λt f j=>?_) λ_ _ h'=>h')) λ_ _ h'=>h');cases t with
  | false=>exact Ah ⟨rfl,j⟩
  | true=>
   exact Ag (Ag (AI j (λx g q=>Ag (AI q (λ_ k u=>Ah (Ah ⟨rfl,u⟩)) λ_ _ h'=>h')) λ_ _ h'=>h'))
theorem ju {ifs0 ifs:List Expr} {scope:Scope} {pos:Pos} {it acc:Value} {env:PySem.Env}
  (h0:codeAny (model prog w) A (.compLoop (.ListComp elt [⟨t0,i0,ifs0,0⟩,⟨target,iter,ifs,0⟩] scope pos) 1 it acc env) R s)
  (h:wpAny (model prog w) A (pyIter it) (λit' s'=>codeAny (model prog w) A (.compLoop (.ListComp elt [⟨t0,i0,ifs0,0⟩,⟨target,iter,ifs,0⟩] scope pos) 1 it' acc env) R s')
   (notedBy (model prog w) A env λx s'=>R (.error x) s') s) :
  codeAny (model prog w) A (.compStart (.ListComp elt [⟨t0,i0,ifs0,0⟩,⟨target,iter,ifs,0⟩] scope pos) 1 it acc env) R s:=by
 refine EA ?_;refine wpAny_notedAt ?_;refine Ag (CA (wpAny_ite ?_));split
 ·first
   | exact Ag (Ah (Ah (And.intro rfl h0)))
   | exact Ah (And.intro rfl h0)
 ·first
   | exact Ag (BS (Ag (Cr (Ag (AI h (λit' s' h'=>Ah (And.intro rfl h')) λ_ _ x=>x)))))
   | (refine Ag (BS ?_);show wpAny _ _ (standAt iter.pos >>= _) _ _ s;exact Ag (Cr (Ag (AI h (λit' s' h'=>Ah (And.intro rfl h')) λ_ _ x=>x))))
theorem br (elt t0 i0 target iter:Expr) (ifs0 ifs:List Expr) (scope:Scope) (pos:Pos) (it acc:Value) (env:PySem.Env) :
  compTurn (.ListComp elt [⟨t0,i0,ifs0,0⟩,⟨target,iter,ifs,0⟩] scope pos) 0 it acc env=(do
   standAt i0.pos
   match <- pyNext it with
   | none=>pure (.done .next)
   | some v=>
    letOwnedTupleGo t0 it v
    assign t0 env v
    let mut ok:=true
    for c in ifs0 do
     if ok then ok <- isTrue c env (eval c env)
    if ok then
     let x <- eval iter env
     standAt iter.pos
     let x <- foldedSetIterable iter env x
     let _ <- runOwn (.compStart (.ListComp elt [⟨t0,i0,ifs0,0⟩,⟨target,iter,ifs,0⟩] scope pos) 1 (<- holding [x] (pyIter x)) acc env) env
    again (.compLoop (.ListComp elt [⟨t0,i0,ifs0,0⟩,⟨target,iter,ifs,0⟩] scope pos) 0 it acc env)):=by rfl
theorem nj {elt t0 i0 target iter:Expr} {ifs0 ifs:List Expr} {scope:Scope} {pos:Pos} {it acc:Value} {env:PySem.Env} (I:Nat->Shared->Prop)
  (turn:∀ n s,I n s->wpAny (model prog w) A (pyNext it) (λr s₁=>match r with
   | none=>R (.ok .next) s₁
   | some v=>wpAny (model prog w) A (assign t0 env v) (λ_ s₂=>
     wpAny (model prog w) A (forIn ifs0 true λc r=>if r=true then do let ok <- isTrue c env (eval c env);pure (ForInStep.yield ok) else pure (ForInStep.yield r)) (λok s₃=>
      if ok=true then wpAny (model prog w) A (eval iter env) (λx s₄=>
       wpAny (model prog w) A (pyIter x) (λitv s₅=>codeAny (model prog w) A (.compStart (.ListComp elt [⟨t0,i0,ifs0,0⟩,⟨target,iter,ifs,0⟩] scope pos) 1 itv acc env) (λr s₆=>match r with
        | .ok _=>∃ m,m<n/\I m s₆
        | .error _=>False) s₅) (λ_ _=>False) s₄) (λ_ _=>False) s₃
      else ∃ m,m<n/\I m s₃) (λ_ _=>False) s₂) (λ_ _=>False) s₁) (λ_ _=>False) s)
  (n:Nat) (h:I n s) (hfs:∀ x,foldedSetIterable iter env x=pure x) (ht:∀ v,letOwnedTupleGo t0 it v=pure ():=by intro _;rfl) :
  codeAny (model prog w) A (.compLoop (.ListComp elt [⟨t0,i0,ifs0,0⟩,⟨target,iter,ifs,0⟩] scope pos) 0 it acc env) R s:=by
 refine codeAny_loop rfl I (λn s hI=>?_) n h;refine wpAny_noted ?_;rw [br];refine Ag (Cr (Ag (AI (turn n s hI) (λr s₁ h₁=>?_) λ_ _ h'=>h'.elim)));cases r with
 | none=>exact Ah h₁
 | some v=>
  refine Ag (DY (ht v) ?_);refine Ag (AI h₁ (λ_ s₂ h₂=>Ag (AI h₂ (λok s₃ h₃=>?_) λ_ _ h'=>h'.elim)) λ_ _ h'=>h'.elim);cases ok with
  | false=>exact Ah ⟨rfl,h₃⟩
  | true=>
   refine Ag (AI h₃ (λx s₄ h₄=>Ag (Cr ?_)) λ_ _ h'=>h'.elim);rw [hfs x];refine Ag (Ah (Ag (AJ (AI h₄ (λitv s₅ h₅=>?_) λ_ _ h'=>h'.elim))));refine Ag (wpAny_runOwn (BX h₅ λr s₆ h₆=>?_));cases r with
   | ok f=>exact Ah ⟨rfl,h₆⟩
   | error e=>exact h₆.elim
end
def dj (caps:List Nat) (v:TI) (u:TT) (n:TI) (l:TT) (te:TE):TE:=λσ H Q=>v σ H λJ s=>∀ a,s a=none->∃ W:Nat->Nat->List V->Hp->Prop,(∃ m,W 0 m [] (upd s a (.lst []))) /\
 ∀ i m ys f,W i m ys f->f a=some (.lst ys)/\((J.stop i f/\Q (.ref a) f)\/(J.go i f/\∀ x r,J.yld i f x r->u (some x :: none :: k5 caps σ) r λb p=>
  if b=true then n (some x :: none :: k5 caps σ) p λo w=>∃ k:Nat->Nat->List V->Hp->Prop,(∃ g,k 0 g ys w) /\
   ∀ j g d e,k j g d e->e a=some (.lst d)/\((o.stop j e/\∃ m',m'<m/\W (i+1) m' d e)\/(o.go j e/\∀ y t,o.yld j e y t->l (some x :: some y :: k5 caps σ) t λA q=>
    if A=true then te (some x :: some y :: k5 caps σ) q λz h=>h a=some (.lst d)/\d.length<sizeLine/\∃ c,c<g/\k (j+1) c (d++[z]) (upd h a (.lst (d++[z])))
    else ∃ c,c<g/\k (j+1) c d q))
  else ∃ m',m'<m/\W (i+1) m' ys p))
theorem cV {V D l:Expr} {x y:Str} {px py:Pos} {ifs G:List Expr} {a:Scope} {pos:Pos} {N':List Str} {caps:List Nat} {wi wi1:TI} {tc tc1:TT} {te:TE}
  (T:CompText X.N X.env N' 2 caps a) (hc:X.calm=true) (hN:N'.Nodup) (hx0:N'[0]?=some x) (hy0:N'[1]?=some y) (hxl:a.names.lookup x=some .local) (hyl:a.names.lookup y=some .local) (hi:PI X (.Name x px) D wi)
  (ht:∀ pins C g s H,PTL (b4 X pins N' a C g s H) ifs tc) (hi1:∀ pins C g s H,PI (b4 X pins N' a C g s H) (.Name y py) l wi1) (ht1:∀ pins C g s H,PTL (b4 X pins N' a C g s H) G tc1)
  (he:∀ pins C g s H,PE (b4 X pins N' a C g s H) V te)
  (hs:∀ x,foldedSetIterable D X.env x=pure x) (hs2:∀ env x,foldedSetIterable l env x=pure x):PE X (.ListComp V [⟨.Name x px,D,ifs,0⟩,⟨.Name y py,l,G,0⟩] a pos) (dj caps wi tc wi1 tc1 te):=by
 intro pins s σ H Q I h;have fr:∀ x∈a.names,x.2=NameKind.free->∃ c,X.env.cells.lookup x.1=some c:=λx hx hk=>I.ok.has x.1 (T.free x hx hk).2;rw [eval_ListComp];refine CL rfl hs (y8 fr) T.kind T.loc ?_;refine thn (hi pins s σ H _ I h) λv s1 h1=>thn h1 λitv f h2=>?_;obtain ⟨it,g,tn,J,w,rfl,I2,Tn,st2,f2,h2⟩:=h2;obtain ⟨W,⟨m0,w0⟩,turn⟩:=h2 f.heap.objs.size (I2.hok.fresh (Ap _));have hlt:=λb k=>let ⟨o,e,_⟩:=Tn.obj _ _ st2 b k;Ao e
 refine AK (Do T.cell (by intro y hy;simp at hy) (λh₁ F A=>?_) T.kind);have hC:(f.heap.push { cls:=.type "list",dict:=none,data:=.seq ([]:List Value).toArray }).objs.size=f.heap.objs.size+1:=Cg ..;rw [hC] at F A;have old:=λb o e=>A.extBut b o (Ar (AM (Ao e))) (Ai _ (Ai _ e));have hacc:=A.extBut _ _ (Ar (AF _)) (Ai _ (Am _ rfl));have L:=Tn.keep _ _ _ st2 λb _ o e=>old b o e;have I3:=E7 (t:=f.toks+([]:List (Str×Value)).length) T I2 f2 hlt F old hacc;have P:∀ {H':Hp},(∀ b∈g,H' b=none)->∀ b∈g,P4 (b4 X pins N' a (f.heap.objs.size+1) g f w) [] H' b:=λhn b k=>by
  refine ⟨hn b k,(I3.ok.exf b k).1,I3.ok.exfs b k,.inl k,(I3.ok.exf b k).2,λp hp=>?_⟩;have hp':p∈X.pn++pins:=by
   have:=hp;rwa [Bs] at this
  exact (f2 b k).2.2.2.2.2 p hp'
 have loop:∀ s3:Shared,s3={ f with heap:=h₁,toks:=f.toks+([]:List (Str×Value)).length } ->
   codeAny (model X.prog X.w) X.A (.compLoop (.ListComp V [⟨.Name x px,D,ifs,0⟩,⟨.Name y py,l,G,0⟩] a pos) 0 (.ref it) (.ref f.heap.objs.size) (compEnvC a (N4 X.env.cells a.names) (f.heap.objs.size+1) X.env))
    (compPost (model X.prog X.w) X.A X.xe none (EP X pins σ Q) (.ref f.heap.objs.size) (f.heap.objs.size+1)) s3:=by
  rintro s3 rfl;refine nj (λn s'=>∃ i ys H',Inv (b4 X pins N' a (f.heap.objs.size+1) g f w) [] (none :: none :: k5 caps σ) H' s'/\tn i s'.heap/\(∀ b∈g,H' b=none)/\W i n ys H') ?_ m0
   ⟨0,[],_,I3,L,λb k=>by rw [b1 (Ar (hlt b k))];exact (f2 b k).1,w0⟩ (hs2 _) (λ_=>rfl)
  rintro n s4 ⟨i,ys,H4,I4,st4,fr4,w4⟩;obtain ⟨hacc4,turn4⟩:=turn i n ys H4 w4;rcases turn4 with ⟨stop,q⟩ | ⟨go,step⟩
  ·refine thn (Tn.done (b4 X pins N' a (f.heap.objs.size+1) g f w) rfl rfl rfl hc i [] s4 _ H4 (λ_ _=>False) I4 (P fr4) st4 stop) λr s5 ⟨hr,I5⟩=>?_;subst hr;obtain ⟨m5,hn5,_⟩:=id I5.loc;refine ⟨m5,hn5,λh' hs'=>?_⟩;refine ⟨.ref f.heap.objs.size,H4,?_,rfl,q⟩;refine I2.call' I5.os (Un.sameBut I5.base hs' (Bl _)) (I5.hok.sameBut I5.free hs') I5.bare λb k=>?_;have:=f2 b k;exact ⟨this.2.2.2.1,this.2.1,this.2.2.2.2.1,this.2.2.2.2.2⟩
  ·refine thn (Tn.item (b4 X pins N' a (f.heap.objs.size+1) g f w) rfl rfl rfl hc i [] s4 _ H4 (λ_ _=>False) I4 (P fr4) st4 go) λr s5 ⟨u,hr,h5⟩=>?_;subst hr;refine b7 (v1 rfl (thn h5 λ_ s6 ⟨xv,H6,I6,r6,y6,st6,fr6⟩=>?_));have I6':=I6.pinned (P fr6) (Tn.obj _ _ st6);refine thn (C8 (X:=b4 X pins N' a (f.heap.objs.size+1) g f w) hN hx0 (.inl (Bm hxl)) (.inr (Bm hxl)) _ s6 _ H6 xv u (λσ2 H4=>σ2=some xv :: none :: k5 caps σ/\H4=H6) I6' r6 ⟨rfl,rfl⟩) λ_ s7 ⟨σ7,H7,I7,e7,e7'⟩=>?_;subst e7 e7';have K:∀ {O:St} {U:Hp} {Y:Shared},Inv (b4 X pins N' a (f.heap.objs.size+1) g f w) ([]++j5 g s6.heap) O U Y->tn (i+1) Y.heap/\∀ b∈g,U b=none:=λ{O U Y} S=>by
    refine ⟨Tn.keep _ _ _ st6 λb k o e=>(S.pin (b,o) (Au _ (Au _ (f9 k e)))).1,λb k=>?_⟩;obtain ⟨o,e,d⟩:=Tn.obj _ _ st6 b k;exact (S.pin (b,o) (Au _ (Au _ (f9 k e)))).2.1
   refine b7 (thn (ht pins _ g f w _ s7 _ _ _ I7 (step xv _ y6)) λb Y ⟨U,S,q8⟩=>?_);have wk:∀ {H9:Hp} {s9:Shared},Inv (b4 X pins N' a (f.heap.objs.size+1) g f w) ([]++j5 g s6.heap) (some xv :: none :: k5 caps σ) H9 s9->Inv (b4 X pins N' a (f.heap.objs.size+1) g f w) [] (none :: none :: k5 caps σ) H9 s9:=λ{H9 s9} I9=>
    I9.unpinned.weak rfl λj v e=>by
     cases j with
     | zero=>simp at e
     | succ j=>simpa using e
   cases b with
   | false=>
    obtain ⟨m',hm,w'⟩:=q8;exact ⟨m',hm,i+1,ys,U,wk S,(K S).1,(K S).2,w'⟩
   | true=>
    rw [if_pos rfl] at q8 ⊢;refine b7 (thn (hi1 pins _ g f w _ Y _ U _ S q8) λv9 s9 h9=>b7 (thn h9 λitv1 s10 h10=>?_));obtain ⟨it1,N,tn1,J1,H10,rfl,I10,M,st10,f10,W1,⟨m1,w1⟩,turn1⟩:=h10;have E:∀ {H':Hp},(∀ b∈N,H' b=none)->∀ b∈N,P4 (b4 X pins N' a (f.heap.objs.size+1) g f w) ([]++j5 g s6.heap) H' b:=λhn b k=>⟨hn b k,(f10 b k).2⟩;have R:∀ s11:Shared,s11=s10->codeAny (model X.prog X.w) X.A (.compLoop (.ListComp V [⟨.Name x px,D,ifs,0⟩,⟨.Name y py,l,G,0⟩] a pos) 1 (.ref it1) (.ref f.heap.objs.size) (compEnvC a (N4 X.env.cells a.names) (f.heap.objs.size+1) X.env))
      (λr Z=>match r with
       | .ok _=>∃ m,m<n/\∃ i ys H',Inv (b4 X pins N' a (f.heap.objs.size+1) g f w) [] (none :: none :: k5 caps σ) H' Z/\tn i Z.heap/\(∀ b∈g,H' b=none)/\W i m ys H'
       | .error _=>False) s11:=by
     rintro s11 rfl;refine nJ (λn1 s'=>∃ j zs H',Inv (b4 X pins N' a (f.heap.objs.size+1) g f w) ([]++j5 g s6.heap) (some xv :: none :: k5 caps σ) H' s'/\tn1 j s'.heap/\(∀ b∈N,H' b=none)/\W1 j n1 zs H') ?_ m1
      ⟨0,ys,H10,I10,st10,λb k=>(f10 b k).1,w1⟩ (λ_=>rfl)
     rintro n1 t4 ⟨j,zs,G4,K4,ct4,cr4,v4⟩;obtain ⟨hacc5,turn5⟩:=turn1 j n1 zs G4 v4;refine b7 ?_;rcases turn5 with ⟨stop1,m',hm',w'⟩ | ⟨go1,step1⟩
     ·refine thn (M.done (b4 X pins N' a (f.heap.objs.size+1) g f w) rfl rfl rfl hc j _ t4 _ G4 (λ_ _=>False) K4 (E cr4) ct4 stop1) λr t5 ⟨hr,K5⟩=>?_;subst hr;exact ⟨m',hm',i+1,zs,G4,wk K5,(K K5).1,(K K5).2,w'⟩
     ·refine thn (M.item (b4 X pins N' a (f.heap.objs.size+1) g f w) rfl rfl rfl hc j _ t4 _ G4 (λ_ _=>False) K4 (E cr4) ct4 go1) λr t5 ⟨u1,hr,g5⟩=>?_;subst hr;refine b7 (v1 rfl (thn g5 λ_ t6 ⟨yv,G6,K6,rr6,yy6,ct6,cr6⟩=>?_));have K6':=K6.pinned (E cr6) (M.obj _ _ ct6);refine thn (C8 (X:=b4 X pins N' a (f.heap.objs.size+1) g f w) hN hy0 (.inl (Bm hyl)) (.inr (Bm hyl)) _ t6 _ G6 yv u1 (λσ2 H4=>σ2=some xv :: some yv :: k5 caps σ/\H4=G6) K6' rr6 ⟨rfl,rfl⟩) λ_ t7 ⟨σ7,G7,K7,e7,e7'⟩=>?_;subst e7 e7';have B:∀ {O:St} {U:Hp} {Y:Shared},Inv (b4 X pins N' a (f.heap.objs.size+1) g f w) (([]++j5 g s6.heap)++j5 N t6.heap) O U Y->tn1 (j+1) Y.heap/\∀ b∈N,U b=none:=λ{O U Y} S=>by
       refine ⟨M.keep _ _ _ ct6 λb k o e=>(S.pin (b,o) (Au _ (Au _ (f9 k e)))).1,λb k=>?_⟩;obtain ⟨o,e,d⟩:=M.obj _ _ ct6 b k;exact (S.pin (b,o) (Au _ (Au _ (f9 k e)))).2.1
      have wk1:∀ {H9:Hp} {s9:Shared},Inv (b4 X pins N' a (f.heap.objs.size+1) g f w) (([]++j5 g s6.heap)++j5 N t6.heap) (some xv :: some yv :: k5 caps σ) H9 s9->Inv (b4 X pins N' a (f.heap.objs.size+1) g f w) ([]++j5 g s6.heap) (some xv :: none :: k5 caps σ) H9 s9:=λ{H9 s9} I9=>
       I9.unpinned.weak rfl λj v e=>by
        match j with
        | 0=>simpa using e
        | 1=>simp at e
        | j+2=>simpa using e
      refine b7 (thn (ht1 pins _ g f w _ t7 _ _ _ K7 (step1 yv _ yy6)) λb2 t8 ⟨G8,K8,p8⟩=>?_);cases b2 with
      | false=>
       obtain ⟨m1',hm,w'⟩:=p8;exact ⟨m1',hm,j+1,zs,G8,wk1 K8,(B K8).1,(B K8).2,w'⟩
      | true=>
       refine b7 (thn (he pins _ g f w _ t8 _ G8 _ K8 p8) λz t9 ⟨zv,G9,K9,rr9,hacc9,hl9,m1',hm,w'⟩=>?_);refine b7 (thn (C6 _ t9 _ G9 (.ref f.heap.objs.size) [zv] (.ref f.heap.objs.size) [z] (λ_ H'=>H'=upd G9 f.heap.objs.size (.lst (zs++[zv]))) K9 rfl (.cons rr9 .nil) ⟨_,zs,zv,rfl,rfl,hacc9,hl9,rfl⟩) λ_ t10 ⟨_,G10,K10,_,e10⟩=>?_);subst e10;exact ⟨m1',hm,j+1,zs++[zv],_,wk1 K10,(B K10).1,(B K10).2,w'⟩
    exact ju (R _ rfl) (M.self _ 0 _ _ _ st10 (R _ rfl))
 have fin:=CV (loop _ rfl) (Tn.self _ 0 _ _ _ L (loop _ rfl));rw [<- hC] at fin;exact fin
mutual
inductive DAt (K:PySem.W.Frag) (H:Hp):V->PyData->Prop where
 | non:DAt K H .non .none
 | bl (b:Bool):DAt K H (.bl b) (.bool b)
 | int (i:Int):DAt K H (.int i) (.int i)
 | str (x:Str):DAt K H (.str x) (.str x)
 | lst {a:Addr} {xs:List V} {ds:List PyData}:SqL K H a xs->DAll K H xs ds->DAt K H (.ref a) (.list ds)
 | tup {a:Addr} {xs:List V} {ds:List PyData}:SqT K H a xs->DAll K H xs ds->DAt K H (.ref a) (.tuple ds)
inductive DAll (K:PySem.W.Frag) (H:Hp):List V->List PyData->Prop where
 | nil:DAll K H [] []
 | cons {x:V} {d:PyData} {xs:List V} {ds:List PyData}:DAt K H x d->DAll K H xs ds->DAll K H (x :: xs) (d :: ds)
end
section
variable {X:Cx} {pins:List (Addr×Obj)} {σ:St} {H:Hp} {s:Shared}
mutual
theorem DAt.reads (I:Inv X pins σ H s):∀ {v:V} {d:PyData},DAt X.K H v d->∀ {u:Value},RelV v u->∃ a,Reads s.heap u d a
 | _,_,.non,u,r=>by cases (show u=Value.none from r);exact ⟨_,.none⟩
 | _,_,.bl b,u,r=>by cases (show u=Value.bool b from r);exact ⟨_,.bool b⟩
 | _,_,.int i,u,r=>by obtain ⟨t,e⟩:=(r);subst e;exact ⟨_,.int i t⟩
 | _,_,.str x,u,r=>by obtain ⟨t,e⟩:=(r);subst e;exact ⟨_,.str x t⟩
 | _,_,.lst h q,u,r=>by
  cases (r);obtain ⟨f,c,⟨o,n,g,j,m,l⟩,_⟩:=I.list h;obtain ⟨a,k⟩:=DAll.reads I q c;exact ⟨_,.list g j l k⟩
 | _,_,.tup h q,u,r=>by
  cases (r);obtain ⟨f,c,⟨o,g,j,n,l⟩,_⟩:=I.tuple h;obtain ⟨a,k⟩:=DAll.reads I q c;exact ⟨_,.tuple g j l k⟩
theorem DAll.reads (I:Inv X pins σ H s):∀ {vs:List V} {ds:List PyData},DAll X.K H vs ds->∀ {us:List Value},Vals vs us->∃ as,ReadsAll s.heap us ds as
 | _,_,.nil,us,r=>by cases r;exact ⟨_,.nil⟩
 | _,_,.cons h q,us,r=>by
  cases r with
  | cons r1 r2=>
   obtain ⟨as,h1⟩:=DAt.reads I h r1;obtain ⟨bs,h2⟩:=DAll.reads I q r2;exact ⟨_,.cons h1 h2⟩
end
structure Shows (d:PyData):Prop where
 sh:d.showable=true
 nd:d.hasDict=false
 dp:d.depth<=60
 sz:d.shown.length<=sizeLine
theorem hV (hg:X.A.guards=some []) (hu:X.A.units+64<cLine):j3 X (.builtin "repr") (λxs H Q=>∃ v d,xs=[v]/\DAt X.K H v d/\Shows d/\Q (.str d.shown) H):=by
 intro pins s σ H xs us Q I r h;obtain ⟨v,d,rfl,hd,S,q⟩:=h;obtain ⟨u,rfl,ru⟩:=G1 r;have sh:=S.sh;have sz:=S.sz;cases hd with
 | non=>cases (ru);exact PySem.P.repr_of_none ⟨.str (PyData.shown .none),H,I.tok _,⟨_,rfl⟩,q⟩
 | bl b=>cases (ru);exact PySem.P.repr_of_bool ⟨.str (PyData.shown (.bool b)),H,I.tok _,⟨_,rfl⟩,q⟩
 | int i=>obtain ⟨t,e⟩:=(ru);subst e;exact PySem.P.repr_of_int (by simpa [PyData.showable] using sh) ⟨.str (PyData.shown (.int i)),H,I.tok _,⟨_,rfl⟩,q⟩
 | str x=>obtain ⟨t,e⟩:=(ru);subst e;exact PySem.P.repr_of_str ⟨.str (PyData.shown (.str x)),H,I.tok _,⟨_,rfl⟩,q⟩ sz
 | lst h1 h2=>
  obtain ⟨as,rr⟩:=DAt.reads I (.lst h1 h2) ru;obtain ⟨a,rfl⟩:=isRef_of_reads rr rfl;exact repr_of_reads' rr sh (PyData.noDict_hsm S.nd) hg (by have:=S.dp;omega) (λ_ _ e=>e) (λh' u tk hk=>⟨.str (PyData.shown _),H,I.kept hk,⟨_,rfl⟩,q⟩) sz
 | tup h1 h2=>
  obtain ⟨as,rr⟩:=DAt.reads I (.tup h1 h2) ru;obtain ⟨a,rfl⟩:=isRef_of_reads rr rfl;exact repr_of_reads' rr sh (PyData.noDict_hsm S.nd) hg (by have:=S.dp;omega) (λ_ _ e=>e) (λh' u tk hk=>⟨.str (PyData.shown _),H,I.kept hk,⟨_,rfl⟩,q⟩) sz
end
def uI (K:PySem.W.Frag) (a:Bool):R2:=λx y H Q=>∃ d e,DAt K H x d/\DAt K H y e/\d.canLay0=true/\e.canLay0=true/\min d.depth e.depth<=60/\Q (.bl (if a then !PyData.eqv d e else PyData.eqv d e)) H
section
variable {X:Cx}
theorem qK (k:X.A.units+64<cLine):OpR X (compareOp .Eq) (uI X.K false):=by
 intro pins s σ H x y v u Q I i c h;obtain ⟨d,e,hd,a,b,f,m,q⟩:=h;obtain ⟨l,g⟩:=hd.reads I i;obtain ⟨n,j⟩:=a.reads I c;exact SeqAt.compareEq_reads g j b f (by omega) ⟨.bl (PyData.eqv d e),H,I,rfl,q⟩
theorem qH (k:X.A.units+64<cLine):OpR X (compareOp .NotEq) (uI X.K true):=by
 intro pins s σ H x y v u Q I i c h;obtain ⟨d,e,hd,a,b,f,m,q⟩:=h;obtain ⟨l,g⟩:=hd.reads I i;obtain ⟨n,j⟩:=a.reads I c;exact SeqAt.compareNe_reads g j b f (by omega) ⟨.bl (!PyData.eqv d e),H,I,rfl,q⟩
end
end L2
namespace L2
open PySem PySem.W PySem.Calls PyProof.Rows
def bf (K:Frag) (C:Addr):Bool:=match K.lookup C with
 | some ⟨c,_,.cls a,b⟩=>c==.type "type" && !a.hasDel&&a.hasDict&&(b.toList[4]?).join==some (.builtin "ValueError.__new__")&&!a.mro.isEmpty&&a.mro.contains (.ref C)&&a.mro.contains (.type "ValueError")&&a.mro.contains (.type "BaseException") &&
   !a.mro.contains (.type "AttributeError")&&!a.mro.contains (.type "NameError")&&specialIn K (.ref C) "__call__" == some (some (.builtin "type.__call__"))&&instIn K (.ref C) (.type "type")==some true
 | _=>false
end L2
namespace L2
open PySem PySem.W PySem.Calls PyProof.Rows Builtin Builtin.ObjectAttr
theorem jL:builtinKind "BaseException.__getattribute__" = some .slot:=by decide +kernel
theorem fw:splitId "BaseException.__getattribute__" = some ("BaseException","__getattribute__"):=by decide +kernel
theorem gE:plainId "BaseException.__getattribute__" = true:=by decide +kernel
section
variable {prog:Program} {w:World} {A:Around} {R:Result->Shared->Prop} {s:Shared} {x:Addr} {name:Str} {t:Tok}
theorem jU (c:Looks (model prog w) s.heap (isInstance (.ref x) (.type "BaseException")) true)
  (h:wpAny (model prog w) A.in1 (Builtin.«object.__getattribute__» ⟨[.ref x,.str name t],[]⟩) (λa s'=>match a with | .done f=>R (.ok f) s' | .again b=>b.quiet=true/\codeAny (model prog w) A b R s') (λe s'=>R (.error e) s') s) :
  codeAny (model prog w) A (.call (.builtin "BaseException.__getattribute__") ⟨[.ref x,.str name t],[]⟩) R s:=
 codeAny_call_builtin gE PySem.F.entry_bexc_ga (@check_slot (model prog w) _ _ _ "BaseException.__getattribute__" "BaseException" "__getattribute__" (.ref x) [.str name t] [] _ jL fw c (PySem.F.args_bexc_ga (.ref x) (.str name t)) h)
end
section
variable {prog:Program} {w:World} {A:Around} {E:Value->Shared->Prop} {s:Shared} {K:Frag} {x C:Addr} {ox:Obj} {od:Option Obj} {name:Str} {expr:Bool} {Q:Value->Shared->Prop}
structure XCls (K:Frag) (C:Addr):Prop where
 ga:findIn K (.ref C) "__getattribute__" = some (some (.builtin "BaseException.__getattribute__"))
 gg:findIn K (.ref C) "__getattr__" = some none
 be:mroIn K C (.type "BaseException")=some true
 ob:mroIn K C (.type "object")=some true
 hd:hasDictIn K C=true
 cl:findIn K (.ref C) "__class__" = some (some (.builtin "object.__class__"))
 cg:specialIn K (.builtin "object.__class__") "__get__" = some (some (.builtin "getset_descriptor.__get__"))
 ct:takesIn K (.builtin "object.__class__")=some true
theorem rN {b:Bool} {t:Tok} (X:K.In s.heap) (I:InstAt s.heap x ox C od) (c:XCls K C)
  (h:wpAny (model prog w) A.in1 (Builtin.«object.__getattribute__» ⟨[.ref x,.str name t],[]⟩) (λa s'=>match a with | .done (.ret v)=>wpAny (model prog w) A (handedOut v) Q E s' | _=>False) (λ_ _=>False) s) :
  wpAny (model prog w) A (getAttrBy (.ref x) (.str name t) b expr) Q E s:=by
 obtain ⟨l,g,d,p,n⟩:=s;have f:=I.type (M:=model prog w);have j:=looks_findIn (M:=model prog w) X c.ga;have o:=looks_findIn (M:=model prog w) X c.gg;have i:Looks (model prog w) l (isInstance (.ref x) (.type "BaseException")) true:=f.andThen (looks_mroIn X c.be);have k:=(PySem.F.attrBase_ValueError).ga.bind (.ref x);have e:(expr&&onTheHeap (Value.builtin "BaseException.__getattribute__"))=false:=by cases expr <;> rfl
 have m:(Value.builtin "BaseException.__getattribute__" == Value.builtin "object.__getattribute__")=false:=by decide +kernel
 refine AJ (Ag (f.at (Ag (j.at ?_))))
 repeat (first | simp | lk)
 refine Cs (AJ ?_);unfold callGetattribute;rw [e];refine Ag (DY k ?_);refine Es (jU i ?_);refine AI h (λa s' z=>?_) λ_ _ z=>z.elim;rcases a with (v | _ | _ | _) | _ <;> first | exact z | exact z.elim
theorem bL (a:XCls K C):findObj K C od "__class__" = some (.bind (.builtin "getset_descriptor.__get__") (.builtin "object.__class__")):=by
 obtain ⟨c,b,_⟩:=any_some a.hd;unfold findObj;rw [b,Ek,a.cl,Ek];dsimp only;rw [a.cg,Ek];dsimp only;rw [a.ct];rfl
theorem sM (X:K.In s.heap) (I:InstAt s.heap x ox C od) (a:XCls K C) (h:R (some (.ref C)) { s with toks:=s.toks+1 }):wpAny (model prog w) A (getAttr? (.ref x) "__class__") R E s:=by
 have e:=bL (od:=od) a;obtain ⟨i,g,d,t,f⟩:=s;have b:=I.type (M:=model prog w);have c:=looks_find (M:=model prog w) X I e;refine Ag (wpAny_mkText (Ag (Cs (rN X I a ?_))));refine Ag (Ah (Ag (Ah (Ag (b.at (Ag (c.at ?_)))))));refine Ag (AJ (Es (class_get X I a.ob ?_)));refine Ah ?_;exact handed_on rfl (Ah h)
theorem wx (c:XCls K C):KitX K (.ref x) (.ref C) (λh=>∃ ox od,InstAt h x ox C od) where
 ty:=λ_ _ _ ⟨_,_,I⟩=>I.type
 it:=λ_ _ X _=>by
  obtain ⟨j,a,_⟩:=any_some c.hd;unfold clsIn at a;split at a
  ·rename_i m e d g f;exact λo r s s' k q=>by
    exact Ag (wpAny_loadPart (k _ _ (X _ _ f)) (Ah q))
  ·cases a
 ne:=λh l p i n g X b=>by
  obtain ⟨j,a,_⟩:=any_some c.hd;refine Bool.eq_false_iff.mpr λq=>?_;obtain rfl:C=l:=Value.ref.inj (beq_iff_eq.mp q);unfold clsIn at a;split at a
  ·rename_i m e d g f;have z:=(X _ _ f).symm.trans b;cases z
  ·cases a
 ca:=λX ⟨_,_,I⟩ k=>sM X I c k
end
def W3:List Value->Bool
 | .ref _ :: r=>W3 r
 | l=>l==[.type "ValueError",.type "Exception",.type "BaseException",.type "object"]
section
variable {prog:Program} {w:World} {A:Around} {E:Value->Shared->Prop} {s:Shared} {K:Frag} {x C:Addr} {ox:Obj} {od:Option Obj} {name:Str} {R:Result->Shared->Prop} {v:Value}
def tbV:Option Addr->Value
 | none=>.none
 | some T=>.ref T
def IsX (a:Option Addr) (h:Heap) (x C:Addr) (d:Option Addr):Prop:=∃ vs,h.get? x=some { cls:=.ref C,dict:=d,data:=.fields vs }/\vs.size=6/\vs[1]?=some (tbV a)
theorem IsX.inst0 (i:IsX fr h x C none):∃ ox,InstAt h x ox C none:=by
 obtain ⟨vs,e,_⟩:=i;exact ⟨_,e,rfl,rfl,True.intro⟩
theorem IsX.inst1 (i:IsX fr h x C (some d)) {o:Obj} (hd:h.get? d=some o):∃ ox,InstAt h x ox C (some o):=by
 obtain ⟨vs,e,_⟩:=i;exact ⟨_,e,rfl,rfl,hd⟩
end
end L2
namespace L2
open PySem PySem.Spec PyProof.Rows
def N2 (a:Option Addr) (x C:Addr) (d:Option Addr):HO:=.ext λh=>IsX a h x C d
abbrev nu (x C:Addr) (d:Option Addr):HO:=N2 none x C d
def bO (d:Addr) (fs:List (Str×V)):HO:=.ext λh=>∃ mA,h.Ns1 d mA/\(∀ f,RelO (fs.lookup f) (mA f))/\PySem.Within mA (fs.map (·.1))/\fs.length<=900
theorem okX {h:Heap} {x C:Addr} {d:Option Addr} (i:IsX fr h x C d):ObjOk P w H h x (N2 fr x C d):=by
 obtain ⟨vs,e,z⟩:=id i;refine ⟨i,⟨_,e⟩,λf g ⟨a,c,b⟩ k=>⟨a,k _ c,b⟩⟩
structure XC (K:PySem.W.Frag) (C:Addr):Prop where
 xc:XCls K C
 ex:bf K C=true
 vm:(PySem.W.clsIn K C).any (λcd=>W3 cd.mro)=true
 sa:PySem.W.findIn K (.ref C) "__setattr__" = some (some (.builtin "object.__setattr__"))
 kp:PySem.W.keepIn K (.ref C)=true
section
variable {X:Cx} {pins:List (Addr×Obj)} {σ:St} {H:Hp} {s:Shared} {x C:Addr}
theorem Inv.isX {a:Option Addr} {d:Option Addr} (I:Inv X pins σ H s) (e:H x=some (N2 a x C d)):IsX a s.heap x C d:=(I.hok x _ e).1
theorem Inv.isD (I:Inv X pins σ H s) (e:H d=some (bO d fs)):∃ mA,s.heap.Ns1 d mA/\(∀ f,RelO (fs.lookup f) (mA f))/\PySem.Within mA (fs.map (·.1))/\fs.length<=900:=(I.hok d _ e).1
end
theorem tK {o:HO} (h:H x=some o):upd H x o=H:=funext λb=>by
 by_cases e:b=x
 ·subst e;rw [b6,h]
 ·rw [b1 e]
section
variable {X:Cx} {o e value:Expr} {f:Str} {pos pos':Pos} {ta tv:TE}
def vY:V->Option Value
 | .ref a=>some (.ref a)
 | .ty n=>some (.type n)
 | _=>none
theorem Z2:j3 X (.builtin "isinstance") (λxs H Q=>∃ g x C d y c b,xs=[.ref x,y]/\XC X.K C/\H x=some (N2 g x C d)/\(∀ d',d=some d'->∃ fs,H d'=some (bO d' fs))/\vY y=some c/\PySem.W.kitOne X.K (.ref C) c=some b/\Q (.bl b) H):=by
 intro pins s σ H xs us Q I r h;obtain ⟨g,x,C,d,y,c,b,rfl,M,f,hd,i,o,q⟩:=h;obtain ⟨u,k,rfl,l,e⟩:=pO r;cases (l);have m:k=c:=by
  cases y <;> first | (cases i;exact e) | cases i
 subst m;have J:∃ ox od,PySem.W.InstAt s.heap x ox C od:=by
  cases d with
  | none=>obtain ⟨ox,J⟩:=(I.isX f).inst0;exact ⟨ox,_,J⟩
  | some d'=>
   obtain ⟨fs,n⟩:=hd d' rfl;obtain ⟨mA,j,_⟩:=I.isD n;obtain ⟨od,a,_⟩:=hW j;obtain ⟨ox,J⟩:=(I.isX f).inst1 a;exact ⟨ox,_,J⟩
 exact BO (wx M.xc) I.kIn J o (λz=>nomatch z) λp=>⟨.bl b,H,I.tok _,rfl,q⟩
end
def TbO (T:Addr):HO:=.ext λh=>∃ o a,h.get? T=some o/\o.data=.fields a/\3<a.size
theorem okT {o:Obj} {a:Array Value} (e:h.get? T=some o) (d:o.data=.fields a) (z:3<a.size):ObjOk P w H h T (TbO T):=
 ⟨⟨o,a,e,d,z⟩,⟨o,e⟩,λc b ⟨o,a,e,d,z⟩ k=>⟨o,a,k _ e,d,z⟩⟩
structure Fx (K:PySem.W.Frag) (H:Hp) (a C:Addr) (d tb:Option Addr):Prop where
 xc:XC K C
 at_:H a=some (N2 tb a C d)
 dc:∀ d',d=some d'->d'≠a/\∃ fs,H d'=some (bO d' fs)
 tb_:∀ T,tb=some T->T≠a/\H T=some (TbO T)
def Mv (H:Hp) (a C:Addr) (d:Option Addr) (H':Hp):Prop:=(∀ b o,b≠a->H b=some o->H' b=some o)/\∃ c,H' a=some (N2 c a C d)
section
variable {X:Cx} {pins:List (Addr×Obj)} {σ:St} {H:Hp} {s:Shared} {a C T:Addr} {d tb:Option Addr} {A:Around} {E:Value->Shared->Prop} {Q:Unit->Shared->Prop}
theorem Inv.slots (I:Inv X pins σ H s) (hs:Heap.SlotsOnly (frs X.stack) s.heap h'):Inv X pins σ H { s with heap:=h' }:=by
 have k:∀ b u,H b≠none->s.heap.get? b=some u->h'.get? b=some u:=λb u n e=>(hs.2.1 b λz=>n (I.stkFree b z)).trans e;have f:Un (frs X.stack) [] H H s.heap h':=⟨λb o e _ g _=>(hs.2.1 b g).trans e,λb o e _ _ _=>hs.2.2 b o e,λ_ _ _ n _=>n,λb o e _=>let ⟨h,q⟩:=hs.2.2 b o e;⟨_,q⟩,λ_ _ e=>e,λ_ _ _ e=>e,λb ps e=>⟨#[],by rw [e];simp⟩⟩;have d:=λb u e=>(I.hok b u e).stay (λc v a q=>k c v (by
  rcases a with a | a
  ·rw [a,e];simp
  ·rw [a];simp) q) (λ_ q=>q) λ_ _ q=>q
 exact I.call f d I.bare λb z=>absurd z (by simp)
theorem Fx.isX (b:Fx X.K H a C d tb) (I:Inv X pins σ H s):IsX tb s.heap a C d:=I.isX b.at_
theorem Inv.setTb (I:Inv X pins σ H s) (e:H T=some (TbO T)) (k:Inv X pins σ H { s with heap:=s.heap.update T (Obj.mapFields (·.setIfInBounds 3 v)) }->Q () { s with heap:=s.heap.update T (Obj.mapFields (·.setIfInBounds 3 v)) }) :
  wpAny (model X.prog X.w) A (setField (.ref T) 3 v) Q E s:=by
 obtain ⟨o,g,c,f,z⟩:=(I.hok T _ e).1;refine Ch c f z (k ?_);have hd:=Obj.data_mapFields f (·.setIfInBounds 3 v);have d:=Bd (Obj.mapFields (·.setIfInBounds 3 v)) c (Obj.isFreed_of_fields hd);have a:=I.write (t':=s.toks) (by rw [e];exact True.intro) (.inl rfl) (λb u n q=>(BA _ _ (Ne.symm n)).trans q) ⟨_,d⟩ (okT d hd (by simpa using z));rw [tK e] at a;exact a
theorem bg (I:Inv X pins σ H s) (r:A.frames=some X.stack) (i:X.stack=X.env :: X.outer) (x:X.env.frame=some X.env.locals) (j:Fx X.K H a C d tb)
  (h:∀ H' s' T,Inv X pins σ H' s'->Fx X.K H' a C d (some T)->Mv H a C d H'->Q () s') :
  wpAny (model X.prog X.w) A (do let B <- frameOf X.env;let pl <- entryPlaceOf X.env.locals hadNext;let b <- EntryCells.newEntry head B .none (rawInt X.env.locals) .none pl;setField (.ref a) 1 b) Q E s:=by
 have p:=I.stack;rw [i] at p r;refine Ag (wpAny_frameOf_fun r p x λc e=>?_);have v:=I.slots (by rw [i];exact e);refine Ag (wpAny_entryPlaceOf λpl l=>?_);refine Ag (AK ?_ (l.sizeOk5 _ _ _ _ _));have D:=Am c (o:={ cls:=.type "traceback",dict:=none,data:=.fields ([head,.ref X.env.locals,.none,rawInt X.env.locals,.none]++(if pl.isEmpty then List.replicate 6 Value.none else pl)).toArray }) rfl;have m:=v.laid (t':=s.toks) (λb u q=>Ai _ q) (Ap _)
  (okT D rfl (by simp <;> omega))
 have k:=v.hok.fresh (Ap _);have f:c.objs.size≠a:=λz=>by rw [z,j.at_] at k;cases k
 have t:upd H c.objs.size (TbO c.objs.size) a=some (N2 tb a C d):=by rw [b1 f.symm];exact j.at_
 generalize (c.push { cls:=.type "traceback",dict:=none,data:=.fields ([head,.ref X.env.locals,.none,rawInt X.env.locals,.none]++(if pl.isEmpty then List.replicate 6 Value.none else pl)).toArray })=h₂ at m ⊢;obtain ⟨vs,g,hsz,F⟩:=m.isX t;refine Ch g rfl (by omega) ?_;have w:=Bd (Obj.mapFields (·.setIfInBounds 1 (Value.ref c.objs.size))) g rfl;have y:=m.write (t':=s.toks) (o:=N2 (some c.objs.size) a C d) (by rw [t];exact True.intro) (.inl rfl)
  (λb u n q=>(BA _ _ (Ne.symm n)).trans q) ⟨_,w⟩ (okX ⟨_,w,by simpa using hsz,by simp [tbV,hsz]⟩)
 refine h _ _ c.objs.size y ⟨j.xc,b6,λd' z=>?_,λT z=>?_⟩ ⟨λb o n q=>?_,_,b6⟩
 ·obtain ⟨n,fs,q⟩:=j.dc d' z;exact ⟨n,fs,by rw [b1 n,b1 (b3 q k)];exact q⟩
 ·cases z;exact ⟨f,by rw [b1 f];exact b6⟩
 ·rw [b1 n,b1 (b3 q k)];exact q
theorem mM (I:Inv X pins σ H s) (i:A.frames=some X.stack) (f:X.stack=X.env :: X.outer) (g:X.env.frame=some X.env.locals) (c:Fx X.K H a C d tb)
  (h:∀ H' s' T,Inv X pins σ H' s'->Fx X.K H' a C d (some T)->Mv H a C d H'->Q () s'):wpAny (model X.prog X.w) A (noteFrame (.ref a) X.env) Q E s:=by
 obtain ⟨vs,e,hsz,j⟩:=c.isX I;unfold noteFrame;simp only [g];cases tb with
 | none=>
  refine Ag (CS e rfl j ?_);rw [if_neg (by decide)];exact bg I i f g c h
 | some T=>
  refine Ag (CS e rfl (x:=.ref T) j ?_);rw [if_pos (show (Value.ref T != Value.none)=true from by simp)];obtain ⟨t,k⟩:=c.tb_ T rfl;obtain ⟨o,p,n,r,z⟩:=(I.hok T _ k).1;refine Ag (CS n r (Bh z) ?_);by_cases l:(p[3]==rawInt X.env.locals)=true
  ·rw [if_pos l];exact Ah (h H s T I c ⟨λb o _ q=>q,_,c.at_⟩)
  ·rw [if_neg l];exact Ag (I.setTb k λm=>bg m i f g c h)
theorem gB (I:Inv X pins σ H s) (c:Fx X.K H a C d (some T)) (h:∀ s',Inv X pins σ H s'->Q () s'):wpAny (model X.prog X.w) A (setFlight (.ref a) fl) Q E s:=by
 obtain ⟨vs,b,hsz,f⟩:=c.isX I;refine Ag (CS b rfl (x:=.ref T) f ?_);rw [if_pos (show (Value.ref T != Value.none)=true from by simp)];exact I.setTb (c.tb_ T rfl).2 λe=>h _ e
theorem dQ (I:Inv X pins σ H s) (f:A.frames=some X.stack) (c:X.stack=X.env :: X.outer) (i:X.env.frame=some X.env.locals) (l:Fx X.K H a C d tb)
  (h:∀ H' s' T,Inv X pins σ H' s'->Fx X.K H' a C d (some T)->Mv H a C d H'->Q () s'):wpAny (model X.prog X.w) A (leaving X.env (.ref a)) Q E s:=by
 exact Ag (mM I f c i l λg n T k b j=>gB k b λm e=>h g m T e b j)
end
end L2
namespace Hn
open PySem L2
def spHE (K:PySem.W.Frag):Sp:=λvs H Q _=>∃ (x:Addr) (y:V) (C:Addr) (d:Option Addr),vs=[.ref x,y]/\XC K C/\H x=some (nu x C d)/\Q .non H
structure Fmt (K:PySem.W.Frag) (H:Hp) (v:V) (d:PyData):Prop where
 at_:DAt K H v d
 sh:Shows d
 l1:d.shown.length<=4000
 l2:∀ x,v=.str x->x.length<=4000
def Got (H:Hp) (x C:Addr) (fs:List (Str×V)) (H':Hp):Prop:=∃ d,H d=none/\d≠x/\H' x=some (nu x C (some d))/\H' d=some (bO d fs)/\∀ b,b≠x->b≠d->H' b=H b
def sp1 (K:PySem.W.Frag) (f:Str):Sp:=λvs H Q _=>∃ (x:Addr) (v:V) (C:Addr) (a:PyData),vs=[.ref x,v]/\XC K C/\E6 K C f/\H x=some (nu x C none)/\Fmt K H v a/\∀ H',Got H x C [(f,v)] H'->Q .non H'
def sp2 (K:PySem.W.Frag) (f g:Str):Sp:=λvs H Q _=>∃ (x:Addr) (v u:V) (C:Addr) (a b:PyData),vs=[.ref x,v,u]/\XC K C/\E6 K C f/\E6 K C g/\H x=some (nu x C none)/\Fmt K H v a/\Fmt K H u b /\
 ∀ H',Got H x C [(f,v),(g,u)] H'->Q .non H'
end Hn
namespace L3
open PySem PySem.Spec PyProof.Rows L2
inductive D where
 | non | bl (b:Bool) | int (i:Int) | str (x:Str) | tup (ds:List D) | lst (ds:List D) | scr (ds:List D) | ref (n:Nat)
inductive O where
 | lst (ds:List D) | dct (kvs:List (Key×D)) | exc (c:Nat) (fs:List (Str×D))
abbrev Sto:=List O
inductive R (α:Type) where
 | ok (a:α) (S:Sto) | exn (n:Nat) (S:Sto) | bad
abbrev M (α:Type):=Sto->R α
def ret {b:Type} (a:b):M b:=λS=>.ok a S
def bad {a:Type}:M a:=λ_=>.bad
def bind {c b:Type} (m:M c) (k:c->M b):M b:=λS=>match m S with
 | .ok a S'=>k a S'
 | .exn n S'=>.exn n S'
 | .bad=>.bad
abbrev Env:=List (Option D)
structure Mp where
 pl:List Addr
 rs:List Addr
def Mp.push (μ:Mp) (p:Addr):Mp:=⟨μ.pl++[p],μ.rs⟩
def TupAt (K:PySem.W.Frag) (μ:Mp) (H:Hp) (a:Addr) (xs:List V):Prop:=
 (Rd H a (.tup xs)/\a∉μ.pl/\a∉μ.rs)\/∃ (o:Obj) (b:Array Value) (n:Nat),K.lookup a=some o/\o.cls=.type "tuple"/\o.data=.seq b n/\b.size<=sizeLine/\Vals xs b.toList/\o.dict=none
def ScrAt (K:PySem.W.Frag) (μ:Mp) (H:Hp) (a:Addr) (xs:List V):Prop:=
 (Rd H a (.lst xs)/\a∉μ.pl/\a∉μ.rs)\/∃ (o:Obj) (b:Array Value) (n:Nat),K.lookup a=some o/\o.cls=.type "list"/\o.dict=none/\o.data=.seq b n/\b.size<=sizeLine/\Vals xs b.toList
def LstAt (μ:Mp) (H:Hp) (a:Addr) (xs:List V):Prop:=H a=some (.lst xs)/\a∉μ.pl/\a∉μ.rs
theorem TupAt.sq {K:PySem.W.Frag} {μ:Mp} {H:Hp} {a:Addr} {xs:List V} (h:TupAt K μ H a xs):SqT K H a xs:=h.imp (λz=>z.1) λ⟨o,f,n,a,b,c,d,e,_⟩=>⟨o,f,n,a,b,c,d,e⟩
theorem ScrAt.sq {K:PySem.W.Frag} {μ:Mp} {H:Hp} {a:Addr} {xs:List V} (h:ScrAt K μ H a xs):SqL K H a xs:=h.imp (λz=>z.1) id
theorem LstAt.sq {K:PySem.W.Frag} {μ:Mp} {H:Hp} {a:Addr} {xs:List V} (h:LstAt μ H a xs):SqL K H a xs:=.inl (.inl h.1)
mutual
inductive RD (K:PySem.W.Frag) (μ:Mp) (H:Hp):D->V->Prop where
 | non:RD K μ H .non .non
 | bl (b:Bool):RD K μ H (.bl b) (.bl b)
 | int (i:Int):RD K μ H (.int i) (.int i)
 | str (x:Str):RD K μ H (.str x) (.str x)
 | tup {a:Addr} {xs:List V} {ds:List D}:TupAt K μ H a xs->RDs K μ H ds xs->RD K μ H (.tup ds) (.ref a)
 | lst {a:Addr} {xs:List V} {ds:List D}:LstAt μ H a xs->RDs K μ H ds xs->RD K μ H (.lst ds) (.ref a)
 | scr {a:Addr} {xs:List V} {ds:List D}:ScrAt K μ H a xs->RDs K μ H ds xs->RD K μ H (.scr ds) (.ref a)
 | ref {n:Nat} {a:Addr}:μ.pl[n]?=some a->RD K μ H (.ref n) (.ref a)
inductive RDs (K:PySem.W.Frag) (μ:Mp) (H:Hp):List D->List V->Prop where
 | nil:RDs K μ H [] []
 | cons {d:D} {v:V} {ds:List D} {vs:List V}:RD K μ H d v->RDs K μ H ds vs->RDs K μ H (d :: ds) (v :: vs)
end
structure Lat (μ:Mp) (H:Hp) (μ':Mp) (H':Hp):Prop where
 pre:∀ (n:Nat) (a:Addr),μ.pl[n]?=some a->μ'.pl[n]?=some a
 oth:∀ a o,H a=some o->a∉μ.pl->H' a=some o
 new:∀ a,a∈μ'.pl->a∈μ.pl\/H a=none
 rsv:μ'.rs=μ.rs
theorem Lat.refl (μ:Mp) (H:Hp):Lat μ H μ H:=⟨λ_ _ h=>h,λ_ _ h _=>h,λ_ h=>.inl h,rfl⟩
theorem Lat.out {H H':Hp} (l:Lat μ H μ' H') {a:Addr} {o:HO} (h:H a=some o) (n:a∉μ.pl):a∉μ'.pl:=λz=>by
 rcases l.new a z with q | q
 ·exact n q
 ·rw [h] at q;cases q
theorem Lat.trans {H c b:Hp} (l:Lat μ H μ1 c) (k:Lat μ1 c μ2 b):Lat μ H μ2 b:=by
 refine ⟨λn a h=>k.pre n a (l.pre n a h),λa o h n=>k.oth a o (l.oth a o h n) (l.out h n),λa h=>?_,k.rsv.trans l.rsv⟩;rcases k.new a h with q | q
 ·exact l.new a q
 ·by_cases m:a∈μ.pl
  ·exact .inl m
  ·right
   cases e:H a with
   | none=>rfl
   | some o=>rw [l.oth a o e m] at q;cases q
theorem Rd.later {H H':Hp} (l:Lat μ H μ' H') {a:Addr} {u:HO} (h:Rd H a u) (n:a∉μ.pl):Rd H' a u/\a∉μ'.pl:=by
 rcases h with h | ⟨o,h⟩
 ·exact ⟨.inl (l.oth _ _ h n),l.out h n⟩
 ·exact ⟨.inr ⟨o,l.oth _ _ h n⟩,l.out h n⟩
theorem TupAt.later {K:PySem.W.Frag} {μ μ':Mp} {H H':Hp} (l:Lat μ H μ' H') {a:Addr} {xs:List V} (h:TupAt K μ H a xs):TupAt K μ' H' a xs:=h.imp (λz=>⟨(Rd.later l z.1 z.2.1).1,(Rd.later l z.1 z.2.1).2,by rw [l.rsv];exact z.2.2⟩) id
theorem ScrAt.later {K:PySem.W.Frag} {μ μ':Mp} {H H':Hp} (l:Lat μ H μ' H') {a:Addr} {xs:List V} (h:ScrAt K μ H a xs):ScrAt K μ' H' a xs:=h.imp (λz=>⟨(Rd.later l z.1 z.2.1).1,(Rd.later l z.1 z.2.1).2,by rw [l.rsv];exact z.2.2⟩) id
theorem LstAt.later {H H':Hp} (l:Lat μ H μ' H') {a:Addr} {xs:List V} (h:LstAt μ H a xs):LstAt μ' H' a xs:=⟨l.oth _ _ h.1 h.2.1,l.out h.1 h.2.1,by rw [l.rsv];exact h.2.2⟩
mutual
theorem RD.later {K:PySem.W.Frag} {μ μ':Mp} {H H':Hp} (l:Lat μ H μ' H'):∀ {d:D} {v:V},RD K μ H d v->RD K μ' H' d v
 | _,_,.non=>.non
 | _,_,.bl b=>.bl b
 | _,_,.int i=>.int i
 | _,_,.str x=>.str x
 | _,_,.tup h r=>.tup (h.later l) (RDs.later l r)
 | _,_,.lst h r=>.lst (h.later l) (RDs.later l r)
 | _,_,.scr h r=>.scr (h.later l) (RDs.later l r)
 | _,_,.ref h=>.ref (l.pre _ _ h)
theorem RDs.later {K:PySem.W.Frag} (l:Lat μ H μ' H'):∀ {ds:List D} {vs:List V},RDs K μ H ds vs->RDs K μ' H' ds vs
 | _,_,.nil=>.nil
 | _,_,.cons h r=>.cons (RD.later l h) (RDs.later l r)
end
section
variable {K:PySem.W.Frag} {μ:Mp} {H:Hp}
theorem RDs.length:∀ {ds:List D} {vs:List V},RDs K μ H ds vs->ds.length=vs.length
 | _,_,.nil=>rfl
 | _,_,.cons _ r=>by simp [RDs.length r]
theorem RDs.get:∀ {ds:List D} {vs:List V} {i:Nat} {d:D},RDs K μ H ds vs->ds[i]?=some d->∃ v,vs[i]?=some v/\RD K μ H d v
 | _,_,_,_,.nil,e=>by simp at e
 | _,_,0,_,.cons h _,e=>by simp at e;subst e;exact ⟨_,rfl,h⟩
 | _,_,i+1,d,.cons _ r,e=>by
  obtain ⟨v,b,a⟩:=RDs.get r (by simpa using e);exact ⟨v,by simpa using b,a⟩
theorem RDs.append:∀ {ds es:List D} {vs us:List V},RDs K μ H ds vs->RDs K μ H es us->RDs K μ H (ds++es) (vs++us)
 | _,_,_,_,.nil,s=>s
 | _,_,_,_,.cons h r,s=>.cons h (RDs.append r s)
theorem RDs.take:∀ {ds:List D} {vs:List V} (n:Nat),RDs K μ H ds vs->RDs K μ H (ds.take n) (vs.take n)
 | _,_,0,_=>by simpa using RDs.nil
 | _,_,_+1,.nil=>by simpa using RDs.nil
 | _,_,n+1,.cons h r=>by simpa using RDs.cons h (RDs.take n r)
theorem RDs.drop:∀ {ds:List D} {vs:List V} (n:Nat),RDs K μ H ds vs->RDs K μ H (ds.drop n) (vs.drop n)
 | _,_,0,h=>by simpa using h
 | _,_,_+1,.nil=>by simpa using RDs.nil
 | _,_,n+1,.cons _ r=>by simpa using RDs.drop n r
theorem RDs.set (q:RD K μ H d v):∀ {ds:List D} {vs:List V} (n:Nat),RDs K μ H ds vs->RDs K μ H (ds.set n d) (vs.set n v)
 | _,_,_,.nil=>by simpa using RDs.nil
 | _,_,0,.cons h r=>by simpa using RDs.cons q r
 | _,_,n+1,.cons h r=>by simpa using RDs.cons h (RDs.set q n r)
theorem RDs.reverse (r:RDs K μ H ds vs):RDs K μ H ds.reverse vs.reverse:=by
 have:∀ (ds:List D) (vs:List V) (es:List D) (us:List V),RDs K μ H ds vs->RDs K μ H es us->RDs K μ H (ds.reverseAux es) (vs.reverseAux us):=λds=>by
  induction ds with
  | nil=>intro vs es us h k;cases h;exact k
  | cons d ds a=>intro vs es us h k;cases h with | cons c b=>exact (by simpa [List.reverseAux] using a _ _ _ b (.cons c k))
 exact this _ _ _ _ r .nil
theorem RDs.rep (r:RDs K μ H ds vs):∀ k:Nat,RDs K μ H (List.replicate k ds).flatten (List.replicate k vs).flatten
 | 0=>.nil
 | k+1=>by
  rw [BP,BP,BN,BN];exact r.append (RDs.rep r k)
theorem RDs.ints:∀ ns:List Int,RDs K μ H (ns.map D.int) (ns.map V.int)
 | []=>.nil
 | n :: ns=>.cons (.int n) (RDs.ints ns)
end
def tN (K:PySem.W.Frag) (μ:Mp) (H:Hp):List (Str×D)->List (Str×V)->Prop:=Paired λp q=>p.1=q.1/\RD K μ H p.2 q.2
def KvsAt (K:PySem.W.Frag) (μ:Mp) (H:Hp):List (Key×D)->List (Key×V)->Prop:=Paired λp q=>p.1=q.1/\RD K μ H p.2 q.2
def OAt (K:PySem.W.Frag) (cl:Nat->Addr) (μ:Mp) (H:Hp) (a:Addr):O->Prop
 | .lst ds=>∃ xs,H a=some (.lst xs)/\RDs K μ H ds xs
 | .dct b=>∃ e,H a=some (.dK e)/\KvsAt K μ H b e
 | .exc c fs=>XC K (cl c)/\∃ gs,tN K μ H fs gs/\∃ f,((gs=[]/\H a=some (N2 f a (cl c) none))\/∃ d,d≠a/\d∉μ.pl/\H a=some (N2 f a (cl c) (some d))/\H d=some (bO d gs))
def nc (K:PySem.W.Frag) (cl:Nat->Addr):Prop:=K.lookup (cl 1000000)=none
def qNm (P:Addr) (o:Obj):Option Str:=match o.data with
 | .fields vs=>(match (vs[11]?:Option Value) with
  | some (.ref P')=>if P'=P then (match (vs[1]?:Option Value) with
   | some (.str q _)=>some q
   | _=>none) else none
  | _=>none)
 | _=>none
def cm (K:PySem.W.Frag) (P:Addr):Str:=(K.findSome? λp=>qNm P p.2).getD "" ++ ".<locals>.<lambda>"
def tbO (K:PySem.W.Frag) (cl:Nat->Addr):HO:=.tbl #[.str (cm K (cl 1000000)) 0]
def TbOk (K:PySem.W.Frag) (cl:Nat->Addr) (μ:Mp) (H:Hp):Prop:=nc K cl->cl 1000000∉μ.pl/\cl 1000000∉μ.rs/\H (cl 1000000)=some (tbO K cl)
theorem TbOk.mv {K:PySem.W.Frag} {cl:Nat->Addr} {μ μ':Mp} {H H':Hp} (h:TbOk K cl μ H) (ho:∀ a u,H a=some u->a∉μ.pl->a∉μ.rs->H' a=some u/\a∉μ'.pl/\a∉μ'.rs):TbOk K cl μ' H':=λz=>let ⟨h1,h2,h3⟩:=h z;let ⟨a,b,c⟩:=ho _ _ h3 h1 h2;⟨b,c,a⟩
structure Rep (K:PySem.W.Frag) (cl:Nat->Addr) (μ:Mp) (S:Sto) (H:Hp):Prop where
 len:μ.pl.length=S.length
 nd:μ.pl.Nodup
 ats:∀ (n:Nat) (o:O) (a:Addr),S[n]?=some o->μ.pl[n]?=some a->OAt K cl μ H a o
 res:∀ a,a∈μ.rs->a∉μ.pl/\∃ u,H a=some u
 tb:TbOk K cl μ H
theorem Paired.mono {P Q:α->β->Prop} (h:∀ a b,P a b->Q a b):∀ {xs:List α} {ys:List β},Paired P xs ys->Paired Q xs ys
 | _,_,.nil=>.nil
 | _,_,.cons r t=>.cons (h _ _ r) (Paired.mono h t)
section
variable {K:PySem.W.Frag} {cl:Nat->Addr} {μ:Mp} {S:Sto} {H:Hp}
theorem OAt.some (h:OAt K cl μ H a o):∃ u,H a=some u:=by
 cases o with
 | lst ds=>obtain ⟨xs,e,_⟩:=h;exact ⟨_,e⟩
 | dct kvs=>obtain ⟨xs,e,_⟩:=h;exact ⟨_,e⟩
 | exc c fs=>
  obtain ⟨_,gs,_,fr,⟨_,e⟩ | ⟨d,_,_,e,_⟩⟩:=h
  ·exact ⟨_,e⟩
  ·exact ⟨_,e⟩
theorem Rep.tracked (r:Rep K cl μ S H) {a:Addr} (h:a∈μ.pl):∃ u,H a=some u:=by
 obtain ⟨n,b,e⟩:=List.getElem_of_mem h;have hs:n<S.length:=by rw [<- r.len];exact b
 exact (r.ats n S[n] a (Aj hs) (by rw [Aj b,e])).some
theorem Rep.notrs (r:Rep K cl μ S H) {p:Addr} (h:H p=none):p∉μ.rs:=λz=>by
 obtain ⟨_,u,e⟩:=r.res p z;rw [h] at e;cases e
theorem Rep.notin (r:Rep K cl μ S H) {p:Addr} (h:H p=none):p∉μ.pl:=λz=>by
 obtain ⟨u,e⟩:=r.tracked z;rw [h] at e;cases e
theorem Lat.laid (h:H p=none):Lat μ H μ (upd H p o):=⟨λ_ _ h=>h,λa u e _=>by rw [b1 (b3 e h)];exact e,λ_ h=>.inl h,rfl⟩
theorem Rep.keep (r:Rep K cl μ S H) (l:Lat μ H μ H') (k:∀ a,a∈μ.pl->H' a=H a):Rep K cl μ S H':=by
 refine ⟨r.len,r.nd,λn o a e1 e2=>?_,λa m=>let ⟨h1,u,h2⟩:=r.res a m;⟨h1,u,l.oth _ _ h2 h1⟩,r.tb.mv λa u e n1 n2=>⟨l.oth _ _ e n1,n1,n2⟩⟩;have ka:=k a (AS e2);have h:=r.ats n o a e1 e2;cases o with
 | lst ds=>obtain ⟨xs,e,q⟩:=h;exact ⟨xs,by rw [ka];exact e,q.later l⟩
 | dct kvs=>obtain ⟨xs,e,q⟩:=h;exact ⟨xs,by rw [ka];exact e,Paired.mono (λ_ _ ⟨z,w⟩=>⟨z,w.later l⟩) q⟩
 | exc c fs=>
  obtain ⟨xc,gs,q,fr,h⟩:=h;refine ⟨xc,gs,Paired.mono (λ_ _ ⟨z,w⟩=>⟨z,w.later l⟩) q,fr,?_⟩;rcases h with ⟨z,e⟩ | ⟨d,h1,h2,e,e2⟩
  ·grind
  ·exact .inr ⟨d,h1,h2,by rw [ka];exact e,l.oth _ _ e2 h2⟩
theorem Rep.laid (r:Rep K cl μ S H) (h:H p=none):Rep K cl μ S (upd H p o):=r.keep (Lat.laid h) λa m=>b1 λz=>r.notin h (z▸m)
theorem Lat.pushed (h:H p=none) (k:∀ a u,H a=some u->H' a=some u):Lat μ H (μ.push p) H':=
 ⟨λn a e=>by show (μ.pl++[p])[n]?=_;rw [Aq (As.mp e).1];exact e,λa u e _=>k a u e,λa m=>by
  rcases Bn.mp m with z | z
  ·exact .inl z
  ·exact .inr (by rw [AU.mp z];exact h),rfl⟩
theorem OAt.later {a:Addr} {o:O} (h:OAt K cl μ H a o) (l:Lat μ H μ' H') (ka:H' a=H a):OAt K cl μ' H' a o:=by
 cases o with
 | lst ds=>obtain ⟨xs,e,q⟩:=h;exact ⟨xs,by rw [ka];exact e,q.later l⟩
 | dct kvs=>obtain ⟨xs,e,q⟩:=h;exact ⟨xs,by rw [ka];exact e,Paired.mono (λ_ _ ⟨z,w⟩=>⟨z,w.later l⟩) q⟩
 | exc c fs=>
  obtain ⟨xc,gs,q,fr,h⟩:=h;refine ⟨xc,gs,Paired.mono (λ_ _ ⟨z,w⟩=>⟨z,w.later l⟩) q,fr,?_⟩;rcases h with ⟨z,e⟩ | ⟨d,h1,h2,e,e2⟩
  ·grind
  ·exact .inr ⟨d,h1,l.out e2 h2,by rw [ka];exact e,l.oth _ _ e2 h2⟩
theorem Rep.pushed (r:Rep K cl μ S H) (h:H p=none) (k:∀ a u,H a=some u->H' a=some u) (ho:OAt K cl (μ.push p) H' p o):Rep K cl (μ.push p) (S++[o]) H':=by
 have l:=Lat.pushed (μ:=μ) h k;refine ⟨by simp [Mp.push,r.len],?_,λn u a e1 e2=>?_,λa m=>?_,r.tb.mv λa u e n1 n2=>⟨k a u e,λz=>?_,n2⟩⟩
 rotate_right
 ·rcases Bn.mp (show a∈μ.pl++[p] from z) with z | z
  ·exact n1 z
  ·rw [AU.mp z,h] at e;cases e
 ·show (μ.pl++[p]).Nodup;rw [DZ];exact ⟨r.nd,by simp,λa m b m2=>by rw [AU.mp m2];rintro rfl;exact r.notin h m⟩
 ·have e2:(μ.pl++[p])[n]?=some a:=e2;by_cases hn:n<S.length
  ·rw [Aq hn] at e1;rw [Aq (by rw [r.len];exact hn)] at e2;have q:=r.ats n u a e1 e2;obtain ⟨z,ez⟩:=q.some;exact q.later l ((k a z ez).trans ez.symm)
  ·have hn2:n=S.length:=by
    have:=(As.mp e1).1;simp at this;omega
   subst hn2;rw [<- r.len] at e2;simp at e1 e2;subst e1;subst e2;exact ho
 ·obtain ⟨h1,u,h2⟩:=r.res a m;refine ⟨λz=>?_,u,k a u h2⟩;rcases Bn.mp (z) with z | z
  ·exact h1 z
  ·grind
theorem Lat.wrote (h:a∈μ.pl):Lat μ H μ (upd H a o):=⟨λ_ _ h=>h,λb u e n=>by rw [b1 (λz=>n (by rw [z];exact h))];exact e,λ_ h=>.inl h,rfl⟩
theorem Rep.wrote (r:Rep K cl μ S H) (e:μ.pl[n]?=some a) (ho:OAt K cl μ (upd H a u) a o):Rep K cl μ (S.set n o) (upd H a u):=by
 have m:=AS e;refine ⟨by simp [r.len],r.nd,λk w b e1 e2=>?_,λb mb=>let ⟨h1,u',h2⟩:=r.res b mb;⟨h1,u',by rw [b1 (λz=>h1 (by rw [z];exact m))];exact h2⟩,r.tb.mv λb u e n1 n2=>⟨by rw [b1 (λz=>n1 (by rw [z];exact m))];exact e,n1,n2⟩⟩;by_cases hk:n=k
 ·grind
 ·rw [AV hk] at e1;have hb:b≠a:=λz=>by
   subst z;obtain ⟨h1,q1⟩:=As.mp e;obtain ⟨h2,q2⟩:=As.mp e2;exact hk ((Dd r.nd).mp (q1.trans q2.symm))
  exact (r.ats k w b e1 e2).later (Lat.wrote m) (b1 hb)
end
def Mp.hold (μ:Mp) (p:Addr):Mp:=⟨μ.pl,p :: μ.rs⟩
mutual
theorem RD.move {K:PySem.W.Frag} {μ μ':Mp} {H H':Hp} (g:∀ (n:Nat) (a:Addr),μ.pl[n]?=some a->μ'.pl[n]?=some a) (c:∀ a u,H a=some u->a∉μ.pl->a∉μ.rs->H' a=some u/\a∉μ'.pl/\a∉μ'.rs):∀ {d:D} {v:V},RD K μ H d v->RD K μ' H' d v
 | _,_,.non=>.non
 | _,_,.bl b=>.bl b
 | _,_,.int i=>.int i
 | _,_,.str x=>.str x
 | _,_,.tup h r=>.tup (h.imp (λ⟨q,e,f⟩=>by
   rcases q with q | ⟨o,q⟩
   ·exact ⟨.inl (c _ _ q e f).1,(c _ _ q e f).2⟩
   ·exact ⟨.inr ⟨o,(c _ _ q e f).1⟩,(c _ _ q e f).2⟩) id) (RDs.move g c r)
 | _,_,.lst h r=>.lst (c _ _ h.1 h.2.1 h.2.2) (RDs.move g c r)
 | _,_,.scr h r=>.scr (h.imp (λ⟨q,e,f⟩=>by
   rcases q with q | ⟨o,q⟩
   ·exact ⟨.inl (c _ _ q e f).1,(c _ _ q e f).2⟩
   ·exact ⟨.inr ⟨o,(c _ _ q e f).1⟩,(c _ _ q e f).2⟩) id) (RDs.move g c r)
 | _,_,.ref h=>.ref (g _ _ h)
theorem RDs.move {K:PySem.W.Frag} (hp:∀ (n:Nat) (a:Addr),μ.pl[n]?=some a->μ'.pl[n]?=some a) (ho:∀ a u,H a=some u->a∉μ.pl->a∉μ.rs->H' a=some u/\a∉μ'.pl/\a∉μ'.rs):∀ {ds:List D} {vs:List V},RDs K μ H ds vs->RDs K μ' H' ds vs
 | _,_,.nil=>.nil
 | _,_,.cons h r=>.cons (RD.move hp ho h) (RDs.move hp ho r)
end
section
variable {K:PySem.W.Frag} {cl:Nat->Addr} {μ:Mp} {S:Sto} {H:Hp}
theorem Rep.move {H':Hp} (r:Rep K cl μ S H) (hr:∀ a,a∈μ'.rs->a∉μ'.pl/\∃ u,H' a=some u) (hp:μ'.pl=μ.pl) (hk:∀ a,a∈μ.pl->H' a=H a) (hx:∀ a u,H a=some (.ext u)->H' a=some (.ext u)) (ho:∀ a u,H a=some u->a∉μ.pl->a∉μ.rs->H' a=some u/\a∉μ'.pl/\a∉μ'.rs):Rep K cl μ' S H':=by
 have hp':∀ (n:Nat) (a:Addr),μ.pl[n]?=some a->μ'.pl[n]?=some a:=λn a e=>by rw [hp];exact e
 refine ⟨by rw [hp];exact r.len,by rw [hp];exact r.nd,λn o a e1 e2=>?_,hr,r.tb.mv ho⟩;rw [hp] at e2;have ka:=hk a (AS e2);have h:=r.ats n o a e1 e2;cases o with
 | lst ds=>obtain ⟨xs,e,q⟩:=h;exact ⟨xs,by rw [ka];exact e,q.move hp' ho⟩
 | dct kvs=>obtain ⟨xs,e,q⟩:=h;exact ⟨xs,by rw [ka];exact e,Paired.mono (λ_ _ ⟨z,w⟩=>⟨z,w.move hp' ho⟩) q⟩
 | exc c fs=>
  obtain ⟨xc,gs,q,fr,h⟩:=h;refine ⟨xc,gs,Paired.mono (λ_ _ ⟨z,w⟩=>⟨z,w.move hp' ho⟩) q,fr,?_⟩;rcases h with ⟨z,e⟩ | ⟨d,h1,h2,e,e2⟩
  ·grind
  ·exact .inr ⟨d,h1,by rw [hp];exact h2,by rw [ka];exact e,hx _ _ e2⟩
end
section
variable (K:PySem.W.Frag) (cl:Nat->Addr) (xe:Addr->Hp->Prop)
def Post {b:Type} (μ:Mp) (H:Hp) (r:R b) (G:b->Sto->Mp->Hp->Prop):Prop:=match r with
 | .ok a S=>∀ μ' H',Lat μ H μ' H'->Rep K cl μ' S H'->G a S μ' H'
 | .exn n S=>∀ μ' H' a,Lat μ H μ' H'->Rep K cl μ' S H'->μ'.pl[n]?=some a->xe a H'
 | .bad=>False
end
section
variable {K:PySem.W.Frag} {cl:Nat->Addr} {xe:Addr->Hp->Prop} {α β:Type} {μ μ1:Mp} {H H1:Hp}
theorem Post.later {G:α->Sto->Mp->Hp->Prop} (h:Post K cl xe μ H r G) (l:Lat μ H μ1 H1):Post K cl xe μ1 H1 r G:=by
 cases r with
 | ok a S=>exact λμ' H' k r=>h μ' H' (l.trans k) r
 | exn n S=>exact λμ' H' a k r e=>h μ' H' a (l.trans k) r e
 | bad=>exact h
theorem Post.imp {G G':α->Sto->Mp->Hp->Prop} (h:Post K cl xe μ H r G) (k:∀ a S μ' H',Lat μ H μ' H'->Rep K cl μ' S H'->G a S μ' H'->G' a S μ' H'):Post K cl xe μ H r G':=by
 cases r with
 | ok a S=>exact λμ' H' l r=>k a S μ' H' l r (h μ' H' l r)
 | exn n S=>exact h
 | bad=>exact h
theorem Post.bind {k:α->M β} {S:Sto} {G:β->Sto->Mp->Hp->Prop} (h:Post K cl xe μ H (bind m k S) G):Post K cl xe μ H (m S) (λa S1 μ1 H1=>Post K cl xe μ1 H1 (k a S1) G):=by
 unfold L3.bind at h;cases e:m S with
 | ok a S1=>
  rw [e] at h;exact λμ' H' l r=>Post.later h l
 | exn n S1=>rw [e] at h;exact h
 | bad=>rw [e] at h;exact h
theorem Post.ret {G:α->Sto->Mp->Hp->Prop} (h:Post K cl xe μ H (ret a S) G):∀ μ' H',Lat μ H μ' H'->Rep K cl μ' S H'->G a S μ' H':=h
end
def EnvOk (K:PySem.W.Frag) (μ:Mp) (H:Hp) (ρ:Env) (σ:L2.St):Prop:=ρ.length=σ.length/\∀ (i:Nat) (d:D),ρ[i]?=some (some d)->∃ v,σ[i]?=some (some v)/\RD K μ H d v
theorem EnvOk.later {K:PySem.W.Frag} {μ a:Mp} {H b:Hp} {ρ:Env} {σ:L2.St} (h:EnvOk K μ H ρ σ) (l:Lat μ H a b):EnvOk K a b ρ σ:=⟨h.1,λi d e=>let ⟨v,q,r⟩:=h.2 i d e;⟨v,q,r.later l⟩⟩
theorem EnvOk.set {K:PySem.W.Frag} {μ:Mp} {H:Hp} {ρ:Env} {σ:L2.St} {d:D} {v:V} (h:EnvOk K μ H ρ σ) (r:RD K μ H d v) (i:Nat):EnvOk K μ H (ρ.set i (some d)) (σ.set i (some v)):=by
 refine ⟨by simp [h.1],λj e b=>?_⟩;by_cases a:i=j
 ·subst a;have c:i<ρ.length:=by
   have:=(As.mp b).1;simpa using this
  rw [Bi c] at b;cases b;exact ⟨v,Bi (by rw [<- h.1];exact c),r⟩
 ·rw [AV a] at b;obtain ⟨u,q,f⟩:=h.2 j e b;exact ⟨u,by rw [AV a];exact q,f⟩
section
variable (K:PySem.W.Frag) (cl:Nat->Addr) (xe:Addr->Hp->Prop)
def tD (f:Env->M D):TE:=λσ H Q=>∃ μ S ρ,EnvOk K μ H ρ σ/\Rep K cl μ S H/\Post K cl xe μ H (f ρ S) λd _ μ' H'=>∀ v,RD K μ' H' d v->Q v H'
def tDs (f:Env->M (List D)):TA:=λσ H Q=>∃ μ S ρ,EnvOk K μ H ρ σ/\Rep K cl μ S H/\Post K cl xe μ H (f ρ S) λds _ μ' H'=>∀ vs,RDs K μ' H' ds vs->Q vs H'
def tBo (f:Env->M Bool):TT:=λσ H Q=>∃ μ S ρ,EnvOk K μ H ρ σ/\Rep K cl μ S H/\Post K cl xe μ H (f ρ S) λb _ _ H'=>Q b H'
def rP2 (g:D->D->M D):R2:=λx y H Q=>∃ μ S d e,RD K μ H d x/\RD K μ H e y/\Rep K cl μ S H/\Post K cl xe μ H (g d e S) λr _ μ' H'=>∀ v,RD K μ' H' r v->Q v H'
def rPs (g:List D->M D):List V->Hp->VK->Prop:=λxs H Q=>∃ μ S ds,RDs K μ H ds xs/\Rep K cl μ S H/\Post K cl xe μ H (g ds S) λr _ μ' H'=>∀ v,RD K μ' H' r v->Q v H'
end
theorem PE.imp (h:PE X e t) (k:∀ σ H Q,t' σ H Q->t σ H Q):PE X e t':=λpins s σ H Q I q=>h pins s σ H Q I (k σ H Q q)
theorem PT.imp (h:PT X e t) (k:∀ σ H Q,t' σ H Q->t σ H Q):PT X e t':=λpins s σ H Q I q=>h pins s σ H Q I (k σ H Q q)
theorem PW.imp (h:PW X e t) (k:∀ σ H Q,t' σ H Q->t σ H Q):PW X e t':=λw pins s σ H Q I q=>h w pins s σ H Q I (k σ H Q q)
theorem PA.imp (h:PA X es t) (k:∀ σ H Q,t' σ H Q->t σ H Q):PA X es t':=λp pins s σ H Q I q=>h p pins s σ H Q I (k σ H Q q)
theorem PS.imp {st:Stmt} {t t':TS} (h:PS X st t) (k:∀ D σ H,t' D σ H->t D σ H):PS X st t':=λpins s σ H D I q=>h pins s σ H D I (k D σ H q)
theorem PSs.imp {st:List Stmt} {t t':TS} (h:PSs X st t) (k:∀ D σ H,t' D σ H->t D σ H):PSs X st t':=λpins s σ H D I q=>h pins s σ H D I (k D σ H q)
section
variable {X:Cx} {cl:Nat->Addr} {xe:Addr->Hp->Prop} {a b c:Expr} {es:List Expr} {pos:Pos} {f g:Env->M D}
theorem i7:PE X e (tD X.K cl xe λ_=>bad):=λ_ _ _ _ _ _ ⟨_,_,_,_,_,p⟩=>p.elim
theorem cn:PT X e (tBo X.K cl xe λ_=>bad):=λ_ _ _ _ _ _ ⟨_,_,_,_,_,p⟩=>p.elim
theorem pw_bad:PW X e (tBo X.K cl xe λ_=>bad):=λ_ _ _ _ _ _ _ ⟨_,_,_,_,_,p⟩=>p.elim
theorem B6 (h:PE X e (tC v)) (r:∀ μ H,RD X.K μ H d v):PE X e (tD X.K cl xe λ_=>ret d):=PE.imp h λσ H Q ⟨μ,S,ρ,b,a,p⟩=>p.ret μ H (Lat.refl _ _) a v (r μ H)
def getD (i:Nat) (ρ:Env):M D:=match ρ[i]? with
 | some (some d)=>ret d
 | _=>bad
theorem qT {e:Expr} (h:PE X e (uH i)):PE X e (tD X.K cl xe λρ=>getD i ρ):=PE.imp h λσ H Q ⟨μ,S,ρ,b,a,p⟩=>by
 cases e:ρ[i]? with
 | none=>simp only [getD,e] at p;exact p.elim
 | some o=>
  cases o with
  | none=>simp only [getD,e] at p;exact p.elim
  | some d=>
   simp only [getD,e] at p;obtain ⟨v,q,r⟩:=b.2 i d e;exact ⟨v,q,p.ret μ H (Lat.refl _ _) a v r⟩
theorem tL (e:PE X a (tD X.K cl xe f)) (k:PE X b (tD X.K cl xe g)) (s:OpR X (binaryOp op) (rP2 X.K cl xe h)) :
  PE X (.BinOp a op b pos) (tD X.K cl xe λρ=>bind (f ρ) λx=>bind (g ρ) λy=>h x y):=PE.imp (vV s e k) λσ H Q ⟨μ,S,ρ,d,j,p⟩=>
 ⟨μ,S,ρ,d,j,p.bind.imp λx S1 c z t q i v r=>⟨c,S1,ρ,d.later t,q,i.bind.imp λy S2 μ2 w l o m u n=>⟨μ2,S2,x,y,r.later l,n,o,m⟩⟩⟩
theorem qQ (e:PE X a (tD X.K cl xe f)) (k:PE X b (tD X.K cl xe g)) (s:OpR X (compareOp op) (rP2 X.K cl xe h)) (w:behindInMarks op b=false) :
  PE X (.Compare a [op] [b] pos) (tD X.K cl xe λρ=>bind (f ρ) λx=>bind (g ρ) λy=>h x y):=PE.imp (pB s e k w) λσ H Q ⟨μ,S,ρ,d,j,p⟩=>
 ⟨μ,S,ρ,d,j,p.bind.imp λx S1 c A t q i v r=>⟨c,S1,ρ,d.later t,q,i.bind.imp λy S2 μ2 z l o m u n=>⟨μ2,S2,x,y,r.later l,n,o,m⟩⟩⟩
theorem tm (e:PE X a (tD X.K cl xe f)) (k:PE X b (tD X.K cl xe g)) (s:IxR X (rP2 X.K cl xe h)) (hs:al b) :
  PE X (.Subscript a b pos) (tD X.K cl xe λρ=>bind (f ρ) λx=>bind (g ρ) λy=>h x y):=PE.imp (pJ s e k hs) λσ H Q ⟨μ,S,ρ,d,j,p⟩=>
 ⟨μ,S,ρ,d,j,p.bind.imp λx S1 c z t q i v r=>⟨c,S1,ρ,d.later t,q,i.bind.imp λy S2 μ2 w l o m u n=>⟨μ2,S2,x,y,r.later l,n,o,m⟩⟩⟩
theorem tz (n:PT X c (tBo X.K cl xe t)) (k:PE X a (tD X.K cl xe f)) (m:PE X b (tD X.K cl xe g)):PE X (.IfExp c a b pos) (tD X.K cl xe λρ=>bind (t ρ) λq=>if q=true then f ρ else g ρ):=PE.imp (kI n k m) λσ H Q ⟨μ,S,ρ,e,l,p⟩=>
 ⟨μ,S,ρ,e,l,p.bind.imp λq S1 d o j i h=>by
  cases q with
  | true=>exact ⟨d,S1,ρ,e.later j,i,h⟩
  | false=>exact ⟨d,S1,ρ,e.later j,i,h⟩⟩
theorem rB (h:PT X a (tBo X.K cl xe t)):PT X (.UnaryOp .Not a pos) (tBo X.K cl xe λρ=>bind (t ρ) λq=>ret (!q)):=PT.imp (qP h) λσ H Q ⟨μ,S,ρ,f,d,p⟩=>
 ⟨μ,S,ρ,f,d,p.bind.imp λq S1 b g i e c=>c.ret b g (Lat.refl _ _) e⟩
theorem mq (h:PT X a (tBo X.K cl xe t)):PW X (.BoolOp .And [a] pos) (tBo X.K cl xe t):=pw_and1 h
theorem qA (h:PT X a (tBo X.K cl xe t)):PW X (.BoolOp .Or [a] pos) (tBo X.K cl xe t):=pw_or1 h
theorem rP {c:List Expr} (h:PT X a (tBo X.K cl xe t)) (k:PW X (.BoolOp .And (b :: c) pos) (tBo X.K cl xe u)):PW X (.BoolOp .And (a :: b :: c) pos) (tBo X.K cl xe λρ=>bind (t ρ) λq=>if q=true then u ρ else ret false):=PW.imp (pw_and h k) λσ H Q ⟨μ,S,ρ,g,i,p⟩=>
 ⟨μ,S,ρ,g,i,p.bind.imp λq S1 d l j f e=>by
  cases q with
  | true=>exact ⟨d,S1,ρ,g.later j,f,e⟩
  | false=>exact e.ret d l (Lat.refl _ _) f⟩
theorem uM {c:List Expr} (h:PT X a (tBo X.K cl xe t)) (k:PW X (.BoolOp .Or (b :: c) pos) (tBo X.K cl xe u)):PW X (.BoolOp .Or (a :: b :: c) pos) (tBo X.K cl xe λρ=>bind (t ρ) λq=>if q=true then ret true else u ρ):=PW.imp (pw_or h k) λσ H Q ⟨μ,S,ρ,g,i,p⟩=>
 ⟨μ,S,ρ,g,i,p.bind.imp λq S1 d l j f e=>by
  cases q with
  | true=>exact e.ret d l (Lat.refl _ _) f
  | false=>exact ⟨d,S1,ρ,g.later j,f,e⟩⟩
def asB (d:D):M Bool:=match d with
 | .bl b=>ret b
 | _=>bad
theorem rh {K:PySem.W.Frag} {a:Mp} {c:Hp} {S:Sto} {d:D} {v:V} {Q:Bool->Hp->Prop} (f:RD K a c d v) (e:Rep K cl a S c) (p:Post K cl xe a c (asB d S) λb _ _ H'=>Q b H'):∃ k,v=.bl k/\Q k c:=by
 cases f with
 | bl b=>exact ⟨b,rfl,p.ret a c (Lat.refl _ _) e⟩
 | _=>exact p.elim
theorem rR (o:PE X a (tD X.K cl xe f)) (k:PE X b (tD X.K cl xe g)) (r:OpR X (compareOp op) (rP2 X.K cl xe h)) (n:behindInMarks op b=false) :
  PT X (.Compare a [op] [b] pos) (tBo X.K cl xe λρ=>bind (f ρ) λx=>bind (g ρ) λy=>bind (h x y) asB):=PT.imp (oY r o k n) λσ H Q ⟨μ,S,ρ,d,t,p⟩=>
 ⟨μ,S,ρ,d,t,p.bind.imp λx S1 c I s q j v m=>⟨c,S1,ρ,d.later s,q,j.bind.imp λy S2 μ2 J A D l u B=>⟨μ2,S2,x,y,m.later A,B,D,l.bind.imp λz F e E G C i w rw=>rh rw C i⟩⟩⟩
end
end L3
namespace HT
open PySem PySem.Spec PyProof.Rows
theorem noFill_tuple_mul:fillsNumberSlot (.type "tuple") "mul" = pure false:=
 PySem.fillsNumberSlot_seq F.slot_tuple_mul.lookup (by decide +kernel) F.slot_tuple_rmul.lookup (by decide +kernel)
theorem repeat_tuple:seqRepeat? (.type "tuple")=pure (some (.builtin "tuple.__mul__")):=by
 unfold seqRepeat?;rw [PySem.seqSlot_of (name:="__mul__") F.slot_tuple_mul.lookup (by decide +kernel),PySem.seqSlot_of (name:="__rmul__") F.slot_tuple_rmul.lookup (by decide +kernel)];rfl
theorem int_rmul_tuple (a:Int) (t:Tok) (l:Addr) (items:Array Value) (n:Nat) (b:Option Addr) (c:Array (Option Value)) :
  Meets (Builtin.«int.__rmul__» ⟨[.int a t,.ref l],[]⟩) (λ_ R s=>s.heap.get? l=some { cls:=.type "tuple",dict:=b,data:=.seq items n,slots:=c }/\R (.ok (.ret Value.notImplemented)) s):=
 .of_wp λprog w A R s h=>by obtain ⟨f,g,d,i,e⟩:=s;obtain ⟨j,h⟩:=h;wp_walk;exact ⟨_,rfl,h⟩
theorem tuple_mul1 (l:Addr) (items:Array Value) (n:Nat) (a:Option Addr) (b:Array (Option Value)) (u:Tok) :
  Meets (Builtin.«tuple.__mul__» ⟨[.ref l,.int 1 u],[]⟩) (λ_ R s=>s.heap.get? l=some { cls:=.type "tuple",dict:=a,data:=.seq items n,slots:=b }/\R (.ok (.ret (.ref l))) s):=
 .of_wp λprog w A R s h=>by obtain ⟨e,g,d,f,c⟩:=s;obtain ⟨i,h⟩:=h;wp_walk;exact ⟨_,rfl,h⟩
theorem cr {k:Int} (b:1<=k) (a:k<2 ^ 63):¬ ((decide (k < -(2 ^ 63))||decide (k≥2 ^ 63))=true):=by grind
theorem tuple_mul2 (l:Addr) (items:Array Value) (n:Nat) (r:Option Addr) (v:Array (Option Value)) (k:Int) (u:Tok) (a:¬ (items.isEmpty||k==1)=true) (B:2<=k) (p:k<2 ^ 63) (hsz:items.size * k.toNat<=sizeLine) :
  Meets (Builtin.«tuple.__mul__» ⟨[.ref l,.int k u],[]⟩) (λ_ R s=>s.heap.get? l=some { cls:=.type "tuple",dict:=r,data:=.seq items n,slots:=v }/\R (.ok (.ret (.ref s.heap.objs.size))) { s with heap:=s.heap.push { cls:=.type "tuple",data:=.seq ((List.replicate k.toNat items).foldl (·++·) #[]) } }):=
 .of_wp λprog w A R s h=>by
  obtain ⟨j,g,d,y,x⟩:=s;obtain ⟨t,h⟩:=h;have q:=cr (by omega) p;have e:=AD;have i:((k.toNat:Nat):Int)=k:=Dx (by omega);have b:(items.size:Int) * k=((items.size * k.toNat:Nat):Int):=by rw [Int.natCast_mul,i]
  have c:¬ (decide (k<=0)||items.isEmpty)=true:=by
   simp only [EB,Az] at a ⊢;intro z;rcases z with z | z
   ·omega
   ·exact a (.inl z)
  have f:¬ ((items.size:Int) * k > (2 ^ 63-1) / 8):=by rw [b];omega
  have m:¬ Builtin.Tuple.tupleTooMany ((items.size:Int) * k)=true:=by
   rw [b];simp only [Builtin.Tuple.tupleTooMany,Az];omega
  have hz:((List.replicate k.toNat items).foldl (·++·) #[]).size<=sizeLine:=by
   rw [AutoListH.size_joined,Nat.mul_comm];simpa using hsz
  wp_walk
  rw [if_neg q];have o:IsTup j l items:=⟨_,t,rfl,n,rfl⟩;refine Ag (Ed o ?_);rw [if_neg a];rw [if_neg c];rw [if_neg f];rw [if_neg m];refine Ag (AK ?_ hz);exact Ah ⟨_,rfl,h⟩
end HT
namespace L2
open PySem PySem.Spec PyProof.Rows
section
variable {X:Cx}
theorem oi:OpR X (binaryOp .Mult) (λx y H Q=>∃ a k xs,x=.ref a/\y=.int k/\SqT X.K H a xs/\xs≠[]/\1<=k/\k<2 ^ 63/\xs.length * k.toNat<=sizeLine/\(k=1->Q (.ref a) H)/\(k≠1->∀ p,H p=none->Q (.ref p) (upd H p (.tup (List.replicate k.toNat xs).flatten)))):=by
 intro pins s σ H x y v u Q I J C h;obtain ⟨a,k,xs,rfl,rfl,o,r,N,k2,hz,B,w⟩:=h;cases J;obtain ⟨t,rfl⟩:=C;obtain ⟨c,g,D,_⟩:=I.tuple o;obtain ⟨⟨E,e,j,f⟩,d,G,n,hd⟩:=id D;subst G hd;have L:=g.length;by_cases i:k=1
 ·subst i;exact CD (by decide) ⟨_,d,rfl⟩ (λs'=>Df s' 1 t) HT.noFill_tuple_mul F.fills_int_mul F.slot_int_rmul HT.repeat_tuple F.slot_int_index.lookup
   (Ca F.slot_int_rmul (Df s 1 t) F.entry_int_rmul (F.args_int_rmul_2 _ _) (HT.int_rmul_tuple 1 t a c.toArray n e f)
    ⟨d,rfl,⟨_,d,rfl⟩,Ca F.slot_tuple_mul ⟨_,d,rfl⟩ F.entry_tuple_mul (F.args_tuple_mul_2 _ _) (HT.tuple_mul1 a c.toArray n e f t) ⟨d,.ref a,H,I,rfl,B rfl⟩⟩)
 ·have M:=λz=>r (g.nil_iff.mp z);have l:¬ (c.toArray.isEmpty||k==1)=true:=by
   simp only [EB,beq_iff_eq];rintro (z | z)
   ·grind
   ·exact i z
  refine CD (by decide) ⟨_,d,rfl⟩ (λs'=>Df s' k t) HT.noFill_tuple_mul F.fills_int_mul F.slot_int_rmul HT.repeat_tuple F.slot_int_index.lookup
   (Ca F.slot_int_rmul (Df s k t) F.entry_int_rmul (F.args_int_rmul_2 _ _) (HT.int_rmul_tuple k t a c.toArray n e f)
    ⟨d,rfl,⟨_,d,rfl⟩,Ca F.slot_tuple_mul ⟨_,d,rfl⟩ F.entry_tuple_mul (F.args_tuple_mul_2 _ _) (HT.tuple_mul2 a c.toArray n e f k t l (by omega) k2 (by rw [An,<- L];exact hz)) ⟨d,?_⟩⟩)
  have m:List.foldl (λA K=>A++K) #[] (List.replicate k.toNat c.toArray)=(List.replicate k.toNat c).flatten.toArray:=by
   have:=M0 c k.toNat [];rw [Ey] at this;exact this
  rw [m];refine ⟨.ref s.heap.objs.size,_,I.laid (λb ob q=>Ai _ q) (Ap _) ?_,rfl,w i _ (I.hok.fresh (Ap _))⟩;exact ⟨by rw [fA,Nat.mul_comm];exact hz,_,g.rep k.toNat,TupN.new _ _⟩
end
end L2
namespace L3
open PySem PySem.Spec PyProof.Rows L2
def lstOf (d:D):M (List D):=match d with
 | .lst ds=>ret ds
 | .ref n=>λS=>match S[n]? with
  | some (.lst ds)=>.ok ds S
  | _=>.bad
 | _=>bad
def w8 (d:D):M (List D):=match d with
 | .tup ds=>ret ds
 | .scr ds=>ret ds
 | d=>lstOf d
section
variable {K:PySem.W.Frag} {cl:Nat->Addr} {xe:Addr->Hp->Prop} {μ:Mp} {H:Hp} {S:Sto} {α:Type}
theorem j4 (rd:RD K μ H d v) (rp:Rep K cl μ S H) (p:Post K cl xe μ H (lstOf d S) G):∃ a xs ds,v=.ref a/\H a=some (.lst xs)/\RDs K μ H ds xs/\lstOf d S=.ok ds S:=by
 cases rd with
 | lst h r=>exact ⟨_,_,_,rfl,h.1,r,rfl⟩
 | ref e=>
  rename_i n a;simp only [lstOf] at p;cases q:S[n]? with
  | none=>rw [q] at p;exact p.elim
  | some o=>
   cases o with
   | lst ds=>
    obtain ⟨xs,h1,h2⟩:=rp.ats n _ a q e;exact ⟨a,xs,ds,rfl,h1,h2,by simp only [lstOf,q]⟩
   | dct _=>rw [q] at p;exact p.elim
   | exc _ _=>rw [q] at p;exact p.elim
 | _=>exact p.elim
theorem J2 (rd:RD K μ H d v) (rp:Rep K cl μ S H) (p:Post K cl xe μ H (w8 d S) G):∃ a xs ds,v=.ref a/\(SqL K H a xs\/SqT K H a xs)/\RDs K μ H ds xs/\w8 d S=.ok ds S:=by
 cases rd with
 | tup h r=>exact ⟨_,_,_,rfl,.inr h.sq,r,rfl⟩
 | scr h r=>exact ⟨_,_,_,rfl,.inl h.sq,r,rfl⟩
 | lst h r=>exact ⟨_,_,_,rfl,.inl h.sq,r,rfl⟩
 | ref e=>
  obtain ⟨a,xs,ds,h1,h2,h3,h4⟩:=j4 (.ref e) rp p;exact ⟨a,xs,ds,h1,.inl (.inl (.inl h2)),h3,h4⟩
 | _=>exact p.elim
theorem Post.ok_bind {a:α} {G:β->Sto->Mp->Hp->Prop} (e:m S=.ok a S) (p:Post K cl xe μ H (L3.bind m k S) G):Post K cl xe μ H (k a S) G:=by
 unfold L3.bind at p;rw [e] at p;exact p
theorem C7 (b:Rep K cl μ S H) (r:RDs K μ H ds xs) (a:H p=none):Lat μ H μ (upd H p (.tup xs))/\Rep K cl μ S (upd H p (.tup xs))/\RD K μ (upd H p (.tup xs)) (.tup ds) (.ref p):=
 ⟨Lat.laid a,b.laid a,.tup (.inl ⟨.inl b6,b.notin a,b.notrs a⟩) (r.later (Lat.laid a))⟩
theorem m8 (b:Rep K cl μ S H) (r:RDs K μ H ds xs) (a:H p=none):Lat μ H μ (upd H p (.lst xs))/\Rep K cl μ S (upd H p (.lst xs))/\RD K μ (upd H p (.lst xs)) (.lst ds) (.ref p):=
 ⟨Lat.laid a,b.laid a,.lst ⟨b6,b.notin a,b.notrs a⟩ (r.later (Lat.laid a))⟩
theorem Z1 (c:Rep K cl μ S H) (r:RDs K μ H ds xs) (b:H p=none):Lat μ H (μ.push p) (upd H p (.lst xs))/\Rep K cl (μ.push p) (S++[.lst ds]) (upd H p (.lst xs))/\RD K (μ.push p) (upd H p (.lst xs)) (.ref S.length) (.ref p):=by
 have k:∀ a u,H a=some u->upd H p (.lst xs) a=some u:=λa u e=>by rw [b1 (b3 e b)];exact e
 have l:=Lat.pushed (μ:=μ) b k;refine ⟨l,c.pushed b k ⟨xs,b6,r.later l⟩,.ref ?_⟩;show (μ.pl++[p])[S.length]?=some p;rw [<- c.len];simp
theorem Post.guard [Decidable c] {a:α} {G:α->Sto->Mp->Hp->Prop} (p:Post K cl xe μ H ((if c then L3.ret a else L3.bad) S) G):c/\∀ μ' H',Lat μ H μ' H'->Rep K cl μ' S H'->G a S μ' H':=by
 by_cases b:c
 ·rw [if_pos b] at p;exact ⟨b,p⟩
 ·rw [if_neg b] at p;exact p.elim
end
def e8 {a b:Type} (f:a->Option b):List a->Option (List b)
 | []=>some []
 | x :: xs=>match f x,e8 f xs with
  | some y,some ys=>some (y :: ys)
  | _,_=>none
def d3:Nat->Sto->D->Option PyData
 | 0,_,_=>none
 | n+1,S,d=>match d with
  | .non=>some .none
  | .bl b=>some (.bool b)
  | .int i=>some (.int i)
  | .str x=>some (.str x)
  | .tup ds=>(e8 (d3 n S) ds).map .tuple
  | .lst ds=>(e8 (d3 n S) ds).map .list
  | .scr ds=>(e8 (d3 n S) ds).map .list
  | .ref k=>match S[k]? with
   | some (.lst ds)=>(e8 (d3 n S) ds).map .list
   | _=>none
theorem bI {K:PySem.W.Frag} {μ:Mp} {H:Hp} {S:Sto} {n:Nat} (f:∀ {d:D} {v:V} {q:PyData},d3 n S d=some q->RD K μ H d v->DAt K H v q):∀ {ds:List D} {vs:List V} {a:List PyData},e8 (d3 n S) ds=some a->RDs K μ H ds vs->DAll K H vs a
 | [],_,a,e,r=>by cases r;cases e;exact .nil
 | d :: ds,_,a,e,r=>by
  cases r with
  | cons h t=>
   simp only [e8] at e;cases b:d3 n S d with
   | none=>rw [b] at e;cases e
   | some q=>
    cases c:e8 (d3 n S) ds with
    | none=>grind
    | some g=>
     rw [b,c] at e;cases e;exact .cons (f b h) (bI f c t)
theorem k7 {K:PySem.W.Frag} {cl:Nat->Addr} {μ:Mp} {H:Hp} {S:Sto} (rp:Rep K cl μ S H):∀ (n:Nat) {d:D} {v:V} {q:PyData},d3 n S d=some q->RD K μ H d v->DAt K H v q
 | 0,_,_,_,e,_=>by cases e
 | n+1,d,v,q,e,r=>by
  have all:∀ {ds:List D} {vs:List V} {qs:List PyData},e8 (d3 n S) ds=some qs->RDs K μ H ds vs->DAll K H vs qs:=λe r=>bI (λe r=>k7 rp n e r) e r;have um:∀ {ds:List D} {C:List PyData->PyData},(e8 (d3 n S) ds).map C=some q->∃ qs,e8 (d3 n S) ds=some qs/\q=C qs:=λ{ds C} e=>by
   cases e1:e8 (d3 n S) ds with
   | none=>rw [e1] at e;cases e
   | some qs=>grind
  cases r with
  | non=>cases e;exact .non
  | bl b=>cases e;exact .bl b
  | int i=>cases e;exact .int i
  | str x=>cases e;exact .str x
  | tup h t=>obtain ⟨qs,e1,rfl⟩:=um e;exact .tup h.sq (all e1 t)
  | lst h t=>obtain ⟨qs,e1,rfl⟩:=um e;exact .lst h.sq (all e1 t)
  | scr h t=>obtain ⟨qs,e1,rfl⟩:=um e;exact .lst h.sq (all e1 t)
  | ref h=>
   rename_i k a;simp only [d3] at e;cases q1:S[k]? with
   | none=>rw [q1] at e;cases e
   | some o=>
    rw [q1] at e;cases o with
    | lst ds=>
     obtain ⟨qs,e1,rfl⟩:=um e;obtain ⟨xs,h1,h2⟩:=rp.ats k _ a q1 h;exact .lst (.inl (.inl h1)) (all e1 h2)
    | dct _=>cases e
    | exc _ _=>cases e
def B4 (x y:D):M D:=match x,y with
 | .int i,.int j=>ret (.int (i+j))
 | .str a,.str b=>if a.length+b.length<=sizeLine then ret (.str (a++b)) else bad
 | .tup xs,.tup ys=>if xs.length+ys.length<=sizeLine then ret (.tup (xs++ys)) else bad
 | x,y=>bind (lstOf x) λxs=>bind (lstOf y) λys=>if xs.length+ys.length<=sizeLine then ret (.lst (xs++ys)) else bad
def qV (x y:D):M D:=match x,y with
 | .int i,.int j=>ret (.int (i-j))
 | _,_=>bad
instance (i j:Int):Decidable (CMul i j):=by unfold CMul;infer_instance
instance (i j:Int):Decidable (ji i j):=by unfold ji;infer_instance
instance (i j:Int):Decidable (mV i j):=by unfold mV;infer_instance
def V9 (x y:D):M D:=match x,y with
 | .int i,.int j=>if 0<j then ret (.int (i % j)) else bad
 | _,_=>bad
def B0 (x y:D):M D:=match x,y with
 | .int i,.int j=>if ji i j then ret (.int (i / j)) else bad
 | _,_=>bad
def dg (x y:D):M D:=match x,y with
 | .int i,.int j=>if mV i j then ret (.int (i ^ j.toNat)) else bad
 | _,_=>bad
def M3 (x y:D):M D:=match x,y with
 | .int i,.int j=>if CMul i j then ret (.int (i * j)) else bad
 | .tup ds,.int k=>if (ds≠[]/\1<=k/\k<2 ^ 63)/\ds.length * k.toNat<=sizeLine then ret (.tup (List.replicate k.toNat ds).flatten) else bad
 | x,.int k=>bind (lstOf x) λxs=>if (-(2 ^ 63)<=k/\k<2 ^ 63)/\xs.length * k.toNat<=sizeLine then ret (.lst (List.replicate k.toNat xs).flatten) else bad
 | _,_=>bad
section
variable {X:Cx} {cl:Nat->Addr} {xe:Addr->Hp->Prop}
theorem iN:OpR X (binaryOp .Add) (λx y H Q=>∃ a b ys,x=.ref a/\y=.ref b/\SqT X.K H a []/\SqT X.K H b ys/\Q (.ref b) H):=by
 intro pins s σ H x y v u Q I t z h;obtain ⟨a,b,ys,rfl,rfl,B,C,q⟩:=h;cases t;cases z;obtain ⟨w,p,F,_⟩:=I.tuple B;obtain ⟨d,J,G,_⟩:=I.tuple C;cases p;obtain ⟨⟨r,E,l,D⟩,k,o,n,hd⟩:=id F;obtain ⟨⟨m,g,j,f⟩,c,i,A,e⟩:=id G;subst o hd i e;exact concat_meets ⟨_,k,rfl⟩ ⟨_,c,rfl⟩ Ei EG CU CQ (CK _ _)
   (tuple_addW0 a b #[] d.toArray n A E g D f rfl) ⟨k,c,⟨.ref b,H,I,rfl,q⟩⟩
theorem vf:OpR X (binaryOp .Add) (rP2 X.K cl xe B4):=by
 intro pins s σ H x y v u Q I n o ⟨μ,S,d,e,A,B,c,p⟩;have L:Post X.K cl xe μ H (bind (lstOf d) (λxs=>bind (lstOf e) λys=>if xs.length+ys.length<=sizeLine then ret (.lst (xs++ys)) else bad) S) (λr _ μ' H'=>∀ v,RD X.K μ' H' r v->Q v H')->wpAny (model X.prog X.w) X.A (binaryOp .Add v u) (EP X pins σ Q) X.xe s:=λp=>by
  obtain ⟨a,xs,ds,rfl,q,m,E⟩:=j4 A c p.bind;have p:=p.ok_bind E;obtain ⟨b,ys,es,rfl,t,h,G⟩:=j4 B c p.bind;obtain ⟨k,p⟩:=(p.ok_bind G).guard;refine pk pins s σ H _ _ v u Q I n o ⟨a,b,xs,ys,rfl,rfl,q,t,by rw [<- m.length,<- h.length];exact k,λz hz=>?_⟩;obtain ⟨l,f,g⟩:=m8 c (m.append h) hz;exact p μ _ l f _ g
 cases d <;> cases e <;> try (exact L p)
 case int.int i j=>cases A;cases B;exact tF pins s σ H _ _ v u Q I n o ⟨i,j,rfl,rfl,p μ H (Lat.refl _ _) c _ (.int _)⟩
 case str.str i j=>
  cases A;cases B;obtain ⟨k,p⟩:=Post.guard p;exact dR pins s σ H _ _ v u Q I n o ⟨i,j,rfl,rfl,k,p μ H (Lat.refl _ _) c _ (.str _)⟩
 case tup.tup ds es=>
  obtain ⟨k,p⟩:=Post.guard p;cases A with
  | tup q m=>
   cases B with
   | tup t h=>
    rename_i a xs b ys;cases ds with
    | nil=>
     cases m;exact iN pins s σ H _ _ v u Q I n o ⟨a,b,ys,rfl,rfl,q.sq,t.sq,p μ H (Lat.refl _ _) c _ (.tup t h)⟩
    | cons d ds=>
     cases m with
     | cons D C=>
      rename_i K J;refine oN pins s σ H _ _ v u Q I n o ⟨a,b,_,ys,rfl,rfl,q.sq,t.sq,by simp,by rw [<- h.length];simpa [C.length] using k,λz=>?_,λz w F=>?_⟩
      ·subst z;cases h;rw [Bs] at p;exact p μ H (Lat.refl _ _) c _ (.tup q (.cons D C))
      ·obtain ⟨l,f,g⟩:=C7 c ((RDs.cons D C).append h) F;exact p μ _ l f _ g
theorem vb:OpR X (binaryOp .Sub) (rP2 X.K cl xe qV):=by
 intro pins s σ H x y v u Q I c f ⟨μ,S,d,e,b,a,g,p⟩;cases d <;> cases e <;> try (exact False.elim p)
 case int.int i j=>cases b;cases a;exact rX pins s σ H _ _ v u Q I c f ⟨i,j,rfl,rfl,p μ H (Lat.refl _ _) g _ (.int _)⟩
theorem vC:OpR X (binaryOp .Mod) (rP2 X.K cl xe V9):=by
 intro pins s σ H x y v u Q I f g ⟨μ,S,d,e,c,b,h,p⟩;cases d <;> cases e <;> try (exact False.elim p)
 case int.int i j=>
  cases c;cases b;obtain ⟨a,p⟩:=Post.guard p;exact rj pins s σ H _ _ v u Q I f g ⟨i,j,rfl,rfl,a,p μ H (Lat.refl _ _) h _ (.int _)⟩
theorem tG:OpR X (binaryOp .FloorDiv) (rP2 X.K cl xe B0):=by
 intro pins s σ H x y v u Q I f g ⟨μ,S,d,e,c,b,h,p⟩;cases d <;> cases e <;> try (exact False.elim p)
 case int.int i j=>
  cases c;cases b;obtain ⟨a,p⟩:=Post.guard p;exact mN pins s σ H _ _ v u Q I f g ⟨i,j,rfl,rfl,a,p μ H (Lat.refl _ _) h _ (.int _)⟩
theorem wC:OpR X (binaryOp .Pow) (rP2 X.K cl xe dg):=by
 intro pins s σ H x y v u Q I f g ⟨μ,S,d,e,c,b,h,p⟩;cases d <;> cases e <;> try (exact False.elim p)
 case int.int i j=>
  cases c;cases b;obtain ⟨a,p⟩:=Post.guard p;exact rf pins s σ H _ _ v u Q I f g ⟨i,j,rfl,rfl,a,p μ H (Lat.refl _ _) h _ (.int _)⟩
theorem vy:OpR X (binaryOp .Mult) (rP2 X.K cl xe M3):=by
 intro pins s σ H x y v u Q I A B ⟨μ,S,d,e,t,n,h,p⟩;have L:∀ k:Int,e=.int k->Post X.K cl xe μ H (bind (lstOf d) (λxs=>if (-(2 ^ 63)<=k/\k<2 ^ 63)/\xs.length * k.toNat<=sizeLine then ret (.lst (List.replicate k.toNat xs).flatten) else bad) S) (λr _ μ' H'=>∀ v,RD X.K μ' H' r v->Q v H')->wpAny (model X.prog X.w) X.A (binaryOp .Mult v u) (EP X pins σ Q) X.xe s:=λk F q=>by
  clear p;subst F;cases n;obtain ⟨a,xs,ds,rfl,m,b,G⟩:=j4 t h q.bind;obtain ⟨⟨⟨o,k2⟩,g⟩,p⟩:=(q.ok_bind G).guard;refine qB pins s σ H _ _ v u Q I A B ⟨a,k,xs,rfl,rfl,m,o,k2,by rw [<- b.length];exact g,λz hz=>?_⟩;obtain ⟨l,c,f⟩:=m8 h (b.rep k.toNat) hz;exact p μ _ l c _ f
 cases d <;> cases e <;> try (exact False.elim p)
 case int.int i j=>
  cases t;cases n;obtain ⟨g,p⟩:=Post.guard p;exact sC pins s σ H _ _ v u Q I A B ⟨i,j,rfl,rfl,g,p μ H (Lat.refl _ _) h _ (.int _)⟩
 case tup.int ds k=>
  cases n;obtain ⟨⟨⟨D,o,k2⟩,g⟩,p⟩:=Post.guard p;cases t with
  | tup m b=>
   rename_i a xs;have C:xs≠[]:=λz=>by subst z;cases b;exact D rfl
   refine oi pins s σ H _ _ v u Q I A B ⟨a,k,xs,rfl,rfl,m.sq,C,o,k2,by rw [<- b.length];exact g,λz=>?_,λz w E=>?_⟩
   ·subst z;have e:(List.replicate (1:Int).toNat ds).flatten=ds:=by simp
    rw [e] at p;exact p μ H (Lat.refl _ _) h _ (.tup m b)
   ·obtain ⟨l,c,f⟩:=C7 h (b.rep k.toNat) E;exact p μ _ l c _ f
 all_goals exact L _ rfl p
end
def eqP (a:Bool) (x y:D):M D:=λS=>match d3 64 S x,d3 64 S y with
 | some p,some q=>(if p.canLay0=true/\q.canLay0=true/\min p.depth q.depth<=60 then ret (.bl (if a then !PyData.eqv p q else PyData.eqv p q)) else bad) S
 | _,_=>.bad
def eqD (c:Bool) (x y:D):M D:=match x,y with
 | .str a,.str b=>ret (.bl (if c then !decide (a=b) else decide (a=b)))
 | .int a,.int b=>ret (.bl (if c then !decide (a=b) else decide (a=b)))
 | x,y=>eqP c x y
def lE (f:Int->Int->Bool) (x y:D):M D:=match x,y with
 | .int i,.int j=>ret (.bl (f i j))
 | _,_=>bad
def fz (a:Bool) (d:PyData) (ps:List PyData):M D:=if d.canLay0=true/\PyData.canLayAll0 ps=true/\min (PyData.depthAll ps) d.depth<=60 then ret (.bl (if a then !(ps.any λy=>PyData.eqv y d) else ps.any λy=>PyData.eqv y d)) else bad
def inD (a:Bool) (x y:D):M D:=λS=>match d3 64 S x,d3 64 S y with
 | some d,some (.list ps)=>fz a d ps S
 | some d,some (.tuple ps)=>fz a d ps S
 | _,_=>.bad
def isD (a:Bool) (x y:D):M D:=match y with
 | .non=>ret (.bl (match x with
  | .non=>!a
  | _=>a))
 | .bl b=>ret (.bl (match x with
  | .bl c=>if a then !(c==b) else c==b
  | _=>a))
 | _=>bad
section
variable {X:Cx} {cl:Nat->Addr} {xe:Addr->Hp->Prop}
theorem xS (q:X.A.units+64<cLine):OpR X (compareOp .Eq) (rP2 X.K cl xe (eqD false)):=by
 intro pins s σ H x y v u Q I i k ⟨μ,S,d,e,j,l,c,p⟩;have g:Post X.K cl xe μ H (eqP false d e S) (λr _ μ' H'=>∀ v,RD X.K μ' H' r v->Q v H')->wpAny (model X.prog X.w) X.A (compareOp .Eq v u) (EP X pins σ Q) X.xe s:=λp=>by
  simp only [eqP] at p;cases f:d3 64 S d with
  | none=>rw [f] at p;exact p.elim
  | some a=>
   cases h:d3 64 S e with
   | none=>rw [f,h] at p;exact p.elim
   | some b=>
    rw [f,h] at p;obtain ⟨⟨m,n,o⟩,p⟩:=Post.guard p;exact qK q pins s σ H _ _ v u Q I i k ⟨a,b,k7 c 64 f j,k7 c 64 h l,m,n,o,p μ H (Lat.refl _ _) c _ (.bl _)⟩
 cases d <;> cases e <;> try (exact g p)
 case str.str a b=>
  cases j;cases l;exact tw pins s σ H _ _ v u Q I i k ⟨rfl,by rw [show decide (V.str a=V.str b)=decide (a=b) by rw [Dr];simp];exact p μ H (Lat.refl _ _) c _ (.bl _)⟩
theorem wl (q:X.A.units+64<cLine):OpR X (compareOp .NotEq) (rP2 X.K cl xe (eqD true)):=by
 intro pins s σ H x y v u Q I i k ⟨μ,S,d,e,j,l,c,p⟩;have g:Post X.K cl xe μ H (eqP true d e S) (λr _ μ' H'=>∀ v,RD X.K μ' H' r v->Q v H')->wpAny (model X.prog X.w) X.A (compareOp .NotEq v u) (EP X pins σ Q) X.xe s:=λp=>by
  simp only [eqP] at p;cases f:d3 64 S d with
  | none=>rw [f] at p;exact p.elim
  | some a=>
   cases h:d3 64 S e with
   | none=>rw [f,h] at p;exact p.elim
   | some b=>
    rw [f,h] at p;obtain ⟨⟨m,n,o⟩,p⟩:=Post.guard p;exact qH q pins s σ H _ _ v u Q I i k ⟨a,b,k7 c 64 f j,k7 c 64 h l,m,n,o,p μ H (Lat.refl _ _) c _ (.bl _)⟩
 cases d <;> cases e <;> try (exact g p)
 case str.str a b=>
  cases j;cases l;exact tX pins s σ H _ _ v u Q I i k ⟨rfl,by rw [show decide (V.str a=V.str b)=decide (a=b) by rw [Dr];simp];exact p μ H (Lat.refl _ _) c _ (.bl _)⟩
theorem fL (h:OpR X (compareOp op) (rI0 λi j=>.bl (f i j))):OpR X (compareOp op) (rP2 X.K cl xe (lE f)):=by
 intro pins s σ H x y v u Q I b g ⟨μ,S,d,e,c,k,a,p⟩;cases d <;> cases e <;> try (exact False.elim p)
 case int.int i j=>cases c;cases k;exact h pins s σ H _ _ v u Q I b g ⟨i,j,rfl,rfl,p μ H (Lat.refl _ _) a _ (.bl _)⟩
theorem Y0 {a:Bool} (o:X.A.units+80<cLine) {pins:List (Addr×Obj)} {s:Shared} {σ:L2.St} {H:Hp} {x y:V} {v u:Value} {Q:VK} {d:PyData} {ps:List PyData} (I:Inv X pins σ H s) (l:RelV x v) (j:RelV y u)
  (hd:DAt X.K H x d) (f:DAt X.K H y (.list ps)\/DAt X.K H y (.tuple ps)) (c:d.canLay0=true/\PyData.canLayAll0 ps=true/\min (PyData.depthAll ps) d.depth<=60)
  (q:Q (.bl (if a then !(ps.any λy=>PyData.eqv y d) else ps.any λy=>PyData.eqv y d)) H):wpAny (model X.prog X.w) X.A (compareOp (if a then .NotIn else .In) v u) (EP X pins σ Q) X.xe s:=by
 obtain ⟨h,i,n⟩:=c;obtain ⟨m,g⟩:=hd.reads I l;have b:X.A.units+1+min (PyData.depthAll ps) d.depth<cLine:=by omega
 rcases f with f | f
 ·obtain ⟨k,e⟩:=f.reads I j;cases a with
  | false=>exact SeqAt.in_list_reads e g i h b ⟨.bl _,H,I,rfl,q⟩
  | true=>exact SeqAt.notIn_list_reads e g i h b ⟨.bl _,H,I,rfl,q⟩
 ·obtain ⟨k,e⟩:=f.reads I j;cases a with
  | false=>exact SeqAt.in_tuple_reads e g i h b ⟨.bl _,H,I,rfl,q⟩
  | true=>exact SeqAt.notIn_tuple_reads e g i h b ⟨.bl _,H,I,rfl,q⟩
theorem vo (neg:Bool) (hu:X.A.units+80<cLine):OpR X (compareOp (if neg then .NotIn else .In)) (rP2 X.K cl xe (inD neg)):=by
 intro pins s σ H x y v u Q I rx ry ⟨μ,S,d,e,rd,re,rp,p⟩;simp only [inD] at p;cases e1:d3 64 S d with
 | none=>rw [e1] at p;exact p.elim
 | some a=>
  cases e2:d3 64 S e with
  | none=>rw [e1,e2] at p;exact p.elim
  | some b=>
   rw [e1,e2] at p;have ha:=k7 rp 64 e1 rd;have hb:=k7 rp 64 e2 re;cases b with
   | list ps=>obtain ⟨c,p⟩:=Post.guard p;exact Y0 hu I rx ry ha (.inl hb) c (p μ H (Lat.refl _ _) rp _ (.bl _))
   | tuple ps=>obtain ⟨c,p⟩:=Post.guard p;exact Y0 hu I rx ry ha (.inr hb) c (p μ H (Lat.refl _ _) rp _ (.bl _))
   | _=>exact p.elim
theorem vh (f:Bool):OpR X (compareOp (if f then .IsNot else .Is)) (rP2 X.K cl xe (isD f)):=by
 intro pins s σ H x y v u Q I a i ⟨μ,S,d,e,h,k,j,p⟩;have g:∀ b:Bool,(∀ μ' H',Lat μ H μ' H'->Rep X.K cl μ' S H'->∀ v,RD X.K μ' H' (.bl b) v->Q v H')->∀ c,c=b->EP X pins σ Q (.bool c) s:=λb p c e=>⟨.bl b,H,I,by rw [e];rfl,p μ H (Lat.refl _ _) j _ (.bl _)⟩;cases k <;> try (exact False.elim p)
 case non=>
  cases i;cases f with
  | false=>
   refine is_none_gen (g _ p _ ?_);cases h <;> first
    | (cases a;rfl)
    | (obtain ⟨t,rfl⟩:=a;rfl)
  | true=>
   refine isnot_none_gen (g _ p _ ?_);cases h <;> first
    | (cases a;rfl)
    | (obtain ⟨t,rfl⟩:=a;rfl)
 case bl b=>
  cases i;cases f with
  | false=>
   refine wpAny_is_plain ?_ (g _ p _ ?_)
   ·cases h <;> first
    | (cases a;rfl)
    | (obtain ⟨t,rfl⟩:=a;rfl)
   ·cases h <;> first
    | (cases a;rfl)
    | (obtain ⟨t,rfl⟩:=a;rfl)
    | (cases a;(rename_i c;cases c <;> cases b <;> rfl))
  | true=>
   refine wpAny_isNot_plain ?_ (g _ p _ ?_)
   ·cases h <;> first
    | (cases a;rfl)
    | (obtain ⟨t,rfl⟩:=a;rfl)
   ·cases h <;> first
    | (cases a;rfl)
    | (obtain ⟨t,rfl⟩:=a;rfl)
    | (cases a;(rename_i c;cases c <;> cases b <;> rfl))
end
def Z5:D->Option Key
 | .int i=>some (.inl i)
 | .str x=>some (.inr x)
 | _=>none
def lZ {κ:Type} [DecidableEq κ] (a:List (κ×D)) (k:κ):Option D:=(a.find? λb=>decide (b.1=k)).map (·.2)
def sN {κ:Type} [DecidableEq κ] (a:List (κ×D)) (k:κ) (v:D):List (κ×D):=if a.any (λb=>decide (b.1=k)) then a.map (λb=>if b.1=k then (b.1,v) else b) else a++[(k,v)]
def X7 {b:Type}:Option b->M b
 | some a=>ret a
 | none=>bad
def ixD (x y:D):M D:=match x with
 | .ref n=>λS=>match S[n]? with
  | some (.lst ds)=>(match y with
   | .int i=>X7 (atI ds i)
   | _=>bad) S
  | some (.dct a)=>X7 ((Z5 y).bind (lZ a)) S
  | _=>.bad
 | x=>match y with
  | .int i=>bind (w8 x) λds=>X7 (atI ds i)
  | _=>bad
theorem tB {K:PySem.W.Frag} {μ:Mp} {H:Hp} {ds:List D} {xs:List V} {i:Int} {d:D} (r:RDs K μ H ds xs) (e:atI ds i=some d):∃ v,atI xs i=some v/\RD K μ H d v:=by
 unfold atI at e ⊢;rw [<- r.length];cases q:ixN ds.length i with
 | none=>rw [q] at e;cases e
 | some j=>rw [q] at e;exact r.get e
theorem fc {K:PySem.W.Frag} {cl:Nat->Addr} {xe:Addr->Hp->Prop} {μ:Mp} {H:Hp} {S:Sto} {b:Type} {o:Option b} {G:b->Sto->Mp->Hp->Prop} (p:Post K cl xe μ H (X7 o S) G):∃ a,o=some a/\∀ μ' H',Lat μ H μ' H'->Rep K cl μ' S H'->G a S μ' H':=by
 cases o with
 | none=>exact p.elim
 | some a=>exact ⟨a,rfl,p⟩
theorem fV {K:PySem.W.Frag} {μ:Mp} {H:Hp} {k:Key} {d:D}:∀ {a:List (Key×D)} {f:List (Key×V)},KvsAt K μ H a f->lZ a k=some d->∃ v,P3 f k=some v/\RD K μ H d v
 | _,_,.nil,e=>by simp [lZ] at e
 | p :: r,q :: j,.cons ⟨c,i⟩ t,e=>by
  unfold lZ at e;rw [BW] at e;by_cases b:p.1=k
  ·simp only [b,decide_true] at e;cases e;exact ⟨q.2,F7 (c▸b),i⟩
  ·simp only [b,decide_false] at e;obtain ⟨v,g,h⟩:=fV t e;exact ⟨v,by rw [K0 (c▸b)];exact g,h⟩
theorem cL {K:PySem.W.Frag} {μ:Mp} {H:Hp} {y:D} {v:V} {k:Key} (r:RD K μ H y v) (e:Z5 y=some k):v=kV k:=by
 cases r <;> simp only [Z5] at e <;> first | (cases e;rfl) | cases e
section
variable {X:Cx} {cl:Nat->Addr} {xe:Addr->Hp->Prop}
theorem nW (o:X.A.units+1<cLine):IxR X (λx y H Q=>∃ a v,x=.ref a/\DGet H a y (some v)/\Q v H):=by
 intro d c pins s σ H x y v u Q I m n h hs;obtain ⟨a,w,rfl,g,q⟩:=h;cases m;have k:=cY I g;have i:wpAny (model X.prog X.w) X.A (getItem (.ref a) u) (EP X pins σ Q) X.xe s:=iA o I g n λw' p l j=>⟨w,H,l,j,q⟩;refine Ag ?_;rw [getitemInPython_of_ne k.not_modules];refine Ag (wpAny_specialOf k PySem.F.slot_dict_getitem.lookup ?_);have e:wpAny (model X.prog X.w) X.A (subscripted c false (.ref a) u) (λr b=>wpAny (model X.prog X.w) X.A (letTemporaryGo d (.ref a) r >>= λ_=>pure r) (EP X pins σ Q) X.xe b) X.xe s:=by
  rw [hs];exact wpAny_operating (AI i (λr b f=>Ag (wpAny_letTemporaryGo (Ah f))) λ_ _ x=>x)
 first
  | exact Ah (Ag e)
  | exact Ag (Ah (Ag e))
  | exact Ag e
theorem wW (hu:X.A.units+1<cLine):IxR X (rP2 X.K cl xe ixD):=by
 intro value slice pins s σ H x y v u Q I rx ry ⟨μ,S,d,e,rd,re,rp,p⟩ hs;have sq:∀ {a:Addr} {xs:List V} {ds:List D} {i:Int},(SqL X.K H a xs\/SqT X.K H a xs)->RDs X.K μ H ds xs->x=.ref a->e=.int i->Post X.K cl xe μ H (X7 (atI ds i) S) (λr _ μ' H'=>∀ v,RD X.K μ' H' r v->Q v H') ->
   wpAny (model X.prog X.w) X.A (subscriptTail value slice v u) (EP X pins σ Q) X.xe s:=λ{a xs ds i} hq r hx he q=>by
  clear p;subst hx he;cases re;obtain ⟨z,e1,q⟩:=fc q;obtain ⟨w,e2,rw'⟩:=tB r e1;rcases hq with hq | hq
  ·exact nM value slice pins s σ H _ _ v u Q I rx ry ⟨a,xs,i,w,rfl,rfl,hq,e2,q μ H (Lat.refl _ _) rp _ rw'⟩ hs
  ·exact kZ value slice pins s σ H _ _ v u Q I rx ry ⟨a,xs,i,w,rfl,rfl,hq,e2,q μ H (Lat.refl _ _) rp _ rw'⟩ hs
 cases rd with
 | tup h r=>
  cases e <;> first | exact False.elim p | exact sq (.inr h.sq) r rfl rfl p
 | lst h r=>
  cases e <;> first | exact False.elim p | exact sq (.inl h.sq) r rfl rfl p
 | scr h r=>
  cases e <;> first | exact False.elim p | exact sq (.inl h.sq) r rfl rfl p
 | ref h=>
  rename_i n a;simp only [ixD] at p;cases q1:S[n]? with
  | none=>rw [q1] at p;exact p.elim
  | some o=>
   rw [q1] at p;cases o with
   | lst ds=>
    obtain ⟨xs,h1,h2⟩:=rp.ats n _ a q1 h;cases e <;> first | exact False.elim p | exact sq (.inl (.inl (.inl h1))) h2 rfl rfl p
   | dct kvs=>
    obtain ⟨ks,h1,h2⟩:=rp.ats n _ a q1 h;obtain ⟨z,e1,p⟩:=fc p;cases e2:Z5 e with
    | none=>grind
    | some k=>
     rw [e2] at e1;obtain ⟨w,e3,r3⟩:=fV h2 e1;have hy:=cL re e2;subst hy;exact nW hu value slice pins s σ H _ _ v u Q I rx ry ⟨a,w,rfl,by rw [<- e3];exact DGet.k h1,p μ H (Lat.refl _ _) rp _ r3⟩ hs
   | exc _ _=>exact p.elim
 | _=>cases e <;> exact False.elim p
def E9 (ds:List D) (lo a:Option Int):List D:=(ds.drop (HT.sIx ds.length 0 lo)).take (HT.sIx ds.length ds.length a-HT.sIx ds.length 0 lo)
theorem lK {K:PySem.W.Frag} {μ:Mp} {H:Hp} {ds:List D} {xs:List V} (r:RDs K μ H ds xs) (lo a:Option Int):RDs K μ H (E9 ds lo a) (gT xs lo a):=by
 unfold E9 gT;rw [<- r.length];exact (r.drop _).take _
def slD (x:D) (lo a:Option Int):M D:=match x with
 | .tup ds=>ret (.tup (E9 ds lo a))
 | x=>bind (match x with
  | .scr ds=>ret ds
  | x=>lstOf x) λds=>ret (.lst (E9 ds lo a))
end
def b5:Expr->Bool
 | .Starred ..=>false
 | _=>true
def v7:Expr->Bool
 | .ListComp ..=>false
 | .SetComp ..=>false
 | .DictComp ..=>false
 | _=>true
def A2:Expr->Bool
 | .Slice ..=>false
 | _=>true
def j9:Expr->Bool
 | .Set ..=>false
 | _=>true
def j7:Expr->Bool
 | .Call (.Name _ _) [] [] _=>false
 | _=>true
def z4:Expr->Bool
 | .UnaryOp .Not _ _=>false
 | .BoolOp ..=>false
 | .IfExp ..=>false
 | .Compare ..=>false
 | _=>true
theorem b8 (h:b5 e=true):starEach (e :: es) env=(false,eval e env) :: starEach es env:=by
 cases e <;> first | rfl | (exact absurd h (by simp [b5]))
theorem n0:∀ {es:List Expr} {a:PySem.Env} {pos:Pos},es.all b5=true->(backTo pos (starEach es a)).any (·.1)=false
 | [],_,_,_=>rfl
 | e :: es,a,pos,h=>by
  rw [BL,Al] at h;rw [b8 h.1];show (false||(backTo pos (starEach es a)).any (·.1))=false;rw [n0 h.2];rfl
theorem R3:∀ {es:List Expr} {a:PySem.Env} {pos:Pos},es.all b5=true->(backTo pos (starEach es a)).all (λx=>!x.1)=true
 | [],_,_,_=>rfl
 | e :: es,a,pos,h=>by
  rw [BL,Al] at h;rw [b8 h.1];show (!false&&(backTo pos (starEach es a)).all (λx=>!x.1))=true;rw [R3 h.2];rfl
theorem J8 (h:v7 e=true):swapsWith e t n env=pure false:=by
 cases e <;> first | rfl | (exact absurd h (by simp [v7]))
theorem dI (h:A2 e=true):al e:=by
 intro o i;cases e <;> first | rfl | (exact absurd h (by simp [A2]))
theorem Y8 {e:Expr} (h:j9 e=true):behindInMarks op e=false:=by
 cases e <;> first | rfl | (exact absurd h (by simp [j9]))
theorem s0 (h:j9 e=true):∀ x,foldedSetIterable e env x=pure x:=by
 intro x;cases e <;> first | rfl | (exact absurd h (by simp [j9]))
theorem Q6 (h:j7 o=true):attributeBase o f env (eval o env)=eval o env:=by
 unfold attributeBase;split
 ·exact absurd h (by simp [j7])
 ·rfl
theorem test_of (h:z4 e=true):∀ a,isTrue e env a=(do let v <- a;standAt e.pos;holding [v] (truthy v)):=by
 intro a;cases e <;> first
  | rfl
  | (rename_i op _ _;cases op <;> first | rfl | (exact absurd h (by simp [z4])))
  | (exact absurd h (by simp [z4]))
section
variable {X:Cx} {cl:Nat->Addr} {xe:Addr->Hp->Prop} {e:Expr} {es:List Expr} {pos:Pos} {f:Env->M D} {fs:Env->M (List D)}
theorem ah:PA X [] (tDs X.K cl xe λ_=>ret []):=PA.imp jF λσ H Q ⟨μ,S,ρ,b,a,p⟩=>p.ret μ H (Lat.refl _ _) a [] .nil
theorem U4 (h:PE X e (tD X.K cl xe f)) (hs:PA X es (tDs X.K cl xe fs)) (m:b5 e=true):PA X (e :: es) (tDs X.K cl xe λρ=>bind (f ρ) λd=>bind (fs ρ) λds=>ret (d :: ds)):=
 PA.imp (ax h hs (b8 m)) λσ H Q ⟨μ,S,ρ,c,l,p⟩=>
  ⟨μ,S,ρ,c,l,p.bind.imp λd S1 b s q r i v g=>⟨b,S1,ρ,c.later q,r,i.bind.imp λds S2 μ2 j o n k vs a=>k.ret μ2 j (Lat.refl _ _) n _ (.cons (g.later o) a)⟩⟩
def qW (ds:List D):M D:=if ds.length<=sizeLine then ret (.tup ds) else bad
def qM (ds:List D):M D:=if ds.length<=sizeLine then ret (.lst ds) else bad
theorem sP (h:PA X es (tDs X.K cl xe fs)):PE X (.Tuple es k pos) (tD X.K cl xe λρ=>bind (fs ρ) qW):=PE.imp (rA h) λσ H Q ⟨μ,S,ρ,i,g,p⟩=>
 ⟨μ,S,ρ,i,g,p.bind.imp λds S1 e m n j c vs a=>by
  obtain ⟨f,c⟩:=Post.guard c;refine ⟨by rw [<- a.length];exact f,λz hz=>?_⟩;obtain ⟨l,b,d⟩:=C7 j a hz;exact c e _ l b _ d⟩
theorem sQ (h:PA X es (tDs X.K cl xe fs)):PE X (.List es pos) (tD X.K cl xe λρ=>bind (fs ρ) qM):=PE.imp (jq h) λσ H Q ⟨μ,S,ρ,i,g,p⟩=>
 ⟨μ,S,ρ,i,g,p.bind.imp λds S1 e k m j c vs a=>by
  obtain ⟨f,c⟩:=Post.guard c;refine ⟨by rw [<- a.length];exact f,λz hz=>?_⟩;obtain ⟨l,b,d⟩:=m8 j a hz;exact c e _ l b _ d⟩
def newL (ds:List D):M D:=λS=>if ds.length<=sizeLine then .ok (.ref S.length) (S++[.lst ds]) else .bad
theorem aK (h:PA X es (tDs X.K cl xe fs)):PE X (.List es pos) (tD X.K cl xe λρ=>bind (fs ρ) newL):=PE.imp (jq h) λσ H Q ⟨μ,S,ρ,i,g,p⟩=>
 ⟨μ,S,ρ,i,g,p.bind.imp λds S1 f k m j a vs b=>by
  unfold newL at a;by_cases e:ds.length<=sizeLine
  ·rw [if_pos e] at a;refine ⟨by rw [<- b.length];exact e,λz hz=>?_⟩;obtain ⟨l,c,d⟩:=Z1 j b hz;exact a _ _ l c _ d
  ·rw [if_neg e] at a;exact a.elim⟩
def kr (E:XK):Addr->Hp->Prop:=λa H=>E (.ref a) none H
def spD (K:PySem.W.Frag) (cl:Nat->Addr) (n:Nat) (a:List D->M D):Sp:=λvs H Q E=>vs.length=n/\∃ μ S ds,RDs K μ H ds vs/\Rep K cl μ S H/\Post K cl (kr E0) μ H (a ds S) λd _ μ' H'=>∀ v,RD K μ' H' d v->Q v H'
theorem iK {id:String} {x:Str} {p:Pos} (d:j3 X (.builtin id) (rPs X.K cl xe g)) (o:Gl X x) (k:X.mg x=none) (h:bootBuiltins x=some (.builtin id)) (m:PA X (e :: es) (tDs X.K cl xe fs)) (j:x ≠ "__name__") (c:(x==("__debug__" : Str))=false) (hs:(e :: es).all b5=true) :
  PE X (.Call (.Name x p) (e :: es) [] pos) (tD X.K cl xe λρ=>bind (fs ρ) g):=by
 rw [BL,Al] at hs;exact PE.imp (cD d o k h m j c (b8 hs.1) (n0 hs.2)) λσ H Q ⟨μ,S,ρ,l,i,p⟩=>⟨μ,S,ρ,l,i,p.bind.imp λds S1 b q r n f vs a=>⟨b,S1,ds,a,n,f⟩⟩
theorem cM {T:String} {x:Str} {p:Pos} (d:j3 X (.type T) (rPs X.K cl xe g)) (o:Gl X x) (k:X.mg x=none) (h:bootBuiltins x=some (.type T)) (m:PA X (e :: es) (tDs X.K cl xe fs)) (j:x ≠ "__name__") (c:(x==("__debug__" : Str))=false) (hs:(e :: es).all b5=true) :
  PE X (.Call (.Name x p) (e :: es) [] pos) (tD X.K cl xe λρ=>bind (fs ρ) g):=by
 rw [BL,Al] at hs;exact PE.imp (gy d o k h m j c (b8 hs.1) (n0 hs.2)) λσ H Q ⟨μ,S,ρ,l,i,p⟩=>⟨μ,S,ρ,l,i,p.bind.imp λds S1 b q r n f vs a=>⟨b,S1,ds,a,n,f⟩⟩
end
def one (g:D->M D) (ds:List D):M D:=match ds with
 | [d]=>g d
 | _=>bad
def D5 (d:D):M D:=match d with
 | .str x=>if x.length<=sizeLine then ret (.int x.length) else bad
 | .ref n=>λS=>match S[n]? with
  | some (.lst ds)=>.ok (.int ds.length) S
  | some (.dct a)=>.ok (.int a.length) S
  | _=>.bad
 | d=>bind (w8 d) λds=>ret (.int ds.length)
def A4 (d:D):M D:=match d with
 | .tup ds=>ret (.tup ds)
 | d=>bind (w8 d) λds=>ret (.tup ds)
def lO (d:D):M D:=bind (w8 d) λds=>ret (.lst ds)
instance (p:PyData):Decidable (Shows p):=decidable_of_iff (p.showable=true/\p.hasDict=false/\p.depth<=60/\p.shown.length<=sizeLine) ⟨λ⟨a,b,c,d⟩=>⟨a,b,c,d⟩,λ⟨a,b,c,d⟩=>⟨a,b,c,d⟩⟩
def y3 (d:D):M D:=λS=>match d3 64 S d with
 | some p=>(if Shows p then ret (.str p.shown) else bad) S
 | none=>.bad
theorem oJ {K:PySem.W.Frag} {μ:Mp} {H:Hp} {d:D} {vs:List V} (r:RDs K μ H [d] vs):∃ v,vs=[v]/\RD K μ H d v:=by
 cases r with
 | cons h t=>cases t;exact ⟨_,rfl,h⟩
section
variable {X:Cx} {cl:Nat->Addr} {xe:Addr->Hp->Prop}
theorem C2 (h:∀ (pins:List (Addr×Obj)) (s:Shared) (σ:L2.St) (H:Hp) (μ:Mp) (S:Sto) (d:D) (v:V) (us:List Value) (Q:VK),L2.Inv X pins σ H s->Vals [v] us->RD X.K μ H d v->Rep X.K cl μ S H->Post X.K cl xe μ H (g d S) (λr _ μ' H'=>∀ v,RD X.K μ' H' r v->Q v H') ->
  wpAny (model X.prog X.w) X.A (call f us) (EP X pins σ Q) X.xe s):j3 X f (rPs X.K cl xe (one g)):=by
 intro pins s σ H xs us Q I r ⟨μ,S,ds,a,c,p⟩
 match ds,p with
 | [d],p=>
  obtain ⟨v,rfl,b⟩:=oJ a;exact h pins s σ H μ S d v us Q I r b c p
 | [],p=>exact p.elim
 | _ :: _ :: _,p=>exact p.elim
theorem vW:j3 X (.builtin "len") (rPs X.K cl xe (one D5)):=C2 λpins s σ H μ S d v us Q I r rd rp p=>by
 have sq:∀ {a:Addr} {xs:List V} {ds:List D},(SqL X.K H a xs\/SqT X.K H a xs)->RDs X.K μ H ds xs->v=.ref a->(∀ μ' H',Lat μ H μ' H'->Rep X.K cl μ' S H'->∀ w,RD X.K μ' H' (.int ds.length) w->Q w H')->wpAny (model X.prog X.w) X.A (call (.builtin "len") us) (EP X pins σ Q) X.xe s:=λ{a xs ds} hq r2 hv q=>by
  subst hv;exact aV pins s σ H _ us Q I r ⟨a,xs,rfl,hq,by rw [<- r2.length];exact q μ H (Lat.refl _ _) rp _ (.int _)⟩
 cases rd with
 | str x=>
  obtain ⟨hl,p⟩:=Post.guard p;exact aO pins s σ H _ us Q I r ⟨x,rfl,hl,p μ H (Lat.refl _ _) rp _ (.int _)⟩
 | tup h r2=>exact sq (.inr h.sq) r2 rfl p
 | lst h r2=>exact sq (.inl h.sq) r2 rfl p
 | scr h r2=>exact sq (.inl h.sq) r2 rfl p
 | ref h=>
  rename_i n a;simp only [D5] at p;cases q1:S[n]? with
  | none=>rw [q1] at p;exact p.elim
  | some o=>
   rw [q1] at p;cases o with
   | lst ds=>
    obtain ⟨xs,h1,h2⟩:=rp.ats n _ a q1 h;exact sq (.inl (.inl (.inl h1))) h2 rfl p
   | dct kvs=>
    obtain ⟨ks,h1,h2⟩:=rp.ats n _ a q1 h;have hl:=Paired.length h2;exact gc pins s σ H _ us Q I r ⟨a,ks,rfl,h1,by rw [<- hl];exact p μ H (Lat.refl _ _) rp _ (.int _)⟩
   | exc _ _=>exact p.elim
 | _=>exact False.elim p
theorem ol:j3 X (.type "tuple") (rPs X.K cl xe (one A4)):=C2 λpins s σ H μ S d v us Q I r rd rp p=>by
 have sq:∀ {a:Addr} {xs:List V} {ds:List D},SqL X.K H a xs->RDs X.K μ H ds xs->v=.ref a->(∀ μ' H',Lat μ H μ' H'->Rep X.K cl μ' S H'->∀ w,RD X.K μ' H' (.tup ds) w->Q w H')->wpAny (model X.prog X.w) X.A (call (.type "tuple") us) (EP X pins σ Q) X.xe s:=λ{a xs ds} hq r2 hv q=>by
  subst hv;refine D8 pins s σ H _ us Q I r ⟨a,xs,rfl,.inl ⟨hq,λz hz=>?_⟩⟩;obtain ⟨l,rp2,rd2⟩:=C7 rp r2 hz;exact q μ _ l rp2 _ rd2
 cases rd with
 | tup h r2=>exact D8 pins s σ H _ us Q I r ⟨_,_,rfl,.inr ⟨h.sq,p μ H (Lat.refl _ _) rp _ (.tup h r2)⟩⟩
 | lst h r2=>exact sq h.sq r2 rfl p
 | scr h r2=>exact sq h.sq r2 rfl p
 | ref h=>
  rename_i n a0;have p2:=p;obtain ⟨a,xs,ds,e1,h1,h2,e2⟩:=j4 (.ref h) rp p2.bind;exact sq (.inl (.inl h1)) h2 e1 (p2.ok_bind e2)
 | _=>exact False.elim p
theorem sw:j3 X (.type "list") (rPs X.K cl xe (one lO)):=C2 λpins s σ H μ S d v us Q I r f e p=>by
 obtain ⟨a,xs,ds,rfl,h,i,g⟩:=J2 f e p.bind;refine J9 pins s σ H _ us Q I r ⟨a,xs,rfl,h,λz hz=>?_⟩;obtain ⟨l,b,c⟩:=m8 e i hz;exact (p.ok_bind g) μ _ l b _ c
theorem qL (e:X.A.guards=some []) (f:X.A.units+64<cLine):j3 X (.builtin "repr") (rPs X.K cl xe (one y3)):=C2 λpins s σ H μ S d v us Q I r c b p=>by
 simp only [y3] at p;cases a:d3 64 S d with
 | none=>rw [a] at p;exact p.elim
 | some q=>
  rw [a] at p;obtain ⟨hs,p⟩:=Post.guard p;exact hV e f pins s σ H _ us Q I r ⟨v,q,rfl,k7 b 64 a c,hs,p μ H (Lat.refl _ _) b _ (.str _)⟩
end
def Mp.free (μ:Mp):Mp:=⟨μ.pl,μ.rs.tail⟩
section
variable {K:PySem.W.Frag} {cl:Nat->Addr} {xe:Addr->Hp->Prop} {μ μ2:Mp} {S S2:Sto} {H H2:Hp} {p:Addr} {o:HO}
theorem oh (i:Rep K cl μ S H) (h:H p=none):(∀ {d:D} {v:V},RD K μ H d v->RD K (μ.hold p) (upd H p o) d v)/\∀ {ds:List D} {vs:List V},RDs K μ H ds vs->RDs K (μ.hold p) (upd H p o) ds vs:=by
 have c:∀ a u,H a=some u->a∉μ.pl->a∉μ.rs->upd H p o a=some u/\a∉(μ.hold p).pl/\a∉(μ.hold p).rs:=λa u e f g=>by
  have b:=b3 e h;exact ⟨by rw [b1 b];exact e,f,λz=>(AA.mp z).elim b g⟩
 exact ⟨λr=>r.move (μ:=μ) (μ':=μ.hold p) (λ_ _ e=>e) c,λr=>r.move (μ:=μ) (μ':=μ.hold p) (λ_ _ e=>e) c⟩
theorem Q8 (c:Rep K cl μ S H) (b:H p=none):Rep K cl (μ.hold p) S (upd H p o):=by
 have j:∀ a u,H a=some u->a∉μ.pl->a∉μ.rs->upd H p o a=some u/\a∉(μ.hold p).pl/\a∉(μ.hold p).rs:=λa u e g h=>by
  have d:=b3 e b;exact ⟨by rw [b1 d];exact e,g,λz=>(AA.mp z).elim d h⟩
 refine c.move (λa m=>?_) rfl (λa m=>b1 λz=>c.notin b (z▸m)) (λa u e=>by rw [b1 (b3 e b)];exact e) j;rcases AA.mp (m) with rfl | m
 ·exact ⟨c.notin b,o,b6⟩
 ·obtain ⟨i,u,f⟩:=c.res a m;exact ⟨i,u,by rw [b1 (b3 f b)];exact f⟩
theorem R7 (b:Rep K cl μ S H) (c:H p=none) (a:EnvOk K μ H ρ σ):EnvOk K (μ.hold p) (upd H p o) ρ σ:=⟨a.1,λi d e=>let ⟨v,q,r⟩:=a.2 i d e;⟨v,q,(oh b c).1 r⟩⟩
theorem bx (r:RDs K μ H ds vs):RDs K μ.free H ds vs:=r.move (μ:=μ) (μ':=μ.free) (λ_ _ e=>e) λa u e b c=>⟨e,b,λz=>c (Dp z)⟩
theorem V3 (b:Rep K cl μ S H):Rep K cl μ.free S H:=b.move (λa m=>b.res a (Dp m)) rfl (λ_ _=>rfl) (λ_ _ e=>e) λa u e c d=>⟨e,c,λz=>d (Dp z)⟩
theorem N3 (e:μ.rs=p :: rs) (r:RDs K μ H ds vs):RDs K μ (upd H p o) ds vs:=r.move (λ_ _ e=>e) λa u q c b=>⟨by rw [b1 (λz=>b (by rw [e,z];exact Av))];exact q,c,b⟩
theorem B8 (e:μ.rs=p :: rs) (r:RD K μ H d v):RD K μ (upd H p o) d v:=r.move (λ_ _ e=>e) λa u q c b=>⟨by rw [b1 (λz=>b (by rw [e,z];exact Av))];exact q,c,b⟩
theorem N1 (e:μ.rs=p :: rs) (h:H p=some (.lst xs)) (b:Rep K cl μ S H):Rep K cl μ S (upd H p o):=by
 have g:=(b.res p (by rw [e];exact Av)).1;refine b.move (λa m=>?_) rfl (λa m=>b1 λz=>g (z▸m)) (λa u q=>by rw [b1 (jJ q h (by intro z;cases z))];exact q) λa u q f c=>⟨by rw [b1 (λz=>c (by rw [e,z];exact Av))];exact q,f,c⟩;obtain ⟨d,u,i⟩:=b.res a m;by_cases z:a=p
 ·subst z;exact ⟨d,o,b6⟩
 ·exact ⟨d,u,by rw [b1 z];exact i⟩
end
inductive Fl where
 | nx (ρ:Env) | rt (d:D) | bk (ρ:Env) | ct (ρ:Env)
def sg (K:PySem.W.Frag) (D:Ends) (a:Fl) (μ:Mp) (H:Hp):Prop:=match a with
 | .nx ρ=>∀ σ,EnvOk K μ H ρ σ->D.nx σ H
 | .rt d=>∀ v,RD K μ H d v->D.rt v H
 | .bk ρ=>∀ σ,EnvOk K μ H ρ σ->D.bk σ H
 | .ct ρ=>∀ σ,EnvOk K μ H ρ σ->D.ct σ H
def sD (K:PySem.W.Frag) (cl:Nat->Addr) (xe:Addr->Hp->Prop) (f:Env->M Fl):TS:=λD σ H=>∃ μ S ρ,EnvOk K μ H ρ σ/\Rep K cl μ S H/\Post K cl xe μ H (f ρ S) λa _ μ' H'=>sg K D a μ' H'
def tV (f g:Env->M Fl) (ρ:Env):M Fl:=bind (f ρ) λa=>match a with
 | .nx b=>g b
 | a=>ret a
section
variable {X:Cx} {cl:Nat->Addr} {xe:Addr->Hp->Prop} {e:Expr} {st:Stmt} {sts:List Stmt} {pos:Pos} {f:Env->M D} {g h:Env->M Fl}
theorem M7:PS X st (sD X.K cl xe λ_=>bad):=λ_ _ _ _ _ _ ⟨_,_,_,_,_,p⟩=>p.elim
theorem ki:PSs X [] (sD X.K cl xe λρ=>ret (.nx ρ)):=PSs.imp oA λD σ H ⟨μ,S,ρ,b,a,p⟩=>p.ret μ H (Lat.refl _ _) a σ b
theorem oe (h1:PS X st (sD X.K cl xe g)) (h2:PSs X sts (sD X.K cl xe h)):PSs X (st :: sts) (sD X.K cl xe (tV g h)):=PSs.imp (ik h1 h2) λD σ H ⟨μ,S,ρ,eo,rp,p⟩=>
 ⟨μ,S,ρ,eo,rp,p.bind.imp λfl S1 μ1 H1 l1 r1 p1=>by
  cases fl with
  | nx ρ1=>exact λσ1 eo1=>⟨μ1,S1,ρ1,eo1,r1,p1⟩
  | rt d=>exact p1.ret μ1 H1 (Lat.refl _ _) r1
  | bk ρ1=>exact p1.ret μ1 H1 (Lat.refl _ _) r1
  | ct ρ1=>exact p1.ret μ1 H1 (Lat.refl _ _) r1⟩
theorem lB:PS X (.Pass pos) (sD X.K cl xe λρ=>ret (.nx ρ)):=PS.imp oX λD σ H ⟨μ,S,ρ,b,a,p⟩=>p.ret μ H (Lat.refl _ _) a σ b
theorem gQ:PS X (.Break pos) (sD X.K cl xe λρ=>ret (.bk ρ)):=PS.imp lJ λD σ H ⟨μ,S,ρ,b,a,p⟩=>p.ret μ H (Lat.refl _ _) a σ b
theorem lQ:PS X (.Continue pos) (sD X.K cl xe λρ=>ret (.ct ρ)):=PS.imp bG λD σ H ⟨μ,S,ρ,b,a,p⟩=>p.ret μ H (Lat.refl _ _) a σ b
theorem kW (c:PE X e (tD X.K cl xe f)) (k:v7 e=true):PS X (.Expr e pos) (sD X.K cl xe λρ=>bind (f ρ) λ_=>ret (.nx ρ)):=PS.imp (oB c (J8 k)) λD σ H ⟨μ,S,ρ,b,l,p⟩=>
 ⟨μ,S,ρ,b,l,p.bind.imp λd S1 a i h j g v m=>g.ret a i (Lat.refl _ _) j σ (b.later h)⟩
theorem aF (c:PE X e (tD X.K cl xe f)):PS X (.Return (some e) pos) (sD X.K cl xe λρ=>bind (f ρ) λd=>ret (.rt d)):=PS.imp (pg c) λD σ H ⟨μ,S,ρ,i,k,p⟩=>
 ⟨μ,S,ρ,i,k,p.bind.imp λd S1 a h l j g v b=>g.ret a h (Lat.refl _ _) j v b⟩
theorem kG:PS X (.Return none pos) (sD X.K cl xe λρ=>ret (.rt .non)):=PS.imp oQ λD σ H ⟨μ,S,ρ,b,a,p⟩=>p.ret μ H (Lat.refl _ _) a _ .non
theorem qR (k:PT X c (tBo X.K cl xe t)) (m:PSs X a (sD X.K cl xe g)) (l:PSs X b (sD X.K cl xe h)):PS X (.If c a b pos) (sD X.K cl xe λρ=>bind (t ρ) λq=>if q=true then g ρ else h ρ):=PS.imp (L2.ps_if k m l) λD σ H ⟨μ,S,ρ,e,n,p⟩=>
 ⟨μ,S,ρ,e,n,p.bind.imp λq S1 d o i j f=>by
  cases q with
  | true=>exact ⟨d,S1,ρ,e.later i,j,f⟩
  | false=>exact ⟨d,S1,ρ,e.later i,j,f⟩⟩
theorem mU (q:X.N.Nodup) (g:X.N[i]?=some x) (n:Loc X.env.scope x) (j:PE X e (tD X.K cl xe f)) (o:v7 e=true) (s:X.fn x=true\/X.env.scope.names.lookup x=some .local) :
  PS X (.Assign [.Name x pos'] e pos) (sD X.K cl xe λρ=>bind (f ρ) λd=>ret (.nx (ρ.set i (some d)))):=PS.imp (lP q g n j (J8 o) s) λD σ H ⟨μ,S,ρ,b,r,p⟩=>
 ⟨μ,S,ρ,b,r,p.bind.imp λd S1 a l k m h v c=>h.ret a l (Lat.refl _ _) m _ ((b.later k).set c i)⟩
def mZ (K:PySem.W.Frag) (cl:Nat->Addr) (tg:D->Env->Option Env):TG:=λv σ H Q=>∃ μ S ρ d a,EnvOk K μ H ρ σ/\Rep K cl μ S H/\RD K μ H d v/\tg d ρ=some a/\∀ b,EnvOk K μ H a b->Q b H
theorem PG.imp (h:PG X t u) (k:∀ v σ H Q,u' v σ H Q->u v σ H Q):PG X t u':=λpins s σ H v w Q I r q=>h pins s σ H v w Q I r (k v σ H Q q)
theorem iF (h:X.N.Nodup) (a:X.N[i]?=some x) (f:Loc X.env.scope x) (j:X.fn x=true\/X.env.scope.names.lookup x=some .local):PG X (.Name x pos') (mZ X.K cl λd ρ=>some (ρ.set i (some d))):=
 PG.imp (C8 h a f j) λv σ H Q ⟨μ,S,ρ,d,g,c,k,b,e,q⟩=>by
  cases e;exact q _ (c.set b i)
def V2:List Nat->List D->Env->Option Env
 | [],[],ρ=>some ρ
 | i :: a,d :: ds,ρ=>V2 a ds (ρ.set i (some d))
 | _,_,_=>none
def G2 (a:List Nat) (d:D) (ρ:Env):Option Env:=match d with
 | .tup ds=>V2 a ds ρ
 | _=>none
def D0 (X:Cx):List Expr->List Nat->Prop
 | [],[]=>True
 | .Name x _ :: b,i :: a=>X.N[i]?=some x/\Loc X.env.scope x/\(X.fn x=true\/X.env.scope.names.lookup x=some .local)/\D0 X b a
 | _,_=>False
theorem Y5 (j:X.N.Nodup):∀ {g:List Expr} {c:List Nat},D0 X g c->PGs X g (λvs σ H Q=>∃ μ ds ρ a,EnvOk X.K μ H ρ σ/\RDs X.K μ H ds vs/\V2 c ds ρ=some a/\∀ b,EnvOk X.K μ H a b->Q b H)
 | [],[],_=>λpins s σ H vs us Q I r ⟨μ,ds,ρ,a,h,f,e,q⟩=>by
  cases ds with
  | nil=>
   cases f;cases e;exact oV pins s σ H [] us Q I r ⟨rfl,q σ h⟩
  | cons d ds=>cases e
 | .Name x p :: g,i :: c,⟨m,o,k,t⟩=>λpins s σ H vs us Q I r ⟨μ,ds,ρ,a,h,f,e,q⟩=>by
  cases ds with
  | nil=>cases e
  | cons d ds=>
   cases f with
   | cons n l=>
    exact lL (C8 j m o k) (Y5 j t) rfl pins s σ H _ us Q I r ⟨_,_,rfl,μ,ds,_,a,h.set n i,l,e,q⟩
theorem J7:D0 X ts is->(assignEach ts X.env).length=is.length/\(assignEach ts X.env).findIdx? (·.1)=none:=by
 induction ts generalizing is with
 | nil=>
  intro h;cases is with
  | nil=>exact ⟨rfl,rfl⟩
  | cons i is=>exact h.elim
 | cons t ts ih=>
  intro h;cases is with
  | nil=>cases t <;> exact h.elim
  | cons i is=>
   cases t with
   | Name x p=>
    obtain ⟨_,_,_,h4⟩:=h;obtain ⟨a,b⟩:=ih h4;refine ⟨by show (assignEach ts X.env).length+1=_;rw [a];rfl,?_⟩;show ((false,assign (.Name x p) X.env) :: assignEach ts X.env).findIdx? (·.1)=none;rw [List.findIdx?_cons];simp [b]
   | _=>exact h.elim
theorem T7:∀ {b:List Nat} {ds:List D} {ρ a:Env},V2 b ds ρ=some a->ds.length=b.length
 | [],[],_,_,_=>rfl
 | _ :: _,_ :: _,_,_,e=>by simp [T7 (by simpa [V2] using e)]
 | [],_ :: _,_,_,e=>by cases e
 | _ :: _,[],_,_,e=>by cases e
theorem eJ (hc:X.calm=true) (hN:X.N.Nodup) (h:D0 X ts is):PG X (.Tuple ts k pos') (mZ X.K cl (G2 is)):=
 PG.imp (rY hc (Y5 hN h) (J7 h).1 (J7 h).2) λv σ H Q ⟨μ,S,ρ,d,ρ',eo,rp,rd,e,q⟩=>by
  cases rd with
  | tup h1 h2=>exact ⟨_,_,rfl,h1.sq,by rw [<- h2.length];exact T7 e,μ,_,ρ,ρ',eo,h2,e,q⟩
  | _=>cases e
def jK:Expr->Bool
 | .Tuple ..=>false
 | _=>true
def ba (tg:D->Env->Option Env) (d:D) (ρ:Env):M Fl:=match tg d ρ with
 | some a=>ret (.nx a)
 | none=>bad
theorem me (n:X.calm=true) (t:X.N.Nodup) (h:D0 X ts is) (o:PE X e (tD X.K cl xe f)) (s:v7 e=true) (i:jK e=true):PS X (.Assign [.Tuple ts k pos'] e pos) (sD X.K cl xe λρ=>bind (f ρ) λd=>ba (G2 is) d ρ):=
 PS.imp (jG o (eJ n t h) (by unfold swapsWithSole;exact J8 s) (by cases e <;> first | rfl | (exact absurd i (by simp [jK]))) rfl) λD σ H ⟨μ,S,ρ,j,u,p⟩=>
  ⟨μ,S,ρ,j,u,p.bind.imp λd S1 a r q l b v m=>by
   cases c:G2 is d ρ with
   | none=>simp only [ba,c] at b;exact b.elim
   | some g=>simp only [ba,c] at b;exact ⟨a,S1,ρ,d,g,j.later q,l,m,c,b.ret a r (Lat.refl _ _) l⟩⟩
end
structure LatR (μ:Mp) (H:Hp) (μ':Mp) (H':Hp):Prop where
 pre:∀ (n:Nat) (a:Addr),μ.pl[n]?=some a->μ'.pl[n]?=some a
 oth:∀ a o,H a=some o->a∉μ.pl->H' a=some o
 new:∀ a,a∈μ'.pl->a∈μ.pl\/H a=none
 rsw:∀ a,a∈μ'.rs->a∈μ.rs\/H a=none
theorem Lat.r {H H':Hp} (l:Lat μ H μ' H'):LatR μ H μ' H':=⟨l.pre,l.oth,l.new,λa m=>.inl (by rw [l.rsv] at m;exact m)⟩
structure LatU (μ:Mp) (H:Hp) (μ':Mp) (H':Hp):Prop where
 pre:∀ (n:Nat) (a:Addr),μ.pl[n]?=some a->μ'.pl[n]?=some a
 oth:∀ a o,H a=some o->a∉μ.pl->a∉μ.rs->H' a=some o
 new:∀ a,a∈μ'.pl->a∈μ.pl\/H a=none
 rsw:∀ a,a∈μ'.rs->a∈μ.rs\/H a=none
theorem LatR.u {H H':Hp} (l:LatR μ H μ' H'):LatU μ H μ' H':=⟨l.pre,λa o e n _=>l.oth a o e n,l.new,l.rsw⟩
theorem LatU.out {H H':Hp} (l:LatU μ H μ' H') (a:Addr) (u:HO) (e:H a=some u) (c:a∉μ.pl) (b:a∉μ.rs):H' a=some u/\a∉μ'.pl/\a∉μ'.rs:=by
 refine ⟨l.oth a u e c b,λz=>?_,λz=>?_⟩
 ·rcases l.new a z with q | q
  ·exact c q
  ·rw [e] at q;cases q
 ·rcases l.rsw a z with q | q
  ·exact b q
  ·rw [e] at q;cases q
theorem RDs.laterU {K:PySem.W.Frag} {μ μ':Mp} {H H':Hp} (l:LatU μ H μ' H') {ds:List D} {vs:List V} (r:RDs K μ H ds vs):RDs K μ' H' ds vs:=r.move l.pre l.out
abbrev Src:=Nat->Sto->Option (Option D)
def P2 (K:PySem.W.Frag) (cl:Nat->Addr) (J:It) (i:Nat) (μ2:Mp) (b:Hp) (S2:Sto) (o:Option (Option D)):Prop:=match o with
 | some (some d)=>J.go i b/\∀ x a,J.yld i b x a->Lat μ2 b μ2 a/\Rep K cl μ2 S2 a/\RD K μ2 a d x
 | some none=>J.stop i b
 | none=>True
def Yl (K:PySem.W.Frag) (cl:Nat->Addr) (J:It) (μ:Mp) (H:Hp) (src:Src):Prop:=∀ (i:Nat) (μ2:Mp) (a:Hp) (S2:Sto),LatU μ H μ2 a->Rep K cl μ2 S2 a->P2 K cl J i μ2 a S2 (src i S2)
def tIt (K:PySem.W.Frag) (cl:Nat->Addr) (xe:Addr->Hp->Prop) (f:Env->M (Src×Nat)):TI:=λσ H R=>∃ μ S ρ,EnvOk K μ H ρ σ/\Rep K cl μ S H/\Post K cl xe μ H (f ρ S) λp _ μ' H'=>∀ J,Yl K cl J μ' H' p.1->R J H'
theorem PI.imp (h:PI X tg it t) (k:∀ σ H R,t' σ H R->t σ H R):PI X tg it t':=λpins s σ H R I q=>h pins s σ H R I (k σ H R q)
theorem pw {tg l:Expr} {m:TE} (r:PE X l m):PI X tg l (λσ H R=>m σ H λx d=>∃ a,x=.ref a/\(((∃ xs,SqL X.K d a xs)/\R (Itl X.K a) d)\/((∃ xs,SqT X.K d a xs)/\R (Itt X.K a) d))):=by
 intro pins s σ H R I h;refine thn (r pins s σ H _ I h) λv f ⟨x,d,c,n,j⟩=>?_;obtain ⟨a,e,j⟩:=j;subst e;cases n;rcases j with ⟨⟨xs,g⟩,q⟩ | ⟨⟨xs,g⟩,q⟩
 ·obtain ⟨k,t,p,hz⟩:=c.list g;refine wpAny_pyIter_list p.isList ?_;refine ⟨f.heap.objs.size,[f.heap.objs.size],_,_,d,rfl,c.kept λb o e=>Ai _ e,hZ a _,⟨_,Am _ rfl,rfl,rfl⟩,λb i=>?_,q⟩;have e:b=f.heap.objs.size:=by simpa using i
  subst e;exact c.fpOk (Ap _) (c.hok.fresh (Ap _))
 ·obtain ⟨k,t,p,hz⟩:=c.tuple g;refine wpAny_pyIter_tuple (p) ?_;refine ⟨f.heap.objs.size,[f.heap.objs.size],_,_,d,rfl,c.kept λb o e=>Ai _ e,eI a _,⟨_,Am _ rfl,rfl,rfl⟩,λb i=>?_,q⟩;have e:b=f.heap.objs.size:=by simpa using i
  subst e;exact c.fpOk (Ap _) (c.hok.fresh (Ap _))
def A7 (ds:List D):Src:=λi _=>some ds[i]?
def gq (n:Nat):Src:=λi S=>match S[n]? with
 | some (.lst es)=>some es[i]?
 | _=>none
def X1 (lo:Int) (n:Nat):Src:=λi _=>some (if i<n then some (.int (lo+i)) else none)
section
variable {K:PySem.W.Frag} {cl:Nat->Addr} {μ:Mp} {H:Hp}
theorem sB (h:TupAt K μ H a xs) (r:RDs K μ H ds xs):Yl K cl (Itt K a) μ H (A7 ds):=λi μ2 g S2 l y=>by
 have b:SqT K g a xs:=by
  rcases h with ⟨q,n1,n2⟩ | q
  ·rcases q with q | ⟨o,q⟩
   ·exact .inl (.inl (l.oth _ _ q n1 n2))
   ·exact .inl (.inr ⟨o,l.oth _ _ q n1 n2⟩)
  ·obtain ⟨o,c,n,u,j,w,m,t,_⟩:=q;exact .inr ⟨o,c,n,u,j,w,m,t⟩
 have k:=r.laterU l;show P2 K cl (Itt K a) i μ2 g S2 (some ds[i]?);cases e:ds[i]? with
 | none=>exact ⟨xs,b,by rw [<- r.length];exact CF.mp e⟩
 | some d=>
  obtain ⟨v,f,p⟩:=k.get e;exact ⟨⟨xs,v,b,f⟩,λx z ⟨s,q⟩=>by subst s;have:=q xs b;rw [f] at this;cases this;exact ⟨Lat.refl _ _,y,p⟩⟩
theorem lU (h:LstAt μ H a xs\/ScrAt K μ H a xs) (r:RDs K μ H ds xs):Yl K cl (Itl K a) μ H (A7 ds):=λi μ2 f S2 l m=>by
 have b:SqL K f a xs:=by
  rcases h with ⟨q,n1,n2⟩ | ⟨q,n1,n2⟩ | q
  ·exact .inl (.inl (l.oth _ _ q n1 n2))
  ·rcases q with q | ⟨o,q⟩
   ·exact .inl (.inl (l.oth _ _ q n1 n2))
   ·exact .inl (.inr ⟨o,l.oth _ _ q n1 n2⟩)
  ·exact .inr q
 have g:=r.laterU l;show P2 K cl (Itl K a) i μ2 f S2 (some ds[i]?);cases e:ds[i]? with
 | none=>exact ⟨xs,b,by rw [<- r.length];exact CF.mp e⟩
 | some d=>
  obtain ⟨v,c,j⟩:=g.get e;exact ⟨⟨xs,v,b,c⟩,λx n ⟨k,q⟩=>by subst k;have:=q xs b;rw [c] at this;cases this;exact ⟨Lat.refl _ _,m,j⟩⟩
theorem sA {n:Nat} (h:μ.pl[n]?=some a):Yl K cl (Itl K a) μ H (gq n):=λi μ2 H2 S2 l rp=>by
 show P2 K cl (Itl K a) i μ2 H2 S2 (match S2[n]? with
  | some (.lst es)=>some es[i]?
  | _=>none)
 cases q1:S2[n]? with
 | none=>exact True.intro
 | some o=>
  cases o with
  | dct _=>exact True.intro
  | exc _ _=>exact True.intro
  | lst es=>
   obtain ⟨xs,h1,h2⟩:=rp.ats n _ a q1 (l.pre _ _ h);have hq:SqL K H2 a xs:=.inl (.inl h1);show P2 K cl (Itl K a) i μ2 H2 S2 (some es[i]?);cases e:es[i]? with
   | none=>exact ⟨xs,hq,by rw [<- h2.length];exact CF.mp e⟩
   | some d=>
    obtain ⟨v,e1,r1⟩:=h2.get e;exact ⟨⟨xs,v,hq,e1⟩,λx H3 ⟨e3,q⟩=>by subst e3;have:=q xs hq;rw [e1] at this;cases this;exact ⟨Lat.refl _ _,rp,r1⟩⟩
theorem cH {lo:Int} {n:Nat}:Yl K cl (Itr lo n) μ H (X1 lo n):=λi μ2 d S2 l e=>by
 show P2 K cl (Itr lo n) i μ2 d S2 (some (if i<n then some (.int (lo+i)) else none));by_cases a:i<n
 ·rw [if_pos a];exact ⟨a,λx f ⟨c,b⟩=>by subst c b;exact ⟨Lat.refl _ _,e,.int _⟩⟩
 ·rw [if_neg a];exact Dg a
end
def A6 (d:D):M (Src×Nat):=match d with
 | .tup ds=>ret (A7 ds,ds.length+1)
 | .lst ds=>ret (A7 ds,ds.length+1)
 | .scr ds=>ret (A7 ds,ds.length+1)
 | .ref n=>λS=>match S[n]? with
  | some (.lst ds)=>.ok (gq n,ds.length+1) S
  | _=>.bad
 | _=>bad
def n8 (ds:List D):M (Src×Nat):=match ds with
 | [.int j]=>if -(2 ^ 62)<=j/\j<2 ^ 62 then ret (X1 0 j.toNat,j.toNat+1) else bad
 | [.int i,.int j]=>if -(2 ^ 62)<=i/\i<2 ^ 62/\-(2 ^ 62)<=j/\j<2 ^ 62 then ret (X1 i (j-i).toNat,(j-i).toNat+1) else bad
 | _=>bad
section
variable {X:Cx} {cl:Nat->Addr} {xe:Addr->Hp->Prop} {e:Expr} {tg:Expr} {pos:Pos} {f:Env->M D}
theorem ef {tg e:Expr}:PI X tg e (tIt X.K cl xe λ_=>bad):=λ_ _ _ _ _ _ ⟨_,_,_,_,_,p⟩=>p.elim
theorem nl (h:PE X e (tD X.K cl xe f)):PI X tg e (tIt X.K cl xe λρ=>bind (f ρ) A6):=PI.imp (pw h) λσ H R ⟨μ,S,ρ,eo,rp,p⟩=>
 ⟨μ,S,ρ,eo,rp,p.bind.imp λd S1 μ1 H1 l1 r1 p1 v rv=>by
  cases rv with
  | tup h r=>exact ⟨_,rfl,.inr ⟨⟨_,h.sq⟩,p1.ret μ1 H1 (Lat.refl _ _) r1 _ (sB h r)⟩⟩
  | lst h r=>exact ⟨_,rfl,.inl ⟨⟨_,h.sq⟩,p1.ret μ1 H1 (Lat.refl _ _) r1 _ (lU (.inl h) r)⟩⟩
  | scr h r=>exact ⟨_,rfl,.inl ⟨⟨_,h.sq⟩,p1.ret μ1 H1 (Lat.refl _ _) r1 _ (lU (.inr h) r)⟩⟩
  | ref h=>
   rename_i n a;simp only [A6] at p1;cases q1:S1[n]? with
   | none=>rw [q1] at p1;exact p1.elim
   | some o=>
    rw [q1] at p1;cases o with
    | lst ds=>
     obtain ⟨xs,h1,h2⟩:=r1.ats n _ a q1 h;exact ⟨_,rfl,.inl ⟨⟨xs,.inl (.inl h1)⟩,p1 μ1 H1 (Lat.refl _ _) r1 _ (sA h)⟩⟩
    | dct _=>exact p1.elim
    | exc _ _=>exact p1.elim
  | _=>exact False.elim p1⟩
theorem dA (hg:Gl X "range") (hm:X.mg "range" = none) (ha:PA X [a] (tDs X.K cl xe fs)) (hs:b5 a=true):PI X tg (.Call (.Name "range" p) [a] [] pos) (tIt X.K cl xe λρ=>bind (fs ρ) λds=>if ds.length=1 then n8 ds else bad):=
 PI.imp (gI hg hm ha (b8 hs)) λσ H R ⟨μ,S,ρ,eo,rp,p⟩=>⟨μ,S,ρ,eo,rp,p.bind.imp λds S1 μ1 H1 l1 r1 p1 vs rvs=>by
  cases rvs with
  | nil=>exact False.elim p1
  | cons h t=>
   cases t with
   | cons _ t=>rw [if_neg (by simp)] at p1;exact p1.elim
   | nil=>
    rename_i d0 v0;rw [if_pos (show ([d0]:List D).length=1 from rfl)] at p1;cases h with
    | int j=>
     obtain ⟨⟨h1,h2⟩,p1⟩:=Post.guard p1;exact ⟨j,rfl,h1,h2,p1 μ1 H1 (Lat.refl _ _) r1 _ cH⟩
    | _=>exact False.elim p1⟩
theorem dY (hg:Gl X "range") (hm:X.mg "range" = none) (ha:PA X [a,b] (tDs X.K cl xe fs)) (hs:b5 a=true) (hs2:b5 b=true):PI X tg (.Call (.Name "range" p) [a,b] [] pos) (tIt X.K cl xe λρ=>bind (fs ρ) λds=>if ds.length=2 then n8 ds else bad):=
 PI.imp (iE hg hm ha (by rw [b8 hs,b8 hs2];rfl) (b8 hs2)) λσ H R ⟨μ,S,ρ,eo,rp,p⟩=>⟨μ,S,ρ,eo,rp,p.bind.imp λds S1 μ1 H1 l1 r1 p1 vs rvs=>by
  by_cases hd:ds.length=2
  ·rw [if_pos hd] at p1
   match ds,hd with
   | [d1,d2],_=>
    cases rvs with
    | cons h t=>
     cases t with
     | cons h2 t=>
      cases t;cases h with
      | int i=>
       cases h2 with
       | int j=>
        obtain ⟨hh,p1⟩:=Post.guard p1;exact ⟨i,j,rfl,hh,p1 μ1 H1 (Lat.refl _ _) r1 _ cH⟩
       | _=>exact False.elim p1
      | _=>exact False.elim p1
  ·rw [if_neg hd] at p1;exact p1.elim⟩
end
def v3 (src:Src) (tg:D->Env->Option Env) (body:Env->M Fl):Nat->Nat->Env->M Fl
 | 0,_,_=>bad
 | m+1,i,ρ=>λS=>match src i S with
  | none=>.bad
  | some none=>.ok (.nx ρ) S
  | some (some d)=>match tg d ρ with
   | none=>.bad
   | some b=>bind (body b) (λc=>match c with
    | .nx a=>v3 src tg body m (i+1) a
    | .ct a=>v3 src tg body m (i+1) a
    | .bk a=>ret (.nx a)
    | .rt d=>ret (.rt d)) S
section
variable {X:Cx} {cl:Nat->Addr} {xe:Addr->Hp->Prop} {iter tgt:Expr} {pos:Pos} {fi:Env->M (Src×Nat)} {tg:D->Env->Option Env} {g:Env->M Fl} {body:List Stmt}
theorem nC (Y:PassesOwn (model X.prog X.w) X.A X.env X.xe) (hc:X.calm=true) (hi:PI X tgt iter (tIt X.K cl xe fi)) (hg:PG X tgt (mZ X.K cl tg)) (hb:PSs X body (sD X.K cl xe g)) (hn:j9 iter=true) :
  PS X (.For tgt iter body [] pos) (sD X.K cl xe λρ=>bind (fi ρ) λp=>v3 p.1 tg g p.2 0 ρ):=PS.imp (rV Y hc hi hg hb (s0 hn)) λD σ H ⟨μ,S,ρ,T,rp,p⟩=>by
 refine ⟨μ,S,ρ,T,rp,p.bind.imp λsm S1 f A l1 r1 p1 J yl=>?_⟩;obtain ⟨src,m⟩:=sm;refine ⟨λi m σ H=>∃ μ2 S2 h,LatR f A μ2 H/\EnvOk X.K μ2 H h σ/\Rep X.K cl μ2 S2 H/\Post X.K cl xe μ2 H (v3 src tg g m i h S2) (λw _ μ' H'=>sg X.K D w μ' H'),⟨m,f,S1,ρ,(Lat.refl _ _).r,T.later l1,r1,p1⟩,?_⟩;rintro i m F I ⟨μ2,S2,h,s,u,U,j⟩;cases m with
 | zero=>exact j.elim
 | succ m=>
  have y:P2 X.K cl J i μ2 I S2 (src i S2):=yl i μ2 I S2 s.u U;simp only [v3] at j;cases O:src i S2 with
  | none=>rw [O] at j;exact j.elim
  | some o=>
   rw [O] at j y;cases o with
   | none=>exact .inl ⟨y,j μ2 I (Lat.refl _ _) U F u⟩
   | some d=>
    obtain ⟨y1,Z⟩:=y;cases L:tg d h with
    | none=>simp only [L] at j;exact j.elim
    | some t=>
     simp only [L] at j;refine .inr ⟨y1,λv H'=>∃ l P b,LatR f A l H'/\EnvOk X.K l H' b v/\Rep X.K cl l P H'/\Post X.K cl xe l H' (v3 src tg g m (i+1) b P) (λw _ μ' H'=>sg X.K D w μ' H'),λv H' q=>⟨m,AF _,q⟩,λx H3 hy=>?_⟩;obtain ⟨M,V,E⟩:=Z x H3 hy;refine ⟨μ2,S2,h,d,t,u.later M,V,E,L,λσ3 K=>?_⟩;refine ⟨μ2,S2,t,K,V,(Post.later j M).bind.imp λw W c N l4 B C=>?_⟩;have R:LatR f A c N:=by
      have k:=M.trans l4;refine ⟨λn a e=>k.pre n a (s.pre n a e),λa o e n=>k.oth a o (s.oth a o e n) (λz=>(s.new a z).elim n (λq=>by rw [e] at q;cases q)),λa m=>(k.new a m).elim (λz=>s.new a z) (λz=>?_),λa m=>s.rsw a (by rw [<- k.rsv];exact m)⟩;by_cases Q:a∈f.pl
      ·exact .inl Q
      ·right
       cases e:A a with
       | none=>rfl
       | some o=>rw [s.oth a o e Q] at z;cases z
     cases w with
     | nx b=>exact λG r=>⟨c,W,b,R,r,B,C⟩
     | ct b=>exact λG r=>⟨c,W,b,R,r,B,C⟩
     | bk b=>exact C.ret c N (Lat.refl _ _) B
     | rt d=>exact C.ret c N (Lat.refl _ _) B
end
structure HLat (μ:Mp) (H:Hp) (p:Addr) (μ2:Mp) (H2:Hp):Prop where
 r:LatR μ H μ2 H2
 rs:μ2.rs=p :: μ.rs
theorem HLat.lat {H c H':Hp} {p:Addr} (h:HLat μ H p μ2 c) (l:Lat μ2 c μ' H'):Lat μ H μ'.free H':=by
 refine ⟨λn a e=>l.pre n a (h.r.pre n a e),λa o e n=>?_,λa m=>?_,by show μ'.rs.tail=μ.rs;rw [l.rsv,h.rs];rfl⟩
 ·have d:=λz=>(h.r.new a z).elim n λq=>by rw [e] at q;cases q
  exact l.oth a o (h.r.oth a o e n) d
 ·rcases l.new a m with q | q
  ·exact h.r.new a q
  ·by_cases b:a∈μ.pl
   ·exact .inl b
   ·right
    cases e:H a with
    | none=>rfl
    | some o=>rw [h.r.oth a o e b] at q;cases q
theorem HLat.step {H c b:Hp} {p:Addr} (h:HLat μ H p μ2 c) (l:Lat μ2 c μ3 b):HLat μ H p μ3 b:=by
 have k:=h.lat l;refine ⟨⟨k.pre,k.oth,k.new,λa m=>h.r.rsw a (by rw [<- l.rsv];exact m)⟩,by rw [l.rsv];exact h.rs⟩
section
variable {K:PySem.W.Frag} {cl:Nat->Addr} {xe:Addr->Hp->Prop} {α β:Type} {μ μ2:Mp} {H H2:Hp} {p:Addr} {S:Sto}
theorem Post.at {k:α->M β} {G:β->Sto->Mp->Hp->Prop} (h:Post K cl xe μ H (L3.bind m k S) G) (l:HLat μ H p μ2 H2):Post K cl xe μ2 H2 (m S) (λa S' _ _=>Post K cl xe μ H (k a S') G):=by
 unfold L3.bind at h;cases e:m S with
 | ok a S1=>rw [e] at h;exact λ_ _ _ _=>h
 | exn n S1=>rw [e] at h;exact λμ' H' a k r q=>h μ'.free H' a (l.lat k) (V3 r) q
 | bad=>rw [e] at h;exact h
end
def d8 (src:Src) (t:Env->M Bool) (f:Env->M D) (mk:D->Env):Nat->Nat->List D->M (List D)
 | 0,_,_=>bad
 | m+1,i,es=>λS=>match src i S with
  | none=>.bad
  | some none=>.ok es S
  | some (some d)=>bind (t (mk d)) (λb=>if b=true then bind (f (mk d)) (λy=>if es.length<sizeLine then d8 src t f mk m (i+1) (es++[y]) else bad) else d8 src t f mk m (i+1) es) S
def d7 (caps:List Nat) (ρ:Env):Env:=caps.map λi=>(ρ[i]?).join
theorem P9 {K:PySem.W.Frag} {μ:Mp} {H:Hp} {ρ:Env} {σ:L2.St} {caps:List Nat} {d:D} {x:V} (g:EnvOk K μ H ρ σ) (r:RD K μ H d x):EnvOk K μ H (some d :: d7 caps ρ) (some x :: k5 caps σ):=by
 refine ⟨by simp [d7,k5],λi e a=>?_⟩;cases i with
 | zero=>grind
 | succ j=>
  have a:(d7 caps ρ)[j]?=some (some e):=a;unfold d7 at a;rw [AG] at a;cases q:caps[j]? with
  | none=>rw [q] at a;cases a
  | some i=>
   rw [q] at a;have h':=AR a;have b:ρ[i]?=some (some e):=by
    cases h:ρ[i]? with
    | none=>grind
    | some o=>grind
   obtain ⟨v,f,c⟩:=g.2 i e b;refine ⟨v,?_,c⟩;show (k5 caps σ)[j]?=_;unfold k5;rw [AG,q];show some (σ[i]?).join=_;rw [f];rfl
def fX (caps:List Nat) (b:Env->M (Src×Nat)) (t:Env->M Bool) (f:Env->M D) (ρ:Env):M (List D):=bind (b ρ) λa=>d8 a.1 t f (λd=>some d :: d7 caps ρ) a.2 0 []
theorem U5 {K:PySem.W.Frag} {cl:Nat->Addr} {xe:Addr->Hp->Prop} {caps:List Nat} {fi:Env->M (Src×Nat)} {t:Env->M Bool} {f:Env->M D} {σ:L2.St} {H:Hp} {μ:Mp} {S:Sto} {ρ:Env} {Q:VK} (eo:EnvOk K μ H ρ σ) (rp:Rep K cl μ S H)
  (p:Post K cl xe μ H (fX caps fi t f ρ S) λds _ μ' H'=>∀ c ys,LstAt μ' H' c ys->RDs K μ' H' ds ys->Q (.ref c) H'):iw caps (tIt K cl xe fi) (tBo K cl xe t) (tD K cl xe f) σ H Q:=by
 refine ⟨μ,S,ρ,eo,rp,p.bind.imp λsm S1 u H1 l1 P p1 J yl c g=>?_⟩;obtain ⟨src,m0⟩:=sm;have V:=P.notrs g;refine ⟨λi m ys l=>∃ μ2 S2 es,HLat u H1 c μ2 l/\c∉μ2.pl/\l c=some (.lst ys)/\EnvOk K μ2 l ρ σ/\Rep K cl μ2 S2 l/\RDs K μ2 l es ys/\Post K cl xe u H1 (d8 src t f (λd=>some d :: d7 caps ρ) m i es S2) (λds _ μ' H'=>∀ c ys,LstAt μ' H' c ys->RDs K μ' H' ds ys->Q (.ref c) H'),⟨m0,u.hold c,S1,[],?_,P.notin g,b6,R7 P g (eo.later l1),Q8 P g,.nil,p1⟩,?_⟩
 ·refine ⟨⟨λ_ _ e=>e,λa o e _=>by rw [b1 (b3 e g)];exact e,λa m=>.inl m,λa m=>?_⟩,rfl⟩;rcases AA.mp (m) with rfl | m
  ·exact .inr g
  ·exact .inl m
 rintro i m ys l ⟨μ2,S2,es,R,z,I,s,r2,h,A⟩;refine ⟨I,?_⟩;cases m with
 | zero=>exact A.elim
 | succ m=>
  have y:P2 K cl J i μ2 l S2 (src i S2):=yl i μ2 l S2 R.r.u r2;simp only [d8] at A;cases e1:src i S2 with
  | none=>rw [e1] at A;exact A.elim
  | some o=>
   rw [e1] at A y;cases o with
   | none=>
    refine .inl ⟨y,A μ2.free l (R.lat (Lat.refl _ _)) (V3 r2) c ys ⟨I,z,?_⟩ (bx h)⟩;show c∉μ2.rs.tail;rw [R.rs];exact V
   | some d=>
    obtain ⟨y1,y2⟩:=y;refine .inr ⟨y1,λx H3 hy=>?_⟩;obtain ⟨L,r3,C⟩:=y2 x H3 hy;have h3:=R.step L;refine ⟨μ2,S2,_,P9 (s.later L) C,r3,(Post.at A h3).imp λb S5 F H5 Y r5 U=>?_⟩;have X:=h3.step Y;have k:=L.trans Y;have Z:=k.oth _ _ I z;have W:=k.out I z;cases b with
    | false=>exact ⟨m,AF _,F,S5,es,X,W,Z,s.later k,r5,h.later k,U⟩
    | true=>
     refine iH ?_;rw [if_pos rfl] at U;refine ⟨F,S5,_,(P9 (s.later L) C).later Y,r5,(Post.at U X).imp λyv S6 μ6 H6 O r6 T v rv=>?_⟩;have B:=X.step O;have G:=k.trans O;have a6:=O.oth _ _ Z W;have n6:=O.out Z W;by_cases hz:es.length<sizeLine
     ·rw [if_pos hz] at T;have N:=B.rs;refine ⟨a6,by rw [<- h.length];exact hz,m,AF _,μ6,S6,es++[yv],?_,n6,b6,?_,N1 N a6 r6,N3 N ((h.later G).append (.cons rv .nil)),T⟩
      ·refine ⟨⟨B.r.pre,λa o e n=>?_,B.r.new,B.r.rsw⟩,N⟩;rw [b1 (b3 e g)];exact B.r.oth a o e n
      ·have E:=s.later G;exact ⟨E.1,λj e he=>let ⟨w,q,r⟩:=E.2 j e he;⟨w,q,B8 N r⟩⟩
     ·rw [if_neg hz] at T;exact T.elim
section
variable {X:Cx} {cl:Nat->Addr} {xe:Addr->Hp->Prop} {elt iter:Expr} {x:Str} {px pos:Pos} {ifs:List Expr} {scope:Scope} {N':List Str} {caps:List Nat} {fi:Env->M (Src×Nat)} {t:Env->M Bool} {f:Env->M D}
theorem hF {X:Cx}:PTL X [] (tBo X.K cl xe λ_=>ret true):=λpins s σ H Q I ⟨μ,S,ρ,b,a,p⟩=>mn pins s σ H Q I (p μ H (Lat.refl _ _) a)
theorem bc (T:CompText X.N X.env N' 1 caps scope) (k:X.calm=true) (i:N'.Nodup) (b:N'[0]?=some x) (d:scope.names.lookup x=some .local) (h:PI X (.Name x px) iter (tIt X.K cl xe fi))
  (l:∀ pins C c s H,PTL (b4 X pins N' scope C c s H) ifs (tBo X.K cl xe t)) (e:∀ pins C c s H,PE (b4 X pins N' scope C c s H) elt (tD X.K cl xe f)) (g:j9 iter=true) :
  PE X (.ListComp elt [⟨.Name x px,iter,ifs,0⟩] scope pos) (λσ H Q=>∃ μ S ρ,EnvOk X.K μ H ρ σ/\Rep X.K cl μ S H/\Post X.K cl xe μ H (fX caps fi t f ρ S) λds _ μ' H'=>∀ a ys,LstAt μ' H' a ys->RDs X.K μ' H' ds ys->Q (.ref a) H'):=
 PE.imp (nF T k i b d h l e (s0 g)) λσ H Q ⟨μ,S,ρ,m,j,p⟩=>U5 m j p
end
def iu (K:PySem.W.Frag) (cl:Nat->Addr) (xe:Addr->Hp->Prop) (fs:Env->M (List D)):TE:=λσ H Q=>∃ μ S ρ,EnvOk K μ H ρ σ/\Rep K cl μ S H/\Post K cl xe μ H (fs ρ S) λds _ μ' H'=>∀ a ys,LstAt μ' H' a ys->RDs K μ' H' ds ys->Q (.ref a) H'
theorem O4 (m:M α) (k:α->M β) (k2:β->M γ):bind (bind m k) k2=bind m λa=>bind (k a) k2:=by
 funext S;unfold bind;grind
theorem Z8 {k:α->M β} {S:Sto} (h:m S=m' S):bind m k S=bind m' k S:=by
 unfold bind;rw [h]
def c9 (src:Src) (t:Env->M Bool) (c:Env->M (Src×Nat)) (e:Env->M Bool) (f:Env->M D) (a:Env):Nat->Nat->List D->M (List D)
 | 0,_,_=>bad
 | m+1,i,es=>λS=>match src i S with
  | none=>.bad
  | some none=>.ok es S
  | some (some d)=>bind (t (some d :: none :: a)) (λb=>if b=true then bind (c (some d :: none :: a)) (λg=>bind (d8 g.1 e f (λh=>some d :: some h :: a) g.2 0 es) (λes'=>c9 src t c e f a m (i+1) es')) else c9 src t c e f a m (i+1) es) S
theorem fB {K:PySem.W.Frag} {μ:Mp} {H:Hp} {ρ:Env} {σ:L2.St} {caps:List Nat} {d:D} {x:V} (b:EnvOk K μ H ρ σ) (r:RD K μ H d x):EnvOk K μ H (some d :: none :: d7 caps ρ) (some x :: none :: k5 caps σ):=by
 have h:=P9 (caps:=caps) b r;refine ⟨by have:=h.1;simp at this ⊢;exact this,λi e a=>?_⟩
 match i with
 | 0=>exact h.2 0 e a
 | 1=>simp at a
 | i+2=>exact h.2 (i+1) e a
theorem eK {K:PySem.W.Frag} {μ:Mp} {H:Hp} {ρ:Env} {σ:L2.St} {caps:List Nat} {d b:D} {x y:V} (c:EnvOk K μ H ρ σ) (r:RD K μ H d x) (f:RD K μ H b y):EnvOk K μ H (some d :: some b :: d7 caps ρ) (some x :: some y :: k5 caps σ):=by
 have h:=P9 (caps:=caps) c r;refine ⟨by have:=h.1;simp at this ⊢;exact this,λi e a=>?_⟩
 match i with
 | 0=>exact h.2 0 e a
 | 1=>grind
 | i+2=>exact h.2 (i+1) e a
def N9 (caps:List Nat) (c:Env->M (Src×Nat)) (t:Env->M Bool) (a:Env->M (Src×Nat)) (d:Env->M Bool) (f:Env->M D) (ρ:Env):M (List D):=bind (c ρ) λb=>c9 b.1 t a d f (d7 caps ρ) b.2 0 []
theorem cE {K:PySem.W.Frag} {cl:Nat->Addr} {xe:Addr->Hp->Prop} {caps:List Nat} {fi u:Env->M (Src×Nat)} {t A:Env->M Bool} {f:Env->M D} {σ:L2.St} {H:Hp} {μ:Mp} {S:Sto} {ρ:Env} {Q:VK} (eo:EnvOk K μ H ρ σ) (rp:Rep K cl μ S H)
  (p:Post K cl xe μ H (N9 caps fi t u A f ρ S) λds _ μ' H'=>∀ c ys,LstAt μ' H' c ys->RDs K μ' H' ds ys->Q (.ref c) H'):dj caps (tIt K cl xe fi) (tBo K cl xe t) (tIt K cl xe u) (tBo K cl xe A) (tD K cl xe f) σ H Q:=by
 refine ⟨μ,S,ρ,eo,rp,p.bind.imp λsm S1 U H1 l1 r1 p1 J yl c s=>?_⟩;obtain ⟨src,m0⟩:=sm;have nrs:=r1.notrs s;refine ⟨λi m ys X=>∃ μ2 S2 es,HLat U H1 c μ2 X/\c∉μ2.pl/\X c=some (.lst ys)/\EnvOk K μ2 X ρ σ/\Rep K cl μ2 S2 X/\RDs K μ2 X es ys/\Post K cl xe U H1 (c9 src t u A f (d7 caps ρ) m i es S2) (λds _ μ' H'=>∀ c ys,LstAt μ' H' c ys->RDs K μ' H' ds ys->Q (.ref c) H'),⟨m0,U.hold c,S1,[],?_,r1.notin s,b6,R7 r1 s (eo.later l1),Q8 r1 s,.nil,p1⟩,?_⟩
 ·refine ⟨⟨λ_ _ e=>e,λa o e _=>by rw [b1 (b3 e s)];exact e,λa m=>.inl m,λa m=>?_⟩,rfl⟩;rcases AA.mp (m) with rfl | m
  ·exact .inr s
  ·exact .inl m
 rintro i m ys X ⟨μ2,S2,es,hl,npl,e2,W,r2,V,p2⟩;refine ⟨e2,?_⟩;cases m with
 | zero=>exact p2.elim
 | succ m=>
  have y:P2 K cl J i μ2 X S2 (src i S2):=yl i μ2 X S2 hl.r.u r2;simp only [c9] at p2;cases e1:src i S2 with
  | none=>rw [e1] at p2;exact p2.elim
  | some o=>
   rw [e1] at p2 y;cases o with
   | none=>
    refine .inl ⟨y,p2 μ2.free X (hl.lat (Lat.refl _ _)) (V3 r2) c ys ⟨e2,npl,?_⟩ (bx V)⟩;show c∉μ2.rs.tail;rw [hl.rs];exact nrs
   | some d=>
    obtain ⟨y1,y2⟩:=y;refine .inr ⟨y1,λx H3 hy=>?_⟩;obtain ⟨l3,r3,rd3⟩:=y2 x H3 hy;have h3:=hl.step l3;refine ⟨μ2,S2,_,fB (W.later l3) rd3,r3,(Post.at p2 h3).imp λb S5 μ5 H5 l5 r5 p5=>?_⟩;have h5:=h3.step l5;have R:=l3.trans l5;have a5:=R.oth _ _ e2 npl;have n5:=R.out e2 npl;cases b with
    | false=>exact ⟨m,AF _,μ5,S5,es,h5,n5,a5,W.later R,r5,V.later R,p5⟩
    | true=>
     refine iH ?_;rw [if_pos rfl] at p5;refine ⟨μ5,S5,_,(fB (W.later l3) rd3).later l5,r5,(Post.at p5 h5).imp λsm S6 O H6 l6 r6 p6 J1 yl1=>?_⟩;obtain ⟨k,I⟩:=sm;have h6:=h5.step l6;have l36:=R.trans l6;have a6:=l6.oth _ _ a5 n5;have n6:=l6.out a5 n5;refine ⟨λj I zs T=>∃ h E g,HLat U H1 c h T/\LatU O H6 h T/\c∉h.pl/\T c=some (.lst zs)/\EnvOk K h T ρ σ/\Rep K cl h E T/\RDs K h T g zs/\RD K h T d x /\
      Post K cl xe U H1 (bind (d8 k A f (λG=>some d :: some G :: d7 caps ρ) I j g) (λes'=>c9 src t u A f (d7 caps ρ) m (i+1) es') E) (λds _ μ' H'=>∀ c ys,LstAt μ' H' c ys->RDs K μ' H' ds ys->Q (.ref c) H'),
      ⟨I,O,S6,es,h6,(Lat.refl _ _).r.u,n6,a6,W.later l36,r6,V.later l36,(rd3.later l5).later l6,p6⟩,?_⟩
     rintro j I zs T ⟨h,E,g,h7,u7,n7,a7,L,r7,F,rd7,p7⟩;refine ⟨a7,?_⟩;cases I with
     | zero=>exact p7.elim
     | succ I=>
      have z:P2 K cl J1 j h T E (k j E):=yl1 j h T E u7 r7;cases f1:k j E with
      | none=>
       have:bind (d8 k A f (λG=>some d :: some G :: d7 caps ρ) (I+1) j g) (λes'=>c9 src t u A f (d7 caps ρ) m (i+1) es') E=.bad:=by
        unfold bind;simp only [d8,f1]
       rw [this] at p7;exact p7.elim
      | some o=>
       rw [f1] at z;cases o with
       | none=>
        have:bind (d8 k A f (λG=>some d :: some G :: d7 caps ρ) (I+1) j g) (λes'=>c9 src t u A f (d7 caps ρ) m (i+1) es') E=c9 src t u A f (d7 caps ρ) m (i+1) g E:=by
         conv=>lhs;unfold bind
         simp only [d8,f1]
        rw [this] at p7;exact .inl ⟨z,m,AF _,h,E,g,h7,n7,a7,L,r7,F,p7⟩
       | some G=>
        have un:bind (d8 k A f (λG=>some d :: some G :: d7 caps ρ) (I+1) j g) (λes'=>c9 src t u A f (d7 caps ρ) m (i+1) es') E =
          bind (A (some d :: some G :: d7 caps ρ)) (λb=>bind (if b=true then bind (f (some d :: some G :: d7 caps ρ)) (λy=>if g.length<sizeLine then d8 k A f (λG=>some d :: some G :: d7 caps ρ) I (j+1) (g++[y]) else bad) else d8 k A f (λG=>some d :: some G :: d7 caps ρ) I (j+1) g) (λes'=>c9 src t u A f (d7 caps ρ) m (i+1) es')) E:=by
         rw [<- O4];exact Z8 (by simp only [d8,f1])
        rw [un] at p7;obtain ⟨z1,z2⟩:=z;refine .inr ⟨z1,λyv H8 hy2=>?_⟩;obtain ⟨l8,r8,rd8⟩:=z2 yv H8 hy2;have h8:=h7.step l8;have rdx:=rd7.later l8;refine ⟨h,E,_,eK (L.later l8) rdx rd8,r8,(Post.at p7 h8).imp λb2 S9 μ9 H9 l9 r9 p9=>?_⟩;have h9:=h8.step l9;have B:=l8.trans l9;have a9:=B.oth _ _ a7 n7;have n9:=B.out a7 n7;have N:∀ {μx:Mp} {Hx:Hp},Lat h T μx Hx->LatU O H6 μx Hx:=λ{μx Hx} l=>by
         refine ⟨λn a e=>l.pre n a (u7.pre n a e),λa o e n1 n2=>?_,λa mm=>?_,λa mm=>?_⟩
         ·obtain ⟨q1,q2,q3⟩:=u7.out a o e n1 n2;exact l.oth a o q1 q2
         ·rcases l.new a mm with q | q
          ·exact u7.new a q
          ·by_cases n1:a∈O.pl
           ·exact .inl n1
           ·by_cases n2:a∈O.rs
            ·exfalso;obtain ⟨_,w,hw⟩:=r7.res a (by rw [h7.rs,<- h6.rs];exact n2);rw [hw] at q;cases q
            ·right
             cases e:H6 a with
             | none=>rfl
             | some o=>rw [(u7.out a o e n1 n2).1] at q;cases q
         ·exact u7.rsw a (by rw [<- l.rsv];exact mm)
        cases b2 with
        | false=>exact ⟨I,AF _,μ9,S9,g,h9,N B,n9,a9,L.later B,r9,F.later B,rd7.later B,p9⟩
        | true=>
         refine iH ?_;rw [if_pos rfl] at p9;rw [O4] at p9;refine ⟨μ9,S9,_,(eK (L.later l8) rdx rd8).later l9,r9,(Post.at p9 h9).imp λyy S10 μ10 H10 l10 r10 Z v rv=>?_⟩;have P:=h9.step l10;have C:=B.trans l10;have a10:=l10.oth _ _ a9 n9;have n10:=l10.out a9 n9;by_cases hz:g.length<sizeLine
         ·rw [if_pos hz] at Z;have er:=P.rs;have Y:=N C;refine ⟨a10,by rw [<- F.length];exact hz,I,AF _,μ10,S10,g++[yy],?_,?_,n10,b6,?_,N1 er a10 r10,N3 er ((F.later C).append (.cons rv .nil)),B8 er (rd7.later C),Z⟩
          ·refine ⟨⟨P.r.pre,λa o e n=>?_,P.r.new,P.r.rsw⟩,er⟩;rw [b1 (b3 e s)];exact P.r.oth a o e n
          ·refine ⟨Y.pre,λa o e n1 n2=>?_,Y.new,Y.rsw⟩;have:a≠c:=λq=>n2 (by rw [h6.rs,q];exact Av ..);rw [b1 this];exact Y.oth a o e n1 n2
          ·have eo6:=L.later C;exact ⟨eo6.1,λj e he=>let ⟨w,q,r⟩:=eo6.2 j e he;⟨w,q,B8 er r⟩⟩
         ·rw [if_neg hz] at Z;exact Z.elim
section
variable {X:Cx} {cl:Nat->Addr} {xe:Addr->Hp->Prop} {elt iter iter2:Expr} {x y:Str} {px py pos:Pos} {ifs ifs2:List Expr} {scope:Scope} {N':List Str} {caps:List Nat} {fi fi1:Env->M (Src×Nat)} {t t1:Env->M Bool} {f:Env->M D}
theorem fy (T:CompText X.N X.env N' 2 caps scope) (o:X.calm=true) (q:N'.Nodup) (g:N'[0]?=some x) (c:N'[1]?=some y) (h:scope.names.lookup x=some .local) (e:scope.names.lookup y=some .local) (k:PI X (.Name x px) iter (tIt X.K cl xe fi))
  (r:∀ pins C a s H,PTL (b4 X pins N' scope C a s H) ifs (tBo X.K cl xe t)) (d:∀ pins C a s H,PI (b4 X pins N' scope C a s H) (.Name y py) iter2 (tIt X.K cl xe fi1)) (i:∀ pins C a s H,PTL (b4 X pins N' scope C a s H) ifs2 (tBo X.K cl xe t1))
  (m:∀ pins C a s H,PE (b4 X pins N' scope C a s H) elt (tD X.K cl xe f)) (j:j9 iter=true) (b:j9 iter2=true) :
  PE X (.ListComp elt [⟨.Name x px,iter,ifs,0⟩,⟨.Name y py,iter2,ifs2,0⟩] scope pos) (iu X.K cl xe (N9 caps fi t fi1 t1 f)):=
 PE.imp (cV T o q g c h e k r d i m (s0 j) (λ_=>s0 b)) λσ H Q ⟨μ,S,ρ,n,l,p⟩=>cE n l p
end
def bp (d:D):M Bool:=match d with
 | .non=>ret false
 | .bl b=>ret b
 | .int i=>ret (i != 0)
 | .str x=>if x.length<=sizeLine then ret ((x.length:Int) != 0) else bad
 | .ref n=>λS=>match S[n]? with
  | some (.lst ds)=>.ok (!ds.isEmpty) S
  | some (.dct a)=>.ok (!a.isEmpty) S
  | _=>.bad
 | d=>bind (w8 d) λds=>ret (!ds.isEmpty)
section
variable {K:PySem.W.Frag} {cl:Nat->Addr} {xe:Addr->Hp->Prop} {μ:Mp} {H:Hp} {S:Sto}
theorem C9 (r:RDs K μ H ds vs):ds.isEmpty=vs.isEmpty:=by cases r <;> rfl
theorem mD (rd:RD K μ H d v) (rp:Rep K cl μ S H) (p:Post K cl xe μ H (bp d S) G):∃ k,qJ K v H k/\G k S μ H:=by
 cases rd with
 | non=>exact ⟨_,rfl,p μ H (Lat.refl _ _) rp⟩
 | bl b=>exact ⟨_,rfl,p μ H (Lat.refl _ _) rp⟩
 | int i=>exact ⟨_,rfl,p μ H (Lat.refl _ _) rp⟩
 | str x=>
  obtain ⟨hl,p⟩:=Post.guard p;exact ⟨_,⟨hl,rfl⟩,p μ H (Lat.refl _ _) rp⟩
 | tup h r=>exact ⟨_,.inr (.inl ⟨_,h.sq,by rw [<- C9 r]⟩),p μ H (Lat.refl _ _) rp⟩
 | lst h r=>exact ⟨_,.inl ⟨_,h.sq,by rw [<- C9 r]⟩,p μ H (Lat.refl _ _) rp⟩
 | scr h r=>exact ⟨_,.inl ⟨_,h.sq,by rw [<- C9 r]⟩,p μ H (Lat.refl _ _) rp⟩
 | ref h=>
  rename_i n a;simp only [bp] at p;cases q1:S[n]? with
  | none=>rw [q1] at p;exact p.elim
  | some o=>
   rw [q1] at p;cases o with
   | lst ds=>
    obtain ⟨xs,h1,h2⟩:=rp.ats n _ a q1 h;exact ⟨_,.inl ⟨xs,.inl (.inl h1),by rw [<- C9 h2]⟩,p μ H (Lat.refl _ _) rp⟩
   | dct kvs=>
    obtain ⟨ks,h1,h2⟩:=rp.ats n _ a q1 h;refine ⟨_,.inr (.inr ⟨ks,h1,rfl⟩),?_⟩;have e:kvs.isEmpty=ks.isEmpty:=by cases h2 <;> rfl
    rw [<- e];exact p μ H (Lat.refl _ _) rp
   | exc _ _=>exact p.elim
end
section
variable {X:Cx} {cl:Nat->Addr} {xe:Addr->Hp->Prop} {a b e:Expr} {es rest:List Expr} {pos:Pos} {f g:Env->M D}
theorem kb (h:PE X a (tD X.K cl xe f)) (i:z4 a=true):PT X a (tBo X.K cl xe λρ=>bind (f ρ) bp):=PT.imp (lD h (test_of i)) λσ H Q ⟨μ,S,ρ,b,k,p⟩=>
 ⟨μ,S,ρ,b,k,p.bind.imp λd S1 j l m e g v c=>mD c e g⟩
def tPt (K:PySem.W.Frag) (cl:Nat->Addr) (xe:Addr->Hp->Prop) (a:Env->M (Option Int)):TO:=λσ H Q=>∃ μ S ρ,EnvOk K μ H ρ σ/\Rep K cl μ S H/\Post K cl xe μ H (a ρ S) λo _ _ H'=>Q o H'
def gx (d:D):M (Option Int):=match d with
 | .int i=>ret (some i)
 | _=>bad
theorem PO.imp {e:Option Expr} {t t':TO} (h:PO X e t) (k:∀ σ H Q,t' σ H Q->t σ H Q):PO X e t':=λpins s σ H Q I q=>h pins s σ H Q I (k σ H Q q)
theorem mE:PO X none (tPt X.K cl xe λ_=>ret none):=PO.imp mC λσ H Q ⟨μ,S,ρ,b,a,p⟩=>p μ H (Lat.refl _ _) a
theorem nL (h:PE X e (tD X.K cl xe f)):PO X (some e) (tPt X.K cl xe λρ=>bind (f ρ) gx):=PO.imp (mz h) λσ H Q ⟨μ,S,ρ,eo,rp,p⟩=>
 ⟨μ,S,ρ,eo,rp,p.bind.imp λd S1 μ1 H1 l1 r1 p1 v rv=>by
  cases rv with
  | int i=>exact ⟨i,rfl,p1 μ1 H1 (Lat.refl _ _) r1⟩
  | _=>exact False.elim p1⟩
theorem D6 {s:Shared} {t e:Addr} {items:Array Value} {k i:Value} {lo c:Option Int} {Q:Value->Shared->Prop} (a:IsTup s.heap t items) (hs:s.heap.IsSliceOf e k i .none) (pl:IsPart k lo) (l:IsPart i c)
  (j:HT.sIx items.size 0 lo=0/\HT.sIx items.size items.size c=items.size) (h:Q (.ref t) s):wpAny (model prog w) A (getItem (.ref t) (.ref e)) Q E s:=by
 obtain ⟨m,g,d,hds⟩:=id hs;have f:s.TypeIs (.ref e) "slice":=⟨m,g,d⟩;unfold getItem;try with_reducible refine AJ ?_
 first | refine Ag (Ah ?_) | skip
 refine Ag (wpAny_sequenceKey a.typeIs (by decide) ?_);refine Ag (Bv a.typeIs BH
  (AY BH a.typeIs entry_tuple_getitem ?_ (args_tuple_getitem _ _)))
 show wpAny _ _ (Builtin.Tuple.tupleItemsOf (.ref t) >>= _) _ _ s;refine Ag (Ed a ?_);refine Ag (Cm f ?_);rw [if_pos (by decide)];refine Ag (HT.sliceApplied_gen hs pl l ?_);have b:(((HT.sIx items.size 0 lo:Nat):Int)==0&&(1:Int)==1&&(HT.sIx items.size items.size c-HT.sIx items.size 0 lo)==items.size)=true:=by
  rw [j.1,j.2];simp
 show wpAny _ _ (if (((HT.sIx items.size 0 lo:Nat):Int)==0&&(1:Int)==1&&(HT.sIx items.size items.size c-HT.sIx items.size 0 lo)==items.size)=true then _ else _) _ _ s;rw [if_pos b];refine Ag ?_;refine Ag (Cm a.typeIs (Ah ?_));rw [if_pos (by decide)];refine Ag (BS ?_);exact Ah ⟨_,rfl,Ah h⟩
theorem oo:SlR X (λx lo e H Q=>∃ a xs,x=.ref a/\SqT X.K H a xs/\(HT.sIx xs.length 0 lo=0/\HT.sIx xs.length xs.length e=xs.length)/\Q (.ref a) H):=by
 intro pins s σ H x v m k lo e l Q I f hs pl j h;obtain ⟨a,xs,rfl,g,i,q⟩:=h;cases f;obtain ⟨c,r,d,hz⟩:=I.tuple g;have b:c.toArray.size=xs.length:=by rw [An];exact r.length.symm
 exact ⟨"tuple",_,PyProof.Rows.slot_tuple_getitem.lookup,d.typeIs,D6 d hs pl j (by rw [b];exact i) ⟨.ref a,H,I,rfl,q⟩⟩
theorem wc:SlR X (λx lo hi H Q=>∃ μ S d,RD X.K μ H d x/\Rep X.K cl μ S H/\Post X.K cl xe μ H (slD d lo hi S) λr _ μ' H'=>∀ v,RD X.K μ' H' r v->Q v H'):=by
 intro pins s σ H x v vl vu lo hi sl Q I rx hs pl pu ⟨μ,S,d,rd,rp,p⟩;have sq:∀ {a:Addr} {xs:List V} {ds:List D},SqL X.K H a xs->RDs X.K μ H ds xs->x=.ref a->(∀ μ' H',Lat μ H μ' H'->Rep X.K cl μ' S H'->∀ w,RD X.K μ' H' (.lst (E9 ds lo hi)) w->Q w H') ->
   ∃ T id,typeLookup (.type T) "__getitem__" = pure (some (.builtin id))/\s.TypeIs v T/\wpAny (model X.prog X.w) X.A (getItem v (.ref sl)) (EP X pins σ Q) X.xe s:=λ{a xs ds} hq r2 hv q=>by
  subst hv;refine mY pins s σ H _ v vl vu lo hi sl Q I rx hs pl pu ⟨a,xs,rfl,hq,λz hz=>?_⟩;obtain ⟨l,rp2,rd2⟩:=m8 rp (lK r2 lo hi) hz;exact q μ _ l rp2 _ rd2
 cases rd with
 | tup h r=>
  rename_i a xs ds;by_cases hw:HT.sIx xs.length 0 lo=0/\HT.sIx xs.length xs.length hi=xs.length
  ·refine oo pins s σ H _ v vl vu lo hi sl Q I rx hs pl pu ⟨a,xs,rfl,h.sq,hw,?_⟩;have e:E9 ds lo hi=ds:=by
    unfold E9;rw [r.length,hw.1,hw.2,List.drop_zero,Nat.sub_zero];exact Cp (by rw [r.length];exact Ap _)
   exact p μ H (Lat.refl _ _) rp _ (by rw [e];exact .tup h r)
  ·refine si pins s σ H _ v vl vu lo hi sl Q I rx hs pl pu ⟨a,xs,rfl,h.sq,hw,λz hz=>?_⟩;obtain ⟨l,rp2,rd2⟩:=C7 rp (lK r lo hi) hz;exact p μ _ l rp2 _ rd2
 | lst h r=>exact sq h.sq r rfl p
 | scr h r=>exact sq h.sq r rfl p
 | ref h=>
  rename_i n a0;have p2:=p;obtain ⟨a,xs,ds,e1,h1,h2,e2⟩:=j4 (.ref h) rp p2.bind;exact sq (.inl (.inl h1)) h2 e1 (p2.ok_bind e2)
 | _=>exact False.elim p
theorem uT {lo k:Option Expr} {c:Pos} {j m:Env->M (Option Int)} (h:PE X e (tD X.K cl xe f)) (t:PO X lo (tPt X.K cl xe j)) (B:PO X k (tPt X.K cl xe m)) :
  PE X (.Subscript e (.Slice lo k none c) pos) (tD X.K cl xe λρ=>bind (f ρ) λd=>bind (j ρ) λl=>bind (m ρ) λu=>slD d l u):=PE.imp (ky wc h t B) λσ H Q ⟨μ,S,ρ,a,s,p⟩=>
 ⟨μ,S,ρ,a,s,p.bind.imp λd S1 g C n o q v x=>⟨g,S1,ρ,a.later n,o,q.bind.imp λl S2 μ2 E i A c=>⟨μ2,S2,ρ,(a.later n).later i,A,c.bind.imp λu z b D y r w=>⟨b,z,d,(x.later i).later y,r,w⟩⟩⟩⟩
end
def E2 (x k v:D):M D:=match x with
 | .ref n=>λS=>match S[n]? with
  | some (.lst ds)=>match k with
   | .int i=>match ixN ds.length i with
    | some j=>.ok .non (S.set n (.lst (ds.set j v)))
    | none=>.bad
   | _=>.bad
  | some (.dct a)=>match Z5 k with
   | some b=>if a.length<sizeLine then .ok .non (S.set n (.dct (sN a b v))) else .bad
   | none=>.bad
  | _=>.bad
 | _=>bad
theorem eZ {K:PySem.W.Frag} {μ:Mp} {H:Hp} {k:Key}:∀ {a:List (Key×D)} {c:List (Key×V)},KvsAt K μ H a c->(a.any λb=>decide (b.1=k))=c.any λb=>decide (b.1=k)
 | _,_,.nil=>rfl
 | _,_,.cons ⟨d,e⟩ t=>by simp only [EH,d,eZ t]
theorem fT {K:PySem.W.Frag} {μ:Mp} {H:Hp} {k:Key} {d:D} {v:V} (r:RD K μ H d v):∀ {c:List (Key×D)} {e:List (Key×V)},KvsAt K μ H c e->KvsAt K μ H (c.map λa=>if a.1=k then (a.1,d) else a) (e.map λa=>if a.1=k then (a.1,v) else a)
 | _,_,.nil=>.nil
 | _,_,.cons (b:=b) ⟨h1,h2⟩ t=>by
  refine .cons ?_ (fT r t);by_cases f:b.1=k
  ·grind
  ·grind
theorem Paired.app:∀ {xs a:List α} {ys b:List β},Paired P xs ys->Paired P a b->Paired P (xs++a) (ys++b)
 | _,_,_,_,.nil,s=>s
 | _,_,_,_,.cons r t,s=>.cons r (Paired.app t s)
theorem lr {K:PySem.W.Frag} {μ:Mp} {H:Hp} {k:Key} {d:D} {v:V} {a:List (Key×D)} {b:List (Key×V)} (h:KvsAt K μ H a b) (r:RD K μ H d v):KvsAt K μ H (sN a k d) (z8 b k v):=by
 unfold sN z8;rw [eZ h];split
 ·exact fT r h
 ·exact Paired.app h (.cons ⟨rfl,r⟩ .nil)
theorem KvsAt.later {K:PySem.W.Frag} {μ μ':Mp} {H H':Hp} {a:List (Key×D)} {b:List (Key×V)} (h:KvsAt K μ H a b) (l:Lat μ H μ' H'):KvsAt K μ' H' a b:=Paired.mono (λ_ _ ⟨z,w⟩=>⟨z,w.later l⟩) h
section
variable {X:Cx} {cl:Nat->Addr} {xe:Addr->Hp->Prop} {a b e:Expr} {es rest:List Expr} {pos:Pos} {f g k:Env->M D}
theorem vG (hu:X.A.units+1<cLine):se X (λo i v H Q=>∃ μ S x y z,RD X.K μ H x o/\RD X.K μ H y i/\RD X.K μ H z v/\Rep X.K cl μ S H/\Post X.K cl xe μ H (E2 x y z S) λ_ _ _ H'=>Q H'):=by
 intro pins s σ H o i v ov iv u Q I ro ri rv ⟨μ,S,x,y,z,rx,ry,rz,rp,p⟩;cases rx with
 | ref h=>
  rename_i n a;have m:=AS h;simp only [E2] at p;cases q1:S[n]? with
  | none=>rw [q1] at p;exact p.elim
  | some ob=>
   rw [q1] at p;cases ob with
   | lst ds=>
    obtain ⟨xs,h1,h2⟩:=rp.ats n _ a q1 h;cases ry with
    | int j=>
     simp only at p;cases q2:ixN ds.length j with
     | none=>rw [q2] at p;exact p.elim
     | some t=>
      rw [q2] at p;refine jB pins s σ H _ _ v ov iv u Q I ro ri rv ⟨a,xs,j,t,rfl,rfl,h1,by rw [<- h2.length];exact q2,?_⟩;exact p μ _ (Lat.wrote m) (rp.wrote h ⟨_,b6,(h2.set rz t).later (Lat.wrote m)⟩)
    | _=>exact False.elim p
   | dct kvs=>
    obtain ⟨ks,h1,h2⟩:=rp.ats n _ a q1 h;cases q2:Z5 y with
    | none=>rw [q2] at p;exact p.elim
    | some key=>
     rw [q2] at p;by_cases hl:kvs.length<sizeLine
     ·simp only [if_pos hl] at p;have hy:=cL ry q2;subst hy;cases ro;have hl2:ks.length<sizeLine:=by rw [<- Paired.length h2];exact hl
      refine gu hu I (DPut.k h1 hl2) ri rv λs' I'=>⟨_,I',?_⟩;exact p μ _ (Lat.wrote m) (rp.wrote h ⟨_,b6,(lr h2 rz).later (Lat.wrote m)⟩)
     ·simp only [if_neg hl] at p;exact p.elim
   | exc _ _=>exact p.elim
 | _=>exact False.elim p
theorem gh (h:A2 b=true):∀ v,assign (.Subscript a b p2) env v=(do
   let c <- holding [v] (eval a env)
   let d <- holding [v,c] (eval b env)
   standAt p2
   holding [v,c,d] (setItem c d v)
   release [v,c,d] []):=by
 intro v;cases b <;> first | rfl | (exact absurd h (by simp [A2]))
theorem jf (o:X.A.units+1<cLine) (L:PE X e (tD X.K cl xe f)) (J:PE X a (tD X.K cl xe g)) (I:PE X b (tD X.K cl xe k)) (s:v7 e=true) (u:A2 b=true) :
  PS X (.Assign [.Subscript a b n] e pos) (sD X.K cl xe λρ=>bind (f ρ) λv=>bind (g ρ) λx=>bind (k ρ) λy=>bind (E2 x y v) λ_=>ret (.nx ρ)):=
 PS.imp (jG L (qX J I (vG o) (gh u)) (by unfold swapsWithSole;exact J8 s) rfl rfl) λD σ H ⟨μ,S,ρ,c,z,p⟩=>
  ⟨μ,S,ρ,c,z,p.bind.imp λv S1 j P m r t vv F=>⟨j,S1,ρ,c.later m,r,t.bind.imp λx S2 μ2 T d N n R K=>⟨μ2,S2,ρ,(c.later m).later d,N,n.bind.imp λy M i Q l w E O q=>
   ⟨i,M,x,y,v,K.later l,q,(F.later d).later l,w,E.bind.imp λ_ U h B G C A=>A.ret h B (Lat.refl _ _) C σ ((((c.later m).later d).later l).later G)⟩⟩⟩⟩
def M8 (x:D) (ds:List D):M D:=match x,ds with
 | .ref n,[d]=>λS=>match S[n]? with
  | some (.lst es)=>if es.length<sizeLine then .ok .non (S.set n (.lst (es++[d]))) else .bad
  | _=>.bad
 | _,_=>bad
def y0 (es:List Expr):Bool:=decide (es.length<30)
theorem dC (b:es.all b5=true) (a:y0 es=true):((backTo cpos (starEach es X.env)).all (λx=>!x.1)&&(backToKw cpos (keywordEach [] X.env)).all (λx=>x.1.isSome)&&decide (es.length+([]:List Keyword).length+(if ([]:List Keyword).isEmpty then 0 else 1)<30))=true:=by
 rw [R3 b];simpa [keywordEach,backToKw] using BC a
theorem Y2 (ho:PE X a (tD X.K cl xe f)) (ha:PA X (e :: es) (tDs X.K cl xe fs)) (hb:j7 a=true) (hs:(e :: es).all b5=true) (hf:y0 (e :: es)=true) (hl:(apos.endLine==cpos.line)=true) :
  PE X (.Call (.Attribute a "append" apos) (e :: es) [] cpos) (tD X.K cl xe λρ=>bind (f ρ) λx=>bind (lstOf x) λ_=>bind (fs ρ) λds=>M8 x ds):=by
 have hs2:=hs;rw [BL,Al] at hs2;refine PE.imp (pX Bw PySem.F.slot_list_append PySem.F.type_list_append C6 ho ha (Q6 hb) (dC hs hf) hl (b8 hs2.1) (n0 hs2.2)) λσ H Q ⟨μ,S,ρ,eo,rp,p⟩=>?_;refine ⟨μ,S,ρ,eo,rp,p.bind.imp λx S1 μ1 H1 l1 r1 p1 xv rx=>?_⟩;obtain ⟨a0,xs0,ds0,e0,h0,r0,q0⟩:=j4 rx r1 p1.bind;have p1:=p1.ok_bind q0;subst e0;refine ⟨.inl ⟨rfl,_,.inl (.inl h0)⟩,μ1,S1,ρ,eo.later l1,r1,p1.bind.imp λds S2 μ2 H2 l2 r2 p2 vs rvs=>?_⟩;have rx2:=rx.later l2;clear p1;cases rx2 with
 | ref h=>
  rename_i n
  match ds,rvs with
  | [],_=>exact False.elim p2
  | _ :: _ :: _,_=>exact False.elim p2
  | [d],rvs=>
   obtain ⟨v,rfl,rv⟩:=oJ rvs;simp only [M8] at p2;cases q1:S2[n]? with
   | none=>rw [q1] at p2;exact p2.elim
   | some o=>
    rw [q1] at p2;cases o with
    | lst es=>
     obtain ⟨xs,h1,h2⟩:=r2.ats n _ _ q1 h;by_cases hl:es.length<sizeLine
     ·simp only [if_pos hl] at p2;have m:=AS h;refine ⟨_,xs,v,rfl,rfl,h1,by rw [<- h2.length];exact hl,?_⟩;exact p2 μ2 _ (Lat.wrote m) (r2.wrote h ⟨_,b6,(h2.append (.cons rv .nil)).later (Lat.wrote m)⟩) _ .non
     ·simp only [if_neg hl] at p2;exact p2.elim
    | dct _=>exact p2.elim
    | exc _ _=>exact p2.elim
 | _=>exact False.elim p2
end
section
variable {K:PySem.W.Frag} {cl:Nat->Addr} {xe:Addr->Hp->Prop} {μ:Mp} {H:Hp} {S:Sto} {β:Type}
theorem bind_assoc (m:M α) (k:α->M β) (j:β->M γ):bind (bind m k) j=bind m λa=>bind (k a) j:=by
 funext S;unfold bind;grind
theorem i8 (a:α) (k:α->M β):bind (ret a) k=k a:=rfl
end
def tys:List String:=["NoneType","bool","int","str","tuple","list","dict"]
def subT (t T:String):Bool:=t==T||(t == "bool" && T == "int")
theorem nR (K:PySem.W.Frag):∀ t∈tys,∀ T∈tys,PySem.W.kitOne K (.type t) (.type T)=some (subT t T):=by
 intro t a T b;simp only [tys,AA,CB,EN] at a b;rcases a with rfl | rfl | rfl | rfl | rfl | rfl | rfl <;> rcases b with rfl | rfl | rfl | rfl | rfl | rfl | rfl <;> kernel_rfl
def tyD (S:Sto) (d:D):Option String:=match d with
 | .non=>some "NoneType"
 | .bl _=>some "bool"
 | .int _=>some "int"
 | .str _=>some "str"
 | .tup _=>some "tuple"
 | .lst _=>some "list"
 | .scr _=>some "list"
 | .ref n=>match S[n]? with
  | some (.lst _)=>some "list"
  | some (.dct _)=>some "dict"
  | _=>none
def cX (T:String) (sx:Nat->Bool) (d:D):M D:=λS=>match tyD S d with
 | some t=>.ok (.bl (subT t T)) S
 | none=>match d with
  | .ref n=>match S[n]? with
   | some (.exc c _)=>.ok (.bl (sx c)) S
   | _=>.bad
  | _=>.bad
def gG (sx:Nat->Bool) (d:D):M D:=λS=>match d with
 | .ref n=>match S[n]? with
  | some (.exc c _)=>.ok (.bl (sx c)) S
  | _=>.bad
 | _=>.bad
section
variable {X:Cx} {cl:Nat->Addr} {xe:Addr->Hp->Prop} {a:Expr} {pos p q:Pos} {f:Env->M D}
theorem ng {sx:Nat->Bool} (j:vY T=some c0) (g:∀ c,XC X.K (cl c)->PySem.W.kitOne X.K (.ref (cl c)) c0=some (sx c)) {pins:List (Addr×Obj)} {s:Shared} {σ:L2.St} {H:Hp} {us:List Value} {Q:VK} {μ:Mp} {S:Sto} {n:Nat} {b:Addr} {c:Nat} {fs:List (Str×D)} (I:L2.Inv X pins σ H s) (r:Vals [.ref b,T] us)
  (l:Rep X.K cl μ S H) (e:S[n]?=some (.exc c fs)) (h:μ.pl[n]?=some b) (q:Q (.bl (sx c)) H):wpAny (model X.prog X.w) X.A (call (.builtin "isinstance") us) (EP X pins σ Q) X.xe s:=by
 obtain ⟨a,gs,p,i,k⟩:=l.ats n _ b e h;rcases k with ⟨z,f⟩ | ⟨d,o,t,f,m⟩
 ·exact Z2 pins s σ H _ us Q I r ⟨i,b,cl c,none,T,c0,sx c,rfl,a,f,λ_ z=>(nomatch z),j,g c a,q⟩
 ·exact Z2 pins s σ H _ us Q I r ⟨i,b,cl c,some d,T,c0,sx c,rfl,a,f,λd' z=>by cases z;exact ⟨gs,m⟩,j,g c a,q⟩
theorem gp (hT:T∈tys) {pins:List (Addr×Obj)} {s:Shared} {σ:L2.St} {H:Hp} {us:List Value} {Q:VK} {μ:Mp} {S:Sto} {d:D} {v:V} {t:String} (I:L2.Inv X pins σ H s) (r:Vals [v,.ty T] us) (rd:RD X.K μ H d v) (rp:Rep X.K cl μ S H) (e:tyD S d=some t)
  (q:Q (.bl (subT t T)) H):wpAny (model X.prog X.w) X.A (call (.builtin "isinstance") us) (EP X pins σ Q) X.xe s:=by
 obtain ⟨u,u2,rfl,ru,ru2⟩:=pO r;cases (ru2);have ht:t∈tys:=by
  cases d <;> simp only [tyD] at e <;> first
   | (cases e;decide)
   | (split at e <;> first | (cases e;decide) | cases e)
 have hk:=nR X.K t ht T hT;have fin:∀ tk,EP X pins σ Q (.bool (subT t T)) { s with toks:=tk }:=λtk=>⟨.bl _,H,I.tok _,rfl,q⟩;have tupT:∀ {b:Addr} {xs:List V},SqT X.K H b xs->u=.ref b->t = "tuple"->wpAny (model X.prog X.w) X.A (call (.builtin "isinstance") [u,.type T]) (EP X pins σ Q) X.xe s:=λ{b xs} h eu et=>by
  subst eu et;obtain ⟨its,_,⟨o,h1,h2,_⟩,_⟩:=I.tuple h;exact BO PySem.W.kitx_tuple I.kIn ⟨o,h1,h2⟩ hk (λz=>nomatch z) fin
 have lstT:∀ {b:Addr} {xs:List V},SqL X.K H b xs->u=.ref b->t = "list"->wpAny (model X.prog X.w) X.A (call (.builtin "isinstance") [u,.type T]) (EP X pins σ Q) X.xe s:=λ{b xs} h eu et=>by
  subst eu et;obtain ⟨its,_,⟨o,n,h1,h2,_⟩,_⟩:=I.list h;exact BO PySem.W.kitx_list I.kIn ⟨o,h1,h2⟩ hk (λz=>nomatch z) fin
 cases rd with
 | non=>cases (ru);cases e;exact BO PySem.W.kitx_none I.kIn True.intro hk (λz=>nomatch z) fin
 | bl b=>cases (ru);cases e;exact BO PySem.W.kitx_bool I.kIn True.intro hk (λz=>nomatch z) fin
 | int i=>obtain ⟨tk,q⟩:=(ru);cases q;cases e;exact BO PySem.W.kitx_int I.kIn True.intro hk (λz=>nomatch z) fin
 | str x=>obtain ⟨tk,q⟩:=(ru);cases q;cases e;exact BO PySem.W.kitx_str I.kIn True.intro hk (λz=>nomatch z) fin
 | tup h r=>cases e;exact tupT h.sq ru rfl
 | lst h r=>cases e;exact lstT h.sq ru rfl
 | scr h r=>cases e;exact lstT h.sq ru rfl
 | ref h=>
  rename_i n b;simp only [tyD] at e;cases q1:S[n]? with
  | none=>rw [q1] at e;cases e
  | some o=>
   rw [q1] at e;cases o with
   | lst ds=>
    cases e;obtain ⟨xs,h1,h2⟩:=rp.ats n _ b q1 h;exact lstT (.inl (.inl h1)) ru rfl
   | dct kvs=>
    cases e;obtain ⟨ks,h1,h2⟩:=rp.ats n _ b q1 h;cases (ru);obtain ⟨_,_,vs,_,pp⟩:=(I.hok b _ h1);obtain ⟨o,es,ep,g1,g2,_⟩:=pp;exact BO PySem.W.kitx_dict I.kIn ⟨o,g1,g2.1⟩ hk (λz=>nomatch z) fin
   | exc _ _=>cases e
theorem el {T:String} {sx:Nat->Bool} (hT:T∈tys\/T = "ValueError") (hk:∀ c,XC X.K (cl c)->PySem.W.kitOne X.K (.ref (cl c)) (.type T)=some (sx c)) (h:PE X a (tD X.K cl xe f)) (hg:Gl X "isinstance") (hm:X.mg "isinstance" = none) (hg2:Gl X x) (hm2:X.mg x=none) (hv:bootBuiltins x=some (.type T)) (hn:x ≠ "__name__") (hd:(x==("__debug__" : Str))=false) (hs:b5 a=true) :
  PE X (.Call (.Name "isinstance" p) [a,.Name x q] [] pos) (tD X.K cl xe λρ=>bind (f ρ) λd=>if T∈tys then cX T sx d else gG sx d):=by
 have key:j3 X (.builtin "isinstance") (λvs H Q=>∃ μ S d v,vs=[v,.ty T]/\RD X.K μ H d v/\Rep X.K cl μ S H/\Post X.K cl xe μ H ((if T∈tys then cX T sx d else gG sx d) S) λr _ μ' H'=>∀ v,RD X.K μ' H' r v->Q v H'):=by
  intro pins s σ H xs us Q I r ⟨μ,S,d,v,ev,rd,rp,P⟩;subst ev;have ex:∀ {n:Nat} {b:Addr} {c:Nat} {fs:List (Str×D)},v=.ref b->S[n]?=some (.exc c fs)->μ.pl[n]?=some b->Q (.bl (sx c)) H->wpAny (model X.prog X.w) X.A (call (.builtin "isinstance") us) (EP X pins σ Q) X.xe s:=λ{n b c fs} ev e h q=>by
   subst ev;exact ng rfl hk I r rp e h q
  by_cases ht:T∈tys
  ·rw [if_pos ht] at P;unfold cX at P;cases e:tyD S d with
   | some t=>rw [e] at P;exact gp ht I r rd rp e (P μ H (Lat.refl _ _) rp _ (.bl _))
   | none=>
    rw [e] at P;cases rd with
    | ref h=>
     rename_i n b;simp only at P;cases q1:S[n]? with
     | none=>rw [q1] at P;exact P.elim
     | some o=>
      rw [q1] at P;cases o with
      | exc c fs=>exact ex rfl q1 h (P μ H (Lat.refl _ _) rp _ (.bl _))
      | lst _=>exact P.elim
      | dct _=>exact P.elim
    | _=>exact False.elim P
  ·rw [if_neg ht] at P;unfold gG at P;cases rd with
   | ref h=>
    rename_i n b;simp only at P;cases q1:S[n]? with
    | none=>rw [q1] at P;exact P.elim
    | some o=>
     rw [q1] at P;cases o with
     | exc c fs=>exact ex rfl q1 h (P μ H (Lat.refl _ _) rp _ (.bl _))
     | lst _=>exact P.elim
     | dct _=>exact P.elim
   | _=>exact False.elim P
 have hb:PE X (.Name x q) (tC (.ty T)):=nD hg2 hm2 hv rfl hn hd;refine PE.imp (cD key hg hm (by rfl) (ax h (ax hb jF (b8 rfl)) (b8 hs)) (by decide) (by decide) (b8 hs) (n0 rfl)) λσ H Q ⟨μ,S,ρ,eo,rp,P⟩=>?_;exact ⟨μ,S,ρ,eo,rp,P.bind.imp λd S1 μ1 H1 l1 r1 p1 v rv=>⟨μ1,S1,d,v,rfl,rv,r1,p1⟩⟩
end
section
variable {X:Cx}
variable {cl:Nat->Addr} {xe:Addr->Hp->Prop}
def q5:List D->Option (List Int)
 | []=>some []
 | .int i :: ds=>(q5 ds).map (i :: ·)
 | _=>none
theorem aM {K:PySem.W.Frag} {μ:Mp} {H:Hp}:∀ {ds:List D} {vs:List V} {ns:List Int},q5 ds=some ns->RDs K μ H ds vs->vs=ns.map V.int
 | [],_,ns,e,r=>by cases r;cases e;rfl
 | d :: ds,_,ns,e,r=>by
  cases r with
  | cons h t=>
   cases d <;> try (simp [q5] at e;done)
   case int i=>
    simp only [q5] at e;cases a:q5 ds with
    | none=>rw [a] at e;cases e
    | some b=>
     rw [a] at e;cases e;cases h;rw [aM a t];rfl
def cp (d:D):M D:=match d with
 | .int i=>ret (.int (-i))
 | _=>bad
theorem kg:UnR X (unaryOp .USub) (λx H Q=>∃ μ S d,RD X.K μ H d x/\Rep X.K cl μ S H/\Post X.K cl xe μ H (cp d S) λr _ μ' H'=>∀ v,RD X.K μ' H' r v->Q v H'):=by
 intro pins s σ H x v Q I rx ⟨μ,S,d,rd,rp,p⟩;cases rd with
 | int i=>exact pc pins s σ H _ v Q I rx ⟨i,rfl,p μ H (Lat.refl _ _) rp _ (.int _)⟩
 | _=>exact False.elim p
theorem rL (h:PE X a (tD X.K cl xe f)):PE X (.UnaryOp .USub a pos) (tD X.K cl xe λρ=>bind (f ρ) cp):=
 PE.imp (wL kg h) λσ H Q ⟨μ,S,ρ,c,e,p⟩=>⟨μ,S,ρ,c,e,p.bind.imp λd S1 b k l i g v j=>⟨b,S1,d,j,i,g⟩⟩
end
section
variable {X:Cx} {e:Expr} {te:TE} {p p2 pos pos2:Pos} {cl:Nat->Addr} {xe:Addr->Hp->Prop}
theorem J3:∀ {ns:List Int} {us:List Value},Vals (ns.map V.int) us->IntsAre us ns
 | [],_,r=>by cases r;exact .nil
 | n :: ns,_,r=>by
  cases r with
  | cons h t=>
   obtain ⟨k,rfl⟩:=(h);exact .cons n k (J3 t)
end
end L3
namespace HT
open PySem PySem.Spec PyProof.Rows
open MeetsSeq MeetsSeq2 MeetsSeq3 SeqRoads2 SeqAt
theorem R0 {c:Type} {f:Nat->c->Sem (ForInStep c)} {d:c} {Q:c->Shared->Prop} {j:Nat} (hd:wpAny M A (f j d) (λr s'=>∃ b,r=.done b/\Q b s') E s) :
  ∀ (n i:Nat),i<=j->j<i+n->(∀ m,i<=m->m<j->∀ h:ForInStep c->Shared->Prop,h (.yield d) s->wpAny M A (f m d) h E s)->wpAny M A (forIn (List.range' i n 1) d f) Q E s
 | 0,i,l,k,_=>by omega
 | n+1,i,l,k,g=>by
  rw [List.range'_succ,Ez];by_cases e:i=j
  ·subst e;refine Ag (AI hd (λr s' ⟨b,e,q⟩=>?_) λ_ _ e=>e);subst e;exact Ah q
  ·refine Ag (g i (Ap _) (by omega) _ ?_);exact R0 hd n (i+1) (by omega) (by omega) λm a b=>g m (by omega) b
theorem tuple_indexAt (l:Addr) (items:Array Value) (n:Nat) (v:Option Addr) (q:Array (Option Value)) (x:Value) (e:Value->Bool) (j:Nat) (k:j<items.size)
  (c:e items[j]=true) (f:∀ m (i:m<items.size),m<j->e items[m]=false) :
  Meets (Builtin.«tuple.index» ⟨[.ref l,x],[]⟩)
   (λA R s=>s.heap.get? l=some { cls:=.type "tuple",dict:=v,data:=.seq items n,slots:=q }/\(∀ y,y∈items->EqAt A.in1 s y x (e y))/\R (.ok (.ret (.int j s.toks))) { s with toks:=s.toks+1 }):=by
 intro prog w A R s h;obtain ⟨z,g,d,D,B⟩:=s;obtain ⟨r,o,h⟩:=h;have u:IsTup z l items:=⟨_,r,rfl,n,rfl⟩;have t:selfAndSome "tuple.index" "index" 1 3 ⟨[.ref l,x],[]⟩=pure (.ref l,[x]):=by rfl
 unfold Builtin.«tuple.index»;rw [t];refine Ag (Ah ?_);refine Ag (Ed u ?_);refine Ag (Ah ?_);refine Ag (Ah ?_);refine Ag ?_;rw [Std.Legacy.Range.forIn_eq_forIn_range'];refine R0 (j:=j) ?_ _ _ (Bj _) ?_ ?_
 ·have b:=Bh k;simp only [b];refine Ag (o _ (Array.getElem_mem k) prog w _ _ ?_);rw [c]
  wp_walk
  exact ⟨_,rfl,Ah h⟩
 ·simp_all
 ·intro m _ i C p;have a:m<items.size:=by omega
  have b:=Bh a;simp only [b];refine Ag (o _ (Array.getElem_mem a) prog w _ _ ?_);rw [f m a i];exact Ah p
end HT
namespace L3
open PySem PySem.Spec PyProof.Rows L2
section
variable {X:Cx} {cl:Nat->Addr} {xe:Addr->Hp->Prop} {o e:Expr} {es:List Expr} {f:Env->M D} {fs:Env->M (List D)} {apos cpos:Pos}
theorem hX (hu:X.A.units+80<cLine):MtR X "tuple.index" (λx vs H Q=>∃ y ps d j,vs=[y]/\DAt X.K H x (.tuple ps)/\DAt X.K H y d/\(d.canLay0=true/\PyData.canLayAll0 ps=true/\min (PyData.depthAll ps) d.depth<=60)/\ps.findIdx? (λz=>PyData.eqv z d)=some j/\Q (.int (j:Nat)) H):=by
 intro pins s σ H x vs v us Q I rx rv h;obtain ⟨y,ps,d,j,rfl,hx,hy,⟨c1,c2,c3⟩,hj,q⟩:=h;obtain ⟨u,rfl,ru⟩:=rv.one;obtain ⟨as,r1⟩:=hx.reads I rx;obtain ⟨bs,r2⟩:=hy.reads I ru;cases r1 with
 | tuple h1 h2 h3 h4=>
  rename_i a ob its n;obtain ⟨cls,dd,data,sl⟩:=ob;subst h2 h3;have em:=SeqAt.readsAll_map ps _ _ c2 h4;obtain ⟨hl,hit,hno⟩:=AZ.mp hj;have hlen:its.toList.length=ps.length:=by rw [<- em,Ak]
  have hl':j<its.size:=by rw [<- Ax,hlen];exact hl
  have at_:∀ m (hm:m<its.size) (hm2:m<ps.length),SeqAt.readOf s.heap its[m]=ps[m]:=λm hm hm2=>by
   have:ps[m]?=(its.toList.map (SeqAt.readOf s.heap))[m]?:=by rw [em]
   rw [Aj hm2,AG,Be,Bh hm] at this;exact (AR this).symm
  refine Ca F.slot_tuple_index ⟨_,h1,rfl⟩ F.entry_tuple_index (F.args_tuple_index_2 _ _) (HT.tuple_indexAt _ its n dd sl u (λz=>PyData.eqv (SeqAt.readOf s.heap z) d) j hl' (by rw [at_ j hl' hl];exact hit) λm hm hmj=>?_) ⟨h1,λz hz=>?_,?_⟩
  ·grind
  ·exact SeqAt.items_eqAt h4 r2 c2 c1 (by omega) z hz
  ·exact ⟨.int (j:Nat),H,I.tok _,⟨_,rfl⟩,q⟩
end
end L3
namespace HT
open PySem PySem.Spec PyProof.Rows
section
variable {prog:Program} {w:World} {A:Around} {E:Value->Shared->Prop} {s:Shared}
theorem sI {ob:Obj} {k:Nat} {T:String} {Q:List Value->Shared->Prop} (f:T = "list"\/T = "tuple") (g:s.heap.get? a=some ob) (d:ob.cls=.type T) (h:ob.data=.seq us.toArray k) (hz:us.length<=sizeLine)
  (q:Q us { s with heap:=(s.heap.push (seqObj "list" #[] 0)).update s.heap.objs.size (Obj.mapSeq (·++us.toArray)) }):wpAny (model prog w) A (collect (.ref a)) Q E s:=by
 have b:(s.heap.push (seqObj "list" #[] 0)).get? a=some ob:=Ai _ g;have c:(s.heap.push (seqObj "list" #[] 0)).get? s.heap.objs.size=some (seqObj "list" #[] 0):=Am _ rfl;refine Ag (DN (Bt PyProof.Rows.entry_proto_collect' (?_:wpAny _ _ (do again (.builtin "list.__iadd__" ⟨[<- newList [],.ref a],[]⟩)) _ _ s)));refine Ag (Ct (Ah ⟨Code.quiet_builtin _ (by decide +kernel),Bt PyProof.Rows.entry_list_iadd' (?_:wpAny _ _ (Builtin.List.listExtendWith (.ref s.heap.objs.size) (.ref a) (.ref s.heap.objs.size)) _ _ { s with heap:=s.heap.push (seqObj "list" #[] 0) })⟩));refine Ag (Cm ⟨ob,b,d⟩ ?_);rw [if_pos (by rcases f with rfl | rfl <;> simp)];refine Ag (BU b h (Ag (BU c rfl ?_)));rw [if_neg (by simp)];refine Ag (DO c rfl (Ah ?_) (Bj _) (by rw [Array.size_append];show 0+us.toArray.size<=_;rw [An];omega));refine Ag (EK (PyProof.Rows.get?_update_seq c _) ?_);show wpAny _ _ (pure ((#[]:Array Value)++us.toArray).toList) Q E _;have e:((#[]:Array Value)++us.toArray).toList=us:=by simp
 rw [e];exact Ah q
theorem sorted_seq {ob:Obj} {k:Nat} {T:String} {ns:List Int} {Q:Value->Shared->Prop} (f:T = "list"\/T = "tuple") (g:s.heap.get? a=some ob) (c:ob.cls=.type T) (l:ob.data=.seq us.toArray k) (h:IntsAre us ns) (d:us.length<64)
  (q:∀ (out:Array Value) (ms:List Int),IntsAre out.toList ms->ms.Perm ns->ms.Pairwise (·<=·)->Q (.ref (s.heap.objs.size+1)) { s with heap:=sortedAll s.heap us out }):wpAny (model prog w) A (call (.builtin "sorted") [.ref a]) Q E s:=by
 refine CG Ee DQ DR (DS _) ?_;refine Ag (Ah (Ag (sI f g c l (by rw [AD];omega) (Ag (Ct ?_)))));have e:((s.heap.push (seqObj "list" #[] 0)).update s.heap.objs.size (Obj.mapSeq (·++us.toArray))).objs.size=s.heap.objs.size+1:=by
  rw [Di,El]
 have b:(((s.heap.push (seqObj "list" #[] 0)).update s.heap.objs.size (Obj.mapSeq (·++us.toArray))).push (seqObj "list" us.toArray 0)).get? (s.heap.objs.size+1)=some (seqObj "list" us.toArray 0):=e▸Am _ rfl;rw [e];refine Ag (AJ (AY DD ⟨_,b,rfl⟩ Ds (DE b h d λout ms m i j=>⟨_,rfl,Ah ⟨_,rfl,q out ms m i j⟩⟩) (DF _)))
end
end HT
namespace L3
open PySem PySem.Spec PyProof.Rows L2
def dX (x:Int):List Int->List Int
 | []=>[x]
 | y :: ys=>if x<=y then x :: y :: ys else y :: dX x ys
def srt:List Int->List Int
 | []=>[]
 | x :: xs=>dX x (srt xs)
theorem V0 (x:Int):∀ l:List Int,(dX x l).Perm (x :: l)
 | []=>.refl _
 | y :: ys=>by
  unfold dX;split
  ·exact .refl _
  ·exact ((V0 x ys).cons y).trans (.swap x y ys)
theorem d4:∀ l:List Int,(srt l).Perm l
 | []=>.refl _
 | x :: xs=>(V0 x (srt xs)).trans ((d4 xs).cons x)
theorem iX (x:Int):∀ l:List Int,l.Pairwise (·<=·)->(dX x l).Pairwise (·<=·)
 | [],_=>by simp [dX]
 | y :: ys,h=>by
  unfold dX;rw [BI] at h;split
  ·rename_i c;rw [BI];refine ⟨λz hz=>?_,BI.mpr h⟩;rcases AA.mp hz with e | e
   ·omega
   ·have:=h.1 z e;omega
  ·rename_i c;rw [BI];refine ⟨λz hz=>?_,iX x ys h.2⟩;rcases AA.mp ((V0 x ys).mem_iff.mp hz) with e | e
   ·omega
   ·exact h.1 z e
theorem ao:∀ l:List Int,(srt l).Pairwise (·<=·)
 | []=>.nil
 | x :: xs=>iX x _ (ao xs)
theorem dh:∀ {a b:List Int},a.Perm b->a.Pairwise (·<=·)->b.Pairwise (·<=·)->a=b
 | [],b,p,_,_=>by
  have:=p.length_eq;cases b with
  | nil=>rfl
  | cons _ _=>simp at this
 | x :: a,[],p,_,_=>by have:=p.length_eq;simp at this
 | x :: a,y :: b,p,c,d=>by
  rw [BI] at c d;have f:=p.mem_iff.mp (Av ..);have g:=p.mem_iff.mpr (Av ..);have e:x=y:=by
   rcases AA.mp f with e | e
   ·exact e
   ·grind
  subst e;rw [dh (List.Perm.cons_inv p) c.2 d.2]
theorem M1:∀ {us:List Value} {ns:List Int},IntsAre us ns->Vals (ns.map V.int) us
 | _,_,.nil=>.nil
 | _,_,.cons n t h=>.cons ⟨t,rfl⟩ (M1 h)
section
variable {X:Cx} {cl:Nat->Addr} {xe:Addr->Hp->Prop}
theorem ae:j3 X (.builtin "sorted") (λxs H Q=>∃ (a:Addr) (ns:List Int),xs=[.ref a]/\(SqL X.K H a (ns.map V.int)\/SqT X.K H a (ns.map V.int))/\ns.length<64/\∀ p,H p=none->Q (.ref p) (upd H p (.lst ((srt ns).map V.int)))):=by
 intro pins s σ H xs us Q I r h;obtain ⟨a,ns,rfl,hs,D,q⟩:=h;obtain ⟨u,rfl,z⟩:=G1 r;cases z;have i:∀ (ob:Obj) (k:Nat) (T:String) (f:List Value),(T = "list"\/T = "tuple")->s.heap.get? a=some ob->ob.cls=.type T->ob.data=.seq f.toArray k->Vals (ns.map V.int) f->wpAny (model X.prog X.w) X.A (call (.builtin "sorted") [.ref a]) (EP X pins σ Q) X.xe s:=λob k T f l t m A g=>by
  have j:f.length=ns.length:=by rw [<- g.length,Ak]
  refine HT.sorted_seq l t m A (J3 g) (by omega) λout ms C x y=>?_;have e:=dh (x.trans (d4 ns).symm) y (ao ns);subst e;obtain ⟨v,w⟩:=sortedAll_at s.heap f out;have B:=I.hok.fresh (Bl _);refine ⟨.ref (s.heap.objs.size+1),_,I.laid (λb ob q=>sortedAll_old q) (Bl _) ?_,rfl,q _ B⟩;refine ⟨by rw [Ak,(d4 ns).length_eq,AD];omega,out.toList,v,M1 C,?_⟩;rw [BY];exact w
 rcases hs with hs | hs
 ·obtain ⟨f,g,⟨o,n,e,c,E,d⟩,_⟩:=I.list hs;exact i o n "list" f (.inl rfl) e c d g
 ·obtain ⟨f,g,⟨o,e,c,n,d⟩,_⟩:=I.tuple hs;exact i o n "tuple" f (.inr rfl) e c d g
def J6 (d:D):M D:=bind (w8 d) λds=>match q5 ds with
 | some ns=>if ns.length<64 then ret (.lst ((srt ns).map D.int)) else bad
 | none=>bad
theorem kK:j3 X (.builtin "sorted") (rPs X.K cl xe (one J6)):=C2 λpins s σ H μ S d v us Q I r j f p=>by
 obtain ⟨a,xs,ds,rfl,i,h,g⟩:=J2 j f p.bind;have p:=p.ok_bind g;cases e:q5 ds with
 | none=>rw [e] at p;exact p.elim
 | some ns=>
  rw [e] at p;obtain ⟨hz,p⟩:=Post.guard p;have:=aM e h;subst this;refine ae pins s σ H _ us Q I r ⟨a,ns,rfl,i,hz,λz hz=>?_⟩;obtain ⟨l,b,c⟩:=m8 f (RDs.ints (srt ns)) hz;exact p μ _ l b _ c
end
section
variable {X:Cx} {cl:Nat->Addr} {xe:Addr->Hp->Prop} {o e:Expr} {es:List Expr} {f:Env->M D} {fs:Env->M (List D)} {apos cpos:Pos} {name:Str} {T T2 id id2:String} {r r2:V->List V->Hp->VK->Prop} {α:Type}
theorem qI (G:PlainAttrs T) (l:Slot T name id) (y:typeOf (.builtin id)=pure (.type "method_descriptor")) (F:MtR X id r) (A:PlainAttrs T2) (d:Slot T2 name id2) (i:typeOf (.builtin id2)=pure (.type "method_descriptor")) (B:MtR X id2 k) (K:PE X o to) (D:PA X (e :: es) t)
  (L:j7 o=true) (hs:(e :: es).all b5=true) (J:y0 (e :: es)=true) (b:(apos.endLine==cpos.line)=true) :
  PE X (.Call (.Attribute o name apos) (e :: es) [] cpos) (λσ H Q=>to σ H λx f=>(tyV X.K T x f/\t σ f λxs c=>r x xs c Q)\/(tyV X.K T2 x f/\t σ f λxs c=>k x xs c Q)):=by
 intro pins s σ H Q I h;have a:=hs;rw [BL,Al] at a;refine wpAny_Call_method_late (Q6 L) (dC hs J) b rfl (thn (K pins s σ H _ I h) λv E ⟨x,f,n,m,g⟩=>?_);rcases g with ⟨C,g⟩ | ⟨C,g⟩
 ·obtain ⟨u,p⟩:=aZ n m C;refine ⟨T,id,G,l,y,u,p,?_⟩;have j:=D cpos pins E σ f _ n g;rw [b8 a.1] at j ⊢;refine Cn (by show (false||(backTo cpos (starEach es X.env)).any (·.1))=false;rw [n0 a.2] <;> rfl) (Dn ?_);exact thn j λus z ⟨vs,c,w,k,q⟩=>F pins z σ c x vs v us Q w m k q
 ·obtain ⟨u,p⟩:=aZ n m C;refine ⟨T2,id2,A,d,i,u,p,?_⟩;have j:=D cpos pins E σ f _ n g;rw [b8 a.1] at j ⊢;refine Cn (by show (false||(backTo cpos (starEach es X.env)).any (·.1))=false;rw [n0 a.2] <;> rfl) (Dn ?_);exact thn j λus z ⟨vs,c,w,k,q⟩=>B pins z σ c x vs v us Q w m k q
def Looks (K:PySem.W.Frag) (cl:Nat->Addr) (xe:Addr->Hp->Prop) (T:String) (g:D->M α):Prop:=∀ (μ:Mp) (S:Sto) (H:Hp) (x:D) (v:V) (G:α->Sto->Mp->Hp->Prop),RD K μ H x v->Rep K cl μ S H->Post K cl xe μ H (g x S) G->tyV K T v H/\∃ a,g x S=.ok a S
def mQ (K:PySem.W.Frag) (cl:Nat->Addr) (xe:Addr->Hp->Prop) (r:V->List V->Hp->VK->Prop) (op:D->List D->M D):Prop:=∀ (μ:Mp) (S:Sto) (H:Hp) (x:D) (v:V) (ds:List D) (vs:List V) (Q:VK),RD K μ H x v->RDs K μ H ds vs->Rep K cl μ S H->Post K cl xe μ H (op x ds S) (λd _ μ' H'=>∀ w,RD K μ' H' d w->Q w H')->r v vs H Q
theorem aD (B:PlainAttrs T) (c:Slot T name id) (i:typeOf (.builtin id)=pure (.type "method_descriptor")) (s:MtR X id r) (t:Looks X.K cl xe T g) (hd:mQ X.K cl xe r op) (F:PE X o (tD X.K cl xe f)) (v:PA X (e :: es) (tDs X.K cl xe fs))
  (G:j7 o=true) (hs:(e :: es).all b5=true) (C:y0 (e :: es)=true) (E:(apos.endLine==cpos.line)=true) :
  PE X (.Call (.Attribute o name apos) (e :: es) [] cpos) (tD X.K cl xe λρ=>bind (f ρ) λx=>bind (g x) λ_=>bind (fs ρ) λds=>op x ds):=by
 have b:=hs;rw [BL,Al] at b;refine PE.imp (pX B c i s F v (Q6 G) (dC hs C) E (b8 b.1) (n0 b.2)) λσ H Q ⟨μ,S,ρ,l,w,p⟩=>?_;refine ⟨μ,S,ρ,l,w,p.bind.imp λx S1 d J u m h n k=>?_⟩;obtain ⟨I,a,D⟩:=t d S1 J x n _ k m h.bind;have h:=h.ok_bind D;exact ⟨I,d,S1,ρ,l.later u,m,h.bind.imp λds S2 μ2 A q y z vs j=>hd μ2 S2 A x n ds vs Q (k.later q) j y z⟩
theorem fj (hu:X.A.units+80<cLine):MtR X "list.index" (λx vs H Q=>∃ y ps d j,vs=[y]/\DAt X.K H x (.list ps)/\DAt X.K H y d/\(d.canLay0=true/\PyData.canLayAll0 ps=true/\min (PyData.depthAll ps) d.depth<=60)/\(j:Nat)<100000/\ps.findIdx? (λz=>PyData.eqv z d)=some j/\Q (.int (j:Nat)) H):=by
 intro pins s σ H x vs v us Q I rx rv h;obtain ⟨y,ps,d,j,rfl,hx,hy,⟨c1,c2,c3⟩,hjs,hj,q⟩:=h;obtain ⟨u,rfl,ru⟩:=rv.one;obtain ⟨as,r1⟩:=hx.reads I rx;obtain ⟨bs,r2⟩:=hy.reads I ru;cases r1 with
 | list h1 h2 h3 h4=>
  rename_i a ob its n as';obtain ⟨cls,dd,data,sl⟩:=ob
  (try simp only at h2 h3)
  subst h2 h3;have em:=SeqAt.readsAll_map ps _ _ c2 h4;obtain ⟨hl,hit,hno⟩:=AZ.mp hj;have hlen:its.toList.length=ps.length:=by rw [<- em,Ak]
  have hl':j<its.size:=by rw [<- Ax,hlen];exact hl
  have at_:∀ m (hm:m<its.size) (hm2:m<ps.length),SeqAt.readOf s.heap its[m]=ps[m]:=λm hm hm2=>by
   have:ps[m]?=(its.toList.map (SeqAt.readOf s.heap))[m]?:=by rw [em]
   rw [Aj hm2,AG,Be,Bh hm] at this;exact (AR this).symm
  refine Ca F.slot_list_index ⟨_,h1,rfl⟩ F.entry_list_index (F.args_list_index_2 _ _) (SeqAt.list_indexAt _ its n dd sl u (λz=>PyData.eqv (SeqAt.readOf s.heap z) d) j hl' (by omega) (by rw [at_ j hl' hl];exact hit) λm hm hmj=>?_) ⟨h1,λz hz=>?_,?_⟩
  ·grind
  ·exact SeqAt.items_eqAt h4 r2 c2 c1 (by omega) z hz
  ·exact ⟨.int (j:Nat),H,I.tok _,⟨_,rfl⟩,q⟩
def ixT (x d:D):M D:=λS=>match d3 64 S d,d3 64 S x with
 | some q,some (.tuple ps)=>(if q.canLay0=true/\PyData.canLayAll0 ps=true/\min (PyData.depthAll ps) q.depth<=60 then (match ps.findIdx? (λz=>PyData.eqv z q) with
  | some j=>ret (.int (j:Nat))
  | none=>bad) else bad) S
 | _,_=>.bad
def ft (x d:D):M D:=λS=>match d3 64 S d,d3 64 S x with
 | some q,some (.list ps)=>(if q.canLay0=true/\PyData.canLayAll0 ps=true/\min (PyData.depthAll ps) q.depth<=60 then (match ps.findIdx? (λz=>PyData.eqv z q) with
  | some j=>if j<100000 then ret (.int (j:Nat)) else bad
  | none=>bad) else bad) S
 | _,_=>.bad
def R1 (x:D) (ds:List D):M D:=match ds with
 | [d]=>(match x with
  | .tup xs=>ixT (.tup xs) d
  | x=>ft x d)
 | _=>bad
def sqK (x:D):M Bool:=match x with
 | .tup _=>ret true
 | x=>bind (lstOf x) λ_=>ret false
theorem hR (hu:X.A.units+80<cLine) (ho:PE X o (tD X.K cl xe f)) (ha:PA X (e :: es) (tDs X.K cl xe fs)) (hb:j7 o=true) (hs:(e :: es).all b5=true) (hf:y0 (e :: es)=true) (hl:(apos.endLine==cpos.line)=true) :
  PE X (.Call (.Attribute o "index" apos) (e :: es) [] cpos) (tD X.K cl xe λρ=>bind (f ρ) λx=>bind (sqK x) λ_=>bind (fs ρ) λds=>R1 x ds):=by
 refine PE.imp (qI PySem.F.plainAttrs_tuple PySem.F.slot_tuple_index PySem.F.type_tuple_index (hX hu) Bw PySem.F.slot_list_index PySem.F.type_list_index (fj hu) ho ha hb hs hf hl) λσ H Q ⟨μ,S,ρ,eo,rp,p⟩=>?_;refine ⟨μ,S,ρ,eo,rp,p.bind.imp λx S1 μ1 H1 l1 r1 p1 xv rx=>?_⟩;have finT:∀ (S2:Sto) (μ2:Mp) (H2:Hp) (d:D) (v:V),RD X.K μ2 H2 x xv->RD X.K μ2 H2 d v->Rep X.K cl μ2 S2 H2->Post X.K cl xe μ2 H2 (ixT x d S2) (λd _ μ' H'=>∀ w,RD X.K μ' H' d w->Q w H') ->
   ∃ y ps d j,[v]=[y]/\DAt X.K H2 xv (.tuple ps)/\DAt X.K H2 y d/\(d.canLay0=true/\PyData.canLayAll0 ps=true/\min (PyData.depthAll ps) d.depth<=60)/\ps.findIdx? (λz=>PyData.eqv z d)=some j/\Q (.int (j:Nat)) H2:=by
  intro S2 μ2 H2 d v rx2 rv r2 p2;simp only [ixT] at p2;cases e2:d3 64 S2 d with
  | none=>rw [e2] at p2;exact p2.elim
  | some b=>
   cases e1:d3 64 S2 x with
   | none=>rw [e2,e1] at p2;exact p2.elim
   | some a=>
    rw [e2,e1] at p2;have ha:=k7 r2 64 e1 rx2;have hb:=k7 r2 64 e2 rv;cases a with
    | tuple ps=>
     dsimp only at p2;by_cases c:b.canLay0=true/\PyData.canLayAll0 ps=true/\min (PyData.depthAll ps) b.depth<=60
     ·rw [if_pos c] at p2;cases e3:ps.findIdx? (λz=>PyData.eqv z b) with
      | none=>rw [e3] at p2;exact p2.elim
      | some j=>
       rw [e3] at p2;exact ⟨v,ps,b,j,rfl,ha,hb,c,e3,p2 μ2 H2 (Lat.refl _ _) r2 _ (.int _)⟩
     ·rw [if_neg c] at p2;exact p2.elim
    | _=>exact p2.elim
 have finL:∀ (S2:Sto) (μ2:Mp) (H2:Hp) (d:D) (v:V),RD X.K μ2 H2 x xv->RD X.K μ2 H2 d v->Rep X.K cl μ2 S2 H2->Post X.K cl xe μ2 H2 (ft x d S2) (λd _ μ' H'=>∀ w,RD X.K μ' H' d w->Q w H') ->
   ∃ y ps d j,[v]=[y]/\DAt X.K H2 xv (.list ps)/\DAt X.K H2 y d/\(d.canLay0=true/\PyData.canLayAll0 ps=true/\min (PyData.depthAll ps) d.depth<=60)/\(j:Nat)<100000/\ps.findIdx? (λz=>PyData.eqv z d)=some j/\Q (.int (j:Nat)) H2:=by
  intro S2 μ2 H2 d v rx2 rv r2 p2;simp only [ft] at p2;cases e2:d3 64 S2 d with
  | none=>rw [e2] at p2;exact p2.elim
  | some b=>
   cases e1:d3 64 S2 x with
   | none=>rw [e2,e1] at p2;exact p2.elim
   | some a=>
    rw [e2,e1] at p2;have ha:=k7 r2 64 e1 rx2;have hb:=k7 r2 64 e2 rv;cases a with
    | list ps=>
     dsimp only at p2;by_cases c:b.canLay0=true/\PyData.canLayAll0 ps=true/\min (PyData.depthAll ps) b.depth<=60
     ·rw [if_pos c] at p2;cases e3:ps.findIdx? (λz=>PyData.eqv z b) with
      | none=>rw [e3] at p2;exact p2.elim
      | some j=>
       rw [e3] at p2;obtain ⟨hj,p2⟩:=Post.guard p2;exact ⟨v,ps,b,j,rfl,ha,hb,c,hj,e3,p2 μ2 H2 (Lat.refl _ _) r2 _ (.int _)⟩
     ·rw [if_neg c] at p2;exact p2.elim
    | _=>exact p2.elim
 have L:Post X.K cl xe μ1 H1 (bind (bind (lstOf x) λ_=>ret false) (λ_=>bind (fs ρ) λds=>R1 x ds) S1) (λd _ μ' H'=>∀ v,RD X.K μ' H' d v->Q v H')->(∀ d,R1 x [d]=ft x d)->(tyV X.K "list" xv H1/\tDs X.K cl xe fs σ H1 λxs H2=>∃ y ps d j,xs=[y]/\DAt X.K H2 xv (.list ps)/\DAt X.K H2 y d/\(d.canLay0=true/\PyData.canLayAll0 ps=true/\min (PyData.depthAll ps) d.depth<=60)/\(j:Nat)<100000/\ps.findIdx? (λz=>PyData.eqv z d)=some j/\Q (.int (j:Nat)) H2):=λp1 hx=>by
  obtain ⟨a0,xs0,ds0,e0,h0,r0,q0⟩:=j4 rx r1 p1.bind.bind;have p1:=p1.ok_bind (show (bind (lstOf x) λ_=>ret false) S1=.ok false S1 by rw [bind];rw [q0];rfl);subst e0;refine ⟨.inl ⟨rfl,_,.inl (.inl h0)⟩,μ1,S1,ρ,eo.later l1,r1,p1.bind.imp λds S2 μ2 H2 l2 r2 p2 vs rvs=>?_⟩
  match ds,rvs with
  | [],_=>exact False.elim p2
  | _ :: _ :: _,_=>exact False.elim p2
  | [d],rvs=>
   obtain ⟨v,rfl,rv⟩:=oJ rvs;rw [hx] at p2;exact finL S2 μ2 H2 d v (rx.later l2) rv r2 p2
 cases rx with
 | tup h0 r0=>
  rename_i a0 xs0 ds0;have p1:=p1.ok_bind (rfl);refine .inl ⟨?_,μ1,S1,ρ,eo.later l1,r1,p1.bind.imp λds S2 μ2 H2 l2 r2 p2 vs rvs=>?_⟩
  ·rcases h0 with ⟨q,_,_⟩ | ⟨o,its,n,c1,c2,c3,c4,c5,c6⟩
   ·exact .inr (.inr (.inr (.inr ⟨rfl,_,q⟩)))
   ·exact .inr (.inl ⟨rfl,o,c1,c2,c6⟩)
  ·match ds,rvs with
   | [],_=>exact False.elim p2
   | _ :: _ :: _,_=>exact False.elim p2
   | [d],rvs=>
    obtain ⟨v,rfl,rv⟩:=oJ rvs;exact finT S2 μ2 H2 d v ((RD.tup h0 r0).later l2) rv r2 p2
 | _=>exact .inr (L p1 λd=>rfl)
theorem RDs.erase {K:PySem.W.Frag} {μ:Mp} {H:Hp}:∀ {ds:List D} {vs:List V} (n:Nat),RDs K μ H ds vs->RDs K μ H (ds.eraseIdx n) (vs.eraseIdx n)
 | _,_,_,.nil=>.nil
 | _,_,0,.cons h r=>r
 | _,_,n+1,.cons h r=>.cons h (RDs.erase n r)
def popD (x:D) (ds:List D):M D:=match x,ds with
 | .ref n,[.int i]=>λS=>match S[n]? with
  | some (.lst es)=>if -(2 ^ 63)<=i/\i<2 ^ 63 then (match ixN es.length i with
   | some j=>(match es[j]? with
    | some y=>.ok y (S.set n (.lst (es.eraseIdx j)))
    | none=>.bad)
   | none=>.bad) else .bad
  | _=>.bad
 | _,_=>bad
theorem A1:Looks X.K cl xe "list" lstOf:=λμ S H x v G b c p=>by
 obtain ⟨a,xs,ds,rfl,d,f,e⟩:=j4 b c p;exact ⟨.inl ⟨rfl,_,.inl (.inl d)⟩,ds,e⟩
theorem jC:mQ X.K cl xe rPopAt popD:=λμ S H x v ds vs Q rx rvs rp p=>by
 unfold popD at p;split at p
 ·rename_i n i;cases rvs with
  | cons h t=>
   cases t;cases h;cases rx with
   | ref e=>
    rename_i a;cases q1:S[n]? with
    | none=>rw [q1] at p;exact p.elim
    | some o=>
     rw [q1] at p;cases o with
     | lst es=>
      obtain ⟨xs,h1,h2⟩:=rp.ats n _ a q1 e;dsimp only at p;by_cases hb:-(2 ^ 63)<=i/\i<2 ^ 63
      ·rw [if_pos hb] at p;cases q2:ixN es.length i with
       | none=>rw [q2] at p;exact p.elim
       | some j=>
        rw [q2] at p;dsimp only at p;cases q3:es[j]? with
        | none=>rw [q3] at p;exact p.elim
        | some y=>
         rw [q3] at p;obtain ⟨y',e4,r4⟩:=h2.get q3;have ml:=AS e;refine ⟨a,xs,i,j,y',rfl,rfl,h1,hb.1,hb.2,by rw [<- h2.length];exact (aE q2).1,e4,?_⟩;have la:Lat μ H μ (upd H a (.lst (xs.eraseIdx j))):=Lat.wrote ml;exact p μ _ la (rp.wrote e ⟨_,b6,(h2.erase j).later la⟩) _ (r4.later la)
      ·rw [if_neg hb] at p;exact p.elim
     | dct _=>exact p.elim
     | exc _ _=>exact p.elim
 ·exact p.elim
end
section
variable {X:Cx} {cl:Nat->Addr} {xe:Addr->Hp->Prop} {o e:Expr} {es:List Expr} {f:Env->M D} {p p2 pos pos2:Pos} {te:TE}
def rgL (n:Nat):List Int:=(List.range n).map λ(k:Nat)=>(k:Int)
theorem eh {n:Nat} (a:acc.length=n) (h:∀ (i:Nat) (v:Value),acc[i]?=some v->∃ t,v=Value.int (i:Int) t):Vals ((rgL n).map V.int) acc:=by
 have d:∀ (k:Nat) (l:List Value) (b:Nat),l.length=k->(∀ (i:Nat) (v:Value),l[i]?=some v->∃ t,v=Value.int ((b+i:Nat):Int) t)->Vals ((List.range' b k).map λ(j:Nat)=>V.int (j:Int)) l:=by
  intro k;induction k with
  | zero=>intro l b a _;cases l with
   | nil=>exact .nil
   | cons _ _=>simp at a
  | succ k f=>
   intro l b a c;cases l with
   | nil=>simp at a
   | cons v l=>
    rw [List.range'_succ,AW];refine .cons ?_ (f l (b+1) (by simpa using a) λi w g=>?_)
    ·obtain ⟨t,e⟩:=c 0 v rfl;exact ⟨t,by rw [e];simp⟩
    ·obtain ⟨t,e⟩:=c (i+1) w (by simpa using g);exact ⟨t,by rw [e];congr 2;omega⟩
 have:=d n acc 0 a λi v c=>by
  obtain ⟨t,e⟩:=h i v c;exact ⟨t,by rw [e];simp⟩
 unfold rgL;rw [CW,List.range_eq_range'];exact this
def mi (te:TE):TE:=λσ H Q=>te σ H λx a=>∃ n:Nat,x=.int (n:Int)/\n<100000/\∀ q,a q=none->Q (.ref q) (upd a q (.lst ((rgL n).map V.int)))
theorem gD (A:X.calm=true) (C:Gl X "list") (w:X.mg "list" = none) (o:Gl X "range") (l:X.mg "range" = none) (y:PE X e te) (j:b5 e=true):PE X (.Call (.Name "list" p) [.Call (.Name "range" p2) [e] [] pos2] [] pos) (mi te):=by
 intro pins s σ H Q I h;have k:=I.ok.hd A;refine Bc (u6 I C w (by rfl) ?_ (by decide) (by decide));refine AX ?_ rfl rfl;refine Bu ?_;refine Bc (u6 I o l boot_range ?_ (by decide) (by decide));refine AX ?_ (b8 j) rfl;rw [b8 j];refine Bu (thn (y pins s σ H _ I h) λu d ⟨x,G,z,B,n,m,hz,q⟩=>?_);subst m;obtain ⟨t,rfl⟩:=B;refine Bz (call_range_1 (Bz ?_));have rs:Builtin.Range.rangeSize 0 (n:Int) 1=(n:Int):=by rw [EF];split <;> omega
 refine call_list_range k (IsRange.new ..) (small_one (by omega) (by omega) (by omega) (by omega)) rs (by omega) λh' F f c r E a=>?_;have g:=z.kept (t':=d.toks+1+1) (h':=d.heap.push { cls:=.type "range",data:=.fields #[.int 0 d.toks,.int (n:Int) t,.int 1 (d.toks+1)] }) λb ob q=>Ai _ q;refine ⟨.ref _,_,Inv.laid g r (Ap _) ?_,rfl,q _ (g.hok.fresh (Ap _))⟩;refine ⟨by rw [Ak];show (rgL n).length<=_;unfold rgL;rw [Ak,AN,AD];omega,f.toList,c,eh (by rw [Ax];exact a.1) (λi v D=>?_),?_⟩
 ·obtain ⟨t',e⟩:=a.2 i v (by rw [<- Be];exact D);exact ⟨t',by rw [e];simp⟩
 ·simp_all
def L4 (d:D):M D:=match d with
 | .int i=>if 0<=i/\i<100000 then ret (.lst ((rgL i.toNat).map D.int)) else bad
 | _=>bad
theorem hP (hc:X.calm=true) (hl:Gl X "list") (ml:X.mg "list" = none) (hr:Gl X "range") (mr:X.mg "range" = none) (he:PE X e (tD X.K cl xe f)) (hn:b5 e=true):PE X (.Call (.Name "list" p) [.Call (.Name "range" p2) [e] [] pos2] [] pos) (tD X.K cl xe λρ=>bind (f ρ) L4):=
 PE.imp (gD hc hl ml hr mr he hn) λσ H Q ⟨μ,S,ρ,eo,rp,p⟩=>⟨μ,S,ρ,eo,rp,p.bind.imp λd S1 μ1 H1 l1 r1 p1 v rv=>by
  cases rv with
  | int i=>
   obtain ⟨hi,p1⟩:=Post.guard p1;refine ⟨i.toNat,by rw [Dx hi.1],by omega,λz hz=>?_⟩;obtain ⟨l,rp2,rd2⟩:=m8 r1 (RDs.ints (rgL i.toNat)) hz;exact p1 μ1 _ l rp2 _ rd2
  | _=>exact False.elim p1⟩
theorem W4:MtR X "list.extend" (λx vs H Q=>∃ l b xs j,x=.ref l/\vs=[.ref b]/\H l=some (.lst xs)/\(SqL X.K H b j\/SqT X.K H b j)/\xs.length+j.length<=sizeLine/\Q .non (upd H l (.lst (xs++j)))):=by
 intro pins s σ H x vs v us Q I A C h;obtain ⟨l,b,xs,j,rfl,rfl,y,m,hz,q⟩:=h;cases A;obtain ⟨u,rfl,B⟩:=C.one;cases B;obtain ⟨z,g,n,r,L,e⟩:=I.lstM y;have p:∀ (ob:Obj) (k:Nat) (T:String) (a:List Value),(T = "list"\/T = "tuple")->s.heap.get? b=some ob->ob.cls=.type T->ob.data=.seq a.toArray k->Vals j a->wpAny (model X.prog X.w) X.A (call (.builtin "list.extend") [.ref l,.ref b]) (EP X pins σ Q) X.xe s:=λob k T a J w G E f=>by
  have hsz:g.toArray.size+a.toArray.size<=sizeLine:=by rw [An,An,<- f.length];omega
  have i:¬ (!g.toArray.isEmpty&&Builtin.List.listTooLong (g.toArray.size+a.toArray.size))=true:=by
   rw [bC hsz,Bool.and_false];exact At
  have D:s.TypeIs (.ref l) "list":=⟨_,e,rfl⟩;refine AY F.slot_list_extend D F.entry_list_extend ?_ (F.args_list_extend_2 _ _);show wpAny _ _ (Builtin.List.listExtendWith (.ref l) (.ref b) .none) _ _ s;refine Ag (Cm ⟨ob,w,G⟩ ?_);rw [if_pos (by rcases J with rfl | rfl <;> simp)];refine Ag (BU w E (Ag (BU e rfl ?_)));rw [if_neg i];refine Ag (DO e rfl (Ah ?_) (by rw [An];omega) (by rw [Array.size_append];omega));refine ⟨_,rfl,.non,_,I.lset y e (by simp) (r.append f) ?_,rfl,q⟩;rw [Ay];omega
 rcases m with m | m
 ·obtain ⟨a,f,⟨o,k,t,c,K,d⟩,_⟩:=I.list m;exact p o k "list" a (.inl rfl) t c d f
 ·obtain ⟨a,f,⟨o,t,c,k,d⟩,_⟩:=I.tuple m;exact p o k "tuple" a (.inr rfl) t c d f
def extD (x:D) (ds:List D):M D:=match x,ds with
 | .ref n,[.tup ys]=>λS=>match S[n]? with
  | some (.lst es)=>if es.length+ys.length<=sizeLine then .ok .non (S.set n (.lst (es++ys))) else .bad
  | _=>.bad
 | .ref n,[.lst ys]=>λS=>match S[n]? with
  | some (.lst es)=>if es.length+ys.length<=sizeLine then .ok .non (S.set n (.lst (es++ys))) else .bad
  | _=>.bad
 | _,_=>bad
theorem bR:mQ X.K cl xe (λx vs H Q=>∃ l b xs zs,x=.ref l/\vs=[.ref b]/\H l=some (.lst xs)/\(SqL X.K H b zs\/SqT X.K H b zs)/\xs.length+zs.length<=sizeLine/\Q .non (upd H l (.lst (xs++zs)))) extD:=λμ S H x v ds vs Q rx rvs rp p=>by
 have gen:∀ (n:Nat) (a b:Addr) (ys:List D) (zs:List V),μ.pl[n]?=some a->(SqL X.K H b zs\/SqT X.K H b zs)->RDs X.K μ H ys zs->Post X.K cl xe μ H (match S[n]? with
   | some (.lst es)=>if es.length+ys.length<=sizeLine then R.ok D.non (S.set n (.lst (es++ys))) else .bad
   | _=>.bad) (λd _ μ' H'=>∀ w,RD X.K μ' H' d w->Q w H')->∃ l b' xs zs',V.ref a=.ref l/\[V.ref b]=[.ref b']/\H l=some (.lst xs)/\(SqL X.K H b' zs'\/SqT X.K H b' zs')/\xs.length+zs'.length<=sizeLine/\Q .non (upd H l (.lst (xs++zs'))):=λn a b ys zs e hs hr p=>by
  cases q1:S[n]? with
  | none=>rw [q1] at p;exact p.elim
  | some o=>
   rw [q1] at p;cases o with
   | lst es=>
    obtain ⟨xs,h1,h2⟩:=rp.ats n _ a q1 e;dsimp only at p;by_cases hz:es.length+ys.length<=sizeLine
    ·rw [if_pos hz] at p;have ml:=AS e;refine ⟨a,b,xs,zs,rfl,rfl,h1,hs,by rw [<- h2.length,<- hr.length];exact hz,?_⟩;have la:Lat μ H μ (upd H a (.lst (xs++zs))):=Lat.wrote ml;exact p μ _ la (rp.wrote e ⟨_,b6,(h2.append hr).later la⟩) _ .non
    ·rw [if_neg hz] at p;exact p.elim
   | dct _=>exact p.elim
   | exc _ _=>exact p.elim
 unfold extD at p;split at p
 ·rename_i n ys;cases rvs with
  | cons h t=>
   cases t;cases rx with
   | ref e=>
    cases h with
    | tup h1 h2=>
     rename_i a b zs;exact gen n a b ys zs e (.inr h1.sq) h2 p
 ·rename_i n ys;cases rvs with
  | cons h t=>
   cases t;cases rx with
   | ref e=>
    cases h with
    | lst h1 h2=>
     rename_i a b zs;exact gen n a b ys zs e (.inl h1.sq) h2 p
 ·exact p.elim
def listP (d:D):M D:=bind (w8 d) λds=>λS=>.ok (.ref S.length) (S++[.lst ds])
theorem lh:j3 X (.type "list") (rPs X.K cl xe (one listP)):=C2 λpins s σ H μ S d v us Q I r i e p=>by
 obtain ⟨a,xs,ds,rfl,g,h,f⟩:=J2 i e p.bind;refine J9 pins s σ H _ us Q I r ⟨a,xs,rfl,g,λz hz=>?_⟩;obtain ⟨l,c,b⟩:=Z1 e h hz;exact (p.ok_bind f) _ _ l c _ b
end
end L3
namespace HT
open PySem PySem.Spec PyProof.Rows
def m3 (a:Bool):Obj:={ cls:=.type "set",dict:=none,data:=.set #[] 0 (.fresh 0 0 a) }
def Rise (xs:Array Nat):Prop:=xs.toList.Pairwise (· < ·)
theorem Rise.lt (h:Rise xs) {i j:Nat} (a:i<j) (b:j<xs.size):xs[i]<xs[j]:=by
 have:=List.pairwise_iff_getElem.mp h i j (by simp;omega) (by simpa using b) a;grind
theorem V8 (h:Rise xs):∀ (g lo k:Nat),k-lo<=g->lo<=k->k<=xs.size->(∀ i (z:i<xs.size),i<lo->xs[i]<j)->(∀ i (z:i<xs.size),k<=i->j<=xs[i]) ->
  SetTable.below.go xs j g lo k<=xs.size/\(∀ i (z:i<xs.size),i<SetTable.below.go xs j g lo k->xs[i]<j)/\∀ i (z:i<xs.size),SetTable.below.go xs j g lo k<=i->j<=xs[i]
 | 0,lo,k,f,o,l,a,b=>by
  have e:lo=k:=by omega
  subst e;exact ⟨l,a,b⟩
 | g+1,lo,k,f,o,l,a,b=>by
  unfold SetTable.below.go;by_cases c:lo<k
  ·rw [if_pos c];have m:(lo+k) / 2<xs.size:=by omega
   have n:xs.getD ((lo+k) / 2) j=xs[(lo+k) / 2]:=by simp [Array.getD,m]
   dsimp only;rw [n];by_cases d:xs[(lo+k) / 2]<j
   ·rw [if_pos d];refine V8 h g _ _ (by omega) (by omega) l (λi z w=>?_) b;rcases Nat.lt_or_ge i ((lo+k) / 2) with u | u
    ·exact Nat.lt_trans (h.lt u m) d
    ·grind
   ·rw [if_neg d];refine V8 h g _ _ (by omega) (by omega) (by omega) a λi z w=>?_;rcases Nat.lt_or_ge ((lo+k) / 2) i with u | u
    ·have:=h.lt u z;omega
    ·grind
  ·grind
theorem V5 (h:Rise xs) (j:Nat):SetTable.below xs j<=xs.size/\(∀ i (z:i<xs.size),i<SetTable.below xs j->xs[i]<j)/\∀ i (z:i<xs.size),SetTable.below xs j<=i->j<=xs[i]:=
 V8 h xs.size 0 xs.size (by omega) (Bj _) (Ap _) (λi _ w=>absurd w (Nat.not_lt_zero _)) λi z w=>by omega
theorem dv (h:Rise xs) {i:Nat} (hi:i<xs.size):SetTable.below xs (xs[i]+1)=i+1:=by
 obtain ⟨a,b,c⟩:=V5 h (xs[i]+1);generalize SetTable.below xs (xs[i]+1)=k at a b c;rcases Nat.lt_trichotomy k (i+1) with u | u | u
 ·grind
 ·exact u
 ·have z:i+1<xs.size:=by omega
  have:=b (i+1) z u;have:xs[i]<xs[i+1]:=h.lt (AF i) z;omega
theorem eA (h:Rise xs):SetTable.below xs 0=0:=by
 obtain ⟨a,b,c⟩:=V5 h 0;rcases Nat.eq_zero_or_pos (SetTable.below xs 0) with u | u
 ·exact u
 ·have:=b 0 (by omega) u;omega
theorem bT (h:Rise xs) {j:Nat} (n:xs[SetTable.below xs j]?≠some j):Rise (SetTable.insertAt xs (SetTable.below xs j) j):=by
 obtain ⟨a,b,c⟩:=V5 h j;unfold Rise;rw [SetTable.toList_insertAt,List.pairwise_append,BI];refine ⟨List.Pairwise.sublist (DW _ _) h,⟨λy d=>?_,List.Pairwise.sublist (List.drop_sublist _ _) h⟩,λx g y d=>?_⟩
 ·obtain ⟨k,e,rfl⟩:=Cw.mp d;rw [Ej,Ax] at e;have hz:SetTable.below xs j+k<xs.size:=by omega
  rw [List.getElem_drop,Dq];have l:=c _ hz (Nat.le_add_right _ _);rcases Nat.eq_zero_or_pos k with rfl | kp
  ·grind
  ·have i:SetTable.below xs j<xs.size:=by omega
   have:=c _ i (Ap _);have:=h.lt (show SetTable.below xs j<SetTable.below xs j+k by omega) hz;omega
 ·have f:x<j:=by
   obtain ⟨k,e,rfl⟩:=Cw.mp g;rw [Bo,Ax] at e;rw [List.getElem_take,Dq];exact b _ (by omega) (by omega)
  rcases AA.mp d with rfl | d
  ·exact f
  ·obtain ⟨k,e,rfl⟩:=Cw.mp d;rw [Ej,Ax] at e;rw [List.getElem_drop,Dq];have:=c _ (show SetTable.below xs j+k<xs.size by omega) (Nat.le_add_right _ _);omega
structure TbHt (t:SetTable):Prop where
 nd:t.dummies=#[]
 up:t.plain=true->Rise t.place
theorem cJ (j:Nat):SetTable.has #[] j=false:=by simp [SetTable.has]
theorem bn (h:t.dummies=#[]) (f:Nat->Int) (x:Int):∀ (n:Nat) (p:SetTable.Probe) (j:Nat) (d:Option Nat),p.dummy=none->SetTable.probe.go t f x n p=some (.empty j d)->d=none/\t.slot j=.empty
 | 0,p,j,d,_,e=>by unfold SetTable.probe.go at e;cases e
 | n+1,p,j,d,pd,e=>by
  unfold SetTable.probe.go at e;have ad:∀ q:SetTable.Probe,(t.advance q).dummy=q.dummy:=λq=>by
   unfold SetTable.advance;split <;> rfl
  cases hs:t.slot p.j with
  | empty=>
   rw [hs] at e;obtain ⟨rfl,rfl⟩:=e;exact ⟨pd,hs⟩
  | dummy=>
   unfold SetTable.slot at hs;rw [h] at hs;dsimp only at hs;split at hs
   ·cases hs
   ·rw [cJ] at hs;simp at hs
  | live i=>
   rw [hs] at e;dsimp only at e;split at e
   ·cases e
   ·exact bn h f x n _ j d ((ad p).trans pd) e
theorem oI {t:SetTable} (h:t.dummies=#[]) {x:Int} {j:Nat} {b:Bool} (e:t.freeSlot x=some (j,b)):t.slot j=.empty:=by
 unfold SetTable.freeSlot SetTable.probe at e;split at e
 ·rename_i c d a;obtain ⟨rfl,q⟩:=bn h _ _ _ _ _ _ rfl a;simp at e;rw [<- e.1];exact q
 ·cases e
theorem oG {t:SetTable} {j:Nat} (h:t.slot j=.empty):t.place[SetTable.below t.place j]?≠some j:=λe=>by
 unfold SetTable.slot at h;dsimp only at h;rw [e] at h;simp at h
theorem TbHt.stand (t:SetTable) (n:Nat):TbHt (t.standIn n):=⟨rfl,λh=>by cases h⟩
theorem TbHt.put (h:TbHt t) {j:Nat} (e:t.slot j=.empty):TbHt (t.put j).1:=by
 refine ⟨?_,λp=>?_⟩
 ·unfold SetTable.put;rw [h.nd,cJ];rfl
 ·exact bT (h.up p) (oG e)
theorem TbHt.lay (h:TbHt t) (es:Array (Int×Value)) (x:Int) (v:Value):TbHt (layNew t es x v).2.1/\(layNew t es x v).2.1.led=t.led:=by
 unfold layNew;split
 ·rename_i a wd e;have b:=h.put (oI h.nd e);dsimp only;unfold SetTable.orStandIn;split
  ·exact ⟨b,rfl⟩
  ·exact ⟨.stand _ _,rfl⟩
 ·exact ⟨.stand _ _,rfl⟩
theorem dD (n:Nat) (f:Nat->Option (Nat×Nat)) (d:∀ j p,f j=some p->p.1=j):(((List.range n).filterMap f).map (·.1)).Pairwise (· < ·):=by
 rw [CY];refine List.Pairwise.filterMap f (λa b c x e y g=>?_) List.pairwise_lt_range;grind
theorem TbHt.relay (h:TbHt t) (es:Array (Int×Value)) (m:Nat):TbHt (relayAll t es m).2.1/\(relayAll t es m).2.1.led=t.led:=by
 unfold relayAll;split
 ·rename_i t' a e;dsimp only;unfold SetTable.relaid SetTable.laid at e;simp only [Option.bind_eq_bind,Option.bind_eq_some_iff,Option.pure_def,Cv,EJ] at e;obtain ⟨b,_,rfl,_⟩:=e;split
  ·refine ⟨⟨rfl,λ_=>?_⟩,rfl⟩;refine dD _ _ λj p q=>?_;rw [Co] at q;obtain ⟨_,_,rfl⟩:=q;rfl
  ·exact ⟨.stand _ _,rfl⟩
 ·exact ⟨.stand _ _,rfl⟩
theorem TbHt.unplain (h:TbHt t):TbHt { t with plain:=false }:=⟨h.nd,λz=>by cases z⟩
theorem TbHt.fresh (f m:Nat) (l:Bool):TbHt (SetTable.fresh f m l):=⟨rfl,λ_=>by unfold Rise SetTable.fresh;exact .nil⟩
section
variable {prog:Program} {w:World} {K:Type} [DecidableEq K] {knd:KeyKind prog w K} {A:Around} {E:Value->Shared->Prop} {s:Shared}
def i4 (w:World):Bool:=w.params.followText "set-order"
def fv (knd:KeyKind prog w K) (o:Obj) (S:K->Bool) (n:Nat) (es:Array (Int×Value)) (a:Nat) (t:SetTable):Prop:=
 o.ExactSet/\o.data=.set es a t/\ElemsOf knd es.toList/\(∀ k,S k=true↔∃ e∈es.toList,knd.is k e.2=true)/\es.size<scanBound/\t.fits es.size=true/\es.size=n/\TbHt t/\t.led=!i4 w
def SetL (knd:KeyKind prog w K) (h:Heap) (a:Addr) (S:K->Bool) (n:Nat):Prop:=∃ o es b t,h.get? a=some o/\fv knd o S n es b t
theorem SetL.cg {n b:Nat} (x:SetL knd h a S n) (e:∀ k,S k=S' k) (f:n=b):SetL knd h a S' b:=by
 have:=funext e;grind
theorem SetL.mv {a:Addr} {S:K->Bool} {n:Nat} (x:SetL knd h a S n) (e:∀ o,h.get? a=some o->h'.get? a=some o):SetL knd h' a S n:=
 let ⟨o,es,b,t,c,r⟩:=x;⟨o,es,b,t,e o c,r⟩
theorem bF {h:Heap} {a:Addr} {o:Obj} {es:Array (Int×Value)} {c:Nat} {t:SetTable} (d:h.get? a=some o) (b:o.ExactSet) (hd:o.data=.set es c t) {es':Array (Int×Value)} {t':SetTable} {S':K->Bool}
  (r:ElemsOf knd es'.toList/\(∀ k,S' k=true↔∃ e∈es'.toList,knd.is k e.2=true)/\es'.size<scanBound/\t'.fits es'.size=true/\TbHt t'/\t'.led=!i4 w) :
  ∃ o',(h.update a (Obj.putSet es' t')).get? a=some o'/\fv knd o' S' es'.size es' (c+1) t':=by
 obtain ⟨g,_⟩:=SetOf_store d b hd r.1 r.2.1 r.2.2.1 r.2.2.2.1;exact ⟨_,g,b,rfl,r.1,r.2.1,r.2.2.1,r.2.2.2.1,rfl,r.2.2.2.2⟩
theorem Y4 (C:s.heap.get? a=some o) (n:o.ExactSet) (hd:o.data=.set es ep t) {g:Bool->Sem Unit}
  (F:∀ (b:Bool) (u:Shared) (R:Unit->Shared->Prop),R () u->wpAny (model prog w) A (g b) R E u) {c:Array (Int×Value)} {d:SetTable} {S':K->Bool}
  (r:ElemsOf knd c.toList/\(∀ k,S' k=true↔∃ e∈c.toList,knd.is k e.2=true)/\c.size<scanBound/\d.fits c.size=true/\TbHt d/\d.led=!i4 w) {wd:Bool} {R:Option Bool->Shared->Prop}
  (q:∀ h',Heap.SameBut a s.heap h'->SetL knd h' a S' c.size->R (some true) { s with heap:=h' }) :
  wpAny (model prog w) A (storeSet a c d >>= λ_=>if (!wd&&d.tooFull)=true then (g (relayAll d c (SetTable.grown c.size)).2.2 >>= λ_=>storeSet a (relayAll d c (SetTable.grown c.size)).1 (relayAll d c (SetTable.grown c.size)).2.1 >>= λ_=>pure (some true)) else pure (some true)) R E s:=by
 refine Ag (wpAny_storeSet_of C hd ?_ (fits_of_scanBound r.2.2.1));obtain ⟨D,h,i⟩:=bF C n hd r;have y:=Bp s.heap a (Obj.putSet c d);split
 ·have p:=relayAll_perm d c (SetTable.grown c.size);have f:=relayAll_fits d c (SetTable.grown c.size);have j:=r.2.2.2.2.1.relay c (SetTable.grown c.size);generalize relayAll d c (SetTable.grown c.size)=Z at p f j ⊢;obtain ⟨v,I,J⟩:=Z;have B:v.size=c.size:=by
   have:=p.length_eq;rwa [Ax,Ax] at this
  have x:=B▸r.2.2.1;refine Ag (F _ _ _ (Ag (wpAny_storeSet_of h i.2.1 ?_ (fits_of_scanBound x))));obtain ⟨G,l,H⟩:=bF h i.1 i.2.1 ⟨r.1.perm p,λk=>(r.2.1 k).trans ⟨λ⟨e,m,z⟩=>⟨e,p.mem_iff.mpr m,z⟩,λ⟨e,m,z⟩=>⟨e,p.mem_iff.mp m,z⟩⟩,x,f,j.1,j.2.trans r.2.2.2.2.2⟩;exact Ah (q _ (y.trans (Bp _ a _)) (SetL.cg ⟨G,_,_,_,l,H⟩ (λ_=>rfl) B))
 ·exact Ah (q _ y ⟨D,_,_,_,h,i⟩)
theorem qE {k:K} {x:Value} {Q:Bool->Shared->Prop} (G:knd.is k x=true) (D:x.scannable=true) (X:SetL knd s.heap a S n) (I:n+1<scanBound)
  (q:∀ h',Heap.SameBut a s.heap h'->SetL knd h' a (λm=>S m||decide (m=k)) (if S k then n else n+1)->Q (!S k) { s with heap:=h' }):wpAny (model prog w) A (setAddHashed a x (knd.hash k)) Q E s:=by
 obtain ⟨o,es,W,t,i,h,hd,c,r,H,F,O,J,T⟩:=X;refine AJ (Ag (BZ i hd F ?_));dsimp only;rw [byScan_of D H c,if_pos rfl];refine Ag (Ag (BS (Ag (wpAny_setScan_of G i hd F c ?_))));cases M:List.findIdx? (λe=>knd.is k e.2) es.toList with
 | some j=>
  obtain ⟨hj,B,_⟩:=AZ.mp M;have g:=(r k).mpr ⟨es.toList[j],Ba hj,B⟩;refine Ah (Ah ?_);have z:=q s.heap (Heap.SameBut.refl a s.heap) (SetL.cg ⟨o,es,W,t,i,h,hd,c,r,H,F,O,J,T⟩ (λm=>by
   by_cases e:m=k
   ·subst e;rw [g];rfl
   ·simp [e]) (by rw [if_pos g]))
  rw [g] at z;exact z
 | none=>
  have Z:S k=false:=by
   cases V:S k with
   | false=>rfl
   | true=>
    obtain ⟨e,Y,B⟩:=(r k).mp V;have:=DT.mp M e Y;rw [B] at this;cases this
  have gw:∀ (b:Bool) (u:Shared) (R:Unit->Shared->Prop),R () u->wpAny (model prog w) A (match b with | true=>rule "set.scan.the-table-gave-way" | false=>pure ()) R E u:=λb u R z=>by
   cases b
   ·exact Ah z
   ·exact BS z
  have p:=layNew_perm t es (knd.hash k) x;have f:=layNew_fits t es (knd.hash k) x;have l:=J.lay es (knd.hash k) x;generalize layNew t es (knd.hash k) x=L at p f l ⊢;obtain ⟨C,t1,wd,U⟩:=L;dsimp only at p f l ⊢;rw [Ea] at p;have v:C.size=n+1:=by
   have:=p.length_eq;rw [Ay,Ax,Ax,O] at this;exact this
  have d:=λh' z y=>by
   have:=q h' z;rw [Z] at this;exact this (SetL.cg y (λ_=>rfl) v)
  have N:=(c.push G D).perm p;have P:=mem_push_iff G r p;refine Ag (gw _ _ _ ?_);split
  ·rw [hashByValue_scannable 8 D];refine Ag (Ah ?_);refine Y4 i h hd (λb u R z=>by cases b <;> first | exact Ah z | exact BS z) ⟨N,P,by rw [v];exact I,?_,?_,?_⟩ λh' z y=>Ah (d h' z y)
   ·split
    ·exact f
    ·exact SetTable.fits_plain_off f
   ·split
    ·exact l.1
    ·exact l.1.unplain
   ·grind
  ·refine Ag (Ah ?_);rw [if_pos rfl];exact Y4 i h hd (λb u R z=>by cases b <;> first | exact Ah z | exact BS z) ⟨N,P,by rw [v];exact I,f,l.1,l.2.trans T⟩ λh' z y=>Ah (d h' z y)
end
section
variable {K:Type} [DecidableEq K]
def metKHt (f:Nat->K):Nat->List K
 | 0=>[]
 | i+1=>if f i∈metKHt f i then metKHt f i else metKHt f i++[f i]
theorem cz (f:Nat->K) (i:Nat):metKHt f (i+1)=if f i∈metKHt f i then metKHt f i else metKHt f i++[f i]:=rfl
theorem fY (f:Nat->K):∀ i,(metKHt f i).length<=i
 | 0=>Ap _
 | i+1=>by
  have:=fY f i;unfold metKHt;split
  ·omega
  ·grind
theorem metK_nd (f:Nat->K):∀ i,(metKHt f i).Nodup
 | 0=>.nil
 | i+1=>by
  have:=metK_nd f i;unfold metKHt;split
  ·exact this
  ·grind
theorem metK_mem (f:Nat->K) (k:K):∀ i,k∈metKHt f i↔∃ j,j<i/\f j=k
 | 0=>by simp [metKHt]
 | i+1=>by
  have a:=metK_mem f k i;have e:k∈metKHt f (i+1)↔(k∈metKHt f i\/k=f i):=by
   rw [cz];split
   ·grind
   ·grind
  rw [e,a];constructor
  ·grind
  ·grind
end
section
variable {prog:Program} {w:World} {K:Type} [DecidableEq K] {knd:KeyKind prog w K} {A:Around} {R:Result->Shared->Prop} {I:Addr} {fp wr:List Addr} {G:Array GenState->Array GenState->Prop} {n:Nat} {P:Nat->Value->Prop} {St:Nat->Shared->Prop}
def D7 (l:List K) (k:K):Bool:=decide (k∈l)
theorem tJ (W:WalksS prog w A.in1 I fp wr G n P St) (B:Addr) (E:B∉fp) (f:Nat->K) (M:∀ i v,P i v->knd.is (f i) v=true/\v.scannable=true) (a:n+1<scanBound) :
  ∀ (k i:Nat) (s:Shared),n-i=k->i<=n->St i s->SetL knd s.heap B (D7 (metKHt f i)) (metKHt f i).length ->
   (∀ z,Moved (B :: wr) G s z->SetL knd z.heap B (D7 (metKHt f n)) (metKHt f n).length->R (.ok (.ret .none)) z)->codeAny (model prog w) A (.builtin "set.update.loop" ⟨[.ref B,.ref I],[]⟩) R s:=by
 have u:=λh=>E (W.sub _ h);have D:∀ b∈wr,b∈B :: wr:=λb a=>AC _ a;intro k;induction k with
 | zero=>
  intro i s N F st t q;obtain rfl:i=n:=by omega
  refine Bt CI ?_;rw [Bx BQ _];refine Ag (W.done s _ _ st λz m=>?_);exact Ah (q z (m.mono D) (t.mv λo=>m.heap B o u))
 | succ k O=>
  intro i s N F st t q;have C:i<n:=by omega
  refine Bt CI ?_;rw [Bx BQ _];refine Ag (W.item i s _ _ C st λv z J r m=>?_);obtain ⟨x,H⟩:=M i v J;have l:=t.mv λo=>m.heap B o u;refine Ag (AJ (AJ (Ag (knd.pyHash x ?_))));refine qE x H l (by have:=fY f i;omega) λg y d=>?_;have j:SetL knd g B (D7 (metKHt f (i+1))) (metKHt f (i+1)).length:=d.cg (λQ=>by
   rw [cz];unfold D7;by_cases c:f i∈metKHt f i
   ·grind
   ·rw [if_neg c];simp) (by
   rw [cz];unfold D7;by_cases c:f i∈metKHt f i
   ·grind
   ·rw [if_neg (by simpa using c),if_neg c,Ay];rfl)
  refine Ah ⟨Dl BQ _,O (i+1) _ (by omega) C (W.frame _ z _ _ r (Bl _) λb a o e=>?_) j λL m2 p=>?_⟩
  ·rw [y.2 b (λh:b=B=>E (h▸a))];exact e
  ·refine q L (Moved.trans W.gtrans ((m.mono D).then_heap (Bl _) λb o a e=>?_) m2) p;rw [y.2 b (λh:b=B=>a (h▸Av))];exact e
end
section
variable {prog:Program} {w:World} {K:Type} [DecidableEq K] {knd:KeyKind prog w K} {A:Around} {E:Value->Shared->Prop} {s:Shared}
def B2 (knd:KeyKind prog w K) (f:Nat->K) (n:Nat) (s:Shared) (g:Heap):Prop:=SetL knd g s.heap.objs.size (D7 (metKHt f n)) (metKHt f n).length/\∀ b o,b<s.heap.objs.size->s.heap.get? b=some o->g.get? b=some o
theorem dk (h:Heap):SetL knd (h.push (m3 (!i4 w))) h.objs.size (D7 (metKHt (K:=K) f 0)) 0:=
 ⟨_,#[],0,_,Am _ rfl,⟨rfl,rfl,rfl⟩,rfl,λe a=>by simp at a,λk=>by simp [D7,metKHt],by decide,rfl,rfl,TbHt.fresh _ _ _,rfl⟩
theorem nO {a:Addr} {c:Array Value} (f:Nat->K) (Z:A.handled=none) (u:s.heap.IsTuple a c\/s.heap.IsList a c) (hf:∀ i v,c[i]?=some v->knd.is (f i) v=true/\v.scannable=true) (G:c.size+1<scanBound) (P:Fin->Shared->Prop) (Q:Value->Shared->Prop)
  (h:∀ (g:Heap) (d:Nat),B2 knd f c.size s g->P (.done (.ret .none)) { s with heap:=g,toks:=d }) :
  wpAny (model prog w) A (Builtin.«set.__init__» ⟨[.ref s.heap.objs.size,.ref a],[]⟩) P Q { s with heap:=s.heap.push (m3 (!i4 w)) }:=by
 have gS:(s.heap.push (m3 (!i4 w))).get? s.heap.objs.size=some (m3 (!i4 w)):=Am _ rfl;have E:∀ (k:Obj) (L M:List Addr) (N:Nat->Heap->Prop) (W:Walks prog w A.in1 (s.heap.objs.size+1) L M c.size (λi v=>c[i]?=some v) N),M=[s.heap.objs.size+1]->s.heap.objs.size∉L->N 0 ((s.heap.push (m3 (!i4 w))).push k)->codeAny (model prog w) A (.builtin "set.update.loop" ⟨[.ref s.heap.objs.size,.ref (s.heap.objs.size+1)],[]⟩) (λr z=>∃ g d,r=.ok (.ret .none)/\z={ s with heap:=g,toks:=d }/\B2 knd f c.size s g) { s with heap:=(s.heap.push (m3 (!i4 w))).push k }:=λk L M N W ew nS st=>by
  subst ew;refine tJ (knd:=knd) W.toS s.heap.objs.size nS f hf G (c.size-0) 0 _ (by omega) (Bj _) st ?_ ?_
  ·exact (dk (knd:=knd) (f:=f) s.heap).mv λo e=>Ai _ e
  ·rintro ⟨g,gn,Y,d,X⟩ H hS;have z1:gn=s.gens:=H.gens;have z2:Y=s.drawn:=H.drawn;have z3:X=s.os:=H.os;subst z1 z2 z3;refine ⟨g,d,rfl,rfl,hS,λb o G e=>H.heap b o ?_ (Ai _ (Ai _ e))⟩;simp only [AA,CB,EN,not_or];exact ⟨Ar G,Ar (AM G)⟩
 have S:A.in1.handled=none:=by simp [Z]
 have I:(s.heap.push (m3 (!i4 w))).objs.size=s.heap.objs.size+1:=Cg _ _;have j:∀ (k:Obj),codeAny (model prog w) A (.builtin "set.update.loop" ⟨[.ref s.heap.objs.size,.ref (s.heap.objs.size+1)],[]⟩) (λr z=>∃ g d,r=.ok (.ret .none)/\z={ s with heap:=g,toks:=d }/\B2 knd f c.size s g) { s with heap:=(s.heap.push (m3 (!i4 w))).push k } ->
   wpAny (model prog w) A (runValue (.builtin "set.update.loop" ⟨[.ref s.heap.objs.size,.ref (s.heap.objs.size+1)],[]⟩) >>= λ_=>pure ()) (λ_ z=>wpAny (model prog w) A (ret Value.none) P Q z) Q { s with heap:=(s.heap.push (m3 (!i4 w))).push k }:=λk z=>by
  refine Ag (DN (BX z λr y ⟨g,d,C,T,e3⟩=>?_));subst C T;exact Ah (Ah (h g d e3))
 rcases u with u | u
 ·obtain ⟨ob,x,q,n,D⟩:=u;obtain ⟨J,m,t,l⟩:=ob;dsimp only at q D;subst q D;have C:=Ai (m3 (!i4 w)) x;have p:(s.heap.push (m3 (!i4 w))).IsTuple a c:=⟨_,C,rfl,n,rfl⟩;have B:=Ao x;have V:=F.sub_tuple_set;have U:=F.sub_tuple_frozenset;have q3:(Value.type "tuple" == Value.type "dict")=false:=by decide
  unfold Builtin.«set.__init__» noKeywords Builtin.Frozenset.updateFrom;generalize R:pyIter=pI
  wp_walk
  subst R;refine wpAny_pyIter_tuple p ?_;show wpAny _ _ (runValue (.builtin "set.update.loop" ⟨[.ref s.heap.objs.size,.ref (s.heap.push (m3 (!i4 w))).objs.size],[]⟩) >>= λ_=>pure ()) _ _ { s with heap:=(s.heap.push (m3 (!i4 w))).push _ };rw [I];have O:a≠s.heap.objs.size+1:=Ar (AM B);refine j _ (E _ _ _ _ (Walks.tuple S _ a O c) rfl ?_ ⟨⟨_,I▸Am _ rfl,rfl,rfl⟩,p.push _⟩);simp only [AA,CB,EN,not_or];exact ⟨Ar (AF _),CT B⟩
 ·obtain ⟨ob,x,q,n,D⟩:=u;obtain ⟨J,m,t,l⟩:=ob;dsimp only at q D;subst q D;have C:=Ai (m3 (!i4 w)) x;have p:(s.heap.push (m3 (!i4 w))).IsList a c:=⟨_,C,rfl,n,rfl⟩;have B:=Ao x;have V:=PySem.F.sub_list_set;have U:=PySem.F.sub_list_frozenset;have q3:(Value.type "list" == Value.type "dict")=false:=by decide
  unfold Builtin.«set.__init__» noKeywords Builtin.Frozenset.updateFrom;generalize R:pyIter=pI
  wp_walk
  subst R;refine wpAny_pyIter_list p ?_;show wpAny _ _ (runValue (.builtin "set.update.loop" ⟨[.ref s.heap.objs.size,.ref (s.heap.push (m3 (!i4 w))).objs.size],[]⟩) >>= λ_=>pure ()) _ _ { s with heap:=(s.heap.push (m3 (!i4 w))).push _ };rw [I];have O:a≠s.heap.objs.size+1:=Ar (AM B);refine j _ (E _ _ _ _ (Walks.list S _ a O c) rfl ?_ ⟨⟨_,I▸Am _ rfl,rfl,rfl⟩,p.push _⟩);simp only [AA,CB,EN,not_or];exact ⟨Ar (AF _),CT B⟩
theorem sU (a:Value) {Q:Value->Shared->Prop} (h:Q (.ref s.heap.objs.size) { s with heap:=s.heap.push (m3 (!i4 w)) }):codeAny (model prog w) A (.call (.builtin "set.__new__") ⟨[.type "set",a],[]⟩) (wants Q E) s:=by
 refine EA ?_;show wpAny _ A.in1 (checkBuiltinCall "set.__new__" ⟨[.type "set",a],[]⟩ >>= λ_=>again (.builtin "set.__new__" ⟨[.type "set",a],[]⟩)) _ _ s;refine Ag (DY (PySem.F.newCall_set_1 a) (Ah ⟨Dl PySem.F.plain_set_new _,Bt PySem.F.entry_set_new ?_⟩));rw [Bx PySem.F.plain_set_new _];unfold Builtin.«set.__new__» Builtin.Frozenset.newClass;have q:=sub_set_self;obtain ⟨e,g,d,c,b⟩:=s;dsimp only
 wp_walk
 refine CA (Ah ?_);dsimp only;simp only [newObj];exact Ag (wpAny_alloc (Ah (Ah h)))
theorem callLHt {a:Addr} {d:Array Value} (f:Nat->K) {Q:Value->Shared->Prop} (o:A.handled=none) (l:s.heap.IsTuple a d\/s.heap.IsList a d) (m:∀ i v,d[i]?=some v->knd.is (f i) v=true/\v.scannable=true) (k:d.size+1<scanBound)
  (h:∀ (g:Heap) (e:Nat),B2 knd f d.size s g->Q (.ref s.heap.objs.size) { s with heap:=g,toks:=e }):wpAny (model prog w) A (call (.type "set") [.ref a]) Q E s:=by
 obtain ⟨c,y,u⟩:=PySem.F.called_set.mro;have m2:=PySem.F.called_set.made;have B:=PySem.F.called_set.sub;refine Es (EA ?_);show wpAny _ _ (callAny (.type "set") _) _ _ _;refine Ah ⟨Code.quiet_builtin _ (by decide +kernel),Bt PySem.F.entry_type_call ?_⟩;rw [Around.under_plain (weight_type_call_type "set" [.ref a] []) rfl];have q:=PySem.F.called_set.notType;have C:=PySem.F.called_set.canCreate;have t:=PySem.F.typeCall_set_1 (.ref a)
 repeat (any_goals (first | assumption | wp_step))
 refine BX (sU (.ref a) (E:=E) (Q:=λr z=>r=.ref s.heap.objs.size/\z={ s with heap:=s.heap.push (m3 (!i4 w)) }) ⟨rfl,rfl⟩) λr z b=>?_
 match r,b with
 | .error _,b=>exact b
 | .ok .next,b=>exact b.elim
 | .ok .brk,b=>exact b.elim
 | .ok .cont,b=>exact b.elim
 | .ok (.ret r),b=>
  obtain ⟨rfl,rfl⟩:=b;have n:Shared.TypeIs { s with heap:=s.heap.push (m3 (!i4 w)) } (.ref s.heap.objs.size) "set":=⟨_,Am _ rfl,rfl⟩;have p:=PySem.F.called_set.init.lookup;have x:=PySem.F.called_set.init.bind (.ref s.heap.objs.size)
  repeat (any_goals (first | assumption | wp_step))
  refine BX (codeAny_call_builtin (R:=wants (λr z=>r=.none/\∃ g e,z={ s with heap:=g,toks:=e }/\B2 knd f d.size s g) E) PySem.F.called_set.init.plain PySem.F.entry_set_init (check_set_init_1 n ?_)) λr z b=>?_
  ·exact nO f (by simp [o]) l m k _ _ λg e j=>⟨rfl,g,e,rfl,j⟩
  ·match r,b with
   | .error _,b=>exact b
   | .ok .next,b=>exact b.elim
   | .ok .brk,b=>exact b.elim
   | .ok .cont,b=>exact b.elim
   | .ok (.ret r),b=>
    obtain ⟨rfl,g,e,rfl,j⟩:=b
    repeat (any_goals (first | assumption | wp_step))
    exact h _ _ j
end
theorem si_slot:Slot "set_iterator" "__next__" "set_iterator.__next__":=by
 refine .of (owner:="set_iterator") (n:="__next__") ?_ (by decide +kernel) (by decide +kernel) (by decide +kernel) ?_ ?_
 ·rw [typeLookup_type,builtinLookup_eq_fast];kernel_rfl
 ·first | exact .inl (by decide +kernel) | exact .inr (by decide +kernel)
 ·rw [EC];kernel_rfl
theorem I8:entryFor table "set_iterator.__next__" = some Builtin.«set_iterator.__next__»:=entryFor_of_tree (by kernel_rfl)
theorem cI:Manifest.owners.lookup (String.ofList ['r','o','t','a','r','e','t','i','_','t','e','s'].reverse)=some Manifest.sig_set_iterator:=by kernel_rfl
theorem Q1 (a:Value):argsOk "set_iterator.__next__" ⟨[a],[]⟩:=by
 unfold argsOk;rw [signature?_of (n:=['_','_','t','x','e','n','_','_']) (by kernel_rfl) cI];kernel_rfl
theorem iZ:entryFor table "set.__iter__" = some Builtin.«frozenset.__iter__»:=entryFor_alias (id':="frozenset.__iter__") (by kernel_rfl) rfl (by decide +kernel) (by kernel_rfl)
def SIt (h:Heap) (I a:Addr) (first:Value) (i n b:Nat):Prop:=∃ o,h.get? I=some o/\o.cls=.type "set_iterator"/\o.data=.fields #[first,.int i 0,.ref a,.int n 0,.int b 0]
theorem SIt.ty {s:Shared} {I a:Addr} {first:Value} {i n b:Nat} (x:SIt s.heap I a first i n b):s.TypeIs (.ref I) "set_iterator":=let ⟨o,d,c,_⟩:=x;⟨o,d,c⟩
section
variable {prog:Program} {w:World} {A:Around} {E:Value->Shared->Prop} {s:Shared}
theorem dU {f g i n c:Nat} {x:Value} {Q:Option Value->Shared->Prop} (b:SIt s.heap I a (.int (f:Nat) 0) i n c)
  (p:s.heap.get? a=some o) (hd:o.data=.set es c t) (q:t.fits es.size=true) (l:es.size=n)
  (hs:∀ (B:Around) (R:Option (Value×Nat)->Shared->Prop) (E:Value->Shared->Prop),R (some (x,g)) s->wpAny (model prog w) B (setNext a f i c) R E s)
  (r:∀ h',SIt h' I a (.int (g:Nat) 0) (i+1) n c->Heap.SameBut I s.heap h'->Q (some x) { s with heap:=h' }):wpAny (model prog w) A (pyNext (.ref I)) Q E s:=by
 obtain ⟨u,h,m,d⟩:=id b;refine Ag (Cs (Bv b.ty si_slot (AY si_slot b.ty I8 ?_ (Q1 _))));refine Ag (Ah (Ag (DP h d ?_)));refine Ag (Cd p hd q ?_);rw [if_neg (by rw [l];simp)];refine Ag (hs _ _ _ ?_);refine Ag (Ch h d (by simp) ?_);have e:=Obj.data_mapFields d (·.setIfInBounds 0 (rawInt g));have k:=Bd (Obj.mapFields (·.setIfInBounds 0 (rawInt g))) h (Obj.isFreed_of_fields e);refine Ag (Ch k e (by simp) ?_);have j:=Obj.data_mapFields e (·.setIfInBounds 1 (rawInt ((i:Int)+1)));refine Ah ⟨_,rfl,Ah (r _ ⟨_,Bd _ k (Obj.isFreed_of_fields j),?_,?_⟩ ((Bp ..).trans (Bp ..)))⟩
 ·exact (Obj.cls_mapFields ..).trans ((Obj.cls_mapFields ..).trans m)
 ·rw [j];simp [rawInt]
theorem Y6 {F:Value->Shared->Prop} (b:A.handled=none) (d:s.heap.get? I=some o) (a:o.data=.fields vs) (c:k<vs.size)
  (q:∀ (e:Addr) (h':Heap),Heap.ExtBut I s.heap h'->Shared.TypeIs { s with heap:=h' } (.ref e) "StopIteration"->F (.ref e) { s with heap:=h' }) :
  wpAny (model prog w) A (setField (.ref I) k u >>= λ_=>(newExc (.type "StopIteration") [] >>= λe=>raiseNew e:Sem Fin)) P F s:=by
 refine Ag (Ch d a c (Ag ?_));refine Ag (AK ?_ (by size_fits));refine Ag (DY (by first | rfl | (simp;rfl)) (AK ?_ (by size_fits)));refine Ag (wpAny_handled ?_);rw [b];refine Ag (Ah (wpAny_throw ?_));exact q _ _ (((Bp ..).extBut.push _).push _) ⟨_,Am _ rfl,rfl⟩
theorem hQ {f i n c:Nat} {Q:Option Value->Shared->Prop} (l:A.handled=none) (b:SIt s.heap I a (.int (f:Nat) 0) i n c)
  (j:s.heap.get? a=some o) (hd:o.data=.set es c t) (m:t.fits es.size=true) (h:es.size=n)
  (hs:∀ (B:Around) (R:Option (Value×Nat)->Shared->Prop) (E:Value->Shared->Prop),R none s->wpAny (model prog w) B (setNext a f i c) R E s)
  (p:∀ h',Heap.ExtBut I s.heap h'->Q none { s with heap:=h' }):wpAny (model prog w) A (pyNext (.ref I)) Q E s:=by
 obtain ⟨q,g,r,d⟩:=id b;refine Ag (Cs (Bv b.ty si_slot (AY si_slot b.ty I8 ?_ (Q1 _))));refine Ag (Ah (Ag (DP g d ?_)));refine Ag (Cd j hd m ?_);rw [if_neg (by rw [h];simp)];refine Ag (hs _ _ _ ?_);refine Y6 (by simp [l]) g d (by simp) λe h' x k=>?_;exact Ag (CC k isSubtype_stop (Ah (p _ x)))
theorem dF {es:Array (Int×Value)} {t:SetTable} {ps:List Nat} {c i n f p:Nat} {z:Int} {x:Value} {Q:Option Value->Shared->Prop} (b:SIt s.heap I a (.ref tp) i n f)
  (h:s.heap.get? a=some o) (hd:o.data=.set es f t) (l:t.fits es.size=true) (r:es.size=n) (v:s.heap.get? tp=some ot) (e:ot.data=.seq (ps.map λ(k:Nat)=>rawInt (k:Int)).toArray c)
  (q:ps[i]?=some p) (u:es[p]?=some (z,x))
  (B:∀ h',SIt h' I a (.ref tp) (i+1) n f->Heap.SameBut I s.heap h'->Q (some x) { s with heap:=h' }):wpAny (model prog w) A (pyNext (.ref I)) Q E s:=by
 obtain ⟨C,g,y,d⟩:=id b;refine Ag (Cs (Bv b.ty si_slot (AY si_slot b.ty I8 ?_ (Q1 _))));refine Ag (Ah (Ag (DP g d ?_)));refine Ag (Cd h hd l ?_);rw [if_neg (by rw [r];simp)];refine Ag (wpAny_seqItems v e ?_);have m:(ps.map λ(k:Nat)=>rawInt (k:Int)).toArray[((i:Int).toNat:Nat)]?=some (rawInt (p:Int)):=by
  rw [BD,Db,AG,q];rfl
 dsimp only;rw [m];refine Ag (Ag (BZ h hd l ?_));dsimp only;rw [if_neg (by simp),BD,u];refine Ah ?_;refine Ag (Ch g d (by simp) ?_);have j:=Obj.data_mapFields d (·.setIfInBounds 1 (rawInt ((i:Int)+1)));refine Ah ⟨_,rfl,Ah (B _ ⟨_,Bd _ g (Obj.isFreed_of_fields j),?_,?_⟩ (Bp ..))⟩
 ·exact (Obj.cls_mapFields ..).trans y
 ·rw [j];simp [rawInt]
theorem iB {es:Array (Int×Value)} {t:SetTable} {ps:List Nat} {c i n l:Nat} {Q:Option Value->Shared->Prop} (y:A.handled=none) (d:SIt s.heap I a (.ref tp) i n l)
  (v:s.heap.get? a=some o) (hd:o.data=.set es l t) (F:t.fits es.size=true) (D:es.size=n) (p:s.heap.get? tp=some ot) (h:ot.data=.seq (ps.map λ(k:Nat)=>rawInt (k:Int)).toArray c)
  (C:ps[i]?=none)
  (z:∀ h',Heap.ExtBut I s.heap h'->Q none { s with heap:=h' }):wpAny (model prog w) A (pyNext (.ref I)) Q E s:=by
 obtain ⟨H,f,G,g⟩:=id d;refine Ag (Cs (Bv d.ty si_slot (AY si_slot d.ty I8 ?_ (Q1 _))));refine Ag (Ah (Ag (DP f g ?_)));refine Ag (Cd v hd F ?_);rw [if_neg (by rw [D];simp)];refine Ag (wpAny_seqItems p h ?_);have u:(ps.map λ(k:Nat)=>rawInt (k:Int)).toArray[((i:Int).toNat:Nat)]?=none:=by
  rw [BD,Db,AG,C];rfl
 dsimp only;rw [u];refine Ag (Ch f g (by simp) ?_);have j:=Obj.data_mapFields g (·.setIfInBounds 0 (rawInt 0));have B:=Bd (Obj.mapFields (·.setIfInBounds 0 (rawInt 0))) f (Obj.isFreed_of_fields j);refine Y6 (by simp [y]) B j (by simp) λe h' x r=>?_;exact Ag (CC r isSubtype_stop (Ah (z _ λb ob m q=>x b ob m ((Bp s.heap I _).extBut b ob m q))))
end
theorem fH:Slot "set_iterator" "__iter__" "set_iterator.__iter__":=by
 refine .of (owner:="set_iterator") (n:="__iter__") ?_ (by decide +kernel) (by decide +kernel) (by decide +kernel) ?_ ?_
 ·rw [typeLookup_type,builtinLookup_eq_fast];kernel_rfl
 ·first | exact .inl (by decide +kernel) | exact .inr (by decide +kernel)
 ·rw [EC];kernel_rfl
theorem ib:entryFor table "set_iterator.__iter__" = some Builtin.«dict_keyiterator.__iter__»:=entryFor_alias (id':="dict_keyiterator.__iter__") (by kernel_rfl) rfl (by decide +kernel) (by kernel_rfl)
theorem oZ (a:Value):argsOk "set_iterator.__iter__" ⟨[a],[]⟩:=by
 unfold argsOk;rw [signature?_of (n:=['_','_','r','e','t','i','_','_']) (by kernel_rfl) cI];kernel_rfl
theorem O0 {a:Type}:∀ (l:List a) (i:Nat) (h:i<l.length),(l[i] :: l.eraseIdx i).Perm l
 | [],i,h=>by cases h
 | x :: l,0,h=>.refl _
 | x :: l,i+1,h=>by
  have z:i<l.length:=Nat.lt_of_succ_lt_succ h;exact (List.Perm.swap x l[i] (l.eraseIdx i)).trans ((O0 l i z).cons x)
theorem fK (f:Nat->Nat):∀ (n k:Nat) (l:List α) (out:Array α),n=l.length->(pickOrder.go f n k l out).toList.Perm (out.toList++l)
 | 0,k,l,out,e=>by
  have:l=[]:=Ci.mp e.symm;subst this;unfold pickOrder.go;simp
 | n+1,k,l,out,e=>by
  unfold pickOrder.go;have z:f k % l.length<l.length:=Nat.mod_lt _ (by omega);rw [Aj z];refine (fK f n (k+1) _ _ (by rw [List.length_eraseIdx];split <;> omega)).trans ?_;rw [Ea,BB];refine List.Perm.append_left _ ?_;exact O0 l _ z
theorem gm (f:Nat->Nat) (xs:Array α):(pickOrder f xs).toList.Perm xs.toList:=by
 have:=fK f xs.size 0 xs.toList #[] (by simp);unfold pickOrder;grind
section
variable {prog:Program} {w:World} {A:Around} {E:Value->Shared->Prop} {s:Shared}
theorem tq {n:Nat} {Q:Nat->Shared->Prop} (a:n≠0) (q:∀ k d,k<n->Q k { s with drawn:=d }):wpAny (model prog w) A (choose src n) Q E s:=
 λ_ _ _=>⟨a,q _ _ (Nat.mod_lt _ (Nat.pos_of_ne_zero a))⟩
theorem Y9:∀ (n:Nat) (l:List α) (s:Shared) (Q:List α->Shared->Prop),n=l.length->(∀ ys d,ys.Perm l->Q ys { s with drawn:=d })->wpAny (model prog w) A (drawOrder n l) Q E s
 | 0,l,s,Q,e,q=>by
  have:l=[]:=Ci.mp e.symm;subst this;exact Ah (q [] s.drawn (.refl _))
 | n+1,[],s,Q,e,q=>by cases e
 | n+1,x :: l,s,Q,e,q=>by
  refine Ag (tq (by simp) λk d a=>?_);rw [Aj a];refine Ag (Y9 n _ _ _ (by rw [List.length_eraseIdx,if_pos a];simp at e ⊢;omega) λys b p=>Ah ?_);exact q _ b ((p.cons _).trans (O0 (x :: l) k a))
variable {a:Addr} {o:Obj} {es:Array (Int×Value)} {t:SetTable} {ep:Nat}
theorem text_atHt (a:i4 w=true):wpAny (model prog w) A setsByText (λb z=>b=true/\s=z) E s:=Ag (CA (Ah ⟨a,rfl⟩))
theorem text_noHt (a:i4 w=false):wpAny (model prog w) A setsByText (λb z=>b=false/\s=z) E s:=Ag (CA (Ah ⟨a,rfl⟩))
theorem fQ {f i:Nat} {R:Option (Value×Nat)->Shared->Prop} (h:i4 w=true) (g:s.heap.get? a=some o) (hd:o.data=.set es ep t) (j:t.fits es.size=true)
  (q:R (((pickOrder (w.params.setOrder a ep) es)[i]?).map λe=>(e.2,f)) s):wpAny (model prog w) A (setNext a f i ep) R E s:=by
 refine Ag (BZ g hd j (Ag (AI (text_atHt h) (λb z ⟨c,d⟩=>?_) λ_ _ x=>x)));subst c d;rw [if_pos rfl];rw [if_neg (by simp)];refine Ag (Ag (BZ g hd j (Ag (AI (text_atHt h) (λb z ⟨c,d⟩=>?_) λ_ _ x=>x))));subst c d;rw [if_pos rfl];exact Ag (CA (Ah (Ah q)))
theorem ko {R:Option (Value×Nat)->Shared->Prop} (d:i4 w=false) (c:s.heap.get? a=some o) (hd:o.data=.set es ep t) (h:t.fits es.size=true) (k:t.led=true) (g:(!t.plain&&decide (es.size > 1))=false)
  (q:R (match es[SetTable.below t.place f]?,t.place[SetTable.below t.place f]? with | some (_,x),some j=>some (x,j+1) | _,_=>none) s):wpAny (model prog w) A (setNext a f i ep) R E s:=by
 refine Ag (BZ c hd h (Ag (AI (text_noHt d) (λb z ⟨e,l⟩=>?_) λ_ _ x=>x)));subst e l;rw [if_neg At];show wpAny _ _ (if (!t.plain&&decide (es.size > 1))=true then _ else _) _ _ _;rw [g,if_neg At];refine Ag (?_:wpAny _ _ (if (!t.led&&!es.isEmpty)=true then _ else _) _ _ _);rw [k,if_neg (by simp)];exact Ah (Ah q)
end
section
variable {prog:Program} {w:World} {A:Around} {E:Value->Shared->Prop} {s:Shared} {K:Type} [DecidableEq K] {knd:KeyKind prog w K} {S:K->Bool} {n:Nat}
variable {a:Addr} {o:Obj} {es:Array (Int×Value)} {t:SetTable} {ep:Nat}
theorem SIt.mv {I a:Addr} {first:Value} {i n b:Nat} (x:SIt h I a first i n b) (e:∀ o,h.get? I=some o->h'.get? I=some o):SIt h' I a first i n b:=let ⟨o,c,r⟩:=x;⟨o,e o c,r⟩
theorem fN {I a:Addr} {first:Value} {i n b:Nat} {Q:Value->Shared->Prop} (x:SIt s.heap I a first i n b) (q:Q (.ref I) s):wpAny (model prog w) A (pyIter (.ref I)) Q E s:=by
 refine wpAny_pyIter_slot x.ty fH (AY fH x.ty ib ?_ (oZ _));exact Ah ⟨_,rfl,"set_iterator",_,x.ty,si_slot.lookup,q⟩
def jO (t:SetTable):Nat->Nat
 | 0=>0
 | i+1=>t.place.getD i 0+1
theorem du (l:A.handled=none) {I:Addr} (m:a≠I) (x:fv knd o S n es ep t) (f:Nat->Nat) (vs:List Value) (u:vs.length=n)
  (p:∀ i (B:Around) (s:Shared) (R:Option (Value×Nat)->Shared->Prop) (E:Value->Shared->Prop) v,s.heap.get? a=some o->vs[i]?=some v->R (some (v,f (i+1))) s->wpAny (model prog w) B (setNext a (f i) i ep) R E s)
  (k:∀ (B:Around) (s:Shared) (R:Option (Value×Nat)->Shared->Prop) (E:Value->Shared->Prop),s.heap.get? a=some o->R none s->wpAny (model prog w) B (setNext a (f n) n ep) R E s) :
  Walks prog w A I [I,a] [I] n (λi v=>vs[i]?=some v) (λi h=>SIt h I a (.int (f i:Nat) 0) i n ep/\h.get? a=some o) where
 sub:=λb d=>by simp at d;simp [d]
 frame:=λi h h' st g=>⟨st.1.mv λo e=>g I (by simp) o e,g a (by simp) _ st.2⟩
 item:=λi s Q E r st q=>by
  have e:vs[i]?=some vs[i]:=Aj (by omega);refine dU st.1 st.2 x.2.1 x.2.2.2.2.2.1 x.2.2.2.2.2.2.1 (λB R E z=>p i B s R E _ st.2 e z) λh' y j=>q _ h' s.toks e ⟨y,?_⟩ λb ob d z=>j.extBut b ob (λc=>d (by simp [c])) z;exact j.extBut _ _ m st.2
 done:=λs Q E st q=>hQ l st.1 st.2 x.2.1 x.2.2.2.2.2.1 x.2.2.2.2.2.2.1 (λB R E z=>k B s R E st.2 z) λh' y=>q h' s.toks λb ob d z=>y b ob (λc=>d (by simp [c])) z
 self:=λ_ _ _ _ st q=>fN st.1 q
theorem dG (G:A.handled=none) {I g:Addr} (F:a≠I) (B:g≠I) (x:fv knd o S n es ep t) {ot:Obj} {c:Nat} (ps:List Nat) (f:ot.data=.seq (ps.map λ(k:Nat)=>rawInt (k:Int)).toArray c) (j:ps.Perm (List.range n)) :
  Walks prog w A I [I,a,g] [I] n (λi v=>(ps.map λp=>(es.toList.map (·.2)).getD p .none)[i]?=some v) (λi h=>SIt h I a (.ref g) i n ep/\h.get? a=some o/\h.get? g=some ot) where
 sub:=λb d=>by simp at d;simp [d]
 frame:=λi h h' st l=>⟨st.1.mv λo e=>l I (by simp) o e,l a (by simp) _ st.2.1,l g (by simp) _ st.2.2⟩
 item:=λi s Q E H st q=>by
  have C:ps.length=n:=by rw [j.length_eq,AN]
  have u:=x.2.2.2.2.2.2.1;have e:ps[i]?=some (ps[i]'(by omega)):=Aj (by omega);have r:ps[i]'(by omega)<es.size:=by
   have:ps[i]'(by omega)∈List.range n:=j.mem_iff.mp (Ba _);rw [u];exact AH.mp this
  generalize ps[i]'(by omega)=p at e r;have D:=Bh r;refine dF st.1 st.2.1 x.2.1 x.2.2.2.2.2.1 u st.2.2 f e D λh' y m=>q _ h' s.toks ?_ ⟨y,m.extBut _ _ F st.2.1,m.extBut _ _ B st.2.2⟩ λb ob d z=>m.extBut b ob (λc=>d (by simp [c])) z;rw [AG,e];simp [r]
 done:=λs Q E st q=>by
  have C:ps.length=n:=by rw [j.length_eq,AN]
  exact iB G st.1 st.2.1 x.2.1 x.2.2.2.2.2.1 x.2.2.2.2.2.2.1 st.2.2 f (AT (by omega)) λh' y=>q h' s.toks λb ob d z=>y b ob (λc=>d (by simp [c])) z
 self:=λ_ _ _ _ st q=>fN st.1 q
structure Itd (prog:Program) (w:World) (a:Addr) (es:Array (Int×Value)) (s z:Shared) (I:Addr):Prop where
 keep:∀ b ob,s.heap.get? b=some ob->z.heap.get? b=some ob
 rest:z={ s with heap:=z.heap,drawn:=z.drawn }
 new:s.heap.objs.size<=I
 walk:∃ (vs:List Value) (fp:List Addr) (St:Nat->Heap->Prop),vs.Perm (es.toList.map (·.2))/\(∀ B:Around,B.handled=none->Walks prog w B I fp [I] es.size (λi v=>vs[i]?=some v) St)/\St 0 z.heap/\∀ b∈fp,b=a\/(s.heap.objs.size<=b/\b<z.heap.objs.size)
theorem pA (c:s.heap.get? a=some o) (x:fv knd o S n es ep t) (q:∀ I z,Itd prog w a es s z I->Q (.ref I) z):wpAny (model prog w) A (pyIter (.ref a)) Q E s:=by
 have M:s.TypeIs (.ref a) "set":=⟨o,c,x.1.1⟩;have O:=Ao c;obtain ⟨x1,h,x3,x4,x5,x6,x7,x8,Z⟩:=id x;refine wpAny_pyIter_slot M PySem.F.slot_set_iter (AY PySem.F.slot_set_iter M iZ ?_ (PySem.F.args_set_iter_1 _));unfold Builtin.«frozenset.__iter__» Builtin.Frozenset.slot0 slotArgs;simp only [List.isEmpty_nil,Dm,BJ,↓reduceIte,LawfulMonad.bind_assoc,CN,bne_self_eq_false];refine Ag (Ah ?_);refine Ag (Ah ?_);refine Ag (Ag (Cd c h x6 (Ah ?_)));refine Ag (Ag (BZ c h x6 ?_));have X:=Ar O;have H:es.size<4096:=x5;have j:∀ (f:Nat->Nat) (vs:List Value),f 0=0->vs.Perm (es.toList.map (·.2)) ->
   (∀ i (B:Around) (s:Shared) (R:Option (Value×Nat)->Shared->Prop) (E:Value->Shared->Prop) v,s.heap.get? a=some o->vs[i]?=some v->R (some (v,f (i+1))) s->wpAny (model prog w) B (setNext a (f i) i ep) R E s) ->
   (∀ (B:Around) (s:Shared) (R:Option (Value×Nat)->Shared->Prop) (E:Value->Shared->Prop),s.heap.get? a=some o->R none s->wpAny (model prog w) B (setNext a (f n) n ep) R E s) ->
   wpAny (model prog w) A.in1 (setEpoch a >>= λk=>newFields "set_iterator" [rawInt 0,rawInt 0,.ref a,rawInt es.size,rawInt k] >>= λv=>ret v) (λK z=>∃ v,K=Fin.done (Flow.ret v)/\∃ T r,z.TypeIs v T/\typeLookup (Value.type T) (Str.ofString "__next__")=pure (some r)/\Q v z) E s:=λf vs Y p l C=>by
  have W:vs.length=n:=by rw [p.length_eq,Ak,Ax,x7]
  refine Ag (wpAny_setEpoch_of c h x6 (Ag (AK (Ah ⟨_,rfl,"set_iterator",_,⟨_,Am _ rfl,rfl⟩,si_slot.lookup,q _ _ ?_⟩) (by size_fits))));refine ⟨λb ob e=>Ai _ e,rfl,Ap _,vs,[s.heap.objs.size,a],_,p,λB L=>x7▸du L X x f vs W l C,⟨⟨_,Am _ rfl,rfl,?_⟩,Ai _ c⟩,λb g=>?_⟩
  ·rcases AA.mp g with rfl | g
   ·simp_all
   ·grind
  ·rw [Y];rfl
 cases g:i4 w with
 | true=>
  refine Ag (AI (text_atHt g) (λb z ⟨F,m⟩=>?_) λ_ _ y=>y);subst F m;refine Ah ?_;have p:=gm (w.params.setOrder a ep) es;refine j (λ_=>0) ((pickOrder (w.params.setOrder a ep) es).toList.map (·.2)) rfl (p.map _) (λi B s R E v c J r=>fQ g c h x6 ?_) λB s R E c r=>fQ g c h x6 ?_
  ·grind
  ·have:(pickOrder (w.params.setOrder a ep) es)[n]?=none:=by
    have:=p.length_eq;rw [Ax,Ax,x7] at this;exact Array.getElem?_eq_none (by omega)
   rw [this];exact r
 | false=>
  refine Ag (AI (text_noHt g) (λb z ⟨F,m⟩=>?_) λ_ _ y=>y);subst F m;refine Ah ?_;cases hd:(!t.plain&&decide (es.size > 1)) with
  | false=>
   show wpAny _ _ (if (!false&&(!t.plain&&decide (es.size > 1)))=true then _ else _) _ _ _;rw [hd,if_neg (by simp)];have D:t.led=true:=by rw [Z,g];rfl
   have V:t.place.size=es.size:=by
    have:=x6;unfold SetTable.fits at this;simp at this;exact this.1
   have P:Rise t.place:=by
    cases pl:t.plain with
    | true=>exact x8.up pl
    | false=>
     rw [pl] at hd;have z:t.place.size<=1:=by simp at hd;omega
     unfold Rise;have:t.place.toList.length<=1:=by simpa using z
     match t.place.toList,this with
     | [],_=>exact .nil
     | [y],_=>grind
   have U:∀ i,i<=n->SetTable.below t.place (jO t i)=i:=λi hi=>by
    cases i with
    | zero=>exact eA P
    | succ i=>
     have z:i<t.place.size:=by omega
     show SetTable.below t.place (t.place.getD i 0+1)=i+1;rw [show t.place.getD i 0=t.place[i] by simp [Array.getD,z]];exact dv P z
   refine j (jO t) (es.toList.map (·.2)) rfl (.refl _) (λi B s R E v c J r=>ko g c h x6 D hd ?_) λB s R E c r=>ko g c h x6 D hd ?_
   ·rw [AG,Be,Co] at J;obtain ⟨e,l,C⟩:=J;have z:i<es.size:=by
     rcases Nat.lt_or_ge i es.size with u | u
     ·exact u
     ·grind
    have N:i<t.place.size:=by omega
    rw [U i (by omega),l,Bh N];obtain ⟨F,m⟩:=e;subst C;have:jO t (i+1)=t.place[i]+1:=by show t.place.getD i 0+1=_;simp [Array.getD,N]
    rw [this] at r;exact r
   ·grind
  | true=>
   show wpAny _ _ (if (!false&&(!t.plain&&decide (es.size > 1)))=true then _ else _) _ _ _;rw [hd,if_pos (by simp)];refine Ag (Y9 _ _ _ _ (by simp) λps d p=>?_);have pl:ps.length=es.size:=by rw [p.length_eq,AN]
   refine Ag (ED (Ag (wpAny_setEpoch_of (Ai _ c) h x6 (Ag (AK (Ah ⟨_,rfl,"set_iterator",_,⟨_,Am _ rfl,rfl⟩,si_slot.lookup,q _ _ ?_⟩) (by size_fits))))) (by rw [Ak,pl,AD];omega));have G:(s.heap.push { cls:=.type "tuple",data:=.seq (ps.map λ(k:Nat)=>rawInt (k:Int)).toArray }).objs.size=s.heap.objs.size+1:=Cg _ _;refine ⟨λb ob e=>Ai _ (Ai _ e),rfl,?g1,ps.map λp=>(es.toList.map (·.2)).getD p .none,[(s.heap.push { cls:=.type "tuple",data:=.seq (ps.map λ(k:Nat)=>rawInt (k:Int)).toArray }).objs.size,a,s.heap.objs.size],_,?g2,λB L=>x7▸dG L ?g3 ?g4 x (ot:={ cls:=.type "tuple",data:=.seq (ps.map λ(k:Nat)=>rawInt (k:Int)).toArray }) ps rfl (x7▸p),⟨⟨_,Am _ rfl,rfl,?g5⟩,?g6,?g7⟩,λb g=>?g8⟩
   case g1=>
    rw [G];exact Bl _
   case g2=>
    refine (p.map _).trans ?_;have:(List.range es.size).map (λp=>(es.toList.map (·.2)).getD p .none)=es.toList.map (·.2):=by
     refine List.ext_getElem (by simp) λi l C=>?_;simp at l C;simp [l]
    rw [this]
   case g3=>
    rw [G];exact Ar (AM O)
   case g4=>
    rw [G];exact Ar (AF _)
   case g5=>
    rfl
   case g6=>
    exact Ai _ (Ai _ c)
   case g7=>
    exact Ai _ (Am _ rfl)
   case g8=>
    have m:((s.heap.push { cls:=.type "tuple",data:=.seq (ps.map λ(k:Nat)=>rawInt (k:Int)).toArray }).push { cls:=.type "set_iterator",data:=.fields [Value.ref s.heap.objs.size,rawInt 0,Value.ref a,rawInt ↑es.size,rawInt ↑ep].toArray }).objs.size=s.heap.objs.size+1+1:=(Cg _ _).trans (congrArg (· + 1) G);rcases AA.mp g with rfl | g
    ·grind
    ·grind
end
section
variable {prog:Program} {w:World} {A:Around} {E:Value->Shared->Prop} {s:Shared} {K:Type} [DecidableEq K] {knd:KeyKind prog w K} {S:K->Bool} {n:Nat}
variable {a:Addr} {o:Obj} {es:Array (Int×Value)} {t:SetTable} {ep:Nat}
theorem dZ (Z:A.handled=none) (H:s.heap.get? a=some o) (x:fv knd o S n es ep t)
  (q:∀ z vs,(∀ b ob,s.heap.get? b=some ob->z.heap.get? b=some ob)->z={ s with heap:=z.heap,drawn:=z.drawn,toks:=z.toks }->vs.Perm (es.toList.map (·.2))->s.heap.objs.size<z.heap.objs.size->Q vs z):wpAny (model prog w) A (collect (.ref a)) Q E s:=by
 have U:=Ao H;have G:es.size<4096:=x.2.2.2.2.1;refine Ag (DN (Bt DG ?_));rw [Bx DH _];refine Ag (AK (Ah ⟨Dl Cj _,Bt Em ?_⟩));rw [Bx Cj _];have k:=Ai ({ cls:=.type "list",data:=.seq ([]:List Value).toArray }:Obj) H;have N:Shared.TypeIs { s with heap:=s.heap.push { cls:=.type "list",data:=.seq ([]:List Value).toArray } } (.ref a) "set":=⟨o,k,x.1.1⟩;have R:(s.heap.push { cls:=.type "list",data:=.seq ([]:List Value).toArray }).get? s.heap.objs.size=some { cls:=.type "list",data:=.seq ([]:List Value).toArray }:=Am _ rfl;have hz:(s.heap.push { cls:=.type "list",data:=.seq ([]:List Value).toArray }).objs.size=s.heap.objs.size+1:=Cg _ _;show wpAny _ A.in1 (Builtin.List.listExtendWith (.ref s.heap.objs.size) (.ref a) (.ref s.heap.objs.size)) _ _ _;have T:Builtin.List.listSameRef (.ref s.heap.objs.size) (.ref a)=false:=by
  have:=CT U;simp [Builtin.List.listSameRef,this]
 refine Ag (Cm N ?_);rw [if_neg (by rw [T];decide)];refine Ag (pA k x λI z d=>Ag (AJ ?_));have j:z.TypeIs (.ref a) "set":=⟨o,d.keep _ _ k,x.1.1⟩;refine Ag (wpAny_specialOf j PySem.F.slot_set_len.lookup ?_)
 wp_delta
 refine Ag (CC (b:=true) j (by rw [EC];kernel_rfl) ?_);refine Ag (Cm j (Ah ?_));rw [if_pos (by decide)];refine Ag (BS ?_);obtain ⟨vs,X,St,p,W,st,V⟩:=d.walk;have D:=d.keep _ _ R;refine Ag ?_;refine Ag (wpAny_updateSeq D rfl ?_);have C:=Bd (Obj.mapSeq (·.push Value.none)) D rfl;refine wpAny_updateSeq C rfl ?_;have F:=Bd (Obj.mapSeq (·.pop)) C rfl;have L:s.heap.objs.size∉X:=λhm=>by
  rcases V _ hm with u | u
  ·grind
  ·grind
 have B:∀ b ob,b≠s.heap.objs.size->z.heap.get? b=some ob->((z.heap.update s.heap.objs.size (Obj.mapSeq (·.push Value.none))).update s.heap.objs.size (Obj.mapSeq (·.pop))).get? b=some ob:=
  λb ob l e=>(BA _ _ (Ne.symm l)).trans ((BA _ _ (Ne.symm l)).trans e)
 have J:=W A.in1 Z;refine Ah ⟨Dl PySem.F.plain_extend_loop _,codeAny_extend_loopS J.toS (by rw [AD];omega) _ L _ es.size 0 _ _ _ rfl (Bj _) (J.frame 0 _ _ st λb l ob e=>B b ob (λh=>L (h▸l)) e) F (ItemsOf.nil _) λy f c m v g=>?_⟩;refine Ag (EK v (Ah (q y f.toList (λb ob e=>?_) ?_ ?_ (Ao v))))
 ·have K:=Ao e;refine m.heap b ob (λl=>?_) (B b ob (Ar K) (d.keep b ob (Ai _ e)));rcases AA.mp l with h | h
  ·grind
  ·have:=d.new;rw [<- AU.mp h,hz] at this;exact absurd (AB K (Nat.le_of_succ_le this)) (BK _)
 ·have P:=m.gens;have Y:=m.os;have r:=d.rest;have r1:z.gens=s.gens:=by rw [r]
  have r2:z.os=s.os:=by rw [r]
  obtain ⟨yh,yg,yd,yt,yo⟩:=y;subst P Y;rw [r1,r2]
 ·have:f.toList=vs:=by
   have ln:vs.length=es.size:=by rw [p.length_eq,Ak,Ax]
   refine List.ext_getElem (by rw [Ax,g.1,ln]) λi O M=>?_;have:vs[i]?=some f.toList[i]:=g.2 i f.toList[i] (by rw [<- Be];exact Aj O);rw [Aj M,Cv] at this;exact this.symm
  rw [this];exact p
end
section
variable {prog:Program} {w:World} {A:Around} {E:Value->Shared->Prop} {s:Shared} {S:Int->Bool} {n:Nat} {a:Addr}
theorem aX (h:ElemsOf (intKind prog w) l):∃ a,IntsAre (l.map (·.2)) a/\∀ k,k∈a↔∃ e∈l,(intKind prog w).is k e.2=true:=by
 induction l with
 | nil=>exact ⟨[],.nil,λk=>by simp⟩
 | cons e l d=>
  obtain ⟨a,g,c⟩:=d h.tail;obtain ⟨⟨k,b,_⟩,_⟩:=h.head;obtain ⟨t,f⟩:=Value.isInt_shape b;refine ⟨k :: a,?_,λj=>?_⟩
  ·rw [AW,f];exact .cons k t g
  ·rw [AA,c];have:(intKind prog w).is j e.2=true↔j=k:=by
    rw [KeyKind.is_eq_decide b j,Az]
   constructor
   ·grind
   ·grind
theorem gA:∀ {us vs:List Value} {ks:List Int},us.Perm vs->IntsAre vs ks->∃ js,IntsAre us js/\js.Perm ks:=λ{us vs ks} p=>by
 induction p generalizing ks with
 | nil=>grind
 | cons x _ ih=>
  intro h;cases h with
  | cons n t h=>
   obtain ⟨js,a,b⟩:=ih h;exact ⟨n :: js,.cons n t a,b.cons n⟩
 | swap x y l=>
  intro h;cases h with
  | cons n t h=>
   cases h with
   | cons m u h=>exact ⟨_,.cons m u (.cons n t h),.swap _ _ _⟩
 | trans _ _ i1 i2=>
  intro h;obtain ⟨js,a,b⟩:=i2 h;obtain ⟨ms,c,d⟩:=i1 a;exact ⟨ms,c,d.trans b⟩
theorem cA:∀ {l m:List Int},l.Nodup->(∀ x∈l,x∈m)->l.length=m.length->l.Perm m
 | [],m,_,_,e=>by
  have:m=[]:=Ci.mp e.symm;subst this;exact .refl _
 | x :: l,m,a,b,e=>by
  have d:=b x Av;rw [BV] at a;have f:=cA a.2 (λy c=>(Cy (λh:y=x=>a.1 (h▸c))).mpr (b y (AC _ c))) (by
   rw [Cb d];simp at e;omega)
  exact (f.cons x).trans (List.perm_cons_erase d).symm
theorem sortLHt (v:A.handled=none) (F:SetL (intKind prog w) s.heap a (D7 ns) ns.length) (r:ns.Nodup) (D:ns.length<64)
  (q:∀ (z:Shared) (p:Addr) (out:Array Value) (ms:List Int) (c:Nat),(∀ b ob,s.heap.get? b=some ob->z.heap.get? b=some ob)->z={ s with heap:=z.heap,drawn:=z.drawn,toks:=z.toks }->s.heap.objs.size<=p->z.heap.get? p=some (seqObj "list" out c)->IntsAre out.toList ms->ms.Perm ns->ms.Pairwise (·<=·)->Q (.ref p) z) :
  wpAny (model prog w) A (call (.builtin "sorted") [.ref a]) Q E s:=by
 obtain ⟨o,es,J,t,l,x⟩:=F;obtain ⟨u,i,k2⟩:=aX x.2.2.1;have j:u.length=ns.length:=by
  rw [<- IntsAre.length i,Ak,Ax];exact x.2.2.2.2.2.2.1
 have m:=cA r (λy C=>(k2 y).mpr ((x.2.2.2.1 y).mp (by simpa [D7] using C))) j.symm;refine CG Ee DQ DR (DS _) ?_;refine Ag (Ah (Ag (dZ (by simp [v]) l x λz vs f rs p I=>Ag (Ct ?_ (by rw [p.length_eq,Ak,Ax,AD];have z:es.size<4096:=x.2.2.2.2.1;omega)))));obtain ⟨js,k,g⟩:=gA p i;have K:vs.length=ns.length:=by rw [IntsAre.length k,g.length_eq,j]
 have d:(z.heap.push (seqObj "list" vs.toArray 0)).get? z.heap.objs.size=some (seqObj "list" vs.toArray 0):=Am _ rfl;refine Ag (AJ (AY DD ⟨_,d,rfl⟩ Ds (DE d k (by omega) λout ms H n G=>⟨_,rfl,Ah ⟨_,rfl,?_⟩⟩) (DF _)));obtain ⟨c,B⟩:=sortedHeap_at d;refine q _ _ out ms c (λb ob e=>?_) ?_ (Ck I) B H (n.trans (g.trans m.symm)) G
 ·have h:=Ao (f b ob e);rw [sortedHeap_old (Ar h) (by rw [El];exact AM h)];exact Ai _ (f b ob e)
 ·grind
end
end HT
namespace L3
open PySem PySem.Spec PyProof.Rows L2
def CXr (P:Program) (w:World) (K:PySem.W.Frag):List PySem.Env->Hp->Shared->XK->Value->Shared->Prop:=λb H s E e s'=>
 ∃ a C d c H',e=.ref a/\s'.os=s.os/\AllBare s'.gens/\Un (frs b) [] H H' s.heap s'.heap/\HOk P w H' s'.heap/\Fx K H' a C d c/\E e none H'
abbrev CXd (P:Program) (w:World) (K:PySem.W.Frag):CXT:=⟨CXr P w K,false⟩
section
variable {K:PySem.W.Frag} {cl:Nat->Addr} {xe xe':Addr->Hp->Prop} {α β:Type} {μ:Mp} {H H':Hp} {S:Sto} {a C:Addr} {d tb:Option Addr} {P:Program} {w:World} {h:Heap}
theorem Post.ximp {G:α->Sto->Mp->Hp->Prop} (p:Post K cl xe μ H r G) (k:∀ n S μ' H' a,r=.exn n S->Lat μ H μ' H'->Rep K cl μ' S H'->μ'.pl[n]?=some a->xe a H'->xe' a H'):Post K cl xe' μ H r G:=by
 cases r with
 | ok a S=>exact p
 | exn n S=>exact λμ' H' a l r e=>k n S μ' H' a rfl l r e (p μ' H' a l r e)
 | bad=>exact p
def nx (m:M α):M α:=λS=>match m S with
 | .exn _ _=>.bad
 | r=>r
theorem Post.nx {G:α->Sto->Mp->Hp->Prop} (p:Post K cl xe μ H (nx m S) G):Post K cl xe' μ H (m S) G:=by
 unfold L3.nx at p;cases e:m S with
 | ok a S1=>rw [e] at p;exact p
 | exn n S1=>rw [e] at p;exact p.elim
 | bad=>rw [e] at p;exact p
theorem Rep.mv {n:Nat} (r:Rep K cl μ S H) (hk:HOk P w H h) (e:μ.pl[n]?=some a) (fx:H a=some (N2 tb a C d)) (m:Mv H a C d H'):Lat μ H μ H'/\Rep K cl μ S H':=by
 have am:=AS e;have l:Lat μ H μ H':=⟨λ_ _ h=>h,λb o q nb=>m.1 b o (λz=>nb (z▸am)) q,λ_ h=>.inl h,rfl⟩;refine ⟨l,r.len,r.nd,λi o b e1 e2=>?_,λb mb=>let ⟨h1,u,h2⟩:=r.res b mb;⟨h1,u,l.oth _ _ h2 h1⟩,r.tb.mv λa u e n1 n2=>⟨l.oth _ _ e n1,n1,n2⟩⟩;have ho:=r.ats i o b e1 e2;by_cases hb:b=a
 ·subst hb;cases o with
  | lst ds=>obtain ⟨xs,q,_⟩:=ho;rw [fx] at q;simp [N2] at q
  | dct kvs=>obtain ⟨xs,q,_⟩:=ho;rw [fx] at q;simp [N2] at q
  | exc c fs=>
   obtain ⟨xc,gs,q,fr,o⟩:=ho;obtain ⟨tb',m2⟩:=m.2;obtain ⟨vs,q1,_⟩:=(hk b _ fx).1;rcases o with ⟨z,e2⟩ | ⟨d',h1,h2,e2,e3⟩
   ·obtain ⟨vs2,q2,_⟩:=(hk b _ e2).1;rw [q1] at q2;cases q2;exact ⟨xc,gs,Paired.mono (λ_ _ ⟨z,w⟩=>⟨z,w.later l⟩) q,tb',.inl ⟨z,m2⟩⟩
   ·obtain ⟨vs2,q2,_⟩:=(hk b _ e2).1;rw [q1] at q2;cases q2;exact ⟨xc,gs,Paired.mono (λ_ _ ⟨z,w⟩=>⟨z,w.later l⟩) q,tb',.inr ⟨d',h1,h2,m2,m.1 d' _ h1 e3⟩⟩
 ·obtain ⟨u,q⟩:=ho.some;exact ho.later l (by rw [q];exact m.1 b u hb q)
end
def xOf (X:Cx) (a:Addr) (H:Hp):Prop:=∀ (pins:List (Addr×Obj)) (σ:L2.St) (s:Shared) (C:Addr) (d b:Option Addr),L2.Inv X pins σ H s->Fx X.K H a C d b->X.xe (.ref a) s
def spX (K:PySem.W.Frag) (cl:Nat->Addr) (n:Nat) (a:List D->M D):Sp:=λvs H Q E=>vs.length=n/\∃ μ S ds,RDs K μ H ds vs/\Rep K cl μ S H/\Post K cl (kr E) μ H (a ds S) λd _ μ' H'=>∀ v,RD K μ' H' d v->Q v H'
section
variable {K:PySem.W.Frag} {cl:Nat->Addr} {xe xe':Addr->Hp->Prop} {α:Type} {μ:Mp} {H:Hp}
theorem Post.up {G:α->Sto->Mp->Hp->Prop} (p:Post K cl xe μ H r G) (k:∀ a H',xe a H'->xe' a H'):Post K cl xe' μ H r G:=p.ximp λ_ _ _ H' a _ _ _ _ h=>k a H' h
theorem Post.x0 {G:α->Sto->Mp->Hp->Prop} (p:Post K cl (kr E0) μ H r G):Post K cl xe μ H r G:=p.up λ_ _ z=>False.elim z
end
abbrev x0:Addr->Hp->Prop:=kr E0
section
variable {X:Cx} {cl:Nat->Addr} {xe:Addr->Hp->Prop} {e tg:Expr} {es:List Expr}
theorem PE.x0 (h:PE X e (tD X.K cl xe f)):PE X e (tD X.K cl x0 f):=PE.imp h λσ H Q ⟨μ,S,ρ,a,b,p⟩=>⟨μ,S,ρ,a,b,p.x0⟩
theorem PTL.x0 (h:PTL X es (tBo X.K cl xe f)):PTL X es (tBo X.K cl x0 f):=λpins s σ H Q I ⟨μ,S,ρ,a,b,p⟩=>h pins s σ H Q I ⟨μ,S,ρ,a,b,p.x0⟩
theorem PI.x0 (h:PI X tg e (tIt X.K cl xe f)):PI X tg e (tIt X.K cl x0 f):=PI.imp h λσ H Q ⟨μ,S,ρ,a,b,p⟩=>⟨μ,S,ρ,a,b,p.x0⟩
theorem PSs.x0 (h:PSs X sts (sD X.K cl xe f)):PSs X sts (sD X.K cl x0 f):=PSs.imp h λD σ H ⟨μ,S,ρ,a,b,p⟩=>⟨μ,S,ρ,a,b,p.x0⟩
theorem ff (h:PE X e (iu X.K cl x0 fs)):PE X e (tD X.K cl xe λρ=>bind (nx (fs ρ)) λds=>ret (.lst ds)):=PE.imp h λσ H Q ⟨μ,S,ρ,f,j,p⟩=>
 ⟨μ,S,ρ,f,j,p.bind.nx.imp λds S1 b d l g i c ys k a=>i.ret b d (Lat.refl _ _) g _ (.lst k a)⟩
theorem pG:aJ (CXd X.prog X.w X.K) X (λl _ H=>∀ a,l=.ref a->xOf X a H):=λpins σ H s e s' I ⟨a,C,d,i,H',k,g,c,j,f,h,q⟩=>by
 subst k;exact q a rfl pins σ s' C d i (I.call' g j f c λb z=>absurd z (by simp)) h
theorem lF {a:Addr} {fd:FuncData} {ps:List Str} {x:Str} {p pos:Pos} {fs:Env->M (List D)} {b:List D->M D} (F:FnOk X.prog X.w X.K X.mg X.base (CXd X.prog X.w X.K) k a fd ps (spX X.K cl n b)) (l:Room false k X.A) (j:Gl X x) (o:X.mg x=some (.ref a)) (i:PySem.W.keepIn X.K (.ref a)=true) (t:Binds X.K fd ps [])
  (s:PA X (e :: es) (tDs X.K cl (xOf X) fs)) (g:(x==("__debug__" : Str))=false) (hs:(e :: es).all b5=true) :
  PE X (.Call (.Name x p) (e :: es) [] pos) (tD X.K cl (xOf X) λρ=>bind (fs ρ) λds=>if ds.length=n then b ds else bad):=by
 rw [BL,Al] at hs;exact PE.imp (mj F l j o i t .nil pG s g (b8 hs.1) (n0 hs.2)) λσ H Q ⟨μ,S,ρ,m,r,p⟩=>
  ⟨μ,S,ρ,m,r,p.bind.imp λds S1 f u w q d vs c=>by
   by_cases hd:ds.length=n
   ·rw [if_pos hd] at d;exact ⟨by rw [Bs,<- c.length];exact hd,f,S1,ds,by rw [Bs];exact c,q,d.up λa H' h v z=>by cases z;exact h⟩
   ·rw [if_neg hd] at d;exact d.elim⟩
theorem iD {b:List D->M D} (F:FnOk X.prog X.w X.K X.mg X.base (CXd X.prog X.w X.K) k a fd ps (spX X.K cl 0 b)) (f:Room false k X.A) (e:Gl X x) (g:X.mg x=some (.ref a)) (d:PySem.W.keepIn X.K (.ref a)=true) (j:Binds X.K fd ps [])
  (c:(x==("__debug__" : Str))=false):PE X (.Call (.Name x p) [] [] pos) (tD X.K cl (xOf X) λρ=>b []):=PE.imp (jo F f e g d j .nil pG c) λσ H Q ⟨μ,S,ρ,l,i,p⟩=>⟨rfl,μ,S,[],.nil,i,p.up λa H' h m z=>by cases z;exact h⟩
end
inductive G where
 | val (d:D) | fn (i n:Nat) | err (c:Nat) (fs:List Str) | dct (kvs:List (Str×D))
structure Gm where
 gl:List (Str×G)
 sub:Nat->Nat->Bool
 flds:List Str
 qs:List Nat:=[]
structure Lc where
 N:List Str
 sc:Scope
 fr:Bool
 mu:List Str
def quiet (a:Lc):Bool:=a.mu.contains ("~" : Str)
structure Ev where
 e:Lc->Expr->Env->M D
 t:Lc->Expr->Env->M Bool
 s:Lc->Stmt->Env->M Fl
 i:Lc->Expr->Expr->Env->M (Src×Nat)
structure EvK where
 e:Lc->Expr->Env->∀ {α:Type},(D->M α)->M α
 t:Lc->Expr->Env->∀ {α:Type},(Bool->M α)->M α
 s:Lc->Stmt->Env->∀ {α:Type},(Fl->M α)->M α
 i:Lc->Expr->Expr->Env->∀ {α:Type},(Src×Nat->M α)->M α
structure EqK (r:Ev) (q:EvK):Prop where
 e:∀ lc e ρ {α:Type} (k:D->M α),q.e lc e ρ k=bind (r.e lc e ρ) k
 t:∀ lc e ρ {α:Type} (k:Bool->M α),q.t lc e ρ k=bind (r.t lc e ρ) k
 s:∀ lc e ρ {α:Type} (k:Fl->M α),q.s lc e ρ k=bind (r.s lc e ρ) k
 i:∀ lc g e ρ {α:Type} (k:Src×Nat->M α),q.i lc g e ρ k=bind (r.i lc g e ρ) k
theorem bW (k:α->M β):bind bad k=bad:=rfl
theorem v8 {c:Prop} [Decidable c] (a b:M α) (k:α->M β):bind (if c then a else b) k=if c then bind a k else bind b k:=by split <;> rfl
theorem P7 (m:M α):bind m ret=m:=by
 funext S;unfold bind ret;cases m S <;> rfl
def i3:List Str->Str->Option Nat
 | [],_=>none
 | y :: ys,x=>if y=x then some 0 else (i3 ys x).map (· + 1)
theorem v6:∀ {N:List Str} {x:Str} {i:Nat},i3 N x=some i->N[i]?=some x
 | [],_,_,e=>by cases e
 | y :: ys,x,i,e=>by
  unfold i3 at e;split at e
  ·grind
  ·cases q:i3 ys x with
   | none=>rw [q] at e;cases e
   | some j=>rw [q] at e;cases e;simpa using v6 q
def lR (a:Scope) (x:Str):Bool:=decide (a.names.lookup x=some .local)||decide (a.names.lookup x=some .cell)||decide (a.names.lookup x=some .free)
def bU (a:Scope) (x:Str):Bool:=decide (a.names.lookup x=some .local)||decide (a.names.lookup x=some .cell)
def glB (a:Scope) (x:Str):Bool:=decide (a.names.lookup x=some .globalImplicit)
def M4 (x:Str):Bool:=!(x==("__debug__" : Str))&&!(x==("__classdict__" : Str))&&!(x==("__name__" : Str))
theorem nv (h:lR sc x=true):Vis sc x:=by
 simpa [lR,Vis,or_assoc] using h
theorem J4 (h:bU sc x=true):L2.Loc sc x:=by
 simpa [bU,L2.Loc] using h
theorem M2 (h:M4 x=true):(x==("__debug__" : Str))=false/\(x==("__classdict__" : Str))=false/\x ≠ "__name__":=by
 simpa [M4,and_assoc] using h
structure Tx where
 P:Program
 w:World
 K:PySem.W.Frag
 mg:Str->Option Value
 base:Heap
 cl:Nat->Addr
def bnames:List Str:=["len","tuple","list","repr","isinstance","range","int","bool","str","dict","ValueError","all","any","sum","max","min","sorted","set","enumerate","abs","zip"]
abbrev CXq (q:Bool):CXT:=⟨λ_ _ _ _ _ _=>False,q⟩
structure FnX (T:Tx) (k i n:Nat) (x:Str) (run:List D->M D):Prop where
 ex:∃ (a:Addr) (fd:FuncData) (ps:List Str),ps.length=n/\FnOk T.P T.w T.K T.mg T.base (CXd T.P T.w T.K) k a fd ps (spX T.K T.cl n run)/\T.mg x=some (.ref a)/\PySem.W.keepIn T.K (.ref a)=true/\Binds T.K fd ps []
structure FnAt (T:Tx) (k i n:Nat) (x:Str) (run:List D->M D):Prop where
 ex:∃ (a:Addr) (fd:FuncData) (ps:List Str),ps.length=n/\FnOk T.P T.w T.K T.mg T.base (CXq true) k a fd ps (spD T.K T.cl n run)/\T.mg x=some (.ref a)/\PySem.W.keepIn T.K (.ref a)=true/\Binds T.K fd ps []
structure ErrAt (T:Tx) (x:Str) (c:Nat) (fs:List Str):Prop where
 xc:XC T.K (T.cl c)
 mg_:T.mg x=some (.ref (T.cl c))
 ex:∃ (f:Addr) (fd:FuncData) (ps:List Str),PySem.W.findIn T.K (.ref (T.cl c)) "__init__" = some (some (.ref f))/\PySem.W.isFn T.K (.ref f)=true/\Binds T.K fd ps [] /\
  match fs with
  | []=>FnOk T.P T.w T.K T.mg T.base CX0 2 f fd ps (Hn.spHE T.K)
  | [g]=>FnOk T.P T.w T.K T.mg T.base CX0 2 f fd ps (Hn.sp1 T.K g)
  | [g,g2]=>FnOk T.P T.w T.K T.mg T.base CX0 2 f fd ps (Hn.sp2 T.K g g2)
  | _=>False
def kf (T:Tx) (x:Str) (b:List (Str×D)):Prop:=∃ (a:Addr) (es:Array DictEntry) (n:Nat),T.mg x=some (.ref a)/\T.K.lookup a=some ⟨.type "dict",none,.dict es n,#[]⟩/\PySem.W.KeysLit T.w.params es.toList/\∀ k d,b.lookup k=some d->∃ u v,PySem.W.nsIn T.K a k=some (some u)/\RelV v u/\∀ μ H,RD T.K μ H d v
structure TxOk (T:Tx) (Γ:Gm) (k:Nat) (C:Nat->List D->M D):Prop where
 blt:∀ x∈bnames,Γ.gl.lookup x=none->T.mg x=none
 val:∀ x d,Γ.gl.lookup x=some (.val d)->∃ u v,T.mg x=some u/\RelV v u/\∀ μ H,RD T.K μ H d v
 fn:∀ x i n,Γ.gl.lookup x=some (.fn i n)->i∉Γ.qs->FnX T k i n x (C i)
 fnq:∀ x i n,Γ.gl.lookup x=some (.fn i n)->i∈Γ.qs->FnAt T k i n x (C i)
 err:∀ x c fs,Γ.gl.lookup x=some (.err c fs)->ErrAt T x c fs/\(∀ g∈fs,E6 T.K (T.cl c) g)
 sub:∀ x c c0 fs,Γ.gl.lookup x=some (.err c0 fs)->XC T.K (T.cl c)->PySem.W.kitOne T.K (.ref (T.cl c)) (.ref (T.cl c0))=some (Γ.sub c c0)
 subV:∀ c,XC T.K (T.cl c)->PySem.W.kitOne T.K (.ref (T.cl c)) (.type "ValueError")=some true
 subT:∀ c,XC T.K (T.cl c)->∀ t∈tys,PySem.W.kitOne T.K (.ref (T.cl c)) (.type t)=some false
 fld:∀ g∈Γ.flds,∀ c,XC T.K (T.cl c)->E6 T.K (T.cl c) g
 dct:∀ x kvs,Γ.gl.lookup x=some (.dct kvs)->kf T x kvs
 k3:3<=k
structure CxOk (T:Tx) (k:Nat) (lc:Lc) (X:Cx):Prop where
 prog:X.prog=T.P
 w:X.w=T.w
 K:X.K=T.K
 mg:X.mg=T.mg
 base:X.base=T.base
 N:X.N=lc.N
 nd:lc.N.Nodup
 sc:X.env.scope=lc.sc
 calm:quiet lc=false->X.calm=true
 room:Room (quiet lc) k X.A
 po:PassesOwn (model X.prog X.w) X.A X.env X.xe
 fn:X.fn=λ_=>lc.fr
 kd:lc.sc.kind=.function
 own:lc.fr=true->quiet lc=false->X.stack=X.env :: X.outer/\X.env.frame=some X.env.locals
 code:lc.fr=true->lc.mu.contains ("lam" : Str)=true->∃ c,X.env.code=.ref c/\PySem.W.codeHdIn T.K c (T.cl 1000000)=true/\nc T.K T.cl/\X.env.qual ++ "<lambda>" = cm T.K (T.cl 1000000)
structure EvOk (T:Tx) (k:Nat) (r:Ev):Prop where
 e:∀ lc X,CxOk T k lc X->∀ e,PE X e (tD T.K T.cl (xOf X) (r.e lc e))
 t:∀ lc X,CxOk T k lc X->∀ e,PT X e (tBo T.K T.cl (xOf X) (r.t lc e))
 s:∀ lc X,CxOk T k lc X->lc.fr=true->∀ st,PS X st (sD T.K T.cl (xOf X) (r.s lc st))
 i:∀ lc X,CxOk T k lc X->∀ g e,PI X g e (tIt T.K T.cl (xOf X) (r.i lc g e))
section
variable {T:Tx} {k:Nat} {r:Ev} {Γ:Gm} {C:Nat->List D->M D} {lc:Lc} {X:Cx} {pos:Pos}
theorem EvOk.ex (R:EvOk T k r) (h:CxOk T k lc X) (e:Expr):PE X e (tD X.K T.cl (xOf X) (r.e lc e)):=by rw [h.K];exact R.e lc X h e
theorem EvOk.tx (R:EvOk T k r) (h:CxOk T k lc X) (e:Expr):PT X e (tBo X.K T.cl (xOf X) (r.t lc e)):=by rw [h.K];exact R.t lc X h e
theorem EvOk.ix (R:EvOk T k r) (h:CxOk T k lc X) (g e:Expr):PI X g e (tIt X.K T.cl (xOf X) (r.i lc g e)):=by rw [h.K];exact R.i lc X h g e
theorem EvOk.sx (R:EvOk T k r) (h:CxOk T k lc X) (a:lc.fr=true) (st:Stmt):PS X st (sD X.K T.cl (xOf X) (r.s lc st)):=by rw [h.K];exact R.s lc X h a st
theorem CxOk.u64 (h:CxOk T k lc X):X.A.units+64<cLine:=h.room.units
theorem CxOk.u80 (h:CxOk T k lc X):X.A.units+80<cLine:=by have:=h.room.un;omega
theorem CxOk.u1 (h:CxOk T k lc X):X.A.units+1<cLine:=uR h.room
theorem CxOk.gl (h:CxOk T k lc X) {x:Str} (a:glB lc.sc x=true):Gl X x:=by
 show X.env.kindOf x=_;unfold PySem.Env.kindOf;rw [h.sc];exact BC a
theorem TxOk.none (a:TxOk T Γ k C) (h:CxOk T k lc X) {x:Str} (b:x∈bnames) (e:Γ.gl.lookup x=none):X.mg x=none:=by rw [h.mg];exact a.blt x b e
theorem CxOk.nd' (h:CxOk T k lc X):X.N.Nodup:=by rw [h.N];exact h.nd
theorem CxOk.fn1 (h:CxOk T k lc X) (a:lc.fr=true) {x:Str}:X.fn x=true:=by rw [h.fn];exact a
theorem CxOk.room0 (h:CxOk T k lc X) (a:quiet lc=false):Room false k X.A:=by have:=h.room;rw [a] at this;exact this
end
abbrev Cf:=Nat->List D->M D
structure RuE:Type 1 where
 is:Gm->Lc->Expr->Bool
 run:Ev->Gm->Cf->Lc->Expr->Env->M D
 ok:∀ {T:Tx} {k:Nat} {r:Ev} {Γ:Gm} {C:Cf} {lc:Lc} {X:Cx} (e:Expr),EvOk T k r->TxOk T Γ k C->CxOk T k lc X->is Γ lc e=true->PE X e (tD X.K T.cl (xOf X) (run r Γ C lc e))
 runK:EvK->Gm->Cf->Lc->Expr->Env->∀ {α:Type},(D->M α)->M α
 eq:∀ {r:Ev} {q:EvK} {Γ:Gm} {C:Cf} {lc:Lc} (e:Expr) (ρ:Env) {α:Type} (k:D->M α),EqK r q->runK q Γ C lc e ρ k=bind (run r Γ C lc e ρ) k
structure RuT:Type 1 where
 is:Gm->Lc->Expr->Bool
 run:Ev->Gm->Cf->Lc->Expr->Env->M Bool
 ok:∀ {T:Tx} {k:Nat} {r:Ev} {Γ:Gm} {C:Cf} {lc:Lc} {X:Cx} (e:Expr),EvOk T k r->TxOk T Γ k C->CxOk T k lc X->is Γ lc e=true->PT X e (tBo X.K T.cl (xOf X) (run r Γ C lc e))
 runK:EvK->Gm->Cf->Lc->Expr->Env->∀ {α:Type},(Bool->M α)->M α
 eq:∀ {r:Ev} {q:EvK} {Γ:Gm} {C:Cf} {lc:Lc} (e:Expr) (ρ:Env) {α:Type} (k:Bool->M α),EqK r q->runK q Γ C lc e ρ k=bind (run r Γ C lc e ρ) k
structure RuS:Type 1 where
 is:Gm->Lc->Stmt->Bool
 run:Ev->Gm->Cf->Lc->Stmt->Env->M Fl
 ok:∀ {T:Tx} {k:Nat} {r:Ev} {Γ:Gm} {C:Cf} {lc:Lc} {X:Cx} (e:Stmt),EvOk T k r->TxOk T Γ k C->CxOk T k lc X->lc.fr=true->is Γ lc e=true->PS X e (sD X.K T.cl (xOf X) (run r Γ C lc e))
 runK:EvK->Gm->Cf->Lc->Stmt->Env->∀ {α:Type},(Fl->M α)->M α
 eq:∀ {r:Ev} {q:EvK} {Γ:Gm} {C:Cf} {lc:Lc} (e:Stmt) (ρ:Env) {α:Type} (k:Fl->M α),EqK r q->runK q Γ C lc e ρ k=bind (run r Γ C lc e ρ) k
structure RuI:Type 1 where
 is:Gm->Lc->Expr->Expr->Bool
 run:Ev->Gm->Cf->Lc->Expr->Env->M (Src×Nat)
 ok:∀ {T:Tx} {k:Nat} {r:Ev} {Γ:Gm} {C:Cf} {lc:Lc} {X:Cx} (g e:Expr),EvOk T k r->TxOk T Γ k C->CxOk T k lc X->is Γ lc g e=true->PI X g e (tIt X.K T.cl (xOf X) (run r Γ C lc e))
 runK:EvK->Gm->Cf->Lc->Expr->Env->∀ {α:Type},(Src×Nat->M α)->M α
 eq:∀ {r:Ev} {q:EvK} {Γ:Gm} {C:Cf} {lc:Lc} (e:Expr) (ρ:Env) {α:Type} (k:Src×Nat->M α),EqK r q->runK q Γ C lc e ρ k=bind (run r Γ C lc e ρ) k
structure Rules:Type 1 where
 es:List RuE
 ts:List RuT
 ss:List RuS
 is:List RuI
section
variable (Rs:Rules) (Γ:Gm) (C:Cf)
def step (r:Ev):Ev:=
 ⟨λa e=>match Rs.es.find? (λR=>R.is Γ a e) with
  | some R=>R.run r Γ C a e
  | none=>λ_=>bad,
 λa e=>match Rs.ts.find? (λR=>R.is Γ a e) with
  | some R=>R.run r Γ C a e
  | none=>λ_=>bad,
 λa e=>match Rs.ss.find? (λR=>R.is Γ a e) with
  | some R=>R.run r Γ C a e
  | none=>λ_=>bad,
 λa g e=>match Rs.is.find? (λR=>R.is Γ a g e) with
  | some R=>R.run r Γ C a e
  | none=>λ_=>bad⟩
def badEv:Ev:=⟨λ_ _ _=>bad,λ_ _ _=>bad,λ_ _ _=>bad,λ_ _ _ _=>bad⟩
def ev:Nat->Ev
 | 0=>badEv
 | n+1=>step Rs Γ C (ev n)
def pS (q:EvK):EvK:=
 ⟨λa e ρ _ k=>match Rs.es.find? (λR=>R.is Γ a e) with
  | some R=>R.runK q Γ C a e ρ k
  | none=>bad,
 λa e ρ _ k=>match Rs.ts.find? (λR=>R.is Γ a e) with
  | some R=>R.runK q Γ C a e ρ k
  | none=>bad,
 λa e ρ _ k=>match Rs.ss.find? (λR=>R.is Γ a e) with
  | some R=>R.runK q Γ C a e ρ k
  | none=>bad,
 λa g e ρ _ k=>match Rs.is.find? (λR=>R.is Γ a g e) with
  | some R=>R.runK q Γ C a e ρ k
  | none=>bad⟩
def xJ:EvK:=⟨λ_ _ _ _ _=>bad,λ_ _ _ _ _=>bad,λ_ _ _ _ _=>bad,λ_ _ _ _ _ _=>bad⟩
def evK:Nat->EvK
 | 0=>xJ
 | n+1=>pS Rs Γ C (evK n)
end
section
variable {Rs:Rules} {T:Tx} {k:Nat} {r:Ev} {q:EvK} {Γ:Gm} {C:Cf} {lc:Lc} {X:Cx}
theorem mh (d:TxOk T Γ k C) (R:EvOk T k r):EvOk T k (step Rs Γ C r):=by
 refine ⟨λa X h e=>?_,λa X h e=>?_,λa X h c e=>?_,λa X h g e=>?_⟩
 ·rw [<- h.K];show PE X e (tD X.K T.cl (xOf X) (match Rs.es.find? (λR=>R.is Γ a e) with
   | some R=>R.run r Γ C a e
   | none=>λ_=>bad))
  cases c:Rs.es.find? (λR=>R.is Γ a e) with
  | none=>exact i7
  | some b=>exact b.ok e R d h (by have:=Dt c;exact this)
 ·rw [<- h.K];show PT X e (tBo X.K T.cl (xOf X) (match Rs.ts.find? (λR=>R.is Γ a e) with
   | some R=>R.run r Γ C a e
   | none=>λ_=>bad))
  cases c:Rs.ts.find? (λR=>R.is Γ a e) with
  | none=>exact cn
  | some b=>exact b.ok e R d h (by have:=Dt c;exact this)
 ·rw [<- h.K];show PS X e (sD X.K T.cl (xOf X) (match Rs.ss.find? (λR=>R.is Γ a e) with
   | some R=>R.run r Γ C a e
   | none=>λ_=>bad))
  cases f:Rs.ss.find? (λR=>R.is Γ a e) with
  | none=>exact M7
  | some b=>exact b.ok e R d h c (by have:=Dt f;exact this)
 ·rw [<- h.K];show PI X g e (tIt X.K T.cl (xOf X) (match Rs.is.find? (λR=>R.is Γ a g e) with
   | some R=>R.run r Γ C a e
   | none=>λ_=>bad))
  cases c:Rs.is.find? (λR=>R.is Γ a g e) with
  | none=>exact ef
  | some b=>exact b.ok g e R d h (by have:=Dt c;exact this)
theorem jj:EvOk T k badEv:=⟨λa X h e=>by rw [<- h.K];exact i7,λa X h e=>by rw [<- h.K];exact cn,λa X h _ st=>by rw [<- h.K];exact M7,λa X h g e=>by rw [<- h.K];exact ef⟩
theorem im (a:TxOk T Γ k C):∀ n,EvOk T k (ev Rs Γ C n)
 | 0=>jj
 | n+1=>mh a (im a n)
theorem nK (h:EqK r q):EqK (step Rs Γ C r) (pS Rs Γ C q):=by
 refine ⟨λa e ρ _ k=>?_,λa e ρ _ k=>?_,λa e ρ _ k=>?_,λa g e ρ _ k=>?_⟩
 ·show (match Rs.es.find? (λR=>R.is Γ a e) with
   | some R=>R.runK q Γ C a e ρ k
   | none=>bad)=bind ((match Rs.es.find? (λ(R:RuE)=>R.is Γ a e) with
   | some R=>R.run r Γ C a e
   | none=>λ_=>bad) ρ) k
  cases Rs.es.find? (λR=>R.is Γ a e) with
  | none=>rfl
  | some b=>exact b.eq e ρ k h
 ·show (match Rs.ts.find? (λR=>R.is Γ a e) with
   | some R=>R.runK q Γ C a e ρ k
   | none=>bad)=bind ((match Rs.ts.find? (λ(R:RuT)=>R.is Γ a e) with
   | some R=>R.run r Γ C a e
   | none=>λ_=>bad) ρ) k
  cases Rs.ts.find? (λR=>R.is Γ a e) with
  | none=>rfl
  | some b=>exact b.eq e ρ k h
 ·show (match Rs.ss.find? (λR=>R.is Γ a e) with
   | some R=>R.runK q Γ C a e ρ k
   | none=>bad)=bind ((match Rs.ss.find? (λ(R:RuS)=>R.is Γ a e) with
   | some R=>R.run r Γ C a e
   | none=>λ_=>bad) ρ) k
  cases Rs.ss.find? (λR=>R.is Γ a e) with
  | none=>rfl
  | some b=>exact b.eq e ρ k h
 ·show (match Rs.is.find? (λR=>R.is Γ a g e) with
   | some R=>R.runK q Γ C a e ρ k
   | none=>bad)=bind ((match Rs.is.find? (λ(R:RuI)=>R.is Γ a g e) with
   | some R=>R.run r Γ C a e
   | none=>λ_=>bad) ρ) k
  cases Rs.is.find? (λR=>R.is Γ a g e) with
  | none=>rfl
  | some b=>exact b.eq e ρ k h
theorem pD:∀ n,EqK (ev Rs Γ C n) (evK Rs Γ C n)
 | 0=>⟨λ_ _ _ _ _=>rfl,λ_ _ _ _ _=>rfl,λ_ _ _ _ _=>rfl,λ_ _ _ _ _ _=>rfl⟩
 | n+1=>nK (pD n)
end
section
variable (r:Ev) (q:EvK) (lc:Lc)
def y4:List Expr->Env->M (List D)
 | [],_=>ret []
 | e :: es,ρ=>bind (r.e lc e ρ) λd=>bind (y4 es ρ) λds=>ret (d :: ds)
def A9 {a:Type}:List Expr->Env->(List D->M a)->M a
 | [],_,k=>k []
 | e :: es,ρ,k=>q.e lc e ρ λd=>A9 es ρ λds=>k (d :: ds)
def X2:List Stmt->Env->M Fl
 | [],ρ=>ret (.nx ρ)
 | st :: a,ρ=>tV (r.s lc st) (X2 a) ρ
def u5 {d:Type}:List Stmt->Env->(Fl->M d)->M d
 | [],ρ,k=>k (.nx ρ)
 | st :: a,ρ,k=>q.s lc st ρ λb=>match b with
  | .nx c=>u5 a c k
  | b=>k b
end
section
variable {T:Tx} {k:Nat} {r:Ev} {q:EvK} {Γ:Gm} {C:Cf} {lc:Lc} {X:Cx} {pos:Pos}
theorem u0 (h:EqK r q):∀ (es:List Expr) (ρ:Env) {a:Type} (k:List D->M a),A9 q lc es ρ k=bind (y4 r lc es ρ) k
 | [],_,_,_=>rfl
 | e :: es,ρ,_,k=>by
  show q.e lc e ρ (λd=>A9 q lc es ρ λds=>k (d :: ds))=bind (bind (r.e lc e ρ) λd=>bind (y4 r lc es ρ) λds=>ret (d :: ds)) k;rw [h.e,bind_assoc];congr;funext d;rw [u0 h,bind_assoc];rfl
theorem az (h:EqK r q):∀ (sts:List Stmt) (ρ:Env) {α:Type} (k:Fl->M α),u5 q lc sts ρ k=bind (X2 r lc sts ρ) k
 | [],_,_,_=>rfl
 | st :: sts,ρ,_,k=>by
  show (q.s lc st ρ λfl=>match fl with
   | .nx ρ'=>u5 q lc sts ρ' k
   | fl=>k fl)=bind (bind (r.s lc st ρ) λfl=>match fl with
   | .nx ρ'=>X2 r lc sts ρ'
   | fl=>ret fl) k
  rw [h.s,bind_assoc];congr;funext fl;cases fl with
  | nx ρ'=>exact az h sts ρ' k
  | bk ρ'=>rfl
  | ct ρ'=>rfl
  | rt d=>rfl
theorem k6 (R:EvOk T k r) (h:CxOk T k lc X):∀ {es:List Expr},es.all b5=true->PA X es (tDs X.K T.cl (xOf X) (y4 r lc es))
 | [],_=>ah
 | e :: es,hs=>by
  rw [BL,Al] at hs;exact U4 (R.ex h e) (k6 R h hs.2) hs.1
theorem O1 (R:EvOk T k r) (h:CxOk T k lc X) (b:lc.fr=true):∀ {a:List Stmt},PSs X a (sD X.K T.cl (xOf X) (X2 r lc a))
 | []=>ki
 | st :: a=>oe (R.sx h b st) (O1 R h b)
end
def rg (c:Const):M D:=match c with
 | .int i=>ret (.int i)
 | .bool b=>ret (.bl b)
 | .none=>ret .non
 | .str x=>ret (.str x)
 | _=>bad
def rS {a:Type} (c:Const) (k:D->M a):M a:=match c with
 | .int i=>k (.int i)
 | .bool b=>k (.bl b)
 | .none=>k .non
 | .str x=>k (.str x)
 | _=>bad
def pZ:RuE where
 is _ _ e:=match e with
  | .Constant _ _ _=>true
  | _=>false
 run _ _ _ _ e _:=match e with
  | .Constant c _ _=>rg c
  | _=>bad
 ok e R TX h hi:=by
  cases e with
  | Constant c n p=>
   cases c <;> first
    | exact B6 lV λ_ _=>.int _
    | exact B6 vz λ_ _=>.bl _
    | exact B6 qG λ_ _=>.non
    | exact B6 qY λ_ _=>.str _
    | exact i7
  | _=>exact i7
 runK _ _ _ _ e _ _ k:=match e with
  | .Constant c _ _=>rS c k
  | _=>bad
 eq e ρ _ k h:=by
  cases e with
  | Constant c n p=>cases c <;> rfl
  | _=>rfl
def bz (Γ:Gm) (a:Lc) (x:Str) (ρ:Env):M D:=match i3 a.N x with
 | some i=>if lR a.sc x=true then getD i ρ else bad
 | none=>if glB a.sc x=true then (match Γ.gl.lookup x with
  | some (.val d)=>ret d
  | _=>bad) else bad
def uZ {a:Type} (i:Nat) (ρ:Env) (k:D->M a):M a:=match ρ[i]? with
 | some (some d)=>k d
 | _=>bad
def je {b:Type} (Γ:Gm) (a:Lc) (x:Str) (ρ:Env) (k:D->M b):M b:=match i3 a.N x with
 | some i=>if lR a.sc x=true then uZ i ρ k else bad
 | none=>if glB a.sc x=true then (match Γ.gl.lookup x with
  | some (.val d)=>k d
  | _=>bad) else bad
theorem oE {Γ:Gm} {C:Cf} {lc:Lc} {X:Cx} {pos:Pos} (TX:TxOk T Γ k C) (h:CxOk T k lc X) {x:Str} (hn:M4 x=true):PE X (.Name x pos) (tD X.K T.cl (xOf X) (bz Γ lc x)):=by
 unfold bz;obtain ⟨n1,n2,n3⟩:=M2 hn;cases e:i3 lc.N x with
 | some i=>
  by_cases hv:lR lc.sc x=true
  ·simp only [if_pos hv];exact qT (jw (by rw [h.N];exact v6 e) (by rw [h.sc];exact nv hv) n1 n2)
  ·simp only [if_neg hv];exact i7
 | none=>
  by_cases hv:glB lc.sc x=true
  ·simp only [if_pos hv];cases e2:Γ.gl.lookup x with
   | none=>exact i7
   | some g=>
    cases g with
    | val d=>
     obtain ⟨u,v,e3,rv,rd⟩:=TX.val x d e2;exact B6 (ny (h.gl hv) (by rw [h.mg];exact e3) rv n1) λμ H=>by rw [h.K];exact rd μ H
    | fn i n=>exact i7
    | err c fs=>exact i7
    | dct kvs=>exact i7
  ·simp only [if_neg hv];exact i7
theorem oj (Γ:Gm) (a:Lc) (x:Str) (ρ:Env) {b:Type} (k:D->M b):je Γ a x ρ k=bind (bz Γ a x ρ) k:=by
 unfold je bz;cases i3 a.N x with
 | some i=>
  simp only [];split
  ·unfold uZ getD;cases ρ[i]? with
   | none=>rfl
   | some o=>cases o <;> rfl
  ·rfl
 | none=>
  simp only [];split
  ·cases Γ.gl.lookup x with
   | none=>rfl
   | some g=>cases g <;> rfl
  ·rfl
def uK:RuE where
 is _ _ e:=match e with
  | .Name x _=>M4 x
  | _=>false
 run _ Γ _ lc e ρ:=match e with
  | .Name x _=>bz Γ lc x ρ
  | _=>bad
 ok e R TX h hi:=by
  cases e with
  | Name x p=>exact oE TX h hi
  | _=>exact i7
 runK _ Γ _ lc e ρ _ k:=match e with
  | .Name x _=>je Γ lc x ρ k
  | _=>bad
 eq e ρ _ k h:=by
  cases e with
  | Name x p=>exact oj _ _ x ρ k
  | _=>rfl
def rM (op:Operator):D->D->M D:=match op with
 | .Add=>B4
 | .Sub=>qV
 | .Mult=>M3
 | .Mod=>V9
 | .FloorDiv=>B0
 | .Pow=>dg
 | _=>λ_ _=>bad
def m7 (op:CmpOp):D->D->M D:=match op with
 | .Eq=>eqD false
 | .NotEq=>eqD true
 | .Lt=>lE λi j=>decide (i<j)
 | .LtE=>lE λi j=>decide (i<=j)
 | .Gt=>lE λi j=>decide (j<i)
 | .GtE=>lE λi j=>decide (j<=i)
 | .In=>inD false
 | .NotIn=>inD true
 | .Is=>isD false
 | .IsNot=>isD true
theorem pb (op:Operator):OpR X (binaryOp op) (rP2 X.K cl xe (rM op)):=by
 cases op <;> first
  | exact vf
  | exact vb
  | exact vy
  | exact vC
  | exact tG
  | exact wC
  | exact λpins s σ H x y v u Q I a c ⟨μ,S,d,e,f,b,g,p⟩=>p.elim
theorem iR (h:CxOk T k lc X) (op:CmpOp):OpR X (compareOp op) (rP2 X.K cl xe (m7 op)):=by
 cases op
 case Eq=>exact xS h.u64
 case NotEq=>exact wl h.u64
 case Lt=>exact fL uV
 case LtE=>exact fL wD
 case Gt=>exact fL vF
 case GtE=>exact fL vJ
 case In=>exact vo false h.u80
 case NotIn=>exact vo true h.u80
 case Is=>exact vh false
 case IsNot=>exact vh true
def wo:RuE where
 is _ _ e:=match e with
  | .BinOp _ _ _ _=>true
  | _=>false
 run r _ _ lc e ρ:=match e with
  | .BinOp a op b _=>bind (r.e lc a ρ) λx=>bind (r.e lc b ρ) λy=>rM op x y
  | _=>bad
 ok e R TX h hi:=by
  cases e with
  | BinOp a op b p=>exact tL (R.ex h _) (R.ex h _) (pb _)
  | _=>exact i7
 runK q _ _ lc e ρ _ k:=match e with
  | .BinOp a op b _=>q.e lc a ρ λx=>q.e lc b ρ λy=>bind (rM op x y) k
  | _=>bad
 eq e ρ _ k h:=by
  cases e with
  | BinOp a op b p=>simp only [h.e,bind_assoc]
  | _=>rfl
def wQ:RuE where
 is _ _ e:=match e with
  | .UnaryOp .USub _ _=>true
  | _=>false
 run r _ _ lc e ρ:=match e with
  | .UnaryOp .USub a _=>bind (r.e lc a ρ) cp
  | _=>bad
 ok e R TX h hi:=by
  split at hi
  ·exact rL (R.ex h _)
  ·cases hi
 runK q _ _ lc e ρ _ k:=match e with
  | .UnaryOp .USub a _=>q.e lc a ρ λd=>bind (cp d) k
  | _=>bad
 eq e ρ _ k h:=by
  split
  ·simp only [h.e,bind_assoc]
  ·first
   | rfl
   | (rename_i b;split;exact (b _ _ rfl).elim;rfl)
section
variable (r:Ev) (q:EvK) (lc:Lc)
def lH:List Expr->Env->M Bool
 | [],_=>bad
 | [a],ρ=>r.t lc a ρ
 | a :: b :: es,ρ=>bind (r.t lc a ρ) λq=>if q=true then lH (b :: es) ρ else ret false
def orB:List Expr->Env->M Bool
 | [],_=>bad
 | [a],ρ=>r.t lc a ρ
 | a :: b :: es,ρ=>bind (r.t lc a ρ) λq=>if q=true then ret true else orB (b :: es) ρ
def eQ {d:Type}:List Expr->Env->(Bool->M d)->M d
 | [],_,_=>bad
 | [a],ρ,k=>q.t lc a ρ k
 | a :: b :: es,ρ,k=>q.t lc a ρ λc=>if c=true then eQ (b :: es) ρ k else k false
def nm {d:Type}:List Expr->Env->(Bool->M d)->M d
 | [],_,_=>bad
 | [a],ρ,k=>q.t lc a ρ k
 | a :: b :: es,ρ,k=>q.t lc a ρ λc=>if c=true then k true else nm (b :: es) ρ k
end
section
variable {T:Tx} {k:Nat} {r:Ev} {q:EvK} {Γ:Gm} {C:Cf} {lc:Lc} {X:Cx} {pos:Pos}
theorem fO (R:EvOk T k r) (h:CxOk T k lc X):∀ {es:List Expr},PW X (.BoolOp .And es pos) (tBo X.K T.cl (xOf X) (lH r lc es))
 | []=>pw_bad
 | [a]=>mq (R.tx h a)
 | a :: b :: es=>rP (R.tx h a) (fO R h)
theorem ke (R:EvOk T k r) (h:CxOk T k lc X):∀ {es:List Expr},PW X (.BoolOp .Or es pos) (tBo X.K T.cl (xOf X) (orB r lc es))
 | []=>pw_bad
 | [a]=>qA (R.tx h a)
 | a :: b :: es=>uM (R.tx h a) (ke R h)
theorem eR (h:EqK r q):∀ (es:List Expr) (ρ:Env) {c:Type} (k:Bool->M c),eQ q lc es ρ k=bind (lH r lc es ρ) k
 | [],_,_,_=>rfl
 | [a],ρ,_,k=>h.t lc a ρ k
 | a :: b :: es,ρ,_,k=>by simp only [eQ,lH,h.t,bind_assoc,v8,eR h (b :: es),i8]
theorem ja (h:EqK r q):∀ (es:List Expr) (ρ:Env) {c:Type} (k:Bool->M c),nm q lc es ρ k=bind (orB r lc es ρ) k
 | [],_,_,_=>rfl
 | [a],ρ,_,k=>h.t lc a ρ k
 | a :: b :: es,ρ,_,k=>by simp only [nm,orB,h.t,bind_assoc,v8,ja h (b :: es),i8]
end
def xU:RuE where
 is _ _ e:=match e with
  | .Compare _ [_] [b] _=>j9 b
  | _=>false
 run r _ _ lc e ρ:=match e with
  | .Compare a [op] [b] _=>bind (r.e lc a ρ) λx=>bind (r.e lc b ρ) λy=>m7 op x y
  | _=>bad
 ok e R TX h hi:=by
  split at hi
  ·exact qQ (R.ex h _) (R.ex h _) (iR h _) (Y8 hi)
  ·cases hi
 runK q _ _ lc e ρ _ k:=match e with
  | .Compare a [op] [b] _=>q.e lc a ρ λx=>q.e lc b ρ λy=>bind (m7 op x y) k
  | _=>bad
 eq e ρ _ k h:=by
  split
  ·simp only [h.e,bind_assoc]
  ·first
   | rfl
   | (rename_i c;split;exact (c _ _ _ _ rfl).elim;rfl)
def rIf:RuE where
 is _ _ e:=match e with
  | .IfExp _ _ _ _=>true
  | _=>false
 run r _ _ lc e ρ:=match e with
  | .IfExp c a b _=>bind (r.t lc c ρ) λq=>if q=true then r.e lc a ρ else r.e lc b ρ
  | _=>bad
 ok e R TX h hi:=by
  cases e with
  | IfExp c a b p=>exact tz (R.tx h _) (R.ex h _) (R.ex h _)
  | _=>exact i7
 runK q _ _ lc e ρ _ k:=match e with
  | .IfExp c a b _=>q.t lc c ρ λz=>if z=true then q.e lc a ρ k else q.e lc b ρ k
  | _=>bad
 eq e ρ _ k h:=by
  cases e with
  | IfExp c a b p=>simp only [h.e,h.t,bind_assoc,v8]
  | _=>rfl
def xP:RuE where
 is _ _ e:=match e with
  | .Tuple es _ _=>es.all b5
  | _=>false
 run r _ _ lc e ρ:=match e with
  | .Tuple es _ _=>bind (y4 r lc es ρ) qW
  | _=>bad
 ok e R TX h hi:=by
  cases e with
  | Tuple es n p=>exact sP (k6 R h hi)
  | _=>exact i7
 runK q _ _ lc e ρ _ k:=match e with
  | .Tuple es _ _=>A9 q lc es ρ λds=>bind (qW ds) k
  | _=>bad
 eq e ρ _ k h:=by
  cases e with
  | Tuple es n p=>simp only [u0 h,bind_assoc]
  | _=>rfl
def xX:RuE where
 is _ _ e:=match e with
  | .List es _=>es.all b5
  | _=>false
 run r _ _ lc e ρ:=match e with
  | .List es _=>bind (y4 r lc es ρ) qM
  | _=>bad
 ok e R TX h hi:=by
  cases e with
  | List es p=>exact sQ (k6 R h hi)
  | _=>exact i7
 runK q _ _ lc e ρ _ k:=match e with
  | .List es _=>A9 q lc es ρ λds=>bind (qM ds) k
  | _=>bad
 eq e ρ _ k h:=by
  cases e with
  | List es p=>simp only [u0 h,bind_assoc]
  | _=>rfl
def rIx:RuE where
 is _ _ e:=match e with
  | .Subscript _ i _=>A2 i
  | _=>false
 run r _ _ lc e ρ:=match e with
  | .Subscript a i _=>bind (r.e lc a ρ) λx=>bind (r.e lc i ρ) λy=>ixD x y
  | _=>bad
 ok e R TX h hi:=by
  cases e with
  | Subscript a i p=>exact tm (R.ex h _) (R.ex h _) (wW h.u1) (dI hi)
  | _=>exact i7
 runK q _ _ lc e ρ _ k:=match e with
  | .Subscript a i _=>q.e lc a ρ λx=>q.e lc i ρ λy=>bind (ixD x y) k
  | _=>bad
 eq e ρ _ k h:=by
  cases e with
  | Subscript a i p=>simp only [h.e,bind_assoc]
  | _=>rfl
def cS (r:Ev) (a:Lc) (o:Option Expr) (ρ:Env):M (Option Int):=match o with
 | none=>ret none
 | some e=>bind (r.e a e ρ) gx
def fC (q:EvK) (b:Lc) {a:Type} (o:Option Expr) (ρ:Env) (k:Option Int->M a):M a:=match o with
 | none=>k none
 | some e=>q.e b e ρ λd=>bind (gx d) k
theorem nk (h:EqK r q) (o:Option Expr) (ρ:Env) {a:Type} (k:Option Int->M a):fC q lc o ρ k=bind (cS r lc o ρ) k:=by
 cases o with
 | none=>rfl
 | some e=>simp only [fC,cS,h.e,bind_assoc]
theorem eT (R:EvOk T k r) (h:CxOk T k lc X) {o:Option Expr}:PO X o (tPt X.K T.cl (xOf X) (cS r lc o)):=by
 cases o with
 | none=>exact mE
 | some e=>exact nL (R.ex h e)
def rSl:RuE where
 is _ _ e:=match e with
  | .Subscript _ (.Slice _ _ none _) _=>true
  | _=>false
 run r _ _ lc e ρ:=match e with
  | .Subscript a (.Slice lo b none _) _=>bind (r.e lc a ρ) λd=>bind (cS r lc lo ρ) λl=>bind (cS r lc b ρ) λu=>slD d l u
  | _=>bad
 ok e R TX h b:=by
  split at b
  ·exact uT (R.ex h _) (eT R h) (eT R h)
  ·cases b
 runK q _ _ lc e ρ _ k:=match e with
  | .Subscript a (.Slice lo b none _) _=>q.e lc a ρ λd=>fC q lc lo ρ λl=>fC q lc b ρ λu=>bind (slD d l u) k
  | _=>bad
 eq e ρ _ k h:=by
  split
  ·simp only [h.e,nk h,bind_assoc]
  ·first
   | rfl
   | (rename_i c;split;exact (c _ _ _ _ _ rfl).elim;rfl)
def rO:RuT where
 is _ _ e:=match e with
  | .UnaryOp .Not _ _=>true
  | _=>false
 run r _ _ lc e ρ:=match e with
  | .UnaryOp .Not a _=>bind (r.t lc a ρ) λq=>ret (!q)
  | _=>bad
 ok e R TX h hi:=by
  split at hi
  ·exact rB (R.tx h _)
  ·cases hi
 runK q _ _ lc e ρ _ k:=match e with
  | .UnaryOp .Not a _=>q.t lc a ρ λc=>k (!c)
  | _=>bad
 eq e ρ _ k h:=by
  split
  ·simp only [h.t,bind_assoc,i8]
  ·first
   | rfl
   | (rename_i b;split;exact (b _ _ rfl).elim;rfl)
def wJ:RuT where
 is _ _ e:=match e with
  | .BoolOp _ _ _=>true
  | _=>false
 run r _ _ lc e ρ:=match e with
  | .BoolOp .And es _=>lH r lc es ρ
  | .BoolOp .Or es _=>orB r lc es ρ
  | _=>bad
 ok e R TX h hi:=by
  cases e with
  | BoolOp op es p=>cases op;exact (fO R h).pt;exact (ke R h).pt
  | _=>exact cn
 runK q _ _ lc e ρ _ k:=match e with
  | .BoolOp .And es _=>eQ q lc es ρ k
  | .BoolOp .Or es _=>nm q lc es ρ k
  | _=>bad
 eq e ρ _ k h:=by
  cases e with
  | BoolOp op es p=>cases op;exact eR h es ρ k;exact ja h es ρ k
  | _=>rfl
def xL:RuT where
 is _ _ e:=match e with
  | .Compare _ [_] [b] _=>j9 b
  | _=>false
 run r _ _ lc e ρ:=match e with
  | .Compare a [op] [b] _=>bind (r.e lc a ρ) λx=>bind (r.e lc b ρ) λy=>bind (m7 op x y) asB
  | _=>bad
 ok e R TX h hi:=by
  split at hi
  ·exact rR (R.ex h _) (R.ex h _) (iR h _) (Y8 hi)
  ·cases hi
 runK q _ _ lc e ρ _ k:=match e with
  | .Compare a [op] [b] _=>q.e lc a ρ λx=>q.e lc b ρ λy=>bind (m7 op x y) λd=>bind (asB d) k
  | _=>bad
 eq e ρ _ k h:=by
  split
  ·simp only [h.e,bind_assoc]
  ·first
   | rfl
   | (rename_i c;split;exact (c _ _ _ _ rfl).elim;rfl)
def rb:RuT where
 is _ _ e:=z4 e
 run r _ _ lc e ρ:=bind (r.e lc e ρ) bp
 ok e R TX h hi:=kb (R.ex h _) hi
 runK q _ _ lc e ρ _ k:=q.e lc e ρ λd=>bind (bp d) k
 eq e ρ _ k h:=by simp only [h.e,bind_assoc]
def sf (Γ:Gm) (x:Str) (p:Nat->Nat->Bool):Bool:=match Γ.gl.lookup x with
 | some (.fn i n)=>p i n
 | _=>false
theorem mw (h:sf Γ x p=true):∃ i n,Γ.gl.lookup x=some (.fn i n)/\p i n=true:=by
 unfold sf at h;grind
def rFn:RuE where
 is Γ lc e:=match e with
  | .Call (.Name x _) es [] _=>M4 x&&glB lc.sc x&&es.all b5&&!quiet lc&&sf Γ x λi n=>decide (es.length=n)&&decide (i∉Γ.qs)
  | _=>false
 run r Γ C lc e ρ:=match e with
  | .Call (.Name x _) es [] _=>(match Γ.gl.lookup x with
   | some (.fn i n)=>bind (y4 r lc es ρ) λds=>if ds.length=n then C i ds else bad
   | _=>bad)
  | _=>bad
 ok {T k r Γ C lc X} e R TX h hi:=by
  split at hi
  ·rename_i x p es pos;simp only [Al,BE] at hi;obtain ⟨⟨⟨⟨w,m⟩,c⟩,f⟩,v⟩:=hi;obtain ⟨s,E,D⟩:=M2 w;obtain ⟨i,n,l,b⟩:=mw v;simp at b;obtain ⟨a,fd,ps,B,A,y,z,u⟩:=(TX.fn x i n l b.2).ex;have F:FnOk X.prog X.w X.K X.mg X.base (CXd X.prog X.w X.K) k a fd ps (spX X.K T.cl n (C i)):=by rw [h.prog,h.w,h.K,h.mg,h.base];exact A
   have d:PySem.W.keepIn X.K (.ref a)=true:=by rw [h.K];exact z
   have j:Binds X.K fd ps []:=by rw [h.K];exact u
   have o:X.mg x=some (.ref a):=by rw [h.mg];exact y
   show PE X _ (tD X.K T.cl (xOf X) λρ=>(match Γ.gl.lookup x with
    | some (.fn i n)=>bind (y4 r lc es ρ) λds=>if ds.length=n then C i ds else bad
    | _=>bad))
   rw [l]
   match es,c,b with
   | [],_,b=>
    have:=b.1.symm;subst this;exact iD F (h.room0 f) (h.gl m) o d j s
   | e :: es,c,_=>exact lF F (h.room0 f) (h.gl m) o d j (k6 R h c) s c
  ·cases hi
 runK q Γ C lc e ρ _ k:=match e with
  | .Call (.Name x _) es [] _=>(match Γ.gl.lookup x with
   | some (.fn i n)=>A9 q lc es ρ λds=>if ds.length=n then bind (C i ds) k else bad
   | _=>bad)
  | _=>bad
 eq {r q Γ C lc} e ρ _ k h:=by
  split
  ·rename_i x p es pos;cases Γ.gl.lookup x with
   | none=>rfl
   | some g=>cases g <;> first | rfl | simp only [u0 h,bind_assoc,v8,bW]
  ·first
   | rfl
   | (rename_i t;split;exact (t _ _ _ _ rfl).elim;rfl)
def ag (Γ:Gm) (b:Lc) (x:Str) (a:Expr):Bool:=decide (x = "isinstance")&&(Γ.gl.lookup ("isinstance" : Str)).isNone&&glB b.sc "isinstance" && b5 a
theorem dP (h:ag Γ lc x a=true):x = "isinstance"/\Γ.gl.lookup ("isinstance" : Str)=none/\glB lc.sc "isinstance" = true/\b5 a=true:=by
 simp only [ag,Al,Az,AE] at h;grind
def btys:List (Str×String):=[("int","int"),("bool","bool"),("str","str"),("tuple","tuple"),("list","list"),("dict","dict"),("ValueError","ValueError")]
theorem oS:∀ {x:Str} {t:String},btys.lookup x=some t->bootBuiltins x=some (.type t)/\x∈bnames/\(t∈tys\/t = "ValueError"):=by
 intro x t e;have:∀ y∈btys,bootBuiltins y.1=some (.type y.2)/\y.1∈bnames/\(y.2∈tys\/y.2 = "ValueError"):=by
  intro y a;simp only [btys,AA,CB,EN] at a;rcases a with rfl | rfl | rfl | rfl | rfl | rfl | rfl <;> exact ⟨rfl,by decide,by decide⟩
 exact this _ (L2.mem_of_lookup e)
def wE:RuE where
 is Γ lc e:=match e with
  | .Call (.Name x _) [a,.Name y _] [] _=>ag Γ lc x a&&M4 y&&glB lc.sc y&&(Γ.gl.lookup y).isNone
  | _=>false
 run r Γ C lc e ρ:=match e with
  | .Call (.Name _ _) [a,.Name y _] [] _=>(match btys.lookup y with
   | some T=>bind (r.e lc a ρ) λd=>if T∈tys then cX T (λ_=>false) d else gG (λ_=>true) d
   | none=>bad)
  | _=>bad
 ok {T k r Γ C lc X} e R TX h hi:=by
  split at hi
  ·rename_i x p a y q pos;simp only [Al,AE] at hi;obtain ⟨⟨⟨c0,w⟩,v⟩,l⟩:=hi;obtain ⟨rfl,B,s,i⟩:=dP c0;obtain ⟨m,D,n⟩:=M2 w;have j:=TX.none h (by decide) B;show PE X _ (tD X.K T.cl (xOf X) λρ=>(match btys.lookup y with
    | some T=>bind (r.e lc a ρ) λd=>if T∈tys then cX T (λ_=>false) d else gG (λ_=>true) d
    | none=>bad))
   cases A:btys.lookup y with
   | none=>exact i7
   | some t=>
    obtain ⟨o,u,f⟩:=oS A;by_cases g:t∈tys
    ·have:=el (pos:=pos) (p:=p) (q:=q) (.inl g) (λc b=>by rw [h.K] at b ⊢;exact TX.subT c b t g) (R.ex h a) (h.gl s) j (h.gl v) (TX.none h u l) o n m i;simp only [if_pos g] at this ⊢;exact this
    ·rcases f with f | f
     ·exact absurd f g
     ·subst f;have:=el (pos:=pos) (p:=p) (q:=q) (.inr rfl) (λc b=>by rw [h.K] at b ⊢;exact TX.subV c b) (R.ex h a) (h.gl s) j (h.gl v) (TX.none h u l) o n m i;exact this
  ·cases hi
 runK q Γ C lc e ρ _ k:=match e with
  | .Call (.Name _ _) [a,.Name y _] [] _=>(match btys.lookup y with
   | some T=>q.e lc a ρ λd=>if T∈tys then bind (cX T (λ_=>false) d) k else bind (gG (λ_=>true) d) k
   | none=>bad)
  | _=>bad
 eq {r q Γ C lc} e ρ _ k h:=by
  split
  ·rename_i x p a y q pos;cases btys.lookup y with
   | none=>rfl
   | some T=>simp only [h.e,bind_assoc,v8]
  ·first
   | rfl
   | (rename_i z;split;exact (z _ _ _ _ _ _ rfl).elim;rfl)
def fU (x:Str) (c:Bool) (Γ:Gm) (b:Lc) (e:Expr):Bool:=match e with
 | .Call (.Name f _) (a :: es) [] _=>decide (f=x)&&(a :: es).all b5&&(Γ.gl.lookup x).isNone&&glB b.sc x&&!(c&&quiet b)
 | _=>false
def oU (g:List D->M D) (r:Ev) (b:Lc) (e:Expr) (ρ:Env):M D:=match e with
 | .Call (.Name _ _) (a :: es) [] _=>bind (y4 r b (a :: es) ρ) g
 | _=>bad
def oT (g:List D->M D) (q:EvK) (c:Lc) (e:Expr) (ρ:Env) {b:Type} (k:D->M b):M b:=match e with
 | .Call (.Name _ _) (a :: es) [] _=>A9 q c (a :: es) ρ λds=>bind (g ds) k
 | _=>bad
theorem iq (g:List D->M D) {r:Ev} {q:EvK} {a:Lc} (e:Expr) (ρ:Env) {c:Type} (k:D->M c) (h:EqK r q):oT g q a e ρ k=bind (oU g r a e ρ) k:=by
 unfold oT oU;split
 ·simp only [u0 h,bind_assoc]
 ·first
  | rfl
  | (rename_i b;split;exact (b _ _ _ _ _ rfl).elim;rfl)
theorem cF {d:Bool} {Γ:Gm} {b:Lc} {e:Expr} (h:fU x d Γ b e=true):∃ p a es pos,e=.Call (.Name x p) (a :: es) [] pos/\(a :: es).all b5=true/\Γ.gl.lookup x=none/\glB b.sc x=true/\(d=true->quiet b=false):=by
 unfold fU at h;split at h
 ·simp only [Al,Az,AE,BE] at h;obtain ⟨⟨⟨⟨rfl,f⟩,g⟩,i⟩,c⟩:=h;refine ⟨_,_,_,_,rfl,f,g,i,λz=>?_⟩;rw [z] at c;simpa using c
 ·cases h
def rBf (x:Str) (id:String) (d:Bool) (g:List D->M D) (c:x∈bnames/\x ≠ "__name__"/\(x==("__debug__" : Str))=false) (m:bootBuiltins x=some (.builtin id))
  (j:∀ {T:Tx} {k:Nat} {b:Lc} {X:Cx} {cl:Nat->Addr} {xe:Addr->Hp->Prop},CxOk T k b X->(d=true->X.calm=true)->j3 X (.builtin id) (rPs X.K cl xe g)):RuE where
 is:=fU x d
 run r _ _ b e ρ:=oU g r b e ρ
 ok {T k r Γ C b X} e R TX h hi:=by
  obtain ⟨p,a,es,pos,rfl,f,i,l,n⟩:=cF hi;exact iK (j h λz=>h.calm (n z)) (h.gl l) (TX.none h c.1 i) m (k6 R h f) c.2.1 c.2.2 f
 runK q _ _ b e ρ _ k:=oT g q b e ρ k
 eq e ρ _ k h:=iq g e ρ k h
def rBt (x:Str) (id:String) (d:Bool) (g:List D->M D) (c:x∈bnames/\x ≠ "__name__"/\(x==("__debug__" : Str))=false) (m:bootBuiltins x=some (.type id))
  (j:∀ {T:Tx} {k:Nat} {b:Lc} {X:Cx} {cl:Nat->Addr} {xe:Addr->Hp->Prop},CxOk T k b X->(d=true->X.calm=true)->j3 X (.type id) (rPs X.K cl xe g)):RuE where
 is:=fU x d
 run r _ _ b e ρ:=oU g r b e ρ
 ok {T k r Γ C b X} e R TX h hi:=by
  obtain ⟨p,a,es,pos,rfl,f,i,l,n⟩:=cF hi;exact cM (j h λz=>h.calm (n z)) (h.gl l) (TX.none h c.1 i) m (k6 R h f) c.2.1 c.2.2 f
 runK q _ _ b e ρ _ k:=oT g q b e ρ k
 eq e ρ _ k h:=iq g e ρ k h
def wz:RuE:=rBf "len" "len" false (one D5) (by decide) PySem.boot_len λ_ _=>vW
def sH:RuE:=rBt "tuple" "tuple" false (one A4) (by decide) rfl λ_ _=>ol
def uF:RuE:=rBt "list" "list" false (one lO) (by decide) rfl λ_ _=>sw
def vq:RuE:=rBf "repr" "repr" false (one y3) (by decide) rfl λh _=>qL h.room.gd h.u64
def nU:RuE where
 is Γ lc e:=match e with
  | .Call (.Name x _) [.Call (.Name y _) [a] [] _] [] _=>decide (x = "list")&&decide (y = "range")&&(Γ.gl.lookup ("list" : Str)).isNone&&(Γ.gl.lookup ("range" : Str)).isNone&&glB lc.sc "list" && glB lc.sc "range" && !quiet lc&&b5 a
  | _=>false
 run r _ _ lc e ρ:=match e with
  | .Call (.Name _ _) [.Call (.Name _ _) [a] [] _] [] _=>bind (r.e lc a ρ) L4
  | _=>bad
 ok {T k r Γ C lc X} e R TX h hi:=by
  split at hi
  ·simp only [Al,Az,AE,BE] at hi;obtain ⟨⟨⟨⟨⟨⟨⟨rfl,rfl⟩,l⟩,b⟩,g⟩,j⟩,i⟩,f⟩:=hi;exact hP (h.calm i) (h.gl g) (TX.none h (by decide) l) (h.gl j) (TX.none h (by decide) b) (R.ex h _) f
  ·cases hi
 runK q _ _ lc e ρ _ k:=match e with
  | .Call (.Name _ _) [.Call (.Name _ _) [a] [] _] [] _=>q.e lc a ρ λd=>bind (L4 d) k
  | _=>bad
 eq e ρ _ k h:=by
  split
  ·simp only [h.e,bind_assoc]
  ·first
   | rfl
   | (rename_i c;split;exact (c _ _ _ _ _ _ _ rfl).elim;rfl)
def lp (n:Nat) (Γ:Gm) (a:Lc) (e:Expr):Bool:=match e with
 | .Call (.Name f _) es [] _=>decide (f = "range")&&decide (es.length=n)&&es.all b5&&(Γ.gl.lookup ("range" : Str)).isNone&&glB a.sc "range"
 | _=>false
def rgE (n:Nat) (r:Ev) (a:Lc) (e:Expr) (ρ:Env):M (Src×Nat):=match e with
 | .Call (.Name _ _) es [] _=>bind (y4 r a es ρ) λds=>if ds.length=n then n8 ds else bad
 | _=>bad
def rgK (n:Nat) (q:EvK) (b:Lc) (e:Expr) (ρ:Env) {a:Type} (k:Src×Nat->M a):M a:=match e with
 | .Call (.Name _ _) es [] _=>A9 q b es ρ λds=>if ds.length=n then bind (n8 ds) k else bad
 | _=>bad
theorem pC (n:Nat) {r:Ev} {q:EvK} {a:Lc} (e:Expr) (ρ:Env) {b:Type} (k:Src×Nat->M b) (h:EqK r q):rgK n q a e ρ k=bind (rgE n r a e ρ) k:=by
 unfold rgK rgE;split
 ·simp only [u0 h,bind_assoc,v8,bW]
 ·first
  | rfl
  | (rename_i c;split;exact (c _ _ _ _ rfl).elim;rfl)
def mK:RuI where
 is Γ lc _ e:=lp 1 Γ lc e
 run r _ _ lc e ρ:=rgE 1 r lc e ρ
 ok {T k r Γ C lc X} g e R TX h hi:=by
  unfold lp at hi;split at hi
  ·rename_i f p es pos;simp only [Al,Az,AE] at hi;obtain ⟨⟨⟨⟨rfl,c⟩,b⟩,i⟩,d⟩:=hi
   match es,c,b with
   | [a],_,b=>exact dA (h.gl d) (TX.none h (by decide) i) (k6 R h b) (by simpa using b)
  ·cases hi
 runK q _ _ lc e ρ _ k:=rgK 1 q lc e ρ k
 eq e ρ _ k h:=pC 1 e ρ k h
def oH:RuI where
 is Γ lc _ e:=lp 2 Γ lc e
 run r _ _ lc e ρ:=rgE 2 r lc e ρ
 ok {T k r Γ C lc X} g e R TX h hi:=by
  unfold lp at hi;split at hi
  ·rename_i f p es pos;simp only [Al,Az,AE] at hi;obtain ⟨⟨⟨⟨rfl,i⟩,d⟩,j⟩,l⟩:=hi
   match es,i,d with
   | [a,b],_,d=>
    have c:b5 a=true/\b5 b=true:=by simpa using d
    exact dY (h.gl l) (TX.none h (by decide) j) (k6 R h d) c.1 c.2
  ·cases hi
 runK q _ _ lc e ρ _ k:=rgK 2 q lc e ρ k
 eq e ρ _ k h:=pC 2 e ρ k h
def wn:RuI where
 is _ _ _ _:=true
 run r _ _ lc e ρ:=bind (r.e lc e ρ) A6
 ok g e R TX h hi:=nl (R.ex h e)
 runK q _ _ lc e ρ _ k:=q.e lc e ρ λd=>bind (A6 d) k
 eq e ρ _ k h:=by simp only [h.e,bind_assoc]
def dy (a b:Scope):Scope:={ a with names:=a.names.map λ(n,k)=>if (k==.free&&b.kind==.function&&b.names.lookup n==some .cell) then (n,NameKind.cell) else (n,k) }
theorem gf (a:Scope) (b:PySem.Env):relabel a b=dy a b.scope:=rfl
def k4 (a:Scope):List Str:=(a.names.filter λy=>y.2==.free).map (·.1)
def v5 (b:Lc) (a:Scope) (xs:List Str):Bool:=
 decide (a.kind=.function)&&a.names.all (λy=>decide (y.2≠.cell))&&a.names.all (λy=>decide (y.2=.local->a.names.lookup y.1=some .local))
  && a.names.all (λy=>decide (y.2=.free->a.names.lookup y.1=some .free/\(b.sc.names.lookup y.1=some .cell\/b.sc.names.lookup y.1=some .free)))
  && (k4 a).all (λz=>decide (a.names.lookup z=some .free))&&decide ((xs++k4 a).Nodup)&&xs.all (λx=>decide (a.names.lookup x=some .local))&&!quiet b
theorem bK:∀ {xs:List α} {ys:List β},e8 f xs=some ys->ys.length=xs.length
 | [],_,e=>by cases e;rfl
 | x :: xs,ys,e=>by
  simp only [e8] at e;cases a:f x with
  | none=>rw [a] at e;cases e
  | some y=>
   cases b:e8 f xs with
   | none=>grind
   | some c=>rw [a,b] at e;cases e;simp [bK b]
theorem cW:∀ {xs:List α} {ys:List β} {j:Nat} {y:β},e8 f xs=some ys->ys[j]?=some y->∃ x,xs[j]?=some x/\f x=some y
 | [],_,_,_,e,h=>by cases e;simp at h
 | x :: xs,ys,j,y,e,h=>by
  simp only [e8] at e;cases a:f x with
  | none=>rw [a] at e;cases e
  | some z=>
   cases b:e8 f xs with
   | none=>grind
   | some c=>
    rw [a,b] at e;cases e;cases j with
    | zero=>grind
    | succ j=>simpa using cW b (by simpa using h)
def f5 (b:Lc) (a:Scope) (xs:List Str):Lc:=⟨xs++k4 a,dy a b.sc,false,[]⟩
def testsE (r:Ev) (a:Lc) (ifs:List Expr) (ρ:Env):M Bool:=match ifs with
 | []=>ret true
 | [c]=>r.t a c ρ
 | _=>bad
def testsK (q:EvK) (a:Lc) (ifs:List Expr) (ρ:Env):M Bool:=match ifs with
 | []=>ret true
 | [c]=>q.t a c ρ ret
 | _=>bad
theorem tests_eq (h:EqK r q) (ifs:List Expr) (ρ:Env):testsK q lc ifs ρ=testsE r lc ifs ρ:=by
 match ifs with
 | []=>rfl
 | [c]=>simp only [testsK,testsE,h.t,P7]
 | _ :: _ :: _=>rfl
section
variable {T:Tx} {k:Nat} {r:Ev} {q:EvK} {Γ:Gm} {C:Cf} {lc:Lc} {X:Cx}
theorem tests_ok (R:EvOk T k r) (h:CxOk T k lc X) {ifs:List Expr}:PTL X ifs (tBo X.K T.cl (xOf X) (testsE r lc ifs)):=by
 match ifs with
 | []=>exact hF
 | [c]=>exact mO (R.tx h c)
 | _ :: _ :: _=>exact λ_ _ _ _ _ _ ⟨_,_,_,_,_,p⟩=>p.elim
theorem C3 (h:CxOk T k lc X) {a:Scope} {xs:List Str} {caps:List Nat} (f:v5 lc a xs=true) (c:e8 (i3 lc.N) (k4 a)=some caps):CompText X.N X.env (xs++k4 a) xs.length caps a/\(xs++k4 a).Nodup/\(∀ x∈xs,a.names.lookup x=some .local)/\quiet lc=false/\a.kind=.function:=by
 simp only [v5,Al,Az,AQ,BE] at f;obtain ⟨⟨⟨⟨⟨⟨⟨b,s⟩,o⟩,r⟩,l⟩,n⟩,t⟩,p⟩:=f;refine ⟨⟨b,s,o,λy m q=>?_,λj i e=>?_,?_⟩,n,t,p,b⟩
 ·rw [h.sc];exact r y m q
 ·obtain ⟨z,d,g⟩:=cW c e;refine ⟨z,by rw [h.N];exact v6 g,?_,l z (AS d)⟩;rw [AL (by omega)];simpa using d
 ·simp [bK c,Nat.add_comm]
theorem k9 (h:CxOk T k lc X) (hq:quiet lc=false) {scope:Scope} {xs:List Str} (hk:scope.kind=.function) (hn:(xs++k4 scope).Nodup) (pins:List (Addr×Obj)) (C:Addr) (fp:List Addr) (s:Shared) (H:Hp):CxOk T k (f5 lc scope xs) (b4 X pins (xs++k4 scope) scope C fp s H):=
 ⟨h.prog,h.w,h.K,h.mg,h.base,rfl,hn,by show relabel scope X.env=dy scope lc.sc;rw [gf,h.sc],λ_=>h.calm hq,(by have:=h.room;rw [hq] at this;exact this),PassesOwn.never,rfl,hk,λz=>Bool.noConfusion z,λz=>Bool.noConfusion z⟩
end
def i6 (src:Src) (t:D->M Bool) (f:D->M D):Nat->Nat->List D->M (List D)
 | 0,_,_=>bad
 | m+1,i,es=>λS=>match src i S with
  | none=>.bad
  | some none=>.ok es S
  | some (some d)=>bind (t d) (λb=>if b=true then bind (f d) (λy=>if es.length<sizeLine then i6 src t f m (i+1) (es++[y]) else bad) else i6 src t f m (i+1) es) S
theorem T4 (src:Src) (t:Env->M Bool) (f:Env->M D) (mk:D->Env):∀ m i es,d8 src t f mk m i es=i6 src (λd=>t (mk d)) (λd=>f (mk d)) m i es
 | 0,_,_=>rfl
 | m+1,i,es=>by
  funext S;simp only [d8,i6,T4 src t f mk m]
  all_goals (cases src i S with
  | none=>rfl
  | some o=>cases o <;> rfl)
def E8 (r:Ev) (c:Lc) (d:Expr) (x:Str) (e:Pos) (b:Expr) (ifs:List Expr) (a:Scope) (ρ:Env):M (List D):=match e8 (i3 c.N) (k4 a) with
 | some caps=>nx (fX caps (r.i c (.Name x e) b) (testsE r (f5 c a [x]) ifs) (r.e (f5 c a [x]) d) ρ)
 | none=>bad
def aP (q:EvK) (c:Lc) (e:Expr) (x:Str) (h:Pos) (b:Expr) (ifs:List Expr) (a:Scope) (ρ:Env) {f:Type} (k:List D->M f):M f:=match e8 (i3 c.N) (k4 a) with
 | some caps=>bind (nx (q.i c (.Name x h) b ρ λg=>i6 g.1 (λd=>testsK q (f5 c a [x]) ifs (some d :: d7 caps ρ)) (λd=>q.e (f5 c a [x]) e (some d :: d7 caps ρ) ret) g.2 0 [])) k
 | none=>bad
theorem cU (h:EqK r q) (c:Expr) (x:Str) (d:Pos) (b:Expr) (ifs:List Expr) (a:Scope) (ρ:Env) {e:Type} (k:List D->M e):aP q lc c x d b ifs a ρ k=bind (E8 r lc c x d b ifs a ρ) k:=by
 unfold aP E8;cases e8 (i3 lc.N) (k4 a) with
 | none=>rfl
 | some caps=>simp only [h.i,h.e,P7,tests_eq h,fX,T4]
theorem kM (R:EvOk T k r) (h:CxOk T k lc X) {c:Expr} {x:Str} {g pos:Pos} {b:Expr} {ifs:List Expr} {a:Scope} (m:v5 lc a [x]=true) (o:j9 b=true) :
  PE X (.ListComp c [⟨.Name x g,b,ifs,0⟩] a pos) (tD X.K T.cl (xOf X) λρ=>bind (E8 r lc c x g b ifs a ρ) λds=>ret (.lst ds)):=by
 unfold E8;cases l:e8 (i3 lc.N) (k4 a) with
 | none=>exact i7
 | some caps=>
  obtain ⟨n,e,j,f,i⟩:=C3 h m l;refine ff (bc n (h.calm f) e rfl (j x (by simp)) (PI.x0 (R.ix h _ _)) (λpins C d s H=>?_) (λpins C d s H=>?_) o)
  ·exact PTL.x0 (tests_ok R (k9 h f i e pins C d s H))
  ·exact PE.x0 (R.ex (k9 h f i e pins C d s H) c)
def sj:RuE where
 is _ lc e:=match e with
  | .ListComp _ [⟨.Name x _,b,_,0⟩] a _=>v5 lc a [x]&&j9 b
  | _=>false
 run r _ _ lc e ρ:=match e with
  | .ListComp c [⟨.Name x d,b,ifs,0⟩] a _=>bind (E8 r lc c x d b ifs a ρ) λds=>ret (.lst ds)
  | _=>bad
 ok e R TX h hi:=by
  split at hi
  ·rw [Al] at hi;exact kM R h hi.1 hi.2
  ·cases hi
 runK q _ _ lc e ρ _ k:=match e with
  | .ListComp c [⟨.Name x d,b,ifs,0⟩] a _=>aP q lc c x d b ifs a ρ λds=>k (.lst ds)
  | _=>bad
 eq e ρ _ k h:=by
  split
  ·simp only [cU h,bind_assoc,i8]
  ·first
   | rfl
   | (rename_i f;split;exact (f _ _ _ _ _ _ _ rfl).elim;rfl)
def A0 (src:Src) (t:D->M Bool) (a:D->M (Src×Nat)) (c:D->D->M Bool) (f:D->D->M D):Nat->Nat->List D->M (List D)
 | 0,_,_=>bad
 | m+1,i,es=>λS=>match src i S with
  | none=>.bad
  | some none=>.ok es S
  | some (some d)=>bind (t d) (λb=>if b=true then bind (a d) (λe=>bind (i6 e.1 (c d) (f d) e.2 0 es) (λes'=>A0 src t a c f m (i+1) es')) else A0 src t a c f m (i+1) es) S
theorem Z7 (src:Src) (t:Env->M Bool) (b:Env->M (Src×Nat)) (e:Env->M Bool) (f:Env->M D) (a:Env):∀ m i es,c9 src t b e f a m i es=A0 src (λd=>t (some d :: none :: a)) (λd=>b (some d :: none :: a)) (λd c=>e (some d :: some c :: a)) (λd c=>f (some d :: some c :: a)) m i es
 | 0,_,_=>rfl
 | m+1,i,es=>by
  funext S;simp only [c9,A0,Z7 src t b e f a m,T4]
  all_goals (cases src i S with
  | none=>rfl
  | some o=>cases o <;> rfl)
def B5 (r:Ev) (c:Lc) (f:Expr) (x y:Str) (g h:Pos) (e b:Expr) (ifs d:List Expr) (a:Scope) (ρ:Env):M (List D):=match e8 (i3 c.N) (k4 a) with
 | some caps=>nx (N9 caps (r.i c (.Name x g) e) (testsE r (f5 c a [x,y]) ifs) (r.i (f5 c a [x,y]) (.Name y h) b) (testsE r (f5 c a [x,y]) d) (r.e (f5 c a [x,y]) f) ρ)
 | none=>bad
def aa (q:EvK) (c:Lc) (g:Expr) (x y:Str) (l m:Pos) (f b:Expr) (ifs e:List Expr) (a:Scope) (ρ:Env) {i:Type} (k:List D->M i):M i:=match e8 (i3 c.N) (k4 a) with
 | some caps=>bind (nx (q.i c (.Name x l) f ρ λj=>A0 j.1 (λd=>testsK q (f5 c a [x,y]) ifs (some d :: none :: d7 caps ρ)) (λd=>q.i (f5 c a [x,y]) (.Name y m) b (some d :: none :: d7 caps ρ) ret) (λd h=>testsK q (f5 c a [x,y]) e (some d :: some h :: d7 caps ρ)) (λd h=>q.e (f5 c a [x,y]) g (some d :: some h :: d7 caps ρ) ret) j.2 0 [])) k
 | none=>bad
theorem bq (h:EqK r q) (e:Expr) (x y:Str) (f g:Pos) (d b:Expr) (ifs c:List Expr) (a:Scope) (ρ:Env) {i:Type} (k:List D->M i):aa q lc e x y f g d b ifs c a ρ k=bind (B5 r lc e x y f g d b ifs c a ρ) k:=by
 unfold aa B5;cases e8 (i3 lc.N) (k4 a) with
 | none=>rfl
 | some caps=>simp only [h.i,h.e,P7,tests_eq h,N9,Z7]
theorem jx (R:EvOk T k r) (h:CxOk T k lc X) {e:Expr} {x y:Str} {n o pos:Pos} {c b:Expr} {ifs d:List Expr} {a:Scope} (q:v5 lc a [x,y]=true) (u:j9 c=true) (l:j9 b=true) :
  PE X (.ListComp e [⟨.Name x n,c,ifs,0⟩,⟨.Name y o,b,d,0⟩] a pos) (tD X.K T.cl (xOf X) λρ=>bind (B5 r lc e x y n o c b ifs d a ρ) λds=>ret (.lst ds)):=by
 unfold B5;cases p:e8 (i3 lc.N) (k4 a) with
 | none=>exact i7
 | some caps=>
  obtain ⟨t,g,m,i,j⟩:=C3 h q p;refine ff (fy t (h.calm i) g rfl rfl (m x (by simp)) (m y (by simp)) (PI.x0 (R.ix h _ _)) (λpins C f s H=>?_) (λpins C f s H=>?_) (λpins C f s H=>?_) (λpins C f s H=>?_) u l)
  ·exact PTL.x0 (tests_ok R (k9 h i j g pins C f s H))
  ·exact PI.x0 (R.ix (k9 h i j g pins C f s H) _ _)
  ·exact PTL.x0 (tests_ok R (k9 h i j g pins C f s H))
  ·exact PE.x0 (R.ex (k9 h i j g pins C f s H) e)
def rC:RuE where
 is _ lc e:=match e with
  | .ListComp _ [⟨.Name x _,c,_,0⟩,⟨.Name y _,b,_,0⟩] a _=>v5 lc a [x,y]&&j9 c&&j9 b
  | _=>false
 run r _ _ lc e ρ:=match e with
  | .ListComp f [⟨.Name x g,c,ifs,0⟩,⟨.Name y i,b,d,0⟩] a _=>bind (B5 r lc f x y g i c b ifs d a ρ) λds=>ret (.lst ds)
  | _=>bad
 ok e R TX h hi:=by
  split at hi
  ·rw [Al,Al] at hi;exact jx R h hi.1.1 hi.1.2 hi.2
  ·cases hi
 runK q _ _ lc e ρ _ k:=match e with
  | .ListComp f [⟨.Name x g,c,ifs,0⟩,⟨.Name y i,b,d,0⟩] a _=>aa q lc f x y g i c b ifs d a ρ λds=>k (.lst ds)
  | _=>bad
 eq e ρ _ k h:=by
  split
  ·simp only [bq h,bind_assoc,i8]
  ·first
   | rfl
   | (rename_i j;split;exact (j _ _ _ _ _ _ _ _ _ _ _ rfl).elim;rfl)
def sZ (m:Str) (e:Expr):Bool:=match e with
 | .Call (.Attribute o n b) (a :: es) [] c=>decide (n=m)&&j7 o&&(a :: es).all b5&&y0 (a :: es)&&(b.endLine==c.line)
 | _=>false
theorem nh (h:sZ m e=true):∃ o b a es c,e=.Call (.Attribute o m b) (a :: es) [] c/\j7 o=true/\(a :: es).all b5=true/\y0 (a :: es)=true/\(b.endLine==c.line)=true:=by
 unfold sZ at h;grind
def mtE {c:Type} (g:D->M c) (op:D->List D->M D) (r:Ev) (b:Lc) (e:Expr) (ρ:Env):M D:=match e with
 | .Call (.Attribute o _ _) (a :: es) [] _=>bind (r.e b o ρ) λx=>bind (g x) λ_=>bind (y4 r b (a :: es) ρ) λds=>op x ds
 | _=>bad
def mtK {d:Type} (g:D->M d) (op:D->List D->M D) (q:EvK) (b:Lc) (e:Expr) (ρ:Env) {c:Type} (k:D->M c):M c:=match e with
 | .Call (.Attribute o _ _) (a :: es) [] _=>q.e b o ρ λx=>bind (g x) λ_=>A9 q b (a :: es) ρ λds=>bind (op x ds) k
 | _=>bad
theorem uB (g:D->M α) (op:D->List D->M D) {r:Ev} {q:EvK} {a:Lc} (e:Expr) (ρ:Env) {b:Type} (k:D->M b) (h:EqK r q):mtK g op q a e ρ k=bind (mtE g op r a e ρ) k:=by
 unfold mtK mtE;split
 ·simp only [h.e,u0 h,bind_assoc]
 ·first
  | rfl
  | (rename_i c;split;exact (c _ _ _ _ _ _ rfl).elim;rfl)
def rMt {α:Type} (m:Str) (g:D->M α) (op:D->List D->M D)
  (ok:∀ {T:Tx} {k:Nat} {lc:Lc} {X:Cx} {xe:Addr->Hp->Prop} {o a:Expr} {es:List Expr} {apos cpos:Pos} {f:Env->M D} {fs:Env->M (List D)},CxOk T k lc X->PE X o (tD X.K T.cl xe f)->PA X (a :: es) (tDs X.K T.cl xe fs)->j7 o=true->(a :: es).all b5=true->y0 (a :: es)=true->(apos.endLine==cpos.line)=true->PE X (.Call (.Attribute o m apos) (a :: es) [] cpos) (tD X.K T.cl xe λρ=>bind (f ρ) λx=>bind (g x) λ_=>bind (fs ρ) λds=>op x ds)):RuE where
 is _ _ e:=sZ m e
 run r _ _ lc e ρ:=mtE g op r lc e ρ
 ok {T k r Γ C lc X} e R TX h hi:=by
  obtain ⟨o,apos,a,es,cpos,rfl,c1,c2,c3,c4⟩:=nh hi;exact ok h (R.ex h o) (k6 R h c2) c1 c2 c3 c4
 runK q _ _ lc e ρ _ k:=mtK g op q lc e ρ k
 eq e ρ _ k h:=uB g op e ρ k h
def nG:RuE:=rMt "extend" lstOf extD λ_ e d c f a b=>aD Bw Ef Eg W4 A1 bR e d c f a b
def rF:RuE:=rMt "index" sqK R1 λh e d c f a b=>hR h.u80 e d c f a b
def we:RuE:=rMt "pop" lstOf popD λ_ e d c f a b=>aD Bw PySem.F.slot_list_pop PySem.F.type_list_pop lG A1 jC e d c f a b
def rAppend:RuE:=rMt "append" lstOf M8 λ_ e d c f a b=>Y2 e d c f a b
def jn:RuE where
 is _ lc e:=match e with
  | .Call (.Attribute o n a) [.List c p] [] b=>decide (n = "append")&&j7 o&&decide (("[]" : Str)∈lc.mu)&&c.all b5&&(a.endLine==b.line)
  | _=>false
 run r _ _ lc e ρ:=match e with
  | .Call (.Attribute o _ _) [.List c _] [] _=>bind (r.e lc o ρ) λx=>bind (lstOf x) λ_=>bind (bind (bind (y4 r lc c ρ) newL) λd=>ret [d]) λds=>M8 x ds
  | _=>bad
 ok {T k r Γ C lc X} e R TX h hi:=by
  split at hi
  ·simp only [Al,Az] at hi;obtain ⟨⟨⟨⟨rfl,j⟩,s⟩,g⟩,m⟩:=hi;refine Y2 (R.ex h _) ?_ j rfl rfl m;exact PA.imp (U4 (aK (k6 R h g)) ah rfl) λσ H Q ⟨μ,S,ρ,i,f,p⟩=>⟨μ,S,ρ,i,f,p⟩
  ·cases hi
 runK q _ _ lc e ρ _ k:=match e with
  | .Call (.Attribute o _ _) [.List c _] [] _=>q.e lc o ρ λx=>bind (lstOf x) λ_=>A9 q lc c ρ λds=>bind (newL ds) λd=>bind (M8 x [d]) k
  | _=>bad
 eq e ρ _ k h:=by
  split
  ·simp only [h.e,u0 h,bind_assoc,i8]
  ·first
   | rfl
   | (rename_i l;split;exact (l _ _ _ _ _ _ rfl).elim;rfl)
def uL:RuS where
 is _ _ e:=match e with
  | .Pass _=>true
  | .Break _=>true
  | .Continue _=>true
  | .Return none _=>true
  | _=>false
 run _ _ _ _ e ρ:=match e with
  | .Pass _=>ret (.nx ρ)
  | .Break _=>ret (.bk ρ)
  | .Continue _=>ret (.ct ρ)
  | .Return none _=>ret (.rt .non)
  | _=>bad
 ok e R TX h hf hi:=by
  split at hi
  ·exact lB
  ·exact gQ
  ·exact lQ
  ·exact kG
  ·cases hi
 runK _ _ _ _ e ρ _ k:=match e with
  | .Pass _=>k (.nx ρ)
  | .Break _=>k (.bk ρ)
  | .Continue _=>k (.ct ρ)
  | .Return none _=>k (.rt .non)
  | _=>bad
 eq e ρ _ k h:=by
  cases e with
  | Return o p=>cases o <;> rfl
  | _=>rfl
def wH:RuS where
 is _ _ e:=match e with
  | .Expr e _=>v7 e
  | _=>false
 run r _ _ lc e ρ:=match e with
  | .Expr e _=>bind (r.e lc e ρ) λ_=>ret (.nx ρ)
  | _=>bad
 ok e R TX h hf hi:=by
  cases e with
  | Expr e p=>exact kW (R.ex h _) hi
  | _=>exact M7
 runK q _ _ lc e ρ _ k:=match e with
  | .Expr e _=>q.e lc e ρ λ_=>k (.nx ρ)
  | _=>bad
 eq e ρ _ k h:=by
  cases e with
  | Expr e p=>simp only [h.e,bind_assoc,i8]
  | _=>rfl
def xF:RuS where
 is _ _ e:=match e with
  | .Return (some _) _=>true
  | _=>false
 run r _ _ lc e ρ:=match e with
  | .Return (some e) _=>bind (r.e lc e ρ) λd=>ret (.rt d)
  | _=>bad
 ok e R TX h hf hi:=by
  split at hi
  ·exact aF (R.ex h _)
  ·cases hi
 runK q _ _ lc e ρ _ k:=match e with
  | .Return (some e) _=>q.e lc e ρ λd=>k (.rt d)
  | _=>bad
 eq e ρ _ k h:=by
  split
  ·simp only [h.e,bind_assoc,i8]
  ·first
   | rfl
   | (rename_i a;split;exact (a _ _ rfl).elim;rfl)
def vt:RuS where
 is _ lc e:=match e with
  | .Return (some (.List es _)) _=>decide (("return" : Str)∈lc.mu)&&es.all b5
  | _=>false
 run r _ _ lc e ρ:=match e with
  | .Return (some (.List es _)) _=>bind (bind (y4 r lc es ρ) newL) λd=>ret (.rt d)
  | _=>bad
 ok e R TX h hf hi:=by
  split at hi
  ·rw [Al] at hi;exact aF (aK (k6 R h hi.2))
  ·cases hi
 runK q _ _ lc e ρ _ k:=match e with
  | .Return (some (.List es _)) _=>A9 q lc es ρ λds=>bind (newL ds) λd=>k (.rt d)
  | _=>bad
 eq e ρ _ k h:=by
  split
  ·simp only [u0 h,bind_assoc,i8]
  ·first
   | rfl
   | (rename_i a;split;exact (a _ _ _ rfl).elim;rfl)
def sIf:RuS where
 is _ _ e:=match e with
  | .If _ _ _ _=>true
  | _=>false
 run r _ _ lc e ρ:=match e with
  | .If c a b _=>bind (r.t lc c ρ) λq=>if q=true then X2 r lc a ρ else X2 r lc b ρ
  | _=>bad
 ok e R TX h hf hi:=by
  cases e with
  | If c a b p=>exact qR (R.tx h _) (O1 R h hf) (O1 R h hf)
  | _=>exact M7
 runK q _ _ lc e ρ _ k:=match e with
  | .If c a b _=>q.t lc c ρ λz=>if z=true then u5 q lc a ρ k else u5 q lc b ρ k
  | _=>bad
 eq e ρ _ k h:=by
  cases e with
  | If c a b p=>simp only [h.t,az h,bind_assoc,v8]
  | _=>rfl
def df (a:Lc) (x:Str):Bool:=(i3 a.N x).isSome&&bU a.sc x
def T8 (a:Lc) (x:Str) (ρ:Env) (d:D):M Fl:=match i3 a.N x with
 | some i=>ret (.nx (ρ.set i (some d)))
 | none=>bad
def z8 (b:Lc) (x:Str) (ρ:Env) (d:D) {a:Type} (k:Fl->M a):M a:=match i3 b.N x with
 | some i=>k (.nx (ρ.set i (some d)))
 | none=>bad
theorem aW (a:Lc) (x:Str) (ρ:Env) (d:D) {b:Type} (k:Fl->M b):bind (T8 a x ρ d) k=z8 a x ρ d k:=by
 unfold T8 z8;cases i3 a.N x <;> rfl
theorem dL {x:Str} {p pos:Pos} {e:Expr} {f:Env->M D} (h:CxOk T k lc X) (l:lc.fr=true) (a:df lc x=true) (g:PE X e (tD X.K T.cl xe f)) (c:v7 e=true):PS X (.Assign [.Name x p] e pos) (sD X.K T.cl xe λρ=>bind (f ρ) (T8 lc x ρ)):=by
 rw [df,Al,Br] at a;obtain ⟨⟨i,b⟩,j⟩:=a;have:=mU (pos:=pos) (pos':=p) h.nd' (by rw [h.N];exact v6 b) (by rw [h.sc];exact J4 j) g c (.inl (h.fn1 l));have e:T8 lc x=λρ d=>ret (.nx (ρ.set i (some d))):=by funext ρ d;simp only [T8,b]
 simp_all
def wy:RuS where
 is _ lc e:=match e with
  | .Assign [.Name x _] e _=>df lc x&&v7 e
  | _=>false
 run r _ _ lc e ρ:=match e with
  | .Assign [.Name x _] e _=>bind (r.e lc e ρ) (T8 lc x ρ)
  | _=>bad
 ok e R TX h hf hi:=by
  split at hi
  ·rw [Al] at hi;exact dL h hf hi.1 (R.ex h _) hi.2
  ·cases hi
 runK q _ _ lc e ρ _ k:=match e with
  | .Assign [.Name x _] e _=>q.e lc e ρ λd=>z8 lc x ρ d k
  | _=>bad
 eq e ρ _ k h:=by
  split
  ·simp only [h.e,bind_assoc,aW]
  ·first
   | rfl
   | (rename_i a;split;exact (a _ _ _ _ rfl).elim;rfl)
def uW:RuS where
 is _ lc e:=match e with
  | .Assign [.Name x _] (.List es _) _=>df lc x&&decide (x∈lc.mu)&&es.all b5
  | _=>false
 run r _ _ lc e ρ:=match e with
  | .Assign [.Name x _] (.List es _) _=>bind (bind (y4 r lc es ρ) newL) (T8 lc x ρ)
  | _=>bad
 ok e R TX h hf hi:=by
  split at hi
  ·rw [Al,Al] at hi;exact dL h hf hi.1.1 (aK (k6 R h hi.2)) rfl
  ·cases hi
 runK q _ _ lc e ρ _ k:=match e with
  | .Assign [.Name x _] (.List es _) _=>A9 q lc es ρ λds=>bind (newL ds) λd=>z8 lc x ρ d k
  | _=>bad
 eq e ρ _ k h:=by
  split
  ·simp only [u0 h,bind_assoc,aW]
  ·first
   | rfl
   | (rename_i a;split;exact (a _ _ _ _ _ rfl).elim;rfl)
def kh:RuS where
 is Γ lc e:=match e with
  | .Assign [.Name x _] (.Call (.Name y _) [a] [] _) _=>df lc x&&decide (x∈lc.mu)&&decide (y = "list")&&(Γ.gl.lookup ("list" : Str)).isNone&&glB lc.sc "list" && b5 a
  | _=>false
 run r _ _ lc e ρ:=match e with
  | .Assign [.Name x _] (.Call (.Name _ _) [a] [] _) _=>bind (bind (r.e lc a ρ) listP) (T8 lc x ρ)
  | _=>bad
 ok {T k r Γ C lc X} e R TX h hf hi:=by
  split at hi
  ·rename_i x p y o a b pos;simp only [Al,Az,AE] at hi;obtain ⟨⟨⟨⟨⟨m,n⟩,rfl⟩,g⟩,l⟩,c⟩:=hi;refine dL h hf m ?_ rfl;exact PE.imp (cM lh (h.gl l) (TX.none h (by decide) g) (by rfl) (U4 (R.ex h a) ah c) (by decide) (by decide) (by simp [c])) λσ H Q ⟨μ,S,ρ,j,f,p⟩=>⟨μ,S,ρ,j,f,by
    have e:(bind (bind (r.e lc a ρ) λd=>bind (ret []) λds=>ret (d :: ds)) (one listP))=bind (r.e lc a ρ) listP:=by rw [bind_assoc];rfl
    show Post X.K T.cl (xOf X) μ H ((bind (bind (r.e lc a ρ) λd=>bind (ret []) λds=>ret (d :: ds)) (one listP)) S) _;rw [e];exact p⟩
  ·cases hi
 runK q _ _ lc e ρ _ k:=match e with
  | .Assign [.Name x _] (.Call (.Name _ _) [a] [] _) _=>q.e lc a ρ λz=>bind (listP z) λd=>z8 lc x ρ d k
  | _=>bad
 eq e ρ _ k h:=by
  split
  ·simp only [h.e,bind_assoc,aW]
  ·first
   | rfl
   | (rename_i i;split;exact (i _ _ _ _ _ _ _ rfl).elim;rfl)
def swB (c:Lc) (b:Expr) (a:Scope) (t:Str) (pos:Pos):Bool:=c.sc.names.lookup t==some .local&&pos.line==b.pos.line&&!(a.names.any λ(n,k)=>n==t&&(k==.local||k==.cell))
theorem wP (h:CxOk T k lc X) (d:Expr) (c:List Comprehension) (a:Scope) (x:Str) (pos' pos b:Pos):swapsWith (.ListComp d c a b) (some (.Name x pos')) pos.line X.env=pure (swB lc (.ListComp d c a b) a x pos'):=by
 show pure (X.env.blockKind==.function&&X.env.kindOf x==some .local&&pos'.line==(Expr.ListComp d c a b).pos.line&&!(a.names.any λ(n,k)=>n==x&&(k==.local||k==.cell)))=_;have f:X.env.blockKind=.function:=by unfold PySem.Env.blockKind;rw [h.sc,h.kd];rfl
 have e:X.env.kindOf x=lc.sc.names.lookup x:=by unfold PySem.Env.kindOf;rw [h.sc]
 rw [f,e];rfl
theorem kJ {T:Tx} {k i:Nat} {f:Lc} {X:Cx} {x:Str} {p pos:Pos} {e:Expr} {fs:Env->M (List D)} {xe:Addr->Hp->Prop} (r:i3 f.N x=some i) (h:PS X (.Assign [.Name x p] e pos) (oM (iu X.K T.cl x0 fs) (fS i))):PS X (.Assign [.Name x p] e pos) (sD X.K T.cl xe λρ=>bind (bind (nx (fs ρ)) λds=>ret (.lst ds)) (T8 f x ρ)):=PS.imp h λD σ H ⟨μ,S,ρ,g,n,p⟩=>
 ⟨μ,S,ρ,g,n,p.bind.bind.nx.imp λds S1 a j l c o m ys q b=>by
  have d:=o.ret a j (Lat.refl _ _) c;simp only [T8,r] at d;exact d.ret a j (Lat.refl _ _) c _ ((g.later l).set (.lst q b) i)⟩
def kQ:RuS where
 is _ lc e:=match e with
  | .Assign [.Name x _] (.ListComp _ [⟨.Name y _,b,_,0⟩] a _) _=>df lc x&&v5 lc a [y]&&j9 b
  | _=>false
 run r _ _ lc e ρ:=match e with
  | .Assign [.Name x _] (.ListComp c [⟨.Name y g,b,ifs,0⟩] a _) _=>bind (bind (E8 r lc c y g b ifs a ρ) λds=>ret (.lst ds)) (T8 lc x ρ)
  | _=>bad
 ok {T k r Γ C lc X} e R TX h hf f:=by
  split at f
  ·rename_i x p c y g b ifs a d pos;rw [Al,Al] at f;obtain ⟨⟨N,K⟩,t⟩:=f;have m:=N;rw [df,Al,Br] at m;obtain ⟨⟨i,f⟩,M⟩:=m;have j:X.N[i]?=some x:=by rw [h.N];exact v6 f
   have n:L2.Loc X.env.scope x:=by rw [h.sc];exact J4 M
   have l:X.fn x=true\/X.env.scope.names.lookup x=some .local:=.inl (h.fn1 hf);have u:=wP h c [⟨.Name y g,b,ifs,0⟩] a x p pos d;unfold E8;cases L:e8 (i3 lc.N) (k4 a) with
   | none=>exact PS.imp kj λD σ H ⟨μ,S,ρ,J,F,p⟩=>p.bind.elim
   | some caps=>
    obtain ⟨z,o,I,v,E⟩:=C3 h K L;have G:=λpins C w s H=>PTL.x0 (tests_ok (ifs:=ifs) R (k9 h v E o pins C w s H));have A:=λpins C w s H=>PE.x0 (R.ex (k9 h v E o pins C w s H) c);refine kJ (k:=k) f ?_;cases B:swB lc (.ListComp c [⟨.Name y g,b,ifs,0⟩] a d) a x p with
    | false=>
     rw [B] at u;exact lP h.nd' j n (bc z (h.calm v) o rfl (I y (by simp)) (PI.x0 (R.ix h _ _)) G A t) u l
    | true=>
     rw [B] at u;exact PS.imp (dE u h.nd' j n l z (h.calm v) o rfl (I y (by simp)) (PI.x0 (R.ix h _ _)) G A (s0 t)) λD σ H ⟨μ,S,ρ,J,F,p⟩=>U5 J F p
  ·cases f
 runK q _ _ lc e ρ _ k:=match e with
  | .Assign [.Name x _] (.ListComp c [⟨.Name y g,b,ifs,0⟩] a _) _=>aP q lc c y g b ifs a ρ λds=>z8 lc x ρ (.lst ds) k
  | _=>bad
 eq e ρ _ k h:=by
  split
  ·simp only [cU h,bind_assoc,i8,aW]
  ·first
   | rfl
   | (rename_i t;split;exact (t _ _ _ _ _ _ _ _ _ _ rfl).elim;rfl)
def p0 (a:Lc):List Expr->Option (List Nat)
 | []=>some []
 | .Name x _ :: b=>if bU a.sc x=true then (match i3 a.N x,p0 a b with
   | some i,some c=>some (i :: c)
   | _,_=>none) else none
 | _=>none
theorem W5 (h:CxOk T k lc X) (hf:lc.fr=true):∀ {ts:List Expr} {is:List Nat},p0 lc ts=some is->D0 X ts is
 | [],is,e=>by cases e;exact True.intro
 | t :: ts,is,e=>by
  cases t with
  | Name x p=>
   simp only [p0] at e;by_cases hl:bU lc.sc x=true
   ·simp only [if_pos hl] at e;cases e1:i3 lc.N x with
    | none=>rw [e1] at e;cases e
    | some i=>
     cases e2:p0 lc ts with
     | none=>grind
     | some is'=>
      rw [e1,e2] at e;cases e;exact ⟨by rw [h.N];exact v6 e1,by rw [h.sc];exact J4 hl,.inl (h.fn1 hf),W5 h hf e2⟩
   ·grind
  | _=>simp only [p0] at e;cases e
def xM:RuS where
 is _ lc e:=match e with
  | .Assign [.Tuple ts _ _] e _=>(p0 lc ts).isSome&&v7 e&&jK e&&!quiet lc
  | _=>false
 run r _ _ lc e ρ:=match e with
  | .Assign [.Tuple ts _ _] e _=>(match p0 lc ts with
   | some is=>bind (r.e lc e ρ) λd=>ba (G2 is) d ρ
   | none=>bad)
  | _=>bad
 ok {T k r Γ C lc X} e R TX h hf hi:=by
  split at hi
  ·rename_i ts n p e pos;simp at hi;obtain ⟨⟨⟨h1,h2⟩,h3⟩,h4⟩:=hi;show PS X _ (sD X.K T.cl (xOf X) λρ=>(match p0 lc ts with
    | some is=>bind (r.e lc e ρ) λd=>ba (G2 is) d ρ
    | none=>bad))
   cases e1:p0 lc ts with
   | none=>exact M7
   | some is=>exact me (h.calm h4) h.nd' (W5 h hf e1) (R.ex h _) h2 h3
  ·cases hi
 runK q _ _ lc e ρ _ k:=match e with
  | .Assign [.Tuple ts _ _] e _=>(match p0 lc ts with
   | some is=>q.e lc e ρ λd=>bind (ba (G2 is) d ρ) k
   | none=>bad)
  | _=>bad
 eq {r q Γ C lc} e ρ _ k h:=by
  split
  ·rename_i ts n p e pos;cases p0 lc ts with
   | none=>rfl
   | some is=>simp only [h.e,bind_assoc]
  ·first
   | rfl
   | (rename_i hn;split;exact (hn _ _ _ _ _ rfl).elim;rfl)
def tR:RuS where
 is _ _ e:=match e with
  | .Assign [.Subscript _ b _] e _=>v7 e&&A2 b
  | _=>false
 run r _ _ lc e ρ:=match e with
  | .Assign [.Subscript a b _] e _=>bind (r.e lc e ρ) λv=>bind (r.e lc a ρ) λx=>bind (r.e lc b ρ) λy=>bind (E2 x y v) λ_=>ret (.nx ρ)
  | _=>bad
 ok e R TX h hf hi:=by
  split at hi
  ·rw [Al] at hi;exact jf h.u1 (R.ex h _) (R.ex h _) (R.ex h _) hi.1 hi.2
  ·cases hi
 runK q _ _ lc e ρ _ k:=match e with
  | .Assign [.Subscript a b _] e _=>q.e lc e ρ λv=>q.e lc a ρ λx=>q.e lc b ρ λy=>bind (E2 x y v) λ_=>k (.nx ρ)
  | _=>bad
 eq e ρ _ k h:=by
  split
  ·simp only [h.e,bind_assoc,i8]
  ·first
   | rfl
   | (rename_i c;split;exact (c _ _ _ _ _ rfl).elim;rfl)
def tgE (b:Lc) (a:Expr):Option (D->Env->Option Env):=match a with
 | .Name x _=>if bU b.sc x=true then (i3 b.N x).map λi=>λd ρ=>some (ρ.set i (some d)) else none
 | .Tuple c _ _=>(p0 b c).map G2
 | _=>none
theorem vA (h:CxOk T k lc X) (d:lc.fr=true) (g:quiet lc=false) {b:Expr} {tg:D->Env->Option Env} (e:tgE lc b=some tg):PG X b (mZ X.K T.cl tg):=by
 unfold tgE at e;split at e
 ·rename_i x p;by_cases c:bU lc.sc x=true
  ·simp only [if_pos c] at e;cases a:i3 lc.N x with
   | none=>rw [a] at e;cases e
   | some i=>rw [a] at e;cases e;exact iF h.nd' (by rw [h.N];exact v6 a) (by rw [h.sc];exact J4 c) (.inl (h.fn1 d))
  ·grind
 ·rename_i f n p;cases a:p0 lc f with
  | none=>rw [a] at e;cases e
  | some j=>rw [a] at e;cases e;exact eJ (h.calm g) h.nd' (W5 h d a)
 ·cases e
def xW:RuS where
 is _ lc e:=match e with
  | .For _ a _ [] _=>j9 a&&!quiet lc
  | _=>false
 run r _ _ lc e ρ:=match e with
  | .For b a body [] _=>(match tgE lc b with
   | some tg=>bind (r.i lc b a ρ) λp=>v3 p.1 tg (X2 r lc body) p.2 0 ρ
   | none=>bad)
  | _=>bad
 ok {T k r Γ C lc X} e R TX h hf hi:=by
  split at hi
  ·rename_i b a body pos;simp at hi;show PS X _ (sD X.K T.cl (xOf X) λρ=>(match tgE lc b with
    | some tg=>bind (r.i lc b a ρ) λp=>v3 p.1 tg (X2 r lc body) p.2 0 ρ
    | none=>bad))
   cases e:tgE lc b with
   | none=>exact M7
   | some tg=>exact nC h.po (h.calm hi.2) (R.ix h _ _) (vA h hf hi.2 e) (O1 R h hf) hi.1
  ·cases hi
 runK q _ _ lc e ρ _ k:=match e with
  | .For b a body [] _=>(match tgE lc b with
   | some tg=>q.i lc b a ρ λp=>bind (v3 p.1 tg (λc=>u5 q lc body c ret) p.2 0 ρ) k
   | none=>bad)
  | _=>bad
 eq {r q Γ C lc} e ρ _ k h:=by
  split
  ·rename_i b a body pos;cases tgE lc b with
   | none=>rfl
   | some tg=>
    have:(λc=>u5 q lc body c ret)=X2 r lc body:=funext λc=>by rw [az h,P7]
    simp only [h.i,bind_assoc,this]
  ·first
   | rfl
   | (rename_i d;split;exact (d _ _ _ _ rfl).elim;rfl)
structure Fd where
 ps:List Str
 N:List Str
 sc:Scope
 body:List Stmt
 mu:List Str
def M9 (N:List Str) (ds:List D):Env:=ds.map some++List.replicate (N.length-ds.length) none
def endD (a:Fl):M D:=match a with
 | .rt d=>ret d
 | .nx _=>ret .non
 | _=>bad
abbrev E3 (fd:Fd):Lc:=⟨fd.N,fd.sc,true,fd.mu⟩
def E1 (Rs:Rules) (Γ:Gm) (a:List Fd):Nat->Nat->List D->M D
 | 0,_,_=>bad
 | k+1,i,ds=>match a[i]? with
  | none=>bad
  | some fd=>if ds.length=fd.ps.length then bind (X2 (ev Rs Γ (E1 Rs Γ a k) 40) (E3 fd) fd.body (M9 fd.N ds)) endD else bad
def L0 (K:PySem.W.Frag) (f:Addr):Option Value:=match K.lookup f with
 | some ⟨_,_,.func fd,_⟩=>some fd.code
 | _=>none
def bw (T:Tx) (f:Addr) (qual:Str) (mu:List Str):Prop:=mu.contains ("lam" : Str)=true->∃ c,L0 T.K f=some (.ref c)/\PySem.W.codeHdIn T.K c (T.cl 1000000)=true/\nc T.K T.cl/\qual ++ ".<locals>." ++ "<lambda>" = cm T.K (T.cl 1000000)
structure FnTx (T:Tx) (x:Str) (fd:Fd):Prop where
 ex:∃ (f:Addr) (da:FuncData) (qual:Str) (st:Stmt),Fun T.K x qual st f da/\j6 st=fd.body/\b9 st=fd.sc/\FnScope fd.N fd.ps fd.sc/\Binds T.K da fd.ps []/\T.mg x=some (.ref f)/\bw T f qual fd.mu
theorem cN {K:PySem.W.Frag} {μ:Mp} {H:Hp} {N:List Str} {ds:List D} {vs:List V} (r:RDs K μ H ds vs):EnvOk K μ H (M9 N ds) (L2.start N vs):=by
 unfold M9 L2.start;refine ⟨by simp [r.length],λi d e=>?_⟩;by_cases a:i<ds.length
 ·rw [Aq (by simpa using a),AG] at e;cases q:ds[i]? with
  | none=>rw [q] at e;cases e
  | some d'=>
   rw [q] at e;cases e;obtain ⟨v,b,c⟩:=r.get q;refine ⟨v,?_,c⟩;rw [Aq (by rw [Ak,<- r.length];exact a),AG,b];rfl
 ·grind
section
variable {P:Program} {w:World} {K:PySem.W.Frag} {mg:Str->Option Value} {base:Heap}
theorem kE {x qual:Str} {st:Stmt} {f:Addr} {fd:FuncData} {N ps:List Str} {k:Nat} {sp:Sp} (F:Fun K x qual st f fd) (S:FnScope N ps (b9 st)) (len:∀ vs H Q E,sp vs H Q E->vs.length=ps.length)
  (hbody:∀ (cdv:Value) (A:Around) (outer:List PySem.Env) (s:Shared) (H:Hp) (vs:List V) (Q:VK) (E:XK),L0 K f=some cdv->Room CX.q k (A.deeper (envOfC qual (b9 st) s.heap.objs.size f cdv))->sp vs H Q E ->
   ∃ t,PSs (S8 CX P w K mg base N qual (b9 st) f cdv A outer s H E) (j6 st) t/\t { nx:=λ_ H'=>Q .non H',rt:=Q } (start N vs) H):FnOk P w K mg base CX (k+1) f fd ps sp:=by
 obtain ⟨oc,od,kV,doc,pm,an,cdv,ct,osl,rfl,lk,hcd⟩:=F.ex;exact tP lk hcd S len λA outer s H vs Q E hr hsp=>hbody cdv A outer s H vs Q E (by unfold L0;rw [lk]) hr hsp
theorem Post.fly {H0 H:Hp} {E:XK} {μ:Mp} {r:R α} {G:α->Sto->Mp->Hp->Prop} (p:Post K cl (kr E) μ H r G) :
  Post K cl (xOf (S8 (CXd P w K) P w K mg base N qual scope f cd A outer s H0 E)) μ H r G:=by
 cases r with
 | ok a S=>exact p
 | bad=>exact p
 | exn n S=>
  intro μ' H' a l rp e pins σ s' C d tb I fx;refine dQ I I.ok.frames rfl rfl fx λH2 s2 T I2 fx2 m2=>?_;obtain ⟨l2,r2⟩:=rp.mv I.hok e fx.at_ m2;exact ⟨a,C,d,some T,H2,rfl,I2.os,I2.bare,I2.base,I2.hok,fx2,p μ' H2 a (l.trans l2) r2 e⟩
end
theorem FnOk.unX {K:PySem.W.Frag} {mg:Str->Option Value} {base:Heap} {k n:Nat} {f:Addr} {fd:FuncData} {ps:List Str} {cl:Nat->Addr} {run:List D->M D} (F:FnOk P w K mg base (CXd P w K) k f fd ps (spX K cl n run)):FnOk P w K mg base (CXq false) k f fd ps (spD K cl n run):=
 ⟨λvs H Q E h=>F.len vs H Q E0 h,λA outer s H args us vs Q E hr e0 hb r h=>BX (F.run A outer s H args us vs Q E0 hr e0 hb r h) λres s' hq=>by
  cases res with
  | ok fl=>cases fl <;> exact hq
  | error e=>obtain ⟨_,_,_,_,_,_,_,_,_,_,_,z⟩:=hq;exact z⟩
section
variable {Rs:Rules} {T:Tx} {Γ:Gm} {Tb:List Fd} {k i:Nat} {x qual:Str} {st:Stmt} {f:Addr} {da:FuncData} {fd:Fd}
theorem bN (TX:TxOk T Γ (k+3) (E1 Rs Γ Tb k)) (hi:Tb[i]?=some fd) (F:Fun T.K x qual st f da) (h1:j6 st=fd.body) (h2:b9 st=fd.sc) (S:FnScope fd.N fd.ps fd.sc) (hq:quiet (E3 fd)=false) (hL:bw T f qual fd.mu) :
  FnOk T.P T.w T.K T.mg T.base (CXd T.P T.w T.K) (k+4) f da fd.ps (spX T.K T.cl fd.ps.length (E1 Rs Γ Tb (k+1) i)):=by
 have S':FnScope fd.N fd.ps (b9 st):=by rw [h2];exact S
 refine kE (k:=k+3) F S' (λvs H Q E h=>h.1) λcdv A outer s H vs Q E hcd hr hsp=>?_;obtain ⟨hl,μ,S0,ds,rds,rp,p⟩:=hsp;have cx:CxOk T (k+3) (E3 fd) (S8 (CXd T.P T.w T.K) T.P T.w T.K T.mg T.base fd.N qual (b9 st) f cdv A outer s H E):=⟨rfl,rfl,rfl,rfl,rfl,rfl,S.nd,h2,λ_=>rfl,by rw [hq];exact hr,λe s' z=>wpAny_leaving_again (SameStack.refl _) z,rfl,S.kind,λ_ _=>⟨rfl,rfl⟩,λ_ z=>let ⟨c,e1,e2⟩:=hL z;⟨c,AR (hcd.symm.trans e1),e2⟩⟩;have R:=im (Rs:=Rs) TX 40;refine ⟨_,by rw [h1];exact O1 R cx rfl,?_⟩;refine ⟨μ,S0,M9 fd.N ds,cN rds,rp,?_⟩;have hd:ds.length=fd.ps.length:=by rw [rds.length];exact hl
 simp only [E1,hi,if_pos hd] at p;refine Post.fly (p.bind.imp λfl S1 μ1 H1 l1 r1 p1=>?_);cases fl with
 | nx ρ=>exact λσ _=>p1 μ1 H1 (Lat.refl _ _) r1 _ .non
 | rt d=>exact λv rv=>p1 μ1 H1 (Lat.refl _ _) r1 v rv
 | bk ρ=>exact False.elim p1
 | ct ρ=>exact False.elim p1
theorem ia (TX:TxOk T Γ (k+3) (E1 Rs Γ Tb k)) (hi:Tb[i]?=some fd) (F:Fun T.K x qual st f da) (h1:j6 st=fd.body) (h2:b9 st=fd.sc) (S:FnScope fd.N fd.ps fd.sc) (hq:quiet (E3 fd)=true) (hL:bw T f qual fd.mu) :
  FnOk T.P T.w T.K T.mg T.base (CXq true) (k+4) f da fd.ps (spD T.K T.cl fd.ps.length (E1 Rs Γ Tb (k+1) i)):=by
 have S':FnScope fd.N fd.ps (b9 st):=by rw [h2];exact S
 refine kE (k:=k+3) F S' (λvs H Q E h=>h.1) λcdv A outer s H vs Q E hcd hr hsp=>?_;obtain ⟨hl,μ,S0,ds,rds,rp,p⟩:=hsp;have cx:CxOk T (k+3) (E3 fd) (S8 (CXq true) T.P T.w T.K T.mg T.base fd.N qual (b9 st) f cdv A outer s H E).nox:=⟨rfl,rfl,rfl,rfl,rfl,rfl,S.nd,h2,λz=>(by rw [hq] at z;exact absurd z (by decide)),by rw [hq];exact hr,PassesOwn.never,rfl,S.kind,λ_ z=>(by rw [hq] at z;exact absurd z (by decide)),λ_ z=>let ⟨c,e1,e2⟩:=hL z;⟨c,AR (hcd.symm.trans e1),e2⟩⟩;have R:=im (Rs:=Rs) TX 40;refine ⟨_,by rw [h1];exact PSs.nox (PSs.x0 (O1 R cx rfl)),?_⟩;refine ⟨μ,S0,M9 fd.N ds,cN rds,rp,?_⟩;have hd:ds.length=fd.ps.length:=by rw [rds.length];exact hl
 simp only [E1,hi,if_pos hd] at p;refine p.bind.imp λfl S1 μ1 H1 l1 r1 p1=>?_;cases fl with
 | nx ρ=>exact λσ _=>p1 μ1 H1 (Lat.refl _ _) r1 _ .non
 | rt d=>exact λv rv=>p1 μ1 H1 (Lat.refl _ _) r1 v rv
 | bk ρ=>exact False.elim p1
 | ct ρ=>exact False.elim p1
theorem mR (TX:TxOk T Γ (k+3) (E1 Rs Γ Tb k)) (hi:Tb[i]?=some fd) (F:Fun T.K x qual st f da) (h1:j6 st=fd.body) (h2:b9 st=fd.sc) (S:FnScope fd.N fd.ps fd.sc) (hq:quiet (E3 fd)=false:=by rfl) (hL:bw T f qual fd.mu:=by exact λz=>absurd z (by decide)) :
  FnOk T.P T.w T.K T.mg T.base (CXq false) (k+4) f da fd.ps (spD T.K T.cl fd.ps.length (E1 Rs Γ Tb (k+1) i)):=FnOk.unX (bN TX hi F h1 h2 S hq hL)
def sO (Γ:Gm) (a:List Fd):Bool:=(List.range a.length).all λi=>match a[i]? with
 | some fd=>quiet (E3 fd)==Γ.qs.contains i
 | none=>false
theorem fZ (h:sO Γ Tb=true) (hi:Tb[i]?=some fd):quiet (E3 fd)=Γ.qs.contains i:=by
 unfold sO at h;grind
end
structure TxSt (T:Tx) (Γ:Gm):Prop where
 blt:∀ x∈bnames,Γ.gl.lookup x=none->T.mg x=none
 val:∀ x d,Γ.gl.lookup x=some (.val d)->∃ u v,T.mg x=some u/\RelV v u/\∀ μ H,RD T.K μ H d v
 err:∀ x c fs,Γ.gl.lookup x=some (.err c fs)->ErrAt T x c fs/\(∀ g∈fs,E6 T.K (T.cl c) g)
 sub:∀ x c c0 fs,Γ.gl.lookup x=some (.err c0 fs)->XC T.K (T.cl c)->PySem.W.kitOne T.K (.ref (T.cl c)) (.ref (T.cl c0))=some (Γ.sub c c0)
 subV:∀ c,XC T.K (T.cl c)->PySem.W.kitOne T.K (.ref (T.cl c)) (.type "ValueError")=some true
 subT:∀ c,XC T.K (T.cl c)->∀ t∈tys,PySem.W.kitOne T.K (.ref (T.cl c)) (.type t)=some false
 fld:∀ g∈Γ.flds,∀ c,XC T.K (T.cl c)->E6 T.K (T.cl c) g
 dct:∀ x kvs,Γ.gl.lookup x=some (.dct kvs)->kf T x kvs
def jy (T:Tx) (Γ:Gm) (a:List Fd):Prop:=∀ x i n,Γ.gl.lookup x=some (.fn i n)->∃ fd,a[i]?=some fd/\fd.ps.length=n/\FnTx T x fd
theorem TxSt.ok (h:TxSt T Γ) {k:Nat} {C:Cf} (f:∀ x i n,Γ.gl.lookup x=some (.fn i n)->i∉Γ.qs->FnX T (k+3) i n x (C i)) (a:∀ x i n,Γ.gl.lookup x=some (.fn i n)->i∈Γ.qs->FnAt T (k+3) i n x (C i)):TxOk T Γ (k+3) C:=⟨h.blt,h.val,f,a,h.err,h.sub,h.subV,h.subT,h.fld,h.dct,by omega⟩
theorem mF {T:Tx} {Γ:Gm} {Tb:List Fd} (h:TxSt T Γ) (fs:jy T Γ Tb) (k:Nat) (hq:sO Γ Tb=true:=by rfl):TxOk T Γ (k+3) (E1 Rs Γ Tb k):=by
 induction k with
 | zero=>
  have bad:∀ x i n,Γ.gl.lookup x=some (.fn i n)->∃ (a:Addr) (fd:FuncData) (ps:List Str),ps.length=n/\(∀ CX,FnOk T.P T.w T.K T.mg T.base CX 3 a fd ps (spX T.K T.cl n (E1 Rs Γ Tb 0 i)))/\T.mg x=some (.ref a)/\PySem.W.keepIn T.K (.ref a)=true/\Binds T.K fd ps []:=λx i n e=>by
   obtain ⟨fd,h1,h2,h3⟩:=fs x i n e;obtain ⟨f,da,qual,st,F,_,_,_,b,m,_⟩:=h3.ex;refine ⟨f,da,fd.ps,h2,λCX=>⟨λvs H Q E h=>by rw [h2];exact h.1,λA outer s H args us vs Q E _ _ _ _ hsp=>?_⟩,m,F.kp,b⟩;obtain ⟨_,μ,S,ds,_,_,p⟩:=hsp;exact p.elim
  refine h.ok (λx i n e _=>?_) λx i n e _=>?_
  ·obtain ⟨a,fd,ps,h1,h2,h3⟩:=bad x i n e;exact ⟨a,fd,ps,h1,h2 _,h3⟩
  ·obtain ⟨a,fd,ps,h1,h2,h3⟩:=bad x i n e;exact ⟨a,fd,ps,h1,FnOk.imp (h2 _) λvs H Q E ⟨_,μ,S,ds,_,_,p⟩=>p.elim,h3⟩
 | succ k TX=>
  refine h.ok (λx i n e hn=>?_) λx i n e m=>?_
  ·obtain ⟨fd,h1,h2,h3⟩:=fs x i n e;subst h2;obtain ⟨f,da,qual,st,F,g1,g2,S,b,m2,lm⟩:=h3.ex;exact ⟨f,da,fd.ps,rfl,bN TX h1 F g1 g2 S (by rw [fZ hq h1];simpa using hn) lm,m2,F.kp,b⟩
  ·obtain ⟨fd,h1,h2,h3⟩:=fs x i n e;subst h2;obtain ⟨f,da,qual,st,F,g1,g2,S,b,m2,lm⟩:=h3.ex;exact ⟨f,da,fd.ps,rfl,ia TX h1 F g1 g2 S (by rw [fZ hq h1];simpa using m) lm,m2,F.kp,b⟩
def runK (Rs:Rules) (Γ:Gm) (C:Cf) (fd:Fd) (ds:List D):M D:=if ds.length=fd.ps.length then u5 (evK Rs Γ C 40) ⟨fd.N,fd.sc,true,fd.mu⟩ fd.body (M9 fd.N ds) endD else bad
theorem i5 {a:List Fd} {k i:Nat} {fd:Fd} (h:a[i]?=some fd) (ds:List D):E1 Rs Γ a (k+1) i ds=runK Rs Γ (E1 Rs Γ a k) fd ds:=by
 simp only [E1,h,runK];split
 ·rw [az (pD 40)]
 ·rfl
def jP (a:Arguments):List Str:=a.args.map (·.arg)
def lg (ps:List Str) (a:Scope):List Str:=ps++(a.names.filter λy=>(y.2==.local||y.2==.cell)&&!ps.contains y.1).map (·.1)
def y7 (st:Stmt) (a:List Str):Fd:=⟨jP (u9 st),lg (jP (u9 st)) (b9 st),b9 st,j6 st,a⟩
def Q2 (fd:Fd):Bool:=decide (fd.sc.kind=.function)&&!fd.sc.isCoroutine&&!fd.sc.isGenerator&&decide fd.N.Nodup&&decide (fd.N.take fd.ps.length=fd.ps)&&fd.ps.all (λx=>bU fd.sc x)&&fd.sc.names.all (λy=>decide (y.2≠.free))
theorem E4 (h:Q2 fd=true):FnScope fd.N fd.ps fd.sc:=by
 simp only [Q2,Al,Az,AQ,BE] at h;obtain ⟨⟨⟨⟨⟨⟨i,b⟩,c⟩,d⟩,f⟩,e⟩,a⟩:=h;exact ⟨i,b,c,d,f,λx g=>J4 (e x g),a⟩
section
variable {K:PySem.W.Frag} {cl:Nat->Addr} {xe:Addr->Hp->Prop} {μ:Mp} {H:Hp} {S:Sto}
theorem ce {rs:List Addr} {kz:List V} (er:μ.rs=p :: rs) (nr:p∉rs) (hp:H p=some (.lst kz)) (rp:Rep K cl μ S H) (ho:OAt K cl ⟨μ.pl++[p],rs⟩ (upd H p u) p ob):Rep K cl ⟨μ.pl++[p],rs⟩ (S++[ob]) (upd H p u):=by
 have np:=(rp.res p (by rw [er];exact Av)).1;have hp':∀ (n:Nat) (a:Addr),μ.pl[n]?=some a->(μ.pl++[p])[n]?=some a:=λn a e=>by rw [Aq (As.mp e).1];exact e
 have ho':∀ a w,H a=some w->a∉μ.pl->a∉μ.rs->upd H p u a=some w/\a∉(⟨μ.pl++[p],rs⟩:Mp).pl/\a∉(⟨μ.pl++[p],rs⟩:Mp).rs:=λa w e n1 n2=>by
  have ne:a≠p:=λz=>n2 (by rw [er,z];exact Av);refine ⟨by rw [b1 ne];exact e,λz=>?_,λz=>n2 (by rw [er];exact AC _ z)⟩;rcases Bn.mp z with z | z
  ·exact n1 z
  ·grind
 refine ⟨by simp [rp.len],?_,λn o a e1 e2=>?_,λa m=>?_,rp.tb.mv ho'⟩
 ·show (μ.pl++[p]).Nodup;rw [DZ];exact ⟨rp.nd,by simp,λa m b m2=>by rw [AU.mp m2];rintro rfl;exact np m⟩
 ·have e2:=e2;by_cases hn:n<S.length
  ·rw [Aq hn] at e1;rw [Aq (by rw [rp.len];exact hn)] at e2;have h:=rp.ats n o a e1 e2;have ka:upd H p u a=H a:=b1 λz=>np (z▸AS e2);cases o with
   | lst ds=>obtain ⟨xs,e,q⟩:=h;exact ⟨xs,by rw [ka];exact e,q.move hp' ho'⟩
   | dct kvs=>obtain ⟨xs,e,q⟩:=h;exact ⟨xs,by rw [ka];exact e,Paired.mono (λ_ _ ⟨z,w⟩=>⟨z,w.move hp' ho'⟩) q⟩
   | exc c fs=>
    obtain ⟨xc,gs,q,fr,h⟩:=h;refine ⟨xc,gs,Paired.mono (λ_ _ ⟨z,w⟩=>⟨z,w.move hp' ho'⟩) q,fr,?_⟩;rcases h with ⟨z,e⟩ | ⟨d,h1,h2,e,e3⟩
    ·grind
    ·have ne:=jJ e3 hp (by intro z;cases z);refine .inr ⟨d,h1,λz=>?_,by rw [ka];exact e,by rw [b1 ne];exact e3⟩;rcases Bn.mp z with z | z
     ·exact h2 z
     ·grind
  ·have hn2:n=S.length:=by
    have:=(As.mp e1).1;simp at this;omega
   subst hn2;rw [<- rp.len] at e2;simp at e1 e2;subst e1;subst e2;exact ho
 ·have m:=m;obtain ⟨h1,w,h2⟩:=rp.res a (by rw [er];exact AC _ m);have ne:a≠p:=λz=>nr (z▸m);refine ⟨λz=>?_,w,by rw [b1 ne];exact h2⟩;rcases Bn.mp z with z | z
  ·exact h1 z
  ·grind
theorem cQ (h:H p=some u):upd H p u=H:=by
 funext a;by_cases e:a=p
 ·rw [e,b6,h]
 ·rw [b1 e]
end
theorem mL (m:M (List D)) (S:Sto):bind (nx m) newL S=nx (bind m newL) S:=by
 cases h:m S with
 | ok a S1=>
  have e2:nx m S=.ok a S1:=by unfold L3.nx;rw [h]
  have e3:bind (nx m) newL S=newL a S1:=by unfold L3.bind;rw [e2]
  have e:bind m newL S=newL a S1:=by unfold L3.bind;rw [h]
  rw [e3];unfold L3.nx;rw [e];simp only [newL];split <;> rfl
 | exn n S1=>
  have e:bind m newL S=.exn n S1:=by unfold L3.bind;rw [h]
  have e2:nx m S=.bad:=by unfold L3.nx;rw [h]
  have e3:bind (nx m) newL S=.bad:=by unfold L3.bind;rw [e2]
  rw [e3];unfold L3.nx;rw [e]
 | bad=>
  have e:bind m newL S=.bad:=by unfold L3.bind;rw [h]
  have e2:nx m S=.bad:=by unfold L3.nx;rw [h]
  have e3:bind (nx m) newL S=.bad:=by unfold L3.bind;rw [e2]
  rw [e3];unfold L3.nx;rw [e]
theorem _root_.L2.Inv.dr (I:Inv X pins σ H s) (d:Drawn):Inv X pins σ H { s with drawn:=d }:=
 ⟨I.ok,I.os,I.bare,I.base,I.loc,I.cell,I.free,I.freeC,I.pin,I.hok,I.len⟩
def e9 (ns:List Int):List Int:=HT.metKHt (λi=>ns.getD i 0) ns.length
theorem L6 (ns:List Int):(e9 ns).Nodup:=HT.metK_nd _ _
theorem uniq_mem:k∈e9 ns↔k∈ns:=by
 unfold e9;rw [HT.metK_mem];constructor
 ·grind
 ·intro h;obtain ⟨j,a,e⟩:=Cw.mp h;exact ⟨j,a,by simp [List.getD,a,e]⟩
section
variable {X:Cx} {e:Expr} {te:TE} {p p2 pos pos2:Pos} {cl:Nat->Addr} {xe:Addr->Hp->Prop}
def mB (K:PySem.W.Frag) (te:TE):TE:=λσ H Q=>te σ H λx b=>∃ a ns,x=.ref a/\(SqL K b a (ns.map V.int)\/SqT K b a (ns.map V.int))/\(ns.length<4000/\(e9 ns).length<64)/\∀ p,b p=none->Q (.ref p) (upd b p (.lst ((srt (e9 ns)).map V.int)))
theorem gW (M:X.calm=true) (T:Gl X "sorted") (U:X.mg "sorted" = none) (hs:Gl X "set") (ms:X.mg "set" = none) (he:PE X e te) (D:b5 e=true):PE X (.Call (.Name "sorted" p) [.Call (.Name "set" p2) [e] [] pos2] [] pos) (mB X.K te):=by
 intro pins s σ H Q I h;have E:=I.ok.hd M;refine Bc (u6 I T U (by rfl) ?_ (by decide) (by decide));refine De ?_ rfl rfl;refine Bu ?_;refine Bc (u6 I hs ms (by rfl) ?_ (by decide) (by decide));refine AX ?_ (b8 D) rfl;rw [b8 D];refine Bu (thn (he pins s σ H _ I h) λu r ⟨x,W,w,Y,a,ns,e1,m,hz,q⟩=>?_);subst e1;cases Y;refine Bz ?_;have l:∀ (d:List Value),d.length=ns.length->PyProof.Rows.IntsAre d ns->(r.heap.IsTuple a d.toArray\/r.heap.IsList a d.toArray) ->
   wpAny (model X.prog X.w) X.A (call (.type "set") [.ref a]) (λv z=>wpAny (model X.prog X.w) X.A (spliced (backTo pos (starEach [] X.env))) (λvs L=>wpAny (model X.prog X.w) X.A (call (.builtin "sorted") (v :: vs)) (EP X pins σ Q) X.xe L) X.xe z) X.xe r:=λd f hi C=>by
  refine HT.callLHt (knd:=intKind X.prog X.w) (λi=>ns.getD i 0) E C (λi v hv=>?_) (by rw [An,f];show ns.length+1<4096;have:=hz.1;omega) λg tk ⟨B,K⟩=>?_
  ·obtain ⟨t,rfl⟩:=DI hi i v (by rw [<- Db];exact hv);exact ⟨Et _ _ _ _,rfl⟩
  ·refine Bz ?_;have sz:d.toArray.size=ns.length:=by rw [An,f]
   rw [sz] at B;refine HT.sortLHt E B (HT.metK_nd _ _) hz.2 λz y out ms c kp rs le Z J P N=>?_;have em:=dh (P.trans (d4 (e9 ns)).symm) N (ao _);subst em;have A:=λb u F=>kp b u (K b u (Ao F) F);have j:r.heap.objs.size<=y:=by
    refine Bk ?_ le;obtain ⟨_,_,_,_,ho,_⟩:=B;exact Ck (Ao ho)
   have S:=w.hok.fresh j;have G:=(w.laid (t':=z.toks) (o:=.lst ((srt (e9 ns)).map V.int)) A j ⟨by rw [Ak,(d4 _).length_eq,AD];have:=hz.2;omega,out.toList,c,M1 J,by rw [BY];exact Z⟩).dr z.drawn;refine ⟨.ref y,upd W y (.lst ((srt (e9 ns)).map V.int)),?_,rfl,q y S⟩;rw [rs];exact G
 rcases m with m | m
 ·obtain ⟨d,k,pl,hsz⟩:=w.list m;have f:d.length=ns.length:=by rw [<- k.length,Ak]
  exact l d f (J3 k) (.inr pl.isList)
 ·obtain ⟨d,k,⟨ob,R,O,n,o3⟩,hsz⟩:=w.tuple m;have f:d.length=ns.length:=by rw [<- k.length,Ak]
  exact l d f (J3 k) (.inl ⟨ob,R,O,n,o3⟩)
def C4 (d:D):M D:=bind (w8 d) λds=>match q5 ds with
 | some ns=>if ns.length<4000/\(e9 ns).length<64 then ret (.lst ((srt (e9 ns)).map D.int)) else bad
 | none=>bad
theorem gH (m:X.calm=true) (q:Gl X "sorted") (t:X.mg "sorted" = none) (hs:Gl X "set") (ms:X.mg "set" = none) (u:PE X e (tD X.K cl xe f)) (k:b5 e=true):PE X (.Call (.Name "sorted" p) [.Call (.Name "set" p2) [e] [] pos2] [] pos) (tD X.K cl xe λρ=>bind (f ρ) C4):=
 PE.imp (gW m q t hs ms u k) λσ H Q ⟨μ,S,ρ,r,o,p⟩=>⟨μ,S,ρ,r,o,p.bind.imp λd S1 i y A j b v x=>by
  obtain ⟨a,xs,ds,rfl,w,n,s⟩:=J2 x j b.bind;have b:=b.ok_bind s;cases g:q5 ds with
  | none=>rw [g] at b;exact b.elim
  | some ns=>
   rw [g] at b;obtain ⟨hz,b⟩:=Post.guard b;have:=aM g n;subst this;refine ⟨a,ns,rfl,w,hz,λz hz=>?_⟩;obtain ⟨l,h,c⟩:=m8 j (RDs.ints (srt (e9 ns))) hz;exact b i _ l h _ c⟩
end
def mf:RuE where
 is Γ lc e:=match e with
  | .Call (.Name x _) [.Call (.Name y _) [a] [] _] [] _=>decide (x = "sorted")&&decide (y = "set")&&(Γ.gl.lookup ("sorted" : Str)).isNone&&(Γ.gl.lookup ("set" : Str)).isNone&&glB lc.sc "sorted" && glB lc.sc "set" && !quiet lc&&b5 a
  | _=>false
 run r _ _ lc e ρ:=match e with
  | .Call (.Name _ _) [.Call (.Name _ _) [a] [] _] [] _=>bind (r.e lc a ρ) C4
  | _=>bad
 ok {T k r Γ C lc X} e R TX h hi:=by
  split at hi
  ·simp only [Al,Az,AE,BE] at hi;obtain ⟨⟨⟨⟨⟨⟨⟨rfl,rfl⟩,g⟩,l⟩,b⟩,f⟩,j⟩,i⟩:=hi;exact gH (h.calm j) (h.gl b) (TX.none h (by decide) g) (h.gl f) (TX.none h (by decide) l) (R.ex h _) i
  ·cases hi
 runK q _ _ lc e ρ _ k:=match e with
  | .Call (.Name _ _) [.Call (.Name _ _) [a] [] _] [] _=>q.e lc a ρ λd=>bind (C4 d) k
  | _=>bad
 eq e ρ _ k h:=by
  split
  ·simp only [h.e,bind_assoc]
  ·first
   | rfl
   | (rename_i c;split;exact (c _ _ _ _ _ _ _ rfl).elim;rfl)
section
variable {prog:Program} {w:World} {A:Around} {E:Value->Shared->Prop} {s:Shared} {r:Addr} {a b c:Int} {t u v:Tok} {n:Nat}
theorem oP (d:IsRange h r a b c t u v) (o:Obj):IsRange (h.push o) r a b c t u v:=by
 exact Ai _ d
theorem gZ (hh:A.handled=none) (hr:IsRange s.heap r a b c t u v) (sm:Builtin.Range.small a b c=true) (rs:Builtin.Range.rangeSize a b c=(n:Int)) (hn:n<=2 ^ 24)
  (q:∀ (h':Heap) (tk:Nat) (acc:Array Value),(∀ b o,s.heap.get? b=some o->h'.get? b=some o)->ItemsOf (λi v=>∃ t,v=Value.int (a+(i:Int) * c) t) acc n->Q acc.toList { s with heap:=h',toks:=tk }):wpAny (model prog w) A (collect (.ref r)) Q E s:=by
 refine Ag (DN (Bt DG ?_));rw [Bx DH _];refine Ag (AK (Ah ⟨Dl Cj _,Bt Em ?_⟩));rw [Bx Cj _];have hL:(s.heap.push { cls:=.type "list",data:=.seq ([]:List Value).toArray }).get? s.heap.objs.size=some { cls:=.type "list",data:=.seq ([]:List Value).toArray }:=Am _ rfl;refine wpAny_extend_range (R:=wants (λv s'=>wpAny (model prog w) A (match v with
  | Value.ref a=>do
   let ob <- load a
   match ob.data with
   | Data.seq xs epoch=>pure xs.toList
   | x=>unsupported "internal:collect"
  | x=>unsupported "internal:collect") Q E s') E) hh (oP hr _) sm rs hn s.heap.objs.size _ 0 hL λh' tk acc c' k hS hacc=>?_
 refine Ag (EK hS (Ah (q h' tk acc (λb o e=>k b o (Ar (Ao e)) (Ai _ e)) hacc)))
theorem lq (r:Addr):Builtin.«tuple.__new__» { pos:=[Value.type "tuple",Value.ref r] }=(do
  let e <- Builtin.Tuple.tupleIsExact (.ref r)
  if e=true then do
   rule "tuple.new.same-object"
   PySem.ret (Value.ref r)
  else do
   let l <- collect (.ref r)
   let xs <- pure l.toArray
   let x <- Builtin.Tuple.tupleExact xs
   PySem.ret x):=by kernel_rfl
theorem cP (j:Builtin.Range.small a b c=true) (rs:Builtin.Range.rangeSize a b c=(n:Int)) (l:n<=2 ^ 24):Meets (Builtin.«tuple.__new__» { pos:=[Value.type "tuple",Value.ref r] }) λA R s=>
  A.handled=none/\IsRange s.heap r a b c t u v/\∀ (h':Heap) (f:Nat) (d:Array Value),(∀ b o,s.heap.get? b=some o->h'.get? b=some o)->ItemsOf (λi v=>∃ t,v=Value.int (a+(i:Int) * c) t) d n->R (Except.ok (Flow.ret (Value.ref h'.objs.size))) { s with heap:=h'.push { cls:=Value.type "tuple",data:=Data.seq d },toks:=f }:=by
 intro prog w A R s ⟨m,g,q⟩;have h:s.TypeIs (.ref r) "range":=⟨_,g,rfl⟩;rw [lq];refine Ag (Ag (Cm h (Ah ?_)));rw [if_neg (by decide)];refine Ag (gZ m g j rs l λh' f d k e=>?_);refine Ag (Ah ?_);rw [BY];have hz:d.size<=sizeLine:=by rw [e.1,AD];omega
 exact Ag (AK (Ah (q h' f d k e)))
end
section
variable {X:Cx} {e:Expr} {te:TE} {p p2 pos pos2:Pos} {cl:Nat->Addr} {xe:Addr->Hp->Prop} {f:Env->M D}
def sy (te:TE):TE:=λσ H Q=>te σ H λx a=>∃ n:Nat,x=.int (n:Int)/\n<100000/\∀ q,a q=none->Q (.ref q) (upd a q (.tup ((rgL n).map V.int)))
theorem jl (l:X.calm=true) (z:Gl X "tuple") (C:X.mg "tuple" = none) (k:Gl X "range") (w:X.mg "range" = none) (y:PE X e te) (j:b5 e=true):PE X (.Call (.Name "tuple" p) [.Call (.Name "range" p2) [e] [] pos2] [] pos) (sy te):=by
 intro pins s σ H Q I h;have A:=I.ok.hd l;refine Bc (u6 I z C (by rfl) ?_ (by decide) (by decide));refine AX ?_ rfl rfl;refine Bu ?_;refine Bc (u6 I k w boot_range ?_ (by decide) (by decide));refine AX ?_ (b8 j) rfl;rw [b8 j];refine Bu (thn (y pins s σ H _ I h) λu d ⟨x,K,B,D,n,F,hz,q⟩=>?_);subst F;obtain ⟨t,rfl⟩:=D;refine Bz (call_range_1 (Bz ?_));have rs:Builtin.Range.rangeSize 0 (n:Int) 1=(n:Int):=by rw [EF];split <;> omega
 refine callType_new PySem.F.called_tuple (by decide) (PySem.F.typeCall_tuple_1 _) (by kernel_rfl) (λm=>by first | rfl | exact PySem.F.args_object_init_2 _ _) PySem.F.entry_tuple_new (cP (small_one (by omega) (by omega) (by omega) (by omega)) rs (by omega)) ⟨A,IsRange.new ..,λh' f c E a=>?_⟩;have r:=B.kept (t':=d.toks+1+1) (h':=d.heap.push { cls:=.type "range",data:=.fields #[.int 0 d.toks,.int (n:Int) t,.int 1 (d.toks+1)] }) λb ob q=>Ai _ q;have g:=r.kept (t':=f) E;have J:=Inv.laid (t':=f) (o:=.tup ((rgL n).map V.int)) (h':=h'.push { cls:=Value.type "tuple",data:=Data.seq c }) g (λb ob q=>Ai _ q) (Ap _) ?_
 ·exact ⟨⟨_,Am _ rfl,rfl⟩,.ref _,_,J,rfl,q _ (g.hok.fresh (Ap _))⟩
 refine ⟨by rw [Ak];show (rgL n).length<=_;unfold rgL;rw [Ak,AN,AD];omega,c.toList,eh (by rw [Ax];exact a.1) (λi v G=>?_),?_⟩
 ·obtain ⟨t',e⟩:=a.2 i v (by rw [<- Be];exact G);exact ⟨t',by rw [e];simp⟩
 ·rw [BY];exact TupN.new _ _
def N6 (d:D):M D:=match d with
 | .int i=>if 0<=i/\i<100000 then ret (.tup ((rgL i.toNat).map D.int)) else bad
 | _=>bad
theorem jv (hc:X.calm=true) (hl:Gl X "tuple") (ml:X.mg "tuple" = none) (hr:Gl X "range") (mr:X.mg "range" = none) (he:PE X e (tD X.K cl xe f)) (hn:b5 e=true):PE X (.Call (.Name "tuple" p) [.Call (.Name "range" p2) [e] [] pos2] [] pos) (tD X.K cl xe λρ=>bind (f ρ) N6):=
 PE.imp (jl hc hl ml hr mr he hn) λσ H Q ⟨μ,S,ρ,eo,rp,p⟩=>⟨μ,S,ρ,eo,rp,p.bind.imp λd S1 μ1 H1 l1 r1 p1 v rv=>by
  cases rv with
  | int i=>
   obtain ⟨hi,p1⟩:=Post.guard p1;refine ⟨i.toNat,by rw [Dx hi.1],by omega,λz hz=>?_⟩;obtain ⟨l,rp2,rd2⟩:=C7 r1 (RDs.ints (rgL i.toNat)) hz;exact p1 μ1 _ l rp2 _ rd2
  | _=>exact False.elim p1⟩
end
def sv:RuE where
 is Γ lc e:=match e with
  | .Call (.Name x _) [.Call (.Name y _) [a] [] _] [] _=>decide (x = "tuple")&&decide (y = "range")&&(Γ.gl.lookup ("tuple" : Str)).isNone&&(Γ.gl.lookup ("range" : Str)).isNone&&glB lc.sc "tuple" && glB lc.sc "range" && !quiet lc&&b5 a
  | _=>false
 run r _ _ lc e ρ:=match e with
  | .Call (.Name _ _) [.Call (.Name _ _) [a] [] _] [] _=>bind (r.e lc a ρ) N6
  | _=>bad
 ok {T k r Γ C lc X} e R TX h hi:=by
  split at hi
  ·simp only [Al,Az,AE,BE] at hi;obtain ⟨⟨⟨⟨⟨⟨⟨rfl,rfl⟩,i⟩,j⟩,b⟩,l⟩,g⟩,c⟩:=hi;exact jv (h.calm g) (h.gl b) (TX.none h (by decide) i) (h.gl l) (TX.none h (by decide) j) (R.ex h _) c
  ·cases hi
 runK q _ _ lc e ρ _ k:=match e with
  | .Call (.Name _ _) [.Call (.Name _ _) [a] [] _] [] _=>q.e lc a ρ λd=>bind (N6 d) k
  | _=>bad
 eq e ρ _ k h:=by
  split
  ·simp only [h.e,bind_assoc]
  ·first
   | rfl
   | (rename_i f;split;exact (f _ _ _ _ _ _ _ rfl).elim;rfl)
theorem a8 {k:α->M β} {S S':Sto} {a:α} (e:m S=.ok a S'):bind m k S=k a S':=by unfold bind;rw [e]
theorem jV {S:Sto} {p:Nat} {o o':O} (h:S[p]?=some o):(S.set p o')[p]?=some o':=by grind
theorem eU (i j:Int) (S:Sto):B4 (.int i) (.int j) S=.ok (.int (i+j)) S:=rfl
theorem U2 {i j:Int} (h:0<j) (S:Sto):V9 (.int i) (.int j) S=.ok (.int (i % j)) S:=by simp only [V9,if_pos h,ret]
theorem ak {i j:Int} (h:0<j) (b:j<1073741824) (S:Sto):B0 (.int i) (.int j) S=.ok (.int (i / j)) S:=by
 have a:ji i j:=⟨h,b⟩;simp only [B0,if_pos a,ret]
theorem bJ (h:CMul i j) (S:Sto):M3 (.int i) (.int j) S=.ok (.int (i * j)) S:=by simp only [M3,if_pos h,ret]
theorem G3 (ns:List Int) (S:Sto):D5 (.lst (ns.map D.int)) S=.ok (.int ns.length) S:=by
 show R.ok (D.int ((ns.map D.int).length:Nat)) S=_;grind
theorem lj {ns:List Int} {a:Int} (f:0<=a) (g:0<ns.length) (S:Sto):∃ z:Int,ixD (.lst (ns.map D.int)) (.int (a % (ns.length:Int))) S=.ok (.int z) S:=by
 have c:(0:Int)<(ns.length:Int):=by omega
 have e:=Du a (Eu c);have h:=CO a c;obtain ⟨j,d⟩:=En e;have b:j<ns.length:=by omega
 refine ⟨ns[j],?_⟩;rw [d];show X7 (atI (ns.map D.int) (j:Int)) S=_;rw [aG (by rw [AG,Aj b];rfl)];rfl
theorem set_set {S:Sto} {p:Nat} {o o':O}:(S.set p o).set p o'=S.set p o':=List.set_set ..
theorem I0 (b:Bool) (S:Sto):asB (.bl b) S=.ok b S:=rfl
def fG (o:Option (Option Value)) (x:String):Bool:=match o with
 | some (some (.builtin y))=>decide (y=x)
 | _=>false
def isNo (o:Option (Option Value)):Bool:=match o with
 | some none=>true
 | _=>false
theorem fP (h:isNo o=true):o=some none:=by
 unfold isNo at h;grind
def isB (o:Option Bool) (b:Bool):Bool:=match o with
 | some c=>c==b
 | none=>false
theorem cq (h:isB o b=true):o=some b:=by
 unfold isB at h;grind
def xcB (K:PySem.W.Frag) (C:Addr):Bool:=
 fG (PySem.W.findIn K (.ref C) "__getattribute__") "BaseException.__getattribute__" && (isNo (PySem.W.findIn K (.ref C) "__getattr__")&&(isB (PySem.W.mroIn K C (.type "BaseException")) true&&(isB (PySem.W.mroIn K C (.type "object")) true &&
 (PySem.W.hasDictIn K C&&(fG (PySem.W.findIn K (.ref C) "__class__") "object.__class__" && (fG (PySem.W.specialIn K (.builtin "object.__class__") "__get__") "getset_descriptor.__get__" && (isB (PySem.W.takesIn K (.builtin "object.__class__")) true &&
 (bf K C&&((PySem.W.clsIn K C).any (λa=>W3 a.mro)&&(fG (PySem.W.findIn K (.ref C) "__setattr__") "object.__setattr__" && PySem.W.keepIn K (.ref C)))))))))))
def W6 (cs:List Addr) (a:Addr) (c:Nat):Addr:=cs.getD c a
structure RowB (K:PySem.W.Frag) (Γ:Gm) (cs:List Addr) (junk:Addr):Prop where
 xc:cs.all (xcB K)=true
 jk:bf K junk=false
 sub:((List.range cs.length).all λc=>(List.range cs.length).all λc0=>isB (PySem.W.kitOne K (.ref (W6 cs junk c)) (.ref (W6 cs junk c0))) (Γ.sub c c0))=true
 sV:(cs.all λC=>isB (PySem.W.kitOne K (.ref C) (.type "ValueError")) true)=true
 sT:(cs.all λC=>tys.all λt=>isB (PySem.W.kitOne K (.ref C) (.type t)) false)=true
 fl:(Γ.flds.all λg=>cs.all λC=>isNo (PySem.W.findIn K (.ref C) g))=true
 bl:(bnames.all λx=>(Γ.gl.lookup x).isSome||isNo (PySem.W.nsIn K mainGlobals x))=true
theorem vT {K:PySem.W.Frag} {cs:List Addr} {a:Addr} (d:bf K a=false) {c:Nat} (h:XC K (W6 cs a c)):c<cs.length/\W6 cs a c∈cs:=by
 by_cases b:c<cs.length
 ·refine ⟨b,?_⟩;unfold W6;rw [Aw,Aj b];exact Ba b
 ·have e:W6 cs a c=a:=by
   unfold W6;rw [Aw,AT (Dg b)];rfl
  rw [e] at h;have:=h.ex;rw [d] at this;cases this
theorem RowB.st {Γ:Gm} {cs:List Addr} {j:Addr} {h:Heap} (B:RowB T.K Γ cs j) (X:T.K.In h) (G:h.Ns mainGlobals T.mg) (o:T.cl=W6 cs j) (w:∀ x d,Γ.gl.lookup x=some (.val d)->∃ u v,T.mg x=some u/\RelV v u/\∀ μ H,RD T.K μ H d v)
  (r:∀ x c fs,Γ.gl.lookup x=some (.err c fs)->c<cs.length/\ErrAt T x c fs/\∀ g∈fs,g∈Γ.flds) (hd:∀ x k,Γ.gl.lookup x=some (.dct k)->kf T x k):TxSt T Γ:=by
 have i:∀ c,XC T.K (T.cl c)->c<cs.length/\T.cl c∈cs:=λc f=>by rw [o] at f ⊢;exact vT B.jk f
 have p:=λg l c f=>by
  have:=(AQ.mp B.fl) g l;exact fP ((AQ.mp this) _ (i c f).2)
 refine ⟨λx s y=>?_,w,λx c fs e=>?_,λx c c0 fs e f=>?_,λc f=>?_,λc f t z=>?_,p,hd⟩
 ·have:=(AQ.mp B.bl) x s;rw [y] at this;exact PySem.W.mg_none_of X G (fP this)
 ·obtain ⟨n,m,q⟩:=r x c fs e;exact ⟨m,λg l=>p g (q g l) c m.xc⟩
 ·obtain ⟨n,m,q⟩:=r x c0 fs e;have a:=(AQ.mp B.sub) c (AH.mpr (i c f).1);have b:=(AQ.mp a) c0 (AH.mpr n);rw [o];exact cq b
 ·exact cq ((AQ.mp B.sV) _ (i c f).2)
 ·have a:=(AQ.mp B.sT) _ (i c f).2;exact cq ((AQ.mp a) t z)
def rT (K:PySem.W.Frag):Sp:=λvs H Q _=>∃ (a:Addr) (ns:List Int),vs=[.ref a]/\SqL K H a (ns.map V.int)/\∀ H',Q (.bl true) H'
def ay (K:PySem.W.Frag) (cl:Nat->Addr):Sp:=λvs H Q E=>rT K vs H Q E/\TbOk K cl ⟨[],[]⟩ H
theorem dn {K:PySem.W.Frag} {cl:Nat->Addr} {run:List D->M D} (hr:∀ ns:List Int,∃ S',run [.scr (ns.map D.int)] []=.ok (.bl true) S'):∀ vs H Q E,ay K cl vs H Q E->spD K cl 1 run vs H Q E:=by
 rintro vs H Q E ⟨⟨a,ns,rfl,hS,q⟩,tb⟩;obtain ⟨S',e⟩:=hr ns;refine ⟨rfl,⟨[],[]⟩,[],[.scr (ns.map D.int)],.cons (.scr ?_ (RDs.ints ns)) .nil,⟨rfl,by simp,λn o a e=>by simp at e,λa m=>by simp at m,tb⟩,?_⟩
 ·rcases hS with h | h
  ·exact .inl ⟨h,by simp,by simp⟩
  ·exact .inr h
 ·rw [e];intro μ' H' l r v rv;cases rv;exact q H'
theorem ln1 {α:Type} {p:List α->Prop} {us:List α} (hl:us.length=1) (h:∀ a,p [a]):p us:=by
 obtain ⟨a,rfl⟩:=List.length_eq_one_iff.mp hl;exact h a
theorem lnS {α:Type} {p:List α->Prop} {us:List α} {n:Nat} (hl:us.length=n+1) (h:∀ a ws,ws.length=n->p (a :: ws)):p us:=by
 cases us with
 | nil=>cases hl
 | cons a ws=>exact h a ws (Nat.succ.inj hl)
theorem ln2 {α:Type} {p:List α->Prop} {us:List α} (hl:us.length=2) (h:∀ a b,p [a,b]):p us:=lnS hl λa _ e=>ln1 (p:=λw=>p (a :: w)) e (h a)
theorem ln3 {α:Type} {p:List α->Prop} {us:List α} (hl:us.length=3) (h:∀ a b c,p [a,b,c]):p us:=lnS hl λa _ e=>ln2 (p:=λw=>p (a :: w)) e (h a)
theorem cu {fd:FuncData} {ps:List Str} {us:List Value} (hl:us.length=1) (h:∀ a,bindArgs fd ⟨[a],[]⟩=pure (ps.zip [a])):bindArgs fd ⟨us,[]⟩=pure (ps.zip us):=ln1 (p:=λus=>bindArgs fd ⟨us,[]⟩=pure (ps.zip us)) hl h
theorem eB {fd:FuncData} {ps:List Str} {us:List Value} (hl:us.length=2) (h:∀ a b,bindArgs fd ⟨[a,b],[]⟩=pure (ps.zip [a,b])):bindArgs fd ⟨us,[]⟩=pure (ps.zip us):=ln2 (p:=λus=>bindArgs fd ⟨us,[]⟩=pure (ps.zip us)) hl h
theorem wV {fd:FuncData} {ps:List Str} {us:List Value} (hl:us.length=3) (h:∀ a b c,bindArgs fd ⟨[a,b,c],[]⟩=pure (ps.zip [a,b,c])):bindArgs fd ⟨us,[]⟩=pure (ps.zip us):=ln3 (p:=λus=>bindArgs fd ⟨us,[]⟩=pure (ps.zip us)) hl h
structure GF (K:PySem.W.Frag) (x:Str) (st:Stmt) (g:Addr):Prop where
 a:PySem.W.nsIn K mainGlobals x=some (some (.ref g))
 f:∃ fd,Fun K x x st g fd
theorem gf_mk {K:PySem.W.Frag} {x:Str} {st:Stmt} {g:Addr} {oc:Value} {od an:Option Addr} {osl:Array (Option Value)} {kV doc pm cdv ct:Value} (a:PySem.W.nsIn K mainGlobals x=some (some (.ref g))) (l:K.lookup g=some ⟨oc,od,.func (PySem.W.fnOf x x (u9 st) (j6 st) (b9 st) .none kV doc pm an cdv ct),osl⟩) (c:PySem.W.codeIn K cdv x=true) (k:PySem.W.keepIn K (.ref g)=true):GF K x st g:=⟨a,_,jt l c k⟩
theorem fe {T:Tx} {h:Heap} (X:T.K.In h) (G:h.Ns mainGlobals T.mg) {x:Str} {st:Stmt} {g:Addr} {m:List Str} {Tb:List Fd} {i n:Nat} (d:GF T.K x st g) (sc:Q2 (y7 st m)=true) (hb:∀ (kV doc pm:Value) (an:Option Addr) (cdv ct:Value) (us:List Value),us.length=(y7 st m).ps.length->bindArgs (PySem.W.fnOf x x (u9 st) (j6 st) (b9 st) .none kV doc pm an cdv ct) ⟨us,[]⟩=pure ((y7 st m).ps.zip us)) (hT:Tb[i]?=some (y7 st m)) (hn:(y7 st m).ps.length=n) (hL:bw T g x m:=by exact λz=>absurd z (by decide)):∃ fd,Tb[i]?=some fd/\fd.ps.length=n/\FnTx T x fd:=by
 obtain ⟨fd,F⟩:=d.f;exact ⟨_,hT,hn,⟨g,_,_,st,F,rfl,rfl,E4 sc,F.binds hb,PySem.W.mg_of X G d.a,hL⟩⟩
def su (T:Tx) (Tb:List Fd):List (Str×G)->Prop
 | []=>True
 | (x,.fn i n) :: l=>(∃ fd,Tb[i]?=some fd/\fd.ps.length=n/\FnTx T x fd)/\su T Tb l
 | _ :: l=>su T Tb l
theorem vK {T:Tx} {Γ:Gm} {Tb:List Fd} (h:su T Tb Γ.gl):jy T Γ Tb:=λx i n e=>by
 have m:=L2.mem_of_lookup e;generalize Γ.gl=l at h m;induction l with
 | nil=>cases m
 | cons y l ih=>
  obtain ⟨z,g⟩:=y;rcases AA.mp m with q | q
  ·cases q;exact h.1
  ·refine ih ?_ q;cases g with
   | fn j k=>exact h.2
   | _=>exact h
theorem G0 {n:Nat} (I:Nat->Sto->List D->Prop) (a:∀ S es,I n S es->src n S=some none)
  (c:∀ i S es,i<n->I i S es->∃ d b S1,src i S=some (some d)/\t d S=.ok b S1/\(if b=true then ∃ y S2,f d S1=.ok y S2/\es.length<sizeLine/\I (i+1) S2 (es++[y]) else I (i+1) S1 es)) :
  ∀ (k i:Nat) (S:Sto) (es:List D),k+i=n->I i S es->∃ es' S',i6 src t f (k+1) i es S=.ok es' S'/\I n S' es'
 | 0,i,S,es,j,h=>by
  have:i=n:=by omega
  subst this;refine ⟨es,S,?_,h⟩;simp only [i6,a S es h]
 | k+1,i,S,es,j,h=>by
  obtain ⟨d,b,S1,l,m,e⟩:=c i S es (by omega) h;have g:i6 src t f (k+1+1) i es S=bind (t d) (λb=>if b=true then bind (f d) (λy=>if es.length<sizeLine then i6 src t f (k+1) (i+1) (es++[y]) else bad) else i6 src t f (k+1) (i+1) es) S:=by
   conv=>lhs;unfold i6
   simp only [l]
  rw [g,a8 m];cases b with
  | true=>
   rw [if_pos rfl] at e ⊢;obtain ⟨y,S2,p,o,q⟩:=e;rw [a8 p,if_pos o];exact G0 I a c k (i+1) S2 _ (by omega) q
  | false=>
   rw [if_neg At] at e ⊢;exact G0 I a c k (i+1) S1 _ (by omega) e
def Ok {b:Type} (m:M b) (S:Sto) (Q:b->Sto->Prop):Prop:=∃ a S',m S=.ok a S'/\Q a S'
section
variable {α β:Type} {S S1:Sto} {m m':M α} {k:α->M β} {a:α} {Q Q':α->Sto->Prop} {P:β->Sto->Prop}
theorem Ok.ret (h:Q a S):Ok (ret a) S Q:=⟨a,S,rfl,h⟩
theorem Ok.of (e:m S=.ok a S1) (h:Q a S1):Ok m S Q:=⟨a,S1,e,h⟩
theorem Ok.bind (h:Ok m S λa S1=>Ok (k a) S1 P):Ok (L3.bind m k) S P:=by
 obtain ⟨a,S1,e,b,S2,c,q⟩:=h;exact ⟨b,S2,by rw [a8 e];exact c,q⟩
theorem Ok.eq (e:m S=.ok a S1) (h:Ok (k a) S1 P):Ok (L3.bind m k) S P:=Ok.bind ⟨a,S1,e,h⟩
theorem Ok.mono (h:Ok m S Q) (i:∀ a S1,Q a S1->Q' a S1):Ok m S Q':=by
 obtain ⟨a,S1,e,q⟩:=h;exact ⟨a,S1,e,i _ _ q⟩
theorem Ok.cg (e:m=m') (h:Ok m' S Q):Ok m S Q:=e▸h
theorem Ok.cgS (e:m S=m' S) (h:Ok m' S Q):Ok m S Q:=by
 obtain ⟨a,S1,b,q⟩:=h;exact ⟨a,S1,by rw [e];exact b,q⟩
end
theorem Ok.comp {n:Nat} (I:Nat->Sto->List D->Prop) (c:∀ S es,I n S es->src n S=some none)
  (a:∀ i S es,i<n->I i S es->∃ d,src i S=some (some d)/\Ok (t d) S λb S1=>if b=true then Ok (f d) S1 λy S2=>es.length<sizeLine/\I (i+1) S2 (es++[y]) else I (i+1) S1 es) {S:Sto} (h:I 0 S []) :
  Ok (i6 src t f (n+1) 0 []) S λes S'=>I n S' es:=by
 obtain ⟨es,S',e,q⟩:=G0 I c (λi S es o h=>by
  obtain ⟨d,l,b,S1,m,q⟩:=a i S es o h;refine ⟨d,b,S1,l,m,?_⟩;cases b with
  | true=>
   rw [if_pos rfl] at q ⊢;obtain ⟨y,S2,g,j,k⟩:=q;exact ⟨y,S2,g,j,k⟩
  | false=>
   rw [if_neg At] at q ⊢;exact q) n 0 S [] (by omega) h
 exact ⟨es,S',e,q⟩
def FlI (I:L3.Env->Sto->Prop) (J:L3.Env->Sto->Prop) (R:D->Sto->Prop) (a:Fl) (S:Sto):Prop:=match a with
 | .nx ρ=>I ρ S
 | .ct ρ=>I ρ S
 | .bk ρ=>J ρ S
 | .rt d=>R d S
theorem Ok.for_ {n:Nat} (I:Nat->L3.Env->Sto->Prop) (J:L3.Env->Sto->Prop) (R:D->Sto->Prop) (hend:∀ ρ S,I n ρ S->src n S=some none)
  (step:∀ i ρ S,i<n->I i ρ S->∃ d ρ1,src i S=some (some d)/\tg d ρ=some ρ1/\Ok (body ρ1) S (FlI (I (i+1)) J R)) :
  ∀ (k i:Nat) (ρ:L3.Env) (S:Sto),k+i=n->I i ρ S->Ok (v3 src tg body (k+1) i ρ) S λfl S'=>match fl with
   | .nx ρ'=>I n ρ' S'\/J ρ' S'
   | .rt d=>R d S'
   | _=>False
 | 0,i,ρ,S,hk,h=>by
  have:i=n:=by omega
  subst this;exact ⟨.nx ρ,S,by simp only [v3,hend ρ S h],.inl h⟩
 | k+1,i,ρ,S,hk,h=>by
  obtain ⟨d,ρ1,e1,e2,h2⟩:=step i ρ S (by omega) h;have un:v3 src tg body (k+1+1) i ρ S=L3.bind (body ρ1) (λfl=>match fl with
    | .nx ρ2=>v3 src tg body (k+1) (i+1) ρ2
    | .ct ρ2=>v3 src tg body (k+1) (i+1) ρ2
    | .bk ρ2=>L3.ret (.nx ρ2)
    | .rt d=>L3.ret (.rt d)) S:=by
   conv=>lhs;unfold v3
   simp only [e1,e2]
   all_goals rfl
  refine Ok.cgS un (Ok.bind (h2.mono λfl S1 q=>?_));cases fl with
  | nx ρ2=>exact Ok.for_ I J R hend step k (i+1) ρ2 S1 (by omega) q
  | ct ρ2=>exact Ok.for_ I J R hend step k (i+1) ρ2 S1 (by omega) q
  | bk ρ2=>exact Ok.ret (.inr q)
  | rt d=>exact Ok.ret q
def Asc (x:Str):Prop:=∀ c∈x.cps.toList,c<128
def R6 (j:Nat):Nat:=1000000000000000000000000000000000000000+j
mutual
def Pln (j:Nat):D->Prop
 | .non=>True
 | .bl _=>True
 | .int i=>i.natAbs<=R6 j
 | .str x=>x.length<=45+j/\Asc x
 | .tup ds=>Plns j ds
 | .lst ds=>Plns j ds
 | .scr _=>False
 | .ref _=>False
def Plns (j:Nat):List D->Prop
 | []=>True
 | d :: ds=>Pln j d/\Plns j ds
end
mutual
noncomputable def py:D->PyData
 | .non=>.none
 | .bl b=>.bool b
 | .int i=>.int i
 | .str x=>.str x
 | .tup ds=>.tuple (pys ds)
 | .lst ds=>.list (pys ds)
 | .scr _=>.none
 | .ref _=>.none
noncomputable def pys:List D->List PyData
 | []=>[]
 | d :: ds=>py d :: pys ds
end
mutual
noncomputable def dp:D->Nat
 | .tup ds=>dps ds+1
 | .lst ds=>dps ds+1
 | _=>0
noncomputable def dps:List D->Nat
 | []=>0
 | d :: ds=>max (dp d) (dps ds)
end
mutual
noncomputable def sz:D->Nat
 | .int _=>60
 | .str x=>10 * x.length+2
 | .tup ds=>szs ds+3
 | .lst ds=>szs ds+3
 | _=>5
noncomputable def szs:List D->Nat
 | []=>0
 | d :: ds=>sz d+2+szs ds
end
mutual
theorem Pln.up:∀ (d:D),Pln j d->Pln (j+1) d
 | .non,_=>trivial
 | .bl _,_=>trivial
 | .int i,h=>by have h:i.natAbs<=R6 j:=h;show i.natAbs<=R6 (j+1);unfold R6 at *;omega
 | .str x,h=>⟨by have:=h.1;omega,h.2⟩
 | .tup ds,h=>Plns.up ds h
 | .lst ds,h=>Plns.up ds h
 | .scr _,h=>h.elim
 | .ref _,h=>h.elim
theorem Plns.up:∀ (ds:List D),Plns j ds->Plns (j+1) ds
 | [],_=>trivial
 | d :: ds,h=>⟨Pln.up d h.1,Plns.up ds h.2⟩
end
mutual
theorem D1 (S:Sto):∀ (d:D) (n:Nat),Pln j d->dp d<n->d3 n S d=some (py d)
 | .non,n+1,_,_=>rfl
 | .bl _,n+1,_,_=>rfl
 | .int _,n+1,_,_=>rfl
 | .str _,n+1,_,_=>rfl
 | .tup ds,n+1,h,a=>by
  show (e8 (d3 n S) ds).map PyData.tuple=_;rw [R8 S ds n h (by have:dps ds+1<n+1:=a;omega)];rfl
 | .lst ds,n+1,h,a=>by
  show (e8 (d3 n S) ds).map PyData.list=_;rw [R8 S ds n h (by have:dps ds+1<n+1:=a;omega)];rfl
 | .scr _,_,h,_=>h.elim
 | .ref _,_,h,_=>h.elim
 | .non,0,_,h=>by omega
 | .bl _,0,_,h=>by omega
 | .int _,0,_,h=>by omega
 | .str _,0,_,h=>by omega
 | .tup _,0,_,h=>by omega
 | .lst _,0,_,h=>by omega
theorem R8 (S:Sto):∀ (ds:List D) (n:Nat),Plns j ds->dps ds<n->e8 (d3 n S) ds=some (pys ds)
 | [],n,_,_=>rfl
 | d :: ds,n,h,hn=>by
  have hn:max (dp d) (dps ds)<n:=hn;simp only [e8,D1 S d n h.1 (by omega),R8 S ds n h.2 (by omega)];rfl
end
theorem qS (h:Asc x):PyData.strOk x=true:=by
 unfold PyData.strOk;rw [Array.all_eq_true'];intro c a;have:=h c (by simpa using a);grind
mutual
theorem N8:∀ d:D,Pln j d->(py d).canLay0=true
 | .non,_=>rfl
 | .bl _,_=>rfl
 | .int _,_=>rfl
 | .str x,h=>by show PyData.canLay0 (.str x)=true;simp only [PyData.canLay0];exact qS h.2
 | .tup ds,h=>by show PyData.canLay0 (.tuple (pys ds))=true;simp only [PyData.canLay0];exact ar ds h
 | .lst ds,h=>by show PyData.canLay0 (.list (pys ds))=true;simp only [PyData.canLay0];exact ar ds h
 | .scr _,h=>h.elim
 | .ref _,h=>h.elim
theorem ar:∀ ds:List D,Plns j ds->PyData.canLayAll0 (pys ds)=true
 | [],_=>rfl
 | d :: ds,h=>by show PyData.canLayAll0 (py d :: pys ds)=true;simp only [PyData.canLayAll0,N8 d h.1,ar ds h.2,Eh]
end
mutual
theorem K2:∀ d:D,(py d).depth<=dp d
 | .non=>by show PyData.depth .none<=_;simp [PyData.depth]
 | .bl b=>by show PyData.depth (.bool b)<=_;simp [PyData.depth]
 | .int i=>by show PyData.depth (.int i)<=_;simp [PyData.depth]
 | .str x=>by show PyData.depth (.str x)<=_;simp [PyData.depth]
 | .tup ds=>by show PyData.depth (.tuple (pys ds))<=dps ds+1;simp only [PyData.depth];have:=N5 ds;omega
 | .lst ds=>by show PyData.depth (.list (pys ds))<=dps ds+1;simp only [PyData.depth];have:=N5 ds;omega
 | .scr _=>by show PyData.depth .none<=_;simp [PyData.depth]
 | .ref _=>by show PyData.depth .none<=_;simp [PyData.depth]
theorem N5:∀ ds:List D,PyData.depthAll (pys ds)<=dps ds
 | []=>by show PyData.depthAll []<=0;simp [PyData.depthAll]
 | d :: ds=>by
  have:=K2 d;have:=N5 ds;show PyData.depthAll (py d :: pys ds)<=max (dp d) (dps ds);simp only [PyData.depthAll];omega
end
theorem ly {i:Int} (h:i.natAbs<=R6 j) (hj:j<=1000):decide (i.natAbs.log2<1920)=true:=by
 refine Bb ?_;by_cases z:i.natAbs=0
 ·rw [z];decide
 ·have:i.natAbs<2 ^ 140:=by unfold R6 at h;omega
  have:=(Nat.log2_lt z).mpr this;omega
mutual
theorem fE (f:j<=1000):∀ d:D,Pln j d->(py d).showable=true/\(py d).hasDict=false/\(py d).shown.length<=sz d
 | .non,_=>⟨rfl,rfl,by show (PyData.shown .none).length<=5;decide⟩
 | .bl b,_=>⟨rfl,rfl,by show (PyData.shown (.bool b)).length<=5;cases b <;> decide⟩
 | .int i,h=>⟨ly h f,rfl,by
   have h:i.natAbs<=R6 j:=h;have e:=int_text_length_le10 (k:=40) (a:=i) (by decide) (by unfold R6 at h;omega);show (Str.ofString (toString i)).length<=60;rw [PySem.ofString_length];omega⟩
 | .str x,h=>⟨rfl,rfl,by
   show (PyData.shown (.str x)).length<=10 * x.length+2;rw [PyData.shown_str];exact StrLaws.reprText_len x λc m=>by have:=h.2 c m;omega⟩
 | .tup ds,h=>by
  obtain ⟨a,b,c⟩:=T0 f ds h;refine ⟨by show PyData.showable (.tuple (pys ds))=true;simp only [PyData.showable];exact a,by show PyData.hasDict (.tuple (pys ds))=false;simp only [PyData.hasDict];exact b,?_⟩;have g:=tupleText_len_le (PyData.shownAll (pys ds));have l:=PyData.shownAll_length (pys ds);show (PyData.shown (.tuple (pys ds))).length<=szs ds+3;simp only [PyData.shown];omega
 | .lst ds,h=>by
  obtain ⟨a,b,c⟩:=T0 f ds h;refine ⟨by show PyData.showable (.list (pys ds))=true;simp only [PyData.showable];exact a,by show PyData.hasDict (.list (pys ds))=false;simp only [PyData.hasDict];exact b,?_⟩;have g:=listText_len_le (PyData.shownAll (pys ds));have l:=PyData.shownAll_length (pys ds);show (PyData.shown (.list (pys ds))).length<=szs ds+3;simp only [PyData.shown];omega
 | .scr _,h=>h.elim
 | .ref _,h=>h.elim
theorem T0 (hj:j<=1000):∀ ds:List D,Plns j ds->PyData.showableAll (pys ds)=true/\PyData.hasDictAll (pys ds)=false/\((PyData.shownAll (pys ds)).map (·.length)).sum+2 * (pys ds).length<=szs ds
 | [],_=>⟨rfl,rfl,by show ((PyData.shownAll []).map (·.length)).sum+2 * 0<=0;simp [PyData.shownAll]⟩
 | d :: ds,h=>by
  obtain ⟨a,b,c⟩:=fE hj d h.1;obtain ⟨a2,b2,c2⟩:=T0 hj ds h.2;refine ⟨by show PyData.showableAll (py d :: pys ds)=true;simp only [PyData.showableAll,a,a2,Eh],by show PyData.hasDictAll (py d :: pys ds)=false;simp only [PyData.hasDictAll,b,b2,Bool.or_self],?_⟩;show ((PyData.shownAll (py d :: pys ds)).map (·.length)).sum+2 * (py d :: pys ds).length<=sz d+2+szs ds;simp only [PyData.shownAll,AW,List.sum_cons,Bg];omega
end
structure Any (j N:Nat) (d:D):Prop where
 pl:Pln j d
 dp:dp d<=3+j
 sz:sz d<=N
theorem jX (h:Any j N d) (i:j<=40) (g:N<=10000000) (S:Sto):y3 d S=.ok (.str (py d).shown) S:=by
 obtain ⟨a,b,c⟩:=fE (by omega) d h.pl;have e:=D1 S d 64 h.pl (by have:=h.dp;omega);have f:y3 d S=(match d3 64 S d with
  | some p=>(if Shows p then ret (D.str p.shown) else bad) S
  | none=>.bad):=rfl
 rw [f,e];show (if Shows (py d) then ret (D.str (py d).shown) else bad) S=_;rw [if_pos ⟨a,b,by have:=K2 d;have:=h.dp;omega,by have:=h.sz;rw [AD];omega⟩];rfl
mutual
noncomputable def plB:D->Bool
 | .non=>true
 | .bl _=>true
 | .int i=>decide (i.natAbs<=R6 0)
 | .str x=>decide (x.length<=45)&&x.cps.toList.all (· < 128)
 | .tup ds=>kc ds
 | .lst ds=>kc ds
 | .scr _=>false
 | .ref _=>false
noncomputable def kc:List D->Bool
 | []=>true
 | d :: ds=>plB d&&kc ds
end
mutual
theorem lM:∀ d:D,plB d=true->Pln 0 d
 | .non,_=>trivial
 | .bl _,_=>trivial
 | .int i,h=>by
  have h:decide (i.natAbs<=R6 0)=true:=h;exact (BC h:i.natAbs<=R6 0)
 | .str x,h=>by
  have h:(decide (x.length<=45)&&x.cps.toList.all (· < 128))=true:=h;rw [Al,Az,AQ] at h;exact ⟨h.1,λc hc=>BC (h.2 c hc)⟩
 | .tup ds,h=>bA ds h
 | .lst ds,h=>bA ds h
 | .scr _,h=>Bool.noConfusion h
 | .ref _,h=>Bool.noConfusion h
theorem bA:∀ ds:List D,kc ds=true->Plns 0 ds
 | [],_=>trivial
 | d :: ds,h=>by
  have h:(plB d&&kc ds)=true:=h;rw [Al] at h;exact ⟨lM d h.1,bA ds h.2⟩
end
def smB (n N:Nat) (d:D):Bool:=plB d&&decide (dp d<=n)&&decide (sz d<=N)
theorem dw (h:smB n N d=true):Pln 0 d/\dp d<=n/\sz d<=N:=by
 unfold smB at h;rw [Al,Al,Az,Az] at h;exact ⟨lM d h.1.1,h.1.2,h.2⟩
theorem Pln.ups {d:D} (h:Pln 0 d):Pln j d:=by
 induction j with
 | zero=>exact h
 | succ j a=>exact a.up
theorem F9 (n:Nat) (S:Sto):∀ ns:List Int,e8 (d3 (n+1) S) (ns.map D.int)=some (ns.map PyData.int)
 | []=>rfl
 | b :: a=>by
  have e:d3 (n+1) S (.int b)=some (.int b):=rfl;simp only [AW,e8,e,F9 n S a]
theorem Q9:∀ ns:List Int,PyData.canLayAll0 (ns.map PyData.int)=true
 | []=>rfl
 | b :: a=>by simp only [AW,PyData.canLayAll0,PyData.canLay0,Q9 a,Eh]
theorem ic {i:Nat} (h:i<=ds.length):E9 ds none (some (i:Int))=ds.take i:=by
 have e:HT.sIx ds.length ds.length (some (i:Int))=i:=by
  show (if (i:Int)<0 then ((i:Int)+(ds.length:Int)).toNat else min (i:Int).toNat ds.length)=i;rw [if_neg (by omega)];simp;omega
 unfold E9;rw [e,HT.sIx_none];simp
theorem D2 (ds:List D) (S:Sto):A6 (.tup ds) S=.ok (A7 ds,ds.length+1) S:=rfl
theorem U0 {n:Nat} (h:n<1000) (S:Sto):n8 [.int (n:Int)] S=.ok (X1 0 n,n+1) S:=by
 unfold n8;have a:(n:Int)<1000:=by omega
 have b:(0:Int)<=n:=by omega
 have c:-(2 ^ 62)<=(n:Int)/\(n:Int)<2 ^ 62:=⟨Int.le_trans (by decide) b,Int.lt_trans a (by decide)⟩;simp only [if_pos c,BD];rfl
theorem xV {i:Nat} {d:D} (S:Sto) (h:ds[i]?=some d):ixD (.tup ds) (.int (i:Int)) S=.ok d S:=by
 show X7 (atI ds (i:Int)) S=_;rw [aG h];rfl
theorem z9 {b:Type} {src:Src} {l:List b} {h g:b->D} {p:b->Bool} {t:D->M Bool} {f:D->M D} {S:Sto} (hs:∀ i,src i S=some (l.map h)[i]?) (v:l.length<sizeLine) (o:∀ a∈l,t (h a) S=.ok (p a) S) (m:∀ a∈l,p a=true->f (h a) S=.ok (g a) S):i6 src t f (l.length+1) 0 [] S=.ok ((l.filter p).map g) S:=by
 obtain ⟨es,S',e,u,s⟩:=Ok.comp (src:=src) (n:=l.length) (λi S' es=>S'=S/\es=((l.take i).filter p).map g) (λS' es q=>by obtain ⟨q,_⟩:=q;subst q;rw [hs,AT (by simp)])
  (λi S' es c ⟨k,j⟩=>by
   subst k j;refine ⟨h l[i],?_,p l[i],S',o _ (Ba c),?_⟩
   ·grind
   ·have r:=AO c;cases d:p l[i] with
    | true=>
     dsimp only;rw [if_pos rfl];refine ⟨g l[i],S',m _ (Ba c) d,?_,rfl,?_⟩
     ·grind
     ·grind
    | false=>
     dsimp only;rw [if_neg At];refine ⟨rfl,?_⟩;rw [r,List.filter_append,List.filter_cons_of_neg (by rw [d];exact At),List.filter_nil,Bs]) ⟨rfl,rfl⟩
 grind
theorem iV (n i:Nat) (S:Sto):X1 0 n i S=some ((List.range n).map λ(k:Nat)=>D.int (k:Int))[i]?:=by
 show some (if i<n then some (D.int (0+i)) else none)=_;grind
theorem vZ (e:S[n]?=some (.lst ds)) (i:Nat):gq n i S=some ds[i]?:=by
 simp only [gq,e]
theorem aX (ns:List Int):q5 (ns.map D.int)=some ns:=by
 induction ns with
 | nil=>rfl
 | cons n ns a=>simp only [AW,q5,a,Option.map_some]
theorem m9 {b c:Type} {f:b->c} {l:List b} {i:Nat} {a:b} (h:l[i]?=some a):(l.map f)[i]?=some (f a):=by grind
theorem kx (x:Int):∀ ns:List Int,((ns.map PyData.int).any λy=>PyData.eqv y (.int x))=decide (x∈ns)
 | []=>by simp
 | y :: ns=>by
  simp only [AW,EH,kx x ns,PyData.eqv];rw [Dr,EB,Az,Az,AA];constructor
  ·grind
  ·grind
theorem nY (x:Int) (ns:List Int) (S:Sto):m7 .In (.int x) (.tup (ns.map D.int)) S=.ok (.bl (decide (x∈ns))) S:=by
 have e:d3 64 S (.tup (ns.map D.int))=some (.tuple (ns.map PyData.int)):=by
  show (e8 (d3 63 S) (ns.map D.int)).map PyData.tuple=_;rw [F9 62 S ns];rfl
 show inD false (.int x) (.tup (ns.map D.int)) S=_;unfold inD;rw [e];show fz false (.int x) (ns.map PyData.int) S=_;unfold fz;have hd:PyData.depth (.int x)=0:=by simp [PyData.depth]
 rw [if_pos ⟨rfl,Q9 ns,by rw [hd];omega⟩,kx];rfl
theorem fW {d:D} (S:Sto) (h:ds.getLast?=some d):ixD (.tup ds) (.int (-1)) S=.ok d S:=by
 have a:ds≠[]:=λz=>by subst z;cases h
 have b:=List.length_pos_iff.mpr a;show X7 (atI ds (-1)) S=_;have:atI ds (-1)=some d:=by
  unfold atI ixN;rw [if_neg (by omega),if_pos (by omega)];show ds[((-1:Int)+(ds.length:Int)).toNat]?=some d;rw [show ((-1:Int)+(ds.length:Int)).toNat=ds.length-1 by omega,<- List.getLast?_eq_getElem?];exact h
 rw [this];rfl
def Ex (S S':Sto):Prop:=∃ T,S'=S++T
theorem Ex.refl (S:Sto):Ex S S:=⟨[],by simp⟩
theorem Ex.trans (h:Ex a b) (k:Ex b c):Ex a c:=by
 obtain ⟨t,rfl⟩:=h;obtain ⟨u,rfl⟩:=k;exact ⟨t++u,by simp⟩
theorem Ex.at (h:Ex S S') {q:Nat} (hq:q<S.length):S'[q]?=S[q]?:=by
 obtain ⟨t,rfl⟩:=h;grind
theorem jD (e:S[n]?=some (.lst (ns.map D.int))) (a:ns.length<64):J6 (.ref n) S=.ok (.lst ((srt ns).map D.int)) S:=by
 show bind (w8 (.ref n)) _ S=_;rw [a8 (show w8 (.ref n) S=.ok (ns.map D.int) S by simp only [w8,lstOf,e]),aX];show (if ns.length<64 then ret (D.lst ((srt ns).map D.int)) else bad) S=_;rw [if_pos a];rfl
theorem pF {ys:List D} (e:S[n]?=some (.lst es)) (a:es.length+ys.length<=sizeLine):extD (.ref n) [.tup ys] S=.ok .non (S.set n (.lst (es++ys))):=by
 simp only [extD,e,if_pos a]
theorem J5 (e:S[n]?=some (.lst es)):lstOf (.ref n) S=.ok es S:=by simp only [lstOf,e]
def Tk (p:Nat) (S S':Sto):Prop:=S.length<=S'.length/\∀ q,q<S.length->q≠p->S'[q]?=S[q]?
theorem Tk.trans (h:Tk p a b) (k:Tk p b c):Tk p a c:=⟨Bk h.1 k.1,λq e d=>by rw [k.2 q (AB e h.1) d,h.2 q e d]⟩
theorem dB {T R S:Sto} {p:Nat} (e:p<T.length) (c:S.length=(T++R).length) (h:∀ q,q≠p->S[q]?=(T++R)[q]?):∃ b,S=b++R/\b.length=T.length/\(∀ q,q≠p->b[q]?=T[q]?)/\b[p]?=S[p]?:=by
 rw [Ay] at c;have a:(S.take T.length).length=T.length:=by rw [Bo];omega
 refine ⟨S.take T.length,?_,a,λq d=>?_,?_⟩
 ·apply Eb;intro i;by_cases f:i<T.length
  ·grind
  ·grind
 ·grind
 ·grind
theorem pQ {n j:Nat} {es:List D} {y:D} (e:S[n]?=some (.lst es)) (h:es[j]?=some y) (hs:j<1000):popD (.ref n) [.int (j:Int)] S=.ok y (S.set n (.lst (es.eraseIdx j))):=by
 have hj:=(As.mp h).1;have c:-(2 ^ 63)<=(j:Int)/\(j:Int)<2 ^ 63:=⟨Int.le_trans (by decide) (Int.natCast_nonneg j),Int.lt_trans (show (j:Int)<1000 by omega) (by decide)⟩;have i:ixN es.length (j:Int)=some j:=by
  unfold ixN;rw [if_pos (by omega)];simp only [BD];rw [if_pos (by omega)]
 simp only [popD,e,if_pos c,i,h]
theorem M6 {b c:Type} (f:b->c):∀ (l:List b) (i:Nat),(l.map f).eraseIdx i=(l.eraseIdx i).map f
 | [],_=>rfl
 | _ :: _,0=>rfl
 | a :: l,i+1=>by simp only [AW,List.eraseIdx_cons_succ,M6 f l i]
theorem tO (ds:List D) (S:Sto):D5 (.lst ds) S=.ok (.int ds.length) S:=rfl
theorem pW (e:S[n]?=some (.lst es)):D5 (.ref n) S=.ok (.int es.length) S:=by simp only [D5,e]
theorem kX {y:D} (e:S[n]?=some (.lst es)) (a:es.length<sizeLine):M8 (.ref n) [y] S=.ok .non (S.set n (.lst (es++[y]))):=by simp only [M8,e,if_pos a]
theorem Ok.nx (h:Ok m S Q):Ok (L3.nx m) S Q:=by
 obtain ⟨a,S1,e,q⟩:=h;exact ⟨a,S1,by unfold L3.nx;rw [e],q⟩
def nxt {d:Type} (q:EvK) (e:Lc) (c:List Stmt) (k:Fl->M d):Fl->M d:=λb=>match b with
 | .nx a=>u5 q e c a k
 | b=>k b
section
variable {α:Type} {q:EvK} {lc:Lc} {st:Stmt} {sts:List Stmt} {ρ:L3.Env} {k:Fl->M α} {S:Sto} {Q:α->Sto->Prop} {P:Nat->Sto->Prop}
theorem Ok.first (h:Ok (q.s lc st ρ (nxt q lc sts k)) S Q):Ok (u5 q lc (st :: sts) ρ k) S Q:=h
theorem Ok.nxt (h:Ok (q.s lc st ρ (L3.nxt q lc sts k)) S Q):Ok (L3.nxt q lc (st :: sts) k (.nx ρ)) S Q:=h
theorem Ok.pos [Decidable c] {a b:M α} (h:c) (k:Ok a S Q):Ok (if c then a else b) S Q:=by rw [if_pos h];exact k
theorem Ok.neg [Decidable c] {a b:M α} (h:¬ c) (k:Ok b S Q):Ok (if c then a else b) S Q:=by rw [if_neg h];exact k
end
theorem iP (ns:List Int):∃ ms:List Int,E9 (ns.map D.int) none (some 63)=ms.map D.int:=⟨(ns.drop (HT.sIx ns.length 0 none)).take (HT.sIx ns.length ns.length (some 63)-HT.sIx ns.length 0 none),by simp [E9,List.map_drop,List.map_take]⟩
theorem Q3 (n:Nat) (S:Sto):X1 0 n n S=some none:=by
 show some (if n<n then _ else none)=some none;grind
theorem aY {n i:Nat} (h:i<n) (S:Sto):X1 0 n i S=some (some (.int (i:Int))):=by rw [iV,m9 (Dy h)]
structure Sml (n N:Nat) (d:D):Prop where
 pl:Pln 0 d
 dp:dp d<=n
 sz:sz d<=N
def wI (n N:Nat) (ds:List D):Prop:=∀ d∈ds,Sml n N d
theorem Sml.w (h:smB n N d=true:=by decide +kernel):Sml n N d:=⟨(dw h).1,(dw h).2.1,(dw h).2.2⟩
theorem Sml.any (h:Sml n N d) (hn:n<=43):Any 40 N d:=⟨h.pl.ups,by have:=h.dp;omega,h.sz⟩
theorem Sml.repr (h:Sml n N d) (a:n<=43:=by decide) (b:N<=10000000:=by decide) (S:Sto):y3 d S=.ok (.str (py d).shown) S:=jX (h.any a) (by omega) b S
theorem pR (a b:Int) (S:Sto):m7 .Eq (.int a) (.int b) S=.ok (.bl (decide (a=b))) S:=rfl
theorem vR (a b:Int) (S:Sto):m7 .NotEq (.int a) (.int b) S=.ok (.bl (!decide (a=b))) S:=rfl
theorem aH (a b:Nat) (S:Sto):B4 (.int (a:Int)) (.int (b:Int)) S=.ok (.int ((a+b:Nat):Int)) S:=by
 show R.ok (D.int ((a:Int)+(b:Int))) S=_;grind
theorem nx_bind {k:α->M β} {S:Sto} {Q:β->Sto->Prop} (h:Ok m S λa S1=>Ok (k a) S1 Q):Ok (L3.bind (L3.nx m) k) S Q:=Ok.bind (Ok.nx h)
theorem U1 (h:Ok m S λd S'=>d=a/\S'=S):m S=.ok a S:=by
 obtain ⟨d,S',e,rfl,rfl⟩:=h;exact e
theorem Ok.loop {n:Nat} (I:Nat->L3.Env->Sto->Prop) (f:∀ ρ S,I n ρ S->src n S=some none)
  (e:∀ i ρ S,i<n->I i ρ S->∃ d b,src i S=some (some d)/\tg d ρ=some b/\Ok (body b) S λc S'=>∃ a,(c=.nx a\/c=.ct a)/\I (i+1) a S') {ρ:L3.Env} {S:Sto} (h:I 0 ρ S) :
  Ok (v3 src tg body (n+1) 0 ρ) S λc S'=>∃ a,c=.nx a/\I n a S':=by
 refine (Ok.for_ I (λ_ _=>False) (λ_ _=>False) f (λi ρ S l h=>?_) n 0 ρ S (by omega) h).mono ?_
 ·obtain ⟨d,b,g,j,k⟩:=e i ρ S l h;refine ⟨d,b,g,j,k.mono ?_⟩;rintro c S' ⟨a,rfl | rfl,q⟩
  ·exact q
  ·exact q
 ·grind
theorem ls (h:Any n N d) (hn:n<=40) (hc:Pln 0 c) (c1:dp c<=50) (neg:Bool) (S:Sto):eqP neg d c S=.ok (.bl (if neg=true then !PyData.eqv (py d) (py c) else PyData.eqv (py d) (py c))) S:=by
 have dp:=h.dp;have hd:=K2 d;unfold eqP;rw [D1 S d 64 h.pl (by omega),D1 S c 64 hc (by omega)];show (if PyData.canLay0 (py d)=true/\PyData.canLay0 (py c)=true/\min (PyData.depth (py d)) (PyData.depth (py c))<=60 then ret (D.bl (if neg=true then !PyData.eqv (py d) (py c) else PyData.eqv (py d) (py c))) else bad) S=_;rw [if_pos ⟨N8 _ h.pl,N8 _ hc,by omega⟩];rfl
theorem V1:∀ ns:List Int,q5 (ns.map D.int)=some ns
 | []=>rfl
 | n :: ns=>by
  have:=V1 ns;simp only [AW,q5] at *;simp [e8] at *;first | exact this | simp [this]
theorem kH (a:ns.length<4000) (b:(e9 ns).length<64) (S:Sto):C4 (.lst (ns.map D.int)) S=.ok (.lst ((srt (e9 ns)).map D.int)) S:=by
 unfold C4;rw [a8 (show w8 (.lst (ns.map D.int)) S=.ok (ns.map D.int) S from rfl)];simp only [V1,if_pos (And.intro a b)];rfl
def aL (p m c:D):M D:=
 bind (V9 c (.int 998244353)) λi=>bind (ixD p (.int 3)) λt=>bind (M3 (.int 7919) t) λg=>bind (B4 i g) λh=>bind (M3 h (.int 48271)) λf=>bind (V9 f (.int 2147483647)) λb=>
 bind (B0 b (.int 13)) λd=>bind (ixD p (.int 3)) λt=>bind (M3 (.int 104729) t) λj=>bind (ixD p (.int 3)) λo=>bind (M3 j o) λe=>bind (B4 d e) λk=>bind (M3 k (.int 69621)) λl=>bind (V9 l (.int 2147483629)) λa=>bind (B0 a (.int 64)) λq=>bind (V9 q m) λn=>ret n
def aw (p m a:D) (z:Bool):M D:=
 if z=true then bind (B0 a m) λv=>bind (E2 p (.int 2) v) λ_=>bind (V9 a m) λd=>ret d
 else aL p m a
def B3 (p m b:D):M D:=
 bind (ixD p (.int 1)) λx=>bind (B4 x (.int 1)) λv=>bind (E2 p (.int 1) v) λ_=>
 bind (dg (.int 10) (.int 18)) λy=>bind (m7 .GtE b y) λd=>bind (asB d) λc=>if c=true then (bind (ixD p (.int 1)) λa=>bind (ixD p (.int 0)) λcs=>bind (D5 cs) λn=>bind (m7 .LtE a n) λd=>bind (asB d) λz=>aw p m b z) else aw p m b false
def eW (p m:D):M D:=
 bind (ixD p (.int 3)) λx=>bind (B4 x (.int 1)) λt=>bind (E2 p (.int 3) t) λ_=>
 bind (ixD p (.int 2)) λx=>bind (m7 .Gt x (.int 0)) λd=>bind (asB d) λz=>if z=true then
  bind (ixD p (.int 2)) λx=>bind (V9 x m) λf=>bind (ixD p (.int 2)) λx=>bind (B0 x m) λv=>bind (E2 p (.int 2) v) λ_=>ret f
 else bind (ixD p (.int 0)) λc=>bind (m7 .NotEq c (.lst [])) λd=>bind (asB d) λz=>if z=true then
   bind (ixD p (.int 0)) λc=>bind (ixD p (.int 1)) λi=>bind (ixD p (.int 0)) λb=>bind (D5 b) λn=>bind (V9 i n) λj=>bind (ixD c j) λa=>B3 p m a
  else B3 p m (.int 3)
def d6 (ns:List Int) (a l t:Int):O:=.lst [.lst (ns.map D.int),.int a,.int l,.int t]
section
variable {S:Sto} {p:Nat} {ns:List Int} {a l t:Int} (h:S[p]?=some (d6 ns a l t))
include h
theorem t_0:ixD (.ref p) (.int 0) S=.ok (.lst (ns.map D.int)) S:=by simp only [ixD,h,d6];rfl
theorem t_1:ixD (.ref p) (.int 1) S=.ok (.int a) S:=by simp only [ixD,h,d6];rfl
theorem t_2:ixD (.ref p) (.int 2) S=.ok (.int l) S:=by simp only [ixD,h,d6];rfl
theorem t_3:ixD (.ref p) (.int 3) S=.ok (.int t) S:=by simp only [ixD,h,d6];rfl
theorem wg (v:Int):E2 (.ref p) (.int 1) (.int v) S=.ok .non (S.set p (d6 ns v l t)):=by simp only [E2,h,d6];rfl
theorem vX (v:Int):E2 (.ref p) (.int 2) (.int v) S=.ok .non (S.set p (d6 ns a v t)):=by simp only [E2,h,d6];rfl
theorem xE (v:Int):E2 (.ref p) (.int 3) (.int v) S=.ok .non (S.set p (d6 ns a l v)):=by simp only [E2,h,d6];rfl
end
theorem mS (ns:List Int) (S:Sto):m7 .NotEq (.lst (ns.map D.int)) (.lst []) S=.ok (.bl (!ns.isEmpty)) S:=by
 show eqP true (.lst (ns.map D.int)) (.lst []) S=_;have e:d3 64 S (.lst (ns.map D.int))=some (.list (ns.map PyData.int)):=by
  show (e8 (d3 63 S) (ns.map D.int)).map PyData.list=_;rw [F9 62 S ns];rfl
 unfold eqP;rw [e];show (if PyData.canLay0 (.list (ns.map PyData.int))=true/\PyData.canLay0 (.list [])=true/\min (PyData.depth (.list (ns.map PyData.int))) (PyData.depth (.list []))<=60 then ret (D.bl (!PyData.eqv (.list (ns.map PyData.int)) (.list []))) else bad) S=_;have hd:PyData.depth (.list [])<=60:=by simp [PyData.depth,PyData.depthAll]
 rw [if_pos ⟨by simp only [PyData.canLay0];exact Q9 ns,rfl,by omega⟩];cases ns with
 | nil=>rfl
 | cons n ns=>rfl
theorem dW (h:S[p]?=some (d6 ns a l t)) (b:0<m) (e:0<=t) (d:t<2000000):∃ r:Int,aL (.ref p) (.int m) (.int c) S=.ok (.int r) S/\0<=r/\r<m:=by
 unfold aL;rw [a8 (U2 (by decide) S),a8 (t_3 h),a8 (bJ (.inl ⟨by decide,by decide⟩) S),a8 (eU _ _ S),a8 (bJ (.inr ⟨by decide,by decide⟩) S),a8 (U2 (by decide) S),a8 (ak (by decide) (by decide) S),
  a8 (t_3 h),a8 (bJ (.inl ⟨by decide,by decide⟩) S),a8 (t_3 h),a8 (bJ (.inr ⟨by omega,by omega⟩) S),a8 (eU _ _ S),a8 (bJ (.inr ⟨by decide,by decide⟩) S),a8 (U2 (by decide) S),a8 (ak (by decide) (by decide) S),a8 (U2 b S)]
 exact ⟨_,rfl,Du _ (Eu b),CO _ b⟩
theorem bS (h:S[p]?=some (d6 ns a l t)) (w:0<=a) (o:0<=l) (u:0<=t) (i:t<2000000) (b:0<m) (j:m<1073741824) :
  ∃ r f,B3 (.ref p) (.int m) (.int c) S=.ok (.int r) (S.set p (d6 ns (a+1) f t))/\0<=r/\r<m/\0<=f:=by
 unfold B3;rw [a8 (t_1 h),a8 (eU _ _ S),a8 (wg h _)];have g:=jV (o':=d6 ns (a+1) l t) h;have v:dg (.int 10) (.int 18) (S.set p (d6 ns (a+1) l t))=.ok (.int 1000000000000000000) (S.set p (d6 ns (a+1) l t)):=rfl;rw [a8 v];have s:m7 .GtE (.int c) (.int 1000000000000000000) (S.set p (d6 ns (a+1) l t))=.ok (.bl (decide (1000000000000000000<=c))) (S.set p (d6 ns (a+1) l t)):=rfl;rw [a8 s,a8 (show asB _ _=_ from rfl)];have d:∀ z:Bool,(z=true->1000000000000000000<=c)->∃ r f,aw (.ref p) (.int m) (.int c) z (S.set p (d6 ns (a+1) l t))=.ok (.int r) (S.set p (d6 ns (a+1) f t))/\0<=r/\r<m/\0<=f:=λz hz=>by
  unfold aw;cases z with
  | true=>
   rw [if_pos rfl,a8 (ak b j _),a8 (vX g _),a8 (U2 b _),set_set];exact ⟨_,c / m,rfl,Du _ (Eu b),CO _ b,Int.ediv_nonneg (Int.le_trans (by decide) (hz rfl)) (Int.le_of_lt b)⟩
  | false=>
   rw [if_neg At];obtain ⟨r,e,n,q⟩:=dW g b u i;exact ⟨r,l,e,n,q,o⟩
 by_cases hz:(1000000000000000000:Int)<=c
 ·rw [Bb hz,if_pos rfl,a8 (t_1 g),a8 (t_0 g),a8 (G3 ns _)];have k:m7 .LtE (.int (a+1)) (.int (ns.length:Int)) (S.set p (d6 ns (a+1) l t))=.ok (.bl (decide (a+1<=(ns.length:Int)))) (S.set p (d6 ns (a+1) l t)):=rfl;rw [a8 k,a8 (show asB _ _=_ from rfl)];exact d _ λ_=>hz
 ·rw [Bf hz,if_neg At];exact d _ λz=>by cases z
theorem jR (h:S[p]?=some (d6 ns a l t)) (o:0<=a) (q:0<=l) (A:0<=t) (v:t<1000000) (g:0<m) (k:m<1073741824) :
  ∃ r j f,eW (.ref p) (.int m) S=.ok (.int r) (S.set p (d6 ns j f (t+1)))/\0<=r/\r<m/\0<=j/\0<=f:=by
 unfold eW;rw [a8 (t_3 h),a8 (eU _ _ S),a8 (xE h _)];have b:=jV (o':=d6 ns a l (t+1)) h;have w:m7 .Gt (.int l) (.int 0) (S.set p (d6 ns a l (t+1)))=.ok (.bl (decide (0<l))) (S.set p (d6 ns a l (t+1))):=rfl;rw [a8 (t_2 b),a8 w,a8 (show asB _ _=_ from rfl)];by_cases hz:0<l
 ·rw [Bb hz,if_pos rfl,a8 (t_2 b),a8 (U2 g _),a8 (t_2 b),a8 (ak g k _),a8 (vX b _),set_set];exact ⟨_,a,l / m,rfl,Du _ (Eu g),CO _ g,o,Int.ediv_nonneg q (Int.le_of_lt g)⟩
 ·rw [Bf hz,if_neg At,a8 (t_0 b),a8 (mS ns _),a8 (show asB _ _=_ from rfl)];have i:∀ c:Int,∃ r j f,B3 (.ref p) (.int m) (.int c) (S.set p (d6 ns a l (t+1)))=.ok (.int r) (S.set p (d6 ns j f (t+1)))/\0<=r/\r<m/\0<=j/\0<=f:=λc=>by
   obtain ⟨r,f,e,s,u,y⟩:=bS b o q (by omega) (by omega) g k;rw [set_set] at e;exact ⟨r,a+1,f,e,s,u,by omega,y⟩
  cases ns with
  | nil=>
   rw [show (!([]:List Int).isEmpty)=false from rfl,if_neg At];exact i 3
  | cons n d=>
   rw [show (!(n :: d).isEmpty)=true from rfl,if_pos rfl,a8 (t_0 b),a8 (t_1 b),a8 (t_0 b),a8 (G3 _ _)];have x:0<((n :: d).length:Int):=by simp only [Bg];omega
   rw [a8 (U2 x _)];obtain ⟨z,e⟩:=lj (ns:=n :: d) o (by omega) (S.set p (d6 (n :: d) a l (t+1)));rw [a8 e];exact i z
def Ft (ns:List Int) (p N:Nat) (S:Sto):Prop:=∃ a l t:Int,S[p]?=some (d6 ns a l t)/\0<=a/\0<=l/\0<=t/\t+N<1000000
theorem Ft.less {p N K:Nat} {S:Sto} (h:Ft ns p N S) (f:K<=N):Ft ns p K S:=by
 obtain ⟨a,l,t,e,c,b,d,g⟩:=h;exact ⟨a,l,t,e,c,b,d,by omega⟩
theorem Ft.keep (h:Ft ns p N S) (e:S'[p]?=S[p]?):Ft ns p N S':=by
 obtain ⟨a,l,t,b,c⟩:=h;exact ⟨a,l,t,by rw [e];exact b,c⟩
theorem jZ {p N m:Nat} {S:Sto} (h:Ft ns p (N+1) S) (u:0<m) (o:m<1000000):Ok (eW (.ref p) (.int (m:Int))) S λd S'=>∃ r:Nat,d=.int (r:Int)/\r<m/\Ft ns p N S'/\S'.length=S.length/\∀ q,q≠p->S'[q]?=S[q]?:=by
 obtain ⟨a,l,t,e,g,c,s,x⟩:=h;obtain ⟨r,k,n,b,j,v,f,i⟩:=jR (m:=(m:Int)) e g c s (by omega) (by omega) (by omega);obtain ⟨r,rfl⟩:=En j;refine ⟨_,_,b,r,rfl,by omega,⟨k,n,t+1,?_,f,i,by omega,by omega⟩,by simp,λq w=>?_⟩
 ·grind
 ·grind
end L3
namespace L3.Rk
open PySem PySem.Spec PyProof.Rows L2
theorem kA (x:Int):∀ s:List Int,s.Pairwise (·<=·)->x∈s->s.findIdx? (λz=>z==x)=some (s.countP λz=>decide (z<x))
 | [],_,h=>by cases h
 | y :: s,hs,h=>by
  have hy:=BI.mp hs;rw [List.findIdx?_cons];by_cases q:y=x
  ·have c0:(y :: s).countP (λz=>decide (z<x))=0:=List.countP_eq_zero.mpr λz hz=>by
    rcases AA.mp hz with e | e
    ·rw [e,q];simp
    ·have:=hy.1 z e;simp;omega
   rw [c0,q];simp
  ·have hx:x∈s:=(AA.mp h).resolve_left λz=>q z.symm;have:=hy.1 x hx;have e:(y==x)=false:=by simp [q]
   have c:decide (y<x)=true:=Bb (by omega);have cc:(y :: s).countP (λz=>decide (z<x))=s.countP (λz=>decide (z<x))+1:=List.countP_cons_of_pos c;rw [e,kA x s hy.2 hx,cc];rfl
theorem nE (x:Int) (l:List Int):(srt l).countP (λz=>decide (z<x))=l.countP λz=>decide (z<x):=(d4 l).countP_eq _
theorem lx {ns:List Int} {x:Int} {j:Nat} (hj:j<100000) (h:ns.findIdx? (λz=>z==x)=some j) (S:Sto):R1 (.lst (ns.map D.int)) [.int x] S=.ok (.int (j:Int)) S:=by
 have e:d3 64 S (.lst (ns.map D.int))=some (.list (ns.map PyData.int)):=by
  show (e8 (d3 63 S) (ns.map D.int)).map PyData.list=_;rw [F9 62 S ns];rfl
 show ft (.lst (ns.map D.int)) (.int x) S=_;unfold ft;rw [show d3 64 S (.int x)=some (.int x) from rfl,e];simp only;have hd:PyData.depth (.int x)=0:=by simp [PyData.depth]
 rw [if_pos ⟨rfl,Q9 ns,by rw [hd];omega⟩];have f:(ns.map PyData.int).findIdx? (λz=>PyData.eqv z (.int x))=some j:=by
  rw [List.findIdx?_map,<- h];congr 1
 rw [f];simp only;rw [if_pos hj];rfl
def rk (l:List Int) (x:Int):Nat:=l.countP λz=>decide (z<x)
theorem eM (l:List Int) {x y:Int} (h:x<=y):rk l x<=rk l y:=List.countP_mono_left λz _ q=>by
 simp only [Az] at q ⊢;omega
theorem kU:∀ {l:List Int} {x y:Int},x∈l->x<y->rk l x<rk l y
 | z :: l,x,y,h,q=>by
  unfold rk;rw [List.countP_cons,List.countP_cons];rcases AA.mp h with e | e
  ·subst e;have:=eM l (Int.le_of_lt q);unfold rk at this;rw [if_neg (by simp),if_pos (by simpa using q)];omega
  ·have:=kU e q;unfold rk at this;by_cases c:z<x
   ·rw [if_pos (by simpa using c),if_pos (by simp;omega)];omega
   ·rw [if_neg (by simpa using c)];omega
theorem qN {l:List Int} {x y:Int} (h:x∈l):rk l x<rk l y↔x<y:=by
 refine ⟨λq=>?_,kU h⟩;by_cases c:x<y
 ·exact c
 ·have:=eM l (show y<=x by omega);omega
end L3.Rk
namespace L3
open PySem PySem.W PyProof.Rows
def W7 {b:Type} (c:Nat->Nat->Bool):KasT b->b
 | .ret a=>a
 | .ask i j k=>W7 c (k (c i j))
def KIn {c:Type} (n:Nat) (P:c->Prop):KasT c->Prop
 | .ret a=>P a
 | .ask i j k=>i<n/\j<n/\∀ b,KIn n P (k b)
theorem KIn.bd {P:α->Prop} {Q:β->Prop} {f:α->KasT β} (c:∀ a,P a->KIn n Q (f a)):∀ {t:KasT α},KIn n P t->KIn n Q (t.bind f)
 | .ret a,h=>c a h
 | .ask i j k,h=>⟨h.1,h.2.1,λb=>KIn.bd c (h.2.2 b)⟩
theorem KIn.run (b:Nat->Nat->Bool):∀ {t:KasT α},KIn n P t->P (W7 b t)
 | .ret a,h=>h
 | .ask i j k,h=>KIn.run b (t:=k (b i j)) (h.2.2 _)
theorem R4 {P:α->Prop} {c b:Nat->Nat->Bool} (e:∀ i j,i<n->j<n->c i j=b i j):∀ {t:KasT α},KIn n P t->W7 c t=W7 b t
 | .ret a,h=>rfl
 | .ask i j k,h=>by
  show W7 c (k (c i j))=W7 b (k (b i j));rw [e i j h.1 h.2.1];exact R4 e (h.2.2 _)
theorem KIn.wp {d:Nat->Nat->Bool} {b:Nat->Nat->(Bool->Shared->Prop)->Shared->Prop} {s:Shared} {Q:α->Shared->Prop} (c:∀ i j (C:Bool->Shared->Prop),i<n->j<n->C (d i j) s->b i j C s):∀ {t:KasT α},KIn n P t->Q (W7 d t) s->t.kasWp b Q s
 | .ret a,_,q=>q
 | .ask i j k,h,q=>c i j _ h.1 h.2.1 (KIn.wp c (h.2.2 _) q)
def ALt (n:Nat) (p:Array Nat):Prop:=p.toList.Perm (List.range n)
section
variable {n:Nat} {p:Array Nat}
theorem ALt.at (h:ALt n p) (a:0<n) (i:Nat):p.getD i 0<n:=by
 rw [Array.getD_eq_getD_getElem?];cases e:p[i]? with
 | none=>exact a
 | some x=>exact AH.mp (h.mem_iff.mp (Array.mem_toList_iff.mpr (Array.mem_of_getElem? e)))
theorem ALt.pm (h:ALt n p) (q:p'.Perm p):ALt n p':=(Array.perm_iff_toList_perm.mp q).trans h
theorem ALt.rv (h:ALt n p) (i j:Nat):ALt n (kas_rev p i j):=h.pm (mirror_perm ..)
theorem dH (a:0<n) (h:ALt n p):∀ f m,KIn n (λ_=>True) (kas_asc p f m)
 | 0,m=>trivial
 | f+1,m=>⟨h.at a _,h.at a _,λb=>by
  show KIn n _ (if b=true then _ else _);split
  ·trivial
  ·exact dH a h f (m+1)⟩
theorem Q7 (a:0<n):∀ f {p:Array Nat} m q,ALt n p->KIn n (λr=>ALt n r.1) (kas_desc f p m q)
 | 0,p,m,q,h=>h
 | f+1,p,m,q,h=>⟨h.at a _,h.at a _,λb=>by
  show KIn n _ (if b=true then (if _ then _ else _) else _);split
  ·split
   ·exact Q7 a f _ _ (h.rv _ _)
   ·exact Q7 a f _ _ h
  ·exact ⟨h.at a _,h.at a _,λd=>by
    show KIn n _ (if d=true then _ else _);split
    ·exact h
    ·exact Q7 a f _ _ h⟩⟩
theorem bY (a:0<n) (h:ALt n p) (m r:Nat):KIn n (λr=>ALt n r.2) (kas_tail3 m r p):=KIn.bd (Q:=λr:Nat×Array Nat=>ALt n r.2) (f:=λq=>.ret (q,kas_rev p 0 m)) (λ_ _=>(h.rv 0 m:ALt n (kas_rev p 0 m))) (dH a (h.rv 0 m) _ _)
theorem O6 (a:0<n) (h:ALt n p) (m r:Nat):KIn n (λr=>ALt n r.2) (kas_descPart m r p):=KIn.bd (λx b=>by
  split
  ·exact bY a (b.rv _ _) _ _
  ·exact bY a b _ _) (Q7 a _ _ _ h)
theorem iU (a:0<n) (h:ALt n p) (r:Nat):KIn n (λr=>ALt n r.2) (kas_count r p):=KIn.bd (λm _=>by
  split
  ·exact h
  ·split
   ·refine ⟨h.at a _,h.at a _,λb=>?_⟩;dsimp only;split
    ·exact h
    ·exact O6 a (h.rv _ _) _ _
   ·exact O6 a h _ _) (dH a h _ _)
theorem T9 (a:0<n) (h:ALt n p) (k:Nat):∀ f l r,KIn n (λ_=>True) (kas_place p k f l r)
 | 0,l,r=>trivial
 | f+1,l,r=>by
  show KIn n _ (if l≥r then _ else _);split
  ·trivial
  ·refine ⟨h.at a _,h.at a _,λb=>?_⟩;dsimp only;split
   ·exact T9 a h k f _ _
   ·exact T9 a h k f _ _
theorem jW (a:0<n):∀ f {p:Array Nat} k,ALt n p->KIn n (ALt n) (kas_bin f p k)
 | 0,p,k,h=>h
 | f+1,p,k,h=>KIn.bd (λl _=>jW a f _ (h.pm (bubble_perm ..))) (T9 a h k _ _ _)
theorem Q5 (b:0<n):KIn n (ALt n) (kas_sort n):=by
 have h:ALt n (List.toArray (List.range n)):=.refl _;refine KIn.bd (λr a=>?_) (iU b h n);split
 ·exact jW b _ _ a
 ·exact a
end
def sPq (a:Nat->Nat->Bool) (n:Nat):List Nat:=if n<2 then List.range n else (W7 a (kas_sort n)).toList
theorem cB (a:Nat->Nat->Bool) (n:Nat):(sPq a n).Perm (List.range n):=by
 unfold sPq;split
 ·exact .refl _
 ·exact KIn.run _ (Q5 (by omega))
theorem ab (h:i∈sPq lt n):i<n:=AH.mp ((cB lt n).mem_iff.mp h)
theorem K1 (a:Nat->Nat->Bool) (n:Nat):(sPq a n).length=n:=by rw [(cB a n).length_eq,AN]
theorem iC {b a:Nat->Nat->Bool} {n:Nat} (e:∀ i j,i<n->j<n->b i j=a i j):sPq b n=sPq a n:=by
 unfold sPq;split
 ·rfl
 ·rw [R4 e (Q5 (by omega))]
def ltK (a:List Int) (i j:Nat):Bool:=decide (a.getD i 0<a.getD j 0)
abbrev sPl (ks:List Int):List Nat:=sPq (ltK ks) ks.length
section
variable {prog:Program} {w:World} {A:Around} {E:Value->Shared->Prop} {s:Shared} {lt:Nat->Nat->Bool} {κ:SortKind}
def v2 (a:Nat->Nat->Bool) (vs:List Value):Array Value:=((sPq a vs.length).map λi=>vs.getD i Value.none).toArray
theorem jg (vs:List Value):(List.range vs.length).map (λi=>vs.getD i Value.none)=vs:=by
 apply Eb;grind
theorem iz {n:Nat} {P:PySem.Fin->Shared->Prop} (r:s.heap.get? a=some (seqObj "list" vs.toArray n)) (t:vs.length<64)
  (u:2<=vs.length->∀ h':Heap,(∀ b o,b≠a->s.heap.get? b=some o->h'.get? b=some o)->∀ Q:SortKind->Shared->Prop,Q κ { s with heap:=h' }->wpAny (model prog w) A (keyKind' vs.toArray) Q (λ_ _=>False) { s with heap:=h' })
  (M:∀ h':Heap,(∀ b o,b≠a->s.heap.get? b=some o->h'.get? b=some o)->∀ i j (C:Bool->Shared->Prop),i<vs.length->j<vs.length->C (lt i j) { s with heap:=h' }->kas_ask prog w A κ vs i j C { s with heap:=h' })
  (h:P (.done (.ret .none)) { s with heap:=sortedHeap s.heap a vs (v2 lt vs) }):wpAny (model prog w) A (Builtin.«list.sort» ⟨[.ref a],[]⟩) P E s:=by
 rw [list_sort_plain];have O:=Ao r;obtain ⟨y,m⟩:∃ y,(s.heap.update a (Obj.mapSeq λ_=>#[])).get? a=some (seqObj "list" #[] y):=⟨_,Dv r (λ_=>#[])⟩;have L:=Bp s.heap a (Obj.mapSeq λ_=>(#[]:Array Value));refine Ag (listItems_at r rfl ?_);refine Ag (Cu r rfl ?_ (by rw [An,AD];omega) (Bj _));refine Ag (Ec m rfl ?_);refine Ag (ED ?_ (by show vs.length<=_;rw [AD];omega));refine Ag (Ct ?_ (Bj _));refine AJ ?_;have d:(((s.heap.update a (Obj.mapSeq λ_=>(#[]:Array Value))).push (seqObj "tuple" vs.toArray 0)).push (seqObj "list" #[] 0)).get? a=some (seqObj "list" #[] y):=Ai _ (Ai _ m);have z:∀ b o,b≠a->s.heap.get? b=some o->(((s.heap.update a (Obj.mapSeq λ_=>(#[]:Array Value))).push (seqObj "tuple" vs.toArray 0)).push (seqObj "list" #[] 0)).get? b=some o:=λb o N e=>Ai _ (Ai _ ((L.2 b N).trans e));have k:(v2 lt vs).size<=sizeLine+1:=by
  unfold v2;rw [An,Ak,K1,AD];omega
 dsimp only;by_cases g:vs.toArray.size<2
 ·rw [if_pos g,if_pos g];have f:vs.length<2:=by rw [An] at g;exact g
  have l:(arrOf (SortSt.mk' general' (vs.toArray.zip vs.toArray) #[] 7 none)).map (·.2)=v2 lt vs:=by
   show (vs.toArray.zip vs.toArray).map (·.2)=_;unfold v2 sPq;rw [if_pos f,jg];have:(vs.zip vs).map Prod.snd=vs:=by rw [List.map_snd_zip];exact Ap _
   simpa using this
  refine Ag (Ah ?_);rw [StateT.run_pure];refine Ag (Ah ?_);refine Ag (Ec d rfl ?_);refine Ag (Cu d rfl ?_ (Bj _) (by rw [l];exact k));simp only [bne_self_eq_false,BJ,EE];refine Ah ?_;rw [l];exact h
 ·rw [if_neg g,if_neg g];have f:2<=vs.length:=by rw [An] at g;omega
  refine Ag (AI (u f _ z (λκ' s'=>κ'=κ/\s'={ s with heap:=((s.heap.update a (Obj.mapSeq λ_=>(#[]:Array Value))).push (seqObj "tuple" vs.toArray 0)).push (seqObj "list" #[] 0) }) ⟨rfl,rfl⟩) (λκ' s' u=>?_) λ_ _ x=>x.elim);obtain ⟨rfl,rfl⟩:=u;refine Ag (AI (kat_run (Q:=λc s'=>∃ p:Array Nat,arrOf c=p.map (kas_item (vs.toArray.zip vs.toArray))/\failedOf c=none/\p=W7 lt (kas_sort vs.length)/\s'={ s with heap:=((s.heap.update a (Obj.mapSeq λ_=>(#[]:Array Value))).push (seqObj "tuple" vs.toArray 0)).push (seqObj "list" #[] 0) })
   rfl f t (λK c s' R I G H=>⟨K,I,G,H⟩) (KIn.wp (λi j C D B q=>M _ z i j C D B q) (Q5 (by omega)) ⟨rfl,rfl⟩)) ?_ λ_ _ e=>e)
  rintro ⟨⟨⟩,c⟩ s' ⟨p,v,F,J,rfl⟩;have l:(arrOf c).map (·.2)=v2 lt vs:=by
   rw [kat_snds rfl v,J];unfold v2 sPq;rw [if_neg (by omega)]
  refine Ag (Ec d rfl ?_);refine Ag (Cu d rfl ?_ (Bj _) (by rw [l];exact k));rw [F];simp;refine Ah ?_;rw [l];exact h
theorem bM (n:s.heap.IsList l vs.toArray) (f:vs.length<64)
  (m:2<=vs.length->∀ h':Heap,(∀ b o,s.heap.get? b=some o->h'.get? b=some o)->∀ Q:SortKind->Shared->Prop,Q κ { s with heap:=h' }->wpAny (model prog w) A.in1.in1 (keyKind' vs.toArray) Q (λ_ _=>False) { s with heap:=h' })
  (p:∀ h':Heap,(∀ b o,s.heap.get? b=some o->h'.get? b=some o)->∀ i j (C:Bool->Shared->Prop),i<vs.length->j<vs.length->C (lt i j) { s with heap:=h' }->kas_ask prog w A.in1.in1 κ vs i j C { s with heap:=h' })
  (h:Q (.ref (s.heap.objs.size+1)) { s with heap:=sortedAll s.heap vs (v2 lt vs) }):wpAny (model prog w) A (call (.builtin "sorted") [.ref l]) Q E s:=by
 refine CG kind_sorted plain_sorted entry_sorted (args_sorted1 _) ?_;refine Ag (Ah ?_);refine Ag (collect_list n ?_ (by rw [AD];omega));refine Ag (Ct ?_ (by rw [AD];omega));have hsz:((s.heap.push (seqObj "list" #[] 0)).update s.heap.objs.size (Obj.mapSeq (·++vs.toArray))).objs.size=s.heap.objs.size+1:=by
  rw [Di,size_push']
 have c:(((s.heap.push (seqObj "list" #[] 0)).update s.heap.objs.size (Obj.mapSeq (·++vs.toArray))).push (seqObj "list" vs.toArray 0)).get? (s.heap.objs.size+1)=some (seqObj "list" vs.toArray 0):=by
  rw [<- hsz];exact Am _ rfl
 have d:∀ b o,s.heap.get? b=some o->(((s.heap.push (seqObj "list" #[] 0)).update s.heap.objs.size (Obj.mapSeq (·++vs.toArray))).push (seqObj "list" vs.toArray 0)).get? b=some o:=λb o q=>by
  have a:=Ao q;rw [CZ _ _ _ (by rw [hsz];exact Ar (AM a)),Dz _ _ _ _ (Ar a),CZ _ _ _ (Ar a)];exact q
 rw [hsz];have g:∀ h':Heap,(∀ b o,b≠s.heap.objs.size+1->(((s.heap.push (seqObj "list" #[] 0)).update s.heap.objs.size (Obj.mapSeq (·++vs.toArray))).push (seqObj "list" vs.toArray 0)).get? b=some o->h'.get? b=some o)->∀ b o,s.heap.get? b=some o->h'.get? b=some o:=λh' k b o e=>k b o (Ar (AM (Ao e))) (d b o e);refine Ag (AJ (AY slot_list_sort ⟨_,c,rfl⟩ entry_list_sort (iz c f (λr h' k=>m r h' (g h' k)) (λh' k=>p h' (g h' k)) ⟨_,rfl,?_⟩) (args_list_sort _)));exact Ah ⟨_,rfl,h⟩
end
end L3
namespace L3
open PySem PySem.Spec PyProof.Rows L2
def PrAt (h:Heap) (v:Value) (k:Int):Prop:=∃ a o xs n t r,v=.ref a/\h.get? a=some o/\o.cls=.type "tuple"/\o.data=.seq xs n/\xs.toList=Value.int k t :: r
theorem PrAt.kp {v:Value} {k:Int} (p:PrAt h v k) (e:∀ b o,h.get? b=some o->h'.get? b=some o):PrAt h' v k:=by
 obtain ⟨a,o,xs,n,t,r,c,f,d⟩:=p;exact ⟨a,o,xs,n,t,r,c,e _ _ f,d⟩
theorem Paired.gt:∀ {xs:List α} {ys:List β} {i:Nat},Paired P xs ys->i<xs.length->∃ x y,xs[i]?=some x/\ys[i]?=some y/\P x y
 | _,_,0,.cons h _,_=>⟨_,_,rfl,rfl,h⟩
 | _,_,i+1,.cons _ t,h=>by
  obtain ⟨x,y,b,a,p⟩:=Paired.gt t (by simpa using h);exact ⟨x,y,by simpa using b,by simpa using a,p⟩
section
variable {prog:Program} {w:World} {A:Around} {E:Value->Shared->Prop} {s:Shared}
theorem nB {Q:Bool->Shared->Prop} (h:Q true s):wpAny (model prog w) A (eqBool v v) Q E s:=by
 unfold eqBool;try with_reducible refine AJ ?_
 rw [if_pos (by simp)];exact Ag (BS (Ah h))
theorem cK (h:Q false s):∀ (l:List Value) (i:Nat),PySem.W.KatLex prog w A true false Q (l.zip l) i s
 | [],i=>h
 | v :: l,i=>Eo (nB (PySem.W.kat_yes (cK h l (i+1))))
theorem vE {k j:Int} {Q:Bool->Shared->Prop} (u:PrAt s.heap x k) (q:PrAt s.heap y j) (g:x=y\/k≠j) (h:Q (decide (k<j)) s):wpAny (model prog w) A (keyLt' (tuples' true) x y) Q E s:=by
 obtain ⟨a,o,xs,n,t,r,rfl,m,C,l,i⟩:=u;obtain ⟨b,o',ys,z,t',B,rfl,f,v,d,c⟩:=q;refine PySem.W.kat_lt m l f d ?_;rcases g with e | g
 ·cases e;rw [m] at f;cases f;rw [l] at d;cases d;rw [i] at c;cases c;have e:decide (k<k)=false:=Bf (Int.lt_irrefl _);rw [e] at h;have p:decide (xs.size<xs.size)=false:=Bf (BK _);rw [p];exact cK h _ 0
 ·rw [i,c];refine Eo ((intKind prog w).eqBool (Et _ _ _ _) (Et _ _ _ _) ?_);rw [Bf g];exact PySem.W.kat_no (oneLt_int h)
theorem oW (G:s.heap.IsList l vs.toArray) (d:vs.length<64) (B:Paired (PrAt s.heap) vs ks) (F:ks.Nodup)
  (h:Q (.ref (s.heap.objs.size+1)) { s with heap:=sortedAll s.heap vs (v2 (ltK ks) vs) }):wpAny (model prog w) A (call (.builtin "sorted") [.ref l]) Q E s:=by
 have f:=B.length;refine bM (κ:=tuples' true) G d (λg h' k M q=>?_) (λh' k i j C c J q=>?_) h
 ·obtain ⟨fs,D,c⟩:∃ fs,PySem.W.KatTups h' vs fs/\∀ v∈fs,∃ i t,v=Value.int i t:=by
   clear g d f F h G;induction B with
   | nil=>exact ⟨[],trivial,λ_ m=>nomatch m⟩
   | cons a t I=>
    obtain ⟨fs,L,g⟩:=I;obtain ⟨a,o,xs,n,t,r,rfl,y,u,K,H⟩:=a;refine ⟨.int _ t :: fs,PySem.W.KatTups.cons (k _ _ y) u K (by rw [<- Be,H];rfl) L,λv m=>?_⟩;rcases AA.mp m with rfl | m
    ·exact ⟨_,_,rfl⟩
    ·exact g v m
  have x:0<fs.length:=by
   cases fs with
   | nil=>cases vs with
    | nil=>simp at g
    | cons _ _=>exact False.elim D
   | cons _ _=>simp
  exact Ep (T:=.type "int") D x (λv m=>by obtain ⟨i,t,rfl⟩:=c v m;exact λA Q E s _ q=>Ah q) (by rfl) q
 ·unfold PySem.W.kas_ask;have b:∀ i,i<vs.length->PrAt h' (vs.getD i Value.none) (ks.getD i 0):=λi c=>by
   obtain ⟨v,N,y,u,p⟩:=Paired.gt B c;rw [Aw,Aw,y,u];exact p.kp k
  refine vE (b i c) (b j J) ?_ q;by_cases e:i=j
  ·exact .inl (by rw [e])
  ·refine .inr λz=>e ?_;rw [Aw,Aw,Aj (by omega),Aj (by omega)] at z;exact (Dd F).mp z
end
def B9:List D->Option (List Int)
 | []=>some []
 | .tup (.int k :: _) :: ds=>(B9 ds).map (k :: ·)
 | _=>none
theorem V7:∀ {ds:List D} {a:List Int},B9 ds=some a->a.length=ds.length
 | [],_,e=>by cases e;rfl
 | .tup (.int k :: _) :: ds,_,e=>by
  unfold B9 at e;cases q:B9 ds with
  | none=>rw [q] at e;cases e
  | some js=>rw [q] at e;cases e;simp [V7 q]
 | .non :: _,_,e | .bl _ :: _,_,e | .int _ :: _,_,e | .str _ :: _,_,e | .lst _ :: _,_,e | .scr _ :: _,_,e | .ref _ :: _,_,e | .tup [] :: _,_,e=>by cases e
 | .tup (.non :: _) :: _,_,e | .tup (.bl _ :: _) :: _,_,e | .tup (.str _ :: _) :: _,_,e | .tup (.lst _ :: _) :: _,_,e | .tup (.scr _ :: _) :: _,_,e | .tup (.ref _ :: _) :: _,_,e | .tup (.tup _ :: _) :: _,_,e=>by cases e
section
variable {X:Cx} {cl:Nat->Addr} {xe:Addr->Hp->Prop} {pins:List (Addr×Obj)} {σ:L2.St} {H:Hp} {s:Shared} {μ:Mp}
theorem ir (I:L2.Inv X pins σ H s):∀ {ds:List D} {xs:List V} {vs:List Value} {ks:List Int},B9 ds=some ks->RDs X.K μ H ds xs->Vals xs vs->Paired (PrAt s.heap) vs ks
 | [],_,_,_,e,.nil,.nil=>by cases e;exact .nil
 | d :: ds,_,_,ks,e,.cons rd rds,.cons rv rvs=>by
  cases rd with
  | tup ta ra=>
   cases ra with
   | nil=>cases e
   | cons r1 r2=>
    cases r1 with
    | int k=>
     unfold B9 at e;cases q:B9 ds with
     | none=>rw [q] at e;cases e
     | some js=>
      rw [q] at e;cases e;cases rv;refine .cons ?_ (ir I q rds rvs);obtain ⟨its,r',⟨ob,o1,o2,n,o3⟩,_⟩:=I.tuple ta.sq;cases r' with
      | cons h1 h2=>
       obtain ⟨t,rfl⟩:=h1;exact ⟨_,ob,_,n,t,_,rfl,o1,o2,o3,rfl⟩
    | _=>cases e
  | _=>cases e
def f8 {a:Type} (z:a) (b:List Nat) (xs:List a):List a:=b.map λi=>xs.getD i z
theorem Q4 (r:RDs X.K μ H ds xs):∀ {a:List Nat},(∀ i∈a,i<ds.length)->RDs X.K μ H (f8 .non a ds) (f8 .non a xs)
 | [],_=>.nil
 | i :: a,h=>by
  obtain ⟨v,e,b⟩:=r.get (Aj (h i Av));refine .cons ?_ (Q4 r λj m=>h j (AC _ m));show RD X.K μ H (ds.getD i .non) (xs.getD i .non);rw [Aw,Aw,e,Aj (h i Av)];exact b
theorem C5 (r:Vals xs us):∀ {a:List Nat},(∀ i∈a,i<xs.length)->Vals (f8 .non a xs) (f8 .none a us)
 | [],_=>.nil
 | i :: a,h=>by
  obtain ⟨v,e,b⟩:=r.get (Aj (h i Av));refine .cons ?_ (C5 r λj m=>h j (AC _ m));show L2.RelV (xs.getD i .non) (us.getD i .none);rw [Aw,Aw,e,Aj (h i Av)];exact b
def u4 (d:D):M D:=match d with
 | .lst ds=>(match B9 ds with
  | some a=>if a.length<64/\a.Nodup then ret (.lst (f8 .non (sPl a) ds)) else bad
  | none=>J6 (.lst ds))
 | d=>J6 d
theorem gO:j3 X (.builtin "sorted") (rPs X.K cl xe (one u4)):=C2 λpins s σ H μ S d v us Q I r rd rp p=>by
 have old:Post X.K cl xe μ H (J6 d S) (λr _ μ' H'=>∀ v,RD X.K μ' H' r v->Q v H')->wpAny (model X.prog X.w) X.A (call (.builtin "sorted") us) (EP X pins σ Q) X.xe s:=λp=>kK pins s σ H _ us Q I r ⟨μ,S,[d],.cons rd .nil,rp,p⟩;cases rd with
 | lst ha rds=>
  rename_i a xs ds;unfold u4 at p;dsimp only at p;cases e2:B9 ds with
  | none=>simp_all
  | some ks=>
   rw [e2] at p;obtain ⟨⟨hz,nd⟩,p⟩:=Post.guard p;obtain ⟨u,rfl,ru⟩:=G1 r;cases ru;have hl:=V7 e2;obtain ⟨its,rv,pl,hsz⟩:=I.list (ha.sq);have lv:its.length=ks.length:=by rw [<- rv.length,<- rds.length,hl]
   have bd:∀ i∈sPl ks,i<ds.length:=λi m=>by rw [<- hl];exact ab m
   refine oW pl.isList (by omega) (ir I e2 rds rv) nd ?_;obtain ⟨ep,he⟩:=sortedAll_at s.heap its (v2 (ltK ks) its);have hf:=I.hok.fresh (Bl _);obtain ⟨l,rp2,rd2⟩:=m8 rp (Q4 rds bd) hf;refine ⟨.ref (s.heap.objs.size+1),_,I.laid (λb ob q=>sortedAll_old q) (Bl _) ?_,rfl,p μ _ l rp2 _ rd2⟩;refine ⟨by unfold f8;rw [Ak,K1,AD];omega,f8 .none (sPl ks) its,ep,C5 rv (λi m=>by rw [<- rds.length];exact bd i m),?_⟩;rw [he];unfold v2 f8;rw [lv]
 | _=>exact old p
end
def iO:RuE:=rBf "sorted" "sorted" false (one u4) (by decide) rfl λ_ _=>gO
end L3
namespace L3
open PySem PySem.W PyProof.Rows
section
variable {prog:Program} {w:World} {A:Around} {E:Value->Shared->Prop} {s:Shared} {ks:List Int} {W:Shared->Prop} {a kS:Addr} {f:Value} {vs:List Value}
theorem L7 {h:Heap} {b c:Addr} {g:Obj->Obj} {o:Obj} (e:h.get? b=some o) (n:b≠c):(h.update c g).get? b=some o:=by rw [Dz _ _ _ _ n];exact e
theorem oO (J:s.heap.get? kS=some (seqObj "list" keys e)) (V:s.heap.get? a=some (seqObj "list" #[] o)) (y:kS≠a) (B:IntsAre keys.toList ks) (Y:ks.length=vs.length) (v:vs.length<64) (S:W s) (D:∀ s' b g,W s'->b=kS\/b=a->W { s' with heap:=s'.heap.update b g })
  (h:∀ s',W s'->(∃ c,s'.heap.get? a=some (seqObj "list" (v2 (ltK ks) vs) c))->P (.done (.ret .none)) s'):wpAny (model prog w) A (ksk_end a false vs.toArray o (.ref kS) keys) P E s:=by
 have hsz:keys.size=vs.length:=by
  have O:=B.length;rw [Ax] at O;omega
 have r:(v2 (ltK ks) vs).size<=sizeLine+1:=by
  unfold v2;rw [An,Ak,K1,AD];omega
 have n:∀ st:SortSt,(arrOf st).map (·.2)=v2 (ltK ks) vs->failedOf st=none->wpAny (model prog w) A (ksk_tail a false o (.ref kS) st) P E s:=λst x M=>by
  have L:=D s kS (Obj.mapSeq λ_=>(#[]:Array Value)) S (.inl rfl);have f:(s.heap.update kS (Obj.mapSeq λ_=>(#[]:Array Value))).get? a=some (seqObj "list" #[] o):=L7 V y.symm;refine Ag (Cu J rfl ?_ (by rw [hsz,AD];omega) (Bj _));refine Ag (wpAny_letGo ?_);refine Ag (Ec f rfl ?_);refine Ag (Cu f rfl ?_ (Bj _) (by rw [if_neg At,x];exact r));rw [M];simp;have z:=Dv f (λ_=>(arrOf st).map (·.2));rw [x] at z;exact Ah (h _ (D _ a _ L (.inr rfl)) ⟨_,by rw [x];exact z⟩)
 unfold ksk_end;simp only [BJ,EE];by_cases l:vs.toArray.size<2
 ·rw [if_pos l,if_pos l];have k:vs.length<2:=by rw [An] at l;exact l
  refine Ag (Ah ?_);rw [StateT.run_pure];refine Ag (Ah ?_);refine n _ ?_ rfl;unfold v2 sPq;rw [if_pos k,jg];have:(keys.toList.zip vs).map Prod.snd=vs:=List.map_snd_zip (by have e:keys.toList.length=keys.size:=Ax;omega);apply Array.toList_inj.mp;rw [Array.toList_map,ksk_zip];exact this
 ·rw [if_neg l,if_neg l];have k:2<=vs.length:=by rw [An] at l;omega
  rw [ksk_kind B (by omega)];refine Ag (Ah ?_);have K:keys=keys.toList.toArray:=by rw [BY]
  have H:keys.toList.length=vs.length:=by rw [Ax,hsz]
  have d:∀ i,i<vs.length->∃ t,keys.toList.getD i Value.none=.int (ks.getD i 0) t:=λi I=>by
   obtain ⟨t,e⟩:=DI B i _ (Aj (by omega));refine ⟨t,?_⟩;rw [Aw,Aj (by omega)];exact e
  rw [K];refine Ag (AI (kat_run (Q:=λm s'=>(arrOf m).map (·.2)=v2 (ltK ks) vs/\failedOf m=none/\s'=s)
   (G:=λp s'=>p=W7 (ltK ks) (kas_sort vs.length)/\s'=s) H k v (λZ m s' X N U F=>⟨?_,U,F.2⟩) (KIn.wp (λi j C I T q=>?_) (Q5 (by omega)) ⟨rfl,rfl⟩)) ?_ λ_ _ e=>e)
  ·rw [kat_snds H N,F.1];unfold v2 sPq;rw [if_neg (by omega)]
  ·unfold kas_ask;obtain ⟨t,o⟩:=d i I;obtain ⟨u,R⟩:=d j T;rw [o,R];exact kat_lt_int q
  ·grind
theorem jr (F:s.heap.get? kS=some (seqObj "list" #[] 0)) (M:s.heap.get? a=some (seqObj "list" #[] e1)) (u:kS≠a) (N:ks.length=vs.length) (y:vs.length<64) (L:W s) (B:∀ s' b g,W s'->b=kS\/b=a->W { s' with heap:=s'.heap.update b g })
  (O:∀ (i:Nat) (v:Value) (k:Int) (s':Shared),vs[i]?=some v->ks[i]?=some k->W s'->(∃ o,s'.heap.get? kS=some o)->(∃ o,s'.heap.get? a=some o)->wpAny (model prog w) A (call f [v]) (λr m=>(∃ t,r=.int k t)/\W m/\m.heap.get? kS=s'.heap.get? kS/\m.heap.get? a=s'.heap.get? a) (λ_ _=>False) s')
  (h:∀ s',W s'->(∃ c,s'.heap.get? a=some (seqObj "list" (v2 (ltK ks) vs) c))->P (.done (.ret .none)) s'):wpAny (model prog w) A (ksk_rest a f false vs.toArray e1 (.ref kS)) P E s:=by
 refine Ag (BS ?_);first
  | rw [List.forIn_toArray]
  | (rw [<- Array.forIn_toList];simp)
  | rw [<- Array.forIn_toList]
 refine Ag (ksk_fold (λi s'=>W s'/\s'.heap.get? a=some (seqObj "list" #[] e1)/\∃ n e,s'.heap.get? kS=some (seqObj "list" n e)/\IntsAre n.toList (ks.take i)) vs 0 s ⟨L,M,#[],0,F,by simpa using IntsAre.nil⟩ ?step ?done)
 case step=>
  rintro j x s' D ⟨w',l,n,e,d,p⟩;simp only [Nat.zero_add] at p ⊢;have R:=(As.mp D).1;obtain ⟨k,q⟩:∃ k,ks[j]?=some k:=⟨_,Aj (by omega)⟩;have hz:n.size<=vs.length:=by
   have H:=p.length;rw [Ax,Bo] at H;omega
  refine Ag (Cs (AI (O j x k s' D q w' ⟨_,d⟩ ⟨_,l⟩) (λv m J=>?_) λ_ _ Q=>Q.elim));obtain ⟨⟨t,rfl⟩,I,k2,C⟩:=J;rw [d] at k2;rw [l] at C;refine Ag (Cu k2 rfl ?_ (by rw [AD];omega) (Bk (Nat.le_of_eq (Array.size_push ..)) (by rw [AD];omega)));have G:ks.take (j+1)=ks.take j++[k]:=by rw [List.take_add_one,q];simp
  refine Ah ⟨rfl,B _ kS _ I (.inl rfl),L7 C u.symm,n.push (.int k t),_,Dv k2 (·.push (.int k t)),?_⟩;rw [Ea,G];exact ksk_snoc p
 case done=>
  rintro s' ⟨w',l,n,e,d,p⟩;have z:IntsAre n.toList ks:=by
   have K:ks.take (0+vs.length)=ks:=Cp (by omega);rw [K] at p;exact p
  refine Ag (listItems_at d rfl ?_);exact oO d l u z N y w' B h
theorem km (L:s.heap.IsList l vs.toArray) (m:ks.length=vs.length) (z:vs.length<64)
  (I:∀ h':Heap,(∀ b o,s.heap.get? b=some o->h'.get? b=some o)->W { s with heap:=h' }) (F:∀ s' b g,W s'->s.heap.objs.size<=b->W { s' with heap:=s'.heap.update b g })
  (M:∀ (i:Nat) (v:Value) (k:Int) (s':Shared) (x y:Addr),vs[i]?=some v->ks[i]?=some k->W s'->s.heap.objs.size<=x->s.heap.objs.size<=y->(∃ o,s'.heap.get? x=some o)->(∃ o,s'.heap.get? y=some o)->wpAny (model prog w) A.in1.in1 (call (.ref q) [v]) (λr d=>(∃ t,r=.int k t)/\W d/\d.heap.get? x=s'.heap.get? x/\d.heap.get? y=s'.heap.get? y) (λ_ _=>False) s')
  (h:∀ s' D c,s.heap.objs.size<=D->W s'->s'.heap.get? D=some (seqObj "list" (v2 (ltK ks) vs) c)->Q (.ref D) s'):wpAny (model prog w) A (call (.builtin "sorted") [.ref l] [(Str.ofString "key",.ref q)]) Q E s:=by
 refine call_function_entry_kw kind_sorted plain_sorted entry_sorted (ksk_s1 _ _) ?_;refine Ag (Ah ?_);refine Ag (collect_list L ?_ (by rw [AD];omega));refine Ag (Ct ?_ (by rw [AD];omega));have hsz:((s.heap.push (seqObj "list" #[] 0)).update s.heap.objs.size (Obj.mapSeq (·++vs.toArray))).objs.size=s.heap.objs.size+1:=by
  rw [Di,size_push']
 have a:(((s.heap.push (seqObj "list" #[] 0)).update s.heap.objs.size (Obj.mapSeq (·++vs.toArray))).push (seqObj "list" vs.toArray 0)).get? (s.heap.objs.size+1)=some (seqObj "list" vs.toArray 0):=by
  rw [<- hsz];exact Am _ rfl
 have n:∀ b o,s.heap.get? b=some o->(((s.heap.push (seqObj "list" #[] 0)).update s.heap.objs.size (Obj.mapSeq (·++vs.toArray))).push (seqObj "list" vs.toArray 0)).get? b=some o:=λb o q=>by
  have f:=Ao q;rw [CZ _ _ _ (by rw [hsz];exact Ar (AM f)),Dz _ _ _ _ (Ar f),CZ _ _ _ (Ar f)];exact q
 have j:(((s.heap.push (seqObj "list" #[] 0)).update s.heap.objs.size (Obj.mapSeq (·++vs.toArray))).push (seqObj "list" vs.toArray 0)).objs.size=s.heap.objs.size+2:=by
  rw [size_push',hsz]
 rw [hsz];generalize (((s.heap.push (seqObj "list" #[] 0)).update s.heap.objs.size (Obj.mapSeq (·++vs.toArray))).push (seqObj "list" vs.toArray 0))=g at *;refine Ag (AJ (wpAny_call_entry_kw slot_list_sort ⟨_,a,rfl⟩ entry_list_sort ?body (ksk_l1 _ _)));rw [ksk_t1];obtain ⟨C,u⟩:∃ C,(g.update (s.heap.objs.size+1) (Obj.mapSeq λ_=>(#[]:Array Value))).get? (s.heap.objs.size+1)=some (seqObj "list" #[] C):=⟨_,Dv a λ_=>#[]⟩;refine Ag (listItems_at a rfl ?_);refine Ag (Cu a rfl ?_ (by rw [An,AD];omega) (Bj _));refine Ag (Ec u rfl ?_);refine Ag (ED ?_ (by show vs.length<=_;rw [AD];omega));refine Ag (Ct ?_ (Bj _));refine AJ ?_;have p:((g.update (s.heap.objs.size+1) (Obj.mapSeq λ_=>(#[]:Array Value))).push (seqObj "tuple" vs.toArray 0)).objs.size=s.heap.objs.size+3:=by rw [size_push',Di,j]
 refine jr
  (Am _ rfl) (Ai _ (Ai _ u)) (by rw [p];exact CT (by omega)) m z (I _ λb o e=>?_) (λs' b K w O=>F s' b K w ?_) (λi v k s' H J w G N=>M i v k s' _ _ H J w ?_ ?_ G N) λs' w' ⟨c,B⟩=>⟨_,rfl,Ah ⟨_,rfl,h s' _ c (Bl _) w' B⟩⟩
 ·exact Ai _ (Ai _ (L7 (n b o e) (Ar (AM (Ao e)))))
 ·grind
 ·rw [p];omega
 ·omega
end
end L3
namespace L3
open PySem PySem.Spec PyProof.Rows L2
theorem aN {a b:Nat} {c:Value} (l:List Value) (h:TriplesOk l):TriplesOk (l++[rawInt a,rawInt b,c]):=by
 fun_induction TriplesOk l with
 | case1=>exact trivial
 | case2 _ _ _ _ _ rest ih=>exact ih h
 | case3=>exact h.elim
theorem dS {a b:Nat} {c cv:Value} (l:List Value) (h:TriplesOk l) (e:codeAmong pos (l++[rawInt a,rawInt b,c])=some cv):codeAmong pos l=some cv\/cv=c:=by
 fun_induction TriplesOk l with
 | case1=>
  right
  simp only [Ey,codeAmong,rawInt] at e;split at e
  ·grind
  ·cases e
 | case2 l1 t1 l2 t2 x rest ih=>
  simp only [List.cons_append,codeAmong] at e ⊢;split at e
  ·grind
  ·grind
 | case3=>exact h.elim
structure LamOk (h:Heap) (H:Hp) (f:Addr) (q:Str) (ps:Arguments) (body:Expr) (sc:Scope):Prop where
 ex:∃ (pm ctv:Value) (c:Addr) (o:Obj) (vs:Array Value) (t:Tok) (u:HO),h.get? f=some { cls:=.type "function",data:=.func (PySem.W.kla_fn "<lambda>" q ps body sc [] pm (.ref c) ctv) }/\H c=some (.frz o u)/\o.data=.fields vs/\vs[1]?=some (.str q t)
section
variable {X:Cx} {pins:List (Addr×Obj)} {σ:L2.St} {H:Hp} {s:Shared} {E:Value->Shared->Prop}
theorem kv {c P:Addr} {q:Str} {Q:Value->Shared->Prop} (I:L2.Inv X pins σ H s) (U:args.defaults=[]) (Z:args.kw_defaults=[]) (a:∀ x∈scope.names,x.2≠.free) (i:X.env.code=.ref c) (hC:PySem.W.codeHdIn X.K c P=true) (hq:X.env.qual ++ "<lambda>" = q) (D:H P=some (.tbl #[.str q 0]))
  (h:∀ f H' s',L2.Inv X pins σ H' s'->(∀ b u,H b=some u->H' b=some u)->(∀ b,H b=none->b<s.heap.objs.size->H' b=none)->H' f=none->s.heap.objs.size<=f->(∀ b o,s.heap.get? b=some o->H b=none->s'.heap.get? b=some o)->LamOk s'.heap H' f q args body scope->Q (.ref f) s') :
  wpAny (model X.prog X.w) X.A (eval (.Lambda args body scope pos) X.env) Q E s:=by
 rw [arm_eval_Lambda];have ed:defaultsOf args X.env=([],[]):=by
  rw [defaultsOf_eq,U,Z];rfl
 rw [ed];refine Ag (Ah ?_);refine Ag (AJ (Ah ?_));rw [hq];obtain ⟨tb,eP,M,hc⟩:=I.hok P _ D;have kp:=I.bk;have nb:∀ b o,X.base.get? b=some o->b≠P:=λb o e z=>by
  have:=(I.bs b o e).2;rw [z,D] at this;cases this
 have hg:=I.ok.mod.glob.keeps kp;have gP:mainGlobals≠P:=by
  obtain ⟨o,es,ep,e,_⟩:=I.ok.mod.glob;exact nb _ _ e
 have hb:s.heap.BuiltinsAt X.mg P:=by
  obtain ⟨bm,ob,h1,h2,O,h4,h5,h6⟩:=I.ok.mod.bm;refine ⟨bm,ob,h1,h2,λz=>?_,nb _ _ O,kp _ _ O,h4,h5,h6⟩;obtain ⟨o,es,ep,e,d,_⟩:=I.ok.mod.glob;rw [<- z,O] at e;cases e;rw [h6] at d;cases d
 have CH:=PySem.W.codeHd_of_K (I.kIn) hC;cases W:codeAmong pos tb.toList with
 | some V=>
  refine PySem.W.kla_makeFunctionHit (closureFor_none a) I.ok.glob hg i CH eP M W hb λj h' tk k sz=>?_;obtain ⟨p,o,vs,t,K,rfl,ow,N,L,e4⟩:=hc pos V W;have R:K=q:=by
   have:(#[Value.str q 0]:Array Value)[0]?=some (.str q 0):=rfl;rw [this] at e4;cases e4;rfl
  subst R;have r:∀ b o,s.heap.get? b=some o->(h'.push { cls:=.type "function",data:=.func (PySem.W.kla_fn "<lambda>" K args body scope [] ((X.mg "__name__").getD .none) (.ref p) j) }).get? b=some o:=λb o e=>Ai _ (k b o e);refine h _ H _ (I.kept r) (λ_ _ e=>e) (λ_ e _=>e) (I.hok.fresh sz) sz (λb o e _=>r b o e) ⟨_,j,p,o,vs,t,_,Am _ rfl,ow,N,L⟩
 | none=>
  refine PySem.W.kla_makeFunction (closureFor_none a) I.ok.glob hg i CH eP M W gP hb λp j h' tk hx m G J w=>?_;have v:=I.hok.fresh m;obtain ⟨c2,A,vs,t,ec,e1,N,L⟩:=J;cases ec;have C:=Bk m (Ck G);generalize S:(PySem.W.kla_obj "<lambda>" q args body scope [] ((X.mg "__name__").getD .none) p j)=ob;have r:∀ b o,b≠P->s.heap.get? b=some o->(h'.push ob).get? b=some o:=λb o n e=>Ai _ (hx b o n e);have Y:∀ b,H b=none->b≠P:=λb e z=>by rw [z,D] at e;cases e
  have un:Un X.fs [] H (upd H p (.frz A (.own P))) s.heap (h'.push ob):=by
   refine ⟨λb o e n _ _=>r b o (Y b n) e,λb o e n _ _=>⟨o.slots,r b o (Y b n) e⟩,λb o e n _=>?_,λb o e _=>?_,λb xs e=>?_,λb o u e=>?_,λb ps e=>⟨#[],?_⟩⟩
   ·rw [b1 (Ar (AB (Ao e) m))];exact n
   ·by_cases z:b=P
    ·subst z;exact ⟨_,Ai _ w⟩
    ·exact ⟨o,r b o z e⟩
   ·rw [b1 (b3 e v)];exact e
   ·rw [b1 (b3 e v)];exact e
   ·rw [b1 (b3 e v),e];simp
  have T:HOk X.prog X.w (upd H p (.frz A (.own P))) (h'.push ob):=λb u e=>by
   by_cases B:b=p
   ·subst B;rw [b6] at e;cases e;exact ⟨Ai _ e1,A,Ai _ e1⟩
   ·rw [b1 B] at e;by_cases F:b=P
    ·subst F;rw [D] at e;cases e;refine ⟨_,Ai _ w,by rw [Array.toList_append];exact aN _ M,λpos' V z=>?_⟩;rw [Array.toList_append] at z;rcases dS _ M z with z | z
     ·obtain ⟨d,o,ws,t',K,g1,g2,g4,g5,g6⟩:=hc pos' V z;exact ⟨d,o,ws,t',K,g1,by rw [b1 (b3 g2 v)];exact g2,g4,g5,g6⟩
     ·exact ⟨p,A,vs,t,q,z,b6,N,L,rfl⟩
    ·refine (I.hok b u e).stay (λd o hd g=>r d o (λy=>?_) g) (λd g=>by rw [b1 (b3 g v)];exact g) (λd xs g=>by rw [b1 (b3 g v)];exact g) λd o u g=>by rw [b1 (b3 g v)];exact g
     rcases hd with rfl | hd
     ·exact F y
     ·rw [y,D] at hd;cases hd
  refine h _ _ _ (I.un un T) (λb u e=>by rw [b1 (b3 e v)];exact e) (λb e l=>by rw [b1 (Ar (AB l m))];exact e) (by rw [b1 (CT G)];exact I.hok.fresh C) C (λb o e n=>r b o (Y b n) e) ⟨_,j,p,A,vs,t,_,by rw [<- S];exact Am _ rfl,b6,N,L⟩
end
def U3 (a:Pos):Arguments:=⟨[],[⟨"part",none,a⟩],none,[],[],none,[]⟩
def O8 (a b c:Pos) (n:Nat):Expr:=.Subscript (.Name "part" a) (.Constant (.int 0) n b) c
section
variable {X:Cx} {pins:List (Addr×Obj)} {σ:L2.St} {H:Hp} {s:Shared}
theorem ku {q:Str} {ap p1 p2 p3:Pos} {n:Nat} {sc:Scope} {k:Int} {xs:List V} {j:Nat} (I:L2.Inv X pins σ H s) (L:LamOk s.heap H f q (U3 ap) (O8 p1 p2 p3 n) sc) (hf:H f=none) (nf:f∉frs X.stack) (S:FnScope ["part"] ["part"] sc) (hv:sc.names.lookup ("part" : Str)=some .local)
  (hx:SqT X.K H a (.int k :: xs)) (hr:Room false (j+1) X.A.in1.in1) (hfr:X.A.in1.in1.frames=X.A.frames) :
  wpAny (model X.prog X.w) X.A.in1.in1 (call (.ref f) [.ref a]) (λr s'=>(∃ t,r=.int k t)/\L2.Inv X pins σ H s'/\LamOk s'.heap H f q (U3 ap) (O8 p1 p2 p3 n) sc/\∀ b o,s.heap.get? b=some o->H b=none->b∉frs X.stack->s'.heap.get? b=some o) (λ_ _=>False) s:=by
 obtain ⟨pm,ctv,c,oc,vc,tc,uc,ho,hc1,hc2,hc3⟩:=L.ex;have hcd':s.heap.CodeRec (.ref c) q:=⟨c,oc,vc,tc,rfl,(I.hok c _ hc1).1,hc2,hc3⟩;have e0:Env0 X.prog X.w X.K X.mg X.base X.A.in1.in1 X.stack s H:=by
  have z:=I.env0;exact ⟨by rw [hfr];exact z.frames,z.mod,z.bs,z.bsz,z.funs,z.frf,z.hok,z.bare⟩
 have KX:=e0.mod.kin.keeps λb o e=>(e0.bs b o e).1;have lim:=e0.mod.nolimit.keeps λb o e=>(e0.bs b o e).1;have main:codeAny (model X.prog X.w) X.A.in1.in1 (.call (.ref f) ⟨[.ref a],[]⟩) (CR CX0 X.stack X.prog X.w H s (λv H'=>v=.int k/\H'=H) E0) s:=by
  have hkind:∀ y∈[(("part" : Str),Value.ref a)],sc.names.lookup y.1=some .local\/(sc.names.lookup y.1=some .cell/\((cellsFrom (s.heap.objs.size+1) sc.names []).lookup y.1).isSome=true):=λy hy=>by
   rw [AU.mp hy];exact .inl hv
  refine PySem.W.kla_callFunE hr.depth ho rfl S.co S.gen rfl hcd' ?_;have eb:bindArgs (PySem.W.kla_fn "<lambda>" q (U3 ap) (O8 p1 p2 p3 n) sc [] pm (.ref c) ctv) ⟨[.ref a],[]⟩=pure [(("part" : Str),Value.ref a)]:=by
   first | rfl | kernel_rfl
  rw [eb];refine Ah ?_;refine DL S.kind hkind λenv he s1 y=>?_;subst he;refine ⟨lim.keeps y.toInCall.keep,PySem.W.kla_codeExpr ?_⟩;have J:L2.Inv (S8 CX0 X.prog X.w X.K X.mg X.base ["part"] q sc f (.ref c) X.A.in1.in1 X.stack s H E0) [] (start ["part"] [.ref a]) H s1:=aB S (λ_=>hr.hd rfl) e0 rfl (.cons rfl .nil) y;have pe:PE (S8 CX0 X.prog X.w X.K X.mg X.base ["part"] q sc f (.ref c) X.A.in1.in1 X.stack s H E0) (O8 p1 p2 p3 n) _:=pJ kZ (jw (i:=0) rfl (.inl hv)) lV (λ_ _=>rfl);refine AI (pe [] s1 _ H (λv H'=>v=.int k/\H'=H) J ?_) (λv s' hq=>?_) λe s' hq=>hq
  ·refine ⟨_,rfl,?_⟩;exact ⟨a,_,((0:Nat):Int),_,rfl,rfl,hx,aG rfl,rfl,rfl⟩
  ·obtain ⟨w,H',J',rw_,hw⟩:=hq;exact ⟨w,H',J'.os,J'.bare,J'.base,J'.hok,rw_,hw⟩
 refine Es (BX main λr s' hq=>?_);cases r with
 | error e=>exact hq.elim
 | ok fl=>
  cases fl with
  | ret u=>
   obtain ⟨v,H',os,bare,un,hok,rv,rfl,rfl⟩:=hq;obtain ⟨t,rfl⟩:=rv;have kk:=λb o e nn hb=>un.keep b o e nn hb (by simp);refine ⟨⟨t,rfl⟩,I.call' os un hok bare (λb z=>absurd z (by simp)),?_,kk⟩;exact ⟨pm,ctv,c,oc,vc,tc,uc,kk f _ ho hf nf,hc1,hc2,hc3⟩
  | next=>exact hq.elim
  | brk=>exact hq.elim
  | cont=>exact hq.elim
end
section
variable {X:Cx} {cl:Nat->Addr} {xe:Addr->Hp->Prop} {pins:List (Addr×Obj)} {σ:L2.St} {H:Hp} {s:Shared} {μ:Mp}
theorem iJ:∀ {ds:List D} {xs:List V} {vs:List Value} {ks:List Int} {i:Nat} {v:Value} {k:Int},B9 ds=some ks->RDs X.K μ H ds xs->Vals xs vs->vs[i]?=some v->ks[i]?=some k->∃ b ys,v=.ref b/\SqT X.K H b (.int k :: ys)
 | [],_,_,_,_,_,_,e,.nil,.nil,e1,_=>by simp at e1
 | d :: ds,_,_,ks,i,v,k,e,.cons rd rds,.cons rv rvs,e1,e2=>by
  cases rd with
  | tup ta ra=>
   cases ra with
   | nil=>cases e
   | cons r1 r2=>
    cases r1 with
    | int k'=>
     unfold B9 at e;cases q:B9 ds with
     | none=>rw [q] at e;cases e
     | some js=>
      rw [q] at e;cases e;cases i with
      | zero=>
       simp at e1 e2;subst e1;subst e2;cases rv;exact ⟨_,_,rfl,ta.sq⟩
      | succ i=>
       simp at e1 e2;exact iJ q rds rvs e1 e2
    | _=>cases e
  | _=>cases e
theorem mP (I:L2.Inv X pins σ H s) (k:H a=none) (h:X.s₀.heap.objs.size<=a) (i:a≠X.env.locals) (r:∀ x c,X.env.cells.lookup x=some c->c≠a) (l:∀ p∈X.pn++pins,p.1≠a) (g:ObjOk X.prog X.w (upd H a o) s.heap a o):L2.Inv X pins σ (upd H a o) s:=by
 have f:∀ b u,H b=some u->b≠a:=λb u e z=>by rw [z,k] at e;cases e
 have st:HOk X.prog X.w (upd H a o) s.heap:=λb u e=>by
  by_cases d:b=a
  ·subst d;rw [b6] at e;cases e;exact g
  ·rw [b1 d] at e;exact (I.hok b u e).stay (λ_ _ _ q=>q) (λc q=>by rw [b1 (f _ _ q)];exact q) (λc xs q=>by rw [b1 (f _ _ q)];exact q) λc o u q=>by rw [b1 (f _ _ q)];exact q
 have z:=I.step (d':=s.drawn) (t':=s.toks) (λb d=>by rw [AU.mp d];exact ⟨.inr h,i,r,l⟩) (λb o _ _ _ e _=>e) (λb o _ _ _ e _=>⟨o.slots,e⟩) (λb o d _ n=>by rw [b1 (λz=>d (by simp [z]))];exact n) (λb o _ e=>⟨o,e⟩)
  (λb xs e=>by rw [b1 (f _ _ e)];exact e) (λb o u e=>by rw [b1 (f _ _ e)];exact e) (λb ps e=>⟨#[],by rw [b1 (f _ _ e),e];simp⟩) (λm j=>j) st I.bare
 exact z
theorem L5 {h:Shared} (I:L2.Inv X pins σ H s) {b:Addr} (f:s.heap.objs.size<=b):H b=none/\X.s₀.heap.objs.size<=b/\b≠X.env.locals/\(∀ x c,X.env.cells.lookup x=some c->c≠b)/\(∀ p∈X.pn++pins,p.1≠b)/\b∉frs X.stack:=by
 have d:∀ c o,s.heap.get? c=some o->c≠b:=λc o e=>Ar (AB (Ao e) f);refine ⟨I.hok.fresh f,Bk I.sz f,?_,λx c e=>?_,λp g=>?_,λz=>?_⟩
 ·obtain ⟨m,⟨o,_,_,a,_⟩,_⟩:=I.loc;exact (d _ o a).symm
 ·obtain ⟨v,o,a,_⟩:=I.cell x c e;exact d c o a
 ·exact d _ _ (I.pin p g).1
 ·obtain ⟨_,o,a,_⟩:=I.stack.mem z;exact d b o a rfl
def w9 (d:D):M D:=match d with
 | .lst ds=>(match B9 ds with
  | some a=>if a.length<64 then ret (.lst (f8 .non (sPl a) ds)) else bad
  | none=>bad)
 | _=>bad
theorem gb {p pos kp lpos ap u1 u2 u3:Pos} {n:Nat} {sc:Scope} {k:Nat} (hg:Gl X "sorted") (hm:X.mg "sorted" = none) (hc:∃ c,X.env.code=.ref c/\PySem.W.codeHdIn X.K c (cl 1000000)=true/\nc X.K cl/\X.env.qual ++ "<lambda>" = cm X.K (cl 1000000)) (hr:Room false (k+3) X.A)
  (S:FnScope ["part"] ["part"] sc) (hv:sc.names.lookup ("part" : Str)=some .local) (he:PE X e (tD X.K cl xe f)) (hn:b5 e=true) :
  PE X (.Call (.Name "sorted" p) [e] [⟨some "key",.Lambda (U3 ap) (O8 u1 u2 u3 n) sc lpos,kp⟩] pos) (tD X.K cl xe λρ=>bind (f ρ) w9):=by
 intro pins s σ H Q I ⟨μ,S0,ρ,eo,rp,pp⟩;obtain ⟨c,hc1,hc2,hc3,hc4⟩:=hc;refine Bc (u6 I hg hm (by rfl) ?_ (by decide) (by decide));refine callWith_kw ?_ (by rw [b8 hn];rfl) (by rw [b8 hn];rfl) rfl rfl;rw [b8 hn];refine Bu (thn (he pins s σ H (λv H1=>∃ μ1 S1 d,RD X.K μ1 H1 d v/\Rep X.K cl μ1 S1 H1/\Post X.K cl xe μ1 H1 (w9 d S1) λr _ μ' H'=>∀ v,RD X.K μ' H' r v->Q v H') I ⟨μ,S0,ρ,eo,rp,pp.bind.imp λd S1 μ1 H1 l1 r1 p1 v rv=>⟨μ1,S1,d,rv,r1,p1⟩⟩) λu s1 ⟨v,H1,I1,ru,μ1,S1,d,rd,r1,p1⟩=>?_);refine Bz ?_;cases rd with
 | lst ha rds=>
  rename_i a xs ds;unfold w9 at p1;dsimp only at p1;cases e2:B9 ds with
  | none=>rw [e2] at p1;exact p1.elim
  | some ks=>
   rw [e2] at p1;obtain ⟨hz,p1⟩:=Post.guard p1;cases ru;refine kws_cons ?_;obtain ⟨t1,t2,t3⟩:=r1.tb hc3;refine kv I1 rfl rfl S.nofree hc1 hc2 hc4 t3 λf H2 s2 I2 sub2 fr2 hf2 szf kp2 L=>?_;refine kws_nil ?_;have l2:Lat μ1 H1 μ1 H2:=⟨λ_ _ e=>e,λb o e _=>sub2 b o e,λ_ m=>.inl m,rfl⟩;have r2:=r1.keep l2 λb m=>by obtain ⟨w,ew⟩:=r1.tracked m;rw [ew];exact sub2 b w ew
   have rds2:=rds.later l2;have ha2:LstAt μ1 H2 a xs:=⟨sub2 _ _ ha.1,ha.2⟩;have hl:=V7 e2;obtain ⟨its,rv,pl,hsz⟩:=I2.list (ha2.sq);have lv:its.length=ks.length:=by rw [<- rv.length,<- rds.length,hl]
   have bd:∀ i∈sPl ks,i<ds.length:=λi m=>by rw [<- hl];exact ab m
   have fl:f<s2.heap.objs.size:=by obtain ⟨_,_,_,_,_,_,_,z,_⟩:=L.ex;exact Ao z
   have nfs:=(L5 (h:=s2) I1 szf).2.2.2.2.2;refine km (W:=λs'=>L2.Inv X pins σ H2 s'/\LamOk s'.heap H2 f (cm X.K (cl 1000000)) (U3 ap) (O8 u1 u2 u3 n) sc) pl.isList lv.symm (by omega) (λh' kk=>⟨I2.kept kk,?_⟩) (λs' b g ⟨J,L'⟩ hb=>⟨?_,?_⟩) (λi v k0 s' y z hv' hk' ⟨J,L'⟩ hy hz' ⟨oy,ey⟩ ⟨oz,ez⟩=>?_) λs' D c0 hD ⟨J,L'⟩ eD=>?_
   ·obtain ⟨pm,ctv,c',o,vs,t,w,z1,z2⟩:=L.ex;exact ⟨pm,ctv,c',o,vs,t,w,kk _ _ z1,z2⟩
   ·obtain ⟨n1,n2,n3,n4,n5,_⟩:=L5 (h:=s2) I2 hb;exact J.turned (λb' o nb e=>L7 e nb) n1 n3.symm.symm (.inr n2) n4 n5
   ·obtain ⟨pm,ctv,c',o,vs,t,w,z1,z2⟩:=L'.ex;exact ⟨pm,ctv,c',o,vs,t,w,L7 z1 (Ar (AB fl hb)),z2⟩
   ·obtain ⟨b,ys,rfl,hb⟩:=iJ e2 rds2 rv hv' hk';refine AI (ku J L' hf2 nfs S hv hb (hr.in1.in1) rfl) (λr s'' ⟨q1,q2,q3,q4⟩=>⟨q1,⟨q2,q3⟩,?_,?_⟩) λ_ _ z=>z
    ·obtain ⟨n1,_,_,_,_,n6⟩:=L5 (h:=s2) I2 hy;rw [ey];exact q4 y oy ey n1 n6
    ·obtain ⟨n1,_,_,_,_,n6⟩:=L5 (h:=s2) I2 hz';rw [ez];exact q4 z oz ez n1 n6
   ·obtain ⟨n1,n2,n3,n4,n5,_⟩:=L5 (h:=s2) I2 hD;obtain ⟨l,rp2,rd2⟩:=m8 r2 (Q4 rds2 bd) n1;refine ⟨.ref D,_,mP J n1 n2 n3 n4 n5 ?_,rfl,p1 μ1 _ (l2.trans l) rp2 _ rd2⟩;refine ⟨by unfold f8;rw [Ak,K1,AD];omega,f8 .none (sPl ks) its,c0,C5 rv (λi m=>by rw [<- rds.length];exact bd i m),?_⟩;rw [eD];unfold v2 f8;rw [lv]
 | _=>exact False.elim p1
end
def kC (b:Arguments):Bool:=b.posonlyargs.isEmpty&&b.vararg.isNone&&b.kwonlyargs.isEmpty&&b.kw_defaults.isEmpty&&b.kwarg.isNone&&b.defaults.isEmpty&&(match b.args with
 | [a]=>decide (a.arg = "part")&&a.annotation.isNone
 | _=>false)
theorem iS (h:kC as=true):∃ b,as=U3 b:=by
 obtain ⟨i,c,j,e,g,k,d⟩:=as;simp only [kC,Al,List.isEmpty_iff,AE] at h;obtain ⟨⟨⟨⟨⟨⟨rfl,rfl⟩,rfl⟩,rfl⟩,rfl⟩,rfl⟩,h⟩:=h;cases c with
 | nil=>cases h
 | cons a r=>
  cases r with
  | nil=>
   obtain ⟨x,f,b⟩:=a;simp at h;obtain ⟨rfl,rfl⟩:=h;exact ⟨b,rfl⟩
  | cons _ _=>cases h
def kt (e:Expr):Bool:=match e with
 | .Subscript a b _=>(match a with
  | .Name x _=>decide (x = "part")
  | _=>false)&&(match b with
  | .Constant c _ _=>(match c with
   | .int i=>decide (i=0)
   | _=>false)
  | _=>false)
 | _=>false
theorem jm (h:kt e=true):∃ u1 u2 u3 n,e=O8 u1 u2 u3 n:=by
 cases e with
 | Subscript a b u3=>
  simp only [kt,Al] at h;obtain ⟨h1,h2⟩:=h;cases a with
  | Name x u1=>
   obtain rfl:x = "part":=BC h1;cases b with
   | Constant c n u2=>
    cases c with
    | int i=>
     obtain rfl:i=0:=BC h2;exact ⟨u1,u2,u3,n,rfl⟩
    | _=>cases h2
   | _=>cases h2
  | _=>cases h1
 | _=>cases h
def jI (a:Scope):Bool:=Q2 ⟨["part"],["part"],a,[],[]⟩&&decide (a.names.lookup ("part" : Str)=some .local)
def rq (d:List Keyword):Bool:=match d with
 | [k]=>decide (k.arg=some "key")&&(match k.value with
  | .Lambda a b c _=>kC a&&kt b&&jI c
  | _=>false)
 | _=>false
theorem nA (h:rq kw=true):∃ ap u1 u2 u3 n sc lpos kp,kw=[⟨some "key",.Lambda (U3 ap) (O8 u1 u2 u3 n) sc lpos,kp⟩]/\jI sc=true:=by
 cases kw with
 | nil=>cases h
 | cons k r=>
  cases r with
  | cons _ _=>cases h
  | nil=>
   obtain ⟨a,v,kp⟩:=k;simp only [rq,Al,Az] at h;obtain ⟨rfl,h⟩:=h;cases v with
   | Lambda as b sc lpos=>
    simp at h;obtain ⟨⟨h1,h2⟩,h3⟩:=h;obtain ⟨ap,rfl⟩:=iS h1;obtain ⟨u1,u2,u3,n,rfl⟩:=jm h2;exact ⟨ap,u1,u2,u3,n,sc,lpos,kp,rfl,h3⟩
   | _=>cases h
def ni:RuE where
 is Γ lc e:=match e with
  | .Call (.Name x _) [a] m _=>decide (x = "sorted")&&rq m&&(Γ.gl.lookup ("sorted" : Str)).isNone&&glB lc.sc "sorted" && !quiet lc&&b5 a&&lc.fr&&lc.mu.contains ("lam" : Str)
  | _=>false
 run r _ _ lc e ρ:=match e with
  | .Call (.Name _ _) [a] _ _=>bind (r.e lc a ρ) w9
  | _=>bad
 ok {T k r Γ C lc X} e R TX h hi:=by
  split at hi
  ·simp only [Al,Az,AE,BE] at hi;obtain ⟨⟨⟨⟨⟨⟨⟨rfl,i⟩,c⟩,f⟩,p⟩,l⟩,s⟩,g⟩:=hi;obtain ⟨z,v,A,y,n,t,b,u,rfl,hs⟩:=nA i;simp only [jI,Al,Az] at hs;have w:=TX.k3;obtain ⟨j,rfl⟩:∃ j,k=j+3:=⟨k-3,by omega⟩;exact gb (h.gl f) (TX.none h (by decide) c) (by rw [h.K];exact h.code s g) (h.room0 p) (E4 hs.1) hs.2 (R.ex h _) l
  ·cases hi
 runK q _ _ lc e ρ _ k:=match e with
  | .Call (.Name _ _) [a] _ _=>q.e lc a ρ λd=>bind (w9 d) k
  | _=>bad
 eq e ρ _ k h:=by
  split
  ·simp only [h.e,bind_assoc]
  ·first
   | rfl
   | (rename_i o;split;exact (o _ _ _ _ _ rfl).elim;rfl)
def qC (K:PySem.W.Frag) (f P:Addr):Bool:=match L0 K f with
 | some (.ref c)=>PySem.W.codeHdIn K c P
 | _=>false
theorem mJ {K:PySem.W.Frag} {f P:Addr} (h:qC K f P=true):∃ c,L0 K f=some (.ref c)/\PySem.W.codeHdIn K c P=true:=by
 unfold qC at h;grind
theorem ou {K:PySem.W.Frag} {mg mb:Str->Option Value} {CX:CXT} {k:Nat} {fa a tA c:Addr} {fd:FuncData} {x q:Str} {sp:Sp} {s₁:Shared} {vs:List Value} {ns:List Int}
  (KX:K.In s₁.heap) (hns:s₁.heap.Ns mainGlobals mg) (hb:s₁.heap.Ns builtinsNs mb) (hbb:∀ x:Str,x ≠ "__name__"->mb x=bootBuiltins x) (hlim:s₁.heap.NoLimit) (hbm:vg mg s₁.heap) (hg:s₁.gens=#[])
  (ha:s₁.heap.get? a=some { cls:=.type "list",data:=.seq vs.toArray }) (hi:IntsAre vs ns) (hl:ns.length<=sizeLine) (hr:Room false k callerA)
  (ht:s₁.heap.get? tA=some (PySem.W.tabObj #[])) (hC:PySem.W.codeHdIn K c tA=true) (hK:K.lookup tA=none)
  (F:∀ base:Heap,K.In base->base.Ns mainGlobals mg->FnOk P w K mg base CX k fa fd [x] sp) (hbind:∀ (s:Shared) (u:Value),BindsTo s fd ⟨[u],[]⟩ [(x,u)])
  (hsp:∀ H:Hp,H tA=some (.tbl #[.str q 0])->SqL K H a (ns.map V.int)->sp [.ref a] H (λv _=>v=.bl true) λ_ _ _=>False)
  (hCX:∀ H e s',CX [] H s₁ (λ_ _ _=>False) e s'->False) :
  codeAny (model P w) callerA (.call (.ref fa) ⟨[.ref a],[]⟩) (λr s'=>r=.ok (.ret (.bool true))/\OldK s₁.heap s'.heap/\s'.os=s₁.os/\AllBare s'.gens) s₁:=by
 have rv:=L2.vals_ints hi;have nT:a≠tA:=λz=>by rw [z,ht] at ha;cases ha
 obtain ⟨H,hT,hA,hO,hok,hS⟩:∃ H:Hp,H tA=some (.tbl #[.str q 0])/\(∀ b u,H b=some u->b=tA\/b=a/\u=.frz { cls:=.type "list",data:=.seq vs.toArray } (.lst (ns.map V.int))/\K.lookup a=none)/\True/\HOk P w H s₁.heap/\SqL K H a (ns.map V.int):=by
  have tok:∀ H:Hp,ObjOk P w H s₁.heap tA (.tbl #[.str q 0]):=λH=>⟨#[],ht,trivial,λpos cv z=>by cases z⟩;cases hk:K.lookup a with
  | some o=>
   have e:=KX a o hk;rw [ha] at e;cases e;refine ⟨λb=>if b=tA then some (.tbl #[.str q 0]) else none,if_pos rfl,λb u z=>?_,trivial,λb u z=>?_,.inr ⟨_,vs.toArray,_,hk,rfl,rfl,rfl,by rw [An,hi.length];exact hl,by simpa using rv⟩⟩
   ·grind
   ·grind
  | none=>
   refine ⟨λb=>if b=tA then some (.tbl #[.str q 0]) else if b=a then some (.frz { cls:=.type "list",data:=.seq vs.toArray } (.lst (ns.map V.int))) else none,if_pos rfl,λb u z=>?_,trivial,λb u z=>?_,.inl (.inr ⟨_,(if_neg nT).trans (if_pos rfl)⟩)⟩
   ·grind
   ·by_cases hb:b=tA
    ·grind
    ·have z:=(if_neg hb).symm.trans z;by_cases hb2:b=a
     ·have z':=(if_pos hb2).symm.trans z;cases z';subst hb2;exact ⟨ha,by rw [Ak];exact hl,vs,_,rv,ha⟩
     ·grind
 have un_of:∀ {b:Addr} {o:Obj},s₁.heap.get? b=some o->(∀ ps,o.data≠.fields ps)->(∀ xs n,o.data≠.seq xs n)->H b=none:=λ{b o} e h1 h2=>by
  cases z:H b with
  | none=>rfl
  | some u=>
   rcases hA b u z with rfl | ⟨rfl,_⟩
   ·grind
   ·grind
 have nsK:∀ {b:Addr} {m:Str->Option Value},s₁.heap.Ns b m->(bV s₁.heap H).Ns b m:=λ{b m} ⟨o,es,ep,e,d,r⟩=>⟨o,es,ep,T3 e (un_of e (λps z=>by rw [d] at z;cases z) λxs n z=>by rw [d] at z;cases z),d,r⟩;have hKb:K.In (bV s₁.heap H):=λb o e=>T3 (KX b o e) (by
  cases z:H b with
  | none=>rfl
  | some u=>
   rcases hA b u z with rfl | ⟨rfl,_,z2⟩
   ·rw [hK] at e;cases e
   ·rw [z2] at e;cases e)
 have hM:Mod K mg (bV s₁.heap H):=⟨hKb,nsK hns,⟨mb,nsK hb,hbb⟩,let ⟨mc,h1,h2⟩:=hlim;⟨mc,nsK h1,h2⟩,let ⟨bm,ob,h1,h2,h3,h4,h5,h6⟩:=hbm;⟨bm,ob,h1,h2,T3 h3 (un_of h3 (λps z=>by rw [h6] at z;cases z) λxs n z=>by rw [h6] at z;cases z),h4,h5,h6⟩⟩;have e0:Env0 P w K mg (bV s₁.heap H) callerA [] s₁ H:=⟨rfl,hM,λb o e=>oR e,Nat.le_of_eq (gC _ _),trivial,λb hb=>absurd (show b∈([]:List Addr) from hb) (by simp),hok,.of_eq hg⟩;refine BX ((F _ hKb (nsK hns)).run callerA [] s₁ H ⟨[.ref a],[]⟩ [.ref a] [.ref a] _ _ hr.any e0 (hbind s₁ (.ref a)) (.cons rfl .nil) (hsp H hT hS)) λr s' h=>?_;cases r with
 | error e=>exact (hCX H e s' h).elim
 | ok fl=>
  cases fl with
  | next=>exact False.elim h
  | brk=>exact False.elim h
  | cont=>exact False.elim h
  | ret u=>
   obtain ⟨v,H',os,bare,un,hok',r',q'⟩:=h;have q2:=q';subst q2;obtain rfl:u=Value.bool true:=r';refine ⟨rfl,⟨λb o e=>?_,λb o e=>un.there b o e (by simp)⟩,os,bare⟩;cases z:H b with
   | none=>exact .inl (un.keep b o e z (by intro y;exact absurd (show b∈([]:List Addr) from y) (by simp)) (by simp))
   | some u=>
    rcases hA b u z with rfl | ⟨rfl,rfl,_⟩
    ·rw [hT] at z;obtain ⟨more,z2⟩:=un.tbls _ _ hT;obtain ⟨tb,e2,_⟩:=hok' _ _ z2;rw [ht] at e;cases e;obtain ⟨o,vs',file,tf,flags,tg,inF,text,tt,g1,g2,g3,g4,_⟩:=PySem.W.codeHd_of_K KX hC;exact .inr (.inl ⟨⟨c,o,vs',g1,g2,g3,g4⟩,rfl,#[],tb,rfl,by rw [e2];simp⟩)
    ·have z2:=un.frzs _ _ _ z;obtain ⟨e1,_⟩:=hok _ _ z;obtain ⟨e2,_⟩:=hok' _ _ z2;rw [e] at e1;cases e1;exact .inl e2
theorem walk_tab {l:PySem.W.OpenLaw} {n k:Nat} {q:Program} {g:List Str} {R:(Str->Option Value)->Heap->Prop} {C:World->Heap->Prop} {d:DefRec} {K:Params->PySem.W.Frag} {p:Addr} {x:Str}
  (M:l.most=some n) (A:n<=sizeLine) (B:d.params.defaults=[]) (S:Room false k callerA)
  (L:∀ (w:World) (h:Heap),C w h->(K w.params).In h/\h.get? p=some (PySem.W.tabObj #[]))
  (F:∀ (w:World) (j:Str->Option Value) (v:Addr) (h:Heap),(K w.params).In h->h.Ns mainGlobals j->j d.name=some (.ref v) ->
   ∃ (fd:FuncData) (c:Addr) (cl:Nat->Addr),PySem.W.codeHdIn (K w.params) c p=true/\(K w.params).lookup p=none/\cl 1000000=p/\(∀ (s:Shared) (u:Value),BindsTo s fd ⟨[u],[]⟩ [(x,u)]) /\
    ∀ b:Heap,(K w.params).In b->b.Ns mainGlobals j->FnOk l.prog w (K w.params) j b CX0 k v fd [x] (ay (K w.params) cl)) :
  PySem.W.WalkO q g R C l.row.toRowW d [] (λf vs=>PySem.call f vs):=by
 refine Att.attach_call M B λw I E j Z v o pm cd Q a vs ns G Y ho hd X y m i r P=>?_;obtain ⟨D,N⟩:=L w _ Y;obtain ⟨fd,c,cl,T,J,t,O,U⟩:=F w j v _ D G.T.g y;refine ou (q:=cm (K w.params) p) D G.T.g G.T.b G.T.builtins G.T.nolimit G.T.bmain P m i (Bk r A) S N T J U O (λH W V=>⟨⟨a,ns,rfl,V,λ_=>rfl⟩,λ_=>?_⟩) λH e s' z=>z;rw [t];exact ⟨by simp,by simp,by unfold tbO;rw [t];exact W⟩
section
variable {X:Cx} {cl:Nat->Addr} {xe:Addr->Hp->Prop}
def ext2D (x:D) (ds:List D):M D:=match x,ds with
 | .ref n,[.ref q]=>λS=>match S[q]? with
  | some (.lst ys)=>(match S[n]? with
   | some (.lst es)=>if es.length+ys.length<=sizeLine then .ok .non (S.set n (.lst (es++ys))) else .bad
   | _=>.bad)
  | _=>.bad
 | x,ds=>extD x ds
theorem gJ:mQ X.K cl xe (λx vs H Q=>∃ l b xs zs,x=.ref l/\vs=[.ref b]/\H l=some (.lst xs)/\(SqL X.K H b zs\/SqT X.K H b zs)/\xs.length+zs.length<=sizeLine/\Q .non (upd H l (.lst (xs++zs)))) ext2D:=λμ S H x v ds vs Q rx rvs rp p=>by
 unfold ext2D at p;split at p
 ·rename_i n q;cases rvs with
  | cons h t=>
   cases t;cases rx with
   | ref e=>
    cases h with
    | ref e2=>
     rename_i a b;cases q2:S[q]? with
     | none=>rw [q2] at p;exact p.elim
     | some o2=>
      rw [q2] at p;cases o2 with
      | dct _=>exact p.elim
      | exc _ _=>exact p.elim
      | lst ys=>
       obtain ⟨zs,g1,g2⟩:=rp.ats q _ b q2 e2;cases q1:S[n]? with
       | none=>rw [q1] at p;exact p.elim
       | some o=>
        rw [q1] at p;cases o with
        | dct _=>exact p.elim
        | exc _ _=>exact p.elim
        | lst es=>
         obtain ⟨xs,h1,h2⟩:=rp.ats n _ a q1 e;dsimp only at p;by_cases hz:es.length+ys.length<=sizeLine
         ·rw [if_pos hz] at p;have ml:=AS e;refine ⟨a,b,xs,zs,rfl,rfl,h1,.inl (.inl (.inl g1)),by rw [<- h2.length,<- g2.length];exact hz,?_⟩;have la:Lat μ H μ (upd H a (.lst (xs++zs))):=Lat.wrote ml;exact p μ _ la (rp.wrote e ⟨_,b6,(h2.append g2).later la⟩) _ .non
         ·rw [if_neg hz] at p;exact p.elim
 ·exact bR μ S H x v ds vs Q rx rvs rp p
end
def ie:RuE:=rMt "extend" lstOf ext2D λ_ f d c b e a=>aD Bw Ef Eg W4 A1 gJ f d c b e a
section
variable {X:Cx} {cl:Nat->Addr} {xe:Addr->Hp->Prop} {a:Expr} {f:Env->M D}
theorem mo:MtR X "list.reverse" (λx vs H Q=>∃ l xs,x=.ref l/\vs=[]/\H l=some (.lst xs)/\Q .non (upd H l (.lst xs.reverse))):=by
 intro pins s σ H x vs v us Q I rx rv h;obtain ⟨l,xs,rfl,rfl,hH,q⟩:=h;cases rx;cases rv;obtain ⟨z,its,n,r,hl,e⟩:=I.lstM hH;refine Ca DU ⟨_,e,rfl⟩ PySem.F.entry_list_reverse (PySem.F.args_list_reverse_1 _) (PySem.AutoSeq1.list_reverse_list_0 l its.toArray n (by rw [An,<- r.length];exact z)) ⟨e,?_⟩;exact ⟨.non,_,I.lset (its':=its.reverse) hH e (by simp) r.reverse (by rw [DA];exact z),rfl,q⟩
def wrD (g:List D->List D) (x:D):M D:=bind (lstOf x) λes=>match x with
 | .ref n=>λS=>.ok .non (S.set n (.lst (g es)))
 | _=>bad
theorem vn {g:List D->List D} {gv:List V->List V} (hg:∀ {μ:Mp} {H:Hp} {ds:List D} {xs:List V},RDs X.K μ H ds xs->RDs X.K μ H (g ds) (gv xs)) {μ:Mp} {S:Sto} {H:Hp} {x:D} {v:V} {Q:V->Hp->Prop} (rx:RD X.K μ H x v) (rp:Rep X.K cl μ S H) (p:Post X.K cl xe μ H (wrD g x S) λd _ μ' H'=>∀ w,RD X.K μ' H' d w->Q w H'):∃ l xs,v=.ref l/\H l=some (.lst xs)/\Q .non (upd H l (.lst (gv xs))):=by
 unfold wrD at p;obtain ⟨l,xs,ds,rfl,h1,h2,e2⟩:=j4 rx rp p.bind;have p:=p.ok_bind e2;cases rx with
 | ref e=>
  have ml:l∈μ.pl:=AS e;have la:Lat μ H μ (upd H l (.lst (gv xs))):=Lat.wrote ml;exact ⟨l,xs,rfl,h1,p μ _ la (rp.wrote e ⟨_,b6,(hg h2).later la⟩) _ .non⟩
 | _=>exact p.elim
theorem lu {apos cpos:Pos} (ho:PE X a (tD X.K cl xe f)) (hb:j7 a=true) (hl:(apos.endLine==cpos.line)=true):PE X (.Call (.Attribute a "reverse" apos) [] [] cpos) (tD X.K cl xe λρ=>bind (f ρ) (wrD List.reverse)):=by
 refine PE.imp (tM Bw DU PySem.F.type_list_reverse mo ho (Q6 hb) hl) λσ H Q ⟨μ,S,ρ,eo,rp,p⟩=>⟨μ,S,ρ,eo,rp,p.bind.imp λx S1 μ1 H1 l1 r1 p1 xv rx=>?_⟩;obtain ⟨ty,_,ea⟩:=A1 μ1 S1 H1 x xv _ rx r1 p1.bind;obtain ⟨l,xs,rfl,h1,h2⟩:=vn (gv:=List.reverse) (λh=>h.reverse) rx r1 p1;exact ⟨ty,l,xs,rfl,rfl,h1,h2⟩
end
def rM0 (m:Str) (op:D->M D) (ok:∀ {T:Tx} {k:Nat} {lc:Lc} {X:Cx} {xe:Addr->Hp->Prop} {o:Expr} {apos cpos:Pos} {f:Env->M D},CxOk T k lc X->PE X o (tD X.K T.cl xe f)->j7 o=true->(apos.endLine==cpos.line)=true->PE X (.Call (.Attribute o m apos) [] [] cpos) (tD X.K T.cl xe λρ=>bind (f ρ) op)):RuE where
 is _ _ e:=match e with
  | .Call (.Attribute o n apos) [] [] cpos=>decide (n=m)&&j7 o&&(apos.endLine==cpos.line)
  | _=>false
 run r _ _ lc e ρ:=match e with
  | .Call (.Attribute o _ _) [] [] _=>bind (r.e lc o ρ) op
  | _=>bad
 ok {T k r Γ C lc X} e R TX h hi:=by
  split at hi
  ·simp only [Al,Az] at hi;obtain ⟨⟨rfl,h1⟩,h2⟩:=hi;exact ok h (R.ex h _) h1 h2
  ·cases hi
 runK q _ _ lc e ρ _ k:=match e with
  | .Call (.Attribute o _ _) [] [] _=>q.e lc o ρ λx=>bind (op x) k
  | _=>bad
 eq e ρ _ k h:=by
  split
  ·simp only [h.e,bind_assoc]
  ·first
   | rfl
   | (rename_i hn;split;exact (hn _ _ _ _ rfl).elim;rfl)
def iW:RuE:=rM0 "reverse" (wrD List.reverse) λ_ ho hb hl=>lu ho hb hl
theorem xB {g:List D->List D} {S:Sto} {n:Nat} {es:List D} (e:S[n]?=some (.lst es)):wrD g (.ref n) S=.ok .non (S.set n (.lst (g es))):=by
 unfold wrD;simp only [bind,lstOf,e]
theorem lW (src:Src) (t:Env->M Bool) (fi1:Env->M (Src×Nat)) (t1:Env->M Bool) (f:Env->M D) (cap:Env) (m i:Nat) (es:List D) (S:Sto):bind (c9 src t fi1 t1 f cap (m+1) i es) newL S=(match src i S with
  | none=>.bad
  | some none=>newL es S
  | some (some d)=>bind (t (some d :: none :: cap)) (λb=>if b=true then bind (fi1 (some d :: none :: cap)) (λsm=>bind (d8 sm.1 t1 f (λd2=>some d :: some d2 :: cap) sm.2 0 es) (λes'=>bind (c9 src t fi1 t1 f cap m (i+1) es') newL)) else bind (c9 src t fi1 t1 f cap m (i+1) es) newL) S):=by
 cases h:src i S with
 | none=>exact (Z8 (m':=bad) (by simp only [c9,h];rfl)).trans rfl
 | some o=>
  cases o with
  | none=>exact (Z8 (m':=ret es) (by simp only [c9,h];rfl)).trans rfl
  | some d=>
   refine (Z8 (m':=bind (t (some d :: none :: cap)) (λb=>if b=true then bind (fi1 (some d :: none :: cap)) (λsm=>bind (d8 sm.1 t1 f (λd2=>some d :: some d2 :: cap) sm.2 0 es) (λes'=>c9 src t fi1 t1 f cap m (i+1) es')) else c9 src t fi1 t1 f cap m (i+1) es)) (by simp only [c9,h])).trans ?_;rw [O4];show bind (t (some d :: none :: cap)) _ S=bind (t (some d :: none :: cap)) _ S;congr 1;congr 1;funext b;cases b with
   | true=>
    rw [if_pos rfl,if_pos rfl,O4];congr 1;funext sm;rw [O4]
   | false=>rfl
theorem au {K:PySem.W.Frag} {cl:Nat->Addr} {xe:Addr->Hp->Prop} {caps:List Nat} {fi fi1:Env->M (Src×Nat)} {t t1:Env->M Bool} {f:Env->M D} {σ:L2.St} {H:Hp} {μ:Mp} {S:Sto} {ρ:Env} {Q:VK} (eo:EnvOk K μ H ρ σ) (rp:Rep K cl μ S H)
  (p:Post K cl xe μ H (bind (N9 caps fi t fi1 t1 f ρ) newL S) λd _ μ' H'=>∀ v,RD K μ' H' d v->Q v H'):dj caps (tIt K cl xe fi) (tBo K cl xe t) (tIt K cl xe fi1) (tBo K cl xe t1) (tD K cl xe f) σ H Q:=by
 unfold N9 at p;rw [O4] at p;refine ⟨μ,S,ρ,eo,rp,p.bind.imp λsm S1 μ1 H1 l1 r1 p1 J yl acc hacc=>?_⟩;obtain ⟨src,m0⟩:=sm;have nrs:acc∉μ1.rs:=r1.notrs hacc;refine ⟨λi m ys H2=>∃ μ2 S2 es,HLat μ1 H1 acc μ2 H2/\acc∉μ2.pl/\H2 acc=some (.lst ys)/\EnvOk K μ2 H2 ρ σ/\Rep K cl μ2 S2 H2/\RDs K μ2 H2 es ys/\Post K cl xe μ1 H1 (bind (c9 src t fi1 t1 f (d7 caps ρ) m i es) newL S2) (λd _ μ' H'=>∀ v,RD K μ' H' d v->Q v H'),⟨m0,μ1.hold acc,S1,[],?_,r1.notin hacc,b6,R7 r1 hacc (eo.later l1),Q8 r1 hacc,.nil,p1⟩,?_⟩
 ·refine ⟨⟨λ_ _ e=>e,λa o e _=>by rw [b1 (b3 e hacc)];exact e,λa m=>.inl m,λa m=>?_⟩,rfl⟩;rcases AA.mp (show a∈acc :: μ1.rs from m) with rfl | m
  ·exact .inr hacc
  ·exact .inl m
 rintro i m ys H2 ⟨μ2,S2,es,hl,npl,e2,eo2,r2,rds2,p2⟩;refine ⟨e2,?_⟩;cases m with
 | zero=>exact p2.elim
 | succ m=>
  have y:P2 K cl J i μ2 H2 S2 (src i S2):=yl i μ2 H2 S2 hl.r.u r2;rw [lW] at p2;cases e1:src i S2 with
  | none=>rw [e1] at p2;exact p2.elim
  | some o=>
   rw [e1] at p2 y;cases o with
   | none=>
    refine .inl ⟨y,?_⟩;simp only [newL] at p2;by_cases hz:es.length<=sizeLine
    ·rw [if_pos hz] at p2;have er:μ2.rs=acc :: μ1.rs:=hl.rs;have mv:RDs K ⟨μ2.pl++[acc],μ1.rs⟩ H2 es ys:=rds2.move (λn a e=>by
      show (μ2.pl++[acc])[n]?=some a;rw [Aq (As.mp e).1];exact e) λa u e n1 n2=>⟨e,λz=>by
       rcases Bn.mp z with z | z
       ·exact n1 z
       ·exact n2 (by rw [er,AU.mp z];exact Av),λz=>n2 (by rw [er];exact AC _ z)⟩
     have rp':=ce (u:=.lst ys) (ob:=.lst es) er nrs e2 r2 ⟨ys,b6,by rw [cQ e2];exact mv⟩;rw [cQ e2] at rp';refine p2 ⟨μ2.pl++[acc],μ1.rs⟩ H2 ⟨λn a e=>?_,λa o e n=>hl.r.oth a o e n,λa ma=>?_,rfl⟩ rp' _ (.ref ?_)
     ·have e':=hl.r.pre n a e;show (μ2.pl++[acc])[n]?=some a;rw [Aq (As.mp e').1];exact e'
     ·rcases Bn.mp ma with z | z
      ·exact hl.r.new a z
      ·rw [AU.mp z];exact .inr hacc
     ·show (μ2.pl++[acc])[S2.length]?=some acc;rw [<- r2.len];simp
    ·rw [if_neg hz] at p2;exact p2.elim
   | some d=>
    obtain ⟨y1,y2⟩:=y;refine .inr ⟨y1,λx H3 hy=>?_⟩;obtain ⟨l3,r3,rd3⟩:=y2 x H3 hy;have h3:=hl.step l3;refine ⟨μ2,S2,_,fB (eo2.later l3) rd3,r3,(Post.at p2 h3).imp λb S5 μ5 H5 l5 r5 p5=>?_⟩;have h5:=h3.step l5;have l35:=l3.trans l5;have a5:H5 acc=some (.lst ys):=l35.oth _ _ e2 npl;have n5:acc∉μ5.pl:=l35.out e2 npl;cases b with
    | false=>exact ⟨m,AF _,μ5,S5,es,h5,n5,a5,eo2.later l35,r5,rds2.later l35,p5⟩
    | true=>
     refine iH ?_;rw [if_pos rfl] at p5;refine ⟨μ5,S5,_,(fB (eo2.later l3) rd3).later l5,r5,(Post.at p5 h5).imp λsm S6 μ6 H6 l6 r6 p6 J1 yl1=>?_⟩;obtain ⟨G5,m1⟩:=sm;have h6:=h5.step l6;have l36:=l35.trans l6;have a6:H6 acc=some (.lst ys):=l6.oth _ _ a5 n5;have n6:acc∉μ6.pl:=l6.out a5 n5;refine ⟨λj m1 zs H7=>∃ μ7 S7 es7,HLat μ1 H1 acc μ7 H7/\LatU μ6 H6 μ7 H7/\acc∉μ7.pl/\H7 acc=some (.lst zs)/\EnvOk K μ7 H7 ρ σ/\Rep K cl μ7 S7 H7/\RDs K μ7 H7 es7 zs/\RD K μ7 H7 d x /\
      Post K cl xe μ1 H1 (bind (d8 G5 t1 f (λd2=>some d :: some d2 :: d7 caps ρ) m1 j es7) (λes'=>bind (c9 src t fi1 t1 f (d7 caps ρ) m (i+1) es') newL) S7) (λd _ μ' H'=>∀ v,RD K μ' H' d v->Q v H'),
      ⟨m1,μ6,S6,es,h6,(Lat.refl _ _).r.u,n6,a6,eo2.later l36,r6,rds2.later l36,(rd3.later l5).later l6,p6⟩,?_⟩
     rintro j m1 zs H7 ⟨μ7,S7,es7,h7,u7,n7,a7,eo7,r7,rds7,rd7,p7⟩;refine ⟨a7,?_⟩;cases m1 with
     | zero=>exact p7.elim
     | succ m1=>
      have z:P2 K cl J1 j μ7 H7 S7 (G5 j S7):=yl1 j μ7 H7 S7 u7 r7;cases f1:G5 j S7 with
      | none=>
       have:bind (d8 G5 t1 f (λd2=>some d :: some d2 :: d7 caps ρ) (m1+1) j es7) (λes'=>bind (c9 src t fi1 t1 f (d7 caps ρ) m (i+1) es') newL) S7=.bad:=by
        unfold bind;simp only [d8,f1]
       rw [this] at p7;exact p7.elim
      | some o=>
       rw [f1] at z;cases o with
       | none=>
        have:bind (d8 G5 t1 f (λd2=>some d :: some d2 :: d7 caps ρ) (m1+1) j es7) (λes'=>bind (c9 src t fi1 t1 f (d7 caps ρ) m (i+1) es') newL) S7=bind (c9 src t fi1 t1 f (d7 caps ρ) m (i+1) es7) newL S7:=by
         refine (Z8 (m':=ret es7) (by simp only [d8,f1];rfl)).trans ?_;rfl
        rw [this] at p7;exact .inl ⟨z,m,AF _,μ7,S7,es7,h7,n7,a7,eo7,r7,rds7,p7⟩
       | some d2=>
        have un:bind (d8 G5 t1 f (λd2=>some d :: some d2 :: d7 caps ρ) (m1+1) j es7) (λes'=>bind (c9 src t fi1 t1 f (d7 caps ρ) m (i+1) es') newL) S7 =
          bind (t1 (some d :: some d2 :: d7 caps ρ)) (λb=>bind (if b=true then bind (f (some d :: some d2 :: d7 caps ρ)) (λy=>if es7.length<sizeLine then d8 G5 t1 f (λd2=>some d :: some d2 :: d7 caps ρ) m1 (j+1) (es7++[y]) else bad) else d8 G5 t1 f (λd2=>some d :: some d2 :: d7 caps ρ) m1 (j+1) es7) (λes'=>bind (c9 src t fi1 t1 f (d7 caps ρ) m (i+1) es') newL)) S7:=by
         refine Eq.trans ?_ (congrFun (O4 (t1 (some d :: some d2 :: d7 caps ρ)) (λb=>if b=true then bind (f (some d :: some d2 :: d7 caps ρ)) (λy=>if es7.length<sizeLine then d8 G5 t1 f (λd2=>some d :: some d2 :: d7 caps ρ) m1 (j+1) (es7++[y]) else bad) else d8 G5 t1 f (λd2=>some d :: some d2 :: d7 caps ρ) m1 (j+1) es7) _) S7);exact Z8 (by simp only [d8,f1])
        rw [un] at p7;obtain ⟨z1,z2⟩:=z;refine .inr ⟨z1,λyv H8 hy2=>?_⟩;obtain ⟨l8,r8,rd8⟩:=z2 yv H8 hy2;have h8:=h7.step l8;have rdx:=rd7.later l8;refine ⟨μ7,S7,_,eK (eo7.later l8) rdx rd8,r8,(Post.at p7 h8).imp λb2 S9 μ9 H9 l9 r9 p9=>?_⟩;have h9:=h8.step l9;have l89:=l8.trans l9;have a9:H9 acc=some (.lst zs):=l89.oth _ _ a7 n7;have n9:acc∉μ9.pl:=l89.out a7 n7;have ustep:∀ {μx:Mp} {Hx:Hp},Lat μ7 H7 μx Hx->LatU μ6 H6 μx Hx:=λ{μx Hx} l=>by
         refine ⟨λn a e=>l.pre n a (u7.pre n a e),λa o e n1 n2=>?_,λa mm=>?_,λa mm=>?_⟩
         ·obtain ⟨q1,q2,q3⟩:=u7.out a o e n1 n2;exact l.oth a o q1 q2
         ·rcases l.new a mm with q | q
          ·exact u7.new a q
          ·by_cases n1:a∈μ6.pl
           ·exact .inl n1
           ·by_cases n2:a∈μ6.rs
            ·exfalso;obtain ⟨_,w,hw⟩:=r7.res a (by rw [h7.rs,<- h6.rs];exact n2);rw [hw] at q;cases q
            ·right
             cases e:H6 a with
             | none=>rfl
             | some o=>rw [(u7.out a o e n1 n2).1] at q;cases q
         ·exact u7.rsw a (by rw [<- l.rsv];exact mm)
        cases b2 with
        | false=>exact ⟨m1,AF _,μ9,S9,es7,h9,ustep l89,n9,a9,eo7.later l89,r9,rds7.later l89,rd7.later l89,p9⟩
        | true=>
         refine iH ?_;rw [if_pos rfl] at p9;rw [O4] at p9;refine ⟨μ9,S9,_,(eK (eo7.later l8) rdx rd8).later l9,r9,(Post.at p9 h9).imp λyy S10 μ10 H10 l10 r10 p10 v rv=>?_⟩;have h10:=h9.step l10;have l810:=l89.trans l10;have a10:H10 acc=some (.lst zs):=l10.oth _ _ a9 n9;have n10:acc∉μ10.pl:=l10.out a9 n9;by_cases hz:es7.length<sizeLine
         ·rw [if_pos hz] at p10;have er:μ10.rs=acc :: μ1.rs:=h10.rs;have u10:=ustep l810;refine ⟨a10,by rw [<- rds7.length];exact hz,m1,AF _,μ10,S10,es7++[yy],?_,?_,n10,b6,?_,N1 er a10 r10,N3 er ((rds7.later l810).append (.cons rv .nil)),B8 er (rd7.later l810),p10⟩
          ·refine ⟨⟨h10.r.pre,λa o e n=>?_,h10.r.new,h10.r.rsw⟩,er⟩;rw [b1 (b3 e hacc)];exact h10.r.oth a o e n
          ·refine ⟨u10.pre,λa o e n1 n2=>?_,u10.new,u10.rsw⟩;have:a≠acc:=λq=>n2 (by rw [h6.rs,q];exact Av ..);rw [b1 this];exact u10.oth a o e n1 n2
          ·have eo6:=eo7.later l810;exact ⟨eo6.1,λj e he=>let ⟨w,q,r⟩:=eo6.2 j e he;⟨w,q,B8 er r⟩⟩
         ·rw [if_neg hz] at p10;exact p10.elim
theorem fu {T:Tx} {k:Nat} {r:Ev} {lc:Lc} {X:Cx} (R:EvOk T k r) (h:CxOk T k lc X) {elt:Expr} {x y:Str} {px py pos:Pos} {iter iter2:Expr} {ifs ifs2:List Expr} {scope:Scope} (hc:v5 lc scope [x,y]=true) (hn:j9 iter=true) (hn2:j9 iter2=true) :
  PE X (.ListComp elt [⟨.Name x px,iter,ifs,0⟩,⟨.Name y py,iter2,ifs2,0⟩] scope pos) (tD X.K T.cl (xOf X) λρ=>bind (B5 r lc elt x y px py iter iter2 ifs ifs2 scope ρ) newL):=by
 unfold B5;cases hm:e8 (i3 lc.N) (k4 scope) with
 | none=>exact PE.imp (i7 (cl:=T.cl) (xe:=xOf X)) λσ H Q ⟨μ,S,ρ,eo,rp,p⟩=>p.bind.elim
 | some caps=>
  obtain ⟨t1,t2,t3,t4,t5⟩:=C3 h hc hm;have e1:∀ pins C fp s H,PTL (b4 X pins ([x,y]++k4 scope) scope C fp s H) ifs (tBo X.K T.cl x0 (testsE r (f5 lc scope [x,y]) ifs)):=λpins C fp s H=>PTL.x0 (tests_ok (ifs:=ifs) R (k9 h t4 t5 t2 pins C fp s H));have e2:∀ pins C fp s H,PI (b4 X pins ([x,y]++k4 scope) scope C fp s H) (.Name y py) iter2 (tIt X.K T.cl x0 (r.i (f5 lc scope [x,y]) (.Name y py) iter2)):=λpins C fp s H=>PI.x0 (R.ix (k9 h t4 t5 t2 pins C fp s H) (.Name y py) iter2);have e3:∀ pins C fp s H,PTL (b4 X pins ([x,y]++k4 scope) scope C fp s H) ifs2 (tBo X.K T.cl x0 (testsE r (f5 lc scope [x,y]) ifs2)):=λpins C fp s H=>PTL.x0 (tests_ok (ifs:=ifs2) R (k9 h t4 t5 t2 pins C fp s H));have e4:∀ pins C fp s H,PE (b4 X pins ([x,y]++k4 scope) scope C fp s H) elt (tD X.K T.cl x0 (r.e (f5 lc scope [x,y]) elt)):=λpins C fp s H=>PE.x0 (R.ex (k9 h t4 t5 t2 pins C fp s H) elt);refine PE.imp (cV t1 (h.calm t4) t2 rfl rfl (t3 x (by simp)) (t3 y (by simp)) (PI.x0 (R.ix h _ _)) e1 e2 e3 e4 (s0 hn) (λ_=>s0 hn2)) λσ H Q ⟨μ,S,ρ,eo,rp,p⟩=>?_;dsimp only at p;rw [mL] at p;exact au eo rp p.nx
def sW:RuS where
 is _ lc e:=match e with
  | .Return (some (.ListComp _ [⟨.Name x _,iter,_,0⟩,⟨.Name y _,iter2,_,0⟩] scope _)) _=>decide (("return" : Str)∈lc.mu)&&(v5 lc scope [x,y]&&j9 iter&&j9 iter2)
  | _=>false
 run r _ _ lc e ρ:=match e with
  | .Return (some (.ListComp elt [⟨.Name x px,iter,ifs,0⟩,⟨.Name y py,iter2,ifs2,0⟩] scope _)) _=>bind (bind (B5 r lc elt x y px py iter iter2 ifs ifs2 scope ρ) newL) λd=>ret (.rt d)
  | _=>bad
 ok e R TX h hf hi:=by
  split at hi
  ·rw [Al,Al,Al] at hi;exact aF (fu R h hi.2.1.1 hi.2.1.2 hi.2.2)
  ·cases hi
 runK q _ _ lc e ρ _ k:=match e with
  | .Return (some (.ListComp elt [⟨.Name x px,iter,ifs,0⟩,⟨.Name y py,iter2,ifs2,0⟩] scope _)) _=>aa q lc elt x y px py iter iter2 ifs ifs2 scope ρ λds=>bind (newL ds) λd=>k (.rt d)
  | _=>bad
 eq e ρ _ k h:=by
  split
  ·simp only [bq h,bind_assoc,i8]
  ·first
   | rfl
   | (rename_i hn;split;exact (hn _ _ _ _ _ _ _ _ _ _ _ _ rfl).elim;rfl)
inductive Tr where
 | int (i:Int) | tup (l:List Tr)
def iT (a b:Int):Ordering:=if a<b then .lt else if a=b then .eq else .gt
mutual
noncomputable def O2:Tr->Tr->Option Ordering
 | .int a,.int b=>some (iT a b)
 | .tup a,.tup b=>W2 a b
 | .int _,.tup _=>none
 | .tup _,.int _=>none
noncomputable def W2:List Tr->List Tr->Option Ordering
 | [],[]=>some .eq
 | [],_ :: _=>some .lt
 | _ :: _,[]=>some .gt
 | x :: xs,y :: ys=>match O2 x y with
  | some .eq=>W2 xs ys
  | r=>r
end
mutual
noncomputable def dpT:Tr->Nat
 | .int _=>0
 | .tup l=>dpL l+2
noncomputable def dpL:List Tr->Nat
 | []=>0
 | x :: xs=>max (dpT x) (dpL xs)
end
mutual
inductive TrAt (h:Heap):Tr->Value->Prop where
 | int (i:Int) (t:Tok):TrAt h (.int i) (.int i t)
 | tup {a:Addr} {o:Obj} {xs:Array Value} {n:Nat} {l:List Tr}:h.get? a=some o->o.cls=.type "tuple"->o.data=.seq xs n->TrsAt h l xs.toList->TrAt h (.tup l) (.ref a)
inductive TrsAt (h:Heap):List Tr->List Value->Prop where
 | nil:TrsAt h [] []
 | cons {x:Tr} {v:Value} {xs:List Tr} {vs:List Value}:TrAt h x v->TrsAt h xs vs->TrsAt h (x :: xs) (v :: vs)
end
mutual
theorem TrAt.kp {h h':Heap} (e:∀ b o,h.get? b=some o->h'.get? b=some o):∀ {x:Tr} {v:Value},TrAt h x v->TrAt h' x v
 | _,_,.int i t=>.int i t
 | _,_,.tup a b c d=>.tup (e _ _ a) b c (TrsAt.kp e d)
theorem TrsAt.kp {h h':Heap} (e:∀ b o,h.get? b=some o->h'.get? b=some o):∀ {x:List Tr} {v:List Value},TrsAt h x v->TrsAt h' x v
 | _,_,.nil=>.nil
 | _,_,.cons a b=>.cons (TrAt.kp e a) (TrsAt.kp e b)
end
section
variable {prog:Program} {w:World} {s:Shared}
def gK (prog:Program) (w:World) (s:Shared) (x:Tr) (u:Value):Prop:=∀ {q:Tr} {v:Value},TrAt s.heap q v->∀ {o:Ordering} {A:Around} {E:Value->Shared->Prop} {Q:Bool->Shared->Prop},O2 x q=some o->A.units+dpT x<cLine->Q (o==.eq) s->wpAny (model prog w) A (eqBool u v) Q E s
theorem TrsAt.len {h:Heap}:∀ {l:List Tr} {vs:List Value},TrsAt h l vs->l.length=vs.length
 | _,_,.nil=>rfl
 | _,_,.cons _ t=>by simp [TrsAt.len t]
theorem aq {x y:Tr} {xs ys:List Tr} {o:Ordering} (h:W2 (x :: xs) (y :: ys)=some o):(O2 x y=some .eq/\W2 xs ys=some o)\/(O2 x y=some o/\o≠.eq):=by
 unfold W2 at h;cases e:O2 x y with
 | none=>rw [e] at h;cases h
 | some r=>
  rw [e] at h;cases r with
  | eq=>exact .inl ⟨rfl,h⟩
  | lt=>cases h;exact .inr ⟨rfl,by decide⟩
  | gt=>cases h;exact .inr ⟨rfl,by decide⟩
theorem dN {l m:List Tr} {a b:Addr} {oa ob:Obj} {xs ys:Array Value} {na nb:Nat} {o:Ordering} {A:Around} {E:Value->Shared->Prop} {P:PySem.Fin->Shared->Prop} (ha:s.heap.get? a=some oa) (hb:s.heap.get? b=some ob) (cb:ob.cls=.type "tuple") (da:oa.data=.seq xs na) (db:ob.data=.seq ys nb)
  (hx:Paired (gK prog w s) l xs.toList) (hy:TrsAt s.heap m ys.toList) (hc:W2 l m=some o) (hu:A.units+dpL l<cLine) (h:P (.done (.ret (.bool (o==.eq)))) s) :
  wpAny (model prog w) A (Builtin.«tuple.__eq__» ⟨[.ref a,.ref b],[]⟩) P E s:=by
 show wpAny _ _ (isInstance (.ref b) (.type "tuple") >>= _) _ _ s;refine Ag (CC ⟨ob,hb,cb⟩ isSubtype_tuple_tuple ?_);simp only [Dm,BJ,EE];refine Ag (CP ha da ?_);refine Ag (CP hb db ?_);refine Ag ?_;refine wpAny_forIn_list _
  (λrest r s'=>r.1=none/\s'=s/\∃ l' m' xs' ys',rest=List.zip xs' ys'/\Paired (gK prog w s) l' xs'/\TrsAt s.heap m' ys'/\W2 l' m'=some o/\dpL l'<=dpL l/\xs'.length+ys.size=ys'.length+xs.size)
  _ ?_ ?_ _ _ ⟨rfl,rfl,l,m,xs.toList,ys.toList,rfl,hx,hy,hc,Ap _,by simp;omega⟩
 ·rintro ⟨u,v⟩ rest r s' ⟨hr,rfl,l',m',xs',ys',hz,hx',hy',hcc,hd,hlen⟩;cases hx' with
  | nil=>simp at hz
  | @cons k1 u' x'' xs'' h1 hx''=>
   cases hy' with
   | nil=>simp at hz
   | @cons k2 v' y'' ys'' h2 hy''=>
    simp only [List.zip_cons_cons,List.cons.injEq,EJ] at hz;obtain ⟨⟨rfl,rfl⟩,rfl⟩:=hz;have dd:dpL (k1 :: x'')=max (dpT k1) (dpL x''):=rfl;simp only [Bg] at hlen;rcases aq hcc with ⟨c1,c2⟩ | ⟨c1,c2⟩
    ·refine Ag (h1 h2 c1 (by omega) ?_);simp only [beq_self_eq_true,Dm,BJ,EE];exact Ah ⟨rfl,rfl,x'',y'',xs'',ys'',rfl,hx'',hy'',c2,by omega,by omega⟩
    ·refine Ag (h1 h2 c1 (by omega) ?_);have e:(o==.eq)=false:=by cases o <;> first | rfl | exact absurd rfl c2
     rw [e] at h ⊢;simp only [Bool.not_false,if_true];exact Ag (Ah (Ah (Ah h)))
 ·rintro ⟨r1,r2⟩ s' ⟨hr,rfl,l',m',xs',ys',hz,hx',hy',hcc,hd,hlen⟩;simp only at hr;subst hr;refine Ah ?_;have hfin:(xs.size==ys.size)=(o==.eq):=by
   cases hx' with
   | nil=>
    cases hy' with
    | nil=>cases hcc;simp at hlen;simp [hlen]
    | cons _ _=>
     cases hcc;simp only [CN,Bg] at hlen;exact beq_false_of_ne (by omega)
   | cons _ _=>
    cases hy' with
    | nil=>
     cases hcc;simp only [CN,Bg] at hlen;exact beq_false_of_ne (by omega)
    | cons _ _=>simp at hz
  show P (.done (.ret (.bool (xs.size==ys.size)))) s';rw [hfin];exact h
mutual
theorem TrAt.same {h:Heap}:∀ {x y:Tr} {v:Value} {o:Ordering},TrAt h x v->TrAt h y v->O2 x y=some o->o=.eq
 | _,_,_,_,.int i t,.int _ _,e=>by
  simp [O2,iT] at e;exact e.symm
 | _,_,_,_,.tup a b c d,.tup a' b' c' d',e=>by
  rw [a] at a';cases a';rw [c] at c';cases c';exact TrsAt.same d d' e
theorem TrsAt.same {h:Heap}:∀ {x y:List Tr} {v:List Value} {o:Ordering},TrsAt h x v->TrsAt h y v->W2 x y=some o->o=.eq
 | _,_,_,_,.nil,.nil,e=>by cases e;rfl
 | _,_,_,_,.cons a b,.cons c d,e=>by
  rcases aq e with ⟨c1,c2⟩ | ⟨c1,c2⟩
  ·exact TrsAt.same b d c2
  ·exact TrAt.same a c c1
end
mutual
theorem eqT:∀ {p:Tr} {u:Value},TrAt s.heap p u->gK prog w s p u
 | _,_,.int i t=>by
  intro hq o A E Q hc hu h;cases hq with
  | int j t'=>
   simp only [O2,Cv] at hc;refine (intKind prog w).eqBool (Et _ _ _ _) (Et _ _ _ _) ?_;have e:(o==.eq)=decide (i=j):=by
    subst hc;unfold iT;by_cases h1:i<j
    ·rw [if_pos h1,Bf (by omega)];rfl
    ·by_cases h2:i=j
     ·rw [if_neg h1,if_pos h2,Bb h2];rfl
     ·rw [if_neg h1,if_neg h2,Bf h2];rfl
   rw [<- e];exact h
  | tup _ _ _ _=>cases hc
 | _,_,.tup (a:=a) ha ca da ta=>by
  intro hq o A E Q hc hu h;cases hq with
  | int j t'=>cases hc
  | @tup b ob ys nb m hb cb db tb=>
   have dd:∀ l,dpT (.tup l)=dpL l+2:=λl=>rfl;unfold eqBool;try with_reducible refine AJ ?_
   show wpAny _ _ (if (Value.ref a==Value.ref b)=true then _ else _) Q E s;by_cases hab:(Value.ref a==Value.ref b)=true
   ·rw [if_pos hab];have e:a=b:=by have:=eq_of_beq hab;injection this
    subst e;have:o=.eq:=TrAt.same (.tup ha ca da ta) (.tup hb cb db tb) hc;subst this;exact Ag (BS (Ah h))
   ·rw [if_neg hab];exact Ag (DJ (op:=.Eq) ⟨_,ha,ca⟩ ⟨_,hb,cb⟩ PySem.F.slot_tuple_eq
     (AY PySem.F.slot_tuple_eq ⟨_,ha,ca⟩ PySem.F.entry_tuple_eq (dN ha hb cb da db (pq ta) tb hc (by rw [dd] at hu;show A.units+1+_<_;omega) ⟨_,rfl,(λe=>nomatch e),DV h⟩) (PySem.F.args_tuple_eq_2 _ _)) (by omega))
theorem pq:∀ {l:List Tr} {us:List Value},TrsAt s.heap l us->Paired (gK prog w s) l us
 | _,_,.nil=>.nil
 | _,_,.cons a b=>.cons (eqT a) (pq b)
end
def nP (prog:Program) (w:World) (s:Shared) (x:Tr) (u:Value):Prop:=∀ {q:Tr} {v:Value},TrAt s.heap q v->∀ {o:Ordering} {A:Around} {E:Value->Shared->Prop} {Q:Value->Shared->Prop},O2 x q=some o->A.units+dpT x<cLine->Q (.bool (o==.lt)) s->wpAny (model prog w) A (compareOp .Lt u v) Q E s
theorem dt {l m:List Tr} {a b:Addr} {oa ob:Obj} {xs ys:Array Value} {na nb:Nat} {o:Ordering} {A:Around} {E:Value->Shared->Prop} {P:PySem.Fin->Shared->Prop} (ha:s.heap.get? a=some oa) (hb:s.heap.get? b=some ob) (cb:ob.cls=.type "tuple") (da:oa.data=.seq xs na) (db:ob.data=.seq ys nb)
  (hx:Paired (λx u=>gK prog w s x u/\nP prog w s x u) l xs.toList) (hy:TrsAt s.heap m ys.toList) (hc:W2 l m=some o) (hu:A.units+dpL l<cLine) (h:P (.done (.ret (.bool (o==.lt)))) s) :
  wpAny (model prog w) A (Builtin.«tuple.__lt__» ⟨[.ref a,.ref b],[]⟩) P E s:=by
 show wpAny _ _ (isInstance (.ref b) (.type "tuple") >>= _) _ _ s;refine Ag (CC ⟨ob,hb,cb⟩ isSubtype_tuple_tuple ?_);simp only [Dm,BJ,EE];refine Ag (CP ha da ?_);refine Ag (CP hb db ?_);refine Ag ?_;refine wpAny_forIn_list _
  (λrest r s'=>r.1=none/\s'=s/\∃ l' m' xs' ys',rest=List.zip xs' ys'/\Paired (λx u=>gK prog w s x u/\nP prog w s x u) l' xs'/\TrsAt s.heap m' ys'/\W2 l' m'=some o/\dpL l'<=dpL l/\xs'.length+ys.size=ys'.length+xs.size)
  _ ?_ ?_ _ _ ⟨rfl,rfl,l,m,xs.toList,ys.toList,rfl,hx,hy,hc,Ap _,by simp;omega⟩
 ·rintro ⟨u,v⟩ rest r s' ⟨hr,rfl,l',m',xs',ys',hz,hx',hy',hcc,hd,hlen⟩;cases hx' with
  | nil=>simp at hz
  | @cons k1 u' x'' xs'' h1 hx''=>
   cases hy' with
   | nil=>simp at hz
   | @cons k2 v' y'' ys'' h2 hy''=>
    simp only [List.zip_cons_cons,List.cons.injEq,EJ] at hz;obtain ⟨⟨rfl,rfl⟩,rfl⟩:=hz;have dd:dpL (k1 :: x'')=max (dpT k1) (dpL x''):=rfl;simp only [Bg] at hlen;rcases aq hcc with ⟨c1,c2⟩ | ⟨c1,c2⟩
    ·refine Ag (h1.1 h2 c1 (by omega) ?_);simp only [beq_self_eq_true,Dm,BJ,EE];exact Ah ⟨rfl,rfl,x'',y'',xs'',ys'',rfl,hx'',hy'',c2,by omega,by omega⟩
    ·refine Ag (h1.1 h2 c1 (by omega) ?_);have e:(o==.eq)=false:=by cases o <;> first | rfl | exact absurd rfl c2
     rw [e];simp only [Bool.not_false,if_true];refine Ag (BS (Ag ?_));exact (show wpAny (model prog w) A (compareOp .Lt u v) _ _ s' from h1.2 h2 c1 (by omega) (Ag (Ah (Ah (Ah h)))))
 ·rintro ⟨r1,r2⟩ s' ⟨hr,rfl,l',m',xs',ys',hz,hx',hy',hcc,hd,hlen⟩;simp only at hr;subst hr;refine Ah ?_;have hfin:decide (xs.size<ys.size)=(o==.lt):=by
   cases hx' with
   | nil=>
    cases hy' with
    | nil=>cases hcc;simp at hlen;simp [hlen]
    | cons _ _=>
     cases hcc;simp only [CN,Bg] at hlen;exact Bb (by omega)
   | cons _ _=>
    cases hy' with
    | nil=>
     cases hcc;simp only [CN,Bg] at hlen;exact Bf (by omega)
    | cons _ _=>simp at hz
  show P (.done (.ret (Builtin.Tuple.tupleCompareSizes .Lt xs.size ys.size))) s';have:Builtin.Tuple.tupleCompareSizes .Lt xs.size ys.size=.bool (decide (xs.size<ys.size)):=by simp [Builtin.Tuple.tupleCompareSizes]
  rw [this,hfin];exact h
theorem Paired.two {α β:Type} {P Q:α->β->Prop}:∀ {xs:List α} {ys:List β},Paired P xs ys->Paired Q xs ys->Paired (λx y=>P x y/\Q x y) xs ys
 | _,_,.nil,.nil=>.nil
 | _,_,.cons a b,.cons c d=>.cons ⟨a,c⟩ (Paired.two b d)
mutual
theorem ltT:∀ {p:Tr} {u:Value},TrAt s.heap p u->nP prog w s p u
 | _,_,.int i t=>by
  intro hq o A E Q hc hu h;cases hq with
  | int j t'=>
   simp only [O2,Cv] at hc;refine lt_int ?_;have e:(o==.lt)=decide (i<j):=by
    subst hc;unfold iT;by_cases h1:i<j
    ·rw [if_pos h1,Bb h1];rfl
    ·rw [if_neg h1,Bf h1];by_cases h2:i=j
     ·rw [if_pos h2];rfl
     ·rw [if_neg h2];rfl
   rw [<- e];exact h
  | tup _ _ _ _=>cases hc
 | _,_,.tup (a:=a) ha ca da ta=>by
  intro hq o A E Q hc hu h;cases hq with
  | int j t'=>cases hc
  | @tup b ob ys nb m hb cb db tb=>
   have dd:∀ l,dpT (.tup l)=dpL l+2:=λl=>rfl;exact (show wpAny (model prog w) A (richCompare .Lt _ _) Q E s from DJ (op:=.Lt) ⟨_,ha,ca⟩ ⟨_,hb,cb⟩ PySem.F.slot_tuple_lt
     (AY PySem.F.slot_tuple_lt ⟨_,ha,ca⟩ PySem.F.entry_tuple_lt (dt ha hb cb da db (L3.Paired.two (pq ta) (vB ta)) tb hc (by rw [dd] at hu;show A.units+1+_<_;omega) ⟨_,rfl,(λe=>nomatch e),h⟩) (PySem.F.args_tuple_lt_2 _ _)) (by omega))
theorem vB:∀ {l:List Tr} {us:List Value},TrsAt s.heap l us->Paired (nP prog w s) l us
 | _,_,.nil=>.nil
 | _,_,.cons a b=>.cons (ltT a) (vB b)
end
theorem tj {A:Around} {b fin:Bool} {Q:Bool->Shared->Prop} {o:Ordering}:∀ {l m:List Tr} {us vs:List Value} (i:Nat),TrsAt s.heap l us->TrsAt s.heap m vs->W2 l m=some o->A.units+dpL l<cLine->(b=true->i=0->∃ k k' x y,l=.int k :: x/\m=.int k' :: y)->(fin=decide (l.length<m.length))->Q (o==.lt) s->PySem.W.KatLex prog w A b fin Q (us.zip vs) i s
 | _,_,_,_,i,.nil,.nil,e,_,_,hf,h=>by cases e;subst hf;exact h
 | _,_,_,_,i,.nil,.cons _ _,e,_,_,hf,h=>by cases e;subst hf;show Q _ s;simpa using h
 | _,_,_,_,i,.cons _ _,.nil,e,_,_,hf,h=>by cases e;subst hf;show Q _ s;simpa using h
 | x :: xs,y :: ys,u :: us,v :: vs,i,.cons a b',.cons c d,e,hu,hb,hf,h=>by
  have dd:dpL (x :: xs)=max (dpT x) (dpL xs):=rfl;refine Eo ?_;rcases aq e with ⟨c1,c2⟩ | ⟨c1,c2⟩
  ·refine eqT a c c1 (by omega) (PySem.W.kat_yes (tj (i+1) b' d c2 (by omega) (λ_ z=>by omega) (by simpa using hf) h))
  ·refine eqT a c c1 (by omega) ?_;have e2:(o==.eq)=false:=by cases o <;> first | rfl | exact absurd rfl c2
   rw [e2];refine PySem.W.kat_no ?_;cases hbi:(b&&i==0) with
   | true=>
    rw [Al,beq_iff_eq] at hbi;obtain ⟨k,k',_,_,e3,e4⟩:=hb hbi.1 hbi.2;cases e3;cases e4;cases a;cases c;refine oneLt_int ?_;simp only [O2,Cv] at c1;have:decide (k<k')=(o==.lt):=by
     subst c1;unfold iT;by_cases h1:k<k'
     ·rw [if_pos h1,Bb h1];rfl
     ·rw [if_neg h1,Bf h1];by_cases h2:k=k'
      ·rw [if_pos h2];rfl
      ·rw [if_neg h2];rfl
    rw [this];exact h
   | false=>exact PySem.W.kat_one _ _ (ltT a c c1 (by omega) h)
end
mutual
noncomputable def jE:D->Option Tr
 | .int i=>some (.int i)
 | .tup ds=>(A8 ds).map .tup
 | .non=>none
 | .bl _=>none
 | .str _=>none
 | .lst _=>none
 | .scr _=>none
 | .ref _=>none
noncomputable def A8:List D->Option (List Tr)
 | []=>some []
 | d :: ds=>match jE d,A8 ds with
  | some t,some ts=>some (t :: ts)
  | _,_=>none
end
def ltQ (ts:List Tr) (i j:Nat):Bool:=O2 (ts.getD i (.int 0)) (ts.getD j (.int 0))==some .lt
def nH (b:Bool):Tr->Bool
 | .tup (.int _ :: _)=>b
 | .tup (.tup _ :: _)=>!b
 | _=>false
def okS (b:Bool) (ts:List Tr):Bool:=ts.all (nH b)&&decide (dpL ts<=40)&&(List.range ts.length).all λi=>(List.range ts.length).all λj=>(O2 (ts.getD i (.int 0)) (ts.getD j (.int 0))).isSome
section
variable {X:Cx} {cl:Nat->Addr} {xe:Addr->Hp->Prop} {pins:List (Addr×Obj)} {σ:L2.St} {H:Hp} {s:Shared} {μ:Mp}
theorem eS {d:D} {ds:List D} {ts:List Tr} (e:A8 (d :: ds)=some ts):∃ t us,jE d=some t/\A8 ds=some us/\ts=t :: us:=by
 unfold A8 at e;cases e1:jE d with
 | none=>rw [e1] at e;cases e
 | some t=>
  cases e2:A8 ds with
  | none=>rw [e1,e2] at e;cases e
  | some us=>rw [e1,e2] at e;cases e;exact ⟨t,us,rfl,rfl,rfl⟩
mutual
theorem uE (I:L2.Inv X pins σ H s):∀ {d:D} {v:V} {u:Value} {t:Tr},RD X.K μ H d v->jE d=some t->RelV v u->TrAt s.heap t u
 | _,_,_,_,.non,e,_=>by cases e
 | _,_,_,_,.bl _,e,_=>by cases e
 | _,_,_,_,.int i,e,r=>by cases e;obtain ⟨t,rfl⟩:=r;exact .int i t
 | _,_,_,_,.str _,e,_=>by cases e
 | _,_,_,_,.tup ta ra,e,r=>by
  unfold jE at e;obtain ⟨ts,e1,rfl⟩:=Co.mp e;cases r;obtain ⟨its,r',⟨ob,o1,o2,n,o3⟩,_⟩:=I.tuple ta.sq;exact .tup o1 o2 o3 (by simpa using dM I ra e1 r')
 | _,_,_,_,.lst _ _,e,_=>by cases e
 | _,_,_,_,.scr _ _,e,_=>by cases e
 | _,_,_,_,.ref _,e,_=>by cases e
theorem dM (I:L2.Inv X pins σ H s):∀ {ds:List D} {xs:List V} {vs:List Value} {ts:List Tr},RDs X.K μ H ds xs->A8 ds=some ts->Vals xs vs->TrsAt s.heap ts vs
 | _,_,_,_,.nil,e,r=>by cases e;cases r;exact .nil
 | _,_,_,_,.cons a b,e,r=>by
  obtain ⟨t,us,e1,e2,rfl⟩:=eS e;cases r with
  | cons r1 r2=>exact .cons (uE I a e1 r1) (dM I b e2 r2)
end
theorem TrsAt.gt {h:Heap}:∀ {l:List Tr} {vs:List Value} {i:Nat},TrsAt h l vs->i<l.length->TrAt h (l.getD i (.int 0)) (vs.getD i Value.none)
 | _,_,0,.cons a _,_=>by simpa using a
 | _,_,i+1,.cons _ b,hi=>by simpa using TrsAt.gt (i:=i) b (by simpa using hi)
theorem eX:∀ {l:List Tr} {i:Nat},i<l.length->dpT (l.getD i (.int 0))<=dpL l
 | x :: xs,0,_=>by show dpT x<=max (dpT x) (dpL xs);omega
 | x :: xs,i+1,h=>by
  have:=eX (l:=xs) (i:=i) (by simpa using h);show dpT (xs.getD i (.int 0))<=max (dpT x) (dpL xs);omega
theorem en {h:Heap} {b:Bool}:∀ {l:List Tr} {vs:List Value},TrsAt h l vs->l.all (nH b)=true->∃ fs,PySem.W.KatTups h vs fs/\fs.length=l.length/\∀ v∈fs,if b=true then ∃ i t,v=Value.int i t else ∃ a o,v=.ref a/\h.get? a=some o/\o.cls=.type "tuple"
 | _,_,.nil,_=>⟨[],trivial,rfl,λ_ m=>nomatch m⟩
 | _,_,.cons (x:=x) a t,hb=>by
  rw [BL,Al] at hb;obtain ⟨fs,h1,h2,h3⟩:=en t hb.2;have hx:=hb.1;cases a with
  | int i t=>cases hx
  | @tup a' o' xs n l' e1 e2 e3 tl=>
   generalize hL:xs.toList=L at tl;cases tl with
   | nil=>cases hx
   | @cons p' f ps vs2 p q=>
    have e4:xs[0]?=some f:=by rw [<- Be,hL];rfl
    refine ⟨f :: fs,PySem.W.KatTups.cons e1 e2 e3 e4 h1,by simp [h2],λv m=>?_⟩;rcases AA.mp m with rfl | m
    ·cases p with
     | int i t=>cases b with
      | true=>rw [if_pos rfl];exact ⟨i,t,rfl⟩
      | false=>cases hx
     | tup a1 a2 a3 a4=>cases b with
      | true=>cases hx
      | false=>rw [if_neg (by decide)];exact ⟨_,_,rfl,a1,a2⟩
    ·exact h3 v m
end
section
variable {prog:Program} {w:World} {A:Around} {E:Value->Shared->Prop} {s:Shared}
theorem kB {b:Bool} {t:Tr} (h:nH b t=true):(b=true/\∃ k x,t=.tup (.int k :: x))\/(b=false/\∃ k x,t=.tup (.tup k :: x)):=by
 cases t with
 | int i=>cases h
 | tup l=>
  cases l with
  | nil=>cases h
  | cons x xs=>
   cases x with
   | int k=>exact .inl ⟨h,_,_,rfl⟩
   | tup k=>exact .inr ⟨by simpa [nH] using h,_,_,rfl⟩
theorem nz {b:Bool} {l:Addr} {vs:List Value} {ts:List Tr} {Q:Value->Shared->Prop} (hu:A.units+50<cLine) (hl:s.heap.IsList l vs.toArray) (h64:vs.length<64) (ht:TrsAt s.heap ts vs) (ok:okS b ts=true)
  (h:Q (.ref (s.heap.objs.size+1)) { s with heap:=sortedAll s.heap vs (v2 (ltQ ts) vs) }):wpAny (model prog w) A (call (.builtin "sorted") [.ref l]) Q E s:=by
 unfold okS at ok;rw [Al,Al,Az] at ok;obtain ⟨⟨o1,o2⟩,o3⟩:=ok;have hlen:=ht.len;refine bM (κ:=tuples' b) (lt:=ltQ ts) hl h64 (λh2 h' k Q' q=>?_) (λh' k i j C hi hj q=>?_) h
 ·obtain ⟨fs,f1,f2,f3⟩:=en (TrsAt.kp k ht) o1;cases b with
  | true=>exact Ep (T:=.type "int") (s:={ s with heap:=h' }) f1 (by omega) (λv m=>by obtain ⟨i,t,rfl⟩:=f3 v m;exact λA Q E s _ q=>Ah q) (by rfl) q
  | false=>
   have lk:∀ v∈fs,PySem.W.Looks (model prog w) h' (typeOf v) (.type "tuple"):=λv m=>by
    obtain ⟨a,o,rfl,e1,e2⟩:=f3 v m;rw [<- e2];exact show PySem.W.Looks (model prog w) h' (typeOf (.ref a)) o.cls from (PySem.W.Looks.ld e1).andThen .now
   exact Ep (T:=.type "tuple") (s:={ s with heap:=h' }) f1 (by omega) lk (by rfl) q
 ·unfold PySem.W.kas_ask;have ht':=TrsAt.kp k ht;have ai:=ht'.gt (i:=i) (by omega);have aj:=ht'.gt (i:=j) (by omega);have bi:=AQ.mp o1 (ts.getD i (.int 0)) (by rw [Aw,Aj (by omega)];exact Ba _);have bj:=AQ.mp o1 (ts.getD j (.int 0)) (by rw [Aw,Aj (by omega)];exact Ba _);have cij:=AQ.mp (AQ.mp o3 i (AH.mpr (by omega))) j (AH.mpr (by omega));have di:=eX (l:=ts) (i:=i) (by omega);unfold ltQ at q;generalize vs.getD i Value.none=vi at *;generalize vs.getD j Value.none=vj at *;generalize ts.getD i (.int 0)=x at *;generalize ts.getD j (.int 0)=y at *;obtain ⟨o,eo⟩:=Br.mp cij;rw [eo] at q;have eq:(some o==some Ordering.lt)=(o==.lt):=by cases o <;> rfl
  rw [eq] at q;cases ai with
  | int i t=>cases bi
  | @tup a1 ob1 xs n1 l1 e1 e2 e3 t1=>
   cases aj with
   | int i t=>cases bj
   | @tup a2 ob2 ys n2 l2 g1 g2 g3 t2=>
    have dd:dpT (.tup l1)=dpL l1+2:=rfl;have i2:A.in1.in1.units=A.units+2:=rfl;refine PySem.W.kat_lt (s:={ s with heap:=h' }) e1 e3 g1 g3 ?_;have h1:l1.length=xs.size:=t1.len;have h2:l2.length=ys.size:=t2.len;refine tj (s:={ s with heap:=h' }) 0 t1 t2 eo (by omega) (λhb _=>?_) (by rw [h1,h2]) q;subst hb;rcases kB bi with ⟨_,k1,x1,z1⟩ | ⟨z,_⟩
    ·rcases kB bj with ⟨_,k2,x2,z2⟩ | ⟨z,_⟩
     ·cases z1;cases z2;exact ⟨k1,k2,x1,x2,rfl,rfl⟩
     ·cases z
    ·cases z
end
section
variable {X:Cx} {cl:Nat->Addr} {xe:Addr->Hp->Prop} {pins:List (Addr×Obj)} {σ:L2.St} {H:Hp} {s:Shared} {μ:Mp}
def y9 (d:D):M D:=bind (lstOf d) λds=>match A8 ds with
 | some ts=>if (okS true ts=true\/okS false ts=true)/\ts.length<64 then ret (.lst (f8 .non (sPq (ltQ ts) ts.length) ds)) else bad
 | none=>bad
theorem fD:∀ {ds:List D} {ts:List Tr},A8 ds=some ts->ts.length=ds.length
 | [],_,e=>by cases e;rfl
 | d :: ds,_,e=>by
  obtain ⟨t,us,_,e2,rfl⟩:=eS e;simp [fD e2]
theorem gL (hu:X.A.units+64<cLine):j3 X (.builtin "sorted") (rPs X.K cl xe (one y9)):=C2 λpins s σ H μ S d v us Q I r rd rp p=>by
 obtain ⟨a,xs,ds,rfl,h1,rds,e2⟩:=j4 rd rp p.bind;have p:=p.ok_bind e2;cases e:A8 ds with
 | none=>rw [e] at p;exact p.elim
 | some ts=>
  rw [e] at p;obtain ⟨⟨ok,hz⟩,p⟩:=Post.guard p;obtain ⟨u,rfl,ru⟩:=G1 r;cases ru;have hl:=fD e;obtain ⟨its,rv,pl,hsz⟩:=I.list (xs:=xs) (.inl (.inl h1));have lv:its.length=ts.length:=by rw [<- rv.length,<- rds.length,hl]
  have bd:∀ i∈sPq (ltQ ts) ts.length,i<ds.length:=λi m=>by rw [<- hl];exact ab m
  obtain ⟨b,ok⟩:∃ b,okS b ts=true:=by rcases ok with ok | ok <;> exact ⟨_,ok⟩
  refine nz (b:=b) (by omega) pl.isList (by omega) (dM I rds e rv) ok ?_;obtain ⟨ep,he⟩:=sortedAll_at s.heap its (v2 (ltQ ts) its);have hf:H (s.heap.objs.size+1)=none:=I.hok.fresh (Bl _);obtain ⟨l,rp2,rd2⟩:=m8 rp (Q4 rds bd) hf;refine ⟨.ref (s.heap.objs.size+1),_,I.laid (t':=s.toks) (o:=.lst (f8 .non (sPq (ltQ ts) ts.length) xs)) (λb ob q=>sortedAll_old q) (Bl _) ?_,rfl,p μ _ l rp2 _ rd2⟩;refine ⟨by unfold f8;rw [Ak,K1,AD];omega,f8 .none (sPq (ltQ ts) ts.length) its,ep,C5 rv (λi m=>by rw [<- rds.length];exact bd i m),?_⟩;rw [he];unfold v2 f8;rw [lv]
end
def lX:RuE:=let r:=rBf "sorted" "sorted" false (one y9) (by decide) rfl λh _=>gL h.u64
 { r with
  is:=λΓ lc e=>decide (("srt3" : Str)∈lc.mu)&&r.is Γ lc e
  ok:=λe R TX h hi=>r.ok e R TX h (by rw [Al] at hi;exact hi.2) }
end L3
namespace L3.K43
open PySem PySem.Spec PyProof.Rows L2
def nth (l:List Stmt) (i:Nat):Stmt:=l.getD i (.Pass ⟨0,0,0,0⟩)
def top (i:Nat):Stmt:=nth PySem.Challenge.pw_handnames_k43_types_of_one_round.main.body i
def w6:Stmt->List Stmt
 | .For _ _ b _ _=>b
 | .While _ b _ _=>b
 | _=>[]
abbrev Ab:Fd:=y7 (top 1) ["seen"]
abbrev my:Fd:=y7 (top 2) []
abbrev rZ:Fd:=y7 (top 4) []
abbrev Af:Fd:=y7 (top 5) []
abbrev Ae:Fd:=y7 (top 6) ["lam"]
abbrev xT:Fd:=y7 (top 7) ["return"]
abbrev wX:Fd:=y7 (top 8) []
abbrev jc:Fd:=y7 (top 10) ["return"]
abbrev kL:Fd:=y7 (top 11) []
abbrev rJ:Fd:=y7 (top 12) ["_law_left"]
abbrev pv:Fd:=y7 (top 13) ["_law_some"]
abbrev Ac:Fd:=y7 (top 14) ["_law_found"]
abbrev Aa:Fd:=y7 (top 15) ["_law_groups","[]"]
abbrev Ad:Fd:=y7 (top 16) ["_law_found"]
abbrev law_F:Fd:=y7 (top 17) ["_law_met","srt3"]
abbrev ve:Nat:=0
abbrev tu:Nat:=1
abbrev wO:Nat:=2
abbrev pV:Nat:=3
abbrev wN:Nat:=4
abbrev bb:Nat:=5
abbrev pi:Nat:=7
abbrev kN:Nat:=8
abbrev vH:Nat:=9
abbrev uA:Nat:=10
abbrev qO:Nat:=11
abbrev sE:Nat:=12
abbrev vr:Nat:=13
abbrev kO:Nat:=14
def Tb:List Fd:=[Ab,my,rZ,Af,Ae,xT,wX,jc,kL,rJ,pv,Ac,Aa,Ad,law_F]
def Γ:Gm:=⟨("seen_in",.fn 0 2) :: ("view_of",.fn 1 2) :: ("type_of",.fn 2 2) :: ("hands_in",.fn 3 1) :: ("placed",.fn 4 3) :: ("one_round_types",.fn 5 1) :: ("seen_by_place",.fn 6 1) :: ("_law_tape",.fn 7 1) :: ("_law_draw",.fn 8 2) :: ("_law_shuffled",.fn 9 2) :: ("_law_greats",.fn 10 2) :: ("_law_hands",.fn 11 1) :: ("_law_round",.fn 12 2) :: ("_law_kinds",.fn 13 1) :: ("law",.fn 14 1) :: [],λc c0=>c0==0||c==c0,[],[]⟩
def Rs:Rules:=⟨[pZ,uK,wo,xU,rIx,xP,xX,rFn,wE,mf,sv,nU,wz,sH,uF,vq,ni,lX,iO,rIf,wQ,rSl,sj,rC,jn,rAppend,ie,nG,rF,we,iW],[rO,wJ,xL,rb],[sIf,xW,vt,sW,xF,uW,kh,kQ,wy,xM,tR,wH,uL],[mK,oH,wn]⟩
abbrev rn (k i:Nat) (ds:List D):M D:=E1 Rs Γ Tb k i ds
def dJ:Lc:=E3 Ab
section
variable (C:Cf) {α:Type} (κ:Fl->M α) {ua ub uc ud:D} {qa qb qc qd qe qf qg qh qi qj:Option D}
theorem qD:runK Rs Γ C Ab [ua,ub]=u5 (evK Rs Γ C 40) dJ Ab.body [some ua,some ub,none,none] endD:=by kernel_rfl
theorem sF:Ab.body=[nth Ab.body 0,nth Ab.body 1,nth Ab.body 2]:=by kernel_rfl
theorem xK:(evK Rs Γ C 40).s dJ (nth Ab.body 0) [qa,qb,qc,qd] κ=bind (newL []) λx1=>κ (.nx [qa,qb,some x1,qd]):=by kernel_rfl
def N0:List Stmt:=w6 (nth Ab.body 1)
def ei (C:Cf):L3.Env->M Fl:=λρ'=>u5 (evK Rs Γ C 39) dJ N0 ρ' ret
theorem wR:(evK Rs Γ C 40).s dJ (nth Ab.body 1) [some ua,qa,qb,qc] κ=bind (A6 ua) λsm1=>bind (v3 sm1.1 (λd ρ=>some (ρ.set 3 (some d))) (ei C) sm1.2 0 [some ua,qa,qb,qc]) κ:=by kernel_rfl
theorem wb:(evK Rs Γ C 40).s dJ (nth Ab.body 2) [qa,qb,some ua,qc] κ=bind (u4 ua) λx1=>κ (.rt x1):=by kernel_rfl
theorem eF:N0=[nth N0 0,nth N0 1]:=by kernel_rfl
theorem lY:(evK Rs Γ C 39).s dJ (nth N0 0) [qa,qb,some ua,some ub] κ=bind (lstOf ua) λ_=>bind (ext2D ua [ub]) λx1=>κ (.nx [qa,qb,some ua,some ub]):=by kernel_rfl
theorem kP:(evK Rs Γ C 39).s dJ (nth N0 1) [qa,some ua,qb,some ub] κ=bind (m7 .In ua ub) λx1=>bind (asB x1) λz2=>if z2=true then (κ (.bk [qa,some ua,qb,some ub])) else (κ (.nx [qa,some ua,qb,some ub])):=by kernel_rfl
theorem kY:runK Rs Γ C my [ua,ub]=bind (bp ua) λz1=>if (!z1)=true then (ret (.tup [ub,(.tup [])])) else (bind (cp (.int 1)) λx2=>bind (gx x2) λn3=>bind (slD ua none n3) λx4=>bind (nx (bind (cp (.int 1)) λx6=>bind (ixD ua x6) λx7=>bind (C 0 [x7,ub]) λx8=>bind (A6 x8) λsm9=>i6 sm9.1 (λd5=>ret true) (λd5=>bind (C 1 [x4,d5]) λx10=>ret x10) sm9.2 0 [])) λl11=>bind (A4 (.lst l11)) λx12=>ret (.tup [ub,x12])):=by kernel_rfl
theorem sS:runK Rs Γ C rZ [ua,ub]=bind (nx (bind (C 3 [ub]) λx2=>bind (A6 x2) λsm3=>i6 sm3.1 (λd1=>ret true) (λd1=>bind (ixD ua d1) λx4=>ret x4) sm3.2 0 [])) λl5=>bind (C4 (.lst l5)) λx6=>bind (C 4 [ua,x6,ub]) λx7=>ret x7:=by kernel_rfl
def sK:Lc:=E3 Af
theorem jQ:runK Rs Γ C Af [ua]=u5 (evK Rs Γ C 40) sK Af.body [some ua,none,none] endD:=by kernel_rfl
theorem jp:Af.body=[nth Af.body 0,nth Af.body 1]:=by kernel_rfl
theorem vL:(evK Rs Γ C 40).s sK (nth Af.body 0) [some ua,qa,qb] κ=bind (ba (G2 [1,2]) ua [some ua,qa,qb]) κ:=by kernel_rfl
theorem tQ:(evK Rs Γ C 40).s sK (nth Af.body 1) [qa,some ua,some ub] κ=bind (nx (bind (A6 ub) λsm3=>A0 sm3.1 (λd1=>ret true) (λd1=>bind (C 3 [d1]) λx4=>bind (A6 x4) λsm5=>ret sm5) (λd1 d2=>ret true) (λd1 d2=>ret d2) sm3.2 0 [])) λl6=>bind (B4 (.lst [ua]) (.lst l6)) λx7=>κ (.rt x7):=by kernel_rfl
def oq:Lc:=E3 Ae
theorem kD:runK Rs Γ C Ae [ua,ub,uc]=u5 (evK Rs Γ C 40) oq Ae.body [some ua,some ub,some uc,none,none,none] endD:=by kernel_rfl
theorem jz:Ae.body=[nth Ae.body 0,nth Ae.body 1,nth Ae.body 2]:=by kernel_rfl
theorem tU:(evK Rs Γ C 40).s oq (nth Ae.body 0) [qa,qb,some ua,qc,qd,qe] κ=bind (ba (G2 [3,4]) ua [qa,qb,some ua,qc,qd,qe]) κ:=by kernel_rfl
theorem vd:(evK Rs Γ C 40).s oq (nth Ae.body 1) [some ua,some ub,qa,qb,some uc,qc] κ=bind (nx (bind (A6 uc) λsm2=>i6 sm2.1 (λd1=>ret true) (λd1=>bind (C 4 [ua,ub,d1]) λx3=>ret x3) sm2.2 0 [])) λl4=>κ (.nx [some ua,some ub,qa,qb,some uc,some (.lst l4)]):=by kernel_rfl
theorem uP:(evK Rs Γ C 40).s oq (nth Ae.body 2) [some ua,some ub,qa,some uc,qb,some ud] κ=bind (sqK ub) λ_=>bind (ixD ua uc) λx1=>bind (R1 ub [x1]) λx2=>bind (w9 ud) λx3=>bind (A4 x3) λx4=>κ (.rt (.tup [x2,x4])):=by kernel_rfl
theorem mW:runK Rs Γ C jc [ua]=bind (slD ua none (some 63)) λx1=>bind (lO x1) λx2=>bind (newL [x2,(.int 0),(.int 0),(.int 0)]) λx3=>ret x3:=by kernel_rfl
theorem nI (C:Cf) (p x:D):runK Rs Γ C kL [p,x]=eW p x:=by kernel_rfl
theorem rc:runK Rs Γ C rJ [ua,ub]=bind (listP ub) λx1=>bind (nx (bind (D5 ub) λx3=>bind (n8 [x3]) λsm4=>i6 sm4.1 (λd2=>ret true) (λd2=>bind (lstOf x1) λ_=>bind (D5 x1) λx5=>bind (C 8 [ua,x5]) λx6=>bind (popD x1 [x6]) λx7=>ret x7) sm4.2 0 [])) λl8=>ret (.lst l8):=by kernel_rfl
theorem tE:runK Rs Γ C pv [ua,ub]=bind (dg (.int 10) (.int 8)) λx1=>bind (dg (.int 10) (.int 9)) λx2=>bind (qV x2 (.int 1)) λx3=>bind (dg (.int 10) (.int 9)) λx4=>bind (newL [(.int 0),(.int 1),(.int 2),(.int 8),(.int 9),(.int 10),(.int 11),(.int 99),(.int 100),(.int 101),x1,x3,x4]) λx5=>bind (nx (bind (n8 [ub]) λsm7=>i6 sm7.1 (λd6=>ret true) (λd6=>bind (lstOf x5) λ_=>bind (D5 x5) λx8=>bind (C 8 [ua,x8]) λx9=>bind (popD x5 [x9]) λx10=>ret x10) sm7.2 0 [])) λl11=>bind (A4 (.lst l11)) λx12=>ret x12:=by kernel_rfl
def Y3:Lc:=E3 Ac
theorem om:runK Rs Γ C Ac [ua]=u5 (evK Rs Γ C 40) Y3 Ac.body [some ua,none,none] endD:=by kernel_rfl
theorem nZ:Ac.body=[nth Ac.body 0,nth Ac.body 1,nth Ac.body 2]:=by kernel_rfl
theorem vI:(evK Rs Γ C 40).s Y3 (nth Ac.body 0) [qa,qb,qc] κ=bind (newL []) λx1=>κ (.nx [qa,some x1,qc]):=by kernel_rfl
def P6:List Stmt:=w6 (nth Ac.body 1)
def bQ (C:Cf):L3.Env->M Fl:=λρ'=>u5 (evK Rs Γ C 39) Y3 P6 ρ' ret
theorem uG:(evK Rs Γ C 40).s Y3 (nth Ac.body 1) [some ua,qa,qb] κ=bind (A6 ua) λsm1=>bind (v3 sm1.1 (λd ρ=>some (ρ.set 2 (some d))) (bQ C) sm1.2 0 [some ua,qa,qb]) κ:=by kernel_rfl
theorem tS:(evK Rs Γ C 40).s Y3 (nth Ac.body 2) [qa,some ua,qb] κ=bind (u4 ua) λx1=>κ (.rt x1):=by kernel_rfl
theorem cO:P6=[nth P6 0]:=by kernel_rfl
theorem fh:(evK Rs Γ C 39).s Y3 (nth P6 0) [qa,some ua,some ub] κ=bind (lstOf ua) λ_=>bind (ext2D ua [ub]) λx1=>κ (.nx [qa,some ua,some ub]):=by kernel_rfl
def v9:Lc:=E3 Aa
theorem nX:runK Rs Γ C Aa [ua,ub]=u5 (evK Rs Γ C 40) v9 Aa.body [some ua,some ub,none,none,none,none,none] endD:=by kernel_rfl
theorem oK:Aa.body=[nth Aa.body 0,nth Aa.body 1,nth Aa.body 2,nth Aa.body 3,nth Aa.body 4,nth Aa.body 5,nth Aa.body 6]:=by kernel_rfl
theorem tY:(evK Rs Γ C 40).s v9 (nth Aa.body 0) [some ua,some ub,qa,qb,qc,qd,qe] κ=bind (C 9 [ua,ub]) λx1=>κ (.nx [some ua,some ub,some x1,qb,qc,qd,qe]):=by kernel_rfl
theorem wM:(evK Rs Γ C 40).s v9 (nth Aa.body 1) [qa,qb,some ua,qc,qd,qe,qf] κ=bind (D5 ua) λx1=>κ (.nx [qa,qb,some ua,some x1,qd,qe,qf]):=by kernel_rfl
theorem uD:(evK Rs Γ C 40).s v9 (nth Aa.body 2) [some ua,qa,some ub,qb,qc,qd,qe] κ=bind (C 8 [ua,(.int 2)]) λx1=>bind (m7 .Eq x1 (.int 0)) λx2=>bind (asB x2) λz3=>if z3=true then (bind (D5 ub) λx4=>bind (C 8 [ua,x4]) λx5=>bind (B4 (.int 1) x5) λx6=>κ (.nx [some ua,qa,some ub,some x6,qc,qd,qe])) else (κ (.nx [some ua,qa,some ub,qb,qc,qd,qe])):=by kernel_rfl
theorem vO:(evK Rs Γ C 40).s v9 (nth Aa.body 3) [qa,qb,qc,qd,qe,qf,qg] κ=bind (newL []) λx1=>κ (.nx [qa,qb,qc,qd,some x1,qf,qg]):=by kernel_rfl
theorem uC:(evK Rs Γ C 40).s v9 (nth Aa.body 4) [some ua,qa,qb,qc,qd,qe,qf] κ=bind (C 8 [ua,(.int 2)]) λx1=>bind (B4 (.int 2) x1) λx2=>κ (.nx [some ua,qa,qb,qc,qd,some x2,qf]):=by kernel_rfl
def u8:List Stmt:=w6 (nth Aa.body 5)
def bv (C:Cf):L3.Env->M Fl:=λρ'=>u5 (evK Rs Γ C 39) v9 u8 ρ' ret
theorem wB:(evK Rs Γ C 40).s v9 (nth Aa.body 5) [qa,qb,some ua,some ub,qc,qd,qe] κ=bind (gx ub) λn1=>bind (slD ua none n1) λx2=>bind (A6 x2) λsm3=>bind (v3 sm3.1 (λd ρ=>some (ρ.set 6 (some d))) (bv C) sm3.2 0 [qa,qb,some ua,some ub,qc,qd,qe]) κ:=by kernel_rfl
theorem uY:(evK Rs Γ C 40).s v9 (nth Aa.body 6) [qa,qb,qc,qd,some ua,qe,qf] κ=bind (nx (bind (A6 ua) λsm2=>i6 sm2.1 (λd1=>ret true) (λd1=>bind (u4 d1) λx3=>bind (A4 x3) λx4=>ret x4) sm2.2 0 [])) λl5=>bind (A4 (.lst l5)) λx6=>κ (.rt x6):=by kernel_rfl
theorem cG:u8=[nth u8 0,nth u8 1]:=by kernel_rfl
theorem gz:(evK Rs Γ C 39).s v9 (nth u8 0) [some ua,qa,qb,qc,some ub,some uc,qd] κ=bind (m7 .Eq ub (.lst [])) λx1=>bind (asB x1) λz2=>if z2=true then (bind (lstOf ub) λ_=>bind (newL []) λx3=>bind (M8 ub [x3]) λx4=>κ (.nx [some ua,qa,qb,qc,some ub,some uc,qd])) else (bind (C 8 [ua,uc]) λx5=>bind (m7 .Eq x5 (.int 0)) λx6=>bind (asB x6) λz7=>if z7=true then (bind (lstOf ub) λ_=>bind (newL []) λx8=>bind (M8 ub [x8]) λx9=>κ (.nx [some ua,qa,qb,qc,some ub,some uc,qd])) else (κ (.nx [some ua,qa,qb,qc,some ub,some uc,qd]))):=by kernel_rfl
theorem hJ:(evK Rs Γ C 39).s v9 (nth u8 1) [qa,qb,qc,qd,some ua,qe,some ub] κ=bind (cp (.int 1)) λx1=>bind (ixD ua x1) λx2=>bind (lstOf x2) λ_=>bind (M8 x2 [ub]) λx3=>κ (.nx [qa,qb,qc,qd,some ua,qe,some ub]):=by kernel_rfl
def dq:Lc:=E3 Ad
theorem pz:runK Rs Γ C Ad [ua]=u5 (evK Rs Γ C 40) dq Ad.body [some ua,none,none,none] endD:=by kernel_rfl
theorem qF:Ad.body=[nth Ad.body 0,nth Ad.body 1,nth Ad.body 2]:=by kernel_rfl
theorem wY:(evK Rs Γ C 40).s dq (nth Ad.body 0) [qa,qb,qc,qd] κ=bind (newL []) λx1=>κ (.nx [qa,some x1,qc,qd]):=by kernel_rfl
def O3:List Stmt:=w6 (nth Ad.body 1)
def fR (C:Cf):L3.Env->M Fl:=λρ'=>u5 (evK Rs Γ C 39) dq O3 ρ' ret
theorem wm:(evK Rs Γ C 40).s dq (nth Ad.body 1) [some ua,qa,qb,qc] κ=bind (B4 ua (.int 1)) λx1=>bind (n8 [(.int 1),x1]) λsm2=>bind (v3 sm2.1 (λd ρ=>some (ρ.set 2 (some d))) (fR C) sm2.2 0 [some ua,qa,qb,qc]) κ:=by kernel_rfl
theorem xD:(evK Rs Γ C 40).s dq (nth Ad.body 2) [qa,some ua,qb,qc] κ=κ (.rt ua):=by kernel_rfl
theorem eG:O3=[nth O3 0,nth O3 1]:=by kernel_rfl
theorem jS:(evK Rs Γ C 39).s dq (nth O3 0) [qa,qb,some ua,qc] κ=bind (nx (bind (n8 [ua]) λsm2=>i6 sm2.1 (λd1=>ret true) (λd1=>ret (.tup [d1,(.tup [])])) sm2.2 0 [])) λl3=>bind (A4 (.lst l3)) λx4=>κ (.nx [qa,qb,some ua,some x4]):=by kernel_rfl
theorem kR:(evK Rs Γ C 39).s dq (nth O3 1) [qa,some ua,some ub,some uc] κ=bind (lstOf ua) λ_=>bind (nx (bind (n8 [ub]) λsm2=>i6 sm2.1 (λd1=>ret true) (λd1=>ret (.tup [d1,uc])) sm2.2 0 [])) λl3=>bind (ext2D ua [(.lst l3)]) λx4=>κ (.nx [qa,some ua,some ub,some uc]):=by kernel_rfl
def j0:Lc:=E3 law_F
theorem nN:runK Rs Γ C law_F [ua]=u5 (evK Rs Γ C 40) j0 law_F.body [some ua,none,none,none,none,none,none,none,none,none] endD:=by kernel_rfl
theorem md:law_F.body=[nth law_F.body 0,nth law_F.body 1,nth law_F.body 2]:=by kernel_rfl
theorem uX:(evK Rs Γ C 40).s j0 (nth law_F.body 0) [some ua,qa,qb,qc,qd,qe,qf,qg,qh,qi] κ=bind (C 7 [ua]) λx1=>κ (.nx [some ua,some x1,qb,qc,qd,qe,qf,qg,qh,qi]):=by kernel_rfl
def c7:List Stmt:=w6 (nth law_F.body 1)
def R9 (C:Cf):L3.Env->M Fl:=λρ'=>u5 (evK Rs Γ C 39) j0 c7 ρ' ret
theorem vQ:(evK Rs Γ C 40).s j0 (nth law_F.body 1) [qa,qb,qc,qd,qe,qf,qg,qh,qi,qj] κ=bind (n8 [(.int 1),(.int 5)]) λsm1=>bind (v3 sm1.1 (λd ρ=>some (ρ.set 2 (some d))) (R9 C) sm1.2 0 [qa,qb,qc,qd,qe,qf,qg,qh,qi,qj]) κ:=by kernel_rfl
theorem uS:(evK Rs Γ C 40).s j0 (nth law_F.body 2) [qa,qb,qc,qd,qe,qf,qg,qh,qi,qj] κ=κ (.rt (.bl true)):=by kernel_rfl
theorem bu:c7=[nth c7 0,nth c7 1,nth c7 2,nth c7 3,nth c7 4,nth c7 5,nth c7 6,nth c7 7,nth c7 8,nth c7 9]:=by kernel_rfl
theorem gj:(evK Rs Γ C 39).s j0 (nth c7 0) [qa,qb,some ua,qc,qd,qe,qf,qg,qh,qi] κ=bind (C 5 [ua]) λx1=>κ (.nx [qa,qb,some ua,some x1,qd,qe,qf,qg,qh,qi]):=by kernel_rfl
theorem gk:(evK Rs Γ C 39).s j0 (nth c7 1) [qa,qb,some ua,some ub,qc,qd,qe,qf,qg,qh] κ=bind (cX "list" (λ_=>false) ub) λx1=>bind (bp x1) λz2=>if (!z2)=true then (κ (.rt (.bl false))) else (bind (y3 ub) λx3=>bind (C 13 [ua]) λx4=>bind (y3 x4) λx5=>bind (m7 .NotEq x3 x5) λx6=>bind (asB x6) λz7=>if z7=true then (κ (.rt (.bl false))) else (κ (.nx [qa,qb,some ua,some ub,qc,qd,qe,qf,qg,qh]))):=by kernel_rfl
theorem fo:(evK Rs Γ C 39).s j0 (nth c7 2) [qa,qb,some ua,some ub,qc,qd,qe,qf,qg,qh] κ=bind (D5 ub) λx1=>bind (B4 ua (.int 1)) λx2=>bind (M3 ua x2) λx3=>bind (B0 x3 (.int 2)) λx4=>bind (m7 .NotEq x1 x4) λx5=>bind (asB x5) λz6=>if z6=true then (κ (.rt (.bl false))) else (κ (.nx [qa,qb,some ua,some ub,qc,qd,qe,qf,qg,qh])):=by kernel_rfl
theorem fk:(evK Rs Γ C 39).s j0 (nth c7 3) [qa,qb,qc,some ua,qd,qe,qf,qg,qh,qi] κ=bind (wrD List.reverse ua) λx1=>κ (.nx [qa,qb,qc,some ua,qd,qe,qf,qg,qh,qi]):=by kernel_rfl
theorem hY:(evK Rs Γ C 39).s j0 (nth c7 4) [qa,qb,qc,some ua,qd,qe,qf,qg,qh,qi] κ=bind (lstOf ua) λ_=>bind (M8 ua [.non]) λx1=>κ (.nx [qa,qb,qc,some ua,qd,qe,qf,qg,qh,qi]):=by kernel_rfl
theorem fq:(evK Rs Γ C 39).s j0 (nth c7 5) [qa,qb,some ua,qc,qd,qe,qf,qg,qh,qi] κ=bind (C 5 [ua]) λx1=>bind (y3 x1) λx2=>bind (C 13 [ua]) λx3=>bind (y3 x3) λx4=>bind (m7 .NotEq x2 x4) λx5=>bind (asB x5) λz6=>if z6=true then (κ (.rt (.bl false))) else (κ (.nx [qa,qb,some ua,qc,qd,qe,qf,qg,qh,qi])):=by kernel_rfl
def d9:List Stmt:=w6 (nth c7 6)
def A3 (C:Cf):L3.Env->M Fl:=λρ'=>u5 (evK Rs Γ C 38) j0 d9 ρ' ret
theorem hG:(evK Rs Γ C 39).s j0 (nth c7 6) [qa,qb,qc,qd,qe,qf,qg,qh,qi,qj] κ=bind (n8 [(.int 3)]) λsm1=>bind (v3 sm1.1 (λd ρ=>some (ρ.set 4 (some d))) (A3 C) sm1.2 0 [qa,qb,qc,qd,qe,qf,qg,qh,qi,qj]) κ:=by kernel_rfl
theorem gF:(evK Rs Γ C 39).s j0 (nth c7 7) [qa,qb,qc,qd,qe,qf,qg,qh,qi,qj] κ=bind (newL []) λx1=>κ (.nx [qa,qb,qc,qd,qe,qf,qg,qh,some x1,qj]):=by kernel_rfl
def l7:List Stmt:=w6 (nth c7 8)
def L1 (C:Cf):L3.Env->M Fl:=λρ'=>u5 (evK Rs Γ C 38) j0 l7 ρ' ret
theorem gN:(evK Rs Γ C 39).s j0 (nth c7 8) [qa,qb,some ua,qc,qd,qe,qf,qg,qh,qi] κ=bind (B4 ua (.int 1)) λx1=>bind (n8 [(.int 1),x1]) λsm2=>bind (v3 sm2.1 (λd ρ=>some (ρ.set 9 (some d))) (L1 C) sm2.2 0 [qa,qb,some ua,qc,qd,qe,qf,qg,qh,qi]) κ:=by kernel_rfl
theorem gX:(evK Rs Γ C 39).s j0 (nth c7 9) [qa,qb,some ua,qc,qd,qe,qf,qg,some ub,qh] κ=bind (y9 ub) λx1=>bind (C 13 [ua]) λx2=>bind (y9 x2) λx3=>bind (m7 .NotEq x1 x3) λx4=>bind (asB x4) λz5=>if z5=true then (κ (.rt (.bl false))) else (κ (.nx [qa,qb,some ua,qc,qd,qe,qf,qg,some ub,qh])):=by kernel_rfl
theorem P1:d9=[nth d9 0,nth d9 1,nth d9 2]:=by kernel_rfl
theorem W9:(evK Rs Γ C 38).s j0 (nth d9 0) [qa,some ua,some ub,qb,qc,qd,qe,qf,qg,qh] κ=bind (C 10 [ua,ub]) λx1=>κ (.nx [qa,some ua,some ub,qb,qc,some x1,qe,qf,qg,qh]):=by kernel_rfl
theorem X0:(evK Rs Γ C 38).s j0 (nth d9 1) [qa,some ua,some ub,qb,qc,qd,qe,qf,qg,qh] κ=bind (L4 ub) λx1=>bind (C 12 [ua,x1]) λx2=>κ (.nx [qa,some ua,some ub,qb,qc,qd,some (.tup [x2]),qf,qg,qh]):=by kernel_rfl
def k8:List Stmt:=w6 (nth d9 2)
def q9 (C:Cf):L3.Env->M Fl:=λρ'=>u5 (evK Rs Γ C 37) j0 k8 ρ' ret
theorem W8:(evK Rs Γ C 38).s j0 (nth d9 2) [qa,qb,qc,qd,qe,qf,some ua,qg,qh,qi] κ=bind (ixD ua (.int 0)) λx1=>bind (C 11 [x1]) λx2=>bind (A6 x2) λsm3=>bind (v3 sm3.1 (λd ρ=>some (ρ.set 7 (some d))) (q9 C) sm3.2 0 [qa,qb,qc,qd,qe,qf,some ua,qg,qh,qi]) κ:=by kernel_rfl
theorem P0:l7=[nth l7 0,nth l7 1]:=by kernel_rfl
theorem X5:(evK Rs Γ C 38).s j0 (nth l7 0) [qa,some ua,qb,qc,qd,qe,qf,qg,qh,some ub] κ=bind (C 10 [ua,ub]) λx1=>κ (.nx [qa,some ua,qb,qc,qd,some x1,qf,qg,qh,some ub]):=by kernel_rfl
theorem X4:(evK Rs Γ C 38).s j0 (nth l7 1) [qa,qb,qc,qd,qe,some ua,qf,qg,some ub,some uc] κ=bind (lstOf ub) λ_=>bind (nx (bind (n8 [uc]) λsm2=>i6 sm2.1 (λd1=>ret true) (λd1=>bind (N6 uc) λx3=>bind (C 1 [(.tup [(.tup [x3])]),d1]) λx4=>bind (C 2 [ua,x4]) λx5=>ret x5) sm2.2 0 [])) λl6=>bind (ext2D ub [(.lst l6)]) λx7=>κ (.nx [qa,qb,qc,qd,qe,some ua,qf,qg,some ub,some uc]):=by kernel_rfl
theorem D3:k8=[nth k8 0]:=by kernel_rfl
theorem J0:(evK Rs Γ C 37).s j0 (nth k8 0) [qa,qb,some ua,qc,qd,some ub,some uc,some ud,qe,qf] κ=bind (C 1 [uc,ud]) λx1=>bind (C 2 [ub,x1]) λx2=>bind (C 13 [ua]) λx3=>bind (m7 .NotIn x2 x3) λx4=>bind (asB x4) λz5=>if z5=true then (κ (.rt (.bl false))) else (κ (.nx [qa,qb,some ua,qc,qd,some ub,some uc,some ud,qe,qf])):=by kernel_rfl
end
end L3.K43
namespace L3.K43
open PySem PySem.Spec PyProof.Rows L2 L3.Rk
def B1 (b:List Int):D:=.tup (b.map D.int)
def D4 (r:List (List Int)):D:=.tup (r.map B1)
theorem eO {n:Nat} (h:n<=600):n<sizeLine:=DM h (by decide)
theorem lrg {m:Nat} (h:m<=6) (S:Sto):L4 (.int (m:Int)) S=.ok (.lst ((rgL m).map D.int)) S:=by
 show (if 0<=(m:Int)/\(m:Int)<100000 then ret (D.lst ((rgL (m:Int).toNat).map D.int)) else bad) S=_;rw [if_pos ⟨by omega,by omega⟩];rfl
theorem F8 {ns:List Int} {p N m:Nat} {S:Sto} (h:Ft ns p (N+1) S) (hm:0<m) (hm2:m<1000000) (k:Nat):Ok (rn (k+1) kN [.ref p,.int (m:Int)]) S λd S'=>∃ r:Nat,d=.int (r:Int)/\r<m/\Ft ns p N S'/\S'.length=S.length/\∀ q,q≠p->S'[q]?=S[q]?:=by
 rw [rn,i5 (fd:=kL) rfl,nI];exact jZ h hm hm2
theorem N7 {S:Sto} {n:Nat} {ns:List Int} (e:S[n]?=some (.lst (ns.map D.int))) (h:ns.length<64):u4 (.ref n) S=.ok (.lst ((srt ns).map D.int)) S:=jD e h
theorem wK {r:List (List Int)} (hl:r.flatten.length<64) (hr:r.length<=60) (k:Nat) (S:Sto):Ok (rn (k+1) qO [D4 r]) S λd S'=>d=.lst ((srt r.flatten).map D.int)/\Ex S S':=by
 rw [rn,i5 (fd:=Ac) rfl,om,nZ];refine Ok.first<|Ok.cg (vI ..)<|Ok.eq (show newL [] S=.ok (.ref S.length) (S++[.lst []]) from rfl)<|Ok.nxt<|Ok.cg (uG ..) ?_;unfold D4;refine Ok.eq (D2 _ _) ?_;rw [Ak];have at_:∀ x:O,(S++[x])[S.length]?=some x:=λx=>by rw [AL (Ap _)];simp
 refine Ok.bind ((Ok.for_ (n:=r.length) (λi ρ S'=>S'=S++[.lst ((r.take i).flatten.map D.int)]/\∃ o3:Option D,ρ=[some (.tup (r.map B1)),some (.ref S.length),o3]) (λ_ _=>False) (λ_ _=>False) ?_ ?_ r.length 0 _ (S++[.lst []]) (by omega) ⟨by simp,_,rfl⟩).mono ?_)
 ·intro ρ S' _;show some (r.map B1)[r.length]?=some none;rw [AT (by simp)]
 ·rintro i ρ S' hi ⟨rfl,o3,rfl⟩;have eb:r[i]?=some r[i]:=Aj hi;have tk:(r.take (i+1)).flatten=(r.take i).flatten++r[i]:=by rw [AO hi,Ce];simp
  have ln:(r.take i).flatten.length+r[i].length<64:=by
   have:(r.take (i+1)).flatten.length<=r.flatten.length:=by
    conv=>rhs;rw [<- Dc (i+1) r,Ce,Ay]
    omega
   rw [tk,Ay] at this;omega
  refine ⟨B1 r[i],[some (.tup (r.map B1)),some (.ref S.length),some (B1 r[i])],by show some (r.map B1)[i]?=_;rw [m9 eb],rfl,?_⟩;unfold bQ;rw [cO];refine Ok.first<|Ok.cg (fh ..)<|Ok.eq (J5 (at_ _)) ?_;unfold B1;refine Ok.eq (pF (at_ _) (by rw [Ak,Ak,AD];omega)) ?_;have es:(S++[O.lst ((r.take i).flatten.map D.int)]).set S.length (.lst ((r.take i).flatten.map D.int++r[i].map D.int))=S++[.lst ((r.take (i+1)).flatten.map D.int)]:=by
   rw [Bq _ _ (Ap _),tk,BG];simp
  rw [es];exact Ok.ret ⟨rfl,_,rfl⟩
 ·intro fl S' q;cases fl with
  | nx ρ=>
   rcases q with ⟨e,o3,rfl⟩ | q
   ·rw [Dj] at e;subst e;exact Ok.nxt<|Ok.cg (tS ..)<|Ok.eq (N7 (at_ _) hl) (Ok.ret ⟨rfl,_,rfl⟩)
   ·exact q.elim
  | rt d=>exact q.elim
  | bk ρ=>exact q.elim
  | ct ρ=>exact q.elim
theorem w5 {ns:List Int} {p N:Nat} {S:Sto} (h:Ft ns p N S):p<S.length:=by
 obtain ⟨a,l,t,e,_⟩:=h;exact (As.mp e).1
theorem af:∀ {l:List Int} {j:Nat} (h:j<l.length),(l[j] :: l.eraseIdx j).Perm l
 | a :: l,0,_=>.refl _
 | a :: l,j+1,h=>by
  show (l[j]'(by simpa using h) :: a :: l.eraseIdx j).Perm (a :: l);exact (List.Perm.swap ..).trans ((af (by simpa using h)).cons a)
theorem mT {ns:List Int} {p N:Nat} {S:Sto} {hs:List Int} (h:Ft ns p (N+6) S) (hl:hs.length<=6) (k:Nat):Ok (rn (k+2) vH [.ref p,.lst (hs.map D.int)]) S λd S'=>∃ os:List Int,d=.lst (os.map D.int)/\os.Perm hs/\Ft ns p N S'/\Tk p S S':=by
 rw [rn,i5 (fd:=rJ) rfl,rc];have hp:=w5 h;refine Ok.eq (show listP (.lst (hs.map D.int)) S=.ok (.ref S.length) (S++[.lst (hs.map D.int)]) from rfl)<|nx_bind<|Ok.eq (tO _ _) ?_;rw [Ak];refine Ok.eq (U0 (by omega) _) ?_;refine (Ok.comp (n:=hs.length) (λi S' es=>∃ os lf:List Int,es=os.map D.int/\os.length=i/\(os++lf).Perm hs/\Ft ns p (N+(6-i)) S'/\S'.length=S.length+1/\S'[S.length]?=some (.lst (lf.map D.int))/\∀ q,q<S.length->q≠p->S'[q]?=S[q]?) (λS' es _=>Q3 _ S') ?_ ?_).mono ?_
 ·rintro i S' es hi ⟨os,lf,rfl,h1,h2,h5,h6,h7,h8⟩;have ln:=h2.length_eq;rw [Ay] at ln;refine ⟨.int (i:Int),aY hi S',Ok.ret ?_⟩;rw [if_pos rfl];refine Ok.eq (J5 h7) (Ok.eq (pW h7) ?_);rw [Ak];refine Ok.bind ((F8 (m:=lf.length) (N:=N+(6-(i+1))) (h5.less (by omega)) (by omega) (by omega) k).mono ?_);rintro _ S1 ⟨r,rfl,hr,f1,l1,k1⟩;have hg:lf[r]?=some lf[r]:=Aj hr;have e7:S1[S.length]?=some (.lst (lf.map D.int)):=by rw [k1 _ (by omega)];exact h7
  refine Ok.eq (pQ e7 (m9 hg) (by omega)) (Ok.ret ?_);refine ⟨?_,os++[lf[r]],lf.eraseIdx r,by simp,by simp [h1],?_,?_,by simp [l1,h6],?_,?_⟩
  ·rw [Ak,h1];exact eO (by omega)
  ·refine List.Perm.trans ?_ h2;rw [BB];refine List.Perm.append_left os ?_;exact af hr
  ·refine f1.keep ?_;rw [AV (by omega)]
  ·rw [Bi (by omega),M6]
  ·intro q hq hqp;rw [AV (by omega),k1 q hqp,h8 q hq hqp]
 ·refine ⟨[],hs,rfl,rfl,by simp,(h.less (by omega)).keep (by rw [Aq hp]),by simp,by rw [AL (Ap _)];simp,λq hq _=>by rw [Aq hq]⟩
 ·rintro es S' ⟨os,lf,rfl,h1,h2,h5,h6,h7,h8⟩;have ln:=h2.length_eq;rw [Ay] at ln;have:lf=[]:=Ci.mp (by omega);subst this;rw [Bs] at h2;exact Ok.ret ⟨os,rfl,h2,h5.less (by omega),by omega,h8⟩
def gl (g:Nat) (bl:List (List Int)):O:=.lst ((List.range bl.length).map λj=>D.ref (g+1+j))
def bs (bl:List (List Int)):Sto:=bl.map λb=>O.lst (b.map D.int)
def Gs (T U:Sto) (bl:List (List Int)):Sto:=T++gl (T.length+U.length) bl :: (U++bs bl)
theorem oD (T U:Sto) (bl:List (List Int)):(Gs T U bl)[T.length]?=some (gl (T.length+U.length) bl):=by
 unfold Gs;rw [AL (Ap _)];simp
theorem sY {T U:Sto} {bl:List (List Int)} {j:Nat} {b:List Int} (h:bl[j]?=some b):(Gs T U bl)[T.length+U.length+1+j]?=some (.lst (b.map D.int)):=by
 unfold Gs bs;rw [AL (by omega),show T.length+U.length+1+j-T.length=(U.length+j)+1 by omega,List.getElem?_cons_succ,AL (by omega),show U.length+j-U.length=j by omega,m9 h]
theorem dO (T U:Sto) (bl:List (List Int)):(Gs T U bl).length=T.length+U.length+1+bl.length:=by
 unfold Gs bs;rw [Ay,Bg,Ay,Ak];omega
theorem rE {T U:Sto} {bl:List (List Int)} {q:Nat} (h:q<T.length):(Gs T U bl)[q]?=T[q]?:=by
 unfold Gs;rw [Aq h]
theorem rQ (T U:Sto) (bl:List (List Int)):(Gs T U bl++[O.lst []]).set T.length (.lst ((List.range bl.length).map (λj=>D.ref (T.length+U.length+1+j))++[.ref (Gs T U bl).length]))=Gs T U (bl++[[]]):=by
 rw [dO];unfold Gs gl bs;rw [BB,Bq _ _ (Ap _)];simp [Cq]
theorem sX (T U:Sto) (bl:List (List Int)) (b:List Int) (h:Int):(Gs T U (bl++[b])).set (T.length+U.length+1+bl.length) (.lst (b.map D.int++[.int h]))=Gs T U (bl++[b++[h]]):=by
 unfold Gs gl bs;rw [Bq _ _ (by omega)];rw [show T.length+U.length+1+bl.length-T.length=(U.length+bl.length)+1 by omega,List.set_cons_succ,Bq _ _ (by omega)];simp [show U.length+bl.length-U.length=bl.length by omega,Bq]
theorem aR (n:Nat) {S:Sto} {k:Nat} {ds:List D} (e:S[k]?=some (.lst ds)):d3 (n+1) S (.ref k)=(e8 (d3 n S) ds).map .list:=by simp only [d3,e]
def pL (b:List Int):PyData:=.list (b.map .int)
theorem aS {α β γ:Type} {f:β->Option γ} {g:α->β} {q:α->γ}:∀ {l:List α},(∀ a∈l,f (g a)=some (q a))->e8 f (l.map g)=some (l.map q)
 | [],_=>rfl
 | a :: l,h=>by simp only [AW,e8,h a (Av ..),aS λb hb=>h b (AC _ hb)]
theorem aU {α:Type} {q:α->PyData}:∀ {l:List α},(∀ a∈l,(q a).canLay0=true)->PyData.canLayAll0 (l.map q)=true
 | [],_=>rfl
 | a :: l,h=>by simp only [AW,PyData.canLayAll0,h a (Av ..),aU λb hb=>h b (AC _ hb),Eh]
theorem uQ (T U:Sto) (bl:List (List Int)):m7 .Eq (.ref T.length) (.lst []) (Gs T U bl)=.ok (.bl bl.isEmpty) (Gs T U bl):=by
 show eqP false (.ref T.length) (.lst []) (Gs T U bl)=_;have m:e8 (d3 63 (Gs T U bl)) ((List.range bl.length).map λj=>D.ref (T.length+U.length+1+j))=some ((List.range bl.length).map λj=>pL (bl.getD j [])):=by
  refine aS λj hj=>?_;have hj:j<bl.length:=AH.mp hj;have e:=sY (T:=T) (U:=U) (Aj hj);rw [aR 62 e,F9 61];have:bl.getD j []=bl[j]:=by simp [hj]
  rw [this];rfl
 have e:d3 64 (Gs T U bl) (.ref T.length)=some (.list ((List.range bl.length).map λj=>pL (bl.getD j []))):=by
  rw [aR 63 (oD T U bl),m];rfl
 unfold eqP;rw [e];show (if PyData.canLay0 (.list ((List.range bl.length).map λj=>pL (bl.getD j [])))=true/\PyData.canLay0 (.list [])=true/\min (PyData.depth (.list ((List.range bl.length).map λj=>pL (bl.getD j [])))) (PyData.depth (.list []))<=60 then ret (D.bl (PyData.eqv (.list ((List.range bl.length).map λj=>pL (bl.getD j []))) (.list []))) else bad) (Gs T U bl)=_;have hd:PyData.depth (.list [])<=60:=by simp [PyData.depth,PyData.depthAll]
 rw [if_pos ⟨by simp only [PyData.canLay0];exact aU λj _=>by unfold pL;simp only [PyData.canLay0];exact Q9 _,rfl,by omega⟩];cases bl with
 | nil=>rfl
 | cons b bl=>
  show R.ok (D.bl (PyData.eqv (.list ((List.range (bl.length+1)).map λj=>pL ((b :: bl).getD j []))) (.list []))) _=_;rw [List.range_succ_eq_map];rfl
theorem vM {S:Sto} {n:Nat} {ds:List D} {d:D} (e:S[n]?=some (.lst ds)) (h:ds.getLast?=some d):ixD (.ref n) (.int (-1)) S=.ok d S:=by
 have:=fW S h;have a:atI ds (-1)=some d:=by
  cases q:atI ds (-1) with
  | none=>
   have t:ixD (.tup ds) (.int (-1)) S=X7 (atI ds (-1)) S:=rfl;rw [t,q] at this;cases this
  | some x=>
   have t:ixD (.tup ds) (.int (-1)) S=X7 (atI ds (-1)) S:=rfl;rw [t,q] at this;cases this;rfl
 simp only [ixD,e,a];rfl
theorem rG (T U:Sto) (bl:List (List Int)) (hb:bl.length<=60) {β:Type} (κ:M β):bind (lstOf (.ref T.length)) (λ_=>bind (newL []) λe=>bind (M8 (.ref T.length) [e]) λ_=>κ) (Gs T U bl)=κ (Gs T U (bl++[[]])):=by
 have e:=oD T U bl;have nw:newL [] (Gs T U bl)=.ok (.ref (Gs T U bl).length) (Gs T U bl++[.lst []]):=rfl;have e2:(Gs T U bl++[O.lst []])[T.length]?=some (gl (T.length+U.length) bl):=by rw [Aq (by rw [dO];omega)];exact e
 rw [a8 (J5 e),a8 nw,a8 (kX e2 (by rw [Ak,AN];exact eO (by omega))),rQ]
theorem aQ:∀ bl:List (List Int),((bl.map srt).flatten).Perm bl.flatten
 | []=>.refl _
 | b :: bl=>by
  rw [AW,BN,BN];exact (d4 b).append (aQ bl)
theorem cj {ns:List Int} {p N m:Nat} {T U:Sto} {bl:List (List Int)} (h:Ft ns p (N+1) T) (hm:0<m) (hm2:m<1000000) (k:Nat):Ok (rn (k+1) kN [.ref p,.int (m:Int)]) (Gs T U bl) λd S'=>∃ (r:Nat) (T':Sto),d=.int (r:Int)/\r<m/\S'=Gs T' U bl/\T'.length=T.length/\Ft ns p N T'/\∀ q,q≠p->T'[q]?=T[q]?:=by
 have h1:Ft ns p (N+1) (Gs T U bl):=h.keep (rE (w5 h));refine (F8 h1 hm hm2 k).mono ?_;rintro _ S' ⟨r,rfl,hr,f,l,kq⟩;obtain ⟨T',e,l',k',kp⟩:=dB (T:=T) (R:=gl (T.length+U.length) bl :: (U++bs bl)) (w5 h) l kq;refine ⟨r,T',rfl,hr,?_,l',f.keep kp,k'⟩;rw [e];unfold Gs;rw [l']
structure SR (qs:List Int) (m:Nat) (r:List (List Int)):Prop where
 fl:r.flatten.length=m
 le:r.length<=m
 mem:∀ x∈r.flatten,x∈qs
 nd:qs.Nodup->r.flatten.Nodup
theorem X8 {ns:List Int} {p N m:Nat} {S:Sto} {hs qs:List Int} (h:Ft ns p (N+7) S) (hl:qs.length<=6) (hm:m<=qs.length) (k:Nat):Ok (nxt (evK Rs Γ (rn (k+2)) 40) v9 [nth Aa.body 3,nth Aa.body 4,nth Aa.body 5,nth Aa.body 6] endD (.nx [some (.ref p),some (.lst (hs.map D.int)),some (.lst (qs.map D.int)),some (.int (m:Int)),none,none,none])) S λd S'=>∃ r:List (List Int),d=D4 r/\SR qs m r/\Ft ns p N S'/\Tk p S S':=by
 have hp:=w5 h;refine Ok.nxt<|Ok.cg (vO ..)<|Ok.eq (show newL [] S=.ok (.ref S.length) (Gs S [] []) from rfl) ?_;refine Ok.nxt<|Ok.cg (uC ..)<|Ok.bind ((cj (N:=N+6) (m:=2) h (by omega) (by omega) (k+1)).mono ?_);rintro _ _ ⟨w,T,rfl,hw,rfl,lT,FT,kT0⟩;have kT:∀ q,q<S.length->q≠p->T[q]?=S[q]?:=λq _ hq=>kT0 q hq;generalize hU:([]:Sto)=U;have os_:∃ os,os=qs.take m:=⟨_,rfl⟩;obtain ⟨os,eo⟩:=os_;have lo:os.length=m:=by rw [eo,Bo];omega
 refine Ok.eq (aH 2 w _)<|Ok.nxt<|Ok.cg (wB ..)<|Ok.eq (show gx (.int (m:Int)) _=.ok (some (m:Int)) _ from rfl)<|Ok.eq (show slD (.lst (qs.map D.int)) none (some (m:Int)) (Gs T U [])=.ok (.lst (os.map D.int)) (Gs T U []) by
  show L3.R.ok (D.lst (E9 (qs.map D.int) none (some (m:Int)))) _=_;rw [ic (by rw [Ak];exact hm),<- List.map_take,eo]) ?_
 refine Ok.eq (show A6 (.lst (os.map D.int)) (Gs T U [])=.ok (A7 (os.map D.int),(os.map D.int).length+1) (Gs T U []) from rfl) ?_;rw [Ak,lo,<- lT];refine Ok.bind ((Ok.for_ (n:=m) (λi ρ S'=>∃ (T':Sto) (bl:List (List Int)) (o:Option D),ρ=[some (.ref p),some (.lst (hs.map D.int)),some (.lst (qs.map D.int)),some (.int (m:Int)),some (.ref T.length),some (.int ((2+w:Nat):Int)),o]/\S'=Gs T' U bl/\T'.length=T.length/\bl.flatten=os.take i/\(∀ b∈bl,b≠[])/\bl.length<=i/\Ft ns p (N+(6-i)) T'/\∀ q,q≠p->T'[q]?=T[q]?) (λ_ _=>False) (λ_ _=>False) ?_ ?_ m 0 _ _ (by omega) ⟨T,[],none,rfl,rfl,rfl,by simp,by simp,by simp,FT,λ_ _=>rfl⟩).mono ?_)
 ·intro ρ S' _;show some (os.map D.int)[m]?=some none;rw [AT (by rw [Ak,lo];exact Ap _)]
 ·rintro i ρ S' hi ⟨T',bl,o,rfl,rfl,lT',fl,ne,bi,fT',kT'⟩;have hi':i<os.length:=by rw [lo];exact hi
  have tk:os.take (i+1)=os.take i++[os[i]]:=AO hi';refine ⟨.int os[i],_,by show some (os.map D.int)[i]?=_;rw [m9 (Aj hi')],rfl,?_⟩;unfold bv;rw [cG];have fin:∀ (T2:Sto) (b2:List (List Int)) (b:List Int),T2.length=T.length->(b2++[b]).flatten=os.take i->(∀ b∈b2,b≠[])->(b2++[b]).length<=i+1->Ft ns p (N+(6-(i+1))) T2->(∀ q,q≠p->T2[q]?=T[q]?)->Ok (nxt (evK Rs Γ (λi ds=>rn (k+2) i ds) 39) v9 [nth u8 1] ret (.nx [some (.ref p),some (.lst (hs.map D.int)),some (.lst (qs.map D.int)),some (.int (m:Int)),some (.ref T.length),some (.int ((2+w:Nat):Int)),some (.int os[i])])) (Gs T2 U (b2++[b])) (FlI (λρ S'=>∃ (T':Sto) (bl:List (List Int)) (o:Option D),ρ=[some (.ref p),some (.lst (hs.map D.int)),some (.lst (qs.map D.int)),some (.int (m:Int)),some (.ref T.length),some (.int ((2+w:Nat):Int)),o]/\S'=Gs T' U bl/\T'.length=T.length/\bl.flatten=os.take (i+1)/\(∀ b∈bl,b≠[])/\bl.length<=i+1/\Ft ns p (N+(6-(i+1))) T'/\∀ q,q≠p->T'[q]?=T[q]?) (λ_ _=>False) (λ_ _=>False)):=λT2 b2 b l2 f2 n2 c2 d2 q2=>by
   have hb:b.length<=60:=by
    have:=congrArg List.length f2;rw [Ce,Ay,Bo] at this;simp at this;omega
   have e:=oD T2 U (b2++[b]);have eb:=sY (T:=T2) (U:=U) (bl:=b2++[b]) (j:=b2.length) (b:=b) (by simp);rw [<- l2];refine Ok.nxt<|Ok.cg (hJ ..)<|Ok.eq (a:=.int (-1)) (S1:=Gs T2 U (b2++[b])) (by kernel_rfl)<|Ok.eq (vM (d:=.ref (T2.length+U.length+1+b2.length)) e (by rw [Ay];simp [Cq]))<|Ok.eq (J5 eb)<|Ok.eq (kX eb (by rw [Ak];exact eO (by omega))) ?_;rw [sX];refine Ok.ret ⟨T2,b2++[b++[os[i]]],_,rfl,rfl,rfl,?_,?_,?_,d2,q2⟩
   ·rw [tk,<- f2];simp
   ·intro c hc;rcases Bn.mp hc with z | z
    ·exact n2 c z
    ·rw [AU.mp z];simp
   ·simpa using c2
  have fresh:∀ (T2:Sto),T2.length=T.length->Ft ns p (N+(6-(i+1))) T2->(∀ q,q≠p->T2[q]?=T[q]?)->Ok (bind (lstOf (.ref T.length)) λ_=>bind (newL []) λe=>bind (M8 (.ref T.length) [e]) λ_=>(nxt (evK Rs Γ (λi ds=>rn (k+2) i ds) 39) v9 [nth u8 1] ret (.nx [some (.ref p),some (.lst (hs.map D.int)),some (.lst (qs.map D.int)),some (.int (m:Int)),some (.ref T.length),some (.int ((2+w:Nat):Int)),some (.int os[i])]))) (Gs T2 U bl) (FlI (λρ S'=>∃ (T':Sto) (bl:List (List Int)) (o:Option D),ρ=[some (.ref p),some (.lst (hs.map D.int)),some (.lst (qs.map D.int)),some (.int (m:Int)),some (.ref T.length),some (.int ((2+w:Nat):Int)),o]/\S'=Gs T' U bl/\T'.length=T.length/\bl.flatten=os.take (i+1)/\(∀ b∈bl,b≠[])/\bl.length<=i+1/\Ft ns p (N+(6-(i+1))) T'/\∀ q,q≠p->T'[q]?=T[q]?) (λ_ _=>False) (λ_ _=>False)):=λT2 l2 d2 q2=>by
   have e:=λκ:M Fl=>rG T2 U bl (by omega) κ;rw [l2] at e;refine Ok.cgS (m':=λ_=>(nxt (evK Rs Γ (λi ds=>rn (k+2) i ds) 39) v9 [nth u8 1] ret (.nx [some (.ref p),some (.lst (hs.map D.int)),some (.lst (qs.map D.int)),some (.int (m:Int)),some (.ref T.length),some (.int ((2+w:Nat):Int)),some (.int os[i])])) (Gs T2 U (bl++[[]]))) (e _) ?_;exact fin T2 bl [] l2 (by simp [fl]) ne (by simpa using bi) d2 q2
  have eq:=uQ T' U bl;rw [lT'] at eq;refine Ok.first<|Ok.cg (gz ..)<|Ok.eq eq<|Ok.eq (I0 _ _) ?_;cases hb:bl with
  | nil=>
   rw [show List.isEmpty ([]:List (List Int))=true from rfl,if_pos rfl];rw [hb] at fresh;exact fresh T' lT' (fT'.less (by omega)) kT'
  | cons b0 bt=>
   rw [show List.isEmpty (b0 :: bt)=false from rfl,if_neg At];rw [<- hb];refine Ok.bind ((cj (N:=N+(6-(i+1))) (m:=2+w) (fT'.less (by omega)) (by omega) (by omega) (k+1)).mono ?_);rintro _ _ ⟨c,T2,rfl,hc,rfl,l2,f2,k2⟩;have l3:T2.length=T.length:=by rw [l2,lT']
   have k3:∀ q,q≠p->T2[q]?=T[q]?:=λq hq=>by rw [k2 q hq,kT' q hq]
   refine Ok.eq (pR _ _ _)<|Ok.eq (I0 _ _) ?_;by_cases hz:(c:Int)=0
   ·rw [Bb hz,if_pos rfl];exact fresh T2 l3 f2 k3
   ·rw [Bf hz,if_neg At];have hne:bl≠[]:=by rw [hb];exact List.cons_ne_nil _ _
    have e2:bl=bl.dropLast++[bl.getLast hne]:=(List.dropLast_concat_getLast hne).symm;have:=fin T2 bl.dropLast (bl.getLast hne) l3 (by rw [<- e2];exact fl) (λb hb=>ne b (List.dropLast_subset _ hb)) (by rw [<- e2];omega) f2 k3;rw [<- e2] at this;exact this
 ·intro fl S' q;cases fl with
  | rt d=>exact q.elim
  | bk ρ=>exact q.elim
  | ct ρ=>exact q.elim
  | nx ρ=>
   rcases q with ⟨T',bl,o,rfl,rfl,lT',fl,ne,bi,fT',kT'⟩ | q
   ·rw [<- lT'];have eg:=oD T' U bl;rw [<- lo,Dj] at fl;refine Ok.nxt<|Ok.cg (uY ..)<|nx_bind<|Ok.eq (show A6 (.ref T'.length) (Gs T' U bl)=.ok (gq T'.length,bl.length+1) (Gs T' U bl) by
     simp only [A6,eg,gl,Ak,AN]) ?_
    have fll:bl.flatten.length=m:=by rw [fl,lo]
    have c:=z9 (src:=gq T'.length) (l:=List.range bl.length) (h:=λj=>D.ref (T'.length+U.length+1+j)) (g:=λj=>B1 (srt (bl.getD j []))) (p:=λ_=>true) (t:=λ_=>ret true) (f:=λd=>bind (u4 d) λl=>bind (A4 l) λx=>ret x) (S:=Gs T' U bl) (λi=>by rw [vZ eg]) (by rw [AN];exact eO (by omega)) (λ_ _=>rfl) (λj hj _=>by
     have hj:j<bl.length:=AH.mp hj;have eb:=sY (T:=T') (U:=U) (Aj hj);have lb:bl[j].length<64:=by
      have:bl[j].length<=bl.flatten.length:=(List.sublist_flatten_of_mem (Ba hj)).length_le;omega
     have eg:bl.getD j []=bl[j]:=by simp [hj]
     rw [a8 (N7 eb lb),eg];rfl)
    rw [AN] at c;refine Ok.of c<|Ok.eq (a:=.tup _) rfl<|Ok.ret ⟨bl.map srt,?_,⟨?_,?_,?_,λnd=>(aQ bl).nodup_iff.mpr (by rw [fl,eo];exact nd.sublist (DW ..))⟩,(fT'.less (by omega)).keep (rE (w5 fT')),?_,?_⟩
    ·unfold D4;rw [CW];congr 1;rw [DB.mpr (λ_ _=>rfl)];apply Eb;intro i;simp only [AG];by_cases hi:i<bl.length
     ·rw [Dy hi,Aj hi];simp [hi]
     ·rw [AT (by simpa using hi),AT (by simpa using hi)];rfl
    ·rw [(aQ bl).length_eq,fll]
    ·rw [Ak];exact bi
    ·intro x hx;have hx:=(aQ bl).mem_iff.mp hx;rw [fl,eo] at hx;exact List.mem_of_mem_take hx
    ·rw [dO];omega
    ·intro q hq hqp;rw [rE (by omega),kT' q hqp,kT q hq hqp]
   ·exact q.elim
theorem D9 (m:Nat):(rgL m).length=m:=by unfold rgL;rw [Ak,AN]
theorem pM (m:Nat):(rgL m).Nodup:=by
 unfold rgL;rw [BF,CY];exact List.nodup_range.imp λh z=>h (Int.ofNat.inj z)
theorem SR.mono {qs hs:List Int} {m:Nat} {r:List (List Int)} (h:SR qs m r) (s:qs.Perm hs):SR hs m r:=⟨h.fl,h.le,λx hx=>s.mem_iff.mp (h.mem x hx),λnd=>h.nd (s.nodup_iff.mpr nd)⟩
theorem jM {ns:List Int} {p N:Nat} {S:Sto} {hs:List Int} (h:Ft ns p (N+16) S) (hl:hs.length<=6) (h0:0<hs.length) (k:Nat):Ok (rn (k+3) sE [.ref p,.lst (hs.map D.int)]) S λd S'=>∃ (m:Nat) (r:List (List Int)),d=D4 r/\SR hs m r/\0<m/\m<=6/\Ft ns p N S'/\Tk p S S':=by
 rw [rn,i5 (fd:=Aa) rfl,nX,oK];refine Ok.first<|Ok.cg (tY ..)<|Ok.bind ((mT (N:=N+10) (h.less (by omega)) hl k).mono ?_);rintro _ S1 ⟨os,rfl,po,f1,t1⟩;have lo:=po.length_eq;refine Ok.nxt<|Ok.cg (wM ..)<|Ok.eq (G3 _ _)<|Ok.nxt<|Ok.cg (uD ..)<|Ok.bind ((F8 (N:=N+9) (m:=2) f1 (by omega) (by omega) (k+1)).mono ?_);rintro _ S2 ⟨c,rfl,hc,f2,l2,k2⟩;have t2:Tk p S S2:=t1.trans ⟨by omega,λq _ hq=>k2 q hq⟩;refine Ok.eq (pR _ _ S2)<|Ok.eq (I0 _ _) ?_;by_cases hz:(c:Int)=0
 ·refine Ok.pos (Bb hz)<|Ok.eq (G3 _ _)<|Ok.bind ((F8 (N:=N+8) (m:=os.length) f2 (by omega) (by omega) (k+1)).mono ?_);rintro _ S3 ⟨e,rfl,he,f3,l3,k3⟩;have t3:Tk p S S3:=t2.trans ⟨by omega,λq _ hq=>k3 q hq⟩;refine Ok.eq (aH 1 e S3) ?_;refine (X8 (hs:=hs) (N:=N) (m:=1+e) (f3.less (by omega)) (by omega) (by omega) k).mono ?_;rintro _ S4 ⟨r,rfl,R,f4,t4⟩;exact ⟨1+e,r,rfl,R.mono po,by omega,by omega,f4,t3.trans t4⟩
 ·refine Ok.neg (by rw [Bf hz];exact At) ?_;refine (X8 (hs:=hs) (N:=N) (m:=os.length) (f2.less (by omega)) (by omega) (by omega) k).mono ?_;rintro _ S4 ⟨r,rfl,R,f4,t4⟩;exact ⟨os.length,r,rfl,R.mono po,by omega,by omega,f4,t2.trans t4⟩
def V6 (rs:List (List (List Int))):D:=.tup (rs.map D4)
abbrev Rnd:=List (List Int)
def atH (r:Rnd) (h:Int):Nat:=(r.findIdx? λb=>decide (h∈b)).getD 0
def sn (r:Rnd) (h:Int):List Int:=srt ((r.take (atH r h+1)).flatten)
def vw:List Rnd->Int->D
 | [],h=>.tup [.int h,.tup []]
 | r :: rs,h=>.tup [.int h,.tup ((sn r h).map (vw rs))]
def hin:List Rnd->Int->List Int
 | [],h=>[h]
 | r :: rs,h=>h :: (sn r h).flatMap (hin rs)
abbrev gr (gs:List Int) (h:Int):Int:=gs.getD h.toNat 0
def plc (gs:List Int) (f:Int->Nat):List Rnd->Int->D
 | [],h=>.tup [.int (f h:Int),.tup []]
 | r :: rs,h=>.tup [.int (f h:Int),.tup (f8 .non (sPl ((sn r h).map (gr gs))) ((sn r h).map (plc gs f rs)))]
def Wv (m:Nat):List Rnd->Int->Prop
 | [],h=>h∈rgL m
 | r :: rs,h=>h∈r.flatten/\(∀ x∈r.flatten,Wv m rs x)/\r.flatten.Nodup/\r.flatten.length<=6/\r.length<=6
theorem pN {r:Rnd} {h:Int} (hh:h∈r.flatten):∃ j,r.findIdx? (λb=>decide (h∈b))=some j/\atH r h=j/\j<r.length:=by
 obtain ⟨b,hb,hx⟩:=Dk.mp hh;cases e:r.findIdx? (λb=>decide (h∈b)) with
 | none=>
  rw [DT] at e;have:=e b hb;simp [hx] at this
 | some j=>
  refine ⟨j,rfl,by unfold atH;rw [e];rfl,?_⟩;exact (AZ.mp e).1
theorem M5 {r:Rnd} {h x:Int} (hx:x∈sn r h):x∈r.flatten:=by
 have hx:=(d4 _).mem_iff.mp hx;obtain ⟨b,hb,hq⟩:=Dk.mp hx;exact Dk.mpr ⟨b,List.mem_of_mem_take hb,hq⟩
theorem bB (r:Rnd) (n:Nat):(r.take n).flatten.Sublist r.flatten:=by
 conv=>rhs;rw [<- Dc n r,Ce]
 exact List.sublist_append_left ..
theorem pH {r:Rnd} {h:Int} (nd:r.flatten.Nodup):(sn r h).Nodup:=(d4 _).nodup_iff.mpr (nd.sublist (bB r _))
theorem dm (r:Rnd) (h:Int):(sn r h).length<=r.flatten.length:=by
 unfold sn;rw [(d4 _).length_eq];exact (bB r _).length_le
theorem eC {m:Nat}:∀ {rs:List Rnd} {h:Int},Wv m rs h->∀ x∈hin rs h,x∈rgL m
 | [],h,w,x,hx=>by rw [AU.mp hx];exact w
 | r :: rs,h,w,x,hx=>by
  rcases AA.mp hx with rfl | hx
  ·exact eC (w.2.1 x w.1) x (by cases rs <;> simp [hin])
  ·obtain ⟨c,hc,hx⟩:=By.mp hx;exact eC (w.2.1 c (M5 hc)) x hx
def few:Nat->Nat
 | 0=>1
 | t+1=>1+6 * few t
theorem aT {m:Nat}:∀ {rs:List Rnd} {h:Int},Wv m rs h->(hin rs h).length<=few rs.length
 | [],h,w=>Ap _
 | r :: rs,h,w=>by
  have a:∀ l:List Int,(∀ x∈l,x∈r.flatten)->(l.flatMap (hin rs)).length<=l.length * few rs.length:=λl=>by
   induction l with
   | nil=>intro _;simp
   | cons x l ih=>
    intro hs;rw [List.flatMap_cons,Ay,Bg,Nat.add_mul];have:=aT (w.2.1 x (hs x (by simp)));have:=ih λy hy=>hs y (AC _ hy);omega
  have b:=a (sn r h) λx hx=>M5 hx;have c:=dm r h;have d:(sn r h).length * few rs.length<=6 * few rs.length:=Nat.mul_le_mul_right _ (by have:=w.2.2.2.1;omega);show ((sn r h).flatMap (hin rs)).length+1<=1+6 * few rs.length;omega
theorem iG:∀ {t:Nat},t<=4->few t<=1555
 | 0,_ | 1,_ | 2,_ | 3,_ | 4,_=>by decide
 | t+5,h=>by omega
theorem bh {n:Nat} (h:n<=5000):n<sizeLine:=DM h (by decide)
theorem oC {ns:List Int} {es:List D} {S:Sto} (h:es.length+ns.length<=4000):i6 (A7 (ns.map D.int)) (λ_=>ret true) (λd2=>ret d2) (ns.length+1) 0 es S=.ok (es++ns.map D.int) S:=by
 obtain ⟨es',S',e,rfl,rfl⟩:=G0 (src:=A7 (ns.map D.int)) (t:=λ_=>ret true) (f:=λd2=>ret d2) (n:=ns.length) (λi S' es'=>S'=S/\es'=es++(ns.take i).map D.int) (λS' es' _=>by show some (ns.map D.int)[ns.length]?=_;rw [AT (by simp)]) (λi S' es' hi ⟨h1,h2⟩=>by
  refine ⟨.int ns[i],true,S',by show some (ns.map D.int)[i]?=_;rw [m9 (Aj hi)],rfl,?_⟩;rw [if_pos rfl];refine ⟨.int ns[i],S',rfl,?_,h1,?_⟩
  ·rw [h2,Ay,Ak,Bo];exact bh (by omega)
  ·rw [h2,AO hi,BG,BB];rfl) ns.length 0 S es (by omega) ⟨rfl,by simp⟩
 rw [e,Dj]
theorem ci {cs:List Int} {F:Int->D} {G:Int->List Int} {C1:D->M (Src×Nat)} {S:Sto} (hc:∀ c∈cs,C1 (F c) S=.ok (A7 ((G c).map D.int),(G c).length+1) S) (hl:(cs.flatMap G).length<=4000):∀ (k i:Nat),k+i=cs.length->A0 (A7 (cs.map F)) (λ_=>ret true) C1 (λ_ _=>ret true) (λ_ d2=>ret d2) (k+1) i (((cs.take i).flatMap G).map D.int) S=.ok ((cs.flatMap G).map D.int) S
 | 0,i,hk=>by
  have e:(cs.map F)[i]?=none:=AT (by rw [Ak];omega);have s:A7 (cs.map F) i S=some none:=by show some (cs.map F)[i]?=_;rw [e]
  simp only [A0,s];rw [Cp (by omega)]
 | k+1,i,hk=>by
  have hi:i<cs.length:=by omega
  have s:A7 (cs.map F) i S=some (some (F cs[i])):=by show some (cs.map F)[i]?=_;rw [m9 (Aj hi)]
  have tk:(cs.take (i+1)).flatMap G=(cs.take i).flatMap G++G cs[i]:=by rw [AO hi,CJ];simp
  have ln:((cs.take (i+1)).flatMap G).length<=(cs.flatMap G).length:=by
   conv=>rhs;rw [<- Dc (i+1) cs,CJ,Ay]
   omega
  rw [tk,Ay] at ln;rw [A0];simp only [s];rw [a8 (show (ret true:M Bool) S=.ok true S from rfl),if_pos rfl,a8 (hc _ (Ba hi)),a8 (oC (S:=S) (es:=((cs.take i).flatMap G).map D.int) (ns:=G cs[i]) (by rw [Ak];omega))];rw [<- BG,<- tk];exact ci hc hl k (i+1) (by omega)
theorem pK {m:Nat} (S:Sto):∀ {rs:List Rnd} {h:Int} (k:Nat),Wv m rs h->rs.length<=4->rn (k+(rs.length+1)) pV [vw rs h] S=.ok (.lst ((hin rs h).map D.int)) S
 | [],h,k,w,hl=>by
  refine U1 ?_;rw [show k+(([]:List Rnd).length+1)=k+1 from rfl,rn,i5 (fd:=Af) rfl,jQ,jp];refine Ok.first<|Ok.cg (vL ..) ?_;refine Ok.eq (a:=.nx [some (vw [] h),some (.int h),some (.tup [])]) (S1:=S) rfl<|Ok.nxt<|Ok.cg (tQ ..) ?_;exact nx_bind<|Ok.eq (D2 _ S)<|Ok.of (show _=R.ok [] S from rfl)<|Ok.eq (a:=.lst [.int h]) (S1:=S) rfl<|Ok.ret ⟨rfl,rfl⟩
 | r :: rs,h,k,w,hl=>by
  refine U1 ?_;have hl':rs.length+1<=4:=hl;rw [show k+((r :: rs).length+1)=(k+(rs.length+1))+1 from rfl,rn,i5 (fd:=Af) rfl,jQ,jp];refine Ok.first<|Ok.cg (vL ..) ?_;refine Ok.eq (a:=.nx [some (vw (r :: rs) h),some (.int h),some (.tup ((sn r h).map (vw rs)))]) (S1:=S) rfl<|Ok.nxt<|Ok.cg (tQ ..) ?_;have b:=aT w;have fl:=iG hl;have b':((sn r h).flatMap (hin rs)).length+1<=few (r :: rs).length:=b;refine nx_bind<|Ok.eq (D2 _ S) ?_;rw [Ak];have c:=ci (cs:=sn r h) (F:=vw rs) (G:=hin rs) (C1:=λd1=>bind (rn (k+(rs.length+1)) pV [d1]) λx4=>bind (A6 x4) λsm5=>ret sm5) (S:=S) (λc hc=>by
   rw [a8 (pK S k (w.2.1 c (M5 hc)) (by omega))];show R.ok (A7 ((hin rs c).map D.int),((hin rs c).map D.int).length+1) S=_;rw [Ak]) (by omega) (sn r h).length 0 (by omega)
  refine Ok.of c ?_;refine Ok.eq (a:=.lst (.int h :: ((sn r h).flatMap (hin rs)).map D.int)) (S1:=S) ?_<|Ok.ret ⟨rfl,rfl⟩;show (if 1+(((sn r h).flatMap (hin rs)).map D.int).length<=sizeLine then ret (D.lst ([D.int h]++((sn r h).flatMap (hin rs)).map D.int)) else bad) S=_;rw [if_pos (by rw [Ak];exact Ck (bh (by omega)))];rfl
section
variable {m:Nat} {gs:List Int} (gl:gs.length=m) (m6:m<=6)
include gl m6
theorem jH {h:Int} (hh:h∈rgL m):∃ j:Nat,h=(j:Int)/\j<m:=by
 unfold rgL at hh;obtain ⟨j,hj,rfl⟩:=BM.mp hh;exact ⟨j,rfl,AH.mp hj⟩
theorem pY {h:Int} (hh:h∈rgL m) (S:Sto):ixD (.tup (gs.map D.int)) (.int h) S=.ok (.int (gr gs h)) S:=by
 obtain ⟨j,rfl,hj⟩:=jH gl m6 hh;have:j<gs.length:=by omega
 refine xV S ?_;rw [AG,Aj this];show some (D.int gs[j])=_;unfold gr;rw [BD,Aw,Aj this];rfl
theorem iM (nd:gs.Nodup) {a b:Int} (ha:a∈rgL m) (hb:b∈rgL m) (e:gr gs a=gr gs b):a=b:=by
 obtain ⟨i,rfl,hi⟩:=jH gl m6 ha;obtain ⟨j,rfl,hj⟩:=jH gl m6 hb;unfold gr at e;rw [BD,BD,Aw,Aw,Aj (by omega),Aj (by omega)] at e;have:=(Dd nd).mp e;omega
end
def rkH (gs:List Int) (hs:List Int) (x:Int):Nat:=hs.countP λy=>decide (gr gs y<gr gs x)
theorem sd {v l:List Int} (nd:v.Nodup) (h:∀ x∈v,x∈l):v.length<=l.length:=by
 induction v generalizing l with
 | nil=>exact Bj _
 | cons a v ih=>
  have ha:a∈l:=h a (Av ..);have nd':=BV.mp nd;have e:=Cb ha;have:=ih (l:=l.erase a) nd'.2 λx hx=>(Cy (λz=>nd'.1 (by rw [<- z];exact hx))).mpr (h x (AC _ hx));have:=List.length_pos_of_mem ha;rw [Bg];omega
theorem jh {l:List Int} {m:Nat} (h:∀ x∈l,x∈rgL m):(e9 l).length<=m:=by
 have s:=sd (L6 l) (λx hx=>h x (uniq_mem.mp hx));rw [D9] at s;exact s
theorem gU {gs:List Int} {m:Nat} (gl:gs.length=m) (m6:m<=6) (nd:gs.Nodup) {l:List Int} (hl:∀ x∈l,x∈rgL m) {x:Int} (hx:x∈l):(srt (e9 (l.map (gr gs)))).findIdx? (λz=>z==gr gs x)=some (rkH gs (srt (e9 l)) x):=by
 have ix:=kA (gr gs x) _ (ao (e9 (l.map (gr gs)))) ((d4 _).mem_iff.mpr (uniq_mem.mpr (BR hx)));rw [ix,nE];have p:(e9 (l.map (gr gs))).Perm ((e9 l).map (gr gs)):=by
  rw [Cz (L6 _)]
  ·intro z;rw [uniq_mem,BM,BM];constructor
   ·rintro ⟨y,hy,rfl⟩;exact ⟨y,uniq_mem.mpr hy,rfl⟩
   ·rintro ⟨y,hy,rfl⟩;exact ⟨y,uniq_mem.mp hy,rfl⟩
  ·have:=L6 l;rw [BF,CY];rw [BF] at this;exact this.imp_of_mem λ{a b} ha hb ne e=>ne (iM gl m6 nd (hl a (uniq_mem.mp ha)) (hl b (uniq_mem.mp hb)) e)
 congr 1;rw [p.countP_eq,List.countP_map];unfold rkH;rw [(d4 (e9 l)).countP_eq];rfl
theorem Q0 {gs hs:List Int} {x y:Int} (hx:x∈hs):rkH gs hs x<rkH gs hs y↔gr gs x<gr gs y:=by
 have e:∀ z,rkH gs hs z=rk (hs.map (gr gs)) (gr gs z):=λz=>by unfold rkH rk;rw [List.countP_map];rfl
 rw [e,e];exact qN (BR hx)
theorem fF {gs:List Int} {f:Int->Nat} {rs:List Rnd}:∀ cs:List Int,B9 (cs.map (plc gs f rs))=some (cs.map λc=>(f c:Int))
 | []=>rfl
 | c :: cs=>by
  have e:∃ x,plc gs f rs c=.tup (.int (f c:Int) :: x):=by cases rs <;> exact ⟨_,rfl⟩
  obtain ⟨x,e⟩:=e;show B9 (plc gs f rs c :: cs.map (plc gs f rs))=_;rw [e];show (B9 (cs.map (plc gs f rs))).map _=_;rw [fF cs];rfl
theorem jb {cs:List Int} {f g:Int->Int} (h:∀ a∈cs,∀ b∈cs,(f a<f b↔g a<g b)):sPl (cs.map f)=sPl (cs.map g):=by
 unfold sPl;rw [Ak,Ak];refine iC λi j hi hj=>?_;unfold ltK;have e:∀ {q:Int->Int} {i:Nat} (hi:i<cs.length),(cs.map q).getD i 0=q cs[i]:=λhi=>by
  rw [Aw,AG,Aj hi];rfl
 rw [e hi,e hj,e hi,e hj];exact decide_eq_decide.mpr (h _ (Ba hi) _ (Ba hj))
theorem ek {cs:List Int} {F G:Int->D} {f:D->M D} {S:Sto} (hl:cs.length<=4000) (h:∀ c∈cs,f (F c) S=.ok (G c) S):i6 (A7 (cs.map F)) (λ_=>ret true) f (cs.length+1) 0 [] S=.ok (cs.map G) S:=by
 have c:=z9 (src:=A7 (cs.map F)) (l:=cs) (h:=F) (g:=G) (p:=λ_=>true) (t:=λ_=>ret true) (f:=f) (S:=S) (λi=>rfl) (bh (by omega)) (λ_ _=>rfl) λa ha _=>h a ha;rw [DB.mpr (λ_ _=>rfl)] at c;exact c
section
variable {m:Nat} {gs:List Int} (gl:gs.length=m) (m6:m<=6) (nd:gs.Nodup) {l:List Int} (hl:∀ x∈l,x∈rgL m)
include gl m6 nd hl
theorem qZ {x:Int} (hx:x∈l):rkH gs (srt (e9 l)) x<=6:=by
 have h1:rkH gs (srt (e9 l)) x<=(srt (e9 l)).length:=List.countP_le_length;rw [(d4 _).length_eq] at h1;have:=jh hl;omega
theorem vx (S:Sto):∀ {rs:List Rnd} {h:Int} (k:Nat),Wv m rs h->(∀ x∈hin rs h,x∈l)->rn (k+(rs.length+1)) wN [.tup (gs.map D.int),.lst ((srt (e9 (l.map (gr gs)))).map D.int),vw rs h] S=.ok (plc gs (rkH gs (srt (e9 l))) rs h) S:=by
 have core:∀ {h:Int},h∈l->ixD (.tup (gs.map D.int)) (.int h) S=.ok (.int (gr gs h)) S/\R1 (.lst ((srt (e9 (l.map (gr gs)))).map D.int)) [.int (gr gs h)] S=.ok (.int (rkH gs (srt (e9 l)) h:Int)) S:=λ{h} hh=>
  ⟨pY gl m6 (hl h hh) S,lx (by have:=qZ gl m6 nd hl hh;omega) (gU gl m6 nd hl hh) S⟩
 intro rs;induction rs with
 | nil=>
  intro h k w sub;refine U1 ?_;obtain ⟨c1,c2⟩:=core (sub h (by simp [hin]));rw [show k+(([]:List Rnd).length+1)=k+1 from rfl,rn,i5 (fd:=Ae) rfl,kD,jz];refine Ok.first<|Ok.cg (tU ..) ?_;refine Ok.eq (a:=.nx [some (.tup (gs.map D.int)),some (.lst ((srt (e9 (l.map (gr gs)))).map D.int)),some (vw [] h),some (.int h),some (.tup []),none]) (S1:=S) rfl<|Ok.nxt<|Ok.cg (vd ..) ?_;refine nx_bind<|Ok.eq (D2 _ S)<|Ok.of (show _=R.ok [] S from rfl)<|Ok.nxt<|Ok.cg (uP ..) ?_;refine Ok.eq (a:=_) (S1:=S) rfl<|Ok.eq c1<|Ok.eq c2<|Ok.eq (a:=.lst []) (S1:=S) rfl<|Ok.eq (a:=.tup []) (S1:=S) rfl<|Ok.ret ⟨rfl,rfl⟩
 | cons r rs ih=>
  intro h k w sub;refine U1 ?_;obtain ⟨c1,c2⟩:=core (sub h (by simp [hin]));have inl:∀ c∈sn r h,c∈l:=λc hc=>sub c (AC _ (By.mpr ⟨c,hc,by cases rs <;> simp [hin]⟩));have sl:=dm r h;have sl6:(sn r h).length<=6:=by have:=w.2.2.2.1;omega
  rw [show k+((r :: rs).length+1)=(k+(rs.length+1))+1 from rfl,rn,i5 (fd:=Ae) rfl,kD,jz];refine Ok.first<|Ok.cg (tU ..) ?_;refine Ok.eq (a:=.nx [some (.tup (gs.map D.int)),some (.lst ((srt (e9 (l.map (gr gs)))).map D.int)),some (vw (r :: rs) h),some (.int h),some (.tup ((sn r h).map (vw rs))),none]) (S1:=S) rfl<|Ok.nxt<|Ok.cg (vd ..) ?_;refine nx_bind<|Ok.eq (D2 _ S) ?_;rw [Ak];refine Ok.of (ek (cs:=sn r h) (F:=vw rs) (G:=plc gs (rkH gs (srt (e9 l))) rs) (by omega) λc hc=>?_)<|Ok.nxt<|Ok.cg (uP ..) ?_
  ·rw [a8 (ih k (w.2.1 c (M5 hc)) λx hx=>sub x (AC _ (By.mpr ⟨c,hc,hx⟩)))];rfl
  have sk:w9 (.lst ((sn r h).map (plc gs (rkH gs (srt (e9 l))) rs))) S=.ok (.lst (f8 .non (sPl ((sn r h).map (gr gs))) ((sn r h).map (plc gs (rkH gs (srt (e9 l))) rs)))) S:=by
   unfold w9;dsimp only;rw [fF];dsimp only;rw [if_pos (by rw [Ak];omega),jb (f:=λc=>(rkH gs (srt (e9 l)) c:Int)) (g:=gr gs) λa ha b hb=>?_]
   ·rfl
   ·have:=Q0 (gs:=gs) (hs:=srt (e9 l)) (x:=a) (y:=b) ((d4 _).mem_iff.mpr (uniq_mem.mpr (inl a ha)));omega
  refine Ok.eq (a:=_) (S1:=S) rfl<|Ok.eq c1<|Ok.eq c2<|Ok.eq sk<|Ok.eq (a:=.tup (f8 .non (sPl ((sn r h).map (gr gs))) ((sn r h).map (plc gs (rkH gs (srt (e9 l))) rs)))) (S1:=S) rfl<|Ok.ret ⟨rfl,rfl⟩
end
theorem pU {m:Nat} {gs:List Int} (gl:gs.length=m) (m6:m<=6) (nd:gs.Nodup) {rs:List Rnd} {h:Int} (w:Wv m rs h) (h4:rs.length<=4) (k:Nat) (S:Sto):rn (k+(rs.length+2)) wO [.tup (gs.map D.int),vw rs h] S=.ok (plc gs (rkH gs (srt (e9 (hin rs h)))) rs h) S:=by
 refine U1 ?_;have hb:=eC w;have hlen:=aT w;have hf:=iG h4;rw [show k+(rs.length+2)=(k+(rs.length+1))+1 from rfl,rn,i5 (fd:=rZ) rfl,sS];refine nx_bind<|Ok.eq (pK S k w h4)<|Ok.eq (a:=(A7 ((hin rs h).map D.int),((hin rs h).map D.int).length+1)) (S1:=S) rfl ?_;rw [Ak];refine Ok.of (ek (cs:=hin rs h) (F:=D.int) (G:=λc=>D.int (gr gs c)) (by omega) λc hc=>?_) ?_
 ·rw [a8 (pY gl m6 (hb c hc) S)];rfl
 have e:(hin rs h).map (λc=>D.int (gr gs c))=((hin rs h).map (gr gs)).map D.int:=by rw [CW];rfl
 rw [e];have u:(e9 ((hin rs h).map (gr gs))).length<=m:=by
  have s:=sd (L6 ((hin rs h).map (gr gs))) (l:=(rgL m).map (gr gs)) λx hx=>by
   obtain ⟨y,hy,rfl⟩:=BM.mp (uniq_mem.mp hx);exact BR (hb y hy)
  rw [Ak,D9] at s;exact s
 refine Ok.eq (kH (by rw [Ak];omega) (by omega) S) ?_;exact Ok.eq (vx gl m6 nd hb S k w λx hx=>hx)<|Ok.ret ⟨rfl,rfl⟩
def B13:List Int:=[0,1,2,8,9,10,11,99,100,101,100000000,999999999,1000000000]
theorem rm:B13.Nodup:=by decide
theorem rH:∀ x∈B13,0<=x/\x<=1000000000:=by decide
structure GOk (g:List Int) (m:Nat):Prop where
 l:g.length=m
 nd:g.Nodup
 bd:∀ x∈g,0<=x/\x<=1000000000
theorem Y7 {ns:List Int} {p N m:Nat} {S:Sto} (F:Ft ns p (N+m) S) (h6:m<=6) (k:Nat):Ok (rn (k+2) uA [.ref p,.int (m:Int)]) S λd S'=>Ft ns p N S'/\(∃ g:List Int,d=.tup (g.map D.int)/\GOk g m)/\Tk p S S':=by
 rw [rn,i5 (fd:=pv) rfl,tE];refine Ok.eq (S1:=S) (a:=.int 100000000) (by kernel_rfl)<|Ok.eq (S1:=S) (a:=.int 1000000000) (by kernel_rfl)<|Ok.eq (S1:=S) (a:=.int 999999999) (by kernel_rfl)<|Ok.eq (S1:=S) (a:=.int 1000000000) (by kernel_rfl)<|Ok.eq (show newL [(.int 0),(.int 1),(.int 2),(.int 8),(.int 9),(.int 10),(.int 11),(.int 99),(.int 100),(.int 101),.int 100000000,.int 999999999,.int 1000000000] S=.ok (.ref S.length) (S++[.lst (B13.map D.int)]) from rfl) ?_;have F1:Ft ns p (N+m) (S++[.lst (B13.map D.int)]):=F.keep (by rw [Aq (w5 F)]);have e1:(S++[O.lst (B13.map D.int)])[S.length]?=some (.lst (B13.map D.int)):=by simp
 have qp:S.length≠p:=by have:=w5 F;omega
 have T1:Tk p S (S++[O.lst (B13.map D.int)]):=⟨by simp,λq hq _=>by rw [Aq hq]⟩;generalize S++[O.lst (B13.map D.int)]=S1 at F1 e1 T1;obtain ⟨q,hqe⟩:∃ q,q=S.length:=⟨_,rfl⟩;rw [<- hqe] at e1 qp;rw [show D.ref S.length=D.ref q by rw [hqe]];refine nx_bind<|Ok.eq (U0 (n:=m) (by omega) _) ((Ok.comp (n:=m) (λi S' es=>Ft ns p (N+(m-i)) S'/\Tk p S S'/\∃ left g:List Int,S'[q]?=some (.lst (left.map D.int))/\es=g.map D.int/\g.length=i/\left.length=13-i/\(left++g).Perm B13) (λS' es _=>Q3 m S') ?_ ⟨F1.less (by omega),T1,B13,[],e1,rfl,rfl,rfl,by simp⟩).mono ?_)
 ·rintro i S' es hi ⟨F2,T2,left,g,e2,rfl,gl,ll,pm⟩;refine ⟨.int (i:Int),aY hi S',Ok.ret ?_⟩;rw [if_pos rfl];refine Ok.eq (S1:=S') (a:=left.map D.int) (by simp only [lstOf,e2])<|Ok.eq (S1:=S') (a:=.int (left.length:Int)) (by simp only [D5,e2,Ak])<|Ok.bind ((F8 (N:=N+(m-(i+1))) (m:=left.length) (F2.less (by omega)) (by omega) (by omega) k).mono ?_);rintro _ S3 ⟨j,rfl,hj,F3,l3,o3⟩;have e3:S3[q]?=some (.lst (left.map D.int)):=by rw [o3 q qp];exact e2
  refine Ok.eq (pQ e3 (m9 (Aj hj)) (by omega))<|Ok.ret ⟨by rw [Ak,AD];omega,F3.keep (by rw [AV qp]),⟨by rw [List.length_set,l3];exact T2.1,λx hx hp=>by rw [AV (by omega),o3 x hp];exact T2.2 x hx hp⟩,left.eraseIdx j,g++[left[j]],?_,by rw [BG];rfl,by simp [gl],by rw [List.length_eraseIdx_of_lt hj];omega,?_⟩
  ·rw [Bi (As.mp e3).1,M6]
  ·refine List.Perm.trans ?_ pm;have p1:(left[j] :: left.eraseIdx j).Perm left:=af hj;refine List.Perm.trans ?_ (p1.append_right g);rw [<- BB];exact List.perm_append_comm
 ·rintro es S' ⟨F2,T2,left,g,_,rfl,gl,_,pm⟩;refine Ok.eq (a:=.tup (g.map D.int)) rfl<|Ok.ret ⟨F2.less (by omega),⟨g,rfl,gl,?_,λx hx=>rH x (pm.mem_iff.mp (Au _ hx))⟩,T2⟩;exact (DZ.mp (pm.nodup_iff.mpr rm)).2.1
theorem og (ns:List Int) (S:Sto) (k:Nat):∃ ms:List Int,rn (k+1) pi [.scr (ns.map D.int)] S=.ok (.ref S.length) (S++[d6 ms 0 0 0]):=by
 obtain ⟨ms,em⟩:=iP ns;refine ⟨ms,?_⟩;rw [rn,i5 (fd:=jc) rfl,mW,a8 (show slD (.scr (ns.map D.int)) none (some 63) S=.ok (.lst (E9 (ns.map D.int) none (some 63))) S from rfl),em];rfl
theorem eL (x:Str) (S:Sto):m7 .NotEq (.str x) (.str x) S=.ok (.bl false) S:=by
 show R.ok (D.bl (!decide (x=x))) S=_;rw [Bb rfl];rfl
theorem tT {r:Rnd} {h:Int} (hh:h∈r.flatten) (f6:r.flatten.length<=6) (r6:r.length<=6) (k:Nat) (S:Sto):Ok (rn (k+1) ve [D4 r,.int h]) S λd S'=>d=.lst ((sn r h).map D.int)/\Ex S S':=by
 obtain ⟨j,ej,ea,hj⟩:=pN hh;obtain ⟨_,j1,j2⟩:=AZ.mp ej;rw [rn,i5 (fd:=Ab) rfl,qD,sF];refine Ok.first<|Ok.cg (xK ..)<|Ok.eq (show newL [] S=.ok (.ref S.length) (S++[.lst []]) from rfl)<|Ok.nxt<|Ok.cg (wR ..) ?_;unfold D4;refine Ok.eq (D2 _ _) ?_;rw [Ak];have at_:∀ x:O,(S++[x])[S.length]?=some x:=λx=>by rw [AL (Ap _)];simp
 refine Ok.bind ((Ok.for_ (n:=r.length) (λi ρ S'=>i<=j/\S'=S++[.lst ((r.take i).flatten.map D.int)]/\∃ o3:Option D,ρ=[some (.tup (r.map B1)),some (.int h),some (.ref S.length),o3]) (λρ S'=>S'=S++[.lst ((r.take (j+1)).flatten.map D.int)]/\∃ o3:Option D,ρ=[some (.tup (r.map B1)),some (.int h),some (.ref S.length),o3]) (λ_ _=>False) ?_ ?_ r.length 0 _ (S++[.lst []]) (by omega) ⟨Bj _,by simp,_,rfl⟩).mono ?_)
 ·intro ρ S' _;show some (r.map B1)[r.length]?=some none;rw [AT (by simp)]
 ·rintro i ρ S' hi ⟨ij,rfl,o3,rfl⟩;have eb:r[i]?=some r[i]:=Aj hi;have tk:(r.take (i+1)).flatten=(r.take i).flatten++r[i]:=by rw [AO hi,Ce];simp
  have ln:=(bB r (i+1)).length_le;rw [tk,Ay] at ln;refine ⟨B1 r[i],[some (.tup (r.map B1)),some (.int h),some (.ref S.length),some (B1 r[i])],by show some (r.map B1)[i]?=_;rw [m9 eb],rfl,?_⟩;unfold ei;rw [eF];refine Ok.first<|Ok.cg (lY ..)<|Ok.eq (J5 (at_ _)) ?_;unfold B1;refine Ok.eq (pF (at_ _) (by rw [Ak,Ak,AD];omega)) ?_;have es:(S++[O.lst ((r.take i).flatten.map D.int)]).set S.length (.lst ((r.take i).flatten.map D.int++r[i].map D.int))=S++[.lst ((r.take (i+1)).flatten.map D.int)]:=by
   rw [Bq _ _ (Ap _),tk,BG];simp
  rw [es];refine Ok.nxt<|Ok.cg (kP ..)<|Ok.eq (nY h r[i] _)<|Ok.eq (I0 _ _) ?_;by_cases hm:h∈r[i]
  ·rw [if_pos (Bb hm)];have:i=j:=by
    rcases Nat.lt_or_eq_of_le ij with q | q
    ·have:=j2 i q;simp [hm] at this
    ·exact q
   subst this;exact Ok.ret ⟨rfl,_,rfl⟩
  ·rw [if_neg (by simp [hm])];have:i≠j:=λq=>by subst q;simp [hm] at j1
   exact Ok.ret ⟨by omega,rfl,_,rfl⟩
 ·intro fl S' q;cases fl with
  | nx ρ=>
   rcases q with ⟨ij,e,o3,rfl⟩ | ⟨e,o3,rfl⟩
   ·omega
   ·subst e;have ln:=(bB r (j+1)).length_le;refine Ok.nxt<|Ok.cg (wb ..)<|Ok.eq (N7 (at_ _) (by omega)) (Ok.ret ⟨?_,_,rfl⟩);unfold sn;rw [ea]
  | rt d=>exact q.elim
  | bk ρ=>exact q.elim
  | ct ρ=>exact q.elim
theorem iQ (rs:List Rnd) (S:Sto):bp (V6 rs) S=.ok (!rs.isEmpty) S:=by cases rs <;> rfl
theorem uJ (qs:List Rnd) (r:Rnd) (S:Sto):ixD (V6 (r :: qs).reverse) (.int (-1)) S=.ok (D4 r) S:=by
 unfold V6;exact fW S (by simp)
theorem wA (qs:List Rnd) (r:Rnd) (S:Sto):slD (V6 (r :: qs).reverse) none (some (-1)) S=.ok (V6 qs.reverse) S:=by
 show R.ok (D.tup (E9 (((r :: qs).reverse).map D4) none (some (-1)))) S=_;unfold E9 V6;rw [HT.sIx_none];have e:HT.sIx (((r :: qs).reverse).map D4).length (((r :: qs).reverse).map D4).length (some (-1))=qs.length:=by
  rw [Ak,DA];show (if (-1:Int)<0 then ((-1:Int)+((qs.length+1:Nat):Int)).toNat else min (-1:Int).toNat (qs.length+1))=_;rw [if_pos (by decide)];omega
 rw [e,List.drop_zero,Nat.sub_zero,DX,BG];rw [List.take_left' (by simp)]
theorem lI {m:Nat}:∀ {qs:List Rnd} {h:Int} (k:Nat),Wv m qs h->∀ S,Ok (rn (k+(qs.length+3)) tu [V6 qs.reverse,.int h]) S λd S'=>d=vw qs h/\Ex S S'
 | [],h,k,w,S=>by
  rw [show k+(([]:List Rnd).length+3)=(k+2)+1 from rfl,rn,i5 (fd:=my) rfl,kY];refine Ok.eq (iQ [] S) ?_;rw [if_pos (by simp)];exact Ok.ret ⟨rfl,Ex.refl S⟩
 | r :: qs,h,k,w,S=>by
  rw [show k+((r :: qs).length+3)=(k+(qs.length+3))+1 from rfl,rn,i5 (fd:=my) rfl,kY];refine Ok.eq (iQ _ S) ?_;rw [if_neg (by simp)];refine Ok.eq (a:=.int (-1)) (S1:=S) rfl<|Ok.eq (a:=some (-1)) (S1:=S) rfl<|Ok.eq (wA qs r S) ?_;refine nx_bind<|Ok.eq (a:=.int (-1)) (S1:=S) rfl<|Ok.eq (uJ qs r S)<|Ok.bind ((tT w.1 w.2.2.2.1 w.2.2.2.2 (k+(qs.length+2)) S).mono ?_);rintro _ S1 ⟨rfl,x1⟩;refine Ok.eq (a:=(A7 ((sn r h).map D.int),((sn r h).map D.int).length+1)) (S1:=S1) rfl ?_;rw [Ak];have sl:=dm r h;refine (Ok.comp (n:=(sn r h).length) (λi S' es=>es=((sn r h).take i).map (vw qs)/\Ex S S') (λS' es _=>?_) ?_ ⟨rfl,x1⟩).mono ?_
  ·show some ((sn r h).map D.int)[(sn r h).length]?=_;rw [AT (by simp)]
  ·rintro i S' es hi ⟨rfl,ex⟩;have eb:(sn r h)[i]?=some (sn r h)[i]:=Aj hi;refine ⟨.int (sn r h)[i],by show some ((sn r h).map D.int)[i]?=_;rw [m9 eb],Ok.ret ?_⟩;rw [if_pos rfl];refine Ok.bind ((lI k (w.2.1 _ (M5 (Ba hi))) S').mono ?_);rintro _ S2 ⟨rfl,x2⟩;refine Ok.ret ⟨by rw [Ak,Bo];exact bh (by have:=w.2.2.2.1;omega),?_,ex.trans x2⟩;rw [AO hi,BG];rfl
  ·rintro es S' ⟨rfl,ex⟩;rw [Dj];exact Ok.eq (a:=.tup ((sn r h).map (vw qs))) (S1:=S') rfl<|Ok.ret ⟨rfl,ex⟩
def sb (s:Nat):D:=.tup ((List.range s).map λ(p:Nat)=>D.tup [.int (p:Int),.tup []])
def kn (m:Nat):List D:=(List.range m).flatMap λs=>(List.range (s+1)).map λ(p:Nat)=>D.tup [.int (p:Int),sb (s+1)]
theorem xI (S:Sto):rn 11 bb [.int 1] S=.ok (.ref S.length) (S++[.lst (kn 1)]):=by kernel_rfl
theorem xH (S:Sto):rn 11 bb [.int 2] S=.ok (.ref S.length) (S++[.lst (kn 2)]):=by kernel_rfl
theorem wj (S:Sto):rn 11 bb [.int 3] S=.ok (.ref S.length) (S++[.lst (kn 3)]):=by kernel_rfl
theorem wt (S:Sto):rn 11 bb [.int 4] S=.ok (.ref S.length) (S++[.lst (kn 4)]):=by kernel_rfl
theorem rgc {n:Nat} (h:n<1000) (G:D->D) (S:Sto):Ok (bind (n8 [.int (n:Int)]) λsm=>i6 sm.1 (λ_=>ret true) (λd=>ret (G d)) sm.2 0 []) S λl S'=>l=(List.range n).map (λ(p:Nat)=>G (.int (p:Int)))/\S'=S:=by
 refine Ok.eq (U0 h S) ?_;have cf:=z9 (src:=X1 0 n) (l:=List.range n) (h:=λi:Nat=>D.int (i:Int)) (g:=λi:Nat=>G (.int (i:Int))) (p:=λ_=>true) (t:=λ_=>ret true) (f:=λd=>ret (G d)) (S:=S) (λi=>iV _ i S) (bh (by rw [AN];omega)) (λ_ _=>rfl) (λ_ _ _=>rfl);rw [AN,DB.mpr (λ_ _=>rfl)] at cf;exact Ok.of cf ⟨rfl,rfl⟩
theorem lw (i:Nat):kn (i+1)=kn i++(List.range (i+1)).map λ(p:Nat)=>D.tup [.int (p:Int),sb (i+1)]:=by
 unfold kn;rw [Cq,CJ];simp;rw [Cq,BG];rfl
theorem lA:∀ {m:Nat},m<=4->(kn m).length<=10
 | 0,_ | 1,_ | 2,_ | 3,_ | 4,_=>by decide
 | m+5,h=>by omega
theorem rg1 {m:Nat} (h:m<=4) (S:Sto):n8 [(.int 1),.int ((m+1:Nat):Int)] S=.ok (X1 1 m,m+1) S:=by
 have:m=0\/m=1\/m=2\/m=3\/m=4:=by omega
 rcases this with rfl | rfl | rfl | rfl | rfl <;> kernel_rfl
theorem G5 {m i:Nat} (hi:i<m) (S:Sto):X1 1 m i S=some (some (.int ((i+1:Nat):Int))):=by
 show some (if i<m then some (D.int (1+i)) else none)=_;rw [if_pos hi,Int.add_comm];rfl
theorem K3 {m:Nat} (h:m<=4) (k:Nat) (S:Sto):Ok (rn (k+1) vr [.int (m:Int)]) S λd S'=>d=.ref S.length/\S'=S++[.lst (kn m)]:=by
 rw [rn,i5 (fd:=Ad) rfl,pz,qF];refine Ok.first<|Ok.cg (wY ..)<|Ok.eq (show newL [] S=.ok (.ref S.length) (S++[.lst []]) from rfl)<|Ok.nxt<|Ok.cg (wm ..) ?_;have at_:∀ x:O,(S++[x])[S.length]?=some x:=λx=>by rw [AL (Ap _)];simp
 refine Ok.eq (a:=.int ((m+1:Nat):Int)) (S1:=S++[.lst []]) (aH m 1 _) ?_;refine Ok.eq (rg1 h _) ?_;refine Ok.bind ((Ok.for_ (n:=m) (λi ρ S'=>S'=S++[.lst (kn i)]/\∃ o2 o3:Option D,ρ=[some (.int (m:Int)),some (.ref S.length),o2,o3]) (λ_ _=>False) (λ_ _=>False) ?_ ?_ m 0 _ (S++[.lst []]) (by omega) ⟨rfl,_,_,rfl⟩).mono ?_)
 ·intro ρ S' _;show some (if m<m then _ else none)=some none;rw [if_neg (BK _)]
 ·rintro i ρ S' hi ⟨rfl,o2,o3,rfl⟩;refine ⟨.int ((i+1:Nat):Int),[some (.int (m:Int)),some (.ref S.length),some (.int ((i+1:Nat):Int)),o3],G5 hi (S++[.lst (kn i)]),rfl,?_⟩;unfold fR;rw [eG];refine Ok.first<|Ok.cg (jS ..)<|nx_bind<|(rgc (n:=i+1) (by omega) (λd=>.tup [d,.tup []]) _).mono ?_;rintro _ _ ⟨rfl,rfl⟩;refine Ok.eq (a:=sb (i+1)) (S1:=_) rfl<|Ok.nxt<|Ok.cg (kR ..)<|Ok.eq (J5 (at_ _))<|nx_bind<|(rgc (n:=i+1) (by omega) (λd=>.tup [d,sb (i+1)]) _).mono ?_;rintro _ _ ⟨rfl,rfl⟩;have kl:=lA (m:=i) (by omega);have ex:ext2D (.ref S.length) [.lst ((List.range (i+1)).map λ(p:Nat)=>D.tup [.int (p:Int),sb (i+1)])] (S++[.lst (kn i)])=.ok .non (S++[.lst (kn (i+1))]):=by
   simp only [ext2D,extD,at_];rw [if_pos (by rw [Ak,AN,AD];omega),Bq _ _ (Ap _),lw];simp
  exact Ok.eq ex<|Ok.ret ⟨rfl,_,_,rfl⟩
 ·intro fl S' q;cases fl with
  | nx ρ=>
   rcases q with ⟨rfl,o2,o3,rfl⟩ | q
   ·exact Ok.nxt<|Ok.cg (xD ..)<|Ok.ret ⟨rfl,rfl⟩
   ·exact q.elim
  | rt d=>exact q.elim
  | bk ρ=>exact q.elim
  | ct ρ=>exact q.elim
def V4:Nat->List (List Nat)
 | 0=>[[]]
 | n+1=>(V4 n).flatMap λp=>(List.range (n+1)).map λi=>p.take i++n :: p.drop i
def bP:Nat->List (List (List Nat))
 | 0=>[[]]
 | n+1=>(bP n).flatMap λps=>(V4 (n+1)).map λp=>ps++[p]
def blk (s:Nat) (p:List Nat):List D:=p.map λ(x:Nat)=>D.tup [.int (x:Int),sb s]
def mt (ps:List (List Nat)):List D:=((List.range ps.length).zip ps).flatMap λip=>blk (ip.1+1) ip.2
def s3 (ds:List D):Option (List D):=match A8 ds with
 | some ts=>if okS true ts=true/\ts.length<64 then some (f8 .non (sPq (ltQ ts) ts.length) ds) else none
 | none=>none
def Y1 (m:Nat):Bool:=match s3 (kn m) with
 | none=>false
 | some b=>smB 10 3000 (.lst b)&&(bP m).all λps=>match s3 (mt ps) with
  | some a=>smB 10 3000 (.lst a)&&PyData.eqv (py (.lst a)) (py (.lst b))
  | none=>false
theorem c1:Y1 1=true:=by kernel_rfl
theorem c2:Y1 2=true:=by kernel_rfl
theorem c3:Y1 3=true:=by kernel_rfl
theorem c4:Y1 4=true:=by kernel_rfl
theorem U9:∀ {n:Nat} {p:List Nat},p.Perm (List.range n)->p∈V4 n
 | 0,p,h=>by
  rw [List.range_zero,List.perm_nil] at h;rw [h];exact Er _
 | n+1,p,h=>by
  have hn:n∈p:=h.mem_iff.mpr (AH.mpr (AF n));obtain ⟨a,b,rfl⟩:=List.append_of_mem hn;rw [Cq] at h;have h2:(a++b).Perm (List.range n):=by
   have h3:(n :: (a++b)).Perm (n :: List.range n):=(List.perm_middle.symm.trans h).trans (List.perm_append_comm (l₁:=List.range n) (l₂:=[n]));exact h3.cons_inv
  have hl:=h2.length_eq;rw [Ay,AN] at hl;refine By.mpr ⟨a++b,U9 h2,BM.mpr ⟨a.length,AH.mpr (by omega),?_⟩⟩;rw [List.take_left,List.drop_left]
theorem li:∀ n,n<=4->∀ p∈V4 n,f8 0 (sPl (p.map λ(x:Nat)=>(x:Int))) p=List.range n
 | 0,_ | 1,_ | 2,_ | 3,_ | 4,_=>by decide +kernel
 | n+5,h=>by omega
theorem wG {α β:Type} (f:α->β) (z:α) (is:List Nat) (xs:List α) (h:∀ i∈is,i<xs.length):f8 (f z) is (xs.map f)=(f8 z is xs).map f:=by
 unfold f8;rw [CW];refine DC λi hi=>?_;have:=h i hi;simp [this]
theorem mG {α:Type} {z z':α} {is:List Nat} {xs:List α} (h:∀ i∈is,i<xs.length):f8 z is xs=f8 z' is xs:=by
 unfold f8;refine DC λi hi=>?_;simp [h i hi]
theorem ww {v l:List Nat} (nd:v.Nodup) (h:∀ x∈v,x∈l):v.length<=l.length:=by
 induction v generalizing l with
 | nil=>exact Bj _
 | cons a v ih=>
  have ha:a∈l:=h a (Av ..);have nd':=BV.mp nd;have e:=Cb ha;have:=ih (l:=l.erase a) nd'.2 λx hx=>(Cy (λz=>nd'.1 (by rw [<- z];exact hx))).mpr (h x (AC _ hx));have:=List.length_pos_of_mem ha;rw [Bg];omega
theorem xY {v:List Nat} {n:Nat} (nd:v.Nodup) (h:∀ x∈v,x<n) (hl:v.length=n):v.Perm (List.range n):=by
 rw [Cz nd List.nodup_range];refine λx=>⟨λhx=>AH.mpr (h x hx),λhx=>Classical.byContradiction λhn=>?_⟩;have:=ww nd (l:=(List.range n).erase x) λy hy=>(Cy (λ(z:y=x)=>hn (by rw [<- z];exact hy))).mpr (AH.mpr (h y hy));rw [Cb hx,AN] at this;have:=AH.mp hx;omega
section
variable {m:Nat} {gs:List Int} (gl:gs.length=m) (m4:m<=4) (nd:gs.Nodup) {hs:List Int} (hl:∀ x∈hs,x∈rgL m) (hd:hs.Nodup)
include gl m4 nd hl hd
theorem jY:(hs.map (rkH gs hs)).Perm (List.range hs.length):=by
 have n1:(hs.map (rkH gs hs)).Nodup:=by
  rw [BF,CY];rw [BF] at hd;refine hd.imp_of_mem λ{a b} ha hb ne e=>ne (iM gl (by omega) nd (hl a ha) (hl b hb) ?_);have h1:=Q0 (gs:=gs) (hs:=hs) (x:=a) (y:=b) ha;have h2:=Q0 (gs:=gs) (hs:=hs) (x:=b) (y:=a) hb;omega
 have lt:∀ x∈hs.map (rkH gs hs),x<hs.length:=λx hx=>by
  obtain ⟨a,ha,rfl⟩:=BM.mp hx;unfold rkH;have h1:hs.countP (λy=>decide (gr gs y<gr gs a))<=hs.length:=List.countP_le_length;rcases Nat.lt_or_eq_of_le h1 with h | h
  ·exact h
  ·rw [List.countP_eq_length] at h;have:=h a ha;simp at this
 exact xY n1 lt (by simp)
end
section
variable {m:Nat} {gs:List Int} (gl:gs.length=m) (m4:m<=4) (nd:gs.Nodup) {r:Rnd} {h:Int} (hh:h∈r.flatten) (fd:r.flatten.Nodup) (fm:∀ x∈r.flatten,x∈rgL m)
include gl m4 nd hh fd fm
theorem vU:h∈sn r h:=by
 obtain ⟨j,e,ea,hj⟩:=pN hh;refine (d4 _).mem_iff.mpr ?_;obtain ⟨_,h1,_⟩:=AZ.mp e;refine Dk.mpr ⟨r[j],?_,BC h1⟩;rw [ea,List.mem_take_iff_getElem];exact ⟨j,by omega,rfl⟩
theorem tZ:(srt (e9 (hin [r] h))).Perm (sn r h):=by
 have a:hin [r] h=h :: sn r h:=by
  show h :: (sn r h).flatMap (λc=>[c])=_;simp
 refine (d4 _).trans ?_;rw [Cz (L6 _) (pH fd)];intro x;rw [uniq_mem,a,AA];refine ⟨λz=>?_,.inr⟩;rcases z with rfl | z
 ·exact vU gl m4 nd hh fd fm
 ·exact z
theorem pP:plc gs (rkH gs (srt (e9 (hin [r] h)))) [r] h=.tup [.int (rkH gs (sn r h) h:Int),sb (sn r h).length]/\rkH gs (sn r h) h<(sn r h).length/\(sn r h).length<=m:=by
 have up:=tZ gl m4 nd hh fd fm;have rk:∀ x,rkH gs (srt (e9 (hin [r] h))) x=rkH gs (sn r h) x:=λx=>up.countP_eq _;have hs:=vU gl m4 nd hh fd fm;have hd:=pH (h:=h) fd;have hm:∀ x∈sn r h,x∈rgL m:=λx hx=>fm x (M5 hx);have ra:=jY gl m4 nd hm hd;have lm:(sn r h).length<=m:=by
  have:=sd hd hm;rw [D9] at this;exact this
 refine ⟨?_,?_,lm⟩
 ·show D.tup [.int (rkH gs (srt (e9 (hin [r] h))) h:Int),.tup (f8 .non (sPl ((sn r h).map (gr gs))) ((sn r h).map (plc gs (rkH gs (srt (e9 (hin [r] h)))) [])))]=_;rw [rk];have e1:sPl ((sn r h).map (gr gs))=sPl (((sn r h).map (rkH gs (sn r h))).map λ(x:Nat)=>(x:Int)):=by
   rw [CW];refine jb λa ha b hb=>?_;have:=Q0 (gs:=gs) (hs:=sn r h) (x:=a) (y:=b) ha;simp only [Function.comp];omega
  have e2:(sn r h).map (plc gs (rkH gs (srt (e9 (hin [r] h)))) [])=((sn r h).map (rkH gs (sn r h))).map λ(x:Nat)=>D.tup [.int (x:Int),.tup []]:=by
   rw [CW];refine DC λc _=>?_;show D.tup [.int (rkH gs (srt (e9 (hin [r] h))) c:Int),.tup []]=_;rw [rk];rfl
  rw [e1,e2];have pm:=U9 ra;have bd:∀ i∈sPl (((sn r h).map (rkH gs (sn r h))).map λ(x:Nat)=>(x:Int)),i<((sn r h).map (rkH gs (sn r h))).length:=λi hi=>by
   have:=ab hi;simpa using this
  rw [mG (z:=D.non) (z':=D.tup [.int ((0:Nat):Int),.tup []]) (by intro i hi;have:=bd i hi;simpa using this)];rw [wG (λ(x:Nat)=>D.tup [.int (x:Int),.tup []]) 0 _ _ bd,li _ (by omega) _ pm];rfl
 ·exact AH.mp (ra.mem_iff.mp (BR hs))
end
theorem tI {m s p:Nat} (hs:0<s) (hm:s<=m) (hp:p<s):D.tup [.int (p:Int),sb s]∈kn m:=by
 obtain ⟨s,rfl⟩:∃ t,s=t+1:=⟨s-1,by omega⟩;exact By.mpr ⟨s,AH.mpr (by omega),BM.mpr ⟨p,AH.mpr hp,rfl⟩⟩
theorem iL {S:Sto} {n:Nat} {ds:List D} (e:S[n]?=some (.lst ds)):y3 (.ref n) S=y3 (.lst ds) S:=by
 have:d3 64 S (.ref n)=d3 64 S (.lst ds):=(aR 63 e).trans rfl;unfold y3;rw [this]
theorem nq {d:D} {ds:List D} {n:Nat} {S:Sto} (e:S[n]?=some (.lst ds)) (hd:Sml 20 3000 d) (hs:wI 20 3000 ds) (hm:d∈ds):m7 .NotIn d (.ref n) S=.ok (.bl false) S:=by
 show inD true d (.ref n) S=_;unfold inD;have e2:d3 64 S (.ref n)=some (.list (ds.map py)):=by
  rw [aR 63 e];have:e8 (d3 63 S) (ds.map id)=some (ds.map py):=aS λa ha=>D1 S a 63 (hs a ha).pl (by have:=(hs a ha).dp;omega);rw [List.map_id] at this;rw [this];rfl
 rw [D1 S d 64 hd.pl (by have:=hd.dp;omega),e2];show fz true (py d) (ds.map py) S=_;unfold fz;have h1:=K2 d;have h2:=hd.dp;rw [if_pos ⟨N8 d hd.pl,aU λa ha=>N8 a (hs a ha).pl,by omega⟩];have a:(ds.map py).any (λy=>PyData.eqv y (py d))=true:=List.any_eq_true.mpr ⟨py d,BR hm,PySem.SeqAt.eqv_refl _ (N8 d hd.pl)⟩;rw [a];rfl
theorem pf {m:Nat} (m1:1<=m) (m4:m<=4):m=1\/m=2\/m=3\/m=4:=by omega
theorem iY {m:Nat} (m1:1<=m) (m4:m<=4) (S:Sto):rn 11 bb [.int (m:Int)] S=.ok (.ref S.length) (S++[.lst (kn m)]):=by
 rcases pf m1 m4 with rfl | rfl | rfl | rfl
 ·exact xI S
 ·exact xH S
 ·exact wj S
 ·exact wt S
theorem io:∀ m,m<=4->smB 10 3000 (.lst (kn m))=true/\(kn m).all (smB 20 3000)=true/\(kn m).length=m * (m+1) / 2
 | 0,_ | 1,_ | 2,_ | 3,_ | 4,_=>by decide +kernel
 | n+5,h=>by omega
theorem sG {m:Nat} (m4:m<=4):Sml 10 3000 (.lst (kn m)):=.w (io m m4).1
theorem fb {m:Nat} (m4:m<=4):wI 20 3000 (kn m):=λd hd=>.w (AQ.mp (io m m4).2.1 d hd)
theorem A5 (S:Sto) (x:O):(S++[x])[S.length]?=some x:=by rw [AL (Ap _)];simp
theorem P8 {m:Nat} (m4:m<=4) {S:Sto} {n:Nat} (e:S[n]?=some (.lst (kn m))):y3 (.ref n) S=.ok (.str (py (.lst (kn m))).shown) S:=by
 rw [iL e];exact (sG m4).repr (by omega) (by omega) S
section
variable {m:Nat} (m1:1<=m) (m4:m<=4)
include m1 m4
theorem nt {gs:List Int} (G:GOk gs m) {r:Rnd} {h:Int} (hh:h∈r.flatten) (fd:r.flatten.Nodup) (fm:∀ x∈r.flatten,x∈rgL m) (f6:r.flatten.length<=6) (r6:r.length<=6) {o0 o1 o3 o4 o8 o9:Option D} (S:Sto):Ok (q9 (rn 11) [o0,o1,some (.int (m:Int)),o3,o4,some (.tup (gs.map D.int)),some (.tup [D4 r]),some (.int h),o8,o9]) S λfl S'=>fl=.nx [o0,o1,some (.int (m:Int)),o3,o4,some (.tup (gs.map D.int)),some (.tup [D4 r]),some (.int h),o8,o9]/\Ex S S':=by
 unfold q9;rw [D3];have w:Wv m [r] h:=⟨hh,λx hx=>fm x hx,fd,f6,r6⟩;refine Ok.first<|Ok.cg (J0 ..)<|Ok.bind ((lI (qs:=[r]) 7 w S).mono ?_);rintro _ S1 ⟨rfl,x1⟩;obtain ⟨e,rl,sl⟩:=pP G.l m4 G.nd hh fd fm;have t:=pU G.l (by omega) G.nd w (by simp) 8 S1;rw [e] at t;refine Ok.eq t<|Ok.bind ((K3 m4 10 S1).mono ?_);rintro _ S2 ⟨rfl,rfl⟩;have mem:=tI (m:=m) (by omega) sl rl;exact Ok.eq (nq (A5 _ _) (fb m4 _ mem) (fb m4) mem)<|Ok.eq (I0 _ _)<|Ok.neg (by decide)<|Ok.ret ⟨rfl,x1.trans ⟨_,rfl⟩⟩
theorem mH {ns:List Int} {N:Nat} {o0 o3 o4 o5 o6 o7 o8 o9:Option D} {S:Sto} (F:Ft ns 0 (N+20) S):Ok (A3 (rn 11) [o0,some (.ref 0),some (.int (m:Int)),o3,o4,o5,o6,o7,o8,o9]) S λfl S'=>(∃ p5 p6 p7,fl=.nx [o0,some (.ref 0),some (.int (m:Int)),o3,o4,p5,p6,p7,o8,o9])/\Ft ns 0 N S':=by
 unfold A3;rw [P1];refine Ok.first<|Ok.cg (W9 ..)<|Ok.bind ((Y7 (N:=N+16) (F.less (by omega)) (by omega) 9).mono ?_);rintro _ S1 ⟨F1,⟨gs,rfl,G⟩,_⟩;refine Ok.nxt<|Ok.cg (X0 ..)<|Ok.eq (lrg (by omega) S1)<|Ok.bind ((jM (N:=N) F1 (by rw [D9];omega) (by rw [D9];omega) 8).mono ?_);rintro _ S2 ⟨q,r,rfl,R,q0,q6,F2,_⟩;have fd:=R.nd (pM m);have fl:=R.fl;have fle:=R.le;refine Ok.nxt<|Ok.cg (W8 ..)<|Ok.eq (a:=D4 r) (S1:=S2) rfl<|Ok.bind ((wK (r:=r) (by omega) (by omega) 10 S2).mono ?_);rintro _ S3 ⟨rfl,x3⟩;refine Ok.eq (a:=(A7 ((srt r.flatten).map D.int),((srt r.flatten).map D.int).length+1)) (S1:=S3) rfl ?_;rw [Ak];refine Ok.bind ((Ok.loop (n:=(srt r.flatten).length) (λi ρ S'=>Ft ns 0 N S'/\∃ o:Option D,ρ=[o0,some (.ref 0),some (.int (m:Int)),o3,o4,some (.tup (gs.map D.int)),some (.tup [D4 r]),o,o8,o9]) ?_ ?_ ⟨F2.keep (x3.at (w5 F2)),_,rfl⟩).mono ?_)
 ·intro ρ S' _;show some ((srt r.flatten).map D.int)[(srt r.flatten).length]?=_;rw [AT (by simp)]
 ·rintro i ρ S' hi ⟨F',o,rfl⟩;refine ⟨.int (srt r.flatten)[i],_,by show some ((srt r.flatten).map D.int)[i]?=_;rw [m9 (Aj hi)],rfl,?_⟩;refine (nt m1 m4 G ((d4 _).mem_iff.mp (Ba hi)) fd R.mem (by omega) (by omega) S').mono ?_;rintro _ S4 ⟨rfl,x4⟩;exact ⟨_,.inl rfl,F'.keep (x4.at (w5 F')),_,rfl⟩
 ·rintro _ S4 ⟨_,rfl,F',o,rfl⟩;exact Ok.ret ⟨⟨_,_,_,rfl⟩,F'⟩
end
theorem rW:∀ s,1<=s->s<=4->∀ h∈rgL s,sn [rgL s] h=rgL s
 | 0,h,_=>by omega
 | 1,_,_ | 2,_,_ | 3,_,_ | 4,_,_=>by decide
 | s+5,_,h=>by omega
theorem bX:∀ {m:Nat} {ps:List (List Nat)},ps∈bP m->ps.length=m
 | 0,_,h=>by rw [AU.mp h];rfl
 | m+1,ps,h=>by
  obtain ⟨qs,h1,h2⟩:=By.mp h;obtain ⟨p,_,rfl⟩:=BM.mp h2;simp [bX h1]
theorem ii {m:Nat} {ps:List (List Nat)} {p:List Nat} (h:ps∈bP m) (hp:p∈V4 (m+1)):ps++[p]∈bP (m+1):=By.mpr ⟨ps,h,BM.mpr ⟨p,hp,rfl⟩⟩
theorem lN (ps:List (List Nat)) (p:List Nat):mt (ps++[p])=mt ps++blk (ps.length+1) p:=by
 unfold mt;rw [Ay,List.length_singleton,Cq,List.zip_append (by simp),CJ];simp
theorem U8:∀ {n:Nat} {p:List Nat},p∈V4 n->p.length=n
 | 0,_,h=>by rw [AU.mp h];rfl
 | n+1,p,h=>by
  obtain ⟨q,h1,h2⟩:=By.mp h;obtain ⟨i,hi,rfl⟩:=BM.mp h2;have:=U8 h1;have:=AH.mp hi;simp;omega
theorem ig:∀ {m:Nat},m<=4->∀ {ps:List (List Nat)},ps∈bP m->(mt ps).length<=m * m
 | 0,_,_,h=>by rw [AU.mp h];decide
 | m+1,hm,ps,h=>by
  obtain ⟨qs,h1,h2⟩:=By.mp h;obtain ⟨p,hp,rfl⟩:=BM.mp h2;have a:=ig (by omega) h1;have b:=U8 hp;rw [lN,Ay];have c:(blk (qs.length+1) p).length=p.length:=by unfold blk;rw [Ak]
  rw [c,b];have:(m+1) * (m+1)=m * m+2 * m+1:=by rw [Nat.add_mul,Nat.mul_add];omega
  omega
section
variable {s:Nat} (s1:1<=s) (s4:s<=4)
include s1 s4
theorem sJ {gs:List Int} (G:GOk gs s) (S:Sto):Ok (nx (bind (n8 [.int (s:Int)]) λsm2=>i6 sm2.1 (λ_=>ret true) (λd1=>bind (N6 (.int (s:Int))) λx3=>bind (rn 11 1 [.tup [.tup [x3]],d1]) λx4=>bind (rn 11 2 [.tup (gs.map D.int),x4]) λx5=>ret x5) sm2.2 0 [])) S λl S'=>(∃ p∈V4 s,l=blk s p)/\Ex S S':=by
 have nd:=pM s;have ra:=jY G.l s4 G.nd (λx hx=>hx) nd;rw [D9] at ra;have len:(rgL s).length=s:=D9 s;refine Ok.nx<|Ok.eq (U0 (n:=s) (by omega) S) ?_;refine (Ok.comp (n:=s) (λi S' es=>es=blk s (((rgL s).map (rkH gs (rgL s))).take i)/\Ex S S') (λS' es _=>Q3 s S') ?_ ⟨rfl,Ex.refl S⟩).mono ?_
 ·rintro i S' es hi ⟨rfl,ex⟩;refine ⟨.int (i:Int),aY hi S',Ok.ret ?_⟩;rw [if_pos rfl];have hm:(i:Int)∈rgL s:=BR (AH.mpr hi);have gi:(rgL s)[i]?=some (i:Int):=by
   unfold rgL;rw [AG,Dy hi];rfl
  have tr:N6 (.int (s:Int)) S'=.ok (B1 (rgL s)) S':=by
   show (if 0<=(s:Int)/\(s:Int)<100000 then ret (D.tup ((rgL (s:Int).toNat).map D.int)) else bad) S'=_;rw [if_pos ⟨by omega,by omega⟩];rfl
  have fl:([rgL s]:Rnd).flatten=rgL s:=by simp
  have w:Wv s [[rgL s]] (i:Int):=⟨by rw [fl];exact hm,λx hx=>by rw [fl] at hx;exact hx,by rw [fl];exact nd,by rw [fl,len];omega,by simp⟩;refine Ok.eq tr<|Ok.bind ((lI (qs:=[[rgL s]]) 7 w S').mono ?_);rintro _ S1 ⟨rfl,x1⟩;obtain ⟨e,rl,sl⟩:=pP G.l s4 G.nd (r:=[rgL s]) (h:=(i:Int)) (by rw [fl];exact hm) (by rw [fl];exact nd) (by rw [fl];exact λx hx=>hx);have t:=pU G.l (by omega) G.nd w (by simp) 8 S1;rw [e,rW s s1 s4 _ hm,len] at t;refine Ok.eq t<|Ok.ret ⟨by unfold blk;rw [Ak,Bo];exact bh (by omega),?_,ex.trans x1⟩;have hi2:i<((rgL s).map (rkH gs (rgL s))).length:=by rw [Ak,len];exact hi
  rw [AO hi2];unfold blk;rw [BG];have:((rgL s).map (rkH gs (rgL s)))[i]=rkH gs (rgL s) (i:Int):=by
   have:=(Aj hi2).symm.trans (show ((rgL s).map (rkH gs (rgL s)))[i]?=some (rkH gs (rgL s) (i:Int)) by rw [AG,gi];rfl);exact AR this
  rw [this];rfl
 ·rintro _ S' ⟨rfl,ex⟩;refine ⟨⟨_,U9 ra,?_⟩,ex⟩;rw [Cp (by rw [Ak,len];omega)]
end
theorem il {m:Nat} (m1:1<=m) (m4:m<=4):Y1 m=true:=by
 rcases pf m1 m4 with rfl | rfl | rfl | rfl
 ·exact c1
 ·exact c2
 ·exact c3
 ·exact c4
theorem ti {S:Sto} {n:Nat} {ds a:List D} (e:S[n]?=some (.lst ds)) (h:s3 ds=some a):y9 (.ref n) S=.ok (.lst a) S:=by
 unfold y9;rw [a8 (J5 e)];unfold s3 at h;cases e1:A8 ds with
 | none=>rw [e1] at h;cases h
 | some ts=>
  rw [e1] at h;dsimp only at h ⊢;by_cases hc:okS true ts=true/\ts.length<64
  ·rw [if_pos hc] at h;rw [if_pos ⟨.inl hc.1,hc.2⟩];cases h;rfl
  ·rw [if_neg hc] at h;cases h
theorem qU {m:Nat} (m1:1<=m) (m4:m<=4) {ps:List (List Nat)} (hp:ps∈bP m) {o0 o1 o3 o4 o5 o6 o7 o9:Option D} {S:Sto} {q:Nat} (e:S[q]?=some (.lst (mt ps))):∃ a b,s3 (mt ps)=some a/\s3 (kn m)=some b/\∀ S',m7 .NotEq (.lst a) (.lst b) S'=.ok (.bl false) S':=by
 have c:=il m1 m4;unfold Y1 at c;cases e1:s3 (kn m) with
 | none=>rw [e1] at c;cases c
 | some b=>
  rw [e1] at c;dsimp only at c;rw [Al] at c;have c2:=AQ.mp c.2 ps hp;cases e2:s3 (mt ps) with
  | none=>rw [e2] at c2;cases c2
  | some a=>
   rw [e2] at c2;dsimp only at c2;rw [Al] at c2;refine ⟨a,b,rfl,rfl,λS'=>?_⟩;have sa:Sml 10 3000 (.lst a):=.w c2.1;have sb:Sml 10 3000 (.lst b):=.w c.1;have:=ls (sa.any (by omega)) (by omega) sb.pl (by have:=sb.dp;omega) true S';rw [c2.2] at this;exact this
section
variable {m:Nat} (m1:1<=m) (m4:m<=4)
include m1 m4
theorem nQ (S:Sto):(bind (B4 (.int (m:Int)) (.int 1)) λx2=>bind (M3 (.int (m:Int)) x2) λx3=>B0 x3 (.int 2)) S=.ok (.int ((kn m).length:Int)) S:=by
 rcases pf m1 m4 with rfl | rfl | rfl | rfl <;> kernel_rfl
theorem mx {ns:List Int} {N:Nat} {o0 o3 o4 o5 o6 o7 o8 o9:Option D} {S:Sto} (F:Ft ns 0 (N+100) S):Ok (R9 (rn 11) [o0,some (.ref 0),some (.int (m:Int)),o3,o4,o5,o6,o7,o8,o9]) S λfl S'=>(∃ p3 p4 p5 p6 p7 p8 p9,fl=.nx [o0,some (.ref 0),some (.int (m:Int)),p3,p4,p5,p6,p7,p8,p9])/\Ft ns 0 N S':=by
 unfold R9;rw [bu];have hp:=w5 F;refine Ok.first<|Ok.cg (gj ..)<|Ok.eq (iY m1 m4 S) ?_;refine Ok.nxt<|Ok.cg (gk ..)<|Ok.eq (a:=.bl true) (S1:=S++[.lst (kn m)]) (by simp only [cX,tyD,A5];rfl)<|Ok.eq (a:=true) (S1:=_) rfl<|Ok.neg (by decide) ?_;refine Ok.eq (P8 m4 (A5 S _))<|Ok.bind ((K3 m4 10 _).mono ?_);rintro _ S1 ⟨rfl,rfl⟩;have e0:(S++[O.lst (kn m)]++[O.lst (kn m)])[S.length]?=some (.lst (kn m)):=by rw [Aq (by simp)];exact A5 S _
 refine Ok.eq (P8 m4 (A5 _ _))<|Ok.eq (eL _ _)<|Ok.eq (I0 _ _)<|Ok.neg (by decide) ?_;refine Ok.nxt<|Ok.cg (fo ..)<|Ok.eq (pW e0) ?_;have F1:Ft ns 0 (N+100) (S++[O.lst (kn m)]++[O.lst (kn m)]):=F.keep (by rw [BB,Aq hp]);generalize hS1:S++[O.lst (kn m)]++[O.lst (kn m)]=S1 at e0 F1;have q0:S.length≠0:=by omega
 generalize hq:S.length=q at e0 q0;have hf:=nQ m1 m4 S1;have ee:∀ {α:Type} (κ:D->M α),(bind (B4 (.int (m:Int)) (.int 1)) λx2=>bind (M3 (.int (m:Int)) x2) λx3=>bind (B0 x3 (.int 2)) κ)=bind (bind (B4 (.int (m:Int)) (.int 1)) λx2=>bind (M3 (.int (m:Int)) x2) λx3=>B0 x3 (.int 2)) κ:=λκ=>by simp only [bind_assoc]
 refine Ok.cg (ee _)<|Ok.eq hf<|Ok.eq (vR _ _ S1)<|Ok.eq (I0 _ S1)<|Ok.neg (by rw [Bb rfl];decide) ?_;refine Ok.nxt<|Ok.cg (fk ..)<|Ok.eq (xB e0) ?_;have l0:=(As.mp e0).1;have e1:(S1.set q (.lst (kn m).reverse))[q]?=some (.lst (kn m).reverse):=Bi l0;refine Ok.nxt<|Ok.cg (hY ..)<|Ok.eq (J5 e1)<|Ok.eq (kX e1 (by rw [DA];exact bh (by have:=lA m4;omega))) ?_;have F2:Ft ns 0 (N+100) ((S1.set q (.lst (kn m).reverse)).set q (.lst ((kn m).reverse++[.non]))):=F1.keep (by rw [AV q0,AV q0]);generalize (S1.set q (.lst (kn m).reverse)).set q (.lst ((kn m).reverse++[D.non]))=S2 at F2;refine Ok.nxt<|Ok.cg (fq ..)<|Ok.eq (iY m1 m4 S2)<|Ok.eq (P8 m4 (A5 S2 _))<|Ok.bind ((K3 m4 10 _).mono ?_);rintro _ S3 ⟨rfl,rfl⟩;refine Ok.eq (P8 m4 (A5 _ _))<|Ok.eq (eL _ _)<|Ok.eq (I0 _ _)<|Ok.neg (by decide) ?_;have F3:Ft ns 0 (N+100) (S2++[O.lst (kn m)]++[O.lst (kn m)]):=F2.keep (by rw [BB,Aq (w5 F2)]);generalize S2++[O.lst (kn m)]++[O.lst (kn m)]=S3 at F3;refine Ok.nxt<|Ok.cg (hG ..)<|Ok.eq (U0 (n:=3) (by omega) S3)<|Ok.bind ((Ok.loop (n:=3) (λi ρ S'=>Ft ns 0 (N+40+20 * (3-i)) S'/\∃ (p3 p4 p5 p6 p7:Option D),ρ=[o0,some (.ref 0),some (.int (m:Int)),p3,p4,p5,p6,p7,o8,o9]) (λρ S' _=>Q3 3 S') ?_ ⟨F3.less (by omega),_,_,_,_,_,rfl⟩).mono ?_)
 ·rintro i ρ S' hi ⟨F',p3,p4,p5,p6,p7,rfl⟩;refine ⟨.int (i:Int),_,aY hi S',rfl,(mH m1 m4 (N:=N+40+20 * (3-(i+1))) (F'.less (by omega))).mono ?_⟩;rintro _ S4 ⟨⟨p5,p6,p7,rfl⟩,F4⟩;exact ⟨_,.inl rfl,F4,_,_,_,_,_,rfl⟩
 rintro _ S4 ⟨_,rfl,F4,p3,p4,p5,p6,p7,rfl⟩;refine Ok.nxt<|Ok.cg (gF ..)<|Ok.eq (show newL [] S4=.ok (.ref S4.length) (S4++[.lst []]) from rfl) ?_;have z0:S4.length≠0:=by have:=w5 F4;omega
 have F5:Ft ns 0 (N+40) (S4++[O.lst []]):=(F4.less (by omega)).keep (by rw [Aq (w5 F4)]);have e5:(S4++[O.lst []])[S4.length]?=some (.lst (mt [])):=A5 S4 _;generalize S4++[O.lst []]=S5 at F5 e5;generalize S4.length=z at z0 e5;refine Ok.nxt<|Ok.cg (gN ..)<|Ok.eq (aH m 1 S5)<|Ok.eq (rg1 m4 S5)<|Ok.bind ((Ok.loop (n:=m) (λi ρ S'=>Ft ns 0 (N+10 * (4-i)) S'/\∃ ps∈bP i,S'[z]?=some (.lst (mt ps))/\∃ (p5 p9:Option D),ρ=[o0,some (.ref 0),some (.int (m:Int)),p3,p4,p5,p6,p7,some (.ref z),p9]) ?_ ?_ ⟨F5.less (by omega),[],Er _,e5,_,_,rfl⟩).mono ?_)
 ·intro ρ S' _;show some (if m<m then _ else none)=some none;rw [if_neg (BK _)]
 ·rintro i ρ S' hi ⟨F',ps,hps,e',p5,p9,rfl⟩;refine ⟨.int ((i+1:Nat):Int),_,G5 hi S',rfl,?_⟩;unfold L1;rw [P0];refine Ok.first<|Ok.cg (X5 ..)<|Ok.bind ((Y7 (m:=i+1) (N:=N+10 * (4-(i+1))) (F'.less (by omega)) (by omega) 9).mono ?_);rintro _ S6 ⟨F6,⟨gs,rfl,G⟩,T6⟩;have lz:=(As.mp e').1;have e6:S6[z]?=some (.lst (mt ps)):=by rw [T6.2 z lz z0];exact e'
  refine Ok.nxt<|Ok.cg (X4 ..)<|Ok.eq (J5 e6)<|Ok.bind ((sJ (s:=i+1) (by omega) (by omega) G S6).mono ?_);rintro _ S7 ⟨⟨p,hp,rfl⟩,x7⟩;have e7:S7[z]?=some (.lst (mt ps)):=by rw [x7.at (As.mp e6).1];exact e6
  have pl:=bX hps;have ml:=ig (m:=i) (by omega) hps;have pp:=U8 hp;have hh:i * i<=16:=Nat.mul_le_mul (show i<=4 by omega) (show i<=4 by omega);have xl:ext2D (.ref z) [.lst (blk (i+1) p)] S7=.ok .non (S7.set z (.lst (mt (ps++[p])))):=by
   rw [lN,pl];show extD (.ref z) [.lst (blk (i+1) p)] S7=_;have bl:(blk (i+1) p).length=p.length:=by unfold blk;rw [Ak]
   simp only [extD,e7];rw [if_pos (Ck (bh (by omega)))]
  refine Ok.eq xl<|Ok.ret ⟨_,.inl rfl,(F6.keep (x7.at (w5 F6))).keep (by rw [AV z0]),ps++[p],ii hps hp,Bi (As.mp e7).1,_,_,rfl⟩
 ·rintro _ S6 ⟨_,rfl,F6,ps,hps,e6,p5,p9,rfl⟩;obtain ⟨a,b,h1,h2,h3⟩:=qU m1 m4 hps e6 (o0:=none) (o1:=none) (o3:=none) (o4:=none) (o5:=none) (o6:=none) (o7:=none) (o9:=none);refine Ok.nxt<|Ok.cg (gX ..)<|Ok.eq (ti e6 h1)<|Ok.bind ((K3 m4 10 S6).mono ?_);rintro _ S7 ⟨rfl,rfl⟩;refine Ok.eq (ti (A5 S6 _) h2)<|Ok.eq (h3 _)<|Ok.eq (I0 _ _)<|Ok.neg (by decide)<|Ok.ret ⟨⟨_,_,_,_,_,_,_,rfl⟩,?_⟩;exact (F6.less (by omega)).keep (by rw [Aq (w5 F6)])
end
theorem pj (ns:List Int):∃ S',rn 12 kO [.scr (ns.map D.int)] []=.ok (.bl true) S':=by
 suffices h:Ok (rn 12 kO [.scr (ns.map D.int)]) [] λd _=>d=.bl true by
  obtain ⟨d,S',e,rfl⟩:=h;exact ⟨S',e⟩
 rw [rn,i5 (fd:=law_F) rfl,nN,md];obtain ⟨ms,ew⟩:=og ns [] 10;refine Ok.first<|Ok.cg (uX ..)<|Ok.eq ew ?_;have F0:Ft ms 0 900 ([]++[d6 ms 0 0 0]):=⟨0,0,0,by simp,by omega,by omega,by omega,by omega⟩;generalize ([]++[d6 ms 0 0 0]:Sto)=S0 at F0;show Ok (nxt _ _ _ _ (.nx [some (.scr (ns.map D.int)),some (.ref 0),none,none,none,none,none,none,none,none])) S0 _;refine Ok.nxt<|Ok.cg (vQ ..)<|Ok.eq (rg1 (m:=4) (by omega) S0)<|Ok.bind ((Ok.loop (n:=4) (λi ρ S'=>Ft ms 0 (100 * (4-i)) S'/\∃ (o2 o3 o4 o5 o6 o7 o8 o9:Option D),ρ=[some (.scr (ns.map D.int)),some (.ref 0),o2,o3,o4,o5,o6,o7,o8,o9]) ?_ ?_ ⟨F0.less (by omega),_,_,_,_,_,_,_,_,rfl⟩).mono ?_)
 ·intro ρ S' _;rfl
 ·rintro i ρ S' hi ⟨F',o2,o3,o4,o5,o6,o7,o8,o9,rfl⟩;refine ⟨.int ((i+1:Nat):Int),_,G5 hi S',rfl,(mx (m:=i+1) (by omega) (by omega) (N:=100 * (4-(i+1))) (F'.less (by omega))).mono ?_⟩;rintro _ S4 ⟨⟨p3,p4,p5,p6,p7,p8,p9,rfl⟩,F4⟩;exact ⟨_,.inl rfl,F4,_,_,_,_,_,_,_,_,rfl⟩
 ·rintro _ S4 ⟨_,rfl,F4,o2,o3,o4,o5,o6,o7,o8,o9,rfl⟩;exact Ok.nxt<|Ok.cg (uS ..)<|Ok.ret rfl
end L3.K43
section
namespace L3.K43
open PySem PySem.Spec PyProof.Rows L2 Hn
theorem all_mk {l:PySem.W.OpenLaw} {w:World} {K:PySem.W.Frag} {h:Heap} {mg:Str->Option Value} {fa tA g0 g1 g2 g3 g4 g5 g6 g7 g8 g9 g10 g11 g12 g13 g14:Addr} (X:K.In h) (G:h.Ns mainGlobals mg) (hfa:mg "law" = some (.ref fa))
  (rjk:bf K tA=false)
  (t4:(K.lookup tA).isNone=true)
  (rbl:(bnames.all λx=>(Γ.gl.lookup x).isSome||isNo (PySem.W.nsIn K mainGlobals x))=true)
  (dg0:GF K "seen_in" (top 1) g0)
  (dg1:GF K "view_of" (top 2) g1)
  (dg2:GF K "type_of" (top 4) g2)
  (dg3:GF K "hands_in" (top 5) g3)
  (dg4:GF K "placed" (top 6) g4)
  (dg5:GF K "one_round_types" (top 7) g5)
  (dg6:GF K "seen_by_place" (top 8) g6)
  (dg7:GF K "_law_tape" (top 10) g7)
  (dg8:GF K "_law_draw" (top 11) g8)
  (dg9:GF K "_law_shuffled" (top 12) g9)
  (dg10:GF K "_law_greats" (top 13) g10)
  (dg11:GF K "_law_hands" (top 14) g11)
  (dg12:GF K "_law_round" (top 15) g12)
  (dg13:GF K "_law_kinds" (top 16) g13)
  (dg14:GF K "law" (top 17) g14) (t1:qC K g4 tA=true) (t3:decide (cm K tA = "placed.<locals>.<lambda>")=true) :
  ∃ (fd:FuncData) (c:Addr) (cl:Nat->Addr),PySem.W.codeHdIn K c tA=true/\K.lookup tA=none/\cl 1000000=tA/\(∀ (s:Shared) (v:Value),BindsTo s fd ⟨[v],[]⟩ [("_law_script",v)])/\∀ base:Heap,K.In base->base.Ns mainGlobals mg->FnOk l.prog w K mg base CX0 15 fa fd ["_law_script"] (ay K cl):=by
 obtain ⟨cT,t1,t2⟩:=mJ t1;have t3:=BC t3;have t4:=AE.mp t4;have e:=hfa.symm.trans (PySem.W.mg_of X G dg14.a);cases e;have RB:RowB K Γ [] tA:=⟨rfl,rjk,rfl,rfl,rfl,rfl,rbl⟩;obtain ⟨_,⟨oc,od,kV,dc,pm,an,cd,ct,sl,rfl,lk,hc⟩,kp⟩:=dg14.f;have FL:=jt lk hc kp;refine ⟨PySem.W.fnOf "law" "law" (u9 (top 17)) (j6 (top 17)) (b9 (top 17)) .none kV dc pm an cd ct,cT,W6 [] tA,t2,t4,rfl,λs v=>.of_eq rfl,λbase KB GB=>?_⟩
 let T:Tx:=⟨l.prog,w,K,mg,base,W6 [] tA⟩
 have st:TxSt T Γ:=by
  refine RB.st (T:=T) X G rfl (λx d e=>?_) (λx c fs e=>?_) (λx kvs e=>?_)
  ·have m:=L2.mem_of_lookup e;simp [Γ] at m
  ·have m:=L2.mem_of_lookup e;simp [Γ] at m
  ·have m:=L2.mem_of_lookup e;simp [Γ] at m
 have fs:jy T Γ Tb:=by
  refine vK ?_;refine And.intro (fe X G (T:=T) dg0 (m:=["seen"]) (by decide +kernel) (λ_ _ _ _ _ _ us hl=>eB hl λ_ _=>rfl) rfl rfl) ?_;refine And.intro (fe X G (T:=T) dg1 (by decide +kernel) (λ_ _ _ _ _ _ us hl=>eB hl λ_ _=>rfl) rfl rfl) ?_;refine And.intro (fe X G (T:=T) dg2 (by decide +kernel) (λ_ _ _ _ _ _ us hl=>eB hl λ_ _=>rfl) rfl rfl) ?_;refine And.intro (fe X G (T:=T) dg3 (by decide +kernel) (λ_ _ _ _ _ _ us hl=>cu hl λ_=>rfl) rfl rfl) ?_;refine And.intro (fe X G (T:=T) dg4 (m:=["lam"]) (by decide +kernel) (λ_ _ _ _ _ _ us hl=>wV hl λ_ _ _=>rfl) rfl rfl (λ_=>⟨cT,t1,t2,t4,t3.symm⟩)) ?_;refine And.intro (fe X G (T:=T) dg5 (m:=["return"]) (by decide +kernel) (λ_ _ _ _ _ _ us hl=>cu hl λ_=>rfl) rfl rfl) ?_;refine And.intro (fe X G (T:=T) dg6 (by decide +kernel) (λ_ _ _ _ _ _ us hl=>cu hl λ_=>rfl) rfl rfl) ?_;refine And.intro (fe X G (T:=T) dg7 (m:=["return"]) (by decide +kernel) (λ_ _ _ _ _ _ us hl=>cu hl λ_=>rfl) rfl rfl) ?_;refine And.intro (fe X G (T:=T) dg8 (by decide +kernel) (λ_ _ _ _ _ _ us hl=>eB hl λ_ _=>rfl) rfl rfl) ?_;refine And.intro (fe X G (T:=T) dg9 (m:=["_law_left"]) (by decide +kernel) (λ_ _ _ _ _ _ us hl=>eB hl λ_ _=>rfl) rfl rfl) ?_;refine And.intro (fe X G (T:=T) dg10 (m:=["_law_some"]) (by decide +kernel) (λ_ _ _ _ _ _ us hl=>eB hl λ_ _=>rfl) rfl rfl) ?_;refine And.intro (fe X G (T:=T) dg11 (m:=["_law_found"]) (by decide +kernel) (λ_ _ _ _ _ _ us hl=>cu hl λ_=>rfl) rfl rfl) ?_;refine And.intro (fe X G (T:=T) dg12 (m:=["_law_groups","[]"]) (by decide +kernel) (λ_ _ _ _ _ _ us hl=>eB hl λ_ _=>rfl) rfl rfl) ?_;refine And.intro (fe X G (T:=T) dg13 (m:=["_law_found"]) (by decide +kernel) (λ_ _ _ _ _ _ us hl=>cu hl λ_=>rfl) rfl rfl) ?_;refine And.intro (fe X G (T:=T) dg14 (m:=["_law_met","srt3"]) (by decide +kernel) (λ_ _ _ _ _ _ us hl=>cu hl λ_=>rfl) rfl rfl) ?_
  trivial
 have ok:=mR (Rs:=Rs) (T:=T) (k:=11) (i:=14) (fd:=y7 (top 17) ["_law_met","srt3"]) (mF st fs 11) rfl FL rfl rfl (E4 (by decide +kernel));exact FnOk.imp ok (dn pj)
end L3.K43
open PySem PySem.W PyProof.Rows
set_option maxRecDepth 100000 in
set_option maxHeartbeats 0 in
theorem PySem.Challenge.cw_handnames_k43_types_of_one_round_holds : PySem.Challenge.rw_handnames_k43_types_of_one_round.Holds := by
 w_on;o_law;k_head;(case hw=>w_witness2)
 k_fill
 refine L3.walk_tab (l:=PySem.Challenge.rw_handnames_k43_types_of_one_round) (n:=63) (k:=15) (x:="_law_script") rfl (by decide) rfl ⟨λ_=>rfl,by decide,by decide,rfl⟩ (λw h Y=>⟨PySem.W.km_in_of Y,PySem.W.km_tabs_of Y _ (List.Mem.head _)⟩) ?F
 case F=>
  intro w mg fa h KX G hmg;refine' L3.K43.all_mk KX G hmg ?_ ?_ ?_ ?_ ?_ ?_ ?_ ?_ ?_ ?_ ?_ ?_ ?_ ?_ ?_ ?_ ?_ ?_ ?_ ?_
  rotate_left 15
  iterate 3 kernel_rfl
  iterate 15 (refine' L3.gf_mk ?a ?l ?c ?k;(case a=>k_is);(case l=>k_is);(case c=>k_is);(case k=>k_is))
  iterate 2 kernel_rfl
end
