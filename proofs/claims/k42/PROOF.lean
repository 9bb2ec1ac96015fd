import PyProof.Rows.All
import Wide.All
import OpenK.AllK
import Wide.FinOn
import Lean
import PyProof.EqAt
import PyProof.EqKinds
import PyProof.TupleCall
import PyProof.CompUse
import PyProof.P3Eq
import PyProof.NeData
import PyProof.P3In
import PyProof.EnumMake
import PyProof.Draws
import PyProof.ConsumeWalk
import PyProof.Rows.SetFrom
import PyProof.SetRoads
import PyProof.Rows.SortWalk
import PyProof.ListRange
import PyProof.WalksMore
import KE.KSortTup
import KE.KSortKey
import KE.KLam
import KE.KNestM
import PySem.Challenge.RW_handnames_k42_types
set_option Elab.async false
set_option linter.all false
set_option maxRecDepth 100000
set_option maxHeartbeats 4000000
namespace PySem.W.Fast
def tw11852641995350643535:=0
def tw5031737198813177955:=0
def tw15738498821955925514:=0
def tw6830410102307967246:=0
def tw5003707710598407995:=0
def tw15248386134651087386:=0
def tw921340996002310280:=0
def tw3850921206922246641:=0
def tw8978480448151654922:=0
def tw2334893809480184039:=0
def tw8083301284650313697:=0
def tw5123218790760862815:=0
def tw11752251265491081812:=0
def tw4301469165849467437:=0
def tw12110656777891085625:=0
def tw205840564073022419:=0
def tw8507323107533669542:=0
def tw2739885580843892820:=0
def tw6977781961856544986:=0
def tw2408560103060339221:=0
def tw12124294246393986825:=0
def tw8678208672599477631:=0
def tw3928704136665707028:=0
def tw7679184910163579186:=0
def tw690104922447401527:=0
def tw3805998087796430468:=0
def tw1995142225568276363:=0
def tw16919604179374819255:=0
def tw7332276633911974087:=0
def tw7738370098623921955:=0
def tw12039440566583445943:=0
def tw14492584468217095492:=0
def tw9849948165311736484:=0
def tw8323907525997205199:=0
def tw1664682688124296855:=0
def tw6166635626910991842:=0
def tw16550341169033786166:=0
def tw313990922305571144:=0
def tw13075770693522418463:=0
def tw5777749705936388351:=0
def tw7047735215490990562:=0
def tw7057360159438278563:=0
def tw11572612623905835288:=0
def tw12053581874690419835:=0
def tw3964756344114084125:=0
def tw9811426322308929364:=0
def tw3107187583796678177:=0
def tw253821780334695316:=0
def tw4078638592809829403:=0
def tw6786919191435940873:=0
def tw13374336061965474035:=0
def tw15236423820632864719:=0
def tw5882293816919946106:=0
def tw4844452878722034414:=0
def tw9992244791733408442:=0
def tw4870845579514059551:=0
def tw18094405968569616898:=0
def tw9982434747334076066:=0
def tw876635286321657874:=0
def tw16125920710510828500:=0
def tw7542638239352582920:=0
def tw5064526061188290461:=0
def tw17961518768121896281:=0
def tw1847784410125084116:=0
def tw90035425800029466:=0
def tw2659875953747660186:=0
def tw11163680929824470887:=0
def tw6772481611230125815:=0
def tw11394206811400900947:=0
def tw14030178930188940697:=0
def tw4822483296654383521:=0
def tw11098612864339822927:=0
def tw573840406188096517:=0
def tw17963474197621359809:=0
def tw9831201653505802346:=0
def tw3382760002949956459:=0
def tw3378579964087890386:=0
def tw1177196871149743255:=0
def tw15003671980978882138:=0
def tw15609952598459004045:=0
def tw5675729124819873483:=0
def tw8302850027293888927:=0
def tw5519972578474298558:=0
def tw16816012741486467518:=0
def tw15522535460498324935:=0
def tw14401332803836659464:=0
def tw6127809432577050900:=0
def tw5461524715614840268:=0
def tw3878040221657883437:=0
def tw10460255094362208220:=0
def tw4493491094684440472:=0
def tw14497857527016263746:=0
def tw3275466608863275659:=0
def tw16742488619696352456:=0
def tw16453352323255292303:=0
def tw1571745276708130080:=0
def tw9688617753276172547:=0
def tw457543868435180945:=0
def tw980033187320773864:=0
end PySem.W.Fast
local macro_rules (kind:=Lean.Parser.Command.declaration)
|s=>do
 if (s[1].isOfKind ``Lean.Parser.Command.definition||s[1].isOfKind ``Lean.Parser.Command.abbrev)&&s[0].getArgs.all (·.isNone) then return s.setArg 0 (<-`(command|noncomputable def x:=0)).raw[0]
 else Lean.Macro.throwUnsupported
def Ag:=@PySem.wpAny_bind
def Ah:=@PySem.Heap.get?_push_of_some
def Ai:=@PySem.wpAny_pure
def Aj:=@List.length_map
def Ak:=@List.getElem?_eq_getElem
def Al:=@List.size_toArray
def Am:=@PySem.Heap.lt_size
def An:=@PySem.Heap.get?_push_size
def Ao:=@Bool.and_eq_true
def Ap:=@Nat.le_refl
def Aq:=@Nat.ne_of_lt
def Ar:=@List.mem_append_right
def As:=@List.getD_eq_getElem?_getD
def At:=@Bool.false_ne_true
def Au:=@List.getElem?_eq_some_iff
def Av:=@List.length_append
def Aw:=@List.mem_cons_of_mem
def Ax:=@Array.length_toList
def Ay:=@List.mem_cons_self
def Az:=@Nat.lt_of_lt_of_le
def AA:=@List.mem_cons
def AB:=@PySem.wpAny_mono
def AC:=@List.getElem?_append_left
def AD:=@decide_eq_true_eq
def AE:=@Nat.lt_succ_of_lt
def AF:=@PySem.sizeLine_eq
def AG:=@Option.some.inj
def AH:=@List.getElem?_map
def AI:=@Nat.lt_succ_self
def AJ:=@List.getElem?_eq_none
def AK:=@PySem.wpAny_newObj_type
def AL:=@List.getElem?_append_right
def AM:=@PySem.lookup_relabel_local
def AN:=@List.length_range
def AO:=@List.take_succ_eq_append_getElem
def AQ:=@List.map_cons
def AR:=@Option.isNone_iff_eq_none
def AS:=@PySem.wpAny_holding
def AT:=@List.mem_of_getElem?
def AU:=@List.getElem_mem
def AV:=@decide_eq_false
def AW:=@List.getElem?_set_self
def AX:=@List.mem_singleton
def AY:=@PySem.Heap.get?_update_self
def AZ:=@Nat.le_trans
def Ba:=@PySem.wpAny_call_entry
def Bb:=@List.getElem?_set_ne
def Bc:=@Array.getElem?_eq_getElem
def Bd:=@List.mem_range
def Be:=@List.findIdx?_eq_some_iff_getElem
def Bf:=@List.length_take
def Bg:=@List.all_eq_true
def Bh:=@Nat.zero_le
def Bi:=@PySem.wpAny_Call_Name_kw
def Bj:=@List.append_nil
def Bk:=@PySem.Heap.SameBut.update
def Bl:=@Int.toNat_natCast
def Bm:=@Nat.le_succ
def Bn:=@Array.getElem?_toList
def Bo:=@PySem.wpAny_callSpecial?_slot
def Bp:=@PyProof.Rows.callWith_type1
def Bq:=@PySem.Heap.get?_update_other
def Br:=@List.flatten_cons
def Bs:=@List.nodup_iff_pairwise_ne
def Bt:=@List.replicate_succ
def Bu:=@PyProof.Rows.slot_tuple_getitem
def Bv:=@List.set_append_right
def Bw:=@List.pairwise_cons
def Bx:=@Option.isSome_iff_exists
def By:=@decide_eq_true
def Bz:=@Bool.not_eq_true'
def BA:=@PySem.codeAny_builtin
def BB:=@List.map_append
def BC:=@PyProof.Rows.F.plain_set_update_loop
def BD:=@List.all_cons
def BE:=@List.length_cons
def BF:=@PySem.Calls.spliced_cons
def BG:=@PySem.Heap.size_push
def BH:=@PyProof.Rows.listItems_at
def BI:=@List.mem_append
def BJ:=@Bool.eq_iff_iff
def BK:=@List.find?_cons
def BL:=@PySem.Calls.spliced_nil
def BM:=@PySem.codeAny_mono
def BN:=@List.append_assoc
def BO:=@PySem.wpAny_setState_of
def BP:=@PySem.Around.under_plainId
def BQ:=@Nat.lt_irrefl
def BR:=@PySem.wpAny_standAt
def BS:=@PySem.wpAny_comprehension_free
def BU:=@PySem.mem_of_lookup
def BV:=@PySem.wpAny_setEntries_of
def BW:=@PySem.wpAny_setField
def BX:=@PySem.F.plainAttrs_list
def BY:=@List.length_eq_zero_iff
def BZ:=@Nat.le_of_lt
def Ca:=@PySem.call_meets
def Cb:=@PySem.codeAny_compStart_list
def Cc:=@PySem.wpAny_rule
def Cd:=@Bool.false_eq_true
def Ce:=@List.nodup_cons
def Cg:=@PySem.wpAny_newList
def Ci:=@PyProof.Rows.listUpdate_at
def Cj:=@List.take_append_drop
def Ck:=@of_decide_eq_true
def Cm:=@PySem.wpAny_newFunctionEnv
def Cn:=@List.mem_iff_getElem
def Co:=@PySem.wpAny_typeOf
def Cp:=@Nat.le_of_not_lt
def Cq:=@PySem.wpAny_askSetting
def Cr:=@List.mem_map
def Cs:=@List.take_length
def Ct:=@List.mem_flatMap
def Cu:=@PySem.wpAny_binaryOp_repeat_ref
def Cv:=@List.getElem?_eq_none_iff
def Cw:=@PySem.Calls.call_function_entry
def Cy:=@PyProof.Rows.F.entry_set_update_loop
def Cz:=@List.flatten_append
def CA:=@List.flatMap_append
def CB:=@List.mem_map_of_mem
def CC:=@PySem.F.args_tuple_add_2
def CD:=@PySem.wpAny_passesOwn
def CF:=@Int.emod_lt_of_pos
def CG:=@PySem.F.entry_tuple_add
def CI:=@PySem.wpAny_field
def CJ:=@Int.eq_ofNat_of_zero_le
def CK:=@Nat.ne_of_gt
def CL:=@PySem.F.slot_tuple_add
def CM:=@PySem.Calls.callWith_builtin
def CN:=@Option.map_eq_some_iff
def CO:=@List.take_of_length_le
def CP:=@List.pairwise_map
def CQ:=@bne_self_eq_false
def CS:=@PySem.Heap.get?_push_ne
def CT:=@List.length_replicate
def CU:=@List.getElem?_toArray
def CV:=@List.getElem_inj
def CW:=@PyProof.Rows.callWith_builtin1
def CY:=@List.length_drop
def CZ:=@PySem.typeIs_int
def Da:=@List.lookup_cons
def Db:=@PySem.Heap.size_update
def Dc:=@List.any_cons
def Dd:=@PySem.wpAny_attempt
def De:=@PySem.Calls.evalArgs_plain
def Df:=@List.mem_of_mem_tail
def Dg:=@Array.toArray_toList
def Dh:=@Array.getElem_toList
def Di:=@List.nil_append
def Dj:=@PyProof.Rows.entry_list_sort
def Dk:=@List.find?_some
def Dl:=@Int.emod_nonneg
def Dm:=@PyProof.Rows.get?_update_seq
def Dn:=@List.filterMap_cons
def Do:=@PySem.Heap.get?_update_ne
def Dp:=@List.filter_eq_self
def Dq:=@PyProof.Rows.slot_list_sort
def Dr:=@PyProof.Rows.list_sort_tree
def Ds:=@PyProof.Rows.args_list_sort
def Dt:=@PyProof.Rows.IntsAre.int_at
def Du:=@PySem.Calls.Name_function_global
def Dv:=@PySem.wpAny_newFunctionEnv_cells
def Dw:=@Nat.lt_of_le_of_lt
def Dx:=@PyProof.Rows.listUpdate_at
def Dy:=@PySem.wpAny_fieldsOf
def Dz:=@PyProof.Rows.plain_sorted
def DA:=@PyProof.Rows.entry_sorted
def DB:=@PyProof.Rows.args_sorted1
def DC:=@List.findIdx?_eq_none_iff
def DD:=@List.take_sublist
def DE:=@Array.toList_push
def DF:=@List.ext_getElem?
def DG:=@PyProof.Rows.seqEpoch_at
def DH:=@PyProof.Rows.tupleItemsOf_
def DI:=@PyProof.Rows.kind_sorted
def DJ:=@PySem.plainId_quiet
def DK:=@List.length_erase_of_mem
def DL:=@List.getElem?_replicate
def DM:=@PySem.noFill_tuple_add
def DN:=@if_false
def DO:=@PyProof.Rows.size_push'
def DP:=@List.not_mem_nil
def DQ:=@PySem.wpAny_isInstance
def DR:=@PySem.F.plain_list_iadd
def DS:=@List.mem_flatten
def DT:=@List.map_map
def DU:=@Int.ne_of_gt
def DV:=@List.of_mem_zip
def DW:=@List.forIn_cons
def DX:=@PySem.codeAny_of_tree
def DY:=@Bool.or_eq_true
def DZ:=@List.range_succ
def Ea:=@PySem.wpAny_of_eq
def Eb:=@List.drop_zero
def Ec:=@PySem.wpAny_runValue
def Ed:=@PySem.isSubtype_type
def Ee:=@PySem.wpAny_newTuple
def Ef:=@PySem.seq_tuple_add
def Eg:=@PySem.eval_ListComp
def Eh:=@Bool.and_self
def Ei:=@List.map_take
namespace L2
open PySem PySem.Spec PyProof.Rows
abbrev Key:=Sum Int Str
def W7:Key->Value->Bool
 | .inl k,v=>Value.isInt k v
 | .inr x,v=>Value.isStrOf x v
def uY (w:World):Key->Int
 | .inl k=>hashInt k
 | .inr x=>hashStr w x
theorem f7:∀ {k:Key} {v:Value},W7 k v=true->(∃ i t,k=Sum.inl i/\v=Value.int i t)\/(∃ x t,k=Sum.inr x/\v=Value.str x t)
 | .inl i,v,h=>by
  obtain ⟨t,e⟩:=Value.isInt_shape (k:=i) (v:=v) h;exact .inl ⟨i,t,rfl,e⟩
 | .inr x,v,h=>by
  obtain ⟨t,e⟩:=Value.isStrOf_shape (x:=x) (v:=v) h;exact .inr ⟨x,t,rfl,e⟩
theorem el (i:Int) (t:Tok):W7 (.inl i) (.int i t)=true:=by simp [W7,Value.isInt]
theorem eU (x:Str) (t:Tok):W7 (.inr x) (.str x t)=true:=by simp [W7,Value.isStrOf]
theorem nN (a b:Int):decide ((Sum.inl a:Key)=Sum.inl b)=(a==b):=by
 by_cases e:a=b
 ·subst e;simp
 ·have h:¬ (Sum.inl a:Key)=Sum.inl b:=λq=>e (Sum.inl.inj q);rw [AV h];exact (beq_eq_false_iff_ne.mpr e).symm
theorem pk (a b:Str):decide ((Sum.inr a:Key)=Sum.inr b)=decide (a=b):=by
 by_cases e:a=b
 ·subst e;simp
 ·have h:¬ (Sum.inr a:Key)=Sum.inr b:=λq=>e (Sum.inr.inj q);rw [AV h,AV e]
theorem oG (a:Int) (b:Str):decide ((Sum.inl a:Key)=Sum.inr b)=false:=AV (λq=>nomatch q)
theorem oS (a:Str) (b:Int):decide ((Sum.inr a:Key)=Sum.inl b)=false:=AV (λq=>nomatch q)
def j0 (prog:Program) (w:World):PySem.KeyKind prog w Key where
 is:=W7
 hash:=uY w
 inj:=λv a b ha hb=>by
  rcases f7 ha with ⟨i,t,rfl,rfl⟩ | ⟨x,t,rfl,rfl⟩
  ·rcases f7 hb with ⟨j,u,rfl,e⟩ | ⟨y,u,rfl,e⟩
   ·injection e with e1 _;rw [e1]
   ·exact nomatch e
  ·rcases f7 hb with ⟨j,u,rfl,e⟩ | ⟨y,u,rfl,e⟩
   ·exact nomatch e
   ·injection e with e1 _;rw [e1]
 byValue:=λk v h=>by
  rcases f7 h with ⟨i,t,rfl,rfl⟩ | ⟨x,t,rfl,rfl⟩ <;> rfl
 pyHash:=λhv h=>by
  rcases f7 hv with ⟨i,t,rfl,rfl⟩ | ⟨x,t,rfl,rfl⟩
  ·exact wpAny_pyHash_int h
  ·exact wpAny_pyHash_str h
 eqBool:=λhu hv h=>by
  rcases f7 hu with ⟨i,t,rfl,rfl⟩ | ⟨x,t,rfl,rfl⟩
  ·rcases f7 hv with ⟨j,u,rfl,rfl⟩ | ⟨y,u,rfl,rfl⟩
   ·rw [nN] at h;exact wpAny_eqBool_int h
   ·rw [oG] at h;exact SeqAt.EqAt.int_str i t y u _ _ _ _ h
  ·rcases f7 hv with ⟨j,u,rfl,rfl⟩ | ⟨y,u,rfl,rfl⟩
   ·rw [oS] at h;exact SeqAt.EqAt.str_int x t j u _ _ _ _ h
   ·rw [pk] at h;exact wpAny_eqBool_str h
 «strs»:=λk x t v h=>by
  rcases f7 h with ⟨i,u,rfl,e⟩ | ⟨y,u,rfl,e⟩
  ·exact nomatch e
  ·injection e with e1 _;subst e1;cases v <;> rfl
theorem bf (prog:Program) (w:World) (i:Int) (t:Tok):(j0 prog w).is (.inl i) (.int i t)=true:=el i t
theorem bX (prog:Program) (w:World) (x:Str) (t:Tok):(j0 prog w).is (.inr x) (.str x t)=true:=eU x t
inductive V where
 | non | bl (b:Bool) | int (i:Int) | str (x:Str) | byt (b:Array UInt8) | flt (b:UInt64) | ref (a:Addr) | ty (n:String)
 deriving DecidableEq
def RelV:V->Value->Prop
 | .non,u=>u=Value.none
 | .bl b,u=>u=Value.bool b
 | .int i,u=>∃ t,u=Value.int i t
 | .str x,u=>∃ t,u=Value.str x t
 | .byt b,u=>∃ t,u=Value.bytes b t
 | .flt b,u=>∃ t,u=Value.float b t
 | .ref a,u=>u=Value.ref a
 | .ty n,u=>u=Value.type n
abbrev Vals:List V->List Value->Prop:=Paired RelV
theorem Vals.length {xs:List V} {us:List Value} (r:Vals xs us):xs.length=us.length:=Paired.length r
theorem Vals.get:∀ {xs:List V} {us:List Value} {i:Nat} {x:V},Vals xs us->xs[i]?=some x->∃ u,us[i]?=some u/\RelV x u
 | _,_,_,_,.nil,e=>by simp at e
 | _,_,0,_,.cons r _,e=>by simp at e;subst e;exact ⟨_,rfl,r⟩
 | _,_,i+1,x,.cons _ t,e=>by
  obtain ⟨u,h1,h2⟩:=Vals.get (i:=i) (x:=x) t (by simpa using e);exact ⟨u,by simpa using h1,h2⟩
theorem Vals.set {x:V} {u:Value} (r:RelV x u):∀ {xs:List V} {us:List Value} (i:Nat),Vals xs us->Vals (xs.set i x) (us.set i u)
 | _,_,_,.nil=>.nil
 | _,_,0,.cons _ t=>.cons r t
 | _,_,i+1,.cons q t=>.cons q (Vals.set r i t)
theorem Vals.append:∀ {xs ys:List V} {us ws:List Value},Vals xs us->Vals ys ws->Vals (xs++ys) (us++ws)
 | _,_,_,_,.nil,s=>s
 | _,_,_,_,.cons r t,s=>.cons r (Vals.append t s)
theorem Vals.take:∀ {xs:List V} {us:List Value} (n:Nat),Vals xs us->Vals (xs.take n) (us.take n)
 | _,_,0,_=>.nil
 | _,_,_+1,.nil=>.nil
 | _,_,n+1,.cons r t=>.cons r (Vals.take n t)
theorem Vals.drop:∀ {xs:List V} {us:List Value} (n:Nat),Vals xs us->Vals (xs.drop n) (us.drop n)
 | _,_,0,r=>r
 | _,_,_+1,.nil=>.nil
 | _,_,n+1,.cons _ t=>Vals.drop n t
def RelO:Option V->Option Value->Prop
 | some v,some u=>RelV v u
 | none,none=>True
 | _,_=>False
def KV {κ:Type}:List (κ×V)->List (κ×Value)->Prop:=Paired λ(p:κ×V) (q:κ×Value)=>p.1=q.1/\RelV p.2 q.2
def kV:Key->V
 | .inl i=>.int i
 | .inr x=>.str x
inductive HO where
 | lst (xs:List V)
 | tup (xs:List V)
 | dK (kvs:List (Key×V)) | dT (kvs:List (List Key×V))
 | set (S:Int->Bool) (n:Nat)
 | ins (C dx:Addr) (fs:List (Str×V))
 | own (x:Addr)
 | xd (fs:List (Str×V))
 | met (f x:Addr)
 | rng (lo hi:Int)
 | frz (o:Obj) (u:HO)
 | tbl (ps:Array Value)
 | ext (φ:Heap->Prop)
abbrev Hp:=Addr->Option HO
def upd (H:Hp) (a:Addr) (o:HO):Hp:=λb=>if b=a then some o else H b
theorem b6 {H:Hp} {a:Addr} {o:HO}:upd H a o a=some o:=by unfold upd;rw [if_pos rfl]
theorem b1 {H:Hp} {a b:Addr} {o:HO} (h:b≠a):upd H a o b=H b:=by unfold upd;rw [if_neg h]
theorem nI {H:Hp} {a b:Addr} {o u:HO} (h:H a=some o) (h':H b=some u) (d:o≠u):a≠b:=by
 intro e;subst e;rw [h] at h';exact d (AG h')
theorem b4 {H:Hp} {a b:Addr} {o:HO} (h:H a=some o) (h':H b=none):a≠b:=by
 intro e;subst e;rw [h] at h';cases h'
def TupN (h:Heap) (a:Addr) (items:Array Value):Prop:=∃ o,h.get? a=some o/\o.cls=.type "tuple"/\∃ n,o.data=.seq items n/\o.dict=none
theorem TupN.is {h:Heap} {a:Addr} {items:Array Value} (x:TupN h a items):IsTup h a items:=let ⟨o,e,c,n,d,_⟩:=x;⟨o,e,c,n,d⟩
theorem TupN.new (h:Heap) (items:Array Value):TupN (h.push { cls:=.type "tuple",data:=.seq items }) h.objs.size items:=⟨_,An _ rfl,rfl,_,rfl,rfl⟩
section
variable (P:Program) (w:World)
def ObjOk (H:Hp) (h:Heap) (a:Addr):HO->Prop
 | .lst xs=>xs.length<=sizeLine/\∃ (its:List Value) (n:Nat),Vals xs its/\h.get? a=some { cls:=.type "list",data:=.seq its.toArray n }
 | .tup xs=>xs.length<=sizeLine/\∃ its:List Value,Vals xs its/\TupN h a its.toArray
 | .dK kvs=>kvs.length<=sizeLine/\(a==sysModules)=false/\∃ vs,KV kvs vs/\h.DictOf (j0 P w) a vs
 | .dT kvs=>kvs.length<=sizeLine/\(a==sysModules)=false/\∃ xs:List (List Key×Addr×Value),
   Paired (λ(p:List Key×V) (q:List Key×Addr×Value)=>p.1=q.1/\H q.2.1=some (.tup (p.1.map kV))/\RelV p.2 q.2.2) kvs xs /\
   ∃ o es ep,h.get? a=some o/\o.ExactDict/\o.data=.dict es ep/\es.toList=xs.map (entryOfKey (tupleKind (j0 P w)))/\(xs.map (·.1)).Nodup
 | .set S n=>h.SetOf (intKind P w) a S n
 | .ins C dx fs=>H dx=some (.own a)/\fs.length<=1000/\dx≠a/\h.get? a=some (PySem.W.instObj C dx) /\
   ∃ mA,h.Ns1 dx mA/\(∀ f,RelO (fs.lookup f) (mA f))/\PySem.Within mA (fs.map (·.1))
 | .own _=>∃ o,h.get? a=some o
 | .xd fs=>∃ mA,h.Ns1 a mA/\∀ f,RelO (fs.lookup f) (mA f)
 | .rng lo hi=>∃ t u v,h.get? a=some { cls:=.type "range",data:=.fields #[.int lo t,.int hi u,.int 1 v] }
 | .frz o u=>h.get? a=some o/\ObjOk H h a u
 | .tbl ps=>∃ tb:Array Value,h.get? a=some { cls:=.none,data:=.fields tb }/\TriplesOk tb.toList/\∀ pos cv,codeAmong pos tb.toList=some cv->∃ c o vs t q,cv=.ref c/\H c=some (.frz o (.own a))/\o.data=.fields vs/\vs[1]?=some (.str q t)/\ps[0]?=some (.str q 0)
 | .met f x=>h.get? a=some (PySem.W.methodObj (.ref f) (.ref x))
 | .ext φ=>φ h/\(∃ o,h.get? a=some o)/\∀ h1 h2:Heap,φ h1->(∀ o,h1.get? a=some o->h2.get? a=some o)->φ h2
def HOk (H:Hp) (h:Heap):Prop:=∀ a o,H a=some o->ObjOk P w H h a o
end
section
variable {P:Program} {w:World} {H H':Hp} {h h':Heap} {a:Addr} {o:HO}
theorem ObjOk.lt (x:ObjOk P w H h a o):a<h.objs.size:=by
 cases o with
 | lst xs=>obtain ⟨_,_,_,_,e⟩:=x;exact Am e
 | tup xs=>obtain ⟨_,_,_,p⟩:=x;exact p.is.lt
 | dK kvs=>obtain ⟨_,_,_,_,o,_,_,e,_⟩:=x;exact Am e
 | dT kvs=>obtain ⟨_,_,_,_,o,_,_,e,_⟩:=x;exact Am e
 | set S n=>obtain ⟨o,_,_,_,e,_⟩:=x;exact Am e
 | ins C dx fs=>obtain ⟨_,_,_,e,_⟩:=x;exact Am e
 | own y=>obtain ⟨_,e⟩:=x;exact Am e
 | xd fs=>obtain ⟨_,⟨_,_,_,e,_⟩,_⟩:=x;exact Am e
 | rng lo hi=>obtain ⟨_,_,_,e⟩:=x;exact Am e
 | frz ob u=>obtain ⟨e,_⟩:=x;exact Am e
 | tbl ps=>obtain ⟨_,e,_⟩:=x;exact Am e
 | met f y=>exact Am (show h.get? a=some _ from x)
 | ext φ=>obtain ⟨_,⟨_,e⟩,_⟩:=x;exact Am e
theorem Paired.mapP {α β:Type} {F G:α->β->Prop}:∀ {l₁:List α} {l₂:List β},Paired F l₁ l₂->(∀ a b,F a b->G a b)->Paired G l₁ l₂
 | _,_,.nil,_=>.nil
 | _,_,.cons r t,f=>.cons (f _ _ r) (Paired.mapP t f)
theorem ObjOk.stay (x:ObjOk P w H h a o) (k:∀ b u,(b=a\/H b=some (.own a))->h.get? b=some u->h'.get? b=some u)
  (ho:∀ b,H b=some (.own a)->H' b=some (.own a)) (ht:∀ b xs,H b=some (.tup xs)->H' b=some (.tup xs)) (hz:∀ b o u,H b=some (.frz o u)->H' b=some (.frz o u):=by exact λ_ _ _ q=>q):ObjOk P w H' h' a o:=by
 induction o with
 | lst xs=>obtain ⟨z,its,n,r,e⟩:=x;exact ⟨z,its,n,r,k _ _ (.inl rfl) e⟩
 | tup xs=>obtain ⟨z,its,r,ob,e,c⟩:=x;exact ⟨z,its,r,ob,k _ _ (.inl rfl) e,c⟩
 | dK kvs=>obtain ⟨z,y,vs,r,ob,es,ep,e,c⟩:=x;exact ⟨z,y,vs,r,ob,es,ep,k _ _ (.inl rfl) e,c⟩
 | dT kvs=>
  obtain ⟨z,y,xs,r,ob,es,ep,e,c⟩:=x;exact ⟨z,y,xs,Paired.mapP r λp q z=>⟨z.1,ht _ _ z.2.1,z.2.2⟩,ob,es,ep,k _ _ (.inl rfl) e,c⟩
 | set S n=>obtain ⟨ob,es,ep,t,e,c⟩:=x;exact ⟨ob,es,ep,t,k _ _ (.inl rfl) e,c⟩
 | ins C dx fs=>
  obtain ⟨d,z,ne,e,mA,⟨od,es,ep,e2,c⟩,r⟩:=x;exact ⟨ho _ d,z,ne,k _ _ (.inl rfl) e,mA,⟨od,es,ep,k _ _ (.inr d) e2,c⟩,r⟩
 | own y=>obtain ⟨ob,e⟩:=x;exact ⟨ob,k _ _ (.inl rfl) e⟩
 | xd fs=>obtain ⟨mA,⟨od,es,ep,e,c⟩,r⟩:=x;exact ⟨mA,⟨od,es,ep,k _ _ (.inl rfl) e,c⟩,r⟩
 | rng lo hi=>obtain ⟨t,u,v,e⟩:=x;exact ⟨t,u,v,k _ _ (.inl rfl) e⟩
 | frz ob u ih=>obtain ⟨e,q⟩:=x;exact ⟨k _ _ (.inl rfl) e,ih q⟩
 | tbl ps=>
  obtain ⟨tb,e,z,q⟩:=x;exact ⟨tb,k _ _ (.inl rfl) e,z,λpos cv y=>let ⟨c,o,vs,t,q,h1,h2,h3⟩:=q pos cv y;⟨c,o,vs,t,q,h1,hz _ _ _ h2,h3⟩⟩
 | met f y=>
  have e:h.get? a=some (PySem.W.methodObj (.ref f) (.ref y)):=x;show h'.get? a=some (PySem.W.methodObj (.ref f) (.ref y));exact k a _ (.inl rfl) e
 | ext φ=>obtain ⟨p,⟨o,e⟩,st⟩:=x;exact ⟨st _ _ p λo q=>k _ _ (.inl rfl) q,⟨o,k _ _ (.inl rfl) e⟩,st⟩
theorem HOk.lt (x:HOk P w H h) (e:H a=some o):a<h.objs.size:=(x a o e).lt
theorem HOk.fresh (x:HOk P w H h) (e:h.objs.size<=a):H a=none:=by
 cases q:H a with
 | none=>rfl
 | some u=>exact absurd (Az (x.lt q) e) (BQ _)
theorem HOk.kept (x:HOk P w H h) (k:∀ b u,h.get? b=some u->h'.get? b=some u):HOk P w H h':=λa o e=>
 (x a o e).stay (λb u _ q=>k b u q) (λ_ q=>q) λ_ _ q=>q
theorem HOk.laid (x:HOk P w H h) (k:∀ b u,h.get? b=some u->h'.get? b=some u) (hp:h.objs.size<=a) (new:ObjOk P w (upd H a o) h' a o):HOk P w (upd H a o) h':=λb u e=>by
 have hn:=x.fresh hp;by_cases hb:b=a
 ·subst hb;rw [b6] at e;cases e;exact new
 ·rw [b1 hb] at e;exact (x b u e).stay (λc v _ q=>k c v q) (λc q=>by rw [b1 (b4 q hn)];exact q) (λc xs q=>by rw [b1 (b4 q hn)];exact q) λc o u q=>by rw [b1 (b4 q hn)];exact q
end
def Rd (H:Hp) (a:Addr) (u:HO):Prop:=H a=some u\/∃ o,H a=some (.frz o u)
theorem Rd.ok {P:Program} {w:World} {H:Hp} {h:Heap} {a:Addr} {u:HO} (r:Rd H a u) (x:HOk P w H h):ObjOk P w H h a u:=by
 rcases r with r | ⟨o,r⟩
 ·exact x a u r
 ·obtain ⟨_,q⟩:=x a _ r;exact q
def Mut:Option HO->Prop
 | some (.lst _)=>True
 | some (.dK _)=>True
 | some (.dT _)=>True
 | some (.set _ _)=>True
 | some (.ins _ _ _)=>True
 | some (.ext _)=>True
 | _=>False
section
variable {P:Program} {w:World} {H:Hp} {h h':Heap} {x e:Addr} {o':HO}
theorem HOk.write (ok:HOk P w H h) (mu:Mut (H x)) (he:e=x\/H e=some (.own x)) (k:∀ b u,b≠e->h.get? b=some u->h'.get? b=some u) (heo:∃ u,h'.get? e=some u)
  (new:ObjOk P w (upd H x o') h' x o'):HOk P w (upd H x o') h':=λb u q=>by
 have nown:∀ c y,H c=some (.own y)->c≠x:=λc y r z=>by subst z;rw [r] at mu;exact mu
 have ntup:∀ c xs,H c=some (.tup xs)->c≠x:=λc xs r z=>by subst z;rw [r] at mu;exact mu
 by_cases hb:b=x
 ·subst hb;rw [b6] at q;cases q;exact new
 ·rw [b1 hb] at q;by_cases hbe:b=e
  ·have q':H b=some (.own x):=by
    rcases he with z | z
    ·exact absurd (hbe.trans z) hb
    ·rw [hbe];exact z
   rw [q] at q';cases q';obtain ⟨v,hv⟩:=heo;exact ⟨v,by rw [hbe];exact hv⟩
  ·refine (ok b u q).stay (λc v hc r=>k c v ?_ r) (λc r=>by rw [b1 (nown c b r)];exact r) (λc xs r=>by rw [b1 (ntup c xs r)];exact r) λc o u r=>by rw [b1 (λz=>by subst z;rw [r] at mu;exact mu)];exact r
   rcases hc with rfl | hc
   ·exact hbe
   ·rintro rfl;rcases he with z | z
    ·exact nown c b hc z
    ·rw [hc] at z;cases z;exact hb rfl
end
structure Un (fs ex:List Addr) (H H':Hp) (h h':Heap):Prop where
 keep:∀ b o,h.get? b=some o->H b=none->b∉fs->b∉ex->h'.get? b=some o
 slot:∀ b o,h.get? b=some o->H b=none->b∈fs->b∉ex->∃ sl,h'.get? b=some { o with slots:=sl }
 free:∀ b o,h.get? b=some o->H b=none->b∉ex->H' b=none
 there:∀ b o,h.get? b=some o->b∉ex->∃ o',h'.get? b=some o'
 tups:∀ b xs,H b=some (.tup xs)->H' b=some (.tup xs)
 frzs:∀ b o u,H b=some (.frz o u)->H' b=some (.frz o u)
 tbls:∀ b ps,H b=some (.tbl ps)->∃ more,H' b=some (.tbl (ps++more))
section
variable {fs fs' ex ex':List Addr} {H H1 H2:Hp} {h h1 h2 h':Heap} {a x e:Addr} {o:HO}
theorem Un.any (u:Un fs ex H H1 h h1) {b:Addr} {ob:Obj} (q:h.get? b=some ob) (n:H b=none) (hx:b∉ex):∃ sl,h1.get? b=some { ob with slots:=sl }:=by
 by_cases hb:b∈fs
 ·exact u.slot b ob q n hb hx
 ·exact ⟨ob.slots,u.keep b ob q n hb hx⟩
theorem Un.kept (k:∀ b u,h.get? b=some u->h'.get? b=some u):Un fs ex H H h h':=
 ⟨λb ob q _ _ _=>k b ob q,λb ob q _ _ _=>⟨ob.slots,k b ob q⟩,λ_ _ _ n _=>n,λb ob q _=>⟨ob,k b ob q⟩,λ_ _ q=>q,λ_ _ _ q=>q,λ_ ps q=>⟨#[],by rw [q];simp⟩⟩
theorem Un.refl:Un fs ex H H h h:=Un.kept λ_ _ q=>q
theorem Un.laid (k:∀ b u,h.get? b=some u->h'.get? b=some u) (hp:h.objs.size<=a) (hn:H a=none):Un fs ex H (upd H a o) h h' where
 keep:=λb u q _ _ _=>k b u q
 slot:=λb u q _ _ _=>⟨u.slots,k b u q⟩
 free:=λb u q n _=>by rw [b1 (Aq (Az (Am q) hp))];exact n
 there:=λb u q _=>⟨u,k b u q⟩
 tups:=λb xs q=>by rw [b1 (b4 q hn)];exact q
 frzs:=λb u xs q=>by rw [b1 (b4 q hn)];exact q
 tbls:=λb ps q=>⟨#[],by rw [b1 (b4 q hn),q];simp⟩
theorem Un.write (mu:Mut (H x)) (he:e=x\/H e=some (.own x)) (k:∀ b u,b≠e->h.get? b=some u->h'.get? b=some u) (heo:∃ u,h'.get? e=some u):Un fs ex H (upd H x o) h h':=by
 have hx:∀ b,H b=none->b≠x:=λb n z=>by subst z;rw [n] at mu;exact mu
 have hb:∀ b,H b=none->b≠e:=λb n z=>by
  subst z;rcases he with r | r
  ·exact hx b n r
  ·rw [n] at r;cases r
 have hm:∀ b u,H b=some u->¬ Mut (some u)->b≠x:=λb u q nm z=>by subst z;rw [q] at mu;exact nm mu
 refine ⟨λb u q n _ _=>k b u (hb b n) q,λb u q n _ _=>⟨u.slots,k b u (hb b n) q⟩,λb u q n _=>by rw [b1 (hx b n)];exact n,λb u q _=>?_,
  λb xs q=>by rw [b1 (hm b _ q λz=>z)];exact q,λb u xs q=>by rw [b1 (hm b _ q λz=>z)];exact q,λb ps q=>⟨#[],by rw [b1 (hm b _ q λz=>z),q];simp⟩⟩
 by_cases hbe:b=e
 ·subst hbe;exact heo
 ·exact ⟨u,k b u hbe q⟩
end
def trk (h:Heap) (H:Hp):List Addr:=(List.range h.objs.size).filter λa=>(H a).isSome
def bH (h:Heap) (H:Hp):Heap:=PySem.W.hideAll h (trk h H)
theorem fM (h:Heap) (H:Hp):(bH h H).objs.size=h.objs.size:=PySem.W.hideAll_size _ _
theorem T1 {h:Heap} {H:Hp} {b:Addr} {o:Obj} (e:h.get? b=some o) (n:H b=none):(bH h H).get? b=some o:=
 PySem.W.hideAll_get _ e λhm=>by
  have q:(H b).isSome=true:=(List.mem_filter.mp hm).2;rw [n] at q;simp at q
theorem lS {h:Heap} {H:Hp} {b:Addr} {o:Obj} (e:(bH h H).get? b=some o):h.get? b=some o/\H b=none:=by
 have e':h.get? b=some o:=PySem.W.of_hideAll (trk h H) e;refine ⟨e',?_⟩;cases q:H b with
 | none=>rfl
 | some x=>
  have hm:b∈trk h H:=List.mem_filter.mpr ⟨Bd.mpr (Am e'),by simp [q]⟩;have z:(bH h H).get? b=none:=PySem.W.hideAll_none (trk h H) hm;rw [z] at e;cases e
def rM (mg:Str->Option Value) (h:Heap):Prop:=∃ bm ob,mg "__builtins__" = some (.ref bm)/\bm≠builtinsNs/\h.get? bm=some ob/\ob.cls=.type "module"/\ob.dict=some builtinsNs/\ob.data=.plain
structure Mod (K:PySem.W.Frag) (mg:Str->Option Value) (base:Heap):Prop where
 kin:K.In base
 glob:base.Ns mainGlobals mg
 blt:∃ mb,base.Ns builtinsNs mb/\∀ x:Str,x ≠ "__name__"->mb x=bootBuiltins x
 nolimit:base.NoLimit
 bm:rM mg base
structure Cx where
 prog:Program
 w:World
 K:PySem.W.Frag
 mg:Str->Option Value
 base:Heap
 A:Around
 N:List Str
 s₀:Shared
 H₀:Hp
 env:Env
 outer:List Env
 stack:List Env
 ex:List Addr
 fn:Str->Bool
 calm:Bool
 pn:List (Addr×Obj)
 xe:Value->Shared->Prop
def frs (l:List Env):List Addr:=l.filterMap (·.frame)
abbrev Cx.fs (X:Cx):List Addr:=frs X.outer
def Vis (sc:Scope) (x:Str):Prop:=sc.names.lookup x=some .local\/sc.names.lookup x=some .cell\/sc.names.lookup x=some .free
def Loc (sc:Scope) (x:Str):Prop:=sc.names.lookup x=some .local\/sc.names.lookup x=some .cell
def tW (env:Env) (h:Heap) (m:Str->Option Value) (x:Str) (u:Value):Prop:=
 (env.kindOf x=some .local/\m x=some u)\/((env.kindOf x=some .cell\/env.kindOf x=some .free)/\∃ c,env.cells.lookup x=some c/\h.IsCell c (some u))
structure Cx.Ok (X:Cx):Prop where
 mod:Mod X.K X.mg X.base
 kind:X.env.scope.kind=.function
 glob:X.env.globals=mainGlobals
 blt:X.env.builtins=builtinsNs
 above:X.s₀.heap.objs.size<=X.env.locals
 inj:∀ x y c,X.env.cells.lookup x=some c->X.env.cells.lookup y=some c->x=y
 has:∀ x,(X.env.kindOf x=some .cell\/X.env.kindOf x=some .free)->∃ c,X.env.cells.lookup x=some c
 cab:∀ x c,X.fn x=true->X.env.cells.lookup x=some c->X.s₀.heap.objs.size<=c
 hd:X.calm=true->X.A.handled=none
 frames:X.A.frames=some X.stack
 stk:X.stack=X.outer\/(X.stack=X.env :: X.outer/\X.env.frame=some X.env.locals)
 exf:∀ b∈X.ex,b≠X.env.locals/\∀ x c,X.env.cells.lookup x=some c->c≠b
 bs:∀ b o,X.base.get? b=some o->X.s₀.heap.get? b=some o/\X.H₀ b=none
 bsz:X.base.objs.size<=X.s₀.heap.objs.size
 noex:∀ b o,X.base.get? b=some o->b∉X.ex
 exfs:∀ b∈X.ex,b∉X.fs
 funs:X.s₀.heap.FunFrames X.base X.outer
 frf:∀ b∈X.fs,X.H₀ b=none
structure Inv (X:Cx) (pins:List (Addr×Obj)) (σ:List (Option V)) (H:Hp) (s:Shared):Prop where
 ok:X.Ok
 os:s.os=X.s₀.os
 bare:AllBare s.gens
 base:Un X.fs X.ex X.H₀ H X.s₀.heap s.heap
 loc:∃ m,s.heap.Ns X.env.locals m/\∀ (i:Nat) (x:Str) (v:V),X.N[i]?=some x->σ[i]?=some (some v)->Vis X.env.scope x->∃ u,RelV v u/\tW X.env s.heap m x u
 cell:∀ x c,X.env.cells.lookup x=some c->∃ v,s.heap.IsCell c v
 free:H X.env.locals=none
 freeC:∀ x c,X.env.cells.lookup x=some c->H c=none
 pin:∀ p∈X.pn++pins,s.heap.get? p.1=some p.2/\H p.1=none/\p.1≠X.env.locals/\p.1∉X.fs/\∀ v,p.2.data≠.cell v
 hok:HOk X.prog X.w H s.heap
 len:σ.length=X.N.length
section
variable {X:Cx} {pins:List (Addr×Obj)} {σ:List (Option V)} {H H':Hp} {s:Shared} {h':Heap}
theorem Cx.Ok.nofr (ok:X.Ok) {b:Addr} {o:Obj} (e:X.base.get? b=some o):b∉X.fs:=λhb=>by
 have:=(ok.funs.mem hb).1;rw [e] at this;cases this
theorem Inv.bs (I:Inv X pins σ H s):∀ b o,X.base.get? b=some o->s.heap.get? b=some o/\H b=none:=λb o e=>
 ⟨I.base.keep b o (I.ok.bs b o e).1 (I.ok.bs b o e).2 (I.ok.nofr e) (I.ok.noex b o e),I.base.free b o (I.ok.bs b o e).1 (I.ok.bs b o e).2 (I.ok.noex b o e)⟩
theorem Inv.bk (I:Inv X pins σ H s):∀ b o,X.base.get? b=some o->s.heap.get? b=some o:=λb o e=>(I.bs b o e).1
theorem Inv.mod (I:Inv X pins σ H s):Mod X.K X.mg X.base:=I.ok.mod
theorem Inv.kIn (I:Inv X pins σ H s):X.K.In s.heap:=I.ok.mod.kin.keeps I.bk
theorem Inv.lt (I:Inv X pins σ H s):X.env.locals<s.heap.objs.size:=let ⟨_,hn,_⟩:=I.loc;hn.lt
theorem Inv.sz (I:Inv X pins σ H s):X.s₀.heap.objs.size<=s.heap.objs.size:=AZ I.ok.above (BZ I.lt)
theorem Inv.nofs (I:Inv X pins σ H s) {a:Addr} (h:s.heap.objs.size<=a):a∉X.fs:=λhb=>by
 obtain ⟨_,o,ho,_⟩:=I.ok.funs.mem hb;exact absurd (Az (Am ho) (AZ I.sz h)) (BQ _)
theorem Inv.cne (I:Inv X pins σ H s):∀ x c,X.env.cells.lookup x=some c->c≠X.env.locals:=λx c e z=>by
 obtain ⟨v,o,ho,hd⟩:=I.cell x c e;obtain ⟨m,⟨o',es,ep,ho',hd',_⟩,_⟩:=I.loc;rw [z,ho'] at ho;cases ho;rw [hd'] at hd;cases hd
theorem Inv.funs (I:Inv X pins σ H s):s.heap.FunFrames X.base X.outer:=by
 have all:∀ (l:List Env),(∀ b∈frs l,b∈X.fs)->X.s₀.heap.FunFrames X.base l->s.heap.FunFrames X.base l:=by
  intro l;induction l with
  | nil=>intro _ _;trivial
  | cons env r ih=>
   intro hs hl;obtain ⟨hk,⟨L,o,hf,hn,ho,hd⟩,hr⟩:=hl;have hL:L∈X.fs:=hs L (by unfold frs;rw [Dn,hf];exact Ay);obtain ⟨sl,e⟩:=I.base.slot L o ho (I.ok.frf L hL) hL λz=>I.ok.exfs L z hL;exact ⟨hk,⟨L,_,hf,hn,e,hd⟩,ih (λb hb=>hs b (by unfold frs;rw [Dn,hf];exact Aw _ hb)) hr⟩
 exact all X.outer (λ_ hb=>hb) I.ok.funs
theorem Inv.stack (I:Inv X pins σ H s):s.heap.FunFrames X.base X.stack:=by
 rcases I.ok.stk with e | ⟨e,hf⟩
 ·rw [e];exact I.funs
 ·rw [e];obtain ⟨m,hn,_⟩:=I.loc;refine .cons (by rw [I.ok.kind];decide) hf hn ?_ I.funs;exact Heap.get?_none_of_le (AZ I.ok.bsz I.ok.above)
theorem Inv.stkSub (I:Inv X pins σ H s):∀ b∈frs X.stack,b∈X.env.locals :: X.fs:=λb hb=>by
 rcases I.ok.stk with e | ⟨e,hf⟩
 ·rw [e] at hb;exact Aw _ hb
 ·rw [e] at hb;unfold frs at hb;rw [Dn,hf] at hb;exact hb
theorem Inv.stkFree (I:Inv X pins σ H s):∀ b∈frs X.stack,H b=none:=λb hb=>by
 rcases AA.mp (I.stkSub b hb) with e | hb
 ·rw [e];exact I.free
 ·obtain ⟨_,o,ho,_⟩:=I.ok.funs.mem hb;exact I.base.free b o ho (I.ok.frf b hb) λz=>I.ok.exfs b z hb
theorem Inv.step {g':Array GenState} {t':Nat} {d':Drawn} {ch:List Addr} (I:Inv X pins σ H s)
  (hch:∀ b∈ch,(b∈X.ex\/X.s₀.heap.objs.size<=b)/\b≠X.env.locals/\(∀ x c,X.env.cells.lookup x=some c->c≠b)/\∀ p∈X.pn++pins,p.1≠b)
  (keep:∀ b o,b≠X.env.locals->b∉X.fs->b∉ch->s.heap.get? b=some o->H b=none->h'.get? b=some o)
  (slot:∀ b o,b≠X.env.locals->b∈X.fs->b∉ch->s.heap.get? b=some o->H b=none->∃ sl,h'.get? b=some { o with slots:=sl }) (free:∀ b o,b∉ch->s.heap.get? b=some o->H b=none->H' b=none)
  (there:∀ b o,b∉ch->s.heap.get? b=some o->∃ o',h'.get? b=some o')
  (tups:∀ b xs,H b=some (.tup xs)->H' b=some (.tup xs)) (frzs:∀ b o u,H b=some (.frz o u)->H' b=some (.frz o u)) (tbls:∀ b ps,H b=some (.tbl ps)->∃ more,H' b=some (.tbl (ps++more)))
  (ns:∀ m,s.heap.Ns X.env.locals m->h'.Ns X.env.locals m) (hok:HOk X.prog X.w H' h') (hg:AllBare g') :
  Inv X pins σ H' { s with heap:=h',gens:=g',drawn:=d',toks:=t' }:=by
 have neL:∀ b o,X.s₀.heap.get? b=some o->b≠X.env.locals:=λb o e=>Aq (Az (Am e) I.ok.above);have neC:∀ b o,X.s₀.heap.get? b=some o->b∉X.ex->b∉ch:=λb o e hx hb=>by
  rcases (hch b hb).1 with z | z
  ·exact hx z
  ·exact absurd (Az (Am e) z) (BQ _)
 have cellK:∀ x c,X.env.cells.lookup x=some c->∀ v,s.heap.IsCell c v->h'.IsCell c v:=λx c e v ⟨o,ho,hd⟩=>by
  have nch:c∉ch:=λz=>(hch c z).2.2.1 x c e rfl;by_cases hc:c∈X.fs
  ·obtain ⟨sl,q⟩:=slot c o (I.cne x c e) hc nch ho (I.freeC x c e);exact ⟨_,q,hd⟩
  ·exact ⟨o,keep c o (I.cne x c e) hc nch ho (I.freeC x c e),hd⟩
 refine ⟨I.ok,I.os,hg,⟨λb o e n hb hx=>?_,λb o e n hb hx=>?_,λb o e n hx=>?_,λb o e hx=>?_,λb xs e=>tups b xs (I.base.tups b xs e),λb o xs e=>frzs b o xs (I.base.frzs b o xs e),λb ps e=>?_⟩,?_,λx c e=>?_,?_,λx c e=>?_,λp hp=>?_,hok,I.len⟩
 ·exact keep b o (neL b o e) hb (neC b o e hx) (I.base.keep b o e n hb hx) (I.base.free b o e n hx)
 ·obtain ⟨sl,e1⟩:=I.base.slot b o e n hb hx;obtain ⟨sl',e2⟩:=slot b _ (neL b o e) hb (neC b o e hx) e1 (I.base.free b o e n hx);exact ⟨sl',e2⟩
 ·obtain ⟨o',e1⟩:=I.base.there b o e hx;exact free b o' (neC b o e hx) e1 (I.base.free b o e n hx)
 ·obtain ⟨o',e1⟩:=I.base.there b o e hx;exact there b o' (neC b o e hx) e1
 ·obtain ⟨m1,e1⟩:=I.base.tbls b ps e;obtain ⟨m2,e2⟩:=tbls b _ e1;exact ⟨m1++m2,by rw [e2,Array.append_assoc]⟩
 ·obtain ⟨m,hn,hl⟩:=I.loc;refine ⟨m,ns m hn,λi x v e1 e2 e3=>?_⟩;obtain ⟨u,r,l⟩:=hl i x v e1 e2 e3;refine ⟨u,r,?_⟩;rcases l with l | ⟨k,c,e,z⟩
  ·exact .inl l
  ·exact .inr ⟨k,c,e,cellK x c e _ z⟩
 ·obtain ⟨v,z⟩:=I.cell x c e;exact ⟨v,cellK x c e v z⟩
 ·obtain ⟨m,⟨o,_,_,ho,_⟩,_⟩:=I.loc;exact free _ o (λz=>(hch _ z).2.1 rfl) ho I.free
 ·obtain ⟨v,o,ho,hd⟩:=I.cell x c e;exact free c o (λz=>(hch c z).2.2.1 x c e rfl) ho (I.freeC x c e)
 ·obtain ⟨e,n,ne,nf,d⟩:=I.pin p hp;have nch:p.1∉ch:=λz=>(hch p.1 z).2.2.2 p hp rfl;exact ⟨keep p.1 p.2 ne nf nch e n,free p.1 p.2 nch e n,ne,nf,d⟩
theorem Inv.un {t':Nat} (I:Inv X pins σ H s) (u:Un X.fs [] H H' s.heap h') (hok:HOk X.prog X.w H' h'):Inv X pins σ H' { s with heap:=h',toks:=t' }:=by
 obtain ⟨m,⟨o,es,ep,ho,r⟩,_⟩:=id I.loc;obtain ⟨sl,hL⟩:=u.any ho I.free (by simp);exact I.step (g':=s.gens) (d':=s.drawn) (ch:=[]) (λ_ z=>nomatch z) (λb o _ hb _ e n=>u.keep b o e n hb (by simp)) (λb o _ hb _ e n=>u.slot b o e n hb (by simp)) (λb o _ e n=>u.free b o e n (by simp)) (λb o _ e=>u.there b o e (by simp)) u.tups u.frzs u.tbls (λm' hm=>by
  obtain ⟨o',es',ep',ho',r'⟩:=hm;rw [ho] at ho';cases ho';exact ⟨_,es',ep',hL,r'⟩) hok I.bare
theorem Inv.call {g':Array GenState} {t':Nat} {d':Drawn} {ch:List Addr} (I:Inv X pins σ H s) (u:Un (frs X.stack) ch H H' s.heap h') (hok:HOk X.prog X.w H' h') (hg:AllBare g')
  (hch:∀ b∈ch,(b∈X.ex\/X.s₀.heap.objs.size<=b)/\b≠X.env.locals/\(∀ x c,X.env.cells.lookup x=some c->c≠b)/\∀ p∈X.pn++pins,p.1≠b) :
  Inv X pins σ H' { s with heap:=h',gens:=g',drawn:=d',toks:=t' }:=by
 obtain ⟨m,⟨o,es,ep,ho,r⟩,_⟩:=id I.loc;obtain ⟨sl,hL⟩:=u.any ho I.free λz=>(hch _ z).2.1 rfl;exact I.step (ch:=ch) hch (λb o hL hb hc e n=>u.keep b o e n (λz=>(AA.mp (I.stkSub b z)).elim hL hb) hc) (λb o _ _ hc e n=>u.any e n hc) (λb o hc e n=>u.free b o e n hc) (λb o hc e=>u.there b o e hc) u.tups u.frzs u.tbls (λm' hm=>by
  obtain ⟨o',es',ep',ho',r'⟩:=hm;rw [ho] at ho';cases ho';exact ⟨_,es',ep',hL,r'⟩) hok hg
theorem Inv.turned {t':Nat} {it:Addr} (I:Inv X pins σ H s) (k:∀ b o,b≠it->s.heap.get? b=some o->h'.get? b=some o) (hn:H it=none) (hL:it≠X.env.locals)
  (h1:it∈X.ex\/X.s₀.heap.objs.size<=it) (h2:∀ x c,X.env.cells.lookup x=some c->c≠it) (h3:∀ p∈X.pn++pins,p.1≠it):Inv X pins σ H { s with heap:=h',toks:=t' }:=by
 have nit:∀ b u,H b=some u->b≠it:=λb u e z=>by rw [z,hn] at e;cases e
 refine I.step (g':=s.gens) (d':=s.drawn) (ch:=[it]) (λb hb=>?_) (λb o _ _ hc e _=>k b o (λz=>hc (by simp [z])) e) (λb o _ _ hc e _=>⟨o.slots,k b o (λz=>hc (by simp [z])) e⟩) (λ_ _ _ _ n=>n)
  (λb o hc e=>⟨o,k b o (λz=>hc (by simp [z])) e⟩) (λ_ _ e=>e) (λ_ _ _ e=>e) (λb ps e=>⟨#[],by rw [e];simp⟩) (λm hm=>?_) (λb u e=>?_) I.bare
 ·have e:b=it:=by simpa using hb
  subst e;exact ⟨h1,hL,h2,h3⟩
 ·obtain ⟨o,es,ep,ho,r⟩:=hm;exact ⟨o,es,ep,k _ o (Ne.symm hL) ho,r⟩
 ·refine (I.hok b u e).stay (λc v hc q=>k c v ?_ q) (λ_ q=>q) λ_ _ q=>q;rcases hc with z | z
  ·rw [z];exact nit b u e
  ·exact nit c _ z
theorem Inv.tok (I:Inv X pins σ H s) (t:Nat):Inv X pins σ H { s with toks:=t }:=I.un (h':=s.heap) (t':=t) Un.refl I.hok
theorem Inv.kept {t':Nat} (I:Inv X pins σ H s) (k:∀ b u,s.heap.get? b=some u->h'.get? b=some u):Inv X pins σ H { s with heap:=h',toks:=t' }:=I.un (Un.kept k) (I.hok.kept k)
theorem Inv.laid {a:Addr} {o:HO} {t':Nat} (I:Inv X pins σ H s) (k:∀ b u,s.heap.get? b=some u->h'.get? b=some u) (hp:s.heap.objs.size<=a) (new:ObjOk X.prog X.w (upd H a o) h' a o) :
  Inv X pins σ (upd H a o) { s with heap:=h',toks:=t' }:=I.un (Un.laid k hp (I.hok.fresh hp)) (I.hok.laid k hp new)
theorem Inv.write {x e:Addr} {o:HO} {t':Nat} (I:Inv X pins σ H s) (mu:Mut (H x)) (he:e=x\/H e=some (.own x)) (k:∀ b u,b≠e->s.heap.get? b=some u->h'.get? b=some u) (heo:∃ u,h'.get? e=some u)
  (new:ObjOk X.prog X.w (upd H x o) h' x o):Inv X pins σ (upd H x o) { s with heap:=h',toks:=t' }:=I.un (Un.write mu he k heo) (I.hok.write mu he k heo new)
theorem Inv.weak {σ':List (Option V)} (I:Inv X pins σ H s) (hl:σ'.length=σ.length) (w:∀ (i:Nat) v,σ'[i]?=some (some v)->σ[i]?=some (some v)):Inv X pins σ' H s:=
 ⟨I.ok,I.os,I.bare,I.base,let ⟨m,hn,hl'⟩:=I.loc;⟨m,hn,λi x v e1 e2 e3=>hl' i x v e1 (w i v e2) e3⟩,I.cell,I.free,I.freeC,I.pin,I.hok,hl.trans I.len⟩
theorem Inv.pins_of {pins':List (Addr×Obj)} (I:Inv X pins σ H s) (h:∀ p∈pins',s.heap.get? p.1=some p.2/\H p.1=none/\p.1≠X.env.locals/\p.1∉X.fs/\∀ v,p.2.data≠.cell v):Inv X pins' σ H s:=
 ⟨I.ok,I.os,I.bare,I.base,I.loc,I.cell,I.free,I.freeC,λp hp=>(BI.mp hp).elim (λz=>I.pin p (List.mem_append_left _ z)) (h p),I.hok,I.len⟩
theorem aq {N:List Str} (hN:N.Nodup) {i j:Nat} {x:Str} (a:N[i]?=some x) (b:N[j]?=some x):i=j:=by
 obtain ⟨h1,e1⟩:=Au.mp a;obtain ⟨h2,e2⟩:=Au.mp b;exact (CV hN).mp (e1.trans e2.symm)
theorem V9 {M:Model} {A:Around} {E:Value->Shared->Prop} {i:Nat} {x:Str} {v:V} {u:Value} {Q:Unit->Shared->Prop} (I:Inv X pins σ H s) (hN:X.N.Nodup) (hi:X.N[i]?=some x) (hx:Loc X.env.scope x) (r:RelV v u)
  (h:∀ s',Inv X pins (σ.set i (some v)) H s'->(∃ a,Heap.SameBut a s.heap s'.heap/\(a=X.env.locals\/X.env.cells.lookup x=some a))->Q () s') (hf:X.fn x=true\/X.env.scope.names.lookup x=some .local:=by first | exact .inl rfl | exact .inr rfl | assumption):wpAny M A (storeName X.env x u) Q E s:=by
 obtain ⟨m,hn,hl⟩:=id I.loc;have hcls:(X.env.scope.kind==.class||(X.env.scope.kind==.module&&X.env.locals != X.env.globals))=false:=by rw [I.ok.kind];rfl
 have hiσ:i<σ.length:=by rw [I.len];exact (Au.mp hi).1
 have cne:=I.cne;have tracked:∀ {a:Addr} {h':Heap},(∃ o,s.heap.get? a=some o/\H a=none)->Heap.SameBut a s.heap h'->HOk X.prog X.w H h':=λ{a h'} ha hs b ob e=>by
  obtain ⟨_,_,hfree⟩:=ha;refine (I.hok b ob e).stay (λc w' hc q=>(hs.2 c ?_).trans q) (λ_ q=>q) λ_ _ q=>q;rintro rfl;rcases hc with rfl | hc
  ·rw [hfree] at e;cases e
  ·rw [hfree] at hc;cases hc
 rcases hx with hk | hk
 ·refine wpAny_storeName_local hk hn (λh' hn' hs=>?_) hcls;obtain ⟨oL,_,_,hoL,_⟩:=id hn;refine h _ ⟨I.ok,I.os,I.bare,⟨λb o e n hb hx=>?_,λb o e n hb hx=>?_,I.base.free,λb o e hx=>?_,I.base.tups,I.base.frzs,I.base.tbls⟩,⟨_,hn',λj y v' e1 e2 e3=>?_⟩,λy c e=>?_,I.free,I.freeC,λp hp=>?_,tracked ⟨oL,hoL,I.free⟩ hs,by simpa using I.len⟩ ⟨_,hs,.inl rfl⟩
  ·exact (hs.2 b (Aq (Az (Am e) I.ok.above))).trans (I.base.keep b o e n hb hx)
  ·obtain ⟨sl,e1⟩:=I.base.slot b o e n hb hx;exact ⟨sl,(hs.2 b (Aq (Az (Am e) I.ok.above))).trans e1⟩
  ·obtain ⟨o',e1⟩:=I.base.there b o e hx;exact ⟨o',(hs.2 b (Aq (Az (Am e) I.ok.above))).trans e1⟩
  ·by_cases hj:j=i
   ·subst hj;rw [hi] at e1;cases e1;rw [AW hiσ] at e2;cases e2;exact ⟨u,r,.inl ⟨hk,by simp⟩⟩
   ·rw [Bb (Ne.symm hj)] at e2;obtain ⟨u',r',q⟩:=hl j y v' e1 e2 e3;refine ⟨u',r',?_⟩;rcases q with ⟨k,e⟩ | ⟨k,c,e,z⟩
    ·refine .inl ⟨k,?_⟩;have:y≠x:=λe=>hj (aq hN e1 (e▸hi));simp [this,e]
    ·exact .inr ⟨k,c,e,z.sameBut hs (cne y c e)⟩
  ·obtain ⟨w',z⟩:=I.cell y c e;exact ⟨w',z.sameBut hs (cne y c e)⟩
  ·obtain ⟨e,n,ne,nf,d⟩:=I.pin p hp;exact ⟨(hs.2 p.1 ne).trans e,n,ne,nf,d⟩
 ·have hfn:X.fn x=true:=by
   rcases hf with z | z
   ·exact z
   ·rw [z] at hk;cases hk
  obtain ⟨c,hc⟩:=I.ok.has x (.inl hk);obtain ⟨w',z⟩:=I.cell x c hc;refine wpAny_storeName_cell I.ok.kind hk hc z (λh' hc' hs=>?_);obtain ⟨oc,hoc,hocd⟩:=id z;refine h { s with heap:=h' } ⟨I.ok,I.os,I.bare,⟨λb o e n hb hx=>?_,λb o e n hb hx=>?_,I.base.free,λb o e hx=>?_,I.base.tups,I.base.frzs,I.base.tbls⟩,⟨m,hn.sameBut hs (Ne.symm (cne x c hc)),λj y v' e1 e2 e3=>?_⟩,λy c' e=>?_,I.free,I.freeC,λp hp=>?_,tracked ⟨oc,hoc,I.freeC x c hc⟩ hs,by simpa using I.len⟩ ⟨c,hs,.inr hc⟩
  ·exact (hs.2 b (Aq (Az (Am e) (I.ok.cab x c hfn hc)))).trans (I.base.keep b o e n hb hx)
  ·obtain ⟨sl,e1⟩:=I.base.slot b o e n hb hx;exact ⟨sl,(hs.2 b (Aq (Az (Am e) (I.ok.cab x c hfn hc)))).trans e1⟩
  ·obtain ⟨o',e1⟩:=I.base.there b o e hx;exact ⟨o',(hs.2 b (Aq (Az (Am e) (I.ok.cab x c hfn hc)))).trans e1⟩
  ·by_cases hj:j=i
   ·subst hj;rw [hi] at e1;cases e1;rw [AW hiσ] at e2;cases e2;exact ⟨u,r,.inr ⟨.inl hk,c,hc,hc'⟩⟩
   ·rw [Bb (Ne.symm hj)] at e2;obtain ⟨u',r',q⟩:=hl j y v' e1 e2 e3;refine ⟨u',r',?_⟩;rcases q with q | ⟨k,c',e,z'⟩
    ·exact .inl q
    ·refine .inr ⟨k,c',e,z'.sameBut hs ?_⟩;rintro rfl;exact hj (aq hN e1 (I.ok.inj _ _ _ e hc▸hi))
  ·by_cases hcc:c'=c
   ·subst hcc;exact ⟨_,hc'⟩
   ·obtain ⟨w2,z2⟩:=I.cell y c' e;exact ⟨w2,z2.sameBut hs hcc⟩
  ·obtain ⟨e,n,ne,nf,d⟩:=I.pin p hp;refine ⟨(hs.2 p.1 ?_).trans e,n,ne,nf,d⟩;intro q;rw [q,hoc] at e;have q':oc=p.2:=AG e;exact d w' (by rw [<- q'];exact hocd)
theorem ay {M:Model} {A:Around} {E:Value->Shared->Prop} {i:Nat} {x:Str} {v:V} {u:Value} {Q:Unit->Shared->Prop} (I:Inv X pins σ H s) (hN:X.N.Nodup) (hi:X.N[i]?=some x) (hx:Loc X.env.scope x) (r:RelV v u)
  (h:∀ s',Inv X pins (σ.set i (some v)) H s'->Q () s') (hf:X.fn x=true\/X.env.scope.names.lookup x=some .local:=by first | exact .inl rfl | exact .inr rfl | assumption):wpAny M A (storeName X.env x u) Q E s:=
 V9 I hN hi hx r (λs' I' _=>h s' I') hf
theorem Inv.call' {s':Shared} {ch:List Addr} (I:Inv X pins σ H s) (ho:s'.os=s.os) (u:Un (frs X.stack) ch H H' s.heap s'.heap) (hok:HOk X.prog X.w H' s'.heap) (hg:AllBare s'.gens)
  (hch:∀ b∈ch,(b∈X.ex\/X.s₀.heap.objs.size<=b)/\b≠X.env.locals/\(∀ x c,X.env.cells.lookup x=some c->c≠b)/\∀ p∈X.pn++pins,p.1≠b):Inv X pins σ H' s':=by
 obtain ⟨h',g',d',t',o'⟩:=s';have e:o'=s.os:=ho;subst e;exact I.call (g':=g') (t':=t') (d':=d') u hok hg hch
end
abbrev XK:=Value->Option Addr->Hp->Prop
abbrev St:=List (Option V)
abbrev VK:=V->Hp->Prop
abbrev TE:=St->Hp->VK->Prop
abbrev TT:=St->Hp->(Bool->Hp->Prop)->Prop
abbrev TA:=St->Hp->(List V->Hp->Prop)->Prop
structure Ends where
 nx:St->Hp->Prop
 rt:VK
 bk:St->Hp->Prop:=λ_ _=>False
 ct:St->Hp->Prop:=λ_ _=>False
abbrev TS:=Ends->St->Hp->Prop
def EP (X:Cx) (pins:List (Addr×Obj)) (σ:St) (Q:VK) (u:Value) (s':Shared):Prop:=∃ v H',Inv X pins σ H' s'/\RelV v u/\Q v H'
def TP (X:Cx) (pins:List (Addr×Obj)) (σ:St) (Q:Bool->Hp->Prop) (b:Bool) (s':Shared):Prop:=∃ H',Inv X pins σ H' s'/\Q b H'
def AP (X:Cx) (pins:List (Addr×Obj)) (σ:St) (Q:List V->Hp->Prop) (us:List Value) (s':Shared):Prop:=∃ vs H',Inv X pins σ H' s'/\Vals vs us/\Q vs H'
def SP (X:Cx) (pins:List (Addr×Obj)) (D:Ends) (f:Flow) (s':Shared):Prop:=
 match f with
 | .next=>∃ σ' H',Inv X pins σ' H' s'/\D.nx σ' H'
 | .brk=>∃ σ' H',Inv X pins σ' H' s'/\D.bk σ' H'
 | .cont=>∃ σ' H',Inv X pins σ' H' s'/\D.ct σ' H'
 | .ret u=>∃ v σ' H',Inv X pins σ' H' s'/\RelV v u/\D.rt v H'
def PE (X:Cx) (e:Expr) (t:TE):Prop:=
 ∀ (pins:List (Addr×Obj)) (s:Shared) (σ:St) (H:Hp) (Q:VK),Inv X pins σ H s->t σ H Q->wpAny (model X.prog X.w) X.A (eval e X.env) (EP X pins σ Q) X.xe s
def PT (X:Cx) (e:Expr) (t:TT):Prop:=
 ∀ (pins:List (Addr×Obj)) (s:Shared) (σ:St) (H:Hp) (Q:Bool->Hp->Prop),Inv X pins σ H s->t σ H Q->wpAny (model X.prog X.w) X.A (isTrue e X.env (eval e X.env)) (TP X pins σ Q) X.xe s
def PW (X:Cx) (e:Expr) (t:TT):Prop:=
 ∀ (whole:Sem Value) (pins:List (Addr×Obj)) (s:Shared) (σ:St) (H:Hp) (Q:Bool->Hp->Prop),Inv X pins σ H s->t σ H Q->wpAny (model X.prog X.w) X.A (isTrue e X.env whole) (TP X pins σ Q) X.xe s
theorem PW.pt {X:Cx} {e:Expr} {t:TT} (h:PW X e t):PT X e t:=h _
def PA (X:Cx) (es:List Expr) (t:TA):Prop:=
 ∀ (pos:Pos) (pins:List (Addr×Obj)) (s:Shared) (σ:St) (H:Hp) (Q:List V->Hp->Prop),Inv X pins σ H s->t σ H Q->wpAny (model X.prog X.w) X.A (spliced (backTo pos (starEach es X.env))) (AP X pins σ Q) X.xe s
def PS (X:Cx) (st:Stmt) (t:TS):Prop:=
 ∀ (pins:List (Addr×Obj)) (s:Shared) (σ:St) (H:Hp) (D:Ends),Inv X pins σ H s->t D σ H->wpAny (model X.prog X.w) X.A (exec st X.env) (SP X pins D) X.xe s
def PSs (X:Cx) (st:List Stmt) (t:TS):Prop:=
 ∀ (pins:List (Addr×Obj)) (s:Shared) (σ:St) (H:Hp) (D:Ends),Inv X pins σ H s->t D σ H->wpAny (model X.prog X.w) X.A (execs st X.env) (SP X pins D) X.xe s
theorem thn {α:Type} {t:Sem α} {Q Q':α->Shared->Prop} {M:Model} {A:Around} {E:Value->Shared->Prop} {s:Shared} (h:wpAny M A t Q E s) (hQ:∀ a s,Q a s->Q' a s):wpAny M A t Q' E s:=AB h hQ λ_ _ x=>x
section
variable {X:Cx}
def rL (i:Nat):TE:=λσ H Q=>∃ v,σ[i]?=some (some v)/\Q v H
def tC (v:V):TE:=λ_ H Q=>Q v H
theorem jv {i:Nat} {x:Str} {pos:Pos} (hN:X.N[i]?=some x) (hv:Vis X.env.scope x) (hd:(x==("__debug__" : Str))=false:=by decide) (hcd:(x==("__classdict__" : Str))=false:=by decide):PE X (.Name x pos) (rL i):=by
 intro pins s σ H Q I h;obtain ⟨v,e,h⟩:=h;obtain ⟨m,hn,hl⟩:=I.loc;obtain ⟨u,r,l⟩:=hl i x v hN e hv;have fin:EP X pins σ Q u s:=⟨v,H,I,r,h⟩;rcases l with ⟨hk,hm⟩ | ⟨hk,c,hc,hcell⟩
 ·exact wpAny_Name (wpAny_loadName_local I.ok.kind hk hn hm fin) hd
 ·rcases hk with hk | hk
  ·exact wpAny_Name (wpAny_loadName_cell I.ok.kind hk hc hcell fin) hd
  ·exact wpAny_Name (wpAny_loadName_free I.ok.kind hk hc hcell fin hcd) hd
theorem iO {i j pos}:PE X (.Constant (.int i) j pos) (tC (.int i)):=λ_ _ _ H _ I h=>wpAny_Constant_int ⟨.int i,H,I.tok _,⟨_,rfl⟩,h⟩
theorem sN {b j pos}:PE X (.Constant (.bool b) j pos) (tC (.bl b)):=λ_ _ _ H _ I h=>Constant_bool ⟨.bl b,H,I,rfl,h⟩
theorem pz {j pos}:PE X (.Constant .none j pos) (tC .non):=λ_ _ _ H _ I h=>Constant_none ⟨.non,H,I,rfl,h⟩
theorem pH {x j pos}:PE X (.Constant (.str x) j pos) (tC (.str x)):=λ_ _ _ H _ I h=>Calls.Constant_str ⟨.str x,H,I.tok _,⟨_,rfl⟩,h⟩
def Gl (X:Cx) (x:Str):Prop:=X.env.kindOf x=some .globalImplicit
theorem aM {E:Value->Shared->Prop} {pins:List (Addr×Obj)} {s:Shared} {σ:St} {H:Hp} {x:Str} {u:Value} {pos:Pos} {Q:Value->Shared->Prop} (I:Inv X pins σ H s) (hg:Gl X x) (hm:X.mg x=some u) (h:Q u s)
  (hd:(x==("__debug__" : Str))=false:=by decide):wpAny (model X.prog X.w) X.A (eval (.Name x pos) X.env) Q E s:=
 Du I.ok.kind hg (Calls.loadGlobal_global (by rw [I.ok.glob];exact I.mod.glob.keeps I.bk) hm h) hd
theorem B3 {E:Value->Shared->Prop} {pins:List (Addr×Obj)} {s:Shared} {σ:St} {H:Hp} {x:Str} {u:Value} {pos:Pos} {Q:Value->Shared->Prop} (I:Inv X pins σ H s) (hg:Gl X x) (hm:X.mg x=none) (hv:bootBuiltins x=some u) (h:Q u s)
  (hn:x ≠ "__name__":=by decide) (hd:(x==("__debug__" : Str))=false:=by decide):wpAny (model X.prog X.w) X.A (eval (.Name x pos) X.env) Q E s:=by
 obtain ⟨mb,h1,h2⟩:=I.mod.blt;exact Du I.ok.kind hg (Calls.loadGlobal_builtin (by rw [I.ok.glob];exact I.mod.glob.keeps I.bk) hm (by rw [I.ok.blt];exact h1.keeps I.bk) ((h2 x hn).trans hv) h) hd
theorem kB {x:Str} {v:V} {u:Value} {pos:Pos} (hg:Gl X x) (hm:X.mg x=some u) (r:RelV v u) (hd:(x==("__debug__" : Str))=false:=by decide):PE X (.Name x pos) (tC v):=
 λ_ _ _ H _ I h=>aM I hg hm ⟨v,H,I,r,h⟩ hd
variable {a b:Expr} {ta tb:TE} {pos:Pos}
variable {tA tB':TT} {rest:List Expr}
def vB (t u:TT):TT:=λσ H Q=>t σ H λc H1=>if c=true then u σ H1 Q else Q false H1
def tOr (t u:TT):TT:=λσ H Q=>t σ H λc H1=>if c=true then Q true H1 else u σ H1 Q
theorem pw_and1 (ha:PT X a tA):PW X (.BoolOp .And [a] pos) tA:=by
 intro wh pins s σ H Q I h;refine isTrue_and (thn (ha pins s σ H Q I h) λc s1 e=>?_);cases c with
 | true=>exact isTrue_and_nil e
 | false=>exact e
theorem pw_or1 (ha:PT X a tA):PW X (.BoolOp .Or [a] pos) tA:=by
 intro wh pins s σ H Q I h;refine isTrue_or (thn (ha pins s σ H Q I h) λc s1 e=>?_);cases c with
 | false=>exact isTrue_or_nil e
 | true=>exact e
theorem pw_and (ha:PT X a tA) (hb:PW X (.BoolOp .And (b :: rest) pos) tB'):PW X (.BoolOp .And (a :: b :: rest) pos) (vB tA tB'):=by
 intro wh pins s σ H Q I h;refine isTrue_and (thn (ha pins s σ H _ I h) λc s1 ⟨H1,I1,q1⟩=>?_);cases c with
 | true=>exact hb wh pins s1 σ H1 Q I1 q1
 | false=>exact ⟨H1,I1,q1⟩
theorem pw_or (ha:PT X a tA) (hb:PW X (.BoolOp .Or (b :: rest) pos) tB'):PW X (.BoolOp .Or (a :: b :: rest) pos) (tOr tA tB'):=by
 intro wh pins s σ H Q I h;refine isTrue_or (thn (ha pins s σ H _ I h) λc s1 ⟨H1,I1,q1⟩=>?_);cases c with
 | true=>exact ⟨H1,I1,q1⟩
 | false=>exact hb wh pins s1 σ H1 Q I1 q1
def tIf (t:TT) (ta tb:TE):TE:=λσ H Q=>t σ H λc H1=>if c=true then ta σ H1 Q else tb σ H1 Q
theorem iJ {c:Expr} (hc:PT X c tA) (ha:PE X a ta) (hb:PE X b tb):PE X (.IfExp c a b pos) (tIf tA ta tb):=by
 intro pins s σ H Q I h;refine wpAny_IfExp (thn (hc pins s σ H _ I h) λd s1 ⟨H1,I1,q1⟩=>?_);cases d with
 | true=>exact ha pins s1 σ H1 Q I1 q1
 | false=>exact hb pins s1 σ H1 Q I1 q1
end
def SqL (K:PySem.W.Frag) (H:Hp) (a:Addr) (xs:List V):Prop:=
 Rd H a (.lst xs) \/
  ∃ (o:Obj) (its:Array Value) (n:Nat),K.lookup a=some o/\o.cls=.type "list"/\o.dict=none/\o.data=.seq its n/\its.size<=sizeLine/\Vals xs its.toList
def SqT (K:PySem.W.Frag) (H:Hp) (a:Addr) (xs:List V):Prop:=
 Rd H a (.tup xs) \/
  ∃ (o:Obj) (its:Array Value) (n:Nat),K.lookup a=some o/\o.cls=.type "tuple"/\o.data=.seq its n/\its.size<=sizeLine/\Vals xs its.toList
def uJ:Value->Option V
 | .none=>some .non
 | .bool b=>some (.bl b)
 | .int i _=>some (.int i)
 | .str x _=>some (.str x)
 | .bytes b _=>some (.byt b)
 | .float b _=>some (.flt b)
 | .ref a=>some (.ref a)
 | .type n=>some (.ty n)
 | _=>none
theorem RelV.abs {x:V} {u:Value} (r:RelV x u):uJ u=some x:=by
 cases x with
 | non=>cases r;rfl
 | bl _=>cases r;rfl
 | int _=>obtain ⟨t,rfl⟩:=r;rfl
 | str _=>obtain ⟨t,rfl⟩:=r;rfl
 | byt _=>obtain ⟨t,rfl⟩:=r;rfl
 | flt _=>obtain ⟨t,rfl⟩:=r;rfl
 | ref _=>cases r;rfl
 | ty _=>cases r;rfl
theorem RelV.inj {x y:V} {u:Value} (r:RelV x u) (q:RelV y u):x=y:=AG (r.abs.symm.trans q.abs)
theorem Vals.inj:∀ {xs ys:List V} {us:List Value},Vals xs us->Vals ys us->xs=ys
 | _,_,_,.nil,.nil=>rfl
 | _,_,_,.cons r t,.cons r' t'=>by rw [r.inj r',Vals.inj t t']
section
variable {X:Cx} {pins:List (Addr×Obj)} {σ:St} {H:Hp} {s:Shared} {a:Addr} {xs ys:List V}
theorem Inv.list (I:Inv X pins σ H s) (h:SqL X.K H a xs):∃ its:List Value,Vals xs its/\PlainL s.heap a its.toArray/\xs.length<=sizeLine:=by
 rcases h with h | ⟨o,its,n,hk,hc,hd,hs,hz,r⟩
 ·obtain ⟨z,its,n,r,e⟩:=h.ok I.hok;exact ⟨its,r,⟨_,n,e,rfl,rfl,rfl⟩,z⟩
 ·refine ⟨its.toList,r,⟨o,n,I.kIn a o hk,hc,hd,by simpa using hs⟩,?_⟩;have e:=r.length;simp only [Ax] at e;omega
theorem Inv.tuple (I:Inv X pins σ H s) (h:SqT X.K H a xs):∃ its:List Value,Vals xs its/\IsTup s.heap a its.toArray/\xs.length<=sizeLine:=by
 rcases h with h | ⟨o,its,n,hk,hc,hs,hz,r⟩
 ·obtain ⟨z,its,r,p⟩:=h.ok I.hok;exact ⟨its,r,p.is,z⟩
 ·refine ⟨its.toList,r,⟨o,I.kIn a o hk,hc,n,by simpa using hs⟩,?_⟩;have e:=r.length;simp only [Ax] at e;omega
theorem Inv.list_inj (I:Inv X pins σ H s) (h:SqL X.K H a xs) (h':SqL X.K H a ys):xs=ys:=by
 obtain ⟨its,r,⟨o,n,e,_,_,d⟩,_⟩:=I.list h;obtain ⟨its',r',⟨o',n',e',_,_,d'⟩,_⟩:=I.list h';rw [e] at e';cases e';rw [d] at d';injection d' with d1 _;have:its=its':=by simpa using congrArg Array.toList d1
 subst this;exact r.inj r'
theorem Inv.tuple_inj (I:Inv X pins σ H s) (h:SqT X.K H a xs) (h':SqT X.K H a ys):xs=ys:=by
 obtain ⟨its,r,⟨o,e,_,n,d⟩,_⟩:=I.tuple h;obtain ⟨its',r',⟨o',e',_,n',d'⟩,_⟩:=I.tuple h';rw [e] at e';cases e';rw [d] at d';injection d' with d1 _;have:its=its':=by simpa using congrArg Array.toList d1
 subst this;exact r.inj r'
end
abbrev Cx.wish (X:Cx) (E:Value->Shared->Prop):Cx:={ X with xe:=E }
abbrev Cx.nox (X:Cx):Cx:=X.wish λ_ _=>False
theorem Cx.Ok.wish {X:Cx} (ok:X.Ok) (E:Value->Shared->Prop):(X.wish E).Ok:=
 ⟨ok.mod,ok.kind,ok.glob,ok.blt,ok.above,ok.inj,ok.has,ok.cab,ok.hd,ok.frames,ok.stk,ok.exf,ok.bs,ok.bsz,ok.noex,ok.exfs,ok.funs,ok.frf⟩
theorem Cx.Ok.unwish {X:Cx} {E:Value->Shared->Prop} (ok:(X.wish E).Ok):X.Ok:=
 ⟨ok.mod,ok.kind,ok.glob,ok.blt,ok.above,ok.inj,ok.has,ok.cab,ok.hd,ok.frames,ok.stk,ok.exf,ok.bs,ok.bsz,ok.noex,ok.exfs,ok.funs,ok.frf⟩
section
variable {X:Cx} {pins:List (Addr×Obj)} {σ:St} {H:Hp} {s:Shared} {E:Value->Shared->Prop}
theorem Inv.wish (I:Inv X pins σ H s) (E:Value->Shared->Prop):Inv (X.wish E) pins σ H s:=⟨I.ok.wish E,I.os,I.bare,I.base,I.loc,I.cell,I.free,I.freeC,I.pin,I.hok,I.len⟩
theorem Inv.unwish (I:Inv (X.wish E) pins σ H s):Inv X pins σ H s:=⟨I.ok.unwish,I.os,I.bare,I.base,I.loc,I.cell,I.free,I.freeC,I.pin,I.hok,I.len⟩
theorem SP.unwish {D:Ends} {f:Flow} {s':Shared} (h:SP (X.wish E) pins D f s'):SP X pins D f s':=by
 cases f with
 | next=>obtain ⟨σ',H',I,q⟩:=h;exact ⟨σ',H',I.unwish,q⟩
 | brk=>obtain ⟨σ',H',I,q⟩:=h;exact ⟨σ',H',I.unwish,q⟩
 | cont=>obtain ⟨σ',H',I,q⟩:=h;exact ⟨σ',H',I.unwish,q⟩
 | ret u=>obtain ⟨v,σ',H',I,r,q⟩:=h;exact ⟨v,σ',H',I.unwish,r,q⟩
theorem PSs.nox {st:List Stmt} {t:TS} (h:PSs X.nox st t):PSs X st t:=λpins s σ H D I hw=>
 AB (h pins s σ H D (I.wish _) hw) (λ_ _ q=>q.unwish) λ_ _ z=>False.elim z
end
section
variable {X:Cx} {st:Stmt} {rest:List Stmt} {t u:TS} {e:Expr} {te:TE} {pos:Pos}
def tNext:TS:=λD σ H=>D.nx σ H
def uA (t u:TS):TS:=λD σ H=>t { D with nx:=u D } σ H
theorem lr:PSs X [] tNext:=λ_ _ σ H _ I h=>wpAny_execs_nil ⟨σ,H,I,h⟩
theorem gN (h1:PS X st t) (h2:PSs X rest u):PSs X (st :: rest) (uA t u):=by
 intro pins s σ H D I h;refine wpAny_execs_cons (thn (h1 pins s σ H { D with nx:=u D } I h) λf s1 q=>?_);cases f with
 | next=>
  obtain ⟨σ',H',I',q⟩:=q;exact h2 pins s1 σ' H' D I' q
 | ret v=>exact q
 | brk=>exact q
 | cont=>exact q
theorem Inv.quiet {pins:List (Addr×Obj)} {σ:St} {H:Hp} {s:Shared} (I:Inv X pins σ H s):interactive X.env=false:=by simp [interactive,I.ok.kind]
def sP (te:TE):TS:=λD σ H=>te σ H λ_ H1=>D.nx σ H1
theorem kx (he:PE X e te) (hs:swapsWith e none pos.line X.env=pure false:=by rfl):PS X (.Expr e pos) (sP te):=by
 intro pins s σ H D I h;exact wpAny_Expr_any (thn (he pins s σ H _ I h) λv s1 ⟨x,H1,I1,r1,q1⟩=>⟨σ,H1,I1,q1⟩) I.quiet hs
def tQ (te:TE):TS:=λD σ H=>te σ H D.rt
theorem pc (he:PE X e te):PS X (.Return (some e) pos) (tQ te):=by
 intro pins s σ H D I h;exact wpAny_Return_some (thn (he pins s σ H _ I h) λv s1 ⟨x,H1,I1,r1,q1⟩=>⟨x,σ,H1,I1,r1,q1⟩)
def uT (c:TT) (t u:TS):TS:=λD σ H=>c σ H λb H1=>if b=true then t D σ H1 else u D σ H1
theorem ps_if {c:Expr} {a b:List Stmt} {tc:TT} (hc:PT X c tc) (ha:PSs X a t) (hb:PSs X b u):PS X (.If c a b pos) (uT tc t u):=by
 intro pins s σ H D I h;refine wpAny_If (thn (hc pins s σ H _ I h) λd s1 ⟨H1,I1,q1⟩=>?_);cases d with
 | true=>exact ha pins s1 σ H1 D I1 q1
 | false=>exact hb pins s1 σ H1 D I1 q1
def tNever:TS:=λ_ _ _=>False
theorem fy:PS X st tNever:=λ_ _ _ _ _ _ h=>h.elim
end
abbrev TG:=V->St->Hp->(St->Hp->Prop)->Prop
abbrev TGs:=List V->St->Hp->(St->Hp->Prop)->Prop
def PG (X:Cx) (target:Expr) (t:TG):Prop:=
 ∀ (pins:List (Addr×Obj)) (s:Shared) (σ:St) (H:Hp) (v:V) (u:Value) (Q:St->Hp->Prop),Inv X pins σ H s->RelV v u->t v σ H Q ->
  wpAny (model X.prog X.w) X.A (assign target X.env u) (λ_ s'=>∃ σ' H',Inv X pins σ' H' s'/\Q σ' H') X.xe s
def PGs (X:Cx) (ts:List Expr) (t:TGs):Prop:=
 ∀ (pins:List (Addr×Obj)) (s:Shared) (σ:St) (H:Hp) (vs:List V) (us:List Value) (Q:St->Hp->Prop),Inv X pins σ H s->Vals vs us->t vs σ H Q ->
  wpAny (model X.prog X.w) X.A (assignInOrder ((assignEach ts X.env).map (·.2)) us) (λ_ s'=>∃ σ' H',Inv X pins σ' H' s'/\Q σ' H') X.xe s
abbrev nO:=V->V->V->Hp->(Hp->Prop)->Prop
def nK (X:Cx) (t:nO):Prop:=
 ∀ (pins:List (Addr×Obj)) (s:Shared) (σ:St) (H:Hp) (o i v:V) (ov iv u:Value) (Q:Hp->Prop),Inv X pins σ H s->RelV o ov->RelV i iv->RelV v u->t o i v H Q ->
  wpAny (model X.prog X.w) X.A (setItem ov iv u) (λ_ s'=>∃ H',Inv X pins σ H' s'/\Q H') X.xe s
section
variable {X:Cx} {pos:Pos}
def X1 (i:Nat):TG:=λv σ H Q=>Q (σ.set i (some v)) H
theorem v7 {i:Nat} {x:Str} (hN:X.N.Nodup) (hi:X.N[i]?=some x) (hx:Loc X.env.scope x) (hf:X.fn x=true\/X.env.scope.names.lookup x=some .local:=by first | exact .inl rfl | exact .inr rfl | assumption):PG X (.Name x pos) (X1 i):=by
 intro pins s σ H v u Q I r h;exact wpAny_assign_Name (ay I hN hi hx r (λs' I'=>⟨_,H,I',h⟩) hf)
def gNil:TGs:=λvs σ H Q=>vs=[]/\Q σ H
def ja (t:TG) (u:TGs):TGs:=λvs σ H Q=>∃ v r,vs=v :: r/\t v σ H λσ' H'=>u r σ' H' Q
theorem dm:PGs X [] gNil:=by
 intro pins s σ H vs us Q I r h;obtain ⟨e,h⟩:=h;subst e;cases r;exact assignInOrder_nil ⟨σ,H,I,h⟩
theorem R9 {e:Expr} {es:List Expr} {t:TG} {u:TGs} (h1:PG X e t) (h2:PGs X es u)
  (hs:(assignEach (e :: es) X.env).map (·.2)=assign e X.env :: (assignEach es X.env).map (·.2):=by rfl):PGs X (e :: es) (ja t u):=by
 intro pins s σ H vs us Q I r h;obtain ⟨v,vr,e1,h⟩:=h;subst e1;cases r with
 | cons r rr=>
  rw [hs];refine assignInOrder_cons (thn (h1 pins s σ H _ _ _ I r h) λ_ s1 ⟨σ1,H1,I1,q1⟩=>?_);exact h2 pins s1 σ1 H1 _ _ Q I1 rr q1
def tK (K:PySem.W.Frag) (n:Nat) (t:TGs):TG:=λv σ H Q=>∃ a xs,v=.ref a/\SqT K H a xs/\xs.length=n/\t xs σ H Q
theorem jW {es:List Expr} {k:Nat} {t:TGs} {n:Nat} (hc:X.calm=true) (h:PGs X es t)
  (hn:(assignEach es X.env).length=n:=by rfl) (hst:(assignEach es X.env).findIdx? (·.1)=none:=by rfl):PG X (.Tuple es k pos) (tK X.K n t):=by
 intro pins s σ H v u Q I r hw;obtain ⟨a,xs,e1,hq,hl,hw⟩:=hw;subst e1;cases r;obtain ⟨its,rv,ht,hz⟩:=I.tuple hq;refine assign_Tuple_tuple (I.ok.hd hc) ht (by simp [hn,<- hl,rv.length]) hst λh' hx=>?_;have I1:Inv X pins σ H { s with heap:=h' }:=I.kept (t':=s.toks) λb o e=>hx b o (Aq (Am e)) e;exact h pins _ σ H xs _ Q I1 (by simpa using rv) hw
def uS (to ti:TE) (t:nO):TG:=λv σ H Q=>to σ H λo H1=>ti σ H1 λi H2=>t o i v H2 λH3=>Q σ H3
theorem pE {o i:Expr} {to ti:TE} {t:nO} (ho:PE X o to) (hi:PE X i ti) (hs:nK X t)
  (ha:∀ v,assign (.Subscript o i pos) X.env v=(do
   let ov <- holding [v] (eval o X.env)
   let iv <- holding [v,ov] (eval i X.env)
   standAt pos
   holding [v,ov,iv] (setItem ov iv v)
   release [v,ov,iv] []):=by intro _;rfl):PG X (.Subscript o i pos) (uS to ti t):=by
 intro pins s σ H v u Q I r h;rw [ha];refine Ag (AS (thn (ho pins s σ H _ I h) λov s1 ⟨x,H1,I1,r1,q1⟩=>?_));refine Ag (AS (thn (hi pins s1 σ H1 _ I1 q1) λiv s2 ⟨y,H2,I2,r2,q2⟩=>?_));refine Ag (BR (Ag (AS (thn (hs pins s2 σ H2 x y v ov iv u _ I2 r1 r2 r q2) λ_ s3 ⟨H3,I3,q3⟩=>?_))));exact wpAny_release ⟨σ,H3,I3,q3⟩
def mR (te:TE) (g:TG):TS:=λD σ H=>te σ H λx H1=>g x σ H1 D.nx
theorem gJ {tg e:Expr} {te:TE} {g:TG} (he:PE X e te) (hg:PG X tg g) (hs:swapsWithSole [tg] e pos.line X.env=pure false:=by rfl) (hw:swappedStores [tg] e X.env=pure none:=by rfl)
  (h1:(assignEach [tg] X.env).map (·.2)=[assign tg X.env]:=by rfl):PS X (.Assign [tg] e pos) (mR te g):=by
 intro pins s σ H D I h;refine wpAny_Assign_stores (thn (he pins s σ H _ I h) λv s1 ⟨x,H1,I1,r1,q1⟩=>?_) hs hw;rw [h1];exact thn (hg pins s1 σ H1 x v _ I1 r1 q1) λ_ s2 q=>q
theorem gy {i:Nat} {x:Str} {e:Expr} {te:TE} {pos':Pos} (hN:X.N.Nodup) (hi:X.N[i]?=some x) (hx:Loc X.env.scope x) (he:PE X e te) (hs:swapsWith e (some (.Name x pos')) pos.line X.env=pure false:=by rfl) (hf:X.fn x=true\/X.env.scope.names.lookup x=some .local:=by first | exact .inl rfl | exact .inr rfl | assumption) :
  PS X (.Assign [.Name x pos'] e pos) (mR te (X1 i)):=by
 intro pins s σ H D I h;refine wpAny_Assign_Name (thn (he pins s σ H _ I h) λv s1 ⟨y,H1,I1,r1,q1⟩=>?_) hs;exact ay I1 hN hi hx r1 (λs2 I2=>⟨_,H1,I2,q1⟩) hf
end
structure It where
 go:Nat->Hp->Prop
 yld:Nat->Hp->V->Hp->Prop
 stop:Nat->Hp->Prop
def J8 (X:Cx) (pins:List (Addr×Obj)) (H:Hp) (b:Addr):Prop:=
 H b=none/\b≠X.env.locals/\b∉X.fs/\(b∈X.ex\/X.s₀.heap.objs.size<=b)/\(∀ x c,X.env.cells.lookup x=some c->c≠b)/\∀ p∈X.pn++pins,p.1≠b
theorem Inv.fpOk {X:Cx} {pins:List (Addr×Obj)} {σ:St} {H H':Hp} {s:Shared} {b:Addr} (I:Inv X pins σ H s) (hb:s.heap.objs.size<=b) (hn:H' b=none):J8 X pins H' b:=by
 refine ⟨hn,CK (Az I.lt hb),I.nofs hb,.inr (AZ I.sz hb),λx c e z=>?_,λp hp z=>?_⟩
 ·obtain ⟨v,q⟩:=I.cell x c e;exact absurd (Az q.lt (by rw [z];exact hb)) (BQ _)
 ·exact absurd (Az (Am (I.pin p hp).1) (by rw [z];exact hb)) (BQ _)
structure Turn (P:Program) (w:World) (K:PySem.W.Frag) (tg:Expr) (J:It) (fp:List Addr) (it:Addr) (tn:Nat->Heap->Prop):Prop where
 mem:it∈fp
 obj:∀ i h,tn i h->∀ b∈fp,∃ o,h.get? b=some o/\∀ v,o.data≠.cell v
 keep:∀ i h h',tn i h->(∀ b∈fp,∀ o,h.get? b=some o->h'.get? b=some o)->tn i h'
 item:∀ (X:Cx),X.prog=P->X.w=w->X.K=K->X.calm=true->∀ (i:Nat) (pins:List (Addr×Obj)) (s:Shared) (σ:St) (H:Hp) (E:Value->Shared->Prop),Inv X pins σ H s->(∀ b∈fp,J8 X pins H b)->tn i s.heap->J.go i H ->
  wpAny (model P w) X.A (pyNext (.ref it)) (λr s1=>∃ u,r=some u /\
   wpAny (model P w) X.A (letOwnedTupleGo tg (.ref it) u) (λ_ s2=>∃ x H',Inv X pins σ H' s2/\RelV x u/\J.yld i H x H'/\tn (i+1) s2.heap/\∀ b∈fp,H' b=none) E s1) E s
 done:∀ (X:Cx),X.prog=P->X.w=w->X.K=K->X.calm=true->∀ (i:Nat) (pins:List (Addr×Obj)) (s:Shared) (σ:St) (H:Hp) (E:Value->Shared->Prop),Inv X pins σ H s->(∀ b∈fp,J8 X pins H b)->tn i s.heap->J.stop i H ->
  wpAny (model P w) X.A (pyNext (.ref it)) (λr s1=>r=none/\Inv X pins σ H s1) E s
 self:∀ (A:Around) (i:Nat) (s:Shared) (Q:Value->Shared->Prop) (E:Value->Shared->Prop),tn i s.heap->Q (.ref it) s->wpAny (model P w) A (pyIter (.ref it)) Q E s
abbrev TI:=St->Hp->(It->Hp->Prop)->Prop
def PIE (X:Cx) (pins:List (Addr×Obj)) (σ:St) (tg:Expr) (R:It->Hp->Prop) (itv:Value) (s2:Shared):Prop:=
 ∃ (it:Addr) (fp:List Addr) (tn:Nat->Heap->Prop) (J:It) (H':Hp),itv=.ref it/\Inv X pins σ H' s2/\Turn X.prog X.w X.K tg J fp it tn/\tn 0 s2.heap/\(∀ b∈fp,J8 X pins H' b)/\R J H'
def PI (X:Cx) (tg iter:Expr) (wi:TI):Prop:=
 ∀ (pins:List (Addr×Obj)) (s:Shared) (σ:St) (H:Hp) (R:It->Hp->Prop),Inv X pins σ H s->wi σ H R ->
  wpAny (model X.prog X.w) X.A (eval iter X.env) (λv s1=>wpAny (model X.prog X.w) X.A (pyIter v) (PIE X pins σ tg R) X.xe s1) X.xe s
theorem iA {M:Model} {A:Around} {E:Value->Shared->Prop} {s:Shared} {tg:Expr} {it:Addr} {u:Value} {o:Obj} {n:String} {vs:Array Value} {Q:Unit->Shared->Prop} (ho:s.heap.get? it=some o) (hc:o.cls=.type n) (hd:o.data=.fields vs)
  (hn:["enumerate","zip","dict_itemiterator","dict_reverseitemiterator","odict_iterator","itertools.zip_longest","itertools.pairwise"].contains n=false) (hQ:Q () s):wpAny M A (letOwnedTupleGo tg (.ref it) u) Q E s:=by
 unfold letOwnedTupleGo;cases tg <;> first
  | exact Ai hQ
  | (cases u <;> first
    | exact Ai hQ
    | (refine Ag (wpAny_load ho ?_);rw [hc,hd];show wpAny M A (if (["enumerate","zip","dict_itemiterator","dict_reverseitemiterator","odict_iterator","itertools.zip_longest","itertools.pairwise"].contains n&&vs[0]?==some (rawInt _))=true then _ else _) Q E s;rw [if_neg (by intro h;rw [hn,Bool.false_and] at h;cases h)];exact Ai hQ))
def Itl (K:PySem.W.Frag) (a:Addr):It:=
 ⟨λi H=>∃ xs x,SqL K H a xs/\xs[i]?=some x,λi H x H'=>H'=H/\∀ xs,SqL K H a xs->xs[i]?=some x,λi H=>∃ xs,SqL K H a xs/\xs.length<=i⟩
def Itt (K:PySem.W.Frag) (a:Addr):It:=
 ⟨λi H=>∃ xs x,SqT K H a xs/\xs[i]?=some x,λi H x H'=>H'=H/\∀ xs,SqT K H a xs->xs[i]?=some x,λi H=>∃ xs,SqT K H a xs/\xs.length<=i⟩
def Itr (lo:Int) (n:Nat):It:=⟨λi _=>i<n,λi H x H'=>H'=H/\x=.int (lo+i),λi _=>n<=i⟩
theorem fD {P:Program} {w:World} {K:PySem.W.Frag} {tg:Expr} (a it:Addr):Turn P w K tg (Itl K a) [it] it (λi h=>h.IsListIter it a i) where
 mem:=by simp
 obj:=λi h st b hb=>by
  have e:b=it:=by simpa using hb
  subst e;obtain ⟨o,e,c,d⟩:=st;exact ⟨o,e,λv z=>by rw [d] at z;cases z⟩
 keep:=λi h h' st k=>st.at λo e=>k it (by simp) o e
 item:=by
  intro X hP hw hK hc i pins s σ H E I hf st hg;subst hP hw hK;obtain ⟨xs,x,hq,hx⟩:=hg;obtain ⟨its,rv,p,hz⟩:=I.list hq;obtain ⟨u,hu,ru⟩:=rv.get hx;obtain ⟨f0,f1,f2,f3,f4,f5⟩:=hf it (by simp);refine wpAny_pyNext_list_item st p.isList (x:=u) (by simpa using hu) λh' st' sb=>?_;have I1:Inv X pins σ H { s with heap:=h' }:=I.turned (t':=s.toks) (λb o hb e=>(sb.2 b hb).trans e) f0 f1 f3 f4 f5;obtain ⟨o,e,c,d⟩:=id st';exact ⟨u,rfl,iA (s:={ s with heap:=h' }) e c d (by decide) ⟨x,H,I1,ru,⟨rfl,λys hy=>by rw [I.list_inj hy hq];exact hx⟩,st',λb hb=>(hf b hb).1⟩⟩
 done:=by
  intro X hP hw hK hc i pins s σ H E I hf st hg;subst hP hw hK;obtain ⟨xs,hq,hx⟩:=hg;obtain ⟨its,rv,p,hz⟩:=I.list hq;obtain ⟨f0,f1,f2,f3,f4,f5⟩:=hf it (by simp);have hl:=rv.length;exact wpAny_pyNext_list_end (I.ok.hd hc) st p.isList (by simp;omega) λh' eb=>⟨rfl,I.turned (t':=s.toks) (λb o hb e=>eb b o hb e) f0 f1 f3 f4 f5⟩
 self:=λ_ _ _ _ _ st h=>wpAny_pyIter_listiter st h
theorem bh {P:Program} {w:World} {K:PySem.W.Frag} {tg:Expr} (a it:Addr):Turn P w K tg (Itt K a) [it] it (λi h=>h.IsTupleIter it a i) where
 mem:=by simp
 obj:=λi h st b hb=>by
  have e:b=it:=by simpa using hb
  subst e;obtain ⟨o,e,c,d⟩:=st;exact ⟨o,e,λv z=>by rw [d] at z;cases z⟩
 keep:=λi h h' st k=>st.at λo e=>k it (by simp) o e
 item:=by
  intro X hP hw hK hc i pins s σ H E I hf st hg;subst hP hw hK;obtain ⟨xs,x,hq,hx⟩:=hg;obtain ⟨its,rv,p,hz⟩:=I.tuple hq;obtain ⟨u,hu,ru⟩:=rv.get hx;obtain ⟨f0,f1,f2,f3,f4,f5⟩:=hf it (by simp);refine wpAny_pyNext_tuple_item st (show s.heap.IsTuple a its.toArray from p) (x:=u) (by simpa using hu) λh' st' sb=>?_;have I1:Inv X pins σ H { s with heap:=h' }:=I.turned (t':=s.toks) (λb o hb e=>(sb.2 b hb).trans e) f0 f1 f3 f4 f5;obtain ⟨o,e,c,d⟩:=id st';exact ⟨u,rfl,iA (s:={ s with heap:=h' }) e c d (by decide) ⟨x,H,I1,ru,⟨rfl,λys hy=>by rw [I.tuple_inj hy hq];exact hx⟩,st',λb hb=>(hf b hb).1⟩⟩
 done:=by
  intro X hP hw hK hc i pins s σ H E I hf st hg;subst hP hw hK;obtain ⟨xs,hq,hx⟩:=hg;obtain ⟨its,rv,p,hz⟩:=I.tuple hq;obtain ⟨f0,f1,f2,f3,f4,f5⟩:=hf it (by simp);have hl:=rv.length;exact wpAny_pyNext_tuple_end (I.ok.hd hc) st (show s.heap.IsTuple a its.toArray from p) (by simp;omega) λh' eb=>⟨rfl,I.turned (t':=s.toks) (λb o hb e=>eb b o hb e) f0 f1 f3 f4 f5⟩
 self:=λ_ _ _ _ _ st h=>wpAny_pyIter_tupleiter st h
theorem cR {P:Program} {w:World} {K:PySem.W.Frag} {tg:Expr} (it:Addr) (lo:Int) (n:Nat):Turn P w K tg (Itr lo n) [it] it (λi h=>IsRangeIter h it (lo+(i:Nat) * 1) ((n:Int)-(i:Nat)) 1) where
 mem:=by simp
 obj:=λi h st b hb=>by
  have e:b=it:=by simpa using hb
  subst e;exact ⟨_,st,λv z=>by
   have z':Data.fields _=Data.cell v:=z;cases z'⟩
 keep:=λi h h' st k=>k it (by simp) _ st
 item:=by
  intro X hP hw hK hc i pins s σ H E I hf st hg;subst hP hw hK;obtain ⟨f0,f1,f2,f3,f4,f5⟩:=hf it (by simp);have W:=Walks.range (prog:=X.prog) (w:=X.w) (I.ok.hd hc) it lo 1 n;refine W.item i s _ _ hg st λv h' tk hv st' kk=>?_;obtain ⟨t,rfl⟩:=hv;have I1:Inv X pins σ H { s with heap:=h',toks:=tk }:=I.turned (λb o hb e=>kk b o (by simpa using hb) e) f0 f1 f3 f4 f5;refine ⟨_,rfl,iA (s:={ s with heap:=h',toks:=tk }) (n:="range_iterator") st' rfl rfl (by decide) ⟨.int (lo+i),H,I1,⟨t,?_⟩,⟨rfl,rfl⟩,st',λb hb=>(hf b hb).1⟩⟩;rw [Int.mul_one]
 done:=by
  intro X hP hw hK hc i pins s σ H E I hf st hg;subst hP hw hK;obtain ⟨f0,f1,f2,f3,f4,f5⟩:=hf it (by simp);exact wpAny_pyNext_range_end (I.ok.hd hc) st (by have:n<=i:=hg;omega) λh' eb=>⟨rfl,I.turned (t':=s.toks) (λb o hb e=>eb b o hb e) f0 f1 f3 f4 f5⟩
 self:=λ_ _ _ _ _ st h=>wpAny_pyIter_rangeiter st h
section
variable {X:Cx} {tg:Expr}
theorem gj {pins:List (Addr×Obj)} {σ:St} {H:Hp} {s:Shared} {R:It->Hp->Prop} {E:Value->Shared->Prop} {lo hi:Int} {t u v:Tok} {tk:Nat} (I:Inv X pins σ H s) (h1:-(2 ^ 62)<=lo) (h2:lo<2 ^ 62) (h3:-(2 ^ 62)<=hi) (h4:hi<2 ^ 62)
  (q:R (Itr lo (hi-lo).toNat) H):wpAny (model X.prog X.w) X.A (pyIter (.ref s.heap.objs.size)) (PIE X pins σ tg R) E { s with heap:=s.heap.push { cls:=.type "range",data:=.fields #[.int lo t,.int hi u,.int 1 v] },toks:=tk }:=by
 refine wpAny_pyIter_range (IsRange.new ..) (small_one h1 h2 h3 h4) ?_;have I1:Inv X pins σ H { s with heap:=s.heap.push { cls:=.type "range",data:=.fields #[.int lo t,.int hi u,.int 1 v] },toks:=tk }:=I.kept λb o e=>Ah _ e;refine ⟨(s.heap.push { cls:=.type "range",data:=.fields #[.int lo t,.int hi u,.int 1 v] }).objs.size,[(s.heap.push { cls:=.type "range",data:=.fields #[.int lo t,.int hi u,.int 1 v] }).objs.size],_,_,H,rfl,
  I1.kept (t':=tk) λb o e=>Ah _ e,cR _ lo (hi-lo).toNat,?_,λb hb=>?_,q⟩
 ·have e1:lo+((0:Nat):Int) * 1=lo:=by simp
  have e2:(((hi-lo).toNat:Nat):Int)-((0:Nat):Int)=Builtin.Range.rangeSize lo hi 1:=by rw [rangeSize_one];split <;> omega
  show IsRangeIter _ _ (lo+((0:Nat):Int) * 1) ((((hi-lo).toNat:Nat):Int)-((0:Nat):Int)) 1;rw [e1,e2];exact An _ rfl
 ·have e:b=(s.heap.push { cls:=.type "range",data:=.fields #[.int lo t,.int hi u,.int 1 v] }).objs.size:=by simpa using hb
  subst e;exact I1.fpOk (Ap _) (I1.hok.fresh (Ap _))
def su (ta:TA):TI:=λσ H R=>ta σ H λvs H1=>∃ j:Int,vs=[.int j]/\-(2 ^ 62)<=j/\j<2 ^ 62/\R (Itr 0 j.toNat) H1
theorem fE {a:Expr} {ta:TA} {p pos:Pos} (hg:Gl X "range") (hm:X.mg "range" = none) (ha:PA X [a] ta) (hs:starEach [a] X.env=[(false,eval a X.env)]:=by rfl):PI X tg (.Call (.Name "range" p) [a] [] pos) (su ta):=by
 intro pins s σ H R I h;refine Call_ (B3 I hg hm boot_range (Bp (thn (ha pos pins s σ H _ I h) λus s1 ⟨vs,H1,I1,r1,q1⟩=>?_) hs rfl));obtain ⟨j,e,q1,q2,q⟩:=q1;subst e;cases r1 with
 | cons r rr=>
  cases rr;obtain ⟨t,rfl⟩:=r;exact call_range_1 (gj I1 (by omega) (by omega) q1 q2 (by simpa using q))
def tT (wi:TI) (g:TG) (tb:TS):TS:=λD σ H=>wi σ H λJ H1=>∃ W:Nat->Nat->St->Hp->Prop,(∃ m,W 0 m σ H1)/\∀ i m σ H,W i m σ H ->
 (J.stop i H/\D.nx σ H)\/(J.go i H/\∃ N:St->Hp->Prop,(∀ σ' H',N σ' H'->∃ m',m'<m/\W (i+1) m' σ' H')/\∀ x H',J.yld i H x H'->g x σ H' λσ2 H2=>tb { D with nx:=N,ct:=N,bk:=D.nx } σ2 H2)
def i3 (fp:List Addr) (h:Heap):List (Addr×Obj):=fp.filterMap λb=>(h.get? b).map λo=>(b,o)
theorem d9 {fp:List Addr} {h:Heap} {b:Addr} {o:Obj} (hb:b∈fp) (e:h.get? b=some o):(b,o)∈i3 fp h:=List.mem_filterMap.mpr ⟨b,hb,by rw [e];rfl⟩
theorem fh {fp:List Addr} {h:Heap} {p:Addr×Obj} (hp:p∈i3 fp h):p.1∈fp/\h.get? p.1=some p.2:=by
 obtain ⟨b,hb,e⟩:=List.mem_filterMap.mp hp;cases q:h.get? b with
 | none=>rw [q] at e;cases e
 | some o=>
  rw [q] at e;have e':(b,o)=p:=AG e;subst e';exact ⟨hb,q⟩
theorem Inv.pinned {pins:List (Addr×Obj)} {σ:St} {H:Hp} {s:Shared} {fp:List Addr} (I:Inv X pins σ H s) (hf:∀ b∈fp,J8 X pins H b) (ho:∀ b∈fp,∃ o,s.heap.get? b=some o/\∀ v,o.data≠.cell v):Inv X (pins++i3 fp s.heap) σ H s:=
 I.pins_of λp hp=>(BI.mp hp).elim (λz=>I.pin p (Ar _ z)) λz=>by
  obtain ⟨hb,e⟩:=fh z;obtain ⟨f0,f1,f2,_⟩:=hf p.1 hb;obtain ⟨o,e',d⟩:=ho p.1 hb;rw [e] at e';cases e';exact ⟨e,f0,f1,f2,d⟩
theorem Inv.unpinned {pins pl:List (Addr×Obj)} {σ:St} {H:Hp} {s:Shared} (I:Inv X (pins++pl) σ H s):Inv X pins σ H s:=I.pins_of λp hp=>I.pin p (Ar _ (List.mem_append_left _ hp))
theorem oN {iter:Expr} {body:List Stmt} {wi:TI} {g:TG} {tb:TS} {pos:Pos} (hp:PassesOwn (model X.prog X.w) X.A X.env X.xe) (hc:X.calm=true) (hi:PI X tg iter wi) (hg:PG X tg g) (hb:PSs X body tb)
  (hs:∀ x,foldedSetIterable iter X.env x=pure x:=by intro _;rfl):PS X (.For tg iter body [] pos) (tT wi g tb):=by
 intro pins s σ H D I h;refine wpAny_For (thn (hi pins s σ H _ I h) λv s1 h1=>thn h1 λitv s2 h2=>?_) hs;obtain ⟨it,fp,tn,J,H2,e,I2,T,st2,f2,W,⟨m0,w0⟩,turn⟩:=h2;subst e;have stat:∀ {H':Hp},(∀ b∈fp,H' b=none)->∀ b∈fp,J8 X pins H' b:=λhn b hb=>⟨hn b hb,(f2 b hb).2⟩;refine codeAny_forLoop_any (λn s'=>∃ i σ' H',Inv X pins σ' H' s'/\tn i s'.heap/\(∀ b∈fp,H' b=none)/\W i n σ' H') ?_ m0 ⟨0,σ,H2,I2,st2,λb hb=>(f2 b hb).1,w0⟩;rintro n s3 ⟨i,σ3,H3,I3,st3,fr3,w3⟩;rcases turn i n σ3 H3 w3 with ⟨stop,qn⟩ | ⟨go,N,hN,step⟩
 ·refine CD hp (thn (T.done X rfl rfl rfl hc i pins s3 σ3 H3 X.xe I3 (stat fr3) st3 stop) λr s4 ⟨hr,I4⟩=>?_);subst hr;exact wpAny_execs_nil ⟨σ3,H3,I4,qn⟩
 ·refine CD hp (thn (T.item X rfl rfl rfl hc i pins s3 σ3 H3 X.xe I3 (stat fr3) st3 go) λr s4 ⟨u,hr,h4⟩=>?_);subst hr;refine CD hp (thn h4 λ_ s5 ⟨x,H5,I5,r5,y5,st5,fr5⟩=>?_);have I5':=I5.pinned (stat fr5) (T.obj _ _ st5);refine CD hp (thn (hg _ s5 σ3 H5 x u _ I5' r5 (step x H5 y5)) λ_ s6 ⟨σ6,H6,I6,q6⟩=>?_);refine CD hp (thn (hb _ s6 σ6 H6 _ I6 q6) λf s7 q7=>?_);have again:∀ {σ7:St} {H7:Hp},Inv X (pins++i3 fp s5.heap) σ7 H7 s7->N σ7 H7->∃ m,m<n/\∃ i σ' H',Inv X pins σ' H' s7/\tn i s7.heap/\(∀ b∈fp,H' b=none)/\W i m σ' H':=λ{σ7 H7} I7 n7=>by
   obtain ⟨m',hm,w7⟩:=hN σ7 H7 n7;refine ⟨m',hm,i+1,σ7,H7,I7.unpinned,T.keep _ _ _ st5 λb hb o e=>(I7.pin (b,o) (Ar _ (Ar _ (d9 hb e)))).1,λb hb=>?_,w7⟩;obtain ⟨o,e,d⟩:=T.obj _ _ st5 b hb;exact (I7.pin (b,o) (Ar _ (Ar _ (d9 hb e)))).2.1
  cases f with
  | next=>obtain ⟨σ7,H7,I7,n7⟩:=q7;exact again I7 n7
  | cont=>obtain ⟨σ7,H7,I7,n7⟩:=q7;exact again I7 n7
  | brk=>obtain ⟨σ7,H7,I7,q7⟩:=q7;exact ⟨σ7,H7,I7.unpinned,q7⟩
  | ret v=>obtain ⟨x7,σ7,H7,I7,r7,q7⟩:=q7;exact ⟨x7,σ7,H7,I7.unpinned,r7,q7⟩
end
abbrev R2:=V->V->Hp->VK->Prop
def OpR (X:Cx) (f:Value->Value->Sem Value) (r:R2):Prop:=
 ∀ (pins:List (Addr×Obj)) (s:Shared) (σ:St) (H:Hp) (x y:V) (v u:Value) (Q:VK),Inv X pins σ H s->RelV x v->RelV y u->r x y H Q ->
  wpAny (model X.prog X.w) X.A (f v u) (EP X pins σ Q) X.xe s
def UnR (X:Cx) (f:Value->Sem Value) (r:V->Hp->VK->Prop):Prop:=
 ∀ (pins:List (Addr×Obj)) (s:Shared) (σ:St) (H:Hp) (x:V) (v:Value) (Q:VK),Inv X pins σ H s->RelV x v->r x H Q ->
  wpAny (model X.prog X.w) X.A (f v) (EP X pins σ Q) X.xe s
def j7 (X:Cx) (f:Value) (r:List V->Hp->VK->Prop):Prop:=
 ∀ (pins:List (Addr×Obj)) (s:Shared) (σ:St) (H:Hp) (xs:List V) (us:List Value) (Q:VK),Inv X pins σ H s->Vals xs us->r xs H Q ->
  wpAny (model X.prog X.w) X.A (call f us) (EP X pins σ Q) X.xe s
def tOp (r:R2) (ta tb:TE):TE:=λσ H Q=>ta σ H λx H1=>tb σ H1 λy H2=>r x y H2 Q
def tUn (r:V->Hp->VK->Prop) (ta:TE):TE:=λσ H Q=>ta σ H λx H1=>r x H1 Q
def rI (C:Int->Int->Prop) (g:Int->Int->V):R2:=λx y H Q=>∃ i j,x=.int i/\y=.int j/\C i j/\Q (g i j) H
def rI0 (g:Int->Int->V):R2:=λx y H Q=>∃ i j,x=.int i/\y=.int j/\Q (g i j) H
def rU (g:Int->V):V->Hp->VK->Prop:=λx H Q=>∃ i,x=.int i/\Q (g i) H
section
variable {X:Cx} {a b c:Expr} {ta tb tc:TE} {pos:Pos}
theorem pb (ha:PE X a ta) (hb:PE X b tb) {pins:List (Addr×Obj)} {s:Shared} {σ:St} {H:Hp} {R:V->V->Hp->Prop} (I:Inv X pins σ H s)
  (h:ta σ H λx H1=>tb σ H1 λy H2=>R x y H2) {Q:Value->Shared->Prop} {f:Value->Value->Sem Value}
  (hf:∀ v u s2 x y H2,Inv X pins σ H2 s2->RelV x v->RelV y u->R x y H2->wpAny (model X.prog X.w) X.A (f v u) Q X.xe s2) :
  wpAny (model X.prog X.w) X.A (eval a X.env) (λv s₁=>wpAny (model X.prog X.w) X.A (eval b X.env) (λu s₂=>wpAny (model X.prog X.w) X.A (f v u) Q X.xe s₂) X.xe s₁) X.xe s:=by
 refine thn (ha pins s σ H _ I h) λv s1 ⟨x,H1,I1,r1,q1⟩=>?_;refine thn (hb pins s1 σ H1 _ I1 q1) λu s2 ⟨y,H2,I2,r2,q2⟩=>?_;exact hf v u s2 x y H2 I2 r1 r2 q2
theorem rf {op:Operator} {r:R2} (ho:OpR X (binaryOp op) r) (ha:PE X a ta) (hb:PE X b tb):PE X (.BinOp a op b pos) (tOp r ta tb):=by
 intro pins s σ H Q I h;exact wpAny_BinOp (pb ha hb I h λv u s2 x y H2 I2 rx ry q=>ho pins s2 σ H2 x y v u Q I2 rx ry q)
theorem rO {op:UnaryOp} {r:V->Hp->VK->Prop} (ho:UnR X (unaryOp op) r) (ha:PE X a ta):PE X (.UnaryOp op a pos) (tUn r ta):=by
 intro pins s σ H Q I h;exact UnaryOp_ (thn (ha pins s σ H _ I h) λv s1 ⟨x,H1,I1,r1,q1⟩=>ho pins s1 σ H1 x v Q I1 r1 q1)
theorem opI {f:Value->Value->Sem Value} {C:Int->Int->Prop} {g:Int->Int->Int}
  (rule:∀ (i j:Int) (t u:Tok) (s:Shared) (Q:Value->Shared->Prop) (E:Value->Shared->Prop),C i j->Q (.int (g i j) s.toks) { s with toks:=s.toks+1 }->wpAny (model X.prog X.w) X.A (f (.int i t) (.int j u)) Q E s) :
  OpR X f (rI C λi j=>.int (g i j)):=by
 intro pins s σ H x y v u Q I rx ry h;obtain ⟨i,j,rfl,rfl,hc,q⟩:=h;obtain ⟨t,rfl⟩:=rx;obtain ⟨t',rfl⟩:=ry;exact rule i j t t' s _ _ hc ⟨.int (g i j),H,I.tok _,⟨_,rfl⟩,q⟩
theorem sj {f:Value->Value->Sem Value} {g:Int->Int->Int}
  (rule:∀ (i j:Int) (t u:Tok) (s:Shared) (Q:Value->Shared->Prop) (E:Value->Shared->Prop),Q (.int (g i j) s.toks) { s with toks:=s.toks+1 }->wpAny (model X.prog X.w) X.A (f (.int i t) (.int j u)) Q E s) :
  OpR X f (rI0 λi j=>.int (g i j)):=by
 intro pins s σ H x y v u Q I rx ry h;obtain ⟨i,j,rfl,rfl,q⟩:=h;obtain ⟨t,rfl⟩:=rx;obtain ⟨t',rfl⟩:=ry;exact rule i j t t' s _ _ ⟨.int (g i j),H,I.tok _,⟨_,rfl⟩,q⟩
theorem lY {f:Value->Value->Sem Value} {g:Int->Int->Bool}
  (rule:∀ (i j:Int) (t u:Tok) (s:Shared) (Q:Value->Shared->Prop) (E:Value->Shared->Prop),Q (.bool (g i j)) s->wpAny (model X.prog X.w) X.A (f (.int i t) (.int j u)) Q E s) :
  OpR X f (rI0 λi j=>.bl (g i j)):=by
 intro pins s σ H x y v u Q I rx ry h;obtain ⟨i,j,rfl,rfl,q⟩:=h;obtain ⟨t,rfl⟩:=rx;obtain ⟨t',rfl⟩:=ry;exact rule i j t t' s _ _ ⟨.bl (g i j),H,I,rfl,q⟩
def gC (i j:Int):Prop:=0<j/\j<1073741824
def kr (i j:Int):Prop:=0<=j/\j<=1000000/\i.natAbs<2 ^ 64
def CMul (i j:Int):Prop:=(-(2 ^ 64)<i/\i<2 ^ 64)\/(-(2 ^ 64)<j/\j<2 ^ 64)
theorem CMul.ok {i j:Int} (h:CMul i j):IntMulOk i j:=by
 rcases h with ⟨h1,h2⟩ | ⟨h1,h2⟩
 ·exact .of_left (intBits_le_64 h1 h2)
 ·exact .of_right (intBits_le_64 h1 h2)
theorem pP:OpR X (binaryOp .Add) (rI0 λi j=>.int (i+j)):=sj λ_ _ _ _ _ _ _ q=>add_int q
theorem pK:OpR X (binaryOp .Sub) (rI0 λi j=>.int (i-j)):=sj λ_ _ _ _ _ _ _ q=>sub_int q
theorem pf:OpR X (binaryOp .Mult) (rI CMul λi j=>.int (i * j)):=opI λ_ _ _ _ _ _ _ hc q=>mul_int q hc.ok
theorem lL:OpR X (binaryOp .FloorDiv) (rI gC λi j=>.int (i / j)):=opI λi j _ _ _ _ _ hc q=>by
 have h1:(0:Int)<j:=hc.1;have h2:j<1073741824:=hc.2;exact floordiv_int (by omega) (by rw [Int.fdiv_eq_ediv_of_nonneg i (by omega)];exact q) (.inl (PyProof.noPylong_small (by omega)))
theorem oQ:OpR X (binaryOp .Mod) (rI (λ_ j=>0<j) λi j=>.int (i % j)):=opI λi j _ _ _ _ _ hc q=>by
 have h1:(0:Int)<j:=hc;exact mod_int' (by omega) (by rw [Int.fmod_eq_emod_of_nonneg i (by omega)];exact q)
theorem pG:OpR X (binaryOp .Pow) (rI kr λi j=>.int (i ^ j.toNat)):=opI λ_ _ _ _ _ _ _ hc q=>pow_int_small hc.1 hc.2.1 hc.2.2 q
theorem unI {f:Value->Sem Value} {g:Int->Int}
  (rule:∀ (i:Int) (t:Tok) (s:Shared) (Q:Value->Shared->Prop) (E:Value->Shared->Prop),Q (.int (g i) s.toks) { s with toks:=s.toks+1 }->wpAny (model X.prog X.w) X.A (f (.int i t)) Q E s) :
  UnR X f (rU λi=>.int (g i)):=by
 intro pins s σ H x v Q I rx h;obtain ⟨i,rfl,q⟩:=h;obtain ⟨t,rfl⟩:=rx;exact rule i t s _ _ ⟨.int (g i),H,I.tok _,⟨_,rfl⟩,q⟩
theorem pA:UnR X (unaryOp .USub) (rU λi=>.int (-i)):=unI λ_ _ _ _ _ q=>neg_int q
end
def tI:V->V->Bool
 | .non,.non=>true | .non,.int _=>true | .int _,.non=>true | .non,.bl _=>true | .bl _,.non=>true | .non,.str _=>true | .str _,.non=>true
 | .int _,.int _=>true | .bl _,.bl _=>true | .str _,.str _=>true | .byt _,.byt _=>true
 | .int _,.str _=>true | .str _,.int _=>true | .bl _,.str _=>true | .str _,.bl _=>true
 | _,_=>false
def rEq:R2:=λx y H Q=>tI x y=true/\Q (.bl (decide (x=y))) H
def rNe:R2:=λx y H Q=>tI x y=true/\Q (.bl (!decide (x=y))) H
theorem eF {i j:Int}:decide (V.int i=V.int j)=(i==j):=by
 rw [BJ];simp
theorem jR {i j:Bool}:decide (V.bl i=V.bl j)=(i==j):=by
 rw [BJ];simp
theorem dM {i j:Str}:decide (V.str i=V.str j)=(i==j):=by
 rw [BJ];simp
theorem eG {i j:Array UInt8}:decide (V.byt i=V.byt j)=(i.toList==j.toList):=by
 rw [BJ];cases i;cases j;simp
section
variable {X:Cx} {a b c:Expr} {ta tb tc:TE} {pos:Pos}
theorem c8 {pins:List (Addr×Obj)} {σ:St} {H:Hp} {s:Shared} {Q:VK} {k k':Bool} (I:Inv X pins σ H s) (q:Q (.bl k) H) (e:k=k'):EP X pins σ Q (.bool k') s:=by
 subst e;exact ⟨.bl k,H,I,rfl,q⟩
theorem rV:OpR X (compareOp .Eq) rEq:=by
 intro pins s σ H x y v u Q I rx ry h;obtain ⟨hs,q⟩:=h;cases x with
 | non=>
  cases rx;cases y with
  | non=>cases ry;exact PySem.EqNone.eq_none_none (c8 I q (by simp))
  | bl j=>cases ry;exact PySem.EqNone.eq_none_bool (c8 I q (by simp))
  | int j=>obtain ⟨t',rfl⟩:=ry;exact PySem.EqNone.eq_none_int (c8 I q (by simp))
  | str j=>obtain ⟨t',rfl⟩:=ry;exact PySem.EqNone.eq_none_str (c8 I q (by simp))
  | _=>exact absurd (show false=true from hs) At
 | bl i=>
  cases rx;cases y with
  | non=>cases ry;exact PySem.EqNone.eq_bool_none (c8 I q (by simp))
  | bl j=>cases ry;exact eq_bool (c8 I q jR)
  | str j=>obtain ⟨t',rfl⟩:=ry;exact PySem.EqMixed.eq_bool_str (c8 I q (by simp))
  | _=>exact absurd (show false=true from hs) At
 | int i=>
  obtain ⟨t,rfl⟩:=rx;cases y with
  | non=>cases ry;exact PySem.EqNone.eq_int_none (c8 I q (by simp))
  | int j=>obtain ⟨t',rfl⟩:=ry;exact eq_int (c8 I q eF)
  | str j=>obtain ⟨t',rfl⟩:=ry;exact PySem.EqMixed.eq_int_str (c8 I q (by simp))
  | _=>exact absurd (show false=true from hs) At
 | str i=>
  obtain ⟨t,rfl⟩:=rx;cases y with
  | non=>cases ry;exact PySem.EqNone.eq_str_none (c8 I q (by simp))
  | bl j=>cases ry;exact PySem.EqMixed.eq_str_bool (c8 I q (by simp))
  | int j=>obtain ⟨t',rfl⟩:=ry;exact PySem.EqMixed.eq_str_int (c8 I q (by simp))
  | str j=>obtain ⟨t',rfl⟩:=ry;exact eq_str (c8 I q dM)
  | _=>exact absurd (show false=true from hs) At
 | byt i=>
  obtain ⟨t,rfl⟩:=rx;cases y with
  | byt j=>obtain ⟨t',rfl⟩:=ry;exact PySem.W.eq_bytes (c8 I q eG)
  | _=>exact absurd (show false=true from hs) At
 | _=>cases y <;> exact absurd (show false=true from hs) At
theorem si:OpR X (compareOp .NotEq) rNe:=by
 intro pins s σ H x y v u Q I rx ry h;obtain ⟨hs,q⟩:=h;cases x with
 | non=>
  cases rx;cases y with
  | non=>cases ry;exact PySem.EqNone.ne_none_none (c8 I q (by simp))
  | bl j=>cases ry;exact PySem.EqNone.ne_none_bool (c8 I q (by simp))
  | int j=>obtain ⟨t',rfl⟩:=ry;exact PySem.EqNone.ne_none_int (c8 I q (by simp))
  | str j=>obtain ⟨t',rfl⟩:=ry;exact PySem.EqNone.ne_none_str (c8 I q (by simp))
  | _=>exact absurd (show false=true from hs) At
 | bl i=>
  cases rx;cases y with
  | non=>cases ry;exact PySem.EqNone.ne_bool_none (c8 I q (by simp))
  | bl j=>cases ry;exact ne_bool (c8 I q (congrArg not jR))
  | str j=>obtain ⟨t',rfl⟩:=ry;exact PySem.EqMixed.ne_bool_str (c8 I q (by simp))
  | _=>exact absurd (show false=true from hs) At
 | int i=>
  obtain ⟨t,rfl⟩:=rx;cases y with
  | non=>cases ry;exact PySem.EqNone.ne_int_none (c8 I q (by simp))
  | int j=>obtain ⟨t',rfl⟩:=ry;exact ne_int (c8 I q (congrArg not eF))
  | str j=>obtain ⟨t',rfl⟩:=ry;exact PySem.EqMixed.ne_int_str (c8 I q (by simp))
  | _=>exact absurd (show false=true from hs) At
 | str i=>
  obtain ⟨t,rfl⟩:=rx;cases y with
  | non=>cases ry;exact PySem.EqNone.ne_str_none (c8 I q (by simp))
  | bl j=>cases ry;exact PySem.EqMixed.ne_str_bool (c8 I q (by simp))
  | int j=>obtain ⟨t',rfl⟩:=ry;exact PySem.EqMixed.ne_str_int (c8 I q (by simp))
  | str j=>obtain ⟨t',rfl⟩:=ry;exact ne_str (c8 I q (congrArg not dM))
  | _=>exact absurd (show false=true from hs) At
 | byt i=>
  obtain ⟨t,rfl⟩:=rx;cases y with
  | byt j=>obtain ⟨t',rfl⟩:=ry;exact PySem.W.ne_bytes (c8 I q (congrArg not eG))
  | _=>exact absurd (show false=true from hs) At
 | _=>cases y <;> exact absurd (show false=true from hs) At
theorem sw:OpR X (compareOp .Lt) (rI0 λi j=>.bl (decide (i<j))):=lY λ_ _ _ _ _ _ _ q=>lt_int q
theorem rc:OpR X (compareOp .LtE) (rI0 λi j=>.bl (decide (i<=j))):=lY λ_ _ _ _ _ _ _ q=>le_int q
theorem rE:OpR X (compareOp .Gt) (rI0 λi j=>.bl (decide (j<i))):=lY λ_ _ _ _ _ _ _ q=>gt_int q
theorem sA:OpR X (compareOp .GtE) (rI0 λi j=>.bl (decide (j<=i))):=lY λ_ _ _ _ _ _ _ q=>ge_int q
theorem mB {op:CmpOp} {r:R2} (ho:OpR X (compareOp op) r) (ha:PE X a ta) (hb:PE X b tb) (hm:behindInMarks op b=false):PE X (.Compare a [op] [b] pos) (tOp r ta tb):=by
 intro pins s σ H Q I h;exact wpAny_Compare1 (pb ha hb I h λv u s2 x y H2 I2 rx ry q=>ho pins s2 σ H2 x y v u Q I2 rx ry q) hm
def sF (t:TE):TT:=λσ H Q=>t σ H λx H'=>∃ k,x=.bl k/\Q k H'
theorem lW {op:CmpOp} {r:R2} (ho:OpR X (compareOp op) r) (ha:PE X a ta) (hb:PE X b tb) (hm:behindInMarks op b=false):PT X (.Compare a [op] [b] pos) (sF (tOp r ta tb)):=by
 intro pins s σ H Q I h;refine wpAny_isTrue_Compare1 (thn (ha pins s σ H _ I h) λv s1 ⟨x,H1,I1,r1,q1⟩=>thn (hb pins s1 σ H1 _ I1 q1) λu s2 ⟨y,H2,I2,r2,q2⟩=>
  thn (ho pins s2 σ H2 x y v u _ I2 r1 r2 q2) λc s3 ⟨z,H3,I3,r3,k,e,q3⟩=>?_) hm
 subst e;cases r3;exact wpAny_truthy_bool ⟨H3,I3,q3⟩
theorem R6:(sizeLine:Nat)<2 ^ 63:=by rw [AF];decide
theorem cW:OpR X (binaryOp .Add) (λx y H Q=>∃ i j,x=.str i/\y=.str j/\i.length+j.length<=sizeLine/\Q (.str (i++j)) H):=by
 intro pins s σ H x y v u Q I rx ry h;obtain ⟨i,j,rfl,rfl,hz,q⟩:=h;obtain ⟨t,rfl⟩:=rx;obtain ⟨t',rfl⟩:=ry;exact add_str (λt' tk=>⟨.str (i++j),H,I.tok _,⟨_,rfl⟩,q⟩) hz
theorem M3 {x:V} {us:List Value} (r:Vals [x] us):∃ u,us=[u]/\RelV x u:=by
 cases r with
 | cons r1 r2=>cases r2;exact ⟨_,rfl,r1⟩
end
theorem RelO.some_of {v:V} {o:Option Value} (r:RelO (some v) o):∃ u,o=some u/\RelV v u:=by
 cases o with
 | none=>exact (show False from r).elim
 | some u=>exact ⟨u,rfl,r⟩
def A9 (K:PySem.W.Frag) (C:Addr) (f:Str):Prop:=PySem.W.findIn K (.ref C) f=some none
structure Room (q:Bool) (k:Nat) (A:Around):Prop where
 hd:q=false->A.handled=none
 dp:A.depth+3 * k+5<recursionLimit
 un:A.units+16 * k+200<cLine
 gd:A.guards=some []
theorem Room.any {q:Bool} {k:Nat} {A:Around} (r:Room false k A):Room q k A:=⟨λ_=>r.hd rfl,r.dp,r.un,r.gd⟩
theorem Room.deeper {q:Bool} {k:Nat} {A:Around} (r:Room q (k+1) A) (env:Env):Room q k (A.deeper env):=
 ⟨r.hd,by have:=r.dp;show A.depth+1+3 * k+5<_;omega,by have:=r.un;show A.units+3+16 * k+200<_;omega,r.gd⟩
theorem Room.in1 {q:Bool} {k:Nat} {A:Around} (r:Room q (k+1) A):Room q k A.in1:=
 ⟨r.hd,by have:=r.dp;show A.depth+3 * k+5<_;omega,by have:=r.un;show A.units+1+16 * k+200<_;omega,r.gd⟩
theorem Room.depth {q:Bool} {k:Nat} {A:Around} (r:Room q k A):A.depth<recursionLimit:=by have:=r.dp;omega
theorem Room.units {q:Bool} {k:Nat} {A:Around} (r:Room q k A):A.units+64<cLine:=by have:=r.un;omega
def tNil:TA:=λ_ H Q=>Q [] H
def rR (ta:TE) (tr:TA):TA:=λσ H Q=>ta σ H λx H1=>tr σ H1 λxs H2=>Q (x :: xs) H2
section
variable {X:Cx} {e:Expr} {es:List Expr} {te:TE} {t:TA} {pos:Pos}
theorem nl:PA X [] tNil:=λ_ _ _ _ H Q I h=>BL ⟨[],H,I,.nil,h⟩
theorem mQ (ha:PE X e te) (hr:PA X es t) (hs:starEach (e :: es) X.env=(false,eval e X.env) :: starEach es X.env:=by rfl):PA X (e :: es) (rR te t):=by
 intro pos pins s σ H Q I h;rw [hs];show wpAny _ _ (spliced ((false,eval e X.env) :: backTo pos (starEach es X.env))) _ _ s;refine BF (thn (ha pins s σ H _ I h) λu s1 ⟨x,H1,I1,r1,q1⟩=>?_);exact thn (hr pos pins s1 σ H1 _ I1 q1) λus s2 ⟨xs,H2,I2,r2,q2⟩=>⟨x :: xs,H2,I2,.cons r1 r2,q2⟩
def uM (t:TA):TE:=λσ H Q=>t σ H λxs H1=>xs.length<=sizeLine/\∀ p,H1 p=none->Q (.ref p) (upd H1 p (.tup xs))
def vI (t:TA):TE:=λσ H Q=>t σ H λxs H1=>xs.length<=sizeLine/\∀ p,H1 p=none->Q (.ref p) (upd H1 p (.lst xs))
theorem qD {x1} (h:PA X es t):PE X (.Tuple es x1 pos) (uM t):=by
 intro pins s σ H Q I hq;refine wpAny_Tuple_spliced (thn (h pos pins s σ H _ I hq) λus s1 ⟨xs,H1,I1,r,z,q⟩=>⟨by rw [<- r.length];exact z,?_⟩);have hf:H1 s1.heap.objs.size=none:=I1.hok.fresh (Ap _);refine ⟨.ref s1.heap.objs.size,upd H1 s1.heap.objs.size (.tup xs),I1.laid (t':=s1.toks) (λb u e=>Ah _ e) (Ap _) ?_,rfl,q _ hf⟩;exact ⟨z,us,r,⟨_,An _ rfl,rfl,_,rfl,rfl⟩⟩
theorem gI (h:PA X es t):PE X (.List es pos) (vI t):=by
 intro pins s σ H Q I hq;refine wpAny_List_spliced (thn (h pos pins s σ H _ I hq) λus s1 ⟨xs,H1,I1,r,z,q⟩=>⟨by rw [<- r.length];exact z,?_⟩);have hf:H1 s1.heap.objs.size=none:=I1.hok.fresh (Ap _);refine ⟨.ref s1.heap.objs.size,upd H1 s1.heap.objs.size (.lst xs),I1.laid (t':=s1.toks) (λb u e=>Ah _ e) (Ap _) ?_,rfl,q _ hf⟩;exact ⟨z,us,0,r,An _ rfl⟩
end
abbrev Sp:=List V->Hp->VK->XK->Prop
structure CXT where
 cx:List Env->Hp->Shared->XK->Value->Shared->Prop
 q:Bool
instance:CoeFun CXT λ_=>List Env->Hp->Shared->XK->Value->Shared->Prop:=⟨CXT.cx⟩
structure Env0 (P:Program) (w:World) (K:PySem.W.Frag) (mg:Str->Option Value) (base:Heap) (A:Around) (outer:List Env) (s:Shared) (H:Hp):Prop where
 frames:A.frames=some outer
 mod:Mod K mg base
 bs:∀ b o,base.get? b=some o->s.heap.get? b=some o/\H b=none
 bsz:base.objs.size<=s.heap.objs.size
 funs:s.heap.FunFrames base outer
 frf:∀ b∈frs outer,H b=none
 hok:HOk P w H s.heap
 bare:AllBare s.gens
def CE (outer:List Env) (P:Program) (w:World) (H:Hp) (s:Shared) (Q:VK) (u:Value) (s':Shared):Prop:=
 ∃ v H',s'.os=s.os/\AllBare s'.gens/\Un (frs outer) [] H H' s.heap s'.heap/\HOk P w H' s'.heap/\RelV v u/\Q v H'
def CR (CX:CXT) (outer:List Env) (P:Program) (w:World) (H:Hp) (s:Shared) (Q:VK) (E:XK) (r:Result) (s':Shared):Prop:=
 match r with
 | .ok (.ret u)=>CE outer P w H s Q u s'
 | .ok _=>False
 | .error e=>CX outer H s E e s'
structure FnOk (P:Program) (w:World) (K:PySem.W.Frag) (mg:Str->Option Value) (base:Heap) (CX:CXT) (k:Nat) (f:Addr) (fd:FuncData) (ps:List Str) (sp:Sp):Prop where
 len:∀ vs H Q E,sp vs H Q E->vs.length=ps.length
 run:∀ (A:Around) (outer:List Env) (s:Shared) (H:Hp) (args:Args) (us:List Value) (vs:List V) (Q:VK) (E:XK),Room CX.q k A->Env0 P w K mg base A outer s H->BindsTo s fd args (ps.zip us)->Vals vs us->sp vs H Q E ->
  codeAny (model P w) A (.call (.ref f) args) (CR CX outer P w H s Q E) s
theorem FnOk.imp {P:Program} {w:World} {K:PySem.W.Frag} {mg:Str->Option Value} {base:Heap} {CX:CXT} {k:Nat} {f:Addr} {fd:FuncData} {ps:List Str} {sp sp':Sp} (F:FnOk P w K mg base CX k f fd ps sp)
  (h:∀ vs H Q E,sp' vs H Q E->sp vs H Q E):FnOk P w K mg base CX k f fd ps sp':=
 ⟨λvs H Q E q=>F.len vs H Q E (h _ _ _ _ q),λA outer s H args us vs Q E hr he hb hv hs=>F.run A outer s H args us vs Q E hr he hb hv (h _ _ _ _ hs)⟩
section
variable {X:Cx} {pins:List (Addr×Obj)} {σ:St} {H:Hp} {s s':Shared}
theorem Inv.env0 (I:Inv X pins σ H s):Env0 X.prog X.w X.K X.mg X.base X.A X.stack s H:=
 ⟨I.ok.frames,I.ok.mod,I.bs,AZ I.ok.bsz I.sz,I.stack,I.stkFree,I.hok,I.bare⟩
theorem Inv.after {Q:VK} {u:Value} (I:Inv X pins σ H s) (h:CE X.stack X.prog X.w H s Q u s'):EP X pins σ Q u s':=by
 obtain ⟨v,H',os,bare,un,hok,r,q⟩:=h;obtain ⟨hh,g,d,t,os'⟩:=s';obtain rfl:os'=s.os:=os;exact ⟨v,H',I.call (h':=hh) (g':=g) (d':=d) (t':=t) (ch:=[]) un hok bare (λb z=>absurd z (by simp)),r,q⟩
end
def mx (sp:Sp) (dvs:List V) (E:XK) (t:TA):TE:=λσ H Q=>t σ H λvs H1=>sp (vs++dvs) H1 Q E
def Binds (K:PySem.W.Frag) (fd:FuncData) (ps:List Str) (ds:List Value):Prop:=
 ∀ (s:Shared) (us:List Value),K.In s.heap->(us++ds).length=ps.length->BindsTo s fd ⟨us,[]⟩ (ps.zip (us++ds))
theorem Binds.all {K:PySem.W.Frag} {fd:FuncData} {ps:List Str} (h:∀ us:List Value,us.length=ps.length->bindArgs fd ⟨us,[]⟩=pure (ps.zip us)):Binds K fd ps []:=λs us _ hl=>by
 rw [Bj] at hl ⊢;exact .of_eq (h us hl)
def aD (CX:CXT) (X:Cx) (E:XK):Prop:=∀ (pins:List (Addr×Obj)) (σ:St) (H:Hp) (s:Shared) (e:Value) (s':Shared),Inv X pins σ H s->CX X.stack H s E e s'->X.xe e s'
section
variable {X:Cx} {CX:CXT} {k:Nat} {f C:Addr} {fd:FuncData} {ps:List Str} {sp:Sp} {dvs:List V} {ds:List Value} {E:XK} {x m:Str} {p pos apos:Pos} {e o:Expr} {es:List Expr} {ta:TE} {t:TA}
theorem jN {pins:List (Addr×Obj)} {σ:St} {H:Hp} {s:Shared} {Q:VK} {us:List Value} {vs:List V} (F:FnOk X.prog X.w X.K X.mg X.base CX k f fd ps sp) (hr:Room CX.q k X.A) (hb:Binds X.K fd ps ds) (hd:Vals dvs ds) (hx:aD CX X E)
  (I:Inv X pins σ H s) (r:Vals vs us) (h:sp (vs++dvs) H Q E):wpAny (model X.prog X.w) X.A (call (.ref f) us) (EP X pins σ Q) X.xe s:=by
 have r2:Vals (vs++dvs) (us++ds):=r.append hd;have hl:(us++ds).length=ps.length:=by rw [<- r2.length];exact F.len _ _ _ _ h
 refine wpAny_call (BM (F.run X.A X.stack s H ⟨us,[]⟩ (us++ds) (vs++dvs) Q E hr I.env0 (hb s us I.kIn hl) r2 h) λr s' hq=>?_);cases r with
 | error e=>exact hx pins σ H s e s' I hq
 | ok fl=>
  cases fl with
  | ret u=>exact I.after hq
  | next=>exact False.elim hq
  | brk=>exact False.elim hq
  | cont=>exact False.elim hq
theorem kN (F:FnOk X.prog X.w X.K X.mg X.base CX k f fd ps sp) (hr:Room CX.q k X.A) (hg:Gl X x) (hm:X.mg x=some (.ref f)) (hk:PySem.W.keepIn X.K (.ref f)=true) (hb:Binds X.K fd ps ds) (hd:Vals dvs ds) (hx:aD CX X E)
  (ha:PA X (e :: es) t) (hdb:(x==("__debug__" : Str))=false:=by decide) (he:starEach (e :: es) X.env=(false,eval e X.env) :: starEach es X.env:=by rfl) (hpl:(backTo pos (starEach es X.env)).any (·.1)=false:=by rfl) :
  PE X (.Call (.Name x p) (e :: es) [] pos) (mx sp dvs E t):=by
 intro pins s σ H Q I h;refine Bi (aM I hg hm ?_ hdb);refine PySem.W.callWith_K (h₀:=X.base) I.ok.mod.kin hk (thn (ha pos pins s σ H _ I h) λus s1 ⟨vs,H1,I1,r,q⟩=>⟨I1.kIn,?_⟩) he hpl;exact jN F hr hb hd hx I1 r q
theorem iU (F:FnOk X.prog X.w X.K X.mg X.base CX k f fd ps sp) (hr:Room CX.q k X.A) (hg:Gl X x) (hm:X.mg x=some (.ref f)) (hk:PySem.W.keepIn X.K (.ref f)=true) (hb:Binds X.K fd ps ds) (hd:Vals dvs ds) (hx:aD CX X E)
  (hdb:(x==("__debug__" : Str))=false:=by decide):PE X (.Call (.Name x p) [] [] pos) (mx sp dvs E tNil):=by
 intro pins s σ H Q I h;refine Bi (aM I hg hm ?_ hdb);exact PySem.W.callWith_K0 I.kIn hk (jN (us:=[]) F hr hb hd hx I .nil h)
end
structure FnScope (N P:List Str) (sc:Scope):Prop where
 kind:sc.kind=.function
 co:sc.isCoroutine=false
 gen:sc.isGenerator=false
 nd:N.Nodup
 pre:N.take P.length=P
 par:∀ x∈P,sc.names.lookup x=some .local\/sc.names.lookup x=some .cell
 nofree:∀ y∈sc.names,y.2≠.free
theorem W0 {kindOf:Str->Option NameKind} {x:Str}:∀ {binds:List (Str×Value)} {m:Str->Option Value},(∀ v,(x,v)∉binds)->bindL kindOf binds m x=m x
 | [],_,_=>rfl
 | (n,v) :: r,m,h=>by
  unfold bindL;rw [W0 λw hw=>h w (Aw _ hw)];split
  ·have:x≠n:=by rintro rfl;exact h v Ay
   simp [this]
  ·rfl
theorem V6 {kindOf:Str->Option NameKind} {x:Str}:∀ {binds:List (Str×Value)} {m:Str->Option Value},(∀ v,(x,v)∉binds)->bindC kindOf binds m x=m x
 | [],_,_=>rfl
 | (n,v) :: r,m,h=>by
  unfold bindC;rw [V6 λw hw=>h w (Aw _ hw)];split
  ·rfl
  ·have:x≠n:=by rintro rfl;exact h v Ay
   simp [this]
theorem V3 {kindOf:Str->Option NameKind} {x:Str} {v:Value}:∀ {P:List Str} {vs:List Value} {i:Nat} {m:Str->Option Value},P.Nodup->P[i]?=some x->vs[i]?=some v->kindOf x=some .local ->
  bindL kindOf (P.zip vs) m x=some v
 | [],_,_,_,_,h,_,_=>by simp at h
 | _ :: _,[],_,_,_,_,h,_=>by simp at h
 | p :: P,w :: vs,0,m,nd,h1,h2,hk=>by
  simp at h1 h2;subst h1;subst h2;show bindL kindOf ((p,w) :: P.zip vs) m p=_;unfold bindL;rw [W0 λv hv=>(Ce.mp nd).1 (DV hv).1,if_pos hk];simp
 | p :: P,w :: vs,i+1,m,nd,h1,h2,hk=>by
  show bindL kindOf ((p,w) :: P.zip vs) m x=_;unfold bindL;exact V3 (i:=i) (Ce.mp nd).2 (by simpa using h1) (by simpa using h2) hk
theorem W9 {kindOf:Str->Option NameKind} {x:Str} {v:Value}:∀ {P:List Str} {vs:List Value} {i:Nat} {m:Str->Option Value},P.Nodup->P[i]?=some x->vs[i]?=some v->kindOf x≠some .local ->
  bindC kindOf (P.zip vs) m x=some v
 | [],_,_,_,_,h,_,_=>by simp at h
 | _ :: _,[],_,_,_,_,h,_=>by simp at h
 | p :: P,w :: vs,0,m,nd,h1,h2,hk=>by
  simp at h1 h2;subst h1;subst h2;show bindC kindOf ((p,w) :: P.zip vs) m p=_;unfold bindC;rw [V6 λv hv=>(Ce.mp nd).1 (DV hv).1,if_neg hk];simp
 | p :: P,w :: vs,i+1,m,nd,h1,h2,hk=>by
  show bindC kindOf ((p,w) :: P.zip vs) m x=_;unfold bindC;exact W9 (i:=i) (Ce.mp nd).2 (by simpa using h1) (by simpa using h2) hk
def start (N:List Str) (vs:List V):St:=vs.map some++List.replicate (N.length-vs.length) none
def N4 (CX:CXT) (P:Program) (w:World) (K:PySem.W.Frag) (mg:Str->Option Value) (base:Heap) (N:List Str) (qual:Str) (scope:Scope) (f:Addr) (cd:Value) (A:Around) (outer:List Env) (s:Shared) (H:Hp) (E:XK):Cx where
 prog:=P
 w:=w
 K:=K
 mg:=mg
 base:=base
 A:=A.deeper (envOfC qual scope s.heap.objs.size f cd)
 N:=N
 s₀:=s
 H₀:=H
 env:=envOfC qual scope s.heap.objs.size f cd
 outer:=outer
 stack:=envOfC qual scope s.heap.objs.size f cd :: outer
 ex:=[]
 calm:=!CX.q
 fn:=λ_=>true
 pn:=[]
 xe:=λe s'=>wpAny (model P w) (A.deeper (envOfC qual scope s.heap.objs.size f cd)) (leaving (envOfC qual scope s.heap.objs.size f cd) e) (λ_ s''=>CX outer H s E e s'') (λe' s''=>CX outer H s E e' s'') s'
theorem bF {sc:Scope} {n:Nat} {x:Str} (h:sc.names.lookup x=some .cell):∃ c,(cellsFrom n sc.names []).lookup x=some c:=by
 have q:=PySem.W.cellsFrom_some sc.names n [] (.inl h);exact Bx.mp q
theorem W3 {CX:CXT} {P:Program} {w:World} {K:PySem.W.Frag} {mg:Str->Option Value} {base:Heap} {N ps:List Str} {qual:Str} {scope:Scope} {f:Addr} {cd:Value} {A:Around} {outer:List Env} {s s1:Shared} {H:Hp} {E:XK} {us:List Value} {vs:List V}
  (S:FnScope N ps scope) (hd:CX.q=false->A.handled=none) (e0:Env0 P w K mg base A outer s H) (hl:vs.length=ps.length) (r:Vals vs us)
  (x:InCallC s s.heap.objs.size (bindL (envOfC qual scope s.heap.objs.size f cd).kindOf (ps.zip us) λ_=>none) (cellsFrom (s.heap.objs.size+1) scope.names []) (bindC (envOfC qual scope s.heap.objs.size f cd).kindOf (ps.zip us) λ_=>none) s1) :
  Inv (N4 CX P w K mg base N qual scope f cd A outer s H E) [] (start N vs) H s1:=by
 have hpl:ps.length<=N.length:=by have:=congrArg List.length S.pre;rw [Bf] at this;omega
 obtain ⟨h1,tk,rfl,hk⟩:=x.done;have noA:∀ b:Addr,b∉(N4 CX P w K mg base N qual scope f cd A outer s H E).ex:=λb z=>absurd (show b∈([]:List Addr) from z) (by simp);refine ⟨⟨e0.mod,S.kind,rfl,rfl,Ap _,λy z c h1 h2=>?_,λy hy=>?_,λy c _ h=>?_,λz=>hd (by have z:(!CX.q)=true:=z;simpa using z),Around.frames_deeper e0.frames,.inr ⟨rfl,rfl⟩,λb z=>absurd z (noA b),e0.bs,e0.bsz,λb _ _=>noA b,λb z=>absurd z (noA b),e0.funs,e0.frf⟩,
  rfl,e0.bare,Un.kept hk,⟨_,x.toInCall.ns,λi y v h1 h2 h3=>?_⟩,λy c h=>⟨_,x.cell y c h⟩,e0.hok.fresh (Ap _),λy c h=>?_,λp hp=>absurd (show p∈([]:List (Addr×Obj)) from hp) (by simp),e0.hok.kept hk,?_⟩
 ·exact name_of_addr x.apart (BU h1) (BU h2)
 ·have hy:scope.names.lookup y=some .cell\/scope.names.lookup y=some .free:=hy;rcases hy with hy | hy
  ·exact bF hy
  ·exact absurd rfl (S.nofree _ (BU hy))
 ·exact BZ (x.above y c (BU h))
 ·have hi:i<vs.length:=by
   unfold start at h2;by_cases hi:i<vs.length
   ·exact hi
   ·rw [AL (by simpa using hi)] at h2;rw [DL] at h2;split at h2 <;> cases h2
  have ha:vs[i]?=some v:=by
   unfold start at h2;rw [AC (by simpa using hi),AH] at h2;cases e:vs[i]? with
   | none=>rw [e] at h2;cases h2
   | some a=>rw [e] at h2;cases h2;rfl
  obtain ⟨u,hu,rv⟩:=r.get ha;have hp:ps[i]?=some y:=by
   rw [<- S.pre,List.getElem?_take_of_lt (by omega)];exact h1
  have ndP:ps.Nodup:=by rw [<- S.pre];exact S.nd.sublist (DD _ _)
  refine ⟨u,rv,?_⟩;rcases S.par y (AT hp) with k | k
  ·exact .inl ⟨k,V3 ndP hp hu k⟩
  ·obtain ⟨c,e⟩:=bF (n:=s.heap.objs.size+1) k;refine .inr ⟨.inl k,c,e,?_⟩;have q:=x.cell y c e;rw [W9 ndP hp hu (by show scope.names.lookup y≠_;rw [k];decide)] at q;exact q
 ·exact e0.hok.fresh (BZ (x.above y c (BU h)))
 ·unfold start;show _=N.length;rw [Av,Aj,CT];omega
theorem rh {CX:CXT} {P:Program} {w:World} {K:PySem.W.Frag} {mg:Str->Option Value} {base:Heap} {k:Nat} {f:Addr} {name qual:Str} {params:Arguments} {body:List Stmt} {scope:Scope} {dV kV doc pm cdv ct oc:Value} {an od:Option Addr}
  {osl:Array (Option Value)} {N ps:List Str} {sp:Sp} (lk:K.lookup f=some ⟨oc,od,.func (PySem.W.fnOf name qual params body scope dV kV doc pm an cdv ct),osl⟩) (hcd:PySem.W.codeIn K cdv qual=true) (S:FnScope N ps scope)
  (len:∀ vs H Q E,sp vs H Q E->vs.length=ps.length)
  (hbody:∀ (A:Around) (outer:List Env) (s:Shared) (H:Hp) (vs:List V) (Q:VK) (E:XK),Room CX.q k (A.deeper (envOfC qual scope s.heap.objs.size f cdv))->sp vs H Q E ->
   ∃ t,PSs (N4 CX P w K mg base N qual scope f cdv A outer s H E) body t/\t { nx:=λ_ H'=>Q .non H',rt:=Q } (start N vs) H) :
  FnOk P w K mg base CX (k+1) f (PySem.W.fnOf name qual params body scope dV kV doc pm an cdv ct) ps sp:=by
 refine ⟨len,λA outer s H args us vs Q E hr e0 hb r hsp=>?_⟩;have hl:=len _ _ _ _ hsp;have KX:K.In s.heap:=e0.mod.kin.keeps λb o e=>(e0.bs b o e).1;have lim:s.heap.NoLimit:=e0.mod.nolimit.keeps λb o e=>(e0.bs b o e).1;have hkind:∀ y∈ps.zip us,scope.names.lookup y.1=some .local\/(scope.names.lookup y.1=some .cell/\((cellsFrom (s.heap.objs.size+1) scope.names []).lookup y.1).isSome=true):=λ⟨n,v⟩ hy=>by
  rcases S.par n (DV hy).1 with q | q
  ·exact .inl q
  ·exact .inr ⟨q,PySem.W.cellsFrom_some _ _ _ (.inl q)⟩
 refine codeAny_call_function hr.depth (KX _ _ lk) rfl S.co S.gen rfl (PySem.W.codeRec_of KX hcd) (hb _ _ _ _ ?_);refine Dv S.kind hkind λenv he s1 x=>?_;subst he;refine ⟨lim.keeps x.toInCall.keep,codeAny_func ?_⟩;obtain ⟨t,ht,hq⟩:=hbody A outer s H vs Q E (hr.deeper _) hsp;have I:Inv (N4 CX P w K mg base N qual scope f cdv A outer s H E) [] (start N vs) H s1:=W3 S hr.hd e0 hl r x;refine AB (ht [] s1 (start N vs) H _ I hq) (λfl s' hs=>?_) λe s' hs=>hs;have fin:∀ {σ':St} {H':Hp} {v:V} {u:Value},Inv (N4 CX P w K mg base N qual scope f cdv A outer s H E) [] σ' H' s'->RelV v u->Q v H'->CE outer P w H s Q u s':=
  λ{σ' H' v u} J rv q=>⟨v,H',J.os,J.bare,J.base,J.hok,rv,q⟩
 cases fl with
 | ret u=>
  obtain ⟨v,σ',H',J,rv,q⟩:=hs;exact fin J rv q
 | next=>
  obtain ⟨σ',H',J,q⟩:=hs;exact fin (v:=V.non) (u:=Value.none) J rfl q
 | brk=>
  obtain ⟨_,_,_,q⟩:=hs;exact False.elim q
 | cont=>
  obtain ⟨_,_,_,q⟩:=hs;exact False.elim q
section
variable {X:Cx} {x:Str} {p pos:Pos} {e:Expr} {es:List Expr} {t:TA} {id T:String} {r:List V->Hp->VK->Prop}
def tCB (r:List V->Hp->VK->Prop) (t:TA):TE:=λσ H Q=>t σ H λvs H1=>r vs H1 Q
theorem jp (hc:j7 X (.builtin id) r) (hg:Gl X x) (hm:X.mg x=none) (hv:bootBuiltins x=some (.builtin id)) (ha:PA X (e :: es) t) (hn:x ≠ "__name__":=by decide) (hdb:(x==("__debug__" : Str))=false:=by decide)
  (he:starEach (e :: es) X.env=(false,eval e X.env) :: starEach es X.env:=by rfl) (hpl:(backTo pos (starEach es X.env)).any (·.1)=false:=by rfl):PE X (.Call (.Name x p) (e :: es) [] pos) (tCB r t):=by
 intro pins s σ H Q I h;refine Bi (B3 I hg hm hv ?_ hn hdb);exact CW (thn (ha pos pins s σ H _ I h) λus s1 ⟨vs,H1,I1,r1,q1⟩=>hc pins s1 σ H1 vs us Q I1 r1 q1) he hpl
theorem fm (hc:j7 X (.type T) r) (hg:Gl X x) (hm:X.mg x=none) (hv:bootBuiltins x=some (.type T)) (ha:PA X (e :: es) t) (hn:x ≠ "__name__":=by decide) (hdb:(x==("__debug__" : Str))=false:=by decide)
  (he:starEach (e :: es) X.env=(false,eval e X.env) :: starEach es X.env:=by rfl) (hpl:(backTo pos (starEach es X.env)).any (·.1)=false:=by rfl):PE X (.Call (.Name x p) (e :: es) [] pos) (tCB r t):=by
 intro pins s σ H Q I h;refine Bi (B3 I hg hm hv ?_ hn hdb);exact Bp (thn (ha pos pins s σ H _ I h) λus s1 ⟨vs,H1,I1,r1,q1⟩=>hc pins s1 σ H1 vs us Q I1 r1 q1) he hpl
end
end L2
namespace HT
open PySem PyProof.Rows
section
variable {prog:Program} {w:World} {A:Around} {E:Value->Shared->Prop} {s:Shared}
theorem cat_tup {t b:Addr} {vs ws:List Value} {Q:Value->Shared->Prop} (ht:IsTup s.heap t vs.toArray) (hb:IsTup s.heap b ws.toArray) (hv:vs≠[])
  (h1:ws=[]->Q (.ref t) s) (h2:ws≠[]->Q (.ref s.heap.objs.size) { s with heap:=s.heap.push { cls:=.type "tuple",data:=.seq (vs++ws).toArray } })
  (hsz:vs.length+ws.length<=sizeLine):wpAny (model prog w) A (binaryOp .Add (.ref t) (.ref b)) Q E s:=by
 obtain ⟨⟨cls,dd,data,sl⟩,ho,hc,n,hd⟩:=id ht;obtain ⟨⟨cls2,dd2,data2,sl2⟩,ho2,hc2,n2,hd2⟩:=id hb;simp only at hc hd hc2 hd2;subst hc hd hc2 hd2;have e:vs.toArray++ws.toArray=(vs++ws).toArray:=by simp
 by_cases hw:ws=[]
 ·exact concat_meets ⟨_,ho,rfl⟩ ⟨_,ho2,rfl⟩ DM Ef CL CG (CC _ _)
   (tuple_addW1 t b vs.toArray ws.toArray n n2 dd dd2 sl sl2 (by simpa using hv) (by simp [hw])) ⟨ho,ho2,h1 hw⟩
 ·refine concat_meets ⟨_,ho,rfl⟩ ⟨_,ho2,rfl⟩ DM Ef CL CG (CC _ _)
   (tuple_addW2 t b vs.toArray ws.toArray n n2 dd dd2 sl sl2 (by simpa using hv) (by simpa using hw) (by rw [Al,Al];exact hsz)) ⟨ho,ho2,?_⟩
  rw [e];exact h2 hw
def sIx (n d:Nat):Option Int->Nat
 | none=>d
 | some v=>if v<0 then (v+(n:Int)).toNat else min v.toNat n
theorem sIx_none (n d:Nat):sIx n d none=d:=rfl
theorem sIx_nat (n d k:Nat):sIx n d (some (k:Int))=min k n:=by
 show (if (k:Int)<0 then ((k:Int)+(n:Int)).toNat else min (k:Int).toNat n)=min k n;rw [if_neg (by omega),Bl]
theorem qF (n d:Nat) (hd:d<=n) (o:Option Int):sIx n d o<=n:=by
 cases o with
 | none=>exact hd
 | some v=>
  show (if v<0 then (v+(n:Int)).toNat else min v.toNat n)<=n;by_cases hv:v<0
  ·rw [if_pos hv];omega
  ·rw [if_neg hv];exact Nat.min_le_right _ _
theorem dt (v:Int) (n d:Nat):(if v<0 then max (v+(n:Int)) 0 else min v (n:Int))=((sIx n d (some v):Nat):Int):=by
 show (if v<0 then max (v+(n:Int)) 0 else min v (n:Int))=(((if v<0 then (v+(n:Int)).toNat else min v.toNat n):Nat):Int);by_cases hv:v<0
 ·simp only [if_pos hv];omega
 ·simp only [if_neg hv];omega
theorem cM (lo hi:Option Int) (n:Nat):Builtin.Slice.sliceAdjust lo hi 1 (n:Int)=(((sIx n 0 lo:Nat):Int),((sIx n n hi:Nat):Int)):=by
 have h1:¬ ((1:Int)<0):=by omega
 unfold Builtin.Slice.sliceAdjust;simp only [h1,DN];refine Prod.ext ?_ ?_
 ·cases lo with
  | none=>rfl
  | some v=>exact dt v n 0
 ·cases hi with
  | none=>rfl
  | some v=>exact dt v n n
theorem cL (i j:Nat):Builtin.Slice.slicePlaces (i:Int) (j:Int) 1=j-i:=by
 unfold Builtin.Slice.slicePlaces;have h1:(1:Int) > 0:=by omega
 simp only [h1,if_true,Int.ediv_one];split <;> omega
theorem P4 {v:Value} {o:Option Int} {Q:Option Int->Shared->Prop} (p:IsPart v o) (h:Q o s):wpAny (model prog w) A (Builtin.Slice.slicePartIndex v) Q E s:=by
 cases p with
 | none=>exact slicePart_none h
 | int i t=>exact slicePart_int h
theorem sliceApplied_gen {sl:Addr} {vl vu:Value} {lo hi:Option Int} {n:Nat} {Q:Int×Int×Nat->Shared->Prop} (hs:s.heap.IsSliceOf sl vl vu .none) (pl:IsPart vl lo) (pu:IsPart vu hi)
  (h:Q (((sIx n 0 lo:Nat):Int),1,sIx n n hi-sIx n 0 lo) s):wpAny (model prog w) A (Builtin.Slice.sliceApplied (.ref sl) (pure (n:Int))) Q E s:=by
 obtain ⟨os,hos,hcs,hds⟩:=id hs;unfold Builtin.Slice.sliceApplied Builtin.Slice.sliceFields;refine Ag (Ag (CI hos hds (x:=vl) rfl (Ag (CI hos hds (x:=vu) rfl (Ag (CI hos hds (x:=.none) rfl (Ai ?_)))))));refine Ag (slicePart_none ?_);show wpAny _ _ (if ((1:Int)==0)=true then _ else _) _ _ s;rw [if_neg (by decide)];refine Ag (P4 pl (Ag (P4 pu (Ag (Ai ?_)))));show wpAny _ _ (match Builtin.Slice.sliceAdjust lo hi 1 (n:Int) with | (lo,hi)=>pure (lo,(1:Int),Builtin.Slice.slicePlaces lo hi 1)) _ _ s;rw [cM lo hi n];show wpAny _ _ (pure (((sIx n 0 lo:Nat):Int),(1:Int),Builtin.Slice.slicePlaces ((sIx n 0 lo:Nat):Int) ((sIx n n hi:Nat):Int) 1)) _ _ s;rw [cL];exact Ai h
theorem jZ (xs:Array Value) (i k:Nat):((List.range k).filterMap λ(m:Nat)=>xs[((i:Int)+(m:Int) * 1).toNat]?).toArray=((xs.toList.drop i).take k).toArray:=by
 have e:(λ(m:Nat)=>xs[((i:Int)+(m:Int) * 1).toNat]?)=λm=>xs[i+m]?:=by
  funext m;have:((i:Int)+(m:Int) * 1).toNat=i+m:=by omega
  rw [this]
 rw [e];have:=pick_run xs i k;rw [List.filterMap_map] at this;have e2:((λx=>xs[x]?) ∘ λx=>i+x)=λm=>xs[i+m]?:=rfl;rw [e2] at this;rw [this]
theorem getItem_tuple_cut {t sl:Addr} {items:Array Value} {vl vu:Value} {lo hi:Option Int} {Q:Value->Shared->Prop} (ht:IsTup s.heap t items) (hs:s.heap.IsSliceOf sl vl vu .none) (pl:IsPart vl lo) (pu:IsPart vu hi)
  (hw:¬ (sIx items.size 0 lo=0/\sIx items.size items.size hi=items.size))
  (h:Q (.ref s.heap.objs.size) { s with heap:=s.heap.push { cls:=.type "tuple",data:=.seq ((items.toList.drop (sIx items.size 0 lo)).take (sIx items.size items.size hi-sIx items.size 0 lo)).toArray } })
  (hsz:items.size<=sizeLine):wpAny (model prog w) A (getItem (.ref t) (.ref sl)) Q E s:=by
 have htake:sizeOk (.seq ((items.toList.drop (sIx items.size 0 lo)).take (sIx items.size items.size hi-sIx items.size 0 lo)).toArray):=by
  show ((items.toList.drop (sIx items.size 0 lo)).take (sIx items.size items.size hi-sIx items.size 0 lo)).toArray.size<=sizeLine;rw [Al,Bf,CY,Ax];omega
 have hj:sIx items.size items.size hi<=items.size:=qF _ _ (Ap _) hi;obtain ⟨os,hos,hcs,hds⟩:=id hs;have hTs:s.TypeIs (.ref sl) "slice":=⟨os,hos,hcs⟩;unfold getItem;try with_reducible refine AS ?_
 first | refine Ag (Ai ?_) | skip
 refine Ag (wpAny_sequenceKey ht.typeIs (by decide) ?_);refine Ag (Bo (name:=Str.ofString "__getitem__") ht.typeIs Bu
  (Ba Bu ht.typeIs entry_tuple_getitem ?_ (args_tuple_getitem _ _)))
 show wpAny _ _ (Builtin.Tuple.tupleItemsOf (.ref t) >>= _) _ _ s;refine Ag (DH ht ?_);refine Ag (Co hTs ?_);rw [if_pos (by decide)];refine Ag (sliceApplied_gen hs pl pu ?_);have hno:¬ ((((sIx items.size 0 lo:Nat):Int)==0&&(1:Int)==1&&(sIx items.size items.size hi-sIx items.size 0 lo)==items.size)=true):=by
  intro q;rw [Ao,Ao] at q;have q1:((sIx items.size 0 lo:Nat):Int)=0:=eq_of_beq q.1.1;have q2:sIx items.size items.size hi-sIx items.size 0 lo=items.size:=eq_of_beq q.2;exact hw ⟨by omega,by omega⟩
 show wpAny _ _ (if (((sIx items.size 0 lo:Nat):Int)==0&&(1:Int)==1&&(sIx items.size items.size hi-sIx items.size 0 lo)==items.size)=true then _ else _) _ _ s;rw [if_neg hno,jZ];first
  | exact Ag (m:=Builtin.Tuple.tupleExact _) (AK (Ai ⟨_,rfl,Ai h⟩) htake)
  | exact Ag (m:=Builtin.Tuple.tupleExact _) (AK (Ag (Ai (Ai ⟨_,rfl,Ai h⟩))) htake)
  | exact Ag (Ag (m:=Builtin.Tuple.tupleExact _) (AK (Ai (Ai ⟨_,rfl,Ai h⟩)) htake))
  | exact Ag (Ag (m:=Builtin.Tuple.tupleExact _) (AK (Ai ⟨_,rfl,Ai h⟩) htake))
end
end HT
namespace L2
open PySem PySem.Spec PyProof.Rows
abbrev TO:=St->Hp->(Option Int->Hp->Prop)->Prop
def PO (X:Cx) (e:Option Expr) (t:TO):Prop:=
 ∀ (pins:List (Addr×Obj)) (s:Shared) (σ:St) (H:Hp) (Q:Option Int->Hp->Prop),Inv X pins σ H s->t σ H Q ->
  wpAny (model X.prog X.w) X.A (evalPart e X.env) (λu s'=>∃ o H',Inv X pins σ H' s'/\IsPart u o/\Q o H') X.xe s
def tNoPart:TO:=λ_ H Q=>Q none H
def qP (t:TE):TO:=λσ H Q=>t σ H λx H1=>∃ i,x=.int i/\Q (some i) H1
section
variable {X:Cx} {e:Expr} {te:TE} {lo hi:Option Expr} {tl th:TO} {pos p2:Pos}
theorem lZ:PO X none tNoPart:=by
 intro pins s σ H Q I h;rw [evalPart_none];exact Ai ⟨none,H,I,.none,h⟩
theorem lR (h:PE X e te):PO X (some e) (qP te):=by
 intro pins s σ H Q I hw;rw [evalPart_some];refine thn (h pins s σ H _ I hw) λu s1 ⟨x,H1,I1,r1,q1⟩=>?_;obtain ⟨i,rfl,q⟩:=q1;obtain ⟨t,rfl⟩:=r1;exact ⟨some i,H1,I1,.int i t,q⟩
def SlR (X:Cx) (r:V->Option Int->Option Int->Hp->VK->Prop):Prop:=
 ∀ (pins:List (Addr×Obj)) (s:Shared) (σ:St) (H:Hp) (x:V) (v vl vu:Value) (lo hi:Option Int) (sl:Addr) (Q:VK),Inv X pins σ H s->RelV x v->s.heap.IsSliceOf sl vl vu .none->IsPart vl lo->IsPart vu hi->r x lo hi H Q ->
  ∃ T id,typeLookup (.type T) "__getitem__" = pure (some (.builtin id))/\s.TypeIs v T/\wpAny (model X.prog X.w) X.A (getItem v (.ref sl)) (EP X pins σ Q) X.xe s
def tSl (r:V->Option Int->Option Int->Hp->VK->Prop) (te:TE) (tl th:TO):TE:=λσ H Q=>te σ H λx H1=>tl σ H1 λl H2=>th σ H2 λu H3=>r x l u H3 Q
theorem gO {r:V->Option Int->Option Int->Hp->VK->Prop} (hr:SlR X r) (he:PE X e te) (hl:PO X lo tl) (hu:PO X hi th):PE X (.Subscript e (.Slice lo hi none p2) pos) (tSl r te tl th):=by
 intro pins s σ H Q I h;refine Subscript_ (thn (he pins s σ H _ I h) λv s1 ⟨x,H1,I1,r1,q1⟩=>?_);refine wpAny_Slice (thn (hl pins s1 σ H1 _ I1 q1) λvl s2 ⟨l,H2,I2,pl,q2⟩=>thn (hu pins s2 σ H2 _ I2 q2) λvu s3 ⟨u,H3,I3,pu,q3⟩=>?_);rw [evalPart_none];refine Ai ?_;have I4:Inv X pins σ H3 { s3 with heap:=s3.heap.push { cls:=.type "slice",data:=.fields #[vl,vu,.none] } }:=I3.kept (t':=s3.toks) λb ob q=>Ah _ q;obtain ⟨T,id,hT,ht,hg⟩:=hr pins { s3 with heap:=s3.heap.push { cls:=.type "slice",data:=.fields #[vl,vu,.none] } } σ H3 x v vl vu l u s3.heap.objs.size Q I4 r1 (Heap.IsSliceOf.new ..) pl pu q3;show wpAny (model X.prog X.w) X.A (subscriptTail e (.Slice lo hi none p2) v (.ref s3.heap.objs.size)) (EP X pins σ Q) X.xe { s3 with heap:=s3.heap.push { cls:=.type "slice",data:=.fields #[vl,vu,.none] } };exact tail_any (ops:=[.ref s3.heap.objs.size,v]) ht hT hg (by with_unfolding_all rfl)
def bE (xs:List V) (lo hi:Option Int):List V:=(xs.drop (HT.sIx xs.length 0 lo)).take (HT.sIx xs.length xs.length hi-HT.sIx xs.length 0 lo)
theorem M7 (xs:List V) (lo hi:Option Int):(bE xs lo hi).length<=xs.length:=by
 unfold bE;rw [Bf,CY];omega
def uX (K:PySem.W.Frag):V->Option Int->Option Int->Hp->VK->Prop:=λx lo hi H Q=>∃ a xs,x=.ref a/\SqT K H a xs /\
 ¬ (HT.sIx xs.length 0 lo=0/\HT.sIx xs.length xs.length hi=xs.length)/\∀ p,H p=none->Q (.ref p) (upd H p (.tup (bE xs lo hi)))
theorem qC:SlR X (uX X.K):=by
 intro pins s σ H x v vl vu lo hi sl Q I rx hs pl pu h;obtain ⟨a,xs,rfl,hx,hw,q⟩:=h;cases rx;obtain ⟨its,r,ht,hz⟩:=I.tuple hx;have hlen:its.toArray.size=xs.length:=by rw [Al];exact r.length.symm
 refine ⟨"tuple",_,PyProof.Rows.slot_tuple_getitem.lookup,ht.typeIs,?_⟩;refine HT.getItem_tuple_cut ht hs pl pu (by rw [hlen];exact hw) ?_ (by rw [hlen];exact hz);rw [hlen];refine ⟨.ref s.heap.objs.size,_,I.laid (t':=s.toks) (o:=.tup (bE xs lo hi)) (λb ob q=>Ah _ q) (Ap _) ?_,rfl,q _ (I.hok.fresh (Ap _))⟩;exact ⟨AZ (M7 xs lo hi) hz,_,(r.drop (HT.sIx xs.length 0 lo)).take (HT.sIx xs.length xs.length hi-HT.sIx xs.length 0 lo),TupN.new _ _⟩
def qX (K:PySem.W.Frag):R2:=λx y H Q=>∃ a b xs ys,x=.ref a/\y=.ref b/\SqT K H a xs/\SqT K H b ys/\xs≠[]/\xs.length+ys.length<=sizeLine /\
 (ys=[]->Q (.ref a) H)/\(ys≠[]->∀ p,H p=none->Q (.ref p) (upd H p (.tup (xs++ys))))
theorem Vals.nil_iff {xs:List V} {us:List Value} (r:Vals xs us):us=[]↔xs=[]:=by
 cases r with
 | nil=>simp
 | cons _ _=>simp
theorem lI:OpR X (binaryOp .Add) (qX X.K):=by
 intro pins s σ H x y v u Q I rx ry h;obtain ⟨a,b,xs,ys,rfl,rfl,ha,hb,hx,hz,q1,q2⟩:=h;cases rx;cases ry;obtain ⟨its,r1,p1,_⟩:=I.tuple ha;obtain ⟨its2,r2,p2,_⟩:=I.tuple hb;refine HT.cat_tup p1 p2 (λz=>hx (r1.nil_iff.mp z)) (λz=>⟨.ref a,H,I,rfl,q1 (r2.nil_iff.mp z)⟩) (λz=>?_) (by rw [<- r1.length,<- r2.length];exact hz);refine ⟨.ref s.heap.objs.size,_,I.laid (t':=s.toks) (o:=.tup (xs++ys)) (λb ob q=>Ah _ q) (Ap _) ?_,rfl,q2 (λw=>z (r2.nil_iff.mpr w)) _ (I.hok.fresh (Ap _))⟩;exact ⟨by rw [Av];exact hz,_,r1.append r2,TupN.new _ _⟩
end
def ixN (n:Nat) (i:Int):Option Nat:=if 0<=i then (if i<n then some i.toNat else none) else if -(n:Int)<=i then some (i+n).toNat else none
def atI {α:Type} (xs:List α) (i:Int):Option α:=(ixN xs.length i).bind λj=>xs[j]?
theorem aB {n:Nat} {i:Int} {j:Nat} (h:ixN n i=some j):seqIndex? i n=some j/\j<n/\-(n:Int)<=i/\i<n:=by
 unfold ixN at h;by_cases h0:0<=i
 ·rw [if_pos h0] at h;by_cases h1:i<n
  ·rw [if_pos h1] at h;have e:i.toNat=j:=AG h;exact ⟨by rw [seqIndex_of h0 h1,e],by omega,by omega,h1⟩
  ·rw [if_neg h1] at h;cases h
 ·rw [if_neg h0] at h;by_cases h1:-(n:Int)<=i
  ·rw [if_pos h1] at h;have e:(i+n).toNat=j:=AG h;exact ⟨by rw [seqIndex_neg (by omega) h1,e],by omega,h1,by omega⟩
  ·rw [if_neg h1] at h;cases h
theorem dF {α:Type} {xs:List α} {i:Int} {v:α} (h:atI xs i=some v):∃ j,seqIndex? i xs.length=some j/\xs[j]?=some v/\j<xs.length/\-(xs.length:Int)<=i/\i<xs.length:=by
 unfold atI at h;cases e:ixN xs.length i with
 | none=>rw [e] at h;cases h
 | some j=>
  rw [e] at h;obtain ⟨h1,h2,h3,h4⟩:=aB e;exact ⟨j,h1,h,h2,h3,h4⟩
theorem N6 {α:Type} {xs:List α} {j:Nat} {v:α} (h:xs[j]?=some v):atI xs (j:Int)=some v:=by
 have hj:j<xs.length:=(Au.mp h).1;have e:ixN xs.length (j:Int)=some j:=by
  unfold ixN;rw [if_pos (by omega),if_pos (by omega)];simp
 unfold atI;rw [e];exact h
def X8 (b:Expr):Prop:=∀ o i,subscripted b false o i=operate [o,i] (getItem o i)
def IxR (X:Cx) (r:R2):Prop:=
 ∀ (value slice:Expr) (pins:List (Addr×Obj)) (s:Shared) (σ:St) (H:Hp) (x y:V) (v u:Value) (Q:VK),Inv X pins σ H s->RelV x v->RelV y u->r x y H Q ->
  subscripted slice false v u=operate [v,u] (getItem v u)->wpAny (model X.prog X.w) X.A (subscriptTail value slice v u) (EP X pins σ Q) X.xe s
def MtR (X:Cx) (id:String) (r:V->List V->Hp->VK->Prop):Prop:=
 ∀ (pins:List (Addr×Obj)) (s:Shared) (σ:St) (H:Hp) (x:V) (xs:List V) (v:Value) (us:List Value) (Q:VK),Inv X pins σ H s->RelV x v->Vals xs us->r x xs H Q ->
  wpAny (model X.prog X.w) X.A (call (.builtin id) (v :: us)) (EP X pins σ Q) X.xe s
section
variable {X:Cx} {a b:Expr} {ta tb:TE} {pos:Pos}
theorem mf {r:R2} (hr:IxR X r) (ha:PE X a ta) (hb:PE X b tb) (hs:X8 b):PE X (.Subscript a b pos) (tOp r ta tb):=by
 intro pins s σ H Q I h;exact Subscript_ (pb ha hb I h λv u s2 x y H2 I2 rx ry q=>hr a b pins s2 σ H2 x y v u Q I2 rx ry q (hs _ _))
def tR (K:PySem.W.Frag):R2:=λx y H Q=>∃ p xs i v,x=.ref p/\y=.int i/\SqL K H p xs/\atI xs i=some v/\Q v H
def uI (K:PySem.W.Frag):R2:=λx y H Q=>∃ p xs i v,x=.ref p/\y=.int i/\SqT K H p xs/\atI xs i=some v/\Q v H
theorem lP:IxR X (tR X.K):=by
 intro value slice pins s σ H x y v u Q I rx ry h hs;obtain ⟨p,xs,i,z,rfl,rfl,hq,he,q⟩:=h;cases rx;obtain ⟨t,rfl⟩:=ry;obtain ⟨its,r,pl,hz⟩:=I.list hq;obtain ⟨j,h1,h2,h3,h4,h5⟩:=dF he;obtain ⟨w,ew,rw'⟩:=r.get h2;have hl:=r.length;have hn:=R6;have fin:EP X pins σ Q w s:=⟨z,H,I,rw',q⟩;by_cases h0:0<=i
 ·have hj:i.toNat=j:=by
   rw [seqIndex_of h0 h5] at h1;exact AG h1
  exact item_listR pl.isList h0 (by omega) (by rw [hj];simpa using ew) fin hs
 ·have hj:(i+(its.toArray.size:Int)).toNat=j:=by
   rw [seqIndex_neg (by omega) h4] at h1;rw [Al,<- hl];exact AG h1
  exact subscriptTail_builtinR (x:=w) pl.isList.typeIs slot_list_getitem.lookup
   (wpAny_getItem_list_neg (Q:=λr s'=>r=w/\EP X pins σ Q r s') pl.isList (by omega) (by rw [Al] <;> omega) (by omega) (by rw [hj];simpa using ew) ⟨rfl,fin⟩) hs
theorem iV:IxR X (uI X.K):=by
 intro value slice pins s σ H x y v u Q I rx ry h hs;obtain ⟨p,xs,i,z,rfl,rfl,hq,he,q⟩:=h;cases rx;obtain ⟨t,rfl⟩:=ry;obtain ⟨its,r,pl,hz⟩:=I.tuple hq;obtain ⟨j,h1,h2,h3,h4,h5⟩:=dF he;obtain ⟨w,ew,rw'⟩:=r.get h2;have hl:=r.length;have hn:=R6;have fin:EP X pins σ Q w s:=⟨z,H,I,rw',q⟩;exact subscriptTail_builtinR (x:=w) pl.typeIs slot_tuple_getitem.lookup
  (getItem_tuple (j:=j) (Q:=λr s'=>r=w/\EP X pins σ Q r s') pl (by omega) (by omega) (by rw [Al,<- hl];exact h1) (by simpa using ew) ⟨rfl,fin⟩) hs
theorem cE (its:List Value) (n j:Nat) (u:Value):Obj.mapSeq (·.setIfInBounds j u) { cls:=.type "list",data:=.seq its.toArray n }={ cls:=.type "list",data:=.seq (its.set j u).toArray n }:=by
 simp [Obj.mapSeq]
theorem Inv.lst {pins:List (Addr×Obj)} {σ:St} {H:Hp} {s:Shared} {p:Addr} {xs:List V} (I:Inv X pins σ H s) (h:H p=some (.lst xs)) :
  ∃ (its:List Value) (n:Nat),Vals xs its/\s.heap.get? p=some { cls:=.type "list",data:=.seq its.toArray n }/\xs.length<=sizeLine:=by
 obtain ⟨z,its,n,r,e⟩:=I.hok p _ h;exact ⟨its,n,r,e,z⟩
theorem Inv.lstUpd {pins:List (Addr×Obj)} {σ:St} {H:Hp} {s:Shared} {p:Addr} {xs ys:List V} {its its':List Value} {n n':Nat} {f:Obj->Obj} (I:Inv X pins σ H s) (h:H p=some (.lst xs))
  (ho:s.heap.get? p=some { cls:=.type "list",data:=.seq its.toArray n }) (hf:f { cls:=.type "list",data:=.seq its.toArray n }={ cls:=.type "list",data:=.seq its'.toArray n' }) (r:Vals ys its') (hz:ys.length<=sizeLine) (t:Nat) :
  Inv X pins σ (upd H p (.lst ys)) { s with heap:=s.heap.update p f,toks:=t }:=by
 have e:(s.heap.update p f).get? p=some { cls:=.type "list",data:=.seq its'.toArray n' }:=by
  rw [AY f ho (by rw [hf] <;> rfl),hf]
 refine I.write (x:=p) (e:=p) (by rw [h];trivial) (.inl rfl) (λb u hb q=>(Bq _ _ (Ne.symm hb)).trans q) ⟨_,e⟩ ?_;exact ⟨hz,its',n',r,e⟩
def rSetL:V->V->V->Hp->(Hp->Prop)->Prop:=λo i v H Q=>∃ p xs k j,o=.ref p/\i=.int k/\H p=some (.lst xs)/\ixN xs.length k=some j/\Q (upd H p (.lst (xs.set j v)))
theorem jC:nK X rSetL:=by
 intro pins s σ H o i v ov iv u Q I ro ri rv h;obtain ⟨p,xs,k,j,rfl,rfl,hp,hj,q⟩:=h;cases ro;obtain ⟨t,rfl⟩:=ri;obtain ⟨its,n,r,ho,hz⟩:=I.lst hp;obtain ⟨h1,h2,h3,h4⟩:=aB hj;have hl:=r.length;have hn:=R6;have I':Inv X pins σ (upd H p (.lst (xs.set j v))) { s with heap:=s.heap.update p (Obj.mapSeq (·.setIfInBounds j u)) }:=
  I.lstUpd hp ho (cE its n j u) (r.set rv j) (by rw [List.length_set];exact hz) s.toks
 by_cases h0:0<=k
 ·have hk:k.toNat=j:=by
   rw [seqIndex_of h0 h4] at h1;exact AG h1
  exact PySem.W.ki_setAt ho h0 (by omega) (by rw [Al,<- hl];exact h4) (by rw [hk];exact ⟨_,I',q⟩)
 ·have hk:(k+(its.toArray.size:Int)).toNat=j:=by
   rw [seqIndex_neg (by omega) h3] at h1;rw [Al,<- hl];exact AG h1
  exact PySem.W.ki_setBack ho (by omega) (by rw [Al,<- hl];exact h3) (by omega) (by rw [hk];exact ⟨_,I',q⟩)
theorem X5 (lo hi:Option Int) (n:Nat):(sliceBounds lo hi none n).1=((HT.sIx n 0 lo:Nat):Int)/\(sliceBounds lo hi none n).2.1=((HT.sIx n n hi:Nat):Int)/\(sliceBounds lo hi none n).2.2=1:=by
 refine ⟨?_,?_,rfl⟩
 ·cases lo with
  | none=>simp [sliceBounds,HT.sIx]
  | some i=>
   simp only [sliceBounds,HT.sIx,Option.getD_none,show (1:Int) > 0 by decide,if_true];by_cases h:i<0
   ·simp only [h,if_true] <;> omega
   ·simp only [h,DN] <;> omega
 ·cases hi with
  | none=>simp [sliceBounds,HT.sIx]
  | some i=>
   simp only [sliceBounds,HT.sIx,Option.getD_none,show (1:Int) > 0 by decide,if_true];by_cases h:i<0
   ·simp only [h,if_true] <;> omega
   ·simp only [h,DN] <;> omega
theorem U3 (its:List Value) (lo hi:Option Int):slicePick its.toArray lo hi none=((its.drop (HT.sIx its.length 0 lo)).take (HT.sIx its.length its.length hi-HT.sIx its.length 0 lo)).toArray:=by
 obtain ⟨h1,h2,h3⟩:=X5 lo hi its.toArray.size;unfold slicePick;rw [h1,h2,h3];simp only [sliceRange_one,pick_run,Al] <;> rfl
def uF (K:PySem.W.Frag):V->Option Int->Option Int->Hp->VK->Prop:=λx lo hi H Q=>∃ a xs,x=.ref a/\SqL K H a xs/\∀ p,H p=none->Q (.ref p) (upd H p (.lst (bE xs lo hi)))
theorem kn:SlR X (uF X.K):=by
 intro pins s σ H x v vl vu lo hi sl Q I rx hs pl pu h;obtain ⟨a,xs,rfl,hx,q⟩:=h;cases rx;obtain ⟨its,r,ht,hz⟩:=I.list hx;have hlen:=r.length;refine ⟨"list",_,slot_list_getitem.lookup,ht.isList.typeIs,?_⟩;refine wpAny_getItem_list_slice ht.isList hs pl pu .none (by simp) ?_ (by rw [Al] <;> omega);rw [U3,<- hlen];refine ⟨.ref s.heap.objs.size,_,I.laid (t':=s.toks) (o:=.lst (bE xs lo hi)) (λb ob q=>Ah _ q) (Ap _) ?_,rfl,q _ (I.hok.fresh (Ap _))⟩;exact ⟨AZ (M7 xs lo hi) hz,_,0,(r.drop (HT.sIx xs.length 0 lo)).take (HT.sIx xs.length xs.length hi-HT.sIx xs.length 0 lo),An _ rfl⟩
theorem aT:j7 X (.builtin "len") (λxs H Q=>∃ p ys,xs=[.ref p]/\(SqL X.K H p ys\/SqT X.K H p ys)/\Q (.int ys.length) H):=by
 intro pins s σ H xs us Q I r h;obtain ⟨p,ys,rfl,hq,q⟩:=h;obtain ⟨u,rfl,rx⟩:=M3 r;cases rx;have hn:=R6;rcases hq with hq | hq
 ·obtain ⟨its,r',pl,hz⟩:=I.list hq;have hlen:=r'.length;exact Calls.call_len_list pl.isList (by simp only [Al] <;> omega) ⟨.int ys.length,H,I.tok _,⟨s.toks+1,by rw [Al,hlen]⟩,q⟩
 ·obtain ⟨its,r',pl,hz⟩:=I.tuple hq;have hlen:=r'.length;exact len_tuple pl (by simp only [Al] <;> omega) ⟨.int ys.length,H,I.tok _,⟨s.toks+1,by rw [Al,hlen]⟩,q⟩
theorem aF:j7 X (.builtin "len") (λxs H Q=>∃ z,xs=[.str z]/\z.length<=sizeLine/\Q (.int z.length) H):=by
 intro pins s σ H xs us Q I r h;obtain ⟨z,rfl,hz,q⟩:=h;obtain ⟨u,rfl,t,rfl⟩:=M3 r;have hn:=R6;exact len_str (by omega) ⟨.int z.length,H,I.tok _,⟨_,rfl⟩,q⟩
theorem J2:j7 X (.type "list") (λxs H Q=>∃ p ys,xs=[.ref p]/\(SqL X.K H p ys\/SqT X.K H p ys)/\∀ l,H l=none->Q (.ref l) (upd H l (.lst ys))):=by
 intro pins s σ H xs us Q I r h;obtain ⟨p,ys,rfl,hq,q⟩:=h;obtain ⟨u,rfl,rx⟩:=M3 r;cases rx;have fin:∀ (its:List Value),Vals ys its->ys.length<=sizeLine->∀ (h':Heap) (c':Nat),(∀ b o',s.heap.get? b=some o'->h'.get? b=some o') ->
   h'.get? s.heap.objs.size=some { cls:=.type "list",dict:=none,data:=.seq its.toArray c',slots:=#[] }->EP X pins σ Q (.ref s.heap.objs.size) { s with heap:=h' }:=λits r' hz h' c' kp e=>
  ⟨.ref s.heap.objs.size,_,I.laid (t':=s.toks) kp (Ap _) (show ObjOk X.prog X.w _ h' _ (.lst ys) from ⟨hz,its,c',r',e⟩),rfl,q _ (I.hok.fresh (Ap _))⟩
 rcases hq with hq | hq
 ·obtain ⟨its,r',pl,hz⟩:=I.list hq;have hlen:=r'.length;obtain ⟨o,ho,hc,n,hd⟩:=pl.isList;exact call_list_seq p (.inl rfl) ho hc hd (λh' c' kp e=>fin its r' hz h' c' kp e) (by simp only [Al] <;> omega)
 ·obtain ⟨its,r',pl,hz⟩:=I.tuple hq;have hlen:=r'.length;obtain ⟨o,ho,hc,n,hd⟩:=pl;exact call_list_seq p (.inr rfl) ho hc hd (λh' c' kp e=>fin its r' hz h' c' kp e) (by simp only [Al] <;> omega)
theorem C7:j7 X (.type "tuple") (λxs H Q=>∃ p ys,xs=[.ref p]/\((SqL X.K H p ys/\∀ l,H l=none->Q (.ref l) (upd H l (.tup ys)))\/(SqT X.K H p ys/\Q (.ref p) H))):=by
 intro pins s σ H xs us Q I r h;obtain ⟨p,ys,rfl,h⟩:=h;obtain ⟨u,rfl,rx⟩:=M3 r;cases rx;rcases h with ⟨hq,q⟩ | ⟨hq,q⟩
 ·obtain ⟨its,r',pl,hz⟩:=I.list hq;have hlen:=r'.length;refine call_tuple_list pl.isList (λh' kp=>?_) (by simp only [Al] <;> omega);have I1:Inv X pins σ H { s with heap:=h' }:=I.kept (t':=s.toks) kp;have I2:Inv X pins σ (upd H h'.objs.size (.tup ys)) { s with heap:=h'.push { cls:=.type "tuple",data:=.seq its.toArray } }:=
   I1.laid (t':=s.toks) (λb o e=>Ah _ e) (Ap _) (show ObjOk X.prog X.w _ _ _ (.tup ys) from ⟨hz,its,r',TupN.new _ _⟩)
  exact ⟨.ref h'.objs.size,_,I2,rfl,q _ (I1.hok.fresh (Ap _))⟩
 ·obtain ⟨its,r',pl,hz⟩:=I.tuple hq;exact call_tuple_same pl ⟨.ref p,H,I,rfl,q⟩
def tyV (K:PySem.W.Frag) (T:String) (x:V) (H:Hp):Prop:=match x with
 | .str _=>T = "str"
 | .int _=>T = "int"
 | .ref p=>(T = "list"/\∃ xs,SqL K H p xs)\/(T = "tuple"/\∃ o,K.lookup p=some o/\o.cls=.type "tuple"/\o.dict=none) \/
   (T = "dict"/\((∃ kvs,H p=some (.dK kvs))\/∃ kvs,H p=some (.dT kvs)))\/(T = "set"/\∃ S n,H p=some (.set S n))\/(T = "tuple"/\∃ xs,Rd H p (.tup xs))
 | _=>False
theorem bo {pins:List (Addr×Obj)} {σ:St} {H:Hp} {s:Shared} {T:String} {x:V} {v:Value} (I:Inv X pins σ H s) (r:RelV x v) (ty:tyV X.K T x H) :
  s.TypeIs v T/\∀ a,v=.ref a->∃ ob,s.heap.get? a=some ob/\ob.dict=none:=by
 cases x with
 | str z=>
  obtain ⟨t,rfl⟩:=r;cases (show T = "str" from ty);exact ⟨typeIs_str s z t,λ_ e=>nomatch e⟩
 | int i=>
  obtain ⟨t,rfl⟩:=r;cases (show T = "int" from ty);exact ⟨CZ s i t,λ_ e=>nomatch e⟩
 | ref p=>
  cases r;rcases ty with ⟨rfl,xs,hq⟩ | ⟨rfl,o,hk,hc,hd⟩ | ⟨rfl,hk⟩ | ⟨rfl,S,n,hk⟩ | ⟨rfl,xs,hk⟩
  ·obtain ⟨its,_,pl,_⟩:=I.list hq;refine ⟨pl.isList.typeIs,λa e=>?_⟩;cases e;obtain ⟨o,n,e,c,hd,_⟩:=pl;exact ⟨o,e,hd⟩
  ·refine ⟨⟨o,I.kIn p o hk,hc⟩,λa e=>?_⟩;cases e;exact ⟨o,I.kIn _ o hk,hd⟩
  ·have z:∃ o,s.heap.get? p=some o/\o.ExactDict:=by
    rcases hk with ⟨kvs,hk⟩ | ⟨kvs,hk⟩
    ·obtain ⟨_,_,_,_,o,_,_,e,ex,_⟩:=I.hok p _ hk;exact ⟨o,e,ex⟩
    ·obtain ⟨_,_,_,_,o,_,_,e,ex,_⟩:=I.hok p _ hk;exact ⟨o,e,ex⟩
   obtain ⟨o,e,ex⟩:=z;refine ⟨⟨o,e,ex.1⟩,λa e2=>?_⟩;cases e2;exact ⟨o,e,ex.2.1⟩
  ·obtain ⟨o,_,_,_,e,ex,_⟩:=I.hok p _ hk;refine ⟨⟨o,e,ex.1⟩,λa e2=>?_⟩;cases e2;exact ⟨o,e,ex.2.1⟩
  ·obtain ⟨_,its,_,o,e,c,n,_,hd⟩:=(show ObjOk X.prog X.w H s.heap p (.tup xs) from hk.ok I.hok);exact ⟨⟨o,e,c⟩,λa e2=>by cases e2;exact ⟨o,e,hd⟩⟩
 | _=>exact False.elim ty
def tBM (K:PySem.W.Frag) (T:String) (r:V->List V->Hp->VK->Prop) (to:TE) (t:TA):TE:=λσ H Q=>to σ H λx H1=>tyV K T x H1/\t σ H1 λxs H2=>r x xs H2 Q
variable {o e:Expr} {es:List Expr} {to:TE} {t:TA} {name:Str} {apos cpos:Pos} {T id:String} {r:V->List V->Hp->VK->Prop}
theorem md (pa:PlainAttrs T) (slot:Slot T name id) (hty:typeOf (.builtin id)=pure (.type "method_descriptor")) (hm:MtR X id r) (ho:PE X o to) (ha:PA X (e :: es) t)
  (hbase:attributeBase o name X.env (eval o X.env)=eval o X.env:=by rfl)
  (hfew:((backTo cpos (starEach (e :: es) X.env)).all (λx=>!x.1)&&(backToKw cpos (keywordEach [] X.env)).all (λx=>x.1.isSome)
   && decide ((e :: es).length+([]:List Keyword).length+(if ([]:List Keyword).isEmpty then 0 else 1)<30))=true:=by rfl)
  (hline:(apos.endLine==cpos.line)=true:=by rfl) (hs:starEach (e :: es) X.env=(false,eval e X.env) :: starEach es X.env:=by rfl) (hplain:(backTo cpos (starEach es X.env)).any (·.1)=false:=by rfl) :
  PE X (.Call (.Attribute o name apos) (e :: es) [] cpos) (tBM X.K T r to t):=by
 intro pins s σ H Q I h;refine wpAny_Call_method_late hbase hfew hline rfl (thn (ho pins s σ H _ I h) λv s1 ⟨x,H1,I1,r1,ty,q1⟩=>?_);obtain ⟨h1,h2⟩:=bo I1 r1 ty;refine ⟨T,id,pa,slot,hty,h1,h2,?_⟩;have hA:=ha cpos pins s1 σ H1 _ I1 q1;rw [hs] at hA ⊢;refine CM (by show (false||(backTo cpos (starEach es X.env)).any (·.1))=false;rw [hplain] <;> rfl) (De ?_);exact thn hA λus s2 ⟨vs,H2,I2,r2,q2⟩=>hm pins s2 σ H2 x vs v us Q I2 r1 r2 q2
end
def MtM (X:Cx) (id:String) (r:V->List V->Hp->VK->Prop):Prop:=
 ∀ (pins:List (Addr×Obj)) (s:Shared) (σ:St) (H:Hp) (x:V) (xs:List V) (v:Value) (us:List Value) (Q:VK),Inv X pins σ H s->RelV x v->Vals xs us->r x xs H Q ->
  wpAny (model X.prog X.w) X.A (call (.builtin id) (v :: us)) (EP X pins σ Q) X.xe s
theorem Vals.one:∀ {x:V} {us:List Value},Vals [x] us->∃ u,us=[u]/\RelV x u
 | _,_,.cons r .nil=>⟨_,rfl,r⟩
theorem Vals.eraseIdx:∀ {xs:List V} {us:List Value} (i:Nat),Vals xs us->Vals (xs.eraseIdx i) (us.eraseIdx i)
 | _,_,_,.nil=>.nil
 | _,_,0,.cons _ t=>t
 | _,_,i+1,.cons r t=>.cons r (Vals.eraseIdx i t)
theorem Vals.rep {xs:List V} {us:List Value} (h:Vals xs us):∀ k:Nat,Vals (List.replicate k xs).flatten (List.replicate k us).flatten
 | 0=>.nil
 | k+1=>by
  rw [Bt,Bt,Br,Br];exact Vals.append h (Vals.rep h k)
theorem V2 {α:Type}:∀ (l:List α) (i:Nat),(l.eraseIdx i).length<=l.length
 | [],_=>Ap _
 | _ :: _,0=>Bm _
 | _ :: r,i+1=>Nat.succ_le_succ (V2 r i)
theorem L0 (its:List Value):∀ (k:Nat) (acc:List Value),
  List.foldl (λx1 x2=>x1++x2) acc.toArray (List.replicate k its.toArray)=(acc++(List.replicate k its).flatten).toArray
 | 0,acc=>by simp
 | k+1,acc=>by
  have e:acc.toArray++its.toArray=(acc++its).toArray:=by simp
  have e2:(acc++its)++(List.replicate k its).flatten=acc++(List.replicate (k+1) its).flatten:=by
   rw [Bt,Br,BN]
  rw [<- e2,<- L0 its k (acc++its),<- e,Bt,List.foldl_cons]
section
variable {X:Cx} {pins:List (Addr×Obj)} {σ:St} {H:Hp} {s:Shared} {l b:Addr} {xs ys zs:List V}
theorem Inv.lset {its its':List Value} {n:Nat} {f:Array Value->Array Value} {t':Nat} (I:Inv X pins σ H s) (hH:H l=some (.lst xs))
  (e:s.heap.get? l=some { cls:=.type "list",data:=.seq its.toArray n }) (hf:f its.toArray=its'.toArray) (hv:Vals ys its') (hz:ys.length<=sizeLine) :
  Inv X pins σ (upd H l (.lst ys)) { s with heap:=s.heap.update l (Obj.mapSeq f),toks:=t' }:=by
 have q:=PySem.IsL.update e f;rw [hf] at q;refine I.write (x:=l) (e:=l) (by rw [hH];exact trivial) (.inl rfl) (λb' u hb hu=>(Bq s.heap (Obj.mapSeq f) (Ne.symm hb)).trans hu) ⟨_,q⟩ ?_;exact ⟨hz,its',_,hv,q⟩
theorem Inv.lnew {its:List Value} {t':Nat} (I:Inv X pins σ H s) (hv:Vals ys its) (hz:ys.length<=sizeLine) :
  Inv X pins σ (upd H s.heap.objs.size (.lst ys)) { s with heap:=s.heap.push { cls:=.type "list",data:=.seq its.toArray },toks:=t' }:=
 I.laid (λ_ _ q=>Ah _ q) (Ap _) ⟨hz,its,0,hv,An _ rfl⟩
theorem Inv.fresh (I:Inv X pins σ H s):H s.heap.objs.size=none:=I.hok.fresh (Ap _)
theorem Inv.lstM (I:Inv X pins σ H s) (hH:H l=some (.lst xs)):xs.length<=sizeLine/\∃ (its:List Value) (n:Nat),Vals xs its/\xs.length=its.length/\s.heap.get? l=some { cls:=.type "list",data:=.seq its.toArray n }:=by
 obtain ⟨z,its,n,r,e⟩:=I.hok l _ hH;exact ⟨z,its,n,r,r.length,e⟩
theorem bZ {n:Nat} (h:n<=sizeLine):Builtin.List.listTooLong n=false:=by
 unfold Builtin.List.listTooLong;exact AV (by omega)
end
section
variable {X:Cx}
def rAppend:V->List V->Hp->VK->Prop:=λx vs H Q=>∃ l xs y,x=.ref l/\vs=[y]/\H l=some (.lst xs)/\xs.length<sizeLine/\Q .non (upd H l (.lst (xs++[y])))
theorem y0:MtM X "list.append" rAppend:=by
 intro pins s σ H x vs v us Q I rx rv h;obtain ⟨l,xs,y,rfl,rfl,hH,hz,q⟩:=h;cases rx;obtain ⟨u,rfl,ru⟩:=rv.one;obtain ⟨z,its,n,r,hl,e⟩:=I.lstM hH;refine Ca F.slot_list_append ⟨_,e,rfl⟩ F.entry_list_append (F.args_list_append_2 _ _) (PySem.list_append l its.toArray n u (by rw [Al];omega)) ⟨e,?_⟩;refine ⟨.non,_,I.lset (its':=its++[u]) hH e (by simp) (r.append (.cons ru .nil)) ?_,rfl,q⟩;rw [Av,List.length_singleton];omega
def rPopAt:V->List V->Hp->VK->Prop:=λx vs H Q=>∃ l xs i k y,x=.ref l/\vs=[.int i]/\H l=some (.lst xs)/\-(2 ^ 63)<=i/\i<2 ^ 63/\seqIndex? i xs.length=some k/\xs[k]?=some y/\Q y (upd H l (.lst (xs.eraseIdx k)))
theorem gV:MtM X "list.pop" rPopAt:=by
 intro pins s σ H x vs v us Q I rx rv h;obtain ⟨l,xs,i,k,y,rfl,rfl,hH,h1,h2,hk,hy,q⟩:=h;cases rx;obtain ⟨u,rfl,ru⟩:=rv.one;obtain ⟨t,rfl⟩:=ru;obtain ⟨z,its,n,r,hl,e⟩:=I.lstM hH;obtain ⟨w,hw,rw'⟩:=r.get hy;refine Ca F.slot_list_pop ⟨_,e,rfl⟩ F.entry_list_pop (F.args_list_pop_2 _ _)
  (MeetsSeq.list_pop_at l its.toArray n i t k w (fitsIndex_both h1 h2) (by rw [Al,<- hl];exact hk) (by rw [<- Bn];exact hw) (by rw [Al];omega)) ⟨e,?_⟩
 refine ⟨y,_,I.lset (its':=its.eraseIdx k) hH e ?_ (r.eraseIdx k) ?_,rw',q⟩
 ·show its.toArray.eraseIdxIfInBounds k=(its.eraseIdx k).toArray;rw [List.eraseIdxIfInBounds_toArray]
 ·have:=V2 xs k;omega
def rCat:R2:=λx y H Q=>∃ l b xs zs,x=.ref l/\y=.ref b/\H l=some (.lst xs)/\H b=some (.lst zs)/\xs.length+zs.length<=sizeLine/\∀ p,H p=none->Q (.ref p) (upd H p (.lst (xs++zs)))
theorem oe:OpR X (binaryOp .Add) rCat:=by
 intro pins s σ H x y v u Q I rx ry h;obtain ⟨l,b,xs,zs,rfl,rfl,hH,hB,hz,q⟩:=h;cases rx;cases ry;obtain ⟨z,its,n,r,hl,e⟩:=I.lstM hH;obtain ⟨z2,its2,n2,r2,hl2,e2⟩:=I.lstM hB;refine PySem.P.add_list e e2 ?_ (by rw [Al,Al];omega);have ea:its.toArray++its2.toArray=(its++its2).toArray:=by simp
 rw [ea];exact ⟨.ref _,_,I.lnew (t':=s.toks) (r.append r2) (by rw [Av];omega),rfl,q _ I.fresh⟩
def rRep:R2:=λx y H Q=>∃ l k xs,x=.ref l/\y=.int k/\H l=some (.lst xs)/\-(2 ^ 63)<=k/\k<2 ^ 63/\xs.length * k.toNat<=sizeLine /\
 ∀ p,H p=none->Q (.ref p) (upd H p (.lst (List.replicate k.toNat xs).flatten))
theorem dC {α:Type} (xs:List α) (k:Nat):(List.replicate k xs).flatten.length=k * xs.length:=by
 induction k with
 | zero=>simp
 | succ k ih=>rw [Bt,Br,Av,ih,Nat.succ_mul,Nat.add_comm]
theorem nc:OpR X (binaryOp .Mult) rRep:=by
 intro pins s σ H x y v u Q I rx ry h;obtain ⟨l,k,xs,rfl,rfl,hH,h1,h2,hz,q⟩:=h;cases rx;obtain ⟨t,rfl⟩:=ry;obtain ⟨z,its,n,r,hl,e⟩:=I.lstM hH;have hlen:its.toArray.size * k.toNat<=sizeLine:=by rw [Al,<- hl];exact hz
 have hcap:¬ its.toArray.size * k.toNat > (2 ^ 63-1) / 8:=by
  have:(sizeLine:Nat)<=(2 ^ 63-1) / 8:=by decide
  omega
 have hfit:¬ (!Builtin.List.listFitsIndex k)=true:=by
  rw [fitsIndex_both h1 h2];exact At
 have hlong:¬ Builtin.List.listTooLong (its.toArray.size * k.toNat)=true:=by
  rw [bZ hlen];exact At
 have hnew:List.foldl (λx1 x2=>x1++x2) #[] (List.replicate (if its.toArray.isEmpty=true then 0 else k.toNat) its.toArray)=(List.replicate k.toNat its).flatten.toArray:=by
  have f0:∀ m:Nat,List.foldl (λx1 x2=>x1++x2) #[] (List.replicate m its.toArray)=(List.replicate m its).flatten.toArray:=λm=>by
   have:=L0 its m [];rw [Di] at this;exact this
  rw [f0];cases its with
  | nil=>simp
  | cons a r'=>rw [if_neg (by simp)]
 refine Cu (T:="list") (U:="int") (by decide) ⟨_,e,rfl⟩ (λs'=>CZ s' k t) noFill_list_mul F.fills_int_mul F.slot_int_rmul repeat_list F.slot_int_index.lookup
  (Ca F.slot_int_rmul (CZ s k t) F.entry_int_rmul (F.args_int_rmul_2 _ _) (int___rmul___int_list k t l its.toArray n)
   ⟨e,rfl,⟨_,e,rfl⟩,Ca F.slot_list_mul ⟨_,e,rfl⟩ F.entry_list_mul (F.args_list_mul_2 _ _) (AutoListH.list___mul___list_int_3 l its.toArray n k t hfit hcap hlong) ⟨e,?_⟩⟩)
 rw [hnew];exact ⟨.ref _,_,I.lnew (t':=s.toks) (r.rep k.toNat) (by rw [dC,Nat.mul_comm];exact hz),rfl,q _ I.fresh⟩
end
section
variable {κ:Type} [DecidableEq κ]
def N0 (kvs:List (κ×V)) (k:κ):Option V:=(kvs.find? λkv=>decide (kv.1=k)).map (·.2)
def y4 (kvs:List (κ×V)) (k:κ) (v:V):List (κ×V):=
 if (kvs.any λkv=>decide (kv.1=k))=true then kvs.map (λkv=>if kv.1=k then (kv.1,v) else kv) else kvs++[(k,v)]
theorem G0 {p:κ×V} {r:List (κ×V)} {k:κ} (e:p.1=k):N0 (p :: r) k=some p.2:=by simp [N0,BK,e]
theorem E1 {p:κ×V} {r:List (κ×V)} {k:κ} (e:¬ p.1=k):N0 (p :: r) k=N0 r k:=by simp [N0,BK,e]
theorem bW (k:κ):∀ kvs:List (κ×V),(kvs.any λkv=>decide (kv.1=k))=(N0 kvs k).isSome
 | []=>rfl
 | p :: r=>by
  rw [Dc];by_cases e:p.1=k
  ·simp only [G0 e,By e,Bool.true_or,Option.isSome_some]
  ·rw [E1 e,AV e,Bool.false_or];exact bW k r
theorem M6 (kvs:List (κ×V)) (k:κ) (v:V):(y4 kvs k v).length<=kvs.length+1:=by
 unfold y4;split
 ·rw [Aj];omega
 ·rw [Av,BE,List.length_nil];omega
theorem RelO.isSome_eq {o:Option V} {u:Option Value} (r:RelO o u):o.isSome=u.isSome:=by
 cases o with
 | none=>cases u with
  | none=>rfl
  | some _=>exact (show False from r).elim
 | some _=>cases u with
  | none=>exact (show False from r).elim
  | some _=>rfl
theorem KV.val {kvs:List (κ×V)} {vs:List (κ×Value)} (r:KV kvs vs) (k:κ):RelO (N0 kvs k) (valueAt vs k):=by
 unfold KV at r;induction r with
 | nil=>exact True.intro
 | @cons p q ps qs h t ih=>
  obtain ⟨h1,h2⟩:=h;by_cases e:p.1=k
  ·have e':q.1=k:=h1.symm.trans e;have b:valueAt (q :: qs) k=some q.2:=by simp [valueAt,BK,e']
   rw [G0 e,b];exact h2
  ·have e':¬ q.1=k:=λz=>e (h1.trans z);have b:valueAt (q :: qs) k=valueAt qs k:=by simp [valueAt,BK,e']
   rw [E1 e,b];exact ih
theorem KV.any {kvs:List (κ×V)} {vs:List (κ×Value)} (r:KV kvs vs) (k:κ):(kvs.any λkv=>decide (kv.1=k))=vs.any λkv=>decide (kv.1=k):=by
 unfold KV at r;induction r with
 | nil=>rfl
 | cons h t ih=>rw [Dc,Dc,ih,h.1]
theorem KV.repl {kvs:List (κ×V)} {vs:List (κ×Value)} (r:KV kvs vs) (k:κ) {y:V} {u:Value} (ry:RelV y u) :
  KV (kvs.map λkv=>if kv.1=k then (kv.1,y) else kv) (vs.map λkv=>if kv.1=k then (kv.1,u) else kv):=by
 unfold KV at r ⊢;induction r with
 | nil=>exact .nil
 | @cons p q ps qs h t ih=>
  rw [AQ,AQ];refine .cons ?_ ih;obtain ⟨h1,h2⟩:=h;by_cases e:p.1=k
  ·rw [if_pos e,if_pos (h1.symm.trans e)];exact ⟨h1,ry⟩
  ·rw [if_neg e,if_neg (λz=>e (h1.trans z))];exact ⟨h1,h2⟩
theorem KV.put {kvs:List (κ×V)} {vs:List (κ×Value)} (r:KV kvs vs) (k:κ) {y:V} {u:Value} (ry:RelV y u):KV (y4 kvs k y) (stored vs k u):=by
 unfold y4 stored;rw [r.any k];by_cases e:(vs.any λkv=>decide (kv.1=k))=true
 ·rw [if_pos e,if_pos e];exact r.repl k ry
 ·rw [if_neg e,if_neg e];exact Paired.snoc r ⟨rfl,ry⟩
theorem KV.length {kvs:List (κ×V)} {vs:List (κ×Value)} (r:KV kvs vs):kvs.length=vs.length:=Paired.length r
end
theorem gF {P:Program} {w:World} {k:Key} {u:Value} (r:RelV (kV k) u):(j0 P w).is k u=true:=by
 cases k with
 | inl i=>obtain ⟨t,e⟩:=(show ∃ t,u=Value.int i t from r);subst e;exact bf P w i t
 | inr x=>obtain ⟨t,e⟩:=(show ∃ t,u=Value.str x t from r);subst e;exact bX P w x t
theorem V5 {P:Program} {w:World}:∀ {ks:List Key} {us:List Value},Vals (ks.map kV) us->ItemsAre (j0 P w) ks us
 | [],_,r=>by rw [List.map_nil] at r;cases r;exact .nil
 | k :: ks,_,r=>by
  rw [AQ] at r;cases r with
  | cons h t=>exact .cons (gF h) (V5 t)
abbrev KT (H:Hp):List (List Key×V)->List (List Key×Addr×Value)->Prop:=Paired λp q=>p.1=q.1/\H q.2.1=some (.tup (p.1.map kV))/\RelV p.2 q.2.2
theorem KT.val {H:Hp} {kvs:List (List Key×V)} {xs:List (List Key×Addr×Value)} (r:KT H kvs xs) (k:List Key):RelO (N0 kvs k) ((atKey xs k).map (·.2)):=by
 induction r with
 | nil=>exact True.intro
 | @cons p q ps qs h t ih=>
  obtain ⟨h1,_,h2⟩:=h;by_cases e:p.1=k
  ·have e':q.1=k:=h1.symm.trans e;have b:atKey (q :: qs) k=some q.2:=by simp [atKey,BK,e']
   rw [G0 e,b];exact h2
  ·have e':¬ q.1=k:=λz=>e (h1.trans z);have b:atKey (q :: qs) k=atKey qs k:=by simp [atKey,BK,e']
   rw [E1 e,b];exact ih
theorem KT.repl {H:Hp} {kvs:List (List Key×V)} {xs:List (List Key×Addr×Value)} (r:KT H kvs xs) (k:List Key) {y:V} {u:Value} (ry:RelV y u) :
  KT H (kvs.map λkv=>if kv.1=k then (kv.1,y) else kv) (xs.map (putAt k u)):=by
 induction r with
 | nil=>exact .nil
 | @cons p q ps qs h t ih=>
  rw [AQ,AQ];refine .cons ?_ ih;obtain ⟨h1,h2,h3⟩:=h;unfold putAt;by_cases e:p.1=k
  ·rw [if_pos e,if_pos (h1.symm.trans e)];exact ⟨h1,h2,ry⟩
  ·rw [if_neg e,if_neg (λz=>e (h1.trans z))];exact ⟨h1,h2,h3⟩
theorem KT.put {H:Hp} {kvs:List (List Key×V)} {xs:List (List Key×Addr×Value)} (r:KT H kvs xs) (k:List Key) {b:Addr} {y:V} {u:Value} (hb:H b=some (.tup (k.map kV))) (ry:RelV y u) :
  KT H (y4 kvs k y) (storedH xs k b u):=by
 have e:(kvs.any λkv=>decide (kv.1=k))=(atKey xs k).isSome:=by
  rw [bW,(r.val k).isSome_eq,Option.isSome_map]
 unfold y4 storedH;rw [e];by_cases q:(atKey xs k).isSome=true
 ·rw [if_pos q,if_pos q];exact r.repl k ry
 ·rw [if_neg q,if_neg q];exact Paired.snoc r ⟨rfl,hb,ry⟩
theorem KT.keeps {H H':Hp} {kvs:List (List Key×V)} {xs:List (List Key×Addr×Value)} (r:KT H kvs xs) (ht:∀ b ys,H b=some (.tup ys)->H' b=some (.tup ys)):KT H' kvs xs:=
 Paired.mapP r λ_ _ z=>⟨z.1,ht _ _ z.2.1,z.2.2⟩
section
variable {P:Program} {w:World} {H:Hp} {h:Heap} {a:Addr}
theorem mj {u:HO} (ok:HOk P w H h) (e:Rd H a u):ObjOk P w H h a u:=e.ok ok
theorem dW {kvs:List (Key×V)} (ok:HOk P w H h) (e:Rd H a (.dK kvs)):kvs.length<=sizeLine/\(a==sysModules)=false/\∃ vs,KV kvs vs/\h.DictOf (j0 P w) a vs:=
 show ObjOk P w H h a (.dK kvs) from mj ok e
theorem sC {kvs:List (Key×V)} (ok:HOk P w H h) (e:H a=some (.dK kvs)):kvs.length<=sizeLine/\(a==sysModules)=false/\∃ vs,KV kvs vs/\h.DictOf (j0 P w) a vs:=dW ok (.inl e)
theorem cX {ks:List Key} (ok:HOk P w H h) (e:H a=some (.tup (ks.map kV))):(tupleKind (j0 P w)).is h ks a:=by
 obtain ⟨_,its,r,o,h1,h2,n,h3⟩:=(show ObjOk P w H h a (.tup (ks.map kV)) from ok a _ e);exact ⟨o,its.toArray,n,h1,h2,h3.1,by simpa using V5 r⟩
theorem gD {kvs:List (List Key×V)} (ok:HOk P w H h) (e:Rd H a (.dT kvs)):kvs.length<=sizeLine/\(a==sysModules)=false /\
  ∃ xs,KT H kvs xs/\h.DictOfH (tupleKind (j0 P w)) a xs:=by
 obtain ⟨z,y,xs,r,o,es,ep,h1,h2,h3,h4,h5⟩:=(show ObjOk P w H h a (.dT kvs) from mj ok e);refine ⟨z,y,xs,r,o,es,ep,h1,h2,h3,h4,λx hx=>?_,h5⟩;have all:∀ {l:List (List Key×V)} {m:List (List Key×Addr×Value)},KT H l m->∀ x∈m,(tupleKind (j0 P w)).is h x.1 x.2.1:=by
  intro l m q;induction q with
  | nil=>intro x hx;exact nomatch hx
  | @cons p q ps qs hq t ih=>
   intro x hx;rcases AA.mp hx with e | hx
   ·subst e;exact cX ok (by rw [<- hq.1];exact hq.2.1)
   ·exact ih x hx
 exact all r x hx
theorem rH {kvs:List (List Key×V)} (ok:HOk P w H h) (e:H a=some (.dT kvs)):kvs.length<=sizeLine/\(a==sysModules)=false /\
  ∃ xs,KT H kvs xs/\h.DictOfH (tupleKind (j0 P w)) a xs:=gD ok (.inl e)
end
def DGet (H:Hp) (a:Addr) (y:V) (r:Option V):Prop:=
 (∃ kvs k,Rd H a (.dK kvs)/\y=kV k/\r=N0 kvs k)\/∃ kvs k b,Rd H a (.dT kvs)/\y=.ref b/\H b=some (.tup (k.map kV))/\r=N0 kvs k
def DPut (H:Hp) (a:Addr) (y v:V) (H':Hp):Prop:=
 (∃ kvs k,H a=some (.dK kvs)/\y=kV k/\kvs.length<sizeLine/\H'=upd H a (.dK (y4 kvs k v))) \/
 ∃ kvs k b,H a=some (.dT kvs)/\y=.ref b/\H b=some (.tup (k.map kV))/\kvs.length<sizeLine/\H'=upd H a (.dT (y4 kvs k v))
theorem DGet.k {H:Hp} {a:Addr} {kvs:List (Key×V)} {k:Key} (e:H a=some (.dK kvs)):DGet H a (kV k) (N0 kvs k):=.inl ⟨kvs,k,.inl e,rfl,rfl⟩
theorem DPut.k {H:Hp} {a:Addr} {kvs:List (Key×V)} {k:Key} {v:V} (e:H a=some (.dK kvs)) (hl:kvs.length<sizeLine):DPut H a (kV k) v (upd H a (.dK (y4 kvs k v))):=.inl ⟨kvs,k,e,rfl,hl,rfl⟩
section
variable {X:Cx} {pins:List (Addr×Obj)} {σ:St} {H:Hp} {s:Shared} {a:Addr} {y v:V} {u r:Value} {o:Option V} {A:Around} {E:Value->Shared->Prop}
theorem fW {Q:Value->Shared->Prop} (hu:A.units+1<cLine) (I:Inv X pins σ H s) (g:DGet H a y (some v)) (ry:RelV y u) (h:∀ w' s',Inv X pins σ H s'->RelV v w'->Q w' s') :
  wpAny (model X.prog X.w) A (getItem (.ref a) u) Q E s:=by
 rcases g with ⟨kvs,k,e,ey,l⟩ | ⟨kvs,k,b,e,ey,eb,l⟩
 ·subst ey;obtain ⟨z,hd,vs,rel,dd⟩:=dW I.hok e;obtain ⟨w',hw,rw'⟩:=RelO.some_of (v:=v) (o:=valueAt vs k) (by rw [l];exact rel.val k);exact wpAny_getItem_of (gF ry) dd.mapOf hw (h w' _ (I.tok _) rw')
 ·subst ey;cases (show u=Value.ref b from ry);obtain ⟨z,hd,xs,rel,dd⟩:=gD I.hok e;obtain ⟨w',hw,rw'⟩:=RelO.some_of (v:=v) (o:=(atKey xs k).map (·.2)) (by rw [l];exact rel.val k);obtain ⟨p,hp,hp2⟩:=CN.mp hw;refine wpAny_getItem_heap (tupleKind_room_in1 hu) (cX I.hok eb) dd hp ?_;rw [hp2];exact h w' _ (I.tok _) rw'
theorem dP {h':Heap} {t':Nat} {ob:HO} (I:Inv X pins σ H s) (mu:Mut (H a)) (hs:Heap.SameBut a s.heap h') (he:∃ q,h'.get? a=some q) (new:ObjOk X.prog X.w (upd H a ob) h' a ob) :
  Inv X pins σ (upd H a ob) { s with heap:=h',toks:=t' }:=
 I.write (x:=a) (e:=a) mu (.inl rfl) (λb q hb z=>(hs.2 b hb).trans z) he new
theorem qG {P:Program} {w:World} {H':Hp} {h':Heap} {kvs:List (Key×V)} {vs:List (Key×Value)} (z:kvs.length<=sizeLine) (hd:(a==sysModules)=false) (rel:KV kvs vs) (dd:h'.DictOf (j0 P w) a vs) :
  ObjOk P w H' h' a (.dK kvs):=⟨z,hd,vs,rel,dd⟩
theorem fY {H':Hp} {Q:Unit->Shared->Prop} (hu:A.units+1<cLine) (I:Inv X pins σ H s) (g:DPut H a y v H') (ry:RelV y u) (rv:RelV v r) (h:∀ s',Inv X pins σ H' s'->Q () s') :
  wpAny (model X.prog X.w) A (setItem (.ref a) u r) Q E s:=by
 rcases g with ⟨kvs,k,e,ey,l,eH⟩ | ⟨kvs,k,b,e,ey,eb,l,eH⟩
 ·subst ey eH;obtain ⟨z,hd,vs,rel,dd⟩:=sC I.hok e;have hz:vs.length<=sizeLine:=by rw [<- rel.length];exact z
  have hl:(y4 kvs k v).length<=sizeLine:=by have:=M6 kvs k v;omega
  refine wpAny_setItem_pairs (hsz:=hz) (gF ry) dd λh' dd' hs=>h _ ?_;have he:∃ q,h'.get? a=some q:=let ⟨q,_,_,hq,_⟩:=dd';⟨q,hq⟩
  exact dP I (by rw [e];exact True.intro) hs he (qG hl hd (rel.put k rv) dd')
 ·subst ey eH;cases (show u=Value.ref b from ry);obtain ⟨z,hd,xs,rel,dd⟩:=rH I.hok e;have hz:xs.length<=sizeLine:=by rw [<- Paired.length rel];exact z
  have hl:(y4 kvs k v).length<=sizeLine:=by have:=M6 kvs k v;omega
  refine wpAny_setItem_heap (hsz:=hz) (tupleKind_room_in1 hu) (cX I.hok eb) dd λh' dd' hs=>h _ ?_;obtain ⟨q,es,ep,hq,h2,h3,h4,_,h5⟩:=dd';refine dP I (by rw [e];exact True.intro) hs ⟨q,hq⟩ ⟨hl,hd,_,(rel.put k eb rv).keeps λc ys ec=>?_,q,es,ep,hq,h2,h3,h4,h5⟩;rw [b1 (nI ec e (λz=>nomatch z))];exact ec
end
section
variable {X:Cx} {pins:List (Addr×Obj)} {σ:St} {H:Hp} {s:Shared} {a:Addr} {kvs:List (Key×V)} {k:Key} {u:Value} {A:Around} {E:Value->Shared->Prop}
theorem tE {Q:Value->Shared->Prop} (I:Inv X pins σ H s) (e:Rd H a (.dK kvs)) (h:∀ t s',Inv X pins σ H s'->Q (.int kvs.length t) s'):wpAny (model X.prog X.w) A (call (.builtin "len") [.ref a]) Q E s:=by
 obtain ⟨z,hd,vs,rel,dd⟩:=dW I.hok e;refine call_len_dict hd dd (by rw [<- rel.length];rw [AF] at z;omega) ?_;rw [<- rel.length];exact h _ _ (I.tok _)
end
theorem ah {X:Cx} {pins:List (Addr×Obj)} {σ:St} {H:Hp} {s:Shared} {a:Addr} {y:V} {o:Option V} (I:Inv X pins σ H s) (g:DGet H a y o):s.TypeIs (.ref a) "dict":=by
 rcases g with ⟨kvs,k,e,_,_⟩ | ⟨kvs,k,b,e,_,_,_⟩
 ·obtain ⟨_,_,vs,_,dd⟩:=dW I.hok e;exact dd.typeIs
 ·obtain ⟨_,_,xs,_,dd⟩:=gD I.hok e;exact dd.typeIs
end L2
namespace Att
open PySem PySem.W PySem.Calls PyProof.Rows
theorem N1 {P:Params} {h:Heap}:∀ (ns:List Int) (vs:List Value),WellAll P h vs (ns.map WData.int)->IntsAre vs ns:=by
 intro ns;induction ns with
 | nil=>
  intro vs w;rw [List.map_nil] at w;cases w;exact .nil
 | cons n ns ih=>
  intro vs w;rw [AQ] at w;cases w with
  | cons a b=>
   cases a;exact .cons _ _ (ih _ b)
theorem eX {l:OpenLaw} {n:Nat} (hn:l.most=some n) {P:Params} {h:Heap} {args:List WData} {vals:List Value}
  (hpre:l.row.toRowW.claim.pre args=true) (hwl:WellAll P h vals args) :
  ∃ a vs ns,vals=[Value.ref a]/\args=[WData.list (ns.map WData.int)]/\h.get? a=some { cls:=.type "list",data:=.seq vs.toArray }/\IntsAre vs ns/\ns.length<=n:=by
 have hsh:WShape.hasAll [] args [.list .int]=true:=(pre_splitW hpre).1;have hc:l.pre.holds [] { args:=args }=true:=(pre_splitW hpre).2;obtain ⟨d,r,rfl,h1,h2⟩:=hasAllW_cons hsh;obtain rfl:=hasAllW_nil h2;obtain ⟨xs,rfl,h3⟩:=hasW_list h1;obtain ⟨ns,rfl⟩:=items_int h3;have hlen:ns.length<=n:=by
  unfold OpenLaw.pre at hc;have h4:(WTm.not (.lt (.lit (.int (n:Int))) (.len (.arg 0)))).holds [] { args:=[.list (ns.map .int)] }=true:=by
   have h4:=(holds_andW hc).1;rw [hn] at h4;exact h4
  have h5:=condW_of h4 (w_not (w_lt w_lit (w_len_list (w_arg rfl))));rw [Aj] at h5;refine Cp λq=>?_;have q':(n:Int)<((ns.length:Nat):Int):=by omega
  first
   | (rw [By q'] at h5;exact absurd h5 (by decide))
   | (simp at h5;omega)
 cases hwl with
 | cons w1 w2=>
  cases w2;cases w1 with
  | list ho hall=>exact ⟨_,_,ns,rfl,rfl,ho,N1 ns _ hall,hlen⟩
theorem fV (l:OpenLaw) (args:List WData):l.row.toRowW.claim.post args (.bool true) args=true:=
 postW_of (r:=l.row.toRowW) (X:=(true==true))
  (show WShape.has [] (.bool true) .bool=true by first | rfl | decide | simp [WShape.has,WShape.arms,WShape.armsAll])
  (show (WTm.eq .res (.lit (.bool true))).value [] { args:=args,res:=some (.bool true),after:=args }=some (.bool (true==true)) from w_eq_bool (w_res rfl) w_lit) rfl
theorem attach_call {l:OpenLaw} {n:Nat} {q:Program} {loose:List Str} {XP:(Str->Option Value)->Heap->Prop} {YP:World->Heap->Prop} {d:DefRec}
  (hn:l.most=some n) (hdf:d.params.defaults=[])
  (call:∀ (w:World) (s₀ s₁:Shared) (mg mb:Str->Option Value) (fa:Addr) (o:Obj) (pm cd doc:Value) (a:Addr) (vs:List Value) (ns:List Int),
   Ground q loose [] XP w s₀ mg mb s₁.heap->YP w s₁.heap ->
   s₁.heap.get? fa=some o->o.data=.func (docDef d.name d.params d.body d.scope pm cd doc)->s₁.heap.CodeRec cd d.name->mg d.name=some (.ref fa) ->
   s₁.heap.get? a=some { cls:=.type "list",data:=.seq vs.toArray }->IntsAre vs ns->ns.length<=n->s₁.gens=#[] ->
   codeAny (model l.prog w) callerA (.call (.ref fa) ⟨[.ref a],[]⟩) (λr s'=>r=.ok (.ret (.bool true))/\OldK s₁.heap s'.heap/\s'.os=s₁.os/\AllBare s'.gens) s₁) :
  WalkO q loose XP YP l.row.toRowW d [] (λf vs=>PySem.call f vs):=by
 intro w s₀ s₁ mg mb G Y fa o pm cd doc dV kV ho hd hcd hD hmg hg args vals as hpre hlay hrd hwl hlo;obtain rfl:dV=.none:=Dflts.none hD hdf;obtain rfl:kV=.none:=Dflts.noKw hD;obtain ⟨a,vs,ns,rfl,rfl,hobj,hints,hlen⟩:=eX hn hpre hwl;refine enter_call (BM (call w s₀ s₁ mg mb fa o pm cd doc a vs ns G Y ho (fd_plain hd) hcd hmg hobj hints hlen hg) λr s' hq=>?_);obtain ⟨rfl,h2,h3,h4⟩:=hq;exact ⟨.inl ⟨.bool true,.bool true,[],rfl,λ_=>rfl,.bool true,fV l _,λ_=>⟨List.Pairwise.nil,λ_ hm=>(nomatch hm)⟩⟩,h2,h3,h4⟩
end Att
namespace L2
open PySem PySem.Spec PyProof.Rows
theorem vals_ints:∀ {vs:List Value} {ns:List Int},IntsAre vs ns->Vals (ns.map V.int) vs
 | _,_,.nil=>.nil
 | _,_,.cons n t h=>.cons ⟨t,rfl⟩ (vals_ints h)
def u5 (s:Stmt):Arguments:=match s with
 | .FunctionDef _ a _ _ _ _ _ _ _ _=>a
 | _=>{ posonlyargs:=[],args:=[],vararg:=none,kwonlyargs:=[],kw_defaults:=[],kwarg:=none,defaults:=[] }
def j2 (s:Stmt):List Stmt:=match s with
 | .FunctionDef _ _ b _ _ _ _ _ _ _=>b
 | _=>[]
def c7 (s:Stmt):Scope:=match s with
 | .FunctionDef _ _ _ _ _ _ sc _ _ _=>sc
 | _=>{ kind:=.function,names:=[],isGenerator:=false,isCoroutine:=false }
abbrev CX0:CXT:=⟨λ_ _ _ _ _ _=>False,false⟩
abbrev E0:XK:=λ_ _ _=>False
structure Fun (K:PySem.W.Frag) (x qual:Str) (st:Stmt) (f:Addr) (fd:FuncData):Prop where
 ex:∃ (oc:Value) (od:Option Addr) (kV doc pm:Value) (an:Option Addr) (cdv ct:Value) (osl:Array (Option Value)),
  fd=PySem.W.fnOf x qual (u5 st) (j2 st) (c7 st) .none kV doc pm an cdv ct/\K.lookup f=some ⟨oc,od,.func fd,osl⟩/\PySem.W.codeIn K cdv qual=true
 kp:PySem.W.keepIn K (.ref f)=true
section
variable {P:Program} {w:World} {K:PySem.W.Frag} {mg:Str->Option Value} {base:Heap}
theorem Fun.binds {x qual:Str} {st:Stmt} {f:Addr} {fd:FuncData} {ps:List Str} (F:Fun K x qual st f fd)
  (h:∀ (kV doc pm:Value) (an:Option Addr) (cdv ct:Value) (us:List Value),us.length=ps.length->bindArgs (PySem.W.fnOf x qual (u5 st) (j2 st) (c7 st) .none kV doc pm an cdv ct) ⟨us,[]⟩=pure (ps.zip us)):Binds K fd ps []:=by
 obtain ⟨oc,od,kV,doc,pm,an,cdv,ct,osl,rfl,lk,hcd⟩:=F.ex;exact .all (h kV doc pm an cdv ct)
theorem gW {x qual:Str} {st:Stmt} {f:Addr} {oc:Value} {od an:Option Addr} {osl:Array (Option Value)} {kV doc pm cdv ct:Value} (l:K.lookup f=some ⟨oc,od,.func (PySem.W.fnOf x qual (u5 st) (j2 st) (c7 st) .none kV doc pm an cdv ct),osl⟩)
  (c:PySem.W.codeIn K cdv qual=true) (k:PySem.W.keepIn K (.ref f)=true):Fun K x qual st f (PySem.W.fnOf x qual (u5 st) (j2 st) (c7 st) .none kV doc pm an cdv ct):=⟨⟨oc,od,kV,doc,pm,an,cdv,ct,osl,rfl,l,c⟩,k⟩
end
theorem sR {q:Bool} {A:Around} {k:Nat} (hr:Room q k A):A.units+1<cLine:=Dw (Nat.add_le_add_left (by decide:1<=64) _) hr.units
section
variable {X:Cx}
theorem fJ:j7 X (.builtin "len") (λxs H Q=>∃ a kvs,xs=[V.ref a]/\H a=some (.dK kvs)/\Q (.int kvs.length) H):=by
 intro pins s σ H xs us Q I r h;obtain ⟨a,kvs,rfl,ha,q⟩:=h;obtain ⟨u,rfl,ru⟩:=M3 r;cases ru;exact tE I (.inl ha) λt s' I'=>⟨.int kvs.length,H,I',⟨t,rfl⟩,q⟩
end
theorem kQ {A B:Prop} (h:A):if true=true then A else B:=by
 rw [if_pos rfl];exact h
theorem R7 {b a:Type} (g:a->b->a) {f:b->a->Sem (ForInStep a)}:∀ (l:List b) (c:a),(∀ x∈l,∀ c,f x c=pure (.yield (g c x)))->forIn l c f=pure (l.foldl g c)
 | [],_,_=>rfl
 | x :: l,c,h=>by
  rw [DW,h x Ay,pure_bind];exact R7 g l (g c x) λy d=>h y (Aw _ d)
def i5 (cells:List (Str×Addr)) (a:List (Str×Addr)) (x:Str×NameKind):List (Str×Addr):=if x.2=NameKind.free then (x.1,(cells.lookup x.1).getD 0) :: a else a
def D1 (cells:List (Str×Addr)) (a:List (Str×NameKind)):List (Str×Addr):=a.foldl (i5 cells) []
theorem m9 (h:∀ x∈scope.names,x.2=NameKind.free->∃ c,env.cells.lookup x.1=some c):closureFor scope env=pure (D1 env.cells scope.names):=by
 simp only [closureFor];rw [R7 (i5 env.cells) scope.names [] (λx e c=>by
  obtain ⟨n,k⟩:=x;by_cases b:k=NameKind.free
  ·subst b;obtain ⟨a,d⟩:=h _ e rfl;simp [cellOf,i5,d]
  ·have:(k==NameKind.free)=false:=by simpa using b
   simp [i5,b,this])]
 rfl
theorem D7:∀ (b:List (Str×NameKind)) (f:List (Str×Addr)),(∀ x∈b,x.2=NameKind.free->∃ c,cells.lookup x.1=some c)->(∀ x c,f.lookup x=some c->cells.lookup x=some c) ->
  ∀ x c,(b.foldl (i5 cells) f).lookup x=some c->cells.lookup x=some c
 | [],_,_,g,x,c,e=>g x c e
 | y :: r,f,h,g,x,c,e=>by
  refine D7 r (i5 cells f y) (λz hz=>h z (Aw _ hz)) (λz d q=>?_) x c e;unfold i5 at q;split at q
  ·rename_i i;obtain ⟨a,j⟩:=h y Ay i;rw [Da] at q;split at q
   ·grind
   ·exact g z d q
  ·exact g z d q
theorem P6:∀ (b:List (Str×NameKind)) (a:List (Str×Addr)) (x:Str),(a.lookup x).isSome=true->((b.foldl (i5 cells) a).lookup x).isSome=true
 | [],_,_,h=>h
 | y :: r,a,x,h=>by
  refine P6 r (i5 cells a y) x ?_;unfold i5;split
  ·grind
  ·exact h
theorem Q1:∀ (a:List (Str×NameKind)) (b:List (Str×Addr)) (x:Str),(x,NameKind.free)∈a->((a.foldl (i5 cells) b).lookup x).isSome=true
 | [],_,_,h=>nomatch h
 | y :: r,b,x,h=>by
  rcases AA.mp h with h | h
  ·subst h;refine P6 r _ x ?_;simp [i5]
  ·exact Q1 r _ x h
theorem mem_of_lookup {c d:Type} [BEq c] [LawfulBEq c]:∀ {l:List (c×d)} {x:c} {y:d},l.lookup x=some y->(x,y)∈l
 | [],_,_,h=>by simp at h
 | (a,b) :: r,x,y,h=>by
  rw [Da] at h;split at h
  ·rename_i e;have:x=a:=by simpa using e
   cases h;subst this;exact Ay
  ·exact Aw _ (mem_of_lookup h)
theorem M9 {f:Str×NameKind->Str×NameKind} (a:∀ y,(f y).1=y.1):∀ (l:List (Str×NameKind)) (x:Str),(l.map f).lookup x=(l.lookup x).map λk=>(f (x,k)).2
 | [],_=>rfl
 | (n,k) :: r,x=>by
  rw [AQ,show f (n,k) :: r.map f=((f (n,k)).1,(f (n,k)).2) :: r.map f from rfl,Da,Da,a];cases b:x==n with
  | true=>
   have e:x=n:=by simpa using b
   subst e;rfl
  | false=>exact M9 a r x
def rlF (a:Env) (y:Str×NameKind):Str×NameKind:=if (y.2==.free&&a.scope.kind==.function&&a.kindOf y.1==some .cell) then (y.1,.cell) else (y.1,y.2)
theorem lK (a:Env) (y:Str×NameKind):(rlF a y).1=y.1:=by unfold rlF;split <;> rfl
theorem B2 (a:Scope) (b:Env) (x:Str):(relabel a b).names.lookup x=(a.names.lookup x).map λk=>(rlF b (x,k)).2:=M9 (lK b) a.names x
theorem U7 (h:scope.names.lookup x=some .free):(relabel scope env).names.lookup x=some .cell\/(relabel scope env).names.lookup x=some .free:=by
 rw [B2,h];unfold rlF;grind
theorem F6 (h:(relabel scope env).names.lookup x=some k) (d:k=.cell\/k=.free) (b:∀ y∈scope.names,y.2≠NameKind.cell):scope.names.lookup x=some .free:=by
 rw [B2] at h;cases e:scope.names.lookup x with
 | none=>rw [e] at h;cases h
 | some a=>
  rw [e] at h;have h':(rlF env (x,a)).2=k:=AG h;have c:=b (x,a) (mem_of_lookup e);unfold rlF at h';split at h'
  ·grind
  ·grind
theorem HOk.sameBut {a:Addr} (g:HOk P w H h) (f:H a=none) (hs:Heap.SameBut a h h'):HOk P w H h':=λb ob e=>by
 refine (g b ob e).stay (λc w' d q=>(hs.2 c ?_).trans q) (λ_ q=>q) λ_ _ q=>q;rintro rfl;rcases d with rfl | d
 ·rw [f] at e;cases e
 ·rw [f] at d;cases d
theorem Un.sameBut {C:Addr} (u:Un fs ex H H' h h1) (hs:Heap.SameBut C h1 h') (g:h.objs.size<=C):Un fs ex H H' h h':=by
 have d:∀ b o,h.get? b=some o->b≠C:=λb o e=>Aq (Az (Am e) g);exact ⟨λb o e n c a=>(hs.2 b (d b o e)).trans (u.keep b o e n c a),λb o e n c a=>let ⟨f,q⟩:=u.slot b o e n c a;⟨f,(hs.2 b (d b o e)).trans q⟩,u.free,
  λb o e a=>let ⟨o',q⟩:=u.there b o e a;⟨o',(hs.2 b (d b o e)).trans q⟩,u.tups,u.frzs,u.tbls⟩
def b3 (X:Cx) (pins:List (Addr×Obj)) (N':List Str) (a:Scope) (C:Addr) (b:List Addr) (s:Shared) (H:Hp):Cx where
 prog:=X.prog
 w:=X.w
 K:=X.K
 mg:=X.mg
 base:=X.base
 A:=X.A
 N:=N'
 s₀:=s
 H₀:=H
 env:=compEnvC a (D1 X.env.cells a.names) C X.env
 outer:=X.stack
 stack:=X.stack
 ex:=b
 fn:=λ_=>false
 calm:=X.calm
 pn:=X.pn++pins
 xe:=λ_ _=>False
structure CompText (N:List Str) (env:Env) (N':List Str) (k:Nat) (caps:List Nat) (scope:Scope):Prop where
 kind:scope.kind=.function
 cell:∀ y∈scope.names,y.2≠NameKind.cell
 loc:∀ y∈scope.names,y.2=NameKind.local->scope.names.lookup y.1=some .local
 free:∀ y∈scope.names,y.2=NameKind.free->scope.names.lookup y.1=some .free/\(env.scope.names.lookup y.1=some .cell\/env.scope.names.lookup y.1=some .free)
 cps:∀ (j i:Nat),caps[j]?=some i->∃ x,N[i]?=some x/\N'[k+j]?=some x/\scope.names.lookup x=some .free
 len:N'.length=k+caps.length
def i6 (caps:List Nat) (σ:St):St:=caps.map λi=>(σ[i]?).join
theorem jJ {j:Nat} {v:V} (h:(i6 caps σ)[j]?=some (some v)):∃ i,caps[j]?=some i/\σ[i]?=some (some v):=by
 unfold i6 at h;grind
section
variable {X:Cx} {pins:List (Addr×Obj)} {σ:St} {H:Hp} {s:Shared} {N':List Str} {k:Nat} {caps:List Nat} {scope:Scope} {fp:List Addr}
theorem mJ (T:CompText X.N X.env N' k caps scope) (I:Inv X pins σ H s) (i:∀ b∈fp,J8 X pins H b) {C:Addr} (n:s.heap.objs.size<=C) (j:∀ b∈fp,b<s.heap.objs.size):(b3 X pins N' scope C fp s H).Ok:=by
 have p:∀ x∈scope.names,x.2=NameKind.free->∃ c,X.env.cells.lookup x.1=some c:=λx g q=>I.ok.has x.1 (T.free x g q).2;have f:=D7 scope.names [] p λx c e=>by simp at e
 refine ⟨I.mod,?_,I.ok.glob,I.ok.blt,n,λx y c a b=>I.ok.inj x y c (f x c a) (f y c b),λx g=>?_,λx c m=>(by cases m),I.ok.hd,I.ok.frames,.inl rfl,λb d=>⟨?_,λx c e=>(i b d).2.2.2.2.1 x c (f x c e)⟩,I.bs,?_,λb o e d=>?_,λb d l=>?_,I.stack,I.stkFree⟩
 ·exact T.kind
 ·have h:scope.names.lookup x=some .free:=by
   rcases g with g | g
   ·exact F6 g (.inl rfl) T.cell
   ·exact F6 g (.inr rfl) T.cell
  exact Bx.mp (Q1 scope.names [] x (mem_of_lookup h))
 ·exact Aq (Az (j b d) n)
 ·exact AZ I.ok.bsz I.sz
 ·rcases (i b d).2.2.2.1 with z | z
  ·exact I.ok.noex b o e z
  ·exact absurd (Az (Am (I.ok.bs b o e).1) z) (BQ _)
 ·rcases AA.mp (I.stkSub b l) with z | z
  ·exact (i b d).2.1 z
  ·exact (i b d).2.2.1 z
theorem y7 (T:CompText X.N X.env N' k caps scope) (I:Inv X pins σ H s) (hf:∀ b∈fp,J8 X pins H b) (K:∀ b∈fp,b<s.heap.objs.size) {h':Heap} {m:Str->Option Value} {t:Nat}
  (hn:h'.Ns (s.heap.objs.size+1) m) (q:∀ b o,s.heap.get? b=some o->h'.get? b=some o) (Z:h'.get? s.heap.objs.size=some { cls:=.type "list",data:=.seq #[] }) :
  Inv (b3 X pins N' scope (s.heap.objs.size+1) fp s H) [] (List.replicate k none++i6 caps σ) (upd H s.heap.objs.size (.lst [])) { s with heap:=h',toks:=t }:=by
 have V:=mJ T I hf (Bm _) K;have fr:∀ x∈scope.names,x.2=NameKind.free->∃ c,X.env.cells.lookup x.1=some c:=λx W q=>I.ok.has x.1 (T.free x W q).2;have a:=D7 scope.names [] fr λx c e=>by simp at e
 have A:=I.hok.fresh (Ap _);have lt:∀ b u,H b=some u->b<s.heap.objs.size:=λb u e=>I.hok.lt e;refine ⟨V,rfl,I.bare,Un.laid q (Ap _) A,⟨m,hn,λi x v Y J e3=>?_⟩,λx c e=>?_,?_,λx c e=>?_,λp U=>?_,I.hok.laid q (Ap _) ⟨Bh _,[],_,.nil,Z⟩,?_⟩
 ·by_cases S:i<k
  ·grind
  ·rw [AL (by simpa using Cp S)] at J;rw [CT] at J;obtain ⟨j,hj,hv⟩:=jJ J;obtain ⟨y,h1,N,L⟩:=T.cps _ _ hj;have F:k+(i-k)=i:=by omega
   rw [F] at N;have D:=AG (N.symm.trans Y);subst D;have g:=(T.free (y,.free) (mem_of_lookup L) rfl).2;obtain ⟨mX,hnX,M⟩:=I.loc;obtain ⟨u,r,l⟩:=M j y v h1 hv (by rcases g with z | z;exact .inr (.inl z);exact .inr (.inr z));refine ⟨u,r,?_⟩;rcases l with ⟨G,_⟩ | ⟨_,c,Q,h⟩
   ·have f:X.env.scope.names.lookup y=some .local:=G;rcases g with z | z
    ·rw [f] at z;cases z
    ·rw [f] at z;cases z
   ·obtain ⟨O,B⟩:=Bx.mp (Q1 scope.names [] y (mem_of_lookup L));have:=AG ((a y O B).symm.trans Q);subst this;obtain ⟨C,w,hd⟩:=h;exact .inr ⟨U7 L,O,B,C,q _ _ w,hd⟩
 ·obtain ⟨v,C,w,hd⟩:=I.cell x c (a x c e);exact ⟨v,C,q _ _ w,hd⟩
 ·show upd H s.heap.objs.size (.lst []) (s.heap.objs.size+1)=none;rw [b1 (Nat.succ_ne_self _)];exact I.hok.fresh (Bm _)
 ·obtain ⟨v,C,w,hd⟩:=I.cell x c (a x c e);rw [b1 (Aq (Am w))];exact I.freeC x c (a x c e)
 ·have E:p∈X.pn++pins:=by
   have:=U;rwa [Bj] at this
  obtain ⟨e,n,R,nf,d⟩:=I.pin p E;refine ⟨q _ _ e,?_,Aq (AE (Am e)),λP=>?_,d⟩
  ·rw [b1 (Aq (Am e))];exact n
  ·rcases AA.mp (I.stkSub p.1 P) with z | z
   ·exact R z
   ·exact nf z
 ·show _=N'.length;rw [T.len,Av,CT];unfold i6;rw [Aj]
end
def PTL (X:Cx) (ifs:List Expr) (t:TT):Prop:=
 ∀ (pins:List (Addr×Obj)) (s:Shared) (σ:St) (H:Hp) (Q:Bool->Hp->Prop),Inv X pins σ H s->t σ H Q ->
  wpAny (model X.prog X.w) X.A (forIn ifs true λc r=>if r=true then do let a <- isTrue c X.env (eval c X.env);pure (ForInStep.yield a) else pure (ForInStep.yield r)) (TP X pins σ Q) X.xe s
def tTrue:TT:=λ_ H Q=>Q true H
theorem lB:PTL X [] tTrue:=λ_ _ _ H _ I h=>by
 rw [List.forIn_nil];exact Ai ⟨H,I,h⟩
theorem mL (h:PT X c t):PTL X [c] t:=λpins s σ H Q I q=>by
 rw [DW];refine Ag ?_;rw [if_pos rfl];refine Ag (thn (h pins s σ H Q I q) λb s' ⟨H',d,a⟩=>Ai ?_);dsimp only;rw [List.forIn_nil];exact Ai ⟨H',d,a⟩
def ip (caps:List Nat) (j:TI) (h:TT) (te:TE):TE:=λσ H Q=>j σ H λJ g=>∀ a,g a=none->∃ W:Nat->Nat->List V->Hp->Prop,(∃ m,W 0 m [] (upd g a (.lst []))) /\
 ∀ i m ys c,W i m ys c->c a=some (.lst ys)/\((J.stop i c/\Q (.ref a) c)\/(J.go i c/\∀ x f,J.yld i c x f->h (some x :: i6 caps σ) f λb e=>
  if b=true then te (some x :: i6 caps σ) e λy d=>d a=some (.lst ys)/\ys.length<sizeLine/\∃ m',m'<m/\W (i+1) m' (ys++[y]) (upd d a (.lst (ys++[y])))
  else ∃ m',m'<m/\W (i+1) m' ys e))
theorem u0 {a:Type} {t:Sem a} {Q:a->Shared->Prop} {u:Sem Unit} (c:u=pure ()) (h:wpAny M A u (λ_ b=>wpAny M A t Q E b) E s):wpAny M A t Q E s:=by
 have d:=Ag h;grind
theorem b5 {s:Shared} {a:Type} {t:Sem a} {Q:a->Shared->Prop} (h:wpAny M A t Q (λ_ _=>False) s):wpAny M A t Q E s:=AB h (λ_ _ q=>q) λ_ _ q=>q.elim
theorem ki {O A:Expr} {x:Str} {px:Pos} {ifs:List Expr} {a:Scope} {pos:Pos} {N':List Str} {caps:List Nat} {wi:TI} {tc:TT} {te:TE}
  (T:CompText X.N X.env N' 1 caps a) (hc:X.calm=true) (hN:N'.Nodup) (hx0:N'[0]?=some x) (hxl:a.names.lookup x=some .local) (hi:PI X (.Name x px) A wi)
  (ht:∀ pins C g s H,PTL (b3 X pins N' a C g s H) ifs tc) (he:∀ pins C g s H,PE (b3 X pins N' a C g s H) O te)
  (hs:∀ x,foldedSetIterable A X.env x=pure x:=by intro _;rfl):PE X (.ListComp O [⟨.Name x px,A,ifs,0⟩] a pos) (ip caps wi tc te):=by
 intro pins s σ H Q I h;have fr:∀ x∈a.names,x.2=NameKind.free->∃ c,X.env.cells.lookup x.1=some c:=λx hx hk=>I.ok.has x.1 (T.free x hx hk).2;rw [Eg];refine BS rfl hs (m9 fr) T.kind T.loc ?_;refine thn (hi pins s σ H _ I h) λv s1 h1=>thn h1 λitv f h2=>?_;obtain ⟨it,g,tn,J,E,rfl,I2,G,st2,f2,h2⟩:=h2;obtain ⟨W,⟨m0,w0⟩,turn⟩:=h2 f.heap.objs.size (I2.hok.fresh (Ap _));have hlt:=λb l=>let ⟨o,e,_⟩:=G.obj _ _ st2 b l;Am e
 refine AK (Cm T.cell (by intro y hy;simp at hy) (λh₁ m k=>?_) T.kind);have hC:(f.heap.push { cls:=.type "list",dict:=none,data:=.seq ([]:List Value).toArray }).objs.size=f.heap.objs.size+1:=BG ..;rw [hC] at m k;have old:=λb o e=>k.extBut b o (Aq (AE (Am e))) (Ah _ (Ah _ e));have hacc:=k.extBut _ _ (Aq (AI _)) (Ah _ (An _ rfl));have w:=G.keep _ _ _ st2 λb _ o e=>old b o e;have I3:=y7 (t:=f.toks+([]:List (Str×Value)).length) T I2 f2 hlt m old hacc;have D:∀ {H':Hp},(∀ b∈g,H' b=none)->∀ b∈g,J8 (b3 X pins N' a (f.heap.objs.size+1) g f E) [] H' b:=λhn b l=>by
  refine ⟨hn b l,(I3.ok.exf b l).1,I3.ok.exfs b l,.inl l,(I3.ok.exf b l).2,λp hp=>?_⟩;have hp':p∈X.pn++pins:=by
   have:=hp;rwa [Bj] at this
  exact (f2 b l).2.2.2.2.2 p hp'
 have F:∀ s3:Shared,s3={ f with heap:=h₁,toks:=f.toks+([]:List (Str×Value)).length } ->
   codeAny (model X.prog X.w) X.A (.compLoop (.ListComp O [⟨.Name x px,A,ifs,0⟩] a pos) 0 (.ref it) (.ref f.heap.objs.size) (compEnvC a (D1 X.env.cells a.names) (f.heap.objs.size+1) X.env))
    (compPost (model X.prog X.w) X.A X.xe none (EP X pins σ Q) (.ref f.heap.objs.size) (f.heap.objs.size+1)) s3:=by
  rintro s3 rfl;refine codeAny_compLoop_tests (λn s'=>∃ i ys H',Inv (b3 X pins N' a (f.heap.objs.size+1) g f E) [] (none :: i6 caps σ) H' s'/\tn i s'.heap/\(∀ b∈g,H' b=none)/\W i n ys H') ?_ m0
   ⟨0,[],_,I3,w,λb l=>by rw [b1 (Aq (hlt b l))];exact (f2 b l).1,w0⟩ (λ_=>rfl)
  rintro n s4 ⟨i,ys,R,I4,Y,fr4,w4⟩;obtain ⟨hacc4,P⟩:=turn i n ys R w4;refine b5 ?_;rcases P with ⟨stop,q⟩ | ⟨go,step⟩
  ·refine thn (G.done (b3 X pins N' a (f.heap.objs.size+1) g f E) rfl rfl rfl hc i [] s4 _ R (λ_ _=>False) I4 (D fr4) Y stop) λr s5 ⟨hr,V⟩=>?_;subst hr;obtain ⟨m5,hn5,_⟩:=id V.loc;refine ⟨m5,hn5,λh' hs'=>?_⟩;refine ⟨.ref f.heap.objs.size,R,?_,rfl,q⟩;refine I2.call' V.os (Un.sameBut V.base hs' (Bm _)) (V.hok.sameBut V.free hs') V.bare λb l=>?_;have:=f2 b l;exact ⟨this.2.2.2.1,this.2.1,this.2.2.2.2.1,this.2.2.2.2.2⟩
  ·refine thn (G.item (b3 X pins N' a (f.heap.objs.size+1) g f E) rfl rfl rfl hc i [] s4 _ R (λ_ _=>False) I4 (D fr4) Y go) λr s5 ⟨u,hr,h5⟩=>?_;subst hr;refine b5 (u0 rfl (thn h5 λ_ s6 ⟨xv,H6,I6,r6,y6,L,fr6⟩=>?_));have I6':=I6.pinned (D fr6) (G.obj _ _ L);refine thn (v7 (X:=b3 X pins N' a (f.heap.objs.size+1) g f E) hN hx0 (.inl (AM hxl)) (.inr (AM hxl)) _ s6 _ H6 xv u (λσ2 R=>σ2=some xv :: i6 caps σ/\R=H6) I6' r6 ⟨rfl,rfl⟩) λ_ s7 ⟨σ7,H7,I7,e7,e7'⟩=>?_;subst e7 e7';have B:∀ {σ8:St} {S:Hp} {s8:Shared},Inv (b3 X pins N' a (f.heap.objs.size+1) g f E) ([]++i3 g s6.heap) σ8 S s8->tn (i+1) s8.heap/\∀ b∈g,S b=none:=λ{σ8 S s8} N=>by
    refine ⟨G.keep _ _ _ L λb l o e=>(N.pin (b,o) (Ar _ (Ar _ (d9 l e)))).1,λb l=>?_⟩;obtain ⟨o,e,d⟩:=G.obj _ _ L b l;exact (N.pin (b,o) (Ar _ (Ar _ (d9 l e)))).2.1
   refine b5 (thn (ht pins _ g f E _ s7 _ _ _ I7 (step xv _ y6)) λb s8 ⟨S,N,q8⟩=>?_);have wk:∀ {U:Hp} {s9:Shared},Inv (b3 X pins N' a (f.heap.objs.size+1) g f E) ([]++i3 g s6.heap) (some xv :: i6 caps σ) U s9->Inv (b3 X pins N' a (f.heap.objs.size+1) g f E) [] (none :: i6 caps σ) U s9:=λ{U s9} I9=>
    I9.unpinned.weak rfl λj v e=>by
     cases j with
     | zero=>simp at e
     | succ j=>simpa using e
   cases b with
   | false=>
    obtain ⟨m',hm,w'⟩:=q8;exact ⟨m',hm,i+1,ys,S,wk N,(B N).1,(B N).2,w'⟩
   | true=>
    refine b5 (thn (he pins _ g f E _ s8 _ S _ N q8) λz s9 ⟨y,U,I9,r9,M,hl9,m',hm,w'⟩=>?_);refine b5 (thn (y0 _ s9 _ U (.ref f.heap.objs.size) [y] (.ref f.heap.objs.size) [z] (λ_ H'=>H'=upd U f.heap.objs.size (.lst (ys++[y]))) I9 rfl (.cons r9 .nil) ⟨_,ys,y,rfl,rfl,M,hl9,rfl⟩) λ_ s10 ⟨_,H10,K,_,e10⟩=>?_);subst e10;exact ⟨m',hm,i+1,ys++[y],_,wk K,(B K).1,(B K).2,w'⟩
 have Z:=Cb (F _ rfl) (G.self _ 0 _ _ _ w (F _ rfl));rw [<- hC] at Z;exact Z
theorem cy {K w:Expr} {x:Str} {px:Pos} {y:Str} {py N:Pos} {iy:Nat} {ifs:List Expr} {f:Scope} {pos:Pos} {N':List Str} {caps:List Nat} {wi:TI} {tc:TT} {te:TE}
  (hsw:swapsWith (.ListComp K [⟨.Name x px,w,ifs,0⟩] f pos) (some (.Name y py)) N.line X.env=pure true) (hNX:X.N.Nodup) (hiy:X.N[iy]?=some y) (hy:Loc X.env.scope y) (hf:X.fn y=true\/X.env.scope.names.lookup y=some .local)
  (T:CompText X.N X.env N' 1 caps f) (hc:X.calm=true) (hN:N'.Nodup) (hx0:N'[0]?=some x) (hxl:f.names.lookup x=some .local) (hi:PI X (.Name x px) w wi)
  (ht:∀ pins C l s H,PTL (b3 X pins N' f C l s H) ifs tc) (he:∀ pins C l s H,PE (b3 X pins N' f C l s H) K te)
  (hs:∀ x,foldedSetIterable w X.env x=pure x:=by intro _;rfl):PS X (.Assign [.Name y py] (.ListComp K [⟨.Name x px,w,ifs,0⟩] f pos) N) (mR (ip caps wi tc te) (X1 iy)):=by
 intro pins s σ H D I h;have fr:∀ x∈f.names,x.2=NameKind.free->∃ c,X.env.cells.lookup x.1=some c:=λx hx hk=>I.ok.has x.1 (T.free x hx hk).2;rw [exec_Assign_Name_used _ _ _ _ hsw];refine Ag (BR (Ag ?_));refine Ag (AB (BS rfl hs (m9 fr) T.kind T.loc ?_) (λ_ s' hq=>Ai (Ai hq)) λ_ _ e=>e);refine thn (hi pins s σ H _ I h) λv s1 h1=>thn h1 λitv g h2=>?_;obtain ⟨it,l,tn,J,G,rfl,O,M,st2,f2,h2⟩:=h2;obtain ⟨W,⟨m0,w0⟩,turn⟩:=h2 g.heap.objs.size (O.hok.fresh (Ap _));have hlt:=λb k=>let ⟨o,e,_⟩:=M.obj _ _ st2 b k;Am e
 refine AK (Cm T.cell (by intro y hy;simp at hy) (λh₁ A m=>?_) T.kind);have hC:(g.heap.push { cls:=.type "list",dict:=none,data:=.seq ([]:List Value).toArray }).objs.size=g.heap.objs.size+1:=BG ..;rw [hC] at A m;have old:=λb o e=>m.extBut b o (Aq (AE (Am e))) (Ah _ (Ah _ e));have hacc:=m.extBut _ _ (Aq (AI _)) (Ah _ (An _ rfl));have E:=M.keep _ _ _ st2 λb _ o e=>old b o e;have I3:=y7 (t:=g.toks+([]:List (Str×Value)).length) T O f2 hlt A old hacc;have F:∀ {H':Hp},(∀ b∈l,H' b=none)->∀ b∈l,J8 (b3 X pins N' f (g.heap.objs.size+1) l g G) [] H' b:=λhn b k=>by
  refine ⟨hn b k,(I3.ok.exf b k).1,I3.ok.exfs b k,.inl k,(I3.ok.exf b k).2,λp hp=>?_⟩;have hp':p∈X.pn++pins:=by
   have:=hp;rwa [Bj] at this
  exact (f2 b k).2.2.2.2.2 p hp'
 have L:∀ s3:Shared,s3={ g with heap:=h₁,toks:=g.toks+([]:List (Str×Value)).length } ->
   codeAny (model X.prog X.w) X.A (.compLoop (.ListComp K [⟨.Name x px,w,ifs,0⟩] f pos) 0 (.ref it) (.ref g.heap.objs.size) (compEnvC f (D1 X.env.cells f.names) (g.heap.objs.size+1) X.env))
    (compPost (model X.prog X.w) X.A X.xe (some (assign (.Name y py) X.env)) (λ_ s'=>SP X pins D .next s') (.ref g.heap.objs.size) (g.heap.objs.size+1)) s3:=by
  rintro s3 rfl;refine codeAny_compLoop_tests (λn s'=>∃ i ys H',Inv (b3 X pins N' f (g.heap.objs.size+1) l g G) [] (none :: i6 caps σ) H' s'/\tn i s'.heap/\(∀ b∈l,H' b=none)/\W i n ys H') ?_ m0
   ⟨0,[],_,I3,E,λb k=>by rw [b1 (Aq (hlt b k))];exact (f2 b k).1,w0⟩ (λ_=>rfl)
  rintro n s4 ⟨i,ys,Z,I4,st4,fr4,w4⟩;obtain ⟨hacc4,S⟩:=turn i n ys Z w4;refine b5 ?_;rcases S with ⟨stop,q⟩ | ⟨go,step⟩
  ·refine thn (M.done (b3 X pins N' f (g.heap.objs.size+1) l g G) rfl rfl rfl hc i [] s4 _ Z (λ_ _=>False) I4 (F fr4) st4 stop) λr s5 ⟨hr,V⟩=>?_;subst hr;obtain ⟨m5,hn5,_⟩:=id V.loc;have IX:=O.call' V.os V.base V.hok V.bare λb k=>by
    have:=f2 b k;exact ⟨this.2.2.2.1,this.2.1,this.2.2.2.2.1,this.2.2.2.2.2⟩
   have C0:g.heap.objs.size<=g.heap.objs.size+1:=Bm _;have cC:∀ z c,X.env.cells.lookup z=some c->c≠g.heap.objs.size+1:=λz c e=>by
    obtain ⟨v,oc,ho,_⟩:=O.cell z c e;exact Aq (AE (Am ho))
   have lC:=Aq (AE O.lt);refine wpAny_assign_Name (V9 (v:=.ref g.heap.objs.size) IX hNX hiy hy rfl (λs6 I6 ⟨a,sb,ha⟩=>?_) hf);have aC:g.heap.objs.size+1≠a:=λz=>by
    rcases ha with ha | ha
    ·grind
    ·exact cC _ _ ha z.symm
   refine ⟨m5,hn5.sameBut sb aC,λh' hs'=>?_⟩;refine ⟨_,Z,I6.turned (λb o k e=>hs'.extBut b o k e) V.free lC.symm (.inr (AZ O.sz C0)) cC (λp hp=>?_),q⟩;exact Aq (AE (Am (O.pin p hp).1))
  ·refine thn (M.item (b3 X pins N' f (g.heap.objs.size+1) l g G) rfl rfl rfl hc i [] s4 _ Z (λ_ _=>False) I4 (F fr4) st4 go) λr s5 ⟨u,hr,h5⟩=>?_;subst hr;refine b5 (u0 rfl (thn h5 λ_ s6 ⟨xv,H6,I6,r6,y6,U,fr6⟩=>?_));have I6':=I6.pinned (F fr6) (M.obj _ _ U);refine thn (v7 (X:=b3 X pins N' f (g.heap.objs.size+1) l g G) hN hx0 (.inl (AM hxl)) (.inr (AM hxl)) _ s6 _ H6 xv u (λσ2 Z=>σ2=some xv :: i6 caps σ/\Z=H6) I6' r6 ⟨rfl,rfl⟩) λ_ s7 ⟨σ7,H7,I7,e7,e7'⟩=>?_;subst e7 e7';have B:∀ {σ8:St} {Y:Hp} {s8:Shared},Inv (b3 X pins N' f (g.heap.objs.size+1) l g G) ([]++i3 l s6.heap) σ8 Y s8->tn (i+1) s8.heap/\∀ b∈l,Y b=none:=λ{σ8 Y s8} Q=>by
    refine ⟨M.keep _ _ _ U λb k o e=>(Q.pin (b,o) (Ar _ (Ar _ (d9 k e)))).1,λb k=>?_⟩;obtain ⟨o,e,d⟩:=M.obj _ _ U b k;exact (Q.pin (b,o) (Ar _ (Ar _ (d9 k e)))).2.1
   refine b5 (thn (ht pins _ l g G _ s7 _ _ _ I7 (step xv _ y6)) λb s8 ⟨Y,Q,q8⟩=>?_);have wk:∀ {H9:Hp} {s9:Shared},Inv (b3 X pins N' f (g.heap.objs.size+1) l g G) ([]++i3 l s6.heap) (some xv :: i6 caps σ) H9 s9->Inv (b3 X pins N' f (g.heap.objs.size+1) l g G) [] (none :: i6 caps σ) H9 s9:=λ{H9 s9} I9=>
    I9.unpinned.weak rfl λj v e=>by
     cases j with
     | zero=>simp at e
     | succ j=>simpa using e
   cases b with
   | false=>
    obtain ⟨m',hm,w'⟩:=q8;exact ⟨m',hm,i+1,ys,Y,wk Q,(B Q).1,(B Q).2,w'⟩
   | true=>
    refine b5 (thn (he pins _ l g G _ s8 _ Y _ Q q8) λz s9 ⟨y,H9,I9,r9,P,hl9,m',hm,w'⟩=>?_);refine b5 (thn (y0 _ s9 _ H9 (.ref g.heap.objs.size) [y] (.ref g.heap.objs.size) [z] (λ_ H'=>H'=upd H9 g.heap.objs.size (.lst (ys++[y]))) I9 rfl (.cons r9 .nil) ⟨_,ys,y,rfl,rfl,P,hl9,rfl⟩) λ_ s10 ⟨_,H10,R,_,e10⟩=>?_);subst e10;exact ⟨m',hm,i+1,ys++[y],_,wk R,(B R).1,(B R).2,w'⟩
 have fin:=Cb (L _ rfl) (M.self _ 0 _ _ _ E (L _ rfl));rw [<- hC] at fin;exact fin
section
variable {prog:Program} {w:World} {A:Around} {R:Result->Shared->Prop} {s:Shared}
theorem aZ (elt t0 i0 target iter:Expr) (ifs0 ifs:List Expr) (scope:Scope) (pos:Pos) (it acc:Value) (env:PySem.Env) :
  compTurn (.ListComp elt [⟨t0,i0,ifs0,0⟩,⟨target,iter,ifs,0⟩] scope pos) 1 it acc env=(do
   standAt iter.pos
   match <- pyNext it with
   | none=>pure (.done .next)
   | some v=>
    letOwnedTupleGo target it v
    assign target env v
    let mut ok:=true
    for c in ifs do
     if ok then ok <- isTrue c env (eval c env)
    if ok then
     (do let _ <- call (.builtin "list.append") [acc,<- eval elt env])
    again (.compLoop (.ListComp elt [⟨t0,i0,ifs0,0⟩,⟨target,iter,ifs,0⟩] scope pos) 1 it acc env)):=by rfl
theorem kh {C F i0 b y:Expr} {p ifs:List Expr} {o:Scope} {pos:Pos} {it B:Value} {a:PySem.Env} (I:Nat->Shared->Prop)
  (D:∀ n s,I n s->wpAny (model prog w) A (pyNext it) (λr d=>match r with
   | none=>R (.ok .next) d
   | some v=>wpAny (model prog w) A (assign b a v) (λ_ i=>
     wpAny (model prog w) A (forIn ifs true λc r=>if r=true then do let t <- isTrue c a (eval c a);pure (ForInStep.yield t) else pure (ForInStep.yield r)) (λt f=>
      if t=true then wpAny (model prog w) A (eval C a) (λx g=>
       wpAny (model prog w) A (call (.builtin "list.append") [B,x]) (λ_ k=>∃ m,m<n/\I m k) (notedBy (model prog w) A a λe s'=>R (.error e) s') g) (notedBy (model prog w) A a λe s'=>R (.error e) s') f
      else ∃ m,m<n/\I m f) (notedBy (model prog w) A a λe s'=>R (.error e) s') i) (notedBy (model prog w) A a λe s'=>R (.error e) s') d) (notedBy (model prog w) A a λe s'=>R (.error e) s') s)
  (n:Nat) (h:I n s) (E:∀ v,letOwnedTupleGo b it v=pure ():=by intro _;rfl) :
  codeAny (model prog w) A (.compLoop (.ListComp C [⟨F,i0,p,0⟩,⟨b,y,ifs,0⟩] o pos) 1 it B a) R s:=by
 refine codeAny_loop rfl I (λn s G=>?_) n h;refine wpAny_noted ?_;rw [aZ];refine Ag (BR (Ag (AB (D n s G) (λr d l=>?_) λ_ _ h'=>h')));cases r with
 | none=>exact Ai l
 | some v=>
  refine Ag (Ea (E v) ?_);refine Ag (AB l (λ_ i z=>Ag (AB z (λt f j=>?_) λ_ _ h'=>h')) λ_ _ h'=>h');cases t with
  | false=>exact Ai ⟨rfl,j⟩
  | true=>
   exact Ag (Ag (AB j (λx g q=>Ag (AB q (λ_ k u=>Ai (Ai ⟨rfl,u⟩)) λ_ _ h'=>h')) λ_ _ h'=>h'))
theorem gG {ifs0 ifs:List Expr} {scope:Scope} {pos:Pos} {it acc:Value} {env:PySem.Env}
  (h0:codeAny (model prog w) A (.compLoop (.ListComp elt [⟨t0,i0,ifs0,0⟩,⟨target,iter,ifs,0⟩] scope pos) 1 it acc env) R s)
  (h:wpAny (model prog w) A (pyIter it) (λit' s'=>codeAny (model prog w) A (.compLoop (.ListComp elt [⟨t0,i0,ifs0,0⟩,⟨target,iter,ifs,0⟩] scope pos) 1 it' acc env) R s')
   (notedBy (model prog w) A env λx s'=>R (.error x) s') s) :
  codeAny (model prog w) A (.compStart (.ListComp elt [⟨t0,i0,ifs0,0⟩,⟨target,iter,ifs,0⟩] scope pos) 1 it acc env) R s:=by
 refine DX ?_;refine wpAny_notedAt ?_;refine Ag (Cq (wpAny_ite ?_));split
 ·first
   | exact Ag (Ai (Ai (And.intro rfl h0)))
   | exact Ai (And.intro rfl h0)
 ·first
   | exact Ag (Cc (Ag (BR (Ag (AB h (λit' s' h'=>Ai (And.intro rfl h')) λ_ _ x=>x)))))
   | (refine Ag (Cc ?_);show wpAny _ _ (standAt iter.pos >>= _) _ _ s;exact Ag (BR (Ag (AB h (λit' s' h'=>Ai (And.intro rfl h')) λ_ _ x=>x))))
theorem af (elt t0 i0 target iter:Expr) (ifs0 ifs:List Expr) (scope:Scope) (pos:Pos) (it acc:Value) (env:PySem.Env) :
  compTurn (.ListComp elt [⟨t0,i0,ifs0,0⟩,⟨target,iter,ifs,0⟩] scope pos) 0 it acc env=(do
   standAt i0.pos
   match <- pyNext it with
   | none=>pure (.done .next)
   | some v=>
    letOwnedTupleGo t0 it v
    assign t0 env v
    let mut ok:=true
    for c in ifs0 do
     if ok then ok <- isTrue c env (eval c env)
    if ok then
     let x <- eval iter env
     standAt iter.pos
     let x <- foldedSetIterable iter env x
     let _ <- runOwn (.compStart (.ListComp elt [⟨t0,i0,ifs0,0⟩,⟨target,iter,ifs,0⟩] scope pos) 1 (<- holding [x] (pyIter x)) acc env) env
    again (.compLoop (.ListComp elt [⟨t0,i0,ifs0,0⟩,⟨target,iter,ifs,0⟩] scope pos) 0 it acc env)):=by rfl
theorem kK {elt t0 i0 target iter:Expr} {ifs0 ifs:List Expr} {scope:Scope} {pos:Pos} {it acc:Value} {env:PySem.Env} (I:Nat->Shared->Prop)
  (turn:∀ n s,I n s->wpAny (model prog w) A (pyNext it) (λr s₁=>match r with
   | none=>R (.ok .next) s₁
   | some v=>wpAny (model prog w) A (assign t0 env v) (λ_ s₂=>
     wpAny (model prog w) A (forIn ifs0 true λc r=>if r=true then do let ok <- isTrue c env (eval c env);pure (ForInStep.yield ok) else pure (ForInStep.yield r)) (λok s₃=>
      if ok=true then wpAny (model prog w) A (eval iter env) (λx s₄=>
       wpAny (model prog w) A (pyIter x) (λitv s₅=>codeAny (model prog w) A (.compStart (.ListComp elt [⟨t0,i0,ifs0,0⟩,⟨target,iter,ifs,0⟩] scope pos) 1 itv acc env) (λr s₆=>match r with
        | .ok _=>∃ m,m<n/\I m s₆
        | .error _=>False) s₅) (λ_ _=>False) s₄) (λ_ _=>False) s₃
      else ∃ m,m<n/\I m s₃) (λ_ _=>False) s₂) (λ_ _=>False) s₁) (λ_ _=>False) s)
  (n:Nat) (h:I n s) (hfs:∀ x,foldedSetIterable iter env x=pure x) (ht:∀ v,letOwnedTupleGo t0 it v=pure ():=by intro _;rfl) :
  codeAny (model prog w) A (.compLoop (.ListComp elt [⟨t0,i0,ifs0,0⟩,⟨target,iter,ifs,0⟩] scope pos) 0 it acc env) R s:=by
 refine codeAny_loop rfl I (λn s hI=>?_) n h;refine wpAny_noted ?_;rw [af];refine Ag (BR (Ag (AB (turn n s hI) (λr s₁ h₁=>?_) λ_ _ h'=>h'.elim)));cases r with
 | none=>exact Ai h₁
 | some v=>
  refine Ag (Ea (ht v) ?_);refine Ag (AB h₁ (λ_ s₂ h₂=>Ag (AB h₂ (λok s₃ h₃=>?_) λ_ _ h'=>h'.elim)) λ_ _ h'=>h'.elim);cases ok with
  | false=>exact Ai ⟨rfl,h₃⟩
  | true=>
   refine Ag (AB h₃ (λx s₄ h₄=>Ag (BR ?_)) λ_ _ h'=>h'.elim);rw [hfs x];refine Ag (Ai (Ag (AS (AB h₄ (λitv s₅ h₅=>?_) λ_ _ h'=>h'.elim))));refine Ag (wpAny_runOwn (BM h₅ λr s₆ h₆=>?_));cases r with
   | ok f=>exact Ai ⟨rfl,h₆⟩
   | error e=>exact h₆.elim
end
def hX (caps:List Nat) (v:TI) (u:TT) (n:TI) (l:TT) (te:TE):TE:=λσ H Q=>v σ H λJ s=>∀ a,s a=none->∃ W:Nat->Nat->List V->Hp->Prop,(∃ m,W 0 m [] (upd s a (.lst []))) /\
 ∀ i m ys f,W i m ys f->f a=some (.lst ys)/\((J.stop i f/\Q (.ref a) f)\/(J.go i f/\∀ x r,J.yld i f x r->u (some x :: none :: i6 caps σ) r λb p=>
  if b=true then n (some x :: none :: i6 caps σ) p λo w=>∃ k:Nat->Nat->List V->Hp->Prop,(∃ g,k 0 g ys w) /\
   ∀ j g d e,k j g d e->e a=some (.lst d)/\((o.stop j e/\∃ m',m'<m/\W (i+1) m' d e)\/(o.go j e/\∀ y t,o.yld j e y t->l (some x :: some y :: i6 caps σ) t λA q=>
    if A=true then te (some x :: some y :: i6 caps σ) q λz h=>h a=some (.lst d)/\d.length<sizeLine/\∃ c,c<g/\k (j+1) c (d++[z]) (upd h a (.lst (d++[z])))
    else ∃ c,c<g/\k (j+1) c d q))
  else ∃ m',m'<m/\W (i+1) m' ys p))
theorem jn {V D l:Expr} {x y:Str} {px py:Pos} {ifs G:List Expr} {a:Scope} {pos:Pos} {N':List Str} {caps:List Nat} {wi wi1:TI} {tc tc1:TT} {te:TE}
  (T:CompText X.N X.env N' 2 caps a) (hc:X.calm=true) (hN:N'.Nodup) (hx0:N'[0]?=some x) (hy0:N'[1]?=some y) (hxl:a.names.lookup x=some .local) (hyl:a.names.lookup y=some .local) (hi:PI X (.Name x px) D wi)
  (ht:∀ pins C g s H,PTL (b3 X pins N' a C g s H) ifs tc) (hi1:∀ pins C g s H,PI (b3 X pins N' a C g s H) (.Name y py) l wi1) (ht1:∀ pins C g s H,PTL (b3 X pins N' a C g s H) G tc1)
  (he:∀ pins C g s H,PE (b3 X pins N' a C g s H) V te)
  (hs:∀ x,foldedSetIterable D X.env x=pure x) (hs2:∀ env x,foldedSetIterable l env x=pure x):PE X (.ListComp V [⟨.Name x px,D,ifs,0⟩,⟨.Name y py,l,G,0⟩] a pos) (hX caps wi tc wi1 tc1 te):=by
 intro pins s σ H Q I h;have fr:∀ x∈a.names,x.2=NameKind.free->∃ c,X.env.cells.lookup x.1=some c:=λx hx hk=>I.ok.has x.1 (T.free x hx hk).2;rw [Eg];refine BS rfl hs (m9 fr) T.kind T.loc ?_;refine thn (hi pins s σ H _ I h) λv s1 h1=>thn h1 λitv f h2=>?_;obtain ⟨it,g,tn,J,w,rfl,I2,Tn,st2,f2,h2⟩:=h2;obtain ⟨W,⟨m0,w0⟩,turn⟩:=h2 f.heap.objs.size (I2.hok.fresh (Ap _));have hlt:=λb k=>let ⟨o,e,_⟩:=Tn.obj _ _ st2 b k;Am e
 refine AK (Cm T.cell (by intro y hy;simp at hy) (λh₁ F A=>?_) T.kind);have hC:(f.heap.push { cls:=.type "list",dict:=none,data:=.seq ([]:List Value).toArray }).objs.size=f.heap.objs.size+1:=BG ..;rw [hC] at F A;have old:=λb o e=>A.extBut b o (Aq (AE (Am e))) (Ah _ (Ah _ e));have hacc:=A.extBut _ _ (Aq (AI _)) (Ah _ (An _ rfl));have L:=Tn.keep _ _ _ st2 λb _ o e=>old b o e;have I3:=y7 (t:=f.toks+([]:List (Str×Value)).length) T I2 f2 hlt F old hacc;have P:∀ {H':Hp},(∀ b∈g,H' b=none)->∀ b∈g,J8 (b3 X pins N' a (f.heap.objs.size+1) g f w) [] H' b:=λhn b k=>by
  refine ⟨hn b k,(I3.ok.exf b k).1,I3.ok.exfs b k,.inl k,(I3.ok.exf b k).2,λp hp=>?_⟩;have hp':p∈X.pn++pins:=by
   have:=hp;rwa [Bj] at this
  exact (f2 b k).2.2.2.2.2 p hp'
 have loop:∀ s3:Shared,s3={ f with heap:=h₁,toks:=f.toks+([]:List (Str×Value)).length } ->
   codeAny (model X.prog X.w) X.A (.compLoop (.ListComp V [⟨.Name x px,D,ifs,0⟩,⟨.Name y py,l,G,0⟩] a pos) 0 (.ref it) (.ref f.heap.objs.size) (compEnvC a (D1 X.env.cells a.names) (f.heap.objs.size+1) X.env))
    (compPost (model X.prog X.w) X.A X.xe none (EP X pins σ Q) (.ref f.heap.objs.size) (f.heap.objs.size+1)) s3:=by
  rintro s3 rfl;refine kK (λn s'=>∃ i ys H',Inv (b3 X pins N' a (f.heap.objs.size+1) g f w) [] (none :: none :: i6 caps σ) H' s'/\tn i s'.heap/\(∀ b∈g,H' b=none)/\W i n ys H') ?_ m0
   ⟨0,[],_,I3,L,λb k=>by rw [b1 (Aq (hlt b k))];exact (f2 b k).1,w0⟩ (hs2 _) (λ_=>rfl)
  rintro n s4 ⟨i,ys,H4,I4,st4,fr4,w4⟩;obtain ⟨hacc4,turn4⟩:=turn i n ys H4 w4;rcases turn4 with ⟨stop,q⟩ | ⟨go,step⟩
  ·refine thn (Tn.done (b3 X pins N' a (f.heap.objs.size+1) g f w) rfl rfl rfl hc i [] s4 _ H4 (λ_ _=>False) I4 (P fr4) st4 stop) λr s5 ⟨hr,I5⟩=>?_;subst hr;obtain ⟨m5,hn5,_⟩:=id I5.loc;refine ⟨m5,hn5,λh' hs'=>?_⟩;refine ⟨.ref f.heap.objs.size,H4,?_,rfl,q⟩;refine I2.call' I5.os (Un.sameBut I5.base hs' (Bm _)) (I5.hok.sameBut I5.free hs') I5.bare λb k=>?_;have:=f2 b k;exact ⟨this.2.2.2.1,this.2.1,this.2.2.2.2.1,this.2.2.2.2.2⟩
  ·refine thn (Tn.item (b3 X pins N' a (f.heap.objs.size+1) g f w) rfl rfl rfl hc i [] s4 _ H4 (λ_ _=>False) I4 (P fr4) st4 go) λr s5 ⟨u,hr,h5⟩=>?_;subst hr;refine b5 (u0 rfl (thn h5 λ_ s6 ⟨xv,H6,I6,r6,y6,st6,fr6⟩=>?_));have I6':=I6.pinned (P fr6) (Tn.obj _ _ st6);refine thn (v7 (X:=b3 X pins N' a (f.heap.objs.size+1) g f w) hN hx0 (.inl (AM hxl)) (.inr (AM hxl)) _ s6 _ H6 xv u (λσ2 H4=>σ2=some xv :: none :: i6 caps σ/\H4=H6) I6' r6 ⟨rfl,rfl⟩) λ_ s7 ⟨σ7,H7,I7,e7,e7'⟩=>?_;subst e7 e7';have K:∀ {O:St} {U:Hp} {Y:Shared},Inv (b3 X pins N' a (f.heap.objs.size+1) g f w) ([]++i3 g s6.heap) O U Y->tn (i+1) Y.heap/\∀ b∈g,U b=none:=λ{O U Y} S=>by
    refine ⟨Tn.keep _ _ _ st6 λb k o e=>(S.pin (b,o) (Ar _ (Ar _ (d9 k e)))).1,λb k=>?_⟩;obtain ⟨o,e,d⟩:=Tn.obj _ _ st6 b k;exact (S.pin (b,o) (Ar _ (Ar _ (d9 k e)))).2.1
   refine b5 (thn (ht pins _ g f w _ s7 _ _ _ I7 (step xv _ y6)) λb Y ⟨U,S,q8⟩=>?_);have wk:∀ {H9:Hp} {s9:Shared},Inv (b3 X pins N' a (f.heap.objs.size+1) g f w) ([]++i3 g s6.heap) (some xv :: none :: i6 caps σ) H9 s9->Inv (b3 X pins N' a (f.heap.objs.size+1) g f w) [] (none :: none :: i6 caps σ) H9 s9:=λ{H9 s9} I9=>
    I9.unpinned.weak rfl λj v e=>by
     cases j with
     | zero=>simp at e
     | succ j=>simpa using e
   cases b with
   | false=>
    obtain ⟨m',hm,w'⟩:=q8;exact ⟨m',hm,i+1,ys,U,wk S,(K S).1,(K S).2,w'⟩
   | true=>
    rw [if_pos rfl] at q8 ⊢;refine b5 (thn (hi1 pins _ g f w _ Y _ U _ S q8) λv9 s9 h9=>b5 (thn h9 λitv1 s10 h10=>?_));obtain ⟨it1,N,tn1,J1,H10,rfl,I10,M,st10,f10,W1,⟨m1,w1⟩,turn1⟩:=h10;have E:∀ {H':Hp},(∀ b∈N,H' b=none)->∀ b∈N,J8 (b3 X pins N' a (f.heap.objs.size+1) g f w) ([]++i3 g s6.heap) H' b:=λhn b k=>⟨hn b k,(f10 b k).2⟩;have R:∀ s11:Shared,s11=s10->codeAny (model X.prog X.w) X.A (.compLoop (.ListComp V [⟨.Name x px,D,ifs,0⟩,⟨.Name y py,l,G,0⟩] a pos) 1 (.ref it1) (.ref f.heap.objs.size) (compEnvC a (D1 X.env.cells a.names) (f.heap.objs.size+1) X.env))
      (λr Z=>match r with
       | .ok _=>∃ m,m<n/\∃ i ys H',Inv (b3 X pins N' a (f.heap.objs.size+1) g f w) [] (none :: none :: i6 caps σ) H' Z/\tn i Z.heap/\(∀ b∈g,H' b=none)/\W i m ys H'
       | .error _=>False) s11:=by
     rintro s11 rfl;refine kh (λn1 s'=>∃ j zs H',Inv (b3 X pins N' a (f.heap.objs.size+1) g f w) ([]++i3 g s6.heap) (some xv :: none :: i6 caps σ) H' s'/\tn1 j s'.heap/\(∀ b∈N,H' b=none)/\W1 j n1 zs H') ?_ m1
      ⟨0,ys,H10,I10,st10,λb k=>(f10 b k).1,w1⟩ (λ_=>rfl)
     rintro n1 t4 ⟨j,zs,G4,K4,ct4,cr4,v4⟩;obtain ⟨hacc5,turn5⟩:=turn1 j n1 zs G4 v4;refine b5 ?_;rcases turn5 with ⟨stop1,m',hm',w'⟩ | ⟨go1,step1⟩
     ·refine thn (M.done (b3 X pins N' a (f.heap.objs.size+1) g f w) rfl rfl rfl hc j _ t4 _ G4 (λ_ _=>False) K4 (E cr4) ct4 stop1) λr t5 ⟨hr,K5⟩=>?_;subst hr;exact ⟨m',hm',i+1,zs,G4,wk K5,(K K5).1,(K K5).2,w'⟩
     ·refine thn (M.item (b3 X pins N' a (f.heap.objs.size+1) g f w) rfl rfl rfl hc j _ t4 _ G4 (λ_ _=>False) K4 (E cr4) ct4 go1) λr t5 ⟨u1,hr,g5⟩=>?_;subst hr;refine b5 (u0 rfl (thn g5 λ_ t6 ⟨yv,G6,K6,rr6,yy6,ct6,cr6⟩=>?_));have K6':=K6.pinned (E cr6) (M.obj _ _ ct6);refine thn (v7 (X:=b3 X pins N' a (f.heap.objs.size+1) g f w) hN hy0 (.inl (AM hyl)) (.inr (AM hyl)) _ t6 _ G6 yv u1 (λσ2 H4=>σ2=some xv :: some yv :: i6 caps σ/\H4=G6) K6' rr6 ⟨rfl,rfl⟩) λ_ t7 ⟨σ7,G7,K7,e7,e7'⟩=>?_;subst e7 e7';have B:∀ {O:St} {U:Hp} {Y:Shared},Inv (b3 X pins N' a (f.heap.objs.size+1) g f w) (([]++i3 g s6.heap)++i3 N t6.heap) O U Y->tn1 (j+1) Y.heap/\∀ b∈N,U b=none:=λ{O U Y} S=>by
       refine ⟨M.keep _ _ _ ct6 λb k o e=>(S.pin (b,o) (Ar _ (Ar _ (d9 k e)))).1,λb k=>?_⟩;obtain ⟨o,e,d⟩:=M.obj _ _ ct6 b k;exact (S.pin (b,o) (Ar _ (Ar _ (d9 k e)))).2.1
      have wk1:∀ {H9:Hp} {s9:Shared},Inv (b3 X pins N' a (f.heap.objs.size+1) g f w) (([]++i3 g s6.heap)++i3 N t6.heap) (some xv :: some yv :: i6 caps σ) H9 s9->Inv (b3 X pins N' a (f.heap.objs.size+1) g f w) ([]++i3 g s6.heap) (some xv :: none :: i6 caps σ) H9 s9:=λ{H9 s9} I9=>
       I9.unpinned.weak rfl λj v e=>by
        match j with
        | 0=>simpa using e
        | 1=>simp at e
        | j+2=>simpa using e
      refine b5 (thn (ht1 pins _ g f w _ t7 _ _ _ K7 (step1 yv _ yy6)) λb2 t8 ⟨G8,K8,p8⟩=>?_);cases b2 with
      | false=>
       obtain ⟨m1',hm,w'⟩:=p8;exact ⟨m1',hm,j+1,zs,G8,wk1 K8,(B K8).1,(B K8).2,w'⟩
      | true=>
       refine b5 (thn (he pins _ g f w _ t8 _ G8 _ K8 p8) λz t9 ⟨zv,G9,K9,rr9,hacc9,hl9,m1',hm,w'⟩=>?_);refine b5 (thn (y0 _ t9 _ G9 (.ref f.heap.objs.size) [zv] (.ref f.heap.objs.size) [z] (λ_ H'=>H'=upd G9 f.heap.objs.size (.lst (zs++[zv]))) K9 rfl (.cons rr9 .nil) ⟨_,zs,zv,rfl,rfl,hacc9,hl9,rfl⟩) λ_ t10 ⟨_,G10,K10,_,e10⟩=>?_);subst e10;exact ⟨m1',hm,j+1,zs++[zv],_,wk1 K10,(B K10).1,(B K10).2,w'⟩
    exact gG (R _ rfl) (M.self _ 0 _ _ _ st10 (R _ rfl))
 have fin:=Cb (loop _ rfl) (Tn.self _ 0 _ _ _ L (loop _ rfl));rw [<- hC] at fin;exact fin
mutual
inductive DAt (K:PySem.W.Frag) (H:Hp):V->PyData->Prop where
 | non:DAt K H .non .none
 | bl (b:Bool):DAt K H (.bl b) (.bool b)
 | int (i:Int):DAt K H (.int i) (.int i)
 | str (x:Str):DAt K H (.str x) (.str x)
 | lst {a:Addr} {xs:List V} {ds:List PyData}:SqL K H a xs->DAll K H xs ds->DAt K H (.ref a) (.list ds)
 | tup {a:Addr} {xs:List V} {ds:List PyData}:SqT K H a xs->DAll K H xs ds->DAt K H (.ref a) (.tuple ds)
inductive DAll (K:PySem.W.Frag) (H:Hp):List V->List PyData->Prop where
 | nil:DAll K H [] []
 | cons {x:V} {d:PyData} {xs:List V} {ds:List PyData}:DAt K H x d->DAll K H xs ds->DAll K H (x :: xs) (d :: ds)
end
section
variable {X:Cx} {pins:List (Addr×Obj)} {σ:St} {H:Hp} {s:Shared}
mutual
theorem DAt.reads (I:Inv X pins σ H s):∀ {v:V} {d:PyData},DAt X.K H v d->∀ {u:Value},RelV v u->∃ a,Reads s.heap u d a
 | _,_,.non,u,r=>by cases (show u=Value.none from r);exact ⟨_,.none⟩
 | _,_,.bl b,u,r=>by cases (show u=Value.bool b from r);exact ⟨_,.bool b⟩
 | _,_,.int i,u,r=>by obtain ⟨t,e⟩:=(r);subst e;exact ⟨_,.int i t⟩
 | _,_,.str x,u,r=>by obtain ⟨t,e⟩:=(r);subst e;exact ⟨_,.str x t⟩
 | _,_,.lst h q,u,r=>by
  cases (r);obtain ⟨f,c,⟨o,n,g,j,m,l⟩,_⟩:=I.list h;obtain ⟨a,k⟩:=DAll.reads I q c;exact ⟨_,.list g j l k⟩
 | _,_,.tup h q,u,r=>by
  cases (r);obtain ⟨f,c,⟨o,g,j,n,l⟩,_⟩:=I.tuple h;obtain ⟨a,k⟩:=DAll.reads I q c;exact ⟨_,.tuple g j l k⟩
theorem DAll.reads (I:Inv X pins σ H s):∀ {vs:List V} {ds:List PyData},DAll X.K H vs ds->∀ {us:List Value},Vals vs us->∃ as,ReadsAll s.heap us ds as
 | _,_,.nil,us,r=>by cases r;exact ⟨_,.nil⟩
 | _,_,.cons h q,us,r=>by
  cases r with
  | cons r1 r2=>
   obtain ⟨as,h1⟩:=DAt.reads I h r1;obtain ⟨bs,h2⟩:=DAll.reads I q r2;exact ⟨_,.cons h1 h2⟩
end
structure Shows (d:PyData):Prop where
 sh:d.showable=true
 nd:d.hasDict=false
 dp:d.depth<=60
 sz:d.shown.length<=sizeLine
theorem fX (hg:X.A.guards=some []) (hu:X.A.units+64<cLine):j7 X (.builtin "repr") (λxs H Q=>∃ v d,xs=[v]/\DAt X.K H v d/\Shows d/\Q (.str d.shown) H):=by
 intro pins s σ H xs us Q I r h;obtain ⟨v,d,rfl,hd,S,q⟩:=h;obtain ⟨u,rfl,ru⟩:=M3 r;have sh:=S.sh;have sz:=S.sz;cases hd with
 | non=>cases (ru);exact PySem.P.repr_of_none ⟨.str (PyData.shown .none),H,I.tok _,⟨_,rfl⟩,q⟩
 | bl b=>cases (ru);exact PySem.P.repr_of_bool ⟨.str (PyData.shown (.bool b)),H,I.tok _,⟨_,rfl⟩,q⟩
 | int i=>obtain ⟨t,e⟩:=(ru);subst e;exact PySem.P.repr_of_int (by simpa [PyData.showable] using sh) ⟨.str (PyData.shown (.int i)),H,I.tok _,⟨_,rfl⟩,q⟩
 | str x=>obtain ⟨t,e⟩:=(ru);subst e;exact PySem.P.repr_of_str ⟨.str (PyData.shown (.str x)),H,I.tok _,⟨_,rfl⟩,q⟩ sz
 | lst h1 h2=>
  obtain ⟨as,rr⟩:=DAt.reads I (.lst h1 h2) ru;obtain ⟨a,rfl⟩:=isRef_of_reads rr rfl;exact repr_of_reads' rr sh (PyData.noDict_hsm S.nd) hg (by have:=S.dp;omega) (λ_ _ e=>e) (λh' u tk hk=>⟨.str (PyData.shown _),H,I.kept hk,⟨_,rfl⟩,q⟩) sz
 | tup h1 h2=>
  obtain ⟨as,rr⟩:=DAt.reads I (.tup h1 h2) ru;obtain ⟨a,rfl⟩:=isRef_of_reads rr rfl;exact repr_of_reads' rr sh (PyData.noDict_hsm S.nd) hg (by have:=S.dp;omega) (λ_ _ e=>e) (λh' u tk hk=>⟨.str (PyData.shown _),H,I.kept hk,⟨_,rfl⟩,q⟩) sz
end
def tH (K:PySem.W.Frag) (a:Bool):R2:=λx y H Q=>∃ d e,DAt K H x d/\DAt K H y e/\d.canLay0=true/\e.canLay0=true/\min d.depth e.depth<=60/\Q (.bl (if a then !PyData.eqv d e else PyData.eqv d e)) H
section
variable {X:Cx}
theorem oU (k:X.A.units+64<cLine):OpR X (compareOp .Eq) (tH X.K false):=by
 intro pins s σ H x y v u Q I i c h;obtain ⟨d,e,hd,a,b,f,m,q⟩:=h;obtain ⟨l,g⟩:=hd.reads I i;obtain ⟨n,j⟩:=a.reads I c;exact SeqAt.compareEq_reads g j b f (by omega) ⟨.bl (PyData.eqv d e),H,I,rfl,q⟩
theorem om (k:X.A.units+64<cLine):OpR X (compareOp .NotEq) (tH X.K true):=by
 intro pins s σ H x y v u Q I i c h;obtain ⟨d,e,hd,a,b,f,m,q⟩:=h;obtain ⟨l,g⟩:=hd.reads I i;obtain ⟨n,j⟩:=a.reads I c;exact SeqAt.compareNe_reads g j b f (by omega) ⟨.bl (!PyData.eqv d e),H,I,rfl,q⟩
end
end L2
namespace L2
open PySem PySem.W PySem.Calls PyProof.Rows
def bD (K:Frag) (C:Addr):Bool:=match K.lookup C with
 | some ⟨c,_,.cls a,b⟩=>c==.type "type" && !a.hasDel&&a.hasDict&&(b.toList[4]?).join==some (.builtin "ValueError.__new__")&&!a.mro.isEmpty&&a.mro.contains (.ref C)&&a.mro.contains (.type "ValueError")&&a.mro.contains (.type "BaseException") &&
   !a.mro.contains (.type "AttributeError")&&!a.mro.contains (.type "NameError")&&specialIn K (.ref C) "__call__" == some (some (.builtin "type.__call__"))&&instIn K (.ref C) (.type "type")==some true
 | _=>false
end L2
namespace L2
open PySem PySem.W PySem.Calls PyProof.Rows Builtin Builtin.ObjectAttr
section
variable {prog:Program} {w:World} {A:Around} {E:Value->Shared->Prop} {s:Shared} {K:Frag} {x C:Addr} {ox:Obj} {od:Option Obj} {name:Str} {expr:Bool} {Q:Value->Shared->Prop}
structure XCls (K:Frag) (C:Addr):Prop where
 ga:findIn K (.ref C) "__getattribute__" = some (some (.builtin "BaseException.__getattribute__"))
 gg:findIn K (.ref C) "__getattr__" = some none
 be:mroIn K C (.type "BaseException")=some true
 ob:mroIn K C (.type "object")=some true
 hd:hasDictIn K C=true
 cl:findIn K (.ref C) "__class__" = some (some (.builtin "object.__class__"))
 cg:specialIn K (.builtin "object.__class__") "__get__" = some (some (.builtin "getset_descriptor.__get__"))
 ct:takesIn K (.builtin "object.__class__")=some true
end
def O9:List Value->Bool
 | .ref _ :: r=>O9 r
 | l=>l==[.type "ValueError",.type "Exception",.type "BaseException",.type "object"]
section
variable {prog:Program} {w:World} {A:Around} {E:Value->Shared->Prop} {s:Shared} {K:Frag} {x C:Addr} {ox:Obj} {od:Option Obj} {name:Str} {R:Result->Shared->Prop} {v:Value}
def tbV:Option Addr->Value
 | none=>.none
 | some T=>.ref T
def IsX (a:Option Addr) (h:Heap) (x C:Addr) (d:Option Addr):Prop:=∃ vs,h.get? x=some { cls:=.ref C,dict:=d,data:=.fields vs }/\vs.size=6/\vs[1]?=some (tbV a)
end
end L2
namespace L2
open PySem PySem.Spec PyProof.Rows
def N3 (a:Option Addr) (x C:Addr) (d:Option Addr):HO:=.ext λh=>IsX a h x C d
abbrev lu (x C:Addr) (d:Option Addr):HO:=N3 none x C d
def iT (d:Addr) (fs:List (Str×V)):HO:=.ext λh=>∃ mA,h.Ns1 d mA/\(∀ f,RelO (fs.lookup f) (mA f))/\PySem.Within mA (fs.map (·.1))/\fs.length<=900
theorem okX {h:Heap} {x C:Addr} {d:Option Addr} (i:IsX fr h x C d):ObjOk P w H h x (N3 fr x C d):=by
 obtain ⟨vs,e,z⟩:=id i;refine ⟨i,⟨_,e⟩,λf g ⟨a,c,b⟩ k=>⟨a,k _ c,b⟩⟩
structure XC (K:PySem.W.Frag) (C:Addr):Prop where
 xc:XCls K C
 ex:bD K C=true
 vm:(PySem.W.clsIn K C).any (λcd=>O9 cd.mro)=true
 sa:PySem.W.findIn K (.ref C) "__setattr__" = some (some (.builtin "object.__setattr__"))
 kp:PySem.W.keepIn K (.ref C)=true
section
variable {X:Cx} {pins:List (Addr×Obj)} {σ:St} {H:Hp} {s:Shared} {x C:Addr}
theorem Inv.isX {a:Option Addr} {d:Option Addr} (I:Inv X pins σ H s) (e:H x=some (N3 a x C d)):IsX a s.heap x C d:=(I.hok x _ e).1
end
theorem pW {o:HO} (h:H x=some o):upd H x o=H:=funext λb=>by
 by_cases e:b=x
 ·subst e;rw [b6,h]
 ·rw [b1 e]
def TbO (T:Addr):HO:=.ext λh=>∃ o a,h.get? T=some o/\o.data=.fields a/\3<a.size
theorem okT {o:Obj} {a:Array Value} (e:h.get? T=some o) (d:o.data=.fields a) (z:3<a.size):ObjOk P w H h T (TbO T):=
 ⟨⟨o,a,e,d,z⟩,⟨o,e⟩,λc b ⟨o,a,e,d,z⟩ k=>⟨o,a,k _ e,d,z⟩⟩
structure Fx (K:PySem.W.Frag) (H:Hp) (a C:Addr) (d tb:Option Addr):Prop where
 xc:XC K C
 at_:H a=some (N3 tb a C d)
 dc:∀ d',d=some d'->d'≠a/\∃ fs,H d'=some (iT d' fs)
 tb_:∀ T,tb=some T->T≠a/\H T=some (TbO T)
def Mv (H:Hp) (a C:Addr) (d:Option Addr) (H':Hp):Prop:=(∀ b o,b≠a->H b=some o->H' b=some o)/\∃ c,H' a=some (N3 c a C d)
section
variable {X:Cx} {pins:List (Addr×Obj)} {σ:St} {H:Hp} {s:Shared} {a C T:Addr} {d tb:Option Addr} {A:Around} {E:Value->Shared->Prop} {Q:Unit->Shared->Prop}
theorem Inv.slots (I:Inv X pins σ H s) (hs:Heap.SlotsOnly (frs X.stack) s.heap h'):Inv X pins σ H { s with heap:=h' }:=by
 have k:∀ b u,H b≠none->s.heap.get? b=some u->h'.get? b=some u:=λb u n e=>(hs.2.1 b λz=>n (I.stkFree b z)).trans e;have f:Un (frs X.stack) [] H H s.heap h':=⟨λb o e _ g _=>(hs.2.1 b g).trans e,λb o e _ _ _=>hs.2.2 b o e,λ_ _ _ n _=>n,λb o e _=>let ⟨h,q⟩:=hs.2.2 b o e;⟨_,q⟩,λ_ _ e=>e,λ_ _ _ e=>e,λb ps e=>⟨#[],by rw [e];simp⟩⟩;have d:=λb u e=>(I.hok b u e).stay (λc v a q=>k c v (by
  rcases a with a | a
  ·rw [a,e];simp
  ·rw [a];simp) q) (λ_ q=>q) λ_ _ q=>q
 exact I.call f d I.bare λb z=>absurd z (by simp)
theorem Fx.isX (b:Fx X.K H a C d tb) (I:Inv X pins σ H s):IsX tb s.heap a C d:=I.isX b.at_
theorem Inv.setTb (I:Inv X pins σ H s) (e:H T=some (TbO T)) (k:Inv X pins σ H { s with heap:=s.heap.update T (Obj.mapFields (·.setIfInBounds 3 v)) }->Q () { s with heap:=s.heap.update T (Obj.mapFields (·.setIfInBounds 3 v)) }) :
  wpAny (model X.prog X.w) A (setField (.ref T) 3 v) Q E s:=by
 obtain ⟨o,g,c,f,z⟩:=(I.hok T _ e).1;refine BW c f z (k ?_);have hd:=Obj.data_mapFields f (·.setIfInBounds 3 v);have d:=AY (Obj.mapFields (·.setIfInBounds 3 v)) c (Obj.isFreed_of_fields hd);have a:=I.write (t':=s.toks) (by rw [e];exact True.intro) (.inl rfl) (λb u n q=>(Bq _ _ (Ne.symm n)).trans q) ⟨_,d⟩ (okT d hd (by simpa using z));rw [pW e] at a;exact a
theorem bP (I:Inv X pins σ H s) (r:A.frames=some X.stack) (i:X.stack=X.env :: X.outer) (x:X.env.frame=some X.env.locals) (j:Fx X.K H a C d tb)
  (h:∀ H' s' T,Inv X pins σ H' s'->Fx X.K H' a C d (some T)->Mv H a C d H'->Q () s') :
  wpAny (model X.prog X.w) A (do let B <- frameOf X.env;let pl <- entryPlaceOf X.env.locals hadNext;let b <- EntryCells.newEntry head B .none (rawInt X.env.locals) .none pl;setField (.ref a) 1 b) Q E s:=by
 have p:=I.stack;rw [i] at p r;refine Ag (wpAny_frameOf_fun r p x λc e=>?_);have v:=I.slots (by rw [i];exact e);refine Ag (wpAny_entryPlaceOf λpl l=>?_);refine Ag (AK ?_ (l.sizeOk5 _ _ _ _ _));have D:=An c (o:={ cls:=.type "traceback",dict:=none,data:=.fields ([head,.ref X.env.locals,.none,rawInt X.env.locals,.none]++(if pl.isEmpty then List.replicate 6 Value.none else pl)).toArray }) rfl;have m:=v.laid (t':=s.toks) (λb u q=>Ah _ q) (Ap _)
  (okT D rfl (by simp <;> omega))
 have k:=v.hok.fresh (Ap _);have f:c.objs.size≠a:=λz=>by rw [z,j.at_] at k;cases k
 have t:upd H c.objs.size (TbO c.objs.size) a=some (N3 tb a C d):=by rw [b1 f.symm];exact j.at_
 generalize (c.push { cls:=.type "traceback",dict:=none,data:=.fields ([head,.ref X.env.locals,.none,rawInt X.env.locals,.none]++(if pl.isEmpty then List.replicate 6 Value.none else pl)).toArray })=h₂ at m ⊢;obtain ⟨vs,g,hsz,F⟩:=m.isX t;refine BW g rfl (by omega) ?_;have w:=AY (Obj.mapFields (·.setIfInBounds 1 (Value.ref c.objs.size))) g rfl;have y:=m.write (t':=s.toks) (o:=N3 (some c.objs.size) a C d) (by rw [t];exact True.intro) (.inl rfl)
  (λb u n q=>(Bq _ _ (Ne.symm n)).trans q) ⟨_,w⟩ (okX ⟨_,w,by simpa using hsz,by simp [tbV,hsz]⟩)
 refine h _ _ c.objs.size y ⟨j.xc,b6,λd' z=>?_,λT z=>?_⟩ ⟨λb o n q=>?_,_,b6⟩
 ·obtain ⟨n,fs,q⟩:=j.dc d' z;exact ⟨n,fs,by rw [b1 n,b1 (b4 q k)];exact q⟩
 ·cases z;exact ⟨f,by rw [b1 f];exact b6⟩
 ·rw [b1 n,b1 (b4 q k)];exact q
theorem mE (I:Inv X pins σ H s) (i:A.frames=some X.stack) (f:X.stack=X.env :: X.outer) (g:X.env.frame=some X.env.locals) (c:Fx X.K H a C d tb)
  (h:∀ H' s' T,Inv X pins σ H' s'->Fx X.K H' a C d (some T)->Mv H a C d H'->Q () s'):wpAny (model X.prog X.w) A (noteFrame (.ref a) X.env) Q E s:=by
 obtain ⟨vs,e,hsz,j⟩:=c.isX I;unfold noteFrame;simp only [g];cases tb with
 | none=>
  refine Ag (CI e rfl j ?_);rw [if_neg (by decide)];exact bP I i f g c h
 | some T=>
  refine Ag (CI e rfl (x:=.ref T) j ?_);rw [if_pos (show (Value.ref T != Value.none)=true from by simp)];obtain ⟨t,k⟩:=c.tb_ T rfl;obtain ⟨o,p,n,r,z⟩:=(I.hok T _ k).1;refine Ag (CI n r (Bc z) ?_);by_cases l:(p[3]==rawInt X.env.locals)=true
  ·rw [if_pos l];exact Ai (h H s T I c ⟨λb o _ q=>q,_,c.at_⟩)
  ·rw [if_neg l];exact Ag (I.setTb k λm=>bP m i f g c h)
theorem fo (I:Inv X pins σ H s) (c:Fx X.K H a C d (some T)) (h:∀ s',Inv X pins σ H s'->Q () s'):wpAny (model X.prog X.w) A (setFlight (.ref a) fl) Q E s:=by
 obtain ⟨vs,b,hsz,f⟩:=c.isX I;refine Ag (CI b rfl (x:=.ref T) f ?_);rw [if_pos (show (Value.ref T != Value.none)=true from by simp)];exact I.setTb (c.tb_ T rfl).2 λe=>h _ e
theorem cN (I:Inv X pins σ H s) (f:A.frames=some X.stack) (c:X.stack=X.env :: X.outer) (i:X.env.frame=some X.env.locals) (l:Fx X.K H a C d tb)
  (h:∀ H' s' T,Inv X pins σ H' s'->Fx X.K H' a C d (some T)->Mv H a C d H'->Q () s'):wpAny (model X.prog X.w) A (leaving X.env (.ref a)) Q E s:=by
 exact Ag (mE I f c i l λg n T k b j=>fo k b λm e=>h g m T e b j)
end
end L2
namespace Hn
open PySem L2
def spHE (K:PySem.W.Frag):Sp:=λvs H Q _=>∃ (x:Addr) (y:V) (C:Addr) (d:Option Addr),vs=[.ref x,y]/\XC K C/\H x=some (lu x C d)/\Q .non H
structure Fmt (K:PySem.W.Frag) (H:Hp) (v:V) (d:PyData):Prop where
 at_:DAt K H v d
 sh:Shows d
 l1:d.shown.length<=4000
 l2:∀ x,v=.str x->x.length<=4000
def Got (H:Hp) (x C:Addr) (fs:List (Str×V)) (H':Hp):Prop:=∃ d,H d=none/\d≠x/\H' x=some (lu x C (some d))/\H' d=some (iT d fs)/\∀ b,b≠x->b≠d->H' b=H b
def sp1 (K:PySem.W.Frag) (f:Str):Sp:=λvs H Q _=>∃ (x:Addr) (v:V) (C:Addr) (a:PyData),vs=[.ref x,v]/\XC K C/\A9 K C f/\H x=some (lu x C none)/\Fmt K H v a/\∀ H',Got H x C [(f,v)] H'->Q .non H'
def sp2 (K:PySem.W.Frag) (f g:Str):Sp:=λvs H Q _=>∃ (x:Addr) (v u:V) (C:Addr) (a b:PyData),vs=[.ref x,v,u]/\XC K C/\A9 K C f/\A9 K C g/\H x=some (lu x C none)/\Fmt K H v a/\Fmt K H u b /\
 ∀ H',Got H x C [(f,v),(g,u)] H'->Q .non H'
end Hn
namespace L3
open PySem PySem.Spec PyProof.Rows L2
inductive D where
 | non | bl (b:Bool) | int (i:Int) | str (x:Str) | tup (ds:List D) | lst (ds:List D) | scr (ds:List D) | ref (n:Nat)
inductive O where
 | lst (ds:List D) | dct (kvs:List (Key×D)) | exc (c:Nat) (fs:List (Str×D))
abbrev Sto:=List O
inductive R (α:Type) where
 | ok (a:α) (S:Sto) | exn (n:Nat) (S:Sto) | bad
abbrev M (α:Type):=Sto->R α
def ret {α:Type} (a:α):M α:=λS=>.ok a S
def bad {α:Type}:M α:=λ_=>.bad
def bind {α β:Type} (m:M α) (k:α->M β):M β:=λS=>match m S with
 | .ok a S'=>k a S'
 | .exn n S'=>.exn n S'
 | .bad=>.bad
abbrev Env:=List (Option D)
structure Mp where
 pl:List Addr
 rs:List Addr
def Mp.push (μ:Mp) (p:Addr):Mp:=⟨μ.pl++[p],μ.rs⟩
def TupAt (K:PySem.W.Frag) (μ:Mp) (H:Hp) (a:Addr) (xs:List V):Prop:=
 (Rd H a (.tup xs)/\a∉μ.pl/\a∉μ.rs)\/∃ (o:Obj) (its:Array Value) (n:Nat),K.lookup a=some o/\o.cls=.type "tuple"/\o.data=.seq its n/\its.size<=sizeLine/\Vals xs its.toList/\o.dict=none
def ScrAt (K:PySem.W.Frag) (μ:Mp) (H:Hp) (a:Addr) (xs:List V):Prop:=
 (Rd H a (.lst xs)/\a∉μ.pl/\a∉μ.rs)\/∃ (o:Obj) (its:Array Value) (n:Nat),K.lookup a=some o/\o.cls=.type "list"/\o.dict=none/\o.data=.seq its n/\its.size<=sizeLine/\Vals xs its.toList
def LstAt (μ:Mp) (H:Hp) (a:Addr) (xs:List V):Prop:=H a=some (.lst xs)/\a∉μ.pl/\a∉μ.rs
theorem TupAt.sq {K:PySem.W.Frag} {μ:Mp} {H:Hp} {a:Addr} {xs:List V} (h:TupAt K μ H a xs):SqT K H a xs:=h.imp (λz=>z.1) λ⟨o,its,n,a,b,c,d,e,_⟩=>⟨o,its,n,a,b,c,d,e⟩
theorem ScrAt.sq {K:PySem.W.Frag} {μ:Mp} {H:Hp} {a:Addr} {xs:List V} (h:ScrAt K μ H a xs):SqL K H a xs:=h.imp (λz=>z.1) id
theorem LstAt.sq {K:PySem.W.Frag} {μ:Mp} {H:Hp} {a:Addr} {xs:List V} (h:LstAt μ H a xs):SqL K H a xs:=.inl (.inl h.1)
mutual
inductive RD (K:PySem.W.Frag) (μ:Mp) (H:Hp):D->V->Prop where
 | non:RD K μ H .non .non
 | bl (b:Bool):RD K μ H (.bl b) (.bl b)
 | int (i:Int):RD K μ H (.int i) (.int i)
 | str (x:Str):RD K μ H (.str x) (.str x)
 | tup {a:Addr} {xs:List V} {ds:List D}:TupAt K μ H a xs->RDs K μ H ds xs->RD K μ H (.tup ds) (.ref a)
 | lst {a:Addr} {xs:List V} {ds:List D}:LstAt μ H a xs->RDs K μ H ds xs->RD K μ H (.lst ds) (.ref a)
 | scr {a:Addr} {xs:List V} {ds:List D}:ScrAt K μ H a xs->RDs K μ H ds xs->RD K μ H (.scr ds) (.ref a)
 | ref {n:Nat} {a:Addr}:μ.pl[n]?=some a->RD K μ H (.ref n) (.ref a)
inductive RDs (K:PySem.W.Frag) (μ:Mp) (H:Hp):List D->List V->Prop where
 | nil:RDs K μ H [] []
 | cons {d:D} {v:V} {ds:List D} {vs:List V}:RD K μ H d v->RDs K μ H ds vs->RDs K μ H (d :: ds) (v :: vs)
end
structure Lat (μ:Mp) (H:Hp) (μ':Mp) (H':Hp):Prop where
 pre:∀ (n:Nat) (a:Addr),μ.pl[n]?=some a->μ'.pl[n]?=some a
 oth:∀ a o,H a=some o->a∉μ.pl->H' a=some o
 new:∀ a,a∈μ'.pl->a∈μ.pl\/H a=none
 rsv:μ'.rs=μ.rs
theorem Lat.refl (μ:Mp) (H:Hp):Lat μ H μ H:=⟨λ_ _ h=>h,λ_ _ h _=>h,λ_ h=>.inl h,rfl⟩
theorem Lat.out {μ μ':Mp} {H H':Hp} (l:Lat μ H μ' H') {a:Addr} {o:HO} (h:H a=some o) (n:a∉μ.pl):a∉μ'.pl:=λz=>by
 rcases l.new a z with q | q
 ·exact n q
 ·rw [h] at q;cases q
theorem Lat.trans {μ μ1 μ2:Mp} {H H1 H2:Hp} (l:Lat μ H μ1 H1) (k:Lat μ1 H1 μ2 H2):Lat μ H μ2 H2:=by
 refine ⟨λn a h=>k.pre n a (l.pre n a h),λa o h n=>k.oth a o (l.oth a o h n) (l.out h n),λa h=>?_,k.rsv.trans l.rsv⟩;rcases k.new a h with q | q
 ·exact l.new a q
 ·by_cases m:a∈μ.pl
  ·exact .inl m
  ·right
   cases e:H a with
   | none=>rfl
   | some o=>rw [l.oth a o e m] at q;cases q
theorem Rd.later {μ μ':Mp} {H H':Hp} (l:Lat μ H μ' H') {a:Addr} {u:HO} (h:Rd H a u) (n:a∉μ.pl):Rd H' a u/\a∉μ'.pl:=by
 rcases h with h | ⟨o,h⟩
 ·exact ⟨.inl (l.oth _ _ h n),l.out h n⟩
 ·exact ⟨.inr ⟨o,l.oth _ _ h n⟩,l.out h n⟩
theorem TupAt.later {K:PySem.W.Frag} {μ μ':Mp} {H H':Hp} (l:Lat μ H μ' H') {a:Addr} {xs:List V} (h:TupAt K μ H a xs):TupAt K μ' H' a xs:=h.imp (λz=>⟨(Rd.later l z.1 z.2.1).1,(Rd.later l z.1 z.2.1).2,by rw [l.rsv];exact z.2.2⟩) id
theorem ScrAt.later {K:PySem.W.Frag} {μ μ':Mp} {H H':Hp} (l:Lat μ H μ' H') {a:Addr} {xs:List V} (h:ScrAt K μ H a xs):ScrAt K μ' H' a xs:=h.imp (λz=>⟨(Rd.later l z.1 z.2.1).1,(Rd.later l z.1 z.2.1).2,by rw [l.rsv];exact z.2.2⟩) id
theorem LstAt.later {μ μ':Mp} {H H':Hp} (l:Lat μ H μ' H') {a:Addr} {xs:List V} (h:LstAt μ H a xs):LstAt μ' H' a xs:=⟨l.oth _ _ h.1 h.2.1,l.out h.1 h.2.1,by rw [l.rsv];exact h.2.2⟩
mutual
theorem RD.later {K:PySem.W.Frag} {μ μ':Mp} {H H':Hp} (l:Lat μ H μ' H'):∀ {d:D} {v:V},RD K μ H d v->RD K μ' H' d v
 | _,_,.non=>.non
 | _,_,.bl b=>.bl b
 | _,_,.int i=>.int i
 | _,_,.str x=>.str x
 | _,_,.tup h r=>.tup (h.later l) (RDs.later l r)
 | _,_,.lst h r=>.lst (h.later l) (RDs.later l r)
 | _,_,.scr h r=>.scr (h.later l) (RDs.later l r)
 | _,_,.ref h=>.ref (l.pre _ _ h)
theorem RDs.later {K:PySem.W.Frag} {μ μ':Mp} {H H':Hp} (l:Lat μ H μ' H'):∀ {ds:List D} {vs:List V},RDs K μ H ds vs->RDs K μ' H' ds vs
 | _,_,.nil=>.nil
 | _,_,.cons h r=>.cons (RD.later l h) (RDs.later l r)
end
section
variable {K:PySem.W.Frag} {μ:Mp} {H:Hp}
theorem RDs.length:∀ {ds:List D} {vs:List V},RDs K μ H ds vs->ds.length=vs.length
 | _,_,.nil=>rfl
 | _,_,.cons _ r=>by simp [RDs.length r]
theorem RDs.get:∀ {ds:List D} {vs:List V} {i:Nat} {d:D},RDs K μ H ds vs->ds[i]?=some d->∃ v,vs[i]?=some v/\RD K μ H d v
 | _,_,_,_,.nil,e=>by simp at e
 | _,_,0,_,.cons h _,e=>by simp at e;subst e;exact ⟨_,rfl,h⟩
 | _,_,i+1,d,.cons _ r,e=>by
  obtain ⟨v,h1,h2⟩:=RDs.get (i:=i) (d:=d) r (by simpa using e);exact ⟨v,by simpa using h1,h2⟩
theorem RDs.append:∀ {ds es:List D} {vs us:List V},RDs K μ H ds vs->RDs K μ H es us->RDs K μ H (ds++es) (vs++us)
 | _,_,_,_,.nil,s=>s
 | _,_,_,_,.cons h r,s=>.cons h (RDs.append r s)
theorem RDs.take:∀ {ds:List D} {vs:List V} (n:Nat),RDs K μ H ds vs->RDs K μ H (ds.take n) (vs.take n)
 | _,_,0,_=>by simpa using RDs.nil
 | _,_,_+1,.nil=>by simpa using RDs.nil
 | _,_,n+1,.cons h r=>by simpa using RDs.cons h (RDs.take n r)
theorem RDs.drop:∀ {ds:List D} {vs:List V} (n:Nat),RDs K μ H ds vs->RDs K μ H (ds.drop n) (vs.drop n)
 | _,_,0,h=>by simpa using h
 | _,_,_+1,.nil=>by simpa using RDs.nil
 | _,_,n+1,.cons _ r=>by simpa using RDs.drop n r
theorem RDs.set {d:D} {v:V} (q:RD K μ H d v):∀ {ds:List D} {vs:List V} (n:Nat),RDs K μ H ds vs->RDs K μ H (ds.set n d) (vs.set n v)
 | _,_,_,.nil=>by simpa using RDs.nil
 | _,_,0,.cons h r=>by simpa using RDs.cons q r
 | _,_,n+1,.cons h r=>by simpa using RDs.cons h (RDs.set q n r)
theorem RDs.rep {ds:List D} {vs:List V} (r:RDs K μ H ds vs):∀ k:Nat,RDs K μ H (List.replicate k ds).flatten (List.replicate k vs).flatten
 | 0=>.nil
 | k+1=>by
  rw [Bt,Bt,Br,Br];exact r.append (RDs.rep r k)
theorem RDs.ints:∀ ns:List Int,RDs K μ H (ns.map D.int) (ns.map V.int)
 | []=>.nil
 | n :: ns=>.cons (.int n) (RDs.ints ns)
end
def oM (K:PySem.W.Frag) (μ:Mp) (H:Hp):List (Str×D)->List (Str×V)->Prop:=Paired λp q=>p.1=q.1/\RD K μ H p.2 q.2
def KvsAt (K:PySem.W.Frag) (μ:Mp) (H:Hp):List (Key×D)->List (Key×V)->Prop:=Paired λp q=>p.1=q.1/\RD K μ H p.2 q.2
def OAt (K:PySem.W.Frag) (cl:Nat->Addr) (μ:Mp) (H:Hp) (a:Addr):O->Prop
 | .lst ds=>∃ xs,H a=some (.lst xs)/\RDs K μ H ds xs
 | .dct kvs=>∃ ks,H a=some (.dK ks)/\KvsAt K μ H kvs ks
 | .exc c fs=>XC K (cl c)/\∃ gs,oM K μ H fs gs/\∃ fr,((gs=[]/\H a=some (N3 fr a (cl c) none))\/∃ d,d≠a/\d∉μ.pl/\H a=some (N3 fr a (cl c) (some d))/\H d=some (iT d gs))
def kE (K:PySem.W.Frag) (cl:Nat->Addr):Prop:=K.lookup (cl 1000000)=none
def qNm (P:Addr) (o:Obj):Option Str:=match o.data with
 | .fields vs=>(match (vs[11]?:Option Value) with
  | some (.ref P')=>if P'=P then (match (vs[1]?:Option Value) with
   | some (.str q _)=>some q
   | _=>none) else none
  | _=>none)
 | _=>none
def cZ (K:PySem.W.Frag) (P:Addr):Str:=(K.findSome? λp=>qNm P p.2).getD "" ++ ".<locals>.<lambda>"
def tbO (K:PySem.W.Frag) (cl:Nat->Addr):HO:=.tbl #[.str (cZ K (cl 1000000)) 0]
def TbOk (K:PySem.W.Frag) (cl:Nat->Addr) (μ:Mp) (H:Hp):Prop:=kE K cl->cl 1000000∉μ.pl/\cl 1000000∉μ.rs/\H (cl 1000000)=some (tbO K cl)
theorem TbOk.mv {K:PySem.W.Frag} {cl:Nat->Addr} {μ μ':Mp} {H H':Hp} (h:TbOk K cl μ H) (ho:∀ a u,H a=some u->a∉μ.pl->a∉μ.rs->H' a=some u/\a∉μ'.pl/\a∉μ'.rs):TbOk K cl μ' H':=λz=>let ⟨h1,h2,h3⟩:=h z;let ⟨a,b,c⟩:=ho _ _ h3 h1 h2;⟨b,c,a⟩
structure Rep (K:PySem.W.Frag) (cl:Nat->Addr) (μ:Mp) (S:Sto) (H:Hp):Prop where
 len:μ.pl.length=S.length
 nd:μ.pl.Nodup
 ats:∀ (n:Nat) (o:O) (a:Addr),S[n]?=some o->μ.pl[n]?=some a->OAt K cl μ H a o
 res:∀ a,a∈μ.rs->a∉μ.pl/\∃ u,H a=some u
 tb:TbOk K cl μ H
theorem Paired.mono {α β:Type} {P Q:α->β->Prop} (h:∀ a b,P a b->Q a b):∀ {xs:List α} {ys:List β},Paired P xs ys->Paired Q xs ys
 | _,_,.nil=>.nil
 | _,_,.cons r t=>.cons (h _ _ r) (Paired.mono h t)
section
variable {K:PySem.W.Frag} {cl:Nat->Addr} {μ:Mp} {S:Sto} {H:Hp}
theorem OAt.some {a:Addr} {o:O} (h:OAt K cl μ H a o):∃ u,H a=some u:=by
 cases o with
 | lst ds=>obtain ⟨xs,e,_⟩:=h;exact ⟨_,e⟩
 | dct kvs=>obtain ⟨xs,e,_⟩:=h;exact ⟨_,e⟩
 | exc c fs=>
  obtain ⟨_,gs,_,fr,⟨_,e⟩ | ⟨d,_,_,e,_⟩⟩:=h
  ·exact ⟨_,e⟩
  ·exact ⟨_,e⟩
theorem Rep.tracked (r:Rep K cl μ S H) {a:Addr} (h:a∈μ.pl):∃ u,H a=some u:=by
 obtain ⟨n,hn,e⟩:=List.getElem_of_mem h;have hs:n<S.length:=by rw [<- r.len];exact hn
 exact (r.ats n S[n] a (Ak hs) (by rw [Ak hn,e])).some
theorem Rep.notrs (r:Rep K cl μ S H) {p:Addr} (h:H p=none):p∉μ.rs:=λz=>by
 obtain ⟨_,u,e⟩:=r.res p z;rw [h] at e;cases e
theorem Rep.notin (r:Rep K cl μ S H) {p:Addr} (h:H p=none):p∉μ.pl:=λz=>by
 obtain ⟨u,e⟩:=r.tracked z;rw [h] at e;cases e
theorem Lat.laid {p:Addr} {o:HO} (h:H p=none):Lat μ H μ (upd H p o):=⟨λ_ _ h=>h,λa u e _=>by rw [b1 (b4 e h)];exact e,λ_ h=>.inl h,rfl⟩
theorem Rep.keep {H':Hp} (r:Rep K cl μ S H) (l:Lat μ H μ H') (k:∀ a,a∈μ.pl->H' a=H a):Rep K cl μ S H':=by
 refine ⟨r.len,r.nd,λn o a e1 e2=>?_,λa m=>let ⟨h1,u,h2⟩:=r.res a m;⟨h1,u,l.oth _ _ h2 h1⟩,r.tb.mv λa u e n1 n2=>⟨l.oth _ _ e n1,n1,n2⟩⟩;have ka:=k a (AT e2);have h:=r.ats n o a e1 e2;cases o with
 | lst ds=>obtain ⟨xs,e,q⟩:=h;exact ⟨xs,by rw [ka];exact e,q.later l⟩
 | dct kvs=>obtain ⟨xs,e,q⟩:=h;exact ⟨xs,by rw [ka];exact e,Paired.mono (λ_ _ ⟨z,w⟩=>⟨z,w.later l⟩) q⟩
 | exc c fs=>
  obtain ⟨xc,gs,q,fr,h⟩:=h;refine ⟨xc,gs,Paired.mono (λ_ _ ⟨z,w⟩=>⟨z,w.later l⟩) q,fr,?_⟩;rcases h with ⟨z,e⟩ | ⟨d,h1,h2,e,e2⟩
  ·exact .inl ⟨z,by rw [ka];exact e⟩
  ·exact .inr ⟨d,h1,h2,by rw [ka];exact e,l.oth _ _ e2 h2⟩
theorem Rep.laid {p:Addr} {o:HO} (r:Rep K cl μ S H) (h:H p=none):Rep K cl μ S (upd H p o):=r.keep (Lat.laid h) λa m=>b1 λz=>r.notin h (z▸m)
theorem Lat.pushed {p:Addr} {H':Hp} (h:H p=none) (k:∀ a u,H a=some u->H' a=some u):Lat μ H (μ.push p) H':=
 ⟨λn a e=>by show (μ.pl++[p])[n]?=_;rw [AC (Au.mp e).1];exact e,λa u e _=>k a u e,λa m=>by
  rcases BI.mp m with z | z
  ·exact .inl z
  ·exact .inr (by rw [AX.mp z];exact h),rfl⟩
theorem OAt.later {μ':Mp} {H':Hp} {a:Addr} {o:O} (h:OAt K cl μ H a o) (l:Lat μ H μ' H') (ka:H' a=H a):OAt K cl μ' H' a o:=by
 cases o with
 | lst ds=>obtain ⟨xs,e,q⟩:=h;exact ⟨xs,by rw [ka];exact e,q.later l⟩
 | dct kvs=>obtain ⟨xs,e,q⟩:=h;exact ⟨xs,by rw [ka];exact e,Paired.mono (λ_ _ ⟨z,w⟩=>⟨z,w.later l⟩) q⟩
 | exc c fs=>
  obtain ⟨xc,gs,q,fr,h⟩:=h;refine ⟨xc,gs,Paired.mono (λ_ _ ⟨z,w⟩=>⟨z,w.later l⟩) q,fr,?_⟩;rcases h with ⟨z,e⟩ | ⟨d,h1,h2,e,e2⟩
  ·exact .inl ⟨z,by rw [ka];exact e⟩
  ·exact .inr ⟨d,h1,l.out e2 h2,by rw [ka];exact e,l.oth _ _ e2 h2⟩
theorem Rep.pushed {p:Addr} {H':Hp} {o:O} (r:Rep K cl μ S H) (h:H p=none) (k:∀ a u,H a=some u->H' a=some u) (ho:OAt K cl (μ.push p) H' p o):Rep K cl (μ.push p) (S++[o]) H':=by
 have l:=Lat.pushed (μ:=μ) h k;refine ⟨by simp [Mp.push,r.len],?_,λn u a e1 e2=>?_,λa m=>?_,r.tb.mv λa u e n1 n2=>⟨k a u e,λz=>?_,n2⟩⟩
 rotate_right
 ·rcases BI.mp (show a∈μ.pl++[p] from z) with z | z
  ·exact n1 z
  ·rw [AX.mp z,h] at e;cases e
 ·show (μ.pl++[p]).Nodup;rw [List.nodup_append];exact ⟨r.nd,by simp,λa m b m2=>by rw [AX.mp m2];rintro rfl;exact r.notin h m⟩
 ·have e2:(μ.pl++[p])[n]?=some a:=e2;by_cases hn:n<S.length
  ·rw [AC hn] at e1;rw [AC (by rw [r.len];exact hn)] at e2;have q:=r.ats n u a e1 e2;obtain ⟨z,ez⟩:=q.some;exact q.later l ((k a z ez).trans ez.symm)
  ·have hn2:n=S.length:=by
    have:=(Au.mp e1).1;simp at this;omega
   subst hn2;rw [<- r.len] at e2;simp at e1 e2;subst e1;subst e2;exact ho
 ·obtain ⟨h1,u,h2⟩:=r.res a m;refine ⟨λz=>?_,u,k a u h2⟩;rcases BI.mp (show a∈μ.pl++[p] from z) with z | z
  ·exact h1 z
  ·rw [AX.mp z,h] at h2;cases h2
theorem Lat.wrote {a:Addr} {o:HO} (h:a∈μ.pl):Lat μ H μ (upd H a o):=⟨λ_ _ h=>h,λb u e n=>by rw [b1 (λz=>n (by rw [z];exact h))];exact e,λ_ h=>.inl h,rfl⟩
theorem Rep.wrote {n:Nat} {a:Addr} {u:HO} {o:O} (r:Rep K cl μ S H) (e:μ.pl[n]?=some a) (ho:OAt K cl μ (upd H a u) a o):Rep K cl μ (S.set n o) (upd H a u):=by
 have m:a∈μ.pl:=AT e;refine ⟨by simp [r.len],r.nd,λk w b e1 e2=>?_,λb mb=>let ⟨h1,u',h2⟩:=r.res b mb;⟨h1,u',by rw [b1 (λz=>h1 (by rw [z];exact m))];exact h2⟩,r.tb.mv λb u e n1 n2=>⟨by rw [b1 (λz=>n1 (by rw [z];exact m))];exact e,n1,n2⟩⟩;by_cases hk:n=k
 ·subst hk;rw [e] at e2;cases e2;rw [AW (by have:=(Au.mp e).1;rw [r.len] at this;exact this)] at e1;cases e1;exact ho
 ·rw [Bb hk] at e1;have hb:b≠a:=λz=>by
   subst z;obtain ⟨h1,q1⟩:=Au.mp e;obtain ⟨h2,q2⟩:=Au.mp e2;exact hk ((CV r.nd).mp (q1.trans q2.symm))
  exact (r.ats k w b e1 e2).later (Lat.wrote m) (b1 hb)
end
def Mp.hold (μ:Mp) (p:Addr):Mp:=⟨μ.pl,p :: μ.rs⟩
mutual
theorem RD.move {K:PySem.W.Frag} {μ μ':Mp} {H H':Hp} (hp:∀ (n:Nat) (a:Addr),μ.pl[n]?=some a->μ'.pl[n]?=some a) (ho:∀ a u,H a=some u->a∉μ.pl->a∉μ.rs->H' a=some u/\a∉μ'.pl/\a∉μ'.rs):∀ {d:D} {v:V},RD K μ H d v->RD K μ' H' d v
 | _,_,.non=>.non
 | _,_,.bl b=>.bl b
 | _,_,.int i=>.int i
 | _,_,.str x=>.str x
 | _,_,.tup h r=>.tup (h.imp (λ⟨q,n1,n2⟩=>by
   rcases q with q | ⟨o,q⟩
   ·exact ⟨.inl (ho _ _ q n1 n2).1,(ho _ _ q n1 n2).2⟩
   ·exact ⟨.inr ⟨o,(ho _ _ q n1 n2).1⟩,(ho _ _ q n1 n2).2⟩) id) (RDs.move hp ho r)
 | _,_,.lst h r=>.lst (ho _ _ h.1 h.2.1 h.2.2) (RDs.move hp ho r)
 | _,_,.scr h r=>.scr (h.imp (λ⟨q,n1,n2⟩=>by
   rcases q with q | ⟨o,q⟩
   ·exact ⟨.inl (ho _ _ q n1 n2).1,(ho _ _ q n1 n2).2⟩
   ·exact ⟨.inr ⟨o,(ho _ _ q n1 n2).1⟩,(ho _ _ q n1 n2).2⟩) id) (RDs.move hp ho r)
 | _,_,.ref h=>.ref (hp _ _ h)
theorem RDs.move {K:PySem.W.Frag} {μ μ':Mp} {H H':Hp} (hp:∀ (n:Nat) (a:Addr),μ.pl[n]?=some a->μ'.pl[n]?=some a) (ho:∀ a u,H a=some u->a∉μ.pl->a∉μ.rs->H' a=some u/\a∉μ'.pl/\a∉μ'.rs):∀ {ds:List D} {vs:List V},RDs K μ H ds vs->RDs K μ' H' ds vs
 | _,_,.nil=>.nil
 | _,_,.cons h r=>.cons (RD.move hp ho h) (RDs.move hp ho r)
end
section
variable {K:PySem.W.Frag} {cl:Nat->Addr} {μ:Mp} {S:Sto} {H:Hp}
theorem Rep.move {μ':Mp} {H':Hp} (r:Rep K cl μ S H) (hr:∀ a,a∈μ'.rs->a∉μ'.pl/\∃ u,H' a=some u) (hp:μ'.pl=μ.pl) (hk:∀ a,a∈μ.pl->H' a=H a) (hx:∀ a u,H a=some (.ext u)->H' a=some (.ext u)) (ho:∀ a u,H a=some u->a∉μ.pl->a∉μ.rs->H' a=some u/\a∉μ'.pl/\a∉μ'.rs):Rep K cl μ' S H':=by
 have hp':∀ (n:Nat) (a:Addr),μ.pl[n]?=some a->μ'.pl[n]?=some a:=λn a e=>by rw [hp];exact e
 refine ⟨by rw [hp];exact r.len,by rw [hp];exact r.nd,λn o a e1 e2=>?_,hr,r.tb.mv ho⟩;rw [hp] at e2;have ka:=hk a (AT e2);have h:=r.ats n o a e1 e2;cases o with
 | lst ds=>obtain ⟨xs,e,q⟩:=h;exact ⟨xs,by rw [ka];exact e,q.move hp' ho⟩
 | dct kvs=>obtain ⟨xs,e,q⟩:=h;exact ⟨xs,by rw [ka];exact e,Paired.mono (λ_ _ ⟨z,w⟩=>⟨z,w.move hp' ho⟩) q⟩
 | exc c fs=>
  obtain ⟨xc,gs,q,fr,h⟩:=h;refine ⟨xc,gs,Paired.mono (λ_ _ ⟨z,w⟩=>⟨z,w.move hp' ho⟩) q,fr,?_⟩;rcases h with ⟨z,e⟩ | ⟨d,h1,h2,e,e2⟩
  ·exact .inl ⟨z,by rw [ka];exact e⟩
  ·exact .inr ⟨d,h1,by rw [hp];exact h2,by rw [ka];exact e,hx _ _ e2⟩
end
section
variable (K:PySem.W.Frag) (cl:Nat->Addr) (xe:Addr->Hp->Prop)
def Post {b:Type} (μ:Mp) (H:Hp) (r:R b) (G:b->Sto->Mp->Hp->Prop):Prop:=match r with
 | .ok a S=>∀ μ' H',Lat μ H μ' H'->Rep K cl μ' S H'->G a S μ' H'
 | .exn n S=>∀ μ' H' a,Lat μ H μ' H'->Rep K cl μ' S H'->μ'.pl[n]?=some a->xe a H'
 | .bad=>False
end
section
variable {K:PySem.W.Frag} {cl:Nat->Addr} {xe:Addr->Hp->Prop} {α β:Type} {μ μ1:Mp} {H H1:Hp}
theorem Post.later {G:α->Sto->Mp->Hp->Prop} (h:Post K cl xe μ H r G) (l:Lat μ H μ1 H1):Post K cl xe μ1 H1 r G:=by
 cases r with
 | ok a S=>exact λμ' H' k r=>h μ' H' (l.trans k) r
 | exn n S=>exact λμ' H' a k r e=>h μ' H' a (l.trans k) r e
 | bad=>exact h
theorem Post.imp {G G':α->Sto->Mp->Hp->Prop} (h:Post K cl xe μ H r G) (k:∀ a S μ' H',Lat μ H μ' H'->Rep K cl μ' S H'->G a S μ' H'->G' a S μ' H'):Post K cl xe μ H r G':=by
 cases r with
 | ok a S=>exact λμ' H' l r=>k a S μ' H' l r (h μ' H' l r)
 | exn n S=>exact h
 | bad=>exact h
theorem Post.bind {k:α->M β} {S:Sto} {G:β->Sto->Mp->Hp->Prop} (h:Post K cl xe μ H (bind m k S) G):Post K cl xe μ H (m S) (λa S1 μ1 H1=>Post K cl xe μ1 H1 (k a S1) G):=by
 unfold L3.bind at h;cases e:m S with
 | ok a S1=>
  rw [e] at h;exact λμ' H' l r=>Post.later h l
 | exn n S1=>rw [e] at h;exact h
 | bad=>rw [e] at h;exact h
theorem Post.ret {G:α->Sto->Mp->Hp->Prop} (h:Post K cl xe μ H (ret a S) G):∀ μ' H',Lat μ H μ' H'->Rep K cl μ' S H'->G a S μ' H':=h
end
def EnvOk (K:PySem.W.Frag) (μ:Mp) (H:Hp) (ρ:Env) (σ:L2.St):Prop:=ρ.length=σ.length/\∀ (i:Nat) (d:D),ρ[i]?=some (some d)->∃ v,σ[i]?=some (some v)/\RD K μ H d v
theorem EnvOk.later {K:PySem.W.Frag} {μ a:Mp} {H b:Hp} {ρ:Env} {σ:L2.St} (h:EnvOk K μ H ρ σ) (l:Lat μ H a b):EnvOk K a b ρ σ:=⟨h.1,λi d e=>let ⟨v,q,r⟩:=h.2 i d e;⟨v,q,r.later l⟩⟩
theorem EnvOk.set {K:PySem.W.Frag} {μ:Mp} {H:Hp} {ρ:Env} {σ:L2.St} {d:D} {v:V} (h:EnvOk K μ H ρ σ) (r:RD K μ H d v) (i:Nat):EnvOk K μ H (ρ.set i (some d)) (σ.set i (some v)):=by
 refine ⟨by simp [h.1],λj e b=>?_⟩;by_cases a:i=j
 ·subst a;have c:i<ρ.length:=by
   have:=(Au.mp b).1;simpa using this
  rw [AW c] at b;cases b;exact ⟨v,AW (by rw [<- h.1];exact c),r⟩
 ·rw [Bb a] at b;obtain ⟨u,q,f⟩:=h.2 j e b;exact ⟨u,by rw [Bb a];exact q,f⟩
section
variable (K:PySem.W.Frag) (cl:Nat->Addr) (xe:Addr->Hp->Prop)
def tD (f:Env->M D):TE:=λσ H Q=>∃ μ S ρ,EnvOk K μ H ρ σ/\Rep K cl μ S H/\Post K cl xe μ H (f ρ S) λd _ μ' H'=>∀ v,RD K μ' H' d v->Q v H'
def tDs (f:Env->M (List D)):TA:=λσ H Q=>∃ μ S ρ,EnvOk K μ H ρ σ/\Rep K cl μ S H/\Post K cl xe μ H (f ρ S) λds _ μ' H'=>∀ vs,RDs K μ' H' ds vs->Q vs H'
def tBo (f:Env->M Bool):TT:=λσ H Q=>∃ μ S ρ,EnvOk K μ H ρ σ/\Rep K cl μ S H/\Post K cl xe μ H (f ρ S) λb _ _ H'=>Q b H'
def rP2 (g:D->D->M D):R2:=λx y H Q=>∃ μ S d e,RD K μ H d x/\RD K μ H e y/\Rep K cl μ S H/\Post K cl xe μ H (g d e S) λr _ μ' H'=>∀ v,RD K μ' H' r v->Q v H'
def rPs (g:List D->M D):List V->Hp->VK->Prop:=λxs H Q=>∃ μ S ds,RDs K μ H ds xs/\Rep K cl μ S H/\Post K cl xe μ H (g ds S) λr _ μ' H'=>∀ v,RD K μ' H' r v->Q v H'
end
theorem PE.imp (h:PE X e t) (k:∀ σ H Q,t' σ H Q->t σ H Q):PE X e t':=λpins s σ H Q I q=>h pins s σ H Q I (k σ H Q q)
theorem PT.imp (h:PT X e t) (k:∀ σ H Q,t' σ H Q->t σ H Q):PT X e t':=λpins s σ H Q I q=>h pins s σ H Q I (k σ H Q q)
theorem PW.imp (h:PW X e t) (k:∀ σ H Q,t' σ H Q->t σ H Q):PW X e t':=λw pins s σ H Q I q=>h w pins s σ H Q I (k σ H Q q)
theorem PA.imp (h:PA X es t) (k:∀ σ H Q,t' σ H Q->t σ H Q):PA X es t':=λp pins s σ H Q I q=>h p pins s σ H Q I (k σ H Q q)
theorem PS.imp {st:Stmt} {t t':TS} (h:PS X st t) (k:∀ D σ H,t' D σ H->t D σ H):PS X st t':=λpins s σ H D I q=>h pins s σ H D I (k D σ H q)
theorem PSs.imp {st:List Stmt} {t t':TS} (h:PSs X st t) (k:∀ D σ H,t' D σ H->t D σ H):PSs X st t':=λpins s σ H D I q=>h pins s σ H D I (k D σ H q)
section
variable {X:Cx} {cl:Nat->Addr} {xe:Addr->Hp->Prop} {a b c:Expr} {es:List Expr} {pos:Pos} {f g:Env->M D}
theorem f9:PE X e (tD X.K cl xe λ_=>bad):=λ_ _ _ _ _ _ ⟨_,_,_,_,_,p⟩=>p.elim
theorem bv:PT X e (tBo X.K cl xe λ_=>bad):=λ_ _ _ _ _ _ ⟨_,_,_,_,_,p⟩=>p.elim
theorem pw_bad:PW X e (tBo X.K cl xe λ_=>bad):=λ_ _ _ _ _ _ _ ⟨_,_,_,_,_,p⟩=>p.elim
theorem B4 (h:PE X e (tC v)) (r:∀ μ H,RD X.K μ H d v):PE X e (tD X.K cl xe λ_=>ret d):=PE.imp h λσ H Q ⟨μ,S,ρ,b,a,p⟩=>p.ret μ H (Lat.refl _ _) a v (r μ H)
def getD (i:Nat) (ρ:Env):M D:=match ρ[i]? with
 | some (some d)=>ret d
 | _=>bad
theorem oE {e:Expr} (h:PE X e (rL i)):PE X e (tD X.K cl xe λρ=>getD i ρ):=PE.imp h λσ H Q ⟨μ,S,ρ,b,a,p⟩=>by
 cases e:ρ[i]? with
 | none=>simp only [getD,e] at p;exact p.elim
 | some o=>
  cases o with
  | none=>simp only [getD,e] at p;exact p.elim
  | some d=>
   simp only [getD,e] at p;obtain ⟨v,q,r⟩:=b.2 i d e;exact ⟨v,q,p.ret μ H (Lat.refl _ _) a v r⟩
theorem nZ (e:PE X a (tD X.K cl xe f)) (k:PE X b (tD X.K cl xe g)) (s:OpR X (binaryOp op) (rP2 X.K cl xe h)) :
  PE X (.BinOp a op b pos) (tD X.K cl xe λρ=>bind (f ρ) λx=>bind (g ρ) λy=>h x y):=PE.imp (rf s e k) λσ H Q ⟨μ,S,ρ,d,j,p⟩=>
 ⟨μ,S,ρ,d,j,p.bind.imp λx S1 c z t q i v r=>⟨c,S1,ρ,d.later t,q,i.bind.imp λy S2 μ2 w l o m u n=>⟨μ2,S2,x,y,r.later l,n,o,m⟩⟩⟩
theorem oY (e:PE X a (tD X.K cl xe f)) (k:PE X b (tD X.K cl xe g)) (s:OpR X (compareOp op) (rP2 X.K cl xe h)) (w:behindInMarks op b=false) :
  PE X (.Compare a [op] [b] pos) (tD X.K cl xe λρ=>bind (f ρ) λx=>bind (g ρ) λy=>h x y):=PE.imp (mB s e k w) λσ H Q ⟨μ,S,ρ,d,j,p⟩=>
 ⟨μ,S,ρ,d,j,p.bind.imp λx S1 c A t q i v r=>⟨c,S1,ρ,d.later t,q,i.bind.imp λy S2 μ2 z l o m u n=>⟨μ2,S2,x,y,r.later l,n,o,m⟩⟩⟩
theorem rA (e:PE X a (tD X.K cl xe f)) (k:PE X b (tD X.K cl xe g)) (s:IxR X (rP2 X.K cl xe h)) (hs:X8 b) :
  PE X (.Subscript a b pos) (tD X.K cl xe λρ=>bind (f ρ) λx=>bind (g ρ) λy=>h x y):=PE.imp (mf s e k hs) λσ H Q ⟨μ,S,ρ,d,j,p⟩=>
 ⟨μ,S,ρ,d,j,p.bind.imp λx S1 c z t q i v r=>⟨c,S1,ρ,d.later t,q,i.bind.imp λy S2 μ2 w l o m u n=>⟨μ2,S2,x,y,r.later l,n,o,m⟩⟩⟩
theorem rW (n:PT X c (tBo X.K cl xe t)) (k:PE X a (tD X.K cl xe f)) (m:PE X b (tD X.K cl xe g)):PE X (.IfExp c a b pos) (tD X.K cl xe λρ=>bind (t ρ) λq=>if q=true then f ρ else g ρ):=PE.imp (iJ n k m) λσ H Q ⟨μ,S,ρ,e,l,p⟩=>
 ⟨μ,S,ρ,e,l,p.bind.imp λq S1 d o j i h=>by
  cases q with
  | true=>exact ⟨d,S1,ρ,e.later j,i,h⟩
  | false=>exact ⟨d,S1,ρ,e.later j,i,h⟩⟩
theorem lh (h:PT X a (tBo X.K cl xe t)):PW X (.BoolOp .And [a] pos) (tBo X.K cl xe t):=pw_and1 h
theorem pY (h:PT X a (tBo X.K cl xe t)):PW X (.BoolOp .Or [a] pos) (tBo X.K cl xe t):=pw_or1 h
theorem pr {c:List Expr} (h:PT X a (tBo X.K cl xe t)) (k:PW X (.BoolOp .And (b :: c) pos) (tBo X.K cl xe u)):PW X (.BoolOp .And (a :: b :: c) pos) (tBo X.K cl xe λρ=>bind (t ρ) λq=>if q=true then u ρ else ret false):=PW.imp (pw_and h k) λσ H Q ⟨μ,S,ρ,g,i,p⟩=>
 ⟨μ,S,ρ,g,i,p.bind.imp λq S1 d l j f e=>by
  cases q with
  | true=>exact ⟨d,S1,ρ,g.later j,f,e⟩
  | false=>exact e.ret d l (Lat.refl _ _) f⟩
theorem sd {c:List Expr} (h:PT X a (tBo X.K cl xe t)) (k:PW X (.BoolOp .Or (b :: c) pos) (tBo X.K cl xe u)):PW X (.BoolOp .Or (a :: b :: c) pos) (tBo X.K cl xe λρ=>bind (t ρ) λq=>if q=true then ret true else u ρ):=PW.imp (pw_or h k) λσ H Q ⟨μ,S,ρ,g,i,p⟩=>
 ⟨μ,S,ρ,g,i,p.bind.imp λq S1 d l j f e=>by
  cases q with
  | true=>exact e.ret d l (Lat.refl _ _) f
  | false=>exact ⟨d,S1,ρ,g.later j,f,e⟩⟩
def asB (d:D):M Bool:=match d with
 | .bl b=>ret b
 | _=>bad
theorem qK {K:PySem.W.Frag} {a:Mp} {c:Hp} {S:Sto} {d:D} {v:V} {Q:Bool->Hp->Prop} (f:RD K a c d v) (e:Rep K cl a S c) (p:Post K cl xe a c (asB d S) λb _ _ H'=>Q b H'):∃ k,v=.bl k/\Q k c:=by
 cases f with
 | bl b=>exact ⟨b,rfl,p.ret a c (Lat.refl _ _) e⟩
 | _=>exact p.elim
theorem oO (o:PE X a (tD X.K cl xe f)) (k:PE X b (tD X.K cl xe g)) (r:OpR X (compareOp op) (rP2 X.K cl xe h)) (n:behindInMarks op b=false) :
  PT X (.Compare a [op] [b] pos) (tBo X.K cl xe λρ=>bind (f ρ) λx=>bind (g ρ) λy=>bind (h x y) asB):=PT.imp (lW r o k n) λσ H Q ⟨μ,S,ρ,d,t,p⟩=>
 ⟨μ,S,ρ,d,t,p.bind.imp λx S1 c I s q j v m=>⟨c,S1,ρ,d.later s,q,j.bind.imp λy S2 μ2 J A D l u B=>⟨μ2,S2,x,y,m.later A,B,D,l.bind.imp λz F e E G C i w rw=>qK rw C i⟩⟩⟩
end
end L3
namespace HT
open PySem PySem.Spec PyProof.Rows
theorem noFill_tuple_mul:fillsNumberSlot (.type "tuple") "mul" = pure false:=
 PySem.fillsNumberSlot_seq F.slot_tuple_mul.lookup (by decide +kernel) F.slot_tuple_rmul.lookup (by decide +kernel)
theorem repeat_tuple:seqRepeat? (.type "tuple")=pure (some (.builtin "tuple.__mul__")):=by
 unfold seqRepeat?;rw [PySem.seqSlot_of (name:="__mul__") F.slot_tuple_mul.lookup (by decide +kernel),PySem.seqSlot_of (name:="__rmul__") F.slot_tuple_rmul.lookup (by decide +kernel)];rfl
theorem int_rmul_tuple (a:Int) (t:Tok) (l:Addr) (items:Array Value) (n:Nat) (b:Option Addr) (c:Array (Option Value)) :
  Meets (Builtin.«int.__rmul__» ⟨[.int a t,.ref l],[]⟩) (λ_ R s=>s.heap.get? l=some { cls:=.type "tuple",dict:=b,data:=.seq items n,slots:=c }/\R (.ok (.ret Value.notImplemented)) s):=
 .of_wp λprog w A R s h=>by obtain ⟨f,g,d,i,e⟩:=s;obtain ⟨j,h⟩:=h;wp_walk;exact ⟨_,rfl,h⟩
theorem tuple_mul1 (l:Addr) (items:Array Value) (n:Nat) (a:Option Addr) (b:Array (Option Value)) (u:Tok) :
  Meets (Builtin.«tuple.__mul__» ⟨[.ref l,.int 1 u],[]⟩) (λ_ R s=>s.heap.get? l=some { cls:=.type "tuple",dict:=a,data:=.seq items n,slots:=b }/\R (.ok (.ret (.ref l))) s):=
 .of_wp λprog w A R s h=>by obtain ⟨e,g,d,f,c⟩:=s;obtain ⟨i,h⟩:=h;wp_walk;exact ⟨_,rfl,h⟩
theorem bz {k:Int} (b:1<=k) (a:k<2 ^ 63):¬ ((decide (k < -(2 ^ 63))||decide (k≥2 ^ 63))=true):=by grind
theorem tuple_mul2 (l:Addr) (items:Array Value) (n:Nat) (r:Option Addr) (v:Array (Option Value)) (k:Int) (u:Tok) (a:¬ (items.isEmpty||k==1)=true) (B:2<=k) (p:k<2 ^ 63) (hsz:items.size * k.toNat<=sizeLine) :
  Meets (Builtin.«tuple.__mul__» ⟨[.ref l,.int k u],[]⟩) (λ_ R s=>s.heap.get? l=some { cls:=.type "tuple",dict:=r,data:=.seq items n,slots:=v }/\R (.ok (.ret (.ref s.heap.objs.size))) { s with heap:=s.heap.push { cls:=.type "tuple",data:=.seq ((List.replicate k.toNat items).foldl (·++·) #[]) } }):=
 .of_wp λprog w A R s h=>by
  obtain ⟨j,g,d,y,x⟩:=s;obtain ⟨t,h⟩:=h;have q:=bz (by omega) p;have e:=AF;have i:((k.toNat:Nat):Int)=k:=Int.toNat_of_nonneg (by omega);have b:(items.size:Int) * k=((items.size * k.toNat:Nat):Int):=by rw [Int.natCast_mul,i]
  have c:¬ (decide (k<=0)||items.isEmpty)=true:=by
   simp only [DY,AD] at a ⊢;intro z;rcases z with z | z
   ·omega
   ·exact a (.inl z)
  have f:¬ ((items.size:Int) * k > (2 ^ 63-1) / 8):=by rw [b];omega
  have m:¬ Builtin.Tuple.tupleTooMany ((items.size:Int) * k)=true:=by
   rw [b];simp only [Builtin.Tuple.tupleTooMany,AD];omega
  have hz:((List.replicate k.toNat items).foldl (·++·) #[]).size<=sizeLine:=by
   rw [AutoListH.size_joined,Nat.mul_comm];simpa using hsz
  wp_walk
  rw [if_neg q];have o:IsTup j l items:=⟨_,t,rfl,n,rfl⟩;refine Ag (DH o ?_);rw [if_neg a];rw [if_neg c];rw [if_neg f];rw [if_neg m];refine Ag (AK ?_ hz);exact Ai ⟨_,rfl,h⟩
end HT
namespace L2
open PySem PySem.Spec PyProof.Rows
section
variable {X:Cx}
theorem mO:OpR X (binaryOp .Mult) (λx y H Q=>∃ a k xs,x=.ref a/\y=.int k/\SqT X.K H a xs/\xs≠[]/\1<=k/\k<2 ^ 63/\xs.length * k.toNat<=sizeLine/\(k=1->Q (.ref a) H)/\(k≠1->∀ p,H p=none->Q (.ref p) (upd H p (.tup (List.replicate k.toNat xs).flatten)))):=by
 intro pins s σ H x y v u Q I J C h;obtain ⟨a,k,xs,rfl,rfl,o,r,N,k2,hz,B,w⟩:=h;cases J;obtain ⟨t,rfl⟩:=C;obtain ⟨c,g,D,_⟩:=I.tuple o;obtain ⟨⟨E,e,j,f⟩,d,G,n,hd⟩:=id D;subst G hd;have L:=g.length;by_cases i:k=1
 ·subst i;exact Cu (by decide) ⟨_,d,rfl⟩ (λs'=>CZ s' 1 t) HT.noFill_tuple_mul F.fills_int_mul F.slot_int_rmul HT.repeat_tuple F.slot_int_index.lookup
   (Ca F.slot_int_rmul (CZ s 1 t) F.entry_int_rmul (F.args_int_rmul_2 _ _) (HT.int_rmul_tuple 1 t a c.toArray n e f)
    ⟨d,rfl,⟨_,d,rfl⟩,Ca F.slot_tuple_mul ⟨_,d,rfl⟩ F.entry_tuple_mul (F.args_tuple_mul_2 _ _) (HT.tuple_mul1 a c.toArray n e f t) ⟨d,.ref a,H,I,rfl,B rfl⟩⟩)
 ·have M:=λz=>r (g.nil_iff.mp z);have l:¬ (c.toArray.isEmpty||k==1)=true:=by
   simp only [DY,beq_iff_eq];rintro (z | z)
   ·grind
   ·exact i z
  refine Cu (by decide) ⟨_,d,rfl⟩ (λs'=>CZ s' k t) HT.noFill_tuple_mul F.fills_int_mul F.slot_int_rmul HT.repeat_tuple F.slot_int_index.lookup
   (Ca F.slot_int_rmul (CZ s k t) F.entry_int_rmul (F.args_int_rmul_2 _ _) (HT.int_rmul_tuple k t a c.toArray n e f)
    ⟨d,rfl,⟨_,d,rfl⟩,Ca F.slot_tuple_mul ⟨_,d,rfl⟩ F.entry_tuple_mul (F.args_tuple_mul_2 _ _) (HT.tuple_mul2 a c.toArray n e f k t l (by omega) k2 (by rw [Al,<- L];exact hz)) ⟨d,?_⟩⟩)
  have m:List.foldl (λA K=>A++K) #[] (List.replicate k.toNat c.toArray)=(List.replicate k.toNat c).flatten.toArray:=by
   have:=L0 c k.toNat [];rw [Di] at this;exact this
  rw [m];refine ⟨.ref s.heap.objs.size,_,I.laid (λb ob q=>Ah _ q) (Ap _) ?_,rfl,w i _ (I.hok.fresh (Ap _))⟩;exact ⟨by rw [dC,Nat.mul_comm];exact hz,_,g.rep k.toNat,TupN.new _ _⟩
end
end L2
namespace L3
open PySem PySem.Spec PyProof.Rows L2
def lstOf (d:D):M (List D):=match d with
 | .lst ds=>ret ds
 | .ref n=>λS=>match S[n]? with
  | some (.lst ds)=>.ok ds S
  | _=>.bad
 | _=>bad
def p4 (d:D):M (List D):=match d with
 | .tup ds=>ret ds
 | .scr ds=>ret ds
 | d=>lstOf d
section
variable {K:PySem.W.Frag} {cl:Nat->Addr} {xe:Addr->Hp->Prop} {μ:Mp} {H:Hp} {S:Sto} {α:Type}
theorem k8 (rd:RD K μ H d v) (rp:Rep K cl μ S H) (p:Post K cl xe μ H (lstOf d S) G):∃ a xs ds,v=.ref a/\H a=some (.lst xs)/\RDs K μ H ds xs/\lstOf d S=.ok ds S:=by
 cases rd with
 | lst h r=>exact ⟨_,_,_,rfl,h.1,r,rfl⟩
 | ref e=>
  rename_i n a;simp only [lstOf] at p;cases q:S[n]? with
  | none=>rw [q] at p;exact p.elim
  | some o=>
   cases o with
   | lst ds=>
    obtain ⟨xs,h1,h2⟩:=rp.ats n _ a q e;exact ⟨a,xs,ds,rfl,h1,h2,by simp only [lstOf,q]⟩
   | dct _=>rw [q] at p;exact p.elim
   | exc _ _=>rw [q] at p;exact p.elim
 | _=>exact p.elim
theorem E7 (rd:RD K μ H d v) (rp:Rep K cl μ S H) (p:Post K cl xe μ H (p4 d S) G):∃ a xs ds,v=.ref a/\(SqL K H a xs\/SqT K H a xs)/\RDs K μ H ds xs/\p4 d S=.ok ds S:=by
 cases rd with
 | tup h r=>exact ⟨_,_,_,rfl,.inr h.sq,r,rfl⟩
 | scr h r=>exact ⟨_,_,_,rfl,.inl h.sq,r,rfl⟩
 | lst h r=>exact ⟨_,_,_,rfl,.inl h.sq,r,rfl⟩
 | ref e=>
  obtain ⟨a,xs,ds,h1,h2,h3,h4⟩:=k8 (.ref e) rp p;exact ⟨a,xs,ds,h1,.inl (.inl (.inl h2)),h3,h4⟩
 | _=>exact p.elim
theorem Post.ok_bind {a:α} {G:β->Sto->Mp->Hp->Prop} (e:m S=.ok a S) (p:Post K cl xe μ H (L3.bind m k S) G):Post K cl xe μ H (k a S) G:=by
 unfold L3.bind at p;rw [e] at p;exact p
theorem F9 (b:Rep K cl μ S H) (r:RDs K μ H ds xs) (a:H p=none):Lat μ H μ (upd H p (.tup xs))/\Rep K cl μ S (upd H p (.tup xs))/\RD K μ (upd H p (.tup xs)) (.tup ds) (.ref p):=
 ⟨Lat.laid a,b.laid a,.tup (.inl ⟨.inl b6,b.notin a,b.notrs a⟩) (r.later (Lat.laid a))⟩
theorem m7 (b:Rep K cl μ S H) (r:RDs K μ H ds xs) (a:H p=none):Lat μ H μ (upd H p (.lst xs))/\Rep K cl μ S (upd H p (.lst xs))/\RD K μ (upd H p (.lst xs)) (.lst ds) (.ref p):=
 ⟨Lat.laid a,b.laid a,.lst ⟨b6,b.notin a,b.notrs a⟩ (r.later (Lat.laid a))⟩
theorem X2 (c:Rep K cl μ S H) (r:RDs K μ H ds xs) (b:H p=none):Lat μ H (μ.push p) (upd H p (.lst xs))/\Rep K cl (μ.push p) (S++[.lst ds]) (upd H p (.lst xs))/\RD K (μ.push p) (upd H p (.lst xs)) (.ref S.length) (.ref p):=by
 have k:∀ a u,H a=some u->upd H p (.lst xs) a=some u:=λa u e=>by rw [b1 (b4 e b)];exact e
 have l:=Lat.pushed (μ:=μ) b k;refine ⟨l,c.pushed b k ⟨xs,b6,r.later l⟩,.ref ?_⟩;show (μ.pl++[p])[S.length]?=some p;rw [<- c.len];simp
theorem Post.guard [Decidable c] {a:α} {G:α->Sto->Mp->Hp->Prop} (p:Post K cl xe μ H ((if c then L3.ret a else L3.bad) S) G):c/\∀ μ' H',Lat μ H μ' H'->Rep K cl μ' S H'->G a S μ' H':=by
 by_cases b:c
 ·rw [if_pos b] at p;exact ⟨b,p⟩
 ·rw [if_neg b] at p;exact p.elim
end
def d8 {a b:Type} (f:a->Option b):List a->Option (List b)
 | []=>some []
 | x :: xs=>match f x,d8 f xs with
  | some y,some ys=>some (y :: ys)
  | _,_=>none
def c9:Nat->Sto->D->Option PyData
 | 0,_,_=>none
 | n+1,S,d=>match d with
  | .non=>some .none
  | .bl b=>some (.bool b)
  | .int i=>some (.int i)
  | .str x=>some (.str x)
  | .tup ds=>(d8 (c9 n S) ds).map .tuple
  | .lst ds=>(d8 (c9 n S) ds).map .list
  | .scr ds=>(d8 (c9 n S) ds).map .list
  | .ref k=>match S[k]? with
   | some (.lst ds)=>(d8 (c9 n S) ds).map .list
   | _=>none
theorem bT {K:PySem.W.Frag} {μ:Mp} {H:Hp} {S:Sto} {n:Nat} (f:∀ {d:D} {v:V} {q:PyData},c9 n S d=some q->RD K μ H d v->DAt K H v q):∀ {ds:List D} {vs:List V} {a:List PyData},d8 (c9 n S) ds=some a->RDs K μ H ds vs->DAll K H vs a
 | [],_,a,e,r=>by cases r;cases e;exact .nil
 | d :: ds,_,a,e,r=>by
  cases r with
  | cons h t=>
   simp only [d8] at e;cases b:c9 n S d with
   | none=>rw [b] at e;cases e
   | some q=>
    cases c:d8 (c9 n S) ds with
    | none=>grind
    | some g=>
     rw [b,c] at e;cases e;exact .cons (f b h) (bT f c t)
theorem j9 {K:PySem.W.Frag} {cl:Nat->Addr} {μ:Mp} {H:Hp} {S:Sto} (rp:Rep K cl μ S H):∀ (n:Nat) {d:D} {v:V} {q:PyData},c9 n S d=some q->RD K μ H d v->DAt K H v q
 | 0,_,_,_,e,_=>by cases e
 | n+1,d,v,q,e,r=>by
  have all:∀ {ds:List D} {vs:List V} {qs:List PyData},d8 (c9 n S) ds=some qs->RDs K μ H ds vs->DAll K H vs qs:=λe r=>bT (λe r=>j9 rp n e r) e r;have um:∀ {ds:List D} {C:List PyData->PyData},(d8 (c9 n S) ds).map C=some q->∃ qs,d8 (c9 n S) ds=some qs/\q=C qs:=λ{ds C} e=>by
   cases e1:d8 (c9 n S) ds with
   | none=>rw [e1] at e;cases e
   | some qs=>grind
  cases r with
  | non=>cases e;exact .non
  | bl b=>cases e;exact .bl b
  | int i=>cases e;exact .int i
  | str x=>cases e;exact .str x
  | tup h t=>obtain ⟨qs,e1,rfl⟩:=um e;exact .tup h.sq (all e1 t)
  | lst h t=>obtain ⟨qs,e1,rfl⟩:=um e;exact .lst h.sq (all e1 t)
  | scr h t=>obtain ⟨qs,e1,rfl⟩:=um e;exact .lst h.sq (all e1 t)
  | ref h=>
   rename_i k a;simp only [c9] at e;cases q1:S[k]? with
   | none=>rw [q1] at e;cases e
   | some o=>
    rw [q1] at e;cases o with
    | lst ds=>
     obtain ⟨qs,e1,rfl⟩:=um e;obtain ⟨xs,h1,h2⟩:=rp.ats k _ a q1 h;exact .lst (.inl (.inl h1)) (all e1 h2)
    | dct _=>cases e
    | exc _ _=>cases e
def J5 (x y:D):M D:=match x,y with
 | .int i,.int j=>ret (.int (i+j))
 | .str a,.str b=>if a.length+b.length<=sizeLine then ret (.str (a++b)) else bad
 | .tup xs,.tup ys=>if xs.length+ys.length<=sizeLine then ret (.tup (xs++ys)) else bad
 | x,y=>bind (lstOf x) λxs=>bind (lstOf y) λys=>if xs.length+ys.length<=sizeLine then ret (.lst (xs++ys)) else bad
def oh (x y:D):M D:=match x,y with
 | .int i,.int j=>ret (.int (i-j))
 | _,_=>bad
instance (i j:Int):Decidable (CMul i j):=by unfold CMul;infer_instance
instance (i j:Int):Decidable (gC i j):=by unfold gC;infer_instance
instance (i j:Int):Decidable (kr i j):=by unfold kr;infer_instance
def P3 (x y:D):M D:=match x,y with
 | .int i,.int j=>if 0<j then ret (.int (i % j)) else bad
 | _,_=>bad
def M8 (x y:D):M D:=match x,y with
 | .int i,.int j=>if gC i j then ret (.int (i / j)) else bad
 | _,_=>bad
def cj (x y:D):M D:=match x,y with
 | .int i,.int j=>if kr i j then ret (.int (i ^ j.toNat)) else bad
 | _,_=>bad
def aP (x y:D):M D:=match x,y with
 | .int i,.int j=>if CMul i j then ret (.int (i * j)) else bad
 | .tup ds,.int k=>if (ds≠[]/\1<=k/\k<2 ^ 63)/\ds.length * k.toNat<=sizeLine then ret (.tup (List.replicate k.toNat ds).flatten) else bad
 | x,.int k=>bind (lstOf x) λxs=>if (-(2 ^ 63)<=k/\k<2 ^ 63)/\xs.length * k.toNat<=sizeLine then ret (.lst (List.replicate k.toNat xs).flatten) else bad
 | _,_=>bad
section
variable {X:Cx} {cl:Nat->Addr} {xe:Addr->Hp->Prop}
theorem jl:OpR X (binaryOp .Add) (λx y H Q=>∃ a b ys,x=.ref a/\y=.ref b/\SqT X.K H a []/\SqT X.K H b ys/\Q (.ref b) H):=by
 intro pins s σ H x y v u Q I t z h;obtain ⟨a,b,ys,rfl,rfl,B,C,q⟩:=h;cases t;cases z;obtain ⟨w,p,F,_⟩:=I.tuple B;obtain ⟨d,J,G,_⟩:=I.tuple C;cases p;obtain ⟨⟨r,E,l,D⟩,k,o,n,hd⟩:=id F;obtain ⟨⟨m,g,j,f⟩,c,i,A,e⟩:=id G;subst o hd i e;exact concat_meets ⟨_,k,rfl⟩ ⟨_,c,rfl⟩ DM Ef CL CG (CC _ _)
   (tuple_addW0 a b #[] d.toArray n A E g D f rfl) ⟨k,c,⟨.ref b,H,I,rfl,q⟩⟩
theorem tL:OpR X (binaryOp .Add) (rP2 X.K cl xe J5):=by
 intro pins s σ H x y v u Q I n o ⟨μ,S,d,e,A,B,c,p⟩;have L:Post X.K cl xe μ H (bind (lstOf d) (λxs=>bind (lstOf e) λys=>if xs.length+ys.length<=sizeLine then ret (.lst (xs++ys)) else bad) S) (λr _ μ' H'=>∀ v,RD X.K μ' H' r v->Q v H')->wpAny (model X.prog X.w) X.A (binaryOp .Add v u) (EP X pins σ Q) X.xe s:=λp=>by
  obtain ⟨a,xs,ds,rfl,q,m,E⟩:=k8 A c p.bind;have p:=p.ok_bind E;obtain ⟨b,ys,es,rfl,t,h,G⟩:=k8 B c p.bind;obtain ⟨k,p⟩:=(p.ok_bind G).guard;refine oe pins s σ H _ _ v u Q I n o ⟨a,b,xs,ys,rfl,rfl,q,t,by rw [<- m.length,<- h.length];exact k,λz hz=>?_⟩;obtain ⟨l,f,g⟩:=m7 c (m.append h) hz;exact p μ _ l f _ g
 cases d <;> cases e <;> try (exact L p)
 case int.int i j=>cases A;cases B;exact pP pins s σ H _ _ v u Q I n o ⟨i,j,rfl,rfl,p μ H (Lat.refl _ _) c _ (.int _)⟩
 case str.str i j=>
  cases A;cases B;obtain ⟨k,p⟩:=Post.guard p;exact cW pins s σ H _ _ v u Q I n o ⟨i,j,rfl,rfl,k,p μ H (Lat.refl _ _) c _ (.str _)⟩
 case tup.tup ds es=>
  obtain ⟨k,p⟩:=Post.guard p;cases A with
  | tup q m=>
   cases B with
   | tup t h=>
    rename_i a xs b ys;cases ds with
    | nil=>
     cases m;exact jl pins s σ H _ _ v u Q I n o ⟨a,b,ys,rfl,rfl,q.sq,t.sq,p μ H (Lat.refl _ _) c _ (.tup t h)⟩
    | cons d ds=>
     cases m with
     | cons D C=>
      rename_i K J;refine lI pins s σ H _ _ v u Q I n o ⟨a,b,_,ys,rfl,rfl,q.sq,t.sq,by simp,by rw [<- h.length];simpa [C.length] using k,λz=>?_,λz w F=>?_⟩
      ·subst z;cases h;rw [Bj] at p;exact p μ H (Lat.refl _ _) c _ (.tup q (.cons D C))
      ·obtain ⟨l,f,g⟩:=F9 c ((RDs.cons D C).append h) F;exact p μ _ l f _ g
theorem rP:OpR X (binaryOp .Sub) (rP2 X.K cl xe oh):=by
 intro pins s σ H x y v u Q I c f ⟨μ,S,d,e,b,a,g,p⟩;cases d <;> cases e <;> try (exact False.elim p)
 case int.int i j=>cases b;cases a;exact pK pins s σ H _ _ v u Q I c f ⟨i,j,rfl,rfl,p μ H (Lat.refl _ _) g _ (.int _)⟩
theorem tJ:OpR X (binaryOp .Mod) (rP2 X.K cl xe P3):=by
 intro pins s σ H x y v u Q I f g ⟨μ,S,d,e,c,b,h,p⟩;cases d <;> cases e <;> try (exact False.elim p)
 case int.int i j=>
  cases c;cases b;obtain ⟨a,p⟩:=Post.guard p;exact oQ pins s σ H _ _ v u Q I f g ⟨i,j,rfl,rfl,a,p μ H (Lat.refl _ _) h _ (.int _)⟩
theorem pS:OpR X (binaryOp .FloorDiv) (rP2 X.K cl xe M8):=by
 intro pins s σ H x y v u Q I f g ⟨μ,S,d,e,c,b,h,p⟩;cases d <;> cases e <;> try (exact False.elim p)
 case int.int i j=>
  cases c;cases b;obtain ⟨a,p⟩:=Post.guard p;exact lL pins s σ H _ _ v u Q I f g ⟨i,j,rfl,rfl,a,p μ H (Lat.refl _ _) h _ (.int _)⟩
theorem rY:OpR X (binaryOp .Pow) (rP2 X.K cl xe cj):=by
 intro pins s σ H x y v u Q I f g ⟨μ,S,d,e,c,b,h,p⟩;cases d <;> cases e <;> try (exact False.elim p)
 case int.int i j=>
  cases c;cases b;obtain ⟨a,p⟩:=Post.guard p;exact pG pins s σ H _ _ v u Q I f g ⟨i,j,rfl,rfl,a,p μ H (Lat.refl _ _) h _ (.int _)⟩
theorem rj:OpR X (binaryOp .Mult) (rP2 X.K cl xe aP):=by
 intro pins s σ H x y v u Q I A B ⟨μ,S,d,e,t,n,h,p⟩;have L:∀ k:Int,e=.int k->Post X.K cl xe μ H (bind (lstOf d) (λxs=>if (-(2 ^ 63)<=k/\k<2 ^ 63)/\xs.length * k.toNat<=sizeLine then ret (.lst (List.replicate k.toNat xs).flatten) else bad) S) (λr _ μ' H'=>∀ v,RD X.K μ' H' r v->Q v H')->wpAny (model X.prog X.w) X.A (binaryOp .Mult v u) (EP X pins σ Q) X.xe s:=λk F q=>by
  clear p;subst F;cases n;obtain ⟨a,xs,ds,rfl,m,b,G⟩:=k8 t h q.bind;obtain ⟨⟨⟨o,k2⟩,g⟩,p⟩:=(q.ok_bind G).guard;refine nc pins s σ H _ _ v u Q I A B ⟨a,k,xs,rfl,rfl,m,o,k2,by rw [<- b.length];exact g,λz hz=>?_⟩;obtain ⟨l,c,f⟩:=m7 h (b.rep k.toNat) hz;exact p μ _ l c _ f
 cases d <;> cases e <;> try (exact False.elim p)
 case int.int i j=>
  cases t;cases n;obtain ⟨g,p⟩:=Post.guard p;exact pf pins s σ H _ _ v u Q I A B ⟨i,j,rfl,rfl,g,p μ H (Lat.refl _ _) h _ (.int _)⟩
 case tup.int ds k=>
  cases n;obtain ⟨⟨⟨D,o,k2⟩,g⟩,p⟩:=Post.guard p;cases t with
  | tup m b=>
   rename_i a xs;have C:xs≠[]:=λz=>by subst z;cases b;exact D rfl
   refine mO pins s σ H _ _ v u Q I A B ⟨a,k,xs,rfl,rfl,m.sq,C,o,k2,by rw [<- b.length];exact g,λz=>?_,λz w E=>?_⟩
   ·subst z;have e:(List.replicate (1:Int).toNat ds).flatten=ds:=by simp
    rw [e] at p;exact p μ H (Lat.refl _ _) h _ (.tup m b)
   ·obtain ⟨l,c,f⟩:=F9 h (b.rep k.toNat) E;exact p μ _ l c _ f
 all_goals exact L _ rfl p
end
def eqP (a:Bool) (x y:D):M D:=λS=>match c9 64 S x,c9 64 S y with
 | some p,some q=>(if p.canLay0=true/\q.canLay0=true/\min p.depth q.depth<=60 then ret (.bl (if a then !PyData.eqv p q else PyData.eqv p q)) else bad) S
 | _,_=>.bad
def eqD (c:Bool) (x y:D):M D:=match x,y with
 | .str a,.str b=>ret (.bl (if c then !decide (a=b) else decide (a=b)))
 | .int a,.int b=>ret (.bl (if c then !decide (a=b) else decide (a=b)))
 | x,y=>eqP c x y
def ib (f:Int->Int->Bool) (x y:D):M D:=match x,y with
 | .int i,.int j=>ret (.bl (f i j))
 | _,_=>bad
def kZ (a:Bool) (d:PyData) (ps:List PyData):M D:=if d.canLay0=true/\PyData.canLayAll0 ps=true/\min (PyData.depthAll ps) d.depth<=60 then ret (.bl (if a then !(ps.any λy=>PyData.eqv y d) else ps.any λy=>PyData.eqv y d)) else bad
def inD (a:Bool) (x y:D):M D:=λS=>match c9 64 S x,c9 64 S y with
 | some d,some (.list ps)=>kZ a d ps S
 | some d,some (.tuple ps)=>kZ a d ps S
 | _,_=>.bad
def isD (a:Bool) (x y:D):M D:=match y with
 | .non=>ret (.bl (match x with
  | .non=>!a
  | _=>a))
 | .bl b=>ret (.bl (match x with
  | .bl c=>if a then !(c==b) else c==b
  | _=>a))
 | _=>bad
section
variable {X:Cx} {cl:Nat->Addr} {xe:Addr->Hp->Prop}
theorem uB (q:X.A.units+64<cLine):OpR X (compareOp .Eq) (rP2 X.K cl xe (eqD false)):=by
 intro pins s σ H x y v u Q I i k ⟨μ,S,d,e,j,l,c,p⟩;have g:Post X.K cl xe μ H (eqP false d e S) (λr _ μ' H'=>∀ v,RD X.K μ' H' r v->Q v H')->wpAny (model X.prog X.w) X.A (compareOp .Eq v u) (EP X pins σ Q) X.xe s:=λp=>by
  simp only [eqP] at p;cases f:c9 64 S d with
  | none=>rw [f] at p;exact p.elim
  | some a=>
   cases h:c9 64 S e with
   | none=>rw [f,h] at p;exact p.elim
   | some b=>
    rw [f,h] at p;obtain ⟨⟨m,n,o⟩,p⟩:=Post.guard p;exact oU q pins s σ H _ _ v u Q I i k ⟨a,b,j9 c 64 f j,j9 c 64 h l,m,n,o,p μ H (Lat.refl _ _) c _ (.bl _)⟩
 cases d <;> cases e <;> try (exact g p)
 case str.str a b=>
  cases j;cases l;exact rV pins s σ H _ _ v u Q I i k ⟨rfl,by rw [show decide (V.str a=V.str b)=decide (a=b) by rw [BJ];simp];exact p μ H (Lat.refl _ _) c _ (.bl _)⟩
theorem tz (q:X.A.units+64<cLine):OpR X (compareOp .NotEq) (rP2 X.K cl xe (eqD true)):=by
 intro pins s σ H x y v u Q I i k ⟨μ,S,d,e,j,l,c,p⟩;have g:Post X.K cl xe μ H (eqP true d e S) (λr _ μ' H'=>∀ v,RD X.K μ' H' r v->Q v H')->wpAny (model X.prog X.w) X.A (compareOp .NotEq v u) (EP X pins σ Q) X.xe s:=λp=>by
  simp only [eqP] at p;cases f:c9 64 S d with
  | none=>rw [f] at p;exact p.elim
  | some a=>
   cases h:c9 64 S e with
   | none=>rw [f,h] at p;exact p.elim
   | some b=>
    rw [f,h] at p;obtain ⟨⟨m,n,o⟩,p⟩:=Post.guard p;exact om q pins s σ H _ _ v u Q I i k ⟨a,b,j9 c 64 f j,j9 c 64 h l,m,n,o,p μ H (Lat.refl _ _) c _ (.bl _)⟩
 cases d <;> cases e <;> try (exact g p)
 case str.str a b=>
  cases j;cases l;exact si pins s σ H _ _ v u Q I i k ⟨rfl,by rw [show decide (V.str a=V.str b)=decide (a=b) by rw [BJ];simp];exact p μ H (Lat.refl _ _) c _ (.bl _)⟩
theorem eA (h:OpR X (compareOp op) (rI0 λi j=>.bl (f i j))):OpR X (compareOp op) (rP2 X.K cl xe (ib f)):=by
 intro pins s σ H x y v u Q I b g ⟨μ,S,d,e,c,k,a,p⟩;cases d <;> cases e <;> try (exact False.elim p)
 case int.int i j=>cases c;cases k;exact h pins s σ H _ _ v u Q I b g ⟨i,j,rfl,rfl,p μ H (Lat.refl _ _) a _ (.bl _)⟩
theorem V8 {a:Bool} (o:X.A.units+80<cLine) {pins:List (Addr×Obj)} {s:Shared} {σ:L2.St} {H:Hp} {x y:V} {v u:Value} {Q:VK} {d:PyData} {ps:List PyData} (I:Inv X pins σ H s) (l:RelV x v) (j:RelV y u)
  (hd:DAt X.K H x d) (f:DAt X.K H y (.list ps)\/DAt X.K H y (.tuple ps)) (c:d.canLay0=true/\PyData.canLayAll0 ps=true/\min (PyData.depthAll ps) d.depth<=60)
  (q:Q (.bl (if a then !(ps.any λy=>PyData.eqv y d) else ps.any λy=>PyData.eqv y d)) H):wpAny (model X.prog X.w) X.A (compareOp (if a then .NotIn else .In) v u) (EP X pins σ Q) X.xe s:=by
 obtain ⟨h,i,n⟩:=c;obtain ⟨m,g⟩:=hd.reads I l;have b:X.A.units+1+min (PyData.depthAll ps) d.depth<cLine:=by omega
 rcases f with f | f
 ·obtain ⟨k,e⟩:=f.reads I j;cases a with
  | false=>exact SeqAt.in_list_reads e g i h b ⟨.bl _,H,I,rfl,q⟩
  | true=>exact SeqAt.notIn_list_reads e g i h b ⟨.bl _,H,I,rfl,q⟩
 ·obtain ⟨k,e⟩:=f.reads I j;cases a with
  | false=>exact SeqAt.in_tuple_reads e g i h b ⟨.bl _,H,I,rfl,q⟩
  | true=>exact SeqAt.notIn_tuple_reads e g i h b ⟨.bl _,H,I,rfl,q⟩
theorem rJ (neg:Bool) (hu:X.A.units+80<cLine):OpR X (compareOp (if neg then .NotIn else .In)) (rP2 X.K cl xe (inD neg)):=by
 intro pins s σ H x y v u Q I rx ry ⟨μ,S,d,e,rd,re,rp,p⟩;simp only [inD] at p;cases e1:c9 64 S d with
 | none=>rw [e1] at p;exact p.elim
 | some a=>
  cases e2:c9 64 S e with
  | none=>rw [e1,e2] at p;exact p.elim
  | some b=>
   rw [e1,e2] at p;have ha:=j9 rp 64 e1 rd;have hb:=j9 rp 64 e2 re;cases b with
   | list ps=>obtain ⟨c,p⟩:=Post.guard p;exact V8 hu I rx ry ha (.inl hb) c (p μ H (Lat.refl _ _) rp _ (.bl _))
   | tuple ps=>obtain ⟨c,p⟩:=Post.guard p;exact V8 hu I rx ry ha (.inr hb) c (p μ H (Lat.refl _ _) rp _ (.bl _))
   | _=>exact p.elim
theorem rm (f:Bool):OpR X (compareOp (if f then .IsNot else .Is)) (rP2 X.K cl xe (isD f)):=by
 intro pins s σ H x y v u Q I a i ⟨μ,S,d,e,h,k,j,p⟩;have g:∀ b:Bool,(∀ μ' H',Lat μ H μ' H'->Rep X.K cl μ' S H'->∀ v,RD X.K μ' H' (.bl b) v->Q v H')->∀ c,c=b->EP X pins σ Q (.bool c) s:=λb p c e=>⟨.bl b,H,I,by rw [e];rfl,p μ H (Lat.refl _ _) j _ (.bl _)⟩;cases k <;> try (exact False.elim p)
 case non=>
  cases i;cases f with
  | false=>
   refine is_none_gen (g _ p _ ?_);cases h <;> first
    | (cases a;rfl)
    | (obtain ⟨t,rfl⟩:=a;rfl)
  | true=>
   refine isnot_none_gen (g _ p _ ?_);cases h <;> first
    | (cases a;rfl)
    | (obtain ⟨t,rfl⟩:=a;rfl)
 case bl b=>
  cases i;cases f with
  | false=>
   refine wpAny_is_plain ?_ (g _ p _ ?_)
   ·cases h <;> first
    | (cases a;rfl)
    | (obtain ⟨t,rfl⟩:=a;rfl)
   ·cases h <;> first
    | (cases a;rfl)
    | (obtain ⟨t,rfl⟩:=a;rfl)
    | (cases a;(rename_i c;cases c <;> cases b <;> rfl))
  | true=>
   refine wpAny_isNot_plain ?_ (g _ p _ ?_)
   ·cases h <;> first
    | (cases a;rfl)
    | (obtain ⟨t,rfl⟩:=a;rfl)
   ·cases h <;> first
    | (cases a;rfl)
    | (obtain ⟨t,rfl⟩:=a;rfl)
    | (cases a;(rename_i c;cases c <;> cases b <;> rfl))
end
def U8:D->Option Key
 | .int i=>some (.inl i)
 | .str x=>some (.inr x)
 | _=>none
def mG {κ:Type} [DecidableEq κ] (a:List (κ×D)) (k:κ):Option D:=(a.find? λb=>decide (b.1=k)).map (·.2)
def oP {κ:Type} [DecidableEq κ] (a:List (κ×D)) (k:κ) (v:D):List (κ×D):=if a.any (λb=>decide (b.1=k)) then a.map (λb=>if b.1=k then (b.1,v) else b) else a++[(k,v)]
def P2 {b:Type}:Option b->M b
 | some a=>ret a
 | none=>bad
def ixD (x y:D):M D:=match x with
 | .ref n=>λS=>match S[n]? with
  | some (.lst ds)=>(match y with
   | .int i=>P2 (atI ds i)
   | _=>bad) S
  | some (.dct a)=>P2 ((U8 y).bind (mG a)) S
  | _=>.bad
 | x=>match y with
  | .int i=>bind (p4 x) λds=>P2 (atI ds i)
  | _=>bad
theorem nX {K:PySem.W.Frag} {μ:Mp} {H:Hp} {ds:List D} {xs:List V} {i:Int} {d:D} (r:RDs K μ H ds xs) (e:atI ds i=some d):∃ v,atI xs i=some v/\RD K μ H d v:=by
 unfold atI at e ⊢;rw [<- r.length];cases q:ixN ds.length i with
 | none=>rw [q] at e;cases e
 | some j=>rw [q] at e;exact r.get e
theorem dy {K:PySem.W.Frag} {cl:Nat->Addr} {xe:Addr->Hp->Prop} {μ:Mp} {H:Hp} {S:Sto} {b:Type} {o:Option b} {G:b->Sto->Mp->Hp->Prop} (p:Post K cl xe μ H (P2 o S) G):∃ a,o=some a/\∀ μ' H',Lat μ H μ' H'->Rep K cl μ' S H'->G a S μ' H':=by
 cases o with
 | none=>exact p.elim
 | some a=>exact ⟨a,rfl,p⟩
theorem dY {K:PySem.W.Frag} {μ:Mp} {H:Hp} {k:Key} {d:D}:∀ {a:List (Key×D)} {f:List (Key×V)},KvsAt K μ H a f->mG a k=some d->∃ v,N0 f k=some v/\RD K μ H d v
 | _,_,.nil,e=>by simp [mG] at e
 | p :: r,q :: j,.cons ⟨c,i⟩ t,e=>by
  unfold mG at e;rw [BK] at e;by_cases b:p.1=k
  ·simp only [b,decide_true] at e;cases e;exact ⟨q.2,G0 (c▸b),i⟩
  ·simp only [b,decide_false] at e;obtain ⟨v,g,h⟩:=dY t e;exact ⟨v,by rw [E1 (c▸b)];exact g,h⟩
theorem ag {K:PySem.W.Frag} {μ:Mp} {H:Hp} {y:D} {v:V} {k:Key} (r:RD K μ H y v) (e:U8 y=some k):v=kV k:=by
 cases r <;> simp only [U8] at e <;> first | (cases e;rfl) | cases e
section
variable {X:Cx} {cl:Nat->Addr} {xe:Addr->Hp->Prop}
theorem lG (o:X.A.units+1<cLine):IxR X (λx y H Q=>∃ a v,x=.ref a/\DGet H a y (some v)/\Q v H):=by
 intro d c pins s σ H x y v u Q I m n h hs;obtain ⟨a,w,rfl,g,q⟩:=h;cases m;have k:=ah I g;have i:wpAny (model X.prog X.w) X.A (getItem (.ref a) u) (EP X pins σ Q) X.xe s:=fW o I g n λw' p l j=>⟨w,H,l,j,q⟩;refine Ag ?_;rw [getitemInPython_of_ne k.not_modules];refine Ag (wpAny_specialOf k PySem.F.slot_dict_getitem.lookup ?_);have e:wpAny (model X.prog X.w) X.A (subscripted c false (.ref a) u) (λr b=>wpAny (model X.prog X.w) X.A (letTemporaryGo d (.ref a) r >>= λ_=>pure r) (EP X pins σ Q) X.xe b) X.xe s:=by
  rw [hs];exact wpAny_operating (AB i (λr b f=>Ag (wpAny_letTemporaryGo (Ai f))) λ_ _ x=>x)
 first
  | exact Ai (Ag e)
  | exact Ag (Ai (Ag e))
  | exact Ag e
theorem uG (hu:X.A.units+1<cLine):IxR X (rP2 X.K cl xe ixD):=by
 intro value slice pins s σ H x y v u Q I rx ry ⟨μ,S,d,e,rd,re,rp,p⟩ hs;have sq:∀ {a:Addr} {xs:List V} {ds:List D} {i:Int},(SqL X.K H a xs\/SqT X.K H a xs)->RDs X.K μ H ds xs->x=.ref a->e=.int i->Post X.K cl xe μ H (P2 (atI ds i) S) (λr _ μ' H'=>∀ v,RD X.K μ' H' r v->Q v H') ->
   wpAny (model X.prog X.w) X.A (subscriptTail value slice v u) (EP X pins σ Q) X.xe s:=λ{a xs ds i} hq r hx he q=>by
  clear p;subst hx he;cases re;obtain ⟨z,e1,q⟩:=dy q;obtain ⟨w,e2,rw'⟩:=nX r e1;rcases hq with hq | hq
  ·exact lP value slice pins s σ H _ _ v u Q I rx ry ⟨a,xs,i,w,rfl,rfl,hq,e2,q μ H (Lat.refl _ _) rp _ rw'⟩ hs
  ·exact iV value slice pins s σ H _ _ v u Q I rx ry ⟨a,xs,i,w,rfl,rfl,hq,e2,q μ H (Lat.refl _ _) rp _ rw'⟩ hs
 cases rd with
 | tup h r=>
  cases e <;> first | exact False.elim p | exact sq (.inr h.sq) r rfl rfl p
 | lst h r=>
  cases e <;> first | exact False.elim p | exact sq (.inl h.sq) r rfl rfl p
 | scr h r=>
  cases e <;> first | exact False.elim p | exact sq (.inl h.sq) r rfl rfl p
 | ref h=>
  rename_i n a;simp only [ixD] at p;cases q1:S[n]? with
  | none=>rw [q1] at p;exact p.elim
  | some o=>
   rw [q1] at p;cases o with
   | lst ds=>
    obtain ⟨xs,h1,h2⟩:=rp.ats n _ a q1 h;cases e <;> first | exact False.elim p | exact sq (.inl (.inl (.inl h1))) h2 rfl rfl p
   | dct kvs=>
    obtain ⟨ks,h1,h2⟩:=rp.ats n _ a q1 h;obtain ⟨z,e1,p⟩:=dy p;cases e2:U8 e with
    | none=>grind
    | some k=>
     rw [e2] at e1;obtain ⟨w,e3,r3⟩:=dY h2 e1;have hy:=ag re e2;subst hy;exact lG hu value slice pins s σ H _ _ v u Q I rx ry ⟨a,w,rfl,by rw [<- e3];exact DGet.k h1,p μ H (Lat.refl _ _) rp _ r3⟩ hs
   | exc _ _=>exact p.elim
 | _=>cases e <;> exact False.elim p
def B0 (ds:List D) (lo a:Option Int):List D:=(ds.drop (HT.sIx ds.length 0 lo)).take (HT.sIx ds.length ds.length a-HT.sIx ds.length 0 lo)
theorem gq {K:PySem.W.Frag} {μ:Mp} {H:Hp} {ds:List D} {xs:List V} (r:RDs K μ H ds xs) (lo a:Option Int):RDs K μ H (B0 ds lo a) (bE xs lo a):=by
 unfold B0 bE;rw [<- r.length];exact (r.drop _).take _
def slD (x:D) (lo a:Option Int):M D:=match x with
 | .tup ds=>ret (.tup (B0 ds lo a))
 | x=>bind (match x with
  | .scr ds=>ret ds
  | x=>lstOf x) λds=>ret (.lst (B0 ds lo a))
end
def b8:Expr->Bool
 | .Starred ..=>false
 | _=>true
def v5:Expr->Bool
 | .ListComp ..=>false
 | .SetComp ..=>false
 | .DictComp ..=>false
 | _=>true
def z4:Expr->Bool
 | .Slice ..=>false
 | _=>true
def j6:Expr->Bool
 | .Set ..=>false
 | _=>true
def n8:Expr->Bool
 | .Call (.Name _ _) [] [] _=>false
 | _=>true
theorem e8 (h:b8 e=true):starEach (e :: es) env=(false,eval e env) :: starEach es env:=by
 cases e <;> first | rfl | (exact absurd h (by simp [b8]))
theorem p0:∀ {es:List Expr} {a:PySem.Env} {pos:Pos},es.all b8=true->(backTo pos (starEach es a)).any (·.1)=false
 | [],_,_,_=>rfl
 | e :: es,a,pos,h=>by
  rw [BD,Ao] at h;rw [e8 h.1];show (false||(backTo pos (starEach es a)).any (·.1))=false;rw [p0 h.2];rfl
theorem Q6:∀ {es:List Expr} {a:PySem.Env} {pos:Pos},es.all b8=true->(backTo pos (starEach es a)).all (λx=>!x.1)=true
 | [],_,_,_=>rfl
 | e :: es,a,pos,h=>by
  rw [BD,Ao] at h;rw [e8 h.1];show (!false&&(backTo pos (starEach es a)).all (λx=>!x.1))=true;rw [Q6 h.2];rfl
theorem E6 (h:v5 e=true):swapsWith e t n env=pure false:=by
 cases e <;> first | rfl | (exact absurd h (by simp [v5]))
theorem cS (h:z4 e=true):X8 e:=by
 intro o i;cases e <;> first | rfl | (exact absurd h (by simp [z4]))
theorem W6 {e:Expr} (h:j6 e=true):behindInMarks op e=false:=by
 cases e <;> first | rfl | (exact absurd h (by simp [j6]))
theorem u6 (h:j6 e=true):∀ x,foldedSetIterable e env x=pure x:=by
 intro x;cases e <;> first | rfl | (exact absurd h (by simp [j6]))
theorem Z6 (h:n8 o=true):attributeBase o f env (eval o env)=eval o env:=by
 unfold attributeBase;split
 ·exact absurd h (by simp [n8])
 ·rfl
section
variable {X:Cx} {cl:Nat->Addr} {xe:Addr->Hp->Prop} {e:Expr} {es:List Expr} {pos:Pos} {f:Env->M D} {fs:Env->M (List D)}
theorem Z9:PA X [] (tDs X.K cl xe λ_=>ret []):=PA.imp nl λσ H Q ⟨μ,S,ρ,b,a,p⟩=>p.ret μ H (Lat.refl _ _) a [] .nil
theorem P7 (h:PE X e (tD X.K cl xe f)) (hs:PA X es (tDs X.K cl xe fs)) (m:b8 e=true):PA X (e :: es) (tDs X.K cl xe λρ=>bind (f ρ) λd=>bind (fs ρ) λds=>ret (d :: ds)):=
 PA.imp (mQ h hs (e8 m)) λσ H Q ⟨μ,S,ρ,c,l,p⟩=>
  ⟨μ,S,ρ,c,l,p.bind.imp λd S1 b s q r i v g=>⟨b,S1,ρ,c.later q,r,i.bind.imp λds S2 μ2 j o n k vs a=>k.ret μ2 j (Lat.refl _ _) n _ (.cons (g.later o) a)⟩⟩
def qB (ds:List D):M D:=if ds.length<=sizeLine then ret (.tup ds) else bad
def nq (ds:List D):M D:=if ds.length<=sizeLine then ret (.lst ds) else bad
theorem qH (h:PA X es (tDs X.K cl xe fs)):PE X (.Tuple es k pos) (tD X.K cl xe λρ=>bind (fs ρ) qB):=PE.imp (qD h) λσ H Q ⟨μ,S,ρ,i,g,p⟩=>
 ⟨μ,S,ρ,i,g,p.bind.imp λds S1 e m n j c vs a=>by
  obtain ⟨f,c⟩:=Post.guard c;refine ⟨by rw [<- a.length];exact f,λz hz=>?_⟩;obtain ⟨l,b,d⟩:=F9 j a hz;exact c e _ l b _ d⟩
theorem oJ (h:PA X es (tDs X.K cl xe fs)):PE X (.List es pos) (tD X.K cl xe λρ=>bind (fs ρ) nq):=PE.imp (gI h) λσ H Q ⟨μ,S,ρ,i,g,p⟩=>
 ⟨μ,S,ρ,i,g,p.bind.imp λds S1 e k m j c vs a=>by
  obtain ⟨f,c⟩:=Post.guard c;refine ⟨by rw [<- a.length];exact f,λz hz=>?_⟩;obtain ⟨l,b,d⟩:=m7 j a hz;exact c e _ l b _ d⟩
def newL (ds:List D):M D:=λS=>if ds.length<=sizeLine then .ok (.ref S.length) (S++[.lst ds]) else .bad
theorem aJ (h:PA X es (tDs X.K cl xe fs)):PE X (.List es pos) (tD X.K cl xe λρ=>bind (fs ρ) newL):=PE.imp (gI h) λσ H Q ⟨μ,S,ρ,i,g,p⟩=>
 ⟨μ,S,ρ,i,g,p.bind.imp λds S1 f k m j a vs b=>by
  unfold newL at a;by_cases e:ds.length<=sizeLine
  ·rw [if_pos e] at a;refine ⟨by rw [<- b.length];exact e,λz hz=>?_⟩;obtain ⟨l,c,d⟩:=X2 j b hz;exact a _ _ l c _ d
  ·rw [if_neg e] at a;exact a.elim⟩
def gQ (E:XK):Addr->Hp->Prop:=λa H=>E (.ref a) none H
def spD (K:PySem.W.Frag) (cl:Nat->Addr) (n:Nat) (a:List D->M D):Sp:=λvs H Q E=>vs.length=n/\∃ μ S ds,RDs K μ H ds vs/\Rep K cl μ S H/\Post K cl (gQ E0) μ H (a ds S) λd _ μ' H'=>∀ v,RD K μ' H' d v->Q v H'
theorem jQ {id:String} {x:Str} {p:Pos} (d:j7 X (.builtin id) (rPs X.K cl xe g)) (o:Gl X x) (k:X.mg x=none) (h:bootBuiltins x=some (.builtin id)) (m:PA X (e :: es) (tDs X.K cl xe fs)) (j:x ≠ "__name__") (c:(x==("__debug__" : Str))=false) (hs:(e :: es).all b8=true) :
  PE X (.Call (.Name x p) (e :: es) [] pos) (tD X.K cl xe λρ=>bind (fs ρ) g):=by
 rw [BD,Ao] at hs;exact PE.imp (jp d o k h m j c (e8 hs.1) (p0 hs.2)) λσ H Q ⟨μ,S,ρ,l,i,p⟩=>⟨μ,S,ρ,l,i,p.bind.imp λds S1 b q r n f vs a=>⟨b,S1,ds,a,n,f⟩⟩
theorem al {T:String} {x:Str} {p:Pos} (d:j7 X (.type T) (rPs X.K cl xe g)) (o:Gl X x) (k:X.mg x=none) (h:bootBuiltins x=some (.type T)) (m:PA X (e :: es) (tDs X.K cl xe fs)) (j:x ≠ "__name__") (c:(x==("__debug__" : Str))=false) (hs:(e :: es).all b8=true) :
  PE X (.Call (.Name x p) (e :: es) [] pos) (tD X.K cl xe λρ=>bind (fs ρ) g):=by
 rw [BD,Ao] at hs;exact PE.imp (fm d o k h m j c (e8 hs.1) (p0 hs.2)) λσ H Q ⟨μ,S,ρ,l,i,p⟩=>⟨μ,S,ρ,l,i,p.bind.imp λds S1 b q r n f vs a=>⟨b,S1,ds,a,n,f⟩⟩
end
def one (g:D->M D) (ds:List D):M D:=match ds with
 | [d]=>g d
 | _=>bad
def A5 (d:D):M D:=match d with
 | .str x=>if x.length<=sizeLine then ret (.int x.length) else bad
 | .ref n=>λS=>match S[n]? with
  | some (.lst ds)=>.ok (.int ds.length) S
  | some (.dct a)=>.ok (.int a.length) S
  | _=>.bad
 | d=>bind (p4 d) λds=>ret (.int ds.length)
def v2 (d:D):M D:=match d with
 | .tup ds=>ret (.tup ds)
 | d=>bind (p4 d) λds=>ret (.tup ds)
def iz (d:D):M D:=bind (p4 d) λds=>ret (.lst ds)
instance (p:PyData):Decidable (Shows p):=decidable_of_iff (p.showable=true/\p.hasDict=false/\p.depth<=60/\p.shown.length<=sizeLine) ⟨λ⟨a,b,c,d⟩=>⟨a,b,c,d⟩,λ⟨a,b,c,d⟩=>⟨a,b,c,d⟩⟩
def q9 (d:D):M D:=λS=>match c9 64 S d with
 | some p=>(if Shows p then ret (.str p.shown) else bad) S
 | none=>.bad
theorem mP {K:PySem.W.Frag} {μ:Mp} {H:Hp} {d:D} {vs:List V} (r:RDs K μ H [d] vs):∃ v,vs=[v]/\RD K μ H d v:=by
 cases r with
 | cons h t=>cases t;exact ⟨_,rfl,h⟩
section
variable {X:Cx} {cl:Nat->Addr} {xe:Addr->Hp->Prop}
theorem D0 (h:∀ (pins:List (Addr×Obj)) (s:Shared) (σ:L2.St) (H:Hp) (μ:Mp) (S:Sto) (d:D) (v:V) (us:List Value) (Q:VK),L2.Inv X pins σ H s->Vals [v] us->RD X.K μ H d v->Rep X.K cl μ S H->Post X.K cl xe μ H (g d S) (λr _ μ' H'=>∀ v,RD X.K μ' H' r v->Q v H') ->
  wpAny (model X.prog X.w) X.A (call f us) (EP X pins σ Q) X.xe s):j7 X f (rPs X.K cl xe (one g)):=by
 intro pins s σ H xs us Q I r ⟨μ,S,ds,a,c,p⟩
 match ds,p with
 | [d],p=>
  obtain ⟨v,rfl,b⟩:=mP a;exact h pins s σ H μ S d v us Q I r b c p
 | [],p=>exact p.elim
 | _ :: _ :: _,p=>exact p.elim
theorem sr:j7 X (.builtin "len") (rPs X.K cl xe (one A5)):=D0 λpins s σ H μ S d v us Q I r rd rp p=>by
 have sq:∀ {a:Addr} {xs:List V} {ds:List D},(SqL X.K H a xs\/SqT X.K H a xs)->RDs X.K μ H ds xs->v=.ref a->(∀ μ' H',Lat μ H μ' H'->Rep X.K cl μ' S H'->∀ w,RD X.K μ' H' (.int ds.length) w->Q w H')->wpAny (model X.prog X.w) X.A (call (.builtin "len") us) (EP X pins σ Q) X.xe s:=λ{a xs ds} hq r2 hv q=>by
  subst hv;exact aT pins s σ H _ us Q I r ⟨a,xs,rfl,hq,by rw [<- r2.length];exact q μ H (Lat.refl _ _) rp _ (.int _)⟩
 cases rd with
 | str x=>
  obtain ⟨hl,p⟩:=Post.guard p;exact aF pins s σ H _ us Q I r ⟨x,rfl,hl,p μ H (Lat.refl _ _) rp _ (.int _)⟩
 | tup h r2=>exact sq (.inr h.sq) r2 rfl p
 | lst h r2=>exact sq (.inl h.sq) r2 rfl p
 | scr h r2=>exact sq (.inl h.sq) r2 rfl p
 | ref h=>
  rename_i n a;simp only [A5] at p;cases q1:S[n]? with
  | none=>rw [q1] at p;exact p.elim
  | some o=>
   rw [q1] at p;cases o with
   | lst ds=>
    obtain ⟨xs,h1,h2⟩:=rp.ats n _ a q1 h;exact sq (.inl (.inl (.inl h1))) h2 rfl p
   | dct kvs=>
    obtain ⟨ks,h1,h2⟩:=rp.ats n _ a q1 h;have hl:=Paired.length h2;exact fJ pins s σ H _ us Q I r ⟨a,ks,rfl,h1,by rw [<- hl];exact p μ H (Lat.refl _ _) rp _ (.int _)⟩
   | exc _ _=>exact p.elim
 | _=>exact False.elim p
theorem lE:j7 X (.type "tuple") (rPs X.K cl xe (one v2)):=D0 λpins s σ H μ S d v us Q I r rd rp p=>by
 have sq:∀ {a:Addr} {xs:List V} {ds:List D},SqL X.K H a xs->RDs X.K μ H ds xs->v=.ref a->(∀ μ' H',Lat μ H μ' H'->Rep X.K cl μ' S H'->∀ w,RD X.K μ' H' (.tup ds) w->Q w H')->wpAny (model X.prog X.w) X.A (call (.type "tuple") us) (EP X pins σ Q) X.xe s:=λ{a xs ds} hq r2 hv q=>by
  subst hv;refine C7 pins s σ H _ us Q I r ⟨a,xs,rfl,.inl ⟨hq,λz hz=>?_⟩⟩;obtain ⟨l,rp2,rd2⟩:=F9 rp r2 hz;exact q μ _ l rp2 _ rd2
 cases rd with
 | tup h r2=>exact C7 pins s σ H _ us Q I r ⟨_,_,rfl,.inr ⟨h.sq,p μ H (Lat.refl _ _) rp _ (.tup h r2)⟩⟩
 | lst h r2=>exact sq h.sq r2 rfl p
 | scr h r2=>exact sq h.sq r2 rfl p
 | ref h=>
  rename_i n a0;have p2:=p;obtain ⟨a,xs,ds,e1,h1,h2,e2⟩:=k8 (.ref h) rp p2.bind;exact sq (.inl (.inl h1)) h2 e1 (p2.ok_bind e2)
 | _=>exact False.elim p
theorem oi:j7 X (.type "list") (rPs X.K cl xe (one iz)):=D0 λpins s σ H μ S d v us Q I r f e p=>by
 obtain ⟨a,xs,ds,rfl,h,i,g⟩:=E7 f e p.bind;refine J2 pins s σ H _ us Q I r ⟨a,xs,rfl,h,λz hz=>?_⟩;obtain ⟨l,b,c⟩:=m7 e i hz;exact (p.ok_bind g) μ _ l b _ c
theorem oj (e:X.A.guards=some []) (f:X.A.units+64<cLine):j7 X (.builtin "repr") (rPs X.K cl xe (one q9)):=D0 λpins s σ H μ S d v us Q I r c b p=>by
 simp only [q9] at p;cases a:c9 64 S d with
 | none=>rw [a] at p;exact p.elim
 | some q=>
  rw [a] at p;obtain ⟨hs,p⟩:=Post.guard p;exact fX e f pins s σ H _ us Q I r ⟨v,q,rfl,j9 b 64 a c,hs,p μ H (Lat.refl _ _) b _ (.str _)⟩
end
def Mp.free (μ:Mp):Mp:=⟨μ.pl,μ.rs.tail⟩
section
variable {K:PySem.W.Frag} {cl:Nat->Addr} {xe:Addr->Hp->Prop} {μ μ2:Mp} {S S2:Sto} {H H2:Hp} {p:Addr} {o:HO}
theorem kG (i:Rep K cl μ S H) (h:H p=none):(∀ {d:D} {v:V},RD K μ H d v->RD K (μ.hold p) (upd H p o) d v)/\∀ {ds:List D} {vs:List V},RDs K μ H ds vs->RDs K (μ.hold p) (upd H p o) ds vs:=by
 have c:∀ a u,H a=some u->a∉μ.pl->a∉μ.rs->upd H p o a=some u/\a∉(μ.hold p).pl/\a∉(μ.hold p).rs:=λa u e f g=>by
  have b:=b4 e h;exact ⟨by rw [b1 b];exact e,f,λz=>(AA.mp z).elim b g⟩
 exact ⟨λr=>r.move (μ:=μ) (μ':=μ.hold p) (λ_ _ e=>e) c,λr=>r.move (μ:=μ) (μ':=μ.hold p) (λ_ _ e=>e) c⟩
theorem Q4 (c:Rep K cl μ S H) (b:H p=none):Rep K cl (μ.hold p) S (upd H p o):=by
 have j:∀ a u,H a=some u->a∉μ.pl->a∉μ.rs->upd H p o a=some u/\a∉(μ.hold p).pl/\a∉(μ.hold p).rs:=λa u e g h=>by
  have d:=b4 e b;exact ⟨by rw [b1 d];exact e,g,λz=>(AA.mp z).elim d h⟩
 refine c.move (λa m=>?_) rfl (λa m=>b1 λz=>c.notin b (z▸m)) (λa u e=>by rw [b1 (b4 e b)];exact e) j;rcases AA.mp (m) with rfl | m
 ·exact ⟨c.notin b,o,b6⟩
 ·obtain ⟨i,u,f⟩:=c.res a m;exact ⟨i,u,by rw [b1 (b4 f b)];exact f⟩
theorem Q5 (b:Rep K cl μ S H) (c:H p=none) (a:EnvOk K μ H ρ σ):EnvOk K (μ.hold p) (upd H p o) ρ σ:=⟨a.1,λi d e=>let ⟨v,q,r⟩:=a.2 i d e;⟨v,q,(kG b c).1 r⟩⟩
theorem T3 (r:RDs K μ H ds vs):RDs K μ.free H ds vs:=r.move (μ:=μ) (μ':=μ.free) (λ_ _ e=>e) λa u e b c=>⟨e,b,λz=>c (Df z)⟩
theorem J0 (b:Rep K cl μ S H):Rep K cl μ.free S H:=b.move (λa m=>b.res a (Df m)) rfl (λ_ _=>rfl) (λ_ _ e=>e) λa u e c d=>⟨e,c,λz=>d (Df z)⟩
theorem M0 (e:μ.rs=p :: rs) (r:RDs K μ H ds vs):RDs K μ (upd H p o) ds vs:=r.move (λ_ _ e=>e) λa u q c b=>⟨by rw [b1 (λz=>b (by rw [e,z];exact Ay))];exact q,c,b⟩
theorem E2 (e:μ.rs=p :: rs) (r:RD K μ H d v):RD K μ (upd H p o) d v:=r.move (λ_ _ e=>e) λa u q c b=>⟨by rw [b1 (λz=>b (by rw [e,z];exact Ay))];exact q,c,b⟩
theorem K1 (e:μ.rs=p :: rs) (h:H p=some (.lst xs)) (b:Rep K cl μ S H):Rep K cl μ S (upd H p o):=by
 have g:=(b.res p (by rw [e];exact Ay)).1;refine b.move (λa m=>?_) rfl (λa m=>b1 λz=>g (z▸m)) (λa u q=>by rw [b1 (nI q h (by intro z;cases z))];exact q) λa u q f c=>⟨by rw [b1 (λz=>c (by rw [e,z];exact Ay))];exact q,f,c⟩;obtain ⟨d,u,i⟩:=b.res a m;by_cases z:a=p
 ·subst z;exact ⟨d,o,b6⟩
 ·exact ⟨d,u,by rw [b1 z];exact i⟩
end
inductive Fl where
 | nx (ρ:Env) | rt (d:D) | bk (ρ:Env) | ct (ρ:Env)
def pN (K:PySem.W.Frag) (D:Ends) (a:Fl) (μ:Mp) (H:Hp):Prop:=match a with
 | .nx ρ=>∀ σ,EnvOk K μ H ρ σ->D.nx σ H
 | .rt d=>∀ v,RD K μ H d v->D.rt v H
 | .bk ρ=>∀ σ,EnvOk K μ H ρ σ->D.bk σ H
 | .ct ρ=>∀ σ,EnvOk K μ H ρ σ->D.ct σ H
def sD (K:PySem.W.Frag) (cl:Nat->Addr) (xe:Addr->Hp->Prop) (f:Env->M Fl):TS:=λD σ H=>∃ μ S ρ,EnvOk K μ H ρ σ/\Rep K cl μ S H/\Post K cl xe μ H (f ρ S) λa _ μ' H'=>pN K D a μ' H'
def sX (f g:Env->M Fl) (ρ:Env):M Fl:=bind (f ρ) λa=>match a with
 | .nx b=>g b
 | a=>ret a
section
variable {X:Cx} {cl:Nat->Addr} {xe:Addr->Hp->Prop} {e:Expr} {st:Stmt} {sts:List Stmt} {pos:Pos} {f:Env->M D} {g h:Env->M Fl}
theorem J7:PS X st (sD X.K cl xe λ_=>bad):=λ_ _ _ _ _ _ ⟨_,_,_,_,_,p⟩=>p.elim
theorem iQ:PSs X [] (sD X.K cl xe λρ=>ret (.nx ρ)):=PSs.imp lr λD σ H ⟨μ,S,ρ,b,a,p⟩=>p.ret μ H (Lat.refl _ _) a σ b
theorem li (h1:PS X st (sD X.K cl xe g)) (h2:PSs X sts (sD X.K cl xe h)):PSs X (st :: sts) (sD X.K cl xe (sX g h)):=PSs.imp (gN h1 h2) λD σ H ⟨μ,S,ρ,eo,rp,p⟩=>
 ⟨μ,S,ρ,eo,rp,p.bind.imp λfl S1 μ1 H1 l1 r1 p1=>by
  cases fl with
  | nx ρ1=>exact λσ1 eo1=>⟨μ1,S1,ρ1,eo1,r1,p1⟩
  | rt d=>exact p1.ret μ1 H1 (Lat.refl _ _) r1
  | bk ρ1=>exact p1.ret μ1 H1 (Lat.refl _ _) r1
  | ct ρ1=>exact p1.ret μ1 H1 (Lat.refl _ _) r1⟩
theorem jT (c:PE X e (tD X.K cl xe f)) (k:v5 e=true):PS X (.Expr e pos) (sD X.K cl xe λρ=>bind (f ρ) λ_=>ret (.nx ρ)):=PS.imp (kx c (E6 k)) λD σ H ⟨μ,S,ρ,b,l,p⟩=>
 ⟨μ,S,ρ,b,l,p.bind.imp λd S1 a i h j g v m=>g.ret a i (Lat.refl _ _) j σ (b.later h)⟩
theorem dq (c:PE X e (tD X.K cl xe f)):PS X (.Return (some e) pos) (sD X.K cl xe λρ=>bind (f ρ) λd=>ret (.rt d)):=PS.imp (pc c) λD σ H ⟨μ,S,ρ,i,k,p⟩=>
 ⟨μ,S,ρ,i,k,p.bind.imp λd S1 a h l j g v b=>g.ret a h (Lat.refl _ _) j v b⟩
theorem nu (k:PT X c (tBo X.K cl xe t)) (m:PSs X a (sD X.K cl xe g)) (l:PSs X b (sD X.K cl xe h)):PS X (.If c a b pos) (sD X.K cl xe λρ=>bind (t ρ) λq=>if q=true then g ρ else h ρ):=PS.imp (L2.ps_if k m l) λD σ H ⟨μ,S,ρ,e,n,p⟩=>
 ⟨μ,S,ρ,e,n,p.bind.imp λq S1 d o i j f=>by
  cases q with
  | true=>exact ⟨d,S1,ρ,e.later i,j,f⟩
  | false=>exact ⟨d,S1,ρ,e.later i,j,f⟩⟩
theorem lN (q:X.N.Nodup) (g:X.N[i]?=some x) (n:Loc X.env.scope x) (j:PE X e (tD X.K cl xe f)) (o:v5 e=true) (s:X.fn x=true\/X.env.scope.names.lookup x=some .local) :
  PS X (.Assign [.Name x pos'] e pos) (sD X.K cl xe λρ=>bind (f ρ) λd=>ret (.nx (ρ.set i (some d)))):=PS.imp (gy q g n j (E6 o) s) λD σ H ⟨μ,S,ρ,b,r,p⟩=>
 ⟨μ,S,ρ,b,r,p.bind.imp λd S1 a l k m h v c=>h.ret a l (Lat.refl _ _) m _ ((b.later k).set c i)⟩
def mS (K:PySem.W.Frag) (cl:Nat->Addr) (tg:D->Env->Option Env):TG:=λv σ H Q=>∃ μ S ρ d a,EnvOk K μ H ρ σ/\Rep K cl μ S H/\RD K μ H d v/\tg d ρ=some a/\∀ b,EnvOk K μ H a b->Q b H
theorem PG.imp (h:PG X t u) (k:∀ v σ H Q,u' v σ H Q->u v σ H Q):PG X t u':=λpins s σ H v w Q I r q=>h pins s σ H v w Q I r (k v σ H Q q)
theorem ji (h:X.N.Nodup) (a:X.N[i]?=some x) (f:Loc X.env.scope x) (j:X.fn x=true\/X.env.scope.names.lookup x=some .local):PG X (.Name x pos') (mS X.K cl λd ρ=>some (ρ.set i (some d))):=
 PG.imp (v7 h a f j) λv σ H Q ⟨μ,S,ρ,d,g,c,k,b,e,q⟩=>by
  cases e;exact q _ (c.set b i)
def Q8:List Nat->List D->Env->Option Env
 | [],[],ρ=>some ρ
 | i :: a,d :: ds,ρ=>Q8 a ds (ρ.set i (some d))
 | _,_,_=>none
def C9 (a:List Nat) (d:D) (ρ:Env):Option Env:=match d with
 | .tup ds=>Q8 a ds ρ
 | _=>none
def B8 (X:Cx):List Expr->List Nat->Prop
 | [],[]=>True
 | .Name x _ :: b,i :: a=>X.N[i]?=some x/\Loc X.env.scope x/\(X.fn x=true\/X.env.scope.names.lookup x=some .local)/\B8 X b a
 | _,_=>False
theorem W2 (j:X.N.Nodup):∀ {g:List Expr} {c:List Nat},B8 X g c->PGs X g (λvs σ H Q=>∃ μ ds ρ a,EnvOk X.K μ H ρ σ/\RDs X.K μ H ds vs/\Q8 c ds ρ=some a/\∀ b,EnvOk X.K μ H a b->Q b H)
 | [],[],_=>λpins s σ H vs us Q I r ⟨μ,ds,ρ,a,h,f,e,q⟩=>by
  cases ds with
  | nil=>
   cases f;cases e;exact dm pins s σ H [] us Q I r ⟨rfl,q σ h⟩
  | cons d ds=>cases e
 | .Name x p :: g,i :: c,⟨m,o,k,t⟩=>λpins s σ H vs us Q I r ⟨μ,ds,ρ,a,h,f,e,q⟩=>by
  cases ds with
  | nil=>cases e
  | cons d ds=>
   cases f with
   | cons n l=>
    exact R9 (v7 j m o k) (W2 j t) rfl pins s σ H _ us Q I r ⟨_,_,rfl,μ,ds,_,a,h.set n i,l,e,q⟩
theorem G3:B8 X ts is->(assignEach ts X.env).length=is.length/\(assignEach ts X.env).findIdx? (·.1)=none:=by
 induction ts generalizing is with
 | nil=>
  intro h;cases is with
  | nil=>exact ⟨rfl,rfl⟩
  | cons i is=>exact h.elim
 | cons t ts ih=>
  intro h;cases is with
  | nil=>cases t <;> exact h.elim
  | cons i is=>
   cases t with
   | Name x p=>
    obtain ⟨_,_,_,h4⟩:=h;obtain ⟨a,b⟩:=ih h4;refine ⟨by show (assignEach ts X.env).length+1=_;rw [a];rfl,?_⟩;show ((false,assign (.Name x p) X.env) :: assignEach ts X.env).findIdx? (·.1)=none;rw [List.findIdx?_cons];simp [b]
   | _=>exact h.elim
theorem Q2:∀ {b:List Nat} {ds:List D} {ρ a:Env},Q8 b ds ρ=some a->ds.length=b.length
 | [],[],_,_,_=>rfl
 | _ :: _,_ :: _,_,_,e=>by simp [Q2 (by simpa [Q8] using e)]
 | [],_ :: _,_,_,e=>by cases e
 | _ :: _,[],_,_,e=>by cases e
theorem dn (hc:X.calm=true) (hN:X.N.Nodup) (h:B8 X ts is):PG X (.Tuple ts k pos') (mS X.K cl (C9 is)):=
 PG.imp (jW hc (W2 hN h) (G3 h).1 (G3 h).2) λv σ H Q ⟨μ,S,ρ,d,ρ',eo,rp,rd,e,q⟩=>by
  cases rd with
  | tup h1 h2=>exact ⟨_,_,rfl,h1.sq,by rw [<- h2.length];exact Q2 e,μ,_,ρ,ρ',eo,h2,e,q⟩
  | _=>cases e
def gX:Expr->Bool
 | .Tuple ..=>false
 | _=>true
def Y3 (tg:D->Env->Option Env) (d:D) (ρ:Env):M Fl:=match tg d ρ with
 | some a=>ret (.nx a)
 | none=>bad
theorem lX (n:X.calm=true) (t:X.N.Nodup) (h:B8 X ts is) (o:PE X e (tD X.K cl xe f)) (s:v5 e=true) (i:gX e=true):PS X (.Assign [.Tuple ts k pos'] e pos) (sD X.K cl xe λρ=>bind (f ρ) λd=>Y3 (C9 is) d ρ):=
 PS.imp (gJ o (dn n t h) (by unfold swapsWithSole;exact E6 s) (by cases e <;> first | rfl | (exact absurd i (by simp [gX]))) rfl) λD σ H ⟨μ,S,ρ,j,u,p⟩=>
  ⟨μ,S,ρ,j,u,p.bind.imp λd S1 a r q l b v m=>by
   cases c:C9 is d ρ with
   | none=>simp only [Y3,c] at b;exact b.elim
   | some g=>simp only [Y3,c] at b;exact ⟨a,S1,ρ,d,g,j.later q,l,m,c,b.ret a r (Lat.refl _ _) l⟩⟩
end
structure LatR (μ:Mp) (H:Hp) (μ':Mp) (H':Hp):Prop where
 pre:∀ (n:Nat) (a:Addr),μ.pl[n]?=some a->μ'.pl[n]?=some a
 oth:∀ a o,H a=some o->a∉μ.pl->H' a=some o
 new:∀ a,a∈μ'.pl->a∈μ.pl\/H a=none
 rsw:∀ a,a∈μ'.rs->a∈μ.rs\/H a=none
theorem Lat.r {H H':Hp} (l:Lat μ H μ' H'):LatR μ H μ' H':=⟨l.pre,l.oth,l.new,λa m=>.inl (by rw [l.rsv] at m;exact m)⟩
structure LatU (μ:Mp) (H:Hp) (μ':Mp) (H':Hp):Prop where
 pre:∀ (n:Nat) (a:Addr),μ.pl[n]?=some a->μ'.pl[n]?=some a
 oth:∀ a o,H a=some o->a∉μ.pl->a∉μ.rs->H' a=some o
 new:∀ a,a∈μ'.pl->a∈μ.pl\/H a=none
 rsw:∀ a,a∈μ'.rs->a∈μ.rs\/H a=none
theorem LatR.u {H H':Hp} (l:LatR μ H μ' H'):LatU μ H μ' H':=⟨l.pre,λa o e n _=>l.oth a o e n,l.new,l.rsw⟩
theorem LatU.out {H H':Hp} (l:LatU μ H μ' H') (a:Addr) (u:HO) (e:H a=some u) (c:a∉μ.pl) (b:a∉μ.rs):H' a=some u/\a∉μ'.pl/\a∉μ'.rs:=by
 refine ⟨l.oth a u e c b,λz=>?_,λz=>?_⟩
 ·rcases l.new a z with q | q
  ·exact c q
  ·rw [e] at q;cases q
 ·rcases l.rsw a z with q | q
  ·exact b q
  ·rw [e] at q;cases q
theorem RDs.laterU {K:PySem.W.Frag} {μ μ':Mp} {H H':Hp} (l:LatU μ H μ' H') {ds:List D} {vs:List V} (r:RDs K μ H ds vs):RDs K μ' H' ds vs:=r.move l.pre l.out
abbrev Src:=Nat->Sto->Option (Option D)
def Q9 (K:PySem.W.Frag) (cl:Nat->Addr) (J:It) (i:Nat) (μ2:Mp) (b:Hp) (S2:Sto) (o:Option (Option D)):Prop:=match o with
 | some (some d)=>J.go i b/\∀ x a,J.yld i b x a->Lat μ2 b μ2 a/\Rep K cl μ2 S2 a/\RD K μ2 a d x
 | some none=>J.stop i b
 | none=>True
def Yl (K:PySem.W.Frag) (cl:Nat->Addr) (J:It) (μ:Mp) (H:Hp) (src:Src):Prop:=∀ (i:Nat) (μ2:Mp) (a:Hp) (S2:Sto),LatU μ H μ2 a->Rep K cl μ2 S2 a->Q9 K cl J i μ2 a S2 (src i S2)
def tIt (K:PySem.W.Frag) (cl:Nat->Addr) (xe:Addr->Hp->Prop) (f:Env->M (Src×Nat)):TI:=λσ H R=>∃ μ S ρ,EnvOk K μ H ρ σ/\Rep K cl μ S H/\Post K cl xe μ H (f ρ S) λp _ μ' H'=>∀ J,Yl K cl J μ' H' p.1->R J H'
theorem PI.imp (h:PI X tg it t) (k:∀ σ H R,t' σ H R->t σ H R):PI X tg it t':=λpins s σ H R I q=>h pins s σ H R I (k σ H R q)
theorem pv {tg l:Expr} {m:TE} (r:PE X l m):PI X tg l (λσ H R=>m σ H λx d=>∃ a,x=.ref a/\(((∃ xs,SqL X.K d a xs)/\R (Itl X.K a) d)\/((∃ xs,SqT X.K d a xs)/\R (Itt X.K a) d))):=by
 intro pins s σ H R I h;refine thn (r pins s σ H _ I h) λv f ⟨x,d,c,n,j⟩=>?_;obtain ⟨a,e,j⟩:=j;subst e;cases n;rcases j with ⟨⟨xs,g⟩,q⟩ | ⟨⟨xs,g⟩,q⟩
 ·obtain ⟨k,t,p,hz⟩:=c.list g;refine wpAny_pyIter_list p.isList ?_;refine ⟨f.heap.objs.size,[f.heap.objs.size],_,_,d,rfl,c.kept λb o e=>Ah _ e,fD a _,⟨_,An _ rfl,rfl,rfl⟩,λb i=>?_,q⟩;have e:b=f.heap.objs.size:=by simpa using i
  subst e;exact c.fpOk (Ap _) (c.hok.fresh (Ap _))
 ·obtain ⟨k,t,p,hz⟩:=c.tuple g;refine wpAny_pyIter_tuple (p) ?_;refine ⟨f.heap.objs.size,[f.heap.objs.size],_,_,d,rfl,c.kept λb o e=>Ah _ e,bh a _,⟨_,An _ rfl,rfl,rfl⟩,λb i=>?_,q⟩;have e:b=f.heap.objs.size:=by simpa using i
  subst e;exact c.fpOk (Ap _) (c.hok.fresh (Ap _))
def v1 (ds:List D):Src:=λi _=>some ds[i]?
def fj (n:Nat):Src:=λi S=>match S[n]? with
 | some (.lst es)=>some es[i]?
 | _=>none
def Z1 (lo:Int) (n:Nat):Src:=λi _=>some (if i<n then some (.int (lo+i)) else none)
section
variable {K:PySem.W.Frag} {cl:Nat->Addr} {μ:Mp} {H:Hp}
theorem nM (h:TupAt K μ H a xs) (r:RDs K μ H ds xs):Yl K cl (Itt K a) μ H (v1 ds):=λi μ2 g S2 l y=>by
 have b:SqT K g a xs:=by
  rcases h with ⟨q,n1,n2⟩ | q
  ·rcases q with q | ⟨o,q⟩
   ·exact .inl (.inl (l.oth _ _ q n1 n2))
   ·exact .inl (.inr ⟨o,l.oth _ _ q n1 n2⟩)
  ·obtain ⟨o,c,n,u,j,w,m,t,_⟩:=q;exact .inr ⟨o,c,n,u,j,w,m,t⟩
 have k:=r.laterU l;show Q9 K cl (Itt K a) i μ2 g S2 (some ds[i]?);cases e:ds[i]? with
 | none=>exact ⟨xs,b,by rw [<- r.length];exact Cv.mp e⟩
 | some d=>
  obtain ⟨v,f,p⟩:=k.get e;exact ⟨⟨xs,v,b,f⟩,λx z ⟨s,q⟩=>by subst s;have:=q xs b;rw [f] at this;cases this;exact ⟨Lat.refl _ _,y,p⟩⟩
theorem gx (h:LstAt μ H a xs\/ScrAt K μ H a xs) (r:RDs K μ H ds xs):Yl K cl (Itl K a) μ H (v1 ds):=λi μ2 f S2 l m=>by
 have b:SqL K f a xs:=by
  rcases h with ⟨q,n1,n2⟩ | ⟨q,n1,n2⟩ | q
  ·exact .inl (.inl (l.oth _ _ q n1 n2))
  ·rcases q with q | ⟨o,q⟩
   ·exact .inl (.inl (l.oth _ _ q n1 n2))
   ·exact .inl (.inr ⟨o,l.oth _ _ q n1 n2⟩)
  ·exact .inr q
 have g:=r.laterU l;show Q9 K cl (Itl K a) i μ2 f S2 (some ds[i]?);cases e:ds[i]? with
 | none=>exact ⟨xs,b,by rw [<- r.length];exact Cv.mp e⟩
 | some d=>
  obtain ⟨v,c,j⟩:=g.get e;exact ⟨⟨xs,v,b,c⟩,λx n ⟨k,q⟩=>by subst k;have:=q xs b;rw [c] at this;cases this;exact ⟨Lat.refl _ _,m,j⟩⟩
theorem qE {n:Nat} (h:μ.pl[n]?=some a):Yl K cl (Itl K a) μ H (fj n):=λi μ2 H2 S2 l rp=>by
 show Q9 K cl (Itl K a) i μ2 H2 S2 (match S2[n]? with
  | some (.lst es)=>some es[i]?
  | _=>none)
 cases q1:S2[n]? with
 | none=>exact True.intro
 | some o=>
  cases o with
  | dct _=>exact True.intro
  | exc _ _=>exact True.intro
  | lst es=>
   obtain ⟨xs,h1,h2⟩:=rp.ats n _ a q1 (l.pre _ _ h);have hq:SqL K H2 a xs:=.inl (.inl h1);show Q9 K cl (Itl K a) i μ2 H2 S2 (some es[i]?);cases e:es[i]? with
   | none=>exact ⟨xs,hq,by rw [<- h2.length];exact Cv.mp e⟩
   | some d=>
    obtain ⟨v,e1,r1⟩:=h2.get e;exact ⟨⟨xs,v,hq,e1⟩,λx H3 ⟨e3,q⟩=>by subst e3;have:=q xs hq;rw [e1] at this;cases this;exact ⟨Lat.refl _ _,rp,r1⟩⟩
theorem jo {lo:Int} {n:Nat}:Yl K cl (Itr lo n) μ H (Z1 lo n):=λi μ2 d S2 l e=>by
 show Q9 K cl (Itr lo n) i μ2 d S2 (some (if i<n then some (.int (lo+i)) else none));by_cases a:i<n
 ·rw [if_pos a];exact ⟨a,λx f ⟨c,b⟩=>by subst c b;exact ⟨Lat.refl _ _,e,.int _⟩⟩
 ·rw [if_neg a];exact Cp a
end
def u8 (d:D):M (Src×Nat):=match d with
 | .tup ds=>ret (v1 ds,ds.length+1)
 | .lst ds=>ret (v1 ds,ds.length+1)
 | .scr ds=>ret (v1 ds,ds.length+1)
 | .ref n=>λS=>match S[n]? with
  | some (.lst ds)=>.ok (fj n,ds.length+1) S
  | _=>.bad
 | _=>bad
def A4 (ds:List D):M (Src×Nat):=match ds with
 | [.int j]=>if -(2 ^ 62)<=j/\j<2 ^ 62 then ret (Z1 0 j.toNat,j.toNat+1) else bad
 | [.int i,.int j]=>if -(2 ^ 62)<=i/\i<2 ^ 62/\-(2 ^ 62)<=j/\j<2 ^ 62 then ret (Z1 i (j-i).toNat,(j-i).toNat+1) else bad
 | _=>bad
section
variable {X:Cx} {cl:Nat->Addr} {xe:Addr->Hp->Prop} {e:Expr} {tg:Expr} {pos:Pos} {f:Env->M D}
theorem eE {tg e:Expr}:PI X tg e (tIt X.K cl xe λ_=>bad):=λ_ _ _ _ _ _ ⟨_,_,_,_,_,p⟩=>p.elim
theorem kX (h:PE X e (tD X.K cl xe f)):PI X tg e (tIt X.K cl xe λρ=>bind (f ρ) u8):=PI.imp (pv h) λσ H R ⟨μ,S,ρ,eo,rp,p⟩=>
 ⟨μ,S,ρ,eo,rp,p.bind.imp λd S1 μ1 H1 l1 r1 p1 v rv=>by
  cases rv with
  | tup h r=>exact ⟨_,rfl,.inr ⟨⟨_,h.sq⟩,p1.ret μ1 H1 (Lat.refl _ _) r1 _ (nM h r)⟩⟩
  | lst h r=>exact ⟨_,rfl,.inl ⟨⟨_,h.sq⟩,p1.ret μ1 H1 (Lat.refl _ _) r1 _ (gx (.inl h) r)⟩⟩
  | scr h r=>exact ⟨_,rfl,.inl ⟨⟨_,h.sq⟩,p1.ret μ1 H1 (Lat.refl _ _) r1 _ (gx (.inr h) r)⟩⟩
  | ref h=>
   rename_i n a;simp only [u8] at p1;cases q1:S1[n]? with
   | none=>rw [q1] at p1;exact p1.elim
   | some o=>
    rw [q1] at p1;cases o with
    | lst ds=>
     obtain ⟨xs,h1,h2⟩:=r1.ats n _ a q1 h;exact ⟨_,rfl,.inl ⟨⟨xs,.inl (.inl h1)⟩,p1 μ1 H1 (Lat.refl _ _) r1 _ (qE h)⟩⟩
    | dct _=>exact p1.elim
    | exc _ _=>exact p1.elim
  | _=>exact False.elim p1⟩
theorem cr (hg:Gl X "range") (hm:X.mg "range" = none) (ha:PA X [a] (tDs X.K cl xe fs)) (hs:b8 a=true):PI X tg (.Call (.Name "range" p) [a] [] pos) (tIt X.K cl xe λρ=>bind (fs ρ) λds=>if ds.length=1 then A4 ds else bad):=
 PI.imp (fE hg hm ha (e8 hs)) λσ H R ⟨μ,S,ρ,eo,rp,p⟩=>⟨μ,S,ρ,eo,rp,p.bind.imp λds S1 μ1 H1 l1 r1 p1 vs rvs=>by
  cases rvs with
  | nil=>exact False.elim p1
  | cons h t=>
   cases t with
   | cons _ t=>rw [if_neg (by simp)] at p1;exact p1.elim
   | nil=>
    rename_i d0 v0;rw [if_pos (show ([d0]:List D).length=1 from rfl)] at p1;cases h with
    | int j=>
     obtain ⟨⟨h1,h2⟩,p1⟩:=Post.guard p1;exact ⟨j,rfl,h1,h2,p1 μ1 H1 (Lat.refl _ _) r1 _ jo⟩
    | _=>exact False.elim p1⟩
end
def v6 (src:Src) (tg:D->Env->Option Env) (body:Env->M Fl):Nat->Nat->Env->M Fl
 | 0,_,_=>bad
 | m+1,i,ρ=>λS=>match src i S with
  | none=>.bad
  | some none=>.ok (.nx ρ) S
  | some (some d)=>match tg d ρ with
   | none=>.bad
   | some b=>bind (body b) (λc=>match c with
    | .nx a=>v6 src tg body m (i+1) a
    | .ct a=>v6 src tg body m (i+1) a
    | .bk a=>ret (.nx a)
    | .rt d=>ret (.rt d)) S
section
variable {X:Cx} {cl:Nat->Addr} {xe:Addr->Hp->Prop} {iter tgt:Expr} {pos:Pos} {fi:Env->M (Src×Nat)} {tg:D->Env->Option Env} {g:Env->M Fl} {body:List Stmt}
theorem lH (Y:PassesOwn (model X.prog X.w) X.A X.env X.xe) (hc:X.calm=true) (hi:PI X tgt iter (tIt X.K cl xe fi)) (hg:PG X tgt (mS X.K cl tg)) (hb:PSs X body (sD X.K cl xe g)) (hn:j6 iter=true) :
  PS X (.For tgt iter body [] pos) (sD X.K cl xe λρ=>bind (fi ρ) λp=>v6 p.1 tg g p.2 0 ρ):=PS.imp (oN Y hc hi hg hb (u6 hn)) λD σ H ⟨μ,S,ρ,T,rp,p⟩=>by
 refine ⟨μ,S,ρ,T,rp,p.bind.imp λsm S1 f A l1 r1 p1 J yl=>?_⟩;obtain ⟨src,m⟩:=sm;refine ⟨λi m σ H=>∃ μ2 S2 h,LatR f A μ2 H/\EnvOk X.K μ2 H h σ/\Rep X.K cl μ2 S2 H/\Post X.K cl xe μ2 H (v6 src tg g m i h S2) (λw _ μ' H'=>pN X.K D w μ' H'),⟨m,f,S1,ρ,(Lat.refl _ _).r,T.later l1,r1,p1⟩,?_⟩;rintro i m F I ⟨μ2,S2,h,s,u,U,j⟩;cases m with
 | zero=>exact j.elim
 | succ m=>
  have y:Q9 X.K cl J i μ2 I S2 (src i S2):=yl i μ2 I S2 s.u U;simp only [v6] at j;cases O:src i S2 with
  | none=>rw [O] at j;exact j.elim
  | some o=>
   rw [O] at j y;cases o with
   | none=>exact .inl ⟨y,j μ2 I (Lat.refl _ _) U F u⟩
   | some d=>
    obtain ⟨y1,Z⟩:=y;cases L:tg d h with
    | none=>simp only [L] at j;exact j.elim
    | some t=>
     simp only [L] at j;refine .inr ⟨y1,λv H'=>∃ l P b,LatR f A l H'/\EnvOk X.K l H' b v/\Rep X.K cl l P H'/\Post X.K cl xe l H' (v6 src tg g m (i+1) b P) (λw _ μ' H'=>pN X.K D w μ' H'),λv H' q=>⟨m,AI _,q⟩,λx H3 hy=>?_⟩;obtain ⟨M,V,E⟩:=Z x H3 hy;refine ⟨μ2,S2,h,d,t,u.later M,V,E,L,λσ3 K=>?_⟩;refine ⟨μ2,S2,t,K,V,(Post.later j M).bind.imp λw W c N l4 B C=>?_⟩;have R:LatR f A c N:=by
      have k:=M.trans l4;refine ⟨λn a e=>k.pre n a (s.pre n a e),λa o e n=>k.oth a o (s.oth a o e n) (λz=>(s.new a z).elim n (λq=>by rw [e] at q;cases q)),λa m=>(k.new a m).elim (λz=>s.new a z) (λz=>?_),λa m=>s.rsw a (by rw [<- k.rsv];exact m)⟩;by_cases Q:a∈f.pl
      ·exact .inl Q
      ·right
       cases e:A a with
       | none=>rfl
       | some o=>rw [s.oth a o e Q] at z;cases z
     cases w with
     | nx b=>exact λG r=>⟨c,W,b,R,r,B,C⟩
     | ct b=>exact λG r=>⟨c,W,b,R,r,B,C⟩
     | bk b=>exact C.ret c N (Lat.refl _ _) B
     | rt d=>exact C.ret c N (Lat.refl _ _) B
end
structure HLat (μ:Mp) (H:Hp) (p:Addr) (μ2:Mp) (H2:Hp):Prop where
 r:LatR μ H μ2 H2
 rs:μ2.rs=p :: μ.rs
theorem HLat.lat {H c H':Hp} {p:Addr} (h:HLat μ H p μ2 c) (l:Lat μ2 c μ' H'):Lat μ H μ'.free H':=by
 refine ⟨λn a e=>l.pre n a (h.r.pre n a e),λa o e n=>?_,λa m=>?_,by show μ'.rs.tail=μ.rs;rw [l.rsv,h.rs];rfl⟩
 ·have d:=λz=>(h.r.new a z).elim n λq=>by rw [e] at q;cases q
  exact l.oth a o (h.r.oth a o e n) d
 ·rcases l.new a m with q | q
  ·exact h.r.new a q
  ·by_cases b:a∈μ.pl
   ·exact .inl b
   ·right
    cases e:H a with
    | none=>rfl
    | some o=>rw [h.r.oth a o e b] at q;cases q
theorem HLat.step {H c b:Hp} {p:Addr} (h:HLat μ H p μ2 c) (l:Lat μ2 c μ3 b):HLat μ H p μ3 b:=by
 have k:=h.lat l;refine ⟨⟨k.pre,k.oth,k.new,λa m=>h.r.rsw a (by rw [<- l.rsv];exact m)⟩,by rw [l.rsv];exact h.rs⟩
section
variable {K:PySem.W.Frag} {cl:Nat->Addr} {xe:Addr->Hp->Prop} {α β:Type} {μ μ2:Mp} {H H2:Hp} {p:Addr} {S:Sto}
theorem Post.at {k:α->M β} {G:β->Sto->Mp->Hp->Prop} (h:Post K cl xe μ H (L3.bind m k S) G) (l:HLat μ H p μ2 H2):Post K cl xe μ2 H2 (m S) (λa S' _ _=>Post K cl xe μ H (k a S') G):=by
 unfold L3.bind at h;cases e:m S with
 | ok a S1=>rw [e] at h;exact λ_ _ _ _=>h
 | exn n S1=>rw [e] at h;exact λμ' H' a k r q=>h μ'.free H' a (l.lat k) (J0 r) q
 | bad=>rw [e] at h;exact h
end
def k5 (src:Src) (t:Env->M Bool) (f:Env->M D) (mk:D->Env):Nat->Nat->List D->M (List D)
 | 0,_,_=>bad
 | m+1,i,es=>λS=>match src i S with
  | none=>.bad
  | some none=>.ok es S
  | some (some d)=>bind (t (mk d)) (λb=>if b=true then bind (f (mk d)) (λy=>if es.length<sizeLine then k5 src t f mk m (i+1) (es++[y]) else bad) else k5 src t f mk m (i+1) es) S
def i4 (caps:List Nat) (ρ:Env):Env:=caps.map λi=>(ρ[i]?).join
theorem J4 {K:PySem.W.Frag} {μ:Mp} {H:Hp} {ρ:Env} {σ:L2.St} {caps:List Nat} {d:D} {x:V} (g:EnvOk K μ H ρ σ) (r:RD K μ H d x):EnvOk K μ H (some d :: i4 caps ρ) (some x :: i6 caps σ):=by
 refine ⟨by simp [i4,i6],λi e a=>?_⟩;cases i with
 | zero=>grind
 | succ j=>
  have a:(i4 caps ρ)[j]?=some (some e):=a;unfold i4 at a;rw [AH] at a;cases q:caps[j]? with
  | none=>rw [q] at a;cases a
  | some i=>
   rw [q] at a;have h':=AG a;have b:ρ[i]?=some (some e):=by
    cases h:ρ[i]? with
    | none=>grind
    | some o=>grind
   obtain ⟨v,f,c⟩:=g.2 i e b;refine ⟨v,?_,c⟩;show (i6 caps σ)[j]?=_;unfold i6;rw [AH,q];show some (σ[i]?).join=_;rw [f];rfl
def dN (caps:List Nat) (b:Env->M (Src×Nat)) (t:Env->M Bool) (f:Env->M D) (ρ:Env):M (List D):=bind (b ρ) λa=>k5 a.1 t f (λd=>some d :: i4 caps ρ) a.2 0 []
theorem P1 {K:PySem.W.Frag} {cl:Nat->Addr} {xe:Addr->Hp->Prop} {caps:List Nat} {fi:Env->M (Src×Nat)} {t:Env->M Bool} {f:Env->M D} {σ:L2.St} {H:Hp} {μ:Mp} {S:Sto} {ρ:Env} {Q:VK} (eo:EnvOk K μ H ρ σ) (rp:Rep K cl μ S H)
  (p:Post K cl xe μ H (dN caps fi t f ρ S) λds _ μ' H'=>∀ c ys,LstAt μ' H' c ys->RDs K μ' H' ds ys->Q (.ref c) H'):ip caps (tIt K cl xe fi) (tBo K cl xe t) (tD K cl xe f) σ H Q:=by
 refine ⟨μ,S,ρ,eo,rp,p.bind.imp λsm S1 u H1 l1 P p1 J yl c g=>?_⟩;obtain ⟨src,m0⟩:=sm;have V:=P.notrs g;refine ⟨λi m ys l=>∃ μ2 S2 es,HLat u H1 c μ2 l/\c∉μ2.pl/\l c=some (.lst ys)/\EnvOk K μ2 l ρ σ/\Rep K cl μ2 S2 l/\RDs K μ2 l es ys/\Post K cl xe u H1 (k5 src t f (λd=>some d :: i4 caps ρ) m i es S2) (λds _ μ' H'=>∀ c ys,LstAt μ' H' c ys->RDs K μ' H' ds ys->Q (.ref c) H'),⟨m0,u.hold c,S1,[],?_,P.notin g,b6,Q5 P g (eo.later l1),Q4 P g,.nil,p1⟩,?_⟩
 ·refine ⟨⟨λ_ _ e=>e,λa o e _=>by rw [b1 (b4 e g)];exact e,λa m=>.inl m,λa m=>?_⟩,rfl⟩;rcases AA.mp (m) with rfl | m
  ·exact .inr g
  ·exact .inl m
 rintro i m ys l ⟨μ2,S2,es,R,z,I,s,r2,h,A⟩;refine ⟨I,?_⟩;cases m with
 | zero=>exact A.elim
 | succ m=>
  have y:Q9 K cl J i μ2 l S2 (src i S2):=yl i μ2 l S2 R.r.u r2;simp only [k5] at A;cases e1:src i S2 with
  | none=>rw [e1] at A;exact A.elim
  | some o=>
   rw [e1] at A y;cases o with
   | none=>
    refine .inl ⟨y,A μ2.free l (R.lat (Lat.refl _ _)) (J0 r2) c ys ⟨I,z,?_⟩ (T3 h)⟩;show c∉μ2.rs.tail;rw [R.rs];exact V
   | some d=>
    obtain ⟨y1,y2⟩:=y;refine .inr ⟨y1,λx H3 hy=>?_⟩;obtain ⟨L,r3,C⟩:=y2 x H3 hy;have h3:=R.step L;refine ⟨μ2,S2,_,J4 (s.later L) C,r3,(Post.at A h3).imp λb S5 F H5 Y r5 U=>?_⟩;have X:=h3.step Y;have k:=L.trans Y;have Z:=k.oth _ _ I z;have W:=k.out I z;cases b with
    | false=>exact ⟨m,AI _,F,S5,es,X,W,Z,s.later k,r5,h.later k,U⟩
    | true=>
     refine kQ ?_;rw [if_pos rfl] at U;refine ⟨F,S5,_,(J4 (s.later L) C).later Y,r5,(Post.at U X).imp λyv S6 μ6 H6 O r6 T v rv=>?_⟩;have B:=X.step O;have G:=k.trans O;have a6:=O.oth _ _ Z W;have n6:=O.out Z W;by_cases hz:es.length<sizeLine
     ·rw [if_pos hz] at T;have N:=B.rs;refine ⟨a6,by rw [<- h.length];exact hz,m,AI _,μ6,S6,es++[yv],?_,n6,b6,?_,K1 N a6 r6,M0 N ((h.later G).append (.cons rv .nil)),T⟩
      ·refine ⟨⟨B.r.pre,λa o e n=>?_,B.r.new,B.r.rsw⟩,N⟩;rw [b1 (b4 e g)];exact B.r.oth a o e n
      ·have E:=s.later G;exact ⟨E.1,λj e he=>let ⟨w,q,r⟩:=E.2 j e he;⟨w,q,E2 N r⟩⟩
     ·rw [if_neg hz] at T;exact T.elim
section
variable {X:Cx} {cl:Nat->Addr} {xe:Addr->Hp->Prop} {elt iter:Expr} {x:Str} {px pos:Pos} {ifs:List Expr} {scope:Scope} {N':List Str} {caps:List Nat} {fi:Env->M (Src×Nat)} {t:Env->M Bool} {f:Env->M D}
theorem ef {X:Cx}:PTL X [] (tBo X.K cl xe λ_=>ret true):=λpins s σ H Q I ⟨μ,S,ρ,b,a,p⟩=>lB pins s σ H Q I (p μ H (Lat.refl _ _) a)
theorem ao (T:CompText X.N X.env N' 1 caps scope) (k:X.calm=true) (i:N'.Nodup) (b:N'[0]?=some x) (d:scope.names.lookup x=some .local) (h:PI X (.Name x px) iter (tIt X.K cl xe fi))
  (l:∀ pins C c s H,PTL (b3 X pins N' scope C c s H) ifs (tBo X.K cl xe t)) (e:∀ pins C c s H,PE (b3 X pins N' scope C c s H) elt (tD X.K cl xe f)) (g:j6 iter=true) :
  PE X (.ListComp elt [⟨.Name x px,iter,ifs,0⟩] scope pos) (λσ H Q=>∃ μ S ρ,EnvOk X.K μ H ρ σ/\Rep X.K cl μ S H/\Post X.K cl xe μ H (dN caps fi t f ρ S) λds _ μ' H'=>∀ a ys,LstAt μ' H' a ys->RDs X.K μ' H' ds ys->Q (.ref a) H'):=
 PE.imp (ki T k i b d h l e (u6 g)) λσ H Q ⟨μ,S,ρ,m,j,p⟩=>P1 m j p
end
def dZ (K:PySem.W.Frag) (cl:Nat->Addr) (xe:Addr->Hp->Prop) (fs:Env->M (List D)):TE:=λσ H Q=>∃ μ S ρ,EnvOk K μ H ρ σ/\Rep K cl μ S H/\Post K cl xe μ H (fs ρ S) λds _ μ' H'=>∀ a ys,LstAt μ' H' a ys->RDs K μ' H' ds ys->Q (.ref a) H'
theorem nB (m:M α) (k:α->M β) (k2:β->M γ):bind (bind m k) k2=bind m λa=>bind (k a) k2:=by
 funext S;unfold bind;grind
theorem sB {k:α->M β} {S:Sto} (h:m S=m' S):bind m k S=bind m' k S:=by
 unfold bind;rw [h]
def l0 (src:Src) (t:Env->M Bool) (c:Env->M (Src×Nat)) (e:Env->M Bool) (f:Env->M D) (a:Env):Nat->Nat->List D->M (List D)
 | 0,_,_=>bad
 | m+1,i,es=>λS=>match src i S with
  | none=>.bad
  | some none=>.ok es S
  | some (some d)=>bind (t (some d :: none :: a)) (λb=>if b=true then bind (c (some d :: none :: a)) (λg=>bind (k5 g.1 e f (λh=>some d :: some h :: a) g.2 0 es) (λes'=>l0 src t c e f a m (i+1) es')) else l0 src t c e f a m (i+1) es) S
theorem mz {K:PySem.W.Frag} {μ:Mp} {H:Hp} {ρ:Env} {σ:L2.St} {caps:List Nat} {d:D} {x:V} (b:EnvOk K μ H ρ σ) (r:RD K μ H d x):EnvOk K μ H (some d :: none :: i4 caps ρ) (some x :: none :: i6 caps σ):=by
 have h:=J4 (caps:=caps) b r;refine ⟨by have:=h.1;simp at this ⊢;exact this,λi e a=>?_⟩
 match i with
 | 0=>exact h.2 0 e a
 | 1=>simp at a
 | i+2=>exact h.2 (i+1) e a
theorem mw {K:PySem.W.Frag} {μ:Mp} {H:Hp} {ρ:Env} {σ:L2.St} {caps:List Nat} {d b:D} {x y:V} (c:EnvOk K μ H ρ σ) (r:RD K μ H d x) (f:RD K μ H b y):EnvOk K μ H (some d :: some b :: i4 caps ρ) (some x :: some y :: i6 caps σ):=by
 have h:=J4 (caps:=caps) c r;refine ⟨by have:=h.1;simp at this ⊢;exact this,λi e a=>?_⟩
 match i with
 | 0=>exact h.2 0 e a
 | 1=>grind
 | i+2=>exact h.2 (i+1) e a
def Z4 (caps:List Nat) (c:Env->M (Src×Nat)) (t:Env->M Bool) (a:Env->M (Src×Nat)) (d:Env->M Bool) (f:Env->M D) (ρ:Env):M (List D):=bind (c ρ) λb=>l0 b.1 t a d f (i4 caps ρ) b.2 0 []
theorem bI {K:PySem.W.Frag} {cl:Nat->Addr} {xe:Addr->Hp->Prop} {caps:List Nat} {fi u:Env->M (Src×Nat)} {t A:Env->M Bool} {f:Env->M D} {σ:L2.St} {H:Hp} {μ:Mp} {S:Sto} {ρ:Env} {Q:VK} (eo:EnvOk K μ H ρ σ) (rp:Rep K cl μ S H)
  (p:Post K cl xe μ H (Z4 caps fi t u A f ρ S) λds _ μ' H'=>∀ c ys,LstAt μ' H' c ys->RDs K μ' H' ds ys->Q (.ref c) H'):hX caps (tIt K cl xe fi) (tBo K cl xe t) (tIt K cl xe u) (tBo K cl xe A) (tD K cl xe f) σ H Q:=by
 refine ⟨μ,S,ρ,eo,rp,p.bind.imp λsm S1 U H1 l1 r1 p1 J yl c s=>?_⟩;obtain ⟨src,m0⟩:=sm;have nrs:=r1.notrs s;refine ⟨λi m ys X=>∃ μ2 S2 es,HLat U H1 c μ2 X/\c∉μ2.pl/\X c=some (.lst ys)/\EnvOk K μ2 X ρ σ/\Rep K cl μ2 S2 X/\RDs K μ2 X es ys/\Post K cl xe U H1 (l0 src t u A f (i4 caps ρ) m i es S2) (λds _ μ' H'=>∀ c ys,LstAt μ' H' c ys->RDs K μ' H' ds ys->Q (.ref c) H'),⟨m0,U.hold c,S1,[],?_,r1.notin s,b6,Q5 r1 s (eo.later l1),Q4 r1 s,.nil,p1⟩,?_⟩
 ·refine ⟨⟨λ_ _ e=>e,λa o e _=>by rw [b1 (b4 e s)];exact e,λa m=>.inl m,λa m=>?_⟩,rfl⟩;rcases AA.mp (m) with rfl | m
  ·exact .inr s
  ·exact .inl m
 rintro i m ys X ⟨μ2,S2,es,hl,npl,e2,W,r2,V,p2⟩;refine ⟨e2,?_⟩;cases m with
 | zero=>exact p2.elim
 | succ m=>
  have y:Q9 K cl J i μ2 X S2 (src i S2):=yl i μ2 X S2 hl.r.u r2;simp only [l0] at p2;cases e1:src i S2 with
  | none=>rw [e1] at p2;exact p2.elim
  | some o=>
   rw [e1] at p2 y;cases o with
   | none=>
    refine .inl ⟨y,p2 μ2.free X (hl.lat (Lat.refl _ _)) (J0 r2) c ys ⟨e2,npl,?_⟩ (T3 V)⟩;show c∉μ2.rs.tail;rw [hl.rs];exact nrs
   | some d=>
    obtain ⟨y1,y2⟩:=y;refine .inr ⟨y1,λx H3 hy=>?_⟩;obtain ⟨l3,r3,rd3⟩:=y2 x H3 hy;have h3:=hl.step l3;refine ⟨μ2,S2,_,mz (W.later l3) rd3,r3,(Post.at p2 h3).imp λb S5 μ5 H5 l5 r5 p5=>?_⟩;have h5:=h3.step l5;have R:=l3.trans l5;have a5:=R.oth _ _ e2 npl;have n5:=R.out e2 npl;cases b with
    | false=>exact ⟨m,AI _,μ5,S5,es,h5,n5,a5,W.later R,r5,V.later R,p5⟩
    | true=>
     refine kQ ?_;rw [if_pos rfl] at p5;refine ⟨μ5,S5,_,(mz (W.later l3) rd3).later l5,r5,(Post.at p5 h5).imp λsm S6 O H6 l6 r6 p6 J1 yl1=>?_⟩;obtain ⟨k,I⟩:=sm;have h6:=h5.step l6;have l36:=R.trans l6;have a6:=l6.oth _ _ a5 n5;have n6:=l6.out a5 n5;refine ⟨λj I zs T=>∃ h E g,HLat U H1 c h T/\LatU O H6 h T/\c∉h.pl/\T c=some (.lst zs)/\EnvOk K h T ρ σ/\Rep K cl h E T/\RDs K h T g zs/\RD K h T d x /\
      Post K cl xe U H1 (bind (k5 k A f (λG=>some d :: some G :: i4 caps ρ) I j g) (λes'=>l0 src t u A f (i4 caps ρ) m (i+1) es') E) (λds _ μ' H'=>∀ c ys,LstAt μ' H' c ys->RDs K μ' H' ds ys->Q (.ref c) H'),
      ⟨I,O,S6,es,h6,(Lat.refl _ _).r.u,n6,a6,W.later l36,r6,V.later l36,(rd3.later l5).later l6,p6⟩,?_⟩
     rintro j I zs T ⟨h,E,g,h7,u7,n7,a7,L,r7,F,rd7,p7⟩;refine ⟨a7,?_⟩;cases I with
     | zero=>exact p7.elim
     | succ I=>
      have z:Q9 K cl J1 j h T E (k j E):=yl1 j h T E u7 r7;cases f1:k j E with
      | none=>
       have:bind (k5 k A f (λG=>some d :: some G :: i4 caps ρ) (I+1) j g) (λes'=>l0 src t u A f (i4 caps ρ) m (i+1) es') E=.bad:=by
        unfold bind;simp only [k5,f1]
       rw [this] at p7;exact p7.elim
      | some o=>
       rw [f1] at z;cases o with
       | none=>
        have:bind (k5 k A f (λG=>some d :: some G :: i4 caps ρ) (I+1) j g) (λes'=>l0 src t u A f (i4 caps ρ) m (i+1) es') E=l0 src t u A f (i4 caps ρ) m (i+1) g E:=by
         conv=>lhs;unfold bind
         simp only [k5,f1]
        rw [this] at p7;exact .inl ⟨z,m,AI _,h,E,g,h7,n7,a7,L,r7,F,p7⟩
       | some G=>
        have un:bind (k5 k A f (λG=>some d :: some G :: i4 caps ρ) (I+1) j g) (λes'=>l0 src t u A f (i4 caps ρ) m (i+1) es') E =
          bind (A (some d :: some G :: i4 caps ρ)) (λb=>bind (if b=true then bind (f (some d :: some G :: i4 caps ρ)) (λy=>if g.length<sizeLine then k5 k A f (λG=>some d :: some G :: i4 caps ρ) I (j+1) (g++[y]) else bad) else k5 k A f (λG=>some d :: some G :: i4 caps ρ) I (j+1) g) (λes'=>l0 src t u A f (i4 caps ρ) m (i+1) es')) E:=by
         rw [<- nB];exact sB (by simp only [k5,f1])
        rw [un] at p7;obtain ⟨z1,z2⟩:=z;refine .inr ⟨z1,λyv H8 hy2=>?_⟩;obtain ⟨l8,r8,rd8⟩:=z2 yv H8 hy2;have h8:=h7.step l8;have rdx:=rd7.later l8;refine ⟨h,E,_,mw (L.later l8) rdx rd8,r8,(Post.at p7 h8).imp λb2 S9 μ9 H9 l9 r9 p9=>?_⟩;have h9:=h8.step l9;have B:=l8.trans l9;have a9:=B.oth _ _ a7 n7;have n9:=B.out a7 n7;have N:∀ {μx:Mp} {Hx:Hp},Lat h T μx Hx->LatU O H6 μx Hx:=λ{μx Hx} l=>by
         refine ⟨λn a e=>l.pre n a (u7.pre n a e),λa o e n1 n2=>?_,λa mm=>?_,λa mm=>?_⟩
         ·obtain ⟨q1,q2,q3⟩:=u7.out a o e n1 n2;exact l.oth a o q1 q2
         ·rcases l.new a mm with q | q
          ·exact u7.new a q
          ·by_cases n1:a∈O.pl
           ·exact .inl n1
           ·by_cases n2:a∈O.rs
            ·exfalso;obtain ⟨_,w,hw⟩:=r7.res a (by rw [h7.rs,<- h6.rs];exact n2);rw [hw] at q;cases q
            ·right
             cases e:H6 a with
             | none=>rfl
             | some o=>rw [(u7.out a o e n1 n2).1] at q;cases q
         ·exact u7.rsw a (by rw [<- l.rsv];exact mm)
        cases b2 with
        | false=>exact ⟨I,AI _,μ9,S9,g,h9,N B,n9,a9,L.later B,r9,F.later B,rd7.later B,p9⟩
        | true=>
         refine kQ ?_;rw [if_pos rfl] at p9;rw [nB] at p9;refine ⟨μ9,S9,_,(mw (L.later l8) rdx rd8).later l9,r9,(Post.at p9 h9).imp λyy S10 μ10 H10 l10 r10 Z v rv=>?_⟩;have P:=h9.step l10;have C:=B.trans l10;have a10:=l10.oth _ _ a9 n9;have n10:=l10.out a9 n9;by_cases hz:g.length<sizeLine
         ·rw [if_pos hz] at Z;have er:=P.rs;have Y:=N C;refine ⟨a10,by rw [<- F.length];exact hz,I,AI _,μ10,S10,g++[yy],?_,?_,n10,b6,?_,K1 er a10 r10,M0 er ((F.later C).append (.cons rv .nil)),E2 er (rd7.later C),Z⟩
          ·refine ⟨⟨P.r.pre,λa o e n=>?_,P.r.new,P.r.rsw⟩,er⟩;rw [b1 (b4 e s)];exact P.r.oth a o e n
          ·refine ⟨Y.pre,λa o e n1 n2=>?_,Y.new,Y.rsw⟩;have:a≠c:=λq=>n2 (by rw [h6.rs,q];exact Ay ..);rw [b1 this];exact Y.oth a o e n1 n2
          ·have eo6:=L.later C;exact ⟨eo6.1,λj e he=>let ⟨w,q,r⟩:=eo6.2 j e he;⟨w,q,E2 er r⟩⟩
         ·rw [if_neg hz] at Z;exact Z.elim
section
variable {X:Cx} {cl:Nat->Addr} {xe:Addr->Hp->Prop} {elt iter iter2:Expr} {x y:Str} {px py pos:Pos} {ifs ifs2:List Expr} {scope:Scope} {N':List Str} {caps:List Nat} {fi fi1:Env->M (Src×Nat)} {t t1:Env->M Bool} {f:Env->M D}
theorem fU (T:CompText X.N X.env N' 2 caps scope) (o:X.calm=true) (q:N'.Nodup) (g:N'[0]?=some x) (c:N'[1]?=some y) (h:scope.names.lookup x=some .local) (e:scope.names.lookup y=some .local) (k:PI X (.Name x px) iter (tIt X.K cl xe fi))
  (r:∀ pins C a s H,PTL (b3 X pins N' scope C a s H) ifs (tBo X.K cl xe t)) (d:∀ pins C a s H,PI (b3 X pins N' scope C a s H) (.Name y py) iter2 (tIt X.K cl xe fi1)) (i:∀ pins C a s H,PTL (b3 X pins N' scope C a s H) ifs2 (tBo X.K cl xe t1))
  (m:∀ pins C a s H,PE (b3 X pins N' scope C a s H) elt (tD X.K cl xe f)) (j:j6 iter=true) (b:j6 iter2=true) :
  PE X (.ListComp elt [⟨.Name x px,iter,ifs,0⟩,⟨.Name y py,iter2,ifs2,0⟩] scope pos) (dZ X.K cl xe (Z4 caps fi t fi1 t1 f)):=
 PE.imp (jn T o q g c h e k r d i m (u6 j) (λ_=>u6 b)) λσ H Q ⟨μ,S,ρ,n,l,p⟩=>bI n l p
end
end L3
namespace L2
open PySem PySem.Spec PyProof.Rows
section
variable {prog:Program} {w:World} {A:Around} {s:Shared} {R:Result->Shared->Prop}
theorem Y9 {B b y:Expr} {ifs:List Expr} {p:Scope} {pos:Pos} {it C:Value} {a:PySem.Env} (I:Nat->Shared->Prop)
  (D:∀ n s,I n s->wpAny (model prog w) A (pyNext it) (λr f=>match r with
   | none=>R (.ok .next) f
   | some v=>wpAny (model prog w) A (letOwnedTupleGo b it v) (λ_ g=>wpAny (model prog w) A (assign b a v) (λ_ j=>
     wpAny (model prog w) A (forIn ifs true λc r=>if r=true then do let t <- isTrue c a (eval c a);pure (ForInStep.yield t) else pure (ForInStep.yield r)) (λt d=>
      if t=true then wpAny (model prog w) A (eval B a) (λx i=>
       wpAny (model prog w) A (call (.builtin "list.append") [C,x]) (λ_ l=>∃ m,m<n/\I m l) (notedBy (model prog w) A a λe s'=>R (.error e) s') i) (notedBy (model prog w) A a λe s'=>R (.error e) s') d
      else ∃ m,m<n/\I m d) (notedBy (model prog w) A a λe s'=>R (.error e) s') j) (notedBy (model prog w) A a λe s'=>R (.error e) s') g) (notedBy (model prog w) A a λe s'=>R (.error e) s') f) (notedBy (model prog w) A a λe s'=>R (.error e) s') s)
  (n:Nat) (h:I n s):codeAny (model prog w) A (.compLoop (.ListComp B [⟨b,y,ifs,0⟩] p pos) 0 it C a) R s:=by
 refine codeAny_loop rfl I (λn s E=>?_) n h;refine wpAny_noted ?_;rw [compTurn_list];refine Ag (BR (Ag (AB (D n s E) (λr f o=>?_) λ_ _ h'=>h')));cases r with
 | none=>exact Ai o
 | some v=>
  refine Ag (AB o (λ_ g h₀=>?_) λ_ _ h'=>h');refine Ag (AB h₀ (λ_ j u=>Ag (AB u (λt d k=>?_) λ_ _ h'=>h')) λ_ _ h'=>h');cases t with
  | false=>exact Ai ⟨rfl,k⟩
  | true=>
   exact Ag (Ag (AB k (λx i q=>Ag (AB q (λ_ l z=>Ai (Ai ⟨rfl,z⟩)) λ_ _ h'=>h')) λ_ _ h'=>h'))
end
def gi (k:Nat) (caps:List Nat) (n:TI) (f:TG) (p:TT) (te:TE):TE:=λσ H Q=>n σ H λJ g=>∀ a,g a=none->∃ W:Nat->Nat->List V->Hp->Prop,(∃ m,W 0 m [] (upd g a (.lst []))) /\
 ∀ i m ys e,W i m ys e->e a=some (.lst ys)/\((J.stop i e/\Q (.ref a) e)\/(J.go i e/\∀ x l,J.yld i e x l->f x (List.replicate k none++i6 caps σ) l λd o=>∃ c:List (Option V),c.length=k/\d=c++i6 caps σ/\p d o λb h=>
  if b=true then te d h λy j=>j a=some (.lst ys)/\ys.length<sizeLine/\∃ m',m'<m/\W (i+1) m' (ys++[y]) (upd j a (.lst (ys++[y])))
  else ∃ m',m'<m/\W (i+1) m' ys h))
theorem iw {M A tg:Expr} {k:Nat} {tgp:TG} {ifs:List Expr} {a:Scope} {pos:Pos} {N':List Str} {caps:List Nat} {wi:TI} {tc:TT} {te:TE}
  (T:CompText X.N X.env N' k caps a) (hc:X.calm=true) (hg:∀ pins C g s H,PG (b3 X pins N' a C g s H) tg tgp) (hi:PI X tg A wi)
  (ht:∀ pins C g s H,PTL (b3 X pins N' a C g s H) ifs tc) (he:∀ pins C g s H,PE (b3 X pins N' a C g s H) M te)
  (hs:∀ x,foldedSetIterable A X.env x=pure x:=by intro _;rfl):PE X (.ListComp M [⟨tg,A,ifs,0⟩] a pos) (gi k caps wi tgp tc te):=by
 intro pins s σ H Q I h;have fr:∀ x∈a.names,x.2=NameKind.free->∃ c,X.env.cells.lookup x.1=some c:=λx hx hk=>I.ok.has x.1 (T.free x hx hk).2;rw [Eg];refine BS rfl hs (m9 fr) T.kind T.loc ?_;refine thn (hi pins s σ H _ I h) λv s1 h1=>thn h1 λitv f h2=>?_;obtain ⟨it,g,tn,J,F,rfl,I2,G,st2,f2,h2⟩:=h2;obtain ⟨W,⟨m0,w0⟩,turn⟩:=h2 f.heap.objs.size (I2.hok.fresh (Ap _));have hlt:=λb m=>let ⟨o,e,_⟩:=G.obj _ _ st2 b m;Am e
 refine AK (Cm T.cell (by intro y hy;simp at hy) (λh₁ w l=>?_) T.kind);have hC:(f.heap.push { cls:=.type "list",dict:=none,data:=.seq ([]:List Value).toArray }).objs.size=f.heap.objs.size+1:=BG ..;rw [hC] at w l;have Y:=λb o e=>l.extBut b o (Aq (AE (Am e))) (Ah _ (Ah _ e));have hacc:=l.extBut _ _ (Aq (AI _)) (Ah _ (An _ rfl));have B:=G.keep _ _ _ st2 λb _ o e=>Y b o e;have I3:=y7 (t:=f.toks+([]:List (Str×Value)).length) T I2 f2 hlt w Y hacc;have E:∀ {H':Hp},(∀ b∈g,H' b=none)->∀ b∈g,J8 (b3 X pins N' a (f.heap.objs.size+1) g f F) [] H' b:=λhn b m=>by
  refine ⟨hn b m,(I3.ok.exf b m).1,I3.ok.exfs b m,.inl m,(I3.ok.exf b m).2,λp hp=>?_⟩;have hp':p∈X.pn++pins:=by
   have:=hp;rwa [Bj] at this
  exact (f2 b m).2.2.2.2.2 p hp'
 have K:∀ s3:Shared,s3={ f with heap:=h₁,toks:=f.toks+([]:List (Str×Value)).length } ->
   codeAny (model X.prog X.w) X.A (.compLoop (.ListComp M [⟨tg,A,ifs,0⟩] a pos) 0 (.ref it) (.ref f.heap.objs.size) (compEnvC a (D1 X.env.cells a.names) (f.heap.objs.size+1) X.env))
    (compPost (model X.prog X.w) X.A X.xe none (EP X pins σ Q) (.ref f.heap.objs.size) (f.heap.objs.size+1)) s3:=by
  rintro s3 rfl;refine Y9 (λn s'=>∃ i ys H',Inv (b3 X pins N' a (f.heap.objs.size+1) g f F) [] (List.replicate k none++i6 caps σ) H' s'/\tn i s'.heap/\(∀ b∈g,H' b=none)/\W i n ys H') ?_ m0
   ⟨0,[],_,I3,B,λb m=>by rw [b1 (Aq (hlt b m))];exact (f2 b m).1,w0⟩
  rintro n s4 ⟨i,ys,H4,I4,st4,fr4,w4⟩;obtain ⟨hacc4,R⟩:=turn i n ys H4 w4;refine b5 ?_;rcases R with ⟨stop,q⟩ | ⟨go,step⟩
  ·refine thn (G.done (b3 X pins N' a (f.heap.objs.size+1) g f F) rfl rfl rfl hc i [] s4 _ H4 (λ_ _=>False) I4 (E fr4) st4 stop) λr s5 ⟨hr,S⟩=>?_;subst hr;obtain ⟨m5,hn5,_⟩:=id S.loc;refine ⟨m5,hn5,λh' hs'=>?_⟩;refine ⟨.ref f.heap.objs.size,H4,?_,rfl,q⟩;refine I2.call' S.os (Un.sameBut S.base hs' (Bm _)) (S.hok.sameBut S.free hs') S.bare λb m=>?_;have:=f2 b m;exact ⟨this.2.2.2.1,this.2.1,this.2.2.2.2.1,this.2.2.2.2.2⟩
  ·refine thn (G.item (b3 X pins N' a (f.heap.objs.size+1) g f F) rfl rfl rfl hc i [] s4 _ H4 (λ_ _=>False) I4 (E fr4) st4 go) λr s5 ⟨u,hr,h5⟩=>?_;subst hr;refine b5 (thn h5 λ_ s6 ⟨xv,H6,I6,r6,y6,P,fr6⟩=>?_);have I6':=I6.pinned (E fr6) (G.obj _ _ P);refine b5 (thn (hg pins _ g f F _ s6 _ H6 xv u _ I6' r6 (step xv _ y6)) λ_ s7 ⟨σ7,H7,I7,vals,hv,e7,q7⟩=>?_);subst e7;have D:∀ {σ8:St} {U:Hp} {s8:Shared},Inv (b3 X pins N' a (f.heap.objs.size+1) g f F) ([]++i3 g s6.heap) σ8 U s8->tn (i+1) s8.heap/\∀ b∈g,U b=none:=λ{σ8 U s8} L=>by
    refine ⟨G.keep _ _ _ P λb m o e=>(L.pin (b,o) (Ar _ (Ar _ (d9 m e)))).1,λb m=>?_⟩;obtain ⟨o,e,d⟩:=G.obj _ _ P b m;exact (L.pin (b,o) (Ar _ (Ar _ (d9 m e)))).2.1
   refine b5 (thn (ht pins _ g f F _ s7 _ _ _ I7 q7) λb s8 ⟨U,L,q8⟩=>?_);have wk:∀ {V:Hp} {Z:Shared},Inv (b3 X pins N' a (f.heap.objs.size+1) g f F) ([]++i3 g s6.heap) (vals++i6 caps σ) V Z->Inv (b3 X pins N' a (f.heap.objs.size+1) g f F) [] (List.replicate k none++i6 caps σ) V Z:=λ{V Z} I9=>
    I9.unpinned.weak (by simp [hv]) λj v e=>by
     by_cases hj:j<k
     ·grind
     ·grind
   cases b with
   | false=>
    obtain ⟨m',hm,w'⟩:=q8;exact ⟨m',hm,i+1,ys,U,wk L,(D L).1,(D L).2,w'⟩
   | true=>
    refine b5 (thn (he pins _ g f F _ s8 _ U _ L q8) λz Z ⟨y,V,I9,r9,O,hl9,m',hm,w'⟩=>?_);refine b5 (thn (y0 _ Z _ V (.ref f.heap.objs.size) [y] (.ref f.heap.objs.size) [z] (λ_ H'=>H'=upd V f.heap.objs.size (.lst (ys++[y]))) I9 rfl (.cons r9 .nil) ⟨_,ys,y,rfl,rfl,O,hl9,rfl⟩) λ_ s10 ⟨_,H10,N,_,e10⟩=>?_);subst e10;exact ⟨m',hm,i+1,ys++[y],_,wk N,(D N).1,(D N).2,w'⟩
 have fin:=Cb (K _ rfl) (G.self _ 0 _ _ _ B (K _ rfl));rw [<- hC] at fin;exact fin
end L2
namespace L3
open PySem PySem.Spec PyProof.Rows L2
def mk2 (c:Env) (d:D):Env:=match d with
 | .tup [a,b]=>some a :: some b :: c
 | _=>[]
def ky (t:Env->M Bool) (ρ:Env):M Bool:=match ρ with
 | []=>bad
 | o :: ρ=>t (o :: ρ)
def aG (caps:List Nat) (b:Env->M (Src×Nat)) (t:Env->M Bool) (f:Env->M D) (ρ:Env):M (List D):=bind (b ρ) λa=>k5 a.1 (ky t) f (mk2 (i4 caps ρ)) a.2 0 []
theorem gL {K:PySem.W.Frag} {μ:Mp} {H:Hp} {ρ:Env} {σ:L2.St} {d:D} {x:V} (a:EnvOk K μ H ρ σ) (r:RD K μ H d x):EnvOk K μ H (some d :: ρ) (some x :: σ):=by
 refine ⟨by simp [a.1],λi e b=>?_⟩;cases i with
 | zero=>grind
 | succ j=>exact a.2 j e b
def vF:TGs:=ja (X1 0) (ja (X1 1) gNil)
theorem bN {K:PySem.W.Frag} {cl:Nat->Addr} {xe:Addr->Hp->Prop} {caps:List Nat} {fi:Env->M (Src×Nat)} {t:Env->M Bool} {f:Env->M D} {σ:L2.St} {H:Hp} {μ:Mp} {S:Sto} {ρ:Env} {Q:VK} (eo:EnvOk K μ H ρ σ) (rp:Rep K cl μ S H)
  (p:Post K cl xe μ H (aG caps fi t f ρ S) λds _ μ' H'=>∀ c ys,LstAt μ' H' c ys->RDs K μ' H' ds ys->Q (.ref c) H'):gi 2 caps (tIt K cl xe fi) (tK K 2 vF) (tBo K cl xe t) (tD K cl xe f) σ H Q:=by
 refine ⟨μ,S,ρ,eo,rp,p.bind.imp λsm S1 u H1 l1 L p1 J yl c g=>?_⟩;obtain ⟨src,m0⟩:=sm;have W:=L.notrs g;refine ⟨λi m ys s=>∃ μ2 S2 es,HLat u H1 c μ2 s/\c∉μ2.pl/\s c=some (.lst ys)/\EnvOk K μ2 s ρ σ/\Rep K cl μ2 S2 s/\RDs K μ2 s es ys/\Post K cl xe u H1 (k5 src (ky t) f (mk2 (i4 caps ρ)) m i es S2) (λds _ μ' H'=>∀ c ys,LstAt μ' H' c ys->RDs K μ' H' ds ys->Q (.ref c) H'),⟨m0,u.hold c,S1,[],?_,L.notin g,b6,Q5 L g (eo.later l1),Q4 L g,.nil,p1⟩,?_⟩
 ·refine ⟨⟨λ_ _ e=>e,λa o e _=>by rw [b1 (b4 e g)];exact e,λa m=>.inl m,λa m=>?_⟩,rfl⟩;rcases AA.mp (m) with rfl | m
  ·exact .inr g
  ·exact .inl m
 rintro i m ys s ⟨μ2,S2,es,P,A,G,z,r2,h,k⟩;refine ⟨G,?_⟩;cases m with
 | zero=>exact k.elim
 | succ m=>
  have y:Q9 K cl J i μ2 s S2 (src i S2):=yl i μ2 s S2 P.r.u r2;simp only [k5] at k;cases e1:src i S2 with
  | none=>rw [e1] at k;exact k.elim
  | some o=>
   rw [e1] at k y;cases o with
   | none=>
    refine .inl ⟨y,k μ2.free s (P.lat (Lat.refl _ _)) (J0 r2) c ys ⟨G,A,?_⟩ (T3 h)⟩;show c∉μ2.rs.tail;rw [P.rs];exact W
   | some d=>
    obtain ⟨y1,y2⟩:=y;refine .inr ⟨y1,λx H3 hy=>?_⟩;obtain ⟨l3,r3,R⟩:=y2 x H3 hy;have h3:=P.step l3;cases R with
    | tup ht rs=>
     cases rs with
     | nil=>exact False.elim k
     | cons ra rs=>
      cases rs with
      | nil=>exact False.elim k
      | cons rb rs=>
       cases rs with
       | cons _ _=>exact False.elim k
       | nil=>
        rename_i da va db V;refine ⟨_,_,rfl,ht.sq,rfl,va,[V],rfl,V,[],rfl,rfl,[some va,some V],rfl,rfl,?_⟩;have ev:=gL (J4 (caps:=caps) (z.later l3) rb) ra;refine ⟨μ2,S2,some da :: some db :: i4 caps ρ,ev,r3,(Post.at k h3).imp λb S5 B H5 U r5 Z=>?_⟩;have h5:=h3.step U;have l:=l3.trans U;have T:=l.oth _ _ G A;have X:=l.out G A;cases b with
        | false=>exact ⟨m,AI _,B,S5,es,h5,X,T,z.later l,r5,h.later l,Z⟩
        | true=>
         refine kQ ?_;rw [if_pos rfl] at Z;refine ⟨B,S5,some da :: some db :: i4 caps ρ,ev.later U,r5,(Post.at Z h5).imp λyv S6 Y H6 N r6 I v rv=>?_⟩;have C:=h5.step N;have E:=l.trans N;have a6:=N.oth _ _ T X;have n6:=N.out T X;by_cases hz:es.length<sizeLine
         ·rw [if_pos hz] at I;have O:=C.rs;refine ⟨a6,by rw [<- h.length];exact hz,m,AI _,Y,S6,es++[yv],?_,n6,b6,?_,K1 O a6 r6,M0 O ((h.later E).append (.cons rv .nil)),I⟩
          ·refine ⟨⟨C.r.pre,λa o e n=>?_,C.r.new,C.r.rsw⟩,O⟩;rw [b1 (b4 e g)];exact C.r.oth a o e n
          ·have F:=z.later E;exact ⟨F.1,λj e he=>let ⟨w,q,r⟩:=F.2 j e he;⟨w,q,E2 O r⟩⟩
         ·rw [if_neg hz] at I;exact I.elim
    | _=>exact False.elim k
section
variable {X:Cx} {cl:Nat->Addr} {xe:Addr->Hp->Prop} {elt iter:Expr} {x y:Str} {px py tp pos:Pos} {kk:Nat} {ifs:List Expr} {scope:Scope} {N':List Str} {caps:List Nat} {fi:Env->M (Src×Nat)} {t:Env->M Bool} {f:Env->M D}
theorem fB (T:CompText X.N X.env N' 2 caps scope) (h:X.calm=true) (g:N'.Nodup) (d:N'[0]?=some x) (e:N'[1]?=some y) (c:scope.names.lookup x=some .local) (a:scope.names.lookup y=some .local) (j:PI X (.Tuple [.Name x px,.Name y py] kk tp) iter (tIt X.K cl xe fi))
  (n:∀ pins C b s H,PTL (b3 X pins N' scope C b s H) ifs (tBo X.K cl xe t)) (m:∀ pins C b s H,PE (b3 X pins N' scope C b s H) elt (tD X.K cl xe f)) (i:j6 iter=true) :
  PE X (.ListComp elt [⟨.Tuple [.Name x px,.Name y py] kk tp,iter,ifs,0⟩] scope pos) (dZ X.K cl xe (aG caps fi t f)):=
 PE.imp (iw T h (λpins C b s H=>jW (X:=b3 X pins N' scope C b s H) h (R9 (v7 g d (.inl (AM c)) (.inr (AM c))) (R9 (v7 g e (.inl (AM a)) (.inr (AM a))) dm))) j n m (u6 i)) λσ H Q ⟨μ,S,ρ,l,k,p⟩=>bN l k p
end
section
variable {X:Cx} {cl:Nat->Addr} {xe:Addr->Hp->Prop} {a b e:Expr} {es rest:List Expr} {pos:Pos} {f g:Env->M D}
def tPt (K:PySem.W.Frag) (cl:Nat->Addr) (xe:Addr->Hp->Prop) (a:Env->M (Option Int)):TO:=λσ H Q=>∃ μ S ρ,EnvOk K μ H ρ σ/\Rep K cl μ S H/\Post K cl xe μ H (a ρ S) λo _ _ H'=>Q o H'
def br (d:D):M (Option Int):=match d with
 | .int i=>ret (some i)
 | _=>bad
theorem PO.imp {e:Option Expr} {t t':TO} (h:PO X e t) (k:∀ σ H Q,t' σ H Q->t σ H Q):PO X e t':=λpins s σ H Q I q=>h pins s σ H Q I (k σ H Q q)
theorem kH:PO X none (tPt X.K cl xe λ_=>ret none):=PO.imp lZ λσ H Q ⟨μ,S,ρ,b,a,p⟩=>p μ H (Lat.refl _ _) a
theorem jx (h:PE X e (tD X.K cl xe f)):PO X (some e) (tPt X.K cl xe λρ=>bind (f ρ) br):=PO.imp (lR h) λσ H Q ⟨μ,S,ρ,eo,rp,p⟩=>
 ⟨μ,S,ρ,eo,rp,p.bind.imp λd S1 μ1 H1 l1 r1 p1 v rv=>by
  cases rv with
  | int i=>exact ⟨i,rfl,p1 μ1 H1 (Lat.refl _ _) r1⟩
  | _=>exact False.elim p1⟩
theorem C5 {s:Shared} {t e:Addr} {items:Array Value} {k i:Value} {lo c:Option Int} {Q:Value->Shared->Prop} (a:IsTup s.heap t items) (hs:s.heap.IsSliceOf e k i .none) (pl:IsPart k lo) (l:IsPart i c)
  (j:HT.sIx items.size 0 lo=0/\HT.sIx items.size items.size c=items.size) (h:Q (.ref t) s):wpAny (model prog w) A (getItem (.ref t) (.ref e)) Q E s:=by
 obtain ⟨m,g,d,hds⟩:=id hs;have f:s.TypeIs (.ref e) "slice":=⟨m,g,d⟩;unfold getItem;try with_reducible refine AS ?_
 first | refine Ag (Ai ?_) | skip
 refine Ag (wpAny_sequenceKey a.typeIs (by decide) ?_);refine Ag (Bo a.typeIs Bu
  (Ba Bu a.typeIs entry_tuple_getitem ?_ (args_tuple_getitem _ _)))
 show wpAny _ _ (Builtin.Tuple.tupleItemsOf (.ref t) >>= _) _ _ s;refine Ag (DH a ?_);refine Ag (Co f ?_);rw [if_pos (by decide)];refine Ag (HT.sliceApplied_gen hs pl l ?_);have b:(((HT.sIx items.size 0 lo:Nat):Int)==0&&(1:Int)==1&&(HT.sIx items.size items.size c-HT.sIx items.size 0 lo)==items.size)=true:=by
  rw [j.1,j.2];simp
 show wpAny _ _ (if (((HT.sIx items.size 0 lo:Nat):Int)==0&&(1:Int)==1&&(HT.sIx items.size items.size c-HT.sIx items.size 0 lo)==items.size)=true then _ else _) _ _ s;rw [if_pos b];refine Ag ?_;refine Ag (Co a.typeIs (Ai ?_));rw [if_pos (by decide)];refine Ag (Cc ?_);exact Ai ⟨_,rfl,Ai h⟩
theorem ly:SlR X (λx lo e H Q=>∃ a xs,x=.ref a/\SqT X.K H a xs/\(HT.sIx xs.length 0 lo=0/\HT.sIx xs.length xs.length e=xs.length)/\Q (.ref a) H):=by
 intro pins s σ H x v m k lo e l Q I f hs pl j h;obtain ⟨a,xs,rfl,g,i,q⟩:=h;cases f;obtain ⟨c,r,d,hz⟩:=I.tuple g;have b:c.toArray.size=xs.length:=by rw [Al];exact r.length.symm
 exact ⟨"tuple",_,PyProof.Rows.slot_tuple_getitem.lookup,d.typeIs,C5 d hs pl j (by rw [b];exact i) ⟨.ref a,H,I,rfl,q⟩⟩
theorem uO:SlR X (λx lo hi H Q=>∃ μ S d,RD X.K μ H d x/\Rep X.K cl μ S H/\Post X.K cl xe μ H (slD d lo hi S) λr _ μ' H'=>∀ v,RD X.K μ' H' r v->Q v H'):=by
 intro pins s σ H x v vl vu lo hi sl Q I rx hs pl pu ⟨μ,S,d,rd,rp,p⟩;have sq:∀ {a:Addr} {xs:List V} {ds:List D},SqL X.K H a xs->RDs X.K μ H ds xs->x=.ref a->(∀ μ' H',Lat μ H μ' H'->Rep X.K cl μ' S H'->∀ w,RD X.K μ' H' (.lst (B0 ds lo hi)) w->Q w H') ->
   ∃ T id,typeLookup (.type T) "__getitem__" = pure (some (.builtin id))/\s.TypeIs v T/\wpAny (model X.prog X.w) X.A (getItem v (.ref sl)) (EP X pins σ Q) X.xe s:=λ{a xs ds} hq r2 hv q=>by
  subst hv;refine kn pins s σ H _ v vl vu lo hi sl Q I rx hs pl pu ⟨a,xs,rfl,hq,λz hz=>?_⟩;obtain ⟨l,rp2,rd2⟩:=m7 rp (gq r2 lo hi) hz;exact q μ _ l rp2 _ rd2
 cases rd with
 | tup h r=>
  rename_i a xs ds;by_cases hw:HT.sIx xs.length 0 lo=0/\HT.sIx xs.length xs.length hi=xs.length
  ·refine ly pins s σ H _ v vl vu lo hi sl Q I rx hs pl pu ⟨a,xs,rfl,h.sq,hw,?_⟩;have e:B0 ds lo hi=ds:=by
    unfold B0;rw [r.length,hw.1,hw.2,Eb,Nat.sub_zero];exact CO (by rw [r.length];exact Ap _)
   exact p μ H (Lat.refl _ _) rp _ (by rw [e];exact .tup h r)
  ·refine qC pins s σ H _ v vl vu lo hi sl Q I rx hs pl pu ⟨a,xs,rfl,h.sq,hw,λz hz=>?_⟩;obtain ⟨l,rp2,rd2⟩:=F9 rp (gq r lo hi) hz;exact p μ _ l rp2 _ rd2
 | lst h r=>exact sq h.sq r rfl p
 | scr h r=>exact sq h.sq r rfl p
 | ref h=>
  rename_i n a0;have p2:=p;obtain ⟨a,xs,ds,e1,h1,h2,e2⟩:=k8 (.ref h) rp p2.bind;exact sq (.inl (.inl h1)) h2 e1 (p2.ok_bind e2)
 | _=>exact False.elim p
theorem sG {lo k:Option Expr} {c:Pos} {j m:Env->M (Option Int)} (h:PE X e (tD X.K cl xe f)) (t:PO X lo (tPt X.K cl xe j)) (B:PO X k (tPt X.K cl xe m)) :
  PE X (.Subscript e (.Slice lo k none c) pos) (tD X.K cl xe λρ=>bind (f ρ) λd=>bind (j ρ) λl=>bind (m ρ) λu=>slD d l u):=PE.imp (gO uO h t B) λσ H Q ⟨μ,S,ρ,a,s,p⟩=>
 ⟨μ,S,ρ,a,s,p.bind.imp λd S1 g C n o q v x=>⟨g,S1,ρ,a.later n,o,q.bind.imp λl S2 μ2 E i A c=>⟨μ2,S2,ρ,(a.later n).later i,A,c.bind.imp λu z b D y r w=>⟨b,z,d,(x.later i).later y,r,w⟩⟩⟩⟩
end
def D4 (x k v:D):M D:=match x with
 | .ref n=>λS=>match S[n]? with
  | some (.lst ds)=>match k with
   | .int i=>match ixN ds.length i with
    | some j=>.ok .non (S.set n (.lst (ds.set j v)))
    | none=>.bad
   | _=>.bad
  | some (.dct a)=>match U8 k with
   | some b=>if a.length<sizeLine then .ok .non (S.set n (.dct (oP a b v))) else .bad
   | none=>.bad
  | _=>.bad
 | _=>bad
theorem eM {K:PySem.W.Frag} {μ:Mp} {H:Hp} {k:Key}:∀ {a:List (Key×D)} {c:List (Key×V)},KvsAt K μ H a c->(a.any λb=>decide (b.1=k))=c.any λb=>decide (b.1=k)
 | _,_,.nil=>rfl
 | _,_,.cons ⟨d,e⟩ t=>by simp only [Dc,d,eM t]
theorem dI {K:PySem.W.Frag} {μ:Mp} {H:Hp} {k:Key} {d:D} {v:V} (r:RD K μ H d v):∀ {c:List (Key×D)} {e:List (Key×V)},KvsAt K μ H c e->KvsAt K μ H (c.map λa=>if a.1=k then (a.1,d) else a) (e.map λa=>if a.1=k then (a.1,v) else a)
 | _,_,.nil=>.nil
 | _,_,.cons (b:=b) ⟨h1,h2⟩ t=>by
  refine .cons ?_ (dI r t);by_cases f:b.1=k
  ·grind
  ·grind
theorem Paired.app:∀ {xs a:List α} {ys b:List β},Paired P xs ys->Paired P a b->Paired P (xs++a) (ys++b)
 | _,_,_,_,.nil,s=>s
 | _,_,_,_,.cons r t,s=>.cons r (Paired.app t s)
theorem mV {K:PySem.W.Frag} {μ:Mp} {H:Hp} {k:Key} {d:D} {v:V} {a:List (Key×D)} {b:List (Key×V)} (h:KvsAt K μ H a b) (r:RD K μ H d v):KvsAt K μ H (oP a k d) (y4 b k v):=by
 unfold oP y4;rw [eM h];split
 ·exact dI r h
 ·exact Paired.app h (.cons ⟨rfl,r⟩ .nil)
theorem KvsAt.later {K:PySem.W.Frag} {μ μ':Mp} {H H':Hp} {a:List (Key×D)} {b:List (Key×V)} (h:KvsAt K μ H a b) (l:Lat μ H μ' H'):KvsAt K μ' H' a b:=Paired.mono (λ_ _ ⟨z,w⟩=>⟨z,w.later l⟩) h
section
variable {X:Cx} {cl:Nat->Addr} {xe:Addr->Hp->Prop} {a b e:Expr} {es rest:List Expr} {pos:Pos} {f g k:Env->M D}
theorem qO (hu:X.A.units+1<cLine):nK X (λo i v H Q=>∃ μ S x y z,RD X.K μ H x o/\RD X.K μ H y i/\RD X.K μ H z v/\Rep X.K cl μ S H/\Post X.K cl xe μ H (D4 x y z S) λ_ _ _ H'=>Q H'):=by
 intro pins s σ H o i v ov iv u Q I ro ri rv ⟨μ,S,x,y,z,rx,ry,rz,rp,p⟩;cases rx with
 | ref h=>
  rename_i n a;have m:=AT h;simp only [D4] at p;cases q1:S[n]? with
  | none=>rw [q1] at p;exact p.elim
  | some ob=>
   rw [q1] at p;cases ob with
   | lst ds=>
    obtain ⟨xs,h1,h2⟩:=rp.ats n _ a q1 h;cases ry with
    | int j=>
     simp only at p;cases q2:ixN ds.length j with
     | none=>rw [q2] at p;exact p.elim
     | some t=>
      rw [q2] at p;refine jC pins s σ H _ _ v ov iv u Q I ro ri rv ⟨a,xs,j,t,rfl,rfl,h1,by rw [<- h2.length];exact q2,?_⟩;exact p μ _ (Lat.wrote m) (rp.wrote h ⟨_,b6,(h2.set rz t).later (Lat.wrote m)⟩)
    | _=>exact False.elim p
   | dct kvs=>
    obtain ⟨ks,h1,h2⟩:=rp.ats n _ a q1 h;cases q2:U8 y with
    | none=>rw [q2] at p;exact p.elim
    | some key=>
     rw [q2] at p;by_cases hl:kvs.length<sizeLine
     ·simp only [if_pos hl] at p;have hy:=ag ry q2;subst hy;cases ro;have hl2:ks.length<sizeLine:=by rw [<- Paired.length h2];exact hl
      refine fY hu I (DPut.k h1 hl2) ri rv λs' I'=>⟨_,I',?_⟩;exact p μ _ (Lat.wrote m) (rp.wrote h ⟨_,b6,(mV h2 rz).later (Lat.wrote m)⟩)
     ·simp only [if_neg hl] at p;exact p.elim
   | exc _ _=>exact p.elim
 | _=>exact False.elim p
theorem fF (h:z4 b=true):∀ v,assign (.Subscript a b p2) env v=(do
   let c <- holding [v] (eval a env)
   let d <- holding [v,c] (eval b env)
   standAt p2
   holding [v,c,d] (setItem c d v)
   release [v,c,d] []):=by
 intro v;cases b <;> first | rfl | (exact absurd h (by simp [z4]))
theorem ju (o:X.A.units+1<cLine) (L:PE X e (tD X.K cl xe f)) (J:PE X a (tD X.K cl xe g)) (I:PE X b (tD X.K cl xe k)) (s:v5 e=true) (u:z4 b=true) :
  PS X (.Assign [.Subscript a b n] e pos) (sD X.K cl xe λρ=>bind (f ρ) λv=>bind (g ρ) λx=>bind (k ρ) λy=>bind (D4 x y v) λ_=>ret (.nx ρ)):=
 PS.imp (gJ L (pE J I (qO o) (fF u)) (by unfold swapsWithSole;exact E6 s) rfl rfl) λD σ H ⟨μ,S,ρ,c,z,p⟩=>
  ⟨μ,S,ρ,c,z,p.bind.imp λv S1 j P m r t vv F=>⟨j,S1,ρ,c.later m,r,t.bind.imp λx S2 μ2 T d N n R K=>⟨μ2,S2,ρ,(c.later m).later d,N,n.bind.imp λy M i Q l w E O q=>
   ⟨i,M,x,y,v,K.later l,q,(F.later d).later l,w,E.bind.imp λ_ U h B G C A=>A.ret h B (Lat.refl _ _) C σ ((((c.later m).later d).later l).later G)⟩⟩⟩⟩
def K0 (x:D) (ds:List D):M D:=match x,ds with
 | .ref n,[d]=>λS=>match S[n]? with
  | some (.lst es)=>if es.length<sizeLine then .ok .non (S.set n (.lst (es++[d]))) else .bad
  | _=>.bad
 | _,_=>bad
def w6 (es:List Expr):Bool:=decide (es.length<30)
theorem cP (b:es.all b8=true) (a:w6 es=true):((backTo cpos (starEach es X.env)).all (λx=>!x.1)&&(backToKw cpos (keywordEach [] X.env)).all (λx=>x.1.isSome)&&decide (es.length+([]:List Keyword).length+(if ([]:List Keyword).isEmpty then 0 else 1)<30))=true:=by
 rw [Q6 b];simpa [keywordEach,backToKw] using Ck a
theorem V0 (ho:PE X a (tD X.K cl xe f)) (ha:PA X (e :: es) (tDs X.K cl xe fs)) (hb:n8 a=true) (hs:(e :: es).all b8=true) (hf:w6 (e :: es)=true) (hl:(apos.endLine==cpos.line)=true) :
  PE X (.Call (.Attribute a "append" apos) (e :: es) [] cpos) (tD X.K cl xe λρ=>bind (f ρ) λx=>bind (lstOf x) λ_=>bind (fs ρ) λds=>K0 x ds):=by
 have hs2:=hs;rw [BD,Ao] at hs2;refine PE.imp (md BX PySem.F.slot_list_append PySem.F.type_list_append y0 ho ha (Z6 hb) (cP hs hf) hl (e8 hs2.1) (p0 hs2.2)) λσ H Q ⟨μ,S,ρ,eo,rp,p⟩=>?_;refine ⟨μ,S,ρ,eo,rp,p.bind.imp λx S1 μ1 H1 l1 r1 p1 xv rx=>?_⟩;obtain ⟨a0,xs0,ds0,e0,h0,r0,q0⟩:=k8 rx r1 p1.bind;have p1:=p1.ok_bind q0;subst e0;refine ⟨.inl ⟨rfl,_,.inl (.inl h0)⟩,μ1,S1,ρ,eo.later l1,r1,p1.bind.imp λds S2 μ2 H2 l2 r2 p2 vs rvs=>?_⟩;have rx2:=rx.later l2;clear p1;cases rx2 with
 | ref h=>
  rename_i n
  match ds,rvs with
  | [],_=>exact False.elim p2
  | _ :: _ :: _,_=>exact False.elim p2
  | [d],rvs=>
   obtain ⟨v,rfl,rv⟩:=mP rvs;simp only [K0] at p2;cases q1:S2[n]? with
   | none=>rw [q1] at p2;exact p2.elim
   | some o=>
    rw [q1] at p2;cases o with
    | lst es=>
     obtain ⟨xs,h1,h2⟩:=r2.ats n _ _ q1 h;by_cases hl:es.length<sizeLine
     ·simp only [if_pos hl] at p2;have m:=AT h;refine ⟨_,xs,v,rfl,rfl,h1,by rw [<- h2.length];exact hl,?_⟩;exact p2 μ2 _ (Lat.wrote m) (r2.wrote h ⟨_,b6,(h2.append (.cons rv .nil)).later (Lat.wrote m)⟩) _ .non
     ·simp only [if_neg hl] at p2;exact p2.elim
    | dct _=>exact p2.elim
    | exc _ _=>exact p2.elim
 | _=>exact False.elim p2
end
section
variable {K:PySem.W.Frag} {cl:Nat->Addr} {xe:Addr->Hp->Prop} {μ:Mp} {H:Hp} {S:Sto} {β:Type}
theorem bind_assoc {α γ:Type} (m:M α) (k:α->M β) (j:β->M γ):bind (bind m k) j=bind m λa=>bind (k a) j:=by
 funext S;unfold bind;cases m S <;> rfl
theorem i8 {α:Type} (a:α) (k:α->M β):bind (ret a) k=k a:=rfl
end
def tys:List String:=["NoneType","bool","int","str","tuple","list","dict"]
section
variable {X:Cx}
variable {cl:Nat->Addr} {xe:Addr->Hp->Prop}
def k9:List D->Option (List Int)
 | []=>some []
 | .int i :: ds=>(k9 ds).map (i :: ·)
 | _=>none
theorem Z7 {K:PySem.W.Frag} {μ:Mp} {H:Hp}:∀ {ds:List D} {vs:List V} {ns:List Int},k9 ds=some ns->RDs K μ H ds vs->vs=ns.map V.int
 | [],_,ns,e,r=>by cases r;cases e;rfl
 | d :: ds,_,ns,e,r=>by
  cases r with
  | cons h t=>
   cases d <;> try (simp [k9] at e;done)
   case int i=>
    simp only [k9] at e;cases a:k9 ds with
    | none=>rw [a] at e;cases e
    | some b=>
     rw [a] at e;cases e;cases h;rw [Z7 a t];rfl
def Z0 (d:D):M D:=match d with
 | .int i=>ret (.int (-i))
 | _=>bad
theorem iC:UnR X (unaryOp .USub) (λx H Q=>∃ μ S d,RD X.K μ H d x/\Rep X.K cl μ S H/\Post X.K cl xe μ H (Z0 d S) λr _ μ' H'=>∀ v,RD X.K μ' H' r v->Q v H'):=by
 intro pins s σ H x v Q I rx ⟨μ,S,d,rd,rp,p⟩;cases rd with
 | int i=>exact pA pins s σ H _ v Q I rx ⟨i,rfl,p μ H (Lat.refl _ _) rp _ (.int _)⟩
 | _=>exact False.elim p
theorem pJ (h:PE X a (tD X.K cl xe f)):PE X (.UnaryOp .USub a pos) (tD X.K cl xe λρ=>bind (f ρ) Z0):=
 PE.imp (rO iC h) λσ H Q ⟨μ,S,ρ,c,e,p⟩=>⟨μ,S,ρ,c,e,p.bind.imp λd S1 b k l i g v j=>⟨b,S1,d,j,i,g⟩⟩
end
section
variable {X:Cx} {e:Expr} {te:TE} {p p2 pos pos2:Pos} {cl:Nat->Addr} {xe:Addr->Hp->Prop}
theorem F8:∀ {ns:List Int} {us:List Value},Vals (ns.map V.int) us->IntsAre us ns
 | [],_,r=>by cases r;exact .nil
 | n :: ns,_,r=>by
  cases r with
  | cons h t=>
   obtain ⟨k,rfl⟩:=(h);exact .cons n k (F8 t)
end
end L3
namespace HT
open PySem PySem.Spec PyProof.Rows
open MeetsSeq MeetsSeq2 MeetsSeq3 SeqRoads2 SeqAt
theorem T6 {c:Type} {f:Nat->c->Sem (ForInStep c)} {d:c} {Q:c->Shared->Prop} {j:Nat} (hd:wpAny M A (f j d) (λr s'=>∃ b,r=.done b/\Q b s') E s) :
  ∀ (n i:Nat),i<=j->j<i+n->(∀ m,i<=m->m<j->∀ h:ForInStep c->Shared->Prop,h (.yield d) s->wpAny M A (f m d) h E s)->wpAny M A (forIn (List.range' i n 1) d f) Q E s
 | 0,i,l,k,_=>by omega
 | n+1,i,l,k,g=>by
  rw [List.range'_succ,DW];by_cases e:i=j
  ·subst e;refine Ag (AB hd (λr s' ⟨b,e,q⟩=>?_) λ_ _ e=>e);subst e;exact Ai q
  ·refine Ag (g i (Ap _) (by omega) _ ?_);exact T6 hd n (i+1) (by omega) (by omega) λm a b=>g m (by omega) b
theorem tuple_indexAt (l:Addr) (items:Array Value) (n:Nat) (v:Option Addr) (q:Array (Option Value)) (x:Value) (e:Value->Bool) (j:Nat) (k:j<items.size)
  (c:e items[j]=true) (f:∀ m (i:m<items.size),m<j->e items[m]=false) :
  Meets (Builtin.«tuple.index» ⟨[.ref l,x],[]⟩)
   (λA R s=>s.heap.get? l=some { cls:=.type "tuple",dict:=v,data:=.seq items n,slots:=q }/\(∀ y,y∈items->EqAt A.in1 s y x (e y))/\R (.ok (.ret (.int j s.toks))) { s with toks:=s.toks+1 }):=by
 intro prog w A R s h;obtain ⟨z,g,d,D,B⟩:=s;obtain ⟨r,o,h⟩:=h;have u:IsTup z l items:=⟨_,r,rfl,n,rfl⟩;have t:selfAndSome "tuple.index" "index" 1 3 ⟨[.ref l,x],[]⟩=pure (.ref l,[x]):=by rfl
 unfold Builtin.«tuple.index»;rw [t];refine Ag (Ai ?_);refine Ag (DH u ?_);refine Ag (Ai ?_);refine Ag (Ai ?_);refine Ag ?_;rw [Std.Legacy.Range.forIn_eq_forIn_range'];refine T6 (j:=j) ?_ _ _ (Bh _) ?_ ?_
 ·have b:=Bc k;simp only [b];refine Ag (o _ (Array.getElem_mem k) prog w _ _ ?_);rw [c]
  wp_walk
  exact ⟨_,rfl,Ai h⟩
 ·simp_all
 ·intro m _ i C p;have a:m<items.size:=by omega
  have b:=Bc a;simp only [b];refine Ag (o _ (Array.getElem_mem a) prog w _ _ ?_);rw [f m a i];exact Ai p
end HT
namespace L3
open PySem PySem.Spec PyProof.Rows L2
section
variable {X:Cx} {cl:Nat->Addr} {xe:Addr->Hp->Prop} {o e:Expr} {es:List Expr} {f:Env->M D} {fs:Env->M (List D)} {apos cpos:Pos}
theorem fb (hu:X.A.units+80<cLine):MtR X "tuple.index" (λx vs H Q=>∃ y ps d j,vs=[y]/\DAt X.K H x (.tuple ps)/\DAt X.K H y d/\(d.canLay0=true/\PyData.canLayAll0 ps=true/\min (PyData.depthAll ps) d.depth<=60)/\ps.findIdx? (λz=>PyData.eqv z d)=some j/\Q (.int (j:Nat)) H):=by
 intro pins s σ H x vs v us Q I rx rv h;obtain ⟨y,ps,d,j,rfl,hx,hy,⟨c1,c2,c3⟩,hj,q⟩:=h;obtain ⟨u,rfl,ru⟩:=rv.one;obtain ⟨as,r1⟩:=hx.reads I rx;obtain ⟨bs,r2⟩:=hy.reads I ru;cases r1 with
 | tuple h1 h2 h3 h4=>
  rename_i a ob its n;obtain ⟨cls,dd,data,sl⟩:=ob;subst h2 h3;have em:=SeqAt.readsAll_map ps _ _ c2 h4;obtain ⟨hl,hit,hno⟩:=Be.mp hj;have hlen:its.toList.length=ps.length:=by rw [<- em,Aj]
  have hl':j<its.size:=by rw [<- Ax,hlen];exact hl
  have at_:∀ m (hm:m<its.size) (hm2:m<ps.length),SeqAt.readOf s.heap its[m]=ps[m]:=λm hm hm2=>by
   have:ps[m]?=(its.toList.map (SeqAt.readOf s.heap))[m]?:=by rw [em]
   rw [Ak hm2,AH,Bn,Bc hm] at this;exact (AG this).symm
  refine Ca F.slot_tuple_index ⟨_,h1,rfl⟩ F.entry_tuple_index (F.args_tuple_index_2 _ _) (HT.tuple_indexAt _ its n dd sl u (λz=>PyData.eqv (SeqAt.readOf s.heap z) d) j hl' (by rw [at_ j hl' hl];exact hit) λm hm hmj=>?_) ⟨h1,λz hz=>?_,?_⟩
  ·grind
  ·exact SeqAt.items_eqAt h4 r2 c2 c1 (by omega) z hz
  ·exact ⟨.int (j:Nat),H,I.tok _,⟨_,rfl⟩,q⟩
end
end L3
namespace HT
open PySem PySem.Spec PyProof.Rows
section
variable {prog:Program} {w:World} {A:Around} {E:Value->Shared->Prop} {s:Shared}
theorem qI {ob:Obj} {k:Nat} {T:String} {Q:List Value->Shared->Prop} (f:T = "list"\/T = "tuple") (g:s.heap.get? a=some ob) (d:ob.cls=.type T) (h:ob.data=.seq us.toArray k) (hz:us.length<=sizeLine)
  (q:Q us { s with heap:=(s.heap.push (seqObj "list" #[] 0)).update s.heap.objs.size (Obj.mapSeq (·++us.toArray)) }):wpAny (model prog w) A (collect (.ref a)) Q E s:=by
 have b:(s.heap.push (seqObj "list" #[] 0)).get? a=some ob:=Ah _ g;have c:(s.heap.push (seqObj "list" #[] 0)).get? s.heap.objs.size=some (seqObj "list" #[] 0):=An _ rfl;refine Ag (Ec (BA PyProof.Rows.entry_proto_collect' (?_:wpAny _ _ (do again (.builtin "list.__iadd__" ⟨[<- newList [],.ref a],[]⟩)) _ _ s)));refine Ag (Cg (Ai ⟨Code.quiet_builtin _ (by decide +kernel),BA PyProof.Rows.entry_list_iadd' (?_:wpAny _ _ (Builtin.List.listExtendWith (.ref s.heap.objs.size) (.ref a) (.ref s.heap.objs.size)) _ _ { s with heap:=s.heap.push (seqObj "list" #[] 0) })⟩));refine Ag (Co ⟨ob,b,d⟩ ?_);rw [if_pos (by rcases f with rfl | rfl <;> simp)];refine Ag (BH b h (Ag (BH c rfl ?_)));rw [if_neg (by simp)];refine Ag (Dx c rfl (Ai ?_) (Bh _) (by rw [Array.size_append];show 0+us.toArray.size<=_;rw [Al];omega));refine Ag (wpAny_load (PyProof.Rows.get?_update_seq c _) ?_);show wpAny _ _ (pure ((#[]:Array Value)++us.toArray).toList) Q E _;have e:((#[]:Array Value)++us.toArray).toList=us:=by simp
 rw [e];exact Ai q
theorem sorted_seq {ob:Obj} {k:Nat} {T:String} {ns:List Int} {Q:Value->Shared->Prop} (f:T = "list"\/T = "tuple") (g:s.heap.get? a=some ob) (c:ob.cls=.type T) (l:ob.data=.seq us.toArray k) (h:IntsAre us ns) (d:us.length<64)
  (q:∀ (out:Array Value) (ms:List Int),IntsAre out.toList ms->ms.Perm ns->ms.Pairwise (·<=·)->Q (.ref (s.heap.objs.size+1)) { s with heap:=sortedAll s.heap us out }):wpAny (model prog w) A (call (.builtin "sorted") [.ref a]) Q E s:=by
 refine Cw DI Dz DA (DB _) ?_;refine Ag (Ai (Ag (qI f g c l (by rw [AF];omega) (Ag (Cg ?_)))));have e:((s.heap.push (seqObj "list" #[] 0)).update s.heap.objs.size (Obj.mapSeq (·++us.toArray))).objs.size=s.heap.objs.size+1:=by
  rw [Db,DO]
 have b:(((s.heap.push (seqObj "list" #[] 0)).update s.heap.objs.size (Obj.mapSeq (·++us.toArray))).push (seqObj "list" us.toArray 0)).get? (s.heap.objs.size+1)=some (seqObj "list" us.toArray 0):=e▸An _ rfl;rw [e];refine Ag (AS (Ba Dq ⟨_,b,rfl⟩ Dj (Dr b h d λout ms m i j=>⟨_,rfl,Ai ⟨_,rfl,q out ms m i j⟩⟩) (Ds _)))
end
end HT
namespace L3
open PySem PySem.Spec PyProof.Rows L2
def cu (x:Int):List Int->List Int
 | []=>[x]
 | y :: ys=>if x<=y then x :: y :: ys else y :: cu x ys
def srt:List Int->List Int
 | []=>[]
 | x :: xs=>cu x (srt xs)
theorem O6 (x:Int):∀ l:List Int,(cu x l).Perm (x :: l)
 | []=>.refl _
 | y :: ys=>by
  unfold cu;split
  ·exact .refl _
  ·exact ((O6 x ys).cons y).trans (.swap x y ys)
theorem b7:∀ l:List Int,(srt l).Perm l
 | []=>.refl _
 | x :: xs=>(O6 x (srt xs)).trans ((b7 xs).cons x)
theorem gR (x:Int):∀ l:List Int,l.Pairwise (·<=·)->(cu x l).Pairwise (·<=·)
 | [],_=>by simp [cu]
 | y :: ys,h=>by
  unfold cu;rw [Bw] at h;split
  ·rename_i c;rw [Bw];refine ⟨λz hz=>?_,Bw.mpr h⟩;rcases AA.mp hz with e | e
   ·omega
   ·have:=h.1 z e;omega
  ·rename_i c;rw [Bw];refine ⟨λz hz=>?_,gR x ys h.2⟩;rcases AA.mp ((O6 x ys).mem_iff.mp hz) with e | e
   ·omega
   ·exact h.1 z e
theorem aA:∀ l:List Int,(srt l).Pairwise (·<=·)
 | []=>.nil
 | x :: xs=>gR x _ (aA xs)
theorem cQ:∀ {a b:List Int},a.Perm b->a.Pairwise (·<=·)->b.Pairwise (·<=·)->a=b
 | [],b,p,_,_=>by
  have:=p.length_eq;cases b with
  | nil=>rfl
  | cons _ _=>simp at this
 | x :: a,[],p,_,_=>by have:=p.length_eq;simp at this
 | x :: a,y :: b,p,c,d=>by
  rw [Bw] at c d;have f:=p.mem_iff.mp (Ay ..);have g:=p.mem_iff.mpr (Ay ..);have e:x=y:=by
   rcases AA.mp f with e | e
   ·exact e
   ·grind
  subst e;rw [cQ (List.Perm.cons_inv p) c.2 d.2]
theorem L5:∀ {us:List Value} {ns:List Int},IntsAre us ns->Vals (ns.map V.int) us
 | _,_,.nil=>.nil
 | _,_,.cons n t h=>.cons ⟨t,rfl⟩ (L5 h)
section
variable {X:Cx} {cl:Nat->Addr} {xe:Addr->Hp->Prop}
theorem aS:j7 X (.builtin "sorted") (λxs H Q=>∃ (a:Addr) (ns:List Int),xs=[.ref a]/\(SqL X.K H a (ns.map V.int)\/SqT X.K H a (ns.map V.int))/\ns.length<64/\∀ p,H p=none->Q (.ref p) (upd H p (.lst ((srt ns).map V.int)))):=by
 intro pins s σ H xs us Q I r h;obtain ⟨a,ns,rfl,hs,D,q⟩:=h;obtain ⟨u,rfl,z⟩:=M3 r;cases z;have i:∀ (ob:Obj) (k:Nat) (T:String) (f:List Value),(T = "list"\/T = "tuple")->s.heap.get? a=some ob->ob.cls=.type T->ob.data=.seq f.toArray k->Vals (ns.map V.int) f->wpAny (model X.prog X.w) X.A (call (.builtin "sorted") [.ref a]) (EP X pins σ Q) X.xe s:=λob k T f l t m A g=>by
  have j:f.length=ns.length:=by rw [<- g.length,Aj]
  refine HT.sorted_seq l t m A (F8 g) (by omega) λout ms C x y=>?_;have e:=cQ (x.trans (b7 ns).symm) y (aA ns);subst e;obtain ⟨v,w⟩:=sortedAll_at s.heap f out;have B:=I.hok.fresh (Bm _);refine ⟨.ref (s.heap.objs.size+1),_,I.laid (λb ob q=>sortedAll_old q) (Bm _) ?_,rfl,q _ B⟩;refine ⟨by rw [Aj,(b7 ns).length_eq,AF];omega,out.toList,v,L5 C,?_⟩;rw [Dg];exact w
 rcases hs with hs | hs
 ·obtain ⟨f,g,⟨o,n,e,c,E,d⟩,_⟩:=I.list hs;exact i o n "list" f (.inl rfl) e c d g
 ·obtain ⟨f,g,⟨o,e,c,n,d⟩,_⟩:=I.tuple hs;exact i o n "tuple" f (.inr rfl) e c d g
def F7 (d:D):M D:=bind (p4 d) λds=>match k9 ds with
 | some ns=>if ns.length<64 then ret (.lst ((srt ns).map D.int)) else bad
 | none=>bad
theorem fv:j7 X (.builtin "sorted") (rPs X.K cl xe (one F7)):=D0 λpins s σ H μ S d v us Q I r j f p=>by
 obtain ⟨a,xs,ds,rfl,i,h,g⟩:=E7 j f p.bind;have p:=p.ok_bind g;cases e:k9 ds with
 | none=>rw [e] at p;exact p.elim
 | some ns=>
  rw [e] at p;obtain ⟨hz,p⟩:=Post.guard p;have:=Z7 e h;subst this;refine aS pins s σ H _ us Q I r ⟨a,ns,rfl,i,hz,λz hz=>?_⟩;obtain ⟨l,b,c⟩:=m7 f (RDs.ints (srt ns)) hz;exact p μ _ l b _ c
end
section
variable {X:Cx} {cl:Nat->Addr} {xe:Addr->Hp->Prop} {o e:Expr} {es:List Expr} {f:Env->M D} {fs:Env->M (List D)} {apos cpos:Pos} {name:Str} {T T2 id id2:String} {r r2:V->List V->Hp->VK->Prop} {α:Type}
theorem nt (G:PlainAttrs T) (l:Slot T name id) (y:typeOf (.builtin id)=pure (.type "method_descriptor")) (F:MtR X id r) (A:PlainAttrs T2) (d:Slot T2 name id2) (i:typeOf (.builtin id2)=pure (.type "method_descriptor")) (B:MtR X id2 k) (K:PE X o to) (D:PA X (e :: es) t)
  (L:n8 o=true) (hs:(e :: es).all b8=true) (J:w6 (e :: es)=true) (b:(apos.endLine==cpos.line)=true) :
  PE X (.Call (.Attribute o name apos) (e :: es) [] cpos) (λσ H Q=>to σ H λx f=>(tyV X.K T x f/\t σ f λxs c=>r x xs c Q)\/(tyV X.K T2 x f/\t σ f λxs c=>k x xs c Q)):=by
 intro pins s σ H Q I h;have a:=hs;rw [BD,Ao] at a;refine wpAny_Call_method_late (Z6 L) (cP hs J) b rfl (thn (K pins s σ H _ I h) λv E ⟨x,f,n,m,g⟩=>?_);rcases g with ⟨C,g⟩ | ⟨C,g⟩
 ·obtain ⟨u,p⟩:=bo n m C;refine ⟨T,id,G,l,y,u,p,?_⟩;have j:=D cpos pins E σ f _ n g;rw [e8 a.1] at j ⊢;refine CM (by show (false||(backTo cpos (starEach es X.env)).any (·.1))=false;rw [p0 a.2] <;> rfl) (De ?_);exact thn j λus z ⟨vs,c,w,k,q⟩=>F pins z σ c x vs v us Q w m k q
 ·obtain ⟨u,p⟩:=bo n m C;refine ⟨T2,id2,A,d,i,u,p,?_⟩;have j:=D cpos pins E σ f _ n g;rw [e8 a.1] at j ⊢;refine CM (by show (false||(backTo cpos (starEach es X.env)).any (·.1))=false;rw [p0 a.2] <;> rfl) (De ?_);exact thn j λus z ⟨vs,c,w,k,q⟩=>B pins z σ c x vs v us Q w m k q
def Looks (K:PySem.W.Frag) (cl:Nat->Addr) (xe:Addr->Hp->Prop) (T:String) (g:D->M α):Prop:=∀ (μ:Mp) (S:Sto) (H:Hp) (x:D) (v:V) (G:α->Sto->Mp->Hp->Prop),RD K μ H x v->Rep K cl μ S H->Post K cl xe μ H (g x S) G->tyV K T v H/\∃ a,g x S=.ok a S
def kC (K:PySem.W.Frag) (cl:Nat->Addr) (xe:Addr->Hp->Prop) (r:V->List V->Hp->VK->Prop) (op:D->List D->M D):Prop:=∀ (μ:Mp) (S:Sto) (H:Hp) (x:D) (v:V) (ds:List D) (vs:List V) (Q:VK),RD K μ H x v->RDs K μ H ds vs->Rep K cl μ S H->Post K cl xe μ H (op x ds S) (λd _ μ' H'=>∀ w,RD K μ' H' d w->Q w H')->r v vs H Q
theorem dX (B:PlainAttrs T) (c:Slot T name id) (i:typeOf (.builtin id)=pure (.type "method_descriptor")) (s:MtR X id r) (t:Looks X.K cl xe T g) (hd:kC X.K cl xe r op) (F:PE X o (tD X.K cl xe f)) (v:PA X (e :: es) (tDs X.K cl xe fs))
  (G:n8 o=true) (hs:(e :: es).all b8=true) (C:w6 (e :: es)=true) (E:(apos.endLine==cpos.line)=true) :
  PE X (.Call (.Attribute o name apos) (e :: es) [] cpos) (tD X.K cl xe λρ=>bind (f ρ) λx=>bind (g x) λ_=>bind (fs ρ) λds=>op x ds):=by
 have b:=hs;rw [BD,Ao] at b;refine PE.imp (md B c i s F v (Z6 G) (cP hs C) E (e8 b.1) (p0 b.2)) λσ H Q ⟨μ,S,ρ,l,w,p⟩=>?_;refine ⟨μ,S,ρ,l,w,p.bind.imp λx S1 d J u m h n k=>?_⟩;obtain ⟨I,a,D⟩:=t d S1 J x n _ k m h.bind;have h:=h.ok_bind D;exact ⟨I,d,S1,ρ,l.later u,m,h.bind.imp λds S2 μ2 A q y z vs j=>hd μ2 S2 A x n ds vs Q (k.later q) j y z⟩
theorem fP (hu:X.A.units+80<cLine):MtR X "list.index" (λx vs H Q=>∃ y ps d j,vs=[y]/\DAt X.K H x (.list ps)/\DAt X.K H y d/\(d.canLay0=true/\PyData.canLayAll0 ps=true/\min (PyData.depthAll ps) d.depth<=60)/\(j:Nat)<100000/\ps.findIdx? (λz=>PyData.eqv z d)=some j/\Q (.int (j:Nat)) H):=by
 intro pins s σ H x vs v us Q I rx rv h;obtain ⟨y,ps,d,j,rfl,hx,hy,⟨c1,c2,c3⟩,hjs,hj,q⟩:=h;obtain ⟨u,rfl,ru⟩:=rv.one;obtain ⟨as,r1⟩:=hx.reads I rx;obtain ⟨bs,r2⟩:=hy.reads I ru;cases r1 with
 | list h1 h2 h3 h4=>
  rename_i a ob its n as';obtain ⟨cls,dd,data,sl⟩:=ob
  (try simp only at h2 h3)
  subst h2 h3;have em:=SeqAt.readsAll_map ps _ _ c2 h4;obtain ⟨hl,hit,hno⟩:=Be.mp hj;have hlen:its.toList.length=ps.length:=by rw [<- em,Aj]
  have hl':j<its.size:=by rw [<- Ax,hlen];exact hl
  have at_:∀ m (hm:m<its.size) (hm2:m<ps.length),SeqAt.readOf s.heap its[m]=ps[m]:=λm hm hm2=>by
   have:ps[m]?=(its.toList.map (SeqAt.readOf s.heap))[m]?:=by rw [em]
   rw [Ak hm2,AH,Bn,Bc hm] at this;exact (AG this).symm
  refine Ca F.slot_list_index ⟨_,h1,rfl⟩ F.entry_list_index (F.args_list_index_2 _ _) (SeqAt.list_indexAt _ its n dd sl u (λz=>PyData.eqv (SeqAt.readOf s.heap z) d) j hl' (by omega) (by rw [at_ j hl' hl];exact hit) λm hm hmj=>?_) ⟨h1,λz hz=>?_,?_⟩
  ·grind
  ·exact SeqAt.items_eqAt h4 r2 c2 c1 (by omega) z hz
  ·exact ⟨.int (j:Nat),H,I.tok _,⟨_,rfl⟩,q⟩
def ixT (x d:D):M D:=λS=>match c9 64 S d,c9 64 S x with
 | some q,some (.tuple ps)=>(if q.canLay0=true/\PyData.canLayAll0 ps=true/\min (PyData.depthAll ps) q.depth<=60 then (match ps.findIdx? (λz=>PyData.eqv z q) with
  | some j=>ret (.int (j:Nat))
  | none=>bad) else bad) S
 | _,_=>.bad
def eS (x d:D):M D:=λS=>match c9 64 S d,c9 64 S x with
 | some q,some (.list ps)=>(if q.canLay0=true/\PyData.canLayAll0 ps=true/\min (PyData.depthAll ps) q.depth<=60 then (match ps.findIdx? (λz=>PyData.eqv z q) with
  | some j=>if j<100000 then ret (.int (j:Nat)) else bad
  | none=>bad) else bad) S
 | _,_=>.bad
def R5 (x:D) (ds:List D):M D:=match ds with
 | [d]=>(match x with
  | .tup xs=>ixT (.tup xs) d
  | x=>eS x d)
 | _=>bad
def sqK (x:D):M Bool:=match x with
 | .tup _=>ret true
 | x=>bind (lstOf x) λ_=>ret false
theorem fk (hu:X.A.units+80<cLine) (ho:PE X o (tD X.K cl xe f)) (ha:PA X (e :: es) (tDs X.K cl xe fs)) (hb:n8 o=true) (hs:(e :: es).all b8=true) (hf:w6 (e :: es)=true) (hl:(apos.endLine==cpos.line)=true) :
  PE X (.Call (.Attribute o "index" apos) (e :: es) [] cpos) (tD X.K cl xe λρ=>bind (f ρ) λx=>bind (sqK x) λ_=>bind (fs ρ) λds=>R5 x ds):=by
 refine PE.imp (nt PySem.F.plainAttrs_tuple PySem.F.slot_tuple_index PySem.F.type_tuple_index (fb hu) BX PySem.F.slot_list_index PySem.F.type_list_index (fP hu) ho ha hb hs hf hl) λσ H Q ⟨μ,S,ρ,eo,rp,p⟩=>?_;refine ⟨μ,S,ρ,eo,rp,p.bind.imp λx S1 μ1 H1 l1 r1 p1 xv rx=>?_⟩;have finT:∀ (S2:Sto) (μ2:Mp) (H2:Hp) (d:D) (v:V),RD X.K μ2 H2 x xv->RD X.K μ2 H2 d v->Rep X.K cl μ2 S2 H2->Post X.K cl xe μ2 H2 (ixT x d S2) (λd _ μ' H'=>∀ w,RD X.K μ' H' d w->Q w H') ->
   ∃ y ps d j,[v]=[y]/\DAt X.K H2 xv (.tuple ps)/\DAt X.K H2 y d/\(d.canLay0=true/\PyData.canLayAll0 ps=true/\min (PyData.depthAll ps) d.depth<=60)/\ps.findIdx? (λz=>PyData.eqv z d)=some j/\Q (.int (j:Nat)) H2:=by
  intro S2 μ2 H2 d v rx2 rv r2 p2;simp only [ixT] at p2;cases e2:c9 64 S2 d with
  | none=>rw [e2] at p2;exact p2.elim
  | some b=>
   cases e1:c9 64 S2 x with
   | none=>rw [e2,e1] at p2;exact p2.elim
   | some a=>
    rw [e2,e1] at p2;have ha:=j9 r2 64 e1 rx2;have hb:=j9 r2 64 e2 rv;cases a with
    | tuple ps=>
     dsimp only at p2;by_cases c:b.canLay0=true/\PyData.canLayAll0 ps=true/\min (PyData.depthAll ps) b.depth<=60
     ·rw [if_pos c] at p2;cases e3:ps.findIdx? (λz=>PyData.eqv z b) with
      | none=>rw [e3] at p2;exact p2.elim
      | some j=>
       rw [e3] at p2;exact ⟨v,ps,b,j,rfl,ha,hb,c,e3,p2 μ2 H2 (Lat.refl _ _) r2 _ (.int _)⟩
     ·rw [if_neg c] at p2;exact p2.elim
    | _=>exact p2.elim
 have finL:∀ (S2:Sto) (μ2:Mp) (H2:Hp) (d:D) (v:V),RD X.K μ2 H2 x xv->RD X.K μ2 H2 d v->Rep X.K cl μ2 S2 H2->Post X.K cl xe μ2 H2 (eS x d S2) (λd _ μ' H'=>∀ w,RD X.K μ' H' d w->Q w H') ->
   ∃ y ps d j,[v]=[y]/\DAt X.K H2 xv (.list ps)/\DAt X.K H2 y d/\(d.canLay0=true/\PyData.canLayAll0 ps=true/\min (PyData.depthAll ps) d.depth<=60)/\(j:Nat)<100000/\ps.findIdx? (λz=>PyData.eqv z d)=some j/\Q (.int (j:Nat)) H2:=by
  intro S2 μ2 H2 d v rx2 rv r2 p2;simp only [eS] at p2;cases e2:c9 64 S2 d with
  | none=>rw [e2] at p2;exact p2.elim
  | some b=>
   cases e1:c9 64 S2 x with
   | none=>rw [e2,e1] at p2;exact p2.elim
   | some a=>
    rw [e2,e1] at p2;have ha:=j9 r2 64 e1 rx2;have hb:=j9 r2 64 e2 rv;cases a with
    | list ps=>
     dsimp only at p2;by_cases c:b.canLay0=true/\PyData.canLayAll0 ps=true/\min (PyData.depthAll ps) b.depth<=60
     ·rw [if_pos c] at p2;cases e3:ps.findIdx? (λz=>PyData.eqv z b) with
      | none=>rw [e3] at p2;exact p2.elim
      | some j=>
       rw [e3] at p2;obtain ⟨hj,p2⟩:=Post.guard p2;exact ⟨v,ps,b,j,rfl,ha,hb,c,hj,e3,p2 μ2 H2 (Lat.refl _ _) r2 _ (.int _)⟩
     ·rw [if_neg c] at p2;exact p2.elim
    | _=>exact p2.elim
 have L:Post X.K cl xe μ1 H1 (bind (bind (lstOf x) λ_=>ret false) (λ_=>bind (fs ρ) λds=>R5 x ds) S1) (λd _ μ' H'=>∀ v,RD X.K μ' H' d v->Q v H')->(∀ d,R5 x [d]=eS x d)->(tyV X.K "list" xv H1/\tDs X.K cl xe fs σ H1 λxs H2=>∃ y ps d j,xs=[y]/\DAt X.K H2 xv (.list ps)/\DAt X.K H2 y d/\(d.canLay0=true/\PyData.canLayAll0 ps=true/\min (PyData.depthAll ps) d.depth<=60)/\(j:Nat)<100000/\ps.findIdx? (λz=>PyData.eqv z d)=some j/\Q (.int (j:Nat)) H2):=λp1 hx=>by
  obtain ⟨a0,xs0,ds0,e0,h0,r0,q0⟩:=k8 rx r1 p1.bind.bind;have p1:=p1.ok_bind (show (bind (lstOf x) λ_=>ret false) S1=.ok false S1 by rw [bind];rw [q0];rfl);subst e0;refine ⟨.inl ⟨rfl,_,.inl (.inl h0)⟩,μ1,S1,ρ,eo.later l1,r1,p1.bind.imp λds S2 μ2 H2 l2 r2 p2 vs rvs=>?_⟩
  match ds,rvs with
  | [],_=>exact False.elim p2
  | _ :: _ :: _,_=>exact False.elim p2
  | [d],rvs=>
   obtain ⟨v,rfl,rv⟩:=mP rvs;rw [hx] at p2;exact finL S2 μ2 H2 d v (rx.later l2) rv r2 p2
 cases rx with
 | tup h0 r0=>
  rename_i a0 xs0 ds0;have p1:=p1.ok_bind (rfl);refine .inl ⟨?_,μ1,S1,ρ,eo.later l1,r1,p1.bind.imp λds S2 μ2 H2 l2 r2 p2 vs rvs=>?_⟩
  ·rcases h0 with ⟨q,_,_⟩ | ⟨o,its,n,c1,c2,c3,c4,c5,c6⟩
   ·exact .inr (.inr (.inr (.inr ⟨rfl,_,q⟩)))
   ·exact .inr (.inl ⟨rfl,o,c1,c2,c6⟩)
  ·match ds,rvs with
   | [],_=>exact False.elim p2
   | _ :: _ :: _,_=>exact False.elim p2
   | [d],rvs=>
    obtain ⟨v,rfl,rv⟩:=mP rvs;exact finT S2 μ2 H2 d v ((RD.tup h0 r0).later l2) rv r2 p2
 | _=>exact .inr (L p1 λd=>rfl)
theorem RDs.erase {K:PySem.W.Frag} {μ:Mp} {H:Hp}:∀ {ds:List D} {vs:List V} (n:Nat),RDs K μ H ds vs->RDs K μ H (ds.eraseIdx n) (vs.eraseIdx n)
 | _,_,_,.nil=>.nil
 | _,_,0,.cons h r=>r
 | _,_,n+1,.cons h r=>.cons h (RDs.erase n r)
def popD (x:D) (ds:List D):M D:=match x,ds with
 | .ref n,[.int i]=>λS=>match S[n]? with
  | some (.lst es)=>if -(2 ^ 63)<=i/\i<2 ^ 63 then (match ixN es.length i with
   | some j=>(match es[j]? with
    | some y=>.ok y (S.set n (.lst (es.eraseIdx j)))
    | none=>.bad)
   | none=>.bad) else .bad
  | _=>.bad
 | _,_=>bad
theorem O5:Looks X.K cl xe "list" lstOf:=λμ S H x v G b c p=>by
 obtain ⟨a,xs,ds,rfl,d,f,e⟩:=k8 b c p;exact ⟨.inl ⟨rfl,_,.inl (.inl d)⟩,ds,e⟩
theorem jb:kC X.K cl xe rPopAt popD:=λμ S H x v ds vs Q rx rvs rp p=>by
 unfold popD at p;split at p
 ·rename_i n i;cases rvs with
  | cons h t=>
   cases t;cases h;cases rx with
   | ref e=>
    rename_i a;cases q1:S[n]? with
    | none=>rw [q1] at p;exact p.elim
    | some o=>
     rw [q1] at p;cases o with
     | lst es=>
      obtain ⟨xs,h1,h2⟩:=rp.ats n _ a q1 e;dsimp only at p;by_cases hb:-(2 ^ 63)<=i/\i<2 ^ 63
      ·rw [if_pos hb] at p;cases q2:ixN es.length i with
       | none=>rw [q2] at p;exact p.elim
       | some j=>
        rw [q2] at p;dsimp only at p;cases q3:es[j]? with
        | none=>rw [q3] at p;exact p.elim
        | some y=>
         rw [q3] at p;obtain ⟨y',e4,r4⟩:=h2.get q3;have ml:=AT e;refine ⟨a,xs,i,j,y',rfl,rfl,h1,hb.1,hb.2,by rw [<- h2.length];exact (aB q2).1,e4,?_⟩;have la:Lat μ H μ (upd H a (.lst (xs.eraseIdx j))):=Lat.wrote ml;exact p μ _ la (rp.wrote e ⟨_,b6,(h2.erase j).later la⟩) _ (r4.later la)
      ·rw [if_neg hb] at p;exact p.elim
     | dct _=>exact p.elim
     | exc _ _=>exact p.elim
 ·exact p.elim
end
section
variable {X:Cx} {cl:Nat->Addr} {xe:Addr->Hp->Prop} {o e:Expr} {es:List Expr} {f:Env->M D} {p p2 pos pos2:Pos} {te:TE}
def rgL (n:Nat):List Int:=(List.range n).map λ(k:Nat)=>(k:Int)
theorem kP {n:Nat} (a:acc.length=n) (h:∀ (i:Nat) (v:Value),acc[i]?=some v->∃ t,v=Value.int (i:Int) t):Vals ((rgL n).map V.int) acc:=by
 have d:∀ (k:Nat) (l:List Value) (b:Nat),l.length=k->(∀ (i:Nat) (v:Value),l[i]?=some v->∃ t,v=Value.int ((b+i:Nat):Int) t)->Vals ((List.range' b k).map λ(j:Nat)=>V.int (j:Int)) l:=by
  intro k;induction k with
  | zero=>intro l b a _;cases l with
   | nil=>exact .nil
   | cons _ _=>simp at a
  | succ k f=>
   intro l b a c;cases l with
   | nil=>simp at a
   | cons v l=>
    rw [List.range'_succ,AQ];refine .cons ?_ (f l (b+1) (by simpa using a) λi w g=>?_)
    ·obtain ⟨t,e⟩:=c 0 v rfl;exact ⟨t,by rw [e];simp⟩
    ·obtain ⟨t,e⟩:=c (i+1) w (by simpa using g);exact ⟨t,by rw [e];congr 2;omega⟩
 have:=d n acc 0 a λi v c=>by
  obtain ⟨t,e⟩:=h i v c;exact ⟨t,by rw [e];simp⟩
 unfold rgL;rw [DT,List.range_eq_range'];exact this
def lD (te:TE):TE:=λσ H Q=>te σ H λx a=>∃ n:Nat,x=.int (n:Int)/\n<100000/\∀ q,a q=none->Q (.ref q) (upd a q (.lst ((rgL n).map V.int)))
theorem ee (A:X.calm=true) (C:Gl X "list") (w:X.mg "list" = none) (o:Gl X "range") (l:X.mg "range" = none) (y:PE X e te) (j:b8 e=true):PE X (.Call (.Name "list" p) [.Call (.Name "range" p2) [e] [] pos2] [] pos) (lD te):=by
 intro pins s σ H Q I h;have k:=I.ok.hd A;refine Bi (B3 I C w (by rfl) ?_ (by decide) (by decide));refine Bp ?_ rfl rfl;refine BF ?_;refine Bi (B3 I o l boot_range ?_ (by decide) (by decide));refine Bp ?_ (e8 j) rfl;rw [e8 j];refine BF (thn (y pins s σ H _ I h) λu d ⟨x,G,z,B,n,m,hz,q⟩=>?_);subst m;obtain ⟨t,rfl⟩:=B;refine BL (call_range_1 (BL ?_));have rs:Builtin.Range.rangeSize 0 (n:Int) 1=(n:Int):=by rw [rangeSize_one];split <;> omega
 refine call_list_range k (IsRange.new ..) (small_one (by omega) (by omega) (by omega) (by omega)) rs (by omega) λh' F f c r E a=>?_;have g:=z.kept (t':=d.toks+1+1) (h':=d.heap.push { cls:=.type "range",data:=.fields #[.int 0 d.toks,.int (n:Int) t,.int 1 (d.toks+1)] }) λb ob q=>Ah _ q;refine ⟨.ref _,_,Inv.laid g r (Ap _) ?_,rfl,q _ (g.hok.fresh (Ap _))⟩;refine ⟨by rw [Aj];show (rgL n).length<=_;unfold rgL;rw [Aj,AN,AF];omega,f.toList,c,kP (by rw [Ax];exact a.1) (λi v D=>?_),?_⟩
 ·obtain ⟨t',e⟩:=a.2 i v (by rw [<- Bn];exact D);exact ⟨t',by rw [e];simp⟩
 ·simp_all
def J6 (d:D):M D:=match d with
 | .int i=>if 0<=i/\i<100000 then ret (.lst ((rgL i.toNat).map D.int)) else bad
 | _=>bad
theorem eh (hc:X.calm=true) (hl:Gl X "list") (ml:X.mg "list" = none) (hr:Gl X "range") (mr:X.mg "range" = none) (he:PE X e (tD X.K cl xe f)) (hn:b8 e=true):PE X (.Call (.Name "list" p) [.Call (.Name "range" p2) [e] [] pos2] [] pos) (tD X.K cl xe λρ=>bind (f ρ) J6):=
 PE.imp (ee hc hl ml hr mr he hn) λσ H Q ⟨μ,S,ρ,eo,rp,p⟩=>⟨μ,S,ρ,eo,rp,p.bind.imp λd S1 μ1 H1 l1 r1 p1 v rv=>by
  cases rv with
  | int i=>
   obtain ⟨hi,p1⟩:=Post.guard p1;refine ⟨i.toNat,by rw [Int.toNat_of_nonneg hi.1],by omega,λz hz=>?_⟩;obtain ⟨l,rp2,rd2⟩:=m7 r1 (RDs.ints (rgL i.toNat)) hz;exact p1 μ1 _ l rp2 _ rd2
  | _=>exact False.elim p1⟩
theorem cq:MtR X "list.extend" (λx vs H Q=>∃ l b xs j,x=.ref l/\vs=[.ref b]/\H l=some (.lst xs)/\(SqL X.K H b j\/SqT X.K H b j)/\xs.length+j.length<=sizeLine/\Q .non (upd H l (.lst (xs++j)))):=by
 intro pins s σ H x vs v us Q I A C h;obtain ⟨l,b,xs,j,rfl,rfl,y,m,hz,q⟩:=h;cases A;obtain ⟨u,rfl,B⟩:=C.one;cases B;obtain ⟨z,g,n,r,L,e⟩:=I.lstM y;have p:∀ (ob:Obj) (k:Nat) (T:String) (a:List Value),(T = "list"\/T = "tuple")->s.heap.get? b=some ob->ob.cls=.type T->ob.data=.seq a.toArray k->Vals j a->wpAny (model X.prog X.w) X.A (call (.builtin "list.extend") [.ref l,.ref b]) (EP X pins σ Q) X.xe s:=λob k T a J w G E f=>by
  have hsz:g.toArray.size+a.toArray.size<=sizeLine:=by rw [Al,Al,<- f.length];omega
  have i:¬ (!g.toArray.isEmpty&&Builtin.List.listTooLong (g.toArray.size+a.toArray.size))=true:=by
   rw [bZ hsz,Bool.and_false];exact At
  have D:s.TypeIs (.ref l) "list":=⟨_,e,rfl⟩;refine Ba F.slot_list_extend D F.entry_list_extend ?_ (F.args_list_extend_2 _ _);show wpAny _ _ (Builtin.List.listExtendWith (.ref l) (.ref b) .none) _ _ s;refine Ag (Co ⟨ob,w,G⟩ ?_);rw [if_pos (by rcases J with rfl | rfl <;> simp)];refine Ag (BH w E (Ag (BH e rfl ?_)));rw [if_neg i];refine Ag (Dx e rfl (Ai ?_) (by rw [Al];omega) (by rw [Array.size_append];omega));refine ⟨_,rfl,.non,_,I.lset y e (by simp) (r.append f) ?_,rfl,q⟩;rw [Av];omega
 rcases m with m | m
 ·obtain ⟨a,f,⟨o,k,t,c,K,d⟩,_⟩:=I.list m;exact p o k "list" a (.inl rfl) t c d f
 ·obtain ⟨a,f,⟨o,t,c,k,d⟩,_⟩:=I.tuple m;exact p o k "tuple" a (.inr rfl) t c d f
def extD (x:D) (ds:List D):M D:=match x,ds with
 | .ref n,[.tup ys]=>λS=>match S[n]? with
  | some (.lst es)=>if es.length+ys.length<=sizeLine then .ok .non (S.set n (.lst (es++ys))) else .bad
  | _=>.bad
 | .ref n,[.lst ys]=>λS=>match S[n]? with
  | some (.lst es)=>if es.length+ys.length<=sizeLine then .ok .non (S.set n (.lst (es++ys))) else .bad
  | _=>.bad
 | _,_=>bad
theorem jL:kC X.K cl xe (λx vs H Q=>∃ l b xs zs,x=.ref l/\vs=[.ref b]/\H l=some (.lst xs)/\(SqL X.K H b zs\/SqT X.K H b zs)/\xs.length+zs.length<=sizeLine/\Q .non (upd H l (.lst (xs++zs)))) extD:=λμ S H x v ds vs Q rx rvs rp p=>by
 have gen:∀ (n:Nat) (a b:Addr) (ys:List D) (zs:List V),μ.pl[n]?=some a->(SqL X.K H b zs\/SqT X.K H b zs)->RDs X.K μ H ys zs->Post X.K cl xe μ H (match S[n]? with
   | some (.lst es)=>if es.length+ys.length<=sizeLine then R.ok D.non (S.set n (.lst (es++ys))) else .bad
   | _=>.bad) (λd _ μ' H'=>∀ w,RD X.K μ' H' d w->Q w H')->∃ l b' xs zs',V.ref a=.ref l/\[V.ref b]=[.ref b']/\H l=some (.lst xs)/\(SqL X.K H b' zs'\/SqT X.K H b' zs')/\xs.length+zs'.length<=sizeLine/\Q .non (upd H l (.lst (xs++zs'))):=λn a b ys zs e hs hr p=>by
  cases q1:S[n]? with
  | none=>rw [q1] at p;exact p.elim
  | some o=>
   rw [q1] at p;cases o with
   | lst es=>
    obtain ⟨xs,h1,h2⟩:=rp.ats n _ a q1 e;dsimp only at p;by_cases hz:es.length+ys.length<=sizeLine
    ·rw [if_pos hz] at p;have ml:=AT e;refine ⟨a,b,xs,zs,rfl,rfl,h1,hs,by rw [<- h2.length,<- hr.length];exact hz,?_⟩;have la:Lat μ H μ (upd H a (.lst (xs++zs))):=Lat.wrote ml;exact p μ _ la (rp.wrote e ⟨_,b6,(h2.append hr).later la⟩) _ .non
    ·rw [if_neg hz] at p;exact p.elim
   | dct _=>exact p.elim
   | exc _ _=>exact p.elim
 unfold extD at p;split at p
 ·rename_i n ys;cases rvs with
  | cons h t=>
   cases t;cases rx with
   | ref e=>
    cases h with
    | tup h1 h2=>
     rename_i a b zs;exact gen n a b ys zs e (.inr h1.sq) h2 p
 ·rename_i n ys;cases rvs with
  | cons h t=>
   cases t;cases rx with
   | ref e=>
    cases h with
    | lst h1 h2=>
     rename_i a b zs;exact gen n a b ys zs e (.inl h1.sq) h2 p
 ·exact p.elim
def listP (d:D):M D:=bind (p4 d) λds=>λS=>.ok (.ref S.length) (S++[.lst ds])
theorem ma:j7 X (.type "list") (rPs X.K cl xe (one listP)):=D0 λpins s σ H μ S d v us Q I r i e p=>by
 obtain ⟨a,xs,ds,rfl,g,h,f⟩:=E7 i e p.bind;refine J2 pins s σ H _ us Q I r ⟨a,xs,rfl,g,λz hz=>?_⟩;obtain ⟨l,c,b⟩:=X2 e h hz;exact (p.ok_bind f) _ _ l c _ b
end
end L3
namespace HT
open PySem PySem.Spec PyProof.Rows
def k4 (a:Bool):Obj:={ cls:=.type "set",dict:=none,data:=.set #[] 0 (.fresh 0 0 a) }
def Rise (xs:Array Nat):Prop:=xs.toList.Pairwise (· < ·)
theorem Rise.lt (h:Rise xs) {i j:Nat} (a:i<j) (b:j<xs.size):xs[i]<xs[j]:=by
 have:=List.pairwise_iff_getElem.mp h i j (by simp;omega) (by simpa using b) a;grind
theorem Q0 (h:Rise xs):∀ (g lo k:Nat),k-lo<=g->lo<=k->k<=xs.size->(∀ i (z:i<xs.size),i<lo->xs[i]<j)->(∀ i (z:i<xs.size),k<=i->j<=xs[i]) ->
  SetTable.below.go xs j g lo k<=xs.size/\(∀ i (z:i<xs.size),i<SetTable.below.go xs j g lo k->xs[i]<j)/\∀ i (z:i<xs.size),SetTable.below.go xs j g lo k<=i->j<=xs[i]
 | 0,lo,k,f,o,l,a,b=>by
  have e:lo=k:=by omega
  subst e;exact ⟨l,a,b⟩
 | g+1,lo,k,f,o,l,a,b=>by
  unfold SetTable.below.go;by_cases c:lo<k
  ·rw [if_pos c];have m:(lo+k) / 2<xs.size:=by omega
   have n:xs.getD ((lo+k) / 2) j=xs[(lo+k) / 2]:=by simp [Array.getD,m]
   dsimp only;rw [n];by_cases d:xs[(lo+k) / 2]<j
   ·rw [if_pos d];refine Q0 h g _ _ (by omega) (by omega) l (λi z w=>?_) b;rcases Nat.lt_or_ge i ((lo+k) / 2) with u | u
    ·exact Nat.lt_trans (h.lt u m) d
    ·grind
   ·rw [if_neg d];refine Q0 h g _ _ (by omega) (by omega) (by omega) a λi z w=>?_;rcases Nat.lt_or_ge ((lo+k) / 2) i with u | u
    ·have:=h.lt u z;omega
    ·grind
  ·grind
theorem R8 (h:Rise xs) (j:Nat):SetTable.below xs j<=xs.size/\(∀ i (z:i<xs.size),i<SetTable.below xs j->xs[i]<j)/\∀ i (z:i<xs.size),SetTable.below xs j<=i->j<=xs[i]:=
 Q0 h xs.size 0 xs.size (by omega) (Bh _) (Ap _) (λi _ w=>absurd w (Nat.not_lt_zero _)) λi z w=>by omega
theorem cD (h:Rise xs) {i:Nat} (hi:i<xs.size):SetTable.below xs (xs[i]+1)=i+1:=by
 obtain ⟨a,b,c⟩:=R8 h (xs[i]+1);generalize SetTable.below xs (xs[i]+1)=k at a b c;rcases Nat.lt_trichotomy k (i+1) with u | u | u
 ·grind
 ·exact u
 ·have z:i+1<xs.size:=by omega
  have:=b (i+1) z u;have:xs[i]<xs[i+1]:=h.lt (AI i) z;omega
theorem cO (h:Rise xs):SetTable.below xs 0=0:=by
 obtain ⟨a,b,c⟩:=R8 h 0;rcases Nat.eq_zero_or_pos (SetTable.below xs 0) with u | u
 ·exact u
 ·have:=b 0 (by omega) u;omega
theorem bL (h:Rise xs) {j:Nat} (n:xs[SetTable.below xs j]?≠some j):Rise (SetTable.insertAt xs (SetTable.below xs j) j):=by
 obtain ⟨a,b,c⟩:=R8 h j;unfold Rise;rw [SetTable.toList_insertAt,List.pairwise_append,Bw];refine ⟨List.Pairwise.sublist (DD _ _) h,⟨λy d=>?_,List.Pairwise.sublist (List.drop_sublist _ _) h⟩,λx g y d=>?_⟩
 ·obtain ⟨k,e,rfl⟩:=Cn.mp d;rw [CY,Ax] at e;have hz:SetTable.below xs j+k<xs.size:=by omega
  rw [List.getElem_drop,Dh];have l:=c _ hz (Nat.le_add_right _ _);rcases Nat.eq_zero_or_pos k with rfl | kp
  ·grind
  ·have i:SetTable.below xs j<xs.size:=by omega
   have:=c _ i (Ap _);have:=h.lt (show SetTable.below xs j<SetTable.below xs j+k by omega) hz;omega
 ·have f:x<j:=by
   obtain ⟨k,e,rfl⟩:=Cn.mp g;rw [Bf,Ax] at e;rw [List.getElem_take,Dh];exact b _ (by omega) (by omega)
  rcases AA.mp d with rfl | d
  ·exact f
  ·obtain ⟨k,e,rfl⟩:=Cn.mp d;rw [CY,Ax] at e;rw [List.getElem_drop,Dh];have:=c _ (show SetTable.below xs j+k<xs.size by omega) (Nat.le_add_right _ _);omega
structure TbHt (t:SetTable):Prop where
 nd:t.dummies=#[]
 up:t.plain=true->Rise t.place
theorem aa (j:Nat):SetTable.has #[] j=false:=by simp [SetTable.has]
theorem av (h:t.dummies=#[]) (f:Nat->Int) (x:Int):∀ (n:Nat) (p:SetTable.Probe) (j:Nat) (d:Option Nat),p.dummy=none->SetTable.probe.go t f x n p=some (.empty j d)->d=none/\t.slot j=.empty
 | 0,p,j,d,_,e=>by unfold SetTable.probe.go at e;cases e
 | n+1,p,j,d,pd,e=>by
  unfold SetTable.probe.go at e;have ad:∀ q:SetTable.Probe,(t.advance q).dummy=q.dummy:=λq=>by
   unfold SetTable.advance;split <;> rfl
  cases hs:t.slot p.j with
  | empty=>
   rw [hs] at e;obtain ⟨rfl,rfl⟩:=e;exact ⟨pd,hs⟩
  | dummy=>
   unfold SetTable.slot at hs;rw [h] at hs;dsimp only at hs;split at hs
   ·cases hs
   ·rw [aa] at hs;simp at hs
  | live i=>
   rw [hs] at e;dsimp only at e;split at e
   ·cases e
   ·exact av h f x n _ j d ((ad p).trans pd) e
theorem lA {t:SetTable} (h:t.dummies=#[]) {x:Int} {j:Nat} {b:Bool} (e:t.freeSlot x=some (j,b)):t.slot j=.empty:=by
 unfold SetTable.freeSlot SetTable.probe at e;split at e
 ·rename_i c d a;obtain ⟨rfl,q⟩:=av h _ _ _ _ _ _ rfl a;simp at e;rw [<- e.1];exact q
 ·cases e
theorem mW {t:SetTable} {j:Nat} (h:t.slot j=.empty):t.place[SetTable.below t.place j]?≠some j:=λe=>by
 unfold SetTable.slot at h;dsimp only at h;rw [e] at h;simp at h
theorem TbHt.stand (t:SetTable) (n:Nat):TbHt (t.standIn n):=⟨rfl,λh=>by cases h⟩
theorem TbHt.put (h:TbHt t) {j:Nat} (e:t.slot j=.empty):TbHt (t.put j).1:=by
 refine ⟨?_,λp=>?_⟩
 ·unfold SetTable.put;rw [h.nd,aa];rfl
 ·exact bL (h.up p) (mW e)
theorem TbHt.lay (h:TbHt t) (es:Array (Int×Value)) (x:Int) (v:Value):TbHt (layNew t es x v).2.1/\(layNew t es x v).2.1.led=t.led:=by
 unfold layNew;split
 ·rename_i a wd e;have b:=h.put (lA h.nd e);dsimp only;unfold SetTable.orStandIn;split
  ·exact ⟨b,rfl⟩
  ·exact ⟨.stand _ _,rfl⟩
 ·exact ⟨.stand _ _,rfl⟩
theorem cK (n:Nat) (f:Nat->Option (Nat×Nat)) (d:∀ j p,f j=some p->p.1=j):(((List.range n).filterMap f).map (·.1)).Pairwise (· < ·):=by
 rw [CP];refine List.Pairwise.filterMap f (λa b c x e y g=>?_) List.pairwise_lt_range;grind
theorem TbHt.relay (h:TbHt t) (es:Array (Int×Value)) (m:Nat):TbHt (relayAll t es m).2.1/\(relayAll t es m).2.1.led=t.led:=by
 unfold relayAll;split
 ·rename_i t' a e;dsimp only;unfold SetTable.relaid SetTable.laid at e;simp only [Option.bind_eq_bind,Option.bind_eq_some_iff,Option.pure_def,Option.some.injEq,Prod.mk.injEq] at e;obtain ⟨b,_,rfl,_⟩:=e;split
  ·refine ⟨⟨rfl,λ_=>?_⟩,rfl⟩;refine cK _ _ λj p q=>?_;rw [CN] at q;obtain ⟨_,_,rfl⟩:=q;rfl
  ·exact ⟨.stand _ _,rfl⟩
 ·exact ⟨.stand _ _,rfl⟩
theorem TbHt.unplain (h:TbHt t):TbHt { t with plain:=false }:=⟨h.nd,λz=>by cases z⟩
theorem TbHt.fresh (f m:Nat) (l:Bool):TbHt (SetTable.fresh f m l):=⟨rfl,λ_=>by unfold Rise SetTable.fresh;exact .nil⟩
section
variable {prog:Program} {w:World} {K:Type} [DecidableEq K] {knd:KeyKind prog w K} {A:Around} {E:Value->Shared->Prop} {s:Shared}
def f8 (w:World):Bool:=w.params.followText "set-order"
def en (knd:KeyKind prog w K) (o:Obj) (S:K->Bool) (n:Nat) (es:Array (Int×Value)) (a:Nat) (t:SetTable):Prop:=
 o.ExactSet/\o.data=.set es a t/\ElemsOf knd es.toList/\(∀ k,S k=true↔∃ e∈es.toList,knd.is k e.2=true)/\es.size<scanBound/\t.fits es.size=true/\es.size=n/\TbHt t/\t.led=!f8 w
def SetL (knd:KeyKind prog w K) (h:Heap) (a:Addr) (S:K->Bool) (n:Nat):Prop:=∃ o es b t,h.get? a=some o/\en knd o S n es b t
theorem SetL.cg {n b:Nat} (x:SetL knd h a S n) (e:∀ k,S k=S' k) (f:n=b):SetL knd h a S' b:=by
 have:=funext e;grind
theorem SetL.mv {a:Addr} {S:K->Bool} {n:Nat} (x:SetL knd h a S n) (e:∀ o,h.get? a=some o->h'.get? a=some o):SetL knd h' a S n:=
 let ⟨o,es,b,t,c,r⟩:=x;⟨o,es,b,t,e o c,r⟩
theorem bY {h:Heap} {a:Addr} {o:Obj} {es:Array (Int×Value)} {c:Nat} {t:SetTable} (d:h.get? a=some o) (b:o.ExactSet) (hd:o.data=.set es c t) {es':Array (Int×Value)} {t':SetTable} {S':K->Bool}
  (r:ElemsOf knd es'.toList/\(∀ k,S' k=true↔∃ e∈es'.toList,knd.is k e.2=true)/\es'.size<scanBound/\t'.fits es'.size=true/\TbHt t'/\t'.led=!f8 w) :
  ∃ o',(h.update a (Obj.putSet es' t')).get? a=some o'/\en knd o' S' es'.size es' (c+1) t':=by
 obtain ⟨g,_⟩:=SetOf_store d b hd r.1 r.2.1 r.2.2.1 r.2.2.2.1;exact ⟨_,g,b,rfl,r.1,r.2.1,r.2.2.1,r.2.2.2.1,rfl,r.2.2.2.2⟩
theorem V4 (C:s.heap.get? a=some o) (n:o.ExactSet) (hd:o.data=.set es ep t) {g:Bool->Sem Unit}
  (F:∀ (b:Bool) (u:Shared) (R:Unit->Shared->Prop),R () u->wpAny (model prog w) A (g b) R E u) {c:Array (Int×Value)} {d:SetTable} {S':K->Bool}
  (r:ElemsOf knd c.toList/\(∀ k,S' k=true↔∃ e∈c.toList,knd.is k e.2=true)/\c.size<scanBound/\d.fits c.size=true/\TbHt d/\d.led=!f8 w) {wd:Bool} {R:Option Bool->Shared->Prop}
  (q:∀ h',Heap.SameBut a s.heap h'->SetL knd h' a S' c.size->R (some true) { s with heap:=h' }) :
  wpAny (model prog w) A (storeSet a c d >>= λ_=>if (!wd&&d.tooFull)=true then (g (relayAll d c (SetTable.grown c.size)).2.2 >>= λ_=>storeSet a (relayAll d c (SetTable.grown c.size)).1 (relayAll d c (SetTable.grown c.size)).2.1 >>= λ_=>pure (some true)) else pure (some true)) R E s:=by
 refine Ag (wpAny_storeSet_of C hd ?_ (fits_of_scanBound r.2.2.1));obtain ⟨D,h,i⟩:=bY C n hd r;have y:=Bk s.heap a (Obj.putSet c d);split
 ·have p:=relayAll_perm d c (SetTable.grown c.size);have f:=relayAll_fits d c (SetTable.grown c.size);have j:=r.2.2.2.2.1.relay c (SetTable.grown c.size);generalize relayAll d c (SetTable.grown c.size)=Z at p f j ⊢;obtain ⟨v,I,J⟩:=Z;have B:v.size=c.size:=by
   have:=p.length_eq;rwa [Ax,Ax] at this
  have x:=B▸r.2.2.1;refine Ag (F _ _ _ (Ag (wpAny_storeSet_of h i.2.1 ?_ (fits_of_scanBound x))));obtain ⟨G,l,H⟩:=bY h i.1 i.2.1 ⟨r.1.perm p,λk=>(r.2.1 k).trans ⟨λ⟨e,m,z⟩=>⟨e,p.mem_iff.mpr m,z⟩,λ⟨e,m,z⟩=>⟨e,p.mem_iff.mp m,z⟩⟩,x,f,j.1,j.2.trans r.2.2.2.2.2⟩;exact Ai (q _ (y.trans (Bk _ a _)) (SetL.cg ⟨G,_,_,_,l,H⟩ (λ_=>rfl) B))
 ·exact Ai (q _ y ⟨D,_,_,_,h,i⟩)
theorem oH {k:K} {x:Value} {Q:Bool->Shared->Prop} (G:knd.is k x=true) (D:x.scannable=true) (X:SetL knd s.heap a S n) (I:n+1<scanBound)
  (q:∀ h',Heap.SameBut a s.heap h'->SetL knd h' a (λm=>S m||decide (m=k)) (if S k then n else n+1)->Q (!S k) { s with heap:=h' }):wpAny (model prog w) A (setAddHashed a x (knd.hash k)) Q E s:=by
 obtain ⟨o,es,W,t,i,h,hd,c,r,H,F,O,J,T⟩:=X;refine AS (Ag (BO i hd F ?_));dsimp only;rw [byScan_of D H c,if_pos rfl];refine Ag (Ag (Cc (Ag (wpAny_setScan_of G i hd F c ?_))));cases M:List.findIdx? (λe=>knd.is k e.2) es.toList with
 | some j=>
  obtain ⟨hj,B,_⟩:=Be.mp M;have g:=(r k).mpr ⟨es.toList[j],AU hj,B⟩;refine Ai (Ai ?_);have z:=q s.heap (Heap.SameBut.refl a s.heap) (SetL.cg ⟨o,es,W,t,i,h,hd,c,r,H,F,O,J,T⟩ (λm=>by
   by_cases e:m=k
   ·subst e;rw [g];rfl
   ·simp [e]) (by rw [if_pos g]))
  rw [g] at z;exact z
 | none=>
  have Z:S k=false:=by
   cases V:S k with
   | false=>rfl
   | true=>
    obtain ⟨e,Y,B⟩:=(r k).mp V;have:=DC.mp M e Y;rw [B] at this;cases this
  have gw:∀ (b:Bool) (u:Shared) (R:Unit->Shared->Prop),R () u->wpAny (model prog w) A (match b with | true=>rule "set.scan.the-table-gave-way" | false=>pure ()) R E u:=λb u R z=>by
   cases b
   ·exact Ai z
   ·exact Cc z
  have p:=layNew_perm t es (knd.hash k) x;have f:=layNew_fits t es (knd.hash k) x;have l:=J.lay es (knd.hash k) x;generalize layNew t es (knd.hash k) x=L at p f l ⊢;obtain ⟨C,t1,wd,U⟩:=L;dsimp only at p f l ⊢;rw [DE] at p;have v:C.size=n+1:=by
   have:=p.length_eq;rw [Av,Ax,Ax,O] at this;exact this
  have d:=λh' z y=>by
   have:=q h' z;rw [Z] at this;exact this (SetL.cg y (λ_=>rfl) v)
  have N:=(c.push G D).perm p;have P:=mem_push_iff G r p;refine Ag (gw _ _ _ ?_);split
  ·rw [hashByValue_scannable 8 D];refine Ag (Ai ?_);refine V4 i h hd (λb u R z=>by cases b <;> first | exact Ai z | exact Cc z) ⟨N,P,by rw [v];exact I,?_,?_,?_⟩ λh' z y=>Ai (d h' z y)
   ·split
    ·exact f
    ·exact SetTable.fits_plain_off f
   ·split
    ·exact l.1
    ·exact l.1.unplain
   ·grind
  ·refine Ag (Ai ?_);rw [if_pos rfl];exact V4 i h hd (λb u R z=>by cases b <;> first | exact Ai z | exact Cc z) ⟨N,P,by rw [v];exact I,f,l.1,l.2.trans T⟩ λh' z y=>Ai (d h' z y)
end
section
variable {K:Type} [DecidableEq K]
def metKHt (f:Nat->K):Nat->List K
 | 0=>[]
 | i+1=>if f i∈metKHt f i then metKHt f i else metKHt f i++[f i]
theorem bw (f:Nat->K) (i:Nat):metKHt f (i+1)=if f i∈metKHt f i then metKHt f i else metKHt f i++[f i]:=rfl
theorem dS (f:Nat->K):∀ i,(metKHt f i).length<=i
 | 0=>Ap _
 | i+1=>by
  have:=dS f i;unfold metKHt;split
  ·omega
  ·grind
theorem metK_nd (f:Nat->K):∀ i,(metKHt f i).Nodup
 | 0=>.nil
 | i+1=>by
  have:=metK_nd f i;unfold metKHt;split
  ·exact this
  ·grind
theorem metK_mem (f:Nat->K) (k:K):∀ i,k∈metKHt f i↔∃ j,j<i/\f j=k
 | 0=>by simp [metKHt]
 | i+1=>by
  have a:=metK_mem f k i;have e:k∈metKHt f (i+1)↔(k∈metKHt f i\/k=f i):=by
   rw [bw];split
   ·grind
   ·grind
  rw [e,a];constructor
  ·grind
  ·grind
end
section
variable {prog:Program} {w:World} {K:Type} [DecidableEq K] {knd:KeyKind prog w K} {A:Around} {R:Result->Shared->Prop} {I:Addr} {fp wr:List Addr} {G:Array GenState->Array GenState->Prop} {n:Nat} {P:Nat->Value->Prop} {St:Nat->Shared->Prop}
def C8 (l:List K) (k:K):Bool:=decide (k∈l)
theorem oX (W:WalksS prog w A.in1 I fp wr G n P St) (B:Addr) (E:B∉fp) (f:Nat->K) (M:∀ i v,P i v->knd.is (f i) v=true/\v.scannable=true) (a:n+1<scanBound) :
  ∀ (k i:Nat) (s:Shared),n-i=k->i<=n->St i s->SetL knd s.heap B (C8 (metKHt f i)) (metKHt f i).length ->
   (∀ z,Moved (B :: wr) G s z->SetL knd z.heap B (C8 (metKHt f n)) (metKHt f n).length->R (.ok (.ret .none)) z)->codeAny (model prog w) A (.builtin "set.update.loop" ⟨[.ref B,.ref I],[]⟩) R s:=by
 have u:=λh=>E (W.sub _ h);have D:∀ b∈wr,b∈B :: wr:=λb a=>Aw _ a;intro k;induction k with
 | zero=>
  intro i s N F st t q;obtain rfl:i=n:=by omega
  refine BA Cy ?_;rw [BP BC _];refine Ag (W.done s _ _ st λz m=>?_);exact Ai (q z (m.mono D) (t.mv λo=>m.heap B o u))
 | succ k O=>
  intro i s N F st t q;have C:i<n:=by omega
  refine BA Cy ?_;rw [BP BC _];refine Ag (W.item i s _ _ C st λv z J r m=>?_);obtain ⟨x,H⟩:=M i v J;have l:=t.mv λo=>m.heap B o u;refine Ag (AS (AS (Ag (knd.pyHash x ?_))));refine oH x H l (by have:=dS f i;omega) λg y d=>?_;have j:SetL knd g B (C8 (metKHt f (i+1))) (metKHt f (i+1)).length:=d.cg (λQ=>by
   rw [bw];unfold C8;by_cases c:f i∈metKHt f i
   ·grind
   ·rw [if_neg c];simp) (by
   rw [bw];unfold C8;by_cases c:f i∈metKHt f i
   ·grind
   ·rw [if_neg (by simpa using c),if_neg c,Av];rfl)
  refine Ai ⟨DJ BC _,O (i+1) _ (by omega) C (W.frame _ z _ _ r (Bm _) λb a o e=>?_) j λL m2 p=>?_⟩
  ·rw [y.2 b (λh:b=B=>E (h▸a))];exact e
  ·refine q L (Moved.trans W.gtrans ((m.mono D).then_heap (Bm _) λb o a e=>?_) m2) p;rw [y.2 b (λh:b=B=>a (h▸Ay))];exact e
end
section
variable {prog:Program} {w:World} {K:Type} [DecidableEq K] {knd:KeyKind prog w K} {A:Around} {E:Value->Shared->Prop} {s:Shared}
def A6 (knd:KeyKind prog w K) (f:Nat->K) (n:Nat) (s:Shared) (g:Heap):Prop:=SetL knd g s.heap.objs.size (C8 (metKHt f n)) (metKHt f n).length/\∀ b o,b<s.heap.objs.size->s.heap.get? b=some o->g.get? b=some o
theorem cB (h:Heap):SetL knd (h.push (k4 (!f8 w))) h.objs.size (C8 (metKHt (K:=K) f 0)) 0:=
 ⟨_,#[],0,_,An _ rfl,⟨rfl,rfl,rfl⟩,rfl,λe a=>by simp at a,λk=>by simp [C8,metKHt],by decide,rfl,rfl,TbHt.fresh _ _ _,rfl⟩
theorem mM {a:Addr} {c:Array Value} (f:Nat->K) (Z:A.handled=none) (u:s.heap.IsTuple a c\/s.heap.IsList a c) (hf:∀ i v,c[i]?=some v->knd.is (f i) v=true/\v.scannable=true) (G:c.size+1<scanBound) (P:Fin->Shared->Prop) (Q:Value->Shared->Prop)
  (h:∀ (g:Heap) (d:Nat),A6 knd f c.size s g->P (.done (.ret .none)) { s with heap:=g,toks:=d }) :
  wpAny (model prog w) A (Builtin.«set.__init__» ⟨[.ref s.heap.objs.size,.ref a],[]⟩) P Q { s with heap:=s.heap.push (k4 (!f8 w)) }:=by
 have gS:(s.heap.push (k4 (!f8 w))).get? s.heap.objs.size=some (k4 (!f8 w)):=An _ rfl;have E:∀ (k:Obj) (L M:List Addr) (N:Nat->Heap->Prop) (W:Walks prog w A.in1 (s.heap.objs.size+1) L M c.size (λi v=>c[i]?=some v) N),M=[s.heap.objs.size+1]->s.heap.objs.size∉L->N 0 ((s.heap.push (k4 (!f8 w))).push k)->codeAny (model prog w) A (.builtin "set.update.loop" ⟨[.ref s.heap.objs.size,.ref (s.heap.objs.size+1)],[]⟩) (λr z=>∃ g d,r=.ok (.ret .none)/\z={ s with heap:=g,toks:=d }/\A6 knd f c.size s g) { s with heap:=(s.heap.push (k4 (!f8 w))).push k }:=λk L M N W ew nS st=>by
  subst ew;refine oX (knd:=knd) W.toS s.heap.objs.size nS f hf G (c.size-0) 0 _ (by omega) (Bh _) st ?_ ?_
  ·exact (cB (knd:=knd) (f:=f) s.heap).mv λo e=>Ah _ e
  ·rintro ⟨g,gn,Y,d,X⟩ H hS;have z1:gn=s.gens:=H.gens;have z2:Y=s.drawn:=H.drawn;have z3:X=s.os:=H.os;subst z1 z2 z3;refine ⟨g,d,rfl,rfl,hS,λb o G e=>H.heap b o ?_ (Ah _ (Ah _ e))⟩;simp only [AA,DP,or_false,not_or];exact ⟨Aq G,Aq (AE G)⟩
 have S:A.in1.handled=none:=by simp [Z]
 have I:(s.heap.push (k4 (!f8 w))).objs.size=s.heap.objs.size+1:=BG _ _;have j:∀ (k:Obj),codeAny (model prog w) A (.builtin "set.update.loop" ⟨[.ref s.heap.objs.size,.ref (s.heap.objs.size+1)],[]⟩) (λr z=>∃ g d,r=.ok (.ret .none)/\z={ s with heap:=g,toks:=d }/\A6 knd f c.size s g) { s with heap:=(s.heap.push (k4 (!f8 w))).push k } ->
   wpAny (model prog w) A (runValue (.builtin "set.update.loop" ⟨[.ref s.heap.objs.size,.ref (s.heap.objs.size+1)],[]⟩) >>= λ_=>pure ()) (λ_ z=>wpAny (model prog w) A (ret Value.none) P Q z) Q { s with heap:=(s.heap.push (k4 (!f8 w))).push k }:=λk z=>by
  refine Ag (Ec (BM z λr y ⟨g,d,C,T,e3⟩=>?_));subst C T;exact Ai (Ai (h g d e3))
 rcases u with u | u
 ·obtain ⟨ob,x,q,n,D⟩:=u;obtain ⟨J,m,t,l⟩:=ob;dsimp only at q D;subst q D;have C:=Ah (k4 (!f8 w)) x;have p:(s.heap.push (k4 (!f8 w))).IsTuple a c:=⟨_,C,rfl,n,rfl⟩;have B:=Am x;have V:=F.sub_tuple_set;have U:=F.sub_tuple_frozenset;have q3:(Value.type "tuple" == Value.type "dict")=false:=by decide
  unfold Builtin.«set.__init__» noKeywords Builtin.Frozenset.updateFrom;generalize R:pyIter=pI
  wp_walk
  subst R;refine wpAny_pyIter_tuple p ?_;show wpAny _ _ (runValue (.builtin "set.update.loop" ⟨[.ref s.heap.objs.size,.ref (s.heap.push (k4 (!f8 w))).objs.size],[]⟩) >>= λ_=>pure ()) _ _ { s with heap:=(s.heap.push (k4 (!f8 w))).push _ };rw [I];have O:a≠s.heap.objs.size+1:=Aq (AE B);refine j _ (E _ _ _ _ (Walks.tuple S _ a O c) rfl ?_ ⟨⟨_,I▸An _ rfl,rfl,rfl⟩,p.push _⟩);simp only [AA,DP,or_false,not_or];exact ⟨Aq (AI _),CK B⟩
 ·obtain ⟨ob,x,q,n,D⟩:=u;obtain ⟨J,m,t,l⟩:=ob;dsimp only at q D;subst q D;have C:=Ah (k4 (!f8 w)) x;have p:(s.heap.push (k4 (!f8 w))).IsList a c:=⟨_,C,rfl,n,rfl⟩;have B:=Am x;have V:=PySem.F.sub_list_set;have U:=PySem.F.sub_list_frozenset;have q3:(Value.type "list" == Value.type "dict")=false:=by decide
  unfold Builtin.«set.__init__» noKeywords Builtin.Frozenset.updateFrom;generalize R:pyIter=pI
  wp_walk
  subst R;refine wpAny_pyIter_list p ?_;show wpAny _ _ (runValue (.builtin "set.update.loop" ⟨[.ref s.heap.objs.size,.ref (s.heap.push (k4 (!f8 w))).objs.size],[]⟩) >>= λ_=>pure ()) _ _ { s with heap:=(s.heap.push (k4 (!f8 w))).push _ };rw [I];have O:a≠s.heap.objs.size+1:=Aq (AE B);refine j _ (E _ _ _ _ (Walks.list S _ a O c) rfl ?_ ⟨⟨_,I▸An _ rfl,rfl,rfl⟩,p.push _⟩);simp only [AA,DP,or_false,not_or];exact ⟨Aq (AI _),CK B⟩
theorem pj (a:Value) {Q:Value->Shared->Prop} (h:Q (.ref s.heap.objs.size) { s with heap:=s.heap.push (k4 (!f8 w)) }):codeAny (model prog w) A (.call (.builtin "set.__new__") ⟨[.type "set",a],[]⟩) (wants Q E) s:=by
 refine DX ?_;show wpAny _ A.in1 (checkBuiltinCall "set.__new__" ⟨[.type "set",a],[]⟩ >>= λ_=>again (.builtin "set.__new__" ⟨[.type "set",a],[]⟩)) _ _ s;refine Ag (Ea (PySem.F.newCall_set_1 a) (Ai ⟨DJ PySem.F.plain_set_new _,BA PySem.F.entry_set_new ?_⟩));rw [BP PySem.F.plain_set_new _];unfold Builtin.«set.__new__» Builtin.Frozenset.newClass;have q:=sub_set_self;obtain ⟨e,g,d,c,b⟩:=s;dsimp only
 wp_walk
 refine Cq (Ai ?_);dsimp only;simp only [newObj];exact Ag (wpAny_alloc (Ai (Ai h)))
theorem callLHt {a:Addr} {d:Array Value} (f:Nat->K) {Q:Value->Shared->Prop} (o:A.handled=none) (l:s.heap.IsTuple a d\/s.heap.IsList a d) (m:∀ i v,d[i]?=some v->knd.is (f i) v=true/\v.scannable=true) (k:d.size+1<scanBound)
  (h:∀ (g:Heap) (e:Nat),A6 knd f d.size s g->Q (.ref s.heap.objs.size) { s with heap:=g,toks:=e }):wpAny (model prog w) A (call (.type "set") [.ref a]) Q E s:=by
 obtain ⟨c,y,u⟩:=PySem.F.called_set.mro;have m2:=PySem.F.called_set.made;have B:=PySem.F.called_set.sub;refine wpAny_call (DX ?_);show wpAny _ _ (callAny (.type "set") _) _ _ _;refine Ai ⟨Code.quiet_builtin _ (by decide +kernel),BA PySem.F.entry_type_call ?_⟩;rw [Around.under_plain (weight_type_call_type "set" [.ref a] []) rfl];have q:=PySem.F.called_set.notType;have C:=PySem.F.called_set.canCreate;have t:=PySem.F.typeCall_set_1 (.ref a)
 repeat (any_goals (first | assumption | wp_step))
 refine BM (pj (.ref a) (E:=E) (Q:=λr z=>r=.ref s.heap.objs.size/\z={ s with heap:=s.heap.push (k4 (!f8 w)) }) ⟨rfl,rfl⟩) λr z b=>?_
 match r,b with
 | .error _,b=>exact b
 | .ok .next,b=>exact b.elim
 | .ok .brk,b=>exact b.elim
 | .ok .cont,b=>exact b.elim
 | .ok (.ret r),b=>
  obtain ⟨rfl,rfl⟩:=b;have n:Shared.TypeIs { s with heap:=s.heap.push (k4 (!f8 w)) } (.ref s.heap.objs.size) "set":=⟨_,An _ rfl,rfl⟩;have p:=PySem.F.called_set.init.lookup;have x:=PySem.F.called_set.init.bind (.ref s.heap.objs.size)
  repeat (any_goals (first | assumption | wp_step))
  refine BM (codeAny_call_builtin (R:=wants (λr z=>r=.none/\∃ g e,z={ s with heap:=g,toks:=e }/\A6 knd f d.size s g) E) PySem.F.called_set.init.plain PySem.F.entry_set_init (check_set_init_1 n ?_)) λr z b=>?_
  ·exact mM f (by simp [o]) l m k _ _ λg e j=>⟨rfl,g,e,rfl,j⟩
  ·match r,b with
   | .error _,b=>exact b
   | .ok .next,b=>exact b.elim
   | .ok .brk,b=>exact b.elim
   | .ok .cont,b=>exact b.elim
   | .ok (.ret r),b=>
    obtain ⟨rfl,g,e,rfl,j⟩:=b
    repeat (any_goals (first | assumption | wp_step))
    exact h _ _ j
end
theorem si_slot:Slot "set_iterator" "__next__" "set_iterator.__next__":=by
 refine .of (owner:="set_iterator") (n:="__next__") ?_ (by decide +kernel) (by decide +kernel) (by decide +kernel) ?_ ?_
 ·rw [typeLookup_type,builtinLookup_eq_fast];kernel_rfl
 ·first | exact .inl (by decide +kernel) | exact .inr (by decide +kernel)
 ·rw [Ed];kernel_rfl
theorem E9:entryFor table "set_iterator.__next__" = some Builtin.«set_iterator.__next__»:=entryFor_of_tree (by kernel_rfl)
theorem aw:Manifest.owners.lookup (String.ofList ['r','o','t','a','r','e','t','i','_','t','e','s'].reverse)=some Manifest.sig_set_iterator:=by kernel_rfl
theorem O1 (a:Value):argsOk "set_iterator.__next__" ⟨[a],[]⟩:=by
 unfold argsOk;rw [signature?_of (n:=['_','_','t','x','e','n','_','_']) (by kernel_rfl) aw];kernel_rfl
theorem iP:entryFor table "set.__iter__" = some Builtin.«frozenset.__iter__»:=entryFor_alias (id':="frozenset.__iter__") (by kernel_rfl) rfl (by decide +kernel) (by kernel_rfl)
def SIt (h:Heap) (I a:Addr) (first:Value) (i n b:Nat):Prop:=∃ o,h.get? I=some o/\o.cls=.type "set_iterator"/\o.data=.fields #[first,.int i 0,.ref a,.int n 0,.int b 0]
theorem SIt.ty {s:Shared} {I a:Addr} {first:Value} {i n b:Nat} (x:SIt s.heap I a first i n b):s.TypeIs (.ref I) "set_iterator":=let ⟨o,d,c,_⟩:=x;⟨o,d,c⟩
section
variable {prog:Program} {w:World} {A:Around} {E:Value->Shared->Prop} {s:Shared}
theorem cU {f g i n c:Nat} {x:Value} {Q:Option Value->Shared->Prop} (b:SIt s.heap I a (.int (f:Nat) 0) i n c)
  (p:s.heap.get? a=some o) (hd:o.data=.set es c t) (q:t.fits es.size=true) (l:es.size=n)
  (hs:∀ (B:Around) (R:Option (Value×Nat)->Shared->Prop) (E:Value->Shared->Prop),R (some (x,g)) s->wpAny (model prog w) B (setNext a f i c) R E s)
  (r:∀ h',SIt h' I a (.int (g:Nat) 0) (i+1) n c->Heap.SameBut I s.heap h'->Q (some x) { s with heap:=h' }):wpAny (model prog w) A (pyNext (.ref I)) Q E s:=by
 obtain ⟨u,h,m,d⟩:=id b;refine Ag (Dd (Bo b.ty si_slot (Ba si_slot b.ty E9 ?_ (O1 _))));refine Ag (Ai (Ag (Dy h d ?_)));refine Ag (BV p hd q ?_);rw [if_neg (by rw [l];simp)];refine Ag (hs _ _ _ ?_);refine Ag (BW h d (by simp) ?_);have e:=Obj.data_mapFields d (·.setIfInBounds 0 (rawInt g));have k:=AY (Obj.mapFields (·.setIfInBounds 0 (rawInt g))) h (Obj.isFreed_of_fields e);refine Ag (BW k e (by simp) ?_);have j:=Obj.data_mapFields e (·.setIfInBounds 1 (rawInt ((i:Int)+1)));refine Ai ⟨_,rfl,Ai (r _ ⟨_,AY _ k (Obj.isFreed_of_fields j),?_,?_⟩ ((Bk ..).trans (Bk ..)))⟩
 ·exact (Obj.cls_mapFields ..).trans ((Obj.cls_mapFields ..).trans m)
 ·rw [j];simp [rawInt]
theorem X4 {F:Value->Shared->Prop} (b:A.handled=none) (d:s.heap.get? I=some o) (a:o.data=.fields vs) (c:k<vs.size)
  (q:∀ (e:Addr) (h':Heap),Heap.ExtBut I s.heap h'->Shared.TypeIs { s with heap:=h' } (.ref e) "StopIteration"->F (.ref e) { s with heap:=h' }) :
  wpAny (model prog w) A (setField (.ref I) k u >>= λ_=>(newExc (.type "StopIteration") [] >>= λe=>raiseNew e:Sem Fin)) P F s:=by
 refine Ag (BW d a c (Ag ?_));refine Ag (AK ?_ (by size_fits));refine Ag (Ea (by first | rfl | (simp;rfl)) (AK ?_ (by size_fits)));refine Ag (wpAny_handled ?_);rw [b];refine Ag (Ai (wpAny_throw ?_));exact q _ _ (((Bk ..).extBut.push _).push _) ⟨_,An _ rfl,rfl⟩
theorem fT {f i n c:Nat} {Q:Option Value->Shared->Prop} (l:A.handled=none) (b:SIt s.heap I a (.int (f:Nat) 0) i n c)
  (j:s.heap.get? a=some o) (hd:o.data=.set es c t) (m:t.fits es.size=true) (h:es.size=n)
  (hs:∀ (B:Around) (R:Option (Value×Nat)->Shared->Prop) (E:Value->Shared->Prop),R none s->wpAny (model prog w) B (setNext a f i c) R E s)
  (p:∀ h',Heap.ExtBut I s.heap h'->Q none { s with heap:=h' }):wpAny (model prog w) A (pyNext (.ref I)) Q E s:=by
 obtain ⟨q,g,r,d⟩:=id b;refine Ag (Dd (Bo b.ty si_slot (Ba si_slot b.ty E9 ?_ (O1 _))));refine Ag (Ai (Ag (Dy g d ?_)));refine Ag (BV j hd m ?_);rw [if_neg (by rw [h];simp)];refine Ag (hs _ _ _ ?_);refine X4 (by simp [l]) g d (by simp) λe h' x k=>?_;exact Ag (DQ k isSubtype_stop (Ai (p _ x)))
theorem cF {es:Array (Int×Value)} {t:SetTable} {ps:List Nat} {c i n f p:Nat} {z:Int} {x:Value} {Q:Option Value->Shared->Prop} (b:SIt s.heap I a (.ref tp) i n f)
  (h:s.heap.get? a=some o) (hd:o.data=.set es f t) (l:t.fits es.size=true) (r:es.size=n) (v:s.heap.get? tp=some ot) (e:ot.data=.seq (ps.map λ(k:Nat)=>rawInt (k:Int)).toArray c)
  (q:ps[i]?=some p) (u:es[p]?=some (z,x))
  (B:∀ h',SIt h' I a (.ref tp) (i+1) n f->Heap.SameBut I s.heap h'->Q (some x) { s with heap:=h' }):wpAny (model prog w) A (pyNext (.ref I)) Q E s:=by
 obtain ⟨C,g,y,d⟩:=id b;refine Ag (Dd (Bo b.ty si_slot (Ba si_slot b.ty E9 ?_ (O1 _))));refine Ag (Ai (Ag (Dy g d ?_)));refine Ag (BV h hd l ?_);rw [if_neg (by rw [r];simp)];refine Ag (wpAny_seqItems v e ?_);have m:(ps.map λ(k:Nat)=>rawInt (k:Int)).toArray[((i:Int).toNat:Nat)]?=some (rawInt (p:Int)):=by
  rw [Bl,CU,AH,q];rfl
 dsimp only;rw [m];refine Ag (Ag (BO h hd l ?_));dsimp only;rw [if_neg (by simp),Bl,u];refine Ai ?_;refine Ag (BW g d (by simp) ?_);have j:=Obj.data_mapFields d (·.setIfInBounds 1 (rawInt ((i:Int)+1)));refine Ai ⟨_,rfl,Ai (B _ ⟨_,AY _ g (Obj.isFreed_of_fields j),?_,?_⟩ (Bk ..))⟩
 ·exact (Obj.cls_mapFields ..).trans y
 ·rw [j];simp [rawInt]
theorem eW {es:Array (Int×Value)} {t:SetTable} {ps:List Nat} {c i n l:Nat} {Q:Option Value->Shared->Prop} (y:A.handled=none) (d:SIt s.heap I a (.ref tp) i n l)
  (v:s.heap.get? a=some o) (hd:o.data=.set es l t) (F:t.fits es.size=true) (D:es.size=n) (p:s.heap.get? tp=some ot) (h:ot.data=.seq (ps.map λ(k:Nat)=>rawInt (k:Int)).toArray c)
  (C:ps[i]?=none)
  (z:∀ h',Heap.ExtBut I s.heap h'->Q none { s with heap:=h' }):wpAny (model prog w) A (pyNext (.ref I)) Q E s:=by
 obtain ⟨H,f,G,g⟩:=id d;refine Ag (Dd (Bo d.ty si_slot (Ba si_slot d.ty E9 ?_ (O1 _))));refine Ag (Ai (Ag (Dy f g ?_)));refine Ag (BV v hd F ?_);rw [if_neg (by rw [D];simp)];refine Ag (wpAny_seqItems p h ?_);have u:(ps.map λ(k:Nat)=>rawInt (k:Int)).toArray[((i:Int).toNat:Nat)]?=none:=by
  rw [Bl,CU,AH,C];rfl
 dsimp only;rw [u];refine Ag (BW f g (by simp) ?_);have j:=Obj.data_mapFields g (·.setIfInBounds 0 (rawInt 0));have B:=AY (Obj.mapFields (·.setIfInBounds 0 (rawInt 0))) f (Obj.isFreed_of_fields j);refine X4 (by simp [y]) B j (by simp) λe h' x r=>?_;exact Ag (DQ r isSubtype_stop (Ai (z _ λb ob m q=>x b ob m ((Bk s.heap I _).extBut b ob m q))))
end
theorem du:Slot "set_iterator" "__iter__" "set_iterator.__iter__":=by
 refine .of (owner:="set_iterator") (n:="__iter__") ?_ (by decide +kernel) (by decide +kernel) (by decide +kernel) ?_ ?_
 ·rw [typeLookup_type,builtinLookup_eq_fast];kernel_rfl
 ·first | exact .inl (by decide +kernel) | exact .inr (by decide +kernel)
 ·rw [Ed];kernel_rfl
theorem jP:entryFor table "set_iterator.__iter__" = some Builtin.«dict_keyiterator.__iter__»:=entryFor_alias (id':="dict_keyiterator.__iter__") (by kernel_rfl) rfl (by decide +kernel) (by kernel_rfl)
theorem kj (a:Value):argsOk "set_iterator.__iter__" ⟨[a],[]⟩:=by
 unfold argsOk;rw [signature?_of (n:=['_','_','r','e','t','i','_','_']) (by kernel_rfl) aw];kernel_rfl
theorem K2 {a:Type}:∀ (l:List a) (i:Nat) (h:i<l.length),(l[i] :: l.eraseIdx i).Perm l
 | [],i,h=>by cases h
 | x :: l,0,h=>.refl _
 | x :: l,i+1,h=>by
  have z:i<l.length:=Nat.lt_of_succ_lt_succ h;exact (List.Perm.swap x l[i] (l.eraseIdx i)).trans ((K2 l i z).cons x)
theorem eN (f:Nat->Nat):∀ (n k:Nat) (l:List α) (out:Array α),n=l.length->(pickOrder.go f n k l out).toList.Perm (out.toList++l)
 | 0,k,l,out,e=>by
  have:l=[]:=BY.mp e.symm;subst this;unfold pickOrder.go;simp
 | n+1,k,l,out,e=>by
  unfold pickOrder.go;have z:f k % l.length<l.length:=Nat.mod_lt _ (by omega);rw [Ak z];refine (eN f n (k+1) _ _ (by rw [List.length_eraseIdx];split <;> omega)).trans ?_;rw [DE,BN];refine List.Perm.append_left _ ?_;exact K2 l _ z
theorem ff (f:Nat->Nat) (xs:Array α):(pickOrder f xs).toList.Perm xs.toList:=by
 have:=eN f xs.size 0 xs.toList #[] (by simp);unfold pickOrder;grind
section
variable {prog:Program} {w:World} {A:Around} {E:Value->Shared->Prop} {s:Shared}
theorem tN {n:Nat} {Q:Nat->Shared->Prop} (a:n≠0) (q:∀ k d,k<n->Q k { s with drawn:=d }):wpAny (model prog w) A (choose src n) Q E s:=
 λ_ _ _=>⟨a,q _ _ (Nat.mod_lt _ (Nat.pos_of_ne_zero a))⟩
theorem X0:∀ (n:Nat) (l:List α) (s:Shared) (Q:List α->Shared->Prop),n=l.length->(∀ ys d,ys.Perm l->Q ys { s with drawn:=d })->wpAny (model prog w) A (drawOrder n l) Q E s
 | 0,l,s,Q,e,q=>by
  have:l=[]:=BY.mp e.symm;subst this;exact Ai (q [] s.drawn (.refl _))
 | n+1,[],s,Q,e,q=>by cases e
 | n+1,x :: l,s,Q,e,q=>by
  refine Ag (tN (by simp) λk d a=>?_);rw [Ak a];refine Ag (X0 n _ _ _ (by rw [List.length_eraseIdx,if_pos a];simp at e ⊢;omega) λys b p=>Ai ?_);exact q _ b ((p.cons _).trans (K2 (x :: l) k a))
variable {a:Addr} {o:Obj} {es:Array (Int×Value)} {t:SetTable} {ep:Nat}
theorem text_atHt (a:f8 w=true):wpAny (model prog w) A setsByText (λb z=>b=true/\s=z) E s:=Ag (Cq (Ai ⟨a,rfl⟩))
theorem text_noHt (a:f8 w=false):wpAny (model prog w) A setsByText (λb z=>b=false/\s=z) E s:=Ag (Cq (Ai ⟨a,rfl⟩))
theorem dh {f i:Nat} {R:Option (Value×Nat)->Shared->Prop} (h:f8 w=true) (g:s.heap.get? a=some o) (hd:o.data=.set es ep t) (j:t.fits es.size=true)
  (q:R (((pickOrder (w.params.setOrder a ep) es)[i]?).map λe=>(e.2,f)) s):wpAny (model prog w) A (setNext a f i ep) R E s:=by
 refine Ag (BO g hd j (Ag (AB (text_atHt h) (λb z ⟨c,d⟩=>?_) λ_ _ x=>x)));subst c d;rw [if_pos rfl];rw [if_neg (by simp)];refine Ag (Ag (BO g hd j (Ag (AB (text_atHt h) (λb z ⟨c,d⟩=>?_) λ_ _ x=>x))));subst c d;rw [if_pos rfl];exact Ag (Cq (Ai (Ai q)))
theorem fw {R:Option (Value×Nat)->Shared->Prop} (d:f8 w=false) (c:s.heap.get? a=some o) (hd:o.data=.set es ep t) (h:t.fits es.size=true) (k:t.led=true) (g:(!t.plain&&decide (es.size > 1))=false)
  (q:R (match es[SetTable.below t.place f]?,t.place[SetTable.below t.place f]? with | some (_,x),some j=>some (x,j+1) | _,_=>none) s):wpAny (model prog w) A (setNext a f i ep) R E s:=by
 refine Ag (BO c hd h (Ag (AB (text_noHt d) (λb z ⟨e,l⟩=>?_) λ_ _ x=>x)));subst e l;rw [if_neg At];show wpAny _ _ (if (!t.plain&&decide (es.size > 1))=true then _ else _) _ _ _;rw [g,if_neg At];refine Ag (?_:wpAny _ _ (if (!t.led&&!es.isEmpty)=true then _ else _) _ _ _);rw [k,if_neg (by simp)];exact Ai (Ai q)
end
section
variable {prog:Program} {w:World} {A:Around} {E:Value->Shared->Prop} {s:Shared} {K:Type} [DecidableEq K] {knd:KeyKind prog w K} {S:K->Bool} {n:Nat}
variable {a:Addr} {o:Obj} {es:Array (Int×Value)} {t:SetTable} {ep:Nat}
theorem SIt.mv {I a:Addr} {first:Value} {i n b:Nat} (x:SIt h I a first i n b) (e:∀ o,h.get? I=some o->h'.get? I=some o):SIt h' I a first i n b:=let ⟨o,c,r⟩:=x;⟨o,e o c,r⟩
theorem dg {I a:Addr} {first:Value} {i n b:Nat} {Q:Value->Shared->Prop} (x:SIt s.heap I a first i n b) (q:Q (.ref I) s):wpAny (model prog w) A (pyIter (.ref I)) Q E s:=by
 refine wpAny_pyIter_slot x.ty du (Ba du x.ty jP ?_ (kj _));exact Ai ⟨_,rfl,"set_iterator",_,x.ty,si_slot.lookup,q⟩
def jY (t:SetTable):Nat->Nat
 | 0=>0
 | i+1=>t.place.getD i 0+1
theorem cJ (l:A.handled=none) {I:Addr} (m:a≠I) (x:en knd o S n es ep t) (f:Nat->Nat) (vs:List Value) (u:vs.length=n)
  (p:∀ i (B:Around) (s:Shared) (R:Option (Value×Nat)->Shared->Prop) (E:Value->Shared->Prop) v,s.heap.get? a=some o->vs[i]?=some v->R (some (v,f (i+1))) s->wpAny (model prog w) B (setNext a (f i) i ep) R E s)
  (k:∀ (B:Around) (s:Shared) (R:Option (Value×Nat)->Shared->Prop) (E:Value->Shared->Prop),s.heap.get? a=some o->R none s->wpAny (model prog w) B (setNext a (f n) n ep) R E s) :
  Walks prog w A I [I,a] [I] n (λi v=>vs[i]?=some v) (λi h=>SIt h I a (.int (f i:Nat) 0) i n ep/\h.get? a=some o) where
 sub:=λb d=>by simp at d;simp [d]
 frame:=λi h h' st g=>⟨st.1.mv λo e=>g I (by simp) o e,g a (by simp) _ st.2⟩
 item:=λi s Q E r st q=>by
  have e:vs[i]?=some vs[i]:=Ak (by omega);refine cU st.1 st.2 x.2.1 x.2.2.2.2.2.1 x.2.2.2.2.2.2.1 (λB R E z=>p i B s R E _ st.2 e z) λh' y j=>q _ h' s.toks e ⟨y,?_⟩ λb ob d z=>j.extBut b ob (λc=>d (by simp [c])) z;exact j.extBut _ _ m st.2
 done:=λs Q E st q=>fT l st.1 st.2 x.2.1 x.2.2.2.2.2.1 x.2.2.2.2.2.2.1 (λB R E z=>k B s R E st.2 z) λh' y=>q h' s.toks λb ob d z=>y b ob (λc=>d (by simp [c])) z
 self:=λ_ _ _ _ st q=>dg st.1 q
theorem cI (G:A.handled=none) {I g:Addr} (F:a≠I) (B:g≠I) (x:en knd o S n es ep t) {ot:Obj} {c:Nat} (ps:List Nat) (f:ot.data=.seq (ps.map λ(k:Nat)=>rawInt (k:Int)).toArray c) (j:ps.Perm (List.range n)) :
  Walks prog w A I [I,a,g] [I] n (λi v=>(ps.map λp=>(es.toList.map (·.2)).getD p .none)[i]?=some v) (λi h=>SIt h I a (.ref g) i n ep/\h.get? a=some o/\h.get? g=some ot) where
 sub:=λb d=>by simp at d;simp [d]
 frame:=λi h h' st l=>⟨st.1.mv λo e=>l I (by simp) o e,l a (by simp) _ st.2.1,l g (by simp) _ st.2.2⟩
 item:=λi s Q E H st q=>by
  have C:ps.length=n:=by rw [j.length_eq,AN]
  have u:=x.2.2.2.2.2.2.1;have e:ps[i]?=some (ps[i]'(by omega)):=Ak (by omega);have r:ps[i]'(by omega)<es.size:=by
   have:ps[i]'(by omega)∈List.range n:=j.mem_iff.mp (AU _);rw [u];exact Bd.mp this
  generalize ps[i]'(by omega)=p at e r;have D:=Bc r;refine cF st.1 st.2.1 x.2.1 x.2.2.2.2.2.1 u st.2.2 f e D λh' y m=>q _ h' s.toks ?_ ⟨y,m.extBut _ _ F st.2.1,m.extBut _ _ B st.2.2⟩ λb ob d z=>m.extBut b ob (λc=>d (by simp [c])) z;rw [AH,e];simp [r]
 done:=λs Q E st q=>by
  have C:ps.length=n:=by rw [j.length_eq,AN]
  exact eW G st.1 st.2.1 x.2.1 x.2.2.2.2.2.1 x.2.2.2.2.2.2.1 st.2.2 f (AJ (by omega)) λh' y=>q h' s.toks λb ob d z=>y b ob (λc=>d (by simp [c])) z
 self:=λ_ _ _ _ st q=>dg st.1 q
structure Itd (prog:Program) (w:World) (a:Addr) (es:Array (Int×Value)) (s z:Shared) (I:Addr):Prop where
 keep:∀ b ob,s.heap.get? b=some ob->z.heap.get? b=some ob
 rest:z={ s with heap:=z.heap,drawn:=z.drawn }
 new:s.heap.objs.size<=I
 walk:∃ (vs:List Value) (fp:List Addr) (St:Nat->Heap->Prop),vs.Perm (es.toList.map (·.2))/\(∀ B:Around,B.handled=none->Walks prog w B I fp [I] es.size (λi v=>vs[i]?=some v) St)/\St 0 z.heap/\∀ b∈fp,b=a\/(s.heap.objs.size<=b/\b<z.heap.objs.size)
theorem lO (c:s.heap.get? a=some o) (x:en knd o S n es ep t) (q:∀ I z,Itd prog w a es s z I->Q (.ref I) z):wpAny (model prog w) A (pyIter (.ref a)) Q E s:=by
 have M:s.TypeIs (.ref a) "set":=⟨o,c,x.1.1⟩;have O:=Am c;obtain ⟨x1,h,x3,x4,x5,x6,x7,x8,Z⟩:=id x;refine wpAny_pyIter_slot M PySem.F.slot_set_iter (Ba PySem.F.slot_set_iter M iP ?_ (PySem.F.args_set_iter_1 _));unfold Builtin.«frozenset.__iter__» Builtin.Frozenset.slot0 slotArgs;simp only [List.isEmpty_nil,Bool.not_true,Cd,↓reduceIte,LawfulMonad.bind_assoc,List.length_nil,CQ];refine Ag (Ai ?_);refine Ag (Ai ?_);refine Ag (Ag (BV c h x6 (Ai ?_)));refine Ag (Ag (BO c h x6 ?_));have X:=Aq O;have H:es.size<4096:=x5;have j:∀ (f:Nat->Nat) (vs:List Value),f 0=0->vs.Perm (es.toList.map (·.2)) ->
   (∀ i (B:Around) (s:Shared) (R:Option (Value×Nat)->Shared->Prop) (E:Value->Shared->Prop) v,s.heap.get? a=some o->vs[i]?=some v->R (some (v,f (i+1))) s->wpAny (model prog w) B (setNext a (f i) i ep) R E s) ->
   (∀ (B:Around) (s:Shared) (R:Option (Value×Nat)->Shared->Prop) (E:Value->Shared->Prop),s.heap.get? a=some o->R none s->wpAny (model prog w) B (setNext a (f n) n ep) R E s) ->
   wpAny (model prog w) A.in1 (setEpoch a >>= λk=>newFields "set_iterator" [rawInt 0,rawInt 0,.ref a,rawInt es.size,rawInt k] >>= λv=>ret v) (λK z=>∃ v,K=Fin.done (Flow.ret v)/\∃ T r,z.TypeIs v T/\typeLookup (Value.type T) (Str.ofString "__next__")=pure (some r)/\Q v z) E s:=λf vs Y p l C=>by
  have W:vs.length=n:=by rw [p.length_eq,Aj,Ax,x7]
  refine Ag (wpAny_setEpoch_of c h x6 (Ag (AK (Ai ⟨_,rfl,"set_iterator",_,⟨_,An _ rfl,rfl⟩,si_slot.lookup,q _ _ ?_⟩) (by size_fits))));refine ⟨λb ob e=>Ah _ e,rfl,Ap _,vs,[s.heap.objs.size,a],_,p,λB L=>x7▸cJ L X x f vs W l C,⟨⟨_,An _ rfl,rfl,?_⟩,Ah _ c⟩,λb g=>?_⟩
  ·rcases AA.mp g with rfl | g
   ·simp_all
   ·grind
  ·rw [Y];rfl
 cases g:f8 w with
 | true=>
  refine Ag (AB (text_atHt g) (λb z ⟨F,m⟩=>?_) λ_ _ y=>y);subst F m;refine Ai ?_;have p:=ff (w.params.setOrder a ep) es;refine j (λ_=>0) ((pickOrder (w.params.setOrder a ep) es).toList.map (·.2)) rfl (p.map _) (λi B s R E v c J r=>dh g c h x6 ?_) λB s R E c r=>dh g c h x6 ?_
  ·grind
  ·have:(pickOrder (w.params.setOrder a ep) es)[n]?=none:=by
    have:=p.length_eq;rw [Ax,Ax,x7] at this;exact Array.getElem?_eq_none (by omega)
   rw [this];exact r
 | false=>
  refine Ag (AB (text_noHt g) (λb z ⟨F,m⟩=>?_) λ_ _ y=>y);subst F m;refine Ai ?_;cases hd:(!t.plain&&decide (es.size > 1)) with
  | false=>
   show wpAny _ _ (if (!false&&(!t.plain&&decide (es.size > 1)))=true then _ else _) _ _ _;rw [hd,if_neg (by simp)];have D:t.led=true:=by rw [Z,g];rfl
   have V:t.place.size=es.size:=by
    have:=x6;unfold SetTable.fits at this;simp at this;exact this.1
   have P:Rise t.place:=by
    cases pl:t.plain with
    | true=>exact x8.up pl
    | false=>
     rw [pl] at hd;have z:t.place.size<=1:=by simp at hd;omega
     unfold Rise;have:t.place.toList.length<=1:=by simpa using z
     match t.place.toList,this with
     | [],_=>exact .nil
     | [y],_=>grind
   have U:∀ i,i<=n->SetTable.below t.place (jY t i)=i:=λi hi=>by
    cases i with
    | zero=>exact cO P
    | succ i=>
     have z:i<t.place.size:=by omega
     show SetTable.below t.place (t.place.getD i 0+1)=i+1;rw [show t.place.getD i 0=t.place[i] by simp [Array.getD,z]];exact cD P z
   refine j (jY t) (es.toList.map (·.2)) rfl (.refl _) (λi B s R E v c J r=>fw g c h x6 D hd ?_) λB s R E c r=>fw g c h x6 D hd ?_
   ·rw [AH,Bn,CN] at J;obtain ⟨e,l,C⟩:=J;have z:i<es.size:=by
     rcases Nat.lt_or_ge i es.size with u | u
     ·exact u
     ·grind
    have N:i<t.place.size:=by omega
    rw [U i (by omega),l,Bc N];obtain ⟨F,m⟩:=e;subst C;have:jY t (i+1)=t.place[i]+1:=by show t.place.getD i 0+1=_;simp [Array.getD,N]
    rw [this] at r;exact r
   ·grind
  | true=>
   show wpAny _ _ (if (!false&&(!t.plain&&decide (es.size > 1)))=true then _ else _) _ _ _;rw [hd,if_pos (by simp)];refine Ag (X0 _ _ _ _ (by simp) λps d p=>?_);have pl:ps.length=es.size:=by rw [p.length_eq,AN]
   refine Ag (Ee (Ag (wpAny_setEpoch_of (Ah _ c) h x6 (Ag (AK (Ai ⟨_,rfl,"set_iterator",_,⟨_,An _ rfl,rfl⟩,si_slot.lookup,q _ _ ?_⟩) (by size_fits))))) (by rw [Aj,pl,AF];omega));have G:(s.heap.push { cls:=.type "tuple",data:=.seq (ps.map λ(k:Nat)=>rawInt (k:Int)).toArray }).objs.size=s.heap.objs.size+1:=BG _ _;refine ⟨λb ob e=>Ah _ (Ah _ e),rfl,?g1,ps.map λp=>(es.toList.map (·.2)).getD p .none,[(s.heap.push { cls:=.type "tuple",data:=.seq (ps.map λ(k:Nat)=>rawInt (k:Int)).toArray }).objs.size,a,s.heap.objs.size],_,?g2,λB L=>x7▸cI L ?g3 ?g4 x (ot:={ cls:=.type "tuple",data:=.seq (ps.map λ(k:Nat)=>rawInt (k:Int)).toArray }) ps rfl (x7▸p),⟨⟨_,An _ rfl,rfl,?g5⟩,?g6,?g7⟩,λb g=>?g8⟩
   case g1=>
    rw [G];exact Bm _
   case g2=>
    refine (p.map _).trans ?_;have:(List.range es.size).map (λp=>(es.toList.map (·.2)).getD p .none)=es.toList.map (·.2):=by
     refine List.ext_getElem (by simp) λi l C=>?_;simp at l C;simp [l]
    rw [this]
   case g3=>
    rw [G];exact Aq (AE O)
   case g4=>
    rw [G];exact Aq (AI _)
   case g5=>
    rfl
   case g6=>
    exact Ah _ (Ah _ c)
   case g7=>
    exact Ah _ (An _ rfl)
   case g8=>
    have m:((s.heap.push { cls:=.type "tuple",data:=.seq (ps.map λ(k:Nat)=>rawInt (k:Int)).toArray }).push { cls:=.type "set_iterator",data:=.fields [Value.ref s.heap.objs.size,rawInt 0,Value.ref a,rawInt ↑es.size,rawInt ↑ep].toArray }).objs.size=s.heap.objs.size+1+1:=(BG _ _).trans (congrArg (· + 1) G);rcases AA.mp g with rfl | g
    ·grind
    ·grind
end
section
variable {prog:Program} {w:World} {A:Around} {E:Value->Shared->Prop} {s:Shared} {K:Type} [DecidableEq K] {knd:KeyKind prog w K} {S:K->Bool} {n:Nat}
variable {a:Addr} {o:Obj} {es:Array (Int×Value)} {t:SetTable} {ep:Nat}
theorem cH (Z:A.handled=none) (H:s.heap.get? a=some o) (x:en knd o S n es ep t)
  (q:∀ z vs,(∀ b ob,s.heap.get? b=some ob->z.heap.get? b=some ob)->z={ s with heap:=z.heap,drawn:=z.drawn,toks:=z.toks }->vs.Perm (es.toList.map (·.2))->s.heap.objs.size<z.heap.objs.size->Q vs z):wpAny (model prog w) A (collect (.ref a)) Q E s:=by
 have U:=Am H;have G:es.size<4096:=x.2.2.2.2.1;refine Ag (Ec (BA PySem.F.entry_proto_collect ?_));rw [BP PySem.F.plain_proto_collect _];refine Ag (AK (Ai ⟨DJ DR _,BA PySem.F.entry_list_iadd ?_⟩));rw [BP DR _];have k:=Ah ({ cls:=.type "list",data:=.seq ([]:List Value).toArray }:Obj) H;have N:Shared.TypeIs { s with heap:=s.heap.push { cls:=.type "list",data:=.seq ([]:List Value).toArray } } (.ref a) "set":=⟨o,k,x.1.1⟩;have R:(s.heap.push { cls:=.type "list",data:=.seq ([]:List Value).toArray }).get? s.heap.objs.size=some { cls:=.type "list",data:=.seq ([]:List Value).toArray }:=An _ rfl;have hz:(s.heap.push { cls:=.type "list",data:=.seq ([]:List Value).toArray }).objs.size=s.heap.objs.size+1:=BG _ _;show wpAny _ A.in1 (Builtin.List.listExtendWith (.ref s.heap.objs.size) (.ref a) (.ref s.heap.objs.size)) _ _ _;have T:Builtin.List.listSameRef (.ref s.heap.objs.size) (.ref a)=false:=by
  have:=CK U;simp [Builtin.List.listSameRef,this]
 refine Ag (Co N ?_);rw [if_neg (by rw [T];decide)];refine Ag (lO k x λI z d=>Ag (AS ?_));have j:z.TypeIs (.ref a) "set":=⟨o,d.keep _ _ k,x.1.1⟩;refine Ag (wpAny_specialOf j PySem.F.slot_set_len.lookup ?_)
 wp_delta
 refine Ag (DQ (b:=true) j (by rw [Ed];kernel_rfl) ?_);refine Ag (Co j (Ai ?_));rw [if_pos (by decide)];refine Ag (Cc ?_);obtain ⟨vs,X,St,p,W,st,V⟩:=d.walk;have D:=d.keep _ _ R;refine Ag ?_;refine Ag (wpAny_updateSeq D rfl ?_);have C:=AY (Obj.mapSeq (·.push Value.none)) D rfl;refine wpAny_updateSeq C rfl ?_;have F:=AY (Obj.mapSeq (·.pop)) C rfl;have L:s.heap.objs.size∉X:=λhm=>by
  rcases V _ hm with u | u
  ·grind
  ·grind
 have B:∀ b ob,b≠s.heap.objs.size->z.heap.get? b=some ob->((z.heap.update s.heap.objs.size (Obj.mapSeq (·.push Value.none))).update s.heap.objs.size (Obj.mapSeq (·.pop))).get? b=some ob:=
  λb ob l e=>(Bq _ _ (Ne.symm l)).trans ((Bq _ _ (Ne.symm l)).trans e)
 have J:=W A.in1 Z;refine Ai ⟨DJ PySem.F.plain_extend_loop _,codeAny_extend_loopS J.toS (by rw [AF];omega) _ L _ es.size 0 _ _ _ rfl (Bh _) (J.frame 0 _ _ st λb l ob e=>B b ob (λh=>L (h▸l)) e) F (ItemsOf.nil _) λy f c m v g=>?_⟩;refine Ag (wpAny_load v (Ai (q y f.toList (λb ob e=>?_) ?_ ?_ (Am v))))
 ·have K:=Am e;refine m.heap b ob (λl=>?_) (B b ob (Aq K) (d.keep b ob (Ah _ e)));rcases AA.mp l with h | h
  ·grind
  ·have:=d.new;rw [<- AX.mp h,hz] at this;exact absurd (Az K (Nat.le_of_succ_le this)) (BQ _)
 ·have P:=m.gens;have Y:=m.os;have r:=d.rest;have r1:z.gens=s.gens:=by rw [r]
  have r2:z.os=s.os:=by rw [r]
  obtain ⟨yh,yg,yd,yt,yo⟩:=y;subst P Y;rw [r1,r2]
 ·have:f.toList=vs:=by
   have ln:vs.length=es.size:=by rw [p.length_eq,Aj,Ax]
   refine List.ext_getElem (by rw [Ax,g.1,ln]) λi O M=>?_;have:vs[i]?=some f.toList[i]:=g.2 i f.toList[i] (by rw [<- Bn];exact Ak O);rw [Ak M,Option.some.injEq] at this;exact this.symm
  rw [this];exact p
end
section
variable {prog:Program} {w:World} {A:Around} {E:Value->Shared->Prop} {s:Shared} {S:Int->Bool} {n:Nat} {a:Addr}
theorem O0 (h:ElemsOf (intKind prog w) l):∃ a,IntsAre (l.map (·.2)) a/\∀ k,k∈a↔∃ e∈l,(intKind prog w).is k e.2=true:=by
 induction l with
 | nil=>exact ⟨[],.nil,λk=>by simp⟩
 | cons e l d=>
  obtain ⟨a,g,c⟩:=d h.tail;obtain ⟨⟨k,b,_⟩,_⟩:=h.head;obtain ⟨t,f⟩:=Value.isInt_shape b;refine ⟨k :: a,?_,λj=>?_⟩
  ·rw [AQ,f];exact .cons k t g
  ·rw [AA,c];have:(intKind prog w).is j e.2=true↔j=k:=by
    rw [KeyKind.is_eq_decide b j,AD]
   constructor
   ·grind
   ·grind
theorem eR:∀ {us vs:List Value} {ks:List Int},us.Perm vs->IntsAre vs ks->∃ js,IntsAre us js/\js.Perm ks:=λ{us vs ks} p=>by
 induction p generalizing ks with
 | nil=>grind
 | cons x _ ih=>
  intro h;cases h with
  | cons n t h=>
   obtain ⟨js,a,b⟩:=ih h;exact ⟨n :: js,.cons n t a,b.cons n⟩
 | swap x y l=>
  intro h;cases h with
  | cons n t h=>
   cases h with
   | cons m u h=>exact ⟨_,.cons m u (.cons n t h),.swap _ _ _⟩
 | trans _ _ i1 i2=>
  intro h;obtain ⟨js,a,b⟩:=i2 h;obtain ⟨ms,c,d⟩:=i1 a;exact ⟨ms,c,d.trans b⟩
theorem bM:∀ {l m:List Int},l.Nodup->(∀ x∈l,x∈m)->l.length=m.length->l.Perm m
 | [],m,_,_,e=>by
  have:m=[]:=BY.mp e.symm;subst this;exact .refl _
 | x :: l,m,a,b,e=>by
  have d:=b x Ay;rw [Ce] at a;have f:=bM a.2 (λy c=>(List.mem_erase_of_ne (λh:y=x=>a.1 (h▸c))).mpr (b y (Aw _ c))) (by
   rw [DK d];simp at e;omega)
  exact (f.cons x).trans (List.perm_cons_erase d).symm
theorem sortLHt (v:A.handled=none) (F:SetL (intKind prog w) s.heap a (C8 ns) ns.length) (r:ns.Nodup) (D:ns.length<64)
  (q:∀ (z:Shared) (p:Addr) (out:Array Value) (ms:List Int) (c:Nat),(∀ b ob,s.heap.get? b=some ob->z.heap.get? b=some ob)->z={ s with heap:=z.heap,drawn:=z.drawn,toks:=z.toks }->s.heap.objs.size<=p->z.heap.get? p=some (seqObj "list" out c)->IntsAre out.toList ms->ms.Perm ns->ms.Pairwise (·<=·)->Q (.ref p) z) :
  wpAny (model prog w) A (call (.builtin "sorted") [.ref a]) Q E s:=by
 obtain ⟨o,es,J,t,l,x⟩:=F;obtain ⟨u,i,k2⟩:=O0 x.2.2.1;have j:u.length=ns.length:=by
  rw [<- IntsAre.length i,Aj,Ax];exact x.2.2.2.2.2.2.1
 have m:=bM r (λy C=>(k2 y).mpr ((x.2.2.2.1 y).mp (by simpa [C8] using C))) j.symm;refine Cw DI Dz DA (DB _) ?_;refine Ag (Ai (Ag (cH (by simp [v]) l x λz vs f rs p I=>Ag (Cg ?_ (by rw [p.length_eq,Aj,Ax,AF];have z:es.size<4096:=x.2.2.2.2.1;omega)))));obtain ⟨js,k,g⟩:=eR p i;have K:vs.length=ns.length:=by rw [IntsAre.length k,g.length_eq,j]
 have d:(z.heap.push (seqObj "list" vs.toArray 0)).get? z.heap.objs.size=some (seqObj "list" vs.toArray 0):=An _ rfl;refine Ag (AS (Ba Dq ⟨_,d,rfl⟩ Dj (Dr d k (by omega) λout ms H n G=>⟨_,rfl,Ai ⟨_,rfl,?_⟩⟩) (Ds _)));obtain ⟨c,B⟩:=sortedHeap_at d;refine q _ _ out ms c (λb ob e=>?_) ?_ (BZ I) B H (n.trans (g.trans m.symm)) G
 ·have h:=Am (f b ob e);rw [sortedHeap_old (Aq h) (by rw [DO];exact AE h)];exact Ah _ (f b ob e)
 ·grind
end
end HT
namespace L3
open PySem PySem.Spec PyProof.Rows L2
def CXr (P:Program) (w:World) (K:PySem.W.Frag):List PySem.Env->Hp->Shared->XK->Value->Shared->Prop:=λouter H s E e s'=>
 ∃ a C d tb H',e=.ref a/\s'.os=s.os/\AllBare s'.gens/\Un (frs outer) [] H H' s.heap s'.heap/\HOk P w H' s'.heap/\Fx K H' a C d tb/\E e none H'
abbrev CXd (P:Program) (w:World) (K:PySem.W.Frag):CXT:=⟨CXr P w K,false⟩
section
variable {K:PySem.W.Frag} {cl:Nat->Addr} {xe xe':Addr->Hp->Prop} {α β:Type} {μ:Mp} {H H':Hp} {S:Sto} {a C:Addr} {d tb:Option Addr} {P:Program} {w:World} {h:Heap}
theorem Post.ximp {r:R α} {G:α->Sto->Mp->Hp->Prop} (p:Post K cl xe μ H r G) (k:∀ n S μ' H' a,r=.exn n S->Lat μ H μ' H'->Rep K cl μ' S H'->μ'.pl[n]?=some a->xe a H'->xe' a H'):Post K cl xe' μ H r G:=by
 cases r with
 | ok a S=>exact p
 | exn n S=>exact λμ' H' a l r e=>k n S μ' H' a rfl l r e (p μ' H' a l r e)
 | bad=>exact p
def nx (m:M α):M α:=λS=>match m S with
 | .exn _ _=>.bad
 | r=>r
theorem Post.nx {m:M α} {G:α->Sto->Mp->Hp->Prop} (p:Post K cl xe μ H (nx m S) G):Post K cl xe' μ H (m S) G:=by
 unfold L3.nx at p;cases e:m S with
 | ok a S1=>rw [e] at p;exact p
 | exn n S1=>rw [e] at p;exact p.elim
 | bad=>rw [e] at p;exact p
theorem Rep.mv {n:Nat} (r:Rep K cl μ S H) (hk:HOk P w H h) (e:μ.pl[n]?=some a) (fx:H a=some (N3 tb a C d)) (m:Mv H a C d H'):Lat μ H μ H'/\Rep K cl μ S H':=by
 have am:a∈μ.pl:=AT e;have l:Lat μ H μ H':=⟨λ_ _ h=>h,λb o q nb=>m.1 b o (λz=>nb (z▸am)) q,λ_ h=>.inl h,rfl⟩;refine ⟨l,r.len,r.nd,λi o b e1 e2=>?_,λb mb=>let ⟨h1,u,h2⟩:=r.res b mb;⟨h1,u,l.oth _ _ h2 h1⟩,r.tb.mv λa u e n1 n2=>⟨l.oth _ _ e n1,n1,n2⟩⟩;have ho:=r.ats i o b e1 e2;by_cases hb:b=a
 ·subst hb;cases o with
  | lst ds=>obtain ⟨xs,q,_⟩:=ho;rw [fx] at q;simp [N3] at q
  | dct kvs=>obtain ⟨xs,q,_⟩:=ho;rw [fx] at q;simp [N3] at q
  | exc c fs=>
   obtain ⟨xc,gs,q,fr,o⟩:=ho;obtain ⟨tb',m2⟩:=m.2;obtain ⟨vs,q1,_⟩:=(hk b _ fx).1;rcases o with ⟨z,e2⟩ | ⟨d',h1,h2,e2,e3⟩
   ·obtain ⟨vs2,q2,_⟩:=(hk b _ e2).1;rw [q1] at q2;cases q2;exact ⟨xc,gs,Paired.mono (λ_ _ ⟨z,w⟩=>⟨z,w.later l⟩) q,tb',.inl ⟨z,m2⟩⟩
   ·obtain ⟨vs2,q2,_⟩:=(hk b _ e2).1;rw [q1] at q2;cases q2;exact ⟨xc,gs,Paired.mono (λ_ _ ⟨z,w⟩=>⟨z,w.later l⟩) q,tb',.inr ⟨d',h1,h2,m2,m.1 d' _ h1 e3⟩⟩
 ·obtain ⟨u,q⟩:=ho.some;exact ho.later l (by rw [q];exact m.1 b u hb q)
end
def xOf (X:Cx) (a:Addr) (H:Hp):Prop:=∀ (pins:List (Addr×Obj)) (σ:L2.St) (s:Shared) (C:Addr) (d tb:Option Addr),L2.Inv X pins σ H s->Fx X.K H a C d tb->X.xe (.ref a) s
def spX (K:PySem.W.Frag) (cl:Nat->Addr) (n:Nat) (run:List D->M D):Sp:=λvs H Q E=>vs.length=n/\∃ μ S ds,RDs K μ H ds vs/\Rep K cl μ S H/\Post K cl (gQ E) μ H (run ds S) λd _ μ' H'=>∀ v,RD K μ' H' d v->Q v H'
section
variable {K:PySem.W.Frag} {cl:Nat->Addr} {xe xe':Addr->Hp->Prop} {α:Type} {μ:Mp} {H:Hp}
theorem Post.up {r:R α} {G:α->Sto->Mp->Hp->Prop} (p:Post K cl xe μ H r G) (k:∀ a H',xe a H'->xe' a H'):Post K cl xe' μ H r G:=p.ximp λ_ _ _ H' a _ _ _ _ h=>k a H' h
theorem Post.x0 {r:R α} {G:α->Sto->Mp->Hp->Prop} (p:Post K cl (gQ E0) μ H r G):Post K cl xe μ H r G:=p.up λ_ _ z=>False.elim z
end
abbrev x0:Addr->Hp->Prop:=gQ E0
section
variable {X:Cx} {cl:Nat->Addr} {xe:Addr->Hp->Prop} {e tg:Expr} {es:List Expr}
theorem PE.x0 {f:Env->M D} (h:PE X e (tD X.K cl xe f)):PE X e (tD X.K cl x0 f):=PE.imp h λσ H Q ⟨μ,S,ρ,eo,rp,p⟩=>⟨μ,S,ρ,eo,rp,p.x0⟩
theorem PTL.x0 {f:Env->M Bool} (h:PTL X es (tBo X.K cl xe f)):PTL X es (tBo X.K cl x0 f):=λpins s σ H Q I ⟨μ,S,ρ,eo,rp,p⟩=>h pins s σ H Q I ⟨μ,S,ρ,eo,rp,p.x0⟩
theorem PI.x0 {f:Env->M (Src×Nat)} (h:PI X tg e (tIt X.K cl xe f)):PI X tg e (tIt X.K cl x0 f):=PI.imp h λσ H Q ⟨μ,S,ρ,eo,rp,p⟩=>⟨μ,S,ρ,eo,rp,p.x0⟩
theorem PSs.x0 {sts:List Stmt} {f:Env->M Fl} (h:PSs X sts (sD X.K cl xe f)):PSs X sts (sD X.K cl x0 f):=PSs.imp h λD σ H ⟨μ,S,ρ,eo,rp,p⟩=>⟨μ,S,ρ,eo,rp,p.x0⟩
theorem aE {fs:Env->M (List D)} (h:PE X e (dZ X.K cl x0 fs)):PE X e (tD X.K cl xe λρ=>bind (nx (fs ρ)) λds=>ret (.lst ds)):=PE.imp h λσ H Q ⟨μ,S,ρ,eo,rp,p⟩=>
 ⟨μ,S,ρ,eo,rp,p.bind.nx.imp λds S1 μ1 H1 l1 r1 p1 acc ys hl rds=>p1.ret μ1 H1 (Lat.refl _ _) r1 _ (.lst hl rds)⟩
theorem nF:aD (CXd X.prog X.w X.K) X (λev _ H=>∀ a,ev=.ref a->xOf X a H):=λpins σ H s e s' I ⟨a,C,d,tb,H',he,os,bare,un,hok,fx,q⟩=>by
 subst he;exact q a rfl pins σ s' C d tb (I.call' (ch:=[]) os un hok bare λb z=>absurd z (by simp)) fx
theorem hJ {k n:Nat} {a:Addr} {fd:FuncData} {ps:List Str} {x:Str} {p pos:Pos} {fs:Env->M (List D)} {run:List D->M D} (F:FnOk X.prog X.w X.K X.mg X.base (CXd X.prog X.w X.K) k a fd ps (spX X.K cl n run)) (hr:Room false k X.A) (hg:Gl X x) (hm:X.mg x=some (.ref a)) (hk:PySem.W.keepIn X.K (.ref a)=true) (hb:Binds X.K fd ps [])
  (ha:PA X (e :: es) (tDs X.K cl (xOf X) fs)) (hdb:(x==("__debug__" : Str))=false) (hs:(e :: es).all b8=true) :
  PE X (.Call (.Name x p) (e :: es) [] pos) (tD X.K cl (xOf X) λρ=>bind (fs ρ) λds=>if ds.length=n then run ds else bad):=by
 rw [BD,Ao] at hs;exact PE.imp (kN F hr hg hm hk hb .nil nF ha hdb (e8 hs.1) (p0 hs.2)) λσ H Q ⟨μ,S,ρ,eo,rp,p⟩=>
  ⟨μ,S,ρ,eo,rp,p.bind.imp λds S1 μ1 H1 l1 r1 p1 vs rvs=>by
   by_cases hd:ds.length=n
   ·rw [if_pos hd] at p1;exact ⟨by rw [Bj,<- rvs.length];exact hd,μ1,S1,ds,by rw [Bj];exact rvs,r1,p1.up λa H' h a' z=>by cases z;exact h⟩
   ·rw [if_neg hd] at p1;exact p1.elim⟩
theorem fN {k:Nat} {a:Addr} {fd:FuncData} {ps:List Str} {x:Str} {p pos:Pos} {run:List D->M D} (F:FnOk X.prog X.w X.K X.mg X.base (CXd X.prog X.w X.K) k a fd ps (spX X.K cl 0 run)) (hr:Room false k X.A) (hg:Gl X x) (hm:X.mg x=some (.ref a)) (hk:PySem.W.keepIn X.K (.ref a)=true) (hb:Binds X.K fd ps [])
  (hdb:(x==("__debug__" : Str))=false):PE X (.Call (.Name x p) [] [] pos) (tD X.K cl (xOf X) λρ=>run []):=PE.imp (iU F hr hg hm hk hb .nil nF hdb) λσ H Q ⟨μ,S,ρ,eo,rp,p⟩=>⟨rfl,μ,S,[],.nil,rp,p.up λa H' h a' z=>by cases z;exact h⟩
end
inductive G where
 | val (d:D) | fn (i n:Nat) | err (c:Nat) (fs:List Str) | dct (kvs:List (Str×D))
structure Gm where
 gl:List (Str×G)
 sub:Nat->Nat->Bool
 flds:List Str
 qs:List Nat:=[]
structure Lc where
 N:List Str
 sc:Scope
 fr:Bool
 mu:List Str
def quiet (lc:Lc):Bool:=lc.mu.contains ("~" : Str)
structure Ev where
 e:Lc->Expr->Env->M D
 t:Lc->Expr->Env->M Bool
 s:Lc->Stmt->Env->M Fl
 i:Lc->Expr->Expr->Env->M (Src×Nat)
structure EvK where
 e:Lc->Expr->Env->∀ {α:Type},(D->M α)->M α
 t:Lc->Expr->Env->∀ {α:Type},(Bool->M α)->M α
 s:Lc->Stmt->Env->∀ {α:Type},(Fl->M α)->M α
 i:Lc->Expr->Expr->Env->∀ {α:Type},(Src×Nat->M α)->M α
structure EqK (r:Ev) (q:EvK):Prop where
 e:∀ lc e ρ {α:Type} (k:D->M α),q.e lc e ρ k=bind (r.e lc e ρ) k
 t:∀ lc e ρ {α:Type} (k:Bool->M α),q.t lc e ρ k=bind (r.t lc e ρ) k
 s:∀ lc e ρ {α:Type} (k:Fl->M α),q.s lc e ρ k=bind (r.s lc e ρ) k
 i:∀ lc g e ρ {α:Type} (k:Src×Nat->M α),q.i lc g e ρ k=bind (r.i lc g e ρ) k
theorem bV {α β:Type} (k:α->M β):bind bad k=bad:=rfl
theorem y3 {α β:Type} {c:Prop} [Decidable c] (a b:M α) (k:α->M β):bind (if c then a else b) k=if c then bind a k else bind b k:=by split <;> rfl
theorem D9 {α:Type} (m:M α):bind m ret=m:=by
 funext S;unfold bind ret;cases m S <;> rfl
def e5:List Str->Str->Option Nat
 | [],_=>none
 | y :: ys,x=>if y=x then some 0 else (e5 ys x).map (· + 1)
theorem v3:∀ {N:List Str} {x:Str} {i:Nat},e5 N x=some i->N[i]?=some x
 | [],_,_,e=>by cases e
 | y :: ys,x,i,e=>by
  unfold e5 at e;split at e
  ·rename_i h;cases e;simp [h]
  ·cases q:e5 ys x with
   | none=>rw [q] at e;cases e
   | some j=>rw [q] at e;cases e;simpa using v3 q
def jI (sc:Scope) (x:Str):Bool:=decide (sc.names.lookup x=some .local)||decide (sc.names.lookup x=some .cell)||decide (sc.names.lookup x=some .free)
def ax (sc:Scope) (x:Str):Bool:=decide (sc.names.lookup x=some .local)||decide (sc.names.lookup x=some .cell)
def glB (sc:Scope) (x:Str):Bool:=decide (sc.names.lookup x=some .globalImplicit)
def S7 (x:Str):Bool:=!(x==("__debug__" : Str))&&!(x==("__classdict__" : Str))&&!(x==("__name__" : Str))
theorem lq {sc:Scope} {x:Str} (h:jI sc x=true):Vis sc x:=by
 simpa [jI,Vis,or_assoc] using h
theorem I0 {sc:Scope} {x:Str} (h:ax sc x=true):L2.Loc sc x:=by
 simpa [ax,L2.Loc] using h
theorem V7 {x:Str} (h:S7 x=true):(x==("__debug__" : Str))=false/\(x==("__classdict__" : Str))=false/\x ≠ "__name__":=by
 simpa [S7,and_assoc] using h
structure Tx where
 P:Program
 w:World
 K:PySem.W.Frag
 mg:Str->Option Value
 base:Heap
 cl:Nat->Addr
def bnames:List Str:=["len","tuple","list","repr","isinstance","range","int","bool","str","dict","ValueError","all","any","sum","max","min","sorted","set","enumerate","abs","zip"]
abbrev CXq (q:Bool):CXT:=⟨λ_ _ _ _ _ _=>False,q⟩
structure FnX (T:Tx) (k i n:Nat) (x:Str) (run:List D->M D):Prop where
 ex:∃ (a:Addr) (fd:FuncData) (ps:List Str),ps.length=n/\FnOk T.P T.w T.K T.mg T.base (CXd T.P T.w T.K) k a fd ps (spX T.K T.cl n run)/\T.mg x=some (.ref a)/\PySem.W.keepIn T.K (.ref a)=true/\Binds T.K fd ps []
structure FnAt (T:Tx) (k i n:Nat) (x:Str) (run:List D->M D):Prop where
 ex:∃ (a:Addr) (fd:FuncData) (ps:List Str),ps.length=n/\FnOk T.P T.w T.K T.mg T.base (CXq true) k a fd ps (spD T.K T.cl n run)/\T.mg x=some (.ref a)/\PySem.W.keepIn T.K (.ref a)=true/\Binds T.K fd ps []
structure ErrAt (T:Tx) (x:Str) (c:Nat) (fs:List Str):Prop where
 xc:XC T.K (T.cl c)
 mg_:T.mg x=some (.ref (T.cl c))
 ex:∃ (f:Addr) (fd:FuncData) (ps:List Str),PySem.W.findIn T.K (.ref (T.cl c)) "__init__" = some (some (.ref f))/\PySem.W.isFn T.K (.ref f)=true/\Binds T.K fd ps [] /\
  match fs with
  | []=>FnOk T.P T.w T.K T.mg T.base CX0 2 f fd ps (Hn.spHE T.K)
  | [g]=>FnOk T.P T.w T.K T.mg T.base CX0 2 f fd ps (Hn.sp1 T.K g)
  | [g,g2]=>FnOk T.P T.w T.K T.mg T.base CX0 2 f fd ps (Hn.sp2 T.K g g2)
  | _=>False
def iD (T:Tx) (x:Str) (kvs:List (Str×D)):Prop:=∃ (a:Addr) (es:Array DictEntry) (n:Nat),T.mg x=some (.ref a)/\T.K.lookup a=some ⟨.type "dict",none,.dict es n,#[]⟩/\PySem.W.KeysLit T.w.params es.toList/\∀ k d,kvs.lookup k=some d->∃ u v,PySem.W.nsIn T.K a k=some (some u)/\RelV v u/\∀ μ H,RD T.K μ H d v
structure TxOk (T:Tx) (Γ:Gm) (k:Nat) (C:Nat->List D->M D):Prop where
 blt:∀ x∈bnames,Γ.gl.lookup x=none->T.mg x=none
 val:∀ x d,Γ.gl.lookup x=some (.val d)->∃ u v,T.mg x=some u/\RelV v u/\∀ μ H,RD T.K μ H d v
 fn:∀ x i n,Γ.gl.lookup x=some (.fn i n)->i∉Γ.qs->FnX T k i n x (C i)
 fnq:∀ x i n,Γ.gl.lookup x=some (.fn i n)->i∈Γ.qs->FnAt T k i n x (C i)
 err:∀ x c fs,Γ.gl.lookup x=some (.err c fs)->ErrAt T x c fs/\(∀ g∈fs,A9 T.K (T.cl c) g)
 sub:∀ x c c0 fs,Γ.gl.lookup x=some (.err c0 fs)->XC T.K (T.cl c)->PySem.W.kitOne T.K (.ref (T.cl c)) (.ref (T.cl c0))=some (Γ.sub c c0)
 subV:∀ c,XC T.K (T.cl c)->PySem.W.kitOne T.K (.ref (T.cl c)) (.type "ValueError")=some true
 subT:∀ c,XC T.K (T.cl c)->∀ t∈tys,PySem.W.kitOne T.K (.ref (T.cl c)) (.type t)=some false
 fld:∀ g∈Γ.flds,∀ c,XC T.K (T.cl c)->A9 T.K (T.cl c) g
 dct:∀ x kvs,Γ.gl.lookup x=some (.dct kvs)->iD T x kvs
 k3:3<=k
structure CxOk (T:Tx) (k:Nat) (lc:Lc) (X:Cx):Prop where
 prog:X.prog=T.P
 w:X.w=T.w
 K:X.K=T.K
 mg:X.mg=T.mg
 base:X.base=T.base
 N:X.N=lc.N
 nd:lc.N.Nodup
 sc:X.env.scope=lc.sc
 calm:quiet lc=false->X.calm=true
 room:Room (quiet lc) k X.A
 po:PassesOwn (model X.prog X.w) X.A X.env X.xe
 fn:X.fn=λ_=>lc.fr
 kd:lc.sc.kind=.function
 own:lc.fr=true->quiet lc=false->X.stack=X.env :: X.outer/\X.env.frame=some X.env.locals
 code:lc.fr=true->lc.mu.contains ("lam" : Str)=true->∃ c,X.env.code=.ref c/\PySem.W.codeHdIn T.K c (T.cl 1000000)=true/\kE T.K T.cl/\X.env.qual ++ "<lambda>" = cZ T.K (T.cl 1000000)
structure EvOk (T:Tx) (k:Nat) (r:Ev):Prop where
 e:∀ lc X,CxOk T k lc X->∀ e,PE X e (tD T.K T.cl (xOf X) (r.e lc e))
 t:∀ lc X,CxOk T k lc X->∀ e,PT X e (tBo T.K T.cl (xOf X) (r.t lc e))
 s:∀ lc X,CxOk T k lc X->lc.fr=true->∀ st,PS X st (sD T.K T.cl (xOf X) (r.s lc st))
 i:∀ lc X,CxOk T k lc X->∀ g e,PI X g e (tIt T.K T.cl (xOf X) (r.i lc g e))
section
variable {T:Tx} {k:Nat} {r:Ev} {Γ:Gm} {C:Nat->List D->M D} {lc:Lc} {X:Cx} {pos:Pos}
theorem EvOk.ex (R:EvOk T k r) (h:CxOk T k lc X) (e:Expr):PE X e (tD X.K T.cl (xOf X) (r.e lc e)):=by rw [h.K];exact R.e lc X h e
theorem EvOk.tx (R:EvOk T k r) (h:CxOk T k lc X) (e:Expr):PT X e (tBo X.K T.cl (xOf X) (r.t lc e)):=by rw [h.K];exact R.t lc X h e
theorem EvOk.ix (R:EvOk T k r) (h:CxOk T k lc X) (g e:Expr):PI X g e (tIt X.K T.cl (xOf X) (r.i lc g e)):=by rw [h.K];exact R.i lc X h g e
theorem EvOk.sx (R:EvOk T k r) (h:CxOk T k lc X) (hf:lc.fr=true) (st:Stmt):PS X st (sD X.K T.cl (xOf X) (r.s lc st)):=by rw [h.K];exact R.s lc X h hf st
theorem CxOk.u64 (h:CxOk T k lc X):X.A.units+64<cLine:=h.room.units
theorem CxOk.u80 (h:CxOk T k lc X):X.A.units+80<cLine:=by have:=h.room.un;omega
theorem CxOk.u1 (h:CxOk T k lc X):X.A.units+1<cLine:=sR h.room
theorem CxOk.gl (h:CxOk T k lc X) {x:Str} (hg:glB lc.sc x=true):Gl X x:=by
 show X.env.kindOf x=_;unfold PySem.Env.kindOf;rw [h.sc];exact Ck hg
theorem TxOk.none (TX:TxOk T Γ k C) (h:CxOk T k lc X) {x:Str} (hx:x∈bnames) (e:Γ.gl.lookup x=none):X.mg x=none:=by rw [h.mg];exact TX.blt x hx e
theorem CxOk.nd' (h:CxOk T k lc X):X.N.Nodup:=by rw [h.N];exact h.nd
theorem CxOk.fn1 (h:CxOk T k lc X) (hf:lc.fr=true) {x:Str}:X.fn x=true:=by rw [h.fn];exact hf
theorem CxOk.room0 (h:CxOk T k lc X) (hq:quiet lc=false):Room false k X.A:=by have:=h.room;rw [hq] at this;exact this
end
abbrev Cf:=Nat->List D->M D
structure RuE:Type 1 where
 is:Gm->Lc->Expr->Bool
 run:Ev->Gm->Cf->Lc->Expr->Env->M D
 ok:∀ {T:Tx} {k:Nat} {r:Ev} {Γ:Gm} {C:Cf} {lc:Lc} {X:Cx} (e:Expr),EvOk T k r->TxOk T Γ k C->CxOk T k lc X->is Γ lc e=true->PE X e (tD X.K T.cl (xOf X) (run r Γ C lc e))
 runK:EvK->Gm->Cf->Lc->Expr->Env->∀ {α:Type},(D->M α)->M α
 eq:∀ {r:Ev} {q:EvK} {Γ:Gm} {C:Cf} {lc:Lc} (e:Expr) (ρ:Env) {α:Type} (k:D->M α),EqK r q->runK q Γ C lc e ρ k=bind (run r Γ C lc e ρ) k
structure RuT:Type 1 where
 is:Gm->Lc->Expr->Bool
 run:Ev->Gm->Cf->Lc->Expr->Env->M Bool
 ok:∀ {T:Tx} {k:Nat} {r:Ev} {Γ:Gm} {C:Cf} {lc:Lc} {X:Cx} (e:Expr),EvOk T k r->TxOk T Γ k C->CxOk T k lc X->is Γ lc e=true->PT X e (tBo X.K T.cl (xOf X) (run r Γ C lc e))
 runK:EvK->Gm->Cf->Lc->Expr->Env->∀ {α:Type},(Bool->M α)->M α
 eq:∀ {r:Ev} {q:EvK} {Γ:Gm} {C:Cf} {lc:Lc} (e:Expr) (ρ:Env) {α:Type} (k:Bool->M α),EqK r q->runK q Γ C lc e ρ k=bind (run r Γ C lc e ρ) k
structure RuS:Type 1 where
 is:Gm->Lc->Stmt->Bool
 run:Ev->Gm->Cf->Lc->Stmt->Env->M Fl
 ok:∀ {T:Tx} {k:Nat} {r:Ev} {Γ:Gm} {C:Cf} {lc:Lc} {X:Cx} (e:Stmt),EvOk T k r->TxOk T Γ k C->CxOk T k lc X->lc.fr=true->is Γ lc e=true->PS X e (sD X.K T.cl (xOf X) (run r Γ C lc e))
 runK:EvK->Gm->Cf->Lc->Stmt->Env->∀ {α:Type},(Fl->M α)->M α
 eq:∀ {r:Ev} {q:EvK} {Γ:Gm} {C:Cf} {lc:Lc} (e:Stmt) (ρ:Env) {α:Type} (k:Fl->M α),EqK r q->runK q Γ C lc e ρ k=bind (run r Γ C lc e ρ) k
structure RuI:Type 1 where
 is:Gm->Lc->Expr->Expr->Bool
 run:Ev->Gm->Cf->Lc->Expr->Env->M (Src×Nat)
 ok:∀ {T:Tx} {k:Nat} {r:Ev} {Γ:Gm} {C:Cf} {lc:Lc} {X:Cx} (g e:Expr),EvOk T k r->TxOk T Γ k C->CxOk T k lc X->is Γ lc g e=true->PI X g e (tIt X.K T.cl (xOf X) (run r Γ C lc e))
 runK:EvK->Gm->Cf->Lc->Expr->Env->∀ {α:Type},(Src×Nat->M α)->M α
 eq:∀ {r:Ev} {q:EvK} {Γ:Gm} {C:Cf} {lc:Lc} (e:Expr) (ρ:Env) {α:Type} (k:Src×Nat->M α),EqK r q->runK q Γ C lc e ρ k=bind (run r Γ C lc e ρ) k
structure Rules:Type 1 where
 es:List RuE
 ts:List RuT
 ss:List RuS
 is:List RuI
section
variable (Rs:Rules) (Γ:Gm) (C:Cf)
def step (r:Ev):Ev:=
 ⟨λlc e=>match Rs.es.find? (λR=>R.is Γ lc e) with
  | some R=>R.run r Γ C lc e
  | none=>λ_=>bad,
 λlc e=>match Rs.ts.find? (λR=>R.is Γ lc e) with
  | some R=>R.run r Γ C lc e
  | none=>λ_=>bad,
 λlc e=>match Rs.ss.find? (λR=>R.is Γ lc e) with
  | some R=>R.run r Γ C lc e
  | none=>λ_=>bad,
 λlc g e=>match Rs.is.find? (λR=>R.is Γ lc g e) with
  | some R=>R.run r Γ C lc e
  | none=>λ_=>bad⟩
def badEv:Ev:=⟨λ_ _ _=>bad,λ_ _ _=>bad,λ_ _ _=>bad,λ_ _ _ _=>bad⟩
def ev:Nat->Ev
 | 0=>badEv
 | n+1=>step Rs Γ C (ev n)
def me (q:EvK):EvK:=
 ⟨λlc e ρ _ k=>match Rs.es.find? (λR=>R.is Γ lc e) with
  | some R=>R.runK q Γ C lc e ρ k
  | none=>bad,
 λlc e ρ _ k=>match Rs.ts.find? (λR=>R.is Γ lc e) with
  | some R=>R.runK q Γ C lc e ρ k
  | none=>bad,
 λlc e ρ _ k=>match Rs.ss.find? (λR=>R.is Γ lc e) with
  | some R=>R.runK q Γ C lc e ρ k
  | none=>bad,
 λlc g e ρ _ k=>match Rs.is.find? (λR=>R.is Γ lc g e) with
  | some R=>R.runK q Γ C lc e ρ k
  | none=>bad⟩
def tw:EvK:=⟨λ_ _ _ _ _=>bad,λ_ _ _ _ _=>bad,λ_ _ _ _ _=>bad,λ_ _ _ _ _ _=>bad⟩
def evK:Nat->EvK
 | 0=>tw
 | n+1=>me Rs Γ C (evK n)
end
section
variable {Rs:Rules} {T:Tx} {k:Nat} {r:Ev} {q:EvK} {Γ:Gm} {C:Cf} {lc:Lc} {X:Cx}
theorem mY (TX:TxOk T Γ k C) (R:EvOk T k r):EvOk T k (step Rs Γ C r):=by
 refine ⟨λlc X h e=>?_,λlc X h e=>?_,λlc X h hf e=>?_,λlc X h g e=>?_⟩
 ·rw [<- h.K];show PE X e (tD X.K T.cl (xOf X) (match Rs.es.find? (λR=>R.is Γ lc e) with
   | some R=>R.run r Γ C lc e
   | none=>λ_=>bad))
  cases hf:Rs.es.find? (λR=>R.is Γ lc e) with
  | none=>exact f9
  | some R0=>exact R0.ok e R TX h (by have:=Dk hf;exact this)
 ·rw [<- h.K];show PT X e (tBo X.K T.cl (xOf X) (match Rs.ts.find? (λR=>R.is Γ lc e) with
   | some R=>R.run r Γ C lc e
   | none=>λ_=>bad))
  cases hf:Rs.ts.find? (λR=>R.is Γ lc e) with
  | none=>exact bv
  | some R0=>exact R0.ok e R TX h (by have:=Dk hf;exact this)
 ·rw [<- h.K];show PS X e (sD X.K T.cl (xOf X) (match Rs.ss.find? (λR=>R.is Γ lc e) with
   | some R=>R.run r Γ C lc e
   | none=>λ_=>bad))
  cases hq:Rs.ss.find? (λR=>R.is Γ lc e) with
  | none=>exact J7
  | some R0=>exact R0.ok e R TX h hf (by have:=Dk hq;exact this)
 ·rw [<- h.K];show PI X g e (tIt X.K T.cl (xOf X) (match Rs.is.find? (λR=>R.is Γ lc g e) with
   | some R=>R.run r Γ C lc e
   | none=>λ_=>bad))
  cases hf:Rs.is.find? (λR=>R.is Γ lc g e) with
  | none=>exact eE
  | some R0=>exact R0.ok g e R TX h (by have:=Dk hf;exact this)
theorem jK:EvOk T k badEv:=⟨λlc X h e=>by rw [<- h.K];exact f9,λlc X h e=>by rw [<- h.K];exact bv,λlc X h _ st=>by rw [<- h.K];exact J7,λlc X h g e=>by rw [<- h.K];exact eE⟩
theorem gE (TX:TxOk T Γ k C):∀ n,EvOk T k (ev Rs Γ C n)
 | 0=>jK
 | n+1=>mY TX (gE TX n)
theorem lM (h:EqK r q):EqK (step Rs Γ C r) (me Rs Γ C q):=by
 refine ⟨λlc e ρ _ k=>?_,λlc e ρ _ k=>?_,λlc e ρ _ k=>?_,λlc g e ρ _ k=>?_⟩
 ·show (match Rs.es.find? (λ(R:RuE)=>R.is Γ lc e) with
   | some R=>R.runK q Γ C lc e ρ k
   | none=>bad)=bind ((match Rs.es.find? (λ(R:RuE)=>R.is Γ lc e) with
   | some R=>R.run r Γ C lc e
   | none=>λ_=>bad) ρ) k
  cases Rs.es.find? (λ(R:RuE)=>R.is Γ lc e) with
  | none=>rfl
  | some R0=>exact R0.eq e ρ k h
 ·show (match Rs.ts.find? (λ(R:RuT)=>R.is Γ lc e) with
   | some R=>R.runK q Γ C lc e ρ k
   | none=>bad)=bind ((match Rs.ts.find? (λ(R:RuT)=>R.is Γ lc e) with
   | some R=>R.run r Γ C lc e
   | none=>λ_=>bad) ρ) k
  cases Rs.ts.find? (λ(R:RuT)=>R.is Γ lc e) with
  | none=>rfl
  | some R0=>exact R0.eq e ρ k h
 ·show (match Rs.ss.find? (λ(R:RuS)=>R.is Γ lc e) with
   | some R=>R.runK q Γ C lc e ρ k
   | none=>bad)=bind ((match Rs.ss.find? (λ(R:RuS)=>R.is Γ lc e) with
   | some R=>R.run r Γ C lc e
   | none=>λ_=>bad) ρ) k
  cases Rs.ss.find? (λ(R:RuS)=>R.is Γ lc e) with
  | none=>rfl
  | some R0=>exact R0.eq e ρ k h
 ·show (match Rs.is.find? (λ(R:RuI)=>R.is Γ lc g e) with
   | some R=>R.runK q Γ C lc e ρ k
   | none=>bad)=bind ((match Rs.is.find? (λ(R:RuI)=>R.is Γ lc g e) with
   | some R=>R.run r Γ C lc e
   | none=>λ_=>bad) ρ) k
  cases Rs.is.find? (λ(R:RuI)=>R.is Γ lc g e) with
  | none=>rfl
  | some R0=>exact R0.eq e ρ k h
theorem mh:∀ n,EqK (ev Rs Γ C n) (evK Rs Γ C n)
 | 0=>⟨λ_ _ _ _ _=>rfl,λ_ _ _ _ _=>rfl,λ_ _ _ _ _=>rfl,λ_ _ _ _ _ _=>rfl⟩
 | n+1=>lM (mh n)
end
section
variable (r:Ev) (q:EvK) (lc:Lc)
def w5:List Expr->Env->M (List D)
 | [],_=>ret []
 | e :: es,ρ=>bind (r.e lc e ρ) λd=>bind (w5 es ρ) λds=>ret (d :: ds)
def A3 {α:Type}:List Expr->Env->(List D->M α)->M α
 | [],_,k=>k []
 | e :: es,ρ,k=>q.e lc e ρ λd=>A3 es ρ λds=>k (d :: ds)
def U1:List Stmt->Env->M Fl
 | [],ρ=>ret (.nx ρ)
 | st :: sts,ρ=>sX (r.s lc st) (U1 sts) ρ
def s0 {α:Type}:List Stmt->Env->(Fl->M α)->M α
 | [],ρ,k=>k (.nx ρ)
 | st :: sts,ρ,k=>q.s lc st ρ λfl=>match fl with
  | .nx ρ'=>s0 sts ρ' k
  | fl=>k fl
end
section
variable {T:Tx} {k:Nat} {r:Ev} {q:EvK} {Γ:Gm} {C:Cf} {lc:Lc} {X:Cx} {pos:Pos}
theorem m8 (h:EqK r q):∀ (es:List Expr) (ρ:Env) {α:Type} (k:List D->M α),A3 q lc es ρ k=bind (w5 r lc es ρ) k
 | [],_,_,_=>rfl
 | e :: es,ρ,_,k=>by
  show q.e lc e ρ (λd=>A3 q lc es ρ λds=>k (d :: ds))=bind (bind (r.e lc e ρ) λd=>bind (w5 r lc es ρ) λds=>ret (d :: ds)) k;rw [h.e,bind_assoc];congr;funext d;rw [m8 h,bind_assoc];rfl
theorem aH (h:EqK r q):∀ (sts:List Stmt) (ρ:Env) {α:Type} (k:Fl->M α),s0 q lc sts ρ k=bind (U1 r lc sts ρ) k
 | [],_,_,_=>rfl
 | st :: sts,ρ,_,k=>by
  show (q.s lc st ρ λfl=>match fl with
   | .nx ρ'=>s0 q lc sts ρ' k
   | fl=>k fl)=bind (bind (r.s lc st ρ) λfl=>match fl with
   | .nx ρ'=>U1 r lc sts ρ'
   | fl=>ret fl) k
  rw [h.s,bind_assoc];congr;funext fl;cases fl with
  | nx ρ'=>exact aH h sts ρ' k
  | bk ρ'=>rfl
  | ct ρ'=>rfl
  | rt d=>rfl
theorem k7 (R:EvOk T k r) (h:CxOk T k lc X):∀ {es:List Expr},es.all b8=true->PA X es (tDs X.K T.cl (xOf X) (w5 r lc es))
 | [],_=>Z9
 | e :: es,hs=>by
  rw [BD,Ao] at hs;exact P7 (R.ex h e) (k7 R h hs.2) hs.1
theorem J9 (R:EvOk T k r) (h:CxOk T k lc X) (hf:lc.fr=true):∀ {sts:List Stmt},PSs X sts (sD X.K T.cl (xOf X) (U1 r lc sts))
 | []=>iQ
 | st :: sts=>li (R.sx h hf st) (J9 R h hf)
end
def oB (c:Const):M D:=match c with
 | .int i=>ret (.int i)
 | .bool b=>ret (.bl b)
 | .none=>ret .non
 | .str x=>ret (.str x)
 | _=>bad
def ol {a:Type} (c:Const) (k:D->M a):M a:=match c with
 | .int i=>k (.int i)
 | .bool b=>k (.bl b)
 | .none=>k .non
 | .str x=>k (.str x)
 | _=>bad
def oD:RuE where
 is _ _ e:=match e with
  | .Constant _ _ _=>true
  | _=>false
 run _ _ _ _ e _:=match e with
  | .Constant c _ _=>oB c
  | _=>bad
 ok e R TX h hi:=by
  cases e with
  | Constant c n p=>
   cases c <;> first
    | exact B4 iO λ_ _=>.int _
    | exact B4 sN λ_ _=>.bl _
    | exact B4 pz λ_ _=>.non
    | exact B4 pH λ_ _=>.str _
    | exact f9
  | _=>exact f9
 runK _ _ _ _ e _ _ k:=match e with
  | .Constant c _ _=>ol c k
  | _=>bad
 eq e ρ _ k h:=by
  cases e with
  | Constant c n p=>cases c <;> rfl
  | _=>rfl
def bS (Γ:Gm) (a:Lc) (x:Str) (ρ:Env):M D:=match e5 a.N x with
 | some i=>if jI a.sc x=true then getD i ρ else bad
 | none=>if glB a.sc x=true then (match Γ.gl.lookup x with
  | some (.val d)=>ret d
  | _=>bad) else bad
def sW {a:Type} (i:Nat) (ρ:Env) (k:D->M a):M a:=match ρ[i]? with
 | some (some d)=>k d
 | _=>bad
def jB {b:Type} (Γ:Gm) (a:Lc) (x:Str) (ρ:Env) (k:D->M b):M b:=match e5 a.N x with
 | some i=>if jI a.sc x=true then sW i ρ k else bad
 | none=>if glB a.sc x=true then (match Γ.gl.lookup x with
  | some (.val d)=>k d
  | _=>bad) else bad
theorem mC {Γ:Gm} {C:Cf} {lc:Lc} {X:Cx} {pos:Pos} (TX:TxOk T Γ k C) (h:CxOk T k lc X) {x:Str} (hn:S7 x=true):PE X (.Name x pos) (tD X.K T.cl (xOf X) (bS Γ lc x)):=by
 unfold bS;obtain ⟨n1,n2,n3⟩:=V7 hn;cases e:e5 lc.N x with
 | some i=>
  by_cases hv:jI lc.sc x=true
  ·simp only [if_pos hv];exact oE (jv (by rw [h.N];exact v3 e) (by rw [h.sc];exact lq hv) n1 n2)
  ·simp only [if_neg hv];exact f9
 | none=>
  by_cases hv:glB lc.sc x=true
  ·simp only [if_pos hv];cases e2:Γ.gl.lookup x with
   | none=>exact f9
   | some g=>
    cases g with
    | val d=>
     obtain ⟨u,v,e3,rv,rd⟩:=TX.val x d e2;exact B4 (kB (h.gl hv) (by rw [h.mg];exact e3) rv n1) λμ H=>by rw [h.K];exact rd μ H
    | fn i n=>exact f9
    | err c fs=>exact f9
    | dct kvs=>exact f9
  ·simp only [if_neg hv];exact f9
theorem lJ (Γ:Gm) (a:Lc) (x:Str) (ρ:Env) {b:Type} (k:D->M b):jB Γ a x ρ k=bind (bS Γ a x ρ) k:=by
 unfold jB bS;cases e5 a.N x with
 | some i=>
  simp only [];split
  ·unfold sW getD;cases ρ[i]? with
   | none=>rfl
   | some o=>cases o <;> rfl
  ·rfl
 | none=>
  simp only [];split
  ·cases Γ.gl.lookup x with
   | none=>rfl
   | some g=>cases g <;> rfl
  ·rfl
def sI:RuE where
 is _ _ e:=match e with
  | .Name x _=>S7 x
  | _=>false
 run _ Γ _ lc e ρ:=match e with
  | .Name x _=>bS Γ lc x ρ
  | _=>bad
 ok e R TX h hi:=by
  cases e with
  | Name x p=>exact mC TX h hi
  | _=>exact f9
 runK _ Γ _ lc e ρ _ k:=match e with
  | .Name x _=>jB Γ lc x ρ k
  | _=>bad
 eq e ρ _ k h:=by
  cases e with
  | Name x p=>exact lJ _ _ x ρ k
  | _=>rfl
def nh (op:Operator):D->D->M D:=match op with
 | .Add=>J5
 | .Sub=>oh
 | .Mult=>aP
 | .Mod=>P3
 | .FloorDiv=>M8
 | .Pow=>cj
 | _=>λ_ _=>bad
def j4 (op:CmpOp):D->D->M D:=match op with
 | .Eq=>eqD false
 | .NotEq=>eqD true
 | .Lt=>ib λi j=>decide (i<j)
 | .LtE=>ib λi j=>decide (i<=j)
 | .Gt=>ib λi j=>decide (j<i)
 | .GtE=>ib λi j=>decide (j<=i)
 | .In=>inD false
 | .NotIn=>inD true
 | .Is=>isD false
 | .IsNot=>isD true
theorem pQ (op:Operator):OpR X (binaryOp op) (rP2 X.K cl xe (nh op)):=by
 cases op <;> first
  | exact tL
  | exact rP
  | exact rj
  | exact tJ
  | exact pS
  | exact rY
  | exact λpins s σ H x y v u Q I a c ⟨μ,S,d,e,f,b,g,p⟩=>p.elim
theorem gb (h:CxOk T k lc X) (op:CmpOp):OpR X (compareOp op) (rP2 X.K cl xe (j4 op)):=by
 cases op
 case Eq=>exact uB h.u64
 case NotEq=>exact tz h.u64
 case Lt=>exact eA sw
 case LtE=>exact eA rc
 case Gt=>exact eA rE
 case GtE=>exact eA sA
 case In=>exact rJ false h.u80
 case NotIn=>exact rJ true h.u80
 case Is=>exact rm false
 case IsNot=>exact rm true
def uC:RuE where
 is _ _ e:=match e with
  | .BinOp _ _ _ _=>true
  | _=>false
 run r _ _ lc e ρ:=match e with
  | .BinOp a op b _=>bind (r.e lc a ρ) λx=>bind (r.e lc b ρ) λy=>nh op x y
  | _=>bad
 ok e R TX h hi:=by
  cases e with
  | BinOp a op b p=>exact nZ (R.ex h _) (R.ex h _) (pQ _)
  | _=>exact f9
 runK q _ _ lc e ρ _ k:=match e with
  | .BinOp a op b _=>q.e lc a ρ λx=>q.e lc b ρ λy=>bind (nh op x y) k
  | _=>bad
 eq e ρ _ k h:=by
  cases e with
  | BinOp a op b p=>simp only [h.e,bind_assoc]
  | _=>rfl
def uU:RuE where
 is _ _ e:=match e with
  | .UnaryOp .USub _ _=>true
  | _=>false
 run r _ _ lc e ρ:=match e with
  | .UnaryOp .USub a _=>bind (r.e lc a ρ) Z0
  | _=>bad
 ok e R TX h hi:=by
  split at hi
  ·exact pJ (R.ex h _)
  ·cases hi
 runK q _ _ lc e ρ _ k:=match e with
  | .UnaryOp .USub a _=>q.e lc a ρ λd=>bind (Z0 d) k
  | _=>bad
 eq e ρ _ k h:=by
  split
  ·simp only [h.e,bind_assoc]
  ·first
   | rfl
   | (rename_i b;split;exact (b _ _ rfl).elim;rfl)
section
variable (r:Ev) (q:EvK) (lc:Lc)
def jX:List Expr->Env->M Bool
 | [],_=>bad
 | [a],ρ=>r.t lc a ρ
 | a :: b :: es,ρ=>bind (r.t lc a ρ) λq=>if q=true then jX (b :: es) ρ else ret false
def orB:List Expr->Env->M Bool
 | [],_=>bad
 | [a],ρ=>r.t lc a ρ
 | a :: b :: es,ρ=>bind (r.t lc a ρ) λq=>if q=true then ret true else orB (b :: es) ρ
def dv {d:Type}:List Expr->Env->(Bool->M d)->M d
 | [],_,_=>bad
 | [a],ρ,k=>q.t lc a ρ k
 | a :: b :: es,ρ,k=>q.t lc a ρ λc=>if c=true then dv (b :: es) ρ k else k false
def kD {d:Type}:List Expr->Env->(Bool->M d)->M d
 | [],_,_=>bad
 | [a],ρ,k=>q.t lc a ρ k
 | a :: b :: es,ρ,k=>q.t lc a ρ λc=>if c=true then k true else kD (b :: es) ρ k
end
section
variable {T:Tx} {k:Nat} {r:Ev} {q:EvK} {Γ:Gm} {C:Cf} {lc:Lc} {X:Cx} {pos:Pos}
theorem dB (R:EvOk T k r) (h:CxOk T k lc X):∀ {es:List Expr},PW X (.BoolOp .And es pos) (tBo X.K T.cl (xOf X) (jX r lc es))
 | []=>pw_bad
 | [a]=>lh (R.tx h a)
 | a :: b :: es=>pr (R.tx h a) (dB R h)
theorem ic (R:EvOk T k r) (h:CxOk T k lc X):∀ {es:List Expr},PW X (.BoolOp .Or es pos) (tBo X.K T.cl (xOf X) (orB r lc es))
 | []=>pw_bad
 | [a]=>pY (R.tx h a)
 | a :: b :: es=>sd (R.tx h a) (ic R h)
theorem dD (h:EqK r q):∀ (es:List Expr) (ρ:Env) {c:Type} (k:Bool->M c),dv q lc es ρ k=bind (jX r lc es ρ) k
 | [],_,_,_=>rfl
 | [a],ρ,_,k=>h.t lc a ρ k
 | a :: b :: es,ρ,_,k=>by simp only [dv,jX,h.t,bind_assoc,y3,dD h (b :: es),i8]
theorem iM (h:EqK r q):∀ (es:List Expr) (ρ:Env) {c:Type} (k:Bool->M c),kD q lc es ρ k=bind (orB r lc es ρ) k
 | [],_,_,_=>rfl
 | [a],ρ,_,k=>h.t lc a ρ k
 | a :: b :: es,ρ,_,k=>by simp only [kD,orB,h.t,bind_assoc,y3,iM h (b :: es),i8]
end
def tV:RuE where
 is _ _ e:=match e with
  | .Compare _ [_] [b] _=>j6 b
  | _=>false
 run r _ _ lc e ρ:=match e with
  | .Compare a [op] [b] _=>bind (r.e lc a ρ) λx=>bind (r.e lc b ρ) λy=>j4 op x y
  | _=>bad
 ok e R TX h hi:=by
  split at hi
  ·exact oY (R.ex h _) (R.ex h _) (gb h _) (W6 hi)
  ·cases hi
 runK q _ _ lc e ρ _ k:=match e with
  | .Compare a [op] [b] _=>q.e lc a ρ λx=>q.e lc b ρ λy=>bind (j4 op x y) k
  | _=>bad
 eq e ρ _ k h:=by
  split
  ·simp only [h.e,bind_assoc]
  ·first
   | rfl
   | (rename_i c;split;exact (c _ _ _ _ rfl).elim;rfl)
def rIf:RuE where
 is _ _ e:=match e with
  | .IfExp _ _ _ _=>true
  | _=>false
 run r _ _ lc e ρ:=match e with
  | .IfExp c a b _=>bind (r.t lc c ρ) λq=>if q=true then r.e lc a ρ else r.e lc b ρ
  | _=>bad
 ok e R TX h hi:=by
  cases e with
  | IfExp c a b p=>exact rW (R.tx h _) (R.ex h _) (R.ex h _)
  | _=>exact f9
 runK q _ _ lc e ρ _ k:=match e with
  | .IfExp c a b _=>q.t lc c ρ λz=>if z=true then q.e lc a ρ k else q.e lc b ρ k
  | _=>bad
 eq e ρ _ k h:=by
  cases e with
  | IfExp c a b p=>simp only [h.e,h.t,bind_assoc,y3]
  | _=>rfl
def uW:RuE where
 is _ _ e:=match e with
  | .Tuple es _ _=>es.all b8
  | _=>false
 run r _ _ lc e ρ:=match e with
  | .Tuple es _ _=>bind (w5 r lc es ρ) qB
  | _=>bad
 ok e R TX h hi:=by
  cases e with
  | Tuple es n p=>exact qH (k7 R h hi)
  | _=>exact f9
 runK q _ _ lc e ρ _ k:=match e with
  | .Tuple es _ _=>A3 q lc es ρ λds=>bind (qB ds) k
  | _=>bad
 eq e ρ _ k h:=by
  cases e with
  | Tuple es n p=>simp only [m8 h,bind_assoc]
  | _=>rfl
def vD:RuE where
 is _ _ e:=match e with
  | .List es _=>es.all b8
  | _=>false
 run r _ _ lc e ρ:=match e with
  | .List es _=>bind (w5 r lc es ρ) nq
  | _=>bad
 ok e R TX h hi:=by
  cases e with
  | List es p=>exact oJ (k7 R h hi)
  | _=>exact f9
 runK q _ _ lc e ρ _ k:=match e with
  | .List es _=>A3 q lc es ρ λds=>bind (nq ds) k
  | _=>bad
 eq e ρ _ k h:=by
  cases e with
  | List es p=>simp only [m8 h,bind_assoc]
  | _=>rfl
def rIx:RuE where
 is _ _ e:=match e with
  | .Subscript _ i _=>z4 i
  | _=>false
 run r _ _ lc e ρ:=match e with
  | .Subscript a i _=>bind (r.e lc a ρ) λx=>bind (r.e lc i ρ) λy=>ixD x y
  | _=>bad
 ok e R TX h hi:=by
  cases e with
  | Subscript a i p=>exact rA (R.ex h _) (R.ex h _) (uG h.u1) (cS hi)
  | _=>exact f9
 runK q _ _ lc e ρ _ k:=match e with
  | .Subscript a i _=>q.e lc a ρ λx=>q.e lc i ρ λy=>bind (ixD x y) k
  | _=>bad
 eq e ρ _ k h:=by
  cases e with
  | Subscript a i p=>simp only [h.e,bind_assoc]
  | _=>rfl
def bR (r:Ev) (a:Lc) (o:Option Expr) (ρ:Env):M (Option Int):=match o with
 | none=>ret none
 | some e=>bind (r.e a e ρ) br
def dO (q:EvK) (b:Lc) {a:Type} (o:Option Expr) (ρ:Env) (k:Option Int->M a):M a:=match o with
 | none=>k none
 | some e=>q.e b e ρ λd=>bind (br d) k
theorem kb (h:EqK r q) (o:Option Expr) (ρ:Env) {a:Type} (k:Option Int->M a):dO q lc o ρ k=bind (bR r lc o ρ) k:=by
 cases o with
 | none=>rfl
 | some e=>simp only [dO,bR,h.e,bind_assoc]
theorem dJ (R:EvOk T k r) (h:CxOk T k lc X) {o:Option Expr}:PO X o (tPt X.K T.cl (xOf X) (bR r lc o)):=by
 cases o with
 | none=>exact kH
 | some e=>exact jx (R.ex h e)
def rSl:RuE where
 is _ _ e:=match e with
  | .Subscript _ (.Slice _ _ none _) _=>true
  | _=>false
 run r _ _ lc e ρ:=match e with
  | .Subscript a (.Slice lo b none _) _=>bind (r.e lc a ρ) λd=>bind (bR r lc lo ρ) λl=>bind (bR r lc b ρ) λu=>slD d l u
  | _=>bad
 ok e R TX h b:=by
  split at b
  ·exact sG (R.ex h _) (dJ R h) (dJ R h)
  ·cases b
 runK q _ _ lc e ρ _ k:=match e with
  | .Subscript a (.Slice lo b none _) _=>q.e lc a ρ λd=>dO q lc lo ρ λl=>dO q lc b ρ λu=>bind (slD d l u) k
  | _=>bad
 eq e ρ _ k h:=by
  split
  ·simp only [h.e,kb h,bind_assoc]
  ·first
   | rfl
   | (rename_i c;split;exact (c _ _ _ _ _ rfl).elim;rfl)
def sO:RuT where
 is _ _ e:=match e with
  | .BoolOp _ _ _=>true
  | _=>false
 run r _ _ lc e ρ:=match e with
  | .BoolOp .And es _=>jX r lc es ρ
  | .BoolOp .Or es _=>orB r lc es ρ
  | _=>bad
 ok e R TX h hi:=by
  cases e with
  | BoolOp op es p=>cases op;exact (dB R h).pt;exact (ic R h).pt
  | _=>exact bv
 runK q _ _ lc e ρ _ k:=match e with
  | .BoolOp .And es _=>dv q lc es ρ k
  | .BoolOp .Or es _=>kD q lc es ρ k
  | _=>bad
 eq e ρ _ k h:=by
  cases e with
  | BoolOp op es p=>cases op;exact dD h es ρ k;exact iM h es ρ k
  | _=>rfl
def uH:RuT where
 is _ _ e:=match e with
  | .Compare _ [_] [b] _=>j6 b
  | _=>false
 run r _ _ lc e ρ:=match e with
  | .Compare a [op] [b] _=>bind (r.e lc a ρ) λx=>bind (r.e lc b ρ) λy=>bind (j4 op x y) asB
  | _=>bad
 ok e R TX h hi:=by
  split at hi
  ·exact oO (R.ex h _) (R.ex h _) (gb h _) (W6 hi)
  ·cases hi
 runK q _ _ lc e ρ _ k:=match e with
  | .Compare a [op] [b] _=>q.e lc a ρ λx=>q.e lc b ρ λy=>bind (j4 op x y) λd=>bind (asB d) k
  | _=>bad
 eq e ρ _ k h:=by
  split
  ·simp only [h.e,bind_assoc]
  ·first
   | rfl
   | (rename_i c;split;exact (c _ _ _ _ rfl).elim;rfl)
def nU (Γ:Gm) (x:Str) (p:Nat->Nat->Bool):Bool:=match Γ.gl.lookup x with
 | some (.fn i n)=>p i n
 | _=>false
theorem lQ (h:nU Γ x p=true):∃ i n,Γ.gl.lookup x=some (.fn i n)/\p i n=true:=by
 unfold nU at h;grind
def rFn:RuE where
 is Γ lc e:=match e with
  | .Call (.Name x _) es [] _=>S7 x&&glB lc.sc x&&es.all b8&&!quiet lc&&nU Γ x λi n=>decide (es.length=n)&&decide (i∉Γ.qs)
  | _=>false
 run r Γ C lc e ρ:=match e with
  | .Call (.Name x _) es [] _=>(match Γ.gl.lookup x with
   | some (.fn i n)=>bind (w5 r lc es ρ) λds=>if ds.length=n then C i ds else bad
   | _=>bad)
  | _=>bad
 ok {T k r Γ C lc X} e R TX h hi:=by
  split at hi
  ·rename_i x p es pos;simp only [Ao,Bz] at hi;obtain ⟨⟨⟨⟨w,m⟩,c⟩,f⟩,v⟩:=hi;obtain ⟨s,E,D⟩:=V7 w;obtain ⟨i,n,l,b⟩:=lQ v;simp at b;obtain ⟨a,fd,ps,B,A,y,z,u⟩:=(TX.fn x i n l b.2).ex;have F:FnOk X.prog X.w X.K X.mg X.base (CXd X.prog X.w X.K) k a fd ps (spX X.K T.cl n (C i)):=by rw [h.prog,h.w,h.K,h.mg,h.base];exact A
   have d:PySem.W.keepIn X.K (.ref a)=true:=by rw [h.K];exact z
   have j:Binds X.K fd ps []:=by rw [h.K];exact u
   have o:X.mg x=some (.ref a):=by rw [h.mg];exact y
   show PE X _ (tD X.K T.cl (xOf X) λρ=>(match Γ.gl.lookup x with
    | some (.fn i n)=>bind (w5 r lc es ρ) λds=>if ds.length=n then C i ds else bad
    | _=>bad))
   rw [l]
   match es,c,b with
   | [],_,b=>
    have:=b.1.symm;subst this;exact fN F (h.room0 f) (h.gl m) o d j s
   | e :: es,c,_=>exact hJ F (h.room0 f) (h.gl m) o d j (k7 R h c) s c
  ·cases hi
 runK q Γ C lc e ρ _ k:=match e with
  | .Call (.Name x _) es [] _=>(match Γ.gl.lookup x with
   | some (.fn i n)=>A3 q lc es ρ λds=>if ds.length=n then bind (C i ds) k else bad
   | _=>bad)
  | _=>bad
 eq {r q Γ C lc} e ρ _ k h:=by
  split
  ·rename_i x p es pos;cases Γ.gl.lookup x with
   | none=>rfl
   | some g=>cases g <;> first | rfl | simp only [m8 h,bind_assoc,y3,bV]
  ·first
   | rfl
   | (rename_i t;split;exact (t _ _ _ _ rfl).elim;rfl)
def dL (x:Str) (c:Bool) (Γ:Gm) (b:Lc) (e:Expr):Bool:=match e with
 | .Call (.Name f _) (a :: es) [] _=>decide (f=x)&&(a :: es).all b8&&(Γ.gl.lookup x).isNone&&glB b.sc x&&!(c&&quiet b)
 | _=>false
def kL (g:List D->M D) (r:Ev) (b:Lc) (e:Expr) (ρ:Env):M D:=match e with
 | .Call (.Name _ _) (a :: es) [] _=>bind (w5 r b (a :: es) ρ) g
 | _=>bad
def mT (g:List D->M D) (q:EvK) (c:Lc) (e:Expr) (ρ:Env) {b:Type} (k:D->M b):M b:=match e with
 | .Call (.Name _ _) (a :: es) [] _=>A3 q c (a :: es) ρ λds=>bind (g ds) k
 | _=>bad
theorem jg (g:List D->M D) {r:Ev} {q:EvK} {a:Lc} (e:Expr) (ρ:Env) {c:Type} (k:D->M c) (h:EqK r q):mT g q a e ρ k=bind (kL g r a e ρ) k:=by
 unfold mT kL;split
 ·simp only [m8 h,bind_assoc]
 ·first
  | rfl
  | (rename_i b;split;exact (b _ _ _ _ _ rfl).elim;rfl)
theorem bB {d:Bool} {Γ:Gm} {b:Lc} {e:Expr} (h:dL x d Γ b e=true):∃ p a es pos,e=.Call (.Name x p) (a :: es) [] pos/\(a :: es).all b8=true/\Γ.gl.lookup x=none/\glB b.sc x=true/\(d=true->quiet b=false):=by
 unfold dL at h;split at h
 ·simp only [Ao,AD,AR,Bz] at h;obtain ⟨⟨⟨⟨rfl,f⟩,g⟩,i⟩,c⟩:=h;refine ⟨_,_,_,_,rfl,f,g,i,λz=>?_⟩;rw [z] at c;simpa using c
 ·cases h
def rBf (x:Str) (id:String) (d:Bool) (g:List D->M D) (c:x∈bnames/\x ≠ "__name__"/\(x==("__debug__" : Str))=false) (m:bootBuiltins x=some (.builtin id))
  (j:∀ {T:Tx} {k:Nat} {b:Lc} {X:Cx} {cl:Nat->Addr} {xe:Addr->Hp->Prop},CxOk T k b X->(d=true->X.calm=true)->j7 X (.builtin id) (rPs X.K cl xe g)):RuE where
 is:=dL x d
 run r _ _ b e ρ:=kL g r b e ρ
 ok {T k r Γ C b X} e R TX h hi:=by
  obtain ⟨p,a,es,pos,rfl,f,i,l,n⟩:=bB hi;exact jQ (j h λz=>h.calm (n z)) (h.gl l) (TX.none h c.1 i) m (k7 R h f) c.2.1 c.2.2 f
 runK q _ _ b e ρ _ k:=mT g q b e ρ k
 eq e ρ _ k h:=jg g e ρ k h
def rBt (x:Str) (id:String) (d:Bool) (g:List D->M D) (c:x∈bnames/\x ≠ "__name__"/\(x==("__debug__" : Str))=false) (m:bootBuiltins x=some (.type id))
  (j:∀ {T:Tx} {k:Nat} {b:Lc} {X:Cx} {cl:Nat->Addr} {xe:Addr->Hp->Prop},CxOk T k b X->(d=true->X.calm=true)->j7 X (.type id) (rPs X.K cl xe g)):RuE where
 is:=dL x d
 run r _ _ b e ρ:=kL g r b e ρ
 ok {T k r Γ C b X} e R TX h hi:=by
  obtain ⟨p,a,es,pos,rfl,f,i,l,n⟩:=bB hi;exact al (j h λz=>h.calm (n z)) (h.gl l) (TX.none h c.1 i) m (k7 R h f) c.2.1 c.2.2 f
 runK q _ _ b e ρ _ k:=mT g q b e ρ k
 eq e ρ _ k h:=jg g e ρ k h
def uN:RuE:=rBf "len" "len" false (one A5) (by decide) PySem.boot_len λ_ _=>sr
def nV:RuE:=rBt "tuple" "tuple" false (one v2) (by decide) rfl λ_ _=>lE
def rC:RuE:=rBt "list" "list" false (one iz) (by decide) rfl λ_ _=>oi
def tO:RuE:=rBf "repr" "repr" false (one q9) (by decide) rfl λh _=>oj h.room.gd h.u64
def kM:RuE where
 is Γ lc e:=match e with
  | .Call (.Name x _) [.Call (.Name y _) [a] [] _] [] _=>decide (x = "list")&&decide (y = "range")&&(Γ.gl.lookup ("list" : Str)).isNone&&(Γ.gl.lookup ("range" : Str)).isNone&&glB lc.sc "list" && glB lc.sc "range" && !quiet lc&&b8 a
  | _=>false
 run r _ _ lc e ρ:=match e with
  | .Call (.Name _ _) [.Call (.Name _ _) [a] [] _] [] _=>bind (r.e lc a ρ) J6
  | _=>bad
 ok {T k r Γ C lc X} e R TX h hi:=by
  split at hi
  ·simp only [Ao,AD,AR,Bz] at hi;obtain ⟨⟨⟨⟨⟨⟨⟨rfl,rfl⟩,l⟩,b⟩,g⟩,j⟩,i⟩,f⟩:=hi;exact eh (h.calm i) (h.gl g) (TX.none h (by decide) l) (h.gl j) (TX.none h (by decide) b) (R.ex h _) f
  ·cases hi
 runK q _ _ lc e ρ _ k:=match e with
  | .Call (.Name _ _) [.Call (.Name _ _) [a] [] _] [] _=>q.e lc a ρ λd=>bind (J6 d) k
  | _=>bad
 eq e ρ _ k h:=by
  split
  ·simp only [h.e,bind_assoc]
  ·first
   | rfl
   | (rename_i c;split;exact (c _ _ _ _ _ _ _ rfl).elim;rfl)
def sU (n:Nat) (Γ:Gm) (lc:Lc) (e:Expr):Bool:=match e with
 | .Call (.Name f _) es [] _=>decide (f = "range")&&decide (es.length=n)&&es.all b8&&(Γ.gl.lookup ("range" : Str)).isNone&&glB lc.sc "range"
 | _=>false
def rgE (n:Nat) (r:Ev) (lc:Lc) (e:Expr) (ρ:Env):M (Src×Nat):=match e with
 | .Call (.Name _ _) es [] _=>bind (w5 r lc es ρ) λds=>if ds.length=n then A4 ds else bad
 | _=>bad
def rgK (n:Nat) (q:EvK) (lc:Lc) (e:Expr) (ρ:Env) {α:Type} (k:Src×Nat->M α):M α:=match e with
 | .Call (.Name _ _) es [] _=>A3 q lc es ρ λds=>if ds.length=n then bind (A4 ds) k else bad
 | _=>bad
theorem sY (n:Nat) {r:Ev} {q:EvK} {lc:Lc} (e:Expr) (ρ:Env) {α:Type} (k:Src×Nat->M α) (h:EqK r q):rgK n q lc e ρ k=bind (rgE n r lc e ρ) k:=by
 unfold rgK rgE;split
 ·simp only [m8 h,bind_assoc,y3,bV]
 ·first
  | rfl
  | (rename_i hn;split;exact (hn _ _ _ _ rfl).elim;rfl)
def kz:RuI where
 is Γ lc _ e:=sU 1 Γ lc e
 run r _ _ lc e ρ:=rgE 1 r lc e ρ
 ok {T k r Γ C lc X} g e R TX h hi:=by
  unfold sU at hi;split at hi
  ·rename_i f p es pos;simp only [Ao,AD,AR] at hi;obtain ⟨⟨⟨⟨rfl,h1⟩,h2⟩,h3⟩,h4⟩:=hi
   match es,h1,h2 with
   | [a],_,h2=>exact cr (h.gl h4) (TX.none h (by decide) h3) (k7 R h h2) (by simpa using h2)
  ·cases hi
 runK q _ _ lc e ρ _ k:=rgK 1 q lc e ρ k
 eq e ρ _ k h:=sY 1 e ρ k h
def vA:RuI where
 is _ _ _ _:=true
 run r _ _ lc e ρ:=bind (r.e lc e ρ) u8
 ok g e R TX h hi:=kX (R.ex h e)
 runK q _ _ lc e ρ _ k:=q.e lc e ρ λd=>bind (u8 d) k
 eq e ρ _ k h:=by simp only [h.e,bind_assoc]
def ca (scope sc:Scope):Scope:={ scope with names:=scope.names.map λ(n,k)=>if (k==.free&&sc.kind==.function&&sc.names.lookup n==some .cell) then (n,NameKind.cell) else (n,k) }
theorem fR (scope:Scope) (env:PySem.Env):relabel scope env=ca scope env.scope:=rfl
def i7 (scope:Scope):List Str:=(scope.names.filter λy=>y.2==.free).map (·.1)
def u4 (lc:Lc) (scope:Scope) (xs:List Str):Bool:=
 decide (scope.kind=.function)&&scope.names.all (λy=>decide (y.2≠.cell))&&scope.names.all (λy=>decide (y.2=.local->scope.names.lookup y.1=some .local))
  && scope.names.all (λy=>decide (y.2=.free->scope.names.lookup y.1=some .free/\(lc.sc.names.lookup y.1=some .cell\/lc.sc.names.lookup y.1=some .free)))
  && (i7 scope).all (λz=>decide (scope.names.lookup z=some .free))&&decide ((xs++i7 scope).Nodup)&&xs.all (λx=>decide (scope.names.lookup x=some .local))&&!quiet lc
theorem ba {α β:Type} {f:α->Option β}:∀ {xs:List α} {ys:List β},d8 f xs=some ys->ys.length=xs.length
 | [],_,e=>by cases e;rfl
 | x :: xs,ys,e=>by
  simp only [d8] at e;cases e1:f x with
  | none=>rw [e1] at e;cases e
  | some y=>
   cases e2:d8 f xs with
   | none=>rw [e1,e2] at e;cases e
   | some ys'=>rw [e1,e2] at e;cases e;simp [ba e2]
theorem bG {α β:Type} {f:α->Option β}:∀ {xs:List α} {ys:List β} {j:Nat} {y:β},d8 f xs=some ys->ys[j]?=some y->∃ x,xs[j]?=some x/\f x=some y
 | [],_,_,_,e,h=>by cases e;simp at h
 | x :: xs,ys,j,y,e,h=>by
  simp only [d8] at e;cases e1:f x with
  | none=>rw [e1] at e;cases e
  | some z=>
   cases e2:d8 f xs with
   | none=>rw [e1,e2] at e;cases e
   | some ys'=>
    rw [e1,e2] at e;cases e;cases j with
    | zero=>simp at h;subst h;exact ⟨x,rfl,e1⟩
    | succ j=>simpa using bG (j:=j) (y:=y) e2 (by simpa using h)
def d4 (lc:Lc) (scope:Scope) (xs:List Str):Lc:=⟨xs++i7 scope,ca scope lc.sc,false,[]⟩
def testsE (r:Ev) (lc:Lc) (ifs:List Expr) (ρ:Env):M Bool:=match ifs with
 | []=>ret true
 | [c]=>r.t lc c ρ
 | _=>bad
def testsK (q:EvK) (lc:Lc) (ifs:List Expr) (ρ:Env):M Bool:=match ifs with
 | []=>ret true
 | [c]=>q.t lc c ρ ret
 | _=>bad
theorem tests_eq {r:Ev} {q:EvK} {lc:Lc} (h:EqK r q) (ifs:List Expr) (ρ:Env):testsK q lc ifs ρ=testsE r lc ifs ρ:=by
 match ifs with
 | []=>rfl
 | [c]=>simp only [testsK,testsE,h.t,D9]
 | _ :: _ :: _=>rfl
section
variable {T:Tx} {k:Nat} {r:Ev} {q:EvK} {Γ:Gm} {C:Cf} {lc:Lc} {X:Cx}
theorem tests_ok (R:EvOk T k r) (h:CxOk T k lc X) {ifs:List Expr}:PTL X ifs (tBo X.K T.cl (xOf X) (testsE r lc ifs)):=by
 match ifs with
 | []=>exact ef
 | [c]=>exact mL (R.tx h c)
 | _ :: _ :: _=>exact λ_ _ _ _ _ _ ⟨_,_,_,_,_,p⟩=>p.elim
theorem B7 (h:CxOk T k lc X) {scope:Scope} {xs:List Str} {caps:List Nat} (hc:u4 lc scope xs=true) (hm:d8 (e5 lc.N) (i7 scope)=some caps):CompText X.N X.env (xs++i7 scope) xs.length caps scope/\(xs++i7 scope).Nodup/\(∀ x∈xs,scope.names.lookup x=some .local)/\quiet lc=false/\scope.kind=.function:=by
 simp only [u4,Ao,AD,Bg,Bz] at hc;obtain ⟨⟨⟨⟨⟨⟨⟨h1,h2⟩,h3⟩,h4⟩,h5⟩,h6⟩,h7⟩,h8⟩:=hc;refine ⟨⟨h1,h2,h3,λy hy hk=>?_,λj i e=>?_,?_⟩,h6,h7,h8,h1⟩
 ·rw [h.sc];exact h4 y hy hk
 ·obtain ⟨z,e1,e2⟩:=bG hm e;refine ⟨z,by rw [h.N];exact v3 e2,?_,h5 z (AT e1)⟩;rw [AL (by omega)];simpa using e1
 ·simp [ba hm,Nat.add_comm]
theorem n0 (h:CxOk T k lc X) (hq:quiet lc=false) {scope:Scope} {xs:List Str} (hk:scope.kind=.function) (hn:(xs++i7 scope).Nodup) (pins:List (Addr×Obj)) (C:Addr) (fp:List Addr) (s:Shared) (H:Hp):CxOk T k (d4 lc scope xs) (b3 X pins (xs++i7 scope) scope C fp s H):=
 ⟨h.prog,h.w,h.K,h.mg,h.base,rfl,hn,by show relabel scope X.env=ca scope lc.sc;rw [fR,h.sc],λ_=>h.calm hq,(by have:=h.room;rw [hq] at this;exact this),PassesOwn.never,rfl,hk,λz=>Bool.noConfusion z,λz=>Bool.noConfusion z⟩
end
def e9 (src:Src) (t:D->M Bool) (f:D->M D):Nat->Nat->List D->M (List D)
 | 0,_,_=>bad
 | m+1,i,es=>λS=>match src i S with
  | none=>.bad
  | some none=>.ok es S
  | some (some d)=>bind (t d) (λb=>if b=true then bind (f d) (λy=>if es.length<sizeLine then e9 src t f m (i+1) (es++[y]) else bad) else e9 src t f m (i+1) es) S
theorem F5 (src:Src) (t:Env->M Bool) (f:Env->M D) (mk:D->Env):∀ m i es,k5 src t f mk m i es=e9 src (λd=>t (mk d)) (λd=>f (mk d)) m i es
 | 0,_,_=>rfl
 | m+1,i,es=>by
  funext S;simp only [k5,e9,F5 src t f mk m]
  all_goals (cases src i S with
  | none=>rfl
  | some o=>cases o <;> rfl)
def D2 (r:Ev) (lc:Lc) (elt:Expr) (x:Str) (px:Pos) (iter:Expr) (ifs:List Expr) (scope:Scope) (ρ:Env):M (List D):=match d8 (e5 lc.N) (i7 scope) with
 | some caps=>nx (dN caps (r.i lc (.Name x px) iter) (testsE r (d4 lc scope [x]) ifs) (r.e (d4 lc scope [x]) elt) ρ)
 | none=>bad
def aO (q:EvK) (lc:Lc) (elt:Expr) (x:Str) (px:Pos) (iter:Expr) (ifs:List Expr) (scope:Scope) (ρ:Env) {α:Type} (k:List D->M α):M α:=match d8 (e5 lc.N) (i7 scope) with
 | some caps=>bind (nx (q.i lc (.Name x px) iter ρ λsm=>e9 sm.1 (λd=>testsK q (d4 lc scope [x]) ifs (some d :: i4 caps ρ)) (λd=>q.e (d4 lc scope [x]) elt (some d :: i4 caps ρ) ret) sm.2 0 [])) k
 | none=>bad
theorem aj {r:Ev} {q:EvK} {lc:Lc} (h:EqK r q) (elt:Expr) (x:Str) (px:Pos) (iter:Expr) (ifs:List Expr) (scope:Scope) (ρ:Env) {α:Type} (k:List D->M α):aO q lc elt x px iter ifs scope ρ k=bind (D2 r lc elt x px iter ifs scope ρ) k:=by
 unfold aO D2;cases d8 (e5 lc.N) (i7 scope) with
 | none=>rfl
 | some caps=>simp only [h.i,h.e,D9,tests_eq h,dN,F5]
theorem iL {T:Tx} {k:Nat} {r:Ev} {lc:Lc} {X:Cx} (R:EvOk T k r) (h:CxOk T k lc X) {elt:Expr} {x:Str} {px pos:Pos} {iter:Expr} {ifs:List Expr} {scope:Scope} (hc:u4 lc scope [x]=true) (hn:j6 iter=true) :
  PE X (.ListComp elt [⟨.Name x px,iter,ifs,0⟩] scope pos) (tD X.K T.cl (xOf X) λρ=>bind (D2 r lc elt x px iter ifs scope ρ) λds=>ret (.lst ds)):=by
 unfold D2;cases hm:d8 (e5 lc.N) (i7 scope) with
 | none=>exact f9
 | some caps=>
  obtain ⟨t1,t2,t3,t4,t5⟩:=B7 h hc hm;refine aE (ao t1 (h.calm t4) t2 rfl (t3 x (by simp)) (PI.x0 (R.ix h _ _)) (λpins C fp s H=>?_) (λpins C fp s H=>?_) hn)
  ·exact PTL.x0 (tests_ok R (n0 h t4 t5 t2 pins C fp s H))
  ·exact PE.x0 (R.ex (n0 h t4 t5 t2 pins C fp s H) elt)
def oI:RuE where
 is _ lc e:=match e with
  | .ListComp _ [⟨.Name x _,iter,_,0⟩] scope _=>u4 lc scope [x]&&j6 iter
  | _=>false
 run r _ _ lc e ρ:=match e with
  | .ListComp elt [⟨.Name x px,iter,ifs,0⟩] scope _=>bind (D2 r lc elt x px iter ifs scope ρ) λds=>ret (.lst ds)
  | _=>bad
 ok e R TX h hi:=by
  split at hi
  ·rw [Ao] at hi;exact iL R h hi.1 hi.2
  ·cases hi
 runK q _ _ lc e ρ _ k:=match e with
  | .ListComp elt [⟨.Name x px,iter,ifs,0⟩] scope _=>aO q lc elt x px iter ifs scope ρ λds=>k (.lst ds)
  | _=>bad
 eq e ρ _ k h:=by
  split
  ·simp only [aj h,bind_assoc,i8]
  ·first
   | rfl
   | (rename_i hn;split;exact (hn _ _ _ _ _ _ _ rfl).elim;rfl)
def A0 (src:Src) (t:D->M Bool) (fi1:D->M (Src×Nat)) (t1:D->D->M Bool) (f:D->D->M D):Nat->Nat->List D->M (List D)
 | 0,_,_=>bad
 | m+1,i,es=>λS=>match src i S with
  | none=>.bad
  | some none=>.ok es S
  | some (some d)=>bind (t d) (λb=>if b=true then bind (fi1 d) (λsm=>bind (e9 sm.1 (t1 d) (f d) sm.2 0 es) (λes'=>A0 src t fi1 t1 f m (i+1) es')) else A0 src t fi1 t1 f m (i+1) es) S
theorem W4 (src:Src) (t:Env->M Bool) (fi1:Env->M (Src×Nat)) (t1:Env->M Bool) (f:Env->M D) (cap:Env):∀ m i es,l0 src t fi1 t1 f cap m i es=A0 src (λd=>t (some d :: none :: cap)) (λd=>fi1 (some d :: none :: cap)) (λd d2=>t1 (some d :: some d2 :: cap)) (λd d2=>f (some d :: some d2 :: cap)) m i es
 | 0,_,_=>rfl
 | m+1,i,es=>by
  funext S;simp only [l0,A0,W4 src t fi1 t1 f cap m,F5]
  all_goals (cases src i S with
  | none=>rfl
  | some o=>cases o <;> rfl)
def P8 (r:Ev) (lc:Lc) (elt:Expr) (x y:Str) (px py:Pos) (iter iter2:Expr) (ifs ifs2:List Expr) (scope:Scope) (ρ:Env):M (List D):=match d8 (e5 lc.N) (i7 scope) with
 | some caps=>nx (Z4 caps (r.i lc (.Name x px) iter) (testsE r (d4 lc scope [x,y]) ifs) (r.i (d4 lc scope [x,y]) (.Name y py) iter2) (testsE r (d4 lc scope [x,y]) ifs2) (r.e (d4 lc scope [x,y]) elt) ρ)
 | none=>bad
def bx (q:EvK) (lc:Lc) (elt:Expr) (x y:Str) (px py:Pos) (iter iter2:Expr) (ifs ifs2:List Expr) (scope:Scope) (ρ:Env) {α:Type} (k:List D->M α):M α:=match d8 (e5 lc.N) (i7 scope) with
 | some caps=>bind (nx (q.i lc (.Name x px) iter ρ λsm=>A0 sm.1 (λd=>testsK q (d4 lc scope [x,y]) ifs (some d :: none :: i4 caps ρ)) (λd=>q.i (d4 lc scope [x,y]) (.Name y py) iter2 (some d :: none :: i4 caps ρ) ret) (λd d2=>testsK q (d4 lc scope [x,y]) ifs2 (some d :: some d2 :: i4 caps ρ)) (λd d2=>q.e (d4 lc scope [x,y]) elt (some d :: some d2 :: i4 caps ρ) ret) sm.2 0 [])) k
 | none=>bad
theorem jr {r:Ev} {q:EvK} {lc:Lc} (h:EqK r q) (elt:Expr) (x y:Str) (px py:Pos) (iter iter2:Expr) (ifs ifs2:List Expr) (scope:Scope) (ρ:Env) {α:Type} (k:List D->M α):bx q lc elt x y px py iter iter2 ifs ifs2 scope ρ k=bind (P8 r lc elt x y px py iter iter2 ifs ifs2 scope ρ) k:=by
 unfold bx P8;cases d8 (e5 lc.N) (i7 scope) with
 | none=>rfl
 | some caps=>simp only [h.i,h.e,D9,tests_eq h,Z4,W4]
theorem jU {T:Tx} {k:Nat} {r:Ev} {lc:Lc} {X:Cx} (R:EvOk T k r) (h:CxOk T k lc X) {elt:Expr} {x y:Str} {px py pos:Pos} {iter iter2:Expr} {ifs ifs2:List Expr} {scope:Scope} (hc:u4 lc scope [x,y]=true) (hn:j6 iter=true) (hn2:j6 iter2=true) :
  PE X (.ListComp elt [⟨.Name x px,iter,ifs,0⟩,⟨.Name y py,iter2,ifs2,0⟩] scope pos) (tD X.K T.cl (xOf X) λρ=>bind (P8 r lc elt x y px py iter iter2 ifs ifs2 scope ρ) λds=>ret (.lst ds)):=by
 unfold P8;cases hm:d8 (e5 lc.N) (i7 scope) with
 | none=>exact f9
 | some caps=>
  obtain ⟨t1,t2,t3,t4,t5⟩:=B7 h hc hm;refine aE (fU t1 (h.calm t4) t2 rfl rfl (t3 x (by simp)) (t3 y (by simp)) (PI.x0 (R.ix h _ _)) (λpins C fp s H=>?_) (λpins C fp s H=>?_) (λpins C fp s H=>?_) (λpins C fp s H=>?_) hn hn2)
  ·exact PTL.x0 (tests_ok R (n0 h t4 t5 t2 pins C fp s H))
  ·exact PI.x0 (R.ix (n0 h t4 t5 t2 pins C fp s H) _ _)
  ·exact PTL.x0 (tests_ok R (n0 h t4 t5 t2 pins C fp s H))
  ·exact PE.x0 (R.ex (n0 h t4 t5 t2 pins C fp s H) elt)
def pw:RuE where
 is _ lc e:=match e with
  | .ListComp _ [⟨.Name x _,iter,_,0⟩,⟨.Name y _,iter2,_,0⟩] scope _=>u4 lc scope [x,y]&&j6 iter&&j6 iter2
  | _=>false
 run r _ _ lc e ρ:=match e with
  | .ListComp elt [⟨.Name x px,iter,ifs,0⟩,⟨.Name y py,iter2,ifs2,0⟩] scope _=>bind (P8 r lc elt x y px py iter iter2 ifs ifs2 scope ρ) λds=>ret (.lst ds)
  | _=>bad
 ok e R TX h hi:=by
  split at hi
  ·rw [Ao,Ao] at hi;exact jU R h hi.1.1 hi.1.2 hi.2
  ·cases hi
 runK q _ _ lc e ρ _ k:=match e with
  | .ListComp elt [⟨.Name x px,iter,ifs,0⟩,⟨.Name y py,iter2,ifs2,0⟩] scope _=>bx q lc elt x y px py iter iter2 ifs ifs2 scope ρ λds=>k (.lst ds)
  | _=>bad
 eq e ρ _ k h:=by
  split
  ·simp only [jr h,bind_assoc,i8]
  ·first
   | rfl
   | (rename_i hn;split;exact (hn _ _ _ _ _ _ _ _ _ _ _ rfl).elim;rfl)
def T7 (r:Ev) (lc:Lc) (elt:Expr) (x y:Str) (px py tp:Pos) (kk:Nat) (iter:Expr) (ifs:List Expr) (scope:Scope) (ρ:Env):M (List D):=match d8 (e5 lc.N) (i7 scope) with
 | some caps=>nx (aG caps (r.i lc (.Tuple [.Name x px,.Name y py] kk tp) iter) (testsE r (d4 lc scope [x,y]) ifs) (r.e (d4 lc scope [x,y]) elt) ρ)
 | none=>bad
def cn (q:EvK) (lc:Lc) (elt:Expr) (x y:Str) (px py tp:Pos) (kk:Nat) (iter:Expr) (ifs:List Expr) (scope:Scope) (ρ:Env) {α:Type} (k:List D->M α):M α:=match d8 (e5 lc.N) (i7 scope) with
 | some caps=>bind (nx (q.i lc (.Tuple [.Name x px,.Name y py] kk tp) iter ρ λsm=>e9 sm.1 (λd=>ky (testsK q (d4 lc scope [x,y]) ifs) (mk2 (i4 caps ρ) d)) (λd=>q.e (d4 lc scope [x,y]) elt (mk2 (i4 caps ρ) d) ret) sm.2 0 [])) k
 | none=>bad
theorem iX {r:Ev} {q:EvK} {lc:Lc} (h:EqK r q) (elt:Expr) (x y:Str) (px py tp:Pos) (kk:Nat) (iter:Expr) (ifs:List Expr) (scope:Scope) (ρ:Env) {α:Type} (k:List D->M α):cn q lc elt x y px py tp kk iter ifs scope ρ k=bind (T7 r lc elt x y px py tp kk iter ifs scope ρ) k:=by
 unfold cn T7;cases d8 (e5 lc.N) (i7 scope) with
 | none=>rfl
 | some caps=>
  have e:testsK q (d4 lc scope [x,y]) ifs=testsE r (d4 lc scope [x,y]) ifs:=funext λρ=>tests_eq h ifs ρ;simp only [h.i,h.e,D9,e,aG,F5]
theorem gT {T:Tx} {k:Nat} {r:Ev} {lc:Lc} {X:Cx} (R:EvOk T k r) (h:CxOk T k lc X) {elt:Expr} {x y:Str} {px py tp pos:Pos} {kk:Nat} {iter:Expr} {ifs:List Expr} {scope:Scope} (hc:u4 lc scope [x,y]=true) (hn:j6 iter=true) :
  PE X (.ListComp elt [⟨.Tuple [.Name x px,.Name y py] kk tp,iter,ifs,0⟩] scope pos) (tD X.K T.cl (xOf X) λρ=>bind (T7 r lc elt x y px py tp kk iter ifs scope ρ) λds=>ret (.lst ds)):=by
 unfold T7;cases hm:d8 (e5 lc.N) (i7 scope) with
 | none=>exact f9
 | some caps=>
  obtain ⟨t1,t2,t3,t4,t5⟩:=B7 h hc hm;refine aE (fB t1 (h.calm t4) t2 rfl rfl (t3 x (by simp)) (t3 y (by simp)) (PI.x0 (R.ix h _ _)) (λpins C fp s H=>?_) (λpins C fp s H=>?_) hn)
  ·exact PTL.x0 (tests_ok R (n0 h t4 t5 t2 pins C fp s H))
  ·exact PE.x0 (R.ex (n0 h t4 t5 t2 pins C fp s H) elt)
def oZ:RuE where
 is _ lc e:=match e with
  | .ListComp _ [⟨.Tuple [.Name x _,.Name y _] _ _,iter,_,0⟩] scope _=>u4 lc scope [x,y]&&j6 iter
  | _=>false
 run r _ _ lc e ρ:=match e with
  | .ListComp elt [⟨.Tuple [.Name x px,.Name y py] kk tp,iter,ifs,0⟩] scope _=>bind (T7 r lc elt x y px py tp kk iter ifs scope ρ) λds=>ret (.lst ds)
  | _=>bad
 ok e R TX h hi:=by
  split at hi
  ·rw [Ao] at hi;exact gT R h hi.1 hi.2
  ·cases hi
 runK q _ _ lc e ρ _ k:=match e with
  | .ListComp elt [⟨.Tuple [.Name x px,.Name y py] kk tp,iter,ifs,0⟩] scope _=>cn q lc elt x y px py tp kk iter ifs scope ρ λds=>k (.lst ds)
  | _=>bad
 eq e ρ _ k h:=by
  split
  ·simp only [iX h,bind_assoc,i8]
  ·first
   | rfl
   | (rename_i hn;split;exact (hn _ _ _ _ _ _ _ _ _ _ rfl).elim;rfl)
def pV (m:Str) (e:Expr):Bool:=match e with
 | .Call (.Attribute o n b) (a :: es) [] c=>decide (n=m)&&n8 o&&(a :: es).all b8&&w6 (a :: es)&&(b.endLine==c.line)
 | _=>false
theorem jw (h:pV m e=true):∃ o b a es c,e=.Call (.Attribute o m b) (a :: es) [] c/\n8 o=true/\(a :: es).all b8=true/\w6 (a :: es)=true/\(b.endLine==c.line)=true:=by
 unfold pV at h;grind
def mtE {c:Type} (g:D->M c) (op:D->List D->M D) (r:Ev) (b:Lc) (e:Expr) (ρ:Env):M D:=match e with
 | .Call (.Attribute o _ _) (a :: es) [] _=>bind (r.e b o ρ) λx=>bind (g x) λ_=>bind (w5 r b (a :: es) ρ) λds=>op x ds
 | _=>bad
def mtK {d:Type} (g:D->M d) (op:D->List D->M D) (q:EvK) (b:Lc) (e:Expr) (ρ:Env) {c:Type} (k:D->M c):M c:=match e with
 | .Call (.Attribute o _ _) (a :: es) [] _=>q.e b o ρ λx=>bind (g x) λ_=>A3 q b (a :: es) ρ λds=>bind (op x ds) k
 | _=>bad
theorem tP (g:D->M α) (op:D->List D->M D) {r:Ev} {q:EvK} {a:Lc} (e:Expr) (ρ:Env) {b:Type} (k:D->M b) (h:EqK r q):mtK g op q a e ρ k=bind (mtE g op r a e ρ) k:=by
 unfold mtK mtE;split
 ·simp only [h.e,m8 h,bind_assoc]
 ·first
  | rfl
  | (rename_i c;split;exact (c _ _ _ _ _ _ rfl).elim;rfl)
def rMt {α:Type} (m:Str) (g:D->M α) (op:D->List D->M D)
  (ok:∀ {T:Tx} {k:Nat} {lc:Lc} {X:Cx} {xe:Addr->Hp->Prop} {o a:Expr} {es:List Expr} {apos cpos:Pos} {f:Env->M D} {fs:Env->M (List D)},CxOk T k lc X->PE X o (tD X.K T.cl xe f)->PA X (a :: es) (tDs X.K T.cl xe fs)->n8 o=true->(a :: es).all b8=true->w6 (a :: es)=true->(apos.endLine==cpos.line)=true->PE X (.Call (.Attribute o m apos) (a :: es) [] cpos) (tD X.K T.cl xe λρ=>bind (f ρ) λx=>bind (g x) λ_=>bind (fs ρ) λds=>op x ds)):RuE where
 is _ _ e:=pV m e
 run r _ _ lc e ρ:=mtE g op r lc e ρ
 ok {T k r Γ C lc X} e R TX h hi:=by
  obtain ⟨o,apos,a,es,cpos,rfl,c1,c2,c3,c4⟩:=jw hi;exact ok h (R.ex h o) (k7 R h c2) c1 c2 c3 c4
 runK q _ _ lc e ρ _ k:=mtK g op q lc e ρ k
 eq e ρ _ k h:=tP g op e ρ k h
def nY:RuE:=rMt "index" sqK R5 λh e d c f a b=>fk h.u80 e d c f a b
def uP:RuE:=rMt "pop" lstOf popD λ_ e d c f a b=>dX BX PySem.F.slot_list_pop PySem.F.type_list_pop gV O5 jb e d c f a b
def rAppend:RuE:=rMt "append" lstOf K0 λ_ e d c f a b=>V0 e d c f a b
def jV:RuE where
 is _ lc e:=match e with
  | .Call (.Attribute o n a) [.List c p] [] b=>decide (n = "append")&&n8 o&&decide (("[]" : Str)∈lc.mu)&&c.all b8&&(a.endLine==b.line)
  | _=>false
 run r _ _ lc e ρ:=match e with
  | .Call (.Attribute o _ _) [.List c _] [] _=>bind (r.e lc o ρ) λx=>bind (lstOf x) λ_=>bind (bind (bind (w5 r lc c ρ) newL) λd=>ret [d]) λds=>K0 x ds
  | _=>bad
 ok {T k r Γ C lc X} e R TX h hi:=by
  split at hi
  ·simp only [Ao,AD] at hi;obtain ⟨⟨⟨⟨rfl,j⟩,s⟩,g⟩,m⟩:=hi;refine V0 (R.ex h _) ?_ j rfl rfl m;exact PA.imp (P7 (aJ (k7 R h g)) Z9 rfl) λσ H Q ⟨μ,S,ρ,i,f,p⟩=>⟨μ,S,ρ,i,f,p⟩
  ·cases hi
 runK q _ _ lc e ρ _ k:=match e with
  | .Call (.Attribute o _ _) [.List c _] [] _=>q.e lc o ρ λx=>bind (lstOf x) λ_=>A3 q lc c ρ λds=>bind (newL ds) λd=>bind (K0 x [d]) k
  | _=>bad
 eq e ρ _ k h:=by
  split
  ·simp only [h.e,m8 h,bind_assoc,i8]
  ·first
   | rfl
   | (rename_i l;split;exact (l _ _ _ _ _ _ rfl).elim;rfl)
def rF:RuS where
 is _ _ e:=match e with
  | .Expr e _=>v5 e
  | _=>false
 run r _ _ lc e ρ:=match e with
  | .Expr e _=>bind (r.e lc e ρ) λ_=>ret (.nx ρ)
  | _=>bad
 ok e R TX h hf hi:=by
  cases e with
  | Expr e p=>exact jT (R.ex h _) hi
  | _=>exact J7
 runK q _ _ lc e ρ _ k:=match e with
  | .Expr e _=>q.e lc e ρ λ_=>k (.nx ρ)
  | _=>bad
 eq e ρ _ k h:=by
  cases e with
  | Expr e p=>simp only [h.e,bind_assoc,i8]
  | _=>rfl
def vC:RuS where
 is _ _ e:=match e with
  | .Return (some _) _=>true
  | _=>false
 run r _ _ lc e ρ:=match e with
  | .Return (some e) _=>bind (r.e lc e ρ) λd=>ret (.rt d)
  | _=>bad
 ok e R TX h hf hi:=by
  split at hi
  ·exact dq (R.ex h _)
  ·cases hi
 runK q _ _ lc e ρ _ k:=match e with
  | .Return (some e) _=>q.e lc e ρ λd=>k (.rt d)
  | _=>bad
 eq e ρ _ k h:=by
  split
  ·simp only [h.e,bind_assoc,i8]
  ·first
   | rfl
   | (rename_i a;split;exact (a _ _ rfl).elim;rfl)
def sS:RuS where
 is _ lc e:=match e with
  | .Return (some (.List es _)) _=>decide (("return" : Str)∈lc.mu)&&es.all b8
  | _=>false
 run r _ _ lc e ρ:=match e with
  | .Return (some (.List es _)) _=>bind (bind (w5 r lc es ρ) newL) λd=>ret (.rt d)
  | _=>bad
 ok e R TX h hf hi:=by
  split at hi
  ·rw [Ao] at hi;exact dq (aJ (k7 R h hi.2))
  ·cases hi
 runK q _ _ lc e ρ _ k:=match e with
  | .Return (some (.List es _)) _=>A3 q lc es ρ λds=>bind (newL ds) λd=>k (.rt d)
  | _=>bad
 eq e ρ _ k h:=by
  split
  ·simp only [m8 h,bind_assoc,i8]
  ·first
   | rfl
   | (rename_i a;split;exact (a _ _ _ rfl).elim;rfl)
def sIf:RuS where
 is _ _ e:=match e with
  | .If _ _ _ _=>true
  | _=>false
 run r _ _ lc e ρ:=match e with
  | .If c a b _=>bind (r.t lc c ρ) λq=>if q=true then U1 r lc a ρ else U1 r lc b ρ
  | _=>bad
 ok e R TX h hf hi:=by
  cases e with
  | If c a b p=>exact nu (R.tx h _) (J9 R h hf) (J9 R h hf)
  | _=>exact J7
 runK q _ _ lc e ρ _ k:=match e with
  | .If c a b _=>q.t lc c ρ λz=>if z=true then s0 q lc a ρ k else s0 q lc b ρ k
  | _=>bad
 eq e ρ _ k h:=by
  cases e with
  | If c a b p=>simp only [h.t,aH h,bind_assoc,y3]
  | _=>rfl
def cw (a:Lc) (x:Str):Bool:=(e5 a.N x).isSome&&ax a.sc x
def T8 (a:Lc) (x:Str) (ρ:Env) (d:D):M Fl:=match e5 a.N x with
 | some i=>ret (.nx (ρ.set i (some d)))
 | none=>bad
def y4 (b:Lc) (x:Str) (ρ:Env) (d:D) {a:Type} (k:Fl->M a):M a:=match e5 b.N x with
 | some i=>k (.nx (ρ.set i (some d)))
 | none=>bad
theorem Y0 (a:Lc) (x:Str) (ρ:Env) (d:D) {b:Type} (k:Fl->M b):bind (T8 a x ρ d) k=y4 a x ρ d k:=by
 unfold T8 y4;cases e5 a.N x <;> rfl
theorem bq {x:Str} {p pos:Pos} {e:Expr} {f:Env->M D} (h:CxOk T k lc X) (l:lc.fr=true) (a:cw lc x=true) (g:PE X e (tD X.K T.cl xe f)) (c:v5 e=true):PS X (.Assign [.Name x p] e pos) (sD X.K T.cl xe λρ=>bind (f ρ) (T8 lc x ρ)):=by
 rw [cw,Ao,Bx] at a;obtain ⟨⟨i,b⟩,j⟩:=a;have:=lN (pos:=pos) (pos':=p) h.nd' (by rw [h.N];exact v3 b) (by rw [h.sc];exact I0 j) g c (.inl (h.fn1 l));have e:T8 lc x=λρ d=>ret (.nx (ρ.set i (some d))):=by funext ρ d;simp only [T8,b]
 simp_all
def vK:RuS where
 is _ lc e:=match e with
  | .Assign [.Name x _] e _=>cw lc x&&v5 e
  | _=>false
 run r _ _ lc e ρ:=match e with
  | .Assign [.Name x _] e _=>bind (r.e lc e ρ) (T8 lc x ρ)
  | _=>bad
 ok e R TX h hf hi:=by
  split at hi
  ·rw [Ao] at hi;exact bq h hf hi.1 (R.ex h _) hi.2
  ·cases hi
 runK q _ _ lc e ρ _ k:=match e with
  | .Assign [.Name x _] e _=>q.e lc e ρ λd=>y4 lc x ρ d k
  | _=>bad
 eq e ρ _ k h:=by
  split
  ·simp only [h.e,bind_assoc,Y0]
  ·first
   | rfl
   | (rename_i a;split;exact (a _ _ _ _ rfl).elim;rfl)
def sf:RuS where
 is _ lc e:=match e with
  | .Assign [.Name x _] (.List es _) _=>cw lc x&&decide (x∈lc.mu)&&es.all b8
  | _=>false
 run r _ _ lc e ρ:=match e with
  | .Assign [.Name x _] (.List es _) _=>bind (bind (w5 r lc es ρ) newL) (T8 lc x ρ)
  | _=>bad
 ok e R TX h hf hi:=by
  split at hi
  ·rw [Ao,Ao] at hi;exact bq h hf hi.1.1 (aJ (k7 R h hi.2)) rfl
  ·cases hi
 runK q _ _ lc e ρ _ k:=match e with
  | .Assign [.Name x _] (.List es _) _=>A3 q lc es ρ λds=>bind (newL ds) λd=>y4 lc x ρ d k
  | _=>bad
 eq e ρ _ k h:=by
  split
  ·simp only [m8 h,bind_assoc,Y0]
  ·first
   | rfl
   | (rename_i a;split;exact (a _ _ _ _ _ rfl).elim;rfl)
def ij:RuS where
 is Γ lc e:=match e with
  | .Assign [.Name x _] (.Call (.Name y _) [a] [] _) _=>cw lc x&&decide (x∈lc.mu)&&decide (y = "list")&&(Γ.gl.lookup ("list" : Str)).isNone&&glB lc.sc "list" && b8 a
  | _=>false
 run r _ _ lc e ρ:=match e with
  | .Assign [.Name x _] (.Call (.Name _ _) [a] [] _) _=>bind (bind (r.e lc a ρ) listP) (T8 lc x ρ)
  | _=>bad
 ok {T k r Γ C lc X} e R TX h hf hi:=by
  split at hi
  ·rename_i x p y o a b pos;simp only [Ao,AD,AR] at hi;obtain ⟨⟨⟨⟨⟨m,n⟩,rfl⟩,g⟩,l⟩,c⟩:=hi;refine bq h hf m ?_ rfl;exact PE.imp (al ma (h.gl l) (TX.none h (by decide) g) (by rfl) (P7 (R.ex h a) Z9 c) (by decide) (by decide) (by simp [c])) λσ H Q ⟨μ,S,ρ,j,f,p⟩=>⟨μ,S,ρ,j,f,by
    have e:(bind (bind (r.e lc a ρ) λd=>bind (ret []) λds=>ret (d :: ds)) (one listP))=bind (r.e lc a ρ) listP:=by rw [bind_assoc];rfl
    show Post X.K T.cl (xOf X) μ H ((bind (bind (r.e lc a ρ) λd=>bind (ret []) λds=>ret (d :: ds)) (one listP)) S) _;rw [e];exact p⟩
  ·cases hi
 runK q _ _ lc e ρ _ k:=match e with
  | .Assign [.Name x _] (.Call (.Name _ _) [a] [] _) _=>q.e lc a ρ λz=>bind (listP z) λd=>y4 lc x ρ d k
  | _=>bad
 eq e ρ _ k h:=by
  split
  ·simp only [h.e,bind_assoc,Y0]
  ·first
   | rfl
   | (rename_i i;split;exact (i _ _ _ _ _ _ _ rfl).elim;rfl)
def swB (c:Lc) (b:Expr) (a:Scope) (t:Str) (pos:Pos):Bool:=c.sc.names.lookup t==some .local&&pos.line==b.pos.line&&!(a.names.any λ(n,k)=>n==t&&(k==.local||k==.cell))
theorem rZ (h:CxOk T k lc X) (d:Expr) (c:List Comprehension) (a:Scope) (x:Str) (pos' pos b:Pos):swapsWith (.ListComp d c a b) (some (.Name x pos')) pos.line X.env=pure (swB lc (.ListComp d c a b) a x pos'):=by
 show pure (X.env.blockKind==.function&&X.env.kindOf x==some .local&&pos'.line==(Expr.ListComp d c a b).pos.line&&!(a.names.any λ(n,k)=>n==x&&(k==.local||k==.cell)))=_;have f:X.env.blockKind=.function:=by unfold PySem.Env.blockKind;rw [h.sc,h.kd];rfl
 have e:X.env.kindOf x=lc.sc.names.lookup x:=by unfold PySem.Env.kindOf;rw [h.sc]
 rw [f,e];rfl
theorem gk {T:Tx} {k i:Nat} {f:Lc} {X:Cx} {x:Str} {p pos:Pos} {e:Expr} {fs:Env->M (List D)} {xe:Addr->Hp->Prop} (r:e5 f.N x=some i) (h:PS X (.Assign [.Name x p] e pos) (mR (dZ X.K T.cl x0 fs) (X1 i))):PS X (.Assign [.Name x p] e pos) (sD X.K T.cl xe λρ=>bind (bind (nx (fs ρ)) λds=>ret (.lst ds)) (T8 f x ρ)):=PS.imp h λD σ H ⟨μ,S,ρ,g,n,p⟩=>
 ⟨μ,S,ρ,g,n,p.bind.bind.nx.imp λds S1 a j l c o m ys q b=>by
  have d:=o.ret a j (Lat.refl _ _) c;simp only [T8,r] at d;exact d.ret a j (Lat.refl _ _) c _ ((g.later l).set (.lst q b) i)⟩
def ig:RuS where
 is _ lc e:=match e with
  | .Assign [.Name x _] (.ListComp _ [⟨.Name y _,b,_,0⟩] a _) _=>cw lc x&&u4 lc a [y]&&j6 b
  | _=>false
 run r _ _ lc e ρ:=match e with
  | .Assign [.Name x _] (.ListComp c [⟨.Name y g,b,ifs,0⟩] a _) _=>bind (bind (D2 r lc c y g b ifs a ρ) λds=>ret (.lst ds)) (T8 lc x ρ)
  | _=>bad
 ok {T k r Γ C lc X} e R TX h hf f:=by
  split at f
  ·rename_i x p c y g b ifs a d pos;rw [Ao,Ao] at f;obtain ⟨⟨N,K⟩,t⟩:=f;have m:=N;rw [cw,Ao,Bx] at m;obtain ⟨⟨i,f⟩,M⟩:=m;have j:X.N[i]?=some x:=by rw [h.N];exact v3 f
   have n:L2.Loc X.env.scope x:=by rw [h.sc];exact I0 M
   have l:X.fn x=true\/X.env.scope.names.lookup x=some .local:=.inl (h.fn1 hf);have u:=rZ h c [⟨.Name y g,b,ifs,0⟩] a x p pos d;unfold D2;cases L:d8 (e5 lc.N) (i7 a) with
   | none=>exact PS.imp fy λD σ H ⟨μ,S,ρ,J,F,p⟩=>p.bind.elim
   | some caps=>
    obtain ⟨z,o,I,v,E⟩:=B7 h K L;have G:=λpins C w s H=>PTL.x0 (tests_ok (ifs:=ifs) R (n0 h v E o pins C w s H));have A:=λpins C w s H=>PE.x0 (R.ex (n0 h v E o pins C w s H) c);refine gk (k:=k) f ?_;cases B:swB lc (.ListComp c [⟨.Name y g,b,ifs,0⟩] a d) a x p with
    | false=>
     rw [B] at u;exact gy h.nd' j n (ao z (h.calm v) o rfl (I y (by simp)) (PI.x0 (R.ix h _ _)) G A t) u l
    | true=>
     rw [B] at u;exact PS.imp (cy u h.nd' j n l z (h.calm v) o rfl (I y (by simp)) (PI.x0 (R.ix h _ _)) G A (u6 t)) λD σ H ⟨μ,S,ρ,J,F,p⟩=>P1 J F p
  ·cases f
 runK q _ _ lc e ρ _ k:=match e with
  | .Assign [.Name x _] (.ListComp c [⟨.Name y g,b,ifs,0⟩] a _) _=>aO q lc c y g b ifs a ρ λds=>y4 lc x ρ (.lst ds) k
  | _=>bad
 eq e ρ _ k h:=by
  split
  ·simp only [aj h,bind_assoc,i8,Y0]
  ·first
   | rfl
   | (rename_i t;split;exact (t _ _ _ _ _ _ _ _ _ _ rfl).elim;rfl)
def m4 (a:Lc):List Expr->Option (List Nat)
 | []=>some []
 | .Name x _ :: b=>if ax a.sc x=true then (match e5 a.N x,m4 a b with
   | some i,some c=>some (i :: c)
   | _,_=>none) else none
 | _=>none
theorem O7 (h:CxOk T k lc X) (hf:lc.fr=true):∀ {ts:List Expr} {is:List Nat},m4 lc ts=some is->B8 X ts is
 | [],is,e=>by cases e;exact True.intro
 | t :: ts,is,e=>by
  cases t with
  | Name x p=>
   simp only [m4] at e;by_cases hl:ax lc.sc x=true
   ·simp only [if_pos hl] at e;cases e1:e5 lc.N x with
    | none=>rw [e1] at e;cases e
    | some i=>
     cases e2:m4 lc ts with
     | none=>grind
     | some is'=>
      rw [e1,e2] at e;cases e;exact ⟨by rw [h.N];exact v3 e1,by rw [h.sc];exact I0 hl,.inl (h.fn1 hf),O7 h hf e2⟩
   ·grind
  | _=>simp only [m4] at e;cases e
def tU:RuS where
 is _ lc e:=match e with
  | .Assign [.Tuple ts _ _] e _=>(m4 lc ts).isSome&&v5 e&&gX e&&!quiet lc
  | _=>false
 run r _ _ lc e ρ:=match e with
  | .Assign [.Tuple ts _ _] e _=>(match m4 lc ts with
   | some is=>bind (r.e lc e ρ) λd=>Y3 (C9 is) d ρ
   | none=>bad)
  | _=>bad
 ok {T k r Γ C lc X} e R TX h hf hi:=by
  split at hi
  ·rename_i ts n p e pos;simp at hi;obtain ⟨⟨⟨h1,h2⟩,h3⟩,h4⟩:=hi;show PS X _ (sD X.K T.cl (xOf X) λρ=>(match m4 lc ts with
    | some is=>bind (r.e lc e ρ) λd=>Y3 (C9 is) d ρ
    | none=>bad))
   cases e1:m4 lc ts with
   | none=>exact J7
   | some is=>exact lX (h.calm h4) h.nd' (O7 h hf e1) (R.ex h _) h2 h3
  ·cases hi
 runK q _ _ lc e ρ _ k:=match e with
  | .Assign [.Tuple ts _ _] e _=>(match m4 lc ts with
   | some is=>q.e lc e ρ λd=>bind (Y3 (C9 is) d ρ) k
   | none=>bad)
  | _=>bad
 eq {r q Γ C lc} e ρ _ k h:=by
  split
  ·rename_i ts n p e pos;cases m4 lc ts with
   | none=>rfl
   | some is=>simp only [h.e,bind_assoc]
  ·first
   | rfl
   | (rename_i hn;split;exact (hn _ _ _ _ _ rfl).elim;rfl)
def qU:RuS where
 is _ _ e:=match e with
  | .Assign [.Subscript _ b _] e _=>v5 e&&z4 b
  | _=>false
 run r _ _ lc e ρ:=match e with
  | .Assign [.Subscript a b _] e _=>bind (r.e lc e ρ) λv=>bind (r.e lc a ρ) λx=>bind (r.e lc b ρ) λy=>bind (D4 x y v) λ_=>ret (.nx ρ)
  | _=>bad
 ok e R TX h hf hi:=by
  split at hi
  ·rw [Ao] at hi;exact ju h.u1 (R.ex h _) (R.ex h _) (R.ex h _) hi.1 hi.2
  ·cases hi
 runK q _ _ lc e ρ _ k:=match e with
  | .Assign [.Subscript a b _] e _=>q.e lc e ρ λv=>q.e lc a ρ λx=>q.e lc b ρ λy=>bind (D4 x y v) λ_=>k (.nx ρ)
  | _=>bad
 eq e ρ _ k h:=by
  split
  ·simp only [h.e,bind_assoc,i8]
  ·first
   | rfl
   | (rename_i c;split;exact (c _ _ _ _ _ rfl).elim;rfl)
def tgE (b:Lc) (a:Expr):Option (D->Env->Option Env):=match a with
 | .Name x _=>if ax b.sc x=true then (e5 b.N x).map λi=>λd ρ=>some (ρ.set i (some d)) else none
 | .Tuple c _ _=>(m4 b c).map C9
 | _=>none
theorem rS (h:CxOk T k lc X) (d:lc.fr=true) (g:quiet lc=false) {b:Expr} {tg:D->Env->Option Env} (e:tgE lc b=some tg):PG X b (mS X.K T.cl tg):=by
 unfold tgE at e;split at e
 ·rename_i x p;by_cases c:ax lc.sc x=true
  ·simp only [if_pos c] at e;cases a:e5 lc.N x with
   | none=>rw [a] at e;cases e
   | some i=>rw [a] at e;cases e;exact ji h.nd' (by rw [h.N];exact v3 a) (by rw [h.sc];exact I0 c) (.inl (h.fn1 d))
  ·grind
 ·rename_i f n p;cases a:m4 lc f with
  | none=>rw [a] at e;cases e
  | some j=>rw [a] at e;cases e;exact dn (h.calm g) h.nd' (O7 h d a)
 ·cases e
def uL:RuS where
 is _ lc e:=match e with
  | .For _ a _ [] _=>j6 a&&!quiet lc
  | _=>false
 run r _ _ lc e ρ:=match e with
  | .For b a body [] _=>(match tgE lc b with
   | some tg=>bind (r.i lc b a ρ) λp=>v6 p.1 tg (U1 r lc body) p.2 0 ρ
   | none=>bad)
  | _=>bad
 ok {T k r Γ C lc X} e R TX h hf hi:=by
  split at hi
  ·rename_i b a body pos;simp at hi;show PS X _ (sD X.K T.cl (xOf X) λρ=>(match tgE lc b with
    | some tg=>bind (r.i lc b a ρ) λp=>v6 p.1 tg (U1 r lc body) p.2 0 ρ
    | none=>bad))
   cases e:tgE lc b with
   | none=>exact J7
   | some tg=>exact lH h.po (h.calm hi.2) (R.ix h _ _) (rS h hf hi.2 e) (J9 R h hf) hi.1
  ·cases hi
 runK q _ _ lc e ρ _ k:=match e with
  | .For b a body [] _=>(match tgE lc b with
   | some tg=>q.i lc b a ρ λp=>bind (v6 p.1 tg (λc=>s0 q lc body c ret) p.2 0 ρ) k
   | none=>bad)
  | _=>bad
 eq {r q Γ C lc} e ρ _ k h:=by
  split
  ·rename_i b a body pos;cases tgE lc b with
   | none=>rfl
   | some tg=>
    have:(λc=>s0 q lc body c ret)=U1 r lc body:=funext λc=>by rw [aH h,D9]
    simp only [h.i,bind_assoc,this]
  ·first
   | rfl
   | (rename_i d;split;exact (d _ _ _ _ rfl).elim;rfl)
structure Fd where
 ps:List Str
 N:List Str
 sc:Scope
 body:List Stmt
 mu:List Str
def L8 (N:List Str) (ds:List D):Env:=ds.map some++List.replicate (N.length-ds.length) none
def endD (fl:Fl):M D:=match fl with
 | .rt d=>ret d
 | .nx _=>ret .non
 | _=>bad
abbrev C3 (fd:Fd):Lc:=⟨fd.N,fd.sc,true,fd.mu⟩
def C4 (Rs:Rules) (Γ:Gm) (Tb:List Fd):Nat->Nat->List D->M D
 | 0,_,_=>bad
 | k+1,i,ds=>match Tb[i]? with
  | none=>bad
  | some fd=>if ds.length=fd.ps.length then bind (U1 (ev Rs Γ (C4 Rs Γ Tb k) 40) (C3 fd) fd.body (L8 fd.N ds)) endD else bad
def E3 (K:PySem.W.Frag) (f:Addr):Option Value:=match K.lookup f with
 | some ⟨_,_,.func fd,_⟩=>some fd.code
 | _=>none
def bg (T:Tx) (f:Addr) (qual:Str) (mu:List Str):Prop:=mu.contains ("lam" : Str)=true->∃ c,E3 T.K f=some (.ref c)/\PySem.W.codeHdIn T.K c (T.cl 1000000)=true/\kE T.K T.cl/\qual ++ ".<locals>." ++ "<lambda>" = cZ T.K (T.cl 1000000)
structure FnTx (T:Tx) (x:Str) (fd:Fd):Prop where
 ex:∃ (f:Addr) (da:FuncData) (qual:Str) (st:Stmt),Fun T.K x qual st f da/\j2 st=fd.body/\c7 st=fd.sc/\FnScope fd.N fd.ps fd.sc/\Binds T.K da fd.ps []/\T.mg x=some (.ref f)/\bg T f qual fd.mu
theorem bU {K:PySem.W.Frag} {μ:Mp} {H:Hp} {N:List Str} {ds:List D} {vs:List V} (r:RDs K μ H ds vs):EnvOk K μ H (L8 N ds) (L2.start N vs):=by
 unfold L8 L2.start;refine ⟨by simp [r.length],λi d e=>?_⟩;by_cases hi:i<ds.length
 ·rw [AC (by simpa using hi),AH] at e;cases q:ds[i]? with
  | none=>rw [q] at e;cases e
  | some d'=>
   rw [q] at e;cases e;obtain ⟨v,e1,r1⟩:=r.get q;refine ⟨v,?_,r1⟩;rw [AC (by rw [Aj,<- r.length];exact hi),AH,e1];rfl
 ·rw [AL (by simpa using Cp hi),DL] at e;split at e <;> cases e
section
variable {P:Program} {w:World} {K:PySem.W.Frag} {mg:Str->Option Value} {base:Heap}
theorem ft {CX:CXT} {x qual:Str} {st:Stmt} {f:Addr} {fd:FuncData} {N ps:List Str} {k:Nat} {sp:Sp} (F:Fun K x qual st f fd) (S:FnScope N ps (c7 st)) (len:∀ vs H Q E,sp vs H Q E->vs.length=ps.length)
  (hbody:∀ (cdv:Value) (A:Around) (outer:List PySem.Env) (s:Shared) (H:Hp) (vs:List V) (Q:VK) (E:XK),E3 K f=some cdv->Room CX.q k (A.deeper (envOfC qual (c7 st) s.heap.objs.size f cdv))->sp vs H Q E ->
   ∃ t,PSs (N4 CX P w K mg base N qual (c7 st) f cdv A outer s H E) (j2 st) t/\t { nx:=λ_ H'=>Q .non H',rt:=Q } (start N vs) H):FnOk P w K mg base CX (k+1) f fd ps sp:=by
 obtain ⟨oc,od,kV,doc,pm,an,cdv,ct,osl,rfl,lk,hcd⟩:=F.ex;exact rh lk hcd S len λA outer s H vs Q E hr hsp=>hbody cdv A outer s H vs Q E (by unfold E3;rw [lk]) hr hsp
theorem Post.fly {α:Type} {cl:Nat->Addr} {N:List Str} {qual:Str} {scope:Scope} {f:Addr} {cd:Value} {A:Around} {outer:List PySem.Env} {s:Shared} {H0 H:Hp} {E:XK} {μ:Mp} {r:R α} {G:α->Sto->Mp->Hp->Prop} (p:Post K cl (gQ E) μ H r G) :
  Post K cl (xOf (N4 (CXd P w K) P w K mg base N qual scope f cd A outer s H0 E)) μ H r G:=by
 cases r with
 | ok a S=>exact p
 | bad=>exact p
 | exn n S=>
  intro μ' H' a l rp e pins σ s' C d tb I fx;refine cN (X:=N4 (CXd P w K) P w K mg base N qual scope f cd A outer s H0 E) I I.ok.frames rfl rfl fx λH2 s2 T I2 fx2 m2=>?_;obtain ⟨l2,r2⟩:=rp.mv I.hok e fx.at_ m2;exact ⟨a,C,d,some T,H2,rfl,I2.os,I2.bare,I2.base,I2.hok,fx2,p μ' H2 a (l.trans l2) r2 e⟩
end
theorem FnOk.unX {P:Program} {w:World} {K:PySem.W.Frag} {mg:Str->Option Value} {base:Heap} {k n:Nat} {f:Addr} {fd:FuncData} {ps:List Str} {cl:Nat->Addr} {run:List D->M D} (F:FnOk P w K mg base (CXd P w K) k f fd ps (spX K cl n run)):FnOk P w K mg base (CXq false) k f fd ps (spD K cl n run):=
 ⟨λvs H Q E h=>F.len vs H Q E0 h,λA outer s H args us vs Q E hr e0 hb r h=>BM (F.run A outer s H args us vs Q E0 hr e0 hb r h) λres s' hq=>by
  cases res with
  | ok fl=>cases fl <;> exact hq
  | error e=>obtain ⟨_,_,_,_,_,_,_,_,_,_,_,z⟩:=hq;exact z⟩
section
variable {Rs:Rules} {T:Tx} {Γ:Gm} {Tb:List Fd} {k i:Nat} {x qual:Str} {st:Stmt} {f:Addr} {da:FuncData} {fd:Fd}
theorem bQ (TX:TxOk T Γ (k+3) (C4 Rs Γ Tb k)) (hi:Tb[i]?=some fd) (F:Fun T.K x qual st f da) (h1:j2 st=fd.body) (h2:c7 st=fd.sc) (S:FnScope fd.N fd.ps fd.sc) (hq:quiet (C3 fd)=false) (hL:bg T f qual fd.mu) :
  FnOk T.P T.w T.K T.mg T.base (CXd T.P T.w T.K) (k+4) f da fd.ps (spX T.K T.cl fd.ps.length (C4 Rs Γ Tb (k+1) i)):=by
 have S':FnScope fd.N fd.ps (c7 st):=by rw [h2];exact S
 refine ft (k:=k+3) F S' (λvs H Q E h=>h.1) λcdv A outer s H vs Q E hcd hr hsp=>?_;obtain ⟨hl,μ,S0,ds,rds,rp,p⟩:=hsp;have cx:CxOk T (k+3) (C3 fd) (N4 (CXd T.P T.w T.K) T.P T.w T.K T.mg T.base fd.N qual (c7 st) f cdv A outer s H E):=⟨rfl,rfl,rfl,rfl,rfl,rfl,S.nd,h2,λ_=>rfl,by rw [hq];exact hr,λe s' z=>wpAny_leaving_again (SameStack.refl _) z,rfl,S.kind,λ_ _=>⟨rfl,rfl⟩,λ_ z=>let ⟨c,e1,e2⟩:=hL z;⟨c,AG (hcd.symm.trans e1),e2⟩⟩;have R:=gE (Rs:=Rs) TX 40;refine ⟨_,by rw [h1];exact J9 R cx rfl,?_⟩;refine ⟨μ,S0,L8 fd.N ds,bU rds,rp,?_⟩;have hd:ds.length=fd.ps.length:=by rw [rds.length];exact hl
 simp only [C4,hi,if_pos hd] at p;refine Post.fly (p.bind.imp λfl S1 μ1 H1 l1 r1 p1=>?_);cases fl with
 | nx ρ=>exact λσ _=>p1 μ1 H1 (Lat.refl _ _) r1 _ .non
 | rt d=>exact λv rv=>p1 μ1 H1 (Lat.refl _ _) r1 v rv
 | bk ρ=>exact False.elim p1
 | ct ρ=>exact False.elim p1
theorem jj (TX:TxOk T Γ (k+3) (C4 Rs Γ Tb k)) (hi:Tb[i]?=some fd) (F:Fun T.K x qual st f da) (h1:j2 st=fd.body) (h2:c7 st=fd.sc) (S:FnScope fd.N fd.ps fd.sc) (hq:quiet (C3 fd)=true) (hL:bg T f qual fd.mu) :
  FnOk T.P T.w T.K T.mg T.base (CXq true) (k+4) f da fd.ps (spD T.K T.cl fd.ps.length (C4 Rs Γ Tb (k+1) i)):=by
 have S':FnScope fd.N fd.ps (c7 st):=by rw [h2];exact S
 refine ft (k:=k+3) F S' (λvs H Q E h=>h.1) λcdv A outer s H vs Q E hcd hr hsp=>?_;obtain ⟨hl,μ,S0,ds,rds,rp,p⟩:=hsp;have cx:CxOk T (k+3) (C3 fd) (N4 (CXq true) T.P T.w T.K T.mg T.base fd.N qual (c7 st) f cdv A outer s H E).nox:=⟨rfl,rfl,rfl,rfl,rfl,rfl,S.nd,h2,λz=>(by rw [hq] at z;exact absurd z (by decide)),by rw [hq];exact hr,PassesOwn.never,rfl,S.kind,λ_ z=>(by rw [hq] at z;exact absurd z (by decide)),λ_ z=>let ⟨c,e1,e2⟩:=hL z;⟨c,AG (hcd.symm.trans e1),e2⟩⟩;have R:=gE (Rs:=Rs) TX 40;refine ⟨_,by rw [h1];exact PSs.nox (PSs.x0 (J9 R cx rfl)),?_⟩;refine ⟨μ,S0,L8 fd.N ds,bU rds,rp,?_⟩;have hd:ds.length=fd.ps.length:=by rw [rds.length];exact hl
 simp only [C4,hi,if_pos hd] at p;refine p.bind.imp λfl S1 μ1 H1 l1 r1 p1=>?_;cases fl with
 | nx ρ=>exact λσ _=>p1 μ1 H1 (Lat.refl _ _) r1 _ .non
 | rt d=>exact λv rv=>p1 μ1 H1 (Lat.refl _ _) r1 v rv
 | bk ρ=>exact False.elim p1
 | ct ρ=>exact False.elim p1
theorem kt (TX:TxOk T Γ (k+3) (C4 Rs Γ Tb k)) (hi:Tb[i]?=some fd) (F:Fun T.K x qual st f da) (h1:j2 st=fd.body) (h2:c7 st=fd.sc) (S:FnScope fd.N fd.ps fd.sc) (hq:quiet (C3 fd)=false:=by rfl) (hL:bg T f qual fd.mu:=by exact λz=>absurd z (by decide)) :
  FnOk T.P T.w T.K T.mg T.base (CXq false) (k+4) f da fd.ps (spD T.K T.cl fd.ps.length (C4 Rs Γ Tb (k+1) i)):=FnOk.unX (bQ TX hi F h1 h2 S hq hL)
def oT (Γ:Gm) (Tb:List Fd):Bool:=(List.range Tb.length).all λi=>match Tb[i]? with
 | some fd=>quiet (C3 fd)==Γ.qs.contains i
 | none=>false
theorem dQ (h:oT Γ Tb=true) (hi:Tb[i]?=some fd):quiet (C3 fd)=Γ.qs.contains i:=by
 unfold oT at h;have:=(Bg.mp h) i (Bd.mpr (Au.mp hi).1);rw [hi] at this;simpa using this
end
structure TxSt (T:Tx) (Γ:Gm):Prop where
 blt:∀ x∈bnames,Γ.gl.lookup x=none->T.mg x=none
 val:∀ x d,Γ.gl.lookup x=some (.val d)->∃ u v,T.mg x=some u/\RelV v u/\∀ μ H,RD T.K μ H d v
 err:∀ x c fs,Γ.gl.lookup x=some (.err c fs)->ErrAt T x c fs/\(∀ g∈fs,A9 T.K (T.cl c) g)
 sub:∀ x c c0 fs,Γ.gl.lookup x=some (.err c0 fs)->XC T.K (T.cl c)->PySem.W.kitOne T.K (.ref (T.cl c)) (.ref (T.cl c0))=some (Γ.sub c c0)
 subV:∀ c,XC T.K (T.cl c)->PySem.W.kitOne T.K (.ref (T.cl c)) (.type "ValueError")=some true
 subT:∀ c,XC T.K (T.cl c)->∀ t∈tys,PySem.W.kitOne T.K (.ref (T.cl c)) (.type t)=some false
 fld:∀ g∈Γ.flds,∀ c,XC T.K (T.cl c)->A9 T.K (T.cl c) g
 dct:∀ x kvs,Γ.gl.lookup x=some (.dct kvs)->iD T x kvs
def iF (T:Tx) (Γ:Gm) (Tb:List Fd):Prop:=∀ x i n,Γ.gl.lookup x=some (.fn i n)->∃ fd,Tb[i]?=some fd/\fd.ps.length=n/\FnTx T x fd
theorem TxSt.ok {T:Tx} {Γ:Gm} (h:TxSt T Γ) {k:Nat} {C:Cf} (f:∀ x i n,Γ.gl.lookup x=some (.fn i n)->i∉Γ.qs->FnX T (k+3) i n x (C i)) (fq:∀ x i n,Γ.gl.lookup x=some (.fn i n)->i∈Γ.qs->FnAt T (k+3) i n x (C i)):TxOk T Γ (k+3) C:=⟨h.blt,h.val,f,fq,h.err,h.sub,h.subV,h.subT,h.fld,h.dct,by omega⟩
theorem kc {Rs:Rules} {T:Tx} {Γ:Gm} {Tb:List Fd} (h:TxSt T Γ) (fs:iF T Γ Tb) (k:Nat) (hq:oT Γ Tb=true:=by rfl):TxOk T Γ (k+3) (C4 Rs Γ Tb k):=by
 induction k with
 | zero=>
  have bad:∀ x i n,Γ.gl.lookup x=some (.fn i n)->∃ (a:Addr) (fd:FuncData) (ps:List Str),ps.length=n/\(∀ CX,FnOk T.P T.w T.K T.mg T.base CX 3 a fd ps (spX T.K T.cl n (C4 Rs Γ Tb 0 i)))/\T.mg x=some (.ref a)/\PySem.W.keepIn T.K (.ref a)=true/\Binds T.K fd ps []:=λx i n e=>by
   obtain ⟨fd,h1,h2,h3⟩:=fs x i n e;obtain ⟨f,da,qual,st,F,_,_,_,b,m,_⟩:=h3.ex;refine ⟨f,da,fd.ps,h2,λCX=>⟨λvs H Q E h=>by rw [h2];exact h.1,λA outer s H args us vs Q E _ _ _ _ hsp=>?_⟩,m,F.kp,b⟩;obtain ⟨_,μ,S,ds,_,_,p⟩:=hsp;exact p.elim
  refine h.ok (λx i n e _=>?_) λx i n e _=>?_
  ·obtain ⟨a,fd,ps,h1,h2,h3⟩:=bad x i n e;exact ⟨a,fd,ps,h1,h2 _,h3⟩
  ·obtain ⟨a,fd,ps,h1,h2,h3⟩:=bad x i n e;exact ⟨a,fd,ps,h1,FnOk.imp (h2 _) (sp':=spD T.K T.cl n (C4 Rs Γ Tb 0 i)) λvs H Q E ⟨_,μ,S,ds,_,_,p⟩=>p.elim,h3⟩
 | succ k TX=>
  refine h.ok (k:=k+1) (λx i n e hn=>?_) λx i n e m=>?_
  ·obtain ⟨fd,h1,h2,h3⟩:=fs x i n e;subst h2;obtain ⟨f,da,qual,st,F,g1,g2,S,b,m2,lm⟩:=h3.ex;exact ⟨f,da,fd.ps,rfl,bQ TX h1 F g1 g2 S (by rw [dQ hq h1];simpa using hn) lm,m2,F.kp,b⟩
  ·obtain ⟨fd,h1,h2,h3⟩:=fs x i n e;subst h2;obtain ⟨f,da,qual,st,F,g1,g2,S,b,m2,lm⟩:=h3.ex;exact ⟨f,da,fd.ps,rfl,jj TX h1 F g1 g2 S (by rw [dQ hq h1];simpa using m) lm,m2,F.kp,b⟩
def runK (Rs:Rules) (Γ:Gm) (C:Cf) (fd:Fd) (ds:List D):M D:=if ds.length=fd.ps.length then s0 (evK Rs Γ C 40) ⟨fd.N,fd.sc,true,fd.mu⟩ fd.body (L8 fd.N ds) endD else bad
theorem d7 {Rs:Rules} {Γ:Gm} {Tb:List Fd} {k i:Nat} {fd:Fd} (h:Tb[i]?=some fd) (ds:List D):C4 Rs Γ Tb (k+1) i ds=runK Rs Γ (C4 Rs Γ Tb k) fd ds:=by
 simp only [C4,h,runK];split
 ·rw [aH (mh 40)]
 ·rfl
def jS (a:Arguments):List Str:=a.args.map (·.arg)
def lj (ps:List Str) (sc:Scope):List Str:=ps++(sc.names.filter λy=>(y.2==.local||y.2==.cell)&&!ps.contains y.1).map (·.1)
def u9 (st:Stmt) (mu:List Str):Fd:=⟨jS (u5 st),lj (jS (u5 st)) (c7 st),c7 st,j2 st,mu⟩
def O2 (fd:Fd):Bool:=decide (fd.sc.kind=.function)&&!fd.sc.isCoroutine&&!fd.sc.isGenerator&&decide fd.N.Nodup&&decide (fd.N.take fd.ps.length=fd.ps)&&fd.ps.all (λx=>ax fd.sc x)&&fd.sc.names.all (λy=>decide (y.2≠.free))
theorem D3 {fd:Fd} (h:O2 fd=true):FnScope fd.N fd.ps fd.sc:=by
 simp only [O2,Ao,AD,Bg,Bz] at h;obtain ⟨⟨⟨⟨⟨⟨h1,h2⟩,h3⟩,h4⟩,h5⟩,h6⟩,h7⟩:=h;exact ⟨h1,h2,h3,h4,h5,λx hx=>I0 (h6 x hx),h7⟩
theorem _root_.L2.Inv.dr (I:Inv X pins σ H s) (d:Drawn):Inv X pins σ H { s with drawn:=d }:=
 ⟨I.ok,I.os,I.bare,I.base,I.loc,I.cell,I.free,I.freeC,I.pin,I.hok,I.len⟩
def b9 (ns:List Int):List Int:=HT.metKHt (λi=>ns.getD i 0) ns.length
theorem O4 (ns:List Int):(b9 ns).Nodup:=HT.metK_nd _ _
theorem uniq_mem:k∈b9 ns↔k∈ns:=by
 unfold b9;rw [HT.metK_mem];constructor
 ·grind
 ·intro h;obtain ⟨j,a,e⟩:=Cn.mp h;exact ⟨j,a,by simp [List.getD,a,e]⟩
section
variable {X:Cx} {e:Expr} {te:TE} {p p2 pos pos2:Pos} {cl:Nat->Addr} {xe:Addr->Hp->Prop}
def mU (K:PySem.W.Frag) (te:TE):TE:=λσ H Q=>te σ H λx b=>∃ a ns,x=.ref a/\(SqL K b a (ns.map V.int)\/SqT K b a (ns.map V.int))/\(ns.length<4000/\(b9 ns).length<64)/\∀ p,b p=none->Q (.ref p) (upd b p (.lst ((srt (b9 ns)).map V.int)))
theorem eT (M:X.calm=true) (T:Gl X "sorted") (U:X.mg "sorted" = none) (hs:Gl X "set") (ms:X.mg "set" = none) (he:PE X e te) (D:b8 e=true):PE X (.Call (.Name "sorted" p) [.Call (.Name "set" p2) [e] [] pos2] [] pos) (mU X.K te):=by
 intro pins s σ H Q I h;have E:=I.ok.hd M;refine Bi (B3 I T U (by rfl) ?_ (by decide) (by decide));refine CW ?_ rfl rfl;refine BF ?_;refine Bi (B3 I hs ms (by rfl) ?_ (by decide) (by decide));refine Bp ?_ (e8 D) rfl;rw [e8 D];refine BF (thn (he pins s σ H _ I h) λu r ⟨x,W,w,Y,a,ns,e1,m,hz,q⟩=>?_);subst e1;cases Y;refine BL ?_;have l:∀ (d:List Value),d.length=ns.length->PyProof.Rows.IntsAre d ns->(r.heap.IsTuple a d.toArray\/r.heap.IsList a d.toArray) ->
   wpAny (model X.prog X.w) X.A (call (.type "set") [.ref a]) (λv z=>wpAny (model X.prog X.w) X.A (spliced (backTo pos (starEach [] X.env))) (λvs L=>wpAny (model X.prog X.w) X.A (call (.builtin "sorted") (v :: vs)) (EP X pins σ Q) X.xe L) X.xe z) X.xe r:=λd f hi C=>by
  refine HT.callLHt (knd:=intKind X.prog X.w) (λi=>ns.getD i 0) E C (λi v hv=>?_) (by rw [Al,f];show ns.length+1<4096;have:=hz.1;omega) λg tk ⟨B,K⟩=>?_
  ·obtain ⟨t,rfl⟩:=Dt hi i v (by rw [<- CU];exact hv);exact ⟨intKind_is _ _ _ _,rfl⟩
  ·refine BL ?_;have sz:d.toArray.size=ns.length:=by rw [Al,f]
   rw [sz] at B;refine HT.sortLHt E B (HT.metK_nd _ _) hz.2 λz y out ms c kp rs le Z J P N=>?_;have em:=cQ (P.trans (b7 (b9 ns)).symm) N (aA _);subst em;have A:=λb u F=>kp b u (K b u (Am F) F);have j:r.heap.objs.size<=y:=by
    refine AZ ?_ le;obtain ⟨_,_,_,_,ho,_⟩:=B;exact BZ (Am ho)
   have S:=w.hok.fresh j;have G:=(w.laid (t':=z.toks) (o:=.lst ((srt (b9 ns)).map V.int)) A j ⟨by rw [Aj,(b7 _).length_eq,AF];have:=hz.2;omega,out.toList,c,L5 J,by rw [Dg];exact Z⟩).dr z.drawn;refine ⟨.ref y,upd W y (.lst ((srt (b9 ns)).map V.int)),?_,rfl,q y S⟩;rw [rs];exact G
 rcases m with m | m
 ·obtain ⟨d,k,pl,hsz⟩:=w.list m;have f:d.length=ns.length:=by rw [<- k.length,Aj]
  exact l d f (F8 k) (.inr pl.isList)
 ·obtain ⟨d,k,⟨ob,R,O,n,o3⟩,hsz⟩:=w.tuple m;have f:d.length=ns.length:=by rw [<- k.length,Aj]
  exact l d f (F8 k) (.inl ⟨ob,R,O,n,o3⟩)
def w8 (d:D):M D:=bind (p4 d) λds=>match k9 ds with
 | some ns=>if ns.length<4000/\(b9 ns).length<64 then ret (.lst ((srt (b9 ns)).map D.int)) else bad
 | none=>bad
theorem fO (m:X.calm=true) (q:Gl X "sorted") (t:X.mg "sorted" = none) (hs:Gl X "set") (ms:X.mg "set" = none) (u:PE X e (tD X.K cl xe f)) (k:b8 e=true):PE X (.Call (.Name "sorted" p) [.Call (.Name "set" p2) [e] [] pos2] [] pos) (tD X.K cl xe λρ=>bind (f ρ) w8):=
 PE.imp (eT m q t hs ms u k) λσ H Q ⟨μ,S,ρ,r,o,p⟩=>⟨μ,S,ρ,r,o,p.bind.imp λd S1 i y A j b v x=>by
  obtain ⟨a,xs,ds,rfl,w,n,s⟩:=E7 x j b.bind;have b:=b.ok_bind s;cases g:k9 ds with
  | none=>rw [g] at b;exact b.elim
  | some ns=>
   rw [g] at b;obtain ⟨hz,b⟩:=Post.guard b;have:=Z7 g n;subst this;refine ⟨a,ns,rfl,w,hz,λz hz=>?_⟩;obtain ⟨l,h,c⟩:=m7 j (RDs.ints (srt (b9 ns))) hz;exact b i _ l h _ c⟩
end
def mF:RuE where
 is Γ lc e:=match e with
  | .Call (.Name x _) [.Call (.Name y _) [a] [] _] [] _=>decide (x = "sorted")&&decide (y = "set")&&(Γ.gl.lookup ("sorted" : Str)).isNone&&(Γ.gl.lookup ("set" : Str)).isNone&&glB lc.sc "sorted" && glB lc.sc "set" && !quiet lc&&b8 a
  | _=>false
 run r _ _ lc e ρ:=match e with
  | .Call (.Name _ _) [.Call (.Name _ _) [a] [] _] [] _=>bind (r.e lc a ρ) w8
  | _=>bad
 ok {T k r Γ C lc X} e R TX h hi:=by
  split at hi
  ·simp only [Ao,AD,AR,Bz] at hi;obtain ⟨⟨⟨⟨⟨⟨⟨rfl,rfl⟩,g⟩,l⟩,b⟩,f⟩,j⟩,i⟩:=hi;exact fO (h.calm j) (h.gl b) (TX.none h (by decide) g) (h.gl f) (TX.none h (by decide) l) (R.ex h _) i
  ·cases hi
 runK q _ _ lc e ρ _ k:=match e with
  | .Call (.Name _ _) [.Call (.Name _ _) [a] [] _] [] _=>q.e lc a ρ λd=>bind (w8 d) k
  | _=>bad
 eq e ρ _ k h:=by
  split
  ·simp only [h.e,bind_assoc]
  ·first
   | rfl
   | (rename_i c;split;exact (c _ _ _ _ _ _ _ rfl).elim;rfl)
theorem a8 {k:α->M β} {S S':Sto} {a:α} (e:m S=.ok a S'):bind m k S=k a S':=by unfold bind;rw [e]
theorem io {S:Sto} {p:Nat} {o o':O} (h:S[p]?=some o):(S.set p o')[p]?=some o':=by grind
theorem df (i j:Int) (S:Sto):J5 (.int i) (.int j) S=.ok (.int (i+j)) S:=rfl
theorem T5 {i j:Int} (h:0<j) (S:Sto):P3 (.int i) (.int j) S=.ok (.int (i % j)) S:=by simp only [P3,if_pos h,ret]
theorem X9 {i j:Int} (h:0<j) (b:j<1073741824) (S:Sto):M8 (.int i) (.int j) S=.ok (.int (i / j)) S:=by
 have a:gC i j:=⟨h,b⟩;simp only [M8,if_pos a,ret]
theorem ai (h:CMul i j) (S:Sto):aP (.int i) (.int j) S=.ok (.int (i * j)) S:=by simp only [aP,if_pos h,ret]
theorem E4 (ns:List Int) (S:Sto):A5 (.lst (ns.map D.int)) S=.ok (.int ns.length) S:=by
 show R.ok (D.int ((ns.map D.int).length:Nat)) S=_;grind
theorem lV {ns:List Int} {a:Int} (f:0<=a) (g:0<ns.length) (S:Sto):∃ z:Int,ixD (.lst (ns.map D.int)) (.int (a % (ns.length:Int))) S=.ok (.int z) S:=by
 have c:(0:Int)<(ns.length:Int):=by omega
 have e:=Dl a (DU c);have h:=CF a c;obtain ⟨j,d⟩:=CJ e;have b:j<ns.length:=by omega
 refine ⟨ns[j],?_⟩;rw [d];show P2 (atI (ns.map D.int) (j:Int)) S=_;rw [N6 (by rw [AH,Ak b];rfl)];rfl
theorem set_set {S:Sto} {p:Nat} {o o':O}:(S.set p o).set p o'=S.set p o':=List.set_set ..
theorem W8 (b:Bool) (S:Sto):asB (.bl b) S=.ok b S:=rfl
def dH (o:Option (Option Value)) (x:String):Bool:=match o with
 | some (some (.builtin y))=>decide (y=x)
 | _=>false
def isNo (o:Option (Option Value)):Bool:=match o with
 | some none=>true
 | _=>false
theorem dU {o:Option (Option Value)} (h:isNo o=true):o=some none:=by
 unfold isNo at h;split at h
 ·rfl
 ·cases h
def isB (o:Option Bool) (b:Bool):Bool:=match o with
 | some c=>c==b
 | none=>false
theorem bu {o:Option Bool} {b:Bool} (h:isB o b=true):o=some b:=by
 unfold isB at h;split at h
 ·rw [eq_of_beq h]
 ·cases h
def xcB (K:PySem.W.Frag) (C:Addr):Bool:=
 dH (PySem.W.findIn K (.ref C) "__getattribute__") "BaseException.__getattribute__" && (isNo (PySem.W.findIn K (.ref C) "__getattr__")&&(isB (PySem.W.mroIn K C (.type "BaseException")) true&&(isB (PySem.W.mroIn K C (.type "object")) true &&
 (PySem.W.hasDictIn K C&&(dH (PySem.W.findIn K (.ref C) "__class__") "object.__class__" && (dH (PySem.W.specialIn K (.builtin "object.__class__") "__get__") "getset_descriptor.__get__" && (isB (PySem.W.takesIn K (.builtin "object.__class__")) true &&
 (bD K C&&((PySem.W.clsIn K C).any (λcd=>O9 cd.mro)&&(dH (PySem.W.findIn K (.ref C) "__setattr__") "object.__setattr__" && PySem.W.keepIn K (.ref C)))))))))))
def U4 (cs:List Addr) (junk:Addr) (c:Nat):Addr:=cs.getD c junk
structure RowB (K:PySem.W.Frag) (Γ:Gm) (cs:List Addr) (junk:Addr):Prop where
 xc:cs.all (xcB K)=true
 jk:bD K junk=false
 sub:((List.range cs.length).all λc=>(List.range cs.length).all λc0=>isB (PySem.W.kitOne K (.ref (U4 cs junk c)) (.ref (U4 cs junk c0))) (Γ.sub c c0))=true
 sV:(cs.all λC=>isB (PySem.W.kitOne K (.ref C) (.type "ValueError")) true)=true
 sT:(cs.all λC=>tys.all λt=>isB (PySem.W.kitOne K (.ref C) (.type t)) false)=true
 fl:(Γ.flds.all λg=>cs.all λC=>isNo (PySem.W.findIn K (.ref C) g))=true
 bl:(bnames.all λx=>(Γ.gl.lookup x).isSome||isNo (PySem.W.nsIn K mainGlobals x))=true
theorem sM {K:PySem.W.Frag} {cs:List Addr} {junk:Addr} (jk:bD K junk=false) {c:Nat} (h:XC K (U4 cs junk c)):c<cs.length/\U4 cs junk c∈cs:=by
 by_cases hc:c<cs.length
 ·refine ⟨hc,?_⟩;unfold U4;rw [As,Ak hc];exact AU hc
 ·have e:U4 cs junk c=junk:=by
   unfold U4;rw [As,AJ (Cp hc)];rfl
  rw [e] at h;have:=h.ex;rw [jk] at this;cases this
theorem RowB.st {T:Tx} {Γ:Gm} {cs:List Addr} {junk:Addr} {h:Heap} (B:RowB T.K Γ cs junk) (X:T.K.In h) (G:h.Ns mainGlobals T.mg) (hc:T.cl=U4 cs junk) (hv:∀ x d,Γ.gl.lookup x=some (.val d)->∃ u v,T.mg x=some u/\RelV v u/\∀ μ H,RD T.K μ H d v)
  (he:∀ x c fs,Γ.gl.lookup x=some (.err c fs)->c<cs.length/\ErrAt T x c fs/\∀ g∈fs,g∈Γ.flds) (hd:∀ x kvs,Γ.gl.lookup x=some (.dct kvs)->iD T x kvs):TxSt T Γ:=by
 have mem:∀ c,XC T.K (T.cl c)->c<cs.length/\T.cl c∈cs:=λc xc=>by rw [hc] at xc ⊢;exact sM B.jk xc
 have nf:∀ g∈Γ.flds,∀ c,XC T.K (T.cl c)->A9 T.K (T.cl c) g:=λg hg c xc=>by
  have:=(Bg.mp B.fl) g hg;exact dU ((Bg.mp this) _ (mem c xc).2)
 refine ⟨λx hx hn=>?_,hv,λx c fs e=>?_,λx c c0 fs e xc=>?_,λc xc=>?_,λc xc t ht=>?_,nf,hd⟩
 ·have:=(Bg.mp B.bl) x hx;rw [hn] at this;exact PySem.W.mg_none_of X G (dU this)
 ·obtain ⟨h1,h2,h3⟩:=he x c fs e;exact ⟨h2,λg hg=>nf g (h3 g hg) c h2.xc⟩
 ·obtain ⟨h1,h2,h3⟩:=he x c0 fs e;have a:=(Bg.mp B.sub) c (Bd.mpr (mem c xc).1);have b:=(Bg.mp a) c0 (Bd.mpr h1);rw [hc];exact bu b
 ·exact bu ((Bg.mp B.sV) _ (mem c xc).2)
 ·have a:=(Bg.mp B.sT) _ (mem c xc).2;exact bu ((Bg.mp a) t ht)
def og (K:PySem.W.Frag):Sp:=λvs H Q _=>∃ (a:Addr) (ns:List Int),vs=[.ref a]/\SqL K H a (ns.map V.int)/\∀ H',Q (.bl true) H'
def aL (K:PySem.W.Frag) (cl:Nat->Addr):Sp:=λvs H Q E=>og K vs H Q E/\TbOk K cl ⟨[],[]⟩ H
theorem bj {K:PySem.W.Frag} {cl:Nat->Addr} {run:List D->M D} (hr:∀ ns:List Int,∃ S',run [.scr (ns.map D.int)] []=.ok (.bl true) S'):∀ vs H Q E,aL K cl vs H Q E->spD K cl 1 run vs H Q E:=by
 rintro vs H Q E ⟨⟨a,ns,rfl,hS,q⟩,tb⟩;obtain ⟨S',e⟩:=hr ns;refine ⟨rfl,⟨[],[]⟩,[],[.scr (ns.map D.int)],.cons (.scr ?_ (RDs.ints ns)) .nil,⟨rfl,by simp,λn o a e=>by simp at e,λa m=>by simp at m,tb⟩,?_⟩
 ·rcases hS with h | h
  ·exact .inl ⟨h,by simp,by simp⟩
  ·exact .inr h
 ·rw [e];intro μ' H' l r v rv;cases rv;exact q H'
theorem ln1 {α:Type} {p:List α->Prop} {us:List α} (hl:us.length=1) (h:∀ a,p [a]):p us:=by
 obtain ⟨a,rfl⟩:=List.length_eq_one_iff.mp hl;exact h a
theorem lnS {α:Type} {p:List α->Prop} {us:List α} {n:Nat} (hl:us.length=n+1) (h:∀ a ws,ws.length=n->p (a :: ws)):p us:=by
 cases us with
 | nil=>cases hl
 | cons a ws=>exact h a ws (Nat.succ.inj hl)
theorem ln2 {α:Type} {p:List α->Prop} {us:List α} (hl:us.length=2) (h:∀ a b,p [a,b]):p us:=lnS hl λa _ e=>ln1 (p:=λw=>p (a :: w)) e (h a)
theorem ln3 {α:Type} {p:List α->Prop} {us:List α} (hl:us.length=3) (h:∀ a b c,p [a,b,c]):p us:=lnS hl λa _ e=>ln2 (p:=λw=>p (a :: w)) e (h a)
theorem fC {fd:FuncData} {ps:List Str} {us:List Value} (hl:us.length=1) (h:∀ a,bindArgs fd ⟨[a],[]⟩=pure (ps.zip [a])):bindArgs fd ⟨us,[]⟩=pure (ps.zip us):=ln1 (p:=λus=>bindArgs fd ⟨us,[]⟩=pure (ps.zip us)) hl h
theorem bC {fd:FuncData} {ps:List Str} {us:List Value} (hl:us.length=2) (h:∀ a b,bindArgs fd ⟨[a,b],[]⟩=pure (ps.zip [a,b])):bindArgs fd ⟨us,[]⟩=pure (ps.zip us):=ln2 (p:=λus=>bindArgs fd ⟨us,[]⟩=pure (ps.zip us)) hl h
theorem np {fd:FuncData} {ps:List Str} {us:List Value} (hl:us.length=3) (h:∀ a b c,bindArgs fd ⟨[a,b,c],[]⟩=pure (ps.zip [a,b,c])):bindArgs fd ⟨us,[]⟩=pure (ps.zip us):=ln3 (p:=λus=>bindArgs fd ⟨us,[]⟩=pure (ps.zip us)) hl h
structure GF (K:PySem.W.Frag) (x:Str) (st:Stmt) (g:Addr):Prop where
 a:PySem.W.nsIn K mainGlobals x=some (some (.ref g))
 f:∃ fd,Fun K x x st g fd
theorem gf_mk {K:PySem.W.Frag} {x:Str} {st:Stmt} {g:Addr} {oc:Value} {od an:Option Addr} {osl:Array (Option Value)} {kV doc pm cdv ct:Value} (a:PySem.W.nsIn K mainGlobals x=some (some (.ref g))) (l:K.lookup g=some ⟨oc,od,.func (PySem.W.fnOf x x (u5 st) (j2 st) (c7 st) .none kV doc pm an cdv ct),osl⟩) (c:PySem.W.codeIn K cdv x=true) (k:PySem.W.keepIn K (.ref g)=true):GF K x st g:=⟨a,_,gW l c k⟩
theorem fe {T:Tx} {h:Heap} (X:T.K.In h) (G:h.Ns mainGlobals T.mg) {x:Str} {st:Stmt} {g:Addr} {m:List Str} {Tb:List Fd} {i n:Nat} (d:GF T.K x st g) (sc:O2 (u9 st m)=true) (hb:∀ (kV doc pm:Value) (an:Option Addr) (cdv ct:Value) (us:List Value),us.length=(u9 st m).ps.length->bindArgs (PySem.W.fnOf x x (u5 st) (j2 st) (c7 st) .none kV doc pm an cdv ct) ⟨us,[]⟩=pure ((u9 st m).ps.zip us)) (hT:Tb[i]?=some (u9 st m)) (hn:(u9 st m).ps.length=n) (hL:bg T g x m:=by exact λz=>absurd z (by decide)):∃ fd,Tb[i]?=some fd/\fd.ps.length=n/\FnTx T x fd:=by
 obtain ⟨fd,F⟩:=d.f;exact ⟨_,hT,hn,⟨g,_,_,st,F,rfl,rfl,D3 sc,F.binds hb,PySem.W.mg_of X G d.a,hL⟩⟩
def qL (T:Tx) (Tb:List Fd):List (Str×G)->Prop
 | []=>True
 | (x,.fn i n) :: l=>(∃ fd,Tb[i]?=some fd/\fd.ps.length=n/\FnTx T x fd)/\qL T Tb l
 | _ :: l=>qL T Tb l
theorem sH {T:Tx} {Γ:Gm} {Tb:List Fd} (h:qL T Tb Γ.gl):iF T Γ Tb:=λx i n e=>by
 have m:=L2.mem_of_lookup e;generalize Γ.gl=l at h m;induction l with
 | nil=>cases m
 | cons y l ih=>
  obtain ⟨z,g⟩:=y;rcases AA.mp m with q | q
  ·cases q;exact h.1
  ·refine ih ?_ q;cases g with
   | fn j k=>exact h.2
   | _=>exact h
theorem E8 {n:Nat} (I:Nat->Sto->List D->Prop) (a:∀ S es,I n S es->src n S=some none)
  (c:∀ i S es,i<n->I i S es->∃ d b S1,src i S=some (some d)/\t d S=.ok b S1/\(if b=true then ∃ y S2,f d S1=.ok y S2/\es.length<sizeLine/\I (i+1) S2 (es++[y]) else I (i+1) S1 es)) :
  ∀ (k i:Nat) (S:Sto) (es:List D),k+i=n->I i S es->∃ es' S',e9 src t f (k+1) i es S=.ok es' S'/\I n S' es'
 | 0,i,S,es,j,h=>by
  have:i=n:=by omega
  subst this;refine ⟨es,S,?_,h⟩;simp only [e9,a S es h]
 | k+1,i,S,es,j,h=>by
  obtain ⟨d,b,S1,l,m,e⟩:=c i S es (by omega) h;have g:e9 src t f (k+1+1) i es S=bind (t d) (λb=>if b=true then bind (f d) (λy=>if es.length<sizeLine then e9 src t f (k+1) (i+1) (es++[y]) else bad) else e9 src t f (k+1) (i+1) es) S:=by
   conv=>lhs;unfold e9
   simp only [l]
  rw [g,a8 m];cases b with
  | true=>
   rw [if_pos rfl] at e ⊢;obtain ⟨y,S2,p,o,q⟩:=e;rw [a8 p,if_pos o];exact E8 I a c k (i+1) S2 _ (by omega) q
  | false=>
   rw [if_neg At] at e ⊢;exact E8 I a c k (i+1) S1 _ (by omega) e
def Ok {b:Type} (m:M b) (S:Sto) (Q:b->Sto->Prop):Prop:=∃ a S',m S=.ok a S'/\Q a S'
section
variable {α β:Type} {S S1:Sto} {m m':M α} {k:α->M β} {a:α} {Q Q':α->Sto->Prop} {P:β->Sto->Prop}
theorem Ok.ret (h:Q a S):Ok (ret a) S Q:=⟨a,S,rfl,h⟩
theorem Ok.of (e:m S=.ok a S1) (h:Q a S1):Ok m S Q:=⟨a,S1,e,h⟩
theorem Ok.bind (h:Ok m S λa S1=>Ok (k a) S1 P):Ok (L3.bind m k) S P:=by
 obtain ⟨a,S1,e,b,S2,c,q⟩:=h;exact ⟨b,S2,by rw [a8 e];exact c,q⟩
theorem Ok.eq (e:m S=.ok a S1) (h:Ok (k a) S1 P):Ok (L3.bind m k) S P:=Ok.bind ⟨a,S1,e,h⟩
theorem Ok.mono (h:Ok m S Q) (i:∀ a S1,Q a S1->Q' a S1):Ok m S Q':=by
 obtain ⟨a,S1,e,q⟩:=h;exact ⟨a,S1,e,i _ _ q⟩
theorem Ok.cg (e:m=m') (h:Ok m' S Q):Ok m S Q:=e▸h
theorem Ok.cgS (e:m S=m' S) (h:Ok m' S Q):Ok m S Q:=by
 obtain ⟨a,S1,b,q⟩:=h;exact ⟨a,S1,by rw [e];exact b,q⟩
end
theorem Ok.comp {n:Nat} (I:Nat->Sto->List D->Prop) (c:∀ S es,I n S es->src n S=some none)
  (a:∀ i S es,i<n->I i S es->∃ d,src i S=some (some d)/\Ok (t d) S λb S1=>if b=true then Ok (f d) S1 λy S2=>es.length<sizeLine/\I (i+1) S2 (es++[y]) else I (i+1) S1 es) {S:Sto} (h:I 0 S []) :
  Ok (e9 src t f (n+1) 0 []) S λes S'=>I n S' es:=by
 obtain ⟨es,S',e,q⟩:=E8 I c (λi S es o h=>by
  obtain ⟨d,l,b,S1,m,q⟩:=a i S es o h;refine ⟨d,b,S1,l,m,?_⟩;cases b with
  | true=>
   rw [if_pos rfl] at q ⊢;obtain ⟨y,S2,g,j,k⟩:=q;exact ⟨y,S2,g,j,k⟩
  | false=>
   rw [if_neg At] at q ⊢;exact q) n 0 S [] (by omega) h
 exact ⟨es,S',e,q⟩
def FlI (I:L3.Env->Sto->Prop) (J:L3.Env->Sto->Prop) (R:D->Sto->Prop) (a:Fl) (S:Sto):Prop:=match a with
 | .nx ρ=>I ρ S
 | .ct ρ=>I ρ S
 | .bk ρ=>J ρ S
 | .rt d=>R d S
theorem Ok.for_ {n:Nat} (I:Nat->L3.Env->Sto->Prop) (J:L3.Env->Sto->Prop) (R:D->Sto->Prop) (hend:∀ ρ S,I n ρ S->src n S=some none)
  (step:∀ i ρ S,i<n->I i ρ S->∃ d ρ1,src i S=some (some d)/\tg d ρ=some ρ1/\Ok (body ρ1) S (FlI (I (i+1)) J R)) :
  ∀ (k i:Nat) (ρ:L3.Env) (S:Sto),k+i=n->I i ρ S->Ok (v6 src tg body (k+1) i ρ) S λfl S'=>match fl with
   | .nx ρ'=>I n ρ' S'\/J ρ' S'
   | .rt d=>R d S'
   | _=>False
 | 0,i,ρ,S,hk,h=>by
  have:i=n:=by omega
  subst this;exact ⟨.nx ρ,S,by simp only [v6,hend ρ S h],.inl h⟩
 | k+1,i,ρ,S,hk,h=>by
  obtain ⟨d,ρ1,e1,e2,h2⟩:=step i ρ S (by omega) h;have un:v6 src tg body (k+1+1) i ρ S=L3.bind (body ρ1) (λfl=>match fl with
    | .nx ρ2=>v6 src tg body (k+1) (i+1) ρ2
    | .ct ρ2=>v6 src tg body (k+1) (i+1) ρ2
    | .bk ρ2=>L3.ret (.nx ρ2)
    | .rt d=>L3.ret (.rt d)) S:=by
   conv=>lhs;unfold v6
   simp only [e1,e2]
   all_goals rfl
  refine Ok.cgS un (Ok.bind (h2.mono λfl S1 q=>?_));cases fl with
  | nx ρ2=>exact Ok.for_ I J R hend step k (i+1) ρ2 S1 (by omega) q
  | ct ρ2=>exact Ok.for_ I J R hend step k (i+1) ρ2 S1 (by omega) q
  | bk ρ2=>exact Ok.ret (.inr q)
  | rt d=>exact Ok.ret q
def Asc (x:Str):Prop:=∀ c∈x.cps.toList,c<128
def U0 (j:Nat):Nat:=1000000000000000000000000000000000000000+j
mutual
def Pln (j:Nat):D->Prop
 | .non=>True
 | .bl _=>True
 | .int i=>i.natAbs<=U0 j
 | .str x=>x.length<=45+j/\Asc x
 | .tup ds=>Plns j ds
 | .lst ds=>Plns j ds
 | .scr _=>False
 | .ref _=>False
def Plns (j:Nat):List D->Prop
 | []=>True
 | d :: ds=>Pln j d/\Plns j ds
end
mutual
noncomputable def py:D->PyData
 | .non=>.none
 | .bl b=>.bool b
 | .int i=>.int i
 | .str x=>.str x
 | .tup ds=>.tuple (pys ds)
 | .lst ds=>.list (pys ds)
 | .scr _=>.none
 | .ref _=>.none
noncomputable def pys:List D->List PyData
 | []=>[]
 | d :: ds=>py d :: pys ds
end
mutual
noncomputable def dp:D->Nat
 | .tup ds=>dps ds+1
 | .lst ds=>dps ds+1
 | _=>0
noncomputable def dps:List D->Nat
 | []=>0
 | d :: ds=>max (dp d) (dps ds)
end
mutual
noncomputable def sz:D->Nat
 | .int _=>60
 | .str x=>10 * x.length+2
 | .tup ds=>szs ds+3
 | .lst ds=>szs ds+3
 | _=>5
noncomputable def szs:List D->Nat
 | []=>0
 | d :: ds=>sz d+2+szs ds
end
theorem Plns.of:∀ {ds:List D},(∀ d∈ds,Pln j d)->Plns j ds
 | [],_=>trivial
 | d :: ds,h=>⟨h d (Ay ..),Plns.of λe a=>h e (Aw _ a)⟩
mutual
theorem Pln.up:∀ (d:D),Pln j d->Pln (j+1) d
 | .non,_=>trivial
 | .bl _,_=>trivial
 | .int i,h=>by have h:i.natAbs<=U0 j:=h;show i.natAbs<=U0 (j+1);unfold U0 at *;omega
 | .str x,h=>⟨by have:=h.1;omega,h.2⟩
 | .tup ds,h=>Plns.up ds h
 | .lst ds,h=>Plns.up ds h
 | .scr _,h=>h.elim
 | .ref _,h=>h.elim
theorem Plns.up:∀ (ds:List D),Plns j ds->Plns (j+1) ds
 | [],_=>trivial
 | d :: ds,h=>⟨Pln.up d h.1,Plns.up ds h.2⟩
end
theorem cG:∀ {ds:List D},(∀ d∈ds,dp d<=n)->dps ds<=n
 | [],_=>Bh _
 | d :: ds,h=>by
  have:=h d (Ay ..);have:=cG λe a=>h e (Aw _ a);show max (dp d) (dps ds)<=n;omega
mutual
theorem di (S:Sto):∀ (d:D) (n:Nat),Pln j d->dp d<n->c9 n S d=some (py d)
 | .non,n+1,_,_=>rfl
 | .bl _,n+1,_,_=>rfl
 | .int _,n+1,_,_=>rfl
 | .str _,n+1,_,_=>rfl
 | .tup ds,n+1,h,a=>by
  show (d8 (c9 n S) ds).map PyData.tuple=_;rw [O8 S ds n h (by have:dps ds+1<n+1:=a;omega)];rfl
 | .lst ds,n+1,h,a=>by
  show (d8 (c9 n S) ds).map PyData.list=_;rw [O8 S ds n h (by have:dps ds+1<n+1:=a;omega)];rfl
 | .scr _,_,h,_=>h.elim
 | .ref _,_,h,_=>h.elim
 | .non,0,_,h=>by omega
 | .bl _,0,_,h=>by omega
 | .int _,0,_,h=>by omega
 | .str _,0,_,h=>by omega
 | .tup _,0,_,h=>by omega
 | .lst _,0,_,h=>by omega
theorem O8 (S:Sto):∀ (ds:List D) (n:Nat),Plns j ds->dps ds<n->d8 (c9 n S) ds=some (pys ds)
 | [],n,_,_=>rfl
 | d :: ds,n,h,hn=>by
  have hn:max (dp d) (dps ds)<n:=hn;simp only [d8,di S d n h.1 (by omega),O8 S ds n h.2 (by omega)];rfl
end
mutual
theorem bJ:∀ d:D,(py d).depth<=dp d
 | .non=>by show PyData.depth .none<=_;simp [PyData.depth]
 | .bl b=>by show PyData.depth (.bool b)<=_;simp [PyData.depth]
 | .int i=>by show PyData.depth (.int i)<=_;simp [PyData.depth]
 | .str x=>by show PyData.depth (.str x)<=_;simp [PyData.depth]
 | .tup ds=>by show PyData.depth (.tuple (pys ds))<=dps ds+1;simp only [PyData.depth];have:=M1 ds;omega
 | .lst ds=>by show PyData.depth (.list (pys ds))<=dps ds+1;simp only [PyData.depth];have:=M1 ds;omega
 | .scr _=>by show PyData.depth .none<=_;simp [PyData.depth]
 | .ref _=>by show PyData.depth .none<=_;simp [PyData.depth]
theorem M1:∀ ds:List D,PyData.depthAll (pys ds)<=dps ds
 | []=>by show PyData.depthAll []<=0;simp [PyData.depthAll]
 | d :: ds=>by
  have:=bJ d;have:=M1 ds;show PyData.depthAll (py d :: pys ds)<=max (dp d) (dps ds);simp only [PyData.depthAll];omega
end
theorem kY {i:Int} (h:i.natAbs<=U0 j) (hj:j<=1000):decide (i.natAbs.log2<1920)=true:=by
 refine By ?_;by_cases z:i.natAbs=0
 ·rw [z];decide
 ·have:i.natAbs<2 ^ 140:=by unfold U0 at h;omega
  have:=(Nat.log2_lt z).mpr this;omega
mutual
theorem dz (f:j<=1000):∀ d:D,Pln j d->(py d).showable=true/\(py d).hasDict=false/\(py d).shown.length<=sz d
 | .non,_=>⟨rfl,rfl,by show (PyData.shown .none).length<=5;decide⟩
 | .bl b,_=>⟨rfl,rfl,by show (PyData.shown (.bool b)).length<=5;cases b <;> decide⟩
 | .int i,h=>⟨kY h f,rfl,by
   have h:i.natAbs<=U0 j:=h;have e:=int_text_length_le10 (k:=40) (a:=i) (by decide) (by unfold U0 at h;omega);show (Str.ofString (toString i)).length<=60;rw [PySem.ofString_length];omega⟩
 | .str x,h=>⟨rfl,rfl,by
   show (PyData.shown (.str x)).length<=10 * x.length+2;rw [PyData.shown_str];exact StrLaws.reprText_len x λc m=>by have:=h.2 c m;omega⟩
 | .tup ds,h=>by
  obtain ⟨a,b,c⟩:=T0 f ds h;refine ⟨by show PyData.showable (.tuple (pys ds))=true;simp only [PyData.showable];exact a,by show PyData.hasDict (.tuple (pys ds))=false;simp only [PyData.hasDict];exact b,?_⟩;have g:=tupleText_len_le (PyData.shownAll (pys ds));have l:=PyData.shownAll_length (pys ds);show (PyData.shown (.tuple (pys ds))).length<=szs ds+3;simp only [PyData.shown];omega
 | .lst ds,h=>by
  obtain ⟨a,b,c⟩:=T0 f ds h;refine ⟨by show PyData.showable (.list (pys ds))=true;simp only [PyData.showable];exact a,by show PyData.hasDict (.list (pys ds))=false;simp only [PyData.hasDict];exact b,?_⟩;have g:=listText_len_le (PyData.shownAll (pys ds));have l:=PyData.shownAll_length (pys ds);show (PyData.shown (.list (pys ds))).length<=szs ds+3;simp only [PyData.shown];omega
 | .scr _,h=>h.elim
 | .ref _,h=>h.elim
theorem T0 (hj:j<=1000):∀ ds:List D,Plns j ds->PyData.showableAll (pys ds)=true/\PyData.hasDictAll (pys ds)=false/\((PyData.shownAll (pys ds)).map (·.length)).sum+2 * (pys ds).length<=szs ds
 | [],_=>⟨rfl,rfl,by show ((PyData.shownAll []).map (·.length)).sum+2 * 0<=0;simp [PyData.shownAll]⟩
 | d :: ds,h=>by
  obtain ⟨a,b,c⟩:=dz hj d h.1;obtain ⟨a2,b2,c2⟩:=T0 hj ds h.2;refine ⟨by show PyData.showableAll (py d :: pys ds)=true;simp only [PyData.showableAll,a,a2,Eh],by show PyData.hasDictAll (py d :: pys ds)=false;simp only [PyData.hasDictAll,b,b2,Bool.or_self],?_⟩;show ((PyData.shownAll (py d :: pys ds)).map (·.length)).sum+2 * (py d :: pys ds).length<=sz d+2+szs ds;simp only [PyData.shownAll,AQ,List.sum_cons,BE];omega
end
structure Any (j N:Nat) (d:D):Prop where
 pl:Pln j d
 dp:dp d<=3+j
 sz:sz d<=N
theorem hZ (h:Any j N d) (i:j<=40) (g:N<=10000000) (S:Sto):q9 d S=.ok (.str (py d).shown) S:=by
 obtain ⟨a,b,c⟩:=dz (by omega) d h.pl;have e:=di S d 64 h.pl (by have:=h.dp;omega);have f:q9 d S=(match c9 64 S d with
  | some p=>(if Shows p then ret (D.str p.shown) else bad) S
  | none=>.bad):=rfl
 rw [f,e];show (if Shows (py d) then ret (D.str (py d).shown) else bad) S=_;rw [if_pos ⟨a,b,by have:=bJ d;have:=h.dp;omega,by have:=h.sz;rw [AF];omega⟩];rfl
theorem Pln.ups {d:D} (h:Pln 0 d):Pln j d:=by
 induction j with
 | zero=>exact h
 | succ j a=>exact a.up
theorem B9 (n:Nat) (S:Sto):∀ ns:List Int,d8 (c9 (n+1) S) (ns.map D.int)=some (ns.map PyData.int)
 | []=>rfl
 | b :: a=>by
  have e:c9 (n+1) S (.int b)=some (.int b):=rfl;simp only [AQ,d8,e,B9 n S a]
theorem K3:∀ ns:List Int,PyData.canLayAll0 (ns.map PyData.int)=true
 | []=>rfl
 | b :: a=>by simp only [AQ,PyData.canLayAll0,PyData.canLay0,K3 a,Eh]
theorem ii {i:Nat} (h:i<=ds.length):B0 ds none (some (i:Int))=ds.take i:=by
 have e:HT.sIx ds.length ds.length (some (i:Int))=i:=by
  show (if (i:Int)<0 then ((i:Int)+(ds.length:Int)).toNat else min (i:Int).toNat ds.length)=i;rw [if_neg (by omega)];simp;omega
 unfold B0;rw [e,HT.sIx_none];simp
theorem A2 (ds:List D) (S:Sto):u8 (.tup ds) S=.ok (v1 ds,ds.length+1) S:=rfl
theorem L6 {n:Nat} (h:n<1000) (S:Sto):A4 [.int (n:Int)] S=.ok (Z1 0 n,n+1) S:=by
 unfold A4;have a:(n:Int)<1000:=by omega
 have b:(0:Int)<=n:=by omega
 have c:-(2 ^ 62)<=(n:Int)/\(n:Int)<2 ^ 62:=⟨Int.le_trans (by decide) b,Int.lt_trans a (by decide)⟩;simp only [if_pos c,Bl];rfl
theorem pO {i:Nat} {d:D} (S:Sto) (h:ds[i]?=some d):ixD (.tup ds) (.int (i:Int)) S=.ok d S:=by
 show P2 (atI ds (i:Int)) S=_;rw [N6 h];rfl
theorem tu {i:Nat} {d:D} (S:Sto) (h:ds[i]?=some d):ixD (.lst ds) (.int (i:Int)) S=.ok d S:=by
 show P2 (atI ds (i:Int)) S=_;rw [N6 h];rfl
theorem i9 {b:Type} {src:Src} {l:List b} {h g:b->D} {p:b->Bool} {t:D->M Bool} {f:D->M D} {S:Sto} (hs:∀ i,src i S=some (l.map h)[i]?) (v:l.length<sizeLine) (o:∀ a∈l,t (h a) S=.ok (p a) S) (m:∀ a∈l,p a=true->f (h a) S=.ok (g a) S):e9 src t f (l.length+1) 0 [] S=.ok ((l.filter p).map g) S:=by
 obtain ⟨es,S',e,u,s⟩:=Ok.comp (src:=src) (n:=l.length) (λi S' es=>S'=S/\es=((l.take i).filter p).map g) (λS' es q=>by obtain ⟨q,_⟩:=q;subst q;rw [hs,AJ (by simp)])
  (λi S' es c ⟨k,j⟩=>by
   subst k j;refine ⟨h l[i],?_,p l[i],S',o _ (AU c),?_⟩
   ·grind
   ·have r:=AO c;cases d:p l[i] with
    | true=>
     dsimp only;rw [if_pos rfl];refine ⟨g l[i],S',m _ (AU c) d,?_,rfl,?_⟩
     ·grind
     ·grind
    | false=>
     dsimp only;rw [if_neg At];refine ⟨rfl,?_⟩;rw [r,List.filter_append,List.filter_cons_of_neg (by rw [d];exact At),List.filter_nil,Bj]) ⟨rfl,rfl⟩
 grind
theorem cp (n i:Nat) (S:Sto):Z1 0 n i S=some ((List.range n).map λ(k:Nat)=>D.int (k:Int))[i]?:=by
 show some (if i<n then some (D.int (0+i)) else none)=_;grind
theorem rN (e:S[n]?=some (.lst ds)) (i:Nat):fj n i S=some ds[i]?:=by
 simp only [fj,e]
theorem O0 (ns:List Int):k9 (ns.map D.int)=some ns:=by
 induction ns with
 | nil=>rfl
 | cons n ns a=>simp only [AQ,k9,a,Option.map_some]
theorem j3 {b c:Type} {f:b->c} {l:List b} {i:Nat} {a:b} (h:l[i]?=some a):(l.map f)[i]?=some (f a):=by grind
theorem fz (x:Int):∀ ns:List Int,((ns.map PyData.int).any λy=>PyData.eqv y (.int x))=decide (x∈ns)
 | []=>by simp
 | y :: ns=>by
  simp only [AQ,Dc,fz x ns,PyData.eqv];rw [BJ,DY,AD,AD,AA];constructor
  ·grind
  ·grind
theorem kU (x:Int) (ns:List Int) (S:Sto):j4 .In (.int x) (.tup (ns.map D.int)) S=.ok (.bl (decide (x∈ns))) S:=by
 have e:c9 64 S (.tup (ns.map D.int))=some (.tuple (ns.map PyData.int)):=by
  show (d8 (c9 63 S) (ns.map D.int)).map PyData.tuple=_;rw [B9 62 S ns];rfl
 show inD false (.int x) (.tup (ns.map D.int)) S=_;unfold inD;rw [e];show kZ false (.int x) (ns.map PyData.int) S=_;unfold kZ;have hd:PyData.depth (.int x)=0:=by simp [PyData.depth]
 rw [if_pos ⟨rfl,K3 ns,by rw [hd];omega⟩,fz];rfl
theorem eI {d:D} (S:Sto) (h:ds.getLast?=some d):ixD (.tup ds) (.int (-1)) S=.ok d S:=by
 have a:ds≠[]:=λz=>by subst z;cases h
 have b:=List.length_pos_iff.mpr a;show P2 (atI ds (-1)) S=_;have:atI ds (-1)=some d:=by
  unfold atI ixN;rw [if_neg (by omega),if_pos (by omega)];show ds[((-1:Int)+(ds.length:Int)).toNat]?=some d;rw [show ((-1:Int)+(ds.length:Int)).toNat=ds.length-1 by omega,<- List.getLast?_eq_getElem?];exact h
 rw [this];rfl
def Ex (S S':Sto):Prop:=∃ T,S'=S++T
theorem Ex.refl (S:Sto):Ex S S:=⟨[],by simp⟩
theorem Ex.trans (h:Ex a b) (k:Ex b c):Ex a c:=by
 obtain ⟨t,rfl⟩:=h;obtain ⟨u,rfl⟩:=k;exact ⟨t++u,by simp⟩
theorem Ex.at (h:Ex S S') {q:Nat} (hq:q<S.length):S'[q]?=S[q]?:=by
 obtain ⟨t,rfl⟩:=h;grind
theorem gf (e:S[n]?=some (.lst (ns.map D.int))) (a:ns.length<64):F7 (.ref n) S=.ok (.lst ((srt ns).map D.int)) S:=by
 show bind (p4 (.ref n)) _ S=_;rw [a8 (show p4 (.ref n) S=.ok (ns.map D.int) S by simp only [p4,lstOf,e]),O0];show (if ns.length<64 then ret (D.lst ((srt ns).map D.int)) else bad) S=_;rw [if_pos a];rfl
theorem sy {ys:List D} (e:S[n]?=some (.lst es)) (a:es.length+ys.length<=sizeLine):extD (.ref n) [.tup ys] S=.ok .non (S.set n (.lst (es++ys))):=by
 simp only [extD,e,if_pos a]
theorem U9 (e:S[n]?=some (.lst es)):lstOf (.ref n) S=.ok es S:=by simp only [lstOf,e]
def Tk (p:Nat) (S S':Sto):Prop:=S.length<=S'.length/\∀ q,q<S.length->q≠p->S'[q]?=S[q]?
theorem Tk.trans (h:Tk p a b) (k:Tk p b c):Tk p a c:=⟨AZ h.1 k.1,λq e d=>by rw [k.2 q (Az e h.1) d,h.2 q e d]⟩
theorem ck {T R S:Sto} {p:Nat} (e:p<T.length) (c:S.length=(T++R).length) (h:∀ q,q≠p->S[q]?=(T++R)[q]?):∃ b,S=b++R/\b.length=T.length/\(∀ q,q≠p->b[q]?=T[q]?)/\b[p]?=S[p]?:=by
 rw [Av] at c;have a:(S.take T.length).length=T.length:=by rw [Bf];omega
 refine ⟨S.take T.length,?_,a,λq d=>?_,?_⟩
 ·apply DF;intro i;by_cases f:i<T.length
  ·grind
  ·grind
 ·grind
 ·grind
theorem mn {n j:Nat} {es:List D} {y:D} (e:S[n]?=some (.lst es)) (h:es[j]?=some y) (hs:j<1000):popD (.ref n) [.int (j:Int)] S=.ok y (S.set n (.lst (es.eraseIdx j))):=by
 have hj:=(Au.mp h).1;have c:-(2 ^ 63)<=(j:Int)/\(j:Int)<2 ^ 63:=⟨Int.le_trans (by decide) (Int.natCast_nonneg j),Int.lt_trans (show (j:Int)<1000 by omega) (by decide)⟩;have i:ixN es.length (j:Int)=some j:=by
  unfold ixN;rw [if_pos (by omega)];simp only [Bl];rw [if_pos (by omega)]
 simp only [popD,e,if_pos c,i,h]
theorem L4 {b c:Type} (f:b->c):∀ (l:List b) (i:Nat),(l.map f).eraseIdx i=(l.eraseIdx i).map f
 | [],_=>rfl
 | _ :: _,0=>rfl
 | a :: l,i+1=>by simp only [AQ,List.eraseIdx_cons_succ,L4 f l i]
theorem mo (ds:List D) (S:Sto):A5 (.lst ds) S=.ok (.int ds.length) S:=rfl
theorem qY (e:S[n]?=some (.lst es)):A5 (.ref n) S=.ok (.int es.length) S:=by simp only [A5,e]
theorem gU {y:D} (e:S[n]?=some (.lst es)) (a:es.length<sizeLine):K0 (.ref n) [y] S=.ok .non (S.set n (.lst (es++[y]))):=by simp only [K0,e,if_pos a]
theorem Ok.nx (h:Ok m S Q):Ok (L3.nx m) S Q:=by
 obtain ⟨a,S1,e,q⟩:=h;exact ⟨a,S1,by unfold L3.nx;rw [e],q⟩
def nxt {d:Type} (q:EvK) (e:Lc) (c:List Stmt) (k:Fl->M d):Fl->M d:=λb=>match b with
 | .nx a=>s0 q e c a k
 | b=>k b
section
variable {α:Type} {q:EvK} {lc:Lc} {st:Stmt} {sts:List Stmt} {ρ:L3.Env} {k:Fl->M α} {S:Sto} {Q:α->Sto->Prop} {P:Nat->Sto->Prop}
theorem Ok.first (h:Ok (q.s lc st ρ (nxt q lc sts k)) S Q):Ok (s0 q lc (st :: sts) ρ k) S Q:=h
theorem Ok.nxt (h:Ok (q.s lc st ρ (L3.nxt q lc sts k)) S Q):Ok (L3.nxt q lc (st :: sts) k (.nx ρ)) S Q:=h
theorem Ok.pos [Decidable c] {a b:M α} (h:c) (k:Ok a S Q):Ok (if c then a else b) S Q:=by rw [if_pos h];exact k
theorem Ok.neg [Decidable c] {a b:M α} (h:¬ c) (k:Ok b S Q):Ok (if c then a else b) S Q:=by rw [if_neg h];exact k
end
theorem aR:∀ {ds:List D},(∀ d∈ds,sz d<=n)->szs ds<=(n+2) * ds.length
 | [],_=>Ap _
 | d :: ds,h=>by
  have c:=h d (by simp);have b:=aR (ds:=ds) λx a=>h x (by simp [a]);show sz d+2+szs ds<=(n+2) * (ds.length+1);rw [Nat.mul_add];omega
theorem rq (e:S[n]?=some (.lst ds)):v2 (.ref n) S=.ok (.tup ds) S:=a8 (by simp only [p4,lstOf,e])
theorem jf (ns:List Int):∃ ms:List Int,B0 (ns.map D.int) none (some 63)=ms.map D.int:=⟨(ns.drop (HT.sIx ns.length 0 none)).take (HT.sIx ns.length ns.length (some 63)-HT.sIx ns.length 0 none),by simp [B0,List.map_drop,Ei]⟩
theorem N5 (n:Nat) (S:Sto):Z1 0 n n S=some none:=by
 show some (if n<n then _ else none)=some none;grind
theorem Z2 {n i:Nat} (h:i<n) (S:Sto):Z1 0 n i S=some (some (.int (i:Int))):=by rw [cp,j3 (List.getElem?_range h)]
structure Sml (n N:Nat) (d:D):Prop where
 pl:Pln 0 d
 dp:dp d<=n
 sz:sz d<=N
def Smls (n N:Nat) (ds:List D):Prop:=∀ d∈ds,Sml n N d
theorem Smls.nil:Smls n N []:=λd h=>by cases h
theorem Smls.cons (h:Sml n N d) (hs:Smls n N ds):Smls n N (d :: ds):=λx a=>by
 rcases AA.mp a with z | z
 ·rw [z];exact h
 ·exact hs x z
theorem Smls.map {b:Type} {n N:Nat} {f:b->D} {l:List b} (h:∀ a∈l,Sml n N (f a)):Smls n N (l.map f):=λx c=>by
 obtain ⟨a,d,rfl⟩:=Cr.mp c;exact h a d
theorem Sml.mono {d:D} (h:Sml n N d) (b:n<=n') (a:N<=N'):Sml n' N' d:=⟨h.pl,AZ h.dp b,AZ h.sz a⟩
theorem Sml.up {n N a N':Nat} {d:D} (h:Sml n N d) (c:n<=a:=by decide) (b:N<=N':=by decide):Sml a N' d:=h.mono c b
theorem Sml.tup {ds:List D} (h:Smls n N ds) (a:ds.length<=m):Sml (n+1) ((N+2) * m+3) (.tup ds):=by
 have s:=aR λd hd=>(h d hd).sz;have b:=cG λd hd=>(h d hd).dp;refine ⟨Plns.of λd hd=>(h d hd).pl,by show dps ds+1<=n+1;omega,?_⟩;show szs ds+3<=_;have:=Nat.mul_le_mul_left (N+2) a;omega
theorem Sml.lst {ds:List D} (h:Smls n N ds) (a:ds.length<=m):Sml (n+1) ((N+2) * m+3) (.lst ds):=by
 have s:=aR λd hd=>(h d hd).sz;have b:=cG λd hd=>(h d hd).dp;refine ⟨Plns.of λd hd=>(h d hd).pl,by show dps ds+1<=n+1;omega,?_⟩;show szs ds+3<=_;have:=Nat.mul_le_mul_left (N+2) a;omega
theorem Sml.big {n N i:Nat} (h:i<=10000000000) (a:60<=N:=by decide):Sml n N (.int (i:Int)):=⟨by
 show ((i:Int)).natAbs<=U0 0;have:U0 0≥10000000000:=by decide +kernel
 omega,Bh _,a⟩
theorem Sml.any (h:Sml n N d) (hn:n<=43):Any 40 N d:=⟨h.pl.ups,by have:=h.dp;omega,h.sz⟩
theorem Sml.repr (h:Sml n N d) (a:n<=43:=by decide) (b:N<=10000000:=by decide) (S:Sto):q9 d S=.ok (.str (py d).shown) S:=hZ (h.any a) (by omega) b S
theorem nA (a b:Int) (S:Sto):j4 .Eq (.int a) (.int b) S=.ok (.bl (decide (a=b))) S:=rfl
theorem qR (a b:Int) (S:Sto):j4 .Lt (.int a) (.int b) S=.ok (.bl (decide (a<b))) S:=rfl
theorem Y2 (a b:Nat) (S:Sto):J5 (.int (a:Int)) (.int (b:Int)) S=.ok (.int ((a+b:Nat):Int)) S:=by
 show R.ok (D.int ((a:Int)+(b:Int))) S=_;grind
theorem nx_bind {k:α->M β} {S:Sto} {Q:β->Sto->Prop} (h:Ok m S λa S1=>Ok (k a) S1 Q):Ok (L3.bind (L3.nx m) k) S Q:=Ok.bind (Ok.nx h)
theorem L9 (h:Ok m S λd S'=>d=a/\S'=S):m S=.ok a S:=by
 obtain ⟨d,S',e,rfl,rfl⟩:=h;exact e
theorem R3:∀ ns:List Int,k9 (ns.map D.int)=some ns
 | []=>rfl
 | n :: ns=>by
  have:=R3 ns;simp only [AQ,k9] at *;simp [d8] at *;first | exact this | simp [this]
theorem jE (a:ns.length<4000) (b:(b9 ns).length<64) (S:Sto):w8 (.lst (ns.map D.int)) S=.ok (.lst ((srt (b9 ns)).map D.int)) S:=by
 unfold w8;rw [a8 (show p4 (.lst (ns.map D.int)) S=.ok (ns.map D.int) S from rfl)];simp only [R3,if_pos (And.intro a b)];rfl
def aQ (p m c:D):M D:=
 bind (P3 c (.int 998244353)) λi=>bind (ixD p (.int 3)) λt=>bind (aP (.int 7919) t) λg=>bind (J5 i g) λh=>bind (aP h (.int 48271)) λf=>bind (P3 f (.int 2147483647)) λb=>
 bind (M8 b (.int 13)) λd=>bind (ixD p (.int 3)) λt=>bind (aP (.int 104729) t) λj=>bind (ixD p (.int 3)) λo=>bind (aP j o) λe=>bind (J5 d e) λk=>bind (aP k (.int 69621)) λl=>bind (P3 l (.int 2147483629)) λa=>bind (M8 a (.int 64)) λq=>bind (P3 q m) λn=>ret n
def aU (p m a:D) (z:Bool):M D:=
 if z=true then bind (M8 a m) λv=>bind (D4 p (.int 2) v) λ_=>bind (P3 a m) λd=>ret d
 else aQ p m a
def A8 (p m b:D):M D:=
 bind (ixD p (.int 1)) λx=>bind (J5 x (.int 1)) λv=>bind (D4 p (.int 1) v) λ_=>
 bind (cj (.int 10) (.int 18)) λy=>bind (j4 .GtE b y) λd=>bind (asB d) λc=>if c=true then (bind (ixD p (.int 1)) λa=>bind (ixD p (.int 0)) λcs=>bind (A5 cs) λn=>bind (j4 .LtE a n) λd=>bind (asB d) λz=>aU p m b z) else aU p m b false
def de (p m:D):M D:=
 bind (ixD p (.int 3)) λx=>bind (J5 x (.int 1)) λt=>bind (D4 p (.int 3) t) λ_=>
 bind (ixD p (.int 2)) λx=>bind (j4 .Gt x (.int 0)) λd=>bind (asB d) λz=>if z=true then
  bind (ixD p (.int 2)) λx=>bind (P3 x m) λf=>bind (ixD p (.int 2)) λx=>bind (M8 x m) λv=>bind (D4 p (.int 2) v) λ_=>ret f
 else bind (ixD p (.int 0)) λc=>bind (j4 .NotEq c (.lst [])) λd=>bind (asB d) λz=>if z=true then
   bind (ixD p (.int 0)) λc=>bind (ixD p (.int 1)) λi=>bind (ixD p (.int 0)) λb=>bind (A5 b) λn=>bind (P3 i n) λj=>bind (ixD c j) λa=>A8 p m a
  else A8 p m (.int 3)
def d6 (ns:List Int) (a l t:Int):O:=.lst [.lst (ns.map D.int),.int a,.int l,.int t]
section
variable {S:Sto} {p:Nat} {ns:List Int} {a l t:Int} (h:S[p]?=some (d6 ns a l t))
include h
theorem t_0:ixD (.ref p) (.int 0) S=.ok (.lst (ns.map D.int)) S:=by simp only [ixD,h,d6];rfl
theorem t_1:ixD (.ref p) (.int 1) S=.ok (.int a) S:=by simp only [ixD,h,d6];rfl
theorem t_2:ixD (.ref p) (.int 2) S=.ok (.int l) S:=by simp only [ixD,h,d6];rfl
theorem t_3:ixD (.ref p) (.int 3) S=.ok (.int t) S:=by simp only [ixD,h,d6];rfl
theorem tm (v:Int):D4 (.ref p) (.int 1) (.int v) S=.ok .non (S.set p (d6 ns v l t)):=by simp only [D4,h,d6];rfl
theorem sQ (v:Int):D4 (.ref p) (.int 2) (.int v) S=.ok .non (S.set p (d6 ns a v t)):=by simp only [D4,h,d6];rfl
theorem vE (v:Int):D4 (.ref p) (.int 3) (.int v) S=.ok .non (S.set p (d6 ns a l v)):=by simp only [D4,h,d6];rfl
end
theorem eJ (ns:List Int) (S:Sto):j4 .NotEq (.lst (ns.map D.int)) (.lst []) S=.ok (.bl (!ns.isEmpty)) S:=by
 show eqP true (.lst (ns.map D.int)) (.lst []) S=_;have e:c9 64 S (.lst (ns.map D.int))=some (.list (ns.map PyData.int)):=by
  show (d8 (c9 63 S) (ns.map D.int)).map PyData.list=_;rw [B9 62 S ns];rfl
 unfold eqP;rw [e];show (if PyData.canLay0 (.list (ns.map PyData.int))=true/\PyData.canLay0 (.list [])=true/\min (PyData.depth (.list (ns.map PyData.int))) (PyData.depth (.list []))<=60 then ret (D.bl (!PyData.eqv (.list (ns.map PyData.int)) (.list []))) else bad) S=_;have hd:PyData.depth (.list [])<=60:=by simp [PyData.depth,PyData.depthAll]
 rw [if_pos ⟨by simp only [PyData.canLay0];exact K3 ns,rfl,by omega⟩];cases ns with
 | nil=>rfl
 | cons n ns=>rfl
theorem dA (h:S[p]?=some (d6 ns a l t)) (b:0<m) (e:0<=t) (d:t<2000000):∃ r:Int,aQ (.ref p) (.int m) (.int c) S=.ok (.int r) S/\0<=r/\r<m:=by
 unfold aQ;rw [a8 (T5 (by decide) S),a8 (t_3 h),a8 (ai (.inl ⟨by decide,by decide⟩) S),a8 (df _ _ S),a8 (ai (.inr ⟨by decide,by decide⟩) S),a8 (T5 (by decide) S),a8 (X9 (by decide) (by decide) S),
  a8 (t_3 h),a8 (ai (.inl ⟨by decide,by decide⟩) S),a8 (t_3 h),a8 (ai (.inr ⟨by omega,by omega⟩) S),a8 (df _ _ S),a8 (ai (.inr ⟨by decide,by decide⟩) S),a8 (T5 (by decide) S),a8 (X9 (by decide) (by decide) S),a8 (T5 b S)]
 exact ⟨_,rfl,Dl _ (DU b),CF _ b⟩
theorem ae (h:S[p]?=some (d6 ns a l t)) (w:0<=a) (o:0<=l) (u:0<=t) (i:t<2000000) (b:0<m) (j:m<1073741824) :
  ∃ r f,A8 (.ref p) (.int m) (.int c) S=.ok (.int r) (S.set p (d6 ns (a+1) f t))/\0<=r/\r<m/\0<=f:=by
 unfold A8;rw [a8 (t_1 h),a8 (df _ _ S),a8 (tm h _)];have g:=io (o':=d6 ns (a+1) l t) h;have v:cj (.int 10) (.int 18) (S.set p (d6 ns (a+1) l t))=.ok (.int 1000000000000000000) (S.set p (d6 ns (a+1) l t)):=rfl;rw [a8 v];have s:j4 .GtE (.int c) (.int 1000000000000000000) (S.set p (d6 ns (a+1) l t))=.ok (.bl (decide (1000000000000000000<=c))) (S.set p (d6 ns (a+1) l t)):=rfl;rw [a8 s,a8 (show asB _ _=_ from rfl)];have d:∀ z:Bool,(z=true->1000000000000000000<=c)->∃ r f,aU (.ref p) (.int m) (.int c) z (S.set p (d6 ns (a+1) l t))=.ok (.int r) (S.set p (d6 ns (a+1) f t))/\0<=r/\r<m/\0<=f:=λz hz=>by
  unfold aU;cases z with
  | true=>
   rw [if_pos rfl,a8 (X9 b j _),a8 (sQ g _),a8 (T5 b _),set_set];exact ⟨_,c / m,rfl,Dl _ (DU b),CF _ b,Int.ediv_nonneg (Int.le_trans (by decide) (hz rfl)) (Int.le_of_lt b)⟩
  | false=>
   rw [if_neg At];obtain ⟨r,e,n,q⟩:=dA g b u i;exact ⟨r,l,e,n,q,o⟩
 by_cases hz:(1000000000000000000:Int)<=c
 ·rw [By hz,if_pos rfl,a8 (t_1 g),a8 (t_0 g),a8 (E4 ns _)];have k:j4 .LtE (.int (a+1)) (.int (ns.length:Int)) (S.set p (d6 ns (a+1) l t))=.ok (.bl (decide (a+1<=(ns.length:Int)))) (S.set p (d6 ns (a+1) l t)):=rfl;rw [a8 k,a8 (show asB _ _=_ from rfl)];exact d _ λ_=>hz
 ·rw [AV hz,if_neg At];exact d _ λz=>by cases z
theorem jc (h:S[p]?=some (d6 ns a l t)) (o:0<=a) (q:0<=l) (A:0<=t) (v:t<1000000) (g:0<m) (k:m<1073741824) :
  ∃ r j f,de (.ref p) (.int m) S=.ok (.int r) (S.set p (d6 ns j f (t+1)))/\0<=r/\r<m/\0<=j/\0<=f:=by
 unfold de;rw [a8 (t_3 h),a8 (df _ _ S),a8 (vE h _)];have b:=io (o':=d6 ns a l (t+1)) h;have w:j4 .Gt (.int l) (.int 0) (S.set p (d6 ns a l (t+1)))=.ok (.bl (decide (0<l))) (S.set p (d6 ns a l (t+1))):=rfl;rw [a8 (t_2 b),a8 w,a8 (show asB _ _=_ from rfl)];by_cases hz:0<l
 ·rw [By hz,if_pos rfl,a8 (t_2 b),a8 (T5 g _),a8 (t_2 b),a8 (X9 g k _),a8 (sQ b _),set_set];exact ⟨_,a,l / m,rfl,Dl _ (DU g),CF _ g,o,Int.ediv_nonneg q (Int.le_of_lt g)⟩
 ·rw [AV hz,if_neg At,a8 (t_0 b),a8 (eJ ns _),a8 (show asB _ _=_ from rfl)];have i:∀ c:Int,∃ r j f,A8 (.ref p) (.int m) (.int c) (S.set p (d6 ns a l (t+1)))=.ok (.int r) (S.set p (d6 ns j f (t+1)))/\0<=r/\r<m/\0<=j/\0<=f:=λc=>by
   obtain ⟨r,f,e,s,u,y⟩:=ae b o q (by omega) (by omega) g k;rw [set_set] at e;exact ⟨r,a+1,f,e,s,u,by omega,y⟩
  cases ns with
  | nil=>
   rw [show (!([]:List Int).isEmpty)=false from rfl,if_neg At];exact i 3
  | cons n d=>
   rw [show (!(n :: d).isEmpty)=true from rfl,if_pos rfl,a8 (t_0 b),a8 (t_1 b),a8 (t_0 b),a8 (E4 _ _)];have x:0<((n :: d).length:Int):=by simp only [BE];omega
   rw [a8 (T5 x _)];obtain ⟨z,e⟩:=lV (ns:=n :: d) o (by omega) (S.set p (d6 (n :: d) a l (t+1)));rw [a8 e];exact i z
def Ft (ns:List Int) (p N:Nat) (S:Sto):Prop:=∃ a l t:Int,S[p]?=some (d6 ns a l t)/\0<=a/\0<=l/\0<=t/\t+N<1000000
theorem Ft.less {p N K:Nat} {S:Sto} (h:Ft ns p N S) (f:K<=N):Ft ns p K S:=by
 obtain ⟨a,l,t,e,c,b,d,g⟩:=h;exact ⟨a,l,t,e,c,b,d,by omega⟩
theorem Ft.keep (h:Ft ns p N S) (e:S'[p]?=S[p]?):Ft ns p N S':=by
 obtain ⟨a,l,t,b,c⟩:=h;exact ⟨a,l,t,by rw [e];exact b,c⟩
theorem jd {p N m:Nat} {S:Sto} (h:Ft ns p (N+1) S) (u:0<m) (o:m<1000000):Ok (de (.ref p) (.int (m:Int))) S λd S'=>∃ r:Nat,d=.int (r:Int)/\r<m/\Ft ns p N S'/\S'.length=S.length/\∀ q,q≠p->S'[q]?=S[q]?:=by
 obtain ⟨a,l,t,e,g,c,s,x⟩:=h;obtain ⟨r,k,n,b,j,v,f,i⟩:=jc (m:=(m:Int)) e g c s (by omega) (by omega) (by omega);obtain ⟨r,rfl⟩:=CJ j;refine ⟨_,_,b,r,rfl,by omega,⟨k,n,t+1,?_,f,i,by omega,by omega⟩,by simp,λq w=>?_⟩
 ·grind
 ·grind
end L3
namespace L3.Rk
open PySem PySem.Spec PyProof.Rows L2
theorem hG (x:Int):∀ s:List Int,s.Pairwise (·<=·)->x∈s->s.findIdx? (λz=>z==x)=some (s.countP λz=>decide (z<x))
 | [],_,h=>by cases h
 | y :: s,hs,h=>by
  have hy:=Bw.mp hs;rw [List.findIdx?_cons];by_cases q:y=x
  ·have c0:(y :: s).countP (λz=>decide (z<x))=0:=List.countP_eq_zero.mpr λz hz=>by
    rcases AA.mp hz with e | e
    ·rw [e,q];simp
    ·have:=hy.1 z e;simp;omega
   rw [c0,q];simp
  ·have hx:x∈s:=(AA.mp h).resolve_left λz=>q z.symm;have:=hy.1 x hx;have e:(y==x)=false:=by simp [q]
   have c:decide (y<x)=true:=By (by omega);have cc:(y :: s).countP (λz=>decide (z<x))=s.countP (λz=>decide (z<x))+1:=List.countP_cons_of_pos c;rw [e,hG x s hy.2 hx,cc];rfl
theorem lg (x:Int) (l:List Int):(srt l).countP (λz=>decide (z<x))=l.countP λz=>decide (z<x):=(b7 l).countP_eq _
theorem kR {ns:List Int} {x:Int} {j:Nat} (hj:j<100000) (h:ns.findIdx? (λz=>z==x)=some j) (S:Sto):R5 (.lst (ns.map D.int)) [.int x] S=.ok (.int (j:Int)) S:=by
 have e:c9 64 S (.lst (ns.map D.int))=some (.list (ns.map PyData.int)):=by
  show (d8 (c9 63 S) (ns.map D.int)).map PyData.list=_;rw [B9 62 S ns];rfl
 show eS (.lst (ns.map D.int)) (.int x) S=_;unfold eS;rw [show c9 64 S (.int x)=some (.int x) from rfl,e];simp only;have hd:PyData.depth (.int x)=0:=by simp [PyData.depth]
 rw [if_pos ⟨rfl,K3 ns,by rw [hd];omega⟩];have f:(ns.map PyData.int).findIdx? (λz=>PyData.eqv z (.int x))=some j:=by
  rw [List.findIdx?_map,<- h];congr 1
 rw [f];simp only;rw [if_pos hj];rfl
def rk (l:List Int) (x:Int):Nat:=l.countP λz=>decide (z<x)
theorem eB (l:List Int) {x y:Int} (h:x<=y):rk l x<=rk l y:=List.countP_mono_left λz _ q=>by
 simp only [AD] at q ⊢;omega
theorem il:∀ {l:List Int} {x y:Int},x∈l->x<y->rk l x<rk l y
 | z :: l,x,y,h,q=>by
  unfold rk;rw [List.countP_cons,List.countP_cons];rcases AA.mp h with e | e
  ·subst e;have:=eB l (Int.le_of_lt q);unfold rk at this;rw [if_neg (by simp),if_pos (by simpa using q)];omega
  ·have:=il e q;unfold rk at this;by_cases c:z<x
   ·rw [if_pos (by simpa using c),if_pos (by simp;omega)];omega
   ·rw [if_neg (by simpa using c)];omega
theorem qN {l:List Int} {x y:Int} (h:x∈l):rk l x<rk l y↔x<y:=by
 refine ⟨λq=>?_,il h⟩;by_cases c:x<y
 ·exact c
 ·have:=eB l (show y<=x by omega);omega
end L3.Rk
namespace L3
open PySem PySem.W PyProof.Rows
def R4 {α:Type} (lt:Nat->Nat->Bool):KasT α->α
 | .ret a=>a
 | .ask i j k=>R4 lt (k (lt i j))
def KIn {α:Type} (n:Nat) (P:α->Prop):KasT α->Prop
 | .ret a=>P a
 | .ask i j k=>i<n/\j<n/\∀ b,KIn n P (k b)
theorem KIn.bd {α β:Type} {n:Nat} {P:α->Prop} {Q:β->Prop} {f:α->KasT β} (hf:∀ a,P a->KIn n Q (f a)):∀ {t:KasT α},KIn n P t->KIn n Q (t.bind f)
 | .ret a,h=>hf a h
 | .ask i j k,h=>⟨h.1,h.2.1,λb=>KIn.bd hf (h.2.2 b)⟩
theorem KIn.run {α:Type} {n:Nat} {P:α->Prop} (lt:Nat->Nat->Bool):∀ {t:KasT α},KIn n P t->P (R4 lt t)
 | .ret a,h=>h
 | .ask i j k,h=>KIn.run (n:=n) lt (t:=k (lt i j)) (h.2.2 _)
theorem S8 {α:Type} {n:Nat} {P:α->Prop} {lt lt':Nat->Nat->Bool} (e:∀ i j,i<n->j<n->lt i j=lt' i j):∀ {t:KasT α},KIn n P t->R4 lt t=R4 lt' t
 | .ret a,h=>rfl
 | .ask i j k,h=>by
  show R4 lt (k (lt i j))=R4 lt' (k (lt' i j));rw [e i j h.1 h.2.1];exact S8 e (h.2.2 _)
theorem KIn.wp {α:Type} {n:Nat} {P:α->Prop} {lt:Nat->Nat->Bool} {cmp:Nat->Nat->(Bool->Shared->Prop)->Shared->Prop} {s:Shared} {Q:α->Shared->Prop} (hc:∀ i j (C:Bool->Shared->Prop),i<n->j<n->C (lt i j) s->cmp i j C s):∀ {t:KasT α},KIn n P t->Q (R4 lt t) s->t.kasWp cmp Q s
 | .ret a,_,q=>q
 | .ask i j k,h,q=>hc i j _ h.1 h.2.1 (KIn.wp hc (h.2.2 _) q)
def ALt (n:Nat) (p:Array Nat):Prop:=p.toList.Perm (List.range n)
section
variable {n:Nat} {p:Array Nat}
theorem ALt.at (h:ALt n p) (h0:0<n) (i:Nat):p.getD i 0<n:=by
 rw [Array.getD_eq_getD_getElem?];cases e:p[i]? with
 | none=>exact h0
 | some x=>exact Bd.mp (h.mem_iff.mp (Array.mem_toList_iff.mpr (Array.mem_of_getElem? e)))
theorem ALt.pm {p':Array Nat} (h:ALt n p) (q:p'.Perm p):ALt n p':=(Array.perm_iff_toList_perm.mp q).trans h
theorem ALt.rv (h:ALt n p) (i j:Nat):ALt n (kas_rev p i j):=h.pm (mirror_perm ..)
theorem cY (h0:0<n) (h:ALt n p):∀ f m,KIn n (λ_=>True) (kas_asc p f m)
 | 0,m=>trivial
 | f+1,m=>⟨h.at h0 _,h.at h0 _,λb=>by
  show KIn n _ (if b=true then _ else _);split
  ·trivial
  ·exact cY h0 h f (m+1)⟩
theorem N7 (h0:0<n):∀ f {p:Array Nat} m q,ALt n p->KIn n (λr=>ALt n r.1) (kas_desc f p m q)
 | 0,p,m,q,h=>h
 | f+1,p,m,q,h=>⟨h.at h0 _,h.at h0 _,λb=>by
  show KIn n _ (if b=true then (if _ then _ else _) else _);split
  ·split
   ·exact N7 h0 f _ _ (h.rv _ _)
   ·exact N7 h0 f _ _ h
  ·exact ⟨h.at h0 _,h.at h0 _,λd=>by
    show KIn n _ (if d=true then _ else _);split
    ·exact h
    ·exact N7 h0 f _ _ h⟩⟩
theorem ak (h0:0<n) (h:ALt n p) (m r:Nat):KIn n (λr=>ALt n r.2) (kas_tail3 m r p):=KIn.bd (P:=λ_=>True) (Q:=λr:Nat×Array Nat=>ALt n r.2) (f:=λq=>.ret (q,kas_rev p 0 m)) (λ_ _=>(h.rv 0 m:ALt n (kas_rev p 0 m))) (cY h0 (h.rv 0 m) _ _)
theorem M5 (h0:0<n) (h:ALt n p) (m r:Nat):KIn n (λr=>ALt n r.2) (kas_descPart m r p):=KIn.bd (λx hx=>by
  split
  ·exact ak h0 (hx.rv _ _) _ _
  ·exact ak h0 hx _ _) (N7 h0 _ _ _ h)
theorem ir (h0:0<n) (h:ALt n p) (r:Nat):KIn n (λr=>ALt n r.2) (kas_count r p):=KIn.bd (λm _=>by
  split
  ·exact h
  ·split
   ·refine ⟨h.at h0 _,h.at h0 _,λb=>?_⟩;dsimp only;split
    ·exact h
    ·exact M5 h0 (h.rv _ _) _ _
   ·exact M5 h0 h _ _) (cY h0 h _ _)
theorem P5 (h0:0<n) (h:ALt n p) (k:Nat):∀ f l r,KIn n (λ_=>True) (kas_place p k f l r)
 | 0,l,r=>trivial
 | f+1,l,r=>by
  show KIn n _ (if l≥r then _ else _);split
  ·trivial
  ·refine ⟨h.at h0 _,h.at h0 _,λb=>?_⟩;dsimp only;split
   ·exact P5 h0 h k f _ _
   ·exact P5 h0 h k f _ _
theorem gp (h0:0<n):∀ f {p:Array Nat} k,ALt n p->KIn n (ALt n) (kas_bin f p k)
 | 0,p,k,h=>h
 | f+1,p,k,h=>KIn.bd (λl _=>gp h0 f _ (h.pm (bubble_perm ..))) (P5 h0 h k _ _ _)
theorem N9 (h0:0<n):KIn n (ALt n) (kas_sort n):=by
 have h:ALt n (List.toArray (List.range n)):=.refl _;refine KIn.bd (P:=λr=>ALt n r.2) (λr hr=>?_) (ir h0 h n);split
 ·exact gp h0 _ _ hr
 ·exact hr
end
def sPq (lt:Nat->Nat->Bool) (n:Nat):List Nat:=if n<2 then List.range n else (R4 lt (kas_sort n)).toList
theorem bK (lt:Nat->Nat->Bool) (n:Nat):(sPq lt n).Perm (List.range n):=by
 unfold sPq;split
 ·exact .refl _
 ·exact KIn.run (P:=ALt n) _ (N9 (by omega))
theorem aX {lt:Nat->Nat->Bool} {n i:Nat} (h:i∈sPq lt n):i<n:=Bd.mp ((bK lt n).mem_iff.mp h)
theorem B6 (lt:Nat->Nat->Bool) (n:Nat):(sPq lt n).length=n:=by rw [(bK lt n).length_eq,AN]
theorem fA {lt lt':Nat->Nat->Bool} {n:Nat} (e:∀ i j,i<n->j<n->lt i j=lt' i j):sPq lt n=sPq lt' n:=by
 unfold sPq;split
 ·rfl
 ·rw [S8 e (N9 (by omega))]
def ltK (ks:List Int) (i j:Nat):Bool:=decide (ks.getD i 0<ks.getD j 0)
abbrev sPl (ks:List Int):List Nat:=sPq (ltK ks) ks.length
section
variable {prog:Program} {w:World} {A:Around} {E:Value->Shared->Prop} {s:Shared} {lt:Nat->Nat->Bool} {κ:SortKind}
def w9 (lt:Nat->Nat->Bool) (vs:List Value):Array Value:=((sPq lt vs.length).map λi=>vs.getD i Value.none).toArray
theorem iZ (vs:List Value):(List.range vs.length).map (λi=>vs.getD i Value.none)=vs:=by
 apply DF;intro i;by_cases h:i<vs.length <;> simp [h]
theorem gB {a:Addr} {vs:List Value} {n:Nat} {P:PySem.Fin->Shared->Prop} (ho:s.heap.get? a=some (seqObj "list" vs.toArray n)) (h64:vs.length<64)
  (hk:2<=vs.length->∀ h':Heap,(∀ b o,b≠a->s.heap.get? b=some o->h'.get? b=some o)->∀ Q:SortKind->Shared->Prop,Q κ { s with heap:=h' }->wpAny (model prog w) A (keyKind' vs.toArray) Q (λ_ _=>False) { s with heap:=h' })
  (hc:∀ h':Heap,(∀ b o,b≠a->s.heap.get? b=some o->h'.get? b=some o)->∀ i j (C:Bool->Shared->Prop),i<vs.length->j<vs.length->C (lt i j) { s with heap:=h' }->kas_ask prog w A κ vs i j C { s with heap:=h' })
  (h:P (.done (.ret .none)) { s with heap:=sortedHeap s.heap a vs (w9 lt vs) }):wpAny (model prog w) A (Builtin.«list.sort» ⟨[.ref a],[]⟩) P E s:=by
 rw [list_sort_plain];have ha:a<s.heap.objs.size:=Am ho;obtain ⟨e1,ho1⟩:∃ e1,(s.heap.update a (Obj.mapSeq λ_=>#[])).get? a=some (seqObj "list" #[] e1):=⟨_,Dm ho (λ_=>#[])⟩;have s1:=Bk s.heap a (Obj.mapSeq λ_=>(#[]:Array Value));refine Ag (listItems_at ho rfl ?_);refine Ag (Ci ho rfl ?_ (by rw [Al,AF];omega) (Bh _));refine Ag (DG ho1 rfl ?_);refine Ag (Ee ?_ (by show vs.length<=_;rw [AF];omega));refine Ag (Cg ?_ (Bh _));refine AS ?_;show wpAny (model prog w) A _ P E { s with heap:=((s.heap.update a (Obj.mapSeq λ_=>(#[]:Array Value))).push (seqObj "tuple" vs.toArray 0)).push (seqObj "list" #[] 0) };have ho6:(((s.heap.update a (Obj.mapSeq λ_=>(#[]:Array Value))).push (seqObj "tuple" vs.toArray 0)).push (seqObj "list" #[] 0)).get? a=some (seqObj "list" #[] e1):=Ah _ (Ah _ ho1);have kp:∀ b o,b≠a->s.heap.get? b=some o->(((s.heap.update a (Obj.mapSeq λ_=>(#[]:Array Value))).push (seqObj "tuple" vs.toArray 0)).push (seqObj "list" #[] 0)).get? b=some o:=λb o ne e=>Ah _ (Ah _ ((s1.2 b ne).trans e));have osz:(w9 lt vs).size<=sizeLine+1:=by
  unfold w9;rw [Al,Aj,B6,AF];omega
 dsimp only;by_cases h2:vs.toArray.size<2
 ·rw [if_pos h2,if_pos h2];have h2':vs.length<2:=by rw [Al] at h2;exact h2
  have eo:(arrOf (SortSt.mk' general' (vs.toArray.zip vs.toArray) #[] 7 none)).map (·.2)=w9 lt vs:=by
   show (vs.toArray.zip vs.toArray).map (·.2)=_;unfold w9 sPq;rw [if_pos h2',iZ];have:(vs.zip vs).map Prod.snd=vs:=by rw [List.map_snd_zip];exact Ap _
   simpa using this
  refine Ag (Ai ?_);rw [StateT.run_pure];refine Ag (Ai ?_);dsimp only;refine Ag (DG ho6 rfl ?_);refine Ag (Ci ho6 rfl ?_ (Bh _) (by rw [eo];exact osz));simp only [CQ,Cd,DN];refine Ai ?_;rw [eo];exact h
 ·rw [if_neg h2,if_neg h2];have h2':2<=vs.length:=by rw [Al] at h2;omega
  refine Ag (AB (hk h2' _ kp (λκ' s'=>κ'=κ/\s'={ s with heap:=((s.heap.update a (Obj.mapSeq λ_=>(#[]:Array Value))).push (seqObj "tuple" vs.toArray 0)).push (seqObj "list" #[] 0) }) ⟨rfl,rfl⟩) (λκ' s' hk=>?_) λ_ _ x=>x.elim);obtain ⟨rfl,rfl⟩:=hk;refine Ag (AB (kat_run (ks:=vs) (vs:=vs) (Q:=λst' s'=>∃ p:Array Nat,arrOf st'=p.map (kas_item (vs.toArray.zip vs.toArray))/\failedOf st'=none/\p=R4 lt (kas_sort vs.length)/\s'={ s with heap:=((s.heap.update a (Obj.mapSeq λ_=>(#[]:Array Value))).push (seqObj "tuple" vs.toArray 0)).push (seqObj "list" #[] 0) })
   (G:=λp s'=>p=R4 lt (kas_sort vs.length)/\s'={ s with heap:=((s.heap.update a (Obj.mapSeq λ_=>(#[]:Array Value))).push (seqObj "tuple" vs.toArray 0)).push (seqObj "list" #[] 0) })
   rfl h2' h64 (λp' st' s' a1 a2 a3 a4=>⟨p',a2,a3,a4⟩) (KIn.wp (lt:=lt) (λi j C hi hj q=>hc _ kp i j C hi hj q) (N9 (by omega)) ⟨rfl,rfl⟩)) ?_ λ_ _ e=>e)
  rintro ⟨⟨⟩,st'⟩ s' ⟨p,har,hf,ep,rfl⟩;have eo:(arrOf st').map (·.2)=w9 lt vs:=by
   rw [kat_snds rfl har,ep];unfold w9 sPq;rw [if_neg (by omega)]
  dsimp only;refine Ag (DG ho6 rfl ?_);refine Ag (Ci ho6 rfl ?_ (Bh _) (by rw [eo];exact osz));rw [hf];simp only [CQ,Cd,DN];refine Ai ?_;rw [eo];exact h
theorem gh {l:Addr} {vs:List Value} {Q:Value->Shared->Prop} (hl:s.heap.IsList l vs.toArray) (h64:vs.length<64)
  (hk:2<=vs.length->∀ h':Heap,(∀ b o,s.heap.get? b=some o->h'.get? b=some o)->∀ Q:SortKind->Shared->Prop,Q κ { s with heap:=h' }->wpAny (model prog w) A.in1.in1 (keyKind' vs.toArray) Q (λ_ _=>False) { s with heap:=h' })
  (hc:∀ h':Heap,(∀ b o,s.heap.get? b=some o->h'.get? b=some o)->∀ i j (C:Bool->Shared->Prop),i<vs.length->j<vs.length->C (lt i j) { s with heap:=h' }->kas_ask prog w A.in1.in1 κ vs i j C { s with heap:=h' })
  (h:Q (.ref (s.heap.objs.size+1)) { s with heap:=sortedAll s.heap vs (w9 lt vs) }):wpAny (model prog w) A (call (.builtin "sorted") [.ref l]) Q E s:=by
 refine Cw kind_sorted plain_sorted entry_sorted (args_sorted1 _) ?_;unfold Builtin.«sorted»;refine Ag (m:=checkCount "sorted" 1 1 _) (Ai ?_);refine Ag (collect_list hl ?_ (by rw [AF];omega));refine Ag (Cg ?_ (by rw [AF];omega));have hsz:((s.heap.push (seqObj "list" #[] 0)).update s.heap.objs.size (Obj.mapSeq (·++vs.toArray))).objs.size=s.heap.objs.size+1:=by
  rw [Db,size_push']
 have hoL:(((s.heap.push (seqObj "list" #[] 0)).update s.heap.objs.size (Obj.mapSeq (·++vs.toArray))).push (seqObj "list" vs.toArray 0)).get? (s.heap.objs.size+1)=some (seqObj "list" vs.toArray 0):=by
  rw [<- hsz];exact An _ rfl
 have keep:∀ b o,s.heap.get? b=some o->(((s.heap.push (seqObj "list" #[] 0)).update s.heap.objs.size (Obj.mapSeq (·++vs.toArray))).push (seqObj "list" vs.toArray 0)).get? b=some o:=λb o q=>by
  have hlt:b<s.heap.objs.size:=Am q;rw [CS _ _ _ (by rw [hsz];exact Aq (AE hlt)),Do _ _ _ _ (Aq hlt),CS _ _ _ (Aq hlt)];exact q
 show wpAny _ _ _ _ _ { s with heap:=((s.heap.push (seqObj "list" #[] 0)).update s.heap.objs.size (Obj.mapSeq (·++vs.toArray))).push (seqObj "list" vs.toArray 0) };rw [hsz];have kk:∀ h':Heap,(∀ b o,b≠s.heap.objs.size+1->(((s.heap.push (seqObj "list" #[] 0)).update s.heap.objs.size (Obj.mapSeq (·++vs.toArray))).push (seqObj "list" vs.toArray 0)).get? b=some o->h'.get? b=some o)->∀ b o,s.heap.get? b=some o->h'.get? b=some o:=λh' k b o e=>k b o (Aq (AE (Am e))) (keep b o e);refine Ag (AS (Ba slot_list_sort ⟨_,hoL,rfl⟩ entry_list_sort (gB (κ:=κ) (lt:=lt) (s:={ s with heap:=((s.heap.push (seqObj "list" #[] 0)).update s.heap.objs.size (Obj.mapSeq (·++vs.toArray))).push (seqObj "list" vs.toArray 0) }) hoL h64 (λh2 h' k=>hk h2 h' (kk h' k)) (λh' k=>hc h' (kk h' k)) ⟨_,rfl,?_⟩) (args_list_sort _)));exact Ai ⟨_,rfl,h⟩
end
end L3
namespace L3
open PySem PySem.Spec PyProof.Rows L2
def PrAt (h:Heap) (v:Value) (k:Int):Prop:=∃ a o xs n t r,v=.ref a/\h.get? a=some o/\o.cls=.type "tuple"/\o.data=.seq xs n/\xs.toList=Value.int k t :: r
theorem PrAt.kp {h h':Heap} {v:Value} {k:Int} (p:PrAt h v k) (e:∀ b o,h.get? b=some o->h'.get? b=some o):PrAt h' v k:=by
 obtain ⟨a,o,xs,n,t,r,h1,h2,h3⟩:=p;exact ⟨a,o,xs,n,t,r,h1,e _ _ h2,h3⟩
theorem Paired.gt {α β:Type} {P:α->β->Prop}:∀ {xs:List α} {ys:List β} {i:Nat},Paired P xs ys->i<xs.length->∃ x y,xs[i]?=some x/\ys[i]?=some y/\P x y
 | _,_,0,.cons h _,_=>⟨_,_,rfl,rfl,h⟩
 | _,_,i+1,.cons _ t,h=>by
  obtain ⟨x,y,e1,e2,p⟩:=Paired.gt (i:=i) t (by simpa using h);exact ⟨x,y,by simpa using e1,by simpa using e2,p⟩
section
variable {prog:Program} {w:World} {A:Around} {E:Value->Shared->Prop} {s:Shared}
theorem mK {v:Value} {Q:Bool->Shared->Prop} (h:Q true s):wpAny (model prog w) A (eqBool v v) Q E s:=by
 unfold eqBool;try with_reducible refine AS ?_
 show wpAny _ _ (if (v==v)=true then _ else _) Q E s;rw [if_pos (by simp)];exact Ag (Cc (Ai h))
theorem bO {Q:Bool->Shared->Prop} (h:Q false s):∀ (l:List Value) (i:Nat),PySem.W.KatLex prog w A true false Q (l.zip l) i s
 | [],i=>h
 | v :: l,i=>PySem.W.kat_cons (mK (PySem.W.kat_yes (bO h l (i+1))))
theorem rQ {x y:Value} {k j:Int} {Q:Bool->Shared->Prop} (hx:PrAt s.heap x k) (hy:PrAt s.heap y j) (ne:x=y\/k≠j) (h:Q (decide (k<j)) s):wpAny (model prog w) A (keyLt' (tuples' true) x y) Q E s:=by
 obtain ⟨a,o,xs,n,t,r,rfl,h1,h2,h3,h4⟩:=hx;obtain ⟨b,o',ys,n',t',r',rfl,g1,g2,g3,g4⟩:=hy;refine PySem.W.kat_lt h1 h3 g1 g3 ?_;rcases ne with e | ne
 ·cases e;rw [h1] at g1;cases g1;rw [h3] at g3;cases g3;rw [h4] at g4;cases g4;have e:decide (k<k)=false:=AV (Int.lt_irrefl _);rw [e] at h;have e2:decide (xs.size<xs.size)=false:=AV (BQ _);rw [e2];exact bO h _ 0
 ·rw [h4,g4];refine PySem.W.kat_cons ((intKind prog w).eqBool (intKind_is _ _ _ _) (intKind_is _ _ _ _) ?_);rw [AV ne];exact PySem.W.kat_no (oneLt_int h)
theorem jy {l:Addr} {vs:List Value} {ks:List Int} {Q:Value->Shared->Prop} (hl:s.heap.IsList l vs.toArray) (h64:vs.length<64) (hp:Paired (PrAt s.heap) vs ks) (nd:ks.Nodup)
  (h:Q (.ref (s.heap.objs.size+1)) { s with heap:=sortedAll s.heap vs (w9 (ltK ks) vs) }):wpAny (model prog w) A (call (.builtin "sorted") [.ref l]) Q E s:=by
 have hlen:=hp.length;refine gh (κ:=tuples' true) (lt:=ltK ks) hl h64 (λh2 h' k Q' q=>?_) (λh' k i j C hi hj q=>?_) h
 ·obtain ⟨fs,ht,hi⟩:∃ fs,PySem.W.KatTups h' vs fs/\∀ v∈fs,∃ i t,v=Value.int i t:=by
   clear h2 h64 hlen nd h hl;induction hp with
   | nil=>exact ⟨[],trivial,λ_ m=>nomatch m⟩
   | cons a t ih=>
    obtain ⟨fs,h1,h2⟩:=ih;obtain ⟨a,o,xs,n,t,r,rfl,e1,e2,e3,e4⟩:=a;refine ⟨.int _ t :: fs,PySem.W.KatTups.cons (k _ _ e1) e2 e3 (by rw [<- Bn,e4];rfl) h1,λv m=>?_⟩;rcases AA.mp m with rfl | m
    ·exact ⟨_,_,rfl⟩
    ·exact h2 v m
  have hfl:0<fs.length:=by
   cases fs with
   | nil=>cases vs with
    | nil=>simp at h2
    | cons _ _=>exact False.elim ht
   | cons _ _=>simp
  exact PySem.W.kat_kind (T:=.type "int") (s:={ s with heap:=h' }) ht hfl (λv m=>by obtain ⟨i,t,rfl⟩:=hi v m;exact λA Q E s _ q=>Ai q) (by rfl) q
 ·unfold PySem.W.kas_ask;have at_:∀ i,i<vs.length->PrAt h' (vs.getD i Value.none) (ks.getD i 0):=λi hi=>by
   obtain ⟨v,k1,e1,e2,p⟩:=Paired.gt hp hi;rw [As,As,e1,e2];exact p.kp k
  refine rQ (s:={ s with heap:=h' }) (at_ i hi) (at_ j hj) ?_ q;by_cases e:i=j
  ·exact .inl (by rw [e])
  ·refine .inr λz=>e ?_;rw [As,As,Ak (by omega),Ak (by omega)] at z;exact (CV nd).mp z
end
def y9:List D->Option (List Int)
 | []=>some []
 | .tup (.int k :: _) :: ds=>(y9 ds).map (k :: ·)
 | _=>none
theorem R1:∀ {ds:List D} {ks:List Int},y9 ds=some ks->ks.length=ds.length
 | [],_,e=>by cases e;rfl
 | .tup (.int k :: _) :: ds,_,e=>by
  unfold y9 at e;cases q:y9 ds with
  | none=>rw [q] at e;cases e
  | some js=>rw [q] at e;cases e;simp [R1 q]
 | .non :: _,_,e | .bl _ :: _,_,e | .int _ :: _,_,e | .str _ :: _,_,e | .lst _ :: _,_,e | .scr _ :: _,_,e | .ref _ :: _,_,e | .tup [] :: _,_,e=>by cases e
 | .tup (.non :: _) :: _,_,e | .tup (.bl _ :: _) :: _,_,e | .tup (.str _ :: _) :: _,_,e | .tup (.lst _ :: _) :: _,_,e | .tup (.scr _ :: _) :: _,_,e | .tup (.ref _ :: _) :: _,_,e | .tup (.tup _ :: _) :: _,_,e=>by cases e
section
variable {X:Cx} {cl:Nat->Addr} {xe:Addr->Hp->Prop} {pins:List (Addr×Obj)} {σ:L2.St} {H:Hp} {s:Shared} {μ:Mp}
theorem gv (I:L2.Inv X pins σ H s):∀ {ds:List D} {xs:List V} {vs:List Value} {ks:List Int},y9 ds=some ks->RDs X.K μ H ds xs->Vals xs vs->Paired (PrAt s.heap) vs ks
 | [],_,_,_,e,.nil,.nil=>by cases e;exact .nil
 | d :: ds,_,_,ks,e,.cons rd rds,.cons rv rvs=>by
  cases rd with
  | tup ta ra=>
   cases ra with
   | nil=>cases e
   | cons r1 r2=>
    cases r1 with
    | int k=>
     unfold y9 at e;cases q:y9 ds with
     | none=>rw [q] at e;cases e
     | some js=>
      rw [q] at e;cases e;cases rv;refine .cons ?_ (gv I q rds rvs);obtain ⟨its,r',⟨ob,o1,o2,n,o3⟩,_⟩:=I.tuple ta.sq;cases r' with
      | cons h1 h2=>
       obtain ⟨t,rfl⟩:=h1;exact ⟨_,ob,_,n,t,_,rfl,o1,o2,o3,rfl⟩
    | _=>cases e
  | _=>cases e
def e6 {α:Type} (z:α) (is:List Nat) (xs:List α):List α:=is.map λi=>xs.getD i z
theorem Z8 {ds:List D} {xs:List V} (r:RDs X.K μ H ds xs):∀ {is:List Nat},(∀ i∈is,i<ds.length)->RDs X.K μ H (e6 .non is ds) (e6 .non is xs)
 | [],_=>.nil
 | i :: is,h=>by
  obtain ⟨v,e,rv⟩:=r.get (Ak (h i Ay));refine .cons ?_ (Z8 r λj m=>h j (Aw _ m));show RD X.K μ H (ds.getD i .non) (xs.getD i .non);rw [As,As,e,Ak (h i Ay)];exact rv
theorem M2 {xs:List V} {us:List Value} (r:Vals xs us):∀ {is:List Nat},(∀ i∈is,i<xs.length)->Vals (e6 .non is xs) (e6 .none is us)
 | [],_=>.nil
 | i :: is,h=>by
  obtain ⟨v,e,rv⟩:=r.get (Ak (h i Ay));refine .cons ?_ (M2 r λj m=>h j (Aw _ m));show L2.RelV (xs.getD i .non) (us.getD i .none);rw [As,As,e,Ak (h i Ay)];exact rv
def j5 (d:D):M D:=match d with
 | .lst ds=>(match y9 ds with
  | some ks=>if ks.length<64/\ks.Nodup then ret (.lst (e6 .non (sPl ks) ds)) else bad
  | none=>F7 (.lst ds))
 | d=>F7 d
theorem fH:j7 X (.builtin "sorted") (rPs X.K cl xe (one j5)):=D0 λpins s σ H μ S d v us Q I r rd rp p=>by
 have old:Post X.K cl xe μ H (F7 d S) (λr _ μ' H'=>∀ v,RD X.K μ' H' r v->Q v H')->wpAny (model X.prog X.w) X.A (call (.builtin "sorted") us) (EP X pins σ Q) X.xe s:=λp=>fv (cl:=cl) (xe:=xe) pins s σ H _ us Q I r ⟨μ,S,[d],.cons rd .nil,rp,p⟩;cases rd with
 | lst ha rds=>
  rename_i a xs ds;unfold j5 at p;dsimp only at p;cases e2:y9 ds with
  | none=>rw [e2] at p;exact old p
  | some ks=>
   rw [e2] at p;obtain ⟨⟨hz,nd⟩,p⟩:=Post.guard p;obtain ⟨u,rfl,ru⟩:=M3 r;cases ru;have hl:=R1 e2;obtain ⟨its,rv,pl,hsz⟩:=I.list (ha.sq (K:=X.K));have lv:its.length=ks.length:=by rw [<- rv.length,<- rds.length,hl]
   have bd:∀ i∈sPl ks,i<ds.length:=λi m=>by rw [<- hl];exact aX m
   refine jy pl.isList (by omega) (gv I e2 rds rv) nd ?_;obtain ⟨ep,he⟩:=sortedAll_at s.heap its (w9 (ltK ks) its);have hf:H (s.heap.objs.size+1)=none:=I.hok.fresh (Bm _);obtain ⟨l,rp2,rd2⟩:=m7 rp (Z8 rds bd) hf;refine ⟨.ref (s.heap.objs.size+1),_,I.laid (t':=s.toks) (o:=.lst (e6 .non (sPl ks) xs)) (λb ob q=>sortedAll_old q) (Bm _) ?_,rfl,p μ _ l rp2 _ rd2⟩;refine ⟨by unfold e6;rw [Aj,B6,AF];omega,e6 .none (sPl ks) its,ep,M2 rv (λi m=>by rw [<- rds.length];exact bd i m),?_⟩;rw [he];unfold w9 e6;rw [lv]
 | _=>exact old p
end
def iH:RuE:=rBf "sorted" "sorted" false (one j5) (by decide) rfl λ_ _=>fH
end L3
namespace L3
open PySem PySem.W PyProof.Rows
section
variable {prog:Program} {w:World} {A:Around} {E:Value->Shared->Prop} {s:Shared} {ks:List Int} {W:Shared->Prop} {a kS:Addr} {f:Value} {vs:List Value}
theorem D8 {h:Heap} {b c:Addr} {g:Obj->Obj} {o:Obj} (e:h.get? b=some o) (n:b≠c):(h.update c g).get? b=some o:=by rw [Do _ _ _ _ n];exact e
theorem kf {keys:Array Value} {e e1:Nat} {P:PySem.Fin->Shared->Prop} (nk:s.heap.get? kS=some (seqObj "list" keys e)) (na:s.heap.get? a=some (seqObj "list" #[] e1)) (hka:kS≠a) (hk:IntsAre keys.toList ks) (hl:ks.length=vs.length) (h64:vs.length<64) (hw:W s) (hu:∀ s' b g,W s'->b=kS\/b=a->W { s' with heap:=s'.heap.update b g })
  (h:∀ s',W s'->(∃ c,s'.heap.get? a=some (seqObj "list" (w9 (ltK ks) vs) c))->P (.done (.ret .none)) s'):wpAny (model prog w) A (ksk_end a false vs.toArray e1 (.ref kS) keys) P E s:=by
 have hsz:keys.size=vs.length:=by
  have h1:=hk.length;rw [Ax] at h1;omega
 have osz:(w9 (ltK ks) vs).size<=sizeLine+1:=by
  unfold w9;rw [Al,Aj,B6,AF];omega
 have tail:∀ st:SortSt,(arrOf st).map (·.2)=w9 (ltK ks) vs->failedOf st=none->wpAny (model prog w) A (ksk_tail a false e1 (.ref kS) st) P E s:=λst eo hf=>by
  unfold ksk_tail;try dsimp only
  have w1:=hu s kS (Obj.mapSeq λ_=>(#[]:Array Value)) hw (.inl rfl);have na1:(s.heap.update kS (Obj.mapSeq λ_=>(#[]:Array Value))).get? a=some (seqObj "list" #[] e1):=D8 na hka.symm;refine Ag (Ci nk rfl ?_ (by rw [hsz,AF];omega) (Bh _));refine Ag (wpAny_letGo ?_);refine Ag (DG na1 rfl ?_);refine Ag (Ci na1 rfl ?_ (Bh _) (by rw [if_neg At,eo];exact osz));rw [hf];simp only [CQ,Cd,DN];have z:=Dm na1 (λ_=>(arrOf st).map (·.2));rw [eo] at z;exact Ai (h _ (hu _ a _ w1 (.inr rfl)) ⟨_,by rw [eo];exact z⟩)
 unfold ksk_end;try dsimp only
 simp only [Cd,DN];by_cases h2:vs.toArray.size<2
 ·rw [if_pos h2,if_pos h2];have h2':vs.length<2:=by rw [Al] at h2;exact h2
  refine Ag (Ai ?_);rw [StateT.run_pure];refine Ag (Ai ?_);try dsimp only
  refine tail _ ?_ rfl;show (keys.zip vs.toArray).map (·.2)=_;unfold w9 sPq;rw [if_pos h2',iZ];have:(keys.toList.zip vs).map Prod.snd=vs:=List.map_snd_zip (by have e:keys.toList.length=keys.size:=Ax;omega);apply Array.toList_inj.mp;rw [Array.toList_map,ksk_zip];exact this
 ·rw [if_neg h2,if_neg h2];have h2':2<=vs.length:=by rw [Al] at h2;omega
  rw [ksk_kind hk (by omega)];refine Ag (Ai ?_);have ek:keys=keys.toList.toArray:=by rw [Dg]
  have lk:keys.toList.length=vs.length:=by rw [Ax,hsz]
  have lt_at:∀ i,i<vs.length->∃ t,keys.toList.getD i Value.none=.int (ks.getD i 0) t:=λi hi=>by
   obtain ⟨t,e⟩:=Dt hk i _ (Ak (by omega));refine ⟨t,?_⟩;rw [As,Ak (by omega)];exact e
  rw [ek];refine Ag (AB (kat_run (ks:=keys.toList) (vs:=vs) (κ:=oneType') (Q:=λst' s'=>(arrOf st').map (·.2)=w9 (ltK ks) vs/\failedOf st'=none/\s'=s)
   (G:=λp s'=>p=R4 (ltK ks) (kas_sort vs.length)/\s'=s) lk h2' h64 (λp' st' s' a1 a2 a3 a4=>⟨?_,a3,a4.2⟩) (KIn.wp (lt:=ltK ks) (λi j C hi hj q=>?_) (N9 (by omega)) ⟨rfl,rfl⟩)) ?_ λ_ _ e=>e)
  ·rw [kat_snds lk a2,a4.1];unfold w9 sPq;rw [if_neg (by omega)]
  ·unfold kas_ask;obtain ⟨t,e1⟩:=lt_at i hi;obtain ⟨u,e2⟩:=lt_at j hj;rw [e1,e2];exact kat_lt_int q
  ·rintro ⟨⟨⟩,st'⟩ s' ⟨eo,hf,rfl⟩;exact tail st' eo hf
theorem jh {e1:Nat} {P:PySem.Fin->Shared->Prop} (nk:s.heap.get? kS=some (seqObj "list" #[] 0)) (na:s.heap.get? a=some (seqObj "list" #[] e1)) (hka:kS≠a) (hl:ks.length=vs.length) (h64:vs.length<64) (hw:W s) (hu:∀ s' b g,W s'->b=kS\/b=a->W { s' with heap:=s'.heap.update b g })
  (hc:∀ (i:Nat) (v:Value) (k:Int) (s':Shared),vs[i]?=some v->ks[i]?=some k->W s'->(∃ o,s'.heap.get? kS=some o)->(∃ o,s'.heap.get? a=some o)->wpAny (model prog w) A (call f [v]) (λr s''=>(∃ t,r=.int k t)/\W s''/\s''.heap.get? kS=s'.heap.get? kS/\s''.heap.get? a=s'.heap.get? a) (λ_ _=>False) s')
  (h:∀ s',W s'->(∃ c,s'.heap.get? a=some (seqObj "list" (w9 (ltK ks) vs) c))->P (.done (.ret .none)) s'):wpAny (model prog w) A (ksk_rest a f false vs.toArray e1 (.ref kS)) P E s:=by
 unfold ksk_rest;refine Ag (Cc ?_);first
  | rw [List.forIn_toArray]
  | (rw [<- Array.forIn_toList];simp only [List.toList_toArray])
  | rw [<- Array.forIn_toList]
 refine Ag (ksk_fold (λi s'=>W s'/\s'.heap.get? a=some (seqObj "list" #[] e1)/\∃ kA e,s'.heap.get? kS=some (seqObj "list" kA e)/\IntsAre kA.toList (ks.take i)) vs 0 s ⟨hw,na,#[],0,nk,by simpa using IntsAre.nil⟩ ?step ?done)
 case step=>
  rintro j x s' hx ⟨w',na',kA,e,nk',hk⟩;simp only [Nat.zero_add] at hk ⊢;have hj:j<vs.length:=(Au.mp hx).1;obtain ⟨k,hkj⟩:∃ k,ks[j]?=some k:=⟨_,Ak (by omega)⟩;have hz:kA.size<=vs.length:=by
   have h1:=hk.length;rw [Ax,Bf] at h1;omega
  refine Ag (Dd (AB (hc j x k s' hx hkj w' ⟨_,nk'⟩ ⟨_,na'⟩) (λv s'' he=>?_) λ_ _ hF=>hF.elim));obtain ⟨⟨t,rfl⟩,w2,k2,a2⟩:=he;try dsimp only
  rw [nk'] at k2;rw [na'] at a2;refine Ag (Ci k2 rfl ?_ (by rw [AF];omega) (AZ (Nat.le_of_eq (Array.size_push ..)) (by rw [AF];omega)));have ek:ks.take (j+1)=ks.take j++[k]:=by rw [List.take_add_one,hkj];simp
  refine Ai ⟨rfl,hu _ kS _ w2 (.inl rfl),D8 a2 hka.symm,kA.push (.int k t),_,Dm k2 (·.push (.int k t)),?_⟩;rw [DE,ek];exact ksk_snoc hk
 case done=>
  rintro s' ⟨w',na',kA,e,nk',hk⟩;have hk':IntsAre kA.toList ks:=by
   have e3:ks.take (0+vs.length)=ks:=CO (by omega);rw [e3] at hk;exact hk
  refine Ag (listItems_at nk' rfl ?_);exact kf nk' na' hka hk' hl h64 w' hu h
theorem jO {l q:Addr} {Q:Value->Shared->Prop} (hl:s.heap.IsList l vs.toArray) (hlen:ks.length=vs.length) (h64:vs.length<64)
  (hw:∀ h':Heap,(∀ b o,s.heap.get? b=some o->h'.get? b=some o)->W { s with heap:=h' }) (hu:∀ s' b g,W s'->s.heap.objs.size<=b->W { s' with heap:=s'.heap.update b g })
  (hc:∀ (i:Nat) (v:Value) (k:Int) (s':Shared) (x y:Addr),vs[i]?=some v->ks[i]?=some k->W s'->s.heap.objs.size<=x->s.heap.objs.size<=y->(∃ o,s'.heap.get? x=some o)->(∃ o,s'.heap.get? y=some o)->wpAny (model prog w) A.in1.in1 (call (.ref q) [v]) (λr s''=>(∃ t,r=.int k t)/\W s''/\s''.heap.get? x=s'.heap.get? x/\s''.heap.get? y=s'.heap.get? y) (λ_ _=>False) s')
  (h:∀ s' D c,s.heap.objs.size<=D->W s'->s'.heap.get? D=some (seqObj "list" (w9 (ltK ks) vs) c)->Q (.ref D) s'):wpAny (model prog w) A (call (.builtin "sorted") [.ref l] [(Str.ofString "key",.ref q)]) Q E s:=by
 refine call_function_entry_kw kind_sorted plain_sorted entry_sorted (ksk_s1 _ _) ?_;unfold Builtin.«sorted»;refine Ag (m:=checkCount "sorted" 1 1 _) (Ai ?_);refine Ag (collect_list hl ?_ (by rw [AF];omega));refine Ag (Cg ?_ (by rw [AF];omega));have hsz:((s.heap.push (seqObj "list" #[] 0)).update s.heap.objs.size (Obj.mapSeq (·++vs.toArray))).objs.size=s.heap.objs.size+1:=by
  rw [Db,size_push']
 have hoL:(((s.heap.push (seqObj "list" #[] 0)).update s.heap.objs.size (Obj.mapSeq (·++vs.toArray))).push (seqObj "list" vs.toArray 0)).get? (s.heap.objs.size+1)=some (seqObj "list" vs.toArray 0):=by
  rw [<- hsz];exact An _ rfl
 have keep:∀ b o,s.heap.get? b=some o->(((s.heap.push (seqObj "list" #[] 0)).update s.heap.objs.size (Obj.mapSeq (·++vs.toArray))).push (seqObj "list" vs.toArray 0)).get? b=some o:=λb o q=>by
  have hlt:b<s.heap.objs.size:=Am q;rw [CS _ _ _ (by rw [hsz];exact Aq (AE hlt)),Do _ _ _ _ (Aq hlt),CS _ _ _ (Aq hlt)];exact q
 have hsz2:(((s.heap.push (seqObj "list" #[] 0)).update s.heap.objs.size (Obj.mapSeq (·++vs.toArray))).push (seqObj "list" vs.toArray 0)).objs.size=s.heap.objs.size+2:=by
  rw [size_push',hsz]
 show wpAny _ _ _ _ _ { s with heap:=((s.heap.push (seqObj "list" #[] 0)).update s.heap.objs.size (Obj.mapSeq (·++vs.toArray))).push (seqObj "list" vs.toArray 0) };rw [hsz];generalize (((s.heap.push (seqObj "list" #[] 0)).update s.heap.objs.size (Obj.mapSeq (·++vs.toArray))).push (seqObj "list" vs.toArray 0))=g at *;refine Ag (AS (wpAny_call_entry_kw slot_list_sort ⟨_,hoL,rfl⟩ entry_list_sort ?body (ksk_l1 _ _)));rw [ksk_t1];unfold ksk_tree;obtain ⟨e1,ho1⟩:∃ e1,(g.update (s.heap.objs.size+1) (Obj.mapSeq λ_=>(#[]:Array Value))).get? (s.heap.objs.size+1)=some (seqObj "list" #[] e1):=⟨_,Dm hoL λ_=>#[]⟩;refine Ag (listItems_at (s:={ s with heap:=g }) hoL rfl ?_);refine Ag (Ci (s:={ s with heap:=g }) hoL rfl ?_ (by rw [Al,AF];omega) (Bh _));refine Ag (DG ho1 rfl ?_);refine Ag (Ee ?_ (by show vs.length<=_;rw [AF];omega));refine Ag (Cg ?_ (Bh _));refine AS ?_;have hkS:((g.update (s.heap.objs.size+1) (Obj.mapSeq λ_=>(#[]:Array Value))).push (seqObj "tuple" vs.toArray 0)).objs.size=s.heap.objs.size+3:=by rw [size_push',Db,hsz2]
 refine jh (a:=s.heap.objs.size+1) (s:={ s with heap:=((g.update (s.heap.objs.size+1) (Obj.mapSeq λ_=>(#[]:Array Value))).push (seqObj "tuple" vs.toArray 0)).push (seqObj "list" #[] 0) }) (kS:=((g.update (s.heap.objs.size+1) (Obj.mapSeq λ_=>(#[]:Array Value))).push (seqObj "tuple" vs.toArray 0)).objs.size) (W:=W) (ks:=ks)
  (An _ rfl) (Ah _ (Ah _ ho1)) (by rw [hkS];exact CK (by omega)) hlen h64 (hw _ λb o e=>?_) (λs' b gg w hb=>hu s' b gg w ?_) (λi v k s' hv hk w h1 h2=>hc i v k s' _ _ hv hk w ?_ ?_ h1 h2) λs' w' ⟨c,hc'⟩=>⟨_,rfl,Ai ⟨_,rfl,h s' _ c (Bm _) w' hc'⟩⟩
 ·exact Ah _ (Ah _ (D8 (keep b o e) (Aq (AE (Am e)))))
 ·rcases hb with rfl | rfl
  ·rw [hkS];omega
  ·omega
 ·rw [hkS];omega
 ·omega
end
end L3
namespace L3
open PySem PySem.Spec PyProof.Rows L2
theorem Y5 {a b:Nat} {c:Value} (l:List Value) (h:TriplesOk l):TriplesOk (l++[rawInt a,rawInt b,c]):=by
 fun_induction TriplesOk l with
 | case1=>exact trivial
 | case2 _ _ _ _ _ rest ih=>exact ih h
 | case3=>exact h.elim
theorem ce {pos:Pos} {a b:Nat} {c cv:Value} (l:List Value) (h:TriplesOk l) (e:codeAmong pos (l++[rawInt a,rawInt b,c])=some cv):codeAmong pos l=some cv\/cv=c:=by
 fun_induction TriplesOk l with
 | case1=>
  right
  simp only [Di,codeAmong,rawInt] at e;split at e
  ·exact (AG e).symm
  ·cases e
 | case2 l1 t1 l2 t2 x rest ih=>
  simp only [List.cons_append,codeAmong] at e ⊢;split at e
  ·rename_i z;left;rw [if_pos z];exact e
  ·rename_i z;rw [if_neg z];exact ih h e
 | case3=>exact h.elim
structure LamOk (h:Heap) (H:Hp) (f:Addr) (q:Str) (ps:Arguments) (body:Expr) (sc:Scope):Prop where
 ex:∃ (pm ctv:Value) (c:Addr) (o:Obj) (vs:Array Value) (t:Tok) (u:HO),h.get? f=some { cls:=.type "function",data:=.func (PySem.W.kla_fn "<lambda>" q ps body sc [] pm (.ref c) ctv) }/\H c=some (.frz o u)/\o.data=.fields vs/\vs[1]?=some (.str q t)
section
variable {X:Cx} {pins:List (Addr×Obj)} {σ:L2.St} {H:Hp} {s:Shared} {E:Value->Shared->Prop}
theorem iS {args:Arguments} {body:Expr} {scope:Scope} {pos:Pos} {c P:Addr} {q:Str} {Q:Value->Shared->Prop} (I:L2.Inv X pins σ H s) (hd0:args.defaults=[]) (hk0:args.kw_defaults=[]) (hfree:∀ x∈scope.names,x.2≠.free) (hcode:X.env.code=.ref c) (hC:PySem.W.codeHdIn X.K c P=true) (hq:X.env.qual ++ "<lambda>" = q) (hP:H P=some (.tbl #[.str q 0]))
  (h:∀ f H' s',L2.Inv X pins σ H' s'->(∀ b u,H b=some u->H' b=some u)->(∀ b,H b=none->b<s.heap.objs.size->H' b=none)->H' f=none->s.heap.objs.size<=f->(∀ b o,s.heap.get? b=some o->H b=none->s'.heap.get? b=some o)->LamOk s'.heap H' f q args body scope->Q (.ref f) s') :
  wpAny (model X.prog X.w) X.A (eval (.Lambda args body scope pos) X.env) Q E s:=by
 rw [arm_eval_Lambda];have ed:defaultsOf args X.env=([],[]):=by
  rw [defaultsOf_eq,hd0,hk0];rfl
 rw [ed];refine Ag (Ai ?_);refine Ag (AS (Ai ?_));rw [hq];obtain ⟨tb,eP,tr,hc⟩:=I.hok P _ hP;have kp:∀ b o,X.base.get? b=some o->s.heap.get? b=some o:=I.bk;have nb:∀ b o,X.base.get? b=some o->b≠P:=λb o e z=>by
  have:=(I.bs b o e).2;rw [z,hP] at this;cases this
 have hg:s.heap.Ns mainGlobals X.mg:=I.ok.mod.glob.keeps kp;have gP:mainGlobals≠P:=by
  obtain ⟨o,es,ep,e,_⟩:=I.ok.mod.glob;exact nb _ _ e
 have hb:s.heap.BuiltinsAt X.mg P:=by
  obtain ⟨bm,ob,h1,h2,h3,h4,h5,h6⟩:=I.ok.mod.bm;refine ⟨bm,ob,h1,h2,λz=>?_,nb _ _ h3,kp _ _ h3,h4,h5,h6⟩;obtain ⟨o,es,ep,e,d,_⟩:=I.ok.mod.glob;rw [<- z,h3] at e;cases e;rw [h6] at d;cases d
 have CH:=PySem.W.codeHd_of_K (I.kIn) hC;cases hm:codeAmong pos tb.toList with
 | some cv=>
  refine PySem.W.kla_makeFunctionHit (closureFor_none hfree) I.ok.glob hg hcode CH eP tr hm hb λctv h' tk k sz=>?_;obtain ⟨c',o,vs,t,q',rfl,ow,e2,e3,e4⟩:=hc pos cv hm;have eq':q'=q:=by
   have:(#[Value.str q 0]:Array Value)[0]?=some (.str q 0):=rfl;rw [this] at e4;cases e4;rfl
  subst eq';have kk:∀ b o,s.heap.get? b=some o->(h'.push { cls:=.type "function",data:=.func (PySem.W.kla_fn "<lambda>" q' args body scope [] ((X.mg "__name__").getD .none) (.ref c') ctv) }).get? b=some o:=λb o e=>Ah _ (k b o e);refine h _ H _ (I.kept (t':=tk) kk) (λ_ _ e=>e) (λ_ e _=>e) (I.hok.fresh sz) sz (λb o e _=>kk b o e) ⟨_,ctv,c',o,vs,t,_,An _ rfl,ow,e2,e3⟩
 | none=>
  refine PySem.W.kla_makeFunction (closureFor_none hfree) I.ok.glob hg hcode CH eP tr hm gP hb λc' ctv h' tk hx hge hlt hrec hP'=>?_;have fc:H c'=none:=I.hok.fresh hge;obtain ⟨c2,oc,vs,t,ec,e1,e2,e3⟩:=hrec;cases ec;have sz':s.heap.objs.size<=h'.objs.size:=AZ hge (BZ hlt);generalize hob:(PySem.W.kla_obj "<lambda>" q args body scope [] ((X.mg "__name__").getD .none) c' ctv)=ob;have kk:∀ b o,b≠P->s.heap.get? b=some o->(h'.push ob).get? b=some o:=λb o n e=>Ah _ (hx b o n e);have nP:∀ b,H b=none->b≠P:=λb e z=>by rw [z,hP] at e;cases e
  have un:Un X.fs [] H (upd H c' (.frz oc (.own P))) s.heap (h'.push ob):=by
   refine ⟨λb o e n _ _=>kk b o (nP b n) e,λb o e n _ _=>⟨o.slots,kk b o (nP b n) e⟩,λb o e n _=>?_,λb o e _=>?_,λb xs e=>?_,λb o u e=>?_,λb ps e=>⟨#[],?_⟩⟩
   ·rw [b1 (Aq (Az (Am e) hge))];exact n
   ·by_cases z:b=P
    ·subst z;exact ⟨_,Ah _ hP'⟩
    ·exact ⟨o,kk b o z e⟩
   ·rw [b1 (b4 e fc)];exact e
   ·rw [b1 (b4 e fc)];exact e
   ·rw [b1 (b4 e fc),e];simp
  have hok:HOk X.prog X.w (upd H c' (.frz oc (.own P))) (h'.push ob):=λb u e=>by
   by_cases hb1:b=c'
   ·subst hb1;rw [b6] at e;cases e;exact ⟨Ah _ e1,oc,Ah _ e1⟩
   ·rw [b1 hb1] at e;by_cases hb2:b=P
    ·subst hb2;rw [hP] at e;cases e;refine ⟨_,Ah _ hP',by rw [Array.toList_append];exact Y5 _ tr,λpos' cv z=>?_⟩;rw [Array.toList_append] at z;rcases ce _ tr z with z | z
     ·obtain ⟨d,o,ws,t',q',g1,g2,g4,g5,g6⟩:=hc pos' cv z;exact ⟨d,o,ws,t',q',g1,by rw [b1 (b4 g2 fc)];exact g2,g4,g5,g6⟩
     ·exact ⟨c',oc,vs,t,q,z,b6,e2,e3,rfl⟩
    ·refine (I.hok b u e).stay (λd o hd g=>kk d o (λy=>?_) g) (λd g=>by rw [b1 (b4 g fc)];exact g) (λd xs g=>by rw [b1 (b4 g fc)];exact g) λd o u g=>by rw [b1 (b4 g fc)];exact g
     rcases hd with rfl | hd
     ·exact hb2 y
     ·rw [y,hP] at hd;cases hd
  refine h _ _ _ (I.un (t':=tk) un hok) (λb u e=>by rw [b1 (b4 e fc)];exact e) (λb e l=>by rw [b1 (Aq (Az l hge))];exact e) (by rw [b1 (CK hlt)];exact I.hok.fresh sz') sz' (λb o e n=>kk b o (nP b n) e) ⟨_,ctv,c',oc,vs,t,_,by rw [<- hob];exact An _ rfl,b6,e2,e3⟩
end
def Q7 (ap:Pos):Arguments:=⟨[],[⟨"part",none,ap⟩],none,[],[],none,[]⟩
def M4 (p1 p2 p3:Pos) (n:Nat):Expr:=.Subscript (.Name "part" p1) (.Constant (.int 0) n p2) p3
section
variable {X:Cx} {pins:List (Addr×Obj)} {σ:L2.St} {H:Hp} {s:Shared}
theorem iE {f a:Addr} {q:Str} {ap p1 p2 p3:Pos} {n:Nat} {sc:Scope} {k:Int} {xs:List V} {j:Nat} (I:L2.Inv X pins σ H s) (L:LamOk s.heap H f q (Q7 ap) (M4 p1 p2 p3 n) sc) (hf:H f=none) (nf:f∉frs X.stack) (S:FnScope ["part"] ["part"] sc) (hv:sc.names.lookup ("part" : Str)=some .local)
  (hx:SqT X.K H a (.int k :: xs)) (hr:Room false (j+1) X.A.in1.in1) (hfr:X.A.in1.in1.frames=X.A.frames) :
  wpAny (model X.prog X.w) X.A.in1.in1 (call (.ref f) [.ref a]) (λr s'=>(∃ t,r=.int k t)/\L2.Inv X pins σ H s'/\LamOk s'.heap H f q (Q7 ap) (M4 p1 p2 p3 n) sc/\∀ b o,s.heap.get? b=some o->H b=none->b∉frs X.stack->s'.heap.get? b=some o) (λ_ _=>False) s:=by
 obtain ⟨pm,ctv,c,oc,vc,tc,uc,ho,hc1,hc2,hc3⟩:=L.ex;have hcd':s.heap.CodeRec (.ref c) q:=⟨c,oc,vc,tc,rfl,(I.hok c _ hc1).1,hc2,hc3⟩;have e0:Env0 X.prog X.w X.K X.mg X.base X.A.in1.in1 X.stack s H:=by
  have z:=I.env0;exact ⟨by rw [hfr];exact z.frames,z.mod,z.bs,z.bsz,z.funs,z.frf,z.hok,z.bare⟩
 have KX:X.K.In s.heap:=e0.mod.kin.keeps λb o e=>(e0.bs b o e).1;have lim:s.heap.NoLimit:=e0.mod.nolimit.keeps λb o e=>(e0.bs b o e).1;have main:codeAny (model X.prog X.w) X.A.in1.in1 (.call (.ref f) ⟨[.ref a],[]⟩) (CR CX0 X.stack X.prog X.w H s (λv H'=>v=.int k/\H'=H) E0) s:=by
  have hkind:∀ y∈[(("part" : Str),Value.ref a)],sc.names.lookup y.1=some .local\/(sc.names.lookup y.1=some .cell/\((cellsFrom (s.heap.objs.size+1) sc.names []).lookup y.1).isSome=true):=λy hy=>by
   rw [AX.mp hy];exact .inl hv
  refine PySem.W.kla_callFunE hr.depth ho rfl S.co S.gen rfl hcd' ?_;have eb:bindArgs (PySem.W.kla_fn "<lambda>" q (Q7 ap) (M4 p1 p2 p3 n) sc [] pm (.ref c) ctv) ⟨[.ref a],[]⟩=pure [(("part" : Str),Value.ref a)]:=by
   first | rfl | kernel_rfl
  rw [eb];refine Ai ?_;refine Dv S.kind hkind λenv he s1 y=>?_;subst he;refine ⟨lim.keeps y.toInCall.keep,PySem.W.kla_codeExpr ?_⟩;have J:L2.Inv (N4 CX0 X.prog X.w X.K X.mg X.base ["part"] q sc f (.ref c) X.A.in1.in1 X.stack s H E0) [] (start ["part"] [.ref a]) H s1:=W3 (us:=[.ref a]) S (λ_=>hr.hd rfl) e0 rfl (.cons rfl .nil) y;have pe:PE (N4 CX0 X.prog X.w X.K X.mg X.base ["part"] q sc f (.ref c) X.A.in1.in1 X.stack s H E0) (M4 p1 p2 p3 n) _:=mf iV (jv (i:=0) rfl (.inl hv)) iO (λ_ _=>rfl);refine AB (pe [] s1 _ H (λv H'=>v=.int k/\H'=H) J ?_) (λv s' hq=>?_) λe s' hq=>hq
  ·refine ⟨_,rfl,?_⟩;exact ⟨a,_,((0:Nat):Int),_,rfl,rfl,hx,N6 (j:=0) rfl,rfl,rfl⟩
  ·obtain ⟨w,H',J',rw_,hw⟩:=hq;exact ⟨w,H',J'.os,J'.bare,J'.base,J'.hok,rw_,hw⟩
 refine wpAny_call (BM main λr s' hq=>?_);cases r with
 | error e=>exact hq.elim
 | ok fl=>
  cases fl with
  | ret u=>
   obtain ⟨v,H',os,bare,un,hok,rv,rfl,rfl⟩:=hq;obtain ⟨t,rfl⟩:=rv;have kk:∀ b o,s.heap.get? b=some o->H' b=none->b∉frs X.stack->s'.heap.get? b=some o:=λb o e nn hb=>un.keep b o e nn hb (by simp);refine ⟨⟨t,rfl⟩,I.call' (ch:=[]) os un hok bare (λb z=>absurd z (by simp)),?_,kk⟩;exact ⟨pm,ctv,c,oc,vc,tc,uc,kk f _ ho hf nf,hc1,hc2,hc3⟩
  | next=>exact hq.elim
  | brk=>exact hq.elim
  | cont=>exact hq.elim
end
section
variable {X:Cx} {cl:Nat->Addr} {xe:Addr->Hp->Prop} {pins:List (Addr×Obj)} {σ:L2.St} {H:Hp} {s:Shared} {μ:Mp}
theorem jG:∀ {ds:List D} {xs:List V} {vs:List Value} {ks:List Int} {i:Nat} {v:Value} {k:Int},y9 ds=some ks->RDs X.K μ H ds xs->Vals xs vs->vs[i]?=some v->ks[i]?=some k->∃ b ys,v=.ref b/\SqT X.K H b (.int k :: ys)
 | [],_,_,_,_,_,_,e,.nil,.nil,e1,_=>by simp at e1
 | d :: ds,_,_,ks,i,v,k,e,.cons rd rds,.cons rv rvs,e1,e2=>by
  cases rd with
  | tup ta ra=>
   cases ra with
   | nil=>cases e
   | cons r1 r2=>
    cases r1 with
    | int k'=>
     unfold y9 at e;cases q:y9 ds with
     | none=>rw [q] at e;cases e
     | some js=>
      rw [q] at e;cases e;cases i with
      | zero=>
       simp at e1 e2;subst e1;subst e2;cases rv;exact ⟨_,_,rfl,ta.sq⟩
      | succ i=>
       simp at e1 e2;exact jG q rds rvs e1 e2
    | _=>cases e
  | _=>cases e
theorem ls {a:Addr} {o:HO} (I:L2.Inv X pins σ H s) (hn:H a=none) (h1:X.s₀.heap.objs.size<=a) (h2:a≠X.env.locals) (h3:∀ x c,X.env.cells.lookup x=some c->c≠a) (h4:∀ p∈X.pn++pins,p.1≠a) (new:ObjOk X.prog X.w (upd H a o) s.heap a o):L2.Inv X pins σ (upd H a o) s:=by
 have ne:∀ b u,H b=some u->b≠a:=λb u e z=>by rw [z,hn] at e;cases e
 have st:HOk X.prog X.w (upd H a o) s.heap:=λb u e=>by
  by_cases hb:b=a
  ·subst hb;rw [b6] at e;cases e;exact new
  ·rw [b1 hb] at e;exact (I.hok b u e).stay (λ_ _ _ q=>q) (λc q=>by rw [b1 (ne _ _ q)];exact q) (λc xs q=>by rw [b1 (ne _ _ q)];exact q) λc o u q=>by rw [b1 (ne _ _ q)];exact q
 have z:=I.step (h':=s.heap) (H':=upd H a o) (g':=s.gens) (d':=s.drawn) (t':=s.toks) (ch:=[a]) (λb hb=>by rw [AX.mp hb];exact ⟨.inr h1,h2,h3,h4⟩) (λb o _ _ _ e _=>e) (λb o _ _ _ e _=>⟨o.slots,e⟩) (λb o hb _ n=>by rw [b1 (λz=>hb (by simp [z]))];exact n) (λb o _ e=>⟨o,e⟩)
  (λb xs e=>by rw [b1 (ne _ _ e)];exact e) (λb o u e=>by rw [b1 (ne _ _ e)];exact e) (λb ps e=>⟨#[],by rw [b1 (ne _ _ e),e];simp⟩) (λm hm=>hm) st I.bare
 exact z
theorem E5 {s2:Shared} (I:L2.Inv X pins σ H s) {b:Addr} (hb:s.heap.objs.size<=b):H b=none/\X.s₀.heap.objs.size<=b/\b≠X.env.locals/\(∀ x c,X.env.cells.lookup x=some c->c≠b)/\(∀ p∈X.pn++pins,p.1≠b)/\b∉frs X.stack:=by
 have ne:∀ c o,s.heap.get? c=some o->c≠b:=λc o e=>Aq (Az (Am e) hb);refine ⟨I.hok.fresh hb,AZ I.sz hb,?_,λx c e=>?_,λp hp=>?_,λz=>?_⟩
 ·obtain ⟨m,⟨o,_,_,ho,_⟩,_⟩:=I.loc;exact (ne _ o ho).symm
 ·obtain ⟨v,o,ho,_⟩:=I.cell x c e;exact ne c o ho
 ·exact ne _ _ (I.pin p hp).1
 ·obtain ⟨_,o,ho,_⟩:=I.stack.mem z;exact ne b o ho rfl
def v9 (d:D):M D:=match d with
 | .lst ds=>(match y9 ds with
  | some ks=>if ks.length<64 then ret (.lst (e6 .non (sPl ks) ds)) else bad
  | none=>bad)
 | _=>bad
theorem fg {e:Expr} {f:Env->M D} {p pos kp lpos ap u1 u2 u3:Pos} {n:Nat} {sc:Scope} {k:Nat} (hg:Gl X "sorted") (hm:X.mg "sorted" = none) (hc:∃ c,X.env.code=.ref c/\PySem.W.codeHdIn X.K c (cl 1000000)=true/\kE X.K cl/\X.env.qual ++ "<lambda>" = cZ X.K (cl 1000000)) (hr:Room false (k+3) X.A)
  (S:FnScope ["part"] ["part"] sc) (hv:sc.names.lookup ("part" : Str)=some .local) (he:PE X e (tD X.K cl xe f)) (hn:b8 e=true) :
  PE X (.Call (.Name "sorted" p) [e] [⟨some "key",.Lambda (Q7 ap) (M4 u1 u2 u3 n) sc lpos,kp⟩] pos) (tD X.K cl xe λρ=>bind (f ρ) v9):=by
 intro pins s σ H Q I ⟨μ,S0,ρ,eo,rp,pp⟩;obtain ⟨c,hc1,hc2,hc3,hc4⟩:=hc;refine Bi (B3 I hg hm (by rfl) ?_ (by decide) (by decide));refine callWith_kw ?_ (by rw [e8 hn];rfl) (by rw [e8 hn];rfl) rfl rfl;rw [e8 hn];show wpAny _ _ (spliced ((false,eval e X.env) :: backTo pos (starEach [] X.env))) _ _ s;refine BF (thn (he pins s σ H (λv H1=>∃ μ1 S1 d,RD X.K μ1 H1 d v/\Rep X.K cl μ1 S1 H1/\Post X.K cl xe μ1 H1 (v9 d S1) λr _ μ' H'=>∀ v,RD X.K μ' H' r v->Q v H') I ⟨μ,S0,ρ,eo,rp,pp.bind.imp λd S1 μ1 H1 l1 r1 p1 v rv=>⟨μ1,S1,d,rv,r1,p1⟩⟩) λu s1 ⟨v,H1,I1,ru,μ1,S1,d,rd,r1,p1⟩=>?_);refine BL ?_;cases rd with
 | lst ha rds=>
  rename_i a xs ds;unfold v9 at p1;dsimp only at p1;cases e2:y9 ds with
  | none=>rw [e2] at p1;exact p1.elim
  | some ks=>
   rw [e2] at p1;obtain ⟨hz,p1⟩:=Post.guard p1;cases ru;refine kws_cons ?_;obtain ⟨t1,t2,t3⟩:=r1.tb hc3;refine iS I1 rfl rfl S.nofree hc1 hc2 hc4 t3 λf H2 s2 I2 sub2 fr2 hf2 szf kp2 L=>?_;refine kws_nil ?_;show wpAny _ _ (call (.builtin "sorted") [.ref a] [(Str.ofString "key",.ref f)]) _ _ s2;have l2:Lat μ1 H1 μ1 H2:=⟨λ_ _ e=>e,λb o e _=>sub2 b o e,λ_ m=>.inl m,rfl⟩;have r2:Rep X.K cl μ1 S1 H2:=r1.keep l2 λb m=>by obtain ⟨w,ew⟩:=r1.tracked m;rw [ew];exact sub2 b w ew
   have rds2:=rds.later l2;have ha2:LstAt μ1 H2 a xs:=⟨sub2 _ _ ha.1,ha.2⟩;have hl:=R1 e2;obtain ⟨its,rv,pl,hsz⟩:=I2.list (ha2.sq (K:=X.K));have lv:its.length=ks.length:=by rw [<- rv.length,<- rds.length,hl]
   have bd:∀ i∈sPl ks,i<ds.length:=λi m=>by rw [<- hl];exact aX m
   have fl:f<s2.heap.objs.size:=by obtain ⟨_,_,_,_,_,_,_,z,_⟩:=L.ex;exact Am z
   have nfs:f∉frs X.stack:=(E5 (s2:=s2) I1 szf).2.2.2.2.2;refine jO (ks:=ks) (W:=λs'=>L2.Inv X pins σ H2 s'/\LamOk s'.heap H2 f (cZ X.K (cl 1000000)) (Q7 ap) (M4 u1 u2 u3 n) sc) pl.isList lv.symm (by omega) (λh' kk=>⟨I2.kept (t':=s2.toks) kk,?_⟩) (λs' b g ⟨J,L'⟩ hb=>⟨?_,?_⟩) (λi v k0 s' y z hv' hk' ⟨J,L'⟩ hy hz' ⟨oy,ey⟩ ⟨oz,ez⟩=>?_) λs' D c0 hD ⟨J,L'⟩ eD=>?_
   ·obtain ⟨pm,ctv,c',o,vs,t,w,z1,z2⟩:=L.ex;exact ⟨pm,ctv,c',o,vs,t,w,kk _ _ z1,z2⟩
   ·obtain ⟨n1,n2,n3,n4,n5,_⟩:=E5 (s2:=s2) I2 hb;exact J.turned (t':=s'.toks) (it:=b) (λb' o nb e=>D8 e nb) n1 n3.symm.symm (.inr n2) n4 n5
   ·obtain ⟨pm,ctv,c',o,vs,t,w,z1,z2⟩:=L'.ex;exact ⟨pm,ctv,c',o,vs,t,w,D8 z1 (Aq (Az fl hb)),z2⟩
   ·obtain ⟨b,ys,rfl,hb⟩:=jG e2 rds2 rv hv' hk';refine AB (iE (j:=k) J L' hf2 nfs S hv hb (hr.in1.in1) rfl) (λr s'' ⟨q1,q2,q3,q4⟩=>⟨q1,⟨q2,q3⟩,?_,?_⟩) λ_ _ z=>z
    ·obtain ⟨n1,_,_,_,_,n6⟩:=E5 (s2:=s2) I2 hy;rw [ey];exact q4 y oy ey n1 n6
    ·obtain ⟨n1,_,_,_,_,n6⟩:=E5 (s2:=s2) I2 hz';rw [ez];exact q4 z oz ez n1 n6
   ·obtain ⟨n1,n2,n3,n4,n5,_⟩:=E5 (s2:=s2) I2 hD;obtain ⟨l,rp2,rd2⟩:=m7 r2 (Z8 rds2 bd) n1;refine ⟨.ref D,_,ls J n1 n2 n3 n4 n5 ?_,rfl,p1 μ1 _ (l2.trans l) rp2 _ rd2⟩;refine ⟨by unfold e6;rw [Aj,B6,AF];omega,e6 .none (sPl ks) its,c0,M2 rv (λi m=>by rw [<- rds.length];exact bd i m),?_⟩;rw [eD];unfold w9 e6;rw [lv]
 | _=>exact False.elim p1
end
def gz (as:Arguments):Bool:=as.posonlyargs.isEmpty&&as.vararg.isNone&&as.kwonlyargs.isEmpty&&as.kw_defaults.isEmpty&&as.kwarg.isNone&&as.defaults.isEmpty&&(match as.args with
 | [a]=>decide (a.arg = "part")&&a.annotation.isNone
 | _=>false)
theorem gm {as:Arguments} (h:gz as=true):∃ ap,as=Q7 ap:=by
 obtain ⟨a1,a2,a3,a4,a5,a6,a7⟩:=as;simp only [gz,Ao,List.isEmpty_iff,AR] at h;obtain ⟨⟨⟨⟨⟨⟨rfl,rfl⟩,rfl⟩,rfl⟩,rfl⟩,rfl⟩,h⟩:=h;cases a2 with
 | nil=>cases h
 | cons a r=>
  cases r with
  | nil=>
   obtain ⟨x,an,ap⟩:=a;simp only [Ao,AD,AR] at h;obtain ⟨rfl,rfl⟩:=h;exact ⟨ap,rfl⟩
  | cons _ _=>cases h
def iB (e:Expr):Bool:=match e with
 | .Subscript a b _=>(match a with
  | .Name x _=>decide (x = "part")
  | _=>false)&&(match b with
  | .Constant c _ _=>(match c with
   | .int i=>decide (i=0)
   | _=>false)
  | _=>false)
 | _=>false
theorem gA {e:Expr} (h:iB e=true):∃ u1 u2 u3 n,e=M4 u1 u2 u3 n:=by
 cases e with
 | Subscript a b u3=>
  simp only [iB,Ao] at h;obtain ⟨h1,h2⟩:=h;cases a with
  | Name x u1=>
   obtain rfl:x = "part":=Ck h1;cases b with
   | Constant c n u2=>
    cases c with
    | int i=>
     obtain rfl:i=0:=Ck h2;exact ⟨u1,u2,u3,n,rfl⟩
    | _=>cases h2
   | _=>cases h2
  | _=>cases h1
 | _=>cases h
def jF (sc:Scope):Bool:=O2 ⟨["part"],["part"],sc,[],[]⟩&&decide (sc.names.lookup ("part" : Str)=some .local)
def ny (kw:List Keyword):Bool:=match kw with
 | [k]=>decide (k.arg=some "key")&&(match k.value with
  | .Lambda as b sc _=>gz as&&iB b&&jF sc
  | _=>false)
 | _=>false
theorem mH {kw:List Keyword} (h:ny kw=true):∃ ap u1 u2 u3 n sc lpos kp,kw=[⟨some "key",.Lambda (Q7 ap) (M4 u1 u2 u3 n) sc lpos,kp⟩]/\jF sc=true:=by
 cases kw with
 | nil=>cases h
 | cons k r=>
  cases r with
  | cons _ _=>cases h
  | nil=>
   obtain ⟨a,v,kp⟩:=k;simp only [ny,Ao,AD] at h;obtain ⟨rfl,h⟩:=h;cases v with
   | Lambda as b sc lpos=>
    simp only [Ao] at h;obtain ⟨⟨h1,h2⟩,h3⟩:=h;obtain ⟨ap,rfl⟩:=gm h1;obtain ⟨u1,u2,u3,n,rfl⟩:=gA h2;exact ⟨ap,u1,u2,u3,n,sc,lpos,kp,rfl,h3⟩
   | _=>cases h
def lw:RuE where
 is Γ lc e:=match e with
  | .Call (.Name x _) [a] kw _=>decide (x = "sorted")&&ny kw&&(Γ.gl.lookup ("sorted" : Str)).isNone&&glB lc.sc "sorted" && !quiet lc&&b8 a&&lc.fr&&lc.mu.contains ("lam" : Str)
  | _=>false
 run r _ _ lc e ρ:=match e with
  | .Call (.Name _ _) [a] _ _=>bind (r.e lc a ρ) v9
  | _=>bad
 ok {T k r Γ C lc X} e R TX h hi:=by
  split at hi
  ·simp only [Ao,AD,AR,Bz] at hi;obtain ⟨⟨⟨⟨⟨⟨⟨rfl,h1⟩,h2⟩,h3⟩,h4⟩,h5⟩,h6⟩,h7⟩:=hi;obtain ⟨ap,u1,u2,u3,n,sc,lpos,kp,rfl,hs⟩:=mH h1;simp only [jF,Ao,AD] at hs;have k3:=TX.k3;obtain ⟨j,rfl⟩:∃ j,k=j+3:=⟨k-3,by omega⟩;exact fg (k:=j) (h.gl h3) (TX.none h (by decide) h2) (by rw [h.K];exact h.code h6 h7) (h.room0 h4) (D3 (fd:=⟨["part"],["part"],sc,[],[]⟩) hs.1) hs.2 (R.ex h _) h5
  ·cases hi
 runK q _ _ lc e ρ _ k:=match e with
  | .Call (.Name _ _) [a] _ _=>q.e lc a ρ λd=>bind (v9 d) k
  | _=>bad
 eq e ρ _ k h:=by
  split
  ·simp only [h.e,bind_assoc]
  ·first
   | rfl
   | (rename_i hn;split;exact (hn _ _ _ _ _ rfl).elim;rfl)
def nv (K:PySem.W.Frag) (f P:Addr):Bool:=match E3 K f with
 | some (.ref c)=>PySem.W.codeHdIn K c P
 | _=>false
theorem km {K:PySem.W.Frag} {f P:Addr} (h:nv K f P=true):∃ c,E3 K f=some (.ref c)/\PySem.W.codeHdIn K c P=true:=by
 unfold nv at h;split at h
 ·rename_i c e;exact ⟨c,e,h⟩
 ·cases h
theorem lU {P:Program} {w:World} {K:PySem.W.Frag} {mg mb:Str->Option Value} {CX:CXT} {k:Nat} {fa a tA c:Addr} {fd:FuncData} {x q:Str} {sp:Sp} {s₁:Shared} {vs:List Value} {ns:List Int}
  (KX:K.In s₁.heap) (hns:s₁.heap.Ns mainGlobals mg) (hb:s₁.heap.Ns builtinsNs mb) (hbb:∀ x:Str,x ≠ "__name__"->mb x=bootBuiltins x) (hlim:s₁.heap.NoLimit) (hbm:rM mg s₁.heap) (hg:s₁.gens=#[])
  (ha:s₁.heap.get? a=some { cls:=.type "list",data:=.seq vs.toArray }) (hi:IntsAre vs ns) (hl:ns.length<=sizeLine) (hr:Room false k callerA)
  (ht:s₁.heap.get? tA=some (PySem.W.tabObj #[])) (hC:PySem.W.codeHdIn K c tA=true) (hK:K.lookup tA=none)
  (F:∀ base:Heap,K.In base->base.Ns mainGlobals mg->FnOk P w K mg base CX k fa fd [x] sp) (hbind:∀ (s:Shared) (u:Value),BindsTo s fd ⟨[u],[]⟩ [(x,u)])
  (hsp:∀ H:Hp,H tA=some (.tbl #[.str q 0])->SqL K H a (ns.map V.int)->sp [.ref a] H (λv _=>v=.bl true) λ_ _ _=>False)
  (hCX:∀ H e s',CX [] H s₁ (λ_ _ _=>False) e s'->False) :
  codeAny (model P w) callerA (.call (.ref fa) ⟨[.ref a],[]⟩) (λr s'=>r=.ok (.ret (.bool true))/\OldK s₁.heap s'.heap/\s'.os=s₁.os/\AllBare s'.gens) s₁:=by
 have rv:=L2.vals_ints hi;have nT:a≠tA:=λz=>by rw [z,ht] at ha;cases ha
 obtain ⟨H,hT,hA,hO,hok,hS⟩:∃ H:Hp,H tA=some (.tbl #[.str q 0])/\(∀ b u,H b=some u->b=tA\/b=a/\u=.frz { cls:=.type "list",data:=.seq vs.toArray } (.lst (ns.map V.int))/\K.lookup a=none)/\True/\HOk P w H s₁.heap/\SqL K H a (ns.map V.int):=by
  have tok:∀ H:Hp,ObjOk P w H s₁.heap tA (.tbl #[.str q 0]):=λH=>⟨#[],ht,trivial,λpos cv z=>by cases z⟩;cases hk:K.lookup a with
  | some o=>
   have e:=KX a o hk;rw [ha] at e;cases e;refine ⟨λb=>if b=tA then some (.tbl #[.str q 0]) else none,if_pos rfl,λb u z=>?_,trivial,λb u z=>?_,.inr ⟨_,vs.toArray,_,hk,rfl,rfl,rfl,by rw [Al,hi.length];exact hl,by simpa using rv⟩⟩
   ·by_cases hb:b=tA
    ·exact .inl hb
    ·have z':=(if_neg hb).symm.trans z;cases z'
   ·by_cases hb:b=tA
    ·subst hb;have z':=(if_pos rfl).symm.trans z;cases z';exact tok _
    ·have z':=(if_neg hb).symm.trans z;cases z'
  | none=>
   refine ⟨λb=>if b=tA then some (.tbl #[.str q 0]) else if b=a then some (.frz { cls:=.type "list",data:=.seq vs.toArray } (.lst (ns.map V.int))) else none,if_pos rfl,λb u z=>?_,trivial,λb u z=>?_,.inl (.inr ⟨_,(if_neg nT).trans (if_pos rfl)⟩)⟩
   ·by_cases hb:b=tA
    ·exact .inl hb
    ·have z:=(if_neg hb).symm.trans z;by_cases hb2:b=a
     ·have z':=(if_pos hb2).symm.trans z;cases z';exact .inr ⟨hb2,rfl,rfl⟩
     ·have z':=(if_neg hb2).symm.trans z;cases z'
   ·by_cases hb:b=tA
    ·subst hb;have z':=(if_pos rfl).symm.trans z;cases z';exact tok _
    ·have z:=(if_neg hb).symm.trans z;by_cases hb2:b=a
     ·have z':=(if_pos hb2).symm.trans z;cases z';subst hb2;exact ⟨ha,by rw [Aj];exact hl,vs,_,rv,ha⟩
     ·have z':=(if_neg hb2).symm.trans z;cases z'
 have un_of:∀ {b:Addr} {o:Obj},s₁.heap.get? b=some o->(∀ ps,o.data≠.fields ps)->(∀ xs n,o.data≠.seq xs n)->H b=none:=λ{b o} e h1 h2=>by
  cases z:H b with
  | none=>rfl
  | some u=>
   rcases hA b u z with rfl | ⟨rfl,_⟩
   ·rw [ht] at e;cases e;exact absurd rfl (h1 _)
   ·rw [ha] at e;cases e;exact absurd rfl (h2 _ _)
 have nsK:∀ {b:Addr} {m:Str->Option Value},s₁.heap.Ns b m->(bH s₁.heap H).Ns b m:=λ{b m} ⟨o,es,ep,e,d,r⟩=>⟨o,es,ep,T1 e (un_of e (λps z=>by rw [d] at z;cases z) λxs n z=>by rw [d] at z;cases z),d,r⟩;have hKb:K.In (bH s₁.heap H):=λb o e=>T1 (KX b o e) (by
  cases z:H b with
  | none=>rfl
  | some u=>
   rcases hA b u z with rfl | ⟨rfl,_,z2⟩
   ·rw [hK] at e;cases e
   ·rw [z2] at e;cases e)
 have hM:Mod K mg (bH s₁.heap H):=⟨hKb,nsK hns,⟨mb,nsK hb,hbb⟩,let ⟨mc,h1,h2⟩:=hlim;⟨mc,nsK h1,h2⟩,let ⟨bm,ob,h1,h2,h3,h4,h5,h6⟩:=hbm;⟨bm,ob,h1,h2,T1 h3 (un_of h3 (λps z=>by rw [h6] at z;cases z) λxs n z=>by rw [h6] at z;cases z),h4,h5,h6⟩⟩;have e0:Env0 P w K mg (bH s₁.heap H) callerA [] s₁ H:=⟨rfl,hM,λb o e=>lS e,Nat.le_of_eq (fM _ _),trivial,λb hb=>absurd (show b∈([]:List Addr) from hb) (by simp),hok,.of_eq hg⟩;refine BM ((F _ hKb (nsK hns)).run callerA [] s₁ H ⟨[.ref a],[]⟩ [.ref a] [.ref a] _ _ hr.any e0 (hbind s₁ (.ref a)) (.cons rfl .nil) (hsp H hT hS)) λr s' h=>?_;cases r with
 | error e=>exact (hCX H e s' h).elim
 | ok fl=>
  cases fl with
  | next=>exact False.elim h
  | brk=>exact False.elim h
  | cont=>exact False.elim h
  | ret u=>
   obtain ⟨v,H',os,bare,un,hok',r',q'⟩:=h;have q2:v=.bl true:=q';subst q2;obtain rfl:u=Value.bool true:=r';refine ⟨rfl,⟨λb o e=>?_,λb o e=>un.there b o e (by simp)⟩,os,bare⟩;cases z:H b with
   | none=>exact .inl (un.keep b o e z (by intro y;exact absurd (show b∈([]:List Addr) from y) (by simp)) (by simp))
   | some u=>
    rcases hA b u z with rfl | ⟨rfl,rfl,_⟩
    ·rw [hT] at z;obtain ⟨more,z2⟩:=un.tbls _ _ hT;obtain ⟨tb,e2,_⟩:=hok' _ _ z2;rw [ht] at e;cases e;obtain ⟨o,vs',file,tf,flags,tg,inF,text,tt,g1,g2,g3,g4,_⟩:=PySem.W.codeHd_of_K KX hC;exact .inr (.inl ⟨⟨c,o,vs',g1,g2,g3,g4⟩,rfl,#[],tb,rfl,by rw [e2];simp⟩)
    ·have z2:=un.frzs _ _ _ z;obtain ⟨e1,_⟩:=hok _ _ z;obtain ⟨e2,_⟩:=hok' _ _ z2;rw [e] at e1;cases e1;exact .inl e2
theorem walk_tab {l:PySem.W.OpenLaw} {n k:Nat} {q:Program} {loose:List Str} {XP:(Str->Option Value)->Heap->Prop} {YP:World->Heap->Prop} {d:DefRec} {K:Params->PySem.W.Frag} {tA:Addr} {x:Str}
  (hn:l.most=some n) (hn2:n<=sizeLine) (hdf:d.params.defaults=[]) (hr:Room false k callerA)
  (hY:∀ (w:World) (h:Heap),YP w h->(K w.params).In h/\h.get? tA=some (PySem.W.tabObj #[]))
  (F:∀ (w:World) (mg:Str->Option Value) (fa:Addr) (h:Heap),(K w.params).In h->h.Ns mainGlobals mg->mg d.name=some (.ref fa) ->
   ∃ (fd:FuncData) (c:Addr) (cl:Nat->Addr),PySem.W.codeHdIn (K w.params) c tA=true/\(K w.params).lookup tA=none/\cl 1000000=tA/\(∀ (s:Shared) (u:Value),BindsTo s fd ⟨[u],[]⟩ [(x,u)]) /\
    ∀ base:Heap,(K w.params).In base->base.Ns mainGlobals mg->FnOk l.prog w (K w.params) mg base CX0 k fa fd [x] (aL (K w.params) cl)) :
  PySem.W.WalkO q loose XP YP l.row.toRowW d [] (λf vs=>PySem.call f vs):=by
 refine Att.attach_call hn hdf λw s₀ s₁ mg mb fa o pm cd doc a vs ns G Y ho hd hcd hmg hobj hints hlen hg=>?_;obtain ⟨KX,ht⟩:=hY w _ Y;obtain ⟨fd,c,cl,hC,hK,hcl,hb,hF⟩:=F w mg fa _ KX G.T.g hmg;refine lU (q:=cZ (K w.params) tA) KX G.T.g G.T.b G.T.builtins G.T.nolimit G.T.bmain hg hobj hints (AZ hlen hn2) hr ht hC hK hF hb (λH hT hS=>⟨⟨a,ns,rfl,hS,λ_=>rfl⟩,λ_=>?_⟩) λH e s' z=>z;rw [hcl];exact ⟨by simp,by simp,by unfold tbO;rw [hcl];exact hT⟩
section
variable {X:Cx} {cl:Nat->Addr} {xe:Addr->Hp->Prop}
def ext2D (x:D) (ds:List D):M D:=match x,ds with
 | .ref n,[.ref q]=>λS=>match S[q]? with
  | some (.lst ys)=>(match S[n]? with
   | some (.lst es)=>if es.length+ys.length<=sizeLine then .ok .non (S.set n (.lst (es++ys))) else .bad
   | _=>.bad)
  | _=>.bad
 | x,ds=>extD x ds
theorem fK:kC X.K cl xe (λx vs H Q=>∃ l b xs zs,x=.ref l/\vs=[.ref b]/\H l=some (.lst xs)/\(SqL X.K H b zs\/SqT X.K H b zs)/\xs.length+zs.length<=sizeLine/\Q .non (upd H l (.lst (xs++zs)))) ext2D:=λμ S H x v ds vs Q rx rvs rp p=>by
 unfold ext2D at p;split at p
 ·rename_i n q;cases rvs with
  | cons h t=>
   cases t;cases rx with
   | ref e=>
    cases h with
    | ref e2=>
     rename_i a b;cases q2:S[q]? with
     | none=>rw [q2] at p;exact p.elim
     | some o2=>
      rw [q2] at p;cases o2 with
      | dct _=>exact p.elim
      | exc _ _=>exact p.elim
      | lst ys=>
       obtain ⟨zs,g1,g2⟩:=rp.ats q _ b q2 e2;cases q1:S[n]? with
       | none=>rw [q1] at p;exact p.elim
       | some o=>
        rw [q1] at p;cases o with
        | dct _=>exact p.elim
        | exc _ _=>exact p.elim
        | lst es=>
         obtain ⟨xs,h1,h2⟩:=rp.ats n _ a q1 e;dsimp only at p;by_cases hz:es.length+ys.length<=sizeLine
         ·rw [if_pos hz] at p;have ml:a∈μ.pl:=AT e;refine ⟨a,b,xs,zs,rfl,rfl,h1,.inl (.inl (.inl g1)),by rw [<- h2.length,<- g2.length];exact hz,?_⟩;have la:Lat μ H μ (upd H a (.lst (xs++zs))):=Lat.wrote ml;exact p μ _ la (rp.wrote e ⟨_,b6,(h2.append g2).later la⟩) _ .non
         ·rw [if_neg hz] at p;exact p.elim
 ·exact jL μ S H x v ds vs Q rx rvs rp p
end
def gY:RuE:=rMt "extend" lstOf ext2D λ_ ho ha c1 c2 c3 c4=>dX BX PySem.F.slot_list_extend PySem.F.type_list_extend cq O5 fK ho ha c1 c2 c3 c4
theorem oo {S:Sto} {n q:Nat} {es ys:List D} (e:S[n]?=some (.lst es)) (e2:S[q]?=some (.lst ys)) (hl:es.length+ys.length<=sizeLine):ext2D (.ref n) [.ref q] S=.ok .non (S.set n (.lst (es++ys))):=by
 simp only [ext2D,e,e2,if_pos hl]
end L3
namespace L3.K42
open PySem PySem.Spec PyProof.Rows L2
def nth (l:List Stmt) (i:Nat):Stmt:=l.getD i (.Pass ⟨0,0,0,0⟩)
def top (i:Nat):Stmt:=nth PySem.Challenge.pw_handnames_k42_types.main.body i
def y8:Stmt->List Stmt
 | .For _ _ b _ _=>b
 | .While _ b _ _=>b
 | _=>[]
abbrev ph:Fd:=u9 (top 1) []
abbrev Af:Fd:=u9 (top 2) []
abbrev Ae:Fd:=u9 (top 3) ["lam"]
abbrev gu:Fd:=u9 (top 5) ["return"]
abbrev iu:Fd:=u9 (top 6) []
abbrev oR:Fd:=u9 (top 7) ["_law_left"]
abbrev pT:Fd:=u9 (top 8) ["_law_some"]
abbrev Ac:Fd:=u9 (top 9) ["_law_found"]
abbrev Aa:Fd:=u9 (top 10) ["_law_groups","[]"]
abbrev Ab:Fd:=u9 (top 11) ["_law_found"]
abbrev qJ:Fd:=u9 (top 12) []
abbrev gH:Fd:=u9 (top 13) []
abbrev dE:Fd:=u9 (top 14) []
abbrev Ad:Fd:=u9 (top 15) ["_law_found"]
abbrev putL_F:Fd:=u9 (top 16) []
abbrev jq:Fd:=u9 (top 17) []
abbrev law_F:Fd:=u9 (top 18) []
abbrev rD:Nat:=0
abbrev my:Nat:=1
abbrev tB:Nat:=2
abbrev nz:Nat:=3
abbrev Y4:Nat:=4
abbrev sL:Nat:=5
abbrev rG:Nat:=6
abbrev qS:Nat:=7
abbrev tF:Nat:=8
abbrev rT:Nat:=9
abbrev qV:Nat:=10
abbrev oA:Nat:=11
abbrev pi:Nat:=12
abbrev jt:Nat:=13
abbrev Z5:Nat:=14
abbrev pX:Nat:=15
abbrev ia:Nat:=16
def Tb:List Fd:=[ph,Af,Ae,gu,iu,oR,pT,Ac,Aa,Ab,qJ,gH,dE,Ad,putL_F,jq,law_F]
def Γ:Gm:=⟨("type_of",.fn 0 2) :: ("hands_in",.fn 1 1) :: ("placed",.fn 2 3) :: ("_law_tape",.fn 3 1) :: ("_law_draw",.fn 4 2) :: ("_law_shuffled",.fn 5 2) :: ("_law_greats",.fn 6 2) :: ("_law_hands",.fn 7 1) :: ("_law_round",.fn 8 2) :: ("_law_rounds",.fn 9 3) :: ("_law_size",.fn 10 1) :: ("_law_seen",.fn 11 2) :: ("_law_view",.fn 12 2) :: ("_law_in_view",.fn 13 1) :: ("_law_put",.fn 14 3) :: ("_law_type",.fn 15 2) :: ("law",.fn 16 1) :: [],λc c0=>c0==0||c==c0,[],[]⟩
def Rs:Rules:=⟨[oD,sI,uC,tV,rIx,uW,vD,rFn,mF,kM,uN,nV,rC,tO,lw,iH,rIf,uU,rSl,oI,pw,oZ,jV,rAppend,gY,nY,uP],[sO,uH],[sIf,uL,sS,vC,sf,ij,ig,vK,tU,qU,rF],[kz,vA]⟩
abbrev rn (k i:Nat) (ds:List D):M D:=C4 Rs Γ Tb k i ds
section
variable (C:Cf) {α:Type} (κ:Fl->M α) {ua ub uc ud:D} {qa qb qc qd qe qf qg qh qi qj qk:Option D}
theorem oV:runK Rs Γ C ph [ua,ub]=bind (nx (bind (C 1 [ub]) λx2=>bind (u8 x2) λsm3=>e9 sm3.1 (λd1=>ret true) (λd1=>bind (ixD ua d1) λx4=>ret x4) sm3.2 0 [])) λl5=>bind (w8 (.lst l5)) λx6=>bind (C 2 [ua,x6,ub]) λx7=>ret x7:=by kernel_rfl
def pg:Lc:=C3 Af
theorem je:runK Rs Γ C Af [ua]=s0 (evK Rs Γ C 40) pg Af.body [some ua,none,none] endD:=by kernel_rfl
theorem jA:Af.body=[nth Af.body 0,nth Af.body 1]:=by kernel_rfl
theorem sg:(evK Rs Γ C 40).s pg (nth Af.body 0) [some ua,qa,qb] κ=bind (Y3 (C9 [1,2]) ua [some ua,qa,qb]) κ:=by kernel_rfl
theorem rK:(evK Rs Γ C 40).s pg (nth Af.body 1) [qa,some ua,some ub] κ=bind (nx (bind (u8 ub) λsm3=>A0 sm3.1 (λd1=>ret true) (λd1=>bind (C 1 [d1]) λx4=>bind (u8 x4) λsm5=>ret sm5) (λd1 d2=>ret true) (λd1 d2=>ret d2) sm3.2 0 [])) λl6=>bind (J5 (.lst [ua]) (.lst l6)) λx7=>κ (.rt x7):=by kernel_rfl
def ku:Lc:=C3 Ae
theorem jm:runK Rs Γ C Ae [ua,ub,uc]=s0 (evK Rs Γ C 40) ku Ae.body [some ua,some ub,some uc,none,none,none] endD:=by kernel_rfl
theorem gK:Ae.body=[nth Ae.body 0,nth Ae.body 1,nth Ae.body 2]:=by kernel_rfl
theorem sK:(evK Rs Γ C 40).s ku (nth Ae.body 0) [qa,qb,some ua,qc,qd,qe] κ=bind (Y3 (C9 [3,4]) ua [qa,qb,some ua,qc,qd,qe]) κ:=by kernel_rfl
theorem rB:(evK Rs Γ C 40).s ku (nth Ae.body 1) [some ua,some ub,qa,qb,some uc,qc] κ=bind (nx (bind (u8 uc) λsm2=>e9 sm2.1 (λd1=>ret true) (λd1=>bind (C 2 [ua,ub,d1]) λx3=>ret x3) sm2.2 0 [])) λl4=>κ (.nx [some ua,some ub,qa,qb,some uc,some (.lst l4)]):=by kernel_rfl
theorem qW:(evK Rs Γ C 40).s ku (nth Ae.body 2) [some ua,some ub,qa,some uc,qb,some ud] κ=bind (sqK ub) λ_=>bind (ixD ua uc) λx1=>bind (R5 ub [x1]) λx2=>bind (v9 ud) λx3=>bind (v2 x3) λx4=>κ (.rt (.tup [x2,x4])):=by kernel_rfl
theorem lx:runK Rs Γ C gu [ua]=bind (slD ua none (some 63)) λx1=>bind (iz x1) λx2=>bind (newL [x2,(.int 0),(.int 0),(.int 0)]) λx3=>ret x3:=by kernel_rfl
theorem kl (C:Cf) (p x:D):runK Rs Γ C iu [p,x]=de p x:=by kernel_rfl
theorem pU:runK Rs Γ C oR [ua,ub]=bind (listP ub) λx1=>bind (nx (bind (A5 ub) λx3=>bind (A4 [x3]) λsm4=>e9 sm4.1 (λd2=>ret true) (λd2=>bind (lstOf x1) λ_=>bind (A5 x1) λx5=>bind (C 4 [ua,x5]) λx6=>bind (popD x1 [x6]) λx7=>ret x7) sm4.2 0 [])) λl8=>ret (.lst l8):=by kernel_rfl
theorem nr:runK Rs Γ C pT [ua,ub]=bind (cj (.int 10) (.int 8)) λx1=>bind (cj (.int 10) (.int 9)) λx2=>bind (oh x2 (.int 1)) λx3=>bind (cj (.int 10) (.int 9)) λx4=>bind (newL [(.int 0),(.int 1),(.int 2),(.int 8),(.int 9),(.int 10),(.int 11),(.int 99),(.int 100),(.int 101),x1,x3,x4]) λx5=>bind (nx (bind (A4 [ub]) λsm7=>e9 sm7.1 (λd6=>ret true) (λd6=>bind (lstOf x5) λ_=>bind (A5 x5) λx8=>bind (C 4 [ua,x8]) λx9=>bind (popD x5 [x9]) λx10=>ret x10) sm7.2 0 [])) λl11=>bind (v2 (.lst l11)) λx12=>ret x12:=by kernel_rfl
def eY:Lc:=C3 Ac
theorem oq:runK Rs Γ C Ac [ua]=s0 (evK Rs Γ C 40) eY Ac.body [some ua,none,none] endD:=by kernel_rfl
theorem qM:Ac.body=[nth Ac.body 0,nth Ac.body 1,nth Ac.body 2]:=by kernel_rfl
theorem uZ:(evK Rs Γ C 40).s eY (nth Ac.body 0) [qa,qb,qc] κ=bind (newL []) λx1=>κ (.nx [qa,some x1,qc]):=by kernel_rfl
def Y1:List Stmt:=y8 (nth Ac.body 1)
def dj (C:Cf):L3.Env->M Fl:=λρ'=>s0 (evK Rs Γ C 39) eY Y1 ρ' ret
theorem tS:(evK Rs Γ C 40).s eY (nth Ac.body 1) [some ua,qa,qb] κ=bind (u8 ua) λsm1=>bind (v6 sm1.1 (λd ρ=>some (ρ.set 2 (some d))) (dj C) sm1.2 0 [some ua,qa,qb]) κ:=by kernel_rfl
theorem uD:(evK Rs Γ C 40).s eY (nth Ac.body 2) [qa,some ua,qb] κ=bind (j5 ua) λx1=>κ (.rt x1):=by kernel_rfl
theorem cA:Y1=[nth Y1 0]:=by kernel_rfl
theorem iW:(evK Rs Γ C 39).s eY (nth Y1 0) [qa,some ua,some ub] κ=bind (lstOf ua) λ_=>bind (ext2D ua [ub]) λx1=>κ (.nx [qa,some ua,some ub]):=by kernel_rfl
def D5:Lc:=C3 Aa
theorem nW:runK Rs Γ C Aa [ua,ub]=s0 (evK Rs Γ C 40) D5 Aa.body [some ua,some ub,none,none,none,none,none] endD:=by kernel_rfl
theorem oF:Aa.body=[nth Aa.body 0,nth Aa.body 1,nth Aa.body 2,nth Aa.body 3,nth Aa.body 4,nth Aa.body 5,nth Aa.body 6]:=by kernel_rfl
theorem uE:(evK Rs Γ C 40).s D5 (nth Aa.body 0) [some ua,some ub,qa,qb,qc,qd,qe] κ=bind (C 5 [ua,ub]) λx1=>κ (.nx [some ua,some ub,some x1,qb,qc,qd,qe]):=by kernel_rfl
theorem td:(evK Rs Γ C 40).s D5 (nth Aa.body 1) [qa,qb,some ua,qc,qd,qe,qf] κ=bind (A5 ua) λx1=>κ (.nx [qa,qb,some ua,some x1,qd,qe,qf]):=by kernel_rfl
theorem uR:(evK Rs Γ C 40).s D5 (nth Aa.body 2) [some ua,qa,some ub,qb,qc,qd,qe] κ=bind (C 4 [ua,(.int 2)]) λx1=>bind (j4 .Eq x1 (.int 0)) λx2=>bind (asB x2) λz3=>if z3=true then (bind (A5 ub) λx4=>bind (C 4 [ua,x4]) λx5=>bind (J5 (.int 1) x5) λx6=>κ (.nx [some ua,qa,some ub,some x6,qc,qd,qe])) else (κ (.nx [some ua,qa,some ub,qb,qc,qd,qe])):=by kernel_rfl
theorem tv:(evK Rs Γ C 40).s D5 (nth Aa.body 3) [qa,qb,qc,qd,qe,qf,qg] κ=bind (newL []) λx1=>κ (.nx [qa,qb,qc,qd,some x1,qf,qg]):=by kernel_rfl
theorem tj:(evK Rs Γ C 40).s D5 (nth Aa.body 4) [some ua,qa,qb,qc,qd,qe,qf] κ=bind (C 4 [ua,(.int 2)]) λx1=>bind (J5 (.int 2) x1) λx2=>κ (.nx [some ua,qa,qb,qc,qd,some x2,qf]):=by kernel_rfl
def z9:List Stmt:=y8 (nth Aa.body 5)
def dw (C:Cf):L3.Env->M Fl:=λρ'=>s0 (evK Rs Γ C 39) D5 z9 ρ' ret
theorem uV:(evK Rs Γ C 40).s D5 (nth Aa.body 5) [qa,qb,some ua,some ub,qc,qd,qe] κ=bind (br ub) λn1=>bind (slD ua none n1) λx2=>bind (u8 x2) λsm3=>bind (v6 sm3.1 (λd ρ=>some (ρ.set 6 (some d))) (dw C) sm3.2 0 [qa,qb,some ua,some ub,qc,qd,qe]) κ:=by kernel_rfl
theorem tq:(evK Rs Γ C 40).s D5 (nth Aa.body 6) [qa,qb,qc,qd,some ua,qe,qf] κ=bind (nx (bind (u8 ua) λsm2=>e9 sm2.1 (λd1=>ret true) (λd1=>bind (j5 d1) λx3=>bind (v2 x3) λx4=>ret x4) sm2.2 0 [])) λl5=>bind (v2 (.lst l5)) λx6=>κ (.rt x6):=by kernel_rfl
theorem bn:z9=[nth z9 0,nth z9 1]:=by kernel_rfl
theorem ie:(evK Rs Γ C 39).s D5 (nth z9 0) [some ua,qa,qb,qc,some ub,some uc,qd] κ=bind (j4 .Eq ub (.lst [])) λx1=>bind (asB x1) λz2=>if z2=true then (bind (lstOf ub) λ_=>bind (newL []) λx3=>bind (K0 ub [x3]) λx4=>κ (.nx [some ua,qa,qb,qc,some ub,some uc,qd])) else (bind (C 4 [ua,uc]) λx5=>bind (j4 .Eq x5 (.int 0)) λx6=>bind (asB x6) λz7=>if z7=true then (bind (lstOf ub) λ_=>bind (newL []) λx8=>bind (K0 ub [x8]) λx9=>κ (.nx [some ua,qa,qb,qc,some ub,some uc,qd])) else (κ (.nx [some ua,qa,qb,qc,some ub,some uc,qd]))):=by kernel_rfl
theorem iG:(evK Rs Γ C 39).s D5 (nth z9 1) [qa,qb,qc,qd,some ua,qe,some ub] κ=bind (Z0 (.int 1)) λx1=>bind (ixD ua x1) λx2=>bind (lstOf x2) λ_=>bind (K0 x2 [ub]) λx3=>κ (.nx [qa,qb,qc,qd,some ua,qe,some ub]):=by kernel_rfl
def bb:Lc:=C3 Ab
theorem pF:runK Rs Γ C Ab [ua,ub,uc]=s0 (evK Rs Γ C 40) bb Ab.body [some ua,some ub,some uc,none,none,none] endD:=by kernel_rfl
theorem pZ:Ab.body=[nth Ab.body 0,nth Ab.body 1,nth Ab.body 2,nth Ab.body 3]:=by kernel_rfl
theorem tY:(evK Rs Γ C 40).s bb (nth Ab.body 0) [qa,some ua,qb,qc,qd,qe] κ=bind (J6 ua) λx1=>κ (.nx [qa,some ua,qb,some x1,qd,qe]):=by kernel_rfl
theorem tX:(evK Rs Γ C 40).s bb (nth Ab.body 1) [qa,qb,qc,qd,qe,qf] κ=bind (newL []) λx1=>κ (.nx [qa,qb,qc,qd,some x1,qf]):=by kernel_rfl
def L1:List Stmt:=y8 (nth Ab.body 2)
def dk (C:Cf):L3.Env->M Fl:=λρ'=>s0 (evK Rs Γ C 39) bb L1 ρ' ret
theorem vH:(evK Rs Γ C 40).s bb (nth Ab.body 2) [some ua,qa,some ub,qb,qc,qd] κ=bind (C 4 [ua,ub]) λx1=>bind (J5 (.int 1) x1) λx2=>bind (A4 [x2]) λsm3=>bind (v6 sm3.1 (λd ρ=>some (ρ.set 5 (some d))) (dk C) sm3.2 0 [some ua,qa,some ub,qb,qc,qd]) κ:=by kernel_rfl
theorem vG:(evK Rs Γ C 40).s bb (nth Ab.body 3) [qa,qb,qc,qd,some ua,qe] κ=bind (v2 ua) λx1=>κ (.rt x1):=by kernel_rfl
theorem cV:L1=[nth L1 0,nth L1 1]:=by kernel_rfl
theorem gM:(evK Rs Γ C 39).s bb (nth L1 0) [some ua,qa,qb,some ub,some uc,qc] κ=bind (lstOf uc) λ_=>bind (C 8 [ua,ub]) λx1=>bind (K0 uc [x1]) λx2=>κ (.nx [some ua,qa,qb,some ub,some uc,qc]):=by kernel_rfl
theorem ik:(evK Rs Γ C 39).s bb (nth L1 1) [qa,qb,qc,qd,some ua,qe] κ=bind (Z0 (.int 1)) λx1=>bind (ixD ua x1) λx2=>bind (C 7 [x2]) λx3=>κ (.nx [qa,qb,qc,some x3,some ua,qe]):=by kernel_rfl
theorem kg:runK Rs Γ C gH [ua,ub]=bind (nx (bind (A5 ua) λx2=>bind (A4 [x2]) λsm3=>e9 sm3.1 (λd1=>bind (ixD ua d1) λx4=>bind (j4 .In ub x4) λx5=>bind (asB x5) λz6=>ret z6) (λd1=>ret d1) sm3.2 0 [])) λl7=>bind (ixD (.lst l7) (.int 0)) λx8=>bind (J5 x8 (.int 1)) λx9=>bind (br x9) λn10=>bind (slD ua none n10) λx11=>bind (C 7 [x11]) λx12=>ret x12:=by kernel_rfl
theorem eC:runK Rs Γ C dE [ua,ub]=bind (j4 .Eq ua (.tup [])) λx1=>bind (asB x1) λz2=>if z2=true then (ret (.tup [ub,(.tup [])])) else (bind (nx (bind (Z0 (.int 1)) λx4=>bind (ixD ua x4) λx5=>bind (C 11 [x5,ub]) λx6=>bind (u8 x6) λsm7=>e9 sm7.1 (λd3=>ret true) (λd3=>bind (Z0 (.int 1)) λx8=>bind (br x8) λn9=>bind (slD ua none n9) λx10=>bind (C 12 [x10,d3]) λx11=>ret x11) sm7.2 0 [])) λl12=>bind (v2 (.lst l12)) λx13=>ret (.tup [ub,x13])):=by kernel_rfl
def fZ:Lc:=C3 Ad
theorem oC:runK Rs Γ C Ad [ua]=s0 (evK Rs Γ C 40) fZ Ad.body [some ua,none,none] endD:=by kernel_rfl
theorem oa:Ad.body=[nth Ad.body 0,nth Ad.body 1,nth Ad.body 2]:=by kernel_rfl
theorem uK:(evK Rs Γ C 40).s fZ (nth Ad.body 0) [some ua,qa,qb] κ=bind (ixD ua (.int 0)) λx1=>bind (newL [x1]) λx2=>κ (.nx [some ua,some x2,qb]):=by kernel_rfl
def Z3:List Stmt:=y8 (nth Ad.body 1)
def dG (C:Cf):L3.Env->M Fl:=λρ'=>s0 (evK Rs Γ C 39) fZ Z3 ρ' ret
theorem vJ:(evK Rs Γ C 40).s fZ (nth Ad.body 1) [some ua,qa,qb] κ=bind (ixD ua (.int 1)) λx1=>bind (u8 x1) λsm2=>bind (v6 sm2.1 (λd ρ=>some (ρ.set 2 (some d))) (dG C) sm2.2 0 [some ua,qa,qb]) κ:=by kernel_rfl
theorem tZ:(evK Rs Γ C 40).s fZ (nth Ad.body 2) [qa,some ua,qb] κ=κ (.rt ua):=by kernel_rfl
theorem cz:Z3=[nth Z3 0]:=by kernel_rfl
theorem gc:(evK Rs Γ C 39).s fZ (nth Z3 0) [qa,some ua,some ub] κ=bind (lstOf ua) λ_=>bind (C 13 [ub]) λx1=>bind (ext2D ua [x1]) λx2=>κ (.nx [qa,some ua,some ub]):=by kernel_rfl
def putL_L:Lc:=C3 putL_F
def B5:Expr×List Expr×Scope:=match (nth putL_F.body 2) with
 | .Return (some (.Tuple [_,.Call _ [.ListComp elt [⟨_,_,ifs,_⟩] scope _] _ _] _ _)) _=>(elt,ifs,scope)
 | _=>(.Name "" ⟨0,0,0,0⟩,[],default)
def T4 (C:Cf) (ρ:L3.Env) (d:D):M Bool:=match d8 (e5 putL_L.N) (i7 B5.2.2) with
 | some caps=>ky (testsK (evK Rs Γ C 36) (d4 putL_L B5.2.2 ["_law_great","_law_one"]) B5.2.1) (mk2 (i4 caps ρ) d)
 | none=>bad
theorem aW:T4 C [qa,qb,qc,qd,qe] (.tup [ua,ub])=ret true:=by kernel_rfl
def P9 (C:Cf) (ρ:L3.Env) (d:D):M D:=match d8 (e5 putL_L.N) (i7 B5.2.2) with
 | some caps=>(evK Rs Γ C 36).e (d4 putL_L B5.2.2 ["_law_great","_law_one"]) B5.1 (mk2 (i4 caps ρ) d) ret
 | none=>bad
theorem Y8:P9 C [qa,qb,qc,qd,qe] (.tup [ua,ub])=ret ub:=by kernel_rfl
theorem hW:runK Rs Γ C putL_F [ua,ub,uc]=bind (nx (bind (u8 ub) λsm2=>e9 sm2.1 (λd1=>bind (ixD ua d1) λx3=>bind (ixD uc (.int 0)) λx4=>bind (ixD ua x4) λx5=>bind (j4 .Lt x3 x5) λx6=>bind (asB x6) λz7=>ret z7) (λd1=>ret d1) sm2.2 0 [])) λl8=>bind (A5 (.lst l8)) λx9=>bind (nx (bind (ixD uc (.int 1)) λx11=>bind (u8 x11) λsm12=>e9 sm12.1 (λd10=>ret true) (λd10=>bind (ixD d10 (.int 0)) λx13=>bind (ixD ua x13) λx14=>bind (C 14 [ua,ub,d10]) λx15=>ret (.tup [x14,x15])) sm12.2 0 [])) λl16=>bind (j5 (.lst l16)) λx17=>bind (nx (bind (u8 x17) λsm18=>e9 sm18.1 (T4 C [some ua,some ub,some uc,some x9,some x17]) (P9 C [some ua,some ub,some uc,some x9,some x17]) sm18.2 0 [])) λl19=>bind (v2 (.lst l19)) λx20=>ret (.tup [x9,x20]):=by kernel_rfl
theorem mI:runK Rs Γ C jq [ua,ub]=bind (C 13 [ub]) λx1=>bind (w8 x1) λx2=>bind (C 14 [ua,x2,ub]) λx3=>ret x3:=by kernel_rfl
def q5:Lc:=C3 law_F
theorem kI:runK Rs Γ C law_F [ua]=s0 (evK Rs Γ C 40) q5 law_F.body [some ua,none,none,none,none,none,none,none,none,none,none] endD:=by kernel_rfl
theorem mZ:law_F.body=[nth law_F.body 0,nth law_F.body 1,nth law_F.body 2]:=by kernel_rfl
theorem se:(evK Rs Γ C 40).s q5 (nth law_F.body 0) [some ua,qa,qb,qc,qd,qe,qf,qg,qh,qi,qj] κ=bind (C 3 [ua]) λx1=>κ (.nx [some ua,some x1,qb,qc,qd,qe,qf,qg,qh,qi,qj]):=by kernel_rfl
def j1:List Stmt:=y8 (nth law_F.body 1)
def bA (C:Cf):L3.Env->M Fl:=λρ'=>s0 (evK Rs Γ C 39) q5 j1 ρ' ret
theorem tG:(evK Rs Γ C 40).s q5 (nth law_F.body 1) [qa,qb,qc,qd,qe,qf,qg,qh,qi,qj,qk] κ=bind (A4 [(.int 3)]) λsm1=>bind (v6 sm1.1 (λd ρ=>some (ρ.set 2 (some d))) (bA C) sm1.2 0 [qa,qb,qc,qd,qe,qf,qg,qh,qi,qj,qk]) κ:=by kernel_rfl
theorem sJ:(evK Rs Γ C 40).s q5 (nth law_F.body 2) [qa,qb,qc,qd,qe,qf,qg,qh,qi,qj,qk] κ=κ (.rt (.bl true)):=by kernel_rfl
theorem ar:j1=[nth j1 0,nth j1 1,nth j1 2,nth j1 3,nth j1 4]:=by kernel_rfl
theorem fQ:(evK Rs Γ C 39).s q5 (nth j1 0) [qa,some ua,qb,qc,qd,qe,qf,qg,qh,qi,qj] κ=bind (C 10 [ua]) λx1=>bind (Y3 (C9 [3,4]) x1 [qa,some ua,qb,qc,qd,qe,qf,qg,qh,qi,qj]) κ:=by kernel_rfl
theorem fL:(evK Rs Γ C 39).s q5 (nth j1 1) [qa,some ua,qb,some ub,some uc,qc,qd,qe,qf,qg,qh] κ=bind (C 9 [ua,ub,uc]) λx1=>κ (.nx [qa,some ua,qb,some ub,some uc,some x1,qd,qe,qf,qg,qh]):=by kernel_rfl
theorem eV:(evK Rs Γ C 39).s q5 (nth j1 2) [qa,some ua,qb,some ub,qc,qd,qe,qf,qg,qh,qi] κ=bind (C 6 [ua,ub]) λx1=>bind (C 6 [ua,ub]) λx2=>κ (.nx [qa,some ua,qb,some ub,qc,qd,some (.lst [x1,x2]),qf,qg,qh,qi]):=by kernel_rfl
theorem eZ:(evK Rs Γ C 39).s q5 (nth j1 3) [qa,qb,qc,some ua,qd,qe,some ub,qf,qg,qh,qi] κ=bind (nx (bind (A4 [ua]) λsm2=>e9 sm2.1 (λd1=>bind (ixD ub (.int 0)) λx3=>bind (C 0 [x3,(.tup [d1,(.tup [])])]) λx4=>bind (q9 x4) λx5=>bind (q9 (.tup [(.int 0),(.tup [])])) λx6=>bind (j4 .NotEq x5 x6) λx7=>bind (asB x7) λz8=>ret z8) (λd1=>ret d1) sm2.2 0 [])) λl9=>bind (j4 .NotEq (.lst l9) (.lst [])) λx10=>bind (asB x10) λz11=>if z11=true then (κ (.rt (.bl false))) else (κ (.nx [qa,qb,qc,some ua,qd,qe,some ub,qf,qg,qh,qi])):=by kernel_rfl
def d5:List Stmt:=y8 (nth j1 4)
def A1 (C:Cf):L3.Env->M Fl:=λρ'=>s0 (evK Rs Γ C 38) q5 d5 ρ' ret
theorem fI:(evK Rs Γ C 39).s q5 (nth j1 4) [qa,qb,qc,qd,qe,some ua,qf,qg,qh,qi,qj] κ=bind (Z0 (.int 1)) λx1=>bind (ixD ua x1) λx2=>bind (C 7 [x2]) λx3=>bind (u8 x3) λsm4=>bind (v6 sm4.1 (λd ρ=>some (ρ.set 7 (some d))) (A1 C) sm4.2 0 [qa,qb,qc,qd,qe,some ua,qf,qg,qh,qi,qj]) κ:=by kernel_rfl
theorem N2:d5=[nth d5 0,nth d5 1,nth d5 2,nth d5 3]:=by kernel_rfl
theorem U6:(evK Rs Γ C 38).s q5 (nth d5 0) [qa,qb,qc,qd,qe,some ua,qf,some ub,qg,qh,qi] κ=bind (C 12 [ua,ub]) λx1=>κ (.nx [qa,qb,qc,qd,qe,some ua,qf,some ub,some x1,qh,qi]):=by kernel_rfl
theorem U2:(evK Rs Γ C 38).s q5 (nth d5 1) [qa,qb,qc,qd,qe,qf,some ua,qg,some ub,qh,qi] κ=bind (q9 (.tup [ub,ua])) λx1=>κ (.nx [qa,qb,qc,qd,qe,qf,some ua,qg,some ub,some x1,qi]):=by kernel_rfl
def j8:List Stmt:=y8 (nth d5 2)
def m3 (C:Cf):L3.Env->M Fl:=λρ'=>s0 (evK Rs Γ C 37) q5 j8 ρ' ret
theorem U5:(evK Rs Γ C 38).s q5 (nth d5 2) [qa,qb,qc,qd,qe,qf,some ua,qg,qh,qi,qj] κ=bind (slD ua none (some 1)) λx1=>bind (J5 ua x1) λx2=>bind (u8 x2) λsm3=>bind (v6 sm3.1 (λd ρ=>some (ρ.set 10 (some d))) (m3 C) sm3.2 0 [qa,qb,qc,qd,qe,qf,some ua,qg,qh,qi,qj]) κ:=by kernel_rfl
theorem T9:(evK Rs Γ C 38).s q5 (nth d5 3) [qa,qb,qc,qd,qe,qf,some ua,qg,some ub,some uc,qh] κ=bind (q9 (.tup [ub,ua])) λx1=>bind (j4 .NotEq x1 uc) λx2=>bind (asB x2) λz3=>if z3=true then (κ (.rt (.bl false))) else (κ (.nx [qa,qb,qc,qd,qe,qf,some ua,qg,some ub,some uc,qh])):=by kernel_rfl
theorem C6:j8=[nth j8 0]:=by kernel_rfl
theorem J3:(evK Rs Γ C 37).s q5 (nth j8 0) [qa,qb,qc,qd,qe,qf,qg,qh,some ua,qi,some ub] κ=bind (C 0 [ub,ua]) λx1=>bind (q9 x1) λx2=>bind (C 15 [ub,ua]) λx3=>bind (q9 x3) λx4=>bind (j4 .NotEq x2 x4) λx5=>bind (asB x5) λz6=>if z6=true then (κ (.rt (.bl false))) else (κ (.nx [qa,qb,qc,qd,qe,qf,qg,qh,some ua,qi,some ub])):=by kernel_rfl
end
end L3.K42
namespace L3.K42
open PySem PySem.Spec PyProof.Rows L2 L3.Rk
def C2 (b:List Int):D:=.tup (b.map D.int)
def k6 (r:List (List Int)):D:=.tup (r.map C2)
theorem az {n:Nat} (h:n<=600):n<sizeLine:=Dw h (by decide)
theorem lrg {m:Nat} (h:m<=6) (S:Sto):J6 (.int (m:Int)) S=.ok (.lst ((rgL m).map D.int)) S:=by
 show (if 0<=(m:Int)/\(m:Int)<100000 then ret (D.lst ((rgL (m:Int).toNat).map D.int)) else bad) S=_;rw [if_pos ⟨by omega,by omega⟩];rfl
theorem z5 {ns:List Int} {p N m:Nat} {S:Sto} (h:Ft ns p (N+1) S) (hm:0<m) (hm2:m<1000000) (k:Nat):Ok (rn (k+1) Y4 [.ref p,.int (m:Int)]) S λd S'=>∃ r:Nat,d=.int (r:Int)/\r<m/\Ft ns p N S'/\S'.length=S.length/\∀ q,q≠p->S'[q]?=S[q]?:=by
 rw [rn,d7 (fd:=iu) rfl,kl];exact jd h hm hm2
def Kp (p:Nat) (S S':Sto):Prop:=S'.length=S.length/\∀ q,q≠p->S'[q]?=S[q]?
theorem mN {ns:List Int} {p N m:Nat} {S:Sto} {ds:List D} (h:Ft ns p (N+1) S) (hm:0<m) (hl:ds.length=m) (hm2:m<1000000) (k:Nat):Ok (bind (rn (k+1) Y4 [.ref p,.int (m:Int)]) λi=>bind (ixD (.lst ds) i) ret) S λd S'=>d∈ds/\Ft ns p N S'/\Kp p S S':=by
 refine Ok.bind ((z5 h hm (by omega) k).mono ?_);rintro _ S1 ⟨r,rfl,hr,f1,l1,k1⟩;have hr':r<ds.length:=by omega
 exact Ok.eq (tu S1 (Ak hr')) (Ok.ret ⟨AU hr',f1,l1,k1⟩)
theorem W5 {S:Sto} {n:Nat} {ns:List Int} (e:S[n]?=some (.lst (ns.map D.int))) (h:ns.length<64):j5 (.ref n) S=.ok (.lst ((srt ns).map D.int)) S:=gf e h
theorem ng {r:List (List Int)} (hl:r.flatten.length<64) (hr:r.length<=60) (k:Nat) (S:Sto):Ok (rn (k+1) qS [k6 r]) S λd S'=>d=.lst ((srt r.flatten).map D.int)/\Ex S S':=by
 rw [rn,d7 (fd:=Ac) rfl,oq,qM];refine Ok.first<|Ok.cg (uZ ..)<|Ok.eq (show newL [] S=.ok (.ref S.length) (S++[.lst []]) from rfl)<|Ok.nxt<|Ok.cg (tS ..) ?_;unfold k6;refine Ok.eq (A2 _ _) ?_;rw [Aj];have at_:∀ x:O,(S++[x])[S.length]?=some x:=λx=>by rw [AL (Ap _)];simp
 refine Ok.bind ((Ok.for_ (n:=r.length) (λi ρ S'=>S'=S++[.lst ((r.take i).flatten.map D.int)]/\∃ o3:Option D,ρ=[some (.tup (r.map C2)),some (.ref S.length),o3]) (λ_ _=>False) (λ_ _=>False) ?_ ?_ r.length 0 _ (S++[.lst []]) (by omega) ⟨by simp,_,rfl⟩).mono ?_)
 ·intro ρ S' _;show some (r.map C2)[r.length]?=some none;rw [AJ (by simp)]
 ·rintro i ρ S' hi ⟨rfl,o3,rfl⟩;have eb:r[i]?=some r[i]:=Ak hi;have tk:(r.take (i+1)).flatten=(r.take i).flatten++r[i]:=by rw [AO hi,Cz];simp
  have ln:(r.take i).flatten.length+r[i].length<64:=by
   have:(r.take (i+1)).flatten.length<=r.flatten.length:=by
    conv=>rhs;rw [<- Cj (i+1) r,Cz,Av]
    omega
   rw [tk,Av] at this;omega
  refine ⟨C2 r[i],[some (.tup (r.map C2)),some (.ref S.length),some (C2 r[i])],by show some (r.map C2)[i]?=_;rw [j3 eb],rfl,?_⟩;unfold dj;rw [cA];refine Ok.first<|Ok.cg (iW ..)<|Ok.eq (U9 (at_ _)) ?_;unfold C2;refine Ok.eq (sy (at_ _) (by rw [Aj,Aj,AF];omega)) ?_;have es:(S++[O.lst ((r.take i).flatten.map D.int)]).set S.length (.lst ((r.take i).flatten.map D.int++r[i].map D.int))=S++[.lst ((r.take (i+1)).flatten.map D.int)]:=by
   rw [Bv _ _ (Ap _),tk,BB];simp
  rw [es];exact Ok.ret ⟨rfl,_,rfl⟩
 ·intro fl S' q;cases fl with
  | nx ρ=>
   rcases q with ⟨e,o3,rfl⟩ | q
   ·rw [Cs] at e;subst e;exact Ok.nxt<|Ok.cg (uD ..)<|Ok.eq (W5 (at_ _) hl) (Ok.ret ⟨rfl,_,rfl⟩)
   ·exact q.elim
  | rt d=>exact q.elim
  | bk ρ=>exact q.elim
  | ct ρ=>exact q.elim
theorem A7 {ns:List Int} {p N:Nat} {S:Sto} (h:Ft ns p N S):p<S.length:=by
 obtain ⟨a,l,t,e,_⟩:=h;exact (Au.mp e).1
theorem Y7:∀ {l:List Int} {j:Nat} (h:j<l.length),(l[j] :: l.eraseIdx j).Perm l
 | a :: l,0,_=>.refl _
 | a :: l,j+1,h=>by
  show (l[j]'(by simpa using h) :: a :: l.eraseIdx j).Perm (a :: l);exact (List.Perm.swap ..).trans ((Y7 (by simpa using h)).cons a)
theorem kJ {ns:List Int} {p N:Nat} {S:Sto} {hs:List Int} (h:Ft ns p (N+6) S) (hl:hs.length<=6) (k:Nat):Ok (rn (k+2) sL [.ref p,.lst (hs.map D.int)]) S λd S'=>∃ os:List Int,d=.lst (os.map D.int)/\os.Perm hs/\Ft ns p N S'/\Tk p S S':=by
 rw [rn,d7 (fd:=oR) rfl,pU];have hp:=A7 h;refine Ok.eq (show listP (.lst (hs.map D.int)) S=.ok (.ref S.length) (S++[.lst (hs.map D.int)]) from rfl)<|nx_bind<|Ok.eq (mo _ _) ?_;rw [Aj];refine Ok.eq (L6 (by omega) _) ?_;refine (Ok.comp (n:=hs.length) (λi S' es=>∃ os lf:List Int,es=os.map D.int/\os.length=i/\(os++lf).Perm hs/\Ft ns p (N+(6-i)) S'/\S'.length=S.length+1/\S'[S.length]?=some (.lst (lf.map D.int))/\∀ q,q<S.length->q≠p->S'[q]?=S[q]?) (λS' es _=>N5 _ S') ?_ ?_).mono ?_
 ·rintro i S' es hi ⟨os,lf,rfl,h1,h2,h5,h6,h7,h8⟩;have ln:=h2.length_eq;rw [Av] at ln;refine ⟨.int (i:Int),Z2 hi S',Ok.ret ?_⟩;rw [if_pos rfl];refine Ok.eq (U9 h7) (Ok.eq (qY h7) ?_);rw [Aj];refine Ok.bind ((z5 (m:=lf.length) (N:=N+(6-(i+1))) (h5.less (by omega)) (by omega) (by omega) k).mono ?_);rintro _ S1 ⟨r,rfl,hr,f1,l1,k1⟩;have hg:lf[r]?=some lf[r]:=Ak hr;have e7:S1[S.length]?=some (.lst (lf.map D.int)):=by rw [k1 _ (by omega)];exact h7
  refine Ok.eq (mn e7 (j3 hg) (by omega)) (Ok.ret ?_);refine ⟨?_,os++[lf[r]],lf.eraseIdx r,by simp,by simp [h1],?_,?_,by simp [l1,h6],?_,?_⟩
  ·rw [Aj,h1];exact az (by omega)
  ·refine List.Perm.trans ?_ h2;rw [BN];refine List.Perm.append_left os ?_;exact Y7 hr
  ·refine f1.keep ?_;rw [Bb (by omega)]
  ·rw [AW (by omega),L4]
  ·intro q hq hqp;rw [Bb (by omega),k1 q hqp,h8 q hq hqp]
 ·refine ⟨[],hs,rfl,rfl,by simp,(h.less (by omega)).keep (by rw [AC hp]),by simp,by rw [AL (Ap _)];simp,λq hq _=>by rw [AC hq]⟩
 ·rintro es S' ⟨os,lf,rfl,h1,h2,h5,h6,h7,h8⟩;have ln:=h2.length_eq;rw [Av] at ln;have:lf=[]:=BY.mp (by omega);subst this;rw [Bj] at h2;exact Ok.ret ⟨os,rfl,h2,h5.less (by omega),by omega,h8⟩
def gl (g:Nat) (bl:List (List Int)):O:=.lst ((List.range bl.length).map λj=>D.ref (g+1+j))
def bs (bl:List (List Int)):Sto:=bl.map λb=>O.lst (b.map D.int)
def Gs (T U:Sto) (bl:List (List Int)):Sto:=T++gl (T.length+U.length) bl :: (U++bs bl)
theorem jz (T U:Sto) (bl:List (List Int)):(Gs T U bl)[T.length]?=some (gl (T.length+U.length) bl):=by
 unfold Gs;rw [AL (Ap _)];simp
theorem oW {T U:Sto} {bl:List (List Int)} {j:Nat} {b:List Int} (h:bl[j]?=some b):(Gs T U bl)[T.length+U.length+1+j]?=some (.lst (b.map D.int)):=by
 unfold Gs bs;rw [AL (by omega),show T.length+U.length+1+j-T.length=(U.length+j)+1 by omega,List.getElem?_cons_succ,AL (by omega),show U.length+j-U.length=j by omega,j3 h]
theorem cb (T U:Sto) (bl:List (List Int)):(Gs T U bl).length=T.length+U.length+1+bl.length:=by
 unfold Gs bs;rw [Av,BE,Av,Aj];omega
theorem nj {T U:Sto} {bl:List (List Int)} {q:Nat} (h:q<T.length):(Gs T U bl)[q]?=T[q]?:=by
 unfold Gs;rw [AC h]
theorem pC (T U:Sto) (bl:List (List Int)):(Gs T U bl++[O.lst []]).set T.length (.lst ((List.range bl.length).map (λj=>D.ref (T.length+U.length+1+j))++[.ref (Gs T U bl).length]))=Gs T U (bl++[[]]):=by
 rw [cb];unfold Gs gl bs;rw [BN,Bv _ _ (Ap _)];simp [DZ]
theorem ni (T U:Sto) (bl:List (List Int)) (b:List Int) (h:Int):(Gs T U (bl++[b])).set (T.length+U.length+1+bl.length) (.lst (b.map D.int++[.int h]))=Gs T U (bl++[b++[h]]):=by
 unfold Gs gl bs;rw [Bv _ _ (by omega)];rw [show T.length+U.length+1+bl.length-T.length=(U.length+bl.length)+1 by omega,List.set_cons_succ,Bv _ _ (by omega)];simp [show U.length+bl.length-U.length=bl.length by omega,Bv]
theorem im (n:Nat) {S:Sto} {k:Nat} {ds:List D} (e:S[k]?=some (.lst ds)):c9 (n+1) S (.ref k)=(d8 (c9 n S) ds).map .list:=by simp only [c9,e]
def pL (b:List Int):PyData:=.list (b.map .int)
theorem O3 {α β γ:Type} {f:β->Option γ} {g:α->β} {q:α->γ}:∀ {l:List α},(∀ a∈l,f (g a)=some (q a))->d8 f (l.map g)=some (l.map q)
 | [],_=>rfl
 | a :: l,h=>by simp only [AQ,d8,h a (Ay ..),O3 λb hb=>h b (Aw _ hb)]
theorem N8 {α:Type} {q:α->PyData}:∀ {l:List α},(∀ a∈l,(q a).canLay0=true)->PyData.canLayAll0 (l.map q)=true
 | [],_=>rfl
 | a :: l,h=>by simp only [AQ,PyData.canLayAll0,h a (Ay ..),N8 λb hb=>h b (Aw _ hb),Eh]
theorem sE (T U:Sto) (bl:List (List Int)):j4 .Eq (.ref T.length) (.lst []) (Gs T U bl)=.ok (.bl bl.isEmpty) (Gs T U bl):=by
 show eqP false (.ref T.length) (.lst []) (Gs T U bl)=_;have m:d8 (c9 63 (Gs T U bl)) ((List.range bl.length).map λj=>D.ref (T.length+U.length+1+j))=some ((List.range bl.length).map λj=>pL (bl.getD j [])):=by
  refine O3 λj hj=>?_;have hj:j<bl.length:=Bd.mp hj;have e:=oW (T:=T) (U:=U) (Ak hj);rw [im 62 e,B9 61];have:bl.getD j []=bl[j]:=by simp [hj]
  rw [this];rfl
 have e:c9 64 (Gs T U bl) (.ref T.length)=some (.list ((List.range bl.length).map λj=>pL (bl.getD j []))):=by
  rw [im 63 (jz T U bl),m];rfl
 unfold eqP;rw [e];show (if PyData.canLay0 (.list ((List.range bl.length).map λj=>pL (bl.getD j [])))=true/\PyData.canLay0 (.list [])=true/\min (PyData.depth (.list ((List.range bl.length).map λj=>pL (bl.getD j [])))) (PyData.depth (.list []))<=60 then ret (D.bl (PyData.eqv (.list ((List.range bl.length).map λj=>pL (bl.getD j []))) (.list []))) else bad) (Gs T U bl)=_;have hd:PyData.depth (.list [])<=60:=by simp [PyData.depth,PyData.depthAll]
 rw [if_pos ⟨by simp only [PyData.canLay0];exact N8 λj _=>by unfold pL;simp only [PyData.canLay0];exact K3 _,rfl,by omega⟩];cases bl with
 | nil=>rfl
 | cons b bl=>
  show R.ok (D.bl (PyData.eqv (.list ((List.range (bl.length+1)).map λj=>pL ((b :: bl).getD j []))) (.list []))) _=_;rw [List.range_succ_eq_map];rfl
theorem mi {S:Sto} {n:Nat} {ds:List D} {d:D} (e:S[n]?=some (.lst ds)) (h:ds.getLast?=some d):ixD (.ref n) (.int (-1)) S=.ok d S:=by
 have:=eI S h;have a:atI ds (-1)=some d:=by
  cases q:atI ds (-1) with
  | none=>
   have t:ixD (.tup ds) (.int (-1)) S=P2 (atI ds (-1)) S:=rfl;rw [t,q] at this;cases this
  | some x=>
   have t:ixD (.tup ds) (.int (-1)) S=P2 (atI ds (-1)) S:=rfl;rw [t,q] at this;cases this;rfl
 simp only [ixD,e,a];rfl
theorem nQ (T U:Sto) (bl:List (List Int)) (hb:bl.length<=60) {β:Type} (κ:M β):bind (lstOf (.ref T.length)) (λ_=>bind (newL []) λe=>bind (K0 (.ref T.length) [e]) λ_=>κ) (Gs T U bl)=κ (Gs T U (bl++[[]])):=by
 have e:=jz T U bl;have nw:newL [] (Gs T U bl)=.ok (.ref (Gs T U bl).length) (Gs T U bl++[.lst []]):=rfl;have e2:(Gs T U bl++[O.lst []])[T.length]?=some (gl (T.length+U.length) bl):=by rw [AC (by rw [cb];omega)];exact e
 rw [a8 (U9 e),a8 nw,a8 (gU e2 (by rw [Aj,AN];exact az (by omega))),pC]
theorem X6:∀ bl:List (List Int),((bl.map srt).flatten).Perm bl.flatten
 | []=>.refl _
 | b :: bl=>by
  rw [AQ,Br,Br];exact (b7 b).append (X6 bl)
theorem bc {ns:List Int} {p N m:Nat} {T U:Sto} {bl:List (List Int)} (h:Ft ns p (N+1) T) (hm:0<m) (hm2:m<1000000) (k:Nat):Ok (rn (k+1) Y4 [.ref p,.int (m:Int)]) (Gs T U bl) λd S'=>∃ (r:Nat) (T':Sto),d=.int (r:Int)/\r<m/\S'=Gs T' U bl/\T'.length=T.length/\Ft ns p N T'/\∀ q,q≠p->T'[q]?=T[q]?:=by
 have h1:Ft ns p (N+1) (Gs T U bl):=h.keep (nj (A7 h));refine (z5 h1 hm hm2 k).mono ?_;rintro _ S' ⟨r,rfl,hr,f,l,kq⟩;obtain ⟨T',e,l',k',kp⟩:=ck (T:=T) (R:=gl (T.length+U.length) bl :: (U++bs bl)) (A7 h) l kq;refine ⟨r,T',rfl,hr,?_,l',f.keep kp,k'⟩;rw [e];unfold Gs;rw [l']
structure SR (qs:List Int) (m:Nat) (r:List (List Int)):Prop where
 fl:r.flatten.length=m
 le:r.length<=m
 mem:∀ x∈r.flatten,x∈qs
 nd:qs.Nodup->r.flatten.Nodup
theorem X3 {ns:List Int} {p N m:Nat} {S:Sto} {hs qs:List Int} (h:Ft ns p (N+7) S) (hl:qs.length<=6) (hm:m<=qs.length) (k:Nat):Ok (nxt (evK Rs Γ (rn (k+2)) 40) D5 [nth Aa.body 3,nth Aa.body 4,nth Aa.body 5,nth Aa.body 6] endD (.nx [some (.ref p),some (.lst (hs.map D.int)),some (.lst (qs.map D.int)),some (.int (m:Int)),none,none,none])) S λd S'=>∃ r:List (List Int),d=k6 r/\SR qs m r/\Ft ns p N S'/\Tk p S S':=by
 have hp:=A7 h;refine Ok.nxt<|Ok.cg (tv ..)<|Ok.eq (show newL [] S=.ok (.ref S.length) (Gs S [] []) from rfl) ?_;refine Ok.nxt<|Ok.cg (tj ..)<|Ok.bind ((bc (N:=N+6) (m:=2) h (by omega) (by omega) (k+1)).mono ?_);rintro _ _ ⟨w,T,rfl,hw,rfl,lT,FT,kT0⟩;have kT:∀ q,q<S.length->q≠p->T[q]?=S[q]?:=λq _ hq=>kT0 q hq;generalize hU:([]:Sto)=U;have os_:∃ os,os=qs.take m:=⟨_,rfl⟩;obtain ⟨os,eo⟩:=os_;have lo:os.length=m:=by rw [eo,Bf];omega
 refine Ok.eq (Y2 2 w _)<|Ok.nxt<|Ok.cg (uV ..)<|Ok.eq (show br (.int (m:Int)) _=.ok (some (m:Int)) _ from rfl)<|Ok.eq (show slD (.lst (qs.map D.int)) none (some (m:Int)) (Gs T U [])=.ok (.lst (os.map D.int)) (Gs T U []) by
  show L3.R.ok (D.lst (B0 (qs.map D.int) none (some (m:Int)))) _=_;rw [ii (by rw [Aj];exact hm),<- Ei,eo]) ?_
 refine Ok.eq (show u8 (.lst (os.map D.int)) (Gs T U [])=.ok (v1 (os.map D.int),(os.map D.int).length+1) (Gs T U []) from rfl) ?_;rw [Aj,lo,<- lT];refine Ok.bind ((Ok.for_ (n:=m) (λi ρ S'=>∃ (T':Sto) (bl:List (List Int)) (o:Option D),ρ=[some (.ref p),some (.lst (hs.map D.int)),some (.lst (qs.map D.int)),some (.int (m:Int)),some (.ref T.length),some (.int ((2+w:Nat):Int)),o]/\S'=Gs T' U bl/\T'.length=T.length/\bl.flatten=os.take i/\(∀ b∈bl,b≠[])/\bl.length<=i/\Ft ns p (N+(6-i)) T'/\∀ q,q≠p->T'[q]?=T[q]?) (λ_ _=>False) (λ_ _=>False) ?_ ?_ m 0 _ _ (by omega) ⟨T,[],none,rfl,rfl,rfl,by simp,by simp,by simp,FT,λ_ _=>rfl⟩).mono ?_)
 ·intro ρ S' _;show some (os.map D.int)[m]?=some none;rw [AJ (by rw [Aj,lo];exact Ap _)]
 ·rintro i ρ S' hi ⟨T',bl,o,rfl,rfl,lT',fl,ne,bi,fT',kT'⟩;have hi':i<os.length:=by rw [lo];exact hi
  have tk:os.take (i+1)=os.take i++[os[i]]:=AO hi';refine ⟨.int os[i],_,by show some (os.map D.int)[i]?=_;rw [j3 (Ak hi')],rfl,?_⟩;unfold dw;rw [bn];have fin:∀ (T2:Sto) (b2:List (List Int)) (b:List Int),T2.length=T.length->(b2++[b]).flatten=os.take i->(∀ b∈b2,b≠[])->(b2++[b]).length<=i+1->Ft ns p (N+(6-(i+1))) T2->(∀ q,q≠p->T2[q]?=T[q]?)->Ok (nxt (evK Rs Γ (λi ds=>rn (k+2) i ds) 39) D5 [nth z9 1] ret (.nx [some (.ref p),some (.lst (hs.map D.int)),some (.lst (qs.map D.int)),some (.int (m:Int)),some (.ref T.length),some (.int ((2+w:Nat):Int)),some (.int os[i])])) (Gs T2 U (b2++[b])) (FlI (λρ S'=>∃ (T':Sto) (bl:List (List Int)) (o:Option D),ρ=[some (.ref p),some (.lst (hs.map D.int)),some (.lst (qs.map D.int)),some (.int (m:Int)),some (.ref T.length),some (.int ((2+w:Nat):Int)),o]/\S'=Gs T' U bl/\T'.length=T.length/\bl.flatten=os.take (i+1)/\(∀ b∈bl,b≠[])/\bl.length<=i+1/\Ft ns p (N+(6-(i+1))) T'/\∀ q,q≠p->T'[q]?=T[q]?) (λ_ _=>False) (λ_ _=>False)):=λT2 b2 b l2 f2 n2 c2 d2 q2=>by
   have hb:b.length<=60:=by
    have:=congrArg List.length f2;rw [Cz,Av,Bf] at this;simp at this;omega
   have e:=jz T2 U (b2++[b]);have eb:=oW (T:=T2) (U:=U) (bl:=b2++[b]) (j:=b2.length) (b:=b) (by simp);rw [<- l2];refine Ok.nxt<|Ok.cg (iG ..)<|Ok.eq (a:=.int (-1)) (S1:=Gs T2 U (b2++[b])) (by kernel_rfl)<|Ok.eq (mi (d:=.ref (T2.length+U.length+1+b2.length)) e (by rw [Av];simp [DZ]))<|Ok.eq (U9 eb)<|Ok.eq (gU eb (by rw [Aj];exact az (by omega))) ?_;rw [ni];refine Ok.ret ⟨T2,b2++[b++[os[i]]],_,rfl,rfl,rfl,?_,?_,?_,d2,q2⟩
   ·rw [tk,<- f2];simp
   ·intro c hc;rcases BI.mp hc with z | z
    ·exact n2 c z
    ·rw [AX.mp z];simp
   ·simpa using c2
  have fresh:∀ (T2:Sto),T2.length=T.length->Ft ns p (N+(6-(i+1))) T2->(∀ q,q≠p->T2[q]?=T[q]?)->Ok (bind (lstOf (.ref T.length)) λ_=>bind (newL []) λe=>bind (K0 (.ref T.length) [e]) λ_=>(nxt (evK Rs Γ (λi ds=>rn (k+2) i ds) 39) D5 [nth z9 1] ret (.nx [some (.ref p),some (.lst (hs.map D.int)),some (.lst (qs.map D.int)),some (.int (m:Int)),some (.ref T.length),some (.int ((2+w:Nat):Int)),some (.int os[i])]))) (Gs T2 U bl) (FlI (λρ S'=>∃ (T':Sto) (bl:List (List Int)) (o:Option D),ρ=[some (.ref p),some (.lst (hs.map D.int)),some (.lst (qs.map D.int)),some (.int (m:Int)),some (.ref T.length),some (.int ((2+w:Nat):Int)),o]/\S'=Gs T' U bl/\T'.length=T.length/\bl.flatten=os.take (i+1)/\(∀ b∈bl,b≠[])/\bl.length<=i+1/\Ft ns p (N+(6-(i+1))) T'/\∀ q,q≠p->T'[q]?=T[q]?) (λ_ _=>False) (λ_ _=>False)):=λT2 l2 d2 q2=>by
   have e:=λκ:M Fl=>nQ T2 U bl (by omega) κ;rw [l2] at e;refine Ok.cgS (m':=λ_=>(nxt (evK Rs Γ (λi ds=>rn (k+2) i ds) 39) D5 [nth z9 1] ret (.nx [some (.ref p),some (.lst (hs.map D.int)),some (.lst (qs.map D.int)),some (.int (m:Int)),some (.ref T.length),some (.int ((2+w:Nat):Int)),some (.int os[i])])) (Gs T2 U (bl++[[]]))) (e _) ?_;exact fin T2 bl [] l2 (by simp [fl]) ne (by simpa using bi) d2 q2
  have eq:=sE T' U bl;rw [lT'] at eq;refine Ok.first<|Ok.cg (ie ..)<|Ok.eq eq<|Ok.eq (W8 _ _) ?_;cases hb:bl with
  | nil=>
   rw [show List.isEmpty ([]:List (List Int))=true from rfl,if_pos rfl];rw [hb] at fresh;exact fresh T' lT' (fT'.less (by omega)) kT'
  | cons b0 bt=>
   rw [show List.isEmpty (b0 :: bt)=false from rfl,if_neg At];rw [<- hb];refine Ok.bind ((bc (N:=N+(6-(i+1))) (m:=2+w) (fT'.less (by omega)) (by omega) (by omega) (k+1)).mono ?_);rintro _ _ ⟨c,T2,rfl,hc,rfl,l2,f2,k2⟩;have l3:T2.length=T.length:=by rw [l2,lT']
   have k3:∀ q,q≠p->T2[q]?=T[q]?:=λq hq=>by rw [k2 q hq,kT' q hq]
   refine Ok.eq (nA _ _ _)<|Ok.eq (W8 _ _) ?_;by_cases hz:(c:Int)=0
   ·rw [By hz,if_pos rfl];exact fresh T2 l3 f2 k3
   ·rw [AV hz,if_neg At];have hne:bl≠[]:=by rw [hb];exact List.cons_ne_nil _ _
    have e2:bl=bl.dropLast++[bl.getLast hne]:=(List.dropLast_concat_getLast hne).symm;have:=fin T2 bl.dropLast (bl.getLast hne) l3 (by rw [<- e2];exact fl) (λb hb=>ne b (List.dropLast_subset _ hb)) (by rw [<- e2];omega) f2 k3;rw [<- e2] at this;exact this
 ·intro fl S' q;cases fl with
  | rt d=>exact q.elim
  | bk ρ=>exact q.elim
  | ct ρ=>exact q.elim
  | nx ρ=>
   rcases q with ⟨T',bl,o,rfl,rfl,lT',fl,ne,bi,fT',kT'⟩ | q
   ·rw [<- lT'];have eg:=jz T' U bl;rw [<- lo,Cs] at fl;refine Ok.nxt<|Ok.cg (tq ..)<|nx_bind<|Ok.eq (show u8 (.ref T'.length) (Gs T' U bl)=.ok (fj T'.length,bl.length+1) (Gs T' U bl) by
     simp only [u8,eg,gl,Aj,AN]) ?_
    have fll:bl.flatten.length=m:=by rw [fl,lo]
    have c:=i9 (src:=fj T'.length) (l:=List.range bl.length) (h:=λj=>D.ref (T'.length+U.length+1+j)) (g:=λj=>C2 (srt (bl.getD j []))) (p:=λ_=>true) (t:=λ_=>ret true) (f:=λd=>bind (j5 d) λl=>bind (v2 l) λx=>ret x) (S:=Gs T' U bl) (λi=>by rw [rN eg]) (by rw [AN];exact az (by omega)) (λ_ _=>rfl) (λj hj _=>by
     have hj:j<bl.length:=Bd.mp hj;have eb:=oW (T:=T') (U:=U) (Ak hj);have lb:bl[j].length<64:=by
      have:bl[j].length<=bl.flatten.length:=(List.sublist_flatten_of_mem (AU hj)).length_le;omega
     have eg:bl.getD j []=bl[j]:=by simp [hj]
     rw [a8 (W5 eb lb),eg];rfl)
    rw [AN] at c;refine Ok.of c<|Ok.eq (a:=.tup _) rfl<|Ok.ret ⟨bl.map srt,?_,⟨?_,?_,?_,λnd=>(X6 bl).nodup_iff.mpr (by rw [fl,eo];exact nd.sublist (DD ..))⟩,(fT'.less (by omega)).keep (nj (A7 fT')),?_,?_⟩
    ·unfold k6;rw [DT];congr 1;rw [Dp.mpr (λ_ _=>rfl)];apply DF;intro i;simp only [AH];by_cases hi:i<bl.length
     ·rw [List.getElem?_range hi,Ak hi];simp [hi]
     ·rw [AJ (by simpa using hi),AJ (by simpa using hi)];rfl
    ·rw [(X6 bl).length_eq,fll]
    ·rw [Aj];exact bi
    ·intro x hx;have hx:=(X6 bl).mem_iff.mp hx;rw [fl,eo] at hx;exact List.mem_of_mem_take hx
    ·rw [cb];omega
    ·intro q hq hqp;rw [nj (by omega),kT' q hqp,kT q hq hqp]
   ·exact q.elim
theorem aI (m:Nat):(rgL m).length=m:=by unfold rgL;rw [Aj,AN]
theorem sZ (m:Nat):(rgL m).Nodup:=by
 unfold rgL;rw [Bs,CP];exact List.nodup_range.imp λh z=>h (Int.ofNat.inj z)
theorem SR.mono {qs hs:List Int} {m:Nat} {r:List (List Int)} (h:SR qs m r) (s:qs.Perm hs):SR hs m r:=⟨h.fl,h.le,λx hx=>s.mem_iff.mp (h.mem x hx),λnd=>h.nd (s.nodup_iff.mpr nd)⟩
theorem iY {ns:List Int} {p N:Nat} {S:Sto} {hs:List Int} (h:Ft ns p (N+16) S) (hl:hs.length<=6) (h0:0<hs.length) (k:Nat):Ok (rn (k+3) tF [.ref p,.lst (hs.map D.int)]) S λd S'=>∃ (m:Nat) (r:List (List Int)),d=k6 r/\SR hs m r/\0<m/\m<=6/\Ft ns p N S'/\Tk p S S':=by
 rw [rn,d7 (fd:=Aa) rfl,nW,oF];refine Ok.first<|Ok.cg (uE ..)<|Ok.bind ((kJ (N:=N+10) (h.less (by omega)) hl k).mono ?_);rintro _ S1 ⟨os,rfl,po,f1,t1⟩;have lo:=po.length_eq;refine Ok.nxt<|Ok.cg (td ..)<|Ok.eq (E4 _ _)<|Ok.nxt<|Ok.cg (uR ..)<|Ok.bind ((z5 (N:=N+9) (m:=2) f1 (by omega) (by omega) (k+1)).mono ?_);rintro _ S2 ⟨c,rfl,hc,f2,l2,k2⟩;have t2:Tk p S S2:=t1.trans ⟨by omega,λq _ hq=>k2 q hq⟩;refine Ok.eq (nA _ _ S2)<|Ok.eq (W8 _ _) ?_;by_cases hz:(c:Int)=0
 ·refine Ok.pos (By hz)<|Ok.eq (E4 _ _)<|Ok.bind ((z5 (N:=N+8) (m:=os.length) f2 (by omega) (by omega) (k+1)).mono ?_);rintro _ S3 ⟨e,rfl,he,f3,l3,k3⟩;have t3:Tk p S S3:=t2.trans ⟨by omega,λq _ hq=>k3 q hq⟩;refine Ok.eq (Y2 1 e S3) ?_;refine (X3 (hs:=hs) (N:=N) (m:=1+e) (f3.less (by omega)) (by omega) (by omega) k).mono ?_;rintro _ S4 ⟨r,rfl,R,f4,t4⟩;exact ⟨1+e,r,rfl,R.mono po,by omega,by omega,f4,t3.trans t4⟩
 ·refine Ok.neg (by rw [AV hz];exact At) ?_;refine (X3 (hs:=hs) (N:=N) (m:=os.length) (f2.less (by omega)) (by omega) (by omega) k).mono ?_;rintro _ S4 ⟨r,rfl,R,f4,t4⟩;exact ⟨os.length,r,rfl,R.mono po,by omega,by omega,f4,t2.trans t4⟩
structure RS (m:Nat) (r:List (List Int)):Prop where
 fl:r.flatten.length<=6
 le:r.length<=6
 bd:∀ x∈r.flatten,x∈rgL m
def Ch (m:Nat):List (List (List Int))->Prop
 | []=>True
 | [r]=>r.flatten.Nodup/\∀ x∈r.flatten,x∈rgL m
 | r :: q :: rs=>(r.flatten.Nodup/\∀ x∈r.flatten,x∈q.flatten)/\Ch m (q :: rs)
def v8 (rs:List (List (List Int))):D:=.tup (rs.map k6)
theorem eu {ns:List Int} {p N m:Nat} {S:Sto} {t:Nat} (h:Ft ns p (N+65) S) (h0:0<m) (m6:m<=6) (t0:0<t) (t4:t<=4) (k:Nat):Ok (rn (k+4) rT [.ref p,.int (m:Int),.int (t:Int)]) S λd S'=>∃ rs:List (List (List Int)),d=v8 rs/\0<rs.length/\rs.length<=4/\(∀ r∈rs,RS m r)/\Ch m rs.reverse/\Ft ns p N S':=by
 rw [rn,d7 (fd:=Ab) rfl,pF,pZ];have hp:=A7 h;refine Ok.first<|Ok.cg (tY ..)<|Ok.eq (lrg m6 S)<|Ok.nxt<|Ok.cg (tX ..)<|Ok.eq (show newL [] S=.ok (.ref S.length) (S++[.lst []]) from rfl) ?_;have F0:Ft ns p (N+65) (S++[.lst []]):=h.keep (by rw [AC hp]);refine Ok.nxt<|Ok.cg (vH ..)<|Ok.bind ((z5 (N:=N+64) (m:=t) F0 t0 (by omega) (k+2)).mono ?_);rintro _ S1 ⟨c,rfl,hc,F1,l1,k1⟩;have e1:S1[S.length]?=some (.lst []):=by rw [k1 _ (by omega)];simp
 refine Ok.eq (Y2 1 c S1)<|Ok.eq (L6 (n:=1+c) (by omega) S1)<|Ok.bind ((Ok.for_ (n:=1+c) (λi ρ S'=>∃ (rs:List (List (List Int))) (hs:List Int) (o:Option D),rs.length=i/\(∀ r∈rs,RS m r)/\Ch m rs.reverse/\hs.Nodup/\(∀ x∈hs,match rs.reverse with | []=>x∈rgL m | q :: _=>x∈q.flatten)/\0<hs.length/\hs.length<=6/\(∀ x∈hs,x∈rgL m)/\Ft ns p (N+16 * (4-i)) S'/\S'[S.length]?=some (.lst (rs.map k6))/\ρ=[some (.ref p),some (.int (m:Int)),some (.int (t:Int)),some (.lst (hs.map D.int)),some (.ref S.length),o]) (λ_ _=>False) (λ_ _=>False) (λρ S' _=>N5 _ S') ?_ (1+c) 0 _ _ (by omega) ⟨[],rgL m,_,rfl,by simp,trivial,sZ m,λx hx=>hx,by rw [aI];exact h0,by rw [aI];exact m6,λx hx=>hx,F1.less (by omega),e1,rfl⟩).mono ?_)
 ·rintro i ρ S' hi ⟨rs,hs,o,rl,rg,ch,hnd,hin,hs0,hs6,hsm,F,eq,rfl⟩;have lt:=(Au.mp eq).1;refine ⟨.int (i:Int),_,Z2 hi S',rfl,?_⟩;unfold dk;rw [cV];refine Ok.first<|Ok.cg (gM ..)<|Ok.eq (U9 eq)<|Ok.bind ((iY (N:=N+16 * (4-(i+1))) (F.less (by omega)) hs6 hs0 k).mono ?_);rintro _ S2 ⟨z,r,rfl,R,z0,z6,F2,t2⟩;have eq2:S2[S.length]?=some (.lst (rs.map k6)):=by rw [t2.2 _ lt (by omega)];exact eq
  have lt2:=(Au.mp eq2).1;refine Ok.eq (gU eq2 (by rw [Aj];exact az (by omega))) ?_;have eq3:(S2.set S.length (.lst (rs.map k6++[k6 r])))[S.length]?=some (.lst (rs.map k6++[k6 r])):=by rw [AW lt2]
  refine Ok.nxt<|Ok.cg (ik ..)<|Ok.eq (a:=.int (-1)) (S1:=S2.set S.length (.lst (rs.map k6++[k6 r]))) rfl<|Ok.eq (mi eq3 (by simp))<|Ok.bind ((ng (r:=r) (by have:=R.fl;omega) (by have:=R.le;omega) (k+2) _).mono ?_);rintro _ S3 ⟨rfl,hx⟩;have F2':Ft ns p (N+16 * (4-(i+1))) (S2.set S.length (.lst (rs.map k6++[k6 r]))):=F2.keep (by rw [Bb (by omega)]);have rin:∀ x∈r.flatten,x∈rgL m:=λx hx=>hsm x (R.mem x hx);refine Ok.ret ⟨rs++[r],srt r.flatten,_,by rw [Av,rl];rfl,λq hq=>?_,?_,(b7 _).nodup_iff.mpr (R.nd hnd),?_,?_,?_,λx hx=>rin x ((b7 _).mem_iff.mp hx),F2'.keep (hx.at (A7 F2')),?_,rfl⟩
  ·rcases BI.mp hq with w | w
   ·exact rg q w
   ·rw [AX.mp w];exact ⟨by have:=R.fl;omega,by have:=R.le;omega,rin⟩
  ·rw [List.reverse_append];show Ch m (r :: rs.reverse);cases e:rs.reverse with
   | nil=>exact ⟨R.nd hnd,rin⟩
   | cons q qs=>
    rw [e] at hin ch;exact ⟨⟨R.nd hnd,λx hx=>hin x (R.mem x hx)⟩,ch⟩
  ·intro x hx;rw [List.reverse_append];exact (b7 _).mem_iff.mp hx
  ·rw [(b7 _).length_eq,R.fl];exact z0
  ·rw [(b7 _).length_eq,R.fl];exact z6
  ·rw [hx.at (Au.mp eq3).1,eq3,BB];rfl
 ·rintro fl S2 hf;cases fl with
  | rt d=>exact hf.elim
  | bk ρ=>exact hf.elim
  | ct ρ=>exact hf.elim
  | nx ρ=>
   rcases hf with ⟨rs,hs,o,rl,rg,ch,hnd,hin,hs0,hs6,hsm,F,eq,rfl⟩ | hf
   ·exact Ok.nxt<|Ok.cg (vG ..)<|Ok.eq (rq eq)<|Ok.ret ⟨rs,rfl,by omega,by omega,rg,ch,F.less (by omega)⟩
   ·exact hf.elim
def sizes:List (Nat×Nat):=[(6,1),(6,2),(4,3),(3,4),(2,4),(5,2),(1,4),(4,2),(5,3)]
theorem iK (C:Cf) (p:D):runK Rs Γ C qJ [p]=bind (C Y4 [p,.int 9]) λi=>bind (ixD (.lst (sizes.map λab=>.tup [.int (ab.1:Int),.int (ab.2:Int)])) i) ret:=by kernel_rfl
theorem fS:∀ ab∈sizes,0<ab.1/\ab.1<=6/\0<ab.2/\ab.2<=4:=by decide
theorem mD {ns:List Int} {p N:Nat} {S:Sto} (h:Ft ns p (N+1) S) (k:Nat):Ok (rn (k+2) qV [.ref p]) S λd S'=>∃ m t:Nat,d=.tup [.int (m:Int),.int (t:Int)]/\0<m/\m<=6/\0<t/\t<=4/\Ft ns p N S':=by
 rw [rn,d7 (fd:=qJ) rfl,iK];refine (mN (m:=9) h (by omega) rfl (by omega) k).mono ?_;rintro d S' ⟨hd,f,g⟩;obtain ⟨ab,hab,rfl⟩:=Cr.mp hd;obtain ⟨a,b,c,e⟩:=fS ab hab;exact ⟨ab.1,ab.2,rfl,a,b,c,e,f⟩
abbrev Rnd:=List (List Int)
def atH (r:Rnd) (h:Int):Nat:=(r.findIdx? λb=>decide (h∈b)).getD 0
def sn (r:Rnd) (h:Int):List Int:=srt ((r.take (atH r h+1)).flatten)
def vw:List Rnd->Int->D
 | [],h=>.tup [.int h,.tup []]
 | r :: rs,h=>.tup [.int h,.tup ((sn r h).map (vw rs))]
def hin:List Rnd->Int->List Int
 | [],h=>[h]
 | r :: rs,h=>h :: (sn r h).flatMap (hin rs)
abbrev gr (gs:List Int) (h:Int):Int:=gs.getD h.toNat 0
def plc (gs:List Int) (f:Int->Nat):List Rnd->Int->D
 | [],h=>.tup [.int (f h:Int),.tup []]
 | r :: rs,h=>.tup [.int (f h:Int),.tup (e6 .non (sPl ((sn r h).map (gr gs))) ((sn r h).map (plc gs f rs)))]
def Wv (m:Nat):List Rnd->Int->Prop
 | [],h=>h∈rgL m
 | r :: rs,h=>h∈r.flatten/\(∀ x∈r.flatten,Wv m rs x)/\r.flatten.Nodup/\r.flatten.length<=6/\r.length<=6
theorem nC {m:Nat}:∀ {rs:List Rnd} {h:Int},Ch m rs->(∀ r∈rs,RS m r)->(match rs with | []=>h∈rgL m | r :: _=>h∈r.flatten)->Wv m rs h
 | [],h,_,_,hh=>hh
 | [r],h,c,g,hh=>⟨hh,λx hx=>c.2 x hx,c.1,(g r (by simp)).fl,(g r (by simp)).le⟩
 | r :: q :: rs,h,c,g,hh=>⟨hh,λx hx=>nC (rs:=q :: rs) c.2 (λa ha=>g a (Aw _ ha)) (c.1.2 x hx),c.1.1,(g r (by simp)).fl,(g r (by simp)).le⟩
theorem qQ {r:Rnd} {h:Int} (hh:h∈r.flatten):∃ j,r.findIdx? (λb=>decide (h∈b))=some j/\atH r h=j/\j<r.length:=by
 obtain ⟨b,hb,hx⟩:=DS.mp hh;cases e:r.findIdx? (λb=>decide (h∈b)) with
 | none=>
  rw [DC] at e;have:=e b hb;simp [hx] at this
 | some j=>
  refine ⟨j,rfl,by unfold atH;rw [e];rfl,?_⟩;exact (Be.mp e).1
theorem B1 {r:Rnd} {h x:Int} (hx:x∈sn r h):x∈r.flatten:=by
 have hx:=(b7 _).mem_iff.mp hx;obtain ⟨b,hb,hq⟩:=DS.mp hx;exact DS.mpr ⟨b,List.mem_of_mem_take hb,hq⟩
theorem bp (r:Rnd) (n:Nat):(r.take n).flatten.Sublist r.flatten:=by
 conv=>rhs;rw [<- Cj n r,Cz]
 exact List.sublist_append_left ..
theorem qZ {r:Rnd} {h:Int} (nd:r.flatten.Nodup):(sn r h).Nodup:=(b7 _).nodup_iff.mpr (nd.sublist (bp r _))
theorem D6 (r:Rnd) (h:Int):(sn r h).length<=r.flatten.length:=by
 unfold sn;rw [(b7 _).length_eq];exact (bp r _).length_le
theorem L7 {m:Nat}:∀ {rs:List Rnd} {h:Int},Wv m rs h->∀ x∈hin rs h,x∈rgL m
 | [],h,w,x,hx=>by rw [AX.mp hx];exact w
 | r :: rs,h,w,x,hx=>by
  rcases AA.mp hx with rfl | hx
  ·exact L7 (w.2.1 x w.1) x (by cases rs <;> simp [hin])
  ·obtain ⟨c,hc,hx⟩:=Ct.mp hx;exact L7 (w.2.1 c (B1 hc)) x hx
def few:Nat->Nat
 | 0=>1
 | t+1=>1+6 * few t
theorem I8 {m:Nat}:∀ {rs:List Rnd} {h:Int},Wv m rs h->(hin rs h).length<=few rs.length
 | [],h,w=>Ap _
 | r :: rs,h,w=>by
  have a:∀ l:List Int,(∀ x∈l,x∈r.flatten)->(l.flatMap (hin rs)).length<=l.length * few rs.length:=λl=>by
   induction l with
   | nil=>intro _;simp
   | cons x l ih=>
    intro hs;rw [List.flatMap_cons,Av,BE,Nat.add_mul];have:=I8 (w.2.1 x (hs x (by simp)));have:=ih λy hy=>hs y (Aw _ hy);omega
  have b:=a (sn r h) λx hx=>B1 hx;have c:=D6 r h;have d:(sn r h).length * few rs.length<=6 * few rs.length:=Nat.mul_le_mul_right _ (by have:=w.2.2.2.1;omega);show ((sn r h).flatMap (hin rs)).length+1<=1+6 * few rs.length;omega
theorem aK:∀ {t:Nat},t<=4->few t<=1555
 | 0,_ | 1,_ | 2,_ | 3,_ | 4,_=>by decide
 | t+5,h=>by omega
theorem aN {n:Nat} (h:n<=5000):n<sizeLine:=Dw h (by decide)
theorem lF {ns:List Int} {es:List D} {S:Sto} (h:es.length+ns.length<=4000):e9 (v1 (ns.map D.int)) (λ_=>ret true) (λd2=>ret d2) (ns.length+1) 0 es S=.ok (es++ns.map D.int) S:=by
 obtain ⟨es',S',e,rfl,rfl⟩:=E8 (src:=v1 (ns.map D.int)) (t:=λ_=>ret true) (f:=λd2=>ret d2) (n:=ns.length) (λi S' es'=>S'=S/\es'=es++(ns.take i).map D.int) (λS' es' _=>by show some (ns.map D.int)[ns.length]?=_;rw [AJ (by simp)]) (λi S' es' hi ⟨h1,h2⟩=>by
  refine ⟨.int ns[i],true,S',by show some (ns.map D.int)[i]?=_;rw [j3 (Ak hi)],rfl,?_⟩;rw [if_pos rfl];refine ⟨.int ns[i],S',rfl,?_,h1,?_⟩
  ·rw [h2,Av,Aj,Bf];exact aN (by omega)
  ·rw [h2,AO hi,BB,BN];rfl) ns.length 0 S es (by omega) ⟨rfl,by simp⟩
 rw [e,Cs]
theorem aY {cs:List Int} {F:Int->D} {G:Int->List Int} {C1:D->M (Src×Nat)} {S:Sto} (hc:∀ c∈cs,C1 (F c) S=.ok (v1 ((G c).map D.int),(G c).length+1) S) (hl:(cs.flatMap G).length<=4000):∀ (k i:Nat),k+i=cs.length->A0 (v1 (cs.map F)) (λ_=>ret true) C1 (λ_ _=>ret true) (λ_ d2=>ret d2) (k+1) i (((cs.take i).flatMap G).map D.int) S=.ok ((cs.flatMap G).map D.int) S
 | 0,i,hk=>by
  have e:(cs.map F)[i]?=none:=AJ (by rw [Aj];omega);have s:v1 (cs.map F) i S=some none:=by show some (cs.map F)[i]?=_;rw [e]
  simp only [A0,s];rw [CO (by omega)]
 | k+1,i,hk=>by
  have hi:i<cs.length:=by omega
  have s:v1 (cs.map F) i S=some (some (F cs[i])):=by show some (cs.map F)[i]?=_;rw [j3 (Ak hi)]
  have tk:(cs.take (i+1)).flatMap G=(cs.take i).flatMap G++G cs[i]:=by rw [AO hi,CA];simp
  have ln:((cs.take (i+1)).flatMap G).length<=(cs.flatMap G).length:=by
   conv=>rhs;rw [<- Cj (i+1) cs,CA,Av]
   omega
  rw [tk,Av] at ln;rw [A0];simp only [s];rw [a8 (show (ret true:M Bool) S=.ok true S from rfl),if_pos rfl,a8 (hc _ (AU hi)),a8 (lF (S:=S) (es:=((cs.take i).flatMap G).map D.int) (ns:=G cs[i]) (by rw [Aj];omega))];rw [<- BB,<- tk];exact aY hc hl k (i+1) (by omega)
theorem nG {m:Nat} (S:Sto):∀ {rs:List Rnd} {h:Int} (k:Nat),Wv m rs h->rs.length<=4->rn (k+(rs.length+1)) my [vw rs h] S=.ok (.lst ((hin rs h).map D.int)) S
 | [],h,k,w,hl=>by
  refine L9 ?_;rw [show k+(([]:List Rnd).length+1)=k+1 from rfl,rn,d7 (fd:=Af) rfl,je,jA];refine Ok.first<|Ok.cg (sg ..) ?_;refine Ok.eq (a:=.nx [some (vw [] h),some (.int h),some (.tup [])]) (S1:=S) rfl<|Ok.nxt<|Ok.cg (rK ..) ?_;exact nx_bind<|Ok.eq (A2 _ S)<|Ok.of (show _=R.ok [] S from rfl)<|Ok.eq (a:=.lst [.int h]) (S1:=S) rfl<|Ok.ret ⟨rfl,rfl⟩
 | r :: rs,h,k,w,hl=>by
  refine L9 ?_;have hl':rs.length+1<=4:=hl;rw [show k+((r :: rs).length+1)=(k+(rs.length+1))+1 from rfl,rn,d7 (fd:=Af) rfl,je,jA];refine Ok.first<|Ok.cg (sg ..) ?_;refine Ok.eq (a:=.nx [some (vw (r :: rs) h),some (.int h),some (.tup ((sn r h).map (vw rs)))]) (S1:=S) rfl<|Ok.nxt<|Ok.cg (rK ..) ?_;have b:=I8 w;have fl:=aK hl;have b':((sn r h).flatMap (hin rs)).length+1<=few (r :: rs).length:=b;refine nx_bind<|Ok.eq (A2 _ S) ?_;rw [Aj];have c:=aY (cs:=sn r h) (F:=vw rs) (G:=hin rs) (C1:=λd1=>bind (rn (k+(rs.length+1)) my [d1]) λx4=>bind (u8 x4) λsm5=>ret sm5) (S:=S) (λc hc=>by
   rw [a8 (nG S k (w.2.1 c (B1 hc)) (by omega))];show R.ok (v1 ((hin rs c).map D.int),((hin rs c).map D.int).length+1) S=_;rw [Aj]) (by omega) (sn r h).length 0 (by omega)
  refine Ok.of c ?_;refine Ok.eq (a:=.lst (.int h :: ((sn r h).flatMap (hin rs)).map D.int)) (S1:=S) ?_<|Ok.ret ⟨rfl,rfl⟩;show (if 1+(((sn r h).flatMap (hin rs)).map D.int).length<=sizeLine then ret (D.lst ([D.int h]++((sn r h).flatMap (hin rs)).map D.int)) else bad) S=_;rw [if_pos (by rw [Aj];exact BZ (aN (by omega)))];rfl
section
variable {m:Nat} {gs:List Int} (gl:gs.length=m) (m6:m<=6)
include gl m6
theorem iR {h:Int} (hh:h∈rgL m):∃ j:Nat,h=(j:Int)/\j<m:=by
 unfold rgL at hh;obtain ⟨j,hj,rfl⟩:=Cr.mp hh;exact ⟨j,rfl,Bd.mp hj⟩
theorem iq {h:Int} (hh:h∈rgL m) (S:Sto):ixD (.tup (gs.map D.int)) (.int h) S=.ok (.int (gr gs h)) S:=by
 obtain ⟨j,rfl,hj⟩:=iR gl m6 hh;have:j<gs.length:=by omega
 refine pO S ?_;rw [AH,Ak this];show some (D.int gs[j])=_;unfold gr;rw [Bl,As,Ak this];rfl
theorem fu (nd:gs.Nodup) {a b:Int} (ha:a∈rgL m) (hb:b∈rgL m) (e:gr gs a=gr gs b):a=b:=by
 obtain ⟨i,rfl,hi⟩:=iR gl m6 ha;obtain ⟨j,rfl,hj⟩:=iR gl m6 hb;unfold gr at e;rw [Bl,Bl,As,As,Ak (by omega),Ak (by omega)] at e;have:=(CV nd).mp e;omega
end
def rkH (gs:List Int) (hs:List Int) (x:Int):Nat:=hs.countP λy=>decide (gr gs y<gr gs x)
theorem tM {v l:List Int} (nd:v.Nodup) (h:∀ x∈v,x∈l):v.length<=l.length:=by
 induction v generalizing l with
 | nil=>exact Bh _
 | cons a v ih=>
  have ha:a∈l:=h a (Ay ..);have nd':=Ce.mp nd;have e:=DK ha;have:=ih (l:=l.erase a) nd'.2 λx hx=>(List.mem_erase_of_ne (λz=>nd'.1 (by rw [<- z];exact hx))).mpr (h x (Aw _ hx));have:=List.length_pos_of_mem ha;rw [BE];omega
theorem G5 {l:List Int} {m:Nat} (h:∀ x∈l,x∈rgL m):(b9 l).length<=m:=by
 have s:=tM (O4 l) (λx hx=>h x (uniq_mem.mp hx));rw [aI] at s;exact s
theorem fG {gs:List Int} {m:Nat} (gl:gs.length=m) (m6:m<=6) (nd:gs.Nodup) {l:List Int} (hl:∀ x∈l,x∈rgL m) {x:Int} (hx:x∈l):(srt (b9 (l.map (gr gs)))).findIdx? (λz=>z==gr gs x)=some (rkH gs (srt (b9 l)) x):=by
 have ix:=hG (gr gs x) _ (aA (b9 (l.map (gr gs)))) ((b7 _).mem_iff.mpr (uniq_mem.mpr (CB hx)));rw [ix,lg];have p:(b9 (l.map (gr gs))).Perm ((b9 l).map (gr gs)):=by
  rw [List.perm_ext_iff_of_nodup (O4 _)]
  ·intro z;rw [uniq_mem,Cr,Cr];constructor
   ·rintro ⟨y,hy,rfl⟩;exact ⟨y,uniq_mem.mpr hy,rfl⟩
   ·rintro ⟨y,hy,rfl⟩;exact ⟨y,uniq_mem.mp hy,rfl⟩
  ·have:=O4 l;rw [Bs,CP];rw [Bs] at this;exact this.imp_of_mem λ{a b} ha hb ne e=>ne (fu gl m6 nd (hl a (uniq_mem.mp ha)) (hl b (uniq_mem.mp hb)) e)
 congr 1;rw [p.countP_eq,List.countP_map];unfold rkH;rw [(b7 (b9 l)).countP_eq];rfl
theorem ko {gs hs:List Int} {x y:Int} (hx:x∈hs):rkH gs hs x<rkH gs hs y↔gr gs x<gr gs y:=by
 have e:∀ z,rkH gs hs z=rk (hs.map (gr gs)) (gr gs z):=λz=>by unfold rkH rk;rw [List.countP_map];rfl
 rw [e,e];exact qN (CB hx)
theorem dR {gs:List Int} {f:Int->Nat} {rs:List Rnd}:∀ cs:List Int,y9 (cs.map (plc gs f rs))=some (cs.map λc=>(f c:Int))
 | []=>rfl
 | c :: cs=>by
  have e:∃ x,plc gs f rs c=.tup (.int (f c:Int) :: x):=by cases rs <;> exact ⟨_,rfl⟩
  obtain ⟨x,e⟩:=e;show y9 (plc gs f rs c :: cs.map (plc gs f rs))=_;rw [e];show (y9 (cs.map (plc gs f rs))).map _=_;rw [dR cs];rfl
theorem pM {cs:List Int} {f g:Int->Int} (h:∀ a∈cs,∀ b∈cs,(f a<f b↔g a<g b)):sPl (cs.map f)=sPl (cs.map g):=by
 unfold sPl;rw [Aj,Aj];refine fA λi j hi hj=>?_;unfold ltK;have e:∀ {q:Int->Int} {i:Nat} (hi:i<cs.length),(cs.map q).getD i 0=q cs[i]:=λhi=>by
  rw [As,AH,Ak hi];rfl
 rw [e hi,e hj,e hi,e hj];exact decide_eq_decide.mpr (h _ (AU hi) _ (AU hj))
theorem X7 {cs:List Int} {F G:Int->D} {f:D->M D} {S:Sto} (hl:cs.length<=4000) (h:∀ c∈cs,f (F c) S=.ok (G c) S):e9 (v1 (cs.map F)) (λ_=>ret true) f (cs.length+1) 0 [] S=.ok (cs.map G) S:=by
 have c:=i9 (src:=v1 (cs.map F)) (l:=cs) (h:=F) (g:=G) (p:=λ_=>true) (t:=λ_=>ret true) (f:=f) (S:=S) (λi=>rfl) (aN (by omega)) (λ_ _=>rfl) λa ha _=>h a ha;rw [Dp.mpr (λ_ _=>rfl)] at c;exact c
section
variable {m:Nat} {gs:List Int} (gl:gs.length=m) (m6:m<=6) (nd:gs.Nodup) {l:List Int} (hl:∀ x∈l,x∈rgL m)
include gl m6 nd hl
theorem pD {x:Int} (hx:x∈l):rkH gs (srt (b9 l)) x<=6:=by
 have h1:rkH gs (srt (b9 l)) x<=(srt (b9 l)).length:=List.countP_le_length;rw [(b7 _).length_eq] at h1;have:=G5 hl;omega
theorem rX (S:Sto):∀ {rs:List Rnd} {h:Int} (k:Nat),Wv m rs h->(∀ x∈hin rs h,x∈l)->rn (k+(rs.length+1)) tB [.tup (gs.map D.int),.lst ((srt (b9 (l.map (gr gs)))).map D.int),vw rs h] S=.ok (plc gs (rkH gs (srt (b9 l))) rs h) S:=by
 have core:∀ {h:Int},h∈l->ixD (.tup (gs.map D.int)) (.int h) S=.ok (.int (gr gs h)) S/\R5 (.lst ((srt (b9 (l.map (gr gs)))).map D.int)) [.int (gr gs h)] S=.ok (.int (rkH gs (srt (b9 l)) h:Int)) S:=λ{h} hh=>
  ⟨iq gl m6 (hl h hh) S,kR (by have:=pD gl m6 nd hl hh;omega) (fG gl m6 nd hl hh) S⟩
 intro rs;induction rs with
 | nil=>
  intro h k w sub;refine L9 ?_;obtain ⟨c1,c2⟩:=core (sub h (by simp [hin]));rw [show k+(([]:List Rnd).length+1)=k+1 from rfl,rn,d7 (fd:=Ae) rfl,jm,gK];refine Ok.first<|Ok.cg (sK ..) ?_;refine Ok.eq (a:=.nx [some (.tup (gs.map D.int)),some (.lst ((srt (b9 (l.map (gr gs)))).map D.int)),some (vw [] h),some (.int h),some (.tup []),none]) (S1:=S) rfl<|Ok.nxt<|Ok.cg (rB ..) ?_;refine nx_bind<|Ok.eq (A2 _ S)<|Ok.of (show _=R.ok [] S from rfl)<|Ok.nxt<|Ok.cg (qW ..) ?_;refine Ok.eq (a:=_) (S1:=S) rfl<|Ok.eq c1<|Ok.eq c2<|Ok.eq (a:=.lst []) (S1:=S) rfl<|Ok.eq (a:=.tup []) (S1:=S) rfl<|Ok.ret ⟨rfl,rfl⟩
 | cons r rs ih=>
  intro h k w sub;refine L9 ?_;obtain ⟨c1,c2⟩:=core (sub h (by simp [hin]));have inl:∀ c∈sn r h,c∈l:=λc hc=>sub c (Aw _ (Ct.mpr ⟨c,hc,by cases rs <;> simp [hin]⟩));have sl:=D6 r h;have sl6:(sn r h).length<=6:=by have:=w.2.2.2.1;omega
  rw [show k+((r :: rs).length+1)=(k+(rs.length+1))+1 from rfl,rn,d7 (fd:=Ae) rfl,jm,gK];refine Ok.first<|Ok.cg (sK ..) ?_;refine Ok.eq (a:=.nx [some (.tup (gs.map D.int)),some (.lst ((srt (b9 (l.map (gr gs)))).map D.int)),some (vw (r :: rs) h),some (.int h),some (.tup ((sn r h).map (vw rs))),none]) (S1:=S) rfl<|Ok.nxt<|Ok.cg (rB ..) ?_;refine nx_bind<|Ok.eq (A2 _ S) ?_;rw [Aj];refine Ok.of (X7 (cs:=sn r h) (F:=vw rs) (G:=plc gs (rkH gs (srt (b9 l))) rs) (by omega) λc hc=>?_)<|Ok.nxt<|Ok.cg (qW ..) ?_
  ·rw [a8 (ih k (w.2.1 c (B1 hc)) λx hx=>sub x (Aw _ (Ct.mpr ⟨c,hc,hx⟩)))];rfl
  have sk:v9 (.lst ((sn r h).map (plc gs (rkH gs (srt (b9 l))) rs))) S=.ok (.lst (e6 .non (sPl ((sn r h).map (gr gs))) ((sn r h).map (plc gs (rkH gs (srt (b9 l))) rs)))) S:=by
   unfold v9;dsimp only;rw [dR];dsimp only;rw [if_pos (by rw [Aj];omega),pM (f:=λc=>(rkH gs (srt (b9 l)) c:Int)) (g:=gr gs) λa ha b hb=>?_]
   ·rfl
   ·have:=ko (gs:=gs) (hs:=srt (b9 l)) (x:=a) (y:=b) ((b7 _).mem_iff.mpr (uniq_mem.mpr (inl a ha)));omega
  refine Ok.eq (a:=_) (S1:=S) rfl<|Ok.eq c1<|Ok.eq c2<|Ok.eq sk<|Ok.eq (a:=.tup (e6 .non (sPl ((sn r h).map (gr gs))) ((sn r h).map (plc gs (rkH gs (srt (b9 l))) rs)))) (S1:=S) rfl<|Ok.ret ⟨rfl,rfl⟩
end
theorem mq {m:Nat} {gs:List Int} (gl:gs.length=m) (m6:m<=6) (nd:gs.Nodup) {rs:List Rnd} {h:Int} (w:Wv m rs h) (h4:rs.length<=4) (k:Nat) (S:Sto):rn (k+(rs.length+2)) rD [.tup (gs.map D.int),vw rs h] S=.ok (plc gs (rkH gs (srt (b9 (hin rs h)))) rs h) S:=by
 refine L9 ?_;have hb:=L7 w;have hlen:=I8 w;have hf:=aK h4;rw [show k+(rs.length+2)=(k+(rs.length+1))+1 from rfl,rn,d7 (fd:=ph) rfl,oV];refine nx_bind<|Ok.eq (nG S k w h4)<|Ok.eq (a:=(v1 ((hin rs h).map D.int),((hin rs h).map D.int).length+1)) (S1:=S) rfl ?_;rw [Aj];refine Ok.of (X7 (cs:=hin rs h) (F:=D.int) (G:=λc=>D.int (gr gs c)) (by omega) λc hc=>?_) ?_
 ·rw [a8 (iq gl m6 (hb c hc) S)];rfl
 have e:(hin rs h).map (λc=>D.int (gr gs c))=((hin rs h).map (gr gs)).map D.int:=by rw [DT];rfl
 rw [e];have u:(b9 ((hin rs h).map (gr gs))).length<=m:=by
  have s:=tM (O4 ((hin rs h).map (gr gs))) (l:=(rgL m).map (gr gs)) λx hx=>by
   obtain ⟨y,hy,rfl⟩:=Cr.mp (uniq_mem.mp hx);exact CB (hb y hy)
  rw [Aj,aI] at s;exact s
 refine Ok.eq (jE (by rw [Aj];omega) (by omega) S) ?_;exact Ok.eq (rX gl m6 nd hb S k w λx hx=>hx)<|Ok.ret ⟨rfl,rfl⟩
theorem Q3 {F:Int->D} {cs:List Int} {is:List Nat} (h:∀ i∈is,i<cs.length):e6 .non is (cs.map F)=(e6 0 is cs).map F:=by
 unfold e6;rw [DT];refine List.map_congr_left λi hi=>?_;have:=h i hi;show (cs.map F).getD i D.non=F (cs.getD i 0);rw [As,As,AH,Ak this];rfl
theorem iN {gs:List Int} {P:Int->D}:∀ cs:List Int,y9 (cs.map λc=>D.tup [.int (gr gs c),P c])=some (cs.map (gr gs))
 | []=>rfl
 | c :: cs=>by
  show (y9 (cs.map λc=>D.tup [.int (gr gs c),P c])).map _=_;rw [iN cs];rfl
section
variable {m:Nat} {gs:List Int} (gl:gs.length=m) (m6:m<=6) (nd:gs.Nodup) {l:List Int} (hl:∀ x∈l,x∈rgL m)
include gl m6 nd hl
theorem au {h:Int} (hh:h∈l) {cs:List Int} (ci:∀ c∈cs,c∈l) (cd:cs.Nodup) (c6:cs.length<=6) {V P:Int->D} {S:Sto} (hV:∀ c,ixD (V c) (.int 0) S=.ok (.int c) S) (k:Nat) (ih:∀ c∈cs,rn k Z5 [.tup (gs.map D.int),.lst ((srt (b9 l)).map D.int),V c] S=.ok (P c) S):rn (k+1) Z5 [.tup (gs.map D.int),.lst ((srt (b9 l)).map D.int),.tup [.int h,.tup (cs.map V)]] S=.ok (.tup [.int (rkH gs (srt (b9 l)) h:Int),.tup (e6 .non (sPl (cs.map (gr gs))) (cs.map P))]) S:=by
 refine L9 ?_;have g:∀ {x:Int},x∈l->ixD (.tup (gs.map D.int)) (.int x) S=.ok (.int (gr gs x)) S:=λhx=>iq gl m6 (hl _ hx) S;have hsl:(srt (b9 l)).length<=6:=by have:=G5 hl;rw [(b7 _).length_eq];omega
 have hin:∀ x∈srt (b9 l),x∈l:=λx hx=>uniq_mem.mp ((b7 _).mem_iff.mp hx);rw [rn,d7 (fd:=putL_F) rfl,hW];refine nx_bind<|Ok.eq (a:=(v1 ((srt (b9 l)).map D.int),((srt (b9 l)).map D.int).length+1)) (S1:=S) rfl ?_;rw [Aj];refine Ok.of (i9 (l:=srt (b9 l)) (h:=D.int) (g:=D.int) (p:=λy=>decide (gr gs y<gr gs h)) (λi=>rfl) (aN (by omega)) (λa ha=>?_) (λ_ _ _=>rfl)) ?_
 ·rw [a8 (g (hin a ha)),a8 (show ixD (.tup [.int h,.tup (cs.map V)]) (.int 0) S=.ok (.int h) S from rfl),a8 (g hh),a8 (qR _ _ S)];rfl
 refine Ok.eq (mo _ S) ?_;rw [Aj,<- List.countP_eq_length_filter];refine nx_bind<|Ok.eq (a:=.tup (cs.map V)) (S1:=S) rfl<|Ok.eq (A2 _ S) ?_;rw [Aj];refine Ok.of (X7 (cs:=cs) (F:=V) (G:=λc=>D.tup [.int (gr gs c),P c]) (by omega) λc hc=>?_) ?_
 ·rw [a8 (hV c),a8 (g (ci c hc)),a8 (ih c hc)];rfl
 have lp:∀ i∈sPl (cs.map (gr gs)),i<cs.length:=λi hi=>by have:=aX hi;rwa [Aj] at this
 have so:j5 (.lst (cs.map λc=>D.tup [.int (gr gs c),P c])) S=.ok (.lst ((e6 0 (sPl (cs.map (gr gs))) cs).map λc=>D.tup [.int (gr gs c),P c])) S:=by
  unfold j5;dsimp only;rw [iN];dsimp only;have nk:(cs.map (gr gs)).Nodup:=by
   rw [Bs,CP];rw [Bs] at cd;exact cd.imp_of_mem λ{a b} ha hb ne e=>ne (fu gl m6 nd (hl a (ci a ha)) (hl b (ci b hb)) e)
  rw [if_pos ⟨by rw [Aj];omega,nk⟩,Q3 lp];rfl
 refine Ok.eq so ?_;have pl:(e6 0 (sPl (cs.map (gr gs))) cs).length<=6:=by unfold e6;rw [Aj,B6,Aj];exact c6
 refine nx_bind<|Ok.eq (a:=(v1 ((e6 0 (sPl (cs.map (gr gs))) cs).map λc=>D.tup [.int (gr gs c),P c]),((e6 0 (sPl (cs.map (gr gs))) cs).map λc=>D.tup [.int (gr gs c),P c]).length+1)) (S1:=S) rfl ?_;rw [Aj];have cf:=i9 (src:=v1 ((e6 0 (sPl (cs.map (gr gs))) cs).map λc=>D.tup [.int (gr gs c),P c])) (l:=e6 0 (sPl (cs.map (gr gs))) cs) (h:=λc=>D.tup [.int (gr gs c),P c]) (g:=P) (p:=λ_=>true) (t:=T4 (rn k) [some (.tup (gs.map D.int)),some (.lst ((srt (b9 l)).map D.int)),some (.tup [.int h,.tup (cs.map V)]),some (.int (List.countP (λy=>decide (gr gs y<gr gs h)) (srt (b9 l)):Int)),some (.lst ((e6 0 (sPl (cs.map (gr gs))) cs).map λc=>D.tup [.int (gr gs c),P c]))]) (f:=P9 (rn k) [some (.tup (gs.map D.int)),some (.lst ((srt (b9 l)).map D.int)),some (.tup [.int h,.tup (cs.map V)]),some (.int (List.countP (λy=>decide (gr gs y<gr gs h)) (srt (b9 l)):Int)),some (.lst ((e6 0 (sPl (cs.map (gr gs))) cs).map λc=>D.tup [.int (gr gs c),P c]))]) (S:=S) (λi=>rfl) (aN (by omega)) (λ_ _=>by rw [aW];rfl) (λ_ _ _=>by rw [Y8];rfl);rw [Dp.mpr (λ_ _=>rfl)] at cf;exact Ok.of cf<|Ok.eq (a:=.tup ((e6 0 (sPl (cs.map (gr gs))) cs).map P)) (S1:=S) rfl<|Ok.ret ⟨by rw [Q3 lp];rfl,rfl⟩
theorem uQ (rs:List Rnd) (c:Int) (S:Sto):ixD (vw rs c) (.int 0) S=.ok (.int c) S:=by cases rs <;> rfl
theorem kO (S:Sto):∀ {rs:List Rnd} {h:Int} (k:Nat),Wv m rs h->(∀ x∈hin rs h,x∈l)->rn (k+(rs.length+1)) Z5 [.tup (gs.map D.int),.lst ((srt (b9 l)).map D.int),vw rs h] S=.ok (plc gs (rkH gs (srt (b9 l))) rs h) S:=by
 intro rs;induction rs with
 | nil=>
  intro h k w sub;exact au gl m6 nd hl (sub h (by simp [hin])) (cs:=[]) (by simp) (by simp) (by simp) (V:=vw []) (P:=plc gs (rkH gs (srt (b9 l))) []) (λc=>rfl) k (by simp)
 | cons r rs ih=>
  intro h k w sub;have inl:∀ c∈sn r h,c∈l:=λc hc=>sub c (Aw _ (Ct.mpr ⟨c,hc,by cases rs <;> simp [hin]⟩));have sl:=D6 r h;exact au gl m6 nd hl (sub h (by simp [hin])) (cs:=sn r h) inl (qZ w.2.2.1) (by have:=w.2.2.2.1;omega) (V:=vw rs) (P:=plc gs (rkH gs (srt (b9 l))) rs) (λc=>uQ gl m6 nd hl rs c S) (k+(rs.length+1)) λc hc=>ih k (w.2.1 c (B1 hc)) λx hx=>sub x (Aw _ (Ct.mpr ⟨c,hc,hx⟩))
end
theorem Ex.set0 {S S':Sto} {o:O} (h:Ex S S'):Ex S (S'.set S.length o):=by
 obtain ⟨T,rfl⟩:=h;exact ⟨T.set 0 o,by rw [Bv _ _ (Ap _),Nat.sub_self]⟩
theorem eK {h:Int} {cs:List Int} {V:Int->D} {G:Int->List Int} (k:Nat) (S:Sto) (hl:(cs.flatMap G).length<=4000) (hc:cs.length<=4000) (ih:∀ c∈cs,∀ S,Ok (rn k jt [V c]) S λd S'=>∃ n,d=.ref n/\S'[n]?=some (.lst ((G c).map D.int))/\Ex S S'):Ok (rn (k+1) jt [.tup [.int h,.tup (cs.map V)]]) S λd S'=>∃ n,d=.ref n/\S'[n]?=some (.lst ((h :: cs.flatMap G).map D.int))/\Ex S S':=by
 rw [rn,d7 (fd:=Ad) rfl,oC,oa];refine Ok.first<|Ok.cg (uK ..)<|Ok.eq (a:=.int h) (S1:=S) rfl<|Ok.eq (show newL [.int h] S=.ok (.ref S.length) (S++[.lst [.int h]]) from rfl)<|Ok.nxt<|Ok.cg (vJ ..) ?_;refine Ok.eq (a:=.tup (cs.map V)) (S1:=_) rfl<|Ok.eq (A2 _ _) ?_;rw [Aj];refine Ok.bind ((Ok.for_ (n:=cs.length) (λi ρ S'=>Ex S S'/\S'[S.length]?=some (.lst ((h :: (cs.take i).flatMap G).map D.int))/\∃ o:Option D,ρ=[some (.tup [.int h,.tup (cs.map V)]),some (.ref S.length),o]) (λ_ _=>False) (λ_ _=>False) ?_ ?_ cs.length 0 _ _ (by omega) ⟨⟨_,rfl⟩,by simp,_,rfl⟩).mono ?_)
 ·intro ρ S' _;show some (cs.map V)[cs.length]?=some none;rw [AJ (by simp)]
 ·rintro i ρ S' hi ⟨ex,e,o,rfl⟩;have eb:cs[i]?=some cs[i]:=Ak hi;have tk:(cs.take (i+1)).flatMap G=(cs.take i).flatMap G++G cs[i]:=by rw [AO hi,CA];simp
  have ln:((cs.take (i+1)).flatMap G).length<=(cs.flatMap G).length:=by
   conv=>rhs;rw [<- Cj (i+1) cs,CA,Av]
   omega
  rw [tk,Av] at ln;have lt:=(Au.mp e).1;refine ⟨V cs[i],[some (.tup [.int h,.tup (cs.map V)]),some (.ref S.length),some (V cs[i])],by show some (cs.map V)[i]?=_;rw [j3 eb],rfl,?_⟩;unfold dG;rw [cz];refine Ok.first<|Ok.cg (gc ..)<|Ok.eq (U9 e)<|Ok.bind ((ih _ (AU hi) S').mono ?_);rintro _ S2 ⟨n,rfl,e2,x2⟩;have e':S2[S.length]?=some (.lst ((h :: (cs.take i).flatMap G).map D.int)):=by rw [x2.at lt];exact e
  refine Ok.eq (oo e' e2 ?_) ?_
  ·rw [Aj,Aj,BE];exact BZ (aN (by omega))
  refine Ok.ret ⟨Ex.set0 (ex.trans x2),?_,_,rfl⟩;rw [AW (Au.mp e').1,tk,<- BB];rfl
 ·intro fl S' q;cases fl with
  | nx ρ=>
   rcases q with ⟨ex,e,o,rfl⟩ | q
   ·rw [Cs] at e;exact Ok.nxt<|Ok.cg (tZ ..)<|Ok.ret ⟨_,rfl,e,ex⟩
   ·exact q.elim
  | rt d=>exact q.elim
  | bk ρ=>exact q.elim
  | ct ρ=>exact q.elim
theorem nH {m:Nat}:∀ {rs:List Rnd} {h:Int} (k:Nat),Wv m rs h->rs.length<=4->∀ S,Ok (rn (k+(rs.length+1)) jt [vw rs h]) S λd S'=>∃ n,d=.ref n/\S'[n]?=some (.lst ((hin rs h).map D.int))/\Ex S S'
 | [],h,k,w,h4,S=>eK (cs:=[]) (V:=vw []) (G:=hin []) k S (by simp) (by simp) (by simp)
 | r :: rs,h,k,w,h4,S=>by
  have b:=I8 w;have fl:=aK h4;have b':((sn r h).flatMap (hin rs)).length+1<=few (r :: rs).length:=b;have sl:=D6 r h;exact eK (cs:=sn r h) (V:=vw rs) (G:=hin rs) (k+(rs.length+1)) S (by omega) (by have:=w.2.2.2.1;omega) λc hc=>nH k (w.2.1 c (B1 hc)) (by have:rs.length+1<=4:=h4;omega)
theorem jD {ns:List Int} {n:Nat} {S:Sto} (e:S[n]?=some (.lst (ns.map D.int))) (h1:ns.length<4000) (h2:(b9 ns).length<64):w8 (.ref n) S=.ok (.lst ((srt (b9 ns)).map D.int)) S:=by
 show bind (p4 (.ref n)) _ S=_;rw [a8 (show p4 (.ref n) S=.ok (ns.map D.int) S by simp only [p4,lstOf,e]),O0];dsimp only;rw [if_pos ⟨h1,h2⟩];rfl
theorem pq {m:Nat} {gs:List Int} (gl:gs.length=m) (m6:m<=6) (nd:gs.Nodup) {rs:List Rnd} {h:Int} (w:Wv m rs h) (h4:rs.length<=4) (k:Nat) (S:Sto):Ok (rn (k+(rs.length+2)) pX [.tup (gs.map D.int),vw rs h]) S λd S'=>d=plc gs (rkH gs (srt (b9 (hin rs h)))) rs h/\Ex S S':=by
 have hb:=L7 w;have hlen:=I8 w;have hf:=aK h4;rw [show k+(rs.length+2)=(k+(rs.length+1))+1 from rfl,rn,d7 (fd:=jq) rfl,mI];refine Ok.bind ((nH k w h4 S).mono ?_);rintro _ S' ⟨n,rfl,e,ex⟩;refine Ok.eq (jD e (by omega) (by have:=G5 hb;omega)) ?_;exact Ok.eq (kO gl m6 nd hb S' k w λx hx=>hx)<|Ok.ret ⟨rfl,ex⟩
theorem cm {r:Rnd} {h:Int} {j:Nat} (e:r.findIdx? (λb=>decide (h∈b))=some j):∃ t,(List.range r.length).filter (λi=>decide (h∈r.getD i []))=j :: t:=by
 obtain ⟨hj,h1,h2⟩:=Be.mp e;have sp:List.range r.length=List.range j++(j :: (List.range (r.length-(j+1))).map (j+1 + ·)):=by
  have a:r.length=(j+1)+(r.length-(j+1)):=by omega
  rw [a,List.range_add,DZ];simp
 rw [sp,List.filter_append];have n1:(List.range j).filter (λi=>decide (h∈r.getD i []))=[]:=by
  rw [List.filter_eq_nil_iff];intro i hi;have hi:=Bd.mp hi;have:=h2 i hi;rw [As,Ak (by omega)];exact this
 have q:decide (h∈r.getD j [])=true:=by
  rw [As,Ak hj];exact h1
 rw [n1,Di,List.filter_cons_of_pos (by exact q)];exact ⟨_,rfl⟩
theorem nR {r:Rnd} {h:Int} (hh:h∈r.flatten) (f6:r.flatten.length<=6) (r6:r.length<=6) (k:Nat) (S:Sto):Ok (rn (k+2) oA [k6 r,.int h]) S λd S'=>d=.lst ((sn r h).map D.int)/\Ex S S':=by
 obtain ⟨j,ej,ea,hj⟩:=qQ hh;obtain ⟨t,et⟩:=cm ej;rw [rn,d7 (fd:=gH) rfl,kg];have le:A5 (k6 r) S=.ok (.int (r.length:Int)) S:=by unfold k6;show R.ok (D.int ((r.map C2).length:Int)) S=_;rw [Aj]
 refine nx_bind<|Ok.eq le<|Ok.eq (L6 (n:=r.length) (by omega) S) ?_;have cf:=i9 (src:=Z1 0 r.length) (l:=List.range r.length) (h:=λi:Nat=>D.int (i:Int)) (g:=λi:Nat=>D.int (i:Int)) (p:=λi=>decide (h∈r.getD i [])) (t:=λd1=>bind (ixD (k6 r) d1) λx4=>bind (j4 .In (.int h) x4) λx5=>bind (asB x5) λz6=>ret z6) (f:=λd1=>ret d1) (S:=S) (λi=>cp _ i S) (aN (by rw [AN];omega)) (λi hi=>by
  have hi:=Bd.mp hi;have ei:r[i]?=some r[i]:=Ak hi;have eg:r.getD i []=r[i]:=by rw [As,ei];rfl
  have e1:ixD (k6 r) (.int (i:Int)) S=.ok (C2 r[i]) S:=pO (i:=i) (d:=C2 r[i]) S (j3 ei);have e2:j4 .In (.int h) (C2 r[i]) S=.ok (.bl (decide (h∈r[i]))) S:=kU h r[i] S;rw [a8 e1,a8 e2,eg];rfl) (λ_ _ _=>rfl)
 rw [AN,et] at cf;refine Ok.of cf ?_;have e0:ixD (.lst ((j :: t).map λi:Nat=>D.int (i:Int))) (.int 0) S=.ok (.int (j:Int)) S:=by
  have:=pO (i:=0) (ds:=(j :: t).map λi:Nat=>D.int (i:Int)) (d:=.int (j:Int)) S rfl;exact this
 refine Ok.eq e0<|Ok.eq (Y2 j 1 S)<|Ok.eq (a:=some ((j+1:Nat):Int)) (S1:=S) rfl ?_;have sl:slD (k6 r) none (some ((j+1:Nat):Int)) S=.ok (k6 (r.take (j+1))) S:=by
  show R.ok (D.tup (B0 (r.map C2) none (some ((j+1:Nat):Int)))) S=_;unfold B0 k6;rw [HT.sIx_none,HT.sIx_nat,Aj,Nat.min_eq_left (by omega),Eb,Nat.sub_zero,Ei]
 refine Ok.eq sl ?_;have tl:=(bp r (j+1)).length_le;refine Ok.bind ((ng (r:=r.take (j+1)) (by omega) (by rw [Bf];omega) k S).mono ?_);rintro _ S' ⟨rfl,ex⟩;refine Ok.ret ⟨?_,ex⟩;unfold sn;rw [ea]
def pB (b:List Int):PyData:=.tuple (b.map .int)
def pR (r:Rnd):PyData:=.tuple (r.map pB)
theorem kF (rs:List Rnd) (S:Sto):c9 64 S (v8 rs)=some (.tuple (rs.map pR)):=by
 have b:∀ b:List Int,c9 62 S (C2 b)=some (pB b):=λb=>by
  show (d8 (c9 61 S) (b.map D.int)).map _=_;rw [B9 60];rfl
 have r:∀ r:Rnd,c9 63 S (k6 r)=some (pR r):=λr=>by
  show (d8 (c9 62 S) (r.map C2)).map _=_;rw [O3 λa _=>b a];rfl
 show (d8 (c9 63 S) (rs.map k6)).map _=_;rw [O3 λa _=>r a];rfl
theorem nE (rs:List Rnd) (S:Sto):j4 .Eq (v8 rs) (.tup []) S=.ok (.bl rs.isEmpty) S:=by
 show eqP false (v8 rs) (.tup []) S=_;unfold eqP;rw [kF];show (if PyData.canLay0 (.tuple (rs.map pR))=true/\PyData.canLay0 (.tuple [])=true/\min (PyData.depth (.tuple (rs.map pR))) (PyData.depth (.tuple []))<=60 then ret (D.bl (PyData.eqv (.tuple (rs.map pR)) (.tuple []))) else bad) S=_;have hd:PyData.depth (.tuple [])<=60:=by simp [PyData.depth,PyData.depthAll]
 rw [if_pos ⟨by
  simp only [PyData.canLay0];exact N8 λr _=>by
   unfold pR;simp only [PyData.canLay0];exact N8 λb _=>by unfold pB;simp only [PyData.canLay0];exact K3 _,rfl,by omega⟩]
 cases rs <;> rfl
theorem nJ (qs:List Rnd) (r:Rnd) (S:Sto):ixD (v8 (r :: qs).reverse) (.int (-1)) S=.ok (k6 r) S:=by
 unfold v8;exact eI S (by simp)
theorem qT (qs:List Rnd) (r:Rnd) (S:Sto):slD (v8 (r :: qs).reverse) none (some (-1)) S=.ok (v8 qs.reverse) S:=by
 show R.ok (D.tup (B0 (((r :: qs).reverse).map k6) none (some (-1)))) S=_;unfold B0 v8;rw [HT.sIx_none];have e:HT.sIx (((r :: qs).reverse).map k6).length (((r :: qs).reverse).map k6).length (some (-1))=qs.length:=by
  rw [Aj,List.length_reverse];show (if (-1:Int)<0 then ((-1:Int)+((qs.length+1:Nat):Int)).toNat else min (-1:Int).toNat (qs.length+1))=_;rw [if_pos (by decide)];omega
 rw [e,Eb,Nat.sub_zero,List.reverse_cons,BB];rw [List.take_left' (by simp)]
theorem jM {m:Nat}:∀ {qs:List Rnd} {h:Int} (k:Nat),Wv m qs h->∀ S,Ok (rn (k+(qs.length+3)) pi [v8 qs.reverse,.int h]) S λd S'=>d=vw qs h/\Ex S S'
 | [],h,k,w,S=>by
  rw [show k+(([]:List Rnd).length+3)=(k+2)+1 from rfl,rn,d7 (fd:=dE) rfl,eC];refine Ok.eq (nE _ S)<|Ok.eq (a:=true) (S1:=S) rfl ?_;rw [if_pos rfl];exact Ok.ret ⟨rfl,Ex.refl S⟩
 | r :: qs,h,k,w,S=>by
  rw [show k+((r :: qs).length+3)=(k+(qs.length+3))+1 from rfl,rn,d7 (fd:=dE) rfl,eC];refine Ok.eq (nE _ S)<|Ok.eq (a:=false) (S1:=S) (by cases hq:(r :: qs).reverse with | nil=>simp at hq | cons a b=>rfl) ?_;rw [if_neg (by decide)];refine nx_bind<|Ok.eq (a:=.int (-1)) (S1:=S) rfl<|Ok.eq (nJ qs r S)<|Ok.bind ((nR w.1 w.2.2.2.1 w.2.2.2.2 (k+(qs.length+1)) S).mono ?_);rintro _ S1 ⟨rfl,x1⟩;refine Ok.eq (a:=(v1 ((sn r h).map D.int),((sn r h).map D.int).length+1)) (S1:=S1) rfl ?_;rw [Aj];have sl:=D6 r h;refine (Ok.comp (n:=(sn r h).length) (λi S' es=>es=((sn r h).take i).map (vw qs)/\Ex S S') (λS' es _=>?_) ?_ ⟨rfl,x1⟩).mono ?_
  ·show some ((sn r h).map D.int)[(sn r h).length]?=_;rw [AJ (by simp)]
  ·rintro i S' es hi ⟨rfl,ex⟩;have eb:(sn r h)[i]?=some (sn r h)[i]:=Ak hi;refine ⟨.int (sn r h)[i],by show some ((sn r h).map D.int)[i]?=_;rw [j3 eb],Ok.ret ?_⟩;rw [if_pos rfl];refine Ok.eq (a:=.int (-1)) (S1:=S') rfl<|Ok.eq (a:=some (-1)) (S1:=S') rfl<|Ok.eq (qT qs r S')<|Ok.bind ((jM k (w.2.1 _ (B1 (AU hi))) S').mono ?_);rintro _ S2 ⟨rfl,x2⟩;refine Ok.ret ⟨by rw [Aj,Bf];exact aN (by have:=w.2.2.2.1;omega),?_,ex.trans x2⟩;rw [AO hi,BB];rfl
  ·rintro es S' ⟨rfl,ex⟩;rw [Cs];exact Ok.eq (a:=.tup ((sn r h).map (vw qs))) (S1:=S') rfl<|Ok.ret ⟨rfl,ex⟩
def B13:List Int:=[0,1,2,8,9,10,11,99,100,101,100000000,999999999,1000000000]
theorem ou:B13.Nodup:=by decide
theorem qA:∀ x∈B13,0<=x/\x<=1000000000:=by decide
structure GOk (g:List Int) (m:Nat):Prop where
 l:g.length=m
 nd:g.Nodup
 bd:∀ x∈g,0<=x/\x<=1000000000
theorem V1 {ns:List Int} {p N m:Nat} {S:Sto} (F:Ft ns p (N+m) S) (h6:m<=6) (k:Nat):Ok (rn (k+2) rG [.ref p,.int (m:Int)]) S λd S'=>Ft ns p N S'/\∃ g:List Int,d=.tup (g.map D.int)/\GOk g m:=by
 rw [rn,d7 (fd:=pT) rfl,nr];refine Ok.eq (S1:=S) (a:=.int 100000000) (by kernel_rfl)<|Ok.eq (S1:=S) (a:=.int 1000000000) (by kernel_rfl)<|Ok.eq (S1:=S) (a:=.int 999999999) (by kernel_rfl)<|Ok.eq (S1:=S) (a:=.int 1000000000) (by kernel_rfl)<|Ok.eq (show newL [(.int 0),(.int 1),(.int 2),(.int 8),(.int 9),(.int 10),(.int 11),(.int 99),(.int 100),(.int 101),.int 100000000,.int 999999999,.int 1000000000] S=.ok (.ref S.length) (S++[.lst (B13.map D.int)]) from rfl) ?_;have F1:Ft ns p (N+m) (S++[.lst (B13.map D.int)]):=F.keep (by rw [AC (A7 F)]);have e1:(S++[O.lst (B13.map D.int)])[S.length]?=some (.lst (B13.map D.int)):=by simp
 have qp:S.length≠p:=by have:=A7 F;omega
 generalize S++[O.lst (B13.map D.int)]=S1 at F1 e1;generalize S.length=q at e1 qp;refine nx_bind<|Ok.eq (L6 (n:=m) (by omega) _) ((Ok.comp (n:=m) (λi S' es=>Ft ns p (N+(m-i)) S'/\∃ left g:List Int,S'[q]?=some (.lst (left.map D.int))/\es=g.map D.int/\g.length=i/\left.length=13-i/\(left++g).Perm B13) (λS' es _=>N5 m S') ?_ ⟨F1.less (by omega),B13,[],e1,rfl,rfl,rfl,by simp⟩).mono ?_)
 ·rintro i S' es hi ⟨F2,left,g,e2,rfl,gl,ll,pm⟩;refine ⟨.int (i:Int),Z2 hi S',Ok.ret ?_⟩;rw [if_pos rfl];refine Ok.eq (S1:=S') (a:=left.map D.int) (by simp only [lstOf,e2])<|Ok.eq (S1:=S') (a:=.int (left.length:Int)) (by simp only [A5,e2,Aj])<|Ok.bind ((z5 (N:=N+(m-(i+1))) (m:=left.length) (F2.less (by omega)) (by omega) (by omega) k).mono ?_);rintro _ S3 ⟨j,rfl,hj,F3,_,o3⟩;have e3:S3[q]?=some (.lst (left.map D.int)):=by rw [o3 q qp];exact e2
  refine Ok.eq (mn e3 (j3 (Ak hj)) (by omega))<|Ok.ret ⟨by rw [Aj,AF];omega,F3.keep (by rw [Bb qp]),left.eraseIdx j,g++[left[j]],?_,by rw [BB];rfl,by simp [gl],by rw [List.length_eraseIdx_of_lt hj];omega,?_⟩
  ·rw [AW (Au.mp e3).1,L4]
  ·refine List.Perm.trans ?_ pm;have p1:(left[j] :: left.eraseIdx j).Perm left:=Y7 hj;refine List.Perm.trans ?_ (p1.append_right g);rw [<- BN];exact List.perm_append_comm
 ·rintro es S' ⟨F2,left,g,_,rfl,gl,_,pm⟩;refine Ok.eq (a:=.tup (g.map D.int)) rfl<|Ok.ret ⟨F2.less (by omega),g,rfl,gl,?_,λx hx=>qA x (pm.mem_iff.mp (Ar _ hx))⟩;exact (List.nodup_append.mp (pm.nodup_iff.mpr ou)).2.1
theorem ke (ns:List Int) (S:Sto) (k:Nat):∃ ms:List Int,rn (k+1) nz [.scr (ns.map D.int)] S=.ok (.ref S.length) (S++[d6 ms 0 0 0]):=by
 obtain ⟨ms,em⟩:=jf ns;refine ⟨ms,?_⟩;rw [rn,d7 (fd:=gu) rfl,lx,a8 (show slD (.scr (ns.map D.int)) none (some 63) S=.ok (.lst (B0 (ns.map D.int) none (some 63))) S from rfl),em];rfl
theorem Y6 (x:Str) (S:Sto):j4 .NotEq (.str x) (.str x) S=.ok (.bl false) S:=by
 show R.ok (D.bl (!decide (x=x))) S=_;rw [By rfl];rfl
def VN:Nat->Nat
 | 0=>127
 | t+1=>(((VN t+2) * 6+3)+2) * 2+3
theorem nD:∀ {t:Nat},t<=4->VN t<=3000000
 | 0,_ | 1,_ | 2,_ | 3,_ | 4,_=>by decide
 | t+5,h=>by omega
theorem eL:∀ t:Nat,127<=VN t
 | 0=>Ap _
 | t+1=>by have:=eL t;unfold VN;omega
theorem emp_sml:Sml 1 3 (.tup []):=Sml.tup (n:=0) (N:=0) (m:=0) Smls.nil (Ap _)
theorem aV {n N:Nat} {h:Int} (h0:0<=h) (h1:h<=1000000000) (hN:60<=N):Sml n N (.int h):=by
 obtain ⟨j,rfl⟩:=CJ h0;exact Sml.big (by omega) hN
theorem eQ {n N t:Nat} {h:Int} {ds:List D} (h0:0<=h) (h1:h<=1000000000) (hs:Smls n N ds) (hl:ds.length<=6) (hN:60<=N):Sml (n+2) (((N+2) * 6+3+2) * 2+3) (.tup [.int h,.tup ds]):=
 Sml.tup (n:=n+1) (N:=(N+2) * 6+3) (m:=2) (.cons (aV h0 h1 (by omega)) (.cons (Sml.tup hs hl) .nil)) (Ap _)
theorem P0 {h:Int} (h0:0<=h) (h1:h<=1000000000):Sml 2 127 (.tup [.int h,.tup []]):=
 Sml.tup (n:=1) (N:=60) (m:=2) (.cons (aV h0 h1 (by omega)) (.cons emp_sml.up .nil)) (Ap _)
theorem iI {m:Nat} (m6:m<=6) {h:Int} (hh:h∈rgL m):0<=h/\h<=1000000000:=by
 unfold rgL at hh;obtain ⟨j,hj,rfl⟩:=Cr.mp hh;have:=Bd.mp hj;omega
theorem gZ {m:Nat} (m6:m<=6):∀ {rs:List Rnd} {h:Int},Wv m rs h->Sml (2 * rs.length+2) (VN rs.length) (vw rs h)
 | [],h,w=>P0 (iI m6 w).1 (iI m6 w).2
 | r :: rs,h,w=>by
  have b:=iI m6 (L7 w h (by simp [hin]));have sl:=D6 r h;have g:=eL rs.length;exact eQ (t:=0) (n:=2 * rs.length+2) (N:=VN rs.length) b.1 b.2 (Smls.map λc hc=>gZ m6 (w.2.1 c (B1 hc))) (by rw [Aj];have:=w.2.2.2.1;omega) (by omega)
theorem eO {gs:List Int} {f:Int->Nat} (hf:∀ x,f x<=1000000000):∀ {rs:List Rnd},(∀ r∈rs,r.flatten.length<=6)->∀ h,Sml (2 * rs.length+2) (VN rs.length) (plc gs f rs h)
 | [],_,h=>P0 (by omega) (by have:=hf h;omega)
 | r :: rs,hr,h=>by
  have sl:=D6 r h;have g:=eL rs.length;have r6:=hr r (by simp);have lp:∀ i∈sPl ((sn r h).map (gr gs)),i<(sn r h).length:=λi hi=>by have:=aX hi;rwa [Aj] at this
  show Sml _ _ (.tup [.int (f h:Int),.tup (e6 .non (sPl ((sn r h).map (gr gs))) ((sn r h).map (plc gs f rs)))]);rw [Q3 lp];refine eQ (t:=0) (n:=2 * rs.length+2) (N:=VN rs.length) (by omega) (by have:=hf h;omega) (Smls.map λc hc=>eO hf (λa ha=>hr a (Aw _ ha)) c) ?_ (by omega);unfold e6;rw [Aj,Aj,B6,Aj];omega
theorem hE {m:Nat} (m6:m<=6) {g:List Int} (G:GOk g m):Sml 1 400 (.tup (g.map D.int)):=
 (Sml.tup (n:=0) (N:=60) (m:=6) (Smls.map λx hx=>aV (G.bd x hx).1 (G.bd x hx).2 (Ap _)) (by rw [Aj,G.l];exact m6)).up
theorem nL (gs:List Int) (h:Int):rkH gs (srt (b9 [h])) h=0:=by
 unfold rkH;rw [List.countP_eq_zero];intro y hy;have:=AX.mp (uniq_mem.mp ((b7 _).mem_iff.mp hy));rw [this];simp
theorem jH {m:Nat} (m6:m<=6) {gs l:List Int} (hl:∀ x∈l,x∈rgL m) (x:Int):rkH gs (srt (b9 l)) x<=1000000000:=by
 have h1:rkH gs (srt (b9 l)) x<=(srt (b9 l)).length:=List.countP_le_length;rw [(b7 _).length_eq] at h1;have:=G5 hl;omega
section
variable {m:Nat} (m6:m<=6) {rs:List Rnd} {h:Int} (w:Wv m rs h) (h4:rs.length<=4) (r6:∀ r∈rs,r.flatten.length<=6)
include m6 w h4 r6
theorem hR {gs:List Int} (G:GOk gs m) {o0 o1 o2 o3 o4 o5 o6 o7 o9:Option D} (S:Sto):Ok (m3 (rn 11) [o0,o1,o2,o3,o4,o5,o6,o7,some (vw rs h),o9,some (.tup (gs.map D.int))]) S λfl S'=>fl=.nx [o0,o1,o2,o3,o4,o5,o6,o7,some (vw rs h),o9,some (.tup (gs.map D.int))]/\Ex S S':=by
 unfold m3;rw [C6];have e:∃ k,11=k+(rs.length+2):=⟨9-rs.length,by omega⟩;obtain ⟨k,e⟩:=e;rw [e];have sm:=eO (gs:=gs) (f:=rkH gs (srt (b9 (hin rs h)))) (jH m6 (L7 w)) r6 h;have vn:=nD h4;refine Ok.first<|Ok.cg (J3 ..)<|Ok.eq (mq G.l m6 G.nd w h4 k S)<|Ok.eq (sm.repr (by omega) (by omega) S)<|Ok.bind ((pq G.l m6 G.nd w h4 k S).mono ?_);rintro _ S1 ⟨rfl,ex⟩;exact Ok.eq (sm.repr (by omega) (by omega) S1)<|Ok.eq (Y6 _ S1)<|Ok.eq (W8 _ S1)<|Ok.neg (by decide)<|Ok.ret ⟨rfl,ex⟩
theorem kW {g1 g2:List Int} (G1:GOk g1 m) (G2:GOk g2 m) {o0 o1 o2 o3 o4 o8 o9 o10:Option D} (S:Sto):Ok (A1 (rn 11) [o0,o1,o2,o3,o4,some (v8 rs.reverse),some (.lst [.tup (g1.map D.int),.tup (g2.map D.int)]),some (.int h),o8,o9,o10]) S λfl S'=>(∃ p8 p9 p10,fl=.nx [o0,o1,o2,o3,o4,some (v8 rs.reverse),some (.lst [.tup (g1.map D.int),.tup (g2.map D.int)]),some (.int h),p8,p9,p10])/\Ex S S':=by
 unfold A1;rw [N2];have e:∃ k,11=k+(rs.length+3):=⟨8-rs.length,by omega⟩;obtain ⟨k,e⟩:=e;have vn:=nD h4;have vg:=eL rs.length;have V:=jM k w S;rw [<- e] at V;refine Ok.first<|Ok.cg (U6 ..)<|Ok.bind (V.mono ?_);rintro _ S1 ⟨rfl,x1⟩;have sv:=gZ m6 w;have sl:Sml 2 900 (.lst [.tup (g1.map D.int),.tup (g2.map D.int)]):=(Sml.lst (n:=1) (N:=400) (m:=2) (.cons (hE m6 G1) (.cons (hE m6 G2) .nil)) (Ap _)).up;have sp:Sml (2 * rs.length+2+1) ((VN rs.length+900+2) * 2+3) (.tup [vw rs h,.lst [.tup (g1.map D.int),.tup (g2.map D.int)]]):=Sml.tup (m:=2) (.cons (sv.mono (by omega) (by omega)) (.cons (sl.mono (by omega) (by omega)) .nil)) (Ap _);refine Ok.nxt<|Ok.cg (U2 ..)<|Ok.eq (sp.repr (by omega) (by omega) S1)<|Ok.nxt<|Ok.cg (U5 ..) ?_;refine Ok.eq (a:=.lst [.tup (g1.map D.int)]) (S1:=S1) rfl<|Ok.eq (a:=.lst [.tup (g1.map D.int),.tup (g2.map D.int),.tup (g1.map D.int)]) (S1:=S1) (by kernel_rfl)<|Ok.eq (a:=(v1 ([g1,g2,g1].map λg=>D.tup (g.map D.int)),[g1,g2,g1].length+1)) (S1:=S1) rfl ?_;refine Ok.bind ((Ok.for_ (n:=[g1,g2,g1].length) (λi ρ S'=>Ex S S'/\∃ o:Option D,ρ=[o0,o1,o2,o3,o4,some (v8 rs.reverse),some (.lst [.tup (g1.map D.int),.tup (g2.map D.int)]),some (.int h),some (vw rs h),some (.str (py (.tup [vw rs h,.lst [.tup (g1.map D.int),.tup (g2.map D.int)]])).shown),o]) (λ_ _=>False) (λ_ _=>False) (λρ S' _=>rfl) ?_ [g1,g2,g1].length 0 _ _ (by omega) ⟨x1,_,rfl⟩).mono ?_)
 ·rintro i ρ S' hi ⟨ex,o,rfl⟩;have G:GOk [g1,g2,g1][i] m:=by
   have:=AU hi;generalize [g1,g2,g1][i]=g at this;simp at this;rcases this with rfl | rfl | rfl
   ·exact G1
   ·exact G2
   ·exact G1
  refine ⟨.tup ([g1,g2,g1][i].map D.int),_,by show some ([g1,g2,g1].map λg=>D.tup (g.map D.int))[i]?=_;rw [j3 (Ak hi)],rfl,?_⟩;refine (hR m6 w h4 r6 G S').mono ?_;rintro _ S2 ⟨rfl,x2⟩;exact ⟨ex.trans x2,_,rfl⟩
 ·intro fl S' q;cases fl with
  | nx ρ=>
   rcases q with ⟨ex,o,rfl⟩ | q
   ·exact Ok.nxt<|Ok.cg (T9 ..)<|Ok.eq (sp.repr (by omega) (by omega) S')<|Ok.eq (Y6 _ S')<|Ok.eq (W8 _ S')<|Ok.neg (by decide)<|Ok.ret ⟨⟨_,_,_,rfl⟩,ex⟩
   ·exact q.elim
  | rt d=>exact q.elim
  | bk ρ=>exact q.elim
  | ct ρ=>exact q.elim
end
theorem lz {m:Nat} (m6:m<=6) {g1 g2:List Int} (G1:GOk g1 m) (S:Sto):Ok (bind (A4 [.int (m:Int)]) λsm2=>e9 sm2.1 (λd1=>bind (ixD (.lst [.tup (g1.map D.int),.tup (g2.map D.int)]) (.int 0)) λx3=>bind (rn 11 0 [x3,(.tup [d1,(.tup [])])]) λx4=>bind (q9 x4) λx5=>bind (q9 (.tup [(.int 0),(.tup [])])) λx6=>bind (j4 .NotEq x5 x6) λx7=>bind (asB x7) λz8=>ret z8) (λd1=>ret d1) sm2.2 0 []) S λl S'=>l=[]/\S'=S:=by
 refine Ok.eq (L6 (by omega) S) ?_;have cf:=i9 (src:=Z1 0 m) (l:=List.range m) (h:=λi:Nat=>D.int (i:Int)) (g:=λi:Nat=>D.int (i:Int)) (p:=λ_=>false) (t:=λd1=>bind (ixD (.lst [.tup (g1.map D.int),.tup (g2.map D.int)]) (.int 0)) λx3=>bind (rn 11 0 [x3,(.tup [d1,(.tup [])])]) λx4=>bind (q9 x4) λx5=>bind (q9 (.tup [(.int 0),(.tup [])])) λx6=>bind (j4 .NotEq x5 x6) λx7=>bind (asB x7) λz8=>ret z8) (f:=λd1=>ret d1) (S:=S) (λi=>cp _ i S) (aN (by rw [AN];omega)) (λi hi=>by
  have w:Wv m [] (i:Int):=CB hi;have t:=mq G1.l m6 G1.nd w (by simp) 9 S;have e:plc g1 (rkH g1 (srt (b9 (hin [] (i:Int))))) [] (i:Int)=.tup [.int 0,.tup []]:=by
   show D.tup [.int (rkH g1 (srt (b9 [(i:Int)])) (i:Int):Int),.tup []]=_;rw [nL];rfl
  rw [e] at t;have z:Sml 2 127 (.tup [.int 0,.tup []]):=P0 (by omega) (by omega);rw [a8 (show ixD (.lst [.tup (g1.map D.int),.tup (g2.map D.int)]) (.int 0) S=.ok (.tup (g1.map D.int)) S from rfl),a8 (show rn 11 0 [.tup (g1.map D.int),.tup [.int (i:Int),.tup []]] S=_ from t),a8 (z.repr (by omega) (by omega) S),a8 (z.repr (by omega) (by omega) S),a8 (Y6 _ S)];rfl) (λ_ _ _=>rfl)
 rw [AN] at cf;exact Ok.of cf ⟨by simp,rfl⟩
theorem oK (ns:List Int):∃ S',rn 12 ia [.scr (ns.map D.int)] []=.ok (.bl true) S':=by
 suffices h:Ok (rn 12 ia [.scr (ns.map D.int)]) [] λd _=>d=.bl true by
  obtain ⟨d,S',e,rfl⟩:=h;exact ⟨S',e⟩
 rw [rn,d7 (fd:=law_F) rfl,kI,mZ];obtain ⟨ms,ew⟩:=ke ns [] 10;refine Ok.first<|Ok.cg (se ..)<|Ok.eq ew ?_;have F0:Ft ms 0 900 ([]++[d6 ms 0 0 0]):=⟨0,0,0,by simp,by omega,by omega,by omega,by omega⟩;generalize ([]++[d6 ms 0 0 0]:Sto)=S0 at F0;show Ok (nxt _ _ _ _ (.nx [some (.scr (ns.map D.int)),some (.ref 0),none,none,none,none,none,none,none,none,none])) S0 _;refine Ok.nxt<|Ok.cg (tG ..)<|Ok.eq (L6 (n:=3) (by omega) _)<|Ok.bind ((Ok.for_ (n:=3) (λi ρ S'=>Ft ms 0 (100 * (3-i)) S'/\∃ (o2 o3 o4 o5 o6 o7 o8 o9 o10:Option D),ρ=[some (.scr (ns.map D.int)),some (.ref 0),o2,o3,o4,o5,o6,o7,o8,o9,o10]) (λ_ _=>False) (λ_ _=>False) (λρ S' _=>N5 3 S') ?_ 3 0 _ _ (by omega) ⟨F0.less (by omega),_,_,_,_,_,_,_,_,_,rfl⟩).mono ?_)
 ·rintro i ρ S hi ⟨F,o2,o3,o4,o5,o6,o7,o8,o9,o10,rfl⟩;refine ⟨.int (i:Int),_,Z2 hi S,rfl,?_⟩;unfold bA;rw [ar];generalize hN:100 * (3-(i+1))=N;refine Ok.first<|Ok.cg (fQ ..)<|Ok.bind ((mD (N:=N+99) (F.less (by omega)) 9).mono ?_);rintro _ S1 ⟨m,t,rfl,m0,m6,t0,t4,F1⟩;refine Ok.eq (a:=.nx [some (.scr (ns.map D.int)),some (.ref 0),some (.int (i:Int)),some (.int (m:Int)),some (.int (t:Int)),o5,o6,o7,o8,o9,o10]) (S1:=S1) rfl<|Ok.nxt<|Ok.cg (fL ..)<|Ok.bind ((eu (N:=N+34) F1 m0 m6 t0 t4 7).mono ?_);rintro _ S2 ⟨rs,rfl,r0,r4,rg,ch,F2⟩;refine Ok.nxt<|Ok.cg (eV ..)<|Ok.bind ((V1 (N:=N+20) (F2.less (by omega)) m6 9).mono ?_);rintro _ S3 ⟨F3,g1,rfl,G1⟩;refine Ok.bind ((V1 (N:=N) (F3.less (by omega)) m6 9).mono ?_);rintro _ S4 ⟨F4,g2,rfl,G2⟩;refine Ok.nxt<|Ok.cg (eZ ..)<|nx_bind<|(lz m6 G1 S4).mono ?_;rintro _ _ ⟨rfl,rfl⟩;refine Ok.eq (eJ [] _)<|Ok.eq (W8 _ _)<|Ok.neg (by decide)<|Ok.nxt<|Ok.cg (fI ..) ?_;cases eq:rs.reverse with
  | nil=>rw [List.reverse_eq_nil_iff] at eq;subst eq;simp at r0
  | cons r qs=>
   have er:rs=(r :: qs).reverse:=by rw [<- eq,List.reverse_reverse]
   have R:RS m r:=rg r (by rw [er];simp);have l4:(r :: qs).length<=4:=by rw [<- eq,List.length_reverse];exact r4
   rw [eq] at ch;rw [er];refine Ok.eq (a:=.int (-1)) (S1:=_) rfl<|Ok.eq (nJ qs r _)<|Ok.bind ((ng (r:=r) (by have:=R.fl;omega) (by have:=R.le;omega) 10 _).mono ?_);rintro _ S5 ⟨rfl,x5⟩;refine Ok.eq (a:=(v1 ((srt r.flatten).map D.int),((srt r.flatten).map D.int).length+1)) (S1:=S5) rfl ?_;rw [Aj];refine Ok.bind ((Ok.for_ (n:=(srt r.flatten).length) (λi' ρ S'=>Ft ms 0 N S'/\∃ (o7 o8 o9 o10:Option D),ρ=[some (.scr (ns.map D.int)),some (.ref 0),some (.int (i:Int)),some (.int (m:Int)),some (.int (t:Int)),some (v8 (r :: qs).reverse),some (.lst [.tup (g1.map D.int),.tup (g2.map D.int)]),o7,o8,o9,o10]) (λ_ _=>False) (λ_ _=>False) ?_ ?_ (srt r.flatten).length 0 _ _ (by omega) ⟨F4.keep (x5.at (A7 F4)),_,_,_,_,rfl⟩).mono ?_)
   ·intro ρ S' _;show some ((srt r.flatten).map D.int)[(srt r.flatten).length]?=_;rw [AJ (by simp)]
   ·rintro i' ρ S' hi' ⟨F,o7,o8,o9,o10,rfl⟩;refine ⟨.int (srt r.flatten)[i'],_,by show some ((srt r.flatten).map D.int)[i']?=_;rw [j3 (Ak hi')],rfl,?_⟩;have w:Wv m (r :: qs) (srt r.flatten)[i']:=nC ch (λa ha=>rg a (by rw [er];exact List.mem_reverse.mpr ha)) ((b7 _).mem_iff.mp (AU hi'));refine (kW m6 w l4 (λa ha=>(rg a (by rw [er];exact List.mem_reverse.mpr ha)).fl) G1 G2 S').mono ?_;rintro _ S6 ⟨⟨p8,p9,p10,rfl⟩,x6⟩;exact ⟨F.keep (x6.at (A7 F)),_,_,_,_,rfl⟩
   ·intro fl S' q;cases fl with
    | nx ρ=>
     rcases q with ⟨F,o7,o8,o9,o10,rfl⟩ | q
     ·exact Ok.ret ⟨F,_,_,_,_,_,_,_,_,_,rfl⟩
     ·exact q.elim
    | rt d=>exact q.elim
    | bk ρ=>exact q.elim
    | ct ρ=>exact q.elim
 ·rintro fl S1 hf;cases fl with
  | rt d=>exact hf.elim
  | bk ρ=>exact hf.elim
  | ct ρ=>exact hf.elim
  | nx ρ=>
   rcases hf with ⟨F,o2,o3,o4,o5,o6,o7,o8,o9,o10,rfl⟩ | hf
   ·exact Ok.nxt<|Ok.cg (sJ ..)<|Ok.ret rfl
   ·exact hf.elim
end L3.K42
section
namespace L3.K42
open PySem PySem.Spec PyProof.Rows L2 Hn
theorem all_mk {l:PySem.W.OpenLaw} {w:World} {K:PySem.W.Frag} {h:Heap} {mg:Str->Option Value} {fa tA g0 g1 g2 g3 g4 g5 g6 g7 g8 g9 g10 g11 g12 g13 g14 g15 g16:Addr} (X:K.In h) (G:h.Ns mainGlobals mg) (hfa:mg "law" = some (.ref fa))
  (rjk:bD K tA=false)
  (t4:(K.lookup tA).isNone=true)
  (rbl:(bnames.all λx=>(Γ.gl.lookup x).isSome||isNo (PySem.W.nsIn K mainGlobals x))=true)
  (dg0:GF K "type_of" (top 1) g0)
  (dg1:GF K "hands_in" (top 2) g1)
  (dg2:GF K "placed" (top 3) g2)
  (dg3:GF K "_law_tape" (top 5) g3)
  (dg4:GF K "_law_draw" (top 6) g4)
  (dg5:GF K "_law_shuffled" (top 7) g5)
  (dg6:GF K "_law_greats" (top 8) g6)
  (dg7:GF K "_law_hands" (top 9) g7)
  (dg8:GF K "_law_round" (top 10) g8)
  (dg9:GF K "_law_rounds" (top 11) g9)
  (dg10:GF K "_law_size" (top 12) g10)
  (dg11:GF K "_law_seen" (top 13) g11)
  (dg12:GF K "_law_view" (top 14) g12)
  (dg13:GF K "_law_in_view" (top 15) g13)
  (dg14:GF K "_law_put" (top 16) g14)
  (dg15:GF K "_law_type" (top 17) g15)
  (dg16:GF K "law" (top 18) g16) (t1:nv K g2 tA=true) (t3:decide (cZ K tA = "placed.<locals>.<lambda>")=true) :
  ∃ (fd:FuncData) (c:Addr) (cl:Nat->Addr),PySem.W.codeHdIn K c tA=true/\K.lookup tA=none/\cl 1000000=tA/\(∀ (s:Shared) (v:Value),BindsTo s fd ⟨[v],[]⟩ [("_law_script",v)])/\∀ base:Heap,K.In base->base.Ns mainGlobals mg->FnOk l.prog w K mg base CX0 15 fa fd ["_law_script"] (aL K cl):=by
 obtain ⟨cT,t1,t2⟩:=km t1;have t3:=Ck t3;have t4:=AR.mp t4;have e:=hfa.symm.trans (PySem.W.mg_of X G dg16.a);cases e;have RB:RowB K Γ [] tA:=⟨rfl,rjk,rfl,rfl,rfl,rfl,rbl⟩;obtain ⟨_,⟨oc,od,kV,dc,pm,an,cd,ct,sl,rfl,lk,hc⟩,kp⟩:=dg16.f;have FL:=gW lk hc kp;refine ⟨PySem.W.fnOf "law" "law" (u5 (top 18)) (j2 (top 18)) (c7 (top 18)) .none kV dc pm an cd ct,cT,U4 [] tA,t2,t4,rfl,λs v=>.of_eq rfl,λbase KB GB=>?_⟩
 let T:Tx:=⟨l.prog,w,K,mg,base,U4 [] tA⟩
 have st:TxSt T Γ:=by
  refine RB.st (T:=T) X G rfl (λx d e=>?_) (λx c fs e=>?_) (λx kvs e=>?_)
  ·have m:=L2.mem_of_lookup e;simp [Γ] at m
  ·have m:=L2.mem_of_lookup e;simp [Γ] at m
  ·have m:=L2.mem_of_lookup e;simp [Γ] at m
 have fs:iF T Γ Tb:=by
  refine sH ?_;refine And.intro (fe X G (T:=T) dg0 (by decide +kernel) (λ_ _ _ _ _ _ us hl=>bC hl λ_ _=>rfl) rfl rfl) ?_;refine And.intro (fe X G (T:=T) dg1 (by decide +kernel) (λ_ _ _ _ _ _ us hl=>fC hl λ_=>rfl) rfl rfl) ?_;refine And.intro (fe X G (T:=T) dg2 (m:=["lam"]) (by decide +kernel) (λ_ _ _ _ _ _ us hl=>np hl λ_ _ _=>rfl) rfl rfl (λ_=>⟨cT,t1,t2,t4,t3.symm⟩)) ?_;refine And.intro (fe X G (T:=T) dg3 (m:=["return"]) (by decide +kernel) (λ_ _ _ _ _ _ us hl=>fC hl λ_=>rfl) rfl rfl) ?_;refine And.intro (fe X G (T:=T) dg4 (by decide +kernel) (λ_ _ _ _ _ _ us hl=>bC hl λ_ _=>rfl) rfl rfl) ?_;refine And.intro (fe X G (T:=T) dg5 (m:=["_law_left"]) (by decide +kernel) (λ_ _ _ _ _ _ us hl=>bC hl λ_ _=>rfl) rfl rfl) ?_;refine And.intro (fe X G (T:=T) dg6 (m:=["_law_some"]) (by decide +kernel) (λ_ _ _ _ _ _ us hl=>bC hl λ_ _=>rfl) rfl rfl) ?_;refine And.intro (fe X G (T:=T) dg7 (m:=["_law_found"]) (by decide +kernel) (λ_ _ _ _ _ _ us hl=>fC hl λ_=>rfl) rfl rfl) ?_;refine And.intro (fe X G (T:=T) dg8 (m:=["_law_groups","[]"]) (by decide +kernel) (λ_ _ _ _ _ _ us hl=>bC hl λ_ _=>rfl) rfl rfl) ?_;refine And.intro (fe X G (T:=T) dg9 (m:=["_law_found"]) (by decide +kernel) (λ_ _ _ _ _ _ us hl=>np hl λ_ _ _=>rfl) rfl rfl) ?_;refine And.intro (fe X G (T:=T) dg10 (by decide +kernel) (λ_ _ _ _ _ _ us hl=>fC hl λ_=>rfl) rfl rfl) ?_;refine And.intro (fe X G (T:=T) dg11 (by decide +kernel) (λ_ _ _ _ _ _ us hl=>bC hl λ_ _=>rfl) rfl rfl) ?_;refine And.intro (fe X G (T:=T) dg12 (by decide +kernel) (λ_ _ _ _ _ _ us hl=>bC hl λ_ _=>rfl) rfl rfl) ?_;refine And.intro (fe X G (T:=T) dg13 (m:=["_law_found"]) (by decide +kernel) (λ_ _ _ _ _ _ us hl=>fC hl λ_=>rfl) rfl rfl) ?_;refine And.intro (fe X G (T:=T) dg14 (by decide +kernel) (λ_ _ _ _ _ _ us hl=>np hl λ_ _ _=>rfl) rfl rfl) ?_;refine And.intro (fe X G (T:=T) dg15 (by decide +kernel) (λ_ _ _ _ _ _ us hl=>bC hl λ_ _=>rfl) rfl rfl) ?_;refine And.intro (fe X G (T:=T) dg16 (by decide +kernel) (λ_ _ _ _ _ _ us hl=>fC hl λ_=>rfl) rfl rfl) ?_
  trivial
 have ok:=kt (Rs:=Rs) (T:=T) (k:=11) (i:=16) (fd:=u9 (top 18) []) (kc st fs 11) rfl FL rfl rfl (D3 (by decide +kernel));exact FnOk.imp ok (bj oK)
end L3.K42
open PySem PySem.W PyProof.Rows
set_option maxRecDepth 100000 in
set_option maxHeartbeats 0 in
theorem PySem.Challenge.cw_handnames_k42_types_holds : PySem.Challenge.rw_handnames_k42_types.Holds := by
 w_on;o_law;k_head;(case hw=>w_witness2)
 k_fill
 refine L3.walk_tab (l:=PySem.Challenge.rw_handnames_k42_types) (n:=63) (k:=15) (x:="_law_script") rfl (by decide) rfl ⟨λ_=>rfl,by decide,by decide,rfl⟩ (λw h Y=>⟨PySem.W.km_in_of Y,PySem.W.km_tabs_of Y _ (List.Mem.head _)⟩) ?F
 case F=>
  intro w mg fa h KX G hmg;refine' L3.K42.all_mk KX G hmg ?_ ?_ ?_ ?_ ?_ ?_ ?_ ?_ ?_ ?_ ?_ ?_ ?_ ?_ ?_ ?_ ?_ ?_ ?_ ?_ ?_ ?_
  rotate_left 17
  iterate 3 kernel_rfl
  iterate 17 (refine' L3.gf_mk ?a ?l ?c ?k;(case a=>k_is);(case l=>k_is);(case c=>k_is);(case k=>k_is))
  iterate 2 kernel_rfl
end
