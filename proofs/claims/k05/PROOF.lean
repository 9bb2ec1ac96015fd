import PyProof.Rows.All
import Wide.All
import OpenK.AllK
import Wide.FinOn
import Lean
import PyProof.EqAt
import PyProof.EqKinds
import PyProof.TupleCall
import PyProof.CompUse
import PyProof.P3Eq
import PyProof.NeData
import PyProof.P3In
import PyProof.EnumMake
import PyProof.Draws
import PyProof.ConsumeWalk
import PyProof.Rows.SetFrom
import PyProof.SetRoads
import PyProof.Rows.SortWalk
import PyProof.ListRange
import PyProof.WalksMore
import PySem.Challenge.RW_handnames_k05_sentences_of_any_thing
set_option Elab.async false
set_option linter.all false
set_option bootstrap.genMatcherCode false
set_option maxRecDepth 100000
set_option maxHeartbeats 4000000
local macro_rules (kind:=Lean.Parser.Command.declaration)
|s=>do
 if (s[1].isOfKind ``Lean.Parser.Command.definition||s[1].isOfKind ``Lean.Parser.Command.abbrev)&&s[0].getArgs.all (·.isNone) then return s.setArg 0 (<-`(command|noncomputable def x:=0)).raw[0]
 else Lean.Macro.throwUnsupported
local macro_rules|`(tactic|omega)=>`(tactic|first|with_reducible assumption|with_reducible exact Nat.le_refl _|exact Nat.zero_le _|exact Nat.succ_pos _|exact Nat.le_of_lt (by with_reducible assumption)|exact Nat.lt_succ_of_le (by with_reducible assumption)|exact Nat.le_trans (by with_reducible assumption) (by decide)|exact Nat.lt_of_le_of_lt (by with_reducible assumption) (by decide)|exact Nat.lt_of_lt_of_le (by with_reducible assumption) (by decide)|lia|omega +splitDisjunctions)
namespace PySem.W.Fast
def tw65466901177530118:=0
def tw3509523145602585282:=0
def tw8413303526745172043:=0
def tw5064163059364233447:=0
def tw17562201872132424420:=0
def tw7241685501328992340:=0
def tw9103558616633054103:=0
def tw13895399914906777939:=0
def tw10732367828052610717:=0
def tw9766495426572582005:=0
def tw8887892974987852103:=0
def tw7900364348451387532:=0
def tw3397943927478335768:=0
def tw15080119054711656740:=0
def tw2034036870148834361:=0
def tw9546026898146006695:=0
def tw8585583274376937310:=0
def tw9562421705801988662:=0
def tw16818652646138464978:=0
def tw6839235256907529651:=0
def tw17415426012174215989:=0
def tw2855673978463758152:=0
def tw14333491348847216270:=0
def tw8155586560212501642:=0
def tw5835288655432843355:=0
def tw8736068313907946912:=0
def tw10394410263075105654:=0
def tw12305852647070956650:=0
def tw10613460963758882644:=0
def tw14036262460561833032:=0
def tw2097791668163001218:=0
def tw9360210151572652136:=0
def tw2030319989200351082:=0
def tw17509811670081359538:=0
def tw5033535576439862952:=0
def tw11979157247773437003:=0
def tw11462636644972590952:=0
def tw18053710101483344924:=0
def tw16520609648144528984:=0
def tw5338268506796950510:=0
def tw17913007116359356823:=0
def tw16423047379629982371:=0
def tw1656339629676188989:=0
def tw6179972113563914215:=0
def tw15875619808819367544:=0
def tw16562731879100294511:=0
def tw17067411641987635141:=0
def tw10809661128487025011:=0
def tw13584030833156165600:=0
def tw2560364837853673371:=0
def tw2457721727150028106:=0
def tw5677295407763997307:=0
def tw4696404288310848131:=0
def tw3544413909337181168:=0
def tw10927662976703593814:=0
def tw10827396926872165348:=0
def tw11494766454554978846:=0
def tw10226298239938554029:=0
def tw8138359710151725526:=0
def tw2831474939284699166:=0
def tw4833269419569971028:=0
def tw4809041913608543110:=0
def tw652010613819238461:=0
def tw5622848137213120525:=0
def tw17309455810388351337:=0
def tw4823839074680317172:=0
def tw12136351606966667338:=0
def tw16334828970355565713:=0
def tw12915722228598034951:=0
def tw9556668078467632954:=0
def tw4697097189232650025:=0
def tw4419452654039772859:=0
def tw6691786427473750124:=0
def tw460814663757689562:=0
def tw17771051765005272477:=0
def tw7140263615593984505:=0
def tw6834403426299222910:=0
def tw16133744730821623891:=0
def tw17471845140511525344:=0
def tw17166110203903230622:=0
def tw2987471420301633957:=0
def tw8069521942376919263:=0
def tw17106294366106466080:=0
def tw11629493288700746933:=0
def tw6557001490601107245:=0
def tw1148496177957990559:=0
def tw5851219106454906605:=0
def tw4675242918233349607:=0
def tw15628477591297152356:=0
def tw16407051645956972897:=0
def tw3881662010491523272:=0
def tw14171550304270747129:=0
def tw5590900573651991435:=0
def tw9191645976104752526:=0
def tw8506273836897092099:=0
def tw13585864610533317742:=0
def tw8494901050208584436:=0
def tw11143621775644426877:=0
def tw12190088900313630407:=0
def tw9402743661580382227:=0
def tw2940327916469895901:=0
def tw11874207701997469266:=0
def tw10613234141119929746:=0
def tw451852704140613049:=0
def tw2292517879791080710:=0
def tw7793898996841271932:=0
def tw8052768414159973103:=0
def tw10110197288439955172:=0
def tw7399688643731486383:=0
def tw381464060335543346:=0
def tw2658112793756906304:=0
def tw32470353958347927:=0
def tw15821621666379260461:=0
def tw10246262484345948259:=0
def tw9728902548164419908:=0
def tw13938523628156396408:=0
def tw13688196048471357012:=0
def tw3000793398175525640:=0
def tw4687595587561376599:=0
def tw9819083138488757285:=0
def tw11217677371678204909:=0
def tw14177028333221076154:=0
def tw10720716213469489286:=0
def tw3253769122220890294:=0
def tw15411384047623855082:=0
def tw17309654534962199321:=0
def tw10016260173882597909:=0
def tw9394135281740759421:=0
def tw2384082662794369019:=0
def tw15438593762530422499:=0
def tw7129359486695016251:=0
def tw11416854580689906989:=0
def tw12087992503514427501:=0
def tw15872913387892803525:=0
def tw16909003609806021986:=0
def tw12467486602558335442:=0
def tw3754102601565532207:=0
def tw5522089522806798340:=0
def tw13832892856907155011:=0
def tw16995481890678579965:=0
def tw6664422849764779866:=0
def tw7928276795105862795:=0
def tw17265757878151164227:=0
def tw3411590875376916627:=0
def tw7338303350039765830:=0
def tw10976420582129121481:=0
def tw1541557648019727414:=0
def tw7882419322161207961:=0
def tw7830498885753959410:=0
def tw5557460003469787494:=0
def tw7033800338676044222:=0
def tw12709711334723397293:=0
def tw15571519117035309358:=0
def tw17515852196083171168:=0
def tw14276850854060996224:=0
def tw3202869842418277757:=0
def tw12566520940080395753:=0
def tw3650278919943563758:=0
def tw5845921179227414630:=0
end PySem.W.Fast
def Af:=@PySem.wpAny_bind
def Ag:=@Bool.and_eq_true
def Ah:=@PySem.Heap.get?_push_of_some
def Ai:=@PySem.wpAny_pure
def Aj:=@Nat.le_refl
def Ak:=@Bool.false_ne_true
def Al:=@List.getElem?_eq_some_iff
def Am:=@List.size_toArray
def An:=@PySem.Heap.lt_size
def Ao:=@decide_eq_false
def Ap:=@List.mem_cons_self
def Aq:=@decide_eq_true_eq
def Ar:=@List.mem_cons
def As:=@List.getElem?_eq_getElem
def At:=@Nat.ne_of_lt
def Au:=@decide_eq_true
def Av:=@List.mem_cons_of_mem
def Aw:=@PySem.Heap.get?_push_size
def Ax:=@List.mem_append
def Ay:=@List.all_eq_true
def Az:=@List.getElem?_append_left
def AA:=@Nat.lt_of_lt_of_le
def AB:=@List.mem_singleton
def AC:=@List.mem_append_right
def AD:=@Option.some.inj
def AE:=@List.length_map
def AF:=@List.mem_of_getElem?
def AG:=@List.map_cons
def AH:=@List.not_mem_nil
def AI:=@List.getElem_mem
def AJ:=@List.length_append
def AK:=@PySem.sizeLine_eq
def AL:=@Nat.le_of_ble_eq_true
def AM:=@PySem.wpAny_holding
def AN:=@PySem.wpAny_newObj_type
def AO:=@Nat.zero_le
def AQ:=@PyProof.Rows.slot_tuple_getitem
def AR:=@List.getElem?_map
def AS:=@of_decide_eq_true
def AT:=@List.getElem?_set_self
def AU:=@Array.length_toList
def AV:=@Nat.lt_succ_of_lt
def AW:=@PySem.F.slot_dict_get
def AX:=@Option.isSome_iff_exists
def AY:=@Nat.le_trans
def AZ:=@List.getElem?_set_ne
def Ba:=@List.length_cons
def Bb:=@List.find?_cons
def Bc:=@Option.isNone_iff_eq_none
def Bd:=@Nat.lt_succ_self
def Be:=@List.all_cons
def Bf:=@List.append_nil
def Bg:=@PySem.W.kia_one
def Bh:=@List.replicate_succ
def Bi:=@PyProof.Rows.F.plain_set_update_loop
def Bj:=@Option.map_eq_some_iff
def Bk:=@PySem.F.entry_dict_get
def Bl:=@List.take_of_length_le
def Bm:=@List.length_take
def Bn:=@PySem.wpAny_Call_Name_kw
def Bo:=@List.getElem?_append_right
def Bp:=@PySem.wpAny_passesOwn
def Bq:=@PySem.wpAny_field
def Br:=@or_false
def Bs:=@Bool.not_eq_true'
def Bu:=@List.any_cons
def Bv:=@List.filterMap_cons
def Bw:=@PySem.mem_of_lookup
def Bx:=@List.mem_range
def By:=@PySem.Heap.get?_update_other
def Bz:=@Bool.eq_iff_iff
def BA:=@List.map_append
def BB:=@PySem.W.mg_of
def BC:=@List.length_replicate
def BD:=@PyProof.Rows.callWith_type1
def BE:=@List.flatten_cons
def BF:=@Bool.eq_false_iff
def BG:=@PySem.wpAny_pyIter_list
def BH:=@List.reverse_cons
def BI:=@PySem.lookup_relabel_local
def BJ:=@PySem.codeAny_mono
def BK:=@List.length_drop
def BL:=@Nat.le_of_not_lt
def BM:=@PySem.wpAny_binaryOp_repeat_ref
def BN:=@List.getElem?_eq_none_iff
def BO:=@beq_eq_false_iff_ne
def BP:=@List.length_reverse
def BQ:=@PyProof.Rows.F.entry_set_update_loop
def BR:=@Nat.lt_irrefl
def BS:=@PySem.F.args_tuple_add_2
def BU:=@List.nodup_cons
def BV:=@PySem.Calls.spliced_cons
def BW:=@List.filterMap_map
def BX:=@PySem.call_meets
def BY:=@PySem.tupleKind_room_in1
def BZ:=@Int.emod_lt_of_pos
def Ca:=@PySem.F.entry_tuple_add
def Cb:=@PySem.wpAny_callSpecial?_slot
def Cc:=@PySem.F.args_dict_get_2
def Cd:=@PySem.F.plainAttrs_list
def Ce:=@PySem.Calls.spliced_nil
def Cg:=@PySem.F.slot_tuple_add
def Ch:=@PySem.Calls.callWith_builtin
def Ci:=@List.take_succ_eq_append_getElem
def Cj:=@PySem.Heap.get?_update_self
def Ck:=@List.getElem?_eq_none
def Cm:=@List.length_singleton
def Co:=@PySem.wpAny_mono
def Cp:=@PyProof.Rows.callWith_builtin1
def Cq:=@PySem.wpAny_call_entry
def Cr:=@PySem.typeIs_int
def Cs:=@List.lookup_cons
def Ct:=@Option.bind_some
def Cu:=@Prod.mk.injEq
def Cv:=@Bool.and_self
def Cw:=@Nat.le_succ
def Cy:=@List.mem_of_mem_tail
def Cz:=@List.mem_iff_getElem
def CA:=@Array.getElem_toList
def CB:=@PySem.Around.under_plainId
def CC:=@List.eq_nil_of_length_eq_zero
def CD:=@Bool.or_eq_true
def CF:=@PySem.codeAny_builtin
def CG:=@List.find?_some
def CH:=@Int.emod_nonneg
def CI:=@PyProof.Rows.entry_tuple_getitem
def CJ:=@Nat.mul_le_mul_left
def CK:=@PySem.wpAny_typeOf
def CL:=@PySem.call_meetsIn
def CM:=@PySem.Calls.Name_function_global
def CN:=@Bool.false_and
def CO:=@PyProof.Rows.slicePart_none
def CP:=@PyProof.Rows.args_tuple_getitem
def CQ:=@PySem.Heap.IsSliceOf.new
def CS:=@List.getD_eq_getElem?_getD
def CT:=@PyProof.Rows.listItems_at
def CU:=@List.pairwise_iff_getElem
def CV:=@List.drop_eq_getElem_cons
def CW:=@PySem.wpAny_truthy_bool
def CY:=@List.take_sublist
def CZ:=@PySem.wpAny_sequenceKey
def Da:=@List.nodup_append
def Db:=@PyProof.Rows.tupleItemsOf_
def Dc:=@PySem.wpAny_getItem_list_slice
def Dd:=@PySem.wpAny_comprehension_free
def De:=@List.getElem_inj
def Df:=@List.getElem?_replicate
def Dg:=@PySem.noFill_tuple_add
def Dh:=@PySem.F.args_dict_get_3
def Di:=@PySem.F.plainAttrs_dict
def Dj:=@Int.eq_ofNat_of_zero_le
def Dk:=@PySem.wpAny_rule
def Dl:=@List.all_map
def Dm:=@Int.ne_of_gt
def Dn:=@List.mem_map
def Do:=@PySem.wpAny_execs_nil
def Dp:=@List.of_mem_zip
def Dq:=@List.length_nil
def Dr:=@PySem.W.mapOf_K
def Ds:=@PySem.Heap.size_push
def Dt:=@PySem.W.find_K
def Du:=@PySem.wpAny_standAt
def Dv:=@PySem.seq_tuple_add
def Dw:=@PySem.evalPart_none
def Dx:=@PySem.wpAny_call
def Dy:=@PySem.strKind_is
namespace L2
open PySem PySem.Spec PyProof.Rows
abbrev Key:=Sum Int Str
def V1:Key->Value->Bool
 | .inl k,v=>Value.isInt k v
 | .inr x,v=>Value.isStrOf x v
def vi (w:World):Key->Int
 | .inl k=>hashInt k
 | .inr x=>hashStr w x
theorem d7:∀ {k:Key} {v:Value},V1 k v=true->(∃ i t,k=Sum.inl i/\v=Value.int i t)\/(∃ x t,k=Sum.inr x/\v=Value.str x t)
 | .inl i,v,h=>by
  obtain ⟨t,e⟩:=Value.isInt_shape h;exact .inl ⟨i,t,rfl,e⟩
 | .inr x,v,h=>by
  obtain ⟨t,e⟩:=Value.isStrOf_shape h;exact .inr ⟨x,t,rfl,e⟩
theorem ff (i:Int) (t:Tok):V1 (.inl i) (.int i t)=true:=by simp [V1,Value.isInt]
theorem fR (x:Str) (t:Tok):V1 (.inr x) (.str x t)=true:=by simp [V1,Value.isStrOf]
theorem qJ (a b:Int):decide ((Sum.inl a:Key)=Sum.inl b)=(a==b):=by grind
theorem pE (a b:Str):decide ((Sum.inr a:Key)=Sum.inr b)=decide (a=b):=by grind
theorem oo (a:Int) (b:Str):decide ((Sum.inl a:Key)=Sum.inr b)=false:=by grind
theorem qO (a:Str) (b:Int):decide ((Sum.inr a:Key)=Sum.inl b)=false:=by grind
def c8 (prog:Program) (w:World):PySem.KeyKind prog w Key where
 is:=V1
 hash:=vi w
 inj:=λv a b f d=>by
  rcases d7 f with ⟨i,t,rfl,rfl⟩ | ⟨x,t,rfl,rfl⟩
  ·rcases d7 d with ⟨j,u,rfl,e⟩ | ⟨y,u,rfl,e⟩
   ·grind
   ·exact nomatch e
  ·rcases d7 d with ⟨j,u,rfl,e⟩ | ⟨y,u,rfl,e⟩
   ·exact nomatch e
   ·grind
 byValue:=λk v h=>by
  rcases d7 h with ⟨i,t,rfl,rfl⟩ | ⟨x,t,rfl,rfl⟩ <;> rfl
 pyHash:=λc h=>by
  rcases d7 c with ⟨i,t,rfl,rfl⟩ | ⟨x,t,rfl,rfl⟩
  ·exact wpAny_pyHash_int h
  ·exact wpAny_pyHash_str h
 eqBool:=λg c h=>by
  rcases d7 g with ⟨i,t,rfl,rfl⟩ | ⟨x,t,rfl,rfl⟩
  ·rcases d7 c with ⟨j,u,rfl,rfl⟩ | ⟨y,u,rfl,rfl⟩
   ·rw [qJ] at h;exact wpAny_eqBool_int h
   ·rw [oo] at h;exact SeqAt.EqAt.int_str i t y u _ _ _ _ h
  ·rcases d7 c with ⟨j,u,rfl,rfl⟩ | ⟨y,u,rfl,rfl⟩
   ·rw [qO] at h;exact SeqAt.EqAt.str_int x t j u _ _ _ _ h
   ·rw [pE] at h;exact wpAny_eqBool_str h
 «strs»:=λk x t v h=>by
  rcases d7 h with ⟨i,u,rfl,e⟩ | ⟨y,u,rfl,e⟩
  ·exact nomatch e
  ·injection e with e1 _;subst e1;cases v <;> rfl
theorem aX (prog:Program) (w:World) (i:Int) (t:Tok):(c8 prog w).is (.inl i) (.int i t)=true:=ff i t
theorem bP (prog:Program) (w:World) (x:Str) (t:Tok):(c8 prog w).is (.inr x) (.str x t)=true:=fR x t
inductive V where
 | non | bl (b:Bool) | int (i:Int) | str (x:Str) | byt (b:Array UInt8) | flt (b:UInt64) | ref (a:Addr) | ty (n:String)
 deriving DecidableEq
def RelV:V->Value->Prop
 | .non,u=>u=Value.none
 | .bl b,u=>u=Value.bool b
 | .int i,u=>∃ t,u=Value.int i t
 | .str x,u=>∃ t,u=Value.str x t
 | .byt b,u=>∃ t,u=Value.bytes b t
 | .flt b,u=>∃ t,u=Value.float b t
 | .ref a,u=>u=Value.ref a
 | .ty n,u=>u=Value.type n
abbrev Vals:List V->List Value->Prop:=Paired RelV
theorem Vals.length (r:Vals xs us):xs.length=us.length:=Paired.length r
theorem Vals.get:∀ {xs:List V} {us:List Value} {i:Nat} {x:V},Vals xs us->xs[i]?=some x->∃ u,us[i]?=some u/\RelV x u
 | _,_,_,_,.nil,e=>by simp at e
 | _,_,0,_,.cons r _,e=>by simp at e;subst e;exact ⟨_,rfl,r⟩
 | _,_,i+1,x,.cons _ t,e=>by
  obtain ⟨u,b,a⟩:=Vals.get t (by simpa using e);exact ⟨u,by simpa using b,a⟩
theorem Vals.set (r:RelV x u):∀ {xs:List V} {us:List Value} (i:Nat),Vals xs us->Vals (xs.set i x) (us.set i u)
 | _,_,_,.nil=>.nil
 | _,_,0,.cons _ t=>.cons r t
 | _,_,i+1,.cons q t=>.cons q (Vals.set r i t)
theorem Vals.append:∀ {xs ys:List V} {us ws:List Value},Vals xs us->Vals ys ws->Vals (xs++ys) (us++ws)
 | _,_,_,_,.nil,s=>s
 | _,_,_,_,.cons r t,s=>.cons r (Vals.append t s)
theorem Vals.take:∀ {xs:List V} {us:List Value} (n:Nat),Vals xs us->Vals (xs.take n) (us.take n)
 | _,_,0,_=>.nil
 | _,_,_+1,.nil=>.nil
 | _,_,n+1,.cons r t=>.cons r (Vals.take n t)
theorem Vals.drop:∀ {xs:List V} {us:List Value} (n:Nat),Vals xs us->Vals (xs.drop n) (us.drop n)
 | _,_,0,r=>r
 | _,_,_+1,.nil=>.nil
 | _,_,n+1,.cons _ t=>Vals.drop n t
def RelO:Option V->Option Value->Prop
 | some v,some u=>RelV v u
 | none,none=>True
 | _,_=>False
def KV {κ:Type}:List (κ×V)->List (κ×Value)->Prop:=Paired λ(p:κ×V) (q:κ×Value)=>p.1=q.1/\RelV p.2 q.2
def kV:Key->V
 | .inl i=>.int i
 | .inr x=>.str x
inductive HO where
 | lst (xs:List V)
 | tup (xs:List V)
 | dK (kvs:List (Key×V)) | dT (kvs:List (List Key×V))
 | set (S:Int->Bool) (n:Nat)
 | ins (C dx:Addr) (fs:List (Str×V))
 | own (x:Addr)
 | xd (fs:List (Str×V))
 | met (f x:Addr)
 | rng (lo hi:Int)
 | frz (o:Obj) (u:HO)
 | tbl (ps:Array Value)
 | ext (φ:Heap->Prop)
abbrev Hp:=Addr->Option HO
def upd (H:Hp) (a:Addr) (o:HO):Hp:=λb=>if b=a then some o else H b
theorem b4:upd H a o a=some o:=by unfold upd;rw [if_pos rfl]
theorem a4 {a b:Addr} {o:HO} (h:b≠a):upd H a o b=H b:=by unfold upd;rw [if_neg h]
theorem ia {H:Hp} {a b:Addr} {o u:HO} (h:H a=some o) (h':H b=some u) (d:o≠u):a≠b:=by grind
theorem a8 {H:Hp} {a b:Addr} {o:HO} (h:H a=some o) (h':H b=none):a≠b:=by grind
def TupN (h:Heap) (a:Addr) (items:Array Value):Prop:=∃ o,h.get? a=some o/\o.cls=.type "tuple"/\∃ n,o.data=.seq items n/\o.dict=none
theorem TupN.is (x:TupN h a items):IsTup h a items:=let ⟨o,e,c,n,d,_⟩:=x;⟨o,e,c,n,d⟩
theorem TupN.new (h:Heap) (items:Array Value):TupN (h.push { cls:=.type "tuple",data:=.seq items }) h.objs.size items:=⟨_,Aw _ rfl,rfl,_,rfl,rfl⟩
section
variable (P:Program) (w:World)
def ObjOk (H:Hp) (h:Heap) (a:Addr):HO->Prop
 | .lst xs=>xs.length<=sizeLine/\∃ (b:List Value) (n:Nat),Vals xs b/\h.get? a=some { cls:=.type "list",data:=.seq b.toArray n }
 | .tup xs=>xs.length<=sizeLine/\∃ b:List Value,Vals xs b/\TupN h a b.toArray
 | .dK c=>c.length<=sizeLine/\(a==sysModules)=false/\∃ vs,KV c vs/\h.DictOf (c8 P w) a vs
 | .dT c=>c.length<=sizeLine/\(a==sysModules)=false/\∃ xs:List (List Key×Addr×Value),
   Paired (λ(p:List Key×V) (q:List Key×Addr×Value)=>p.1=q.1/\H q.2.1=some (.tup (p.1.map kV))/\RelV p.2 q.2.2) c xs /\
   ∃ o es k,h.get? a=some o/\o.ExactDict/\o.data=.dict es k/\es.toList=xs.map (entryOfKey (tupleKind (c8 P w)))/\(xs.map (·.1)).Nodup
 | .set S n=>h.SetOf (intKind P w) a S n
 | .ins C d fs=>H d=some (.own a)/\fs.length<=1000/\d≠a/\h.get? a=some (PySem.W.instObj C d) /\
   ∃ mA,h.Ns1 d mA/\(∀ f,RelO (fs.lookup f) (mA f))/\PySem.Within mA (fs.map (·.1))
 | .own _=>∃ o,h.get? a=some o
 | .xd fs=>∃ mA,h.Ns1 a mA/\∀ f,RelO (fs.lookup f) (mA f)
 | .rng lo j=>∃ t u v,h.get? a=some { cls:=.type "range",data:=.fields #[.int lo t,.int j u,.int 1 v] }
 | .frz o u=>h.get? a=some o/\ObjOk H h a u
 | .tbl ps=>h.get? a=some { cls:=.none,data:=.fields ps }
 | .met f x=>h.get? a=some (PySem.W.methodObj (.ref f) (.ref x))
 | .ext e=>e h/\(∃ o,h.get? a=some o)/\∀ g i:Heap,e g->(∀ o,g.get? a=some o->i.get? a=some o)->e i
def HOk (H:Hp) (h:Heap):Prop:=∀ a o,H a=some o->ObjOk P w H h a o
end
section
variable {P:Program} {w:World} {H H':Hp} {h h':Heap} {a:Addr} {o:HO}
theorem ObjOk.lt (x:ObjOk P w H h a o):a<h.objs.size:=by
 cases o with
 | lst xs=>obtain ⟨_,_,_,_,e⟩:=x;exact An e
 | tup xs=>obtain ⟨_,_,_,p⟩:=x;exact p.is.lt
 | dK kvs=>obtain ⟨_,_,_,_,o,_,_,e,_⟩:=x;exact An e
 | dT kvs=>obtain ⟨_,_,_,_,o,_,_,e,_⟩:=x;exact An e
 | set S n=>obtain ⟨o,_,_,_,e,_⟩:=x;exact An e
 | ins C dx fs=>obtain ⟨_,_,_,e,_⟩:=x;exact An e
 | own y=>obtain ⟨_,e⟩:=x;exact An e
 | xd fs=>obtain ⟨_,⟨_,_,_,e,_⟩,_⟩:=x;exact An e
 | rng lo hi=>obtain ⟨_,_,_,e⟩:=x;exact An e
 | frz ob u=>obtain ⟨e,_⟩:=x;exact An e
 | tbl ps=>exact An (x)
 | met f y=>exact An (x)
 | ext φ=>obtain ⟨_,⟨_,e⟩,_⟩:=x;exact An e
theorem Paired.mapP:∀ {c:List α} {d:List β},Paired F c d->(∀ a b,F a b->G a b)->Paired G c d
 | _,_,.nil,_=>.nil
 | _,_,.cons r t,f=>.cons (f _ _ r) (Paired.mapP t f)
theorem ObjOk.stay (x:ObjOk P w H h a o) (k:∀ b u,(b=a\/H b=some (.own a))->h.get? b=some u->h'.get? b=some u)
  (ho:∀ b,H b=some (.own a)->H' b=some (.own a)) (ht:∀ b xs,H b=some (.tup xs)->H' b=some (.tup xs)):ObjOk P w H' h' a o:=by
 induction o with
 | lst xs=>obtain ⟨z,its,n,r,e⟩:=x;exact ⟨z,its,n,r,k _ _ (.inl rfl) e⟩
 | tup xs=>obtain ⟨z,its,r,ob,e,c⟩:=x;exact ⟨z,its,r,ob,k _ _ (.inl rfl) e,c⟩
 | dK kvs=>obtain ⟨z,y,vs,r,ob,es,ep,e,c⟩:=x;exact ⟨z,y,vs,r,ob,es,ep,k _ _ (.inl rfl) e,c⟩
 | dT kvs=>
  obtain ⟨z,y,xs,r,ob,es,ep,e,c⟩:=x;exact ⟨z,y,xs,Paired.mapP r λp q z=>⟨z.1,ht _ _ z.2.1,z.2.2⟩,ob,es,ep,k _ _ (.inl rfl) e,c⟩
 | set S n=>obtain ⟨ob,es,ep,t,e,c⟩:=x;exact ⟨ob,es,ep,t,k _ _ (.inl rfl) e,c⟩
 | ins C dx fs=>
  obtain ⟨d,z,ne,e,mA,⟨od,es,ep,e2,c⟩,r⟩:=x;exact ⟨ho _ d,z,ne,k _ _ (.inl rfl) e,mA,⟨od,es,ep,k _ _ (.inr d) e2,c⟩,r⟩
 | own y=>obtain ⟨ob,e⟩:=x;exact ⟨ob,k _ _ (.inl rfl) e⟩
 | xd fs=>obtain ⟨mA,⟨od,es,ep,e,c⟩,r⟩:=x;exact ⟨mA,⟨od,es,ep,k _ _ (.inl rfl) e,c⟩,r⟩
 | rng lo hi=>obtain ⟨t,u,v,e⟩:=x;exact ⟨t,u,v,k _ _ (.inl rfl) e⟩
 | frz ob u ih=>obtain ⟨e,q⟩:=x;exact ⟨k _ _ (.inl rfl) e,ih q⟩
 | tbl ps=>
  have e:=x;exact k a _ (.inl rfl) e
 | met f y=>
  have e:=x;exact k a _ (.inl rfl) e
 | ext φ=>obtain ⟨p,⟨o,e⟩,st⟩:=x;exact ⟨st _ _ p λo q=>k _ _ (.inl rfl) q,⟨o,k _ _ (.inl rfl) e⟩,st⟩
theorem HOk.lt (x:HOk P w H h) (e:H a=some o):a<h.objs.size:=(x a o e).lt
theorem HOk.fresh (x:HOk P w H h) (e:h.objs.size<=a):H a=none:=by
 cases q:H a with
 | none=>rfl
 | some u=>exact absurd (AA (x.lt q) e) (BR _)
theorem HOk.kept (x:HOk P w H h) (k:∀ b u,h.get? b=some u->h'.get? b=some u):HOk P w H h':=λa o e=>
 (x a o e).stay (λb u _ q=>k b u q) (λ_ q=>q) λ_ _ q=>q
theorem HOk.laid (x:HOk P w H h) (k:∀ b u,h.get? b=some u->h'.get? b=some u) (i:h.objs.size<=a) (d:ObjOk P w (upd H a o) h' a o):HOk P w (upd H a o) h':=λb u e=>by
 have g:=x.fresh i;by_cases f:b=a
 ·subst f;rw [b4] at e;cases e;exact d
 ·rw [a4 f] at e;exact (x b u e).stay (λc v _ q=>k c v q) (λc q=>by rw [a4 (a8 q g)];exact q) λc xs q=>by rw [a4 (a8 q g)];exact q
end
def Rd (H:Hp) (a:Addr) (u:HO):Prop:=H a=some u\/∃ o,H a=some (.frz o u)
theorem Rd.ok {H:Hp} {h:Heap} {a:Addr} {u:HO} (r:Rd H a u) (x:HOk P w H h):ObjOk P w H h a u:=by
 rcases r with r | ⟨o,r⟩
 ·exact x a u r
 ·obtain ⟨_,q⟩:=x a _ r;exact q
def Mut:Option HO->Prop
 | some (.lst _)=>True
 | some (.dK _)=>True
 | some (.dT _)=>True
 | some (.set _ _)=>True
 | some (.ins _ _ _)=>True
 | some (.ext _)=>True
 | _=>False
section
variable {P:Program} {w:World} {H:Hp} {h h':Heap} {x e:Addr} {o':HO}
theorem HOk.write (s:HOk P w H h) (g:Mut (H x)) (o:e=x\/H e=some (.own x)) (k:∀ b u,b≠e->h.get? b=some u->h'.get? b=some u) (i:∃ u,h'.get? e=some u)
  (j:ObjOk P w (upd H x o') h' x o'):HOk P w (upd H x o') h':=λb u q=>by
 have f:∀ c y,H c=some (.own y)->c≠x:=λc y r z=>by subst z;rw [r] at g;exact g
 have d:∀ c xs,H c=some (.tup xs)->c≠x:=λc xs r z=>by subst z;rw [r] at g;exact g
 by_cases l:b=x
 ·subst l;rw [b4] at q;cases q;exact j
 ·rw [a4 l] at q;by_cases a:b=e
  ·have n:H b=some (.own x):=by
    rcases o with z | z
    ·grind
    ·rw [a];exact z
   rw [q] at n;cases n;obtain ⟨v,p⟩:=i;exact ⟨v,by rw [a];exact p⟩
  ·refine (s b u q).stay (λc v m r=>k c v ?_ r) (λc r=>by rw [a4 (f c b r)];exact r) λc xs r=>by rw [a4 (d c xs r)];exact r
   rcases m with rfl | m
   ·exact a
   ·grind
end
structure Un (fs ex:List Addr) (H H':Hp) (h h':Heap):Prop where
 keep:∀ b o,h.get? b=some o->H b=none->b∉fs->b∉ex->h'.get? b=some o
 slot:∀ b o,h.get? b=some o->H b=none->b∈fs->b∉ex->∃ sl,h'.get? b=some { o with slots:=sl }
 free:∀ b o,h.get? b=some o->H b=none->b∉ex->H' b=none
 there:∀ b o,h.get? b=some o->b∉ex->∃ o',h'.get? b=some o'
 tups:∀ b xs,H b=some (.tup xs)->H' b=some (.tup xs)
 frzs:∀ b o u,H b=some (.frz o u)->H' b=some (.frz o u)
 tbls:∀ b ps,H b=some (.tbl ps)->∃ more,H' b=some (.tbl (ps++more))
section
variable {fs fs' ex ex':List Addr} {H H1 H2:Hp} {h h1 h2 h':Heap} {a x e:Addr} {o:HO}
theorem Un.any (u:Un fs ex H H1 h h1) {b:Addr} {ob:Obj} (q:h.get? b=some ob) (n:H b=none) (c:b∉ex):∃ d,h1.get? b=some { ob with slots:=d }:=by
 by_cases a:b∈fs
 ·exact u.slot b ob q n a c
 ·exact ⟨ob.slots,u.keep b ob q n a c⟩
theorem Un.kept (k:∀ b u,h.get? b=some u->h'.get? b=some u):Un fs ex H H h h':=
 ⟨λb ob q _ _ _=>k b ob q,λb ob q _ _ _=>⟨ob.slots,k b ob q⟩,λ_ _ _ n _=>n,λb ob q _=>⟨ob,k b ob q⟩,λ_ _ q=>q,λ_ _ _ q=>q,λ_ ps q=>⟨#[],by rw [q];simp⟩⟩
theorem Un.refl:Un fs ex H H h h:=Un.kept λ_ _ q=>q
theorem Un.laid (k:∀ b u,h.get? b=some u->h'.get? b=some u) (d:h.objs.size<=a) (c:H a=none):Un fs ex H (upd H a o) h h' where
 keep:=λb u q _ _ _=>k b u q
 slot:=λb u q _ _ _=>⟨u.slots,k b u q⟩
 free:=λb u q n _=>by rw [a4 (At (AA (An q) d))];exact n
 there:=λb u q _=>⟨u,k b u q⟩
 tups:=λb xs q=>by rw [a4 (a8 q c)];exact q
 frzs:=λb u xs q=>by rw [a4 (a8 q c)];exact q
 tbls:=λb ps q=>⟨#[],by rw [a4 (a8 q c),q];simp⟩
theorem Un.write (a:Mut (H x)) (i:e=x\/H e=some (.own x)) (k:∀ b u,b≠e->h.get? b=some u->h'.get? b=some u) (g:∃ u,h'.get? e=some u):Un fs ex H (upd H x o) h h':=by
 have d:∀ b,H b=none->b≠x:=λb n z=>by subst z;rw [n] at a;exact a
 have f:∀ b,H b=none->b≠e:=λb n z=>by
  subst z;rcases i with r | r
  ·exact d b n r
  ·rw [n] at r;cases r
 have c:∀ b u,H b=some u->¬ Mut (some u)->b≠x:=λb u q j z=>by subst z;rw [q] at a;exact j a
 refine ⟨λb u q n _ _=>k b u (f b n) q,λb u q n _ _=>⟨u.slots,k b u (f b n) q⟩,λb u q n _=>by rw [a4 (d b n)];exact n,λb u q _=>?_,
  λb xs q=>by rw [a4 (c b _ q λz=>z)];exact q,λb u xs q=>by rw [a4 (c b _ q λz=>z)];exact q,λb ps q=>⟨#[],by rw [a4 (c b _ q λz=>z),q];simp⟩⟩
 grind
end
def trk (h:Heap) (H:Hp):List Addr:=(List.range h.objs.size).filter λa=>(H a).isSome
def bf (h:Heap) (H:Hp):Heap:=PySem.W.hideAll h (trk h H)
theorem eW (h:Heap) (H:Hp):(bf h H).objs.size=h.objs.size:=PySem.W.hideAll_size _ _
theorem gi {H:Hp} {b:Addr} {o:Obj} (e:h.get? b=some o) (n:H b=none):(bf h H).get? b=some o:=
 PySem.W.hideAll_get _ e λa=>by
  have q:=(List.mem_filter.mp a).2;rw [n] at q;simp at q
theorem lW (e:(bf h H).get? b=some o):h.get? b=some o/\H b=none:=by
 have a:=PySem.W.of_hideAll (trk h H) e;refine ⟨a,?_⟩;cases q:H b with
 | none=>rfl
 | some x=>
  have c:b∈trk h H:=List.mem_filter.mpr ⟨Bx.mpr (An a),by simp [q]⟩;have z:(bf h H).get? b=none:=PySem.W.hideAll_none (trk h H) c;rw [z] at e;cases e
structure Mod (K:PySem.W.Frag) (mg:Str->Option Value) (base:Heap):Prop where
 kin:K.In base
 glob:base.Ns mainGlobals mg
 blt:∃ mb,base.Ns builtinsNs mb/\∀ x:Str,x ≠ "__name__"->mb x=bootBuiltins x
 nolimit:base.NoLimit
structure Cx where
 prog:Program
 w:World
 K:PySem.W.Frag
 mg:Str->Option Value
 base:Heap
 A:Around
 N:List Str
 s₀:Shared
 H₀:Hp
 env:Env
 outer:List Env
 stack:List Env
 ex:List Addr
 fn:Str->Bool
 calm:Bool
 pn:List (Addr×Obj)
 xe:Value->Shared->Prop
def frs (l:List Env):List Addr:=l.filterMap (·.frame)
abbrev Cx.fs (X:Cx):List Addr:=frs X.outer
def Vis (a:Scope) (x:Str):Prop:=a.names.lookup x=some .local\/a.names.lookup x=some .cell\/a.names.lookup x=some .free
def Loc (a:Scope) (x:Str):Prop:=a.names.lookup x=some .local\/a.names.lookup x=some .cell
def vq (a:Env) (h:Heap) (m:Str->Option Value) (x:Str) (u:Value):Prop:=
 (a.kindOf x=some .local/\m x=some u)\/((a.kindOf x=some .cell\/a.kindOf x=some .free)/\∃ c,a.cells.lookup x=some c/\h.IsCell c (some u))
structure Cx.Ok (X:Cx):Prop where
 mod:Mod X.K X.mg X.base
 kind:X.env.scope.kind=.function
 glob:X.env.globals=mainGlobals
 blt:X.env.builtins=builtinsNs
 above:X.s₀.heap.objs.size<=X.env.locals
 inj:∀ x y c,X.env.cells.lookup x=some c->X.env.cells.lookup y=some c->x=y
 has:∀ x,(X.env.kindOf x=some .cell\/X.env.kindOf x=some .free)->∃ c,X.env.cells.lookup x=some c
 cab:∀ x c,X.fn x=true->X.env.cells.lookup x=some c->X.s₀.heap.objs.size<=c
 hd:X.calm=true->X.A.handled=none
 frames:X.A.frames=some X.stack
 stk:X.stack=X.outer\/(X.stack=X.env :: X.outer/\X.env.frame=some X.env.locals)
 exf:∀ b∈X.ex,b≠X.env.locals/\∀ x c,X.env.cells.lookup x=some c->c≠b
 bs:∀ b o,X.base.get? b=some o->X.s₀.heap.get? b=some o/\X.H₀ b=none
 bsz:X.base.objs.size<=X.s₀.heap.objs.size
 noex:∀ b o,X.base.get? b=some o->b∉X.ex
 exfs:∀ b∈X.ex,b∉X.fs
 funs:X.s₀.heap.FunFrames X.base X.outer
 frf:∀ b∈X.fs,X.H₀ b=none
structure Inv (X:Cx) (pins:List (Addr×Obj)) (σ:List (Option V)) (H:Hp) (s:Shared):Prop where
 ok:X.Ok
 os:s.os=X.s₀.os
 bare:AllBare s.gens
 base:Un X.fs X.ex X.H₀ H X.s₀.heap s.heap
 loc:∃ m,s.heap.Ns X.env.locals m/\∀ (i:Nat) (x:Str) (v:V),X.N[i]?=some x->σ[i]?=some (some v)->Vis X.env.scope x->∃ u,RelV v u/\vq X.env s.heap m x u
 cell:∀ x c,X.env.cells.lookup x=some c->∃ v,s.heap.IsCell c v
 free:H X.env.locals=none
 freeC:∀ x c,X.env.cells.lookup x=some c->H c=none
 pin:∀ p∈X.pn++pins,s.heap.get? p.1=some p.2/\H p.1=none/\p.1≠X.env.locals/\p.1∉X.fs/\∀ v,p.2.data≠.cell v
 hok:HOk X.prog X.w H s.heap
 len:σ.length=X.N.length
section
variable {X:Cx} {pins:List (Addr×Obj)} {σ:List (Option V)} {H H':Hp} {s:Shared} {h':Heap}
theorem Cx.Ok.nofr (c:X.Ok) {b:Addr} {o:Obj} (e:X.base.get? b=some o):b∉X.fs:=λa=>by
 have:=(c.funs.mem a).1;rw [e] at this;cases this
theorem Inv.bs (I:Inv X pins σ H s):∀ b o,X.base.get? b=some o->s.heap.get? b=some o/\H b=none:=λb o e=>
 ⟨I.base.keep b o (I.ok.bs b o e).1 (I.ok.bs b o e).2 (I.ok.nofr e) (I.ok.noex b o e),I.base.free b o (I.ok.bs b o e).1 (I.ok.bs b o e).2 (I.ok.noex b o e)⟩
theorem Inv.bk (I:Inv X pins σ H s):∀ b o,X.base.get? b=some o->s.heap.get? b=some o:=λb o e=>(I.bs b o e).1
theorem Inv.mod (I:Inv X pins σ H s):Mod X.K X.mg X.base:=I.ok.mod
theorem Inv.kIn (I:Inv X pins σ H s):X.K.In s.heap:=I.ok.mod.kin.keeps I.bk
theorem Inv.lt (I:Inv X pins σ H s):X.env.locals<s.heap.objs.size:=let ⟨_,a,_⟩:=I.loc;a.lt
theorem Inv.sz (I:Inv X pins σ H s):X.s₀.heap.objs.size<=s.heap.objs.size:=AY I.ok.above (Nat.le_of_lt I.lt)
theorem Inv.nofs (I:Inv X pins σ H s) {a:Addr} (h:s.heap.objs.size<=a):a∉X.fs:=λb=>by
 obtain ⟨_,o,c,_⟩:=I.ok.funs.mem b;exact absurd (AA (An c) (AY I.sz h)) (BR _)
theorem Inv.cne (I:Inv X pins σ H s):∀ x c,X.env.cells.lookup x=some c->c≠X.env.locals:=λx c e z=>by
 obtain ⟨v,o,d,hd⟩:=I.cell x c e;obtain ⟨m,⟨o',es,f,a,b,_⟩,_⟩:=I.loc;rw [z,a] at d;cases d;rw [b] at hd;cases hd
theorem Inv.funs (I:Inv X pins σ H s):s.heap.FunFrames X.base X.outer:=by
 have a:∀ (l:List Env),(∀ b∈frs l,b∈X.fs)->X.s₀.heap.FunFrames X.base l->s.heap.FunFrames X.base l:=by
  intro l;induction l with
  | nil=>intro _ _;trivial
  | cons j r n=>
   intro hs k;obtain ⟨g,⟨L,o,c,i,h,hd⟩,m⟩:=k;have f:=hs L (by unfold frs;rw [Bv,c];exact Ap);obtain ⟨p,e⟩:=I.base.slot L o h (I.ok.frf L f) f λz=>I.ok.exfs L z f;exact ⟨g,⟨L,_,c,i,e,hd⟩,n (λb d=>hs b (by unfold frs;rw [Bv,c];exact Av _ d)) m⟩
 exact a X.outer (λ_ d=>d) I.ok.funs
theorem Inv.stack (I:Inv X pins σ H s):s.heap.FunFrames X.base X.stack:=by
 rcases I.ok.stk with e | ⟨e,hf⟩
 ·rw [e];exact I.funs
 ·rw [e];obtain ⟨m,a,_⟩:=I.loc;refine .cons (by rw [I.ok.kind];decide) hf a ?_ I.funs;exact Heap.get?_none_of_le (AY I.ok.bsz I.ok.above)
theorem Inv.stkSub (I:Inv X pins σ H s):∀ b∈frs X.stack,b∈X.env.locals :: X.fs:=λb a=>by
 rcases I.ok.stk with e | ⟨e,hf⟩
 ·grind
 ·rw [e] at a;unfold frs at a;rw [Bv,hf] at a;exact a
theorem Inv.stkFree (I:Inv X pins σ H s):∀ b∈frs X.stack,H b=none:=λb a=>by
 rcases Ar.mp (I.stkSub b a) with e | a
 ·rw [e];exact I.free
 ·obtain ⟨_,o,c,_⟩:=I.ok.funs.mem a;exact I.base.free b o c (I.ok.frf b a) λz=>I.ok.exfs b z a
theorem Inv.step {d':Drawn} {ch:List Addr} (I:Inv X pins σ H s)
  (h:∀ b∈ch,(b∈X.ex\/X.s₀.heap.objs.size<=b)/\b≠X.env.locals/\(∀ x c,X.env.cells.lookup x=some c->c≠b)/\∀ p∈X.pn++pins,p.1≠b)
  (j:∀ b o,b≠X.env.locals->b∉X.fs->b∉ch->s.heap.get? b=some o->H b=none->h'.get? b=some o)
  (A:∀ b o,b≠X.env.locals->b∈X.fs->b∉ch->s.heap.get? b=some o->H b=none->∃ O,h'.get? b=some { o with slots:=O }) (f:∀ b o,b∉ch->s.heap.get? b=some o->H b=none->H' b=none)
  (C:∀ b o,b∉ch->s.heap.get? b=some o->∃ o',h'.get? b=some o')
  (G:∀ b xs,H b=some (.tup xs)->H' b=some (.tup xs)) (J:∀ b o u,H b=some (.frz o u)->H' b=some (.frz o u)) (E:∀ b ps,H b=some (.tbl ps)->∃ F,H' b=some (.tbl (ps++F)))
  (ns:∀ m,s.heap.Ns X.env.locals m->h'.Ns X.env.locals m) (N:HOk X.prog X.w H' h') (Y:AllBare g') :
  Inv X pins σ H' { s with heap:=h',gens:=g',drawn:=d',toks:=t' }:=by
 have K:∀ b o,X.s₀.heap.get? b=some o->b≠X.env.locals:=λb o e=>At (AA (An e) I.ok.above);have w:∀ b o,X.s₀.heap.get? b=some o->b∉X.ex->b∉ch:=λb o e a B=>by
  rcases (h b B).1 with z | z
  ·exact a z
  ·exact absurd (AA (An e) z) (BR _)
 have t:∀ x c,X.env.cells.lookup x=some c->∀ v,s.heap.IsCell c v->h'.IsCell c v:=λx c e v ⟨o,D,hd⟩=>by
  have g:=λz=>(h c z).2.2.1 x c e rfl;by_cases P:c∈X.fs
  ·obtain ⟨O,q⟩:=A c o (I.cne x c e) P g D (I.freeC x c e);exact ⟨_,q,hd⟩
  ·exact ⟨o,j c o (I.cne x c e) P g D (I.freeC x c e),hd⟩
 refine ⟨I.ok,I.os,Y,⟨λb o e n B a=>?_,λb o e n B a=>?_,λb o e n a=>?_,λb o e a=>?_,λb xs e=>G b xs (I.base.tups b xs e),λb o xs e=>J b o xs (I.base.frzs b o xs e),λb ps e=>?_⟩,?_,λx c e=>?_,?_,λx c e=>?_,λp S=>?_,N,I.len⟩
 ·exact j b o (K b o e) B (w b o e a) (I.base.keep b o e n B a) (I.base.free b o e n a)
 ·obtain ⟨O,y⟩:=I.base.slot b o e n B a;obtain ⟨M,L⟩:=A b _ (K b o e) B (w b o e a) y (I.base.free b o e n a);exact ⟨M,L⟩
 ·obtain ⟨o',y⟩:=I.base.there b o e a;exact f b o' (w b o e a) y (I.base.free b o e n a)
 ·obtain ⟨o',y⟩:=I.base.there b o e a;exact C b o' (w b o e a) y
 ·obtain ⟨U,y⟩:=I.base.tbls b ps e;obtain ⟨m2,L⟩:=E b _ y;exact ⟨U++m2,by rw [L,Array.append_assoc]⟩
 ·obtain ⟨m,V,T⟩:=I.loc;refine ⟨m,ns m V,λi x v y L W=>?_⟩;obtain ⟨u,r,l⟩:=T i x v y L W;refine ⟨u,r,?_⟩;rcases l with l | ⟨k,c,e,z⟩
  ·exact .inl l
  ·exact .inr ⟨k,c,e,t x c e _ z⟩
 ·obtain ⟨v,z⟩:=I.cell x c e;exact ⟨v,t x c e v z⟩
 ·obtain ⟨m,⟨o,_,_,D,_⟩,_⟩:=I.loc;exact f _ o (λz=>(h _ z).2.1 rfl) D I.free
 ·obtain ⟨v,o,D,hd⟩:=I.cell x c e;exact f c o (λz=>(h c z).2.2.1 x c e rfl) D (I.freeC x c e)
 ·obtain ⟨e,n,R,Q,d⟩:=I.pin p S;have g:=λz=>(h p.1 z).2.2.2 p S rfl;exact ⟨j p.1 p.2 R Q g e n,f p.1 p.2 g e n,R,Q,d⟩
theorem Inv.un (I:Inv X pins σ H s) (u:Un X.fs [] H H' s.heap h') (c:HOk X.prog X.w H' h'):Inv X pins σ H' { s with heap:=h',toks:=t' }:=by
 obtain ⟨m,⟨o,es,k,g,r⟩,_⟩:=id I.loc;obtain ⟨l,j⟩:=u.any g I.free (by simp);exact I.step (ch:=[]) (λ_ z=>nomatch z) (λb o _ d _ e n=>u.keep b o e n d (by simp)) (λb o _ d _ e n=>u.slot b o e n d (by simp)) (λb o _ e n=>u.free b o e n (by simp)) (λb o _ e=>u.there b o e (by simp)) u.tups u.frzs u.tbls (λm' i=>by
  obtain ⟨o',es',f,a,h⟩:=i;rw [g] at a;cases a;exact ⟨_,es',f,j,h⟩) c I.bare
theorem Inv.call {d':Drawn} {ch:List Addr} (I:Inv X pins σ H s) (u:Un (frs X.stack) ch H H' s.heap h') (g:HOk X.prog X.w H' h') (q:AllBare g')
  (f:∀ b∈ch,(b∈X.ex\/X.s₀.heap.objs.size<=b)/\b≠X.env.locals/\(∀ x c,X.env.cells.lookup x=some c->c≠b)/\∀ p∈X.pn++pins,p.1≠b) :
  Inv X pins σ H' { s with heap:=h',gens:=g',drawn:=d',toks:=t' }:=by
 obtain ⟨m,⟨o,es,v,j,r⟩,_⟩:=id I.loc;obtain ⟨w,i⟩:=u.any j I.free λz=>(f _ z).2.1 rfl;exact I.step f (λb o i l a e n=>u.keep b o e n (λz=>(Ar.mp (I.stkSub b z)).elim i l) a) (λb o _ _ a e n=>u.any e n a) (λb o a e n=>u.free b o e n a) (λb o a e=>u.there b o e a) u.tups u.frzs u.tbls (λm' t=>by
  obtain ⟨o',es',h,d,k⟩:=t;rw [j] at d;cases d;exact ⟨_,es',h,i,k⟩) g q
theorem Inv.turned {t':Nat} {it:Addr} (I:Inv X pins σ H s) (k:∀ b o,b≠it->s.heap.get? b=some o->h'.get? b=some o) (hn:H it=none) (hL:it≠X.env.locals)
  (h1:it∈X.ex\/X.s₀.heap.objs.size<=it) (h2:∀ x c,X.env.cells.lookup x=some c->c≠it) (h3:∀ p∈X.pn++pins,p.1≠it):Inv X pins σ H { s with heap:=h',toks:=t' }:=by
 have nit:∀ b u,H b=some u->b≠it:=λb u e z=>by rw [z,hn] at e;cases e
 refine I.step (g':=s.gens) (d':=s.drawn) (ch:=[it]) (λb hb=>?_) (λb o _ _ hc e _=>k b o (λz=>hc (by simp [z])) e) (λb o _ _ hc e _=>⟨o.slots,k b o (λz=>hc (by simp [z])) e⟩) (λ_ _ _ _ n=>n)
  (λb o hc e=>⟨o,k b o (λz=>hc (by simp [z])) e⟩) (λ_ _ e=>e) (λ_ _ _ e=>e) (λb ps e=>⟨#[],by rw [e];simp⟩) (λm hm=>?_) (λb u e=>?_) I.bare
 ·have e:b=it:=by simpa using hb
  subst e;exact ⟨h1,hL,h2,h3⟩
 ·obtain ⟨o,es,ep,ho,r⟩:=hm;exact ⟨o,es,ep,k _ o (Ne.symm hL) ho,r⟩
 ·refine (I.hok b u e).stay (λc v hc q=>k c v ?_ q) (λ_ q=>q) λ_ _ q=>q;rcases hc with z | z
  ·rw [z];exact nit b u e
  ·exact nit c _ z
theorem Inv.tok (I:Inv X pins σ H s) (t:Nat):Inv X pins σ H { s with toks:=t }:=I.un Un.refl I.hok
theorem Inv.kept (I:Inv X pins σ H s) (k:∀ b u,s.heap.get? b=some u->h'.get? b=some u):Inv X pins σ H { s with heap:=h',toks:=t' }:=I.un (Un.kept k) (I.hok.kept k)
theorem Inv.laid {a:Addr} {o:HO} {t':Nat} (I:Inv X pins σ H s) (k:∀ b u,s.heap.get? b=some u->h'.get? b=some u) (d:s.heap.objs.size<=a) (c:ObjOk X.prog X.w (upd H a o) h' a o) :
  Inv X pins σ (upd H a o) { s with heap:=h',toks:=t' }:=I.un (Un.laid k d (I.hok.fresh d)) (I.hok.laid k d c)
theorem Inv.write (I:Inv X pins σ H s) (f:Mut (H x)) (d:e=x\/H e=some (.own x)) (k:∀ b u,b≠e->s.heap.get? b=some u->h'.get? b=some u) (a:∃ u,h'.get? e=some u)
  (c:ObjOk X.prog X.w (upd H x o) h' x o):Inv X pins σ (upd H x o) { s with heap:=h',toks:=t' }:=I.un (Un.write f d k a) (I.hok.write f d k a c)
theorem Inv.weak (I:Inv X pins σ H s) (d:σ'.length=σ.length) (w:∀ (i:Nat) v,σ'[i]?=some (some v)->σ[i]?=some (some v)):Inv X pins σ' H s:=
 ⟨I.ok,I.os,I.bare,I.base,let ⟨m,b,a⟩:=I.loc;⟨m,b,λi x v e c f=>a i x v e (w i v c) f⟩,I.cell,I.free,I.freeC,I.pin,I.hok,d.trans I.len⟩
theorem Inv.pins_of (I:Inv X pins σ H s) (h:∀ p∈pins',s.heap.get? p.1=some p.2/\H p.1=none/\p.1≠X.env.locals/\p.1∉X.fs/\∀ v,p.2.data≠.cell v):Inv X pins' σ H s:=
 ⟨I.ok,I.os,I.bare,I.base,I.loc,I.cell,I.free,I.freeC,λp a=>(Ax.mp a).elim (λz=>I.pin p (List.mem_append_left _ z)) (h p),I.hok,I.len⟩
theorem bQ {N:List Str} (e:N.Nodup) {i j:Nat} {x:Str} (a:N[i]?=some x) (b:N[j]?=some x):i=j:=by
 obtain ⟨f,d⟩:=Al.mp a;obtain ⟨g,c⟩:=Al.mp b;exact (De e).mp (d.trans c.symm)
theorem V5 {i:Nat} {x:Str} {v:V} {u:Value} {Q:Unit->Shared->Prop} (I:Inv X pins σ H s) (hN:X.N.Nodup) (O:X.N[i]?=some x) (t:Loc X.env.scope x) (r:RelV v u)
  (h:∀ s',Inv X pins (σ.set i (some v)) H s'->(∃ a,Heap.SameBut a s.heap s'.heap/\(a=X.env.locals\/X.env.cells.lookup x=some a))->Q () s') (hf:X.fn x=true\/X.env.scope.names.lookup x=some .local:=by first | exact .inl rfl | exact .inr rfl | assumption):wpAny M A (storeName X.env x u) Q E s:=by
 obtain ⟨m,Z,hl⟩:=id I.loc;have L:(X.env.scope.kind==.class||(X.env.scope.kind==.module&&X.env.locals != X.env.globals))=false:=by rw [I.ok.kind];rfl
 have B:i<σ.length:=by rw [I.len];exact (Al.mp O).1
 have C:=I.cne;have f:∀ {a:Addr} {h':Heap},(∃ o,s.heap.get? a=some o/\H a=none)->Heap.SameBut a s.heap h'->HOk X.prog X.w H h':=λ{a h'} ha hs b ob e=>by
  obtain ⟨_,_,hfree⟩:=ha;refine (I.hok b ob e).stay (λc w' l q=>(hs.2 c ?_).trans q) (λ_ q=>q) λ_ _ q=>q;rintro rfl;rcases l with rfl | l
  ·grind
  ·grind
 rcases t with hk | hk
 ·refine wpAny_storeName_local hk Z (λh' W hs=>?_) L;obtain ⟨oL,_,_,hoL,_⟩:=id Z;refine h _ ⟨I.ok,I.os,I.bare,⟨λb o e n D t=>?_,λb o e n D t=>?_,I.base.free,λb o e t=>?_,I.base.tups,I.base.frzs,I.base.tbls⟩,⟨_,W,λj y T g w e3=>?_⟩,λy c e=>?_,I.free,I.freeC,λp hp=>?_,f ⟨oL,hoL,I.free⟩ hs,by simpa using I.len⟩ ⟨_,hs,.inl rfl⟩
  ·exact (hs.2 b (At (AA (An e) I.ok.above))).trans (I.base.keep b o e n D t)
  ·obtain ⟨sl,g⟩:=I.base.slot b o e n D t;exact ⟨sl,(hs.2 b (At (AA (An e) I.ok.above))).trans g⟩
  ·obtain ⟨o',g⟩:=I.base.there b o e t;exact ⟨o',(hs.2 b (At (AA (An e) I.ok.above))).trans g⟩
  ·by_cases F:j=i
   ·subst F;rw [O] at g;cases g;rw [AT B] at w;cases w;exact ⟨u,r,.inl ⟨hk,by simp⟩⟩
   ·rw [AZ (Ne.symm F)] at w;obtain ⟨Y,r',q⟩:=hl j y T g w e3;refine ⟨Y,r',?_⟩;rcases q with ⟨k,e⟩ | ⟨k,c,e,z⟩
    ·refine .inl ⟨k,?_⟩;have:y≠x:=λe=>F (bQ hN g (e▸O));simp [this,e]
    ·exact .inr ⟨k,c,e,z.sameBut hs (C y c e)⟩
  ·obtain ⟨w',z⟩:=I.cell y c e;exact ⟨w',z.sameBut hs (C y c e)⟩
  ·obtain ⟨e,n,R,U,d⟩:=I.pin p hp;exact ⟨(hs.2 p.1 R).trans e,n,R,U,d⟩
 ·have G:X.fn x=true:=by
   rcases hf with z | z
   ·exact z
   ·rw [z] at hk;cases hk
  obtain ⟨c,l⟩:=I.ok.has x (.inl hk);obtain ⟨w',z⟩:=I.cell x c l;refine wpAny_storeName_cell I.ok.kind hk l z (λh' N hs=>?_);obtain ⟨oc,J,P⟩:=id z;refine h { s with heap:=h' } ⟨I.ok,I.os,I.bare,⟨λb o e n D t=>?_,λb o e n D t=>?_,I.base.free,λb o e t=>?_,I.base.tups,I.base.frzs,I.base.tbls⟩,⟨m,Z.sameBut hs (Ne.symm (C x c l)),λj y T g w e3=>?_⟩,λy S e=>?_,I.free,I.freeC,λp hp=>?_,f ⟨oc,J,I.freeC x c l⟩ hs,by simpa using I.len⟩ ⟨c,hs,.inr l⟩
  ·exact (hs.2 b (At (AA (An e) (I.ok.cab x c G l)))).trans (I.base.keep b o e n D t)
  ·obtain ⟨sl,g⟩:=I.base.slot b o e n D t;exact ⟨sl,(hs.2 b (At (AA (An e) (I.ok.cab x c G l)))).trans g⟩
  ·obtain ⟨o',g⟩:=I.base.there b o e t;exact ⟨o',(hs.2 b (At (AA (An e) (I.ok.cab x c G l)))).trans g⟩
  ·by_cases F:j=i
   ·subst F;rw [O] at g;cases g;rw [AT B] at w;cases w;exact ⟨u,r,.inr ⟨.inl hk,c,l,N⟩⟩
   ·rw [AZ (Ne.symm F)] at w;obtain ⟨Y,r',q⟩:=hl j y T g w e3;refine ⟨Y,r',?_⟩;rcases q with q | ⟨k,S,e,z'⟩
    ·exact .inl q
    ·refine .inr ⟨k,S,e,z'.sameBut hs ?_⟩;rintro rfl;exact F (bQ hN g (I.ok.inj _ _ _ e l▸O))
  ·by_cases K:S=c
   ·subst K;exact ⟨_,N⟩
   ·obtain ⟨w2,z2⟩:=I.cell y S e;exact ⟨w2,z2.sameBut hs K⟩
  ·obtain ⟨e,n,R,U,d⟩:=I.pin p hp;refine ⟨(hs.2 p.1 ?_).trans e,n,R,U,d⟩;intro q;rw [q,J] at e;have q':=AD e;exact d w' (by rw [<- q'];exact P)
theorem N5 {i:Nat} {x:Str} {v:V} {u:Value} {Q:Unit->Shared->Prop} (I:Inv X pins σ H s) (e:X.N.Nodup) (c:X.N[i]?=some x) (a:Loc X.env.scope x) (r:RelV v u)
  (h:∀ s',Inv X pins (σ.set i (some v)) H s'->Q () s') (b:X.fn x=true\/X.env.scope.names.lookup x=some .local:=by first | exact .inl rfl | exact .inr rfl | assumption):wpAny M A (storeName X.env x u) Q E s:=
 V5 I e c a r (λs' d _=>h s' d) b
theorem Inv.call' {ch:List Addr} (I:Inv X pins σ H s) (g:s'.os=s.os) (u:Un (frs X.stack) ch H H' s.heap s'.heap) (d:HOk X.prog X.w H' s'.heap) (f:AllBare s'.gens)
  (a:∀ b∈ch,(b∈X.ex\/X.s₀.heap.objs.size<=b)/\b≠X.env.locals/\(∀ x c,X.env.cells.lookup x=some c->c≠b)/\∀ p∈X.pn++pins,p.1≠b):Inv X pins σ H' s':=by
 obtain ⟨h',g',d',t',o'⟩:=s';have e:=g;subst e;exact I.call u d f a
end
abbrev XK:=Value->Option Addr->Hp->Prop
abbrev St:=List (Option V)
abbrev VK:=V->Hp->Prop
abbrev TE:=St->Hp->VK->Prop
abbrev TT:=St->Hp->(Bool->Hp->Prop)->Prop
abbrev TA:=St->Hp->(List V->Hp->Prop)->Prop
structure Ends where
 nx:St->Hp->Prop
 rt:VK
 bk:St->Hp->Prop:=λ_ _=>False
 ct:St->Hp->Prop:=λ_ _=>False
abbrev TS:=Ends->St->Hp->Prop
def EP (X:Cx) (pins:List (Addr×Obj)) (σ:St) (Q:VK) (u:Value) (s':Shared):Prop:=∃ v H',Inv X pins σ H' s'/\RelV v u/\Q v H'
def TP (X:Cx) (pins:List (Addr×Obj)) (σ:St) (Q:Bool->Hp->Prop) (b:Bool) (s':Shared):Prop:=∃ H',Inv X pins σ H' s'/\Q b H'
def AP (X:Cx) (pins:List (Addr×Obj)) (σ:St) (Q:List V->Hp->Prop) (us:List Value) (s':Shared):Prop:=∃ vs H',Inv X pins σ H' s'/\Vals vs us/\Q vs H'
def SP (X:Cx) (pins:List (Addr×Obj)) (D:Ends) (f:Flow) (s':Shared):Prop:=
 match f with
 | .next=>∃ a H',Inv X pins a H' s'/\D.nx a H'
 | .brk=>∃ a H',Inv X pins a H' s'/\D.bk a H'
 | .cont=>∃ a H',Inv X pins a H' s'/\D.ct a H'
 | .ret u=>∃ v a H',Inv X pins a H' s'/\RelV v u/\D.rt v H'
def PE (X:Cx) (e:Expr) (t:TE):Prop:=
 ∀ (pins:List (Addr×Obj)) (s:Shared) (σ:St) (H:Hp) (Q:VK),Inv X pins σ H s->t σ H Q->wpAny (model X.prog X.w) X.A (eval e X.env) (EP X pins σ Q) X.xe s
def PT (X:Cx) (e:Expr) (t:TT):Prop:=
 ∀ (pins:List (Addr×Obj)) (s:Shared) (σ:St) (H:Hp) (Q:Bool->Hp->Prop),Inv X pins σ H s->t σ H Q->wpAny (model X.prog X.w) X.A (isTrue e X.env (eval e X.env)) (TP X pins σ Q) X.xe s
def PW (X:Cx) (e:Expr) (t:TT):Prop:=
 ∀ (a:Sem Value) (pins:List (Addr×Obj)) (s:Shared) (σ:St) (H:Hp) (Q:Bool->Hp->Prop),Inv X pins σ H s->t σ H Q->wpAny (model X.prog X.w) X.A (isTrue e X.env a) (TP X pins σ Q) X.xe s
theorem PW.pt (h:PW X e t):PT X e t:=h _
def PA (X:Cx) (es:List Expr) (t:TA):Prop:=
 ∀ (pos:Pos) (pins:List (Addr×Obj)) (s:Shared) (σ:St) (H:Hp) (Q:List V->Hp->Prop),Inv X pins σ H s->t σ H Q->wpAny (model X.prog X.w) X.A (spliced (backTo pos (starEach es X.env))) (AP X pins σ Q) X.xe s
def PS (X:Cx) (st:Stmt) (t:TS):Prop:=
 ∀ (pins:List (Addr×Obj)) (s:Shared) (σ:St) (H:Hp) (D:Ends),Inv X pins σ H s->t D σ H->wpAny (model X.prog X.w) X.A (exec st X.env) (SP X pins D) X.xe s
def PSs (X:Cx) (st:List Stmt) (t:TS):Prop:=
 ∀ (pins:List (Addr×Obj)) (s:Shared) (σ:St) (H:Hp) (D:Ends),Inv X pins σ H s->t D σ H->wpAny (model X.prog X.w) X.A (execs st X.env) (SP X pins D) X.xe s
theorem thn {M:Model} {A:Around} {E:Value->Shared->Prop} {s:Shared} (h:wpAny M A t Q E s) (b:∀ a s,Q a s->Q' a s):wpAny M A t Q' E s:=Co h b λ_ _ x=>x
section
variable {X:Cx}
def tT (i:Nat):TE:=λσ H Q=>∃ v,σ[i]?=some (some v)/\Q v H
def tC (v:V):TE:=λ_ H Q=>Q v H
theorem oP {pos:Pos} (o:X.N[i]?=some x) (p:Vis X.env.scope x) (hd:(x==("__debug__" : Str))=false:=by decide) (f:(x==("__classdict__" : Str))=false:=by decide):PE X (.Name x pos) (tT i):=by
 intro pins s σ H Q I h;obtain ⟨v,e,h⟩:=h;obtain ⟨m,j,k⟩:=I.loc;obtain ⟨u,r,l⟩:=k i x v o e p;have d:EP X pins σ Q u s:=⟨v,H,I,r,h⟩;rcases l with ⟨b,n⟩ | ⟨b,c,g,a⟩
 ·exact wpAny_Name (wpAny_loadName_local I.ok.kind b j n d) hd
 ·rcases b with b | b
  ·exact wpAny_Name (wpAny_loadName_cell I.ok.kind b g a d) hd
  ·exact wpAny_Name (wpAny_loadName_free I.ok.kind b g a d f) hd
theorem pq {i j pos}:PE X (.Constant (.int i) j pos) (tC (.int i)):=λ_ _ _ H _ I h=>wpAny_Constant_int ⟨.int i,H,I.tok _,⟨_,rfl⟩,h⟩
theorem sk {b j pos}:PE X (.Constant (.bool b) j pos) (tC (.bl b)):=λ_ _ _ H _ I h=>Constant_bool ⟨.bl b,H,I,rfl,h⟩
theorem pv {j pos}:PE X (.Constant .none j pos) (tC .non):=λ_ _ _ H _ I h=>Constant_none ⟨.non,H,I,rfl,h⟩
theorem pV {x j pos}:PE X (.Constant (.str x) j pos) (tC (.str x)):=λ_ _ _ H _ I h=>Calls.Constant_str ⟨.str x,H,I.tok _,⟨_,rfl⟩,h⟩
def Gl (X:Cx) (x:Str):Prop:=X.env.kindOf x=some .globalImplicit
theorem aF {pins:List (Addr×Obj)} {s:Shared} {σ:St} {H:Hp} {x:Str} {u:Value} {pos:Pos} {Q:Value->Shared->Prop} (I:Inv X pins σ H s) (a:Gl X x) (b:X.mg x=some u) (h:Q u s)
  (hd:(x==("__debug__" : Str))=false:=by decide):wpAny (model X.prog X.w) X.A (eval (.Name x pos) X.env) Q E s:=
 CM I.ok.kind a (Calls.loadGlobal_global (by rw [I.ok.glob];exact I.mod.glob.keeps I.bk) b h) hd
theorem H8 {E:Value->Shared->Prop} {pins:List (Addr×Obj)} {s:Shared} {σ:St} {H:Hp} {x:Str} {u:Value} {pos:Pos} {Q:Value->Shared->Prop} (I:Inv X pins σ H s) (d:Gl X x) (e:X.mg x=none) (f:bootBuiltins x=some u) (h:Q u s)
  (a:x ≠ "__name__":=by decide) (hd:(x==("__debug__" : Str))=false:=by decide):wpAny (model X.prog X.w) X.A (eval (.Name x pos) X.env) Q E s:=by
 obtain ⟨g,b,c⟩:=I.mod.blt;exact CM I.ok.kind d (Calls.loadGlobal_builtin (by rw [I.ok.glob];exact I.mod.glob.keeps I.bk) e (by rw [I.ok.blt];exact b.keeps I.bk) ((c x a).trans f) h) hd
theorem M2 {u:Value} {pos:Pos} (a:Gl X x) (b:X.mg x=some u) (r:RelV v u) (hd:(x==("__debug__" : Str))=false:=by decide):PE X (.Name x pos) (tC v):=
 λ_ _ _ H _ I h=>aF I a b ⟨v,H,I,r,h⟩ hd
theorem lS {u:Value} {pos:Pos} (c:Gl X x) (d:X.mg x=none) (b:bootBuiltins x=some u) (r:RelV v u) (a:x ≠ "__name__":=by decide) (hd:(x==("__debug__" : Str))=false:=by decide):PE X (.Name x pos) (tC v):=
 λ_ _ _ H _ I h=>H8 I c d b ⟨v,H,I,r,h⟩ a hd
variable {a b:Expr} {ta tb:TE} {pos:Pos}
variable {tA tB':TT} {rest:List Expr}
def vd (t u:TT):TT:=λσ H Q=>t σ H λc a=>if c=true then u σ a Q else Q false a
def tOr (t u:TT):TT:=λσ H Q=>t σ H λc a=>if c=true then Q true a else u σ a Q
def ny (t:TT):TT:=λσ H Q=>t σ H λc a=>Q (!c) a
theorem pw_and1 (b:PT X a tA):PW X (.BoolOp .And [a] pos) tA:=by
 intro d pins s σ H Q I h;refine isTrue_and (thn (b pins s σ H Q I h) λc f e=>?_);cases c with
 | true=>exact isTrue_and_nil e
 | false=>exact e
theorem pw_or1 (b:PT X a tA):PW X (.BoolOp .Or [a] pos) tA:=by
 intro d pins s σ H Q I h;refine isTrue_or (thn (b pins s σ H Q I h) λc f e=>?_);cases c with
 | false=>exact isTrue_or_nil e
 | true=>exact e
theorem pw_and (g:PT X a tA) (j:PW X (.BoolOp .And (b :: rest) pos) tB'):PW X (.BoolOp .And (a :: b :: rest) pos) (vd tA tB'):=by
 intro i pins s σ H Q I h;refine isTrue_and (thn (g pins s σ H _ I h) λc k ⟨e,d,f⟩=>?_);cases c with
 | true=>exact j i pins k σ e Q d f
 | false=>exact ⟨e,d,f⟩
theorem pw_or (g:PT X a tA) (j:PW X (.BoolOp .Or (b :: rest) pos) tB'):PW X (.BoolOp .Or (a :: b :: rest) pos) (tOr tA tB'):=by
 intro i pins s σ H Q I h;refine isTrue_or (thn (g pins s σ H _ I h) λc k ⟨e,d,f⟩=>?_);cases c with
 | true=>exact ⟨e,d,f⟩
 | false=>exact j i pins k σ e Q d f
theorem oi (d:PT X a tA):PT X (.UnaryOp .Not a pos) (ny tA):=by
 intro pins s σ H Q I h;exact isTrue_not (d pins s σ H (λc b=>Q (!c) b) I h)
theorem pz {op} {t:TE} (h:PE X a t):PE X (.BoolOp op [a] pos) t:=λpins s σ H Q I b=>BoolOp_one (h pins s σ H Q I b)
def tIf (t:TT) (b d:TE):TE:=λσ H Q=>t σ H λc a=>if c=true then b σ a Q else d σ a Q
theorem ic (l:PT X c tA) (j:PE X a ta) (k:PE X b tb):PE X (.IfExp c a b pos) (tIf tA ta tb):=by
 intro pins s σ H Q I h;refine wpAny_IfExp (thn (l pins s σ H _ I h) λd g ⟨f,e,i⟩=>?_);cases d with
 | true=>exact j pins g σ f Q e i
 | false=>exact k pins g σ f Q e i
end
def SqL (K:PySem.W.Frag) (H:Hp) (a:Addr) (xs:List V):Prop:=
 Rd H a (.lst xs) \/
  ∃ (o:Obj) (b:Array Value) (n:Nat),K.lookup a=some o/\o.cls=.type "list"/\o.dict=none/\o.data=.seq b n/\b.size<=sizeLine/\Vals xs b.toList
def SqT (K:PySem.W.Frag) (H:Hp) (a:Addr) (xs:List V):Prop:=
 Rd H a (.tup xs) \/
  ∃ (o:Obj) (b:Array Value) (n:Nat),K.lookup a=some o/\o.cls=.type "tuple"/\o.data=.seq b n/\b.size<=sizeLine/\Vals xs b.toList
def vG:Value->Option V
 | .none=>some .non
 | .bool b=>some (.bl b)
 | .int i _=>some (.int i)
 | .str x _=>some (.str x)
 | .bytes b _=>some (.byt b)
 | .float b _=>some (.flt b)
 | .ref a=>some (.ref a)
 | .type n=>some (.ty n)
 | _=>none
theorem RelV.abs (r:RelV x u):vG u=some x:=by
 cases x with
 | non=>cases r;rfl
 | bl _=>cases r;rfl
 | int _=>obtain ⟨t,rfl⟩:=r;rfl
 | str _=>obtain ⟨t,rfl⟩:=r;rfl
 | byt _=>obtain ⟨t,rfl⟩:=r;rfl
 | flt _=>obtain ⟨t,rfl⟩:=r;rfl
 | ref _=>cases r;rfl
 | ty _=>cases r;rfl
theorem RelV.inj {u:Value} (r:RelV x u) (q:RelV y u):x=y:=AD (r.abs.symm.trans q.abs)
theorem Vals.inj:∀ {xs ys:List V} {us:List Value},Vals xs us->Vals ys us->xs=ys
 | _,_,_,.nil,.nil=>rfl
 | _,_,_,.cons r t,.cons a t'=>by rw [r.inj a,Vals.inj t t']
section
variable {X:Cx} {pins:List (Addr×Obj)} {σ:St} {H:Hp} {s:Shared} {a:Addr} {xs ys:List V}
theorem Inv.list (I:Inv X pins σ H s) (h:SqL X.K H a xs):∃ b:List Value,Vals xs b/\PlainL s.heap a b.toArray/\xs.length<=sizeLine:=by
 rcases h with h | ⟨o,b,n,hk,hc,hd,hs,hz,r⟩
 ·obtain ⟨z,b,n,r,e⟩:=h.ok I.hok;exact ⟨b,r,⟨_,n,e,rfl,rfl,rfl⟩,z⟩
 ·refine ⟨b.toList,r,⟨o,n,I.kIn a o hk,hc,hd,by simpa using hs⟩,?_⟩;have e:=r.length;simp at e;omega
theorem Inv.tuple (I:Inv X pins σ H s) (h:SqT X.K H a xs):∃ b:List Value,Vals xs b/\IsTup s.heap a b.toArray/\xs.length<=sizeLine:=by
 rcases h with h | ⟨o,b,n,hk,hc,hs,hz,r⟩
 ·obtain ⟨z,b,r,p⟩:=h.ok I.hok;exact ⟨b,r,p.is,z⟩
 ·refine ⟨b.toList,r,⟨o,I.kIn a o hk,hc,n,by simpa using hs⟩,?_⟩;have e:=r.length;simp at e;omega
theorem Inv.list_inj (I:Inv X pins σ H s) (h:SqL X.K H a xs) (h':SqL X.K H a ys):xs=ys:=by
 obtain ⟨b,r,⟨o,n,e,_,_,d⟩,_⟩:=I.list h;obtain ⟨its',f,⟨o',g,c,_,_,d'⟩,_⟩:=I.list h';rw [e] at c;cases c;rw [d] at d';injection d' with d1 _;have:b=its':=by simpa using congrArg Array.toList d1
 subst this;exact r.inj f
theorem Inv.tuple_inj (I:Inv X pins σ H s) (h:SqT X.K H a xs) (h':SqT X.K H a ys):xs=ys:=by
 obtain ⟨b,r,⟨o,e,_,n,d⟩,_⟩:=I.tuple h;obtain ⟨its',f,⟨o',c,_,g,d'⟩,_⟩:=I.tuple h';rw [e] at c;cases c;rw [d] at d';injection d' with d1 _;have:b=its':=by simpa using congrArg Array.toList d1
 subst this;exact r.inj f
end
abbrev Cx.wish (X:Cx) (E:Value->Shared->Prop):Cx:={ X with xe:=E }
abbrev Cx.nox (X:Cx):Cx:=X.wish λ_ _=>False
theorem Cx.Ok.wish {X:Cx} (a:X.Ok) (E:Value->Shared->Prop):(X.wish E).Ok:=
 ⟨a.mod,a.kind,a.glob,a.blt,a.above,a.inj,a.has,a.cab,a.hd,a.frames,a.stk,a.exf,a.bs,a.bsz,a.noex,a.exfs,a.funs,a.frf⟩
theorem Cx.Ok.unwish {X:Cx} {E:Value->Shared->Prop} (a:(X.wish E).Ok):X.Ok:=
 ⟨a.mod,a.kind,a.glob,a.blt,a.above,a.inj,a.has,a.cab,a.hd,a.frames,a.stk,a.exf,a.bs,a.bsz,a.noex,a.exfs,a.funs,a.frf⟩
section
variable {X:Cx} {pins:List (Addr×Obj)} {σ:St} {H:Hp} {s:Shared} {E:Value->Shared->Prop}
theorem Inv.wish (I:Inv X pins σ H s) (E:Value->Shared->Prop):Inv (X.wish E) pins σ H s:=⟨I.ok.wish E,I.os,I.bare,I.base,I.loc,I.cell,I.free,I.freeC,I.pin,I.hok,I.len⟩
theorem Inv.unwish (I:Inv (X.wish E) pins σ H s):Inv X pins σ H s:=⟨I.ok.unwish,I.os,I.bare,I.base,I.loc,I.cell,I.free,I.freeC,I.pin,I.hok,I.len⟩
theorem SP.unwish (h:SP (X.wish E) pins D f s'):SP X pins D f s':=by
 cases f with
 | next=>obtain ⟨σ',H',I,q⟩:=h;exact ⟨σ',H',I.unwish,q⟩
 | brk=>obtain ⟨σ',H',I,q⟩:=h;exact ⟨σ',H',I.unwish,q⟩
 | cont=>obtain ⟨σ',H',I,q⟩:=h;exact ⟨σ',H',I.unwish,q⟩
 | ret u=>obtain ⟨v,σ',H',I,r,q⟩:=h;exact ⟨v,σ',H',I.unwish,r,q⟩
theorem PSs.nox {st:List Stmt} {t:TS} (h:PSs X.nox st t):PSs X st t:=λpins s σ H D I a=>
 Co (h pins s σ H D (I.wish _) a) (λ_ _ q=>q.unwish) λ_ _ z=>False.elim z
end
section
variable {X:Cx} {st:Stmt} {rest:List Stmt} {t u:TS} {e:Expr} {te:TE} {pos:Pos}
def tNext:TS:=λD σ H=>D.nx σ H
def vX (t u:TS):TS:=λD σ H=>t { D with nx:=u D } σ H
theorem lD:PSs X [] tNext:=λ_ _ σ H _ I h=>Do ⟨σ,H,I,h⟩
theorem gE (h1:PS X st t) (h2:PSs X rest u):PSs X (st :: rest) (vX t u):=by
 intro pins s σ H D I h;refine wpAny_execs_cons (thn (h1 pins s σ H { D with nx:=u D } I h) λf s1 q=>?_);cases f with
 | next=>
  obtain ⟨σ',H',I',q⟩:=q;exact h2 pins s1 σ' H' D I' q
 | ret v=>exact q
 | brk=>exact q
 | cont=>exact q
theorem Inv.quiet {σ:St} {H:Hp} {s:Shared} (I:Inv X pins σ H s):interactive X.env=false:=by simp [interactive,I.ok.kind]
def tf (te:TE):TS:=λD σ H=>te σ H λ_ a=>D.nx σ a
theorem jy (a:PE X e te) (hs:swapsWith e none pos.line X.env=pure false:=by rfl):PS X (.Expr e pos) (tf te):=by
 intro pins s σ H D I h;exact wpAny_Expr_any (thn (a pins s σ H _ I h) λv f ⟨x,c,b,g,d⟩=>⟨σ,c,b,d⟩) I.quiet hs
def va (te:TE):TS:=λD σ H=>te σ H D.rt
theorem nK (a:PE X e te):PS X (.Return (some e) pos) (va te):=by
 intro pins s σ H D I h;exact wpAny_Return_some (thn (a pins s σ H _ I h) λv g ⟨x,c,b,f,d⟩=>⟨x,σ,c,b,f,d⟩)
def vV (c:TT) (t u:TS):TS:=λD σ H=>c σ H λb a=>if b=true then t D σ a else u D σ a
theorem ps_if {j:TT} (m:PT X c j) (k:PSs X a t) (l:PSs X b u):PS X (.If c a b pos) (vV j t u):=by
 intro pins s σ H D I h;refine wpAny_If (thn (m pins s σ H _ I h) λd g ⟨f,e,i⟩=>?_);cases d with
 | true=>exact k pins g σ f D e i
 | false=>exact l pins g σ f D e i
def tNever:TS:=λ_ _ _=>False
theorem jR:PS X st tNever:=λ_ _ _ _ _ _ h=>h.elim
end
abbrev TG:=V->St->Hp->(St->Hp->Prop)->Prop
abbrev TGs:=List V->St->Hp->(St->Hp->Prop)->Prop
def PG (X:Cx) (a:Expr) (t:TG):Prop:=
 ∀ (pins:List (Addr×Obj)) (s:Shared) (σ:St) (H:Hp) (v:V) (u:Value) (Q:St->Hp->Prop),Inv X pins σ H s->RelV v u->t v σ H Q ->
  wpAny (model X.prog X.w) X.A (assign a X.env u) (λ_ s'=>∃ b H',Inv X pins b H' s'/\Q b H') X.xe s
def PGs (X:Cx) (b:List Expr) (t:TGs):Prop:=
 ∀ (pins:List (Addr×Obj)) (s:Shared) (σ:St) (H:Hp) (vs:List V) (us:List Value) (Q:St->Hp->Prop),Inv X pins σ H s->Vals vs us->t vs σ H Q ->
  wpAny (model X.prog X.w) X.A (assignInOrder ((assignEach b X.env).map (·.2)) us) (λ_ s'=>∃ a H',Inv X pins a H' s'/\Q a H') X.xe s
abbrev qK:=V->V->V->Hp->(Hp->Prop)->Prop
def pK (X:Cx) (t:qK):Prop:=
 ∀ (pins:List (Addr×Obj)) (s:Shared) (σ:St) (H:Hp) (o i v:V) (b a u:Value) (Q:Hp->Prop),Inv X pins σ H s->RelV o b->RelV i a->RelV v u->t o i v H Q ->
  wpAny (model X.prog X.w) X.A (setItem b a u) (λ_ s'=>∃ H',Inv X pins σ H' s'/\Q H') X.xe s
abbrev TIp:=V->V->Hp->VK->Prop
def PIp (X:Cx) (op:Operator) (t:TIp):Prop:=
 ∀ (pins:List (Addr×Obj)) (s:Shared) (σ:St) (H:Hp) (x y:V) (v u:Value) (Q:VK),Inv X pins σ H s->RelV x v->RelV y u->t x y H Q ->
  wpAny (model X.prog X.w) X.A (inplaceOp op v u) (EP X pins σ Q) X.xe s
section
variable {X:Cx} {pos:Pos}
def dq (i:Nat):TG:=λv σ H Q=>Q (σ.set i (some v)) H
theorem M4 (e:X.N.Nodup) (c:X.N[i]?=some x) (a:Loc X.env.scope x) (b:X.fn x=true\/X.env.scope.names.lookup x=some .local:=by first | exact .inl rfl | exact .inr rfl | assumption):PG X (.Name x pos) (dq i):=by
 intro pins s σ H v u Q I r h;exact wpAny_assign_Name (N5 I e c a r (λs' d=>⟨_,H,d,h⟩) b)
def gNil:TGs:=λvs σ H Q=>vs=[]/\Q σ H
def sr (t:TG) (u:TGs):TGs:=λvs σ H Q=>∃ v r,vs=v :: r/\t v σ H λa H'=>u r a H' Q
theorem kS:PGs X [] gNil:=by
 intro pins s σ H vs us Q I r h;obtain ⟨e,h⟩:=h;subst e;cases r;exact assignInOrder_nil ⟨σ,H,I,h⟩
theorem gI {t:TG} {u:TGs} (b:PG X e t) (g:PGs X es u)
  (hs:(assignEach (e :: es) X.env).map (·.2)=assign e X.env :: (assignEach es X.env).map (·.2):=by rfl):PGs X (e :: es) (sr t u):=by
 intro pins s σ H vs us Q I r h;obtain ⟨v,l,f,h⟩:=h;subst f;cases r with
 | cons r i=>
  rw [hs];refine assignInOrder_cons (thn (b pins s σ H _ _ _ I r h) λ_ j ⟨a,d,c,k⟩=>?_);exact g pins j a d _ _ Q c i k
def vI (K:PySem.W.Frag) (n:Nat) (t:TGs):TG:=λv σ H Q=>∃ a xs,v=.ref a/\SqT K H a xs/\xs.length=n/\t xs σ H Q
theorem pS {k:Nat} {t:TGs} {n:Nat} (x:X.calm=true) (h:PGs X es t)
  (i:(assignEach es X.env).length=n:=by rfl) (d:(assignEach es X.env).findIdx? (·.1)=none:=by rfl):PG X (.Tuple es k pos) (vI X.K n t):=by
 intro pins s σ H v u Q I r c;obtain ⟨a,xs,w,j,p,c⟩:=c;subst w;cases r;obtain ⟨q,f,l,hz⟩:=I.tuple j;refine assign_Tuple_tuple (I.ok.hd x) l (by simp [i,<- p,f.length]) d λh' g=>?_;have m:=I.kept (t':=s.toks) λb o e=>g b o (At (An e)) e;exact h pins _ σ H xs _ Q m (by simpa using f) c
def uX (c d:TE) (t:qK):TG:=λv σ H Q=>c σ H λo b=>d σ b λi e=>t o i v e λa=>Q σ a
theorem nD {c d:TE} {t:qK} (w:PE X o c) (A:PE X i d) (hs:pK X t)
  (q:∀ v,assign (.Subscript o i pos) X.env v=(do
   let a <- holding [v] (eval o X.env)
   let b <- holding [v,a] (eval i X.env)
   standAt pos
   holding [v,a,b] (setItem a b v)
   release [v,a,b] []):=by intro _;rfl):PG X (.Subscript o i pos) (uX c d t):=by
 intro pins s σ H v u Q I r h;rw [q];refine Af (AM (thn (w pins s σ H _ I h) λa f ⟨x,l,g,p,n⟩=>?_));refine Af (AM (thn (A pins f σ l _ g n) λb C ⟨y,D,z,k,e⟩=>?_));refine Af (Du (Af (AM (thn (hs pins C σ D x y v a b u _ z p k r e) λ_ E ⟨B,j,m⟩=>?_))));exact wpAny_release ⟨σ,B,j,m⟩
def kA (te:TE) (g:TG):TS:=λD σ H=>te σ H λx a=>g x σ a D.nx
theorem bv {tg e:Expr} {te:TE} {g:TG} (a:PE X e te) (f:PG X tg g) (hs:swapsWithSole [tg] e pos.line X.env=pure false:=by rfl) (l:swappedStores [tg] e X.env=pure none:=by rfl)
  (b:(assignEach [tg] X.env).map (·.2)=[assign tg X.env]:=by rfl):PS X (.Assign [tg] e pos) (kA te g):=by
 intro pins s σ H D I h;refine wpAny_Assign_stores (thn (a pins s σ H _ I h) λv i ⟨x,d,c,k,j⟩=>?_) hs l;rw [b];exact thn (f pins i σ d x v _ c k j) λ_ m q=>q
theorem jj (k:X.N.Nodup) (f:X.N[i]?=some x) (a:Loc X.env.scope x) (d:PE X e te) (hs:swapsWith e (some (.Name x pos')) pos.line X.env=pure false:=by rfl) (b:X.fn x=true\/X.env.scope.names.lookup x=some .local:=by first | exact .inl rfl | exact .inr rfl | assumption) :
  PS X (.Assign [.Name x pos'] e pos) (kA te (dq i)):=by
 intro pins s σ H D I h;refine wpAny_Assign_Name (thn (d pins s σ H _ I h) λv n ⟨y,j,g,m,l⟩=>?_) hs;exact N5 g k f a m (λo c=>⟨_,j,c,l⟩) b
def vA (i:Nat) (te:TE) (b:TIp):TS:=λD σ H=>∃ x,σ[i]?=some (some x)/\te σ H λy c=>b x y c λz a=>D.nx (σ.set i (some z)) a
theorem qL (R:X.N.Nodup) (o:X.N[i]?=some x) (g:Loc X.env.scope x) (C:PE X e te) (O:PIp X op ti) (B:X.fn x=true\/X.env.scope.names.lookup x=some .local:=by first | exact .inl rfl | exact .inr rfl | assumption) :
  PS X (.AugAssign (.Name x pos') op e pos) (vA i te ti):=by
 intro pins s σ H D I h;obtain ⟨v,Q,h⟩:=h;obtain ⟨m,G,p⟩:=I.loc;have j:Vis X.env.scope x:=by rcases g with k | k;exact .inl k;exact .inr (.inl k)
 obtain ⟨u,r,l⟩:=p i x v o Q j;refine wpAny_AugAssign_Name ?_;have n:wpAny (model X.prog X.w) X.A (eval e X.env) (λw f=>wpAny (model X.prog X.w) X.A (inplaceOp op u w) (λr d=>wpAny (model X.prog X.w) X.A (storeName X.env x r) (λ_=>SP X pins D .next) X.xe d) X.xe f) X.xe s:=by
  refine thn (C pins s σ H _ I h) λw t ⟨y,K,E,N,M⟩=>?_;refine thn (O pins t σ K v y u w _ E r N M) λz V ⟨T,S,P,J,q⟩=>?_;exact N5 P R o g J (λU F=>⟨_,S,F,q⟩) B
 rcases l with ⟨a,L⟩ | ⟨a,c,A,b⟩
 ·exact wpAny_loadName_local I.ok.kind a G L n
 ·rcases a with a | a
  ·exact wpAny_loadName_cell I.ok.kind a A b n
  ·rcases g with k | k
   ·have:X.env.scope.names.lookup x=some .free:=a;rw [k] at this;cases this
   ·have:X.env.scope.names.lookup x=some .free:=a;rw [k] at this;cases this
def ipI (f:Int->Int->Int):TIp:=λx y H Q=>∃ i j,x=.int i/\y=.int j/\Q (.int (f i j)) H
theorem nM:PIp X .Add (ipI λi j=>i+j):=by
 intro pins s σ H x y v u Q I c a h;obtain ⟨i,j,d,b,q⟩:=h;subst d;subst b;obtain ⟨t,rfl⟩:=c;obtain ⟨t',rfl⟩:=a;exact iadd_int ⟨.int _,H,I.tok _,⟨_,rfl⟩,q⟩
end
section
variable {X:Cx} {pos:Pos}
def og (c:TT) (e:TS):TS:=λD σ H=>∃ W:Nat->St->Hp->Prop,(∃ m,W m σ H)/\∀ m σ H,W m σ H ->
 c σ H λb d=>if b=true then ∃ N:St->Hp->Prop,(∀ a H',N a H'->∃ m',m'<m/\W m' a H')/\e { D with nx:=N,ct:=N,bk:=D.nx } σ d else D.nx σ d
theorem gR {tc:TT} {tb:TS} (hp:PassesOwn (model X.prog X.w) X.A X.env X.xe) (hc:PT X c tc) (hb:PSs X body tb):PS X (.While c body [] pos) (og tc tb):=by
 intro pins s σ H D I h;obtain ⟨W,⟨m0,w0⟩,turn⟩:=h;refine wpAny_While (codeAny_whileLoop (λn s'=>∃ σ' H',Inv X pins σ' H' s'/\W n σ' H') ?_ m0 ⟨σ,H,I,w0⟩);rintro n s1 ⟨σ1,H1,I1,w1⟩;refine Bp hp (thn (hc pins s1 σ1 H1 _ I1 (turn n σ1 H1 w1)) λb s2 ⟨H2,I2,q2⟩=>?_);cases b with
 | true=>
  obtain ⟨N,hN,q2⟩:=q2;rw [if_pos rfl];refine Bp hp (thn (hb pins s2 σ1 H2 _ I2 q2) λf s3 q3=>?_);cases f with
  | next=>
   obtain ⟨σ3,H3,I3,n3⟩:=q3;obtain ⟨m',hm,w3⟩:=hN σ3 H3 n3;exact ⟨m',hm,σ3,H3,I3,w3⟩
  | cont=>
   obtain ⟨σ3,H3,I3,n3⟩:=q3;obtain ⟨m',hm,w3⟩:=hN σ3 H3 n3;exact ⟨m',hm,σ3,H3,I3,w3⟩
  | brk=>exact q3
  | ret v=>exact q3
 | false=>
  rw [if_neg Ak];exact Do ⟨σ1,H2,I2,q2⟩
end
structure It where
 go:Nat->Hp->Prop
 yld:Nat->Hp->V->Hp->Prop
 stop:Nat->Hp->Prop
def U3 (X:Cx) (pins:List (Addr×Obj)) (H:Hp) (b:Addr):Prop:=
 H b=none/\b≠X.env.locals/\b∉X.fs/\(b∈X.ex\/X.s₀.heap.objs.size<=b)/\(∀ x c,X.env.cells.lookup x=some c->c≠b)/\∀ p∈X.pn++pins,p.1≠b
theorem Inv.fpOk {σ:St} {H H':Hp} {s:Shared} {b:Addr} (I:Inv X pins σ H s) (a:s.heap.objs.size<=b) (f:H' b=none):U3 X pins H' b:=by
 refine ⟨f,Nat.ne_of_gt (AA I.lt a),I.nofs a,.inr (AY I.sz a),λx c e z=>?_,λp d z=>?_⟩
 ·obtain ⟨v,q⟩:=I.cell x c e;exact absurd (AA q.lt (by rw [z];exact a)) (BR _)
 ·exact absurd (AA (An (I.pin p d).1) (by rw [z];exact a)) (BR _)
structure Turn (P:Program) (w:World) (K:PySem.W.Frag) (tg:Expr) (J:It) (fp:List Addr) (it:Addr) (tn:Nat->Heap->Prop):Prop where
 mem:it∈fp
 obj:∀ i h,tn i h->∀ b∈fp,∃ o,h.get? b=some o/\∀ v,o.data≠.cell v
 keep:∀ i h h',tn i h->(∀ b∈fp,∀ o,h.get? b=some o->h'.get? b=some o)->tn i h'
 item:∀ (X:Cx),X.prog=P->X.w=w->X.K=K->X.calm=true->∀ (i:Nat) (pins:List (Addr×Obj)) (s:Shared) (σ:St) (H:Hp) (E:Value->Shared->Prop),Inv X pins σ H s->(∀ b∈fp,U3 X pins H b)->tn i s.heap->J.go i H ->
  wpAny (model P w) X.A (pyNext (.ref it)) (λr s1=>∃ u,r=some u /\
   wpAny (model P w) X.A (letOwnedTupleGo tg (.ref it) u) (λ_ s2=>∃ x H',Inv X pins σ H' s2/\RelV x u/\J.yld i H x H'/\tn (i+1) s2.heap/\∀ b∈fp,H' b=none) E s1) E s
 done:∀ (X:Cx),X.prog=P->X.w=w->X.K=K->X.calm=true->∀ (i:Nat) (pins:List (Addr×Obj)) (s:Shared) (σ:St) (H:Hp) (E:Value->Shared->Prop),Inv X pins σ H s->(∀ b∈fp,U3 X pins H b)->tn i s.heap->J.stop i H ->
  wpAny (model P w) X.A (pyNext (.ref it)) (λr s1=>r=none/\Inv X pins σ H s1) E s
 self:∀ (A:Around) (i:Nat) (s:Shared) (Q:Value->Shared->Prop) (E:Value->Shared->Prop),tn i s.heap->Q (.ref it) s->wpAny (model P w) A (pyIter (.ref it)) Q E s
abbrev TI:=St->Hp->(It->Hp->Prop)->Prop
def PIE (X:Cx) (pins:List (Addr×Obj)) (σ:St) (tg:Expr) (R:It->Hp->Prop) (a:Value) (d:Shared):Prop:=
 ∃ (it:Addr) (c:List Addr) (tn:Nat->Heap->Prop) (J:It) (H':Hp),a=.ref it/\Inv X pins σ H' d/\Turn X.prog X.w X.K tg J c it tn/\tn 0 d.heap/\(∀ b∈c,U3 X pins H' b)/\R J H'
def PI (X:Cx) (tg a:Expr) (b:TI):Prop:=
 ∀ (pins:List (Addr×Obj)) (s:Shared) (σ:St) (H:Hp) (R:It->Hp->Prop),Inv X pins σ H s->b σ H R ->
  wpAny (model X.prog X.w) X.A (eval a X.env) (λv c=>wpAny (model X.prog X.w) X.A (pyIter v) (PIE X pins σ tg R) X.xe c) X.xe s
theorem gP {s:Shared} {tg:Expr} {it:Addr} {u:Value} {o:Obj} {n:String} {vs:Array Value} {Q:Unit->Shared->Prop} (c:s.heap.get? it=some o) (b:o.cls=.type n) (hd:o.data=.fields vs)
  (d:["enumerate","zip","dict_itemiterator","dict_reverseitemiterator","odict_iterator","itertools.zip_longest","itertools.pairwise"].contains n=false) (a:Q () s):wpAny M A (letOwnedTupleGo tg (.ref it) u) Q E s:=by
 cases tg <;> first
  | exact Ai a
  | (cases u <;> first
    | exact Ai a
    | (refine Af (wpAny_load c ?_);rw [b,hd];show wpAny M A (if (["enumerate","zip","dict_itemiterator","dict_reverseitemiterator","odict_iterator","itertools.zip_longest","itertools.pairwise"].contains n&&vs[0]?==some (rawInt _))=true then _ else _) Q E s;rw [if_neg (by intro h;rw [d,CN] at h;cases h)];exact Ai a))
def Itl (K:PySem.W.Frag) (a:Addr):It:=
 ⟨λi H=>∃ xs x,SqL K H a xs/\xs[i]?=some x,λi H x H'=>H'=H/\∀ xs,SqL K H a xs->xs[i]?=some x,λi H=>∃ xs,SqL K H a xs/\xs.length<=i⟩
def Itt (K:PySem.W.Frag) (a:Addr):It:=
 ⟨λi H=>∃ xs x,SqT K H a xs/\xs[i]?=some x,λi H x H'=>H'=H/\∀ xs,SqT K H a xs->xs[i]?=some x,λi H=>∃ xs,SqT K H a xs/\xs.length<=i⟩
def Itr (lo:Int) (n:Nat):It:=⟨λi _=>i<n,λi H x H'=>H'=H/\x=.int (lo+i),λi _=>n<=i⟩
theorem fG {K:PySem.W.Frag} {tg:Expr} (a it:Addr):Turn P w K tg (Itl K a) [it] it (λi h=>h.IsListIter it a i) where
 mem:=by simp
 obj:=λi h st b f=>by
  have e:b=it:=by simpa using f
  subst e;obtain ⟨o,e,c,d⟩:=st;exact ⟨o,e,λv z=>by rw [d] at z;cases z⟩
 keep:=λi h h' st k=>st.at λo e=>k it (by simp) o e
 item:=by
  intro X G D A J i pins s σ H E I j st F;subst G D A;obtain ⟨xs,x,l,B⟩:=F;obtain ⟨n,C,p,hz⟩:=I.list l;obtain ⟨u,S,N⟩:=C.get B;obtain ⟨y,q,O,m,t,r⟩:=j it (by simp);refine wpAny_pyNext_list_item st p.isList (by simpa using S) λh' g R=>?_;have M:=I.turned (t':=s.toks) (λb o f e=>(R.2 b f).trans e) y q m t r;obtain ⟨o,e,c,d⟩:=id g;exact ⟨u,rfl,gP e c d (by decide) ⟨x,H,M,N,⟨rfl,λys Q=>by rw [I.list_inj Q l];exact B⟩,g,λb f=>(j b f).1⟩⟩
 done:=by
  intro X G D A J i pins s σ H E I j st F;subst G D A;obtain ⟨xs,l,B⟩:=F;obtain ⟨n,C,p,hz⟩:=I.list l;obtain ⟨y,q,O,m,t,r⟩:=j it (by simp);have T:=C.length;exact wpAny_pyNext_list_end (I.ok.hd J) st p.isList (by simp;omega) λh' L=>⟨rfl,I.turned (λb o f e=>L b o f e) y q m t r⟩
 self:=λ_ _ _ _ _ st h=>wpAny_pyIter_listiter st h
theorem bu {K:PySem.W.Frag} {tg:Expr} (a it:Addr):Turn P w K tg (Itt K a) [it] it (λi h=>h.IsTupleIter it a i) where
 mem:=by simp
 obj:=λi h st b f=>by
  have e:b=it:=by simpa using f
  subst e;obtain ⟨o,e,c,d⟩:=st;exact ⟨o,e,λv z=>by rw [d] at z;cases z⟩
 keep:=λi h h' st k=>st.at λo e=>k it (by simp) o e
 item:=by
  intro X G D A J i pins s σ H E I j st F;subst G D A;obtain ⟨xs,x,l,B⟩:=F;obtain ⟨n,C,p,hz⟩:=I.tuple l;obtain ⟨u,S,N⟩:=C.get B;obtain ⟨y,q,O,m,t,r⟩:=j it (by simp);refine wpAny_pyNext_tuple_item st (p) (by simpa using S) λh' g R=>?_;have M:=I.turned (t':=s.toks) (λb o f e=>(R.2 b f).trans e) y q m t r;obtain ⟨o,e,c,d⟩:=id g;exact ⟨u,rfl,gP e c d (by decide) ⟨x,H,M,N,⟨rfl,λys Q=>by rw [I.tuple_inj Q l];exact B⟩,g,λb f=>(j b f).1⟩⟩
 done:=by
  intro X G D A J i pins s σ H E I j st F;subst G D A;obtain ⟨xs,l,B⟩:=F;obtain ⟨n,C,p,hz⟩:=I.tuple l;obtain ⟨y,q,O,m,t,r⟩:=j it (by simp);have T:=C.length;exact wpAny_pyNext_tuple_end (I.ok.hd J) st (p) (by simp;omega) λh' L=>⟨rfl,I.turned (λb o f e=>L b o f e) y q m t r⟩
 self:=λ_ _ _ _ _ st h=>wpAny_pyIter_tupleiter st h
theorem cI {K:PySem.W.Frag} {tg:Expr} (it:Addr) (lo:Int) (n:Nat):Turn P w K tg (Itr lo n) [it] it (λi h=>IsRangeIter h it (lo+(i:Nat) * 1) ((n:Int)-(i:Nat)) 1) where
 mem:=by simp
 obj:=λi h st b a=>by
  have e:b=it:=by simpa using a
  subst e;exact ⟨_,st,λv z=>by
   have D:=z;cases D⟩
 keep:=λi h h' st k=>k it (by simp) _ st
 item:=by
  intro X x r q g i pins s σ H E I d st u;subst x r q;obtain ⟨p,j,C,f,m,l⟩:=d it (by simp);have W:=Walks.range (prog:=X.prog) (w:=X.w) (I.ok.hd g) it lo 1 n;refine W.item i s _ _ u st λv h' G A c F=>?_;obtain ⟨t,rfl⟩:=A;have B:Inv X pins σ H { s with heap:=h',toks:=G }:=I.turned (λb o a e=>F b o (by simpa using a) e) p j f m l;refine ⟨_,rfl,gP c rfl rfl (by decide) ⟨.int (lo+i),H,B,⟨t,?_⟩,⟨rfl,rfl⟩,c,λb a=>(d b a).1⟩⟩;rw [Int.mul_one]
 done:=by
  intro X x r q g i pins s σ H E I d st u;subst x r q;obtain ⟨p,j,C,f,m,l⟩:=d it (by simp);exact wpAny_pyNext_range_end (I.ok.hd g) st (by have:n<=i:=u;omega) λh' y=>⟨rfl,I.turned (λb o a e=>y b o a e) p j f m l⟩
 self:=λ_ _ _ _ _ st h=>wpAny_pyIter_rangeiter st h
section
variable {X:Cx} {tg:Expr}
theorem gV {σ:St} {H:Hp} {s:Shared} {R:It->Hp->Prop} {E:Value->Shared->Prop} {lo a:Int} {t u v:Tok} {d:Nat} (I:Inv X pins σ H s) (f:-(2 ^ 62)<=lo) (j:lo<2 ^ 62) (l:-(2 ^ 62)<=a) (h:a<2 ^ 62)
  (q:R (Itr lo (a-lo).toNat) H):wpAny (model X.prog X.w) X.A (pyIter (.ref s.heap.objs.size)) (PIE X pins σ tg R) E { s with heap:=s.heap.push { cls:=.type "range",data:=.fields #[.int lo t,.int a u,.int 1 v] },toks:=d }:=by
 refine wpAny_pyIter_range (IsRange.new ..) (small_one f j l h) ?_;have c:Inv X pins σ H { s with heap:=s.heap.push { cls:=.type "range",data:=.fields #[.int lo t,.int a u,.int 1 v] },toks:=d }:=I.kept λb o e=>Ah _ e;refine ⟨(s.heap.push { cls:=.type "range",data:=.fields #[.int lo t,.int a u,.int 1 v] }).objs.size,[(s.heap.push { cls:=.type "range",data:=.fields #[.int lo t,.int a u,.int 1 v] }).objs.size],_,_,H,rfl,
  c.kept λb o e=>Ah _ e,cI _ lo (a-lo).toNat,?_,λb k=>?_,q⟩
 ·have i:lo+((0:Nat):Int) * 1=lo:=by simp
  have g:(((a-lo).toNat:Nat):Int)-((0:Nat):Int)=Builtin.Range.rangeSize lo a 1:=by rw [rangeSize_one];split <;> omega
  rw [i,g];exact Aw _ rfl
 ·have e:b=(s.heap.push { cls:=.type "range",data:=.fields #[.int lo t,.int a u,.int 1 v] }).objs.size:=by simpa using k
  subst e;exact c.fpOk (Aj _) (c.hok.fresh (Aj _))
def tQ (a:TA):TI:=λσ H R=>a σ H λvs b=>∃ j:Int,vs=[.int j]/\-(2 ^ 62)<=j/\j<2 ^ 62/\R (Itr 0 j.toNat) b
theorem fN (f:Gl X "range") (k:X.mg "range" = none) (c:PA X [a] ta) (hs:starEach [a] X.env=[(false,eval a X.env)]:=by rfl):PI X tg (.Call (.Name "range" p) [a] [] pos) (tQ ta):=by
 intro pins s σ H R I h;refine Call_ (H8 I f k boot_range (BD (thn (c pos pins s σ H _ I h) λus m ⟨vs,n,d,l,b⟩=>?_) hs rfl));obtain ⟨j,e,b,g,q⟩:=b;subst e;cases l with
 | cons r i=>
  cases i;obtain ⟨t,rfl⟩:=r;exact call_range_1 (gV d (by omega) (by omega) b g (by simpa using q))
def ve (f:TI) (g:TG) (c:TS):TS:=λD σ H=>f σ H λJ d=>∃ W:Nat->Nat->St->Hp->Prop,(∃ m,W 0 m σ d)/\∀ i m σ H,W i m σ H ->
 (J.stop i H/\D.nx σ H)\/(J.go i H/\∃ N:St->Hp->Prop,(∀ a H',N a H'->∃ m',m'<m/\W (i+1) m' a H')/\∀ x H',J.yld i H x H'->g x σ H' λb e=>c { D with nx:=N,ct:=N,bk:=D.nx } b e)
def v5 (a:List Addr) (h:Heap):List (Addr×Obj):=a.filterMap λb=>(h.get? b).map λo=>(b,o)
theorem j5 {b:Addr} {o:Obj} (a:b∈fp) (e:h.get? b=some o):(b,o)∈v5 fp h:=List.mem_filterMap.mpr ⟨b,a,by rw [e];rfl⟩
theorem eX (a:p∈v5 fp h):p.1∈fp/\h.get? p.1=some p.2:=by
 obtain ⟨b,c,e⟩:=List.mem_filterMap.mp a;cases q:h.get? b with
 | none=>rw [q] at e;cases e
 | some o=>
  rw [q] at e;have d:=AD e;subst d;exact ⟨c,q⟩
theorem Inv.pinned {σ:St} {H:Hp} {s:Shared} {a:List Addr} (I:Inv X pins σ H s) (i:∀ b∈a,U3 X pins H b) (k:∀ b∈a,∃ o,s.heap.get? b=some o/\∀ v,o.data≠.cell v):Inv X (pins++v5 a s.heap) σ H s:=
 I.pins_of λp j=>(Ax.mp j).elim (λz=>I.pin p (AC _ z)) λz=>by
  obtain ⟨c,e⟩:=eX z;obtain ⟨h,l,g,_⟩:=i p.1 c;obtain ⟨o,f,d⟩:=k p.1 c;rw [e] at f;cases f;exact ⟨e,h,l,g,d⟩
theorem Inv.unpinned {σ:St} {H:Hp} {s:Shared} (I:Inv X (pins++pl) σ H s):Inv X pins σ H s:=I.pins_of λp a=>I.pin p (AC _ (List.mem_append_left _ a))
theorem pk {wi:TI} {g:TG} {tb:TS} {pos:Pos} (hp:PassesOwn (model X.prog X.w) X.A X.env X.xe) (hc:X.calm=true) (hi:PI X tg iter wi) (hg:PG X tg g) (hb:PSs X body tb)
  (hs:∀ x,foldedSetIterable iter X.env x=pure x:=by intro _;rfl):PS X (.For tg iter body [] pos) (ve wi g tb):=by
 intro pins s σ H D I h;refine wpAny_For (thn (hi pins s σ H _ I h) λv s1 h1=>thn h1 λitv s2 h2=>?_) hs;obtain ⟨it,fp,tn,J,H2,e,I2,T,st2,f2,W,⟨m0,w0⟩,turn⟩:=h2;subst e;have stat:∀ {H':Hp},(∀ b∈fp,H' b=none)->∀ b∈fp,U3 X pins H' b:=λhn b hb=>⟨hn b hb,(f2 b hb).2⟩;refine codeAny_forLoop_any (λn s'=>∃ i σ' H',Inv X pins σ' H' s'/\tn i s'.heap/\(∀ b∈fp,H' b=none)/\W i n σ' H') ?_ m0 ⟨0,σ,H2,I2,st2,λb hb=>(f2 b hb).1,w0⟩;rintro n s3 ⟨i,σ3,H3,I3,st3,fr3,w3⟩;rcases turn i n σ3 H3 w3 with ⟨stop,qn⟩ | ⟨go,N,hN,step⟩
 ·refine Bp hp (thn (T.done X rfl rfl rfl hc i pins s3 σ3 H3 X.xe I3 (stat fr3) st3 stop) λr s4 ⟨hr,I4⟩=>?_);subst hr;exact Do ⟨σ3,H3,I4,qn⟩
 ·refine Bp hp (thn (T.item X rfl rfl rfl hc i pins s3 σ3 H3 X.xe I3 (stat fr3) st3 go) λr s4 ⟨u,hr,h4⟩=>?_);subst hr;refine Bp hp (thn h4 λ_ s5 ⟨x,H5,I5,r5,y5,st5,fr5⟩=>?_);have I5':=I5.pinned (stat fr5) (T.obj _ _ st5);refine Bp hp (thn (hg _ s5 σ3 H5 x u _ I5' r5 (step x H5 y5)) λ_ s6 ⟨σ6,H6,I6,q6⟩=>?_);refine Bp hp (thn (hb _ s6 σ6 H6 _ I6 q6) λf s7 q7=>?_);have again:∀ {σ7:St} {H7:Hp},Inv X (pins++v5 fp s5.heap) σ7 H7 s7->N σ7 H7->∃ m,m<n/\∃ i σ' H',Inv X pins σ' H' s7/\tn i s7.heap/\(∀ b∈fp,H' b=none)/\W i m σ' H':=λ{σ7 H7} I7 n7=>by
   obtain ⟨m',hm,w7⟩:=hN σ7 H7 n7;refine ⟨m',hm,i+1,σ7,H7,I7.unpinned,T.keep _ _ _ st5 λb hb o e=>(I7.pin (b,o) (AC _ (AC _ (j5 hb e)))).1,λb hb=>?_,w7⟩;obtain ⟨o,e,d⟩:=T.obj _ _ st5 b hb;exact (I7.pin (b,o) (AC _ (AC _ (j5 hb e)))).2.1
  cases f with
  | next=>obtain ⟨σ7,H7,I7,n7⟩:=q7;exact again I7 n7
  | cont=>obtain ⟨σ7,H7,I7,n7⟩:=q7;exact again I7 n7
  | brk=>obtain ⟨σ7,H7,I7,q7⟩:=q7;exact ⟨σ7,H7,I7.unpinned,q7⟩
  | ret v=>obtain ⟨x7,σ7,H7,I7,r7,q7⟩:=q7;exact ⟨x7,σ7,H7,I7.unpinned,r7,q7⟩
end
abbrev R2:=V->V->Hp->VK->Prop
def OpR (X:Cx) (f:Value->Value->Sem Value) (r:R2):Prop:=
 ∀ (pins:List (Addr×Obj)) (s:Shared) (σ:St) (H:Hp) (x y:V) (v u:Value) (Q:VK),Inv X pins σ H s->RelV x v->RelV y u->r x y H Q ->
  wpAny (model X.prog X.w) X.A (f v u) (EP X pins σ Q) X.xe s
def UnR (X:Cx) (f:Value->Sem Value) (r:V->Hp->VK->Prop):Prop:=
 ∀ (pins:List (Addr×Obj)) (s:Shared) (σ:St) (H:Hp) (x:V) (v:Value) (Q:VK),Inv X pins σ H s->RelV x v->r x H Q ->
  wpAny (model X.prog X.w) X.A (f v) (EP X pins σ Q) X.xe s
def e8 (X:Cx) (f:Value) (r:List V->Hp->VK->Prop):Prop:=
 ∀ (pins:List (Addr×Obj)) (s:Shared) (σ:St) (H:Hp) (xs:List V) (us:List Value) (Q:VK),Inv X pins σ H s->Vals xs us->r xs H Q ->
  wpAny (model X.prog X.w) X.A (call f us) (EP X pins σ Q) X.xe s
def vN (X:Cx) (r:V->Hp->(Bool->Hp->Prop)->Prop):Prop:=
 ∀ (pins:List (Addr×Obj)) (s:Shared) (σ:St) (H:Hp) (x:V) (v:Value) (Q:Bool->Hp->Prop),Inv X pins σ H s->RelV x v->r x H Q ->
  wpAny (model X.prog X.w) X.A (truthy v) (TP X pins σ Q) X.xe s
def tOp (r:R2) (a b:TE):TE:=λσ H Q=>a σ H λx d=>b σ d λy c=>r x y c Q
def tUn (r:V->Hp->VK->Prop) (a:TE):TE:=λσ H Q=>a σ H λx b=>r x b Q
def rI (C:Int->Int->Prop) (g:Int->Int->V):R2:=λx y H Q=>∃ i j,x=.int i/\y=.int j/\C i j/\Q (g i j) H
def rI0 (g:Int->Int->V):R2:=λx y H Q=>∃ i j,x=.int i/\y=.int j/\Q (g i j) H
def rU (g:Int->V):V->Hp->VK->Prop:=λx H Q=>∃ i,x=.int i/\Q (g i) H
section
variable {X:Cx} {a b c:Expr} {ta tb tc:TE} {pos:Pos}
theorem oK (j:PE X a ta) (l:PE X b tb) {pins:List (Addr×Obj)} {s:Shared} {σ:St} {H:Hp} {R:V->V->Hp->Prop} (I:Inv X pins σ H s)
  (h:ta σ H λx g=>tb σ g λy d=>R x y d) {Q:Value->Shared->Prop} {f:Value->Value->Sem Value}
  (o:∀ v u i x y d,Inv X pins σ d i->RelV x v->RelV y u->R x y d->wpAny (model X.prog X.w) X.A (f v u) Q X.xe i) :
  wpAny (model X.prog X.w) X.A (eval a X.env) (λv c=>wpAny (model X.prog X.w) X.A (eval b X.env) (λu e=>wpAny (model X.prog X.w) X.A (f v u) Q X.xe e) X.xe c) X.xe s:=by
 refine thn (j pins s σ H _ I h) λv m ⟨x,g,k,t,n⟩=>?_;refine thn (l pins m σ g _ k n) λu i ⟨y,d,q,p,r⟩=>?_;grind
theorem tL (d:OpR X (binaryOp op) r) (c:PE X a ta) (g:PE X b tb):PE X (.BinOp a op b pos) (tOp r ta tb):=by
 intro pins s σ H Q I h;exact wpAny_BinOp (oK c g I h λv u j x y k e i f q=>d pins j σ k x y v u Q e i f q)
theorem tw (c:UnR X (unaryOp op) r) (b:PE X a ta):PE X (.UnaryOp op a pos) (tUn r ta):=by
 intro pins s σ H Q I h;exact UnaryOp_ (thn (b pins s σ H _ I h) λv f ⟨x,e,d,i,g⟩=>c pins f σ e x v Q d i g)
theorem opI {C:Int->Int->Prop} {g:Int->Int->Int}
  (a:∀ (i j:Int) (t u:Tok) (s:Shared) (Q:Value->Shared->Prop) (E:Value->Shared->Prop),C i j->Q (.int (g i j) s.toks) { s with toks:=s.toks+1 }->wpAny (model X.prog X.w) X.A (f (.int i t) (.int j u)) Q E s) :
  OpR X f (rI C λi j=>.int (g i j)):=by
 intro pins s σ H x y v u Q I d c h;obtain ⟨i,j,rfl,rfl,b,q⟩:=h;obtain ⟨t,rfl⟩:=d;obtain ⟨t',rfl⟩:=c;exact a i j t t' s _ _ b ⟨.int (g i j),H,I.tok _,⟨_,rfl⟩,q⟩
theorem rE {g:Int->Int->Int}
  (a:∀ (i j:Int) (t u:Tok) (s:Shared) (Q:Value->Shared->Prop) (E:Value->Shared->Prop),Q (.int (g i j) s.toks) { s with toks:=s.toks+1 }->wpAny (model X.prog X.w) X.A (f (.int i t) (.int j u)) Q E s) :
  OpR X f (rI0 λi j=>.int (g i j)):=by
 intro pins s σ H x y v u Q I c b h;obtain ⟨i,j,rfl,rfl,q⟩:=h;obtain ⟨t,rfl⟩:=c;obtain ⟨t',rfl⟩:=b;exact a i j t t' s _ _ ⟨.int (g i j),H,I.tok _,⟨_,rfl⟩,q⟩
theorem lH {g:Int->Int->Bool}
  (a:∀ (i j:Int) (t u:Tok) (s:Shared) (Q:Value->Shared->Prop) (E:Value->Shared->Prop),Q (.bool (g i j)) s->wpAny (model X.prog X.w) X.A (f (.int i t) (.int j u)) Q E s) :
  OpR X f (rI0 λi j=>.bl (g i j)):=by
 intro pins s σ H x y v u Q I c b h;obtain ⟨i,j,rfl,rfl,q⟩:=h;obtain ⟨t,rfl⟩:=c;obtain ⟨t',rfl⟩:=b;exact a i j t t' s _ _ ⟨.bl (g i j),H,I,rfl,q⟩
def iS (i j:Int):Prop:=0<j/\j<1073741824
def lh (i j:Int):Prop:=0<=j/\j<=1000000/\i.natAbs<2 ^ 64
def CMul (i j:Int):Prop:=(-(2 ^ 64)<i/\i<2 ^ 64)\/(-(2 ^ 64)<j/\j<2 ^ 64)
theorem CMul.ok (h:CMul i j):IntMulOk i j:=by
 rcases h with ⟨b,a⟩ | ⟨b,a⟩
 ·exact .of_left (intBits_le_64 b a)
 ·exact .of_right (intBits_le_64 b a)
theorem oE:OpR X (binaryOp .Add) (rI0 λi j=>.int (i+j)):=rE λ_ _ _ _ _ _ _ q=>add_int q
theorem qI:OpR X (binaryOp .Sub) (rI0 λi j=>.int (i-j)):=rE λ_ _ _ _ _ _ _ q=>sub_int q
theorem qC:OpR X (binaryOp .Mult) (rI CMul λi j=>.int (i * j)):=opI λ_ _ _ _ _ _ _ a q=>mul_int q a.ok
theorem lT:OpR X (binaryOp .FloorDiv) (rI iS λi j=>.int (i / j)):=opI λi j _ _ _ _ _ a q=>by
 have c:=a.1;have b:=a.2;exact floordiv_int (by omega) (by rw [Int.fdiv_eq_ediv_of_nonneg i (by omega)];exact q) (.inl (PyProof.noPylong_small (by omega)))
theorem oT:OpR X (binaryOp .Mod) (rI (λ_ j=>0<j) λi j=>.int (i % j)):=opI λi j _ _ _ _ _ a q=>by
 have b:=a;exact mod_int' (by omega) (by rw [Int.fmod_eq_emod_of_nonneg i (by omega)];exact q)
theorem pw:OpR X (binaryOp .Pow) (rI lh λi j=>.int (i ^ j.toNat)):=opI λ_ _ _ _ _ _ _ a q=>pow_int_small a.1 a.2.1 a.2.2 q
theorem unI {g:Int->Int}
  (a:∀ (i:Int) (t:Tok) (s:Shared) (Q:Value->Shared->Prop) (E:Value->Shared->Prop),Q (.int (g i) s.toks) { s with toks:=s.toks+1 }->wpAny (model X.prog X.w) X.A (f (.int i t)) Q E s) :
  UnR X f (rU λi=>.int (g i)):=by
 intro pins s σ H x v Q I b h;obtain ⟨i,rfl,q⟩:=h;obtain ⟨t,rfl⟩:=b;exact a i t s _ _ ⟨.int (g i),H,I.tok _,⟨_,rfl⟩,q⟩
theorem nP:UnR X (unaryOp .USub) (rU λi=>.int (-i)):=unI λ_ _ _ _ _ q=>neg_int q
end
def uC:V->V->Bool
 | .non,.non=>true | .non,.int _=>true | .int _,.non=>true | .non,.bl _=>true | .bl _,.non=>true | .non,.str _=>true | .str _,.non=>true
 | .int _,.int _=>true | .bl _,.bl _=>true | .str _,.str _=>true | .byt _,.byt _=>true
 | .int _,.str _=>true | .str _,.int _=>true | .bl _,.str _=>true | .str _,.bl _=>true
 | _,_=>false
def rEq:R2:=λx y H Q=>uC x y=true/\Q (.bl (decide (x=y))) H
def rNe:R2:=λx y H Q=>uC x y=true/\Q (.bl (!decide (x=y))) H
theorem cz {i j:Int}:decide (V.int i=V.int j)=(i==j):=by grind
theorem hF {i j:Bool}:decide (V.bl i=V.bl j)=(i==j):=by grind
theorem dD {i j:Str}:decide (V.str i=V.str j)=(i==j):=by grind
theorem dN:decide (V.byt i=V.byt j)=(i.toList==j.toList):=by
 rw [Bz];simp_all
section
variable {X:Cx} {a b c:Expr} {ta tb tc:TE} {pos:Pos}
theorem b5 {σ:St} {H:Hp} {s:Shared} {Q:VK} {k a:Bool} (I:Inv X pins σ H s) (q:Q (.bl k) H) (e:k=a):EP X pins σ Q (.bool a) s:=by
 subst e;exact ⟨.bl k,H,I,rfl,q⟩
theorem qZ:OpR X (compareOp .Eq) rEq:=by
 intro pins s σ H x y v u Q I rx ry h;obtain ⟨hs,q⟩:=h;cases x with
 | non=>
  cases rx;cases y with
  | non=>cases ry;exact PySem.EqNone.eq_none_none (b5 I q (by simp))
  | bl j=>cases ry;exact PySem.EqNone.eq_none_bool (b5 I q (by simp))
  | int j=>obtain ⟨t',rfl⟩:=ry;exact PySem.EqNone.eq_none_int (b5 I q (by simp))
  | str j=>obtain ⟨t',rfl⟩:=ry;exact PySem.EqNone.eq_none_str (b5 I q (by simp))
  | _=>exact absurd (hs) Ak
 | bl i=>
  cases rx;cases y with
  | non=>cases ry;exact PySem.EqNone.eq_bool_none (b5 I q (by simp))
  | bl j=>cases ry;exact eq_bool (b5 I q hF)
  | str j=>obtain ⟨t',rfl⟩:=ry;exact PySem.EqMixed.eq_bool_str (b5 I q (by simp))
  | _=>exact absurd (hs) Ak
 | int i=>
  obtain ⟨t,rfl⟩:=rx;cases y with
  | non=>cases ry;exact PySem.EqNone.eq_int_none (b5 I q (by simp))
  | int j=>obtain ⟨t',rfl⟩:=ry;exact eq_int (b5 I q cz)
  | str j=>obtain ⟨t',rfl⟩:=ry;exact PySem.EqMixed.eq_int_str (b5 I q (by simp))
  | _=>exact absurd (hs) Ak
 | str i=>
  obtain ⟨t,rfl⟩:=rx;cases y with
  | non=>cases ry;exact PySem.EqNone.eq_str_none (b5 I q (by simp))
  | bl j=>cases ry;exact PySem.EqMixed.eq_str_bool (b5 I q (by simp))
  | int j=>obtain ⟨t',rfl⟩:=ry;exact PySem.EqMixed.eq_str_int (b5 I q (by simp))
  | str j=>obtain ⟨t',rfl⟩:=ry;exact eq_str (b5 I q dD)
  | _=>exact absurd (hs) Ak
 | byt i=>
  obtain ⟨t,rfl⟩:=rx;cases y with
  | byt j=>obtain ⟨t',rfl⟩:=ry;exact PySem.W.eq_bytes (b5 I q dN)
  | _=>exact absurd (hs) Ak
 | _=>cases y <;> exact absurd (hs) Ak
theorem uD:OpR X (compareOp .NotEq) rNe:=by
 intro pins s σ H x y v u Q I rx ry h;obtain ⟨hs,q⟩:=h;cases x with
 | non=>
  cases rx;cases y with
  | non=>cases ry;exact PySem.EqNone.ne_none_none (b5 I q (by simp))
  | bl j=>cases ry;exact PySem.EqNone.ne_none_bool (b5 I q (by simp))
  | int j=>obtain ⟨t',rfl⟩:=ry;exact PySem.EqNone.ne_none_int (b5 I q (by simp))
  | str j=>obtain ⟨t',rfl⟩:=ry;exact PySem.EqNone.ne_none_str (b5 I q (by simp))
  | _=>exact absurd (hs) Ak
 | bl i=>
  cases rx;cases y with
  | non=>cases ry;exact PySem.EqNone.ne_bool_none (b5 I q (by simp))
  | bl j=>cases ry;exact ne_bool (b5 I q (congrArg not hF))
  | str j=>obtain ⟨t',rfl⟩:=ry;exact PySem.EqMixed.ne_bool_str (b5 I q (by simp))
  | _=>exact absurd (hs) Ak
 | int i=>
  obtain ⟨t,rfl⟩:=rx;cases y with
  | non=>cases ry;exact PySem.EqNone.ne_int_none (b5 I q (by simp))
  | int j=>obtain ⟨t',rfl⟩:=ry;exact ne_int (b5 I q (congrArg not cz))
  | str j=>obtain ⟨t',rfl⟩:=ry;exact PySem.EqMixed.ne_int_str (b5 I q (by simp))
  | _=>exact absurd (hs) Ak
 | str i=>
  obtain ⟨t,rfl⟩:=rx;cases y with
  | non=>cases ry;exact PySem.EqNone.ne_str_none (b5 I q (by simp))
  | bl j=>cases ry;exact PySem.EqMixed.ne_str_bool (b5 I q (by simp))
  | int j=>obtain ⟨t',rfl⟩:=ry;exact PySem.EqMixed.ne_str_int (b5 I q (by simp))
  | str j=>obtain ⟨t',rfl⟩:=ry;exact ne_str (b5 I q (congrArg not dD))
  | _=>exact absurd (hs) Ak
 | byt i=>
  obtain ⟨t,rfl⟩:=rx;cases y with
  | byt j=>obtain ⟨t',rfl⟩:=ry;exact PySem.W.ne_bytes (b5 I q (congrArg not dN))
  | _=>exact absurd (hs) Ak
 | _=>cases y <;> exact absurd (hs) Ak
theorem uB:OpR X (compareOp .Lt) (rI0 λi j=>.bl (decide (i<j))):=lH λ_ _ _ _ _ _ _ q=>lt_int q
theorem sK:OpR X (compareOp .LtE) (rI0 λi j=>.bl (decide (i<=j))):=lH λ_ _ _ _ _ _ _ q=>le_int q
theorem rQ:OpR X (compareOp .Gt) (rI0 λi j=>.bl (decide (j<i))):=lH λ_ _ _ _ _ _ _ q=>gt_int q
theorem rP:OpR X (compareOp .GtE) (rI0 λi j=>.bl (decide (j<=i))):=lH λ_ _ _ _ _ _ _ q=>ge_int q
theorem lF (d:OpR X (compareOp op) r) (c:PE X a ta) (g:PE X b tb) (k:behindInMarks op b=false):PE X (.Compare a [op] [b] pos) (tOp r ta tb):=by
 intro pins s σ H Q I h;exact wpAny_Compare1 (oK c g I h λv u j x y l e i f q=>d pins j σ l x y v u Q e i f q) k
def sR (t:TE):TT:=λσ H Q=>t σ H λx H'=>∃ k,x=.bl k/\Q k H'
theorem dv (w:OpR X (compareOp op) r) (t:PE X a ta) (j:PE X b tb) (o:behindInMarks op b=false):PT X (.Compare a [op] [b] pos) (sR (tOp r ta tb)):=by
 intro pins s σ H Q I h;refine wpAny_isTrue_Compare1 (thn (t pins s σ H _ I h) λv f ⟨x,m,g,q,p⟩=>thn (j pins f σ m _ g p) λu C ⟨y,D,A,l,d⟩=>
  thn (w pins C σ D x y v u _ A q l d) λc F ⟨z,B,i,E,k,e,n⟩=>?_) o
 subst e;cases E;exact CW ⟨B,i,n⟩
def ee (K:PySem.W.Frag) (x:V) (H:Hp) (k:Bool):Prop:=
 match x with
 | .non=>k=false
 | .bl b=>k=b
 | .int i=>k=(i != 0)
 | .str y=>y.length<=sizeLine/\k=((y.length:Int) != 0)
 | .byt y=>y.size<=sizeLine/\k=((y.size:Int) != 0)
 | .ref p=>(∃ xs,SqL K H p xs/\k=!xs.isEmpty)\/(∃ xs,SqT K H p xs/\k=!xs.isEmpty)\/∃ a,H p=some (.dK a)/\k=!a.isEmpty
 | _=>False
theorem ck (r:KV kvs vs):(!vs.isEmpty)=!kvs.isEmpty:=by
 cases r <;> rfl
theorem O2 (r:Vals xs its):(!its.toArray.isEmpty)=!xs.isEmpty:=by
 cases r <;> simp
theorem J2:(sizeLine:Nat)<2 ^ 63:=by rw [AK];decide
theorem aJ:vN X (λx H Q=>∃ k,ee X.K x H k/\Q k H):=by
 intro pins s σ H x v Q I rx h;obtain ⟨k,e,q⟩:=h;have hl:=J2;have hs:=AK;cases x with
 | non=>
  cases rx;have e':=e;subst e';exact truthy_none ⟨H,I,q⟩
 | bl b=>
  cases rx;have e':=e;subst e';exact CW ⟨H,I,q⟩
 | int i=>
  obtain ⟨t,rfl⟩:=rx;have e':=e;subst e';exact PySem.P.truthy_int ⟨H,I,q⟩
 | str y=>
  obtain ⟨t,rfl⟩:=rx;obtain ⟨hy,e'⟩:=e;subst e';exact PySem.P.truthy_str (by omega) ⟨H,I.tok _,q⟩
 | byt y=>
  obtain ⟨t,rfl⟩:=rx;obtain ⟨hy,e'⟩:=e;subst e';exact PySem.W.truthy_bytes (by omega) ⟨H,I.tok _,q⟩
 | ref p=>
  cases rx;have e':=e;rcases e' with ⟨xs,hx,e'⟩ | ⟨xs,hx,e'⟩ | ⟨kvs,hx,e'⟩
  ·subst e';obtain ⟨its,r,pl,hz⟩:=I.list hx;have hlen:=r.length;exact wpAny_truthy_list pl.isList (by simp;omega) ⟨H,I.tok _,by rw [O2 r];exact q⟩
  ·subst e';obtain ⟨its,r,pl,hz⟩:=I.tuple hx;have hlen:=r.length;exact truthy_tuple pl (by simp;omega) ⟨H,I.tok _,by rw [O2 r];exact q⟩
  ·subst e';obtain ⟨hz,hS,vs,r,m⟩:=I.hok p _ hx;have hlen:=Paired.length r;exact wpAny_truthy_dict hS m (by omega) ⟨H,I.tok _,by rw [ck r];exact q⟩
 | _=>exact (e).elim
theorem gx (c:PE X a ta) (d:∀ b,isTrue a X.env b=(do let v <- b;standAt a.pos;holding [v] (truthy v))) :
  PT X a (λσ H Q=>ta σ H λx H'=>∃ k,ee X.K x H' k/\Q k H'):=by
 intro pins s σ H Q I h;exact isTrue_plain (thn (c pins s σ H _ I h) λv g ⟨x,f,e,j,i⟩=>aJ pins g σ f x v Q e j i) (d _)
theorem bx:OpR X (binaryOp .Add) (λx y H Q=>∃ i j,x=.str i/\y=.str j/\i.length+j.length<=sizeLine/\Q (.str (i++j)) H):=by
 intro pins s σ H x y v u Q I b a h;obtain ⟨i,j,rfl,rfl,hz,q⟩:=h;obtain ⟨t,rfl⟩:=b;obtain ⟨t',rfl⟩:=a;exact add_str (λt' c=>⟨.str (i++j),H,I.tok _,⟨_,rfl⟩,q⟩) hz
theorem v6 (r:Vals [x] us):∃ u,us=[u]/\RelV x u:=by
 cases r with
 | cons b a=>cases a;exact ⟨_,rfl,b⟩
theorem jJ (r:Vals [x,y] us):∃ u w',us=[u,w']/\RelV x u/\RelV y w':=by
 cases r with
 | cons b a=>
  cases a with
  | cons d c=>cases c;exact ⟨_,_,rfl,b,d⟩
theorem V7:e8 X (.type "int") (λxs H Q=>(∃ i,xs=[.int i]/\Q (.int i) H)\/∃ k,xs=[.bl k]/\Q (.int (if k then 1 else 0)) H):=by
 intro pins s σ H xs us Q I r h;rcases h with ⟨i,rfl,q⟩ | ⟨k,rfl,q⟩
 ·obtain ⟨u,rfl,t,rfl⟩:=v6 r;exact call_int_int ⟨.int i,H,I,⟨_,rfl⟩,q⟩
 ·obtain ⟨u,rfl,a⟩:=v6 r;cases a;exact call_int_bool ⟨.int (if k then 1 else 0),H,I.tok _,⟨_,rfl⟩,q⟩
theorem Z7:e8 X (.type "str") (λxs H Q=>∃ i,xs=[.int i]/\i.natAbs.log2<1920/\Q (.str (toString i)) H):=by
 intro pins s σ H xs us Q I r h;obtain ⟨i,rfl,hz,q⟩:=h;obtain ⟨u,rfl,t,rfl⟩:=v6 r;exact PySem.P.str_of_int hz ⟨.str _,H,I.tok _,⟨_,rfl⟩,q⟩
end
theorem fO {h:Heap} {c:Addr} {mA:Str->Option Value} (n:h.Ns1 c mA):∃ od,h.get? c=some od/\∀ name,PySem.W.lookIn name od=some (mA name):=by
 obtain ⟨o,es,k,g,hd,d,_,j⟩:=n;refine ⟨o,g,λname=>?_⟩;have e:=j name;unfold nsFind findBy at e;rw [<- Array.find?_toList] at e;unfold PySem.W.lookIn;rw [hd];dsimp only;split
 ·grind
 ·rename_i q;rw [q] at e;have a:es.toList.any (·.refKey)=false:=by
   rw [List.any_eq_false];intro y f;obtain ⟨z,t,b⟩:=d y (Array.mem_toList_iff.mp f);simp [DictEntry.refKey,b]
  have i:¬ es.toList.any (·.refKey)=true:=by rw [a];exact Ak
  rw [if_neg i];exact congrArg some e
theorem RelO.some_of (r:RelO (some v) o):∃ u,o=some u/\RelV v u:=by
 cases o with
 | none=>exact (r).elim
 | some u=>exact ⟨u,rfl,r⟩
def B5 (K:PySem.W.Frag) (C:Addr) (f:Str):Prop:=PySem.W.findIn K (.ref C) f=some none
structure Room (q:Bool) (k:Nat) (A:Around):Prop where
 hd:q=false->A.handled=none
 dp:A.depth+3 * k+5<recursionLimit
 un:A.units+16 * k+200<cLine
 gd:A.guards=some []
theorem Room.any {k:Nat} {A:Around} (r:Room false k A):Room q k A:=⟨λ_=>r.hd rfl,r.dp,r.un,r.gd⟩
theorem Room.deeper (r:Room q (k+1) A) (a:Env):Room q k (A.deeper a):=
 ⟨r.hd,by have:=r.dp;show A.depth+1+3 * k+5<_;omega,by have:=r.un;show A.units+3+16 * k+200<_;omega,r.gd⟩
theorem Room.depth (r:Room q k A):A.depth<recursionLimit:=by have:=r.dp;omega
theorem Room.units (r:Room q k A):A.units+64<cLine:=by have:=r.un;omega
def tNil:TA:=λ_ H Q=>Q [] H
def tp (d:TE) (a:TA):TA:=λσ H Q=>d σ H λx c=>a σ c λxs b=>Q (x :: xs) b
section
variable {X:Cx} {e:Expr} {es:List Expr} {te:TE} {t:TA} {pos:Pos}
theorem jO:PA X [] tNil:=λ_ _ _ _ H Q I h=>Ce ⟨[],H,I,.nil,h⟩
theorem aR (a:PE X e te) (g:PA X es t) (hs:starEach (e :: es) X.env=(false,eval e X.env) :: starEach es X.env:=by rfl):PA X (e :: es) (tp te t):=by
 intro pos pins s σ H Q I h;rw [hs];refine BV (thn (a pins s σ H _ I h) λu j ⟨x,f,d,m,l⟩=>?_);exact thn (g pos pins j σ f _ d l) λus n ⟨xs,k,c,b,i⟩=>⟨x :: xs,k,c,.cons m b,i⟩
def vC (t:TA):TE:=λσ H Q=>t σ H λxs a=>xs.length<=sizeLine/\∀ p,a p=none->Q (.ref p) (upd a p (.tup xs))
def uR (t:TA):TE:=λσ H Q=>t σ H λxs a=>xs.length<=sizeLine/\∀ p,a p=none->Q (.ref p) (upd a p (.lst xs))
theorem pH {x1} (h:PA X es t):PE X (.Tuple es x1 pos) (vC t):=by
 intro pins s σ H Q I f;refine wpAny_Tuple_spliced (thn (h pos pins s σ H _ I f) λus c ⟨xs,g,a,r,z,q⟩=>⟨by rw [<- r.length];exact z,?_⟩);have d:=a.hok.fresh (Aj _);refine ⟨.ref c.heap.objs.size,upd g c.heap.objs.size (.tup xs),a.laid (λb u e=>Ah _ e) (Aj _) ?_,rfl,q _ d⟩;exact ⟨z,us,r,⟨_,Aw _ rfl,rfl,_,rfl,rfl⟩⟩
theorem ib (h:PA X es t):PE X (.List es pos) (uR t):=by
 intro pins s σ H Q I f;refine wpAny_List_spliced (thn (h pos pins s σ H _ I f) λus c ⟨xs,g,a,r,z,q⟩=>⟨by rw [<- r.length];exact z,?_⟩);have d:=a.hok.fresh (Aj _);refine ⟨.ref c.heap.objs.size,upd g c.heap.objs.size (.lst xs),a.laid (λb u e=>Ah _ e) (Aj _) ?_,rfl,q _ d⟩;exact ⟨z,us,0,r,Aw _ rfl⟩
end
abbrev Sp:=List V->Hp->VK->XK->Prop
structure CXT where
 cx:List Env->Hp->Shared->XK->Value->Shared->Prop
 q:Bool
instance:CoeFun CXT λ_=>List Env->Hp->Shared->XK->Value->Shared->Prop:=⟨CXT.cx⟩
structure Env0 (P:Program) (w:World) (K:PySem.W.Frag) (mg:Str->Option Value) (base:Heap) (A:Around) (outer:List Env) (s:Shared) (H:Hp):Prop where
 frames:A.frames=some outer
 mod:Mod K mg base
 bs:∀ b o,base.get? b=some o->s.heap.get? b=some o/\H b=none
 bsz:base.objs.size<=s.heap.objs.size
 funs:s.heap.FunFrames base outer
 frf:∀ b∈frs outer,H b=none
 hok:HOk P w H s.heap
 bare:AllBare s.gens
def CE (a:List Env) (P:Program) (w:World) (H:Hp) (s:Shared) (Q:VK) (u:Value) (s':Shared):Prop:=
 ∃ v H',s'.os=s.os/\AllBare s'.gens/\Un (frs a) [] H H' s.heap s'.heap/\HOk P w H' s'.heap/\RelV v u/\Q v H'
def CR (CX:CXT) (a:List Env) (P:Program) (w:World) (H:Hp) (s:Shared) (Q:VK) (E:XK) (r:Result) (s':Shared):Prop:=
 match r with
 | .ok (.ret u)=>CE a P w H s Q u s'
 | .ok _=>False
 | .error e=>CX a H s E e s'
structure FnOk (P:Program) (w:World) (K:PySem.W.Frag) (mg:Str->Option Value) (base:Heap) (CX:CXT) (k:Nat) (f:Addr) (fd:FuncData) (ps:List Str) (sp:Sp):Prop where
 len:∀ vs H Q E,sp vs H Q E->vs.length=ps.length
 run:∀ (A:Around) (outer:List Env) (s:Shared) (H:Hp) (args:Args) (us:List Value) (vs:List V) (Q:VK) (E:XK),Room CX.q k A->Env0 P w K mg base A outer s H->BindsTo s fd args (ps.zip us)->Vals vs us->sp vs H Q E ->
  codeAny (model P w) A (.call (.ref f) args) (CR CX outer P w H s Q E) s
theorem FnOk.imp {K:PySem.W.Frag} {d:Str->Option Value} {a:Heap} {CX:CXT} {k:Nat} {f:Addr} {fd:FuncData} {ps:List Str} {sp sp':Sp} (F:FnOk P w K d a CX k f fd ps sp)
  (h:∀ vs H Q E,sp' vs H Q E->sp vs H Q E):FnOk P w K d a CX k f fd ps sp':=
 ⟨λvs H Q E q=>F.len vs H Q E (h _ _ _ _ q),λA b s H c us vs Q E g e i j hs=>F.run A b s H c us vs Q E g e i j (h _ _ _ _ hs)⟩
section
variable {X:Cx} {pins:List (Addr×Obj)} {σ:St} {H:Hp} {s s':Shared}
theorem Inv.env0 (I:Inv X pins σ H s):Env0 X.prog X.w X.K X.mg X.base X.A X.stack s H:=
 ⟨I.ok.frames,I.ok.mod,I.bs,AY I.ok.bsz I.sz,I.stack,I.stkFree,I.hok,I.bare⟩
theorem Inv.after (I:Inv X pins σ H s) (h:CE X.stack X.prog X.w H s Q u s'):EP X pins σ Q u s':=by
 obtain ⟨v,H',f,a,i,e,r,q⟩:=h;obtain ⟨j,g,d,t,c⟩:=s';obtain rfl:c=s.os:=f;exact ⟨v,H',I.call i e a (λb z=>absurd z (by simp)),r,q⟩
end
def mU (sp:Sp) (a:List V) (E:XK) (t:TA):TE:=λσ H Q=>t σ H λvs b=>sp (vs++a) b Q E
def Binds (K:PySem.W.Frag) (fd:FuncData) (ps:List Str) (ds:List Value):Prop:=
 ∀ (s:Shared) (us:List Value),K.In s.heap->(us++ds).length=ps.length->BindsTo s fd ⟨us,[]⟩ (ps.zip (us++ds))
theorem Binds.all {K:PySem.W.Frag} {fd:FuncData} {ps:List Str} (h:∀ us:List Value,us.length=ps.length->bindArgs fd ⟨us,[]⟩=pure (ps.zip us)):Binds K fd ps []:=λs us _ a=>by
 rw [Bf] at a ⊢;exact .of_eq (h us a)
def X5 (CX:CXT) (X:Cx) (E:XK):Prop:=∀ (pins:List (Addr×Obj)) (σ:St) (H:Hp) (s:Shared) (e:Value) (s':Shared),Inv X pins σ H s->CX X.stack H s E e s'->X.xe e s'
section
variable {X:Cx} {CX:CXT} {k:Nat} {f C:Addr} {fd:FuncData} {ps:List Str} {sp:Sp} {dvs:List V} {ds:List Value} {E:XK} {x m:Str} {p pos apos:Pos} {e o:Expr} {es:List Expr} {ta:TE} {t:TA}
theorem gp {σ:St} {H:Hp} {s:Shared} {Q:VK} {us:List Value} {vs:List V} (F:FnOk X.prog X.w X.K X.mg X.base CX k f fd ps sp) (hr:Room CX.q k X.A) (hb:Binds X.K fd ps ds) (hd:Vals dvs ds) (hx:X5 CX X E)
  (I:Inv X pins σ H s) (r:Vals vs us) (h:sp (vs++dvs) H Q E):wpAny (model X.prog X.w) X.A (call (.ref f) us) (EP X pins σ Q) X.xe s:=by
 have r2:=r.append hd;have hl:(us++ds).length=ps.length:=by rw [<- r2.length];exact F.len _ _ _ _ h
 refine Dx (BJ (F.run X.A X.stack s H ⟨us,[]⟩ (us++ds) (vs++dvs) Q E hr I.env0 (hb s us I.kIn hl) r2 h) λr s' hq=>?_);cases r with
 | error e=>exact hx pins σ H s e s' I hq
 | ok fl=>
  cases fl with
  | ret u=>exact I.after hq
  | next=>exact False.elim hq
  | brk=>exact False.elim hq
  | cont=>exact False.elim hq
theorem lI (F:FnOk X.prog X.w X.K X.mg X.base CX k f fd ps sp) (l:Room CX.q k X.A) (m:Gl X x) (o:X.mg x=some (.ref f)) (d:PySem.W.keepIn X.K (.ref f)=true) (n:Binds X.K fd ps ds) (hd:Vals dvs ds) (g:X5 CX X E)
  (i:PA X (e :: es) t) (a:(x==("__debug__" : Str))=false:=by decide) (j:starEach (e :: es) X.env=(false,eval e X.env) :: starEach es X.env:=by rfl) (b:(backTo pos (starEach es X.env)).any (·.1)=false:=by rfl) :
  PE X (.Call (.Name x p) (e :: es) [] pos) (mU sp dvs E t):=by
 intro pins s σ H Q I h;refine Bn (aF I m o ?_ a);refine PySem.W.callWith_K I.ok.mod.kin d (thn (i pos pins s σ H _ I h) λus v ⟨vs,u,c,r,q⟩=>⟨c.kIn,?_⟩) j b;exact gp F l n hd g c r q
theorem jd (F:FnOk X.prog X.w X.K X.mg X.base CX k f fd ps sp) (d:Room CX.q k X.A) (e:Gl X x) (i:X.mg x=some (.ref f)) (b:PySem.W.keepIn X.K (.ref f)=true) (g:Binds X.K fd ps ds) (hd:Vals dvs ds) (c:X5 CX X E)
  (a:(x==("__debug__" : Str))=false:=by decide):PE X (.Call (.Name x p) [] [] pos) (mU sp dvs E tNil):=by
 intro pins s σ H Q I h;refine Bn (aF I e i ?_ a);exact PySem.W.callWith_K0 I.kIn b (gp F d g hd c I .nil h)
end
structure FnScope (N P:List Str) (sc:Scope):Prop where
 kind:sc.kind=.function
 co:sc.isCoroutine=false
 gen:sc.isGenerator=false
 nd:N.Nodup
 pre:N.take P.length=P
 par:∀ x∈P,sc.names.lookup x=some .local\/sc.names.lookup x=some .cell
 nofree:∀ y∈sc.names,y.2≠.free
theorem W6 {b:Str->Option NameKind} {x:Str}:∀ {a:List (Str×Value)} {m:Str->Option Value},(∀ v,(x,v)∉a)->bindL b a m x=m x
 | [],_,_=>rfl
 | (n,v) :: r,m,h=>by
  unfold bindL;rw [W6 λw c=>h w (Av _ c)];split
  ·have:x≠n:=by rintro rfl;exact h v Ap
   simp [this]
  ·rfl
theorem V8 {b:Str->Option NameKind} {x:Str}:∀ {a:List (Str×Value)} {m:Str->Option Value},(∀ v,(x,v)∉a)->bindC b a m x=m x
 | [],_,_=>rfl
 | (n,v) :: r,m,h=>by
  unfold bindC;rw [V8 λw c=>h w (Av _ c)];split
  ·rfl
  ·have:x≠n:=by rintro rfl;exact h v Ap
   simp [this]
theorem U9 {a:Str->Option NameKind} {x:Str} {v:Value}:∀ {P:List Str} {vs:List Value} {i:Nat} {m:Str->Option Value},P.Nodup->P[i]?=some x->vs[i]?=some v->a x=some .local ->
  bindL a (P.zip vs) m x=some v
 | [],_,_,_,_,h,_,_=>by simp at h
 | _ :: _,[],_,_,_,_,h,_=>by simp at h
 | p :: P,w :: vs,0,m,d,b,c,e=>by
  simp at b c;subst b;subst c;show bindL a ((p,w) :: P.zip vs) m p=_;unfold bindL;rw [W6 λv f=>(BU.mp d).1 (Dp f).1,if_pos e];simp
 | p :: P,w :: vs,i+1,m,d,b,c,e=>by
  unfold bindL;exact U9 (BU.mp d).2 (by simpa using b) (by simpa using c) e
theorem W9 {a:Str->Option NameKind} {x:Str} {v:Value}:∀ {P:List Str} {vs:List Value} {i:Nat} {m:Str->Option Value},P.Nodup->P[i]?=some x->vs[i]?=some v->a x≠some .local ->
  bindC a (P.zip vs) m x=some v
 | [],_,_,_,_,h,_,_=>by simp at h
 | _ :: _,[],_,_,_,_,h,_=>by simp at h
 | p :: P,w :: vs,0,m,d,b,c,e=>by
  simp at b c;subst b;subst c;show bindC a ((p,w) :: P.zip vs) m p=_;unfold bindC;rw [V8 λv f=>(BU.mp d).1 (Dp f).1,if_neg e];simp
 | p :: P,w :: vs,i+1,m,d,b,c,e=>by
  unfold bindC;exact W9 (BU.mp d).2 (by simpa using b) (by simpa using c) e
def start (N:List Str) (vs:List V):St:=vs.map some++List.replicate (N.length-vs.length) none
def Y0 (CX:CXT) (P:Program) (w:World) (K:PySem.W.Frag) (mg:Str->Option Value) (base:Heap) (N:List Str) (qual:Str) (scope:Scope) (f:Addr) (cd:Value) (A:Around) (outer:List Env) (s:Shared) (H:Hp) (E:XK):Cx where
 prog:=P
 w:=w
 K:=K
 mg:=mg
 base:=base
 A:=A.deeper (envOfC qual scope s.heap.objs.size f cd)
 N:=N
 s₀:=s
 H₀:=H
 env:=envOfC qual scope s.heap.objs.size f cd
 outer:=outer
 stack:=envOfC qual scope s.heap.objs.size f cd :: outer
 ex:=[]
 calm:=!CX.q
 fn:=λ_=>true
 pn:=[]
 xe:=λe s'=>wpAny (model P w) (A.deeper (envOfC qual scope s.heap.objs.size f cd)) (leaving (envOfC qual scope s.heap.objs.size f cd) e) (λ_ s''=>CX outer H s E e s'') (λe' s''=>CX outer H s E e' s'') s'
theorem bg {a:Scope} {n:Nat} {x:Str} (h:a.names.lookup x=some .cell):∃ c,(cellsFrom n a.names []).lookup x=some c:=by
 have q:=PySem.W.cellsFrom_some a.names n [] (.inl h);exact AX.mp q
theorem fZ {CX:CXT} {P:Program} {w:World} {K:PySem.W.Frag} {mg:Str->Option Value} {base:Heap} {N ps:List Str} {qual:Str} {scope:Scope} {f:Addr} {cd:Value} {A:Around} {outer:List Env} {s s1:Shared} {H:Hp} {E:XK} {us:List Value} {vs:List V}
  (S:FnScope N ps scope) (hd:CX.q=false->A.handled=none) (e0:Env0 P w K mg base A outer s H) (hl:vs.length=ps.length) (r:Vals vs us)
  (x:InCallC s s.heap.objs.size (bindL (envOfC qual scope s.heap.objs.size f cd).kindOf (ps.zip us) λ_=>none) (cellsFrom (s.heap.objs.size+1) scope.names []) (bindC (envOfC qual scope s.heap.objs.size f cd).kindOf (ps.zip us) λ_=>none) s1) :
  Inv (Y0 CX P w K mg base N qual scope f cd A outer s H E) [] (start N vs) H s1:=by
 have hpl:ps.length<=N.length:=by have:=congrArg List.length S.pre;rw [Bm] at this;omega
 obtain ⟨h1,tk,rfl,hk⟩:=x.done;have noA:∀ b:Addr,b∉(Y0 CX P w K mg base N qual scope f cd A outer s H E).ex:=λb z=>absurd (show b∈([]:List Addr) from z) (by simp);refine ⟨⟨e0.mod,S.kind,rfl,rfl,Aj _,λy z c h1 h2=>?_,λy hy=>?_,λy c _ h=>?_,λz=>hd (by have z:(!CX.q)=true:=z;simpa using z),Around.frames_deeper e0.frames,.inr ⟨rfl,rfl⟩,λb z=>absurd z (noA b),e0.bs,e0.bsz,λb _ _=>noA b,λb z=>absurd z (noA b),e0.funs,e0.frf⟩,
  rfl,e0.bare,Un.kept hk,⟨_,x.toInCall.ns,λi y v h1 h2 h3=>?_⟩,λy c h=>⟨_,x.cell y c h⟩,e0.hok.fresh (Aj _),λy c h=>?_,λp hp=>absurd (show p∈([]:List (Addr×Obj)) from hp) (by simp),e0.hok.kept hk,?_⟩
 ·exact name_of_addr x.apart (Bw h1) (Bw h2)
 ·have hy:scope.names.lookup y=some .cell\/scope.names.lookup y=some .free:=hy;rcases hy with hy | hy
  ·exact bg hy
  ·exact absurd rfl (S.nofree _ (Bw hy))
 ·exact Nat.le_of_lt (x.above y c (Bw h))
 ·have hi:i<vs.length:=by
   unfold start at h2;by_cases hi:i<vs.length
   ·exact hi
   ·rw [Bo (by simpa using hi)] at h2;rw [Df] at h2;split at h2 <;> cases h2
  have ha:vs[i]?=some v:=by
   unfold start at h2;rw [Az (by simpa using hi),AR] at h2;cases e:vs[i]? with
   | none=>rw [e] at h2;cases h2
   | some a=>rw [e] at h2;cases h2;rfl
  obtain ⟨u,hu,rv⟩:=r.get ha;have hp:ps[i]?=some y:=by
   rw [<- S.pre,List.getElem?_take_of_lt (by omega)];exact h1
  have ndP:ps.Nodup:=by rw [<- S.pre];exact S.nd.sublist (CY _ _)
  refine ⟨u,rv,?_⟩;rcases S.par y (AF hp) with k | k
  ·exact .inl ⟨k,U9 ndP hp hu k⟩
  ·obtain ⟨c,e⟩:=bg (n:=s.heap.objs.size+1) k;refine .inr ⟨.inl k,c,e,?_⟩;have q:=x.cell y c e;rw [W9 ndP hp hu (by show scope.names.lookup y≠_;rw [k];decide)] at q;exact q
 ·exact e0.hok.fresh (Nat.le_of_lt (x.above y c (Bw h)))
 ·unfold start;show _=N.length;rw [AJ,AE,BC];omega
theorem qU {K:PySem.W.Frag} {mg:Str->Option Value} {base:Heap} {k:Nat} {f:Addr} {name qual:Str} {params:Arguments} {body:List Stmt} {scope:Scope} {dV kV doc pm cdv ct oc:Value} {an od:Option Addr}
  {osl:Array (Option Value)} {N ps:List Str} {sp:Sp} (lk:K.lookup f=some ⟨oc,od,.func (PySem.W.fnOf name qual params body scope dV kV doc pm an cdv ct),osl⟩) (hcd:PySem.W.codeIn K cdv qual=true) (S:FnScope N ps scope)
  (len:∀ vs H Q E,sp vs H Q E->vs.length=ps.length)
  (hbody:∀ (A:Around) (outer:List Env) (s:Shared) (H:Hp) (vs:List V) (Q:VK) (E:XK),Room CX.q k (A.deeper (envOfC qual scope s.heap.objs.size f cdv))->sp vs H Q E ->
   ∃ t,PSs (Y0 CX P w K mg base N qual scope f cdv A outer s H E) body t/\t { nx:=λ_ H'=>Q .non H',rt:=Q } (start N vs) H) :
  FnOk P w K mg base CX (k+1) f (PySem.W.fnOf name qual params body scope dV kV doc pm an cdv ct) ps sp:=by
 refine ⟨len,λA outer s H args us vs Q E hr e0 hb r hsp=>?_⟩;have hl:=len _ _ _ _ hsp;have KX:=e0.mod.kin.keeps λb o e=>(e0.bs b o e).1;have lim:=e0.mod.nolimit.keeps λb o e=>(e0.bs b o e).1;have hkind:∀ y∈ps.zip us,scope.names.lookup y.1=some .local\/(scope.names.lookup y.1=some .cell/\((cellsFrom (s.heap.objs.size+1) scope.names []).lookup y.1).isSome=true):=λ⟨n,v⟩ hy=>by
  rcases S.par n (Dp hy).1 with q | q
  ·exact .inl q
  ·exact .inr ⟨q,PySem.W.cellsFrom_some _ _ _ (.inl q)⟩
 refine codeAny_call_function hr.depth (KX _ _ lk) rfl S.co S.gen rfl (PySem.W.codeRec_of KX hcd) (hb _ _ _ _ ?_);refine wpAny_newFunctionEnv_cells S.kind hkind λenv he s1 x=>?_;subst he;refine ⟨lim.keeps x.toInCall.keep,codeAny_func ?_⟩;obtain ⟨t,ht,hq⟩:=hbody A outer s H vs Q E (hr.deeper _) hsp;have I:Inv (Y0 CX P w K mg base N qual scope f cdv A outer s H E) [] (start N vs) H s1:=fZ S hr.hd e0 hl r x;refine Co (ht [] s1 (start N vs) H _ I hq) (λfl s' hs=>?_) λe s' hs=>hs;have fin:∀ {σ':St} {H':Hp} {v:V} {u:Value},Inv (Y0 CX P w K mg base N qual scope f cdv A outer s H E) [] σ' H' s'->RelV v u->Q v H'->CE outer P w H s Q u s':=
  λ{σ' H' v u} J rv q=>⟨v,H',J.os,J.bare,J.base,J.hok,rv,q⟩
 cases fl with
 | ret u=>
  obtain ⟨v,σ',H',J,rv,q⟩:=hs;exact fin J rv q
 | next=>
  obtain ⟨σ',H',J,q⟩:=hs;exact fin (v:=V.non) J rfl q
 | brk=>
  obtain ⟨_,_,_,q⟩:=hs;exact False.elim q
 | cont=>
  obtain ⟨_,_,_,q⟩:=hs;exact False.elim q
section
variable {X:Cx} {x:Str} {p pos:Pos} {e:Expr} {es:List Expr} {t:TA} {id T:String} {r:List V->Hp->VK->Prop}
def tCB (r:List V->Hp->VK->Prop) (t:TA):TE:=λσ H Q=>t σ H λvs a=>r vs a Q
theorem bR (n:e8 X (.builtin id) r) (l:Gl X x) (m:X.mg x=none) (c:bootBuiltins x=some (.builtin id)) (d:PA X (e :: es) t) (f:x ≠ "__name__":=by decide) (a:(x==("__debug__" : Str))=false:=by decide)
  (g:starEach (e :: es) X.env=(false,eval e X.env) :: starEach es X.env:=by rfl) (b:(backTo pos (starEach es X.env)).any (·.1)=false:=by rfl):PE X (.Call (.Name x p) (e :: es) [] pos) (tCB r t):=by
 intro pins s σ H Q I h;refine Bn (H8 I l m c ?_ f a);exact Cp (thn (d pos pins s σ H _ I h) λus i ⟨vs,k,j,q,o⟩=>n pins i σ k vs us Q j q o) g b
theorem ej (n:e8 X (.type T) r) (l:Gl X x) (m:X.mg x=none) (c:bootBuiltins x=some (.type T)) (d:PA X (e :: es) t) (f:x ≠ "__name__":=by decide) (a:(x==("__debug__" : Str))=false:=by decide)
  (g:starEach (e :: es) X.env=(false,eval e X.env) :: starEach es X.env:=by rfl) (b:(backTo pos (starEach es X.env)).any (·.1)=false:=by rfl):PE X (.Call (.Name x p) (e :: es) [] pos) (tCB r t):=by
 intro pins s σ H Q I h;refine Bn (H8 I l m c ?_ f a);exact BD (thn (d pos pins s σ H _ I h) λus i ⟨vs,k,j,q,o⟩=>n pins i σ k vs us Q j q o) g b
end
end L2
namespace HT
open PySem PyProof.Rows
section
variable {prog:Program} {w:World} {A:Around} {E:Value->Shared->Prop} {s:Shared}
theorem cat_tup (q:IsTup s.heap t vs.toArray) (v:IsTup s.heap b ws.toArray) (p:vs≠[])
  (r:ws=[]->Q (.ref t) s) (u:ws≠[]->Q (.ref s.heap.objs.size) { s with heap:=s.heap.push { cls:=.type "tuple",data:=.seq (vs++ws).toArray } })
  (hsz:vs.length+ws.length<=sizeLine):wpAny (model prog w) A (binaryOp .Add (.ref t) (.ref b)) Q E s:=by
 obtain ⟨⟨cls,k,data,o⟩,f,x,n,hd⟩:=id q;obtain ⟨⟨m,d,i,c⟩,a,h,l,j⟩:=id v;subst x hd h j;have e:vs.toArray++ws.toArray=(vs++ws).toArray:=by simp
 by_cases g:ws=[]
 ·exact concat_meets ⟨_,f,rfl⟩ ⟨_,a,rfl⟩ Dg Dv Cg Ca (BS _ _)
   (tuple_addW1 t b vs.toArray ws.toArray n l k d o c (by simpa using p) (by simp [g])) ⟨f,a,r g⟩
 ·refine concat_meets ⟨_,f,rfl⟩ ⟨_,a,rfl⟩ Dg Dv Cg Ca (BS _ _)
   (tuple_addW2 t b vs.toArray ws.toArray n l k d o c (by simpa using p) (by simpa using g) (by rw [Am,Am];exact hsz)) ⟨f,a,?_⟩
  rw [e];exact u g
def sIx (n d:Nat):Option Int->Nat
 | none=>d
 | some v=>if v<0 then (v+(n:Int)).toNat else min v.toNat n
theorem sIx_none (n d:Nat):sIx n d none=d:=rfl
theorem nN (n d:Nat) (hd:d<=n) (o:Option Int):sIx n d o<=n:=by
 cases o with
 | none=>exact hd
 | some v=>
  show (if v<0 then (v+(n:Int)).toNat else min v.toNat n)<=n;by_cases a:v<0
  ·rw [if_pos a];omega
  ·grind
theorem eO (v:Int) (n d:Nat):(if v<0 then max (v+(n:Int)) 0 else min v (n:Int))=((sIx n d (some v):Nat):Int):=by
 show (if v<0 then max (v+(n:Int)) 0 else min v (n:Int))=(((if v<0 then (v+(n:Int)).toNat else min v.toNat n):Nat):Int);grind
theorem cK (lo hi:Option Int) (n:Nat):Builtin.Slice.sliceAdjust lo hi 1 (n:Int)=(((sIx n 0 lo:Nat):Int),((sIx n n hi:Nat):Int)):=by
 have h1:¬ ((1:Int)<0):=by omega
 refine Prod.ext ?_ ?_
 ·cases lo with
  | none=>rfl
  | some v=>exact eO v n 0
 ·cases hi with
  | none=>rfl
  | some v=>exact eO v n n
theorem cT (i j:Nat):Builtin.Slice.slicePlaces (i:Int) (j:Int) 1=j-i:=by
 unfold Builtin.Slice.slicePlaces;grind
theorem O5 (p:IsPart v o) (h:Q o s):wpAny (model prog w) A (Builtin.Slice.slicePartIndex v) Q E s:=by
 cases p with
 | none=>exact CO h
 | int i t=>exact slicePart_int h
theorem sliceApplied_gen {lo hi:Option Int} {n:Nat} {Q:Int×Int×Nat->Shared->Prop} (hs:s.heap.IsSliceOf sl vl vu .none) (pl:IsPart vl lo) (pu:IsPart vu hi)
  (h:Q (((sIx n 0 lo:Nat):Int),1,sIx n n hi-sIx n 0 lo) s):wpAny (model prog w) A (Builtin.Slice.sliceApplied (.ref sl) (pure (n:Int))) Q E s:=by
 obtain ⟨os,hos,hcs,hds⟩:=id hs;refine Af (Af (Bq hos hds rfl (Af (Bq hos hds rfl (Af (Bq hos hds rfl (Ai ?_)))))));refine Af (CO ?_);rw [if_neg (by decide)];refine Af (O5 pl (Af (O5 pu (Af (Ai ?_)))));show wpAny _ _ (match Builtin.Slice.sliceAdjust lo hi 1 (n:Int) with | (lo,hi)=>pure (lo,(1:Int),Builtin.Slice.slicePlaces lo hi 1)) _ _ s;rw [cK lo hi n];show wpAny _ _ (pure (((sIx n 0 lo:Nat):Int),(1:Int),Builtin.Slice.slicePlaces ((sIx n 0 lo:Nat):Int) ((sIx n n hi:Nat):Int) 1)) _ _ s;rw [cT];exact Ai h
theorem iC (xs:Array Value) (i k:Nat):((List.range k).filterMap λ(m:Nat)=>xs[((i:Int)+(m:Int) * 1).toNat]?).toArray=((xs.toList.drop i).take k).toArray:=by
 have e:(λ(m:Nat)=>xs[((i:Int)+(m:Int) * 1).toNat]?)=λm=>xs[i+m]?:=by
  funext m;have:((i:Int)+(m:Int) * 1).toNat=i+m:=by omega
  rw [this]
 rw [e];have:=pick_run xs i k;rw [BW] at this;have e2:((λx=>xs[x]?) ∘ λx=>i+x)=λm=>xs[i+m]?:=rfl;grind
theorem getItem_tuple_cut {items:Array Value} {i j:Value} {lo b:Option Int} {Q:Value->Shared->Prop} (c:IsTup s.heap t items) (hs:s.heap.IsSliceOf sl i j .none) (pl:IsPart i lo) (k:IsPart j b)
  (m:¬ (sIx items.size 0 lo=0/\sIx items.size items.size b=items.size))
  (h:Q (.ref s.heap.objs.size) { s with heap:=s.heap.push { cls:=.type "tuple",data:=.seq ((items.toList.drop (sIx items.size 0 lo)).take (sIx items.size items.size b-sIx items.size 0 lo)).toArray } })
  (hsz:items.size<=sizeLine):wpAny (model prog w) A (getItem (.ref t) (.ref sl)) Q E s:=by
 have a:sizeOk (.seq ((items.toList.drop (sIx items.size 0 lo)).take (sIx items.size items.size b-sIx items.size 0 lo)).toArray):=by
  show ((items.toList.drop (sIx items.size 0 lo)).take (sIx items.size items.size b-sIx items.size 0 lo)).toArray.size<=sizeLine;rw [Am,Bm,BK,AU];omega
 have n:sIx items.size items.size b<=items.size:=nN _ _ (Aj _) b;obtain ⟨l,d,e,hds⟩:=id hs;have g:s.TypeIs (.ref sl) "slice":=⟨l,d,e⟩;unfold getItem;try with_reducible refine AM ?_
 first | refine Af (Ai ?_) | skip
 refine Af (CZ c.typeIs (by decide) ?_);refine Af (Cb c.typeIs AQ
  (Cq AQ c.typeIs CI ?_ (CP _ _)))
 show wpAny _ _ (Builtin.Tuple.tupleItemsOf (.ref t) >>= _) _ _ s;refine Af (Db c ?_);refine Af (CK g ?_);rw [if_pos (by decide)];refine Af (sliceApplied_gen hs pl k ?_);have f:¬ ((((sIx items.size 0 lo:Nat):Int)==0&&(1:Int)==1&&(sIx items.size items.size b-sIx items.size 0 lo)==items.size)=true):=by
  intro q;rw [Ag,Ag] at q;have p:=eq_of_beq q.1.1;have o:=eq_of_beq q.2;exact m ⟨by omega,by omega⟩
 show wpAny _ _ (if (((sIx items.size 0 lo:Nat):Int)==0&&(1:Int)==1&&(sIx items.size items.size b-sIx items.size 0 lo)==items.size)=true then _ else _) _ _ s;rw [if_neg f,iC];first
  | exact Af (AN (Ai ⟨_,rfl,Ai h⟩) a)
  | exact Af (AN (Af (Ai (Ai ⟨_,rfl,Ai h⟩))) a)
  | exact Af (Af (AN (Ai (Ai ⟨_,rfl,Ai h⟩)) a))
  | exact Af (Af (AN (Ai ⟨_,rfl,Ai h⟩) a))
end
end HT
namespace L2
open PySem PySem.Spec PyProof.Rows
abbrev TO:=St->Hp->(Option Int->Hp->Prop)->Prop
def PO (X:Cx) (e:Option Expr) (t:TO):Prop:=
 ∀ (pins:List (Addr×Obj)) (s:Shared) (σ:St) (H:Hp) (Q:Option Int->Hp->Prop),Inv X pins σ H s->t σ H Q ->
  wpAny (model X.prog X.w) X.A (evalPart e X.env) (λu s'=>∃ o H',Inv X pins σ H' s'/\IsPart u o/\Q o H') X.xe s
def tNoPart:TO:=λ_ H Q=>Q none H
def uF (t:TE):TO:=λσ H Q=>t σ H λx a=>∃ i,x=.int i/\Q (some i) a
section
variable {X:Cx} {e:Expr} {te:TE} {lo hi:Option Expr} {tl th:TO} {pos p2:Pos}
theorem jm:PO X none tNoPart:=by
 intro pins s σ H Q I h;rw [Dw];exact Ai ⟨none,H,I,.none,h⟩
theorem lj (h:PE X e te):PO X (some e) (uF te):=by
 intro pins s σ H Q I f;rw [evalPart_some];refine thn (h pins s σ H _ I f) λu g ⟨x,b,a,d,c⟩=>?_;obtain ⟨i,rfl,q⟩:=c;obtain ⟨t,rfl⟩:=d;exact ⟨some i,b,a,.int i t,q⟩
def SlR (X:Cx) (r:V->Option Int->Option Int->Hp->VK->Prop):Prop:=
 ∀ (pins:List (Addr×Obj)) (s:Shared) (σ:St) (H:Hp) (x:V) (v c b:Value) (lo a:Option Int) (d:Addr) (Q:VK),Inv X pins σ H s->RelV x v->s.heap.IsSliceOf d c b .none->IsPart c lo->IsPart b a->r x lo a H Q ->
  ∃ T id,typeLookup (.type T) "__getitem__" = pure (some (.builtin id))/\s.TypeIs v T/\wpAny (model X.prog X.w) X.A (getItem v (.ref d)) (EP X pins σ Q) X.xe s
def tSl (r:V->Option Int->Option Int->Hp->VK->Prop) (te:TE) (a d:TO):TE:=λσ H Q=>te σ H λx c=>a σ c λl e=>d σ e λu b=>r x l u b Q
theorem gf (j:SlR X r) (o:PE X e te) (g:PO X lo tl) (J:PO X hi th):PE X (.Subscript e (.Slice lo hi none p2) pos) (tSl r te tl th):=by
 intro pins s σ H Q I h;refine Subscript_ (thn (o pins s σ H _ I h) λv m ⟨x,y,t,C,B⟩=>?_);refine wpAny_Slice (thn (g pins m σ y _ t B) λc F ⟨l,G,D,pl,i⟩=>thn (J pins F σ G _ D i) λd a ⟨u,f,w,n,z⟩=>?_);rw [Dw];refine Ai ?_;have k:Inv X pins σ f { a with heap:=a.heap.push { cls:=.type "slice",data:=.fields #[c,d,.none] } }:=w.kept λb ob q=>Ah _ q;obtain ⟨T,id,A,p,E⟩:=j pins { a with heap:=a.heap.push { cls:=.type "slice",data:=.fields #[c,d,.none] } } σ f x v c d l u a.heap.objs.size Q k C (CQ ..) pl n z;exact tail_any p A E (by with_unfolding_all rfl)
def fj (xs:List V) (lo a:Option Int):List V:=(xs.drop (HT.sIx xs.length 0 lo)).take (HT.sIx xs.length xs.length a-HT.sIx xs.length 0 lo)
theorem L4 (xs:List V) (lo hi:Option Int):(fj xs lo hi).length<=xs.length:=by
 unfold fj;rw [Bm,BK];omega
def vf (K:PySem.W.Frag):V->Option Int->Option Int->Hp->VK->Prop:=λx lo b H Q=>∃ a xs,x=.ref a/\SqT K H a xs /\
 ¬ (HT.sIx xs.length 0 lo=0/\HT.sIx xs.length xs.length b=xs.length)/\∀ p,H p=none->Q (.ref p) (upd H p (.tup (fj xs lo b)))
theorem pJ:SlR X (vf X.K):=by
 intro pins s σ H x v l m lo e n Q I j hs pl i h;obtain ⟨a,xs,rfl,g,k,q⟩:=h;cases j;obtain ⟨d,r,f,hz⟩:=I.tuple g;have c:d.toArray.size=xs.length:=by rw [Am];exact r.length.symm
 refine ⟨"tuple",_,PyProof.Rows.slot_tuple_getitem.lookup,f.typeIs,?_⟩;refine HT.getItem_tuple_cut f hs pl i (by rw [c];exact k) ?_ (by rw [c];exact hz);rw [c];refine ⟨.ref s.heap.objs.size,_,I.laid (λb ob q=>Ah _ q) (Aj _) ?_,rfl,q _ (I.hok.fresh (Aj _))⟩;exact ⟨AY (L4 xs lo e) hz,_,(r.drop (HT.sIx xs.length 0 lo)).take (HT.sIx xs.length xs.length e-HT.sIx xs.length 0 lo),TupN.new _ _⟩
def qX (K:PySem.W.Frag):R2:=λx y H Q=>∃ a b xs ys,x=.ref a/\y=.ref b/\SqT K H a xs/\SqT K H b ys/\xs≠[]/\xs.length+ys.length<=sizeLine /\
 (ys=[]->Q (.ref a) H)/\(ys≠[]->∀ p,H p=none->Q (.ref p) (upd H p (.tup (xs++ys))))
theorem Vals.nil_iff (r:Vals xs us):us=[]↔xs=[]:=by
 cases r with
 | nil=>simp
 | cons _ _=>simp
theorem lz:OpR X (binaryOp .Add) (qX X.K):=by
 intro pins s σ H x y v u Q I n k h;obtain ⟨a,b,xs,ys,rfl,rfl,g,m,f,hz,p,l⟩:=h;cases n;cases k;obtain ⟨j,d,o,_⟩:=I.tuple g;obtain ⟨e,c,i,_⟩:=I.tuple m;refine HT.cat_tup o i (λz=>f (d.nil_iff.mp z)) (λz=>⟨.ref a,H,I,rfl,p (c.nil_iff.mp z)⟩) (λz=>?_) (by rw [<- d.length,<- c.length];exact hz);refine ⟨.ref s.heap.objs.size,_,I.laid (λb ob q=>Ah _ q) (Aj _) ?_,rfl,l (λw=>z (c.nil_iff.mpr w)) _ (I.hok.fresh (Aj _))⟩;exact ⟨by rw [AJ];exact hz,_,d.append c,TupN.new _ _⟩
end
def ixN (n:Nat) (i:Int):Option Nat:=if 0<=i then (if i<n then some i.toNat else none) else if -(n:Int)<=i then some (i+n).toNat else none
def atI {a:Type} (xs:List a) (i:Int):Option a:=(ixN xs.length i).bind λj=>xs[j]?
theorem dz (h:ixN n i=some j):seqIndex? i n=some j/\j<n/\-(n:Int)<=i/\i<n:=by
 unfold ixN at h;by_cases b:0<=i
 ·rw [if_pos b] at h;by_cases a:i<n
  ·rw [if_pos a] at h;have e:=AD h;exact ⟨by rw [seqIndex_of b a,e],by omega,by omega,a⟩
  ·grind
 ·rw [if_neg b] at h;by_cases a:-(n:Int)<=i
  ·rw [if_pos a] at h;have e:=AD h;exact ⟨by rw [seqIndex_neg (by omega) a,e],by omega,a,by omega⟩
  ·grind
theorem dh (h:atI xs i=some v):∃ j,seqIndex? i xs.length=some j/\xs[j]?=some v/\j<xs.length/\-(xs.length:Int)<=i/\i<xs.length:=by
 unfold atI at h;cases e:ixN xs.length i with
 | none=>rw [e] at h;cases h
 | some j=>
  rw [e] at h;obtain ⟨c,b,a,d⟩:=dz e;exact ⟨j,c,h,b,a,d⟩
theorem aA {j:Nat} {v:α} (h:xs[j]?=some v):atI xs (j:Int)=some v:=by
 have hj:=(Al.mp h).1;have e:ixN xs.length (j:Int)=some j:=by
  unfold ixN;rw [if_pos (by omega),if_pos (by omega)];simp
 unfold atI;rw [e];exact h
def Y7 (b:Expr):Prop:=∀ o i,subscripted b false o i=operate [o,i] (getItem o i)
def IxR (X:Cx) (r:R2):Prop:=
 ∀ (b a:Expr) (pins:List (Addr×Obj)) (s:Shared) (σ:St) (H:Hp) (x y:V) (v u:Value) (Q:VK),Inv X pins σ H s->RelV x v->RelV y u->r x y H Q ->
  subscripted a false v u=operate [v,u] (getItem v u)->wpAny (model X.prog X.w) X.A (subscriptTail b a v u) (EP X pins σ Q) X.xe s
def MtR (X:Cx) (id:String) (r:V->List V->Hp->VK->Prop):Prop:=
 ∀ (pins:List (Addr×Obj)) (s:Shared) (σ:St) (H:Hp) (x:V) (xs:List V) (v:Value) (us:List Value) (Q:VK),Inv X pins σ H s->RelV x v->Vals xs us->r x xs H Q ->
  wpAny (model X.prog X.w) X.A (call (.builtin id) (v :: us)) (EP X pins σ Q) X.xe s
section
variable {X:Cx} {a b:Expr} {ta tb:TE} {pos:Pos}
theorem md (f:IxR X r) (c:PE X a ta) (g:PE X b tb) (hs:Y7 b):PE X (.Subscript a b pos) (tOp r ta tb):=by
 intro pins s σ H Q I h;exact Subscript_ (oK c g I h λv u j x y k d i e q=>f a b pins j σ k x y v u Q d i e q (hs _ _))
def vD (K:PySem.W.Frag):R2:=λx y H Q=>∃ p xs i v,x=.ref p/\y=.int i/\SqL K H p xs/\atI xs i=some v/\Q v H
def vE (K:PySem.W.Frag):R2:=λx y H Q=>∃ p xs i v,x=.ref p/\y=.int i/\SqT K H p xs/\atI xs i=some v/\Q v H
theorem jo:IxR X (vD X.K):=by
 intro f e pins s σ H x y v u Q I D n h hs;obtain ⟨p,xs,i,z,rfl,rfl,E,A,q⟩:=h;cases D;obtain ⟨t,rfl⟩:=n;obtain ⟨d,r,pl,hz⟩:=I.list E;obtain ⟨j,b,C,G,m,B⟩:=dh A;obtain ⟨w,k,c⟩:=r.get C;have o:=r.length;have F:=J2;have a:EP X pins σ Q w s:=⟨z,H,I,c,q⟩;by_cases l:0<=i
 ·have g:i.toNat=j:=by
   rw [seqIndex_of l B] at b;exact AD b
  exact item_listR pl.isList l (by omega) (by rw [g];simpa using k) a hs
 ·have g:(i+(d.toArray.size:Int)).toNat=j:=by
   rw [seqIndex_neg (by omega) m] at b;rw [Am,<- o];exact AD b
  exact subscriptTail_builtinR pl.isList.typeIs slot_list_getitem.lookup
   (wpAny_getItem_list_neg pl.isList (by omega) (by rw [Am] <;> omega) (by omega) (by rw [g];simpa using k) ⟨rfl,a⟩) hs
theorem nT:IxR X (vE X.K):=by
 intro b d pins s σ H x y v u Q I A l h hs;obtain ⟨p,xs,i,z,rfl,rfl,g,e,q⟩:=h;cases A;obtain ⟨t,rfl⟩:=l;obtain ⟨k,r,pl,hz⟩:=I.tuple g;obtain ⟨j,f,o,D,C,E⟩:=dh e;obtain ⟨w,n,c⟩:=r.get o;have m:=r.length;have B:=J2;have a:EP X pins σ Q w s:=⟨z,H,I,c,q⟩;exact subscriptTail_builtinR pl.typeIs slot_tuple_getitem.lookup
  (getItem_tuple pl (by omega) (by omega) (by rw [Am,<- m];exact f) (by simpa using n) ⟨rfl,a⟩) hs
theorem cv (a:List Value) (n j:Nat) (u:Value):Obj.mapSeq (·.setIfInBounds j u) { cls:=.type "list",data:=.seq a.toArray n }={ cls:=.type "list",data:=.seq (a.set j u).toArray n }:=by
 simp [Obj.mapSeq]
theorem Inv.lst {σ:St} {H:Hp} {s:Shared} {p:Addr} {xs:List V} (I:Inv X pins σ H s) (h:H p=some (.lst xs)) :
  ∃ (a:List Value) (n:Nat),Vals xs a/\s.heap.get? p=some { cls:=.type "list",data:=.seq a.toArray n }/\xs.length<=sizeLine:=by
 obtain ⟨z,a,n,r,e⟩:=I.hok p _ h;grind
theorem Inv.lstUpd {σ:St} {H:Hp} {s:Shared} {p:Addr} {xs ys:List V} {a its':List Value} {n c:Nat} {f:Obj->Obj} (I:Inv X pins σ H s) (h:H p=some (.lst xs))
  (g:s.heap.get? p=some { cls:=.type "list",data:=.seq a.toArray n }) (d:f { cls:=.type "list",data:=.seq a.toArray n }={ cls:=.type "list",data:=.seq its'.toArray c }) (r:Vals ys its') (hz:ys.length<=sizeLine) (t:Nat) :
  Inv X pins σ (upd H p (.lst ys)) { s with heap:=s.heap.update p f,toks:=t }:=by
 have e:(s.heap.update p f).get? p=some { cls:=.type "list",data:=.seq its'.toArray c }:=by
  rw [Cj f g (by rw [d] <;> rfl),d]
 refine I.write (by rw [h];trivial) (.inl rfl) (λb u i q=>(By _ _ (Ne.symm i)).trans q) ⟨_,e⟩ ?_;exact ⟨hz,its',c,r,e⟩
def rSetL:V->V->V->Hp->(Hp->Prop)->Prop:=λo i v H Q=>∃ p xs k j,o=.ref p/\i=.int k/\H p=some (.lst xs)/\ixN xs.length k=some j/\Q (upd H p (.lst (xs.set j v)))
theorem iO:pK X rSetL:=by
 intro pins s σ H o i v D B u Q I z x A h;obtain ⟨p,xs,k,j,rfl,rfl,f,y,q⟩:=h;cases z;obtain ⟨t,rfl⟩:=x;obtain ⟨a,n,r,d,hz⟩:=I.lst f;obtain ⟨b,E,w,l⟩:=dz y;have e:=r.length;have C:=J2;have g:Inv X pins σ (upd H p (.lst (xs.set j v))) { s with heap:=s.heap.update p (Obj.mapSeq (·.setIfInBounds j u)) }:=
  I.lstUpd f d (cv a n j u) (r.set A j) (by rw [List.length_set];exact hz) s.toks
 by_cases m:0<=k
 ·have c:k.toNat=j:=by
   rw [seqIndex_of m l] at b;exact AD b
  exact PySem.W.ki_setAt d m (by omega) (by rw [Am,<- e];exact l) (by rw [c];exact ⟨_,g,q⟩)
 ·have c:(k+(a.toArray.size:Int)).toNat=j:=by
   rw [seqIndex_neg (by omega) w] at b;rw [Am,<- e];exact AD b
  exact PySem.W.ki_setBack d (by omega) (by rw [Am,<- e];exact w) (by omega) (by rw [c];exact ⟨_,g,q⟩)
theorem Y5 (lo a:Option Int) (n:Nat):(sliceBounds lo a none n).1=((HT.sIx n 0 lo:Nat):Int)/\(sliceBounds lo a none n).2.1=((HT.sIx n n a:Nat):Int)/\(sliceBounds lo a none n).2.2=1:=by
 refine ⟨?_,?_,rfl⟩
 ·cases lo with
  | none=>simp [sliceBounds,HT.sIx]
  | some i=>
   simp only [sliceBounds,HT.sIx,Option.getD_none,show (1:Int) > 0 by decide,if_true];by_cases h:i<0
   ·grind
   ·grind
 ·cases a with
  | none=>simp [sliceBounds,HT.sIx]
  | some i=>
   simp only [sliceBounds,HT.sIx,Option.getD_none,show (1:Int) > 0 by decide,if_true];by_cases h:i<0
   ·grind
   ·grind
theorem U2 (a:List Value) (lo b:Option Int):slicePick a.toArray lo b none=((a.drop (HT.sIx a.length 0 lo)).take (HT.sIx a.length a.length b-HT.sIx a.length 0 lo)).toArray:=by
 obtain ⟨c,d,e⟩:=Y5 lo b a.toArray.size;unfold slicePick;rw [c,d,e];simp only [sliceRange_one,pick_run,Am] <;> rfl
def vb (K:PySem.W.Frag):V->Option Int->Option Int->Hp->VK->Prop:=λx lo b H Q=>∃ a xs,x=.ref a/\SqL K H a xs/\∀ p,H p=none->Q (.ref p) (upd H p (.lst (fj xs lo b)))
theorem kY:SlR X (vb X.K):=by
 intro pins s σ H x v k l lo d m Q I j hs pl g h;obtain ⟨a,xs,rfl,f,q⟩:=h;cases j;obtain ⟨i,r,e,hz⟩:=I.list f;have c:=r.length;refine ⟨"list",_,slot_list_getitem.lookup,e.isList.typeIs,?_⟩;refine Dc e.isList hs pl g .none (by simp) ?_ (by rw [Am] <;> omega);rw [U2,<- c];refine ⟨.ref s.heap.objs.size,_,I.laid (λb ob q=>Ah _ q) (Aj _) ?_,rfl,q _ (I.hok.fresh (Aj _))⟩;exact ⟨AY (L4 xs lo d) hz,_,0,(r.drop (HT.sIx xs.length 0 lo)).take (HT.sIx xs.length xs.length d-HT.sIx xs.length 0 lo),Aw _ rfl⟩
theorem aL:e8 X (.builtin "len") (λxs H Q=>∃ p ys,xs=[.ref p]/\(SqL X.K H p ys\/SqT X.K H p ys)/\Q (.int ys.length) H):=by
 intro pins s σ H xs us Q I r h;obtain ⟨p,ys,rfl,b,q⟩:=h;obtain ⟨u,rfl,e⟩:=v6 r;cases e;have f:=J2;rcases b with b | b
 ·obtain ⟨d,c,pl,hz⟩:=I.list b;have a:=c.length;exact Calls.call_len_list pl.isList (by simp <;> omega) ⟨.int ys.length,H,I.tok _,⟨s.toks+1,by rw [Am,a]⟩,q⟩
 ·obtain ⟨d,c,pl,hz⟩:=I.tuple b;have a:=c.length;exact len_tuple pl (by simp <;> omega) ⟨.int ys.length,H,I.tok _,⟨s.toks+1,by rw [Am,a]⟩,q⟩
theorem aN:e8 X (.builtin "len") (λxs H Q=>∃ z,xs=[.str z]/\z.length<=sizeLine/\Q (.int z.length) H):=by
 intro pins s σ H xs us Q I r h;obtain ⟨z,rfl,hz,q⟩:=h;obtain ⟨u,rfl,t,rfl⟩:=v6 r;have hn:=J2;exact len_str (by omega) ⟨.int z.length,H,I.tok _,⟨_,rfl⟩,q⟩
theorem aO:e8 X (.type "list") (λxs H Q=>∃ p ys,xs=[.ref p]/\(SqL X.K H p ys\/SqT X.K H p ys)/\∀ l,H l=none->Q (.ref l) (upd H l (.lst ys))):=by
 intro pins s σ H xs us Q I r h;obtain ⟨p,ys,rfl,j,q⟩:=h;obtain ⟨u,rfl,t⟩:=v6 r;cases t;have i:∀ (a:List Value),Vals ys a->ys.length<=sizeLine->∀ (h':Heap) (c:Nat),(∀ b o',s.heap.get? b=some o'->h'.get? b=some o') ->
   h'.get? s.heap.objs.size=some { cls:=.type "list",dict:=none,data:=.seq a.toArray c,slots:=#[] }->EP X pins σ Q (.ref s.heap.objs.size) { s with heap:=h' }:=λa d hz h' c g e=>
  ⟨.ref s.heap.objs.size,_,I.laid g (Aj _) (show ObjOk X.prog X.w _ h' _ (.lst ys) from ⟨hz,a,c,d,e⟩),rfl,q _ (I.hok.fresh (Aj _))⟩
 rcases j with j | j
 ·obtain ⟨a,d,pl,hz⟩:=I.list j;have f:=d.length;obtain ⟨o,k,m,n,hd⟩:=pl.isList;exact call_list_seq p (.inl rfl) k m hd (λh' c g e=>i a d hz h' c g e) (by simp <;> omega)
 ·obtain ⟨a,d,pl,hz⟩:=I.tuple j;have f:=d.length;obtain ⟨o,k,m,n,hd⟩:=pl;exact call_list_seq p (.inr rfl) k m hd (λh' c g e=>i a d hz h' c g e) (by simp <;> omega)
theorem B0:e8 X (.type "tuple") (λxs H Q=>∃ p ys,xs=[.ref p]/\((SqL X.K H p ys/\∀ l,H l=none->Q (.ref l) (upd H l (.tup ys)))\/(SqT X.K H p ys/\Q (.ref p) H))):=by
 intro pins s σ H xs us Q I r h;obtain ⟨p,ys,rfl,h⟩:=h;obtain ⟨u,rfl,k⟩:=v6 r;cases k;rcases h with ⟨c,q⟩ | ⟨c,q⟩
 ·obtain ⟨a,d,pl,hz⟩:=I.list c;have f:=d.length;refine call_tuple_list pl.isList (λh' i=>?_) (by simp <;> omega);have g:=I.kept (t':=s.toks) i;have j:Inv X pins σ (upd H h'.objs.size (.tup ys)) { s with heap:=h'.push { cls:=.type "tuple",data:=.seq a.toArray } }:=
   g.laid (λb o e=>Ah _ e) (Aj _) (⟨hz,a,d,TupN.new _ _⟩)
  exact ⟨.ref h'.objs.size,_,j,rfl,q _ (g.hok.fresh (Aj _))⟩
 ·obtain ⟨a,d,pl,hz⟩:=I.tuple c;exact call_tuple_same pl ⟨.ref p,H,I,rfl,q⟩
def tyV (K:PySem.W.Frag) (T:String) (x:V) (H:Hp):Prop:=match x with
 | .str _=>T = "str"
 | .int _=>T = "int"
 | .ref p=>(T = "list"/\∃ xs,SqL K H p xs)\/(T = "tuple"/\∃ o,K.lookup p=some o/\o.cls=.type "tuple"/\o.dict=none) \/
   (T = "dict"/\((∃ a,H p=some (.dK a))\/∃ a,H p=some (.dT a)))\/(T = "set"/\∃ S n,H p=some (.set S n))\/(T = "tuple"/\∃ xs,Rd H p (.tup xs))
 | _=>False
theorem iD {σ:St} {H:Hp} {s:Shared} {T:String} {x:V} {v:Value} (I:Inv X pins σ H s) (r:RelV x v) (ty:tyV X.K T x H) :
  s.TypeIs v T/\∀ a,v=.ref a->∃ ob,s.heap.get? a=some ob/\ob.dict=none:=by
 cases x with
 | str z=>
  obtain ⟨t,rfl⟩:=r;cases (ty);exact ⟨typeIs_str s z t,λ_ e=>nomatch e⟩
 | int i=>
  obtain ⟨t,rfl⟩:=r;cases (ty);exact ⟨Cr s i t,λ_ e=>nomatch e⟩
 | ref p=>
  cases r;rcases ty with ⟨rfl,xs,hq⟩ | ⟨rfl,o,hk,hc,hd⟩ | ⟨rfl,hk⟩ | ⟨rfl,S,n,hk⟩ | ⟨rfl,xs,hk⟩
  ·obtain ⟨its,_,pl,_⟩:=I.list hq;refine ⟨pl.isList.typeIs,λa e=>?_⟩;cases e;obtain ⟨o,n,e,c,hd,_⟩:=pl;exact ⟨o,e,hd⟩
  ·refine ⟨⟨o,I.kIn p o hk,hc⟩,λa e=>?_⟩;cases e;exact ⟨o,I.kIn _ o hk,hd⟩
  ·have z:∃ o,s.heap.get? p=some o/\o.ExactDict:=by
    rcases hk with ⟨kvs,hk⟩ | ⟨kvs,hk⟩
    ·obtain ⟨_,_,_,_,o,_,_,e,ex,_⟩:=I.hok p _ hk;exact ⟨o,e,ex⟩
    ·obtain ⟨_,_,_,_,o,_,_,e,ex,_⟩:=I.hok p _ hk;exact ⟨o,e,ex⟩
   obtain ⟨o,e,ex⟩:=z;refine ⟨⟨o,e,ex.1⟩,λa e2=>?_⟩;cases e2;exact ⟨o,e,ex.2.1⟩
  ·obtain ⟨o,_,_,_,e,ex,_⟩:=I.hok p _ hk;refine ⟨⟨o,e,ex.1⟩,λa e2=>?_⟩;cases e2;exact ⟨o,e,ex.2.1⟩
  ·obtain ⟨_,its,_,o,e,c,n,_,hd⟩:=(hk.ok I.hok);exact ⟨⟨o,e,c⟩,λa e2=>by cases e2;exact ⟨o,e,hd⟩⟩
 | _=>exact False.elim ty
def vg (K:PySem.W.Frag) (T:String) (r:V->List V->Hp->VK->Prop) (b:TE):TE:=λσ H Q=>b σ H λx a=>tyV K T x a/\r x [] a Q
def tBM (K:PySem.W.Frag) (T:String) (r:V->List V->Hp->VK->Prop) (c:TE) (t:TA):TE:=λσ H Q=>c σ H λx a=>tyV K T x a/\t σ a λxs b=>r x xs b Q
variable {o e:Expr} {es:List Expr} {to:TE} {t:TA} {name:Str} {apos cpos:Pos} {T id:String} {r:V->List V->Hp->VK->Prop}
theorem iT (j:PlainAttrs T) (c:Slot T name id) (d:typeOf (.builtin id)=pure (.type "method_descriptor")) (n:MtR X id r) (i:PE X o to)
  (b:attributeBase o name X.env (eval o X.env)=eval o X.env:=by rfl) (a:(apos.endLine==cpos.line)=true:=by rfl):PE X (.Call (.Attribute o name apos) [] [] cpos) (vg X.K T r to):=by
 intro pins s σ H Q I h;refine wpAny_Call_method0_late b a (thn (i pins s σ H _ I h) λv p ⟨x,l,e,f,g,q⟩=>?_);obtain ⟨k,m⟩:=iD e f g;exact ⟨T,id,j,c,d,k,m,Ch rfl (PySem.evalArgs_none (n pins p σ l x [] v [] Q e f .nil q))⟩
theorem mq (l:PlainAttrs T) (d:Slot T name id) (g:typeOf (.builtin id)=pure (.type "method_descriptor")) (z:MtR X id r) (C:PE X o to) (B:PA X (e :: es) t)
  (c:attributeBase o name X.env (eval o X.env)=eval o X.env:=by rfl)
  (f:((backTo cpos (starEach (e :: es) X.env)).all (λx=>!x.1)&&(backToKw cpos (keywordEach [] X.env)).all (λx=>x.1.isSome)
   && decide ((e :: es).length+([]:List Keyword).length+(if ([]:List Keyword).isEmpty then 0 else 1)<30))=true:=by rfl)
  (b:(apos.endLine==cpos.line)=true:=by rfl) (hs:starEach (e :: es) X.env=(false,eval e X.env) :: starEach es X.env:=by rfl) (a:(backTo cpos (starEach es X.env)).any (·.1)=false:=by rfl) :
  PE X (.Call (.Attribute o name apos) (e :: es) [] cpos) (tBM X.K T r to t):=by
 intro pins s σ H Q I h;refine wpAny_Call_method_late c f b rfl (thn (C pins s σ H _ I h) λv p ⟨x,w,j,k,q,A⟩=>?_);obtain ⟨m,y⟩:=iD j k q;refine ⟨T,id,l,d,g,m,y,?_⟩;have i:=B cpos pins p σ w _ j A;rw [hs] at i ⊢;refine Ch (by show (false||(backTo cpos (starEach es X.env)).any (·.1))=false;rw [a] <;> rfl) (Calls.evalArgs_plain ?_);exact thn i λus E ⟨vs,F,D,u,n⟩=>z pins E σ F x vs v us Q D k u n
end
def MtM (X:Cx) (id:String) (r:V->List V->Hp->VK->Prop):Prop:=
 ∀ (pins:List (Addr×Obj)) (s:Shared) (σ:St) (H:Hp) (x:V) (xs:List V) (v:Value) (us:List Value) (Q:VK),Inv X pins σ H s->RelV x v->Vals xs us->r x xs H Q ->
  wpAny (model X.prog X.w) X.A (call (.builtin id) (v :: us)) (EP X pins σ Q) X.xe s
theorem Vals.one:∀ {x:V} {us:List Value},Vals [x] us->∃ u,us=[u]/\RelV x u
 | _,_,.cons r .nil=>⟨_,rfl,r⟩
theorem Vals.zero:∀ {us:List Value},Vals [] us->us=[]
 | _,.nil=>rfl
theorem Vals.dropLast (h:Vals xs us):Vals xs.dropLast us.dropLast:=by
 induction h with
 | nil=>exact .nil
 | cons r t a=>
  cases t with
  | nil=>exact .nil
  | cons q t'=>exact .cons r a
theorem Vals.rep (h:Vals xs us):∀ k:Nat,Vals (List.replicate k xs).flatten (List.replicate k us).flatten
 | 0=>.nil
 | k+1=>by
  rw [Bh,Bh,BE,BE];exact Vals.append h (Vals.rep h k)
theorem cO {a:Type} (l:List a):l.eraseIdx (l.length-1)=l.dropLast:=by grind
theorem I8 (b:List Value):∀ (k:Nat) (a:List Value),
  List.foldl (λf c=>f++c) a.toArray (List.replicate k b.toArray)=(a++(List.replicate k b).flatten).toArray
 | 0,a=>by simp
 | k+1,a=>by
  have e:a.toArray++b.toArray=(a++b).toArray:=by simp
  have d:(a++b)++(List.replicate k b).flatten=a++(List.replicate (k+1) b).flatten:=by
   rw [Bh,BE,List.append_assoc]
  rw [<- d,<- I8 b k (a++b),<- e,Bh,List.foldl_cons]
section
variable {X:Cx} {pins:List (Addr×Obj)} {σ:St} {H:Hp} {s:Shared} {l b:Addr} {xs ys zs:List V}
theorem Inv.lset {a its':List Value} {n:Nat} {f:Array Value->Array Value} {t':Nat} (I:Inv X pins σ H s) (c:H l=some (.lst xs))
  (e:s.heap.get? l=some { cls:=.type "list",data:=.seq a.toArray n }) (b:f a.toArray=its'.toArray) (g:Vals ys its') (hz:ys.length<=sizeLine) :
  Inv X pins σ (upd H l (.lst ys)) { s with heap:=s.heap.update l (Obj.mapSeq f),toks:=t' }:=by
 have q:=PySem.IsL.update e f;rw [b] at q;refine I.write (by rw [c];exact trivial) (.inl rfl) (λi u d h=>(By s.heap (Obj.mapSeq f) (Ne.symm d)).trans h) ⟨_,q⟩ ?_;exact ⟨hz,its',_,g,q⟩
theorem Inv.lnew (I:Inv X pins σ H s) (a:Vals ys its) (hz:ys.length<=sizeLine) :
  Inv X pins σ (upd H s.heap.objs.size (.lst ys)) { s with heap:=s.heap.push { cls:=.type "list",data:=.seq its.toArray },toks:=t' }:=
 I.laid (λ_ _ q=>Ah _ q) (Aj _) ⟨hz,its,0,a,Aw _ rfl⟩
theorem Inv.fresh (I:Inv X pins σ H s):H s.heap.objs.size=none:=I.hok.fresh (Aj _)
theorem Inv.lstM (I:Inv X pins σ H s) (b:H l=some (.lst xs)):xs.length<=sizeLine/\∃ (a:List Value) (n:Nat),Vals xs a/\xs.length=a.length/\s.heap.get? l=some { cls:=.type "list",data:=.seq a.toArray n }:=by
 obtain ⟨z,a,n,r,e⟩:=I.hok l _ b;exact ⟨z,a,n,r,r.length,e⟩
theorem ai (h:n<=sizeLine):Builtin.List.listTooLong n=false:=by
 unfold Builtin.List.listTooLong;grind
end
section
variable {X:Cx}
def rAppend:V->List V->Hp->VK->Prop:=λx vs H Q=>∃ l xs y,x=.ref l/\vs=[y]/\H l=some (.lst xs)/\xs.length<sizeLine/\Q .non (upd H l (.lst (xs++[y])))
theorem I0:MtM X "list.append" rAppend:=by
 intro pins s σ H x vs v us Q I d f h;obtain ⟨l,xs,y,rfl,rfl,b,hz,q⟩:=h;cases d;obtain ⟨u,rfl,c⟩:=f.one;obtain ⟨z,a,n,r,g,e⟩:=I.lstM b;refine BX F.slot_list_append ⟨_,e,rfl⟩ F.entry_list_append (F.args_list_append_2 _ _) (PySem.list_append l a.toArray n u (by rw [Am];omega)) ⟨e,?_⟩;refine ⟨.non,_,I.lset b e (by simp) (r.append (.cons c .nil)) ?_,rfl,q⟩;grind
def rPop:V->List V->Hp->VK->Prop:=λx vs H Q=>∃ l xs y,x=.ref l/\vs=[]/\H l=some (.lst xs)/\xs[xs.length-1]?=some y/\Q y (upd H l (.lst xs.dropLast))
theorem nV:MtM X "list.pop" rPop:=by
 intro pins s σ H x vs v us Q I rx rv h;obtain ⟨l,xs,y,rfl,rfl,hH,hy,q⟩:=h;cases rx;have hus:=rv.zero;subst hus;obtain ⟨z,its,n,r,hl,e⟩:=I.lstM hH;obtain ⟨u,hu,ru⟩:=r.get hy;have hy':its.toArray[its.toArray.size-1]?=some u:=by
  show its.toArray[its.length-1]?=some u;rw [<- Array.getElem?_toList,<- hl];exact hu
 refine BX F.slot_list_pop ⟨_,e,rfl⟩ F.entry_list_pop (F.args_list_pop_1 _) (MeetsSeq.list_pop_last l its.toArray n u hy' (by rw [Am];omega)) ⟨e,?_⟩;refine ⟨y,_,I.lset (its':=its.dropLast) hH e ?_ r.dropLast ?_,ru,q⟩
 ·show its.toArray.eraseIdxIfInBounds (its.toArray.size-1)=its.dropLast.toArray;rw [Am,List.eraseIdxIfInBounds_toArray,cO]
 ·rw [List.length_dropLast];omega
def rCat:R2:=λx y H Q=>∃ l b xs a,x=.ref l/\y=.ref b/\H l=some (.lst xs)/\H b=some (.lst a)/\xs.length+a.length<=sizeLine/\∀ p,H p=none->Q (.ref p) (upd H p (.lst (xs++a)))
theorem iZ:OpR X (binaryOp .Add) rCat:=by
 intro pins s σ H x y v u Q I m k h;obtain ⟨l,b,xs,A,rfl,rfl,o,g,hz,q⟩:=h;cases m;cases k;obtain ⟨z,c,n,r,t,e⟩:=I.lstM o;obtain ⟨p,a,w,f,j,i⟩:=I.lstM g;refine PySem.P.add_list e i ?_ (by rw [Am,Am];omega);have d:c.toArray++a.toArray=(c++a).toArray:=by simp
 rw [d];exact ⟨.ref _,_,I.lnew (r.append f) (by rw [AJ];omega),rfl,q _ I.fresh⟩
def rRep:R2:=λx y H Q=>∃ l k xs,x=.ref l/\y=.int k/\H l=some (.lst xs)/\-(2 ^ 63)<=k/\k<2 ^ 63/\xs.length * k.toNat<=sizeLine /\
 ∀ p,H p=none->Q (.ref p) (upd H p (.lst (List.replicate k.toNat xs).flatten))
theorem dj {a:Type} (xs:List a) (k:Nat):(List.replicate k xs).flatten.length=k * xs.length:=by simp_all
theorem pg:OpR X (binaryOp .Mult) rRep:=by
 intro pins s σ H x y v u Q I rx ry h;obtain ⟨l,k,xs,rfl,rfl,hH,h1,h2,hz,q⟩:=h;cases rx;obtain ⟨t,rfl⟩:=ry;obtain ⟨z,its,n,r,hl,e⟩:=I.lstM hH;have hlen:its.toArray.size * k.toNat<=sizeLine:=by rw [Am,<- hl];exact hz
 have hcap:¬ its.toArray.size * k.toNat > (2 ^ 63-1) / 8:=by
  have:(sizeLine:Nat)<=(2 ^ 63-1) / 8:=by decide
  omega
 have hfit:¬ (!Builtin.List.listFitsIndex k)=true:=by
  rw [fitsIndex_both h1 h2];exact Ak
 have hlong:¬ Builtin.List.listTooLong (its.toArray.size * k.toNat)=true:=by
  rw [ai hlen];exact Ak
 have hnew:List.foldl (λx1 x2=>x1++x2) #[] (List.replicate (if its.toArray.isEmpty=true then 0 else k.toNat) its.toArray)=(List.replicate k.toNat its).flatten.toArray:=by
  have f0:=λm=>by
   have:=I8 its m [];rw [List.nil_append] at this;exact this
  rw [f0];cases its with
  | nil=>simp
  | cons a r'=>rw [if_neg (by simp)]
 refine BM (by decide) ⟨_,e,rfl⟩ (λs'=>Cr s' k t) noFill_list_mul F.fills_int_mul F.slot_int_rmul repeat_list F.slot_int_index.lookup
  (BX F.slot_int_rmul (Cr s k t) F.entry_int_rmul (F.args_int_rmul_2 _ _) (int___rmul___int_list k t l its.toArray n)
   ⟨e,rfl,⟨_,e,rfl⟩,BX F.slot_list_mul ⟨_,e,rfl⟩ F.entry_list_mul (F.args_list_mul_2 _ _) (AutoListH.list___mul___list_int_3 l its.toArray n k t hfit hcap hlong) ⟨e,?_⟩⟩)
 rw [hnew];exact ⟨.ref _,_,I.lnew (r.rep k.toNat) (by rw [dj,Nat.mul_comm];exact hz),rfl,q _ I.fresh⟩
end
section
variable {κ:Type} [DecidableEq κ]
def A4 (a:List (κ×V)) (k:κ):Option V:=(a.find? λb=>decide (b.1=k)).map (·.2)
def k0 (a:List (κ×V)) (k:κ) (v:V):List (κ×V):=
 if (a.any λb=>decide (b.1=k))=true then a.map (λb=>if b.1=k then (b.1,v) else b) else a++[(k,v)]
theorem G1 {k:κ} (e:p.1=k):A4 (p :: r) k=some p.2:=by simp [A4,Bb,e]
theorem D3 {k:κ} (e:¬ p.1=k):A4 (p :: r) k=A4 r k:=by simp [A4,Bb,e]
theorem bd (k:κ):∀ a:List (κ×V),(a.any λb=>decide (b.1=k))=(A4 a k).isSome
 | []=>rfl
 | p :: r=>by
  rw [Bu];by_cases e:p.1=k
  ·simp only [G1 e,Au e,Bool.true_or,Option.isSome_some]
  ·rw [D3 e,Ao e,Bool.false_or];exact bd k r
theorem w6 (a:List (κ×V)) (k:κ) (v:V):(k0 a k v).length<=a.length+1:=by
 unfold k0;grind
theorem RelO.isSome_eq (r:RelO o u):o.isSome=u.isSome:=by
 cases o with
 | none=>cases u with
  | none=>rfl
  | some _=>exact (r).elim
 | some _=>cases u with
  | none=>exact (r).elim
  | some _=>rfl
theorem RelO.getD (r:RelO o u) (a:RelV d d'):RelV (o.getD d) (u.getD d'):=by
 cases o with
 | none=>cases u with
  | none=>exact a
  | some _=>exact (r).elim
 | some _=>cases u with
  | none=>exact (r).elim
  | some _=>exact r
theorem KV.val (r:KV kvs vs) (k:κ):RelO (A4 kvs k) (valueAt vs k):=by
 induction r with
 | nil=>exact True.intro
 | @cons p q ps a h t g=>
  obtain ⟨d,f⟩:=h;by_cases e:p.1=k
  ·have c:=d.symm.trans e;have b:valueAt (q :: a) k=some q.2:=by simp [valueAt,Bb,c]
   rw [G1 e,b];exact f
  ·have c:¬ q.1=k:=λz=>e (d.trans z);have b:valueAt (q :: a) k=valueAt a k:=by simp [valueAt,Bb,c]
   rw [D3 e,b];exact g
theorem KV.any {kvs:List (κ×V)} {vs:List (κ×Value)} (r:KV kvs vs) (k:κ):(kvs.any λkv=>decide (kv.1=k))=vs.any λkv=>decide (kv.1=k):=by
 unfold KV at r;induction r with
 | nil=>rfl
 | cons h t ih=>rw [Bu,Bu,ih,h.1]
theorem KV.repl (r:KV kvs vs) (k:κ) {y:V} {u:Value} (d:RelV y u) :
  KV (kvs.map λa=>if a.1=k then (a.1,y) else a) (vs.map λa=>if a.1=k then (a.1,u) else a):=by
 induction r with
 | nil=>exact .nil
 | @cons p q ps g h t b=>
  rw [AG,AG];refine .cons ?_ b;obtain ⟨c,f⟩:=h;by_cases e:p.1=k
  ·grind
  ·grind
theorem KV.put (r:KV kvs vs) (k:κ) {y:V} {u:Value} (a:RelV y u):KV (k0 kvs k y) (stored vs k u):=by
 unfold k0 stored;rw [r.any k];by_cases e:(vs.any λb=>decide (b.1=k))=true
 ·rw [if_pos e,if_pos e];exact r.repl k a
 ·rw [if_neg e,if_neg e];exact Paired.snoc r ⟨rfl,a⟩
theorem KV.length {vs:List (κ×Value)} (r:KV kvs vs):kvs.length=vs.length:=Paired.length r
end
theorem W8 {k:Key} {u:Value} (r:RelV (kV k) u):(c8 P w).is k u=true:=by
 cases k with
 | inl i=>obtain ⟨t,e⟩:=(r);subst e;exact aX P w i t
 | inr x=>obtain ⟨t,e⟩:=(r);subst e;exact bP P w x t
theorem W7:∀ {a:List Key} {us:List Value},Vals (a.map kV) us->ItemsAre (c8 P w) a us
 | [],_,r=>by rw [List.map_nil] at r;cases r;exact .nil
 | k :: a,_,r=>by
  rw [AG] at r;cases r with
  | cons h t=>exact .cons (W8 h) (W7 t)
abbrev KT (H:Hp):List (List Key×V)->List (List Key×Addr×Value)->Prop:=Paired λp q=>p.1=q.1/\H q.2.1=some (.tup (p.1.map kV))/\RelV p.2 q.2.2
theorem KT.val (r:KT H kvs xs) (k:List Key):RelO (A4 kvs k) ((atKey xs k).map (·.2)):=by
 induction r with
 | nil=>exact True.intro
 | @cons p q ps a h t g=>
  obtain ⟨d,_,f⟩:=h;by_cases e:p.1=k
  ·have c:=d.symm.trans e;have b:atKey (q :: a) k=some q.2:=by simp [atKey,Bb,c]
   rw [G1 e,b];exact f
  ·have c:¬ q.1=k:=λz=>e (d.trans z);have b:atKey (q :: a) k=atKey a k:=by simp [atKey,Bb,c]
   rw [D3 e,b];exact g
theorem KT.repl {H:Hp} {kvs:List (List Key×V)} {xs:List (List Key×Addr×Value)} (r:KT H kvs xs) (k:List Key) {y:V} {u:Value} (ry:RelV y u) :
  KT H (kvs.map λkv=>if kv.1=k then (kv.1,y) else kv) (xs.map (putAt k u)):=by
 induction r with
 | nil=>exact .nil
 | @cons p q ps qs h t ih=>
  rw [AG,AG];refine .cons ?_ ih;obtain ⟨h1,h2,h3⟩:=h;unfold putAt;by_cases e:p.1=k
  ·rw [if_pos e,if_pos (h1.symm.trans e)];exact ⟨h1,h2,ry⟩
  ·rw [if_neg e,if_neg (λz=>e (h1.trans z))];exact ⟨h1,h2,h3⟩
theorem KT.put (r:KT H kvs xs) (k:List Key) {b:Addr} {y:V} {u:Value} (c:H b=some (.tup (k.map kV))) (a:RelV y u) :
  KT H (k0 kvs k y) (storedH xs k b u):=by
 have e:(kvs.any λd=>decide (d.1=k))=(atKey xs k).isSome:=by
  rw [bd,(r.val k).isSome_eq,Option.isSome_map]
 unfold k0 storedH;rw [e];by_cases q:(atKey xs k).isSome=true
 ·rw [if_pos q,if_pos q];exact r.repl k a
 ·rw [if_neg q,if_neg q];exact Paired.snoc r ⟨rfl,c,a⟩
theorem KT.keeps {a:List (List Key×V)} {xs:List (List Key×Addr×Value)} (r:KT H a xs) (c:∀ b ys,H b=some (.tup ys)->H' b=some (.tup ys)):KT H' a xs:=
 Paired.mapP r λ_ _ z=>⟨z.1,c _ _ z.2.1,z.2.2⟩
section
variable {P:Program} {w:World} {H:Hp} {h:Heap} {a:Addr}
theorem mZ (b:HOk P w H h) (e:Rd H a u):ObjOk P w H h a u:=e.ok b
theorem W2 (b:HOk P w H h) (e:Rd H a (.dK kvs)):kvs.length<=sizeLine/\(a==sysModules)=false/\∃ vs,KV kvs vs/\h.DictOf (c8 P w) a vs:=
 mZ b e
theorem mS (b:HOk P w H h) (e:H a=some (.dK kvs)):kvs.length<=sizeLine/\(a==sysModules)=false/\∃ vs,KV kvs vs/\h.DictOf (c8 P w) a vs:=W2 b (.inl e)
theorem N6 (g:HOk P w H h) (e:H a=some (.tup (ks.map kV))):(tupleKind (c8 P w)).is h ks a:=by
 obtain ⟨_,b,r,o,c,d,n,f⟩:=(g a _ e);exact ⟨o,b.toArray,n,c,d,f.1,by simpa using W7 r⟩
theorem bI (d:HOk P w H h) (e:Rd H a (.dT kvs)):kvs.length<=sizeLine/\(a==sysModules)=false /\
  ∃ xs,KT H kvs xs/\h.DictOfH (tupleKind (c8 P w)) a xs:=by
 obtain ⟨z,y,xs,r,o,es,s,g,j,n,i,u⟩:=(mZ d e);refine ⟨z,y,xs,r,o,es,s,g,j,n,i,λx b=>?_,u⟩;have f:∀ {l:List (List Key×V)} {m:List (List Key×Addr×Value)},KT H l m->∀ x∈m,(tupleKind (c8 P w)).is h x.1 x.2.1:=by
  intro l m q;induction q with
  | nil=>intro x b;exact nomatch b
  | @cons p q ps v c t k=>
   intro x b;rcases Ar.mp b with e | b
   ·subst e;exact N6 d (by rw [<- c.1];exact c.2.1)
   ·exact k x b
 grind
theorem sJ (b:HOk P w H h) (e:H a=some (.dT kvs)):kvs.length<=sizeLine/\(a==sysModules)=false /\
  ∃ xs,KT H kvs xs/\h.DictOfH (tupleKind (c8 P w)) a xs:=bI b (.inl e)
end
def DGet (H:Hp) (a:Addr) (y:V) (r:Option V):Prop:=
 (∃ c k,Rd H a (.dK c)/\y=kV k/\r=A4 c k)\/∃ c k b,Rd H a (.dT c)/\y=.ref b/\H b=some (.tup (k.map kV))/\r=A4 c k
def DPut (H:Hp) (a:Addr) (y v:V) (H':Hp):Prop:=
 (∃ c k,H a=some (.dK c)/\y=kV k/\c.length<sizeLine/\H'=upd H a (.dK (k0 c k v))) \/
 ∃ c k b,H a=some (.dT c)/\y=.ref b/\H b=some (.tup (k.map kV))/\c.length<sizeLine/\H'=upd H a (.dT (k0 c k v))
theorem DGet.k {k:Key} (e:H a=some (.dK kvs)):DGet H a (kV k) (A4 kvs k):=.inl ⟨kvs,k,.inl e,rfl,rfl⟩
theorem DPut.k {k:Key} {v:V} (e:H a=some (.dK kvs)) (b:kvs.length<sizeLine):DPut H a (kV k) v (upd H a (.dK (k0 kvs k v))):=.inl ⟨kvs,k,e,rfl,b,rfl⟩
section
variable {X:Cx} {pins:List (Addr×Obj)} {σ:St} {H:Hp} {s:Shared} {a:Addr} {y v:V} {u r:Value} {o:Option V} {A:Around} {E:Value->Shared->Prop}
theorem Inv.big (I:Inv X pins σ H s):sysModules<s.heap.objs.size:=by
 have h:=(I.mod.glob.keeps I.bk).lt;exact Nat.lt_trans (by decide) h
theorem fL (t:A.units+1<cLine) (I:Inv X pins σ H s) (g:DGet H a y (some v)) (o:RelV y u) (h:∀ w' s',Inv X pins σ H s'->RelV v w'->Q w' s') :
  wpAny (model X.prog X.w) A (getItem (.ref a) u) Q E s:=by
 rcases g with ⟨n,k,e,i,l⟩ | ⟨n,k,b,e,i,q,l⟩
 ·subst i;obtain ⟨z,hd,vs,d,f⟩:=W2 I.hok e;obtain ⟨w',m,c⟩:=RelO.some_of (by rw [l];exact d.val k);exact wpAny_getItem_of (W8 o) f.mapOf m (h w' _ (I.tok _) c)
 ·subst i;cases (o);obtain ⟨z,hd,xs,d,f⟩:=bI I.hok e;obtain ⟨w',m,c⟩:=RelO.some_of (by rw [l];exact d.val k);obtain ⟨p,r,j⟩:=Bj.mp m;refine wpAny_getItem_heap (BY t) (N6 I.hok q) f r ?_;rw [j];exact h w' _ (I.tok _) c
theorem Z5 {ob:HO} (I:Inv X pins σ H s) (e:Mut (H a)) (hs:Heap.SameBut a s.heap h') (d:∃ q,h'.get? a=some q) (c:ObjOk X.prog X.w (upd H a ob) h' a ob) :
  Inv X pins σ (upd H a ob) { s with heap:=h',toks:=t' }:=
 I.write e (.inl rfl) (λb q f z=>(hs.2 b f).trans z) d c
theorem iY {b:List (Key×V)} {vs:List (Key×Value)} (z:b.length<=sizeLine) (hd:(a==sysModules)=false) (c:KV b vs) (d:h'.DictOf (c8 P w) a vs) :
  ObjOk P w H' h' a (.dK b):=⟨z,hd,vs,c,d⟩
theorem fY (L:A.units+1<cLine) (I:Inv X pins σ H s) (g:DPut H a y v H') (w:RelV y u) (B:RelV v r) (h:∀ s',Inv X pins σ H' s'->Q () s') :
  wpAny (model X.prog X.w) A (setItem (.ref a) u r) Q E s:=by
 rcases g with ⟨d,k,e,p,l,n⟩ | ⟨d,k,b,e,p,t,l,n⟩
 ·subst p n;obtain ⟨z,hd,vs,f,o⟩:=mS I.hok e;have hz:vs.length<=sizeLine:=by rw [<- f.length];exact z
  have m:(k0 d k v).length<=sizeLine:=by have:=w6 d k v;omega
  refine wpAny_setItem_pairs (W8 w) o λh' i hs=>h _ ?_;have D:∃ q,h'.get? a=some q:=let ⟨q,_,_,j,_⟩:=i;⟨q,j⟩
  exact Z5 I (by rw [e];exact True.intro) hs D (iY m hd (f.put k B) i)
 ·subst p n;cases (w);obtain ⟨z,hd,xs,f,o⟩:=sJ I.hok e;have hz:xs.length<=sizeLine:=by rw [<- Paired.length f];exact z
  have m:(k0 d k v).length<=sizeLine:=by have:=w6 d k v;omega
  refine wpAny_setItem_heap (BY L) (N6 I.hok t) o λh' i hs=>h _ ?_;obtain ⟨q,es,F,j,J,K,C,_,G⟩:=i;refine Z5 I (by rw [e];exact True.intro) hs ⟨q,j⟩ ⟨m,hd,_,(f.put k t B).keeps λc ys x=>?_,q,es,F,j,J,K,C,G⟩;rw [a4 (ia x e (λz=>nomatch z))];exact x
end
section
variable {X:Cx} {pins:List (Addr×Obj)} {σ:St} {H:Hp} {s:Shared} {a:Addr} {kvs:List (Key×V)} {k:Key} {u:Value} {A:Around} {E:Value->Shared->Prop}
theorem sC (I:Inv X pins σ H s) (e:Rd H a (.dK kvs)) (h:∀ t s',Inv X pins σ H s'->Q (.int kvs.length t) s'):wpAny (model X.prog X.w) A (call (.builtin "len") [.ref a]) Q E s:=by
 obtain ⟨z,hd,vs,b,c⟩:=W2 I.hok e;refine call_len_dict hd c (by rw [<- b.length];rw [AK] at z;omega) ?_;rw [<- b.length];exact h _ _ (I.tok _)
end
theorem az {σ:St} {H:Hp} {s:Shared} {a:Addr} {y:V} {o:Option V} (I:Inv X pins σ H s) (g:DGet H a y o):s.TypeIs (.ref a) "dict":=by
 rcases g with ⟨d,k,e,_,_⟩ | ⟨d,k,b,e,_,_,_⟩
 ·obtain ⟨_,_,vs,_,c⟩:=W2 I.hok e;exact c.typeIs
 ·obtain ⟨_,_,xs,_,c⟩:=bI I.hok e;exact c.typeIs
theorem gG (h:Heap) (a:sysModules<h.objs.size):ObjOk P w H (h.push { cls:=.type "dict",data:=.dict #[] }) h.objs.size (.dK []):=
 ⟨AO _,BO.mpr (Ne.symm (At a)),[],.nil,Heap.DictOf.new h⟩
def aM:List (TE×TE)->St->Hp->(List (V×V)->Hp->Prop)->Prop
 | [],_,H,Q=>Q [] H
 | (d,a) :: r,σ,H,Q=>d σ H λx c=>a σ c λy e=>aM r σ e λps b=>Q ((x,y) :: ps) b
abbrev VV:List (V×V)->List (Value×Value)->Prop:=Paired λp q=>RelV p.1 q.1/\RelV p.2 q.2
def PPs (X:Cx) (pos:Pos) (b:List (Option Expr)) (a:List Expr) (c:List (TE×TE)):Prop:=
 ∀ (pins:List (Addr×Obj)) (s:Shared) (σ:St) (H:Hp) (Q:List (V×V)->Hp->Prop),Inv X pins σ H s->aM c σ H Q ->
  wpAny (model X.prog X.w) X.A (evalPairs (pairTrees b a X.env pos)) (λvs s'=>∃ ps H',Inv X pins σ H' s'/\VV ps vs/\Q ps H') X.xe s
theorem mL:PPs X pos [] [] []:=λpins s σ H Q I h=>pairTrees_nil_walk ⟨[],H,I,.nil,h⟩
theorem gY {k v:Expr} {d:List (Option Expr)} {vs:List Expr} {e c:TE} {a:List (TE×TE)} (f:PE X k e) (m:PE X v c) (j:PPs X pos d vs a) :
  PPs X pos (some k :: d) (v :: vs) ((e,c) :: a):=λpins s σ H Q I h=>
 pairTrees_cons_walk (thn (f pins s σ H _ I h) λu l ⟨x,p,n,r,t⟩=>thn (m pins l σ p _ n t) λC A ⟨y,B,w,g,i⟩=>
  thn (j pins A σ B _ w i) λws D ⟨ps,z,o,b,q⟩=>⟨(x,y) :: ps,z,o,.cons ⟨r,g⟩ b,q⟩)
def C7 (c a:List (Key×V)):List (Key×V):=a.foldl (λb d=>k0 b d.1 d.2) c
theorem KV.merge:∀ {a:List (Key×V)} {rs:List (Key×Value)} {b:List (Key×V)} {vs:List (Key×Value)},KV a rs->KV b vs->KV (C7 b a) (merged vs rs):=by
 intro a rs b vs r;induction r generalizing b vs with
 | nil=>intro q;exact q
 | @cons p q ps f h t c=>
  intro d;have e:KV (k0 b p.1 p.2) (stored vs q.1 q.2):=by
   have:=d.put p.1 h.2;rw [<- h.1];exact this
  exact c e
theorem B3:∀ (b a:List (Key×V)),(C7 a b).length<=a.length+b.length
 | [],a=>by show a.length<=a.length+0;omega
 | p :: r,a=>by
  have d:=B3 r (k0 a p.1 p.2);have c:=w6 a p.1 p.2;show (C7 (k0 a p.1 p.2) r).length<=_;rw [Ba];omega
theorem T0:∀ {d:List (Key×V)} {ws:List (Value×Value)},VV (d.map λe=>(kV e.1,e.2)) ws->∃ rs,Carries (c8 P w) ws rs/\KV d rs
 | [],_,r=>by rw [List.map_nil] at r;cases r;exact ⟨[],True.intro,.nil⟩
 | p :: d,_,r=>by
  rw [AG] at r;cases r with
  | @cons a b j i h t=>
   obtain ⟨rs,c,q⟩:=T0 t;obtain ⟨g,f⟩:=b;exact ⟨(p.1,f) :: rs,⟨W8 h.1,rfl,c⟩,.cons ⟨rfl,h.2⟩ q⟩
def tt (b:List (TE×TE)):TE:=λσ H Q=>∀ p,H p=none->aM b σ (upd H p (.dK [])) λps c=>c p=some (.dK [])/\∃ a:List (Key×V),ps=a.map (λd=>(kV d.1,d.2))/\a.length<=15/\Q (.ref p) (upd c p (.dK (C7 [] a)))
theorem lr (h:PPs X pos keys values trs) (d:keys.all (·.isSome)=true) (k:keys.length=values.length) (u:keys≠[])
  (f:keys.length<=15):PE X (.Dict keys values pos) (tt trs):=by
 intro pins s σ H Q I q;have t:=I.hok.fresh (Aj s.heap.objs.size);have p:=I.laid (t':=s.toks) (λ_ _ q=>Ah _ q) (Aj _) (gG s.heap I.big);refine wpAny_Dict_walk (knd:=c8 X.prog X.w) d k u f (thn (h pins _ σ _ _ p (q _ t)) λws A ⟨ps,B,i,g,e,a,r,y,l⟩=>?_);subst r;obtain ⟨rs,c,n⟩:=T0 g;obtain ⟨z,hd,x,m,v⟩:=mS i.hok e;cases m;refine ⟨rs,c,v,λh' b hs=>⟨.ref s.heap.objs.size,_,?_,rfl,l⟩⟩;have hz:(C7 [] a).length<=sizeLine:=by
  have j:=B3 a [];rw [Dq] at j;rw [AK];omega
 have o:∃ q,h'.get? s.heap.objs.size=some q:=let ⟨q,_,_,w,_⟩:=b;⟨q,w⟩
 exact Z5 i (by rw [e];exact True.intro) hs o (iY hz hd (n.merge .nil) b)
section
variable {X:Cx} {pins:List (Addr×Obj)} {σ:St} {H:Hp} {s:Shared} {a:Addr} {y d:V} {u r:Value} {o:Option V} {A:Around} {E:Value->Shared->Prop}
theorem oA (n:A.units+1<cLine) (I:Inv X pins σ H s) (g:DGet H a y o) (j:RelV y u) (h:∀ w' s',Inv X pins σ H s'->RelV (o.getD .non) w'->Q w' s') :
  wpAny (model X.prog X.w) A (call (.builtin "dict.get") [.ref a,u]) Q E s:=by
 rcases g with ⟨i,k,e,f,l⟩ | ⟨i,k,b,e,f,m,l⟩
 ·subst f;obtain ⟨z,hd,vs,c,d⟩:=W2 I.hok e;refine CL AW d.typeIs Bk (Cc _ _) (meets_dict_get (c8 X.prog X.w) a (W8 j) hd) ⟨_,d.mapOf,h _ _ (I.tok _) ?_⟩;rw [l];exact (c.val k).getD rfl
 ·subst f;cases (j);obtain ⟨z,hd,xs,c,d⟩:=bI I.hok e;refine CL AW d.typeIs Bk (Cc _ _) (meetsH_dict_get (tupleKind (c8 X.prog X.w)) a b hd) ⟨BY n,k,xs,N6 I.hok m,d,h _ _ (I.tok _) ?_⟩;rw [l];exact (c.val k).getD rfl
theorem qP (q:A.units+1<cLine) (I:Inv X pins σ H s) (g:DGet H a y o) (m:RelV y u) (n:RelV d r) (h:∀ w' s',Inv X pins σ H s'->RelV (o.getD d) w'->Q w' s') :
  wpAny (model X.prog X.w) A (call (.builtin "dict.get") [.ref a,u,r]) Q E s:=by
 rcases g with ⟨j,k,e,i,l⟩ | ⟨j,k,b,e,i,p,l⟩
 ·subst i;obtain ⟨z,hd,vs,c,f⟩:=W2 I.hok e;refine CL AW f.typeIs Bk (Dh _ _ _) (meets_dict_get_default (c8 X.prog X.w) a (W8 m) hd r) ⟨_,f.mapOf,h _ _ (I.tok _) ?_⟩;rw [l];exact (c.val k).getD n
 ·subst i;cases (m);obtain ⟨z,hd,xs,c,f⟩:=bI I.hok e;refine CL AW f.typeIs Bk (Dh _ _ _) (meetsH_dict_get_default (tupleKind (c8 X.prog X.w)) a b hd r) ⟨BY q,k,xs,N6 I.hok p,f,h _ _ (I.tok _) ?_⟩;rw [l];exact (c.val k).getD n
end
end L2
namespace Att
open PySem PySem.W PySem.Calls PyProof.Rows
theorem M1:∀ (ns:List Int) (vs:List Value),WellAll P h vs (ns.map WData.int)->IntsAre vs ns:=by
 intro ns;induction ns with
 | nil=>
  intro vs w;rw [List.map_nil] at w;cases w;exact .nil
 | cons n ns c=>
  intro vs w;rw [AG] at w;cases w with
  | cons a b=>
   cases a;exact .cons _ _ (c _ b)
theorem fQ {l:OpenLaw} {n:Nat} (hn:l.most=some n) {P:Params} {h:Heap} {args:List WData} {vals:List Value}
  (hpre:l.row.toRowW.claim.pre args=true) (hwl:WellAll P h vals args) :
  ∃ a vs ns,vals=[Value.ref a]/\args=[WData.list (ns.map WData.int)]/\h.get? a=some { cls:=.type "list",data:=.seq vs.toArray }/\IntsAre vs ns/\ns.length<=n:=by
 have hsh:=(pre_splitW hpre).1;have hc:=(pre_splitW hpre).2;obtain ⟨d,r,rfl,h1,h2⟩:=hasAllW_cons hsh;obtain rfl:=hasAllW_nil h2;obtain ⟨xs,rfl,h3⟩:=hasW_list h1;obtain ⟨ns,rfl⟩:=items_int h3;have hlen:ns.length<=n:=by
  have h4:(WTm.not (.lt (.lit (.int (n:Int))) (.len (.arg 0)))).holds [] { args:=[.list (ns.map .int)] }=true:=by
   have h4:=(holds_andW hc).1;rw [hn] at h4;exact h4
  have h5:=condW_of h4 (w_not (w_lt w_lit (w_len_list (w_arg rfl))));rw [AE] at h5;refine BL λq=>?_;have q':(n:Int)<((ns.length:Nat):Int):=by omega
  first
   | (rw [Au q'] at h5;exact absurd h5 (by decide))
   | (simp at h5;omega)
 cases hwl with
 | cons w1 w2=>
  cases w2;cases w1 with
  | list ho hall=>exact ⟨_,_,ns,rfl,rfl,ho,M1 ns _ hall,hlen⟩
theorem fP (l:OpenLaw) (a:List WData):l.row.toRowW.claim.post a (.bool true) a=true:=
 postW_of
  (show WShape.has [] (.bool true) .bool=true by first | rfl | decide | simp [WShape.has,WShape.arms,WShape.armsAll])
  (w_eq_bool (w_res rfl) w_lit) rfl
theorem attach_call {l:OpenLaw} {n:Nat} {q:Program} {e:List Str} {H:(Str->Option Value)->Heap->Prop} {D:World->Heap->Prop} {d:DefRec}
  (M:l.most=some n) (z:d.params.defaults=[])
  (k:∀ (w:World) (c b:Shared) (s A:Str->Option Value) (m:Addr) (o:Obj) (x t g:Value) (a:Addr) (vs:List Value) (ns:List Int),
   Ground q e [] H w c s A b.heap->D w b.heap ->
   b.heap.get? m=some o->o.data=.func (docDef d.name d.params d.body d.scope x t g)->b.heap.CodeRec t d.name->s d.name=some (.ref m) ->
   b.heap.get? a=some { cls:=.type "list",data:=.seq vs.toArray }->IntsAre vs ns->ns.length<=n->b.gens=#[] ->
   codeAny (model l.prog w) callerA (.call (.ref m) ⟨[.ref a],[]⟩) (λr s'=>r=.ok (.ret (.bool true))/\OldK b.heap s'.heap/\s'.os=b.os/\AllBare s'.gens) b) :
  WalkO q e H D l.row.toRowW d [] (λf vs=>PySem.call f vs):=by
 intro w c b s A G Y m o x t g L I Q hd y B v S E C U j F P u K;obtain rfl:L=.none:=Dflts.none B z;obtain rfl:I=.none:=Dflts.noKw B;obtain ⟨a,vs,ns,rfl,rfl,i,h,p⟩:=fQ M j u;refine enter_call (BJ (k w c b s A m o x t g a vs ns G Y Q (fd_plain hd) y v i h p S) λr s' R=>?_);obtain ⟨rfl,N,T,J⟩:=R;exact ⟨.inl ⟨.bool true,.bool true,[],rfl,λ_=>rfl,.bool true,fP l _,λ_=>⟨List.Pairwise.nil,λ_ O=>(nomatch O)⟩⟩,N,T,J⟩
end Att
namespace L2
open PySem PySem.Spec PyProof.Rows
theorem U6:∀ {vs:List Value} {ns:List Int},IntsAre vs ns->Vals (ns.map V.int) vs
 | _,_,.nil=>.nil
 | _,_,.cons n t h=>.cons ⟨t,rfl⟩ (U6 h)
def qM (H:Hp):Prop:=∀ b,H b=none\/∃ o xs,H b=some (.frz o (.lst xs))
theorem jF {K:PySem.W.Frag} {mg mb:Str->Option Value} {CX:CXT} {k:Nat} {fa a:Addr} {fd:FuncData} {x:Str} {sp:Sp} {s₁:Shared} {vs:List Value} {ns:List Int}
  (KX:K.In s₁.heap) (hns:s₁.heap.Ns mainGlobals mg) (hb:s₁.heap.Ns builtinsNs mb) (hbb:∀ x:Str,x ≠ "__name__"->mb x=bootBuiltins x) (hlim:s₁.heap.NoLimit) (hg:s₁.gens=#[])
  (ha:s₁.heap.get? a=some { cls:=.type "list",data:=.seq vs.toArray }) (hi:IntsAre vs ns) (hl:ns.length<=sizeLine) (hr:Room false k callerA)
  (F:∀ base:Heap,K.In base->base.Ns mainGlobals mg->FnOk P w K mg base CX k fa fd [x] sp) (hbind:∀ (s:Shared) (u:Value),BindsTo s fd ⟨[u],[]⟩ [(x,u)])
  (hsp:∀ H:Hp,qM H->SqL K H a (ns.map V.int)->sp [.ref a] H (λv _=>v=.bl true) λ_ _ _=>False)
  (hCX:∀ H e s',CX [] H s₁ (λ_ _ _=>False) e s'->False) :
  codeAny (model P w) callerA (.call (.ref fa) ⟨[.ref a],[]⟩) (λr s'=>r=.ok (.ret (.bool true))/\OldK s₁.heap s'.heap/\s'.os=s₁.os/\AllBare s'.gens) s₁:=by
 have rv:=U6 hi;have lenV:=hi.length;have core:∀ H:Hp,qM H->SqL K H a (ns.map V.int)->HOk P w H s₁.heap->(∀ b,H b≠none->b=a)->(H a≠none->K.lookup a=none) ->
   codeAny (model P w) callerA (.call (.ref fa) ⟨[.ref a],[]⟩) (λr s'=>r=.ok (.ret (.bool true))/\OldK s₁.heap s'.heap/\s'.os=s₁.os/\AllBare s'.gens) s₁:=by
  intro H hO hS hok hA hK;have p6:∀ {b:Addr} {o:Obj},s₁.heap.get? b=some o->H b=none->(bf s₁.heap H).get? b=some o:=λe n=>gi e n;have noA:∀ {b:Addr} {o:Obj} {es:Array DictEntry} {ep:Nat},s₁.heap.get? b=some o->o.data=.dict es ep->H b=none:=λ{b o es ep} e d=>by
   cases q:H b with
   | none=>rfl
   | some u=>
    have e':=hA b (by rw [q];simp);subst e';rw [ha] at e;cases e;have d':=d;cases d'
  have nsK:∀ {b:Addr} {m:Str->Option Value},s₁.heap.Ns b m->(bf s₁.heap H).Ns b m:=λ{b m} ⟨o,es,ep,e,d,r⟩=>⟨o,es,ep,p6 e (noA e d),d,r⟩;have hKb:=λb o e=>p6 (KX b o e) (by
   cases q:H b with
   | none=>rfl
   | some u=>
    have e':=hA b (by rw [q];simp);subst e';rw [hK (by rw [q];simp)] at e;cases e)
  have hM:Mod K mg (bf s₁.heap H):=⟨hKb,nsK hns,⟨mb,nsK hb,hbb⟩,let ⟨mc,h1,h2⟩:=hlim;⟨mc,nsK h1,h2⟩⟩;have e0:Env0 P w K mg (bf s₁.heap H) callerA [] s₁ H:=⟨rfl,hM,λb o e=>lW e,Nat.le_of_eq (eW _ _),trivial,λb hb=>absurd (show b∈([]:List Addr) from hb) (by simp),hok,.of_eq hg⟩;refine BJ ((F _ hKb (nsK hns)).run callerA [] s₁ H ⟨[.ref a],[]⟩ [.ref a] [.ref a] _ _ hr.any e0 (hbind s₁ (.ref a)) (.cons rfl .nil) (hsp H hO hS)) λr s' h=>?_;cases r with
  | error e=>exact (hCX H e s' h).elim
  | ok fl=>
   cases fl with
   | next=>exact False.elim h
   | brk=>exact False.elim h
   | cont=>exact False.elim h
   | ret u=>
    obtain ⟨v,H',os,bare,un,hok',r',q⟩:=h;have q':=q;subst q';obtain rfl:u=Value.bool true:=r';refine ⟨rfl,OldK.of_keep λb o e=>?_,os,bare⟩;cases q:H b with
    | none=>exact un.keep b o e q (by intro z;exact absurd (show b∈([]:List Addr) from z) (by simp)) (by simp)
    | some u=>
     rcases hO b with z | ⟨ob,xs,z⟩
     ·rw [q] at z;cases z
     ·have z2:=un.frzs b ob _ z;obtain ⟨e1,_⟩:=hok b _ z;obtain ⟨e2,_⟩:=hok' b _ z2;rw [e] at e1;cases e1;exact e2
 cases hk:K.lookup a with
 | some o=>
  have e:=KX a o hk;rw [ha] at e;cases e;refine core (λ_=>none) (λ_=>.inl rfl) (.inr ⟨_,vs.toArray,_,hk,rfl,rfl,rfl,by rw [Am,lenV];exact hl,by simpa using rv⟩) (λb u z=>by have z':=z;cases z') (λb z=>absurd rfl z) λz=>absurd rfl z
 | none=>
  refine core (λb=>if b=a then some (.frz { cls:=.type "list",data:=.seq vs.toArray } (.lst (ns.map V.int))) else none) (λb=>?_) (.inl (.inr ⟨{ cls:=.type "list",data:=.seq vs.toArray },if_pos rfl⟩)) (λb u z=>?_) (λb z=>?_) λ_=>hk
  ·grind
  ·by_cases hb:b=a
   ·have z':=(if_pos hb).symm.trans z;cases z';subst hb;exact ⟨ha,by rw [AE];exact hl,vs,_,rv,ha⟩
   ·grind
  ·grind
theorem walk_of {l:PySem.W.OpenLaw} {n k:Nat} {q:Program} {g:List Str} {Q:(Str->Option Value)->Heap->Prop} {D:World->Heap->Prop} {d:DefRec} {K:Params->PySem.W.Frag} {CX:World->CXT} {sp:World->Sp} {x:Str}
  (O:l.most=some n) (A:n<=sizeLine) (B:d.params.defaults=[]) (M:Room false k callerA)
  (S:∀ (w:World) (h:Heap),D w h->(K w.params).In h)
  (F:∀ (w:World) (j:Str->Option Value) (r:Addr) (h:Heap),(K w.params).In h->h.Ns mainGlobals j->j d.name=some (.ref r) ->
   ∃ fd:FuncData,(∀ (s:Shared) (u:Value),BindsTo s fd ⟨[u],[]⟩ [(x,u)]) /\
    ∀ b:Heap,(K w.params).In b->b.Ns mainGlobals j->FnOk l.prog w (K w.params) j b (CX w) k r fd [x] (sp w))
  (t:∀ (w:World) (H:Hp) (a:Addr) (ns:List Int),ns.length<=n->qM H->SqL (K w.params) H a (ns.map V.int)->sp w [.ref a] H (λv _=>v=.bl true) λ_ _ _=>False)
  (z:∀ (w:World) (H:Hp) (s:Shared) (e:Value) (s':Shared),CX w [] H s (λ_ _ _=>False) e s'->False) :
  PySem.W.WalkO q g Q D l.row.toRowW d [] (λf vs=>PySem.call f vs):=by
 refine Att.attach_call O B λw C m j Z r o U W J a vs ns G Y X hd P y p i c R=>?_;have E:=S w _ Y;obtain ⟨fd,N,I⟩:=F w j r _ E G.T.g y;exact jF E G.T.g G.T.b G.T.builtins G.T.nolimit R p i (AY c A) M I N (λH T L=>t w H a ns c T L) λH e s'=>z w H m e s'
def l8 (s:Stmt):Arguments:=match s with
 | .FunctionDef _ a _ _ _ _ _ _ _ _=>a
 | _=>{ posonlyargs:=[],args:=[],vararg:=none,kwonlyargs:=[],kw_defaults:=[],kwarg:=none,defaults:=[] }
def i6 (s:Stmt):List Stmt:=match s with
 | .FunctionDef _ _ b _ _ _ _ _ _ _=>b
 | _=>[]
def b3 (s:Stmt):Scope:=match s with
 | .FunctionDef _ _ _ _ _ _ a _ _ _=>a
 | _=>{ kind:=.function,names:=[],isGenerator:=false,isCoroutine:=false }
abbrev CX0:CXT:=⟨λ_ _ _ _ _ _=>False,false⟩
abbrev E0:XK:=λ_ _ _=>False
structure Fun (K:PySem.W.Frag) (x qual:Str) (st:Stmt) (f:Addr) (fd:FuncData):Prop where
 ex:∃ (oc:Value) (od:Option Addr) (kV doc pm:Value) (an:Option Addr) (cdv ct:Value) (osl:Array (Option Value)),
  fd=PySem.W.fnOf x qual (l8 st) (i6 st) (b3 st) .none kV doc pm an cdv ct/\K.lookup f=some ⟨oc,od,.func fd,osl⟩/\PySem.W.codeIn K cdv qual=true
 kp:PySem.W.keepIn K (.ref f)=true
section
variable {P:Program} {w:World} {K:PySem.W.Frag} {mg:Str->Option Value} {base:Heap}
theorem Fun.binds {st:Stmt} {f:Addr} {fd:FuncData} {ps:List Str} (F:Fun K x qual st f fd)
  (h:∀ (e b c:Value) (g:Option Addr) (a d:Value) (us:List Value),us.length=ps.length->bindArgs (PySem.W.fnOf x qual (l8 st) (i6 st) (b3 st) .none e b c g a d) ⟨us,[]⟩=pure (ps.zip us)):Binds K fd ps []:=by
 obtain ⟨k,od,e,b,c,g,a,d,j,rfl,l,i⟩:=F.ex;exact .all (h e b c g a d)
theorem ja {st:Stmt} {f:Addr} {j:Value} {od h:Option Addr} {d:Array (Option Value)} {i b e a g:Value} (l:K.lookup f=some ⟨j,od,.func (PySem.W.fnOf x qual (l8 st) (i6 st) (b3 st) .none i b e h a g),d⟩)
  (c:PySem.W.codeIn K a qual=true) (k:PySem.W.keepIn K (.ref f)=true):Fun K x qual st f (PySem.W.fnOf x qual (l8 st) (i6 st) (b3 st) .none i b e h a g):=⟨⟨j,od,i,b,e,h,a,g,d,rfl,l,c⟩,k⟩
end
theorem qY {k:Nat} (a:Room q k A):A.units+1<cLine:=Nat.lt_of_le_of_lt (Nat.add_le_add_left (by decide:1<=64) _) a.units
section
variable {X:Cx}
theorem eh:e8 X (.builtin "len") (λxs H Q=>∃ a b,xs=[V.ref a]/\H a=some (.dK b)/\Q (.int b.length) H):=by
 intro pins s σ H xs us Q I r h;obtain ⟨a,b,rfl,d,q⟩:=h;obtain ⟨u,rfl,e⟩:=v6 r;cases e;exact sC I (.inl d) λt s' c=>⟨.int b.length,H,c,⟨t,rfl⟩,q⟩
end
theorem sU {A B:Prop} (h:A):if true=true then A else B:=by grind
theorem R9 {b a:Type} (g:a->b->a) {f:b->a->Sem (ForInStep a)}:∀ (l:List b) (c:a),(∀ x∈l,∀ c,f x c=pure (.yield (g c x)))->forIn l c f=pure (l.foldl g c)
 | [],_,_=>rfl
 | x :: l,c,h=>by
  rw [List.forIn_cons,h x Ap,pure_bind];exact R9 g l (g c x) λy d=>h y (Av _ d)
def f8 (cells:List (Str×Addr)) (a:List (Str×Addr)) (x:Str×NameKind):List (Str×Addr):=if x.2=NameKind.free then (x.1,(cells.lookup x.1).getD 0) :: a else a
def Q5 (cells:List (Str×Addr)) (a:List (Str×NameKind)):List (Str×Addr):=a.foldl (f8 cells) []
theorem A9 (h:∀ x∈scope.names,x.2=NameKind.free->∃ c,env.cells.lookup x.1=some c):closureFor scope env=pure (Q5 env.cells scope.names):=by
 simp only [closureFor];rw [R9 (f8 env.cells) scope.names [] (λx e c=>by
  obtain ⟨n,k⟩:=x;by_cases b:k=NameKind.free
  ·subst b;obtain ⟨a,d⟩:=h _ e rfl;simp [cellOf,f8,d]
  ·have:(k==NameKind.free)=false:=by simpa using b
   simp [f8,b,this])]
 rfl
theorem B6:∀ (b:List (Str×NameKind)) (f:List (Str×Addr)),(∀ x∈b,x.2=NameKind.free->∃ c,cells.lookup x.1=some c)->(∀ x c,f.lookup x=some c->cells.lookup x=some c) ->
  ∀ x c,(b.foldl (f8 cells) f).lookup x=some c->cells.lookup x=some c
 | [],_,_,g,x,c,e=>g x c e
 | y :: r,f,h,g,x,c,e=>by
  refine B6 r (f8 cells f y) (λz hz=>h z (Av _ hz)) (λz d q=>?_) x c e;unfold f8 at q;split at q
  ·rename_i i;obtain ⟨a,j⟩:=h y Ap i;rw [Cs] at q;split at q
   ·grind
   ·exact g z d q
  ·exact g z d q
theorem P5:∀ (b:List (Str×NameKind)) (a:List (Str×Addr)) (x:Str),(a.lookup x).isSome=true->((b.foldl (f8 cells) a).lookup x).isSome=true
 | [],_,_,h=>h
 | y :: r,a,x,h=>by
  refine P5 r (f8 cells a y) x ?_;unfold f8;split
  ·grind
  ·exact h
theorem Q8:∀ (a:List (Str×NameKind)) (b:List (Str×Addr)) (x:Str),(x,NameKind.free)∈a->((a.foldl (f8 cells) b).lookup x).isSome=true
 | [],_,_,h=>nomatch h
 | y :: r,b,x,h=>by
  rcases Ar.mp h with h | h
  ·subst h;refine P5 r _ x ?_;simp [f8]
  ·exact Q8 r _ x h
theorem mem_of_lookup {c d:Type} [BEq c] [LawfulBEq c]:∀ {l:List (c×d)} {x:c} {y:d},l.lookup x=some y->(x,y)∈l
 | [],_,_,h=>by simp at h
 | (a,b) :: r,x,y,h=>by
  rw [Cs] at h;split at h
  ·rename_i e;have:x=a:=by simpa using e
   cases h;subst this;exact Ap
  ·exact Av _ (mem_of_lookup h)
theorem K7 {f:Str×NameKind->Str×NameKind} (a:∀ y,(f y).1=y.1):∀ (l:List (Str×NameKind)) (x:Str),(l.map f).lookup x=(l.lookup x).map λk=>(f (x,k)).2
 | [],_=>rfl
 | (n,k) :: r,x=>by
  rw [AG,show f (n,k) :: r.map f=((f (n,k)).1,(f (n,k)).2) :: r.map f from rfl,Cs,Cs,a];cases b:x==n with
  | true=>
   have e:x=n:=by simpa using b
   subst e;rfl
  | false=>exact K7 a r x
def rlF (a:Env) (y:Str×NameKind):Str×NameKind:=if (y.2==.free&&a.scope.kind==.function&&a.kindOf y.1==some .cell) then (y.1,.cell) else (y.1,y.2)
theorem ko (a:Env) (y:Str×NameKind):(rlF a y).1=y.1:=by unfold rlF;split <;> rfl
theorem w8 (a:Scope) (b:Env) (x:Str):(relabel a b).names.lookup x=(a.names.lookup x).map λk=>(rlF b (x,k)).2:=K7 (ko b) a.names x
theorem T9 {scope:Scope} {env:Env} {x:Str} (h:scope.names.lookup x=some .free):(relabel scope env).names.lookup x=some .cell\/(relabel scope env).names.lookup x=some .free:=by
 rw [w8,h];show some (rlF env (x,.free)).2=_\/some (rlF env (x,.free)).2=_;unfold rlF;split
 ·exact .inl rfl
 ·exact .inr rfl
theorem G3 (h:(relabel scope env).names.lookup x=some k) (d:k=.cell\/k=.free) (b:∀ y∈scope.names,y.2≠NameKind.cell):scope.names.lookup x=some .free:=by
 rw [w8] at h;cases e:scope.names.lookup x with
 | none=>rw [e] at h;cases h
 | some a=>
  rw [e] at h;have h':(rlF env (x,a)).2=k:=AD h;have c:=b (x,a) (mem_of_lookup e);unfold rlF at h';split at h'
  ·grind
  ·grind
theorem HOk.sameBut {a:Addr} (g:HOk P w H h) (f:H a=none) (hs:Heap.SameBut a h h'):HOk P w H h':=λb ob e=>by
 refine (g b ob e).stay (λc w' d q=>(hs.2 c ?_).trans q) (λ_ q=>q) λ_ _ q=>q;rintro rfl;rcases d with rfl | d
 ·rw [f] at e;cases e
 ·rw [f] at d;cases d
theorem Un.sameBut {C:Addr} (u:Un fs ex H H' h h1) (hs:Heap.SameBut C h1 h') (g:h.objs.size<=C):Un fs ex H H' h h':=by
 have d:∀ b o,h.get? b=some o->b≠C:=λb o e=>At (AA (An e) g);exact ⟨λb o e n c a=>(hs.2 b (d b o e)).trans (u.keep b o e n c a),λb o e n c a=>let ⟨f,q⟩:=u.slot b o e n c a;⟨f,(hs.2 b (d b o e)).trans q⟩,u.free,
  λb o e a=>let ⟨o',q⟩:=u.there b o e a;⟨o',(hs.2 b (d b o e)).trans q⟩,u.tups,u.frzs,u.tbls⟩
def b9 (X:Cx) (pins:List (Addr×Obj)) (N':List Str) (a:Scope) (C:Addr) (b:List Addr) (s:Shared) (H:Hp):Cx where
 prog:=X.prog
 w:=X.w
 K:=X.K
 mg:=X.mg
 base:=X.base
 A:=X.A
 N:=N'
 s₀:=s
 H₀:=H
 env:=compEnvC a (Q5 X.env.cells a.names) C X.env
 outer:=X.stack
 stack:=X.stack
 ex:=b
 fn:=λ_=>false
 calm:=X.calm
 pn:=X.pn++pins
 xe:=λ_ _=>False
structure CompText (N:List Str) (env:Env) (N':List Str) (k:Nat) (caps:List Nat) (scope:Scope):Prop where
 kind:scope.kind=.function
 cell:∀ y∈scope.names,y.2≠NameKind.cell
 loc:∀ y∈scope.names,y.2=NameKind.local->scope.names.lookup y.1=some .local
 free:∀ y∈scope.names,y.2=NameKind.free->scope.names.lookup y.1=some .free/\(env.scope.names.lookup y.1=some .cell\/env.scope.names.lookup y.1=some .free)
 cps:∀ (j i:Nat),caps[j]?=some i->∃ x,N[i]?=some x/\N'[k+j]?=some x/\scope.names.lookup x=some .free
 len:N'.length=k+caps.length
def u9 (caps:List Nat) (σ:St):St:=caps.map λi=>(σ[i]?).join
theorem iW {caps:List Nat} {σ:St} {j:Nat} {v:V} (h:(u9 caps σ)[j]?=some (some v)):∃ i,caps[j]?=some i/\σ[i]?=some (some v):=by
 unfold u9 at h;rw [AR] at h;cases e:caps[j]? with
 | none=>rw [e] at h;cases h
 | some i=>
  rw [e] at h;refine ⟨i,rfl,?_⟩;have h':(σ[i]?).join=some v:=AD h;cases q:σ[i]? with
  | none=>rw [q] at h';cases h'
  | some o=>rw [q] at h';exact congrArg some h'
section
variable {X:Cx} {pins:List (Addr×Obj)} {σ:St} {H:Hp} {s:Shared} {N':List Str} {k:Nat} {caps:List Nat} {scope:Scope} {fp:List Addr}
theorem lm (T:CompText X.N X.env N' k caps scope) (I:Inv X pins σ H s) (i:∀ b∈fp,U3 X pins H b) {C:Addr} (n:s.heap.objs.size<=C) (j:∀ b∈fp,b<s.heap.objs.size):(b9 X pins N' scope C fp s H).Ok:=by
 have p:∀ x∈scope.names,x.2=NameKind.free->∃ c,X.env.cells.lookup x.1=some c:=λx g q=>I.ok.has x.1 (T.free x g q).2;have f:=B6 scope.names [] p λx c e=>by simp at e
 refine ⟨I.mod,?_,I.ok.glob,I.ok.blt,n,λx y c a b=>I.ok.inj x y c (f x c a) (f y c b),λx g=>?_,λx c m=>(by cases m),I.ok.hd,I.ok.frames,.inl rfl,λb d=>⟨?_,λx c e=>(i b d).2.2.2.2.1 x c (f x c e)⟩,I.bs,?_,λb o e d=>?_,λb d l=>?_,I.stack,I.stkFree⟩
 ·exact T.kind
 ·have h:scope.names.lookup x=some .free:=by
   rcases g with g | g
   ·exact G3 g (.inl rfl) T.cell
   ·exact G3 g (.inr rfl) T.cell
  exact AX.mp (Q8 scope.names [] x (mem_of_lookup h))
 ·exact At (AA (j b d) n)
 ·exact AY I.ok.bsz I.sz
 ·rcases (i b d).2.2.2.1 with z | z
  ·exact I.ok.noex b o e z
  ·exact absurd (AA (An (I.ok.bs b o e).1) z) (BR _)
 ·rcases Ar.mp (I.stkSub b l) with z | z
  ·exact (i b d).2.1 z
  ·exact (i b d).2.2.1 z
theorem T3 (T:CompText X.N X.env N' k caps scope) (I:Inv X pins σ H s) (hf:∀ b∈fp,U3 X pins H b) (hlt:∀ b∈fp,b<s.heap.objs.size) {h':Heap} {m:Str->Option Value} {t:Nat}
  (hn:h'.Ns (s.heap.objs.size+1) m) (hk:∀ b o,s.heap.get? b=some o->h'.get? b=some o) (ha:h'.get? s.heap.objs.size=some { cls:=.type "list",data:=.seq #[] }) :
  Inv (b9 X pins N' scope (s.heap.objs.size+1) fp s H) [] (List.replicate k none++u9 caps σ) (upd H s.heap.objs.size (.lst [])) { s with heap:=h',toks:=t }:=by
 have ok:=lm T I hf (C:=s.heap.objs.size+1) (Cw _) hlt;have fr:∀ x∈scope.names,x.2=NameKind.free->∃ c,X.env.cells.lookup x.1=some c:=λx hx hk=>I.ok.has x.1 (T.free x hx hk).2;have snd:∀ x c,(Q5 X.env.cells scope.names).lookup x=some c->X.env.cells.lookup x=some c:=B6 scope.names [] fr λx c e=>by simp at e
 have nacc:H s.heap.objs.size=none:=I.hok.fresh (Aj _);have lt:∀ b u,H b=some u->b<s.heap.objs.size:=λb u e=>I.hok.lt e;refine ⟨ok,rfl,I.bare,Un.laid hk (Aj _) nacc,⟨m,hn,λi x v e1 e2 e3=>?_⟩,λx c e=>?_,?_,λx c e=>?_,λp hp=>?_,I.hok.laid hk (Aj _) ⟨AO _,[],_,.nil,ha⟩,?_⟩
 ·by_cases hi:i<k
  ·rw [Az (by simpa using hi)] at e2;simp [hi] at e2
  ·rw [Bo (by simpa using BL hi)] at e2;rw [BC] at e2;obtain ⟨j,hj,hv⟩:=iW e2;obtain ⟨y,h1,h2,h3⟩:=T.cps _ _ hj;have hik:k+(i-k)=i:=by omega
   rw [hik] at h2;have hxy:y=x:=AD (h2.symm.trans e1);subst hxy;have hvis:=(T.free (y,.free) (mem_of_lookup h3) rfl).2;obtain ⟨mX,hnX,hlX⟩:=I.loc;obtain ⟨u,r,l⟩:=hlX j y v h1 hv (by rcases hvis with z | z;exact .inr (.inl z);exact .inr (.inr z));refine ⟨u,r,?_⟩;rcases l with ⟨hk',_⟩ | ⟨_,c,hc,hcell⟩
   ·have hk'':X.env.scope.names.lookup y=some .local:=hk';rcases hvis with z | z
    ·rw [hk''] at z;cases z
    ·rw [hk''] at z;cases z
   ·obtain ⟨c',hc'⟩:=AX.mp (Q8 (cells:=X.env.cells) scope.names [] y (mem_of_lookup h3));have:c'=c:=AD ((snd y c' hc').symm.trans hc);subst this;obtain ⟨oc,ho,hd⟩:=hcell;exact .inr ⟨T9 h3,c',hc',oc,hk _ _ ho,hd⟩
 ·obtain ⟨v,oc,ho,hd⟩:=I.cell x c (snd x c e);exact ⟨v,oc,hk _ _ ho,hd⟩
 ·show upd H s.heap.objs.size (.lst []) (s.heap.objs.size+1)=none;rw [a4 (Nat.succ_ne_self _)];exact I.hok.fresh (Cw _)
 ·obtain ⟨v,oc,ho,hd⟩:=I.cell x c (snd x c e);rw [a4 (At (An ho))];exact I.freeC x c (snd x c e)
 ·have hp':p∈X.pn++pins:=by
   have:p∈(X.pn++pins)++[]:=hp;rwa [Bf] at this
  obtain ⟨e,n,ne,nf,d⟩:=I.pin p hp';refine ⟨hk _ _ e,?_,At (AV (An e)),λhb=>?_,d⟩
  ·rw [a4 (At (An e))];exact n
  ·rcases Ar.mp (I.stkSub p.1 hb) with z | z
   ·exact ne z
   ·exact nf z
 ·show _=N'.length;rw [T.len,AJ,BC];unfold u9;rw [AE]
end
def PTL (X:Cx) (ifs:List Expr) (t:TT):Prop:=
 ∀ (pins:List (Addr×Obj)) (s:Shared) (σ:St) (H:Hp) (Q:Bool->Hp->Prop),Inv X pins σ H s->t σ H Q ->
  wpAny (model X.prog X.w) X.A (forIn ifs true λc r=>if r=true then do let a <- isTrue c X.env (eval c X.env);pure (ForInStep.yield a) else pure (ForInStep.yield r)) (TP X pins σ Q) X.xe s
def tTrue:TT:=λ_ H Q=>Q true H
theorem kK:PTL X [] tTrue:=λ_ _ _ H _ I h=>by
 rw [List.forIn_nil];exact Ai ⟨H,I,h⟩
theorem jw (h:PT X c t):PTL X [c] t:=λpins s σ H Q I q=>by
 rw [List.forIn_cons];refine Af ?_;rw [if_pos rfl];refine Af (thn (h pins s σ H Q I q) λb s' ⟨H',d,a⟩=>Ai ?_);dsimp only;rw [List.forIn_nil];exact Ai ⟨H',d,a⟩
def fw (caps:List Nat) (j:TI) (h:TT) (te:TE):TE:=λσ H Q=>j σ H λJ g=>∀ a,g a=none->∃ W:Nat->Nat->List V->Hp->Prop,(∃ m,W 0 m [] (upd g a (.lst []))) /\
 ∀ i m ys c,W i m ys c->c a=some (.lst ys)/\((J.stop i c/\Q (.ref a) c)\/(J.go i c/\∀ x f,J.yld i c x f->h (some x :: u9 caps σ) f λb e=>
  if b=true then te (some x :: u9 caps σ) e λy d=>d a=some (.lst ys)/\ys.length<sizeLine/\∃ m',m'<m/\W (i+1) m' (ys++[y]) (upd d a (.lst (ys++[y])))
  else ∃ m',m'<m/\W (i+1) m' ys e))
theorem G4 {a:Type} {t:Sem a} {Q:a->Shared->Prop} {u:Sem Unit} (c:u=pure ()) (h:wpAny M A u (λ_ b=>wpAny M A t Q E b) E s):wpAny M A t Q E s:=by
 have d:=Af h;grind
theorem i2 {s:Shared} {a:Type} {t:Sem a} {Q:a->Shared->Prop} (h:wpAny M A t Q (λ_ _=>False) s):wpAny M A t Q E s:=Co h (λ_ _ q=>q) λ_ _ q=>q.elim
theorem jp {O A:Expr} {x:Str} {px:Pos} {ifs:List Expr} {a:Scope} {pos:Pos} {N':List Str} {caps:List Nat} {wi:TI} {tc:TT} {te:TE}
  (T:CompText X.N X.env N' 1 caps a) (hc:X.calm=true) (hN:N'.Nodup) (hx0:N'[0]?=some x) (hxl:a.names.lookup x=some .local) (hi:PI X (.Name x px) A wi)
  (ht:∀ pins C g s H,PTL (b9 X pins N' a C g s H) ifs tc) (he:∀ pins C g s H,PE (b9 X pins N' a C g s H) O te)
  (hs:∀ x,foldedSetIterable A X.env x=pure x:=by intro _;rfl):PE X (.ListComp O [⟨.Name x px,A,ifs,0⟩] a pos) (fw caps wi tc te):=by
 intro pins s σ H Q I h;have fr:∀ x∈a.names,x.2=NameKind.free->∃ c,X.env.cells.lookup x.1=some c:=λx hx hk=>I.ok.has x.1 (T.free x hx hk).2;rw [eval_ListComp];refine Dd rfl hs (A9 fr) T.kind T.loc ?_;refine thn (hi pins s σ H _ I h) λv s1 h1=>thn h1 λitv f h2=>?_;obtain ⟨it,g,tn,J,E,rfl,I2,G,st2,f2,h2⟩:=h2;obtain ⟨W,⟨m0,w0⟩,turn⟩:=h2 f.heap.objs.size (I2.hok.fresh (Aj _));have hlt:=λb l=>let ⟨o,e,_⟩:=G.obj _ _ st2 b l;An e
 refine AN (wpAny_newFunctionEnv T.cell (by intro y hy;simp at hy) (λh₁ m k=>?_) T.kind);have hC:(f.heap.push { cls:=.type "list",dict:=none,data:=.seq ([]:List Value).toArray }).objs.size=f.heap.objs.size+1:=Ds ..;rw [hC] at m k;have old:=λb o e=>k.extBut b o (At (AV (An e))) (Ah _ (Ah _ e));have hacc:=k.extBut _ _ (At (Bd _)) (Ah _ (Aw _ rfl));have w:=G.keep _ _ _ st2 λb _ o e=>old b o e;have I3:=T3 (t:=f.toks+([]:List (Str×Value)).length) T I2 f2 hlt m old hacc;have D:∀ {H':Hp},(∀ b∈g,H' b=none)->∀ b∈g,U3 (b9 X pins N' a (f.heap.objs.size+1) g f E) [] H' b:=λhn b l=>by
  refine ⟨hn b l,(I3.ok.exf b l).1,I3.ok.exfs b l,.inl l,(I3.ok.exf b l).2,λp hp=>?_⟩;have hp':p∈X.pn++pins:=by
   have:=hp;rwa [Bf] at this
  exact (f2 b l).2.2.2.2.2 p hp'
 have F:∀ s3:Shared,s3={ f with heap:=h₁,toks:=f.toks+([]:List (Str×Value)).length } ->
   codeAny (model X.prog X.w) X.A (.compLoop (.ListComp O [⟨.Name x px,A,ifs,0⟩] a pos) 0 (.ref it) (.ref f.heap.objs.size) (compEnvC a (Q5 X.env.cells a.names) (f.heap.objs.size+1) X.env))
    (compPost (model X.prog X.w) X.A X.xe none (EP X pins σ Q) (.ref f.heap.objs.size) (f.heap.objs.size+1)) s3:=by
  rintro s3 rfl;refine codeAny_compLoop_tests (λn s'=>∃ i ys H',Inv (b9 X pins N' a (f.heap.objs.size+1) g f E) [] (none :: u9 caps σ) H' s'/\tn i s'.heap/\(∀ b∈g,H' b=none)/\W i n ys H') ?_ m0
   ⟨0,[],_,I3,w,λb l=>by rw [a4 (At (hlt b l))];exact (f2 b l).1,w0⟩ (λ_=>rfl)
  rintro n s4 ⟨i,ys,R,I4,Y,fr4,w4⟩;obtain ⟨hacc4,P⟩:=turn i n ys R w4;refine i2 ?_;rcases P with ⟨stop,q⟩ | ⟨go,step⟩
  ·refine thn (G.done (b9 X pins N' a (f.heap.objs.size+1) g f E) rfl rfl rfl hc i [] s4 _ R (λ_ _=>False) I4 (D fr4) Y stop) λr s5 ⟨hr,V⟩=>?_;subst hr;obtain ⟨m5,hn5,_⟩:=id V.loc;refine ⟨m5,hn5,λh' hs'=>?_⟩;refine ⟨.ref f.heap.objs.size,R,?_,rfl,q⟩;refine I2.call' V.os (Un.sameBut V.base hs' (Cw _)) (V.hok.sameBut V.free hs') V.bare λb l=>?_;have:=f2 b l;exact ⟨this.2.2.2.1,this.2.1,this.2.2.2.2.1,this.2.2.2.2.2⟩
  ·refine thn (G.item (b9 X pins N' a (f.heap.objs.size+1) g f E) rfl rfl rfl hc i [] s4 _ R (λ_ _=>False) I4 (D fr4) Y go) λr s5 ⟨u,hr,h5⟩=>?_;subst hr;refine i2 (G4 rfl (thn h5 λ_ s6 ⟨xv,H6,I6,r6,y6,L,fr6⟩=>?_));have I6':=I6.pinned (D fr6) (G.obj _ _ L);refine thn (M4 (X:=b9 X pins N' a (f.heap.objs.size+1) g f E) hN hx0 (.inl (BI hxl)) (.inr (BI hxl)) _ s6 _ H6 xv u (λσ2 R=>σ2=some xv :: u9 caps σ/\R=H6) I6' r6 ⟨rfl,rfl⟩) λ_ s7 ⟨σ7,H7,I7,e7,e7'⟩=>?_;subst e7 e7';have B:∀ {σ8:St} {S:Hp} {s8:Shared},Inv (b9 X pins N' a (f.heap.objs.size+1) g f E) ([]++v5 g s6.heap) σ8 S s8->tn (i+1) s8.heap/\∀ b∈g,S b=none:=λ{σ8 S s8} N=>by
    refine ⟨G.keep _ _ _ L λb l o e=>(N.pin (b,o) (AC _ (AC _ (j5 l e)))).1,λb l=>?_⟩;obtain ⟨o,e,d⟩:=G.obj _ _ L b l;exact (N.pin (b,o) (AC _ (AC _ (j5 l e)))).2.1
   refine i2 (thn (ht pins _ g f E _ s7 _ _ _ I7 (step xv _ y6)) λb s8 ⟨S,N,q8⟩=>?_);have wk:∀ {U:Hp} {s9:Shared},Inv (b9 X pins N' a (f.heap.objs.size+1) g f E) ([]++v5 g s6.heap) (some xv :: u9 caps σ) U s9->Inv (b9 X pins N' a (f.heap.objs.size+1) g f E) [] (none :: u9 caps σ) U s9:=λ{U s9} I9=>
    I9.unpinned.weak rfl λj v e=>by
     cases j with
     | zero=>simp at e
     | succ j=>simpa using e
   cases b with
   | false=>
    obtain ⟨m',hm,w'⟩:=q8;exact ⟨m',hm,i+1,ys,S,wk N,(B N).1,(B N).2,w'⟩
   | true=>
    refine i2 (thn (he pins _ g f E _ s8 _ S _ N q8) λz s9 ⟨y,U,I9,r9,M,hl9,m',hm,w'⟩=>?_);refine i2 (thn (I0 _ s9 _ U (.ref f.heap.objs.size) [y] (.ref f.heap.objs.size) [z] (λ_ H'=>H'=upd U f.heap.objs.size (.lst (ys++[y]))) I9 rfl (.cons r9 .nil) ⟨_,ys,y,rfl,rfl,M,hl9,rfl⟩) λ_ s10 ⟨_,H10,K,_,e10⟩=>?_);subst e10;exact ⟨m',hm,i+1,ys++[y],_,wk K,(B K).1,(B K).2,w'⟩
 have Z:=codeAny_compStart_list (F _ rfl) (G.self _ 0 _ _ _ w (F _ rfl));rw [<- hC] at Z;exact Z
theorem cZ {K w:Expr} {x:Str} {px:Pos} {y:Str} {py N:Pos} {iy:Nat} {ifs:List Expr} {f:Scope} {pos:Pos} {N':List Str} {caps:List Nat} {wi:TI} {tc:TT} {te:TE}
  (hsw:swapsWith (.ListComp K [⟨.Name x px,w,ifs,0⟩] f pos) (some (.Name y py)) N.line X.env=pure true) (hNX:X.N.Nodup) (hiy:X.N[iy]?=some y) (hy:Loc X.env.scope y) (hf:X.fn y=true\/X.env.scope.names.lookup y=some .local)
  (T:CompText X.N X.env N' 1 caps f) (hc:X.calm=true) (hN:N'.Nodup) (hx0:N'[0]?=some x) (hxl:f.names.lookup x=some .local) (hi:PI X (.Name x px) w wi)
  (ht:∀ pins C l s H,PTL (b9 X pins N' f C l s H) ifs tc) (he:∀ pins C l s H,PE (b9 X pins N' f C l s H) K te)
  (hs:∀ x,foldedSetIterable w X.env x=pure x:=by intro _;rfl):PS X (.Assign [.Name y py] (.ListComp K [⟨.Name x px,w,ifs,0⟩] f pos) N) (kA (fw caps wi tc te) (dq iy)):=by
 intro pins s σ H D I h;have fr:∀ x∈f.names,x.2=NameKind.free->∃ c,X.env.cells.lookup x.1=some c:=λx hx hk=>I.ok.has x.1 (T.free x hx hk).2;rw [exec_Assign_Name_used _ _ _ _ hsw];refine Af (Du (Af ?_));refine Af (Co (Dd rfl hs (A9 fr) T.kind T.loc ?_) (λ_ s' hq=>Ai (Ai hq)) λ_ _ e=>e);refine thn (hi pins s σ H _ I h) λv s1 h1=>thn h1 λitv g h2=>?_;obtain ⟨it,l,tn,J,G,rfl,O,M,st2,f2,h2⟩:=h2;obtain ⟨W,⟨m0,w0⟩,turn⟩:=h2 g.heap.objs.size (O.hok.fresh (Aj _));have hlt:=λb k=>let ⟨o,e,_⟩:=M.obj _ _ st2 b k;An e
 refine AN (wpAny_newFunctionEnv T.cell (by intro y hy;simp at hy) (λh₁ A m=>?_) T.kind);have hC:(g.heap.push { cls:=.type "list",dict:=none,data:=.seq ([]:List Value).toArray }).objs.size=g.heap.objs.size+1:=Ds ..;rw [hC] at A m;have old:=λb o e=>m.extBut b o (At (AV (An e))) (Ah _ (Ah _ e));have hacc:=m.extBut _ _ (At (Bd _)) (Ah _ (Aw _ rfl));have E:=M.keep _ _ _ st2 λb _ o e=>old b o e;have I3:=T3 (t:=g.toks+([]:List (Str×Value)).length) T O f2 hlt A old hacc;have F:∀ {H':Hp},(∀ b∈l,H' b=none)->∀ b∈l,U3 (b9 X pins N' f (g.heap.objs.size+1) l g G) [] H' b:=λhn b k=>by
  refine ⟨hn b k,(I3.ok.exf b k).1,I3.ok.exfs b k,.inl k,(I3.ok.exf b k).2,λp hp=>?_⟩;have hp':p∈X.pn++pins:=by
   have:=hp;rwa [Bf] at this
  exact (f2 b k).2.2.2.2.2 p hp'
 have L:∀ s3:Shared,s3={ g with heap:=h₁,toks:=g.toks+([]:List (Str×Value)).length } ->
   codeAny (model X.prog X.w) X.A (.compLoop (.ListComp K [⟨.Name x px,w,ifs,0⟩] f pos) 0 (.ref it) (.ref g.heap.objs.size) (compEnvC f (Q5 X.env.cells f.names) (g.heap.objs.size+1) X.env))
    (compPost (model X.prog X.w) X.A X.xe (some (assign (.Name y py) X.env)) (λ_ s'=>SP X pins D .next s') (.ref g.heap.objs.size) (g.heap.objs.size+1)) s3:=by
  rintro s3 rfl;refine codeAny_compLoop_tests (λn s'=>∃ i ys H',Inv (b9 X pins N' f (g.heap.objs.size+1) l g G) [] (none :: u9 caps σ) H' s'/\tn i s'.heap/\(∀ b∈l,H' b=none)/\W i n ys H') ?_ m0
   ⟨0,[],_,I3,E,λb k=>by rw [a4 (At (hlt b k))];exact (f2 b k).1,w0⟩ (λ_=>rfl)
  rintro n s4 ⟨i,ys,Z,I4,st4,fr4,w4⟩;obtain ⟨hacc4,S⟩:=turn i n ys Z w4;refine i2 ?_;rcases S with ⟨stop,q⟩ | ⟨go,step⟩
  ·refine thn (M.done (b9 X pins N' f (g.heap.objs.size+1) l g G) rfl rfl rfl hc i [] s4 _ Z (λ_ _=>False) I4 (F fr4) st4 stop) λr s5 ⟨hr,V⟩=>?_;subst hr;obtain ⟨m5,hn5,_⟩:=id V.loc;have IX:=O.call' V.os V.base V.hok V.bare λb k=>by
    have:=f2 b k;exact ⟨this.2.2.2.1,this.2.1,this.2.2.2.2.1,this.2.2.2.2.2⟩
   have C0:g.heap.objs.size<=g.heap.objs.size+1:=Cw _;have cC:∀ z c,X.env.cells.lookup z=some c->c≠g.heap.objs.size+1:=λz c e=>by
    obtain ⟨v,oc,ho,_⟩:=O.cell z c e;exact At (AV (An ho))
   have lC:=At (AV O.lt);refine wpAny_assign_Name (V5 (v:=.ref g.heap.objs.size) IX hNX hiy hy rfl (λs6 I6 ⟨a,sb,ha⟩=>?_) hf);have aC:g.heap.objs.size+1≠a:=λz=>by
    rcases ha with ha | ha
    ·grind
    ·exact cC _ _ ha z.symm
   refine ⟨m5,hn5.sameBut sb aC,λh' hs'=>?_⟩;refine ⟨_,Z,I6.turned (λb o k e=>hs'.extBut b o k e) V.free lC.symm (.inr (AY O.sz C0)) cC (λp hp=>?_),q⟩;exact At (AV (An (O.pin p hp).1))
  ·refine thn (M.item (b9 X pins N' f (g.heap.objs.size+1) l g G) rfl rfl rfl hc i [] s4 _ Z (λ_ _=>False) I4 (F fr4) st4 go) λr s5 ⟨u,hr,h5⟩=>?_;subst hr;refine i2 (G4 rfl (thn h5 λ_ s6 ⟨xv,H6,I6,r6,y6,U,fr6⟩=>?_));have I6':=I6.pinned (F fr6) (M.obj _ _ U);refine thn (M4 (X:=b9 X pins N' f (g.heap.objs.size+1) l g G) hN hx0 (.inl (BI hxl)) (.inr (BI hxl)) _ s6 _ H6 xv u (λσ2 Z=>σ2=some xv :: u9 caps σ/\Z=H6) I6' r6 ⟨rfl,rfl⟩) λ_ s7 ⟨σ7,H7,I7,e7,e7'⟩=>?_;subst e7 e7';have B:∀ {σ8:St} {Y:Hp} {s8:Shared},Inv (b9 X pins N' f (g.heap.objs.size+1) l g G) ([]++v5 l s6.heap) σ8 Y s8->tn (i+1) s8.heap/\∀ b∈l,Y b=none:=λ{σ8 Y s8} Q=>by
    refine ⟨M.keep _ _ _ U λb k o e=>(Q.pin (b,o) (AC _ (AC _ (j5 k e)))).1,λb k=>?_⟩;obtain ⟨o,e,d⟩:=M.obj _ _ U b k;exact (Q.pin (b,o) (AC _ (AC _ (j5 k e)))).2.1
   refine i2 (thn (ht pins _ l g G _ s7 _ _ _ I7 (step xv _ y6)) λb s8 ⟨Y,Q,q8⟩=>?_);have wk:∀ {H9:Hp} {s9:Shared},Inv (b9 X pins N' f (g.heap.objs.size+1) l g G) ([]++v5 l s6.heap) (some xv :: u9 caps σ) H9 s9->Inv (b9 X pins N' f (g.heap.objs.size+1) l g G) [] (none :: u9 caps σ) H9 s9:=λ{H9 s9} I9=>
    I9.unpinned.weak rfl λj v e=>by
     cases j with
     | zero=>simp at e
     | succ j=>simpa using e
   cases b with
   | false=>
    obtain ⟨m',hm,w'⟩:=q8;exact ⟨m',hm,i+1,ys,Y,wk Q,(B Q).1,(B Q).2,w'⟩
   | true=>
    refine i2 (thn (he pins _ l g G _ s8 _ Y _ Q q8) λz s9 ⟨y,H9,I9,r9,P,hl9,m',hm,w'⟩=>?_);refine i2 (thn (I0 _ s9 _ H9 (.ref g.heap.objs.size) [y] (.ref g.heap.objs.size) [z] (λ_ H'=>H'=upd H9 g.heap.objs.size (.lst (ys++[y]))) I9 rfl (.cons r9 .nil) ⟨_,ys,y,rfl,rfl,P,hl9,rfl⟩) λ_ s10 ⟨_,H10,R,_,e10⟩=>?_);subst e10;exact ⟨m',hm,i+1,ys++[y],_,wk R,(B R).1,(B R).2,w'⟩
 have fin:=codeAny_compStart_list (L _ rfl) (M.self _ 0 _ _ _ E (L _ rfl));rw [<- hC] at fin;exact fin
mutual
inductive DAt (K:PySem.W.Frag) (H:Hp):V->PyData->Prop where
 | non:DAt K H .non .none
 | bl (b:Bool):DAt K H (.bl b) (.bool b)
 | int (i:Int):DAt K H (.int i) (.int i)
 | str (x:Str):DAt K H (.str x) (.str x)
 | lst {a:Addr} {xs:List V} {ds:List PyData}:SqL K H a xs->DAll K H xs ds->DAt K H (.ref a) (.list ds)
 | tup {a:Addr} {xs:List V} {ds:List PyData}:SqT K H a xs->DAll K H xs ds->DAt K H (.ref a) (.tuple ds)
inductive DAll (K:PySem.W.Frag) (H:Hp):List V->List PyData->Prop where
 | nil:DAll K H [] []
 | cons {x:V} {d:PyData} {xs:List V} {ds:List PyData}:DAt K H x d->DAll K H xs ds->DAll K H (x :: xs) (d :: ds)
end
section
variable {X:Cx} {pins:List (Addr×Obj)} {σ:St} {H:Hp} {s:Shared}
mutual
theorem DAt.reads (I:Inv X pins σ H s):∀ {v:V} {d:PyData},DAt X.K H v d->∀ {u:Value},RelV v u->∃ a,Reads s.heap u d a
 | _,_,.non,u,r=>by cases (show u=Value.none from r);exact ⟨_,.none⟩
 | _,_,.bl b,u,r=>by cases (show u=Value.bool b from r);exact ⟨_,.bool b⟩
 | _,_,.int i,u,r=>by obtain ⟨t,e⟩:=(r);subst e;exact ⟨_,.int i t⟩
 | _,_,.str x,u,r=>by obtain ⟨t,e⟩:=(r);subst e;exact ⟨_,.str x t⟩
 | _,_,.lst h q,u,r=>by
  cases (r);obtain ⟨f,c,⟨o,n,g,j,m,l⟩,_⟩:=I.list h;obtain ⟨a,k⟩:=DAll.reads I q c;exact ⟨_,.list g j l k⟩
 | _,_,.tup h q,u,r=>by
  cases (r);obtain ⟨f,c,⟨o,g,j,n,l⟩,_⟩:=I.tuple h;obtain ⟨a,k⟩:=DAll.reads I q c;exact ⟨_,.tuple g j l k⟩
theorem DAll.reads (I:Inv X pins σ H s):∀ {vs:List V} {ds:List PyData},DAll X.K H vs ds->∀ {us:List Value},Vals vs us->∃ as,ReadsAll s.heap us ds as
 | _,_,.nil,us,r=>by cases r;exact ⟨_,.nil⟩
 | _,_,.cons h q,us,r=>by
  cases r with
  | cons r1 r2=>
   obtain ⟨as,h1⟩:=DAt.reads I h r1;obtain ⟨bs,h2⟩:=DAll.reads I q r2;exact ⟨_,.cons h1 h2⟩
end
structure Shows (d:PyData):Prop where
 sh:d.showable=true
 nd:d.hasDict=false
 dp:d.depth<=60
 sz:d.shown.length<=sizeLine
theorem eZ (hg:X.A.guards=some []) (hu:X.A.units+64<cLine):e8 X (.builtin "repr") (λxs H Q=>∃ v d,xs=[v]/\DAt X.K H v d/\Shows d/\Q (.str d.shown) H):=by
 intro pins s σ H xs us Q I r h;obtain ⟨v,d,rfl,hd,S,q⟩:=h;obtain ⟨u,rfl,ru⟩:=v6 r;have sh:=S.sh;have sz:=S.sz;cases hd with
 | non=>cases (ru);exact PySem.P.repr_of_none ⟨.str (PyData.shown .none),H,I.tok _,⟨_,rfl⟩,q⟩
 | bl b=>cases (ru);exact PySem.P.repr_of_bool ⟨.str (PyData.shown (.bool b)),H,I.tok _,⟨_,rfl⟩,q⟩
 | int i=>obtain ⟨t,e⟩:=(ru);subst e;exact PySem.P.repr_of_int (by simpa [PyData.showable] using sh) ⟨.str (PyData.shown (.int i)),H,I.tok _,⟨_,rfl⟩,q⟩
 | str x=>obtain ⟨t,e⟩:=(ru);subst e;exact PySem.P.repr_of_str ⟨.str (PyData.shown (.str x)),H,I.tok _,⟨_,rfl⟩,q⟩ sz
 | lst h1 h2=>
  obtain ⟨as,rr⟩:=DAt.reads I (.lst h1 h2) ru;obtain ⟨a,rfl⟩:=isRef_of_reads rr rfl;exact repr_of_reads' rr sh (PyData.noDict_hsm S.nd) hg (by have:=S.dp;omega) (λ_ _ e=>e) (λh' u tk hk=>⟨.str (PyData.shown _),H,I.kept hk,⟨_,rfl⟩,q⟩) sz
 | tup h1 h2=>
  obtain ⟨as,rr⟩:=DAt.reads I (.tup h1 h2) ru;obtain ⟨a,rfl⟩:=isRef_of_reads rr rfl;exact repr_of_reads' rr sh (PyData.noDict_hsm S.nd) hg (by have:=S.dp;omega) (λ_ _ e=>e) (λh' u tk hk=>⟨.str (PyData.shown _),H,I.kept hk,⟨_,rfl⟩,q⟩) sz
end
def tY (K:PySem.W.Frag) (a:Bool):R2:=λx y H Q=>∃ d e,DAt K H x d/\DAt K H y e/\d.canLay0=true/\e.canLay0=true/\min d.depth e.depth<=60/\Q (.bl (if a then !PyData.eqv d e else PyData.eqv d e)) H
section
variable {X:Cx}
theorem na (k:X.A.units+64<cLine):OpR X (compareOp .Eq) (tY X.K false):=by
 intro pins s σ H x y v u Q I i c h;obtain ⟨d,e,hd,a,b,f,m,q⟩:=h;obtain ⟨l,g⟩:=hd.reads I i;obtain ⟨n,j⟩:=a.reads I c;exact SeqAt.compareEq_reads g j b f (by omega) ⟨.bl (PyData.eqv d e),H,I,rfl,q⟩
theorem oJ (k:X.A.units+64<cLine):OpR X (compareOp .NotEq) (tY X.K true):=by
 intro pins s σ H x y v u Q I i c h;obtain ⟨d,e,hd,a,b,f,m,q⟩:=h;obtain ⟨l,g⟩:=hd.reads I i;obtain ⟨n,j⟩:=a.reads I c;exact SeqAt.compareNe_reads g j b f (by omega) ⟨.bl (!PyData.eqv d e),H,I,rfl,q⟩
end
end L2
namespace L2
open PySem PySem.W PySem.Calls PyProof.Rows
def bA (K:Frag) (C:Addr):Bool:=match K.lookup C with
 | some ⟨c,_,.cls a,b⟩=>c==.type "type" && !a.hasDel&&a.hasDict&&(b.toList[4]?).join==some (.builtin "ValueError.__new__")&&!a.mro.isEmpty&&a.mro.contains (.ref C)&&a.mro.contains (.type "ValueError")&&a.mro.contains (.type "BaseException") &&
   !a.mro.contains (.type "AttributeError")&&!a.mro.contains (.type "NameError")&&specialIn K (.ref C) "__call__" == some (some (.builtin "type.__call__"))&&instIn K (.ref C) (.type "type")==some true
 | _=>false
end L2
namespace L2
open PySem PySem.W PySem.Calls PyProof.Rows Builtin Builtin.ObjectAttr
theorem hW:builtinKind "BaseException.__getattribute__" = some .slot:=by decide +kernel
theorem fF:splitId "BaseException.__getattribute__" = some ("BaseException","__getattribute__"):=by decide +kernel
theorem fB:plainId "BaseException.__getattribute__" = true:=by decide +kernel
section
variable {prog:Program} {w:World} {A:Around} {R:Result->Shared->Prop} {s:Shared} {x:Addr} {name:Str} {t:Tok}
theorem iM (c:Looks (model prog w) s.heap (isInstance (.ref x) (.type "BaseException")) true)
  (h:wpAny (model prog w) A.in1 (Builtin.«object.__getattribute__» ⟨[.ref x,.str name t],[]⟩) (λa s'=>match a with | .done f=>R (.ok f) s' | .again b=>b.quiet=true/\codeAny (model prog w) A b R s') (λe s'=>R (.error e) s') s) :
  codeAny (model prog w) A (.call (.builtin "BaseException.__getattribute__") ⟨[.ref x,.str name t],[]⟩) R s:=
 codeAny_call_builtin fB PySem.F.entry_bexc_ga (@check_slot (model prog w) _ _ _ "BaseException.__getattribute__" "BaseException" "__getattribute__" (.ref x) [.str name t] [] _ hW fF c (PySem.F.args_bexc_ga (.ref x) (.str name t)) h)
end
section
variable {prog:Program} {w:World} {A:Around} {E:Value->Shared->Prop} {s:Shared} {K:Frag} {x C:Addr} {ox:Obj} {od:Option Obj} {name:Str} {expr:Bool} {Q:Value->Shared->Prop}
structure XCls (K:Frag) (C:Addr):Prop where
 ga:findIn K (.ref C) "__getattribute__" = some (some (.builtin "BaseException.__getattribute__"))
 gg:findIn K (.ref C) "__getattr__" = some none
 be:mroIn K C (.type "BaseException")=some true
 ob:mroIn K C (.type "object")=some true
 hd:hasDictIn K C=true
 cl:findIn K (.ref C) "__class__" = some (some (.builtin "object.__class__"))
 cg:specialIn K (.builtin "object.__class__") "__get__" = some (some (.builtin "getset_descriptor.__get__"))
 ct:takesIn K (.builtin "object.__class__")=some true
theorem oV {b:Bool} {t:Tok} (X:K.In s.heap) (I:InstAt s.heap x ox C od) (c:XCls K C)
  (h:wpAny (model prog w) A.in1 (Builtin.«object.__getattribute__» ⟨[.ref x,.str name t],[]⟩) (λa s'=>match a with | .done (.ret v)=>wpAny (model prog w) A (handedOut v) Q E s' | _=>False) (λ_ _=>False) s) :
  wpAny (model prog w) A (getAttrBy (.ref x) (.str name t) b expr) Q E s:=by
 obtain ⟨l,g,d,p,n⟩:=s;have f:=I.type (M:=model prog w);have j:=looks_findIn (M:=model prog w) X c.ga;have o:=looks_findIn (M:=model prog w) X c.gg;have i:Looks (model prog w) l (isInstance (.ref x) (.type "BaseException")) true:=f.andThen (looks_mroIn X c.be);have k:=(PySem.F.attrBase_ValueError).ga.bind (.ref x);have e:(expr&&onTheHeap (Value.builtin "BaseException.__getattribute__"))=false:=by cases expr <;> rfl
 have m:(Value.builtin "BaseException.__getattribute__" == Value.builtin "object.__getattribute__")=false:=by decide +kernel
 refine AM (Af (f.at (Af (j.at ?_))))
 repeat (first | simp | lk)
 refine wpAny_attempt (AM ?_);unfold callGetattribute;rw [e];refine Af (wpAny_of_eq k ?_);refine Dx (iM i ?_);refine Co h (λa s' z=>?_) λ_ _ z=>z.elim;rcases a with (v | _ | _ | _) | _ <;> first | exact z | exact z.elim
theorem bS (a:XCls K C):findObj K C od "__class__" = some (.bind (.builtin "getset_descriptor.__get__") (.builtin "object.__class__")):=by
 obtain ⟨c,b,_⟩:=any_some a.hd;unfold findObj;rw [b,Ct,a.cl,Ct];dsimp only;rw [a.cg,Ct];dsimp only;rw [a.ct];rfl
theorem oS (X:K.In s.heap) (I:InstAt s.heap x ox C od) (a:XCls K C) (h:R (some (.ref C)) { s with toks:=s.toks+1 }):wpAny (model prog w) A (getAttr? (.ref x) "__class__") R E s:=by
 have e:=bS (od:=od) a;obtain ⟨i,g,d,t,f⟩:=s;have b:=I.type (M:=model prog w);have c:=looks_find (M:=model prog w) X I e;refine Af (wpAny_mkText (Af (wpAny_attempt (oV X I a ?_))));refine Af (Ai (Af (Ai (Af (b.at (Af (c.at ?_)))))));refine Af (AM (Dx (class_get X I a.ob ?_)));refine Ai ?_;exact handed_on rfl (Ai h)
theorem vk (c:XCls K C):KitX K (.ref x) (.ref C) (λh=>∃ ox od,InstAt h x ox C od) where
 ty:=λ_ _ _ ⟨_,_,I⟩=>I.type
 it:=λ_ _ X _=>by
  obtain ⟨j,a,_⟩:=any_some c.hd;unfold clsIn at a;split at a
  ·rename_i m e d g f;exact λo r s s' k q=>by
    exact Af (wpAny_loadPart (k _ _ (X _ _ f)) (Ai q))
  ·cases a
 ne:=λh l p i n g X b=>by
  obtain ⟨j,a,_⟩:=any_some c.hd;refine BF.mpr λq=>?_;obtain rfl:C=l:=Value.ref.inj (beq_iff_eq.mp q);unfold clsIn at a;split at a
  ·rename_i m e d g f;have z:=(X _ _ f).symm.trans b;cases z
  ·cases a
 ca:=λX ⟨_,_,I⟩ k=>oS X I c k
end
def N9:List Value->Bool
 | .ref _ :: r=>N9 r
 | l=>l==[.type "ValueError",.type "Exception",.type "BaseException",.type "object"]
section
variable {prog:Program} {w:World} {A:Around} {E:Value->Shared->Prop} {s:Shared} {K:Frag} {x C:Addr} {ox:Obj} {od:Option Obj} {name:Str} {R:Result->Shared->Prop} {v:Value}
def tbV:Option Addr->Value
 | none=>.none
 | some T=>.ref T
def IsX (a:Option Addr) (h:Heap) (x C:Addr) (d:Option Addr):Prop:=∃ vs,h.get? x=some { cls:=.ref C,dict:=d,data:=.fields vs }/\vs.size=6/\vs[1]?=some (tbV a)
theorem IsX.inst0 (i:IsX fr h x C none):∃ ox,InstAt h x ox C none:=by
 obtain ⟨vs,e,_⟩:=i;exact ⟨_,e,rfl,rfl,True.intro⟩
theorem IsX.inst1 (i:IsX fr h x C (some d)) {o:Obj} (hd:h.get? d=some o):∃ ox,InstAt h x ox C (some o):=by
 obtain ⟨vs,e,_⟩:=i;exact ⟨_,e,rfl,rfl,hd⟩
end
end L2
namespace L2
open PySem PySem.Spec PyProof.Rows
def G6 (a:Option Addr) (x C:Addr) (d:Option Addr):HO:=.ext λh=>IsX a h x C d
abbrev kE (x C:Addr) (d:Option Addr):HO:=G6 none x C d
def bO (d:Addr) (fs:List (Str×V)):HO:=.ext λh=>∃ mA,h.Ns1 d mA/\(∀ f,RelO (fs.lookup f) (mA f))/\PySem.Within mA (fs.map (·.1))/\fs.length<=900
theorem okX {h:Heap} {x C:Addr} {d:Option Addr} (i:IsX fr h x C d):ObjOk P w H h x (G6 fr x C d):=by
 obtain ⟨vs,e,z⟩:=id i;refine ⟨i,⟨_,e⟩,λf g ⟨a,c,b⟩ k=>⟨a,k _ c,b⟩⟩
structure XC (K:PySem.W.Frag) (C:Addr):Prop where
 xc:XCls K C
 ex:bA K C=true
 vm:(PySem.W.clsIn K C).any (λcd=>N9 cd.mro)=true
 sa:PySem.W.findIn K (.ref C) "__setattr__" = some (some (.builtin "object.__setattr__"))
 kp:PySem.W.keepIn K (.ref C)=true
section
variable {X:Cx} {pins:List (Addr×Obj)} {σ:St} {H:Hp} {s:Shared} {x C:Addr}
theorem Inv.isX {a:Option Addr} {d:Option Addr} (I:Inv X pins σ H s) (e:H x=some (G6 a x C d)):IsX a s.heap x C d:=(I.hok x _ e).1
theorem Inv.isD (I:Inv X pins σ H s) (e:H d=some (bO d fs)):∃ mA,s.heap.Ns1 d mA/\(∀ f,RelO (fs.lookup f) (mA f))/\PySem.Within mA (fs.map (·.1))/\fs.length<=900:=(I.hok d _ e).1
end
theorem pf {o:HO} (h:H x=some o):upd H x o=H:=funext λb=>by
 by_cases e:b=x
 ·subst e;rw [b4,h]
 ·rw [a4 e]
section
variable {X:Cx} {o e value:Expr} {f:Str} {pos pos':Pos} {ta tv:TE}
def sg:V->Option Value
 | .ref a=>some (.ref a)
 | .ty n=>some (.type n)
 | _=>none
theorem V2:e8 X (.builtin "isinstance") (λxs H Q=>∃ g x C d y c b,xs=[.ref x,y]/\XC X.K C/\H x=some (G6 g x C d)/\(∀ d',d=some d'->∃ fs,H d'=some (bO d' fs))/\sg y=some c/\PySem.W.kitOne X.K (.ref C) c=some b/\Q (.bl b) H):=by
 intro pins s σ H xs us Q I r h;obtain ⟨g,x,C,d,y,c,b,rfl,M,f,hd,i,o,q⟩:=h;obtain ⟨u,k,rfl,l,e⟩:=jJ r;cases (l);have m:k=c:=by
  cases y <;> first | (cases i;exact e) | cases i
 subst m;have J:∃ ox od,PySem.W.InstAt s.heap x ox C od:=by
  cases d with
  | none=>obtain ⟨ox,J⟩:=(I.isX f).inst0;exact ⟨ox,_,J⟩
  | some d'=>
   obtain ⟨fs,n⟩:=hd d' rfl;obtain ⟨mA,j,_⟩:=I.isD n;obtain ⟨od,a,_⟩:=fO j;obtain ⟨ox,J⟩:=(I.isX f).inst1 a;exact ⟨ox,_,J⟩
 exact Bg (vk M.xc) I.kIn J o (λz=>nomatch z) λp=>⟨.bl b,H,I.tok _,rfl,q⟩
end
def TbO (T:Addr):HO:=.ext λh=>∃ o a,h.get? T=some o/\o.data=.fields a/\3<a.size
theorem okT {o:Obj} {a:Array Value} (e:h.get? T=some o) (d:o.data=.fields a) (z:3<a.size):ObjOk P w H h T (TbO T):=
 ⟨⟨o,a,e,d,z⟩,⟨o,e⟩,λc b ⟨o,a,e,d,z⟩ k=>⟨o,a,k _ e,d,z⟩⟩
structure Fx (K:PySem.W.Frag) (H:Hp) (a C:Addr) (d tb:Option Addr):Prop where
 xc:XC K C
 at_:H a=some (G6 tb a C d)
 dc:∀ d',d=some d'->d'≠a/\∃ fs,H d'=some (bO d' fs)
 tb_:∀ T,tb=some T->T≠a/\H T=some (TbO T)
def Mv (H:Hp) (a C:Addr) (d:Option Addr) (H':Hp):Prop:=(∀ b o,b≠a->H b=some o->H' b=some o)/\∃ c,H' a=some (G6 c a C d)
section
variable {X:Cx} {pins:List (Addr×Obj)} {σ:St} {H:Hp} {s:Shared} {a C T:Addr} {d tb:Option Addr} {A:Around} {E:Value->Shared->Prop} {Q:Unit->Shared->Prop}
theorem Inv.slots (I:Inv X pins σ H s) (hs:Heap.SlotsOnly (frs X.stack) s.heap h'):Inv X pins σ H { s with heap:=h' }:=by
 have k:∀ b u,H b≠none->s.heap.get? b=some u->h'.get? b=some u:=λb u n e=>(hs.2.1 b λz=>n (I.stkFree b z)).trans e;have f:Un (frs X.stack) [] H H s.heap h':=⟨λb o e _ g _=>(hs.2.1 b g).trans e,λb o e _ _ _=>hs.2.2 b o e,λ_ _ _ n _=>n,λb o e _=>let ⟨h,q⟩:=hs.2.2 b o e;⟨_,q⟩,λ_ _ e=>e,λ_ _ _ e=>e,λb ps e=>⟨#[],by rw [e];simp⟩⟩;have d:=λb u e=>(I.hok b u e).stay (λc v a q=>k c v (by
  rcases a with a | a
  ·rw [a,e];simp
  ·rw [a];simp) q) (λ_ q=>q) λ_ _ q=>q
 exact I.call f d I.bare λb z=>absurd z (by simp)
theorem Fx.isX (b:Fx X.K H a C d tb) (I:Inv X pins σ H s):IsX tb s.heap a C d:=I.isX b.at_
theorem Inv.setTb (I:Inv X pins σ H s) (e:H T=some (TbO T)) (k:Inv X pins σ H { s with heap:=s.heap.update T (Obj.mapFields (·.setIfInBounds 3 v)) }->Q () { s with heap:=s.heap.update T (Obj.mapFields (·.setIfInBounds 3 v)) }) :
  wpAny (model X.prog X.w) A (setField (.ref T) 3 v) Q E s:=by
 obtain ⟨o,g,c,f,z⟩:=(I.hok T _ e).1;refine wpAny_setField c f z (k ?_);have hd:=Obj.data_mapFields f (·.setIfInBounds 3 v);have d:=Cj (Obj.mapFields (·.setIfInBounds 3 v)) c (Obj.isFreed_of_fields hd);have a:=I.write (t':=s.toks) (by rw [e];exact True.intro) (.inl rfl) (λb u n q=>(By _ _ (Ne.symm n)).trans q) ⟨_,d⟩ (okT d hd (by simpa using z));rw [pf e] at a;exact a
theorem bh (I:Inv X pins σ H s) (r:A.frames=some X.stack) (i:X.stack=X.env :: X.outer) (x:X.env.frame=some X.env.locals) (j:Fx X.K H a C d tb)
  (h:∀ H' s' T,Inv X pins σ H' s'->Fx X.K H' a C d (some T)->Mv H a C d H'->Q () s') :
  wpAny (model X.prog X.w) A (do let B <- frameOf X.env;let pl <- entryPlaceOf X.env.locals hadNext;let b <- EntryCells.newEntry head B .none (rawInt X.env.locals) .none pl;setField (.ref a) 1 b) Q E s:=by
 have p:=I.stack;rw [i] at p r;refine Af (wpAny_frameOf_fun r p x λc e=>?_);have v:=I.slots (by rw [i];exact e);refine Af (wpAny_entryPlaceOf λpl l=>?_);refine Af (AN ?_ (l.sizeOk5 _ _ _ _ _));have D:=Aw c (o:={ cls:=.type "traceback",dict:=none,data:=.fields ([head,.ref X.env.locals,.none,rawInt X.env.locals,.none]++(if pl.isEmpty then List.replicate 6 Value.none else pl)).toArray }) rfl;have m:=v.laid (t':=s.toks) (λb u q=>Ah _ q) (Aj _)
  (okT D rfl (by simp <;> omega))
 have k:=v.hok.fresh (Aj _);have f:c.objs.size≠a:=λz=>by rw [z,j.at_] at k;cases k
 have t:upd H c.objs.size (TbO c.objs.size) a=some (G6 tb a C d):=by rw [a4 f.symm];exact j.at_
 generalize (c.push { cls:=.type "traceback",dict:=none,data:=.fields ([head,.ref X.env.locals,.none,rawInt X.env.locals,.none]++(if pl.isEmpty then List.replicate 6 Value.none else pl)).toArray })=h₂ at m ⊢;obtain ⟨vs,g,hsz,F⟩:=m.isX t;refine wpAny_setField g rfl (by omega) ?_;have w:=Cj (Obj.mapFields (·.setIfInBounds 1 (Value.ref c.objs.size))) g rfl;have y:=m.write (t':=s.toks) (o:=G6 (some c.objs.size) a C d) (by rw [t];exact True.intro) (.inl rfl)
  (λb u n q=>(By _ _ (Ne.symm n)).trans q) ⟨_,w⟩ (okX ⟨_,w,by simpa using hsz,by simp [tbV,hsz]⟩)
 refine h _ _ c.objs.size y ⟨j.xc,b4,λd' z=>?_,λT z=>?_⟩ ⟨λb o n q=>?_,_,b4⟩
 ·obtain ⟨n,fs,q⟩:=j.dc d' z;exact ⟨n,fs,by rw [a4 n,a4 (a8 q k)];exact q⟩
 ·cases z;exact ⟨f,by rw [a4 f];exact b4⟩
 ·rw [a4 n,a4 (a8 q k)];exact q
theorem lb (I:Inv X pins σ H s) (i:A.frames=some X.stack) (f:X.stack=X.env :: X.outer) (g:X.env.frame=some X.env.locals) (c:Fx X.K H a C d tb)
  (h:∀ H' s' T,Inv X pins σ H' s'->Fx X.K H' a C d (some T)->Mv H a C d H'->Q () s'):wpAny (model X.prog X.w) A (noteFrame (.ref a) X.env) Q E s:=by
 obtain ⟨vs,e,hsz,j⟩:=c.isX I;unfold noteFrame;simp only [g];cases tb with
 | none=>
  refine Af (Bq e rfl j ?_);rw [if_neg (by decide)];exact bh I i f g c h
 | some T=>
  refine Af (Bq e rfl (x:=.ref T) j ?_);rw [if_pos (show (Value.ref T != Value.none)=true from by simp)];obtain ⟨t,k⟩:=c.tb_ T rfl;obtain ⟨o,p,n,r,z⟩:=(I.hok T _ k).1;refine Af (Bq n r (Array.getElem?_eq_getElem z) ?_);by_cases l:(p[3]==rawInt X.env.locals)=true
  ·rw [if_pos l];exact Ai (h H s T I c ⟨λb o _ q=>q,_,c.at_⟩)
  ·rw [if_neg l];exact Af (I.setTb k λm=>bh m i f g c h)
theorem ef (I:Inv X pins σ H s) (c:Fx X.K H a C d (some T)) (h:∀ s',Inv X pins σ H s'->Q () s'):wpAny (model X.prog X.w) A (setFlight (.ref a) fl) Q E s:=by
 obtain ⟨vs,b,hsz,f⟩:=c.isX I;refine Af (Bq b rfl (x:=.ref T) f ?_);rw [if_pos (show (Value.ref T != Value.none)=true from by simp)];exact I.setTb (c.tb_ T rfl).2 λe=>h _ e
theorem cB (I:Inv X pins σ H s) (f:A.frames=some X.stack) (c:X.stack=X.env :: X.outer) (i:X.env.frame=some X.env.locals) (l:Fx X.K H a C d tb)
  (h:∀ H' s' T,Inv X pins σ H' s'->Fx X.K H' a C d (some T)->Mv H a C d H'->Q () s'):wpAny (model X.prog X.w) A (leaving X.env (.ref a)) Q E s:=by
 exact Af (lb I f c i l λg n T k b j=>ef k b λm e=>h g m T e b j)
end
end L2
namespace Hn
open PySem L2
def spHE (K:PySem.W.Frag):Sp:=λvs H Q _=>∃ (x:Addr) (y:V) (C:Addr) (d:Option Addr),vs=[.ref x,y]/\XC K C/\H x=some (kE x C d)/\Q .non H
structure Fmt (K:PySem.W.Frag) (H:Hp) (v:V) (d:PyData):Prop where
 at_:DAt K H v d
 sh:Shows d
 l1:d.shown.length<=4000
 l2:∀ x,v=.str x->x.length<=4000
def Got (H:Hp) (x C:Addr) (fs:List (Str×V)) (H':Hp):Prop:=∃ d,H d=none/\d≠x/\H' x=some (kE x C (some d))/\H' d=some (bO d fs)/\∀ b,b≠x->b≠d->H' b=H b
def sp1 (K:PySem.W.Frag) (f:Str):Sp:=λvs H Q _=>∃ (x:Addr) (v:V) (C:Addr) (a:PyData),vs=[.ref x,v]/\XC K C/\B5 K C f/\H x=some (kE x C none)/\Fmt K H v a/\∀ H',Got H x C [(f,v)] H'->Q .non H'
def sp2 (K:PySem.W.Frag) (f g:Str):Sp:=λvs H Q _=>∃ (x:Addr) (v u:V) (C:Addr) (a b:PyData),vs=[.ref x,v,u]/\XC K C/\B5 K C f/\B5 K C g/\H x=some (kE x C none)/\Fmt K H v a/\Fmt K H u b /\
 ∀ H',Got H x C [(f,v),(g,u)] H'->Q .non H'
end Hn
namespace L3
open PySem PySem.Spec PyProof.Rows L2
inductive D where
 | non | bl (b:Bool) | int (i:Int) | str (x:Str) | tup (ds:List D) | lst (ds:List D) | scr (ds:List D) | ref (n:Nat)
inductive O where
 | lst (ds:List D) | dct (kvs:List (Key×D)) | exc (c:Nat) (fs:List (Str×D))
abbrev Sto:=List O
inductive R (α:Type) where
 | ok (a:α) (S:Sto) | exn (n:Nat) (S:Sto) | bad
abbrev M (α:Type):=Sto->R α
def ret {b:Type} (a:b):M b:=λS=>.ok a S
def bad {a:Type}:M a:=λ_=>.bad
def bind {c b:Type} (m:M c) (k:c->M b):M b:=λS=>match m S with
 | .ok a S'=>k a S'
 | .exn n S'=>.exn n S'
 | .bad=>.bad
abbrev Env:=List (Option D)
structure Mp where
 pl:List Addr
 rs:List Addr
def Mp.push (μ:Mp) (p:Addr):Mp:=⟨μ.pl++[p],μ.rs⟩
def TupAt (K:PySem.W.Frag) (μ:Mp) (H:Hp) (a:Addr) (xs:List V):Prop:=
 (Rd H a (.tup xs)/\a∉μ.pl/\a∉μ.rs)\/∃ (o:Obj) (b:Array Value) (n:Nat),K.lookup a=some o/\o.cls=.type "tuple"/\o.data=.seq b n/\b.size<=sizeLine/\Vals xs b.toList/\o.dict=none
def ScrAt (K:PySem.W.Frag) (μ:Mp) (H:Hp) (a:Addr) (xs:List V):Prop:=
 (Rd H a (.lst xs)/\a∉μ.pl/\a∉μ.rs)\/∃ (o:Obj) (b:Array Value) (n:Nat),K.lookup a=some o/\o.cls=.type "list"/\o.dict=none/\o.data=.seq b n/\b.size<=sizeLine/\Vals xs b.toList
def LstAt (μ:Mp) (H:Hp) (a:Addr) (xs:List V):Prop:=H a=some (.lst xs)/\a∉μ.pl/\a∉μ.rs
theorem TupAt.sq {K:PySem.W.Frag} {μ:Mp} {H:Hp} {a:Addr} {xs:List V} (h:TupAt K μ H a xs):SqT K H a xs:=h.imp (λz=>z.1) λ⟨o,f,n,a,b,c,d,e,_⟩=>⟨o,f,n,a,b,c,d,e⟩
theorem ScrAt.sq {K:PySem.W.Frag} {μ:Mp} {H:Hp} {a:Addr} {xs:List V} (h:ScrAt K μ H a xs):SqL K H a xs:=h.imp (λz=>z.1) id
theorem LstAt.sq {K:PySem.W.Frag} {μ:Mp} {H:Hp} {a:Addr} {xs:List V} (h:LstAt μ H a xs):SqL K H a xs:=.inl (.inl h.1)
mutual
inductive RD (K:PySem.W.Frag) (μ:Mp) (H:Hp):D->V->Prop where
 | non:RD K μ H .non .non
 | bl (b:Bool):RD K μ H (.bl b) (.bl b)
 | int (i:Int):RD K μ H (.int i) (.int i)
 | str (x:Str):RD K μ H (.str x) (.str x)
 | tup {a:Addr} {xs:List V} {ds:List D}:TupAt K μ H a xs->RDs K μ H ds xs->RD K μ H (.tup ds) (.ref a)
 | lst {a:Addr} {xs:List V} {ds:List D}:LstAt μ H a xs->RDs K μ H ds xs->RD K μ H (.lst ds) (.ref a)
 | scr {a:Addr} {xs:List V} {ds:List D}:ScrAt K μ H a xs->RDs K μ H ds xs->RD K μ H (.scr ds) (.ref a)
 | ref {n:Nat} {a:Addr}:μ.pl[n]?=some a->RD K μ H (.ref n) (.ref a)
inductive RDs (K:PySem.W.Frag) (μ:Mp) (H:Hp):List D->List V->Prop where
 | nil:RDs K μ H [] []
 | cons {d:D} {v:V} {ds:List D} {vs:List V}:RD K μ H d v->RDs K μ H ds vs->RDs K μ H (d :: ds) (v :: vs)
end
structure Lat (μ:Mp) (H:Hp) (μ':Mp) (H':Hp):Prop where
 pre:∀ (n:Nat) (a:Addr),μ.pl[n]?=some a->μ'.pl[n]?=some a
 oth:∀ a o,H a=some o->a∉μ.pl->H' a=some o
 new:∀ a,a∈μ'.pl->a∈μ.pl\/H a=none
 rsv:μ'.rs=μ.rs
theorem Lat.refl (μ:Mp) (H:Hp):Lat μ H μ H:=⟨λ_ _ h=>h,λ_ _ h _=>h,λ_ h=>.inl h,rfl⟩
theorem Lat.out {H H':Hp} (l:Lat μ H μ' H') {a:Addr} {o:HO} (h:H a=some o) (n:a∉μ.pl):a∉μ'.pl:=λz=>by
 rcases l.new a z with q | q
 ·exact n q
 ·rw [h] at q;cases q
theorem Lat.trans {H c b:Hp} (l:Lat μ H μ1 c) (k:Lat μ1 c μ2 b):Lat μ H μ2 b:=by
 refine ⟨λn a h=>k.pre n a (l.pre n a h),λa o h n=>k.oth a o (l.oth a o h n) (l.out h n),λa h=>?_,k.rsv.trans l.rsv⟩;rcases k.new a h with q | q
 ·exact l.new a q
 ·by_cases m:a∈μ.pl
  ·exact .inl m
  ·right
   cases e:H a with
   | none=>rfl
   | some o=>rw [l.oth a o e m] at q;cases q
theorem Rd.later {H H':Hp} (l:Lat μ H μ' H') {a:Addr} {u:HO} (h:Rd H a u) (n:a∉μ.pl):Rd H' a u/\a∉μ'.pl:=by
 rcases h with h | ⟨o,h⟩
 ·exact ⟨.inl (l.oth _ _ h n),l.out h n⟩
 ·exact ⟨.inr ⟨o,l.oth _ _ h n⟩,l.out h n⟩
theorem TupAt.later {K:PySem.W.Frag} {μ μ':Mp} {H H':Hp} (l:Lat μ H μ' H') {a:Addr} {xs:List V} (h:TupAt K μ H a xs):TupAt K μ' H' a xs:=h.imp (λz=>⟨(Rd.later l z.1 z.2.1).1,(Rd.later l z.1 z.2.1).2,by rw [l.rsv];exact z.2.2⟩) id
theorem ScrAt.later {K:PySem.W.Frag} {μ μ':Mp} {H H':Hp} (l:Lat μ H μ' H') {a:Addr} {xs:List V} (h:ScrAt K μ H a xs):ScrAt K μ' H' a xs:=h.imp (λz=>⟨(Rd.later l z.1 z.2.1).1,(Rd.later l z.1 z.2.1).2,by rw [l.rsv];exact z.2.2⟩) id
theorem LstAt.later {H H':Hp} (l:Lat μ H μ' H') {a:Addr} {xs:List V} (h:LstAt μ H a xs):LstAt μ' H' a xs:=⟨l.oth _ _ h.1 h.2.1,l.out h.1 h.2.1,by rw [l.rsv];exact h.2.2⟩
mutual
theorem RD.later {K:PySem.W.Frag} {μ μ':Mp} {H H':Hp} (l:Lat μ H μ' H'):∀ {d:D} {v:V},RD K μ H d v->RD K μ' H' d v
 | _,_,.non=>.non
 | _,_,.bl b=>.bl b
 | _,_,.int i=>.int i
 | _,_,.str x=>.str x
 | _,_,.tup h r=>.tup (h.later l) (RDs.later l r)
 | _,_,.lst h r=>.lst (h.later l) (RDs.later l r)
 | _,_,.scr h r=>.scr (h.later l) (RDs.later l r)
 | _,_,.ref h=>.ref (l.pre _ _ h)
theorem RDs.later {K:PySem.W.Frag} (l:Lat μ H μ' H'):∀ {ds:List D} {vs:List V},RDs K μ H ds vs->RDs K μ' H' ds vs
 | _,_,.nil=>.nil
 | _,_,.cons h r=>.cons (RD.later l h) (RDs.later l r)
end
section
variable {K:PySem.W.Frag} {μ:Mp} {H:Hp}
theorem RDs.length:∀ {ds:List D} {vs:List V},RDs K μ H ds vs->ds.length=vs.length
 | _,_,.nil=>rfl
 | _,_,.cons _ r=>by simp [RDs.length r]
theorem RDs.get:∀ {ds:List D} {vs:List V} {i:Nat} {d:D},RDs K μ H ds vs->ds[i]?=some d->∃ v,vs[i]?=some v/\RD K μ H d v
 | _,_,_,_,.nil,e=>by simp at e
 | _,_,0,_,.cons h _,e=>by simp at e;subst e;exact ⟨_,rfl,h⟩
 | _,_,i+1,d,.cons _ r,e=>by
  obtain ⟨v,b,a⟩:=RDs.get r (by simpa using e);exact ⟨v,by simpa using b,a⟩
theorem RDs.append:∀ {ds es:List D} {vs us:List V},RDs K μ H ds vs->RDs K μ H es us->RDs K μ H (ds++es) (vs++us)
 | _,_,_,_,.nil,s=>s
 | _,_,_,_,.cons h r,s=>.cons h (RDs.append r s)
theorem RDs.take:∀ {ds:List D} {vs:List V} (n:Nat),RDs K μ H ds vs->RDs K μ H (ds.take n) (vs.take n)
 | _,_,0,_=>by simpa using RDs.nil
 | _,_,_+1,.nil=>by simpa using RDs.nil
 | _,_,n+1,.cons h r=>by simpa using RDs.cons h (RDs.take n r)
theorem RDs.drop:∀ {ds:List D} {vs:List V} (n:Nat),RDs K μ H ds vs->RDs K μ H (ds.drop n) (vs.drop n)
 | _,_,0,h=>by simpa using h
 | _,_,_+1,.nil=>by simpa using RDs.nil
 | _,_,n+1,.cons _ r=>by simpa using RDs.drop n r
theorem RDs.set (q:RD K μ H d v):∀ {ds:List D} {vs:List V} (n:Nat),RDs K μ H ds vs->RDs K μ H (ds.set n d) (vs.set n v)
 | _,_,_,.nil=>by simpa using RDs.nil
 | _,_,0,.cons h r=>by simpa using RDs.cons q r
 | _,_,n+1,.cons h r=>by simpa using RDs.cons h (RDs.set q n r)
theorem RDs.rep (r:RDs K μ H ds vs):∀ k:Nat,RDs K μ H (List.replicate k ds).flatten (List.replicate k vs).flatten
 | 0=>.nil
 | k+1=>by
  rw [Bh,Bh,BE,BE];exact r.append (RDs.rep r k)
theorem RDs.ints:∀ ns:List Int,RDs K μ H (ns.map D.int) (ns.map V.int)
 | []=>.nil
 | n :: ns=>.cons (.int n) (RDs.ints ns)
end
def oj (K:PySem.W.Frag) (μ:Mp) (H:Hp):List (Str×D)->List (Str×V)->Prop:=Paired λp q=>p.1=q.1/\RD K μ H p.2 q.2
def KvsAt (K:PySem.W.Frag) (μ:Mp) (H:Hp):List (Key×D)->List (Key×V)->Prop:=Paired λp q=>p.1=q.1/\RD K μ H p.2 q.2
def OAt (K:PySem.W.Frag) (cl:Nat->Addr) (μ:Mp) (H:Hp) (a:Addr):O->Prop
 | .lst ds=>∃ xs,H a=some (.lst xs)/\RDs K μ H ds xs
 | .dct b=>∃ e,H a=some (.dK e)/\KvsAt K μ H b e
 | .exc c fs=>XC K (cl c)/\∃ gs,oj K μ H fs gs/\∃ f,((gs=[]/\H a=some (G6 f a (cl c) none))\/∃ d,d≠a/\d∉μ.pl/\H a=some (G6 f a (cl c) (some d))/\H d=some (bO d gs))
structure Rep (K:PySem.W.Frag) (cl:Nat->Addr) (μ:Mp) (S:Sto) (H:Hp):Prop where
 len:μ.pl.length=S.length
 nd:μ.pl.Nodup
 ats:∀ (n:Nat) (o:O) (a:Addr),S[n]?=some o->μ.pl[n]?=some a->OAt K cl μ H a o
 res:∀ a,a∈μ.rs->a∉μ.pl/\∃ u,H a=some u
theorem Paired.mono {P Q:α->β->Prop} (h:∀ a b,P a b->Q a b):∀ {xs:List α} {ys:List β},Paired P xs ys->Paired Q xs ys
 | _,_,.nil=>.nil
 | _,_,.cons r t=>.cons (h _ _ r) (Paired.mono h t)
section
variable {K:PySem.W.Frag} {cl:Nat->Addr} {μ:Mp} {S:Sto} {H:Hp}
theorem OAt.some (h:OAt K cl μ H a o):∃ u,H a=some u:=by
 cases o with
 | lst ds=>obtain ⟨xs,e,_⟩:=h;exact ⟨_,e⟩
 | dct kvs=>obtain ⟨xs,e,_⟩:=h;exact ⟨_,e⟩
 | exc c fs=>
  obtain ⟨_,gs,_,fr,⟨_,e⟩ | ⟨d,_,_,e,_⟩⟩:=h
  ·exact ⟨_,e⟩
  ·exact ⟨_,e⟩
theorem Rep.tracked (r:Rep K cl μ S H) {a:Addr} (h:a∈μ.pl):∃ u,H a=some u:=by
 obtain ⟨n,b,e⟩:=List.getElem_of_mem h;have hs:n<S.length:=by rw [<- r.len];exact b
 exact (r.ats n S[n] a (As hs) (by rw [As b,e])).some
theorem Rep.notrs (r:Rep K cl μ S H) {p:Addr} (h:H p=none):p∉μ.rs:=λz=>by
 obtain ⟨_,u,e⟩:=r.res p z;rw [h] at e;cases e
theorem Rep.notin (r:Rep K cl μ S H) {p:Addr} (h:H p=none):p∉μ.pl:=λz=>by
 obtain ⟨u,e⟩:=r.tracked z;rw [h] at e;cases e
theorem Lat.laid (h:H p=none):Lat μ H μ (upd H p o):=⟨λ_ _ h=>h,λa u e _=>by rw [a4 (a8 e h)];exact e,λ_ h=>.inl h,rfl⟩
theorem Rep.keep (r:Rep K cl μ S H) (l:Lat μ H μ H') (k:∀ a,a∈μ.pl->H' a=H a):Rep K cl μ S H':=by
 refine ⟨r.len,r.nd,λn o a e1 e2=>?_,λa m=>let ⟨h1,u,h2⟩:=r.res a m;⟨h1,u,l.oth _ _ h2 h1⟩⟩;have ka:=k a (AF e2);have h:=r.ats n o a e1 e2;cases o with
 | lst ds=>obtain ⟨xs,e,q⟩:=h;exact ⟨xs,by rw [ka];exact e,q.later l⟩
 | dct kvs=>obtain ⟨xs,e,q⟩:=h;exact ⟨xs,by rw [ka];exact e,Paired.mono (λ_ _ ⟨z,w⟩=>⟨z,w.later l⟩) q⟩
 | exc c fs=>
  obtain ⟨xc,gs,q,fr,h⟩:=h;refine ⟨xc,gs,Paired.mono (λ_ _ ⟨z,w⟩=>⟨z,w.later l⟩) q,fr,?_⟩;rcases h with ⟨z,e⟩ | ⟨d,h1,h2,e,e2⟩
  ·grind
  ·exact .inr ⟨d,h1,h2,by rw [ka];exact e,l.oth _ _ e2 h2⟩
theorem Rep.laid (r:Rep K cl μ S H) (h:H p=none):Rep K cl μ S (upd H p o):=r.keep (Lat.laid h) λa m=>a4 λz=>r.notin h (z▸m)
theorem Lat.pushed (h:H p=none) (k:∀ a u,H a=some u->H' a=some u):Lat μ H (μ.push p) H':=
 ⟨λn a e=>by show (μ.pl++[p])[n]?=_;rw [Az (Al.mp e).1];exact e,λa u e _=>k a u e,λa m=>by
  rcases Ax.mp m with z | z
  ·exact .inl z
  ·exact .inr (by rw [AB.mp z];exact h),rfl⟩
theorem OAt.later {a:Addr} {o:O} (h:OAt K cl μ H a o) (l:Lat μ H μ' H') (ka:H' a=H a):OAt K cl μ' H' a o:=by
 cases o with
 | lst ds=>obtain ⟨xs,e,q⟩:=h;exact ⟨xs,by rw [ka];exact e,q.later l⟩
 | dct kvs=>obtain ⟨xs,e,q⟩:=h;exact ⟨xs,by rw [ka];exact e,Paired.mono (λ_ _ ⟨z,w⟩=>⟨z,w.later l⟩) q⟩
 | exc c fs=>
  obtain ⟨xc,gs,q,fr,h⟩:=h;refine ⟨xc,gs,Paired.mono (λ_ _ ⟨z,w⟩=>⟨z,w.later l⟩) q,fr,?_⟩;rcases h with ⟨z,e⟩ | ⟨d,h1,h2,e,e2⟩
  ·grind
  ·exact .inr ⟨d,h1,l.out e2 h2,by rw [ka];exact e,l.oth _ _ e2 h2⟩
theorem Rep.pushed (r:Rep K cl μ S H) (h:H p=none) (k:∀ a u,H a=some u->H' a=some u) (i:OAt K cl (μ.push p) H' p o):Rep K cl (μ.push p) (S++[o]) H':=by
 have l:=Lat.pushed (μ:=μ) h k;refine ⟨by simp [Mp.push,r.len],?_,λn u a d c=>?_,λa m=>?_⟩
 ·show (μ.pl++[p]).Nodup;rw [Da];exact ⟨r.nd,by simp,λa m b m2=>by rw [AB.mp m2];rintro rfl;exact r.notin h m⟩
 ·have c:(μ.pl++[p])[n]?=some a:=c;by_cases f:n<S.length
  ·rw [Az f] at d;rw [Az (by rw [r.len];exact f)] at c;have q:=r.ats n u a d c;obtain ⟨z,g⟩:=q.some;exact q.later l ((k a z g).trans g.symm)
  ·have e:n=S.length:=by
    have:=(Al.mp d).1;simp at this;omega
   subst e;rw [<- r.len] at c;simp at d c;subst d;subst c;exact i
 ·obtain ⟨j,u,s⟩:=r.res a m;refine ⟨λz=>?_,u,k a u s⟩;rcases Ax.mp (z) with z | z
  ·exact j z
  ·grind
theorem Lat.wrote (h:a∈μ.pl):Lat μ H μ (upd H a o):=⟨λ_ _ h=>h,λb u e n=>by rw [a4 (λz=>n (by rw [z];exact h))];exact e,λ_ h=>.inl h,rfl⟩
theorem Rep.wrote {n:Nat} {a:Addr} {u:HO} {o:O} (r:Rep K cl μ S H) (e:μ.pl[n]?=some a) (ho:OAt K cl μ (upd H a u) a o):Rep K cl μ (S.set n o) (upd H a u):=by
 have m:a∈μ.pl:=AF e;refine ⟨by simp [r.len],r.nd,λk w b e1 e2=>?_,λb mb=>let ⟨h1,u',h2⟩:=r.res b mb;⟨h1,u',by rw [a4 (λz=>h1 (by rw [z];exact m))];exact h2⟩⟩;by_cases hk:n=k
 ·subst hk;rw [e] at e2;cases e2;rw [AT (by have:=(Al.mp e).1;rw [r.len] at this;exact this)] at e1;cases e1;exact ho
 ·rw [AZ hk] at e1;have hb:b≠a:=λz=>by
   subst z;obtain ⟨h1,q1⟩:=Al.mp e;obtain ⟨h2,q2⟩:=Al.mp e2;exact hk ((De r.nd).mp (q1.trans q2.symm))
  exact (r.ats k w b e1 e2).later (Lat.wrote m) (a4 hb)
end
def Mp.hold (μ:Mp) (p:Addr):Mp:=⟨μ.pl,p :: μ.rs⟩
mutual
theorem RD.move {K:PySem.W.Frag} {μ μ':Mp} {H H':Hp} (g:∀ (n:Nat) (a:Addr),μ.pl[n]?=some a->μ'.pl[n]?=some a) (c:∀ a u,H a=some u->a∉μ.pl->a∉μ.rs->H' a=some u/\a∉μ'.pl/\a∉μ'.rs):∀ {d:D} {v:V},RD K μ H d v->RD K μ' H' d v
 | _,_,.non=>.non
 | _,_,.bl b=>.bl b
 | _,_,.int i=>.int i
 | _,_,.str x=>.str x
 | _,_,.tup h r=>.tup (h.imp (λ⟨q,e,f⟩=>by
   rcases q with q | ⟨o,q⟩
   ·exact ⟨.inl (c _ _ q e f).1,(c _ _ q e f).2⟩
   ·exact ⟨.inr ⟨o,(c _ _ q e f).1⟩,(c _ _ q e f).2⟩) id) (RDs.move g c r)
 | _,_,.lst h r=>.lst (c _ _ h.1 h.2.1 h.2.2) (RDs.move g c r)
 | _,_,.scr h r=>.scr (h.imp (λ⟨q,e,f⟩=>by
   rcases q with q | ⟨o,q⟩
   ·exact ⟨.inl (c _ _ q e f).1,(c _ _ q e f).2⟩
   ·exact ⟨.inr ⟨o,(c _ _ q e f).1⟩,(c _ _ q e f).2⟩) id) (RDs.move g c r)
 | _,_,.ref h=>.ref (g _ _ h)
theorem RDs.move {K:PySem.W.Frag} {μ μ':Mp} {H H':Hp} (hp:∀ (n:Nat) (a:Addr),μ.pl[n]?=some a->μ'.pl[n]?=some a) (ho:∀ a u,H a=some u->a∉μ.pl->a∉μ.rs->H' a=some u/\a∉μ'.pl/\a∉μ'.rs):∀ {ds:List D} {vs:List V},RDs K μ H ds vs->RDs K μ' H' ds vs
 | _,_,.nil=>.nil
 | _,_,.cons h r=>.cons (RD.move hp ho h) (RDs.move hp ho r)
end
section
variable {K:PySem.W.Frag} {cl:Nat->Addr} {μ:Mp} {S:Sto} {H:Hp}
theorem Rep.move {H':Hp} (r:Rep K cl μ S H) (hr:∀ a,a∈μ'.rs->a∉μ'.pl/\∃ u,H' a=some u) (hp:μ'.pl=μ.pl) (hk:∀ a,a∈μ.pl->H' a=H a) (hx:∀ a u,H a=some (.ext u)->H' a=some (.ext u)) (ho:∀ a u,H a=some u->a∉μ.pl->a∉μ.rs->H' a=some u/\a∉μ'.pl/\a∉μ'.rs):Rep K cl μ' S H':=by
 have hp':∀ (n:Nat) (a:Addr),μ.pl[n]?=some a->μ'.pl[n]?=some a:=λn a e=>by rw [hp];exact e
 refine ⟨by rw [hp];exact r.len,by rw [hp];exact r.nd,λn o a e1 e2=>?_,hr⟩;rw [hp] at e2;have ka:=hk a (AF e2);have h:=r.ats n o a e1 e2;cases o with
 | lst ds=>obtain ⟨xs,e,q⟩:=h;exact ⟨xs,by rw [ka];exact e,q.move hp' ho⟩
 | dct kvs=>obtain ⟨xs,e,q⟩:=h;exact ⟨xs,by rw [ka];exact e,Paired.mono (λ_ _ ⟨z,w⟩=>⟨z,w.move hp' ho⟩) q⟩
 | exc c fs=>
  obtain ⟨xc,gs,q,fr,h⟩:=h;refine ⟨xc,gs,Paired.mono (λ_ _ ⟨z,w⟩=>⟨z,w.move hp' ho⟩) q,fr,?_⟩;rcases h with ⟨z,e⟩ | ⟨d,h1,h2,e,e2⟩
  ·grind
  ·exact .inr ⟨d,h1,by rw [hp];exact h2,by rw [ka];exact e,hx _ _ e2⟩
end
section
variable (K:PySem.W.Frag) (cl:Nat->Addr) (xe:Addr->Hp->Prop)
def Post {b:Type} (μ:Mp) (H:Hp) (r:R b) (G:b->Sto->Mp->Hp->Prop):Prop:=match r with
 | .ok a S=>∀ μ' H',Lat μ H μ' H'->Rep K cl μ' S H'->G a S μ' H'
 | .exn n S=>∀ μ' H' a,Lat μ H μ' H'->Rep K cl μ' S H'->μ'.pl[n]?=some a->xe a H'
 | .bad=>False
end
section
variable {K:PySem.W.Frag} {cl:Nat->Addr} {xe:Addr->Hp->Prop} {α β:Type} {μ μ1:Mp} {H H1:Hp}
theorem Post.later {G:α->Sto->Mp->Hp->Prop} (h:Post K cl xe μ H r G) (l:Lat μ H μ1 H1):Post K cl xe μ1 H1 r G:=by
 cases r with
 | ok a S=>exact λμ' H' k r=>h μ' H' (l.trans k) r
 | exn n S=>exact λμ' H' a k r e=>h μ' H' a (l.trans k) r e
 | bad=>exact h
theorem Post.imp {G G':α->Sto->Mp->Hp->Prop} (h:Post K cl xe μ H r G) (k:∀ a S μ' H',Lat μ H μ' H'->Rep K cl μ' S H'->G a S μ' H'->G' a S μ' H'):Post K cl xe μ H r G':=by
 cases r with
 | ok a S=>exact λμ' H' l r=>k a S μ' H' l r (h μ' H' l r)
 | exn n S=>exact h
 | bad=>exact h
theorem Post.bind {k:α->M β} {S:Sto} {G:β->Sto->Mp->Hp->Prop} (h:Post K cl xe μ H (bind m k S) G):Post K cl xe μ H (m S) (λa S1 μ1 H1=>Post K cl xe μ1 H1 (k a S1) G):=by
 unfold L3.bind at h;cases e:m S with
 | ok a S1=>
  rw [e] at h;exact λμ' H' l r=>Post.later h l
 | exn n S1=>rw [e] at h;exact h
 | bad=>rw [e] at h;exact h
theorem Post.ret {G:α->Sto->Mp->Hp->Prop} (h:Post K cl xe μ H (ret a S) G):∀ μ' H',Lat μ H μ' H'->Rep K cl μ' S H'->G a S μ' H':=h
end
def EnvOk (K:PySem.W.Frag) (μ:Mp) (H:Hp) (ρ:Env) (σ:L2.St):Prop:=ρ.length=σ.length/\∀ (i:Nat) (d:D),ρ[i]?=some (some d)->∃ v,σ[i]?=some (some v)/\RD K μ H d v
theorem EnvOk.later {K:PySem.W.Frag} {μ a:Mp} {H b:Hp} {ρ:Env} {σ:L2.St} (h:EnvOk K μ H ρ σ) (l:Lat μ H a b):EnvOk K a b ρ σ:=⟨h.1,λi d e=>let ⟨v,q,r⟩:=h.2 i d e;⟨v,q,r.later l⟩⟩
theorem EnvOk.set {K:PySem.W.Frag} {μ:Mp} {H:Hp} {ρ:Env} {σ:L2.St} {d:D} {v:V} (h:EnvOk K μ H ρ σ) (r:RD K μ H d v) (i:Nat):EnvOk K μ H (ρ.set i (some d)) (σ.set i (some v)):=by
 refine ⟨by simp [h.1],λj e b=>?_⟩;by_cases a:i=j
 ·subst a;have c:i<ρ.length:=by
   have:=(Al.mp b).1;simpa using this
  rw [AT c] at b;cases b;exact ⟨v,AT (by rw [<- h.1];exact c),r⟩
 ·rw [AZ a] at b;obtain ⟨u,q,f⟩:=h.2 j e b;exact ⟨u,by rw [AZ a];exact q,f⟩
section
variable (K:PySem.W.Frag) (cl:Nat->Addr) (xe:Addr->Hp->Prop)
def tD (f:Env->M D):TE:=λσ H Q=>∃ μ S ρ,EnvOk K μ H ρ σ/\Rep K cl μ S H/\Post K cl xe μ H (f ρ S) λd _ μ' H'=>∀ v,RD K μ' H' d v->Q v H'
def tDs (f:Env->M (List D)):TA:=λσ H Q=>∃ μ S ρ,EnvOk K μ H ρ σ/\Rep K cl μ S H/\Post K cl xe μ H (f ρ S) λds _ μ' H'=>∀ vs,RDs K μ' H' ds vs->Q vs H'
def tBo (f:Env->M Bool):TT:=λσ H Q=>∃ μ S ρ,EnvOk K μ H ρ σ/\Rep K cl μ S H/\Post K cl xe μ H (f ρ S) λb _ _ H'=>Q b H'
def rP2 (g:D->D->M D):R2:=λx y H Q=>∃ μ S d e,RD K μ H d x/\RD K μ H e y/\Rep K cl μ S H/\Post K cl xe μ H (g d e S) λr _ μ' H'=>∀ v,RD K μ' H' r v->Q v H'
def rPs (g:List D->M D):List V->Hp->VK->Prop:=λxs H Q=>∃ μ S ds,RDs K μ H ds xs/\Rep K cl μ S H/\Post K cl xe μ H (g ds S) λr _ μ' H'=>∀ v,RD K μ' H' r v->Q v H'
end
theorem PE.imp (h:PE X e t) (k:∀ σ H Q,t' σ H Q->t σ H Q):PE X e t':=λpins s σ H Q I q=>h pins s σ H Q I (k σ H Q q)
theorem PT.imp (h:PT X e t) (k:∀ σ H Q,t' σ H Q->t σ H Q):PT X e t':=λpins s σ H Q I q=>h pins s σ H Q I (k σ H Q q)
theorem PW.imp (h:PW X e t) (k:∀ σ H Q,t' σ H Q->t σ H Q):PW X e t':=λw pins s σ H Q I q=>h w pins s σ H Q I (k σ H Q q)
theorem PA.imp (h:PA X es t) (k:∀ σ H Q,t' σ H Q->t σ H Q):PA X es t':=λp pins s σ H Q I q=>h p pins s σ H Q I (k σ H Q q)
theorem PS.imp {st:Stmt} {t t':TS} (h:PS X st t) (k:∀ D σ H,t' D σ H->t D σ H):PS X st t':=λpins s σ H D I q=>h pins s σ H D I (k D σ H q)
theorem PSs.imp {st:List Stmt} {t t':TS} (h:PSs X st t) (k:∀ D σ H,t' D σ H->t D σ H):PSs X st t':=λpins s σ H D I q=>h pins s σ H D I (k D σ H q)
section
variable {X:Cx} {cl:Nat->Addr} {xe:Addr->Hp->Prop} {a b c:Expr} {es:List Expr} {pos:Pos} {f g:Env->M D}
theorem b7:PE X e (tD X.K cl xe λ_=>bad):=λ_ _ _ _ _ _ ⟨_,_,_,_,_,p⟩=>p.elim
theorem cn:PT X e (tBo X.K cl xe λ_=>bad):=λ_ _ _ _ _ _ ⟨_,_,_,_,_,p⟩=>p.elim
theorem pw_bad:PW X e (tBo X.K cl xe λ_=>bad):=λ_ _ _ _ _ _ _ ⟨_,_,_,_,_,p⟩=>p.elim
theorem v4 (h:PE X e (tC v)) (r:∀ μ H,RD X.K μ H d v):PE X e (tD X.K cl xe λ_=>ret d):=PE.imp h λσ H Q ⟨μ,S,ρ,b,a,p⟩=>p.ret μ H (Lat.refl _ _) a v (r μ H)
def getD (i:Nat) (ρ:Env):M D:=match ρ[i]? with
 | some (some d)=>ret d
 | _=>bad
theorem pO {e:Expr} (h:PE X e (tT i)):PE X e (tD X.K cl xe λρ=>getD i ρ):=PE.imp h λσ H Q ⟨μ,S,ρ,b,a,p⟩=>by
 cases e:ρ[i]? with
 | none=>simp only [getD,e] at p;exact p.elim
 | some o=>
  cases o with
  | none=>simp only [getD,e] at p;exact p.elim
  | some d=>
   simp only [getD,e] at p;obtain ⟨v,q,r⟩:=b.2 i d e;exact ⟨v,q,p.ret μ H (Lat.refl _ _) a v r⟩
theorem gQ (e:PE X a (tD X.K cl xe f)) (k:PE X b (tD X.K cl xe g)) (s:OpR X (binaryOp op) (rP2 X.K cl xe h)) :
  PE X (.BinOp a op b pos) (tD X.K cl xe λρ=>bind (f ρ) λx=>bind (g ρ) λy=>h x y):=PE.imp (tL s e k) λσ H Q ⟨μ,S,ρ,d,j,p⟩=>
 ⟨μ,S,ρ,d,j,p.bind.imp λx S1 c z t q i v r=>⟨c,S1,ρ,d.later t,q,i.bind.imp λy S2 μ2 w l o m u n=>⟨μ2,S2,x,y,r.later l,n,o,m⟩⟩⟩
theorem pj (e:PE X a (tD X.K cl xe f)) (k:PE X b (tD X.K cl xe g)) (s:OpR X (compareOp op) (rP2 X.K cl xe h)) (w:behindInMarks op b=false) :
  PE X (.Compare a [op] [b] pos) (tD X.K cl xe λρ=>bind (f ρ) λx=>bind (g ρ) λy=>h x y):=PE.imp (lF s e k w) λσ H Q ⟨μ,S,ρ,d,j,p⟩=>
 ⟨μ,S,ρ,d,j,p.bind.imp λx S1 c A t q i v r=>⟨c,S1,ρ,d.later t,q,i.bind.imp λy S2 μ2 z l o m u n=>⟨μ2,S2,x,y,r.later l,n,o,m⟩⟩⟩
theorem sS (e:PE X a (tD X.K cl xe f)) (k:PE X b (tD X.K cl xe g)) (s:IxR X (rP2 X.K cl xe h)) (hs:Y7 b) :
  PE X (.Subscript a b pos) (tD X.K cl xe λρ=>bind (f ρ) λx=>bind (g ρ) λy=>h x y):=PE.imp (md s e k hs) λσ H Q ⟨μ,S,ρ,d,j,p⟩=>
 ⟨μ,S,ρ,d,j,p.bind.imp λx S1 c z t q i v r=>⟨c,S1,ρ,d.later t,q,i.bind.imp λy S2 μ2 w l o m u n=>⟨μ2,S2,x,y,r.later l,n,o,m⟩⟩⟩
theorem sB (n:PT X c (tBo X.K cl xe t)) (k:PE X a (tD X.K cl xe f)) (m:PE X b (tD X.K cl xe g)):PE X (.IfExp c a b pos) (tD X.K cl xe λρ=>bind (t ρ) λq=>if q=true then f ρ else g ρ):=PE.imp (ic n k m) λσ H Q ⟨μ,S,ρ,e,l,p⟩=>
 ⟨μ,S,ρ,e,l,p.bind.imp λq S1 d o j i h=>by
  cases q with
  | true=>exact ⟨d,S1,ρ,e.later j,i,h⟩
  | false=>exact ⟨d,S1,ρ,e.later j,i,h⟩⟩
theorem nz (h:PT X a (tBo X.K cl xe t)):PT X (.UnaryOp .Not a pos) (tBo X.K cl xe λρ=>bind (t ρ) λq=>ret (!q)):=PT.imp (oi h) λσ H Q ⟨μ,S,ρ,f,d,p⟩=>
 ⟨μ,S,ρ,f,d,p.bind.imp λq S1 b g i e c=>c.ret b g (Lat.refl _ _) e⟩
theorem kr (h:PT X a (tBo X.K cl xe t)):PW X (.BoolOp .And [a] pos) (tBo X.K cl xe t):=pw_and1 h
theorem pM (h:PT X a (tBo X.K cl xe t)):PW X (.BoolOp .Or [a] pos) (tBo X.K cl xe t):=pw_or1 h
theorem nI {c:List Expr} (h:PT X a (tBo X.K cl xe t)) (k:PW X (.BoolOp .And (b :: c) pos) (tBo X.K cl xe u)):PW X (.BoolOp .And (a :: b :: c) pos) (tBo X.K cl xe λρ=>bind (t ρ) λq=>if q=true then u ρ else ret false):=PW.imp (pw_and h k) λσ H Q ⟨μ,S,ρ,g,i,p⟩=>
 ⟨μ,S,ρ,g,i,p.bind.imp λq S1 d l j f e=>by
  cases q with
  | true=>exact ⟨d,S1,ρ,g.later j,f,e⟩
  | false=>exact e.ret d l (Lat.refl _ _) f⟩
theorem rN {c:List Expr} (h:PT X a (tBo X.K cl xe t)) (k:PW X (.BoolOp .Or (b :: c) pos) (tBo X.K cl xe u)):PW X (.BoolOp .Or (a :: b :: c) pos) (tBo X.K cl xe λρ=>bind (t ρ) λq=>if q=true then ret true else u ρ):=PW.imp (pw_or h k) λσ H Q ⟨μ,S,ρ,g,i,p⟩=>
 ⟨μ,S,ρ,g,i,p.bind.imp λq S1 d l j f e=>by
  cases q with
  | true=>exact e.ret d l (Lat.refl _ _) f
  | false=>exact ⟨d,S1,ρ,g.later j,f,e⟩⟩
def asB (d:D):M Bool:=match d with
 | .bl b=>ret b
 | _=>bad
theorem pQ {K:PySem.W.Frag} {a:Mp} {c:Hp} {S:Sto} {d:D} {v:V} {Q:Bool->Hp->Prop} (f:RD K a c d v) (e:Rep K cl a S c) (p:Post K cl xe a c (asB d S) λb _ _ H'=>Q b H'):∃ k,v=.bl k/\Q k c:=by
 cases f with
 | bl b=>exact ⟨b,rfl,p.ret a c (Lat.refl _ _) e⟩
 | _=>exact p.elim
theorem nX (o:PE X a (tD X.K cl xe f)) (k:PE X b (tD X.K cl xe g)) (r:OpR X (compareOp op) (rP2 X.K cl xe h)) (n:behindInMarks op b=false) :
  PT X (.Compare a [op] [b] pos) (tBo X.K cl xe λρ=>bind (f ρ) λx=>bind (g ρ) λy=>bind (h x y) asB):=PT.imp (dv r o k n) λσ H Q ⟨μ,S,ρ,d,t,p⟩=>
 ⟨μ,S,ρ,d,t,p.bind.imp λx S1 c I s q j v m=>⟨c,S1,ρ,d.later s,q,j.bind.imp λy S2 μ2 J A D l u B=>⟨μ2,S2,x,y,m.later A,B,D,l.bind.imp λz F e E G C i w rw=>pQ rw C i⟩⟩⟩
end
end L3
namespace HT
open PySem PySem.Spec PyProof.Rows
theorem noFill_tuple_mul:fillsNumberSlot (.type "tuple") "mul" = pure false:=
 PySem.fillsNumberSlot_seq F.slot_tuple_mul.lookup (by decide +kernel) F.slot_tuple_rmul.lookup (by decide +kernel)
theorem repeat_tuple:seqRepeat? (.type "tuple")=pure (some (.builtin "tuple.__mul__")):=by
 unfold seqRepeat?;rw [PySem.seqSlot_of (name:="__mul__") F.slot_tuple_mul.lookup (by decide +kernel),PySem.seqSlot_of (name:="__rmul__") F.slot_tuple_rmul.lookup (by decide +kernel)];rfl
theorem int_rmul_tuple (a:Int) (t:Tok) (l:Addr) (items:Array Value) (n:Nat) (b:Option Addr) (c:Array (Option Value)) :
  Meets (Builtin.«int.__rmul__» ⟨[.int a t,.ref l],[]⟩) (λ_ R s=>s.heap.get? l=some { cls:=.type "tuple",dict:=b,data:=.seq items n,slots:=c }/\R (.ok (.ret Value.notImplemented)) s):=
 .of_wp λprog w A R s h=>by obtain ⟨f,g,d,i,e⟩:=s;obtain ⟨j,h⟩:=h;wp_walk;exact ⟨_,rfl,h⟩
theorem tuple_mul1 (l:Addr) (items:Array Value) (n:Nat) (a:Option Addr) (b:Array (Option Value)) (u:Tok) :
  Meets (Builtin.«tuple.__mul__» ⟨[.ref l,.int 1 u],[]⟩) (λ_ R s=>s.heap.get? l=some { cls:=.type "tuple",dict:=a,data:=.seq items n,slots:=b }/\R (.ok (.ret (.ref l))) s):=
 .of_wp λprog w A R s h=>by obtain ⟨e,g,d,f,c⟩:=s;obtain ⟨i,h⟩:=h;wp_walk;exact ⟨_,rfl,h⟩
theorem bq {k:Int} (b:1<=k) (a:k<2 ^ 63):¬ ((decide (k < -(2 ^ 63))||decide (k≥2 ^ 63))=true):=by grind
theorem tuple_mul2 (l:Addr) (items:Array Value) (n:Nat) (r:Option Addr) (v:Array (Option Value)) (k:Int) (u:Tok) (a:¬ (items.isEmpty||k==1)=true) (B:2<=k) (p:k<2 ^ 63) (hsz:items.size * k.toNat<=sizeLine) :
  Meets (Builtin.«tuple.__mul__» ⟨[.ref l,.int k u],[]⟩) (λ_ R s=>s.heap.get? l=some { cls:=.type "tuple",dict:=r,data:=.seq items n,slots:=v }/\R (.ok (.ret (.ref s.heap.objs.size))) { s with heap:=s.heap.push { cls:=.type "tuple",data:=.seq ((List.replicate k.toNat items).foldl (·++·) #[]) } }):=
 .of_wp λprog w A R s h=>by
  obtain ⟨j,g,d,y,x⟩:=s;obtain ⟨t,h⟩:=h;have q:=bq (by omega) p;have e:=AK;have i:((k.toNat:Nat):Int)=k:=Int.toNat_of_nonneg (by omega);have b:(items.size:Int) * k=((items.size * k.toNat:Nat):Int):=by rw [Int.natCast_mul,i]
  have c:¬ (decide (k<=0)||items.isEmpty)=true:=by
   simp only [CD,Aq] at a ⊢;intro z;rcases z with z | z
   ·omega
   ·exact a (.inl z)
  have f:¬ ((items.size:Int) * k > (2 ^ 63-1) / 8):=by rw [b];omega
  have m:¬ Builtin.Tuple.tupleTooMany ((items.size:Int) * k)=true:=by
   rw [b];simp only [Builtin.Tuple.tupleTooMany,Aq];omega
  have hz:((List.replicate k.toNat items).foldl (·++·) #[]).size<=sizeLine:=by
   rw [AutoListH.size_joined,Nat.mul_comm];simpa using hsz
  wp_walk
  rw [if_neg q];have o:IsTup j l items:=⟨_,t,rfl,n,rfl⟩;refine Af (Db o ?_);rw [if_neg a];rw [if_neg c];rw [if_neg f];rw [if_neg m];refine Af (AN ?_ hz);exact Ai ⟨_,rfl,h⟩
end HT
namespace L2
open PySem PySem.Spec PyProof.Rows
section
variable {X:Cx}
theorem lp:OpR X (binaryOp .Mult) (λx y H Q=>∃ a k xs,x=.ref a/\y=.int k/\SqT X.K H a xs/\xs≠[]/\1<=k/\k<2 ^ 63/\xs.length * k.toNat<=sizeLine/\(k=1->Q (.ref a) H)/\(k≠1->∀ p,H p=none->Q (.ref p) (upd H p (.tup (List.replicate k.toNat xs).flatten)))):=by
 intro pins s σ H x y v u Q I J C h;obtain ⟨a,k,xs,rfl,rfl,o,r,N,k2,hz,B,w⟩:=h;cases J;obtain ⟨t,rfl⟩:=C;obtain ⟨c,g,D,_⟩:=I.tuple o;obtain ⟨⟨E,e,j,f⟩,d,G,n,hd⟩:=id D;subst G hd;have L:=g.length;by_cases i:k=1
 ·subst i;exact BM (by decide) ⟨_,d,rfl⟩ (λs'=>Cr s' 1 t) HT.noFill_tuple_mul F.fills_int_mul F.slot_int_rmul HT.repeat_tuple F.slot_int_index.lookup
   (BX F.slot_int_rmul (Cr s 1 t) F.entry_int_rmul (F.args_int_rmul_2 _ _) (HT.int_rmul_tuple 1 t a c.toArray n e f)
    ⟨d,rfl,⟨_,d,rfl⟩,BX F.slot_tuple_mul ⟨_,d,rfl⟩ F.entry_tuple_mul (F.args_tuple_mul_2 _ _) (HT.tuple_mul1 a c.toArray n e f t) ⟨d,.ref a,H,I,rfl,B rfl⟩⟩)
 ·have M:=λz=>r (g.nil_iff.mp z);have l:¬ (c.toArray.isEmpty||k==1)=true:=by
   simp only [CD,beq_iff_eq];rintro (z | z)
   ·grind
   ·exact i z
  refine BM (by decide) ⟨_,d,rfl⟩ (λs'=>Cr s' k t) HT.noFill_tuple_mul F.fills_int_mul F.slot_int_rmul HT.repeat_tuple F.slot_int_index.lookup
   (BX F.slot_int_rmul (Cr s k t) F.entry_int_rmul (F.args_int_rmul_2 _ _) (HT.int_rmul_tuple k t a c.toArray n e f)
    ⟨d,rfl,⟨_,d,rfl⟩,BX F.slot_tuple_mul ⟨_,d,rfl⟩ F.entry_tuple_mul (F.args_tuple_mul_2 _ _) (HT.tuple_mul2 a c.toArray n e f k t l (by omega) k2 (by rw [Am,<- L];exact hz)) ⟨d,?_⟩⟩)
  have m:List.foldl (λA K=>A++K) #[] (List.replicate k.toNat c.toArray)=(List.replicate k.toNat c).flatten.toArray:=by
   have:=I8 c k.toNat [];rw [List.nil_append] at this;exact this
  rw [m];refine ⟨.ref s.heap.objs.size,_,I.laid (λb ob q=>Ah _ q) (Aj _) ?_,rfl,w i _ (I.hok.fresh (Aj _))⟩;exact ⟨by rw [dj,Nat.mul_comm];exact hz,_,g.rep k.toNat,TupN.new _ _⟩
end
end L2
namespace L3
open PySem PySem.Spec PyProof.Rows L2
def lstOf (d:D):M (List D):=match d with
 | .lst ds=>ret ds
 | .ref n=>λS=>match S[n]? with
  | some (.lst ds)=>.ok ds S
  | _=>.bad
 | _=>bad
def D2 (d:D):M (List D):=match d with
 | .tup ds=>ret ds
 | .scr ds=>ret ds
 | d=>lstOf d
section
variable {K:PySem.W.Frag} {cl:Nat->Addr} {xe:Addr->Hp->Prop} {μ:Mp} {H:Hp} {S:Sto} {α:Type}
theorem d8 (rd:RD K μ H d v) (rp:Rep K cl μ S H) (p:Post K cl xe μ H (lstOf d S) G):∃ a xs ds,v=.ref a/\H a=some (.lst xs)/\RDs K μ H ds xs/\lstOf d S=.ok ds S:=by
 cases rd with
 | lst h r=>exact ⟨_,_,_,rfl,h.1,r,rfl⟩
 | ref e=>
  rename_i n a;simp only [lstOf] at p;cases q:S[n]? with
  | none=>rw [q] at p;exact p.elim
  | some o=>
   cases o with
   | lst ds=>
    obtain ⟨xs,h1,h2⟩:=rp.ats n _ a q e;exact ⟨a,xs,ds,rfl,h1,h2,by simp only [lstOf,q]⟩
   | dct _=>rw [q] at p;exact p.elim
   | exc _ _=>rw [q] at p;exact p.elim
 | _=>exact p.elim
theorem bD (rd:RD K μ H d v) (rp:Rep K cl μ S H) (p:Post K cl xe μ H (D2 d S) G):∃ a xs ds,v=.ref a/\(SqL K H a xs\/SqT K H a xs)/\RDs K μ H ds xs/\D2 d S=.ok ds S:=by
 cases rd with
 | tup h r=>exact ⟨_,_,_,rfl,.inr h.sq,r,rfl⟩
 | scr h r=>exact ⟨_,_,_,rfl,.inl h.sq,r,rfl⟩
 | lst h r=>exact ⟨_,_,_,rfl,.inl h.sq,r,rfl⟩
 | ref e=>
  obtain ⟨a,xs,ds,h1,h2,h3,h4⟩:=d8 (.ref e) rp p;exact ⟨a,xs,ds,h1,.inl (.inl (.inl h2)),h3,h4⟩
 | _=>exact p.elim
theorem Post.ok_bind {a:α} {G:β->Sto->Mp->Hp->Prop} (e:m S=.ok a S) (p:Post K cl xe μ H (L3.bind m k S) G):Post K cl xe μ H (k a S) G:=by
 unfold L3.bind at p;rw [e] at p;exact p
theorem A1 (b:Rep K cl μ S H) (r:RDs K μ H ds xs) (a:H p=none):Lat μ H μ (upd H p (.tup xs))/\Rep K cl μ S (upd H p (.tup xs))/\RD K μ (upd H p (.tup xs)) (.tup ds) (.ref p):=
 ⟨Lat.laid a,b.laid a,.tup (.inl ⟨.inl b4,b.notin a,b.notrs a⟩) (r.later (Lat.laid a))⟩
theorem y8 (b:Rep K cl μ S H) (r:RDs K μ H ds xs) (a:H p=none):Lat μ H μ (upd H p (.lst xs))/\Rep K cl μ S (upd H p (.lst xs))/\RD K μ (upd H p (.lst xs)) (.lst ds) (.ref p):=
 ⟨Lat.laid a,b.laid a,.lst ⟨b4,b.notin a,b.notrs a⟩ (r.later (Lat.laid a))⟩
theorem V9 (c:Rep K cl μ S H) (r:RDs K μ H ds xs) (b:H p=none):Lat μ H (μ.push p) (upd H p (.lst xs))/\Rep K cl (μ.push p) (S++[.lst ds]) (upd H p (.lst xs))/\RD K (μ.push p) (upd H p (.lst xs)) (.ref S.length) (.ref p):=by
 have k:∀ a u,H a=some u->upd H p (.lst xs) a=some u:=λa u e=>by rw [a4 (a8 e b)];exact e
 have l:=Lat.pushed (μ:=μ) b k;refine ⟨l,c.pushed b k ⟨xs,b4,r.later l⟩,.ref ?_⟩;show (μ.pl++[p])[S.length]?=some p;rw [<- c.len];simp
theorem Post.guard [Decidable c] {a:α} {G:α->Sto->Mp->Hp->Prop} (p:Post K cl xe μ H ((if c then L3.ret a else L3.bad) S) G):c/\∀ μ' H',Lat μ H μ' H'->Rep K cl μ' S H'->G a S μ' H':=by
 by_cases b:c
 ·rw [if_pos b] at p;exact ⟨b,p⟩
 ·rw [if_neg b] at p;exact p.elim
end
def d9 {a b:Type} (f:a->Option b):List a->Option (List b)
 | []=>some []
 | x :: xs=>match f x,d9 f xs with
  | some y,some ys=>some (y :: ys)
  | _,_=>none
def d5:Nat->Sto->D->Option PyData
 | 0,_,_=>none
 | n+1,S,d=>match d with
  | .non=>some .none
  | .bl b=>some (.bool b)
  | .int i=>some (.int i)
  | .str x=>some (.str x)
  | .tup ds=>(d9 (d5 n S) ds).map .tuple
  | .lst ds=>(d9 (d5 n S) ds).map .list
  | .scr ds=>(d9 (d5 n S) ds).map .list
  | .ref k=>match S[k]? with
   | some (.lst ds)=>(d9 (d5 n S) ds).map .list
   | _=>none
theorem aV {K:PySem.W.Frag} {μ:Mp} {H:Hp} {S:Sto} {n:Nat} (f:∀ {d:D} {v:V} {q:PyData},d5 n S d=some q->RD K μ H d v->DAt K H v q):∀ {ds:List D} {vs:List V} {a:List PyData},d9 (d5 n S) ds=some a->RDs K μ H ds vs->DAll K H vs a
 | [],_,a,e,r=>by cases r;cases e;exact .nil
 | d :: ds,_,a,e,r=>by
  cases r with
  | cons h t=>
   simp only [d9] at e;cases b:d5 n S d with
   | none=>rw [b] at e;cases e
   | some q=>
    cases c:d9 (d5 n S) ds with
    | none=>grind
    | some g=>
     rw [b,c] at e;cases e;exact .cons (f b h) (aV f c t)
theorem p5 {K:PySem.W.Frag} {cl:Nat->Addr} {μ:Mp} {H:Hp} {S:Sto} (rp:Rep K cl μ S H):∀ (n:Nat) {d:D} {v:V} {q:PyData},d5 n S d=some q->RD K μ H d v->DAt K H v q
 | 0,_,_,_,e,_=>by cases e
 | n+1,d,v,q,e,r=>by
  have all:∀ {ds:List D} {vs:List V} {qs:List PyData},d9 (d5 n S) ds=some qs->RDs K μ H ds vs->DAll K H vs qs:=λe r=>aV (λe r=>p5 rp n e r) e r;have um:∀ {ds:List D} {C:List PyData->PyData},(d9 (d5 n S) ds).map C=some q->∃ qs,d9 (d5 n S) ds=some qs/\q=C qs:=λ{ds C} e=>by
   cases e1:d9 (d5 n S) ds with
   | none=>rw [e1] at e;cases e
   | some qs=>grind
  cases r with
  | non=>cases e;exact .non
  | bl b=>cases e;exact .bl b
  | int i=>cases e;exact .int i
  | str x=>cases e;exact .str x
  | tup h t=>obtain ⟨qs,e1,rfl⟩:=um e;exact .tup h.sq (all e1 t)
  | lst h t=>obtain ⟨qs,e1,rfl⟩:=um e;exact .lst h.sq (all e1 t)
  | scr h t=>obtain ⟨qs,e1,rfl⟩:=um e;exact .lst h.sq (all e1 t)
  | ref h=>
   rename_i k a;simp only [d5] at e;cases q1:S[k]? with
   | none=>rw [q1] at e;cases e
   | some o=>
    rw [q1] at e;cases o with
    | lst ds=>
     obtain ⟨qs,e1,rfl⟩:=um e;obtain ⟨xs,h1,h2⟩:=rp.ats k _ a q1 h;exact .lst (.inl (.inl h1)) (all e1 h2)
    | dct _=>cases e
    | exc _ _=>cases e
def j3 (x y:D):M D:=match x,y with
 | .int i,.int j=>ret (.int (i+j))
 | .str a,.str b=>if a.length+b.length<=sizeLine then ret (.str (a++b)) else bad
 | .tup xs,.tup ys=>if xs.length+ys.length<=sizeLine then ret (.tup (xs++ys)) else bad
 | x,y=>bind (lstOf x) λxs=>bind (lstOf y) λys=>if xs.length+ys.length<=sizeLine then ret (.lst (xs++ys)) else bad
def bB (x y:D):M D:=match x,y with
 | .int i,.int j=>ret (.int (i-j))
 | _,_=>bad
instance (i j:Int):Decidable (CMul i j):=by unfold CMul;infer_instance
instance (i j:Int):Decidable (iS i j):=by unfold iS;infer_instance
instance (i j:Int):Decidable (lh i j):=by unfold lh;infer_instance
def N8 (x y:D):M D:=match x,y with
 | .int i,.int j=>if 0<j then ret (.int (i % j)) else bad
 | _,_=>bad
def J6 (x y:D):M D:=match x,y with
 | .int i,.int j=>if iS i j then ret (.int (i / j)) else bad
 | _,_=>bad
def kW (x y:D):M D:=match x,y with
 | .int i,.int j=>if lh i j then ret (.int (i ^ j.toNat)) else bad
 | _,_=>bad
def M0 (x y:D):M D:=match x,y with
 | .int i,.int j=>if CMul i j then ret (.int (i * j)) else bad
 | .tup ds,.int k=>if (ds≠[]/\1<=k/\k<2 ^ 63)/\ds.length * k.toNat<=sizeLine then ret (.tup (List.replicate k.toNat ds).flatten) else bad
 | x,.int k=>bind (lstOf x) λxs=>if (-(2 ^ 63)<=k/\k<2 ^ 63)/\xs.length * k.toNat<=sizeLine then ret (.lst (List.replicate k.toNat xs).flatten) else bad
 | _,_=>bad
section
variable {X:Cx} {cl:Nat->Addr} {xe:Addr->Hp->Prop}
theorem iq:OpR X (binaryOp .Add) (λx y H Q=>∃ a b ys,x=.ref a/\y=.ref b/\SqT X.K H a []/\SqT X.K H b ys/\Q (.ref b) H):=by
 intro pins s σ H x y v u Q I t z h;obtain ⟨a,b,ys,rfl,rfl,B,C,q⟩:=h;cases t;cases z;obtain ⟨w,p,F,_⟩:=I.tuple B;obtain ⟨d,J,G,_⟩:=I.tuple C;cases p;obtain ⟨⟨r,E,l,D⟩,k,o,n,hd⟩:=id F;obtain ⟨⟨m,g,j,f⟩,c,i,A,e⟩:=id G;subst o hd i e;exact concat_meets ⟨_,k,rfl⟩ ⟨_,c,rfl⟩ Dg Dv Cg Ca (BS _ _)
   (tuple_addW0 a b #[] d.toArray n A E g D f rfl) ⟨k,c,⟨.ref b,H,I,rfl,q⟩⟩
theorem rS:OpR X (binaryOp .Add) (rP2 X.K cl xe j3):=by
 intro pins s σ H x y v u Q I n o ⟨μ,S,d,e,A,B,c,p⟩;have L:Post X.K cl xe μ H (bind (lstOf d) (λxs=>bind (lstOf e) λys=>if xs.length+ys.length<=sizeLine then ret (.lst (xs++ys)) else bad) S) (λr _ μ' H'=>∀ v,RD X.K μ' H' r v->Q v H')->wpAny (model X.prog X.w) X.A (binaryOp .Add v u) (EP X pins σ Q) X.xe s:=λp=>by
  obtain ⟨a,xs,ds,rfl,q,m,E⟩:=d8 A c p.bind;have p:=p.ok_bind E;obtain ⟨b,ys,es,rfl,t,h,G⟩:=d8 B c p.bind;obtain ⟨k,p⟩:=(p.ok_bind G).guard;refine iZ pins s σ H _ _ v u Q I n o ⟨a,b,xs,ys,rfl,rfl,q,t,by rw [<- m.length,<- h.length];exact k,λz hz=>?_⟩;obtain ⟨l,f,g⟩:=y8 c (m.append h) hz;exact p μ _ l f _ g
 cases d <;> cases e <;> try (exact L p)
 case int.int i j=>cases A;cases B;exact oE pins s σ H _ _ v u Q I n o ⟨i,j,rfl,rfl,p μ H (Lat.refl _ _) c _ (.int _)⟩
 case str.str i j=>
  cases A;cases B;obtain ⟨k,p⟩:=Post.guard p;exact bx pins s σ H _ _ v u Q I n o ⟨i,j,rfl,rfl,k,p μ H (Lat.refl _ _) c _ (.str _)⟩
 case tup.tup ds es=>
  obtain ⟨k,p⟩:=Post.guard p;cases A with
  | tup q m=>
   cases B with
   | tup t h=>
    rename_i a xs b ys;cases ds with
    | nil=>
     cases m;exact iq pins s σ H _ _ v u Q I n o ⟨a,b,ys,rfl,rfl,q.sq,t.sq,p μ H (Lat.refl _ _) c _ (.tup t h)⟩
    | cons d ds=>
     cases m with
     | cons D C=>
      rename_i K J;refine lz pins s σ H _ _ v u Q I n o ⟨a,b,_,ys,rfl,rfl,q.sq,t.sq,by simp,by rw [<- h.length];simpa [C.length] using k,λz=>?_,λz w F=>?_⟩
      ·subst z;cases h;rw [Bf] at p;exact p μ H (Lat.refl _ _) c _ (.tup q (.cons D C))
      ·obtain ⟨l,f,g⟩:=A1 c ((RDs.cons D C).append h) F;exact p μ _ l f _ g
theorem uJ:OpR X (binaryOp .Sub) (rP2 X.K cl xe bB):=by
 intro pins s σ H x y v u Q I c f ⟨μ,S,d,e,b,a,g,p⟩;cases d <;> cases e <;> try (exact False.elim p)
 case int.int i j=>cases b;cases a;exact qI pins s σ H _ _ v u Q I c f ⟨i,j,rfl,rfl,p μ H (Lat.refl _ _) g _ (.int _)⟩
theorem rb:OpR X (binaryOp .Mod) (rP2 X.K cl xe N8):=by
 intro pins s σ H x y v u Q I f g ⟨μ,S,d,e,c,b,h,p⟩;cases d <;> cases e <;> try (exact False.elim p)
 case int.int i j=>
  cases c;cases b;obtain ⟨a,p⟩:=Post.guard p;exact oT pins s σ H _ _ v u Q I f g ⟨i,j,rfl,rfl,a,p μ H (Lat.refl _ _) h _ (.int _)⟩
theorem qD:OpR X (binaryOp .FloorDiv) (rP2 X.K cl xe J6):=by
 intro pins s σ H x y v u Q I f g ⟨μ,S,d,e,c,b,h,p⟩;cases d <;> cases e <;> try (exact False.elim p)
 case int.int i j=>
  cases c;cases b;obtain ⟨a,p⟩:=Post.guard p;exact lT pins s σ H _ _ v u Q I f g ⟨i,j,rfl,rfl,a,p μ H (Lat.refl _ _) h _ (.int _)⟩
theorem rl:OpR X (binaryOp .Pow) (rP2 X.K cl xe kW):=by
 intro pins s σ H x y v u Q I f g ⟨μ,S,d,e,c,b,h,p⟩;cases d <;> cases e <;> try (exact False.elim p)
 case int.int i j=>
  cases c;cases b;obtain ⟨a,p⟩:=Post.guard p;exact pw pins s σ H _ _ v u Q I f g ⟨i,j,rfl,rfl,a,p μ H (Lat.refl _ _) h _ (.int _)⟩
theorem qR:OpR X (binaryOp .Mult) (rP2 X.K cl xe M0):=by
 intro pins s σ H x y v u Q I A B ⟨μ,S,d,e,t,n,h,p⟩;have L:∀ k:Int,e=.int k->Post X.K cl xe μ H (bind (lstOf d) (λxs=>if (-(2 ^ 63)<=k/\k<2 ^ 63)/\xs.length * k.toNat<=sizeLine then ret (.lst (List.replicate k.toNat xs).flatten) else bad) S) (λr _ μ' H'=>∀ v,RD X.K μ' H' r v->Q v H')->wpAny (model X.prog X.w) X.A (binaryOp .Mult v u) (EP X pins σ Q) X.xe s:=λk F q=>by
  clear p;subst F;cases n;obtain ⟨a,xs,ds,rfl,m,b,G⟩:=d8 t h q.bind;obtain ⟨⟨⟨o,k2⟩,g⟩,p⟩:=(q.ok_bind G).guard;refine pg pins s σ H _ _ v u Q I A B ⟨a,k,xs,rfl,rfl,m,o,k2,by rw [<- b.length];exact g,λz hz=>?_⟩;obtain ⟨l,c,f⟩:=y8 h (b.rep k.toNat) hz;exact p μ _ l c _ f
 cases d <;> cases e <;> try (exact False.elim p)
 case int.int i j=>
  cases t;cases n;obtain ⟨g,p⟩:=Post.guard p;exact qC pins s σ H _ _ v u Q I A B ⟨i,j,rfl,rfl,g,p μ H (Lat.refl _ _) h _ (.int _)⟩
 case tup.int ds k=>
  cases n;obtain ⟨⟨⟨D,o,k2⟩,g⟩,p⟩:=Post.guard p;cases t with
  | tup m b=>
   rename_i a xs;have C:xs≠[]:=λz=>by subst z;cases b;exact D rfl
   refine lp pins s σ H _ _ v u Q I A B ⟨a,k,xs,rfl,rfl,m.sq,C,o,k2,by rw [<- b.length];exact g,λz=>?_,λz w E=>?_⟩
   ·subst z;have e:(List.replicate (1:Int).toNat ds).flatten=ds:=by simp
    rw [e] at p;exact p μ H (Lat.refl _ _) h _ (.tup m b)
   ·obtain ⟨l,c,f⟩:=A1 h (b.rep k.toNat) E;exact p μ _ l c _ f
 all_goals exact L _ rfl p
end
def eqP (a:Bool) (x y:D):M D:=λS=>match d5 64 S x,d5 64 S y with
 | some p,some q=>(if p.canLay0=true/\q.canLay0=true/\min p.depth q.depth<=60 then ret (.bl (if a then !PyData.eqv p q else PyData.eqv p q)) else bad) S
 | _,_=>.bad
def eqD (c:Bool) (x y:D):M D:=match x,y with
 | .str a,.str b=>ret (.bl (if c then !decide (a=b) else decide (a=b)))
 | .int a,.int b=>ret (.bl (if c then !decide (a=b) else decide (a=b)))
 | x,y=>eqP c x y
def hP (f:Int->Int->Bool) (x y:D):M D:=match x,y with
 | .int i,.int j=>ret (.bl (f i j))
 | _,_=>bad
def U1 (a:Bool) (d:PyData) (ps:List PyData):M D:=if d.canLay0=true/\PyData.canLayAll0 ps=true/\min (PyData.depthAll ps) d.depth<=60 then ret (.bl (if a then !(ps.any λy=>PyData.eqv y d) else ps.any λy=>PyData.eqv y d)) else bad
def inD (a:Bool) (x y:D):M D:=λS=>match d5 64 S x,d5 64 S y with
 | some d,some (.list ps)=>U1 a d ps S
 | some d,some (.tuple ps)=>U1 a d ps S
 | _,_=>.bad
def isD (a:Bool) (x y:D):M D:=match y with
 | .non=>ret (.bl (match x with
  | .non=>!a
  | _=>a))
 | .bl b=>ret (.bl (match x with
  | .bl c=>if a then !(c==b) else c==b
  | _=>a))
 | _=>bad
section
variable {X:Cx} {cl:Nat->Addr} {xe:Addr->Hp->Prop}
theorem uW (q:X.A.units+64<cLine):OpR X (compareOp .Eq) (rP2 X.K cl xe (eqD false)):=by
 intro pins s σ H x y v u Q I i k ⟨μ,S,d,e,j,l,c,p⟩;have g:Post X.K cl xe μ H (eqP false d e S) (λr _ μ' H'=>∀ v,RD X.K μ' H' r v->Q v H')->wpAny (model X.prog X.w) X.A (compareOp .Eq v u) (EP X pins σ Q) X.xe s:=λp=>by
  simp only [eqP] at p;cases f:d5 64 S d with
  | none=>rw [f] at p;exact p.elim
  | some a=>
   cases h:d5 64 S e with
   | none=>rw [f,h] at p;exact p.elim
   | some b=>
    rw [f,h] at p;obtain ⟨⟨m,n,o⟩,p⟩:=Post.guard p;exact na q pins s σ H _ _ v u Q I i k ⟨a,b,p5 c 64 f j,p5 c 64 h l,m,n,o,p μ H (Lat.refl _ _) c _ (.bl _)⟩
 cases d <;> cases e <;> try (exact g p)
 case str.str a b=>
  cases j;cases l;exact qZ pins s σ H _ _ v u Q I i k ⟨rfl,by rw [show decide (V.str a=V.str b)=decide (a=b) by rw [Bz];simp];exact p μ H (Lat.refl _ _) c _ (.bl _)⟩
theorem vK (q:X.A.units+64<cLine):OpR X (compareOp .NotEq) (rP2 X.K cl xe (eqD true)):=by
 intro pins s σ H x y v u Q I i k ⟨μ,S,d,e,j,l,c,p⟩;have g:Post X.K cl xe μ H (eqP true d e S) (λr _ μ' H'=>∀ v,RD X.K μ' H' r v->Q v H')->wpAny (model X.prog X.w) X.A (compareOp .NotEq v u) (EP X pins σ Q) X.xe s:=λp=>by
  simp only [eqP] at p;cases f:d5 64 S d with
  | none=>rw [f] at p;exact p.elim
  | some a=>
   cases h:d5 64 S e with
   | none=>rw [f,h] at p;exact p.elim
   | some b=>
    rw [f,h] at p;obtain ⟨⟨m,n,o⟩,p⟩:=Post.guard p;exact oJ q pins s σ H _ _ v u Q I i k ⟨a,b,p5 c 64 f j,p5 c 64 h l,m,n,o,p μ H (Lat.refl _ _) c _ (.bl _)⟩
 cases d <;> cases e <;> try (exact g p)
 case str.str a b=>
  cases j;cases l;exact uD pins s σ H _ _ v u Q I i k ⟨rfl,by rw [show decide (V.str a=V.str b)=decide (a=b) by rw [Bz];simp];exact p μ H (Lat.refl _ _) c _ (.bl _)⟩
theorem eI (h:OpR X (compareOp op) (rI0 λi j=>.bl (f i j))):OpR X (compareOp op) (rP2 X.K cl xe (hP f)):=by
 intro pins s σ H x y v u Q I b g ⟨μ,S,d,e,c,k,a,p⟩;cases d <;> cases e <;> try (exact False.elim p)
 case int.int i j=>cases c;cases k;exact h pins s σ H _ _ v u Q I b g ⟨i,j,rfl,rfl,p μ H (Lat.refl _ _) a _ (.bl _)⟩
theorem X0 {a:Bool} (o:X.A.units+80<cLine) {pins:List (Addr×Obj)} {s:Shared} {σ:L2.St} {H:Hp} {x y:V} {v u:Value} {Q:VK} {d:PyData} {ps:List PyData} (I:Inv X pins σ H s) (l:RelV x v) (j:RelV y u)
  (hd:DAt X.K H x d) (f:DAt X.K H y (.list ps)\/DAt X.K H y (.tuple ps)) (c:d.canLay0=true/\PyData.canLayAll0 ps=true/\min (PyData.depthAll ps) d.depth<=60)
  (q:Q (.bl (if a then !(ps.any λy=>PyData.eqv y d) else ps.any λy=>PyData.eqv y d)) H):wpAny (model X.prog X.w) X.A (compareOp (if a then .NotIn else .In) v u) (EP X pins σ Q) X.xe s:=by
 obtain ⟨h,i,n⟩:=c;obtain ⟨m,g⟩:=hd.reads I l;have b:X.A.units+1+min (PyData.depthAll ps) d.depth<cLine:=by omega
 rcases f with f | f
 ·obtain ⟨k,e⟩:=f.reads I j;cases a with
  | false=>exact SeqAt.in_list_reads e g i h b ⟨.bl _,H,I,rfl,q⟩
  | true=>exact SeqAt.notIn_list_reads e g i h b ⟨.bl _,H,I,rfl,q⟩
 ·obtain ⟨k,e⟩:=f.reads I j;cases a with
  | false=>exact SeqAt.in_tuple_reads e g i h b ⟨.bl _,H,I,rfl,q⟩
  | true=>exact SeqAt.notIn_tuple_reads e g i h b ⟨.bl _,H,I,rfl,q⟩
theorem sQ (neg:Bool) (hu:X.A.units+80<cLine):OpR X (compareOp (if neg then .NotIn else .In)) (rP2 X.K cl xe (inD neg)):=by
 intro pins s σ H x y v u Q I rx ry ⟨μ,S,d,e,rd,re,rp,p⟩;simp only [inD] at p;cases e1:d5 64 S d with
 | none=>rw [e1] at p;exact p.elim
 | some a=>
  cases e2:d5 64 S e with
  | none=>rw [e1,e2] at p;exact p.elim
  | some b=>
   rw [e1,e2] at p;have ha:=p5 rp 64 e1 rd;have hb:=p5 rp 64 e2 re;cases b with
   | list ps=>obtain ⟨c,p⟩:=Post.guard p;exact X0 hu I rx ry ha (.inl hb) c (p μ H (Lat.refl _ _) rp _ (.bl _))
   | tuple ps=>obtain ⟨c,p⟩:=Post.guard p;exact X0 hu I rx ry ha (.inr hb) c (p μ H (Lat.refl _ _) rp _ (.bl _))
   | _=>exact p.elim
theorem rM (f:Bool):OpR X (compareOp (if f then .IsNot else .Is)) (rP2 X.K cl xe (isD f)):=by
 intro pins s σ H x y v u Q I a i ⟨μ,S,d,e,h,k,j,p⟩;have g:∀ b:Bool,(∀ μ' H',Lat μ H μ' H'->Rep X.K cl μ' S H'->∀ v,RD X.K μ' H' (.bl b) v->Q v H')->∀ c,c=b->EP X pins σ Q (.bool c) s:=λb p c e=>⟨.bl b,H,I,by rw [e];rfl,p μ H (Lat.refl _ _) j _ (.bl _)⟩;cases k <;> try (exact False.elim p)
 case non=>
  cases i;cases f with
  | false=>
   refine is_none_gen (g _ p _ ?_);cases h <;> first
    | (cases a;rfl)
    | (obtain ⟨t,rfl⟩:=a;rfl)
  | true=>
   refine isnot_none_gen (g _ p _ ?_);cases h <;> first
    | (cases a;rfl)
    | (obtain ⟨t,rfl⟩:=a;rfl)
 case bl b=>
  cases i;cases f with
  | false=>
   refine wpAny_is_plain ?_ (g _ p _ ?_)
   ·cases h <;> first
    | (cases a;rfl)
    | (obtain ⟨t,rfl⟩:=a;rfl)
   ·cases h <;> first
    | (cases a;rfl)
    | (obtain ⟨t,rfl⟩:=a;rfl)
    | (cases a;(rename_i c;cases c <;> cases b <;> rfl))
  | true=>
   refine wpAny_isNot_plain ?_ (g _ p _ ?_)
   ·cases h <;> first
    | (cases a;rfl)
    | (obtain ⟨t,rfl⟩:=a;rfl)
   ·cases h <;> first
    | (cases a;rfl)
    | (obtain ⟨t,rfl⟩:=a;rfl)
    | (cases a;(rename_i c;cases c <;> cases b <;> rfl))
end
def m8:D->Option Key
 | .int i=>some (.inl i)
 | .str x=>some (.inr x)
 | _=>none
def v3 {κ:Type} [DecidableEq κ] (a:List (κ×D)) (k:κ):Option D:=(a.find? λb=>decide (b.1=k)).map (·.2)
def fH {κ:Type} [DecidableEq κ] (a:List (κ×D)) (k:κ) (v:D):List (κ×D):=if a.any (λb=>decide (b.1=k)) then a.map (λb=>if b.1=k then (b.1,v) else b) else a++[(k,v)]
def Y2 {b:Type}:Option b->M b
 | some a=>ret a
 | none=>bad
def ixD (x y:D):M D:=match x with
 | .ref n=>λS=>match S[n]? with
  | some (.lst ds)=>(match y with
   | .int i=>Y2 (atI ds i)
   | _=>bad) S
  | some (.dct a)=>Y2 ((m8 y).bind (v3 a)) S
  | _=>.bad
 | x=>match y with
  | .int i=>bind (D2 x) λds=>Y2 (atI ds i)
  | _=>bad
theorem ow {K:PySem.W.Frag} {μ:Mp} {H:Hp} {ds:List D} {xs:List V} {i:Int} {d:D} (r:RDs K μ H ds xs) (e:atI ds i=some d):∃ v,atI xs i=some v/\RD K μ H d v:=by
 unfold atI at e ⊢;rw [<- r.length];cases q:ixN ds.length i with
 | none=>rw [q] at e;cases e
 | some j=>rw [q] at e;exact r.get e
theorem dS {K:PySem.W.Frag} {cl:Nat->Addr} {xe:Addr->Hp->Prop} {μ:Mp} {H:Hp} {S:Sto} {b:Type} {o:Option b} {G:b->Sto->Mp->Hp->Prop} (p:Post K cl xe μ H (Y2 o S) G):∃ a,o=some a/\∀ μ' H',Lat μ H μ' H'->Rep K cl μ' S H'->G a S μ' H':=by
 cases o with
 | none=>exact p.elim
 | some a=>exact ⟨a,rfl,p⟩
theorem M5 {K:PySem.W.Frag} {μ:Mp} {H:Hp} {k:Key} {d:D}:∀ {a:List (Key×D)} {f:List (Key×V)},KvsAt K μ H a f->v3 a k=some d->∃ v,A4 f k=some v/\RD K μ H d v
 | _,_,.nil,e=>by simp [v3] at e
 | p :: r,q :: j,.cons ⟨c,i⟩ t,e=>by
  unfold v3 at e;rw [Bb] at e;by_cases b:p.1=k
  ·simp only [b,decide_true] at e;cases e;exact ⟨q.2,G1 (c▸b),i⟩
  ·simp only [b,decide_false] at e;obtain ⟨v,g,h⟩:=M5 t e;exact ⟨v,by rw [D3 (c▸b)];exact g,h⟩
theorem w5 {K:PySem.W.Frag} {μ:Mp} {H:Hp} {y:D} {v:V} {k:Key} (r:RD K μ H y v) (e:m8 y=some k):v=kV k:=by
 cases r <;> simp only [m8] at e <;> first | (cases e;rfl) | cases e
section
variable {X:Cx} {cl:Nat->Addr} {xe:Addr->Hp->Prop}
theorem jx (o:X.A.units+1<cLine):IxR X (λx y H Q=>∃ a v,x=.ref a/\DGet H a y (some v)/\Q v H):=by
 intro d c pins s σ H x y v u Q I m n h hs;obtain ⟨a,w,rfl,g,q⟩:=h;cases m;have k:=az I g;have i:wpAny (model X.prog X.w) X.A (getItem (.ref a) u) (EP X pins σ Q) X.xe s:=fL o I g n λw' p l j=>⟨w,H,l,j,q⟩;refine Af ?_;rw [getitemInPython_of_ne k.not_modules];refine Af (wpAny_specialOf k PySem.F.slot_dict_getitem.lookup ?_);have e:wpAny (model X.prog X.w) X.A (subscripted c false (.ref a) u) (λr b=>wpAny (model X.prog X.w) X.A (letTemporaryGo d (.ref a) r >>= λ_=>pure r) (EP X pins σ Q) X.xe b) X.xe s:=by
  rw [hs];exact wpAny_operating (Co i (λr b f=>Af (wpAny_letTemporaryGo (Ai f))) λ_ _ x=>x)
 first
  | exact Ai (Af e)
  | exact Af (Ai (Af e))
  | exact Af e
theorem vF (hu:X.A.units+1<cLine):IxR X (rP2 X.K cl xe ixD):=by
 intro value slice pins s σ H x y v u Q I rx ry ⟨μ,S,d,e,rd,re,rp,p⟩ hs;have sq:∀ {a:Addr} {xs:List V} {ds:List D} {i:Int},(SqL X.K H a xs\/SqT X.K H a xs)->RDs X.K μ H ds xs->x=.ref a->e=.int i->Post X.K cl xe μ H (Y2 (atI ds i) S) (λr _ μ' H'=>∀ v,RD X.K μ' H' r v->Q v H') ->
   wpAny (model X.prog X.w) X.A (subscriptTail value slice v u) (EP X pins σ Q) X.xe s:=λ{a xs ds i} hq r hx he q=>by
  clear p;subst hx he;cases re;obtain ⟨z,e1,q⟩:=dS q;obtain ⟨w,e2,rw'⟩:=ow r e1;rcases hq with hq | hq
  ·exact jo value slice pins s σ H _ _ v u Q I rx ry ⟨a,xs,i,w,rfl,rfl,hq,e2,q μ H (Lat.refl _ _) rp _ rw'⟩ hs
  ·exact nT value slice pins s σ H _ _ v u Q I rx ry ⟨a,xs,i,w,rfl,rfl,hq,e2,q μ H (Lat.refl _ _) rp _ rw'⟩ hs
 cases rd with
 | tup h r=>
  cases e <;> first | exact False.elim p | exact sq (.inr h.sq) r rfl rfl p
 | lst h r=>
  cases e <;> first | exact False.elim p | exact sq (.inl h.sq) r rfl rfl p
 | scr h r=>
  cases e <;> first | exact False.elim p | exact sq (.inl h.sq) r rfl rfl p
 | ref h=>
  rename_i n a;simp only [ixD] at p;cases q1:S[n]? with
  | none=>rw [q1] at p;exact p.elim
  | some o=>
   rw [q1] at p;cases o with
   | lst ds=>
    obtain ⟨xs,h1,h2⟩:=rp.ats n _ a q1 h;cases e <;> first | exact False.elim p | exact sq (.inl (.inl (.inl h1))) h2 rfl rfl p
   | dct kvs=>
    obtain ⟨ks,h1,h2⟩:=rp.ats n _ a q1 h;obtain ⟨z,e1,p⟩:=dS p;cases e2:m8 e with
    | none=>rw [e2] at e1;cases e1
    | some k=>
     rw [e2] at e1;obtain ⟨w,e3,r3⟩:=M5 h2 e1;have hy:=w5 re e2;subst hy;exact jx hu value slice pins s σ H _ _ v u Q I rx ry ⟨a,w,rfl,by rw [<- e3];exact DGet.k h1,p μ H (Lat.refl _ _) rp _ r3⟩ hs
   | exc _ _=>exact p.elim
 | _=>cases e <;> exact False.elim p
def m7 (ds:List D) (lo a:Option Int):List D:=(ds.drop (HT.sIx ds.length 0 lo)).take (HT.sIx ds.length ds.length a-HT.sIx ds.length 0 lo)
theorem jC {K:PySem.W.Frag} {μ:Mp} {H:Hp} {ds:List D} {xs:List V} (r:RDs K μ H ds xs) (lo a:Option Int):RDs K μ H (m7 ds lo a) (fj xs lo a):=by
 unfold m7 fj;rw [<- r.length];exact (r.drop _).take _
def slD (x:D) (lo a:Option Int):M D:=match x with
 | .tup ds=>ret (.tup (m7 ds lo a))
 | x=>bind (match x with
  | .scr ds=>ret ds
  | x=>lstOf x) λds=>ret (.lst (m7 ds lo a))
end
def a9:Expr->Bool
 | .Starred ..=>false
 | _=>true
def j6:Expr->Bool
 | .ListComp ..=>false
 | .SetComp ..=>false
 | .DictComp ..=>false
 | _=>true
def k7:Expr->Bool
 | .Slice ..=>false
 | _=>true
def u7:Expr->Bool
 | .Set ..=>false
 | _=>true
def i5:Expr->Bool
 | .Call (.Name _ _) [] [] _=>false
 | _=>true
def t5:Expr->Bool
 | .UnaryOp .Not _ _=>false
 | .BoolOp ..=>false
 | .IfExp ..=>false
 | .Compare ..=>false
 | _=>true
theorem f7 (h:a9 e=true):starEach (e :: es) env=(false,eval e env) :: starEach es env:=by
 cases e <;> first | rfl | (exact absurd h (by simp [a9]))
theorem m9:∀ {es:List Expr} {a:PySem.Env} {pos:Pos},es.all a9=true->(backTo pos (starEach es a)).any (·.1)=false
 | [],_,_,_=>rfl
 | e :: es,a,pos,h=>by
  rw [Be,Ag] at h;rw [f7 h.1];show (false||(backTo pos (starEach es a)).any (·.1))=false;rw [m9 h.2];rfl
theorem T1:∀ {es:List Expr} {a:PySem.Env} {pos:Pos},es.all a9=true->(backTo pos (starEach es a)).all (λx=>!x.1)=true
 | [],_,_,_=>rfl
 | e :: es,a,pos,h=>by
  rw [Be,Ag] at h;rw [f7 h.1];show (!false&&(backTo pos (starEach es a)).all (λx=>!x.1))=true;rw [T1 h.2];rfl
theorem y3 (h:j6 e=true):swapsWith e t n env=pure false:=by
 cases e <;> first | rfl | (exact absurd h (by simp [j6]))
theorem R4 (h:k7 e=true):Y7 e:=by
 intro o i;cases e <;> first | rfl | (exact absurd h (by simp [k7]))
theorem V3 {e:Expr} (h:u7 e=true):behindInMarks op e=false:=by
 cases e <;> first | rfl | (exact absurd h (by simp [u7]))
theorem J1 (h:u7 e=true):∀ x,foldedSetIterable e env x=pure x:=by
 intro x;cases e <;> first | rfl | (exact absurd h (by simp [u7]))
theorem p6 (h:i5 o=true):attributeBase o f env (eval o env)=eval o env:=by
 unfold attributeBase;split
 ·exact absurd h (by simp [i5])
 ·rfl
theorem test_of (h:t5 e=true):∀ a,isTrue e env a=(do let v <- a;standAt e.pos;holding [v] (truthy v)):=by
 intro a;cases e <;> first
  | rfl
  | (rename_i op _ _;cases op <;> first | rfl | (exact absurd h (by simp [t5])))
  | (exact absurd h (by simp [t5]))
section
variable {X:Cx} {cl:Nat->Addr} {xe:Addr->Hp->Prop} {e:Expr} {es:List Expr} {pos:Pos} {f:Env->M D} {fs:Env->M (List D)}
theorem mP:PA X [] (tDs X.K cl xe λ_=>ret []):=PA.imp jO λσ H Q ⟨μ,S,ρ,b,a,p⟩=>p.ret μ H (Lat.refl _ _) a [] .nil
theorem jW (h:PE X e (tD X.K cl xe f)) (hs:PA X es (tDs X.K cl xe fs)) (m:a9 e=true):PA X (e :: es) (tDs X.K cl xe λρ=>bind (f ρ) λd=>bind (fs ρ) λds=>ret (d :: ds)):=
 PA.imp (aR h hs (f7 m)) λσ H Q ⟨μ,S,ρ,c,l,p⟩=>
  ⟨μ,S,ρ,c,l,p.bind.imp λd S1 b s q r i v g=>⟨b,S1,ρ,c.later q,r,i.bind.imp λds S2 μ2 j o n k vs a=>k.ret μ2 j (Lat.refl _ _) n _ (.cons (g.later o) a)⟩⟩
def oO (ds:List D):M D:=if ds.length<=sizeLine then ret (.tup ds) else bad
def nl (ds:List D):M D:=if ds.length<=sizeLine then ret (.lst ds) else bad
theorem oI (h:PA X es (tDs X.K cl xe fs)):PE X (.Tuple es k pos) (tD X.K cl xe λρ=>bind (fs ρ) oO):=PE.imp (pH h) λσ H Q ⟨μ,S,ρ,i,g,p⟩=>
 ⟨μ,S,ρ,i,g,p.bind.imp λds S1 e m n j c vs a=>by
  obtain ⟨f,c⟩:=Post.guard c;refine ⟨by rw [<- a.length];exact f,λz hz=>?_⟩;obtain ⟨l,b,d⟩:=A1 j a hz;exact c e _ l b _ d⟩
theorem nR (h:PA X es (tDs X.K cl xe fs)):PE X (.List es pos) (tD X.K cl xe λρ=>bind (fs ρ) nl):=PE.imp (ib h) λσ H Q ⟨μ,S,ρ,i,g,p⟩=>
 ⟨μ,S,ρ,i,g,p.bind.imp λds S1 e k m j c vs a=>by
  obtain ⟨f,c⟩:=Post.guard c;refine ⟨by rw [<- a.length];exact f,λz hz=>?_⟩;obtain ⟨l,b,d⟩:=y8 j a hz;exact c e _ l b _ d⟩
def newL (ds:List D):M D:=λS=>if ds.length<=sizeLine then .ok (.ref S.length) (S++[.lst ds]) else .bad
theorem km (h:PA X es (tDs X.K cl xe fs)):PE X (.List es pos) (tD X.K cl xe λρ=>bind (fs ρ) newL):=PE.imp (ib h) λσ H Q ⟨μ,S,ρ,i,g,p⟩=>
 ⟨μ,S,ρ,i,g,p.bind.imp λds S1 f k m j a vs b=>by
  unfold newL at a;by_cases e:ds.length<=sizeLine
  ·rw [if_pos e] at a;refine ⟨by rw [<- b.length];exact e,λz hz=>?_⟩;obtain ⟨l,c,d⟩:=V9 j b hz;exact a _ _ l c _ d
  ·rw [if_neg e] at a;exact a.elim⟩
def iF (E:XK):Addr->Hp->Prop:=λa H=>E (.ref a) none H
def spD (K:PySem.W.Frag) (cl:Nat->Addr) (n:Nat) (a:List D->M D):Sp:=λvs H Q E=>vs.length=n/\∃ μ S ds,RDs K μ H ds vs/\Rep K cl μ S H/\Post K cl (iF E0) μ H (a ds S) λd _ μ' H'=>∀ v,RD K μ' H' d v->Q v H'
theorem iU {id:String} {x:Str} {p:Pos} (d:e8 X (.builtin id) (rPs X.K cl xe g)) (o:Gl X x) (k:X.mg x=none) (h:bootBuiltins x=some (.builtin id)) (m:PA X (e :: es) (tDs X.K cl xe fs)) (j:x ≠ "__name__") (c:(x==("__debug__" : Str))=false) (hs:(e :: es).all a9=true) :
  PE X (.Call (.Name x p) (e :: es) [] pos) (tD X.K cl xe λρ=>bind (fs ρ) g):=by
 rw [Be,Ag] at hs;exact PE.imp (bR d o k h m j c (f7 hs.1) (m9 hs.2)) λσ H Q ⟨μ,S,ρ,l,i,p⟩=>⟨μ,S,ρ,l,i,p.bind.imp λds S1 b q r n f vs a=>⟨b,S1,ds,a,n,f⟩⟩
theorem iL {T:String} {x:Str} {p:Pos} (d:e8 X (.type T) (rPs X.K cl xe g)) (o:Gl X x) (k:X.mg x=none) (h:bootBuiltins x=some (.type T)) (m:PA X (e :: es) (tDs X.K cl xe fs)) (j:x ≠ "__name__") (c:(x==("__debug__" : Str))=false) (hs:(e :: es).all a9=true) :
  PE X (.Call (.Name x p) (e :: es) [] pos) (tD X.K cl xe λρ=>bind (fs ρ) g):=by
 rw [Be,Ag] at hs;exact PE.imp (ej d o k h m j c (f7 hs.1) (m9 hs.2)) λσ H Q ⟨μ,S,ρ,l,i,p⟩=>⟨μ,S,ρ,l,i,p.bind.imp λds S1 b q r n f vs a=>⟨b,S1,ds,a,n,f⟩⟩
end
def one (g:D->M D) (ds:List D):M D:=match ds with
 | [d]=>g d
 | _=>bad
def A6 (d:D):M D:=match d with
 | .str x=>if x.length<=sizeLine then ret (.int x.length) else bad
 | .ref n=>λS=>match S[n]? with
  | some (.lst ds)=>.ok (.int ds.length) S
  | some (.dct a)=>.ok (.int a.length) S
  | _=>.bad
 | d=>bind (D2 d) λds=>ret (.int ds.length)
def C8 (d:D):M D:=match d with
 | .tup ds=>ret (.tup ds)
 | d=>bind (D2 d) λds=>ret (.tup ds)
def mT (d:D):M D:=bind (D2 d) λds=>ret (.lst ds)
instance (p:PyData):Decidable (Shows p):=decidable_of_iff (p.showable=true/\p.hasDict=false/\p.depth<=60/\p.shown.length<=sizeLine) ⟨λ⟨a,b,c,d⟩=>⟨a,b,c,d⟩,λ⟨a,b,c,d⟩=>⟨a,b,c,d⟩⟩
def B1 (d:D):M D:=λS=>match d5 64 S d with
 | some p=>(if Shows p then ret (.str p.shown) else bad) S
 | none=>.bad
theorem tu {K:PySem.W.Frag} {μ:Mp} {H:Hp} {d:D} {vs:List V} (r:RDs K μ H [d] vs):∃ v,vs=[v]/\RD K μ H d v:=by
 cases r with
 | cons h t=>cases t;exact ⟨_,rfl,h⟩
section
variable {X:Cx} {cl:Nat->Addr} {xe:Addr->Hp->Prop}
theorem v7 (h:∀ (pins:List (Addr×Obj)) (s:Shared) (σ:L2.St) (H:Hp) (μ:Mp) (S:Sto) (d:D) (v:V) (us:List Value) (Q:VK),L2.Inv X pins σ H s->Vals [v] us->RD X.K μ H d v->Rep X.K cl μ S H->Post X.K cl xe μ H (g d S) (λr _ μ' H'=>∀ v,RD X.K μ' H' r v->Q v H') ->
  wpAny (model X.prog X.w) X.A (call f us) (EP X pins σ Q) X.xe s):e8 X f (rPs X.K cl xe (one g)):=by
 intro pins s σ H xs us Q I r ⟨μ,S,ds,a,c,p⟩
 match ds,p with
 | [d],p=>
  obtain ⟨v,rfl,b⟩:=tu a;exact h pins s σ H μ S d v us Q I r b c p
 | [],p=>exact p.elim
 | _ :: _ :: _,p=>exact p.elim
theorem tO:e8 X (.builtin "len") (rPs X.K cl xe (one A6)):=v7 λpins s σ H μ S d v us Q I r rd rp p=>by
 have sq:∀ {a:Addr} {xs:List V} {ds:List D},(SqL X.K H a xs\/SqT X.K H a xs)->RDs X.K μ H ds xs->v=.ref a->(∀ μ' H',Lat μ H μ' H'->Rep X.K cl μ' S H'->∀ w,RD X.K μ' H' (.int ds.length) w->Q w H')->wpAny (model X.prog X.w) X.A (call (.builtin "len") us) (EP X pins σ Q) X.xe s:=λ{a xs ds} hq r2 hv q=>by
  subst hv;exact aL pins s σ H _ us Q I r ⟨a,xs,rfl,hq,by rw [<- r2.length];exact q μ H (Lat.refl _ _) rp _ (.int _)⟩
 cases rd with
 | str x=>
  obtain ⟨hl,p⟩:=Post.guard p;exact aN pins s σ H _ us Q I r ⟨x,rfl,hl,p μ H (Lat.refl _ _) rp _ (.int _)⟩
 | tup h r2=>exact sq (.inr h.sq) r2 rfl p
 | lst h r2=>exact sq (.inl h.sq) r2 rfl p
 | scr h r2=>exact sq (.inl h.sq) r2 rfl p
 | ref h=>
  rename_i n a;simp only [A6] at p;cases q1:S[n]? with
  | none=>rw [q1] at p;exact p.elim
  | some o=>
   rw [q1] at p;cases o with
   | lst ds=>
    obtain ⟨xs,h1,h2⟩:=rp.ats n _ a q1 h;exact sq (.inl (.inl (.inl h1))) h2 rfl p
   | dct kvs=>
    obtain ⟨ks,h1,h2⟩:=rp.ats n _ a q1 h;have hl:=Paired.length h2;exact eh pins s σ H _ us Q I r ⟨a,ks,rfl,h1,by rw [<- hl];exact p μ H (Lat.refl _ _) rp _ (.int _)⟩
   | exc _ _=>exact p.elim
 | _=>exact False.elim p
theorem ls:e8 X (.type "tuple") (rPs X.K cl xe (one C8)):=v7 λpins s σ H μ S d v us Q I r rd rp p=>by
 have sq:∀ {a:Addr} {xs:List V} {ds:List D},SqL X.K H a xs->RDs X.K μ H ds xs->v=.ref a->(∀ μ' H',Lat μ H μ' H'->Rep X.K cl μ' S H'->∀ w,RD X.K μ' H' (.tup ds) w->Q w H')->wpAny (model X.prog X.w) X.A (call (.type "tuple") us) (EP X pins σ Q) X.xe s:=λ{a xs ds} hq r2 hv q=>by
  subst hv;refine B0 pins s σ H _ us Q I r ⟨a,xs,rfl,.inl ⟨hq,λz hz=>?_⟩⟩;obtain ⟨l,rp2,rd2⟩:=A1 rp r2 hz;exact q μ _ l rp2 _ rd2
 cases rd with
 | tup h r2=>exact B0 pins s σ H _ us Q I r ⟨_,_,rfl,.inr ⟨h.sq,p μ H (Lat.refl _ _) rp _ (.tup h r2)⟩⟩
 | lst h r2=>exact sq h.sq r2 rfl p
 | scr h r2=>exact sq h.sq r2 rfl p
 | ref h=>
  rename_i n a0;have p2:=p;obtain ⟨a,xs,ds,e1,h1,h2,e2⟩:=d8 (.ref h) rp p2.bind;exact sq (.inl (.inl h1)) h2 e1 (p2.ok_bind e2)
 | _=>exact False.elim p
theorem qG:e8 X (.type "list") (rPs X.K cl xe (one mT)):=v7 λpins s σ H μ S d v us Q I r f e p=>by
 obtain ⟨a,xs,ds,rfl,h,i,g⟩:=bD f e p.bind;refine aO pins s σ H _ us Q I r ⟨a,xs,rfl,h,λz hz=>?_⟩;obtain ⟨l,b,c⟩:=y8 e i hz;exact (p.ok_bind g) μ _ l b _ c
theorem oU (e:X.A.guards=some []) (f:X.A.units+64<cLine):e8 X (.builtin "repr") (rPs X.K cl xe (one B1)):=v7 λpins s σ H μ S d v us Q I r c b p=>by
 simp only [B1] at p;cases a:d5 64 S d with
 | none=>rw [a] at p;exact p.elim
 | some q=>
  rw [a] at p;obtain ⟨hs,p⟩:=Post.guard p;exact eZ e f pins s σ H _ us Q I r ⟨v,q,rfl,p5 b 64 a c,hs,p μ H (Lat.refl _ _) b _ (.str _)⟩
end
def Mp.free (μ:Mp):Mp:=⟨μ.pl,μ.rs.tail⟩
section
variable {K:PySem.W.Frag} {cl:Nat->Addr} {xe:Addr->Hp->Prop} {μ μ2:Mp} {S S2:Sto} {H H2:Hp} {p:Addr} {o:HO}
theorem kx (i:Rep K cl μ S H) (h:H p=none):(∀ {d:D} {v:V},RD K μ H d v->RD K (μ.hold p) (upd H p o) d v)/\∀ {ds:List D} {vs:List V},RDs K μ H ds vs->RDs K (μ.hold p) (upd H p o) ds vs:=by
 have c:∀ a u,H a=some u->a∉μ.pl->a∉μ.rs->upd H p o a=some u/\a∉(μ.hold p).pl/\a∉(μ.hold p).rs:=λa u e f g=>by
  have b:=a8 e h;exact ⟨by rw [a4 b];exact e,f,λz=>(Ar.mp z).elim b g⟩
 exact ⟨λr=>r.move (μ:=μ) (μ':=μ.hold p) (λ_ _ e=>e) c,λr=>r.move (μ:=μ) (μ':=μ.hold p) (λ_ _ e=>e) c⟩
theorem bo (c:Rep K cl μ S H) (b:H p=none):Rep K cl (μ.hold p) S (upd H p o):=by
 have j:∀ a u,H a=some u->a∉μ.pl->a∉μ.rs->upd H p o a=some u/\a∉(μ.hold p).pl/\a∉(μ.hold p).rs:=λa u e g h=>by
  have d:=a8 e b;exact ⟨by rw [a4 d];exact e,g,λz=>(Ar.mp z).elim d h⟩
 refine c.move (λa m=>?_) rfl (λa m=>a4 λz=>c.notin b (z▸m)) (λa u e=>by rw [a4 (a8 e b)];exact e) j;rcases Ar.mp (m) with rfl | m
 ·exact ⟨c.notin b,o,b4⟩
 ·obtain ⟨i,u,f⟩:=c.res a m;exact ⟨i,u,by rw [a4 (a8 f b)];exact f⟩
theorem au (b:Rep K cl μ S H) (c:H p=none) (a:EnvOk K μ H ρ σ):EnvOk K (μ.hold p) (upd H p o) ρ σ:=⟨a.1,λi d e=>let ⟨v,q,r⟩:=a.2 i d e;⟨v,q,(kx b c).1 r⟩⟩
theorem hV (r:RDs K μ H ds vs):RDs K μ.free H ds vs:=r.move (μ:=μ) (μ':=μ.free) (λ_ _ e=>e) λa u e b c=>⟨e,b,λz=>c (Cy z)⟩
theorem bL (b:Rep K cl μ S H):Rep K cl μ.free S H:=b.move (λa m=>b.res a (Cy m)) rfl (λ_ _=>rfl) (λ_ _ e=>e) λa u e c d=>⟨e,c,λz=>d (Cy z)⟩
theorem fb (e:μ.rs=p :: rs) (r:RDs K μ H ds vs):RDs K μ (upd H p o) ds vs:=r.move (λ_ _ e=>e) λa u q c b=>⟨by rw [a4 (λz=>b (by rw [e,z];exact Ap))];exact q,c,b⟩
theorem jg (e:μ.rs=p :: rs) (r:RD K μ H d v):RD K μ (upd H p o) d v:=r.move (λ_ _ e=>e) λa u q c b=>⟨by rw [a4 (λz=>b (by rw [e,z];exact Ap))];exact q,c,b⟩
theorem fV (e:μ.rs=p :: rs) (h:H p=some (.lst xs)) (b:Rep K cl μ S H):Rep K cl μ S (upd H p o):=by
 have g:=(b.res p (by rw [e];exact Ap)).1;refine b.move (λa m=>?_) rfl (λa m=>a4 λz=>g (z▸m)) (λa u q=>by rw [a4 (ia q h (by intro z;cases z))];exact q) λa u q f c=>⟨by rw [a4 (λz=>c (by rw [e,z];exact Ap))];exact q,f,c⟩;obtain ⟨d,u,i⟩:=b.res a m;by_cases z:a=p
 ·subst z;exact ⟨d,o,b4⟩
 ·exact ⟨d,u,by rw [a4 z];exact i⟩
end
inductive Fl where
 | nx (ρ:Env) | rt (d:D) | bk (ρ:Env) | ct (ρ:Env)
def il (K:PySem.W.Frag) (D:Ends) (a:Fl) (μ:Mp) (H:Hp):Prop:=match a with
 | .nx ρ=>∀ σ,EnvOk K μ H ρ σ->D.nx σ H
 | .rt d=>∀ v,RD K μ H d v->D.rt v H
 | .bk ρ=>∀ σ,EnvOk K μ H ρ σ->D.bk σ H
 | .ct ρ=>∀ σ,EnvOk K μ H ρ σ->D.ct σ H
def sD (K:PySem.W.Frag) (cl:Nat->Addr) (xe:Addr->Hp->Prop) (f:Env->M Fl):TS:=λD σ H=>∃ μ S ρ,EnvOk K μ H ρ σ/\Rep K cl μ S H/\Post K cl xe μ H (f ρ S) λa _ μ' H'=>il K D a μ' H'
def tj (f g:Env->M Fl) (ρ:Env):M Fl:=bind (f ρ) λa=>match a with
 | .nx b=>g b
 | a=>ret a
section
variable {X:Cx} {cl:Nat->Addr} {xe:Addr->Hp->Prop} {e:Expr} {st:Stmt} {sts:List Stmt} {pos:Pos} {f:Env->M D} {g h:Env->M Fl}
theorem B7:PS X st (sD X.K cl xe λ_=>bad):=λ_ _ _ _ _ _ ⟨_,_,_,_,_,p⟩=>p.elim
theorem jH:PSs X [] (sD X.K cl xe λρ=>ret (.nx ρ)):=PSs.imp lD λD σ H ⟨μ,S,ρ,b,a,p⟩=>p.ret μ H (Lat.refl _ _) a σ b
theorem kQ (h1:PS X st (sD X.K cl xe g)) (h2:PSs X sts (sD X.K cl xe h)):PSs X (st :: sts) (sD X.K cl xe (tj g h)):=PSs.imp (gE h1 h2) λD σ H ⟨μ,S,ρ,eo,rp,p⟩=>
 ⟨μ,S,ρ,eo,rp,p.bind.imp λfl S1 μ1 H1 l1 r1 p1=>by
  cases fl with
  | nx ρ1=>exact λσ1 eo1=>⟨μ1,S1,ρ1,eo1,r1,p1⟩
  | rt d=>exact p1.ret μ1 H1 (Lat.refl _ _) r1
  | bk ρ1=>exact p1.ret μ1 H1 (Lat.refl _ _) r1
  | ct ρ1=>exact p1.ret μ1 H1 (Lat.refl _ _) r1⟩
theorem jU (c:PE X e (tD X.K cl xe f)) (k:j6 e=true):PS X (.Expr e pos) (sD X.K cl xe λρ=>bind (f ρ) λ_=>ret (.nx ρ)):=PS.imp (jy c (y3 k)) λD σ H ⟨μ,S,ρ,b,l,p⟩=>
 ⟨μ,S,ρ,b,l,p.bind.imp λd S1 a i h j g v m=>g.ret a i (Lat.refl _ _) j σ (b.later h)⟩
theorem lG (c:PE X e (tD X.K cl xe f)):PS X (.Return (some e) pos) (sD X.K cl xe λρ=>bind (f ρ) λd=>ret (.rt d)):=PS.imp (nK c) λD σ H ⟨μ,S,ρ,i,k,p⟩=>
 ⟨μ,S,ρ,i,k,p.bind.imp λd S1 a h l j g v b=>g.ret a h (Lat.refl _ _) j v b⟩
theorem pi (k:PT X c (tBo X.K cl xe t)) (m:PSs X a (sD X.K cl xe g)) (l:PSs X b (sD X.K cl xe h)):PS X (.If c a b pos) (sD X.K cl xe λρ=>bind (t ρ) λq=>if q=true then g ρ else h ρ):=PS.imp (L2.ps_if k m l) λD σ H ⟨μ,S,ρ,e,n,p⟩=>
 ⟨μ,S,ρ,e,n,p.bind.imp λq S1 d o i j f=>by
  cases q with
  | true=>exact ⟨d,S1,ρ,e.later i,j,f⟩
  | false=>exact ⟨d,S1,ρ,e.later i,j,f⟩⟩
theorem ly (q:X.N.Nodup) (g:X.N[i]?=some x) (n:Loc X.env.scope x) (j:PE X e (tD X.K cl xe f)) (o:j6 e=true) (s:X.fn x=true\/X.env.scope.names.lookup x=some .local) :
  PS X (.Assign [.Name x pos'] e pos) (sD X.K cl xe λρ=>bind (f ρ) λd=>ret (.nx (ρ.set i (some d)))):=PS.imp (jj q g n j (y3 o) s) λD σ H ⟨μ,S,ρ,b,r,p⟩=>
 ⟨μ,S,ρ,b,r,p.bind.imp λd S1 a l k m h v c=>h.ret a l (Lat.refl _ _) m _ ((b.later k).set c i)⟩
def gh (K:PySem.W.Frag) (cl:Nat->Addr) (tg:D->Env->Option Env):TG:=λv σ H Q=>∃ μ S ρ d a,EnvOk K μ H ρ σ/\Rep K cl μ S H/\RD K μ H d v/\tg d ρ=some a/\∀ b,EnvOk K μ H a b->Q b H
theorem PG.imp (h:PG X t u) (k:∀ v σ H Q,u' v σ H Q->u v σ H Q):PG X t u':=λpins s σ H v w Q I r q=>h pins s σ H v w Q I r (k v σ H Q q)
theorem gc (h:X.N.Nodup) (a:X.N[i]?=some x) (f:Loc X.env.scope x) (j:X.fn x=true\/X.env.scope.names.lookup x=some .local):PG X (.Name x pos') (gh X.K cl λd ρ=>some (ρ.set i (some d))):=
 PG.imp (M4 h a f j) λv σ H Q ⟨μ,S,ρ,d,g,c,k,b,e,q⟩=>by
  cases e;exact q _ (c.set b i)
def J4:List Nat->List D->Env->Option Env
 | [],[],ρ=>some ρ
 | i :: a,d :: ds,ρ=>J4 a ds (ρ.set i (some d))
 | _,_,_=>none
def K8 (a:List Nat) (d:D) (ρ:Env):Option Env:=match d with
 | .tup ds=>J4 a ds ρ
 | _=>none
inductive NamesAt (X:Cx):List Expr->List Nat->Prop where
 | nil:NamesAt X [] []
 | cons {x:Str} {p:Pos} {i:Nat} {ts:List Expr} {is:List Nat}:X.N[i]?=some x->Loc X.env.scope x->(X.fn x=true\/X.env.scope.names.lookup x=some .local)->NamesAt X ts is->NamesAt X (.Name x p :: ts) (i :: is)
theorem U5 (hN:X.N.Nodup)  {ts:List Expr} {is:List Nat} (h:NamesAt X ts is):PGs X ts (λvs σ H Q=>∃ μ ds ρ ρ',EnvOk X.K μ H ρ σ/\RDs X.K μ H ds vs/\J4 is ds ρ=some ρ'/\∀ σ',EnvOk X.K μ H ρ' σ'->Q σ' H):=by
 induction h with
 | nil=>
  intro pins s σ H vs us Q I r ⟨μ,ds,ρ,ρ',eo,rd,e,q⟩;cases ds with
  | nil=>
   cases rd;cases e;exact kS pins s σ H [] us Q I r ⟨rfl,q σ eo⟩
  | cons d ds=>cases e
 | @cons x p i ts is h1 h2 h3 h4 ih=>
  intro pins s σ H vs us Q I r ⟨μ,ds,ρ,ρ',eo,rd,e,q⟩;cases ds with
  | nil=>cases e
  | cons d ds=>
   cases rd with
   | cons r1 r2=>exact gI (M4 (i:=i) hN h1 h2 h3) ih rfl pins s σ H _ us Q I r ⟨_,_,rfl,μ,ds,_,ρ',eo.set r1 i,r2,e,q⟩
theorem m3 {ts:List Expr} {is:List Nat} (h:NamesAt X ts is):(assignEach ts X.env).length=is.length/\(assignEach ts X.env).findIdx? (·.1)=none:=by
 induction h with
 | nil=>exact ⟨rfl,rfl⟩
 | @cons x p i ts is h1 h2 h3 h4 ih=>
  refine ⟨by show (assignEach ts X.env).length+1=_;rw [ih.1];rfl,?_⟩;show ((false,assign (.Name x p) X.env) :: assignEach ts X.env).findIdx? (·.1)=none;rw [List.findIdx?_cons];simp [ih.2]
theorem C2:∀ {b:List Nat} {ds:List D} {ρ a:Env},J4 b ds ρ=some a->ds.length=b.length
 | [],[],_,_,_=>rfl
 | _ :: _,_ :: _,_,_,e=>by simp [C2 (by simpa [J4] using e)]
 | [],_ :: _,_,_,e=>by cases e
 | _ :: _,[],_,_,e=>by cases e
theorem eK (hc:X.calm=true) (hN:X.N.Nodup) (h:NamesAt X ts is):PG X (.Tuple ts k pos') (gh X.K cl (K8 is)):=
 PG.imp (pS hc (U5 hN h) (m3 h).1 (m3 h).2) λv σ H Q ⟨μ,S,ρ,d,ρ',eo,rp,rd,e,q⟩=>by
  cases rd with
  | tup h1 h2=>exact ⟨_,_,rfl,h1.sq,by rw [<- h2.length];exact C2 e,μ,_,ρ,ρ',eo,h2,e,q⟩
  | _=>cases e
def U7:Expr->Bool
 | .Tuple ..=>false
 | _=>true
def D7 (tg:D->Env->Option Env) (d:D) (ρ:Env):M Fl:=match tg d ρ with
 | some a=>ret (.nx a)
 | none=>bad
theorem mB (n:X.calm=true) (t:X.N.Nodup) (h:NamesAt X ts is) (o:PE X e (tD X.K cl xe f)) (s:j6 e=true) (i:U7 e=true):PS X (.Assign [.Tuple ts k pos'] e pos) (sD X.K cl xe λρ=>bind (f ρ) λd=>D7 (K8 is) d ρ):=
 PS.imp (bv o (eK n t h) (by unfold swapsWithSole;exact y3 s) (by cases e <;> first | rfl | (exact absurd i (by simp [U7]))) rfl) λD σ H ⟨μ,S,ρ,j,u,p⟩=>
  ⟨μ,S,ρ,j,u,p.bind.imp λd S1 a r q l b v m=>by
   cases c:K8 is d ρ with
   | none=>simp only [D7,c] at b;exact b.elim
   | some g=>simp only [D7,c] at b;exact ⟨a,S1,ρ,d,g,j.later q,l,m,c,b.ret a r (Lat.refl _ _) l⟩⟩
end
structure LatR (μ:Mp) (H:Hp) (μ':Mp) (H':Hp):Prop where
 pre:∀ (n:Nat) (a:Addr),μ.pl[n]?=some a->μ'.pl[n]?=some a
 oth:∀ a o,H a=some o->a∉μ.pl->H' a=some o
 new:∀ a,a∈μ'.pl->a∈μ.pl\/H a=none
 rsw:∀ a,a∈μ'.rs->a∈μ.rs\/H a=none
theorem Lat.r {H H':Hp} (l:Lat μ H μ' H'):LatR μ H μ' H':=⟨l.pre,l.oth,l.new,λa m=>.inl (by rw [l.rsv] at m;exact m)⟩
structure LatU (μ:Mp) (H:Hp) (μ':Mp) (H':Hp):Prop where
 pre:∀ (n:Nat) (a:Addr),μ.pl[n]?=some a->μ'.pl[n]?=some a
 oth:∀ a o,H a=some o->a∉μ.pl->a∉μ.rs->H' a=some o
 new:∀ a,a∈μ'.pl->a∈μ.pl\/H a=none
 rsw:∀ a,a∈μ'.rs->a∈μ.rs\/H a=none
theorem LatR.u {H H':Hp} (l:LatR μ H μ' H'):LatU μ H μ' H':=⟨l.pre,λa o e n _=>l.oth a o e n,l.new,l.rsw⟩
theorem LatU.out {H H':Hp} (l:LatU μ H μ' H') (a:Addr) (u:HO) (e:H a=some u) (c:a∉μ.pl) (b:a∉μ.rs):H' a=some u/\a∉μ'.pl/\a∉μ'.rs:=by
 refine ⟨l.oth a u e c b,λz=>?_,λz=>?_⟩
 ·rcases l.new a z with q | q
  ·exact c q
  ·rw [e] at q;cases q
 ·rcases l.rsw a z with q | q
  ·exact b q
  ·rw [e] at q;cases q
theorem RDs.laterU {K:PySem.W.Frag} {μ μ':Mp} {H H':Hp} (l:LatU μ H μ' H') {ds:List D} {vs:List V} (r:RDs K μ H ds vs):RDs K μ' H' ds vs:=r.move l.pre l.out
abbrev Src:=Nat->Sto->Option (Option D)
def bc (K:PySem.W.Frag) (cl:Nat->Addr) (J:It) (i:Nat) (μ2:Mp) (b:Hp) (S2:Sto) (o:Option (Option D)):Prop:=match o with
 | some (some d)=>J.go i b/\∀ x a,J.yld i b x a->Lat μ2 b μ2 a/\Rep K cl μ2 S2 a/\RD K μ2 a d x
 | some none=>J.stop i b
 | none=>True
def Yl (K:PySem.W.Frag) (cl:Nat->Addr) (J:It) (μ:Mp) (H:Hp) (src:Src):Prop:=∀ (i:Nat) (μ2:Mp) (a:Hp) (S2:Sto),LatU μ H μ2 a->Rep K cl μ2 S2 a->bc K cl J i μ2 a S2 (src i S2)
def tIt (K:PySem.W.Frag) (cl:Nat->Addr) (xe:Addr->Hp->Prop) (f:Env->M (Src×Nat)):TI:=λσ H R=>∃ μ S ρ,EnvOk K μ H ρ σ/\Rep K cl μ S H/\Post K cl xe μ H (f ρ S) λp _ μ' H'=>∀ J,Yl K cl J μ' H' p.1->R J H'
theorem PI.imp (h:PI X tg it t) (k:∀ σ H R,t' σ H R->t σ H R):PI X tg it t':=λpins s σ H R I q=>h pins s σ H R I (k σ H R q)
theorem qE {tg l:Expr} {m:TE} (r:PE X l m):PI X tg l (λσ H R=>m σ H λx d=>∃ a,x=.ref a/\(((∃ xs,SqL X.K d a xs)/\R (Itl X.K a) d)\/((∃ xs,SqT X.K d a xs)/\R (Itt X.K a) d))):=by
 intro pins s σ H R I h;refine thn (r pins s σ H _ I h) λv f ⟨x,d,c,n,j⟩=>?_;obtain ⟨a,e,j⟩:=j;subst e;cases n;rcases j with ⟨⟨xs,g⟩,q⟩ | ⟨⟨xs,g⟩,q⟩
 ·obtain ⟨k,t,p,hz⟩:=c.list g;refine BG p.isList ?_;refine ⟨f.heap.objs.size,[f.heap.objs.size],_,_,d,rfl,c.kept λb o e=>Ah _ e,fG a _,⟨_,Aw _ rfl,rfl,rfl⟩,λb i=>?_,q⟩;have e:b=f.heap.objs.size:=by simpa using i
  subst e;exact c.fpOk (Aj _) (c.hok.fresh (Aj _))
 ·obtain ⟨k,t,p,hz⟩:=c.tuple g;refine wpAny_pyIter_tuple (p) ?_;refine ⟨f.heap.objs.size,[f.heap.objs.size],_,_,d,rfl,c.kept λb o e=>Ah _ e,bu a _,⟨_,Aw _ rfl,rfl,rfl⟩,λb i=>?_,q⟩;have e:b=f.heap.objs.size:=by simpa using i
  subst e;exact c.fpOk (Aj _) (c.hok.fresh (Aj _))
def n4 (ds:List D):Src:=λi _=>some ds[i]?
def fv (n:Nat):Src:=λi S=>match S[n]? with
 | some (.lst es)=>some es[i]?
 | _=>none
def bT (lo:Int) (n:Nat):Src:=λi _=>some (if i<n then some (.int (lo+i)) else none)
section
variable {K:PySem.W.Frag} {cl:Nat->Addr} {μ:Mp} {H:Hp}
theorem oX (h:TupAt K μ H a xs) (r:RDs K μ H ds xs):Yl K cl (Itt K a) μ H (n4 ds):=λi μ2 g S2 l y=>by
 have b:SqT K g a xs:=by
  rcases h with ⟨q,n1,n2⟩ | q
  ·rcases q with q | ⟨o,q⟩
   ·exact .inl (.inl (l.oth _ _ q n1 n2))
   ·exact .inl (.inr ⟨o,l.oth _ _ q n1 n2⟩)
  ·obtain ⟨o,c,n,u,j,w,m,t,_⟩:=q;exact .inr ⟨o,c,n,u,j,w,m,t⟩
 have k:=r.laterU l;show bc K cl (Itt K a) i μ2 g S2 (some ds[i]?);cases e:ds[i]? with
 | none=>exact ⟨xs,b,by rw [<- r.length];exact BN.mp e⟩
 | some d=>
  obtain ⟨v,f,p⟩:=k.get e;exact ⟨⟨xs,v,b,f⟩,λx z ⟨s,q⟩=>by subst s;have:=q xs b;rw [f] at this;cases this;exact ⟨Lat.refl _ _,y,p⟩⟩
theorem iJ (h:LstAt μ H a xs\/ScrAt K μ H a xs) (r:RDs K μ H ds xs):Yl K cl (Itl K a) μ H (n4 ds):=λi μ2 f S2 l m=>by
 have b:SqL K f a xs:=by
  rcases h with ⟨q,n1,n2⟩ | ⟨q,n1,n2⟩ | q
  ·exact .inl (.inl (l.oth _ _ q n1 n2))
  ·rcases q with q | ⟨o,q⟩
   ·exact .inl (.inl (l.oth _ _ q n1 n2))
   ·exact .inl (.inr ⟨o,l.oth _ _ q n1 n2⟩)
  ·exact .inr q
 have g:=r.laterU l;show bc K cl (Itl K a) i μ2 f S2 (some ds[i]?);cases e:ds[i]? with
 | none=>exact ⟨xs,b,by rw [<- r.length];exact BN.mp e⟩
 | some d=>
  obtain ⟨v,c,j⟩:=g.get e;exact ⟨⟨xs,v,b,c⟩,λx n ⟨k,q⟩=>by subst k;have:=q xs b;rw [c] at this;cases this;exact ⟨Lat.refl _ _,m,j⟩⟩
theorem qB {n:Nat} (h:μ.pl[n]?=some a):Yl K cl (Itl K a) μ H (fv n):=λi μ2 H2 S2 l rp=>by
 show bc K cl (Itl K a) i μ2 H2 S2 (match S2[n]? with
  | some (.lst es)=>some es[i]?
  | _=>none)
 cases q1:S2[n]? with
 | none=>exact True.intro
 | some o=>
  cases o with
  | dct _=>exact True.intro
  | exc _ _=>exact True.intro
  | lst es=>
   obtain ⟨xs,h1,h2⟩:=rp.ats n _ a q1 (l.pre _ _ h);have hq:SqL K H2 a xs:=.inl (.inl h1);show bc K cl (Itl K a) i μ2 H2 S2 (some es[i]?);cases e:es[i]? with
   | none=>exact ⟨xs,hq,by rw [<- h2.length];exact BN.mp e⟩
   | some d=>
    obtain ⟨v,e1,r1⟩:=h2.get e;exact ⟨⟨xs,v,hq,e1⟩,λx H3 ⟨e3,q⟩=>by subst e3;have:=q xs hq;rw [e1] at this;cases this;exact ⟨Lat.refl _ _,rp,r1⟩⟩
theorem gy {lo:Int} {n:Nat}:Yl K cl (Itr lo n) μ H (bT lo n):=λi μ2 d S2 l e=>by
 show bc K cl (Itr lo n) i μ2 d S2 (some (if i<n then some (.int (lo+i)) else none));by_cases a:i<n
 ·rw [if_pos a];exact ⟨a,λx f ⟨c,b⟩=>by subst c b;exact ⟨Lat.refl _ _,e,.int _⟩⟩
 ·rw [if_neg a];exact BL a
end
def A7 (d:D):M (Src×Nat):=match d with
 | .tup ds=>ret (n4 ds,ds.length+1)
 | .lst ds=>ret (n4 ds,ds.length+1)
 | .scr ds=>ret (n4 ds,ds.length+1)
 | .ref n=>λS=>match S[n]? with
  | some (.lst ds)=>.ok (fv n,ds.length+1) S
  | _=>.bad
 | _=>bad
def u6 (ds:List D):M (Src×Nat):=match ds with
 | [.int j]=>if -(2 ^ 62)<=j/\j<2 ^ 62 then ret (bT 0 j.toNat,j.toNat+1) else bad
 | [.int i,.int j]=>if -(2 ^ 62)<=i/\i<2 ^ 62/\-(2 ^ 62)<=j/\j<2 ^ 62 then ret (bT i (j-i).toNat,(j-i).toNat+1) else bad
 | _=>bad
section
variable {X:Cx} {cl:Nat->Addr} {xe:Addr->Hp->Prop} {e:Expr} {tg:Expr} {pos:Pos} {f:Env->M D}
theorem dP {tg e:Expr}:PI X tg e (tIt X.K cl xe λ_=>bad):=λ_ _ _ _ _ _ ⟨_,_,_,_,_,p⟩=>p.elim
theorem lO (h:PE X e (tD X.K cl xe f)):PI X tg e (tIt X.K cl xe λρ=>bind (f ρ) A7):=PI.imp (qE h) λσ H R ⟨μ,S,ρ,eo,rp,p⟩=>
 ⟨μ,S,ρ,eo,rp,p.bind.imp λd S1 μ1 H1 l1 r1 p1 v rv=>by
  cases rv with
  | tup h r=>exact ⟨_,rfl,.inr ⟨⟨_,h.sq⟩,p1.ret μ1 H1 (Lat.refl _ _) r1 _ (oX h r)⟩⟩
  | lst h r=>exact ⟨_,rfl,.inl ⟨⟨_,h.sq⟩,p1.ret μ1 H1 (Lat.refl _ _) r1 _ (iJ (.inl h) r)⟩⟩
  | scr h r=>exact ⟨_,rfl,.inl ⟨⟨_,h.sq⟩,p1.ret μ1 H1 (Lat.refl _ _) r1 _ (iJ (.inr h) r)⟩⟩
  | ref h=>
   rename_i n a;simp only [A7] at p1;cases q1:S1[n]? with
   | none=>rw [q1] at p1;exact p1.elim
   | some o=>
    rw [q1] at p1;cases o with
    | lst ds=>
     obtain ⟨xs,h1,h2⟩:=r1.ats n _ a q1 h;exact ⟨_,rfl,.inl ⟨⟨xs,.inl (.inl h1)⟩,p1 μ1 H1 (Lat.refl _ _) r1 _ (qB h)⟩⟩
    | dct _=>exact p1.elim
    | exc _ _=>exact p1.elim
  | _=>exact False.elim p1⟩
theorem cP (hg:Gl X "range") (hm:X.mg "range" = none) (ha:PA X [a] (tDs X.K cl xe fs)) (hs:a9 a=true):PI X tg (.Call (.Name "range" p) [a] [] pos) (tIt X.K cl xe λρ=>bind (fs ρ) λds=>if ds.length=1 then u6 ds else bad):=
 PI.imp (fN hg hm ha (f7 hs)) λσ H R ⟨μ,S,ρ,eo,rp,p⟩=>⟨μ,S,ρ,eo,rp,p.bind.imp λds S1 μ1 H1 l1 r1 p1 vs rvs=>by
  cases rvs with
  | nil=>exact False.elim p1
  | cons h t=>
   cases t with
   | cons _ t=>rw [if_neg (by simp)] at p1;exact p1.elim
   | nil=>
    rename_i d0 v0;rw [if_pos (show ([d0]:List D).length=1 from rfl)] at p1;cases h with
    | int j=>
     obtain ⟨⟨h1,h2⟩,p1⟩:=Post.guard p1;exact ⟨j,rfl,h1,h2,p1 μ1 H1 (Lat.refl _ _) r1 _ gy⟩
    | _=>exact False.elim p1⟩
end
def k8 (src:Src) (tg:D->Env->Option Env) (body:Env->M Fl):Nat->Nat->Env->M Fl
 | 0,_,_=>bad
 | m+1,i,ρ=>λS=>match src i S with
  | none=>.bad
  | some none=>.ok (.nx ρ) S
  | some (some d)=>match tg d ρ with
   | none=>.bad
   | some b=>bind (body b) (λc=>match c with
    | .nx a=>k8 src tg body m (i+1) a
    | .ct a=>k8 src tg body m (i+1) a
    | .bk a=>ret (.nx a)
    | .rt d=>ret (.rt d)) S
section
variable {X:Cx} {cl:Nat->Addr} {xe:Addr->Hp->Prop} {iter tgt:Expr} {pos:Pos} {fi:Env->M (Src×Nat)} {tg:D->Env->Option Env} {g:Env->M Fl} {body:List Stmt}
theorem kL (Y:PassesOwn (model X.prog X.w) X.A X.env X.xe) (hc:X.calm=true) (hi:PI X tgt iter (tIt X.K cl xe fi)) (hg:PG X tgt (gh X.K cl tg)) (hb:PSs X body (sD X.K cl xe g)) (hn:u7 iter=true) :
  PS X (.For tgt iter body [] pos) (sD X.K cl xe λρ=>bind (fi ρ) λp=>k8 p.1 tg g p.2 0 ρ):=PS.imp (pk Y hc hi hg hb (J1 hn)) λD σ H ⟨μ,S,ρ,T,rp,p⟩=>by
 refine ⟨μ,S,ρ,T,rp,p.bind.imp λsm S1 f A l1 r1 p1 J yl=>?_⟩;obtain ⟨src,m⟩:=sm;refine ⟨λi m σ H=>∃ μ2 S2 h,LatR f A μ2 H/\EnvOk X.K μ2 H h σ/\Rep X.K cl μ2 S2 H/\Post X.K cl xe μ2 H (k8 src tg g m i h S2) (λw _ μ' H'=>il X.K D w μ' H'),⟨m,f,S1,ρ,(Lat.refl _ _).r,T.later l1,r1,p1⟩,?_⟩;rintro i m F I ⟨μ2,S2,h,s,u,U,j⟩;cases m with
 | zero=>exact j.elim
 | succ m=>
  have y:bc X.K cl J i μ2 I S2 (src i S2):=yl i μ2 I S2 s.u U;simp only [k8] at j;cases O:src i S2 with
  | none=>rw [O] at j;exact j.elim
  | some o=>
   rw [O] at j y;cases o with
   | none=>exact .inl ⟨y,j μ2 I (Lat.refl _ _) U F u⟩
   | some d=>
    obtain ⟨y1,Z⟩:=y;cases L:tg d h with
    | none=>simp only [L] at j;exact j.elim
    | some t=>
     simp only [L] at j;refine .inr ⟨y1,λv H'=>∃ l P b,LatR f A l H'/\EnvOk X.K l H' b v/\Rep X.K cl l P H'/\Post X.K cl xe l H' (k8 src tg g m (i+1) b P) (λw _ μ' H'=>il X.K D w μ' H'),λv H' q=>⟨m,Bd _,q⟩,λx H3 hy=>?_⟩;obtain ⟨M,V,E⟩:=Z x H3 hy;refine ⟨μ2,S2,h,d,t,u.later M,V,E,L,λσ3 K=>?_⟩;refine ⟨μ2,S2,t,K,V,(Post.later j M).bind.imp λw W c N l4 B C=>?_⟩;have R:LatR f A c N:=by
      have k:=M.trans l4;refine ⟨λn a e=>k.pre n a (s.pre n a e),λa o e n=>k.oth a o (s.oth a o e n) (λz=>(s.new a z).elim n (λq=>by rw [e] at q;cases q)),λa m=>(k.new a m).elim (λz=>s.new a z) (λz=>?_),λa m=>s.rsw a (by rw [<- k.rsv];exact m)⟩;by_cases Q:a∈f.pl
      ·exact .inl Q
      ·right
       cases e:A a with
       | none=>rfl
       | some o=>rw [s.oth a o e Q] at z;cases z
     cases w with
     | nx b=>exact λG r=>⟨c,W,b,R,r,B,C⟩
     | ct b=>exact λG r=>⟨c,W,b,R,r,B,C⟩
     | bk b=>exact C.ret c N (Lat.refl _ _) B
     | rt d=>exact C.ret c N (Lat.refl _ _) B
end
structure HLat (μ:Mp) (H:Hp) (p:Addr) (μ2:Mp) (H2:Hp):Prop where
 r:LatR μ H μ2 H2
 rs:μ2.rs=p :: μ.rs
theorem HLat.lat {H c H':Hp} {p:Addr} (h:HLat μ H p μ2 c) (l:Lat μ2 c μ' H'):Lat μ H μ'.free H':=by
 refine ⟨λn a e=>l.pre n a (h.r.pre n a e),λa o e n=>?_,λa m=>?_,by show μ'.rs.tail=μ.rs;rw [l.rsv,h.rs];rfl⟩
 ·have d:=λz=>(h.r.new a z).elim n λq=>by rw [e] at q;cases q
  exact l.oth a o (h.r.oth a o e n) d
 ·rcases l.new a m with q | q
  ·exact h.r.new a q
  ·by_cases b:a∈μ.pl
   ·exact .inl b
   ·right
    cases e:H a with
    | none=>rfl
    | some o=>rw [h.r.oth a o e b] at q;cases q
theorem HLat.step {H c b:Hp} {p:Addr} (h:HLat μ H p μ2 c) (l:Lat μ2 c μ3 b):HLat μ H p μ3 b:=by
 have k:=h.lat l;refine ⟨⟨k.pre,k.oth,k.new,λa m=>h.r.rsw a (by rw [<- l.rsv];exact m)⟩,by rw [l.rsv];exact h.rs⟩
section
variable {K:PySem.W.Frag} {cl:Nat->Addr} {xe:Addr->Hp->Prop} {α β:Type} {μ μ2:Mp} {H H2:Hp} {p:Addr} {S:Sto}
theorem Post.at {k:α->M β} {G:β->Sto->Mp->Hp->Prop} (h:Post K cl xe μ H (L3.bind m k S) G) (l:HLat μ H p μ2 H2):Post K cl xe μ2 H2 (m S) (λa S' _ _=>Post K cl xe μ H (k a S') G):=by
 unfold L3.bind at h;cases e:m S with
 | ok a S1=>rw [e] at h;exact λ_ _ _ _=>h
 | exn n S1=>rw [e] at h;exact λμ' H' a k r q=>h μ'.free H' a (l.lat k) (bL r) q
 | bad=>rw [e] at h;exact h
end
def Q3 (src:Src) (t:Env->M Bool) (f:Env->M D) (mk:D->Env):Nat->Nat->List D->M (List D)
 | 0,_,_=>bad
 | m+1,i,es=>λS=>match src i S with
  | none=>.bad
  | some none=>.ok es S
  | some (some d)=>bind (t (mk d)) (λb=>if b=true then bind (f (mk d)) (λy=>if es.length<sizeLine then Q3 src t f mk m (i+1) (es++[y]) else bad) else Q3 src t f mk m (i+1) es) S
def ar (caps:List Nat) (ρ:Env):Env:=caps.map λi=>(ρ[i]?).join
theorem eE {K:PySem.W.Frag} {μ:Mp} {H:Hp} {ρ:Env} {σ:L2.St} {caps:List Nat} {d:D} {x:V} (eo:EnvOk K μ H ρ σ) (r:RD K μ H d x):EnvOk K μ H (some d :: ar caps ρ) (some x :: u9 caps σ):=by
 refine ⟨by simp [ar,u9],λi e he=>?_⟩;cases i with
 | zero=>simp at he;subst he;exact ⟨x,rfl,r⟩
 | succ j=>
  have he:(ar caps ρ)[j]?=some (some e):=he;unfold ar at he;rw [AR] at he;cases q:caps[j]? with
  | none=>rw [q] at he;cases he
  | some i=>
   rw [q] at he;have h':(ρ[i]?).join=some e:=AD he;have h2:ρ[i]?=some (some e):=by
    cases q2:ρ[i]? with
    | none=>rw [q2] at h';cases h'
    | some o=>rw [q2] at h';exact congrArg some h'
   obtain ⟨v,e1,r1⟩:=eo.2 i e h2;refine ⟨v,?_,r1⟩;show (u9 caps σ)[j]?=_;unfold u9;rw [AR,q];show some (σ[i]?).join=_;rw [e1];rfl
def eC (caps:List Nat) (b:Env->M (Src×Nat)) (t:Env->M Bool) (f:Env->M D) (ρ:Env):M (List D):=bind (b ρ) λa=>Q3 a.1 t f (λd=>some d :: ar caps ρ) a.2 0 []
theorem R7 {K:PySem.W.Frag} {cl:Nat->Addr} {xe:Addr->Hp->Prop} {caps:List Nat} {fi:Env->M (Src×Nat)} {t:Env->M Bool} {f:Env->M D} {σ:L2.St} {H:Hp} {μ:Mp} {S:Sto} {ρ:Env} {Q:VK} (eo:EnvOk K μ H ρ σ) (rp:Rep K cl μ S H)
  (p:Post K cl xe μ H (eC caps fi t f ρ S) λds _ μ' H'=>∀ c ys,LstAt μ' H' c ys->RDs K μ' H' ds ys->Q (.ref c) H'):fw caps (tIt K cl xe fi) (tBo K cl xe t) (tD K cl xe f) σ H Q:=by
 refine ⟨μ,S,ρ,eo,rp,p.bind.imp λsm S1 u H1 l1 P p1 J yl c g=>?_⟩;obtain ⟨src,m0⟩:=sm;have V:=P.notrs g;refine ⟨λi m ys l=>∃ μ2 S2 es,HLat u H1 c μ2 l/\c∉μ2.pl/\l c=some (.lst ys)/\EnvOk K μ2 l ρ σ/\Rep K cl μ2 S2 l/\RDs K μ2 l es ys/\Post K cl xe u H1 (Q3 src t f (λd=>some d :: ar caps ρ) m i es S2) (λds _ μ' H'=>∀ c ys,LstAt μ' H' c ys->RDs K μ' H' ds ys->Q (.ref c) H'),⟨m0,u.hold c,S1,[],?_,P.notin g,b4,au P g (eo.later l1),bo P g,.nil,p1⟩,?_⟩
 ·refine ⟨⟨λ_ _ e=>e,λa o e _=>by rw [a4 (a8 e g)];exact e,λa m=>.inl m,λa m=>?_⟩,rfl⟩;rcases Ar.mp (m) with rfl | m
  ·exact .inr g
  ·exact .inl m
 rintro i m ys l ⟨μ2,S2,es,R,z,I,s,r2,h,A⟩;refine ⟨I,?_⟩;cases m with
 | zero=>exact A.elim
 | succ m=>
  have y:bc K cl J i μ2 l S2 (src i S2):=yl i μ2 l S2 R.r.u r2;simp only [Q3] at A;cases e1:src i S2 with
  | none=>rw [e1] at A;exact A.elim
  | some o=>
   rw [e1] at A y;cases o with
   | none=>
    refine .inl ⟨y,A μ2.free l (R.lat (Lat.refl _ _)) (bL r2) c ys ⟨I,z,?_⟩ (hV h)⟩;show c∉μ2.rs.tail;rw [R.rs];exact V
   | some d=>
    obtain ⟨y1,y2⟩:=y;refine .inr ⟨y1,λx H3 hy=>?_⟩;obtain ⟨L,r3,C⟩:=y2 x H3 hy;have h3:=R.step L;refine ⟨μ2,S2,_,eE (s.later L) C,r3,(Post.at A h3).imp λb S5 F H5 Y r5 U=>?_⟩;have X:=h3.step Y;have k:=L.trans Y;have Z:=k.oth _ _ I z;have W:=k.out I z;cases b with
    | false=>exact ⟨m,Bd _,F,S5,es,X,W,Z,s.later k,r5,h.later k,U⟩
    | true=>
     refine sU ?_;rw [if_pos rfl] at U;refine ⟨F,S5,_,(eE (s.later L) C).later Y,r5,(Post.at U X).imp λyv S6 μ6 H6 O r6 T v rv=>?_⟩;have B:=X.step O;have G:=k.trans O;have a6:=O.oth _ _ Z W;have n6:=O.out Z W;by_cases hz:es.length<sizeLine
     ·rw [if_pos hz] at T;have N:=B.rs;refine ⟨a6,by rw [<- h.length];exact hz,m,Bd _,μ6,S6,es++[yv],?_,n6,b4,?_,fV N a6 r6,fb N ((h.later G).append (.cons rv .nil)),T⟩
      ·refine ⟨⟨B.r.pre,λa o e n=>?_,B.r.new,B.r.rsw⟩,N⟩;rw [a4 (a8 e g)];exact B.r.oth a o e n
      ·have E:=s.later G;exact ⟨E.1,λj e he=>let ⟨w,q,r⟩:=E.2 j e he;⟨w,q,jg N r⟩⟩
     ·rw [if_neg hz] at T;exact T.elim
section
variable {X:Cx} {cl:Nat->Addr} {xe:Addr->Hp->Prop} {elt iter:Expr} {x:Str} {px pos:Pos} {ifs:List Expr} {scope:Scope} {N':List Str} {caps:List Nat} {fi:Env->M (Src×Nat)} {t:Env->M Bool} {f:Env->M D}
theorem fT {X:Cx}:PTL X [] (tBo X.K cl xe λ_=>ret true):=λpins s σ H Q I ⟨μ,S,ρ,b,a,p⟩=>kK pins s σ H Q I (p μ H (Lat.refl _ _) a)
theorem aw (T:CompText X.N X.env N' 1 caps scope) (k:X.calm=true) (i:N'.Nodup) (b:N'[0]?=some x) (d:scope.names.lookup x=some .local) (h:PI X (.Name x px) iter (tIt X.K cl xe fi))
  (l:∀ pins C c s H,PTL (b9 X pins N' scope C c s H) ifs (tBo X.K cl xe t)) (e:∀ pins C c s H,PE (b9 X pins N' scope C c s H) elt (tD X.K cl xe f)) (g:u7 iter=true) :
  PE X (.ListComp elt [⟨.Name x px,iter,ifs,0⟩] scope pos) (λσ H Q=>∃ μ S ρ,EnvOk X.K μ H ρ σ/\Rep X.K cl μ S H/\Post X.K cl xe μ H (eC caps fi t f ρ S) λds _ μ' H'=>∀ a ys,LstAt μ' H' a ys->RDs X.K μ' H' ds ys->Q (.ref a) H'):=
 PE.imp (jp T k i b d h l e (J1 g)) λσ H Q ⟨μ,S,ρ,m,j,p⟩=>R7 m j p
end
def mf (K:PySem.W.Frag) (cl:Nat->Addr) (xe:Addr->Hp->Prop) (fs:Env->M (List D)):TE:=λσ H Q=>∃ μ S ρ,EnvOk K μ H ρ σ/\Rep K cl μ S H/\Post K cl xe μ H (fs ρ S) λds _ μ' H'=>∀ a ys,LstAt μ' H' a ys->RDs K μ' H' ds ys->Q (.ref a) H'
def c6 (d:D):M Bool:=match d with
 | .non=>ret false
 | .bl b=>ret b
 | .int i=>ret (i != 0)
 | .str x=>if x.length<=sizeLine then ret ((x.length:Int) != 0) else bad
 | .ref n=>λS=>match S[n]? with
  | some (.lst ds)=>.ok (!ds.isEmpty) S
  | some (.dct a)=>.ok (!a.isEmpty) S
  | _=>.bad
 | d=>bind (D2 d) λds=>ret (!ds.isEmpty)
section
variable {K:PySem.W.Frag} {cl:Nat->Addr} {xe:Addr->Hp->Prop} {μ:Mp} {H:Hp} {S:Sto}
theorem y4 (r:RDs K μ H ds vs):ds.isEmpty=vs.isEmpty:=by cases r <;> rfl
theorem M6 (rd:RD K μ H d v) (rp:Rep K cl μ S H) (p:Post K cl xe μ H (c6 d S) G):∃ k,ee K v H k/\G k S μ H:=by
 cases rd with
 | non=>exact ⟨_,rfl,p μ H (Lat.refl _ _) rp⟩
 | bl b=>exact ⟨_,rfl,p μ H (Lat.refl _ _) rp⟩
 | int i=>exact ⟨_,rfl,p μ H (Lat.refl _ _) rp⟩
 | str x=>
  obtain ⟨hl,p⟩:=Post.guard p;exact ⟨_,⟨hl,rfl⟩,p μ H (Lat.refl _ _) rp⟩
 | tup h r=>exact ⟨_,.inr (.inl ⟨_,h.sq,by rw [<- y4 r]⟩),p μ H (Lat.refl _ _) rp⟩
 | lst h r=>exact ⟨_,.inl ⟨_,h.sq,by rw [<- y4 r]⟩,p μ H (Lat.refl _ _) rp⟩
 | scr h r=>exact ⟨_,.inl ⟨_,h.sq,by rw [<- y4 r]⟩,p μ H (Lat.refl _ _) rp⟩
 | ref h=>
  rename_i n a;simp only [c6] at p;cases q1:S[n]? with
  | none=>rw [q1] at p;exact p.elim
  | some o=>
   rw [q1] at p;cases o with
   | lst ds=>
    obtain ⟨xs,h1,h2⟩:=rp.ats n _ a q1 h;exact ⟨_,.inl ⟨xs,.inl (.inl h1),by rw [<- y4 h2]⟩,p μ H (Lat.refl _ _) rp⟩
   | dct kvs=>
    obtain ⟨ks,h1,h2⟩:=rp.ats n _ a q1 h;refine ⟨_,.inr (.inr ⟨ks,h1,rfl⟩),?_⟩;have e:kvs.isEmpty=ks.isEmpty:=by cases h2 <;> rfl
    rw [<- e];exact p μ H (Lat.refl _ _) rp
   | exc _ _=>exact p.elim
end
section
variable {X:Cx} {cl:Nat->Addr} {xe:Addr->Hp->Prop} {a b e:Expr} {es rest:List Expr} {pos:Pos} {f g:Env->M D}
theorem jA (h:PE X a (tD X.K cl xe f)) (i:t5 a=true):PT X a (tBo X.K cl xe λρ=>bind (f ρ) c6):=PT.imp (gx h (test_of i)) λσ H Q ⟨μ,S,ρ,b,k,p⟩=>
 ⟨μ,S,ρ,b,k,p.bind.imp λd S1 j l m e g v c=>M6 c e g⟩
theorem oB (h:PE X a (tD X.K cl xe f)):PE X (.UnaryOp .Not a pos) (tD X.K cl xe λρ=>bind (f ρ) λd=>bind (c6 d) λk=>ret (.bl (!k))):=by
 intro pins s σ H Q I ⟨μ,S,ρ,j,t,p⟩;refine UnaryOp_ (thn (h pins s σ H (λv b=>∃ k,ee X.K v b k/\Q (.bl (!k)) b) I ⟨μ,S,ρ,j,t,p.bind.imp λd S1 e b B i r v m=>let ⟨k,g,q⟩:=M6 m i r.bind;⟨k,g,q e b (Lat.refl _ _) i _ (.bl _)⟩⟩) λv z ⟨x,b,y,l,k,g,q⟩=>?_);exact not_of (thn (aJ pins z σ b x v (λo H'=>o=k/\H'=b) y l ⟨k,g,rfl,rfl⟩) λc C ⟨A,w,u,n⟩=>by
  subst u n;exact ⟨.bl (!c),A,w,rfl,q⟩)
theorem hJ (h:PE X a (tD X.K cl xe f)):PE X (.BoolOp op [a] pos) (tD X.K cl xe f):=pz h
theorem pF (h:PE X a (tD X.K cl xe f)) (k:PE X (.BoolOp .And (b :: rest) pos) (tD X.K cl xe g)):PE X (.BoolOp .And (a :: b :: rest) pos) (tD X.K cl xe λρ=>bind (f ρ) λd=>bind (c6 d) λq=>if q=true then g ρ else ret d):=by
 intro pins s σ H Q I ⟨μ,S,ρ,m,A,p⟩;refine BoolOp_and (thn (h pins s σ H (λv e=>∃ c,ee X.K v e c/\if c=true then tD X.K cl xe g σ e Q else Q v e) I ⟨μ,S,ρ,m,A,p.bind.imp λd S1 i e F j w v n=>?_⟩) λv z ⟨x,e,E,t,c,l,q⟩=>?_)
 ·obtain ⟨c,l,q⟩:=M6 n j w.bind;refine ⟨c,l,?_⟩;cases c with
  | true=>exact ⟨i,S1,ρ,m.later F,j,q⟩
  | false=>exact q i e (Lat.refl _ _) j _ n
 ·refine thn (aJ pins z σ e x v (λB H'=>B=c/\H'=e) E t ⟨c,l,rfl,rfl⟩) λC D ⟨r,o,y,u⟩=>?_;subst y u;cases C with
  | true=>exact k pins D σ r Q o q
  | false=>exact ⟨x,r,o,t,q⟩
theorem uP (h:PE X a (tD X.K cl xe f)) (k:PE X (.BoolOp .Or (b :: rest) pos) (tD X.K cl xe g)):PE X (.BoolOp .Or (a :: b :: rest) pos) (tD X.K cl xe λρ=>bind (f ρ) λd=>bind (c6 d) λq=>if q=true then ret d else g ρ):=by
 intro pins s σ H Q I ⟨μ,S,ρ,m,A,p⟩;refine BoolOp_or (thn (h pins s σ H (λv e=>∃ c,ee X.K v e c/\if c=true then Q v e else tD X.K cl xe g σ e Q) I ⟨μ,S,ρ,m,A,p.bind.imp λd S1 i e F j w v n=>?_⟩) λv z ⟨x,e,E,t,c,l,q⟩=>?_)
 ·obtain ⟨c,l,q⟩:=M6 n j w.bind;refine ⟨c,l,?_⟩;cases c with
  | true=>exact q i e (Lat.refl _ _) j _ n
  | false=>exact ⟨i,S1,ρ,m.later F,j,q⟩
 ·refine thn (aJ pins z σ e x v (λB H'=>B=c/\H'=e) E t ⟨c,l,rfl,rfl⟩) λC D ⟨r,o,y,u⟩=>?_;subst y u;cases C with
  | true=>exact ⟨x,r,o,t,q⟩
  | false=>exact k pins D σ r Q o q
def tPt (K:PySem.W.Frag) (cl:Nat->Addr) (xe:Addr->Hp->Prop) (a:Env->M (Option Int)):TO:=λσ H Q=>∃ μ S ρ,EnvOk K μ H ρ σ/\Rep K cl μ S H/\Post K cl xe μ H (a ρ S) λo _ _ H'=>Q o H'
def X2 (d:D):M (Option Int):=match d with
 | .int i=>ret (some i)
 | _=>bad
theorem PO.imp {e:Option Expr} {t t':TO} (h:PO X e t) (k:∀ σ H Q,t' σ H Q->t σ H Q):PO X e t':=λpins s σ H Q I q=>h pins s σ H Q I (k σ H Q q)
theorem kg:PO X none (tPt X.K cl xe λ_=>ret none):=PO.imp jm λσ H Q ⟨μ,S,ρ,b,a,p⟩=>p μ H (Lat.refl _ _) a
theorem mF (h:PE X e (tD X.K cl xe f)):PO X (some e) (tPt X.K cl xe λρ=>bind (f ρ) X2):=PO.imp (lj h) λσ H Q ⟨μ,S,ρ,eo,rp,p⟩=>
 ⟨μ,S,ρ,eo,rp,p.bind.imp λd S1 μ1 H1 l1 r1 p1 v rv=>by
  cases rv with
  | int i=>exact ⟨i,rfl,p1 μ1 H1 (Lat.refl _ _) r1⟩
  | _=>exact False.elim p1⟩
theorem A3 {s:Shared} {t e:Addr} {items:Array Value} {k i:Value} {lo c:Option Int} {Q:Value->Shared->Prop} (a:IsTup s.heap t items) (hs:s.heap.IsSliceOf e k i .none) (pl:IsPart k lo) (l:IsPart i c)
  (j:HT.sIx items.size 0 lo=0/\HT.sIx items.size items.size c=items.size) (h:Q (.ref t) s):wpAny (model prog w) A (getItem (.ref t) (.ref e)) Q E s:=by
 obtain ⟨m,g,d,hds⟩:=id hs;have f:s.TypeIs (.ref e) "slice":=⟨m,g,d⟩;unfold getItem;try with_reducible refine AM ?_
 first | refine Af (Ai ?_) | skip
 refine Af (CZ a.typeIs (by decide) ?_);refine Af (Cb a.typeIs AQ
  (Cq AQ a.typeIs CI ?_ (CP _ _)))
 show wpAny _ _ (Builtin.Tuple.tupleItemsOf (.ref t) >>= _) _ _ s;refine Af (Db a ?_);refine Af (CK f ?_);rw [if_pos (by decide)];refine Af (HT.sliceApplied_gen hs pl l ?_);have b:(((HT.sIx items.size 0 lo:Nat):Int)==0&&(1:Int)==1&&(HT.sIx items.size items.size c-HT.sIx items.size 0 lo)==items.size)=true:=by
  rw [j.1,j.2];simp
 show wpAny _ _ (if (((HT.sIx items.size 0 lo:Nat):Int)==0&&(1:Int)==1&&(HT.sIx items.size items.size c-HT.sIx items.size 0 lo)==items.size)=true then _ else _) _ _ s;rw [if_pos b];refine Af ?_;refine Af (CK a.typeIs (Ai ?_));rw [if_pos (by decide)];refine Af (Dk ?_);exact Ai ⟨_,rfl,Ai h⟩
theorem lN:SlR X (λx lo e H Q=>∃ a xs,x=.ref a/\SqT X.K H a xs/\(HT.sIx xs.length 0 lo=0/\HT.sIx xs.length xs.length e=xs.length)/\Q (.ref a) H):=by
 intro pins s σ H x v m k lo e l Q I f hs pl j h;obtain ⟨a,xs,rfl,g,i,q⟩:=h;cases f;obtain ⟨c,r,d,hz⟩:=I.tuple g;have b:c.toArray.size=xs.length:=by rw [Am];exact r.length.symm
 exact ⟨"tuple",_,PyProof.Rows.slot_tuple_getitem.lookup,d.typeIs,A3 d hs pl j (by rw [b];exact i) ⟨.ref a,H,I,rfl,q⟩⟩
theorem uV:SlR X (λx lo hi H Q=>∃ μ S d,RD X.K μ H d x/\Rep X.K cl μ S H/\Post X.K cl xe μ H (slD d lo hi S) λr _ μ' H'=>∀ v,RD X.K μ' H' r v->Q v H'):=by
 intro pins s σ H x v vl vu lo hi sl Q I rx hs pl pu ⟨μ,S,d,rd,rp,p⟩;have sq:∀ {a:Addr} {xs:List V} {ds:List D},SqL X.K H a xs->RDs X.K μ H ds xs->x=.ref a->(∀ μ' H',Lat μ H μ' H'->Rep X.K cl μ' S H'->∀ w,RD X.K μ' H' (.lst (m7 ds lo hi)) w->Q w H') ->
   ∃ T id,typeLookup (.type T) "__getitem__" = pure (some (.builtin id))/\s.TypeIs v T/\wpAny (model X.prog X.w) X.A (getItem v (.ref sl)) (EP X pins σ Q) X.xe s:=λ{a xs ds} hq r2 hv q=>by
  subst hv;refine kY pins s σ H _ v vl vu lo hi sl Q I rx hs pl pu ⟨a,xs,rfl,hq,λz hz=>?_⟩;obtain ⟨l,rp2,rd2⟩:=y8 rp (jC r2 lo hi) hz;exact q μ _ l rp2 _ rd2
 cases rd with
 | tup h r=>
  rename_i a xs ds;by_cases hw:HT.sIx xs.length 0 lo=0/\HT.sIx xs.length xs.length hi=xs.length
  ·refine lN pins s σ H _ v vl vu lo hi sl Q I rx hs pl pu ⟨a,xs,rfl,h.sq,hw,?_⟩;have e:m7 ds lo hi=ds:=by
    unfold m7;rw [r.length,hw.1,hw.2,List.drop_zero,Nat.sub_zero];exact Bl (by rw [r.length];exact Aj _)
   exact p μ H (Lat.refl _ _) rp _ (by rw [e];exact .tup h r)
  ·refine pJ pins s σ H _ v vl vu lo hi sl Q I rx hs pl pu ⟨a,xs,rfl,h.sq,hw,λz hz=>?_⟩;obtain ⟨l,rp2,rd2⟩:=A1 rp (jC r lo hi) hz;exact p μ _ l rp2 _ rd2
 | lst h r=>exact sq h.sq r rfl p
 | scr h r=>exact sq h.sq r rfl p
 | ref h=>
  rename_i n a0;have p2:=p;obtain ⟨a,xs,ds,e1,h1,h2,e2⟩:=d8 (.ref h) rp p2.bind;exact sq (.inl (.inl h1)) h2 e1 (p2.ok_bind e2)
 | _=>exact False.elim p
theorem si {lo k:Option Expr} {c:Pos} {j m:Env->M (Option Int)} (h:PE X e (tD X.K cl xe f)) (t:PO X lo (tPt X.K cl xe j)) (B:PO X k (tPt X.K cl xe m)) :
  PE X (.Subscript e (.Slice lo k none c) pos) (tD X.K cl xe λρ=>bind (f ρ) λd=>bind (j ρ) λl=>bind (m ρ) λu=>slD d l u):=PE.imp (gf uV h t B) λσ H Q ⟨μ,S,ρ,a,s,p⟩=>
 ⟨μ,S,ρ,a,s,p.bind.imp λd S1 g C n o q v x=>⟨g,S1,ρ,a.later n,o,q.bind.imp λl S2 μ2 E i A c=>⟨μ2,S2,ρ,(a.later n).later i,A,c.bind.imp λu z b D y r w=>⟨b,z,d,(x.later i).later y,r,w⟩⟩⟩⟩
end
def G2 (x k v:D):M D:=match x with
 | .ref n=>λS=>match S[n]? with
  | some (.lst ds)=>match k with
   | .int i=>match ixN ds.length i with
    | some j=>.ok .non (S.set n (.lst (ds.set j v)))
    | none=>.bad
   | _=>.bad
  | some (.dct a)=>match m8 k with
   | some b=>if a.length<sizeLine then .ok .non (S.set n (.dct (fH a b v))) else .bad
   | none=>.bad
  | _=>.bad
 | _=>bad
theorem dB {K:PySem.W.Frag} {μ:Mp} {H:Hp} {k:Key}:∀ {a:List (Key×D)} {c:List (Key×V)},KvsAt K μ H a c->(a.any λb=>decide (b.1=k))=c.any λb=>decide (b.1=k)
 | _,_,.nil=>rfl
 | _,_,.cons ⟨d,e⟩ t=>by simp only [Bu,d,dB t]
theorem dI {K:PySem.W.Frag} {μ:Mp} {H:Hp} {k:Key} {d:D} {v:V} (r:RD K μ H d v):∀ {c:List (Key×D)} {e:List (Key×V)},KvsAt K μ H c e->KvsAt K μ H (c.map λa=>if a.1=k then (a.1,d) else a) (e.map λa=>if a.1=k then (a.1,v) else a)
 | _,_,.nil=>.nil
 | _,_,.cons (b:=b) ⟨h1,h2⟩ t=>by
  refine .cons ?_ (dI r t);by_cases f:b.1=k
  ·grind
  ·grind
theorem Paired.app:∀ {xs a:List α} {ys b:List β},Paired P xs ys->Paired P a b->Paired P (xs++a) (ys++b)
 | _,_,_,_,.nil,s=>s
 | _,_,_,_,.cons r t,s=>.cons r (Paired.app t s)
theorem eF {K:PySem.W.Frag} {μ:Mp} {H:Hp} {k:Key} {d:D} {v:V} {a:List (Key×D)} {b:List (Key×V)} (h:KvsAt K μ H a b) (r:RD K μ H d v):KvsAt K μ H (fH a k d) (k0 b k v):=by
 unfold fH k0;rw [dB h];split
 ·exact dI r h
 ·exact Paired.app h (.cons ⟨rfl,r⟩ .nil)
theorem KvsAt.later {K:PySem.W.Frag} {μ μ':Mp} {H H':Hp} {a:List (Key×D)} {b:List (Key×V)} (h:KvsAt K μ H a b) (l:Lat μ H μ' H'):KvsAt K μ' H' a b:=Paired.mono (λ_ _ ⟨z,w⟩=>⟨z,w.later l⟩) h
section
variable {X:Cx} {cl:Nat->Addr} {xe:Addr->Hp->Prop} {a b e:Expr} {es rest:List Expr} {pos:Pos} {f g k:Env->M D}
theorem rh (hu:X.A.units+1<cLine):pK X (λo i v H Q=>∃ μ S x y z,RD X.K μ H x o/\RD X.K μ H y i/\RD X.K μ H z v/\Rep X.K cl μ S H/\Post X.K cl xe μ H (G2 x y z S) λ_ _ _ H'=>Q H'):=by
 intro pins s σ H o i v ov iv u Q I ro ri rv ⟨μ,S,x,y,z,rx,ry,rz,rp,p⟩;cases rx with
 | ref h=>
  rename_i n a;have m:=AF h;simp only [G2] at p;cases q1:S[n]? with
  | none=>rw [q1] at p;exact p.elim
  | some ob=>
   rw [q1] at p;cases ob with
   | lst ds=>
    obtain ⟨xs,h1,h2⟩:=rp.ats n _ a q1 h;cases ry with
    | int j=>
     simp only at p;cases q2:ixN ds.length j with
     | none=>rw [q2] at p;exact p.elim
     | some t=>
      rw [q2] at p;refine iO pins s σ H _ _ v ov iv u Q I ro ri rv ⟨a,xs,j,t,rfl,rfl,h1,by rw [<- h2.length];exact q2,?_⟩;exact p μ _ (Lat.wrote m) (rp.wrote h ⟨_,b4,(h2.set rz t).later (Lat.wrote m)⟩)
    | _=>exact False.elim p
   | dct kvs=>
    obtain ⟨ks,h1,h2⟩:=rp.ats n _ a q1 h;cases q2:m8 y with
    | none=>rw [q2] at p;exact p.elim
    | some key=>
     rw [q2] at p;by_cases hl:kvs.length<sizeLine
     ·simp only [if_pos hl] at p;have hy:=w5 ry q2;subst hy;cases ro;have hl2:ks.length<sizeLine:=by rw [<- Paired.length h2];exact hl
      refine fY hu I (DPut.k h1 hl2) ri rv λs' I'=>⟨_,I',?_⟩;exact p μ _ (Lat.wrote m) (rp.wrote h ⟨_,b4,(eF h2 rz).later (Lat.wrote m)⟩)
     ·simp only [if_neg hl] at p;exact p.elim
   | exc _ _=>exact p.elim
 | _=>exact False.elim p
theorem eg (h:k7 b=true):∀ v,assign (.Subscript a b p2) env v=(do
   let c <- holding [v] (eval a env)
   let d <- holding [v,c] (eval b env)
   standAt p2
   holding [v,c,d] (setItem c d v)
   release [v,c,d] []):=by
 intro v;cases b <;> first | rfl | (exact absurd h (by simp [k7]))
theorem gj (o:X.A.units+1<cLine) (L:PE X e (tD X.K cl xe f)) (J:PE X a (tD X.K cl xe g)) (I:PE X b (tD X.K cl xe k)) (s:j6 e=true) (u:k7 b=true) :
  PS X (.Assign [.Subscript a b n] e pos) (sD X.K cl xe λρ=>bind (f ρ) λv=>bind (g ρ) λx=>bind (k ρ) λy=>bind (G2 x y v) λ_=>ret (.nx ρ)):=
 PS.imp (bv L (nD J I (rh o) (eg u)) (by unfold swapsWithSole;exact y3 s) rfl rfl) λD σ H ⟨μ,S,ρ,c,z,p⟩=>
  ⟨μ,S,ρ,c,z,p.bind.imp λv S1 j P m r t vv F=>⟨j,S1,ρ,c.later m,r,t.bind.imp λx S2 μ2 T d N n R K=>⟨μ2,S2,ρ,(c.later m).later d,N,n.bind.imp λy M i Q l w E O q=>
   ⟨i,M,x,y,v,K.later l,q,(F.later d).later l,w,E.bind.imp λ_ U h B G C A=>A.ret h B (Lat.refl _ _) C σ ((((c.later m).later d).later l).later G)⟩⟩⟩⟩
def cS (x:D) (ds:List D):M D:=match x,ds with
 | .ref n,[d]=>λS=>match S[n]? with
  | some (.lst es)=>if es.length<sizeLine then .ok .non (S.set n (.lst (es++[d]))) else .bad
  | _=>.bad
 | _,_=>bad
def p7 (es:List Expr):Bool:=decide (es.length<30)
theorem cp (b:es.all a9=true) (a:p7 es=true):((backTo cpos (starEach es X.env)).all (λx=>!x.1)&&(backToKw cpos (keywordEach [] X.env)).all (λx=>x.1.isSome)&&decide (es.length+([]:List Keyword).length+(if ([]:List Keyword).isEmpty then 0 else 1)<30))=true:=by
 rw [T1 b];simpa [keywordEach,backToKw] using AS a
theorem fA (ho:PE X a (tD X.K cl xe f)) (ha:PA X (e :: es) (tDs X.K cl xe fs)) (hb:i5 a=true) (hs:(e :: es).all a9=true) (hf:p7 (e :: es)=true) (hl:(apos.endLine==cpos.line)=true) :
  PE X (.Call (.Attribute a "append" apos) (e :: es) [] cpos) (tD X.K cl xe λρ=>bind (f ρ) λx=>bind (lstOf x) λ_=>bind (fs ρ) λds=>cS x ds):=by
 have hs2:=hs;rw [Be,Ag] at hs2;refine PE.imp (mq Cd PySem.F.slot_list_append PySem.F.type_list_append I0 ho ha (p6 hb) (cp hs hf) hl (f7 hs2.1) (m9 hs2.2)) λσ H Q ⟨μ,S,ρ,eo,rp,p⟩=>?_;refine ⟨μ,S,ρ,eo,rp,p.bind.imp λx S1 μ1 H1 l1 r1 p1 xv rx=>?_⟩;obtain ⟨a0,xs0,ds0,e0,h0,r0,q0⟩:=d8 rx r1 p1.bind;have p1:=p1.ok_bind q0;subst e0;refine ⟨.inl ⟨rfl,_,.inl (.inl h0)⟩,μ1,S1,ρ,eo.later l1,r1,p1.bind.imp λds S2 μ2 H2 l2 r2 p2 vs rvs=>?_⟩;have rx2:=rx.later l2;clear p1;cases rx2 with
 | ref h=>
  rename_i n
  match ds,rvs with
  | [],_=>exact False.elim p2
  | _ :: _ :: _,_=>exact False.elim p2
  | [d],rvs=>
   obtain ⟨v,rfl,rv⟩:=tu rvs;simp only [cS] at p2;cases q1:S2[n]? with
   | none=>rw [q1] at p2;exact p2.elim
   | some o=>
    rw [q1] at p2;cases o with
    | lst es=>
     obtain ⟨xs,h1,h2⟩:=r2.ats n _ _ q1 h;by_cases hl:es.length<sizeLine
     ·simp only [if_pos hl] at p2;have m:=AF h;refine ⟨_,xs,v,rfl,rfl,h1,by rw [<- h2.length];exact hl,?_⟩;exact p2 μ2 _ (Lat.wrote m) (r2.wrote h ⟨_,b4,(h2.append (.cons rv .nil)).later (Lat.wrote m)⟩) _ .non
     ·simp only [if_neg hl] at p2;exact p2.elim
    | dct _=>exact p2.elim
    | exc _ _=>exact p2.elim
 | _=>exact False.elim p2
end
def t0:List ((Env->M D)×(Env->M D))->Env->M (List (D×D))
 | [],_=>ret []
 | (f,g) :: r,ρ=>bind (f ρ) λx=>bind (g ρ) λy=>bind (t0 r ρ) λps=>ret ((x,y) :: ps)
def cq (c a:List (Key×D)):List (Key×D):=a.foldl (λb d=>fH b d.1 d.2) c
def W0 (p:D×D):Option (Key×D):=(m8 p.1).map λk=>(k,p.2)
def bp (ps:List (D×D)):M D:=λS=>match d9 W0 ps with
 | some a=>if a.length<=15 then .ok (.ref S.length) (S++[.dct (cq [] a)]) else .bad
 | none=>.bad
section
variable {K:PySem.W.Frag} {cl:Nat->Addr} {xe:Addr->Hp->Prop} {μ:Mp} {H:Hp} {S:Sto} {β:Type}
theorem V6:∀ {d:List (Key×D)} {ms:List (Key×V)} {c:List (Key×D)} {e:List (Key×V)},KvsAt K μ H d ms->KvsAt K μ H c e->KvsAt K μ H (cq c d) (C7 e ms)
 | _,_,_,_,.nil,h=>h
 | _,_,c,e,.cons (a:=a) (b:=b) ⟨h1,h2⟩ t,h=>by
  show KvsAt K μ H (cq (fH c a.1 a.2) _) (C7 (k0 e b.1 b.2) _);rw [h1];exact V6 t (eF h h2)
abbrev RPs (K:PySem.W.Frag) (μ:Mp) (H:Hp):List (D×D)->List (V×V)->Prop:=Paired λx y=>RD K μ H x.1 y.1/\RD K μ H x.2 y.2
theorem bind_assoc (m:M α) (k:α->M β) (j:β->M γ):bind (bind m k) j=bind m λa=>bind (k a) j:=by
 funext S;unfold bind;grind
theorem f4 (a:α) (k:α->M β):bind (ret a) k=k a:=rfl
theorem K0 {ρ:Env} {σ:L2.St}:∀ {fks:List ((Env->M D)×(Env->M D))} {k:List (D×D)->M β} {G:β->Sto->Mp->Hp->Prop} {R:List (V×V)->Hp->Prop} {μ2:Mp} {c:Hp} {S2:Sto},Post K cl xe μ H (bind (t0 fks ρ) k S2) G->HLat μ H p μ2 c->p∉μ2.pl->c p=some o->EnvOk K μ2 c ρ σ->Rep K cl μ2 S2 c ->
  (∀ ps d a j ds,HLat μ H p a d->p∉a.pl->d p=some o->Rep K cl a j d->Lat μ2 c a d->RPs K a d ds ps->Post K cl xe μ H (k ds j) G->R ps d)->aM (fks.map λz=>(tD K cl xe z.1,tD K cl xe z.2)) σ c R
 | [],k,G,R,μ2,c,S2,h,l,n,e,i,s,q=>q [] c μ2 S2 [] l n e s (Lat.refl _ _) .nil h
 | (f,g) :: r,k,G,R,μ2,c,S2,h,l,n,e,i,s,q=>by
  have S:Post K cl xe μ H (bind (f ρ) (λx=>bind (g ρ) λy=>bind (t0 r ρ) λps=>k ((x,y) :: ps)) S2) G:=by
   have:bind (t0 ((f,g) :: r) ρ) k=bind (f ρ) (λx=>bind (g ρ) λy=>bind (t0 r ρ) λps=>k ((x,y) :: ps)):=by
    show bind (bind (f ρ) λx=>bind (g ρ) λy=>bind (t0 r ρ) λps=>ret ((x,y) :: ps)) k=_;simp only [bind_assoc,f4]
   rw [<- this];exact h
  refine ⟨μ2,S2,ρ,i,s,(S.at l).imp λx j a d t T C N I=>?_⟩;refine ⟨a,j,ρ,i.later t,T,(C.at (l.step t)).imp λy S4 Y Z A P L U F=>?_⟩;have b:=t.trans A;have O:=b.oth _ _ e n;refine K0 L (l.step b) (b.out e n) O (i.later b) P λps E m B ds w W X J u v Q=>?_;exact q ((N,U) :: ps) E m B ((x,y) :: ds) w W X J (b.trans u) (.cons ⟨(I.later A).later u,F.later u⟩ v) Q
theorem cu {p:Addr} {u:HO} {ob:O} {rs:List Addr} {kz:List (Key×V)} (er:μ.rs=p :: rs) (nr:p∉rs) (hp:H p=some (.dK kz)) (rp:Rep K cl μ S H) (ho:OAt K cl ⟨μ.pl++[p],rs⟩ (upd H p u) p ob):Rep K cl ⟨μ.pl++[p],rs⟩ (S++[ob]) (upd H p u):=by
 have np:p∉μ.pl:=(rp.res p (by rw [er];exact Ap)).1;have hp':∀ (n:Nat) (a:Addr),μ.pl[n]?=some a->(μ.pl++[p])[n]?=some a:=λn a e=>by rw [Az (Al.mp e).1];exact e
 have ho':∀ a w,H a=some w->a∉μ.pl->a∉μ.rs->upd H p u a=some w/\a∉(⟨μ.pl++[p],rs⟩:Mp).pl/\a∉(⟨μ.pl++[p],rs⟩:Mp).rs:=λa w e n1 n2=>by
  have ne:a≠p:=λz=>n2 (by rw [er,z];exact Ap);refine ⟨by rw [a4 ne];exact e,λz=>?_,λz=>n2 (by rw [er];exact Av _ z)⟩;rcases Ax.mp z with z | z
  ·exact n1 z
  ·exact ne (AB.mp z)
 refine ⟨by simp [rp.len],?_,λn o a e1 e2=>?_,λa m=>?_⟩
 ·show (μ.pl++[p]).Nodup;rw [Da];exact ⟨rp.nd,by simp,λa m b m2=>by rw [AB.mp m2];rintro rfl;exact np m⟩
 ·have e2:(μ.pl++[p])[n]?=some a:=e2;by_cases hn:n<S.length
  ·rw [Az hn] at e1;rw [Az (by rw [rp.len];exact hn)] at e2;have h:=rp.ats n o a e1 e2;have ka:upd H p u a=H a:=a4 λz=>np (z▸AF e2);cases o with
   | lst ds=>obtain ⟨xs,e,q⟩:=h;exact ⟨xs,by rw [ka];exact e,q.move hp' ho'⟩
   | dct kvs=>obtain ⟨xs,e,q⟩:=h;exact ⟨xs,by rw [ka];exact e,Paired.mono (λ_ _ ⟨z,w⟩=>⟨z,w.move hp' ho'⟩) q⟩
   | exc c fs=>
    obtain ⟨xc,gs,q,fr,h⟩:=h;refine ⟨xc,gs,Paired.mono (λ_ _ ⟨z,w⟩=>⟨z,w.move hp' ho'⟩) q,fr,?_⟩;rcases h with ⟨z,e⟩ | ⟨d,h1,h2,e,e3⟩
    ·exact .inl ⟨z,by rw [ka];exact e⟩
    ·have ne:d≠p:=ia e3 hp (by intro z;cases z);refine .inr ⟨d,h1,λz=>?_,by rw [ka];exact e,by rw [a4 ne];exact e3⟩;rcases Ax.mp z with z | z
     ·exact h2 z
     ·exact ne (AB.mp z)
  ·have hn2:n=S.length:=by
    have:=(Al.mp e1).1;simp at this;omega
   subst hn2;rw [<- rp.len] at e2;simp at e1 e2;subst e1;subst e2;exact ho
 ·have m:a∈rs:=m;obtain ⟨h1,w,h2⟩:=rp.res a (by rw [er];exact Av _ m);have ne:a≠p:=λz=>nr (z▸m);refine ⟨λz=>?_,w,by rw [a4 ne];exact h2⟩;rcases Ax.mp z with z | z
  ·exact h1 z
  ·exact ne (AB.mp z)
theorem O3:∀ {ds:List (D×D)} {ps:List (V×V)} {c:List (Key×D)},RPs K μ H ds ps->d9 W0 ds=some c->∃ f:List (Key×V),KvsAt K μ H c f/\ps=f.map (λg=>(kV g.1,g.2))
 | _,_,c,.nil,e=>by cases e;exact ⟨[],.nil,rfl⟩
 | _,_,c,.cons (a:=a) (b:=b) ⟨h1,h2⟩ t,e=>by
  simp only [d9] at e;cases d:W0 a with
  | none=>rw [d] at e;cases e
  | some g=>
   rename_i m q;cases h:d9 W0 m with
   | none=>rw [d,h] at e;cases e
   | some j=>
    rw [d,h] at e;cases e;obtain ⟨f,o,n⟩:=O3 t h;unfold W0 at d;cases i:m8 a.1 with
    | none=>grind
    | some k=>
     rw [i] at d;cases d;have:=w5 h1 i;obtain ⟨p,l⟩:=b;subst this;exact ⟨(k,l) :: f,.cons ⟨rfl,h2⟩ o,by rw [n];rfl⟩
end
section
variable {X:Cx} {cl:Nat->Addr} {xe:Addr->Hp->Prop} {pos:Pos}
theorem kF (h:PPs X pos keys values (fks.map λy=>(tD X.K cl xe y.1,tD X.K cl xe y.2))) (j:keys.all (·.isSome)=true) (I:keys.length=values.length) (O:keys≠[]) (f:keys.length<=15) :
  PE X (.Dict keys values pos) (tD X.K cl xe λρ=>bind (t0 fks ρ) bp):=PE.imp (lr h j I O f) λσ H Q ⟨μ,S,ρ,M,l,P⟩=>by
 intro p i;have q:=l.notrs i;refine K0 (μ2:=μ.hold p) P ?_ (l.notin i) b4 (au l i M) (bo l i) λps A c R ds b L C E U t g=>?_
 ·refine ⟨⟨λ_ _ e=>e,λa o e _=>by rw [a4 (a8 e i)];exact e,λa m=>.inl m,λa m=>?_⟩,rfl⟩;rcases Ar.mp (m) with rfl | m
  ·exact .inr i
  ·exact .inl m
 ·simp only [bp] at g;cases s:d9 W0 ds with
  | none=>rw [s] at g;exact g.elim
  | some x=>
   rw [s] at g;by_cases f:x.length<=15
   ·simp only [if_pos f] at g;obtain ⟨K,B,G⟩:=O3 t s;refine ⟨C,K,G,by rw [<- Paired.length B];exact f,?_⟩;have W:=L;have k:∀ (n:Nat) (a:Addr),c.pl[n]?=some a->(c.pl++[p])[n]?=some a:=λn a e=>by rw [Az (Al.mp e).1];exact e
    have N:∀ {u:HO} {d:D} {v:V},RD X.K c A d v->RD X.K ⟨c.pl++[p],μ.rs⟩ (upd A p u) d v:=λr=>r.move k λa w e J F=>by
     have T:a≠p:=λz=>F (by rw [b.rs,z];exact Ap);refine ⟨by rw [a4 T];exact e,λz=>?_,λz=>F (by rw [b.rs];exact Av _ z)⟩;rcases Ax.mp z with z | z
     ·exact J z
     ·grind
    refine g ⟨c.pl++[p],μ.rs⟩ _ ?_ (cu b.rs q C E ⟨_,b4,V6 (Paired.mono (λ_ _ ⟨z,w⟩=>⟨z,N w⟩) B) .nil⟩) _ (.ref ?_)
    ·refine ⟨λn a e=>k n a (b.r.pre n a e),λa o e n=>?_,λa m=>?_,rfl⟩
     ·rw [a4 (a8 e i)];exact b.r.oth a o e n
     ·rcases Ax.mp (m) with m | m
      ·exact b.r.new a m
      ·grind
    ·show (c.pl++[p])[R.length]?=some p;rw [<- E.len];simp
   ·simp only [if_neg f] at g;exact g.elim
end
def tys:List String:=["NoneType","bool","int","str","tuple","list","dict"]
def subT (t T:String):Bool:=t==T||(t == "bool" && T == "int")
theorem mH (K:PySem.W.Frag):∀ t∈tys,∀ T∈tys,PySem.W.kitOne K (.type t) (.type T)=some (subT t T):=by
 intro t a T b;simp only [tys,Ar,AH,Br] at a b;rcases a with rfl | rfl | rfl | rfl | rfl | rfl | rfl <;> rcases b with rfl | rfl | rfl | rfl | rfl | rfl | rfl <;> kernel_rfl
def tyD (S:Sto) (d:D):Option String:=match d with
 | .non=>some "NoneType"
 | .bl _=>some "bool"
 | .int _=>some "int"
 | .str _=>some "str"
 | .tup _=>some "tuple"
 | .lst _=>some "list"
 | .scr _=>some "list"
 | .ref n=>match S[n]? with
  | some (.lst _)=>some "list"
  | some (.dct _)=>some "dict"
  | _=>none
def r8 (T:String) (sx:Nat->Bool) (d:D):M D:=λS=>match tyD S d with
 | some t=>.ok (.bl (subT t T)) S
 | none=>match d with
  | .ref n=>match S[n]? with
   | some (.exc c _)=>.ok (.bl (sx c)) S
   | _=>.bad
  | _=>.bad
def fM (sx:Nat->Bool) (d:D):M D:=λS=>match d with
 | .ref n=>match S[n]? with
  | some (.exc c _)=>.ok (.bl (sx c)) S
  | _=>.bad
 | _=>.bad
section
variable {X:Cx} {cl:Nat->Addr} {xe:Addr->Hp->Prop} {a:Expr} {pos p q:Pos} {f:Env->M D}
theorem kX {sx:Nat->Bool} (j:sg T=some c0) (g:∀ c,XC X.K (cl c)->PySem.W.kitOne X.K (.ref (cl c)) c0=some (sx c)) {pins:List (Addr×Obj)} {s:Shared} {σ:L2.St} {H:Hp} {us:List Value} {Q:VK} {μ:Mp} {S:Sto} {n:Nat} {b:Addr} {c:Nat} {fs:List (Str×D)} (I:L2.Inv X pins σ H s) (r:Vals [.ref b,T] us)
  (l:Rep X.K cl μ S H) (e:S[n]?=some (.exc c fs)) (h:μ.pl[n]?=some b) (q:Q (.bl (sx c)) H):wpAny (model X.prog X.w) X.A (call (.builtin "isinstance") us) (EP X pins σ Q) X.xe s:=by
 obtain ⟨a,gs,p,i,k⟩:=l.ats n _ b e h;rcases k with ⟨z,f⟩ | ⟨d,o,t,f,m⟩
 ·exact V2 pins s σ H _ us Q I r ⟨i,b,cl c,none,T,c0,sx c,rfl,a,f,λ_ z=>(nomatch z),j,g c a,q⟩
 ·exact V2 pins s σ H _ us Q I r ⟨i,b,cl c,some d,T,c0,sx c,rfl,a,f,λd' z=>by cases z;exact ⟨gs,m⟩,j,g c a,q⟩
theorem eQ (hT:T∈tys) {pins:List (Addr×Obj)} {s:Shared} {σ:L2.St} {H:Hp} {us:List Value} {Q:VK} {μ:Mp} {S:Sto} {d:D} {v:V} {t:String} (I:L2.Inv X pins σ H s) (r:Vals [v,.ty T] us) (rd:RD X.K μ H d v) (rp:Rep X.K cl μ S H) (e:tyD S d=some t)
  (q:Q (.bl (subT t T)) H):wpAny (model X.prog X.w) X.A (call (.builtin "isinstance") us) (EP X pins σ Q) X.xe s:=by
 obtain ⟨u,u2,rfl,ru,ru2⟩:=jJ r;cases (ru2);have ht:t∈tys:=by
  cases d <;> simp only [tyD] at e <;> first
   | (cases e;decide)
   | (split at e <;> first | (cases e;decide) | cases e)
 have hk:=mH X.K t ht T hT;have fin:∀ tk,EP X pins σ Q (.bool (subT t T)) { s with toks:=tk }:=λtk=>⟨.bl _,H,I.tok _,rfl,q⟩;have tupT:∀ {b:Addr} {xs:List V},SqT X.K H b xs->u=.ref b->t = "tuple"->wpAny (model X.prog X.w) X.A (call (.builtin "isinstance") [u,.type T]) (EP X pins σ Q) X.xe s:=λ{b xs} h eu et=>by
  subst eu et;obtain ⟨its,_,⟨o,h1,h2,_⟩,_⟩:=I.tuple h;exact Bg PySem.W.kitx_tuple I.kIn ⟨o,h1,h2⟩ hk (λz=>nomatch z) fin
 have lstT:∀ {b:Addr} {xs:List V},SqL X.K H b xs->u=.ref b->t = "list"->wpAny (model X.prog X.w) X.A (call (.builtin "isinstance") [u,.type T]) (EP X pins σ Q) X.xe s:=λ{b xs} h eu et=>by
  subst eu et;obtain ⟨its,_,⟨o,n,h1,h2,_⟩,_⟩:=I.list h;exact Bg PySem.W.kitx_list I.kIn ⟨o,h1,h2⟩ hk (λz=>nomatch z) fin
 cases rd with
 | non=>cases (ru);cases e;exact Bg PySem.W.kitx_none I.kIn True.intro hk (λz=>nomatch z) fin
 | bl b=>cases (ru);cases e;exact Bg PySem.W.kitx_bool I.kIn True.intro hk (λz=>nomatch z) fin
 | int i=>obtain ⟨tk,q⟩:=(ru);cases q;cases e;exact Bg PySem.W.kitx_int I.kIn True.intro hk (λz=>nomatch z) fin
 | str x=>obtain ⟨tk,q⟩:=(ru);cases q;cases e;exact Bg PySem.W.kitx_str I.kIn True.intro hk (λz=>nomatch z) fin
 | tup h r=>cases e;exact tupT h.sq ru rfl
 | lst h r=>cases e;exact lstT h.sq ru rfl
 | scr h r=>cases e;exact lstT h.sq ru rfl
 | ref h=>
  rename_i n b;simp only [tyD] at e;cases q1:S[n]? with
  | none=>rw [q1] at e;cases e
  | some o=>
   rw [q1] at e;cases o with
   | lst ds=>
    cases e;obtain ⟨xs,h1,h2⟩:=rp.ats n _ b q1 h;exact lstT (.inl (.inl h1)) ru rfl
   | dct kvs=>
    cases e;obtain ⟨ks,h1,h2⟩:=rp.ats n _ b q1 h;cases (ru);obtain ⟨_,_,vs,_,pp⟩:=(I.hok b _ h1);obtain ⟨o,es,ep,g1,g2,_⟩:=pp;exact Bg PySem.W.kitx_dict I.kIn ⟨o,g1,g2.1⟩ hk (λz=>nomatch z) fin
   | exc _ _=>cases e
theorem dg {T:String} {sx:Nat->Bool} (hT:T∈tys\/T = "ValueError") (hk:∀ c,XC X.K (cl c)->PySem.W.kitOne X.K (.ref (cl c)) (.type T)=some (sx c)) (h:PE X a (tD X.K cl xe f)) (hg:Gl X "isinstance") (hm:X.mg "isinstance" = none) (hg2:Gl X x) (hm2:X.mg x=none) (hv:bootBuiltins x=some (.type T)) (hn:x ≠ "__name__") (hd:(x==("__debug__" : Str))=false) (hs:a9 a=true) :
  PE X (.Call (.Name "isinstance" p) [a,.Name x q] [] pos) (tD X.K cl xe λρ=>bind (f ρ) λd=>if T∈tys then r8 T sx d else fM sx d):=by
 have key:e8 X (.builtin "isinstance") (λvs H Q=>∃ μ S d v,vs=[v,.ty T]/\RD X.K μ H d v/\Rep X.K cl μ S H/\Post X.K cl xe μ H ((if T∈tys then r8 T sx d else fM sx d) S) λr _ μ' H'=>∀ v,RD X.K μ' H' r v->Q v H'):=by
  intro pins s σ H xs us Q I r ⟨μ,S,d,v,ev,rd,rp,P⟩;subst ev;have ex:∀ {n:Nat} {b:Addr} {c:Nat} {fs:List (Str×D)},v=.ref b->S[n]?=some (.exc c fs)->μ.pl[n]?=some b->Q (.bl (sx c)) H->wpAny (model X.prog X.w) X.A (call (.builtin "isinstance") us) (EP X pins σ Q) X.xe s:=λ{n b c fs} ev e h q=>by
   subst ev;exact kX rfl hk I r rp e h q
  by_cases ht:T∈tys
  ·rw [if_pos ht] at P;unfold r8 at P;cases e:tyD S d with
   | some t=>rw [e] at P;exact eQ ht I r rd rp e (P μ H (Lat.refl _ _) rp _ (.bl _))
   | none=>
    rw [e] at P;cases rd with
    | ref h=>
     rename_i n b;simp only at P;cases q1:S[n]? with
     | none=>rw [q1] at P;exact P.elim
     | some o=>
      rw [q1] at P;cases o with
      | exc c fs=>exact ex rfl q1 h (P μ H (Lat.refl _ _) rp _ (.bl _))
      | lst _=>exact P.elim
      | dct _=>exact P.elim
    | _=>exact False.elim P
  ·rw [if_neg ht] at P;unfold fM at P;cases rd with
   | ref h=>
    rename_i n b;simp only at P;cases q1:S[n]? with
    | none=>rw [q1] at P;exact P.elim
    | some o=>
     rw [q1] at P;cases o with
     | exc c fs=>exact ex rfl q1 h (P μ H (Lat.refl _ _) rp _ (.bl _))
     | lst _=>exact P.elim
     | dct _=>exact P.elim
   | _=>exact False.elim P
 have hb:PE X (.Name x q) (tC (.ty T)):=lS hg2 hm2 hv rfl hn hd;refine PE.imp (bR key hg hm (by rfl) (aR h (aR hb jO (f7 rfl)) (f7 hs)) (by decide) (by decide) (f7 hs) (m9 rfl)) λσ H Q ⟨μ,S,ρ,eo,rp,P⟩=>?_;exact ⟨μ,S,ρ,eo,rp,P.bind.imp λd S1 μ1 H1 l1 r1 p1 v rv=>⟨μ1,S1,d,v,rfl,rv,r1,p1⟩⟩
end
theorem O9 (a:List Bool):(List.range a.length).map (λi=>a.getD i false)=a:=by
 apply List.ext_getElem
 ·simp
 ·grind
theorem fq (a:List Bool):(List.range a.length).any (λi=>a.getD i false)=a.any id:=by
 conv=>rhs;rw [<- O9 a,List.any_map]
 rfl
theorem eT (a:List Bool):(List.range a.length).all (λi=>a.getD i false)=a.all id:=by
 conv=>rhs;rw [<- O9 a,Dl]
 rfl
section
variable {X:Cx}
theorem J8 {c:List Bool} {d:List Value} (r:Vals (c.map V.bl) d):TruthOf X.prog X.w A (λi v=>d.toArray[i]?=some v) (λi=>c.getD i false):=by
 intro i v s Q E e h;rw [List.getElem?_toArray] at e;have g:i<c.length:=by
  have a:=r.length;rw [AE] at a;have b:=(Al.mp e).1;omega
 obtain ⟨u,f,j⟩:=Vals.get r (by rw [AR,As g];rfl);rw [e] at f;cases f;cases j;have:c.getD i false=c[i]:=by simp [g]
 exact CW (this▸h)
theorem bm (g:X.calm=true):e8 X (.builtin "any") (λxs H Q=>∃ (p:Addr) (a:List Bool),xs=[.ref p]/\SqL X.K H p (a.map V.bl)/\Q (.bl (a.any id)) H):=by
 intro pins s σ H xs us Q I r h;obtain ⟨p,a,rfl,w,q⟩:=h;obtain ⟨u,rfl,l⟩:=v6 r;cases l;obtain ⟨c,d,pl,hz⟩:=I.list w;have t:=I.ok.hd g;have m:p<s.heap.objs.size:=by
  obtain ⟨o,v,_⟩:=pl.isList;exact An v
 have j:c.length=a.length:=by rw [<- d.length,AE]
 refine call_any_walk (BG pl.isList ⟨s.heap.objs.size,[s.heap.objs.size,p],[s.heap.objs.size],c.toArray.size,_,_,λi=>a.getD i false,rfl,Walks.list (A:=X.A.in1) (t) _ _ (At m) c.toArray,⟨?_,?_⟩,J8 d,λh' x k=>?_⟩)
 ·exact ⟨_,Aw _ rfl,rfl,rfl⟩
 ·exact pl.isList.push _
 ·have e:(List.range c.toArray.size).any (λi=>a.getD i false)=a.any id:=by
   rw [Am,j];exact fq a
  rw [e];refine ⟨.bl (a.any id),H,I.kept λb o f=>?_,rfl,q⟩;have n:=An f;exact k b o (by simp;exact At n) (Ah _ f)
theorem bC (g:X.calm=true):e8 X (.builtin "all") (λxs H Q=>∃ (p:Addr) (a:List Bool),xs=[.ref p]/\SqL X.K H p (a.map V.bl)/\Q (.bl (a.all id)) H):=by
 intro pins s σ H xs us Q I r h;obtain ⟨p,a,rfl,w,q⟩:=h;obtain ⟨u,rfl,l⟩:=v6 r;cases l;obtain ⟨c,d,pl,hz⟩:=I.list w;have t:=I.ok.hd g;have m:p<s.heap.objs.size:=by
  obtain ⟨o,v,_⟩:=pl.isList;exact An v
 have j:c.length=a.length:=by rw [<- d.length,AE]
 refine call_all_walk (BG pl.isList ⟨s.heap.objs.size,[s.heap.objs.size,p],[s.heap.objs.size],c.toArray.size,_,_,λi=>a.getD i false,rfl,Walks.list (A:=X.A.in1) (t) _ _ (At m) c.toArray,⟨?_,?_⟩,J8 d,λh' x k=>?_⟩)
 ·exact ⟨_,Aw _ rfl,rfl,rfl⟩
 ·exact pl.isList.push _
 ·have e:(List.range c.toArray.size).all (λi=>a.getD i false)=a.all id:=by
   rw [Am,j];exact eT a
  rw [e];refine ⟨.bl (a.all id),H,I.kept λb o f=>?_,rfl,q⟩;have n:=An f;exact k b o (by simp;exact At n) (Ah _ f)
variable {cl:Nat->Addr} {xe:Addr->Hp->Prop}
def y0:List D->Option (List Bool)
 | []=>some []
 | .bl b :: ds=>(y0 ds).map (b :: ·)
 | _=>none
theorem cN {K:PySem.W.Frag} {μ:Mp} {H:Hp}:∀ {ds:List D} {vs:List V} {a:List Bool},y0 ds=some a->RDs K μ H ds vs->vs=a.map V.bl
 | [],_,a,e,r=>by cases r;cases e;rfl
 | d :: ds,_,a,e,r=>by
  cases r with
  | cons h t=>
   cases d <;> try (simp [y0] at e;done)
   case bl b=>
    simp only [y0] at e;cases c:y0 ds with
    | none=>rw [c] at e;cases e
    | some f=>
     rw [c] at e;cases e;cases h;rw [cN c t];rfl
def lX (d:D):M D:=bind (lstOf d) λds=>match y0 ds with
 | some a=>ret (.bl (a.any id))
 | none=>bad
def ku (d:D):M D:=bind (lstOf d) λds=>match y0 ds with
 | some a=>ret (.bl (a.all id))
 | none=>bad
theorem rX (c:X.calm=true):e8 X (.builtin "any") (rPs X.K cl xe (one lX)):=v7 λpins s σ H μ S d v us Q I r j b p=>by
 obtain ⟨a,xs,ds,rfl,f,g,i⟩:=d8 j b p.bind;have p:=p.ok_bind i;cases e:y0 ds with
 | none=>rw [e] at p;exact p.elim
 | some h=>
  rw [e] at p;have:=cN e g;subst this;exact bm c pins s σ H _ us Q I r ⟨a,h,rfl,.inl (.inl f),p μ H (Lat.refl _ _) b _ (.bl _)⟩
theorem rg (c:X.calm=true):e8 X (.builtin "all") (rPs X.K cl xe (one ku)):=v7 λpins s σ H μ S d v us Q I r j b p=>by
 obtain ⟨a,xs,ds,rfl,f,g,i⟩:=d8 j b p.bind;have p:=p.ok_bind i;cases e:y0 ds with
 | none=>rw [e] at p;exact p.elim
 | some h=>
  rw [e] at p;have:=cN e g;subst this;exact bC c pins s σ H _ us Q I r ⟨a,h,rfl,.inl (.inl f),p μ H (Lat.refl _ _) b _ (.bl _)⟩
def tH (d:D):M D:=match d with
 | .int i=>ret (.int i)
 | .bl b=>ret (.int (if b then 1 else 0))
 | _=>bad
theorem se:e8 X (.type "int") (rPs X.K cl xe (one tH)):=v7 λpins s σ H μ S d v us Q I r rd rp p=>by
 cases rd with
 | int i=>exact V7 pins s σ H _ us Q I r (.inl ⟨i,rfl,p μ H (Lat.refl _ _) rp _ (.int _)⟩)
 | bl b=>exact V7 pins s σ H _ us Q I r (.inr ⟨b,rfl,p μ H (Lat.refl _ _) rp _ (.int _)⟩)
 | _=>exact False.elim p
def kc (d:D):M D:=match d with
 | .int i=>if i.natAbs.log2<1920 then ret (.str (toString i)) else bad
 | _=>bad
theorem rm:e8 X (.type "str") (rPs X.K cl xe (one kc)):=v7 λpins s σ H μ S d v us Q I r rd rp p=>by
 cases rd with
 | int i=>
  obtain ⟨h,p⟩:=Post.guard p;exact Z7 pins s σ H _ us Q I r ⟨i,rfl,h,p μ H (Lat.refl _ _) rp _ (.str _)⟩
 | _=>exact False.elim p
def fW (d:D):M D:=match d with
 | .int i=>ret (.int (-i))
 | _=>bad
theorem gM:UnR X (unaryOp .USub) (λx H Q=>∃ μ S d,RD X.K μ H d x/\Rep X.K cl μ S H/\Post X.K cl xe μ H (fW d S) λr _ μ' H'=>∀ v,RD X.K μ' H' r v->Q v H'):=by
 intro pins s σ H x v Q I rx ⟨μ,S,d,rd,rp,p⟩;cases rd with
 | int i=>exact nP pins s σ H _ v Q I rx ⟨i,rfl,p μ H (Lat.refl _ _) rp _ (.int _)⟩
 | _=>exact False.elim p
theorem oF (h:PE X a (tD X.K cl xe f)):PE X (.UnaryOp .USub a pos) (tD X.K cl xe λρ=>bind (f ρ) fW):=
 PE.imp (tw gM h) λσ H Q ⟨μ,S,ρ,c,e,p⟩=>⟨μ,S,ρ,c,e,p.bind.imp λd S1 b k l i g v j=>⟨b,S1,d,j,i,g⟩⟩
end
theorem Q6:∀ {xs:List V} {us:List Value},Vals xs us->Vals xs.reverse us.reverse
 | _,_,.nil=>.nil
 | _,_,.cons r t=>by
  rw [BH,BH];exact (Q6 t).append (.cons r .nil)
theorem aK {K:PySem.W.Frag} {μ:Mp} {H:Hp}:∀ {ds:List D} {vs:List V},RDs K μ H ds vs->RDs K μ H ds.reverse vs.reverse
 | _,_,.nil=>.nil
 | _,_,.cons r t=>by
  rw [BH,BH];exact (aK t).append (.cons r .nil)
theorem fm_congr {a c:Type} {f g:a->Option c}:∀ {l:List a},(∀ x∈l,f x=g x)->l.filterMap f=l.filterMap g
 | [],_=>rfl
 | x :: l,h=>by
  rw [Bv,Bv,h x (Ap ..),fm_congr λy b=>h y (Av _ b)]
theorem jb (a:List Value):slicePick a.toArray none none (some (-1))=a.reverse.toArray:=by
 have f:sliceBounds none none (some (-1)) a.toArray.size=((a.length:Int)-1,-1,-1):=by
  simp [sliceBounds]
 unfold slicePick;rw [f];have g:sliceRange ((a.length:Int)-1) (-1) (-1)=(List.range a.length).map λk=>a.length-1-k:=by
  have e:(if (-1:Int) > 0 then (if (a.length:Int)-1 < -1 then (-1-((a.length:Int)-1) + -1-1) / -1 else 0) else (if (a.length:Int)-1 > -1 then ((a.length:Int)-1 - -1 - -1-1) / (- -1) else 0)).toNat=a.length:=by
   rw [if_neg (by decide)];by_cases h:(a.length:Int)-1 > -1
   ·rw [if_pos h];simp
   ·rw [if_neg h];omega
  show (List.range (if (-1:Int) > 0 then (if (a.length:Int)-1 < -1 then (-1-((a.length:Int)-1) + -1-1) / -1 else 0) else (if (a.length:Int)-1 > -1 then ((a.length:Int)-1 - -1 - -1-1) / (- -1) else 0)).toNat).map (λ(k:Nat)=>((a.length:Int)-1 + -1 * (k:Int)).toNat)=_;rw [e];apply List.map_congr_left;intro k b;omega
 simp only [g];congr 1;rw [BW];have c:(List.range a.length).filterMap ((λx=>a.toArray[x]?) ∘ λk=>a.length-1-k)=(List.range a.length).filterMap (λk=>a.reverse.toArray[0+k]?):=by
  apply fm_congr;intro k b;have b:=Bx.mp b;simp;rw [List.getElem?_reverse b]
 rw [c];have:=pick_run a.reverse.toArray 0 a.length;rw [BW] at this;have d:((λx=>a.reverse.toArray[x]?) ∘ λx=>0+x)=λm=>a.reverse.toArray[0+m]?:=rfl;rw [d] at this;rw [this];simp;rw [Bl (by simp)]
end L3
namespace HT
open PySem PySem.Spec PyProof.Rows
section
variable {prog:Program} {w:World} {A:Around} {E:Value->Shared->Prop} {s:Shared}
theorem G8 {n:Nat} {Q:Int×Int×Nat->Shared->Prop} (hs:s.heap.IsSliceOf sl .none .none (.int (-1) t))
  (h:Q ((n:Int)-1,-1,n) s):wpAny (model prog w) A (Builtin.Slice.sliceApplied (.ref sl) (pure (n:Int))) Q E s:=by
 obtain ⟨d,a,c,hds⟩:=id hs;refine Af (Af (Bq a hds rfl (Af (Bq a hds rfl (Af (Bq a hds rfl (Ai ?_)))))));refine Af (slicePart_int ?_);rw [if_neg (by decide)];refine Af (CO (Af (CO (Af (Ai ?_)))));show wpAny _ _ (pure ((n:Int)-1,(-1:Int),Builtin.Slice.slicePlaces ((n:Int)-1) (-1) (-1))) _ _ s;have e:Builtin.Slice.slicePlaces ((n:Int)-1) (-1) (-1)=n:=by
  unfold Builtin.Slice.slicePlaces;rw [if_neg (by decide)];by_cases b:(n:Int)-1 > -1
  ·rw [if_pos b];simp
  ·rw [if_neg b];omega
 rw [e];exact Ai h
theorem fC (xs:List Value):((List.range xs.length).filterMap λ(m:Nat)=>xs.toArray[((xs.length:Int)-1+(m:Int) * -1).toNat]?).toArray=xs.reverse.toArray:=by
 congr 1;have c:(List.range xs.length).filterMap (λ(m:Nat)=>xs.toArray[((xs.length:Int)-1+(m:Int) * -1).toNat]?)=(List.range xs.length).filterMap (λk=>xs.reverse.toArray[0+k]?):=by
  apply L3.fm_congr;intro k a;have a:=Bx.mp a;have e:((xs.length:Int)-1+(k:Int) * -1).toNat=xs.length-1-k:=by omega
  rw [e];simp;rw [List.getElem?_reverse a]
 rw [c];have:=pick_run xs.reverse.toArray 0 xs.length;rw [BW] at this;have b:((λx=>xs.reverse.toArray[x]?) ∘ λx=>0+x)=λm=>xs.reverse.toArray[0+m]?:=rfl;rw [b] at this;rw [this];simp;rw [Bl (by simp)]
theorem getItem_tuple_rev {a:List Value} {i:Tok} {Q:Value->Shared->Prop} (c:IsTup s.heap t a.toArray) (hs:s.heap.IsSliceOf sl .none .none (.int (-1) i))
  (h:Q (.ref s.heap.objs.size) { s with heap:=s.heap.push { cls:=.type "tuple",data:=.seq a.reverse.toArray } })
  (hsz:a.length<=sizeLine):wpAny (model prog w) A (getItem (.ref t) (.ref sl)) Q E s:=by
 have b:sizeOk (.seq a.reverse.toArray):=by
  show a.reverse.toArray.size<=sizeLine;rw [Am,BP];exact hsz
 obtain ⟨j,g,d,hds⟩:=id hs;have e:s.TypeIs (.ref sl) "slice":=⟨j,g,d⟩;unfold getItem;try with_reducible refine AM ?_
 first | refine Af (Ai ?_) | skip
 refine Af (CZ c.typeIs (by decide) ?_);refine Af (Cb c.typeIs AQ
  (Cq AQ c.typeIs CI ?_ (CP _ _)))
 show wpAny _ _ (Builtin.Tuple.tupleItemsOf (.ref t) >>= _) _ _ s;refine Af (Db c ?_);refine Af (CK e ?_);rw [if_pos (by decide)];refine Af (G8 (n:=a.length) hs ?_);have f:¬ ((((a.length:Int)-1)==0&&(-1:Int)==1&&a.length==a.toArray.size)=true):=by
  intro q;rw [Ag,Ag] at q;exact absurd q.1.2 (by decide)
 show wpAny _ _ (if (((a.length:Int)-1)==0&&(-1:Int)==1&&a.length==a.toArray.size)=true then _ else _) _ _ s;rw [if_neg f,fC];first
  | exact Af (AN (Ai ⟨_,rfl,Ai h⟩) b)
  | exact Af (AN (Af (Ai (Ai ⟨_,rfl,Ai h⟩))) b)
  | exact Af (Af (AN (Ai (Ai ⟨_,rfl,Ai h⟩)) b))
  | exact Af (Af (AN (Ai ⟨_,rfl,Ai h⟩) b))
end
end HT
namespace L3
open PySem PySem.Spec PyProof.Rows L2
section
variable {X:Cx} {e st:Expr} {te ts:TE} {pos p2:Pos} {cl:Nat->Addr} {xe:Addr->Hp->Prop}
def rT (K:PySem.W.Frag) (te d:TE):TE:=λσ H Q=>te σ H λx c=>d σ c λy b=>y=.int (-1)/\∃ a xs,x=.ref a/\((SqL K b a xs/\∀ p,b p=none->Q (.ref p) (upd b p (.lst xs.reverse)))\/(SqT K b a xs/\∀ p,b p=none->Q (.ref p) (upd b p (.tup xs.reverse))))
theorem kU (p:PE X e te) (hs:PE X st ts):PE X (.Subscript e (.Slice none none (some st) p2) pos) (rT X.K te ts):=by
 intro pins s σ H Q I h;refine Subscript_ (thn (p pins s σ H _ I h) λv l ⟨x,z,w,A,C⟩=>?_);refine wpAny_Slice ?_;rw [Dw];refine Ai (Ai ?_);rw [evalPart_some];refine thn (hs pins l σ z _ w C) λu d ⟨y,B,n,m,o,a,xs,D,i⟩=>?_;subst o D;obtain ⟨t,rfl⟩:=m;cases A;have f:Inv X pins σ B { d with heap:=d.heap.push { cls:=.type "slice",data:=.fields #[.none,.none,.int (-1) t] } }:=n.kept λb ob q=>Ah _ q;rcases i with ⟨i,q⟩ | ⟨i,q⟩
 ·obtain ⟨j,r,g,hz⟩:=f.list i;have c:=r.length;have k:wpAny (model X.prog X.w) X.A (getItem (.ref a) (.ref d.heap.objs.size)) (EP X pins σ Q) X.xe { d with heap:=d.heap.push { cls:=.type "slice",data:=.fields #[.none,.none,.int (-1) t] } }:=by
   refine Dc g.isList (CQ ..) .none .none (.int (-1) t) (by simp) ?_ (by rw [Am] <;> omega);rw [jb];refine ⟨.ref _,_,f.laid (λb ob q=>Ah _ q) (Aj _) ?_,rfl,q _ (f.hok.fresh (Aj _))⟩;exact ⟨by rw [BP];exact hz,_,0,Q6 r,Aw _ rfl⟩
  exact tail_any g.isList.typeIs slot_list_getitem.lookup k (by with_unfolding_all rfl)
 ·obtain ⟨j,r,g,hz⟩:=f.tuple i;have c:=r.length;have k:wpAny (model X.prog X.w) X.A (getItem (.ref a) (.ref d.heap.objs.size)) (EP X pins σ Q) X.xe { d with heap:=d.heap.push { cls:=.type "slice",data:=.fields #[.none,.none,.int (-1) t] } }:=by
   refine HT.getItem_tuple_rev g (CQ ..) ?_ (by rw [<- c];exact hz);refine ⟨.ref _,_,f.laid (λb ob q=>Ah _ q) (Aj _) ?_,rfl,q _ (f.hok.fresh (Aj _))⟩;exact ⟨by rw [BP];exact hz,_,Q6 r,TupN.new _ _⟩
  exact tail_any g.typeIs PyProof.Rows.slot_tuple_getitem.lookup k (by with_unfolding_all rfl)
def eV (d s:D):M D:=match s with
 | .int (-1)=>(match d with
  | .tup ds=>ret (.tup ds.reverse)
  | d=>bind (lstOf d) λds=>ret (.lst ds.reverse))
 | _=>bad
theorem pG (he:PE X e (tD X.K cl xe f)) (hs:PE X st (tD X.K cl xe g)):PE X (.Subscript e (.Slice none none (some st) p2) pos) (tD X.K cl xe λρ=>bind (f ρ) λx=>bind (g ρ) λy=>eV x y):=
 PE.imp (kU he hs) λσ H Q ⟨μ,S,ρ,eo,rp,p⟩=>⟨μ,S,ρ,eo,rp,p.bind.imp λx S1 μ1 H1 l1 r1 p1 v rv=>⟨μ1,S1,ρ,eo.later l1,r1,p1.bind.imp λy S2 μ2 H2 l2 r2 p2 u ru=>by
  unfold eV at p2;split at p2
  ·cases ru;refine ⟨rfl,?_⟩;have L:Post X.K cl xe μ2 H2 (bind (lstOf x) (λds=>ret (.lst ds.reverse)) S2) (λd _ μ' H'=>∀ v,RD X.K μ' H' d v->Q v H')->∃ a xs,v=.ref a/\((SqL X.K H2 a xs/\∀ p,H2 p=none->Q (.ref p) (upd H2 p (.lst xs.reverse)))\/(SqT X.K H2 a xs/\∀ p,H2 p=none->Q (.ref p) (upd H2 p (.tup xs.reverse)))):=λp2=>by
    obtain ⟨a,xs,ds,rfl,h1,h2,e2⟩:=d8 (rv.later l2) r2 p2.bind;refine ⟨a,xs,rfl,.inl ⟨.inl (.inl h1),λz hz=>?_⟩⟩;obtain ⟨l,rp2,rd2⟩:=y8 r2 (aK h2) hz;exact (p2.ok_bind e2) μ2 _ l rp2 _ rd2
   cases rv.later l2 with
   | tup h1 h2=>
    rename_i a xs ds;refine ⟨a,xs,rfl,.inr ⟨h1.sq,λz hz=>?_⟩⟩;obtain ⟨l,rp2,rd2⟩:=A1 r2 (aK h2) hz;exact p2 μ2 _ l rp2 _ rd2
   | _=>exact L p2
  ·exact p2.elim⟩⟩
end
section
variable {X:Cx} {cl:Nat->Addr} {xe:Addr->Hp->Prop} {o e:Expr} {es:List Expr} {f:Env->M D} {fs:Env->M (List D)} {apos cpos:Pos} {name:Str} {T T2 id id2:String} {r r2:V->List V->Hp->VK->Prop} {α:Type}
def Looks (K:PySem.W.Frag) (cl:Nat->Addr) (xe:Addr->Hp->Prop) (T:String) (g:D->M α):Prop:=∀ (μ:Mp) (S:Sto) (H:Hp) (x:D) (v:V) (G:α->Sto->Mp->Hp->Prop),RD K μ H x v->Rep K cl μ S H->Post K cl xe μ H (g x S) G->tyV K T v H/\∃ a,g x S=.ok a S
def pW (K:PySem.W.Frag) (cl:Nat->Addr) (xe:Addr->Hp->Prop) (r:V->List V->Hp->VK->Prop) (op:D->List D->M D):Prop:=∀ (μ:Mp) (S:Sto) (H:Hp) (x:D) (v:V) (ds:List D) (vs:List V) (Q:VK),RD K μ H x v->RDs K μ H ds vs->Rep K cl μ S H->Post K cl xe μ H (op x ds S) (λd _ μ' H'=>∀ w,RD K μ' H' d w->Q w H')->r v vs H Q
theorem dL (B:PlainAttrs T) (c:Slot T name id) (i:typeOf (.builtin id)=pure (.type "method_descriptor")) (s:MtR X id r) (t:Looks X.K cl xe T g) (hd:pW X.K cl xe r op) (F:PE X o (tD X.K cl xe f)) (v:PA X (e :: es) (tDs X.K cl xe fs))
  (G:i5 o=true) (hs:(e :: es).all a9=true) (C:p7 (e :: es)=true) (E:(apos.endLine==cpos.line)=true) :
  PE X (.Call (.Attribute o name apos) (e :: es) [] cpos) (tD X.K cl xe λρ=>bind (f ρ) λx=>bind (g x) λ_=>bind (fs ρ) λds=>op x ds):=by
 have b:=hs;rw [Be,Ag] at b;refine PE.imp (mq B c i s F v (p6 G) (cp hs C) E (f7 b.1) (m9 b.2)) λσ H Q ⟨μ,S,ρ,l,w,p⟩=>?_;refine ⟨μ,S,ρ,l,w,p.bind.imp λx S1 d J u m h n k=>?_⟩;obtain ⟨I,a,D⟩:=t d S1 J x n _ k m h.bind;have h:=h.ok_bind D;exact ⟨I,d,S1,ρ,l.later u,m,h.bind.imp λds S2 μ2 A q y z vs j=>hd μ2 S2 A x n ds vs Q (k.later q) j y z⟩
theorem P9:Looks X.K cl xe "list" lstOf:=λμ S H x v G b c p=>by
 obtain ⟨a,xs,ds,rfl,d,f,e⟩:=d8 b c p;exact ⟨.inl ⟨rfl,_,.inl (.inl d)⟩,ds,e⟩
theorem io (f:X.A.units+1<cLine):MtR X "dict.get" (λx vs H Q=>∃ a y z c,x=.ref a/\(vs=[y,z]\/(vs=[y]/\z=.non))/\DGet H a y c/\Q (c.getD z) H):=by
 intro pins s σ H x vs v us Q I k i h;obtain ⟨a,y,z,c,rfl,l,g,q⟩:=h;cases k;rcases l with rfl | ⟨rfl,rfl⟩
 ·obtain ⟨m,n,rfl,e,j⟩:=jJ i;exact qP f I g e j λw' s' d b=>⟨_,H,d,b,q⟩
 ·cases i with
  | cons e t=>
   cases t;exact oA f I g e λw' s' d b=>⟨_,H,d,b,q⟩
def getDD (x:D) (ds:List D):M D:=match x,ds with
 | .ref n,[k,z]=>λS=>match S[n]? with
  | some (.dct a)=>(match m8 k with
   | some b=>.ok ((v3 a b).getD z) S
   | none=>.bad)
  | _=>.bad
 | .ref n,[k]=>λS=>match S[n]? with
  | some (.dct a)=>(match m8 k with
   | some b=>.ok ((v3 a b).getD .non) S
   | none=>.bad)
  | _=>.bad
 | _,_=>bad
def dctOf (x:D):M Unit:=match x with
 | .ref n=>λS=>match S[n]? with
  | some (.dct _)=>.ok () S
  | _=>.bad
 | _=>bad
theorem T5 {K:PySem.W.Frag} {μ:Mp} {H:Hp} {k:Key}:∀ {a:List (Key×D)} {c:List (Key×V)},KvsAt K μ H a c->v3 a k=none->A4 c k=none
 | _,_,.nil,_=>rfl
 | p :: r,q :: f,.cons ⟨d,g⟩ t,e=>by
  unfold v3 at e;unfold A4;rw [Bb] at e ⊢;rw [<- d];cases b:decide (p.1=k) with
  | true=>rw [b] at e;cases e
  | false=>
   rw [b] at e;exact T5 t e
theorem cf:Looks X.K cl xe "dict" dctOf:=λμ S H x v G rx rp p=>by
 unfold dctOf at p;cases x with
 | ref n=>
  cases rx with
  | ref e=>
   rename_i a;dsimp only at p;cases q1:S[n]? with
   | none=>rw [q1] at p;exact p.elim
   | some o=>
    rw [q1] at p;cases o with
    | dct kvs=>
     obtain ⟨ks,h1,_⟩:=rp.ats n _ a q1 e;exact ⟨.inr (.inr (.inl ⟨rfl,.inl ⟨_,h1⟩⟩)),(),by simp only [dctOf,q1]⟩
    | lst _=>exact p.elim
    | exc _ _=>exact p.elim
 | _=>exact p.elim
theorem gH:pW X.K cl xe (λx vs H Q=>∃ a y z ov,x=.ref a/\(vs=[y,z]\/(vs=[y]/\z=.non))/\DGet H a y ov/\Q (ov.getD z) H) getDD:=λμ S H x v ds vs Q rx rvs rp p=>by
 unfold getDD at p;split at p
 ·rename_i n k z;cases rvs with
  | cons hk t=>
   cases t with
   | cons hz t2=>
    cases t2;rename_i kv zv;cases rx with
    | ref e=>
     rename_i a;cases q1:S[n]? with
     | none=>rw [q1] at p;exact p.elim
     | some o=>
      rw [q1] at p;cases o with
      | dct kvs=>
       obtain ⟨ks,h1,h2⟩:=rp.ats n _ a q1 e;cases q2:m8 k with
       | none=>rw [q2] at p;exact p.elim
       | some key=>
        rw [q2] at p;dsimp only at p;have hy:=w5 hk q2;subst hy;refine ⟨a,_,zv,A4 ks key,rfl,.inl rfl,DGet.k h1,?_⟩;cases q3:v3 kvs key with
        | some d=>
         obtain ⟨w,e3,r3⟩:=M5 h2 q3;rw [q3] at p;rw [e3];exact p μ H (Lat.refl _ _) rp _ r3
        | none=>
         rw [q3] at p;rw [T5 h2 q3];exact p μ H (Lat.refl _ _) rp _ hz
      | lst _=>exact p.elim
      | exc _ _=>exact p.elim
 ·rename_i n k;cases rvs with
  | cons hk t=>
   cases t;rename_i kv;cases rx with
   | ref e=>
    rename_i a;cases q1:S[n]? with
    | none=>rw [q1] at p;exact p.elim
    | some o=>
     rw [q1] at p;cases o with
     | dct kvs=>
      obtain ⟨ks,h1,h2⟩:=rp.ats n _ a q1 e;cases q2:m8 k with
      | none=>rw [q2] at p;exact p.elim
      | some key=>
       rw [q2] at p;dsimp only at p;have hy:=w5 hk q2;subst hy;refine ⟨a,_,.non,A4 ks key,rfl,.inr ⟨rfl,rfl⟩,DGet.k h1,?_⟩;cases q3:v3 kvs key with
       | some d=>
        obtain ⟨w,e3,r3⟩:=M5 h2 q3;rw [q3] at p;rw [e3];exact p μ H (Lat.refl _ _) rp _ r3
       | none=>
        rw [q3] at p;rw [T5 h2 q3];exact p μ H (Lat.refl _ _) rp _ .non
     | lst _=>exact p.elim
     | exc _ _=>exact p.elim
 ·exact p.elim
end
section
variable {X:Cx} {cl:Nat->Addr} {xe:Addr->Hp->Prop} {o e:Expr} {es:List Expr} {f:Env->M D} {p p2 pos pos2:Pos} {te:TE}
theorem cU:MtR X "list.extend" (λx vs H Q=>∃ l b xs j,x=.ref l/\vs=[.ref b]/\H l=some (.lst xs)/\(SqL X.K H b j\/SqT X.K H b j)/\xs.length+j.length<=sizeLine/\Q .non (upd H l (.lst (xs++j)))):=by
 intro pins s σ H x vs v us Q I A C h;obtain ⟨l,b,xs,j,rfl,rfl,y,m,hz,q⟩:=h;cases A;obtain ⟨u,rfl,B⟩:=C.one;cases B;obtain ⟨z,g,n,r,L,e⟩:=I.lstM y;have p:∀ (ob:Obj) (k:Nat) (T:String) (a:List Value),(T = "list"\/T = "tuple")->s.heap.get? b=some ob->ob.cls=.type T->ob.data=.seq a.toArray k->Vals j a->wpAny (model X.prog X.w) X.A (call (.builtin "list.extend") [.ref l,.ref b]) (EP X pins σ Q) X.xe s:=λob k T a J w G E f=>by
  have hsz:g.toArray.size+a.toArray.size<=sizeLine:=by rw [Am,Am,<- f.length];omega
  have i:¬ (!g.toArray.isEmpty&&Builtin.List.listTooLong (g.toArray.size+a.toArray.size))=true:=by
   rw [ai hsz,Bool.and_false];exact Ak
  have D:s.TypeIs (.ref l) "list":=⟨_,e,rfl⟩;refine Cq F.slot_list_extend D F.entry_list_extend ?_ (F.args_list_extend_2 _ _);show wpAny _ _ (Builtin.List.listExtendWith (.ref l) (.ref b) .none) _ _ s;refine Af (CK ⟨ob,w,G⟩ ?_);rw [if_pos (by rcases J with rfl | rfl <;> simp)];refine Af (CT w E (Af (CT e rfl ?_)));rw [if_neg i];refine Af (PyProof.Rows.listUpdate_at e rfl (Ai ?_) (by rw [Am];omega) (by rw [Array.size_append];omega));refine ⟨_,rfl,.non,_,I.lset y e (by simp) (r.append f) ?_,rfl,q⟩;rw [AJ];omega
 rcases m with m | m
 ·obtain ⟨a,f,⟨o,k,t,c,K,d⟩,_⟩:=I.list m;exact p o k "list" a (.inl rfl) t c d f
 ·obtain ⟨a,f,⟨o,t,c,k,d⟩,_⟩:=I.tuple m;exact p o k "tuple" a (.inr rfl) t c d f
def extD (x:D) (ds:List D):M D:=match x,ds with
 | .ref n,[.tup ys]=>λS=>match S[n]? with
  | some (.lst es)=>if es.length+ys.length<=sizeLine then .ok .non (S.set n (.lst (es++ys))) else .bad
  | _=>.bad
 | .ref n,[.lst ys]=>λS=>match S[n]? with
  | some (.lst es)=>if es.length+ys.length<=sizeLine then .ok .non (S.set n (.lst (es++ys))) else .bad
  | _=>.bad
 | _,_=>bad
theorem iG:pW X.K cl xe (λx vs H Q=>∃ l b xs zs,x=.ref l/\vs=[.ref b]/\H l=some (.lst xs)/\(SqL X.K H b zs\/SqT X.K H b zs)/\xs.length+zs.length<=sizeLine/\Q .non (upd H l (.lst (xs++zs)))) extD:=λμ S H x v ds vs Q rx rvs rp p=>by
 have gen:∀ (n:Nat) (a b:Addr) (ys:List D) (zs:List V),μ.pl[n]?=some a->(SqL X.K H b zs\/SqT X.K H b zs)->RDs X.K μ H ys zs->Post X.K cl xe μ H (match S[n]? with
   | some (.lst es)=>if es.length+ys.length<=sizeLine then R.ok D.non (S.set n (.lst (es++ys))) else .bad
   | _=>.bad) (λd _ μ' H'=>∀ w,RD X.K μ' H' d w->Q w H')->∃ l b' xs zs',V.ref a=.ref l/\[V.ref b]=[.ref b']/\H l=some (.lst xs)/\(SqL X.K H b' zs'\/SqT X.K H b' zs')/\xs.length+zs'.length<=sizeLine/\Q .non (upd H l (.lst (xs++zs'))):=λn a b ys zs e hs hr p=>by
  cases q1:S[n]? with
  | none=>rw [q1] at p;exact p.elim
  | some o=>
   rw [q1] at p;cases o with
   | lst es=>
    obtain ⟨xs,h1,h2⟩:=rp.ats n _ a q1 e;dsimp only at p;by_cases hz:es.length+ys.length<=sizeLine
    ·rw [if_pos hz] at p;have ml:=AF e;refine ⟨a,b,xs,zs,rfl,rfl,h1,hs,by rw [<- h2.length,<- hr.length];exact hz,?_⟩;have la:Lat μ H μ (upd H a (.lst (xs++zs))):=Lat.wrote ml;exact p μ _ la (rp.wrote e ⟨_,b4,(h2.append hr).later la⟩) _ .non
    ·rw [if_neg hz] at p;exact p.elim
   | dct _=>exact p.elim
   | exc _ _=>exact p.elim
 unfold extD at p;split at p
 ·rename_i n ys;cases rvs with
  | cons h t=>
   cases t;cases rx with
   | ref e=>
    cases h with
    | tup h1 h2=>
     rename_i a b zs;exact gen n a b ys zs e (.inr h1.sq) h2 p
 ·rename_i n ys;cases rvs with
  | cons h t=>
   cases t;cases rx with
   | ref e=>
    cases h with
    | lst h1 h2=>
     rename_i a b zs;exact gen n a b ys zs e (.inl h1.sq) h2 p
 ·exact p.elim
end
section
variable {X:Cx} {cl:Nat->Addr} {xe:Addr->Hp->Prop} {f:Env->M D} {a:Expr}
def O8 (d:D):M D:=match d with
 | .str x=>if (Txt.upper x).length<=sizeLine then ret (.str (Txt.upper x)) else bad
 | _=>bad
theorem gN:MtR X "str.upper" (λx vs H Q=>∃ z,x=.str z/\vs=[]/\(Txt.upper z).length<=sizeLine/\Q (.str (Txt.upper z)) H):=by
 intro pins s σ H x vs v us Q I a b h;obtain ⟨z,rfl,rfl,c,q⟩:=h;obtain ⟨t,rfl⟩:=a;cases b;refine SC.upper (by unfold Builtin.Str.tooLong;exact Ao (by omega)) ?_;exact ⟨.str _,H,I.tok _,⟨_,rfl⟩,q⟩
theorem jD (ho:PE X a (tD X.K cl xe f)) (hb:i5 a=true) (hl:(apos.endLine==cpos.line)=true) :
  PE X (.Call (.Attribute a "upper" apos) [] [] cpos) (tD X.K cl xe λρ=>bind (f ρ) O8):=by
 refine PE.imp (iT PySem.F.plainAttrs_str PySem.F.slot_str_upper PySem.F.type_str_upper gN ho (p6 hb) hl) λσ H Q ⟨μ,S,ρ,eo,rp,p⟩=>?_;refine ⟨μ,S,ρ,eo,rp,p.bind.imp λx S1 μ1 H1 l1 r1 p1 xv rx=>?_⟩;cases rx with
 | str z=>
  obtain ⟨hz,p1⟩:=Post.guard p1;exact ⟨rfl,z,rfl,rfl,hz,p1 μ1 H1 (Lat.refl _ _) r1 _ (.str _)⟩
 | _=>exact False.elim p1
def cr (x y:D):M D:=bind (lstOf x) λxs=>bind (lstOf y) λys=>λS=>if xs.length+ys.length<=sizeLine then .ok (.ref S.length) (S++[.lst (xs++ys)]) else .bad
theorem oh:OpR X (binaryOp .Add) (rP2 X.K cl xe cr):=by
 intro pins s σ H x y v u Q I k n ⟨μ,S,d,e,m,q,g,p⟩;obtain ⟨a,xs,ds,rfl,r,j,w⟩:=d8 m g p.bind;have p:=p.ok_bind w;obtain ⟨b,ys,es,rfl,t,i,o⟩:=d8 q g p.bind;have p:=p.ok_bind o;by_cases f:ds.length+es.length<=sizeLine
 ·rw [if_pos f] at p;refine iZ pins s σ H _ _ v u Q I k n ⟨a,b,xs,ys,rfl,rfl,r,t,by rw [<- j.length,<- i.length];exact f,λz hz=>?_⟩;obtain ⟨l,h,c⟩:=V9 g (j.append i) hz;exact p _ _ l h _ c
 ·rw [if_neg f] at p;exact p.elim
end
end L3
namespace HT
open PySem PySem.Spec PyProof.Rows
def i9 (a:Bool):Obj:={ cls:=.type "set",dict:=none,data:=.set #[] 0 (.fresh 0 0 a) }
def Rise (xs:Array Nat):Prop:=xs.toList.Pairwise (· < ·)
theorem Rise.lt (h:Rise xs) {i j:Nat} (a:i<j) (b:j<xs.size):xs[i]<xs[j]:=by
 have:=CU.mp h i j (by simp;omega) (by simpa using b) a;grind
theorem N7 {xs:Array Nat} {j:Nat} (h:Rise xs):∀ (fuel lo hi:Nat),hi-lo<=fuel->lo<=hi->hi<=xs.size->(∀ i (z:i<xs.size),i<lo->xs[i]<j)->(∀ i (z:i<xs.size),hi<=i->j<=xs[i]) ->
  SetTable.below.go xs j fuel lo hi<=xs.size/\(∀ i (z:i<xs.size),i<SetTable.below.go xs j fuel lo hi->xs[i]<j)/\∀ i (z:i<xs.size),SetTable.below.go xs j fuel lo hi<=i->j<=xs[i]
 | 0,lo,hi,f,le,le2,a,b=>by
  have e:lo=hi:=by omega
  subst e;exact ⟨le2,a,b⟩
 | fuel+1,lo,hi,f,le,le2,a,b=>by
  unfold SetTable.below.go;by_cases c:lo<hi
  ·rw [if_pos c];have hm:(lo+hi) / 2<xs.size:=by omega
   have em:xs.getD ((lo+hi) / 2) j=xs[(lo+hi) / 2]:=by simp [Array.getD,hm]
   dsimp only;rw [em];by_cases d:xs[(lo+hi) / 2]<j
   ·rw [if_pos d];refine N7 h fuel _ _ (by omega) (by omega) le2 (λi z w=>?_) b;rcases Nat.lt_or_ge i ((lo+hi) / 2) with u | u
    ·exact Nat.lt_trans (h.lt u hm) d
    ·have:i=(lo+hi) / 2:=by omega
     subst this;exact d
   ·rw [if_neg d];refine N7 h fuel _ _ (by omega) (by omega) (by omega) a λi z w=>?_;rcases Nat.lt_or_ge ((lo+hi) / 2) i with u | u
    ·have:=h.lt u z;omega
    ·have:i=(lo+hi) / 2:=by omega
     subst this;omega
  ·rw [if_neg c];have e:lo=hi:=by omega
   subst e;exact ⟨le2,a,b⟩
theorem gT (h:Rise xs) (j:Nat):SetTable.below xs j<=xs.size/\(∀ i (z:i<xs.size),i<SetTable.below xs j->xs[i]<j)/\∀ i (z:i<xs.size),SetTable.below xs j<=i->j<=xs[i]:=
 N7 h xs.size 0 xs.size (by omega) (AO _) (Aj _) (λi _ w=>absurd w (Nat.not_lt_zero _)) λi z w=>by omega
theorem al (h:Rise xs) {j:Nat} (n:xs[SetTable.below xs j]?≠some j):Rise (SetTable.insertAt xs (SetTable.below xs j) j):=by
 obtain ⟨a,b,c⟩:=gT h j;unfold Rise;rw [SetTable.toList_insertAt,List.pairwise_append,List.pairwise_cons];refine ⟨List.Pairwise.sublist (CY _ _) h,⟨λy d=>?_,List.Pairwise.sublist (List.drop_sublist _ _) h⟩,λx g y d=>?_⟩
 ·obtain ⟨k,e,rfl⟩:=Cz.mp d;rw [BK,AU] at e;have hz:SetTable.below xs j+k<xs.size:=by omega
  rw [List.getElem_drop,CA];have l:=c _ hz (Nat.le_add_right _ _);rcases Nat.eq_zero_or_pos k with rfl | kp
  ·grind
  ·have i:SetTable.below xs j<xs.size:=by omega
   have:=c _ i (Aj _);have:=h.lt (show SetTable.below xs j<SetTable.below xs j+k by omega) hz;omega
 ·have f:x<j:=by
   obtain ⟨k,e,rfl⟩:=Cz.mp g;rw [Bm,AU] at e;rw [List.getElem_take,CA];exact b _ (by omega) (by omega)
  rcases Ar.mp d with rfl | d
  ·exact f
  ·obtain ⟨k,e,rfl⟩:=Cz.mp d;rw [BK,AU] at e;rw [List.getElem_drop,CA];have:=c _ (show SetTable.below xs j+k<xs.size by omega) (Nat.le_add_right _ _);omega
structure TbHt (t:SetTable):Prop where
 nd:t.dummies=#[]
 up:t.plain=true->Rise t.place
theorem ab (j:Nat):SetTable.has #[] j=false:=by simp [SetTable.has]
theorem bi (h:t.dummies=#[]) (f:Nat->Int) (x:Int):∀ (n:Nat) (p:SetTable.Probe) (j:Nat) (d:Option Nat),p.dummy=none->SetTable.probe.go t f x n p=some (.empty j d)->d=none/\t.slot j=.empty
 | 0,p,j,d,_,e=>by unfold SetTable.probe.go at e;cases e
 | n+1,p,j,d,pd,e=>by
  unfold SetTable.probe.go at e;have ad:∀ q:SetTable.Probe,(t.advance q).dummy=q.dummy:=λq=>by
   unfold SetTable.advance;split <;> rfl
  cases hs:t.slot p.j with
  | empty=>
   rw [hs] at e;obtain ⟨rfl,rfl⟩:=e;exact ⟨pd,hs⟩
  | dummy=>
   unfold SetTable.slot at hs;rw [h] at hs;dsimp only at hs;split at hs
   ·cases hs
   ·rw [ab] at hs;simp at hs
  | live i=>
   rw [hs] at e;dsimp only at e;split at e
   ·cases e
   ·exact bi h f x n _ j d ((ad p).trans pd) e
theorem kR {t:SetTable} (h:t.dummies=#[]) {x:Int} {j:Nat} {b:Bool} (e:t.freeSlot x=some (j,b)):t.slot j=.empty:=by
 unfold SetTable.freeSlot SetTable.probe at e;split at e
 ·rename_i c d a;obtain ⟨rfl,q⟩:=bi h _ _ _ _ _ _ rfl a;simp at e;rw [<- e.1];exact q
 ·cases e
theorem kh {t:SetTable} {j:Nat} (h:t.slot j=.empty):t.place[SetTable.below t.place j]?≠some j:=λe=>by
 unfold SetTable.slot at h;dsimp only at h;rw [e] at h;simp at h
theorem TbHt.stand (t:SetTable) (n:Nat):TbHt (t.standIn n):=⟨rfl,λh=>by cases h⟩
theorem TbHt.put (h:TbHt t) {j:Nat} (e:t.slot j=.empty):TbHt (t.put j).1:=by
 refine ⟨?_,λp=>?_⟩
 ·unfold SetTable.put;rw [h.nd,ab];rfl
 ·exact al (h.up p) (kh e)
theorem TbHt.lay (h:TbHt t) (es:Array (Int×Value)) (x:Int) (v:Value):TbHt (layNew t es x v).2.1/\(layNew t es x v).2.1.led=t.led:=by
 unfold layNew;split
 ·rename_i a wd e;have b:=h.put (kR h.nd e);dsimp only;unfold SetTable.orStandIn;split
  ·exact ⟨b,rfl⟩
  ·exact ⟨.stand _ _,rfl⟩
 ·exact ⟨.stand _ _,rfl⟩
theorem cR (n:Nat) (f:Nat->Option (Nat×Nat)) (d:∀ j p,f j=some p->p.1=j):(((List.range n).filterMap f).map (·.1)).Pairwise (· < ·):=by
 rw [List.pairwise_map];refine List.Pairwise.filterMap f (λa b c x e y g=>?_) List.pairwise_lt_range;grind
theorem TbHt.relay (h:TbHt t) (es:Array (Int×Value)) (m:Nat):TbHt (relayAll t es m).2.1/\(relayAll t es m).2.1.led=t.led:=by
 unfold relayAll;split
 ·rename_i t' a e;dsimp only;unfold SetTable.relaid SetTable.laid at e;simp only [Option.bind_eq_bind,Option.bind_eq_some_iff,Option.pure_def,Option.some.injEq,Cu] at e;obtain ⟨b,_,rfl,_⟩:=e;split
  ·refine ⟨⟨rfl,λ_=>?_⟩,rfl⟩;refine cR _ _ λj p q=>?_;rw [Bj] at q;obtain ⟨_,_,rfl⟩:=q;rfl
  ·exact ⟨.stand _ _,rfl⟩
 ·exact ⟨.stand _ _,rfl⟩
theorem TbHt.unplain (h:TbHt t):TbHt { t with plain:=false }:=⟨h.nd,λz=>by cases z⟩
theorem TbHt.fresh (f m:Nat) (l:Bool):TbHt (SetTable.fresh f m l):=⟨rfl,λ_=>by unfold Rise SetTable.fresh;exact .nil⟩
section
variable {prog:Program} {w:World} {K:Type} [DecidableEq K] {knd:KeyKind prog w K} {A:Around} {E:Value->Shared->Prop} {s:Shared}
def i3 (w:World):Bool:=w.params.followText "set-order"
def td (knd:KeyKind prog w K) (o:Obj) (S:K->Bool) (n:Nat) (es:Array (Int×Value)) (a:Nat) (t:SetTable):Prop:=
 o.ExactSet/\o.data=.set es a t/\ElemsOf knd es.toList/\(∀ k,S k=true↔∃ e∈es.toList,knd.is k e.2=true)/\es.size<scanBound/\t.fits es.size=true/\es.size=n/\TbHt t/\t.led=!i3 w
def SetL (knd:KeyKind prog w K) (h:Heap) (a:Addr) (S:K->Bool) (n:Nat):Prop:=∃ o es b t,h.get? a=some o/\td knd o S n es b t
theorem SetL.cg {n b:Nat} (x:SetL knd h a S n) (e:∀ k,S k=S' k) (f:n=b):SetL knd h a S' b:=by
 have:=funext e;grind
theorem SetL.mv {a:Addr} {S:K->Bool} {n:Nat} (x:SetL knd h a S n) (e:∀ o,h.get? a=some o->h'.get? a=some o):SetL knd h' a S n:=
 let ⟨o,es,b,t,c,r⟩:=x;⟨o,es,b,t,e o c,r⟩
theorem SetL.old (x:SetL knd h a S n):h.SetOf knd a S n:=
 let ⟨o,es,f,t,d,k,e,i,j,c,g,b,_⟩:=x;⟨o,es,f,t,d,k,e,i,j,c,g,b⟩
theorem ba {h:Heap} {a:Addr} {o:Obj} {es:Array (Int×Value)} {c:Nat} {t:SetTable} (d:h.get? a=some o) (b:o.ExactSet) (hd:o.data=.set es c t) {es':Array (Int×Value)} {t':SetTable} {S':K->Bool}
  (r:ElemsOf knd es'.toList/\(∀ k,S' k=true↔∃ e∈es'.toList,knd.is k e.2=true)/\es'.size<scanBound/\t'.fits es'.size=true/\TbHt t'/\t'.led=!i3 w) :
  ∃ o',(h.update a (Obj.putSet es' t')).get? a=some o'/\td knd o' S' es'.size es' (c+1) t':=by
 obtain ⟨g,_⟩:=SetOf_store d b hd r.1 r.2.1 r.2.2.1 r.2.2.2.1;exact ⟨_,g,b,rfl,r.1,r.2.1,r.2.2.1,r.2.2.2.1,rfl,r.2.2.2.2⟩
theorem V0 (C:s.heap.get? a=some o) (n:o.ExactSet) (hd:o.data=.set es ep t) {g:Bool->Sem Unit}
  (F:∀ (b:Bool) (u:Shared) (R:Unit->Shared->Prop),R () u->wpAny (model prog w) A (g b) R E u) {c:Array (Int×Value)} {d:SetTable} {S':K->Bool}
  (r:ElemsOf knd c.toList/\(∀ k,S' k=true↔∃ e∈c.toList,knd.is k e.2=true)/\c.size<scanBound/\d.fits c.size=true/\TbHt d/\d.led=!i3 w) {wd:Bool} {R:Option Bool->Shared->Prop}
  (q:∀ h',Heap.SameBut a s.heap h'->SetL knd h' a S' c.size->R (some true) { s with heap:=h' }) :
  wpAny (model prog w) A (storeSet a c d >>= λ_=>if (!wd&&d.tooFull)=true then (g (relayAll d c (SetTable.grown c.size)).2.2 >>= λ_=>storeSet a (relayAll d c (SetTable.grown c.size)).1 (relayAll d c (SetTable.grown c.size)).2.1 >>= λ_=>pure (some true)) else pure (some true)) R E s:=by
 refine Af (wpAny_storeSet_of C hd ?_ (fits_of_scanBound r.2.2.1));obtain ⟨D,h,i⟩:=ba C n hd r;have y:=Heap.SameBut.update s.heap a (Obj.putSet c d);split
 ·have p:=relayAll_perm d c (SetTable.grown c.size);have f:=relayAll_fits d c (SetTable.grown c.size);have j:=r.2.2.2.2.1.relay c (SetTable.grown c.size);generalize relayAll d c (SetTable.grown c.size)=Z at p f j ⊢;obtain ⟨v,I,J⟩:=Z;have B:v.size=c.size:=by
   have:=p.length_eq;rwa [AU,AU] at this
  have x:=B▸r.2.2.1;refine Af (F _ _ _ (Af (wpAny_storeSet_of h i.2.1 ?_ (fits_of_scanBound x))));obtain ⟨G,l,H⟩:=ba h i.1 i.2.1 ⟨r.1.perm p,λk=>(r.2.1 k).trans ⟨λ⟨e,m,z⟩=>⟨e,p.mem_iff.mpr m,z⟩,λ⟨e,m,z⟩=>⟨e,p.mem_iff.mp m,z⟩⟩,x,f,j.1,j.2.trans r.2.2.2.2.2⟩;exact Ai (q _ (y.trans (Heap.SameBut.update _ a _)) (SetL.cg ⟨G,_,_,_,l,H⟩ (λ_=>rfl) B))
 ·exact Ai (q _ y ⟨D,_,_,_,h,i⟩)
theorem nQ {k:K} {x:Value} {Q:Bool->Shared->Prop} (G:knd.is k x=true) (D:x.scannable=true) (X:SetL knd s.heap a S n) (I:n+1<scanBound)
  (q:∀ h',Heap.SameBut a s.heap h'->SetL knd h' a (λm=>S m||decide (m=k)) (if S k then n else n+1)->Q (!S k) { s with heap:=h' }):wpAny (model prog w) A (setAddHashed a x (knd.hash k)) Q E s:=by
 obtain ⟨o,es,W,t,i,h,hd,c,r,H,F,O,J,T⟩:=X;refine AM (Af (wpAny_setState_of i hd F ?_));dsimp only;rw [byScan_of D H c,if_pos rfl];refine Af (Af (Dk (Af (wpAny_setScan_of G i hd F c ?_))));cases M:List.findIdx? (λe=>knd.is k e.2) es.toList with
 | some j=>
  obtain ⟨hj,B,_⟩:=List.findIdx?_eq_some_iff_getElem.mp M;have g:=(r k).mpr ⟨es.toList[j],AI hj,B⟩;refine Ai (Ai ?_);have z:=q s.heap (Heap.SameBut.refl a s.heap) (SetL.cg ⟨o,es,W,t,i,h,hd,c,r,H,F,O,J,T⟩ (λm=>by
   by_cases e:m=k
   ·subst e;rw [g];rfl
   ·simp [e]) (by rw [if_pos g]))
  rw [g] at z;exact z
 | none=>
  have Z:S k=false:=by
   cases V:S k with
   | false=>rfl
   | true=>
    obtain ⟨e,Y,B⟩:=(r k).mp V;have:=List.findIdx?_eq_none_iff.mp M e Y;rw [B] at this;cases this
  have gw:∀ (b:Bool) (u:Shared) (R:Unit->Shared->Prop),R () u->wpAny (model prog w) A (match b with | true=>rule "set.scan.the-table-gave-way" | false=>pure ()) R E u:=λb u R z=>by
   cases b
   ·exact Ai z
   ·exact Dk z
  have p:=layNew_perm t es (knd.hash k) x;have f:=layNew_fits t es (knd.hash k) x;have l:=J.lay es (knd.hash k) x;generalize layNew t es (knd.hash k) x=L at p f l ⊢;obtain ⟨C,t1,wd,U⟩:=L;dsimp only at p f l ⊢;rw [Array.toList_push] at p;have v:C.size=n+1:=by
   have:=p.length_eq;rw [AJ,AU,AU,O] at this;exact this
  have d:=λh' z y=>by
   have:=q h' z;rw [Z] at this;exact this (SetL.cg y (λ_=>rfl) v)
  have N:=(c.push G D).perm p;have P:=mem_push_iff G r p;refine Af (gw _ _ _ ?_);split
  ·rw [hashByValue_scannable 8 D];refine Af (Ai ?_);refine V0 i h hd (λb u R z=>by cases b <;> first | exact Ai z | exact Dk z) ⟨N,P,by rw [v];exact I,?_,?_,?_⟩ λh' z y=>Ai (d h' z y)
   ·split
    ·exact f
    ·exact SetTable.fits_plain_off f
   ·split
    ·exact l.1
    ·exact l.1.unplain
   ·grind
  ·refine Af (Ai ?_);rw [if_pos rfl];exact V0 i h hd (λb u R z=>by cases b <;> first | exact Ai z | exact Dk z) ⟨N,P,by rw [v];exact I,f,l.1,l.2.trans T⟩ λh' z y=>Ai (d h' z y)
end
section
variable {K:Type} [DecidableEq K]
def metKHt (f:Nat->K):Nat->List K
 | 0=>[]
 | i+1=>if f i∈metKHt f i then metKHt f i else metKHt f i++[f i]
theorem metK_s (f:Nat->K) (i:Nat):metKHt f (i+1)=if f i∈metKHt f i then metKHt f i else metKHt f i++[f i]:=rfl
theorem metK_le (f:Nat->K):∀ i,(metKHt f i).length<=i
 | 0=>Aj _
 | i+1=>by
  have:=metK_le f i;unfold metKHt;split
  ·omega
  ·grind
theorem metK_mem (f:Nat->K) (k:K):∀ i,k∈metKHt f i↔∃ j,j<i/\f j=k
 | 0=>by simp [metKHt]
 | i+1=>by
  have a:=metK_mem f k i;have e:k∈metKHt f (i+1)↔(k∈metKHt f i\/k=f i):=by
   rw [metK_s];split
   ·grind
   ·grind
  rw [e,a];constructor
  ·grind
  ·grind
end
section
variable {prog:Program} {w:World} {K:Type} [DecidableEq K] {knd:KeyKind prog w K} {A:Around} {R:Result->Shared->Prop} {I:Addr} {fp wr:List Addr} {G:Array GenState->Array GenState->Prop} {n:Nat} {P:Nat->Value->Prop} {St:Nat->Shared->Prop}
def J5 (l:List K) (k:K):Bool:=decide (k∈l)
theorem pe (W:WalksS prog w A.in1 I fp wr G n P St) (B:Addr) (E:B∉fp) (f:Nat->K) (M:∀ i v,P i v->knd.is (f i) v=true/\v.scannable=true) (a:n+1<scanBound) :
  ∀ (k i:Nat) (s:Shared),n-i=k->i<=n->St i s->SetL knd s.heap B (J5 (metKHt f i)) (metKHt f i).length ->
   (∀ z,Moved (B :: wr) G s z->SetL knd z.heap B (J5 (metKHt f n)) (metKHt f n).length->R (.ok (.ret .none)) z)->codeAny (model prog w) A (.builtin "set.update.loop" ⟨[.ref B,.ref I],[]⟩) R s:=by
 have u:=λh=>E (W.sub _ h);have D:∀ b∈wr,b∈B :: wr:=λb a=>Av _ a;intro k;induction k with
 | zero=>
  intro i s N F st t q;obtain rfl:i=n:=by omega
  refine CF BQ ?_;rw [CB Bi _];refine Af (W.done s _ _ st λz m=>?_);exact Ai (q z (m.mono D) (t.mv λo=>m.heap B o u))
 | succ k O=>
  intro i s N F st t q;have C:i<n:=by omega
  refine CF BQ ?_;rw [CB Bi _];refine Af (W.item i s _ _ C st λv z J r m=>?_);obtain ⟨x,H⟩:=M i v J;have l:=t.mv λo=>m.heap B o u;refine Af (AM (AM (Af (knd.pyHash x ?_))));refine nQ x H l (by have:=metK_le f i;omega) λg y d=>?_;have j:SetL knd g B (J5 (metKHt f (i+1))) (metKHt f (i+1)).length:=d.cg (λQ=>by
   rw [metK_s];unfold J5;by_cases c:f i∈metKHt f i
   ·grind
   ·rw [if_neg c];simp) (by
   rw [metK_s];unfold J5;by_cases c:f i∈metKHt f i
   ·grind
   ·rw [if_neg (by simpa using c),if_neg c,AJ];rfl)
  refine Ai ⟨plainId_quiet Bi _,O (i+1) _ (by omega) C (W.frame _ z _ _ r (Cw _) λb a o e=>?_) j λL m2 p=>?_⟩
  ·rw [y.2 b (λh:b=B=>E (h▸a))];exact e
  ·refine q L (Moved.trans W.gtrans ((m.mono D).then_heap (Cw _) λb o a e=>?_) m2) p;rw [y.2 b (λh:b=B=>a (h▸Ap))];exact e
end
section
variable {prog:Program} {w:World} {K:Type} [DecidableEq K] {knd:KeyKind prog w K} {A:Around} {E:Value->Shared->Prop} {s:Shared}
def w9 (knd:KeyKind prog w K) (f:Nat->K) (n:Nat) (s:Shared) (g:Heap):Prop:=SetL knd g s.heap.objs.size (J5 (metKHt f n)) (metKHt f n).length/\∀ b o,b<s.heap.objs.size->s.heap.get? b=some o->g.get? b=some o
theorem cH (h:Heap):SetL knd (h.push (i9 (!i3 w))) h.objs.size (J5 (metKHt (K:=K) f 0)) 0:=
 ⟨_,#[],0,_,Aw _ rfl,⟨rfl,rfl,rfl⟩,rfl,λe a=>by simp at a,λk=>by simp [J5,metKHt],by decide,rfl,rfl,TbHt.fresh _ _ _,rfl⟩
theorem mE {a:Addr} {c:Array Value} (f:Nat->K) (Z:A.handled=none) (u:s.heap.IsTuple a c\/s.heap.IsList a c) (hf:∀ i v,c[i]?=some v->knd.is (f i) v=true/\v.scannable=true) (G:c.size+1<scanBound) (P:Fin->Shared->Prop) (Q:Value->Shared->Prop)
  (h:∀ (g:Heap) (d:Nat),w9 knd f c.size s g->P (.done (.ret .none)) { s with heap:=g,toks:=d }) :
  wpAny (model prog w) A (Builtin.«set.__init__» ⟨[.ref s.heap.objs.size,.ref a],[]⟩) P Q { s with heap:=s.heap.push (i9 (!i3 w)) }:=by
 have gS:(s.heap.push (i9 (!i3 w))).get? s.heap.objs.size=some (i9 (!i3 w)):=Aw _ rfl;have E:∀ (k:Obj) (L M:List Addr) (N:Nat->Heap->Prop) (W:Walks prog w A.in1 (s.heap.objs.size+1) L M c.size (λi v=>c[i]?=some v) N),M=[s.heap.objs.size+1]->s.heap.objs.size∉L->N 0 ((s.heap.push (i9 (!i3 w))).push k)->codeAny (model prog w) A (.builtin "set.update.loop" ⟨[.ref s.heap.objs.size,.ref (s.heap.objs.size+1)],[]⟩) (λr z=>∃ g d,r=.ok (.ret .none)/\z={ s with heap:=g,toks:=d }/\w9 knd f c.size s g) { s with heap:=(s.heap.push (i9 (!i3 w))).push k }:=λk L M N W ew nS st=>by
  subst ew;refine pe (knd:=knd) W.toS s.heap.objs.size nS f hf G (c.size-0) 0 _ (by omega) (AO _) st ?_ ?_
  ·exact (cH (knd:=knd) (f:=f) s.heap).mv λo e=>Ah _ e
  ·rintro ⟨g,gn,Y,d,X⟩ H hS;have z1:gn=s.gens:=H.gens;have z2:Y=s.drawn:=H.drawn;have z3:X=s.os:=H.os;subst z1 z2 z3;refine ⟨g,d,rfl,rfl,hS,λb o G e=>H.heap b o ?_ (Ah _ (Ah _ e))⟩;simp only [Ar,AH,Br,not_or];exact ⟨At G,At (AV G)⟩
 have S:A.in1.handled=none:=by simp [Z]
 have I:(s.heap.push (i9 (!i3 w))).objs.size=s.heap.objs.size+1:=Ds _ _;have j:∀ (k:Obj),codeAny (model prog w) A (.builtin "set.update.loop" ⟨[.ref s.heap.objs.size,.ref (s.heap.objs.size+1)],[]⟩) (λr z=>∃ g d,r=.ok (.ret .none)/\z={ s with heap:=g,toks:=d }/\w9 knd f c.size s g) { s with heap:=(s.heap.push (i9 (!i3 w))).push k } ->
   wpAny (model prog w) A (runValue (.builtin "set.update.loop" ⟨[.ref s.heap.objs.size,.ref (s.heap.objs.size+1)],[]⟩) >>= λ_=>pure ()) (λ_ z=>wpAny (model prog w) A (ret Value.none) P Q z) Q { s with heap:=(s.heap.push (i9 (!i3 w))).push k }:=λk z=>by
  refine Af (wpAny_runValue (BJ z λr y ⟨g,d,C,T,e3⟩=>?_));subst C T;exact Ai (Ai (h g d e3))
 rcases u with u | u
 ·obtain ⟨ob,x,q,n,D⟩:=u;obtain ⟨J,m,t,l⟩:=ob;dsimp only at q D;subst q D;have C:=Ah (i9 (!i3 w)) x;have p:(s.heap.push (i9 (!i3 w))).IsTuple a c:=⟨_,C,rfl,n,rfl⟩;have B:=An x;have V:=F.sub_tuple_set;have U:=F.sub_tuple_frozenset;have q3:(Value.type "tuple" == Value.type "dict")=false:=by decide
  unfold Builtin.«set.__init__» noKeywords Builtin.Frozenset.updateFrom;generalize R:pyIter=pI
  wp_walk
  subst R;refine wpAny_pyIter_tuple p ?_;show wpAny _ _ (runValue (.builtin "set.update.loop" ⟨[.ref s.heap.objs.size,.ref (s.heap.push (i9 (!i3 w))).objs.size],[]⟩) >>= λ_=>pure ()) _ _ { s with heap:=(s.heap.push (i9 (!i3 w))).push _ };rw [I];have O:a≠s.heap.objs.size+1:=At (AV B);refine j _ (E _ _ _ _ (Walks.tuple S _ a O c) rfl ?_ ⟨⟨_,I▸Aw _ rfl,rfl,rfl⟩,p.push _⟩);simp only [Ar,AH,Br,not_or];exact ⟨At (Bd _),Nat.ne_of_gt B⟩
 ·obtain ⟨ob,x,q,n,D⟩:=u;obtain ⟨J,m,t,l⟩:=ob;dsimp only at q D;subst q D;have C:=Ah (i9 (!i3 w)) x;have p:(s.heap.push (i9 (!i3 w))).IsList a c:=⟨_,C,rfl,n,rfl⟩;have B:=An x;have V:=PySem.F.sub_list_set;have U:=PySem.F.sub_list_frozenset;have q3:(Value.type "list" == Value.type "dict")=false:=by decide
  unfold Builtin.«set.__init__» noKeywords Builtin.Frozenset.updateFrom;generalize R:pyIter=pI
  wp_walk
  subst R;refine BG p ?_;show wpAny _ _ (runValue (.builtin "set.update.loop" ⟨[.ref s.heap.objs.size,.ref (s.heap.push (i9 (!i3 w))).objs.size],[]⟩) >>= λ_=>pure ()) _ _ { s with heap:=(s.heap.push (i9 (!i3 w))).push _ };rw [I];have O:a≠s.heap.objs.size+1:=At (AV B);refine j _ (E _ _ _ _ (Walks.list S _ a O c) rfl ?_ ⟨⟨_,I▸Aw _ rfl,rfl,rfl⟩,p.push _⟩);simp only [Ar,AH,Br,not_or];exact ⟨At (Bd _),Nat.ne_of_gt B⟩
theorem ph (a:Value) {Q:Value->Shared->Prop} (h:Q (.ref s.heap.objs.size) { s with heap:=s.heap.push (i9 (!i3 w)) }):codeAny (model prog w) A (.call (.builtin "set.__new__") ⟨[.type "set",a],[]⟩) (wants Q E) s:=by
 refine codeAny_of_tree ?_;show wpAny _ A.in1 (checkBuiltinCall "set.__new__" ⟨[.type "set",a],[]⟩ >>= λ_=>again (.builtin "set.__new__" ⟨[.type "set",a],[]⟩)) _ _ s;refine Af (wpAny_of_eq (PySem.F.newCall_set_1 a) (Ai ⟨plainId_quiet PySem.F.plain_set_new _,CF PySem.F.entry_set_new ?_⟩));rw [CB PySem.F.plain_set_new _];unfold Builtin.«set.__new__» Builtin.Frozenset.newClass;have q:=sub_set_self;obtain ⟨e,g,d,c,b⟩:=s;dsimp only
 wp_walk
 refine wpAny_askSetting (Ai ?_);dsimp only;simp only [newObj];exact Af (wpAny_alloc (Ai (Ai h)))
theorem callLHt {a:Addr} {d:Array Value} (f:Nat->K) {Q:Value->Shared->Prop} (o:A.handled=none) (l:s.heap.IsTuple a d\/s.heap.IsList a d) (m:∀ i v,d[i]?=some v->knd.is (f i) v=true/\v.scannable=true) (k:d.size+1<scanBound)
  (h:∀ (g:Heap) (e:Nat),w9 knd f d.size s g->Q (.ref s.heap.objs.size) { s with heap:=g,toks:=e }):wpAny (model prog w) A (call (.type "set") [.ref a]) Q E s:=by
 obtain ⟨c,y,u⟩:=PySem.F.called_set.mro;have m2:=PySem.F.called_set.made;have B:=PySem.F.called_set.sub;refine Dx (codeAny_of_tree ?_);show wpAny _ _ (callAny (.type "set") _) _ _ _;refine Ai ⟨Code.quiet_builtin _ (by decide +kernel),CF PySem.F.entry_type_call ?_⟩;rw [Around.under_plain (weight_type_call_type "set" [.ref a] []) rfl];have q:=PySem.F.called_set.notType;have C:=PySem.F.called_set.canCreate;have t:=PySem.F.typeCall_set_1 (.ref a)
 repeat (any_goals (first | assumption | wp_step))
 refine BJ (ph (.ref a) (E:=E) (Q:=λr z=>r=.ref s.heap.objs.size/\z={ s with heap:=s.heap.push (i9 (!i3 w)) }) ⟨rfl,rfl⟩) λr z b=>?_
 match r,b with
 | .error _,b=>exact b
 | .ok .next,b=>exact b.elim
 | .ok .brk,b=>exact b.elim
 | .ok .cont,b=>exact b.elim
 | .ok (.ret r),b=>
  obtain ⟨rfl,rfl⟩:=b;have n:Shared.TypeIs { s with heap:=s.heap.push (i9 (!i3 w)) } (.ref s.heap.objs.size) "set":=⟨_,Aw _ rfl,rfl⟩;have p:=PySem.F.called_set.init.lookup;have x:=PySem.F.called_set.init.bind (.ref s.heap.objs.size)
  repeat (any_goals (first | assumption | wp_step))
  refine BJ (codeAny_call_builtin (R:=wants (λr z=>r=.none/\∃ g e,z={ s with heap:=g,toks:=e }/\w9 knd f d.size s g) E) PySem.F.called_set.init.plain PySem.F.entry_set_init (check_set_init_1 n ?_)) λr z b=>?_
  ·exact mE f (by simp [o]) l m k _ _ λg e j=>⟨rfl,g,e,rfl,j⟩
  ·match r,b with
   | .error _,b=>exact b
   | .ok .next,b=>exact b.elim
   | .ok .brk,b=>exact b.elim
   | .ok .cont,b=>exact b.elim
   | .ok (.ret r),b=>
    obtain ⟨rfl,g,e,rfl,j⟩:=b
    repeat (any_goals (first | assumption | wp_step))
    exact h _ _ j
end
end HT
namespace L3
open PySem PySem.Spec PyProof.Rows L2
def i8:List D->Option (List Str)
 | []=>some []
 | .str x :: ds=>(i8 ds).map (x :: ·)
 | _=>none
theorem eJ {K:PySem.W.Frag} {μ:Mp} {H:Hp}:∀ {es:List D} {xs:List V} {ys:List Str},i8 es=some ys->RDs K μ H es xs->xs=ys.map V.str
 | [],_,_,e,r=>by cases e;cases r;rfl
 | d :: es,_,ys,e,r=>by
  cases d with
  | str x=>
   simp only [i8] at e;cases q:i8 es with
   | none=>rw [q] at e;cases e
   | some zs=>
    rw [q] at e;cases e;cases r with
    | cons h t=>cases h;rw [eJ q t];rfl
  | _=>simp only [i8] at e;cases e
def CXr (P:Program) (w:World) (K:PySem.W.Frag):List PySem.Env->Hp->Shared->XK->Value->Shared->Prop:=λb H s E e s'=>
 ∃ a C d c H',e=.ref a/\s'.os=s.os/\AllBare s'.gens/\Un (frs b) [] H H' s.heap s'.heap/\HOk P w H' s'.heap/\Fx K H' a C d c/\E e none H'
abbrev CXd (P:Program) (w:World) (K:PySem.W.Frag):CXT:=⟨CXr P w K,false⟩
section
variable {K:PySem.W.Frag} {cl:Nat->Addr} {xe xe':Addr->Hp->Prop} {α β:Type} {μ:Mp} {H H':Hp} {S:Sto} {a C:Addr} {d tb:Option Addr} {P:Program} {w:World} {h:Heap}
theorem Post.ximp {G:α->Sto->Mp->Hp->Prop} (p:Post K cl xe μ H r G) (k:∀ n S μ' H' a,r=.exn n S->Lat μ H μ' H'->Rep K cl μ' S H'->μ'.pl[n]?=some a->xe a H'->xe' a H'):Post K cl xe' μ H r G:=by
 cases r with
 | ok a S=>exact p
 | exn n S=>exact λμ' H' a l r e=>k n S μ' H' a rfl l r e (p μ' H' a l r e)
 | bad=>exact p
def nx (m:M α):M α:=λS=>match m S with
 | .exn _ _=>.bad
 | r=>r
theorem Post.nx {G:α->Sto->Mp->Hp->Prop} (p:Post K cl xe μ H (nx m S) G):Post K cl xe' μ H (m S) G:=by
 unfold L3.nx at p;cases e:m S with
 | ok a S1=>rw [e] at p;exact p
 | exn n S1=>rw [e] at p;exact p.elim
 | bad=>rw [e] at p;exact p
theorem Rep.mv {n:Nat} (r:Rep K cl μ S H) (hk:HOk P w H h) (e:μ.pl[n]?=some a) (fx:H a=some (G6 tb a C d)) (m:Mv H a C d H'):Lat μ H μ H'/\Rep K cl μ S H':=by
 have am:=AF e;have l:Lat μ H μ H':=⟨λ_ _ h=>h,λb o q nb=>m.1 b o (λz=>nb (z▸am)) q,λ_ h=>.inl h,rfl⟩;refine ⟨l,r.len,r.nd,λi o b e1 e2=>?_,λb mb=>let ⟨h1,u,h2⟩:=r.res b mb;⟨h1,u,l.oth _ _ h2 h1⟩⟩;have ho:=r.ats i o b e1 e2;by_cases hb:b=a
 ·subst hb;cases o with
  | lst ds=>obtain ⟨xs,q,_⟩:=ho;rw [fx] at q;simp [G6] at q
  | dct kvs=>obtain ⟨xs,q,_⟩:=ho;rw [fx] at q;simp [G6] at q
  | exc c fs=>
   obtain ⟨xc,gs,q,fr,o⟩:=ho;obtain ⟨tb',m2⟩:=m.2;obtain ⟨vs,q1,_⟩:=(hk b _ fx).1;rcases o with ⟨z,e2⟩ | ⟨d',h1,h2,e2,e3⟩
   ·obtain ⟨vs2,q2,_⟩:=(hk b _ e2).1;rw [q1] at q2;cases q2;exact ⟨xc,gs,Paired.mono (λ_ _ ⟨z,w⟩=>⟨z,w.later l⟩) q,tb',.inl ⟨z,m2⟩⟩
   ·obtain ⟨vs2,q2,_⟩:=(hk b _ e2).1;rw [q1] at q2;cases q2;exact ⟨xc,gs,Paired.mono (λ_ _ ⟨z,w⟩=>⟨z,w.later l⟩) q,tb',.inr ⟨d',h1,h2,m2,m.1 d' _ h1 e3⟩⟩
 ·obtain ⟨u,q⟩:=ho.some;exact ho.later l (by rw [q];exact m.1 b u hb q)
end
def xOf (X:Cx) (a:Addr) (H:Hp):Prop:=∀ (pins:List (Addr×Obj)) (σ:L2.St) (s:Shared) (C:Addr) (d b:Option Addr),L2.Inv X pins σ H s->Fx X.K H a C d b->X.xe (.ref a) s
def spX (K:PySem.W.Frag) (cl:Nat->Addr) (n:Nat) (a:List D->M D):Sp:=λvs H Q E=>vs.length=n/\∃ μ S ds,RDs K μ H ds vs/\Rep K cl μ S H/\Post K cl (iF E) μ H (a ds S) λd _ μ' H'=>∀ v,RD K μ' H' d v->Q v H'
section
variable {K:PySem.W.Frag} {cl:Nat->Addr} {xe xe':Addr->Hp->Prop} {α:Type} {μ:Mp} {H:Hp}
theorem Post.up {G:α->Sto->Mp->Hp->Prop} (p:Post K cl xe μ H r G) (k:∀ a H',xe a H'->xe' a H'):Post K cl xe' μ H r G:=p.ximp λ_ _ _ H' a _ _ _ _ h=>k a H' h
theorem Post.x0 {G:α->Sto->Mp->Hp->Prop} (p:Post K cl (iF E0) μ H r G):Post K cl xe μ H r G:=p.up λ_ _ z=>False.elim z
end
abbrev x0:Addr->Hp->Prop:=iF E0
section
variable {X:Cx} {cl:Nat->Addr} {xe:Addr->Hp->Prop} {e tg:Expr} {es:List Expr}
theorem PE.x0 (h:PE X e (tD X.K cl xe f)):PE X e (tD X.K cl x0 f):=PE.imp h λσ H Q ⟨μ,S,ρ,a,b,p⟩=>⟨μ,S,ρ,a,b,p.x0⟩
theorem PTL.x0 (h:PTL X es (tBo X.K cl xe f)):PTL X es (tBo X.K cl x0 f):=λpins s σ H Q I ⟨μ,S,ρ,a,b,p⟩=>h pins s σ H Q I ⟨μ,S,ρ,a,b,p.x0⟩
theorem PI.x0 (h:PI X tg e (tIt X.K cl xe f)):PI X tg e (tIt X.K cl x0 f):=PI.imp h λσ H Q ⟨μ,S,ρ,a,b,p⟩=>⟨μ,S,ρ,a,b,p.x0⟩
theorem PSs.x0 (h:PSs X sts (sD X.K cl xe f)):PSs X sts (sD X.K cl x0 f):=PSs.imp h λD σ H ⟨μ,S,ρ,a,b,p⟩=>⟨μ,S,ρ,a,b,p.x0⟩
theorem lE (h:PE X e (mf X.K cl x0 fs)):PE X e (tD X.K cl xe λρ=>bind (nx (fs ρ)) λds=>ret (.lst ds)):=PE.imp h λσ H Q ⟨μ,S,ρ,f,j,p⟩=>
 ⟨μ,S,ρ,f,j,p.bind.nx.imp λds S1 b d l g i c ys k a=>i.ret b d (Lat.refl _ _) g _ (.lst k a)⟩
theorem my:X5 (CXd X.prog X.w X.K) X (λl _ H=>∀ a,l=.ref a->xOf X a H):=λpins σ H s e s' I ⟨a,C,d,i,H',k,g,c,j,f,h,q⟩=>by
 subst k;exact q a rfl pins σ s' C d i (I.call' g j f c λb z=>absurd z (by simp)) h
theorem hI {a:Addr} {fd:FuncData} {ps:List Str} {x:Str} {p pos:Pos} {fs:Env->M (List D)} {b:List D->M D} (F:FnOk X.prog X.w X.K X.mg X.base (CXd X.prog X.w X.K) k a fd ps (spX X.K cl n b)) (l:Room false k X.A) (j:Gl X x) (o:X.mg x=some (.ref a)) (i:PySem.W.keepIn X.K (.ref a)=true) (t:Binds X.K fd ps [])
  (s:PA X (e :: es) (tDs X.K cl (xOf X) fs)) (g:(x==("__debug__" : Str))=false) (hs:(e :: es).all a9=true) :
  PE X (.Call (.Name x p) (e :: es) [] pos) (tD X.K cl (xOf X) λρ=>bind (fs ρ) λds=>if ds.length=n then b ds else bad):=by
 rw [Be,Ag] at hs;exact PE.imp (lI F l j o i t .nil my s g (f7 hs.1) (m9 hs.2)) λσ H Q ⟨μ,S,ρ,m,r,p⟩=>
  ⟨μ,S,ρ,m,r,p.bind.imp λds S1 f u w q d vs c=>by
   by_cases hd:ds.length=n
   ·rw [if_pos hd] at d;exact ⟨by rw [Bf,<- c.length];exact hd,f,S1,ds,by rw [Bf];exact c,q,d.up λa H' h v z=>by cases z;exact h⟩
   ·rw [if_neg hd] at d;exact d.elim⟩
theorem ft {b:List D->M D} (F:FnOk X.prog X.w X.K X.mg X.base (CXd X.prog X.w X.K) k a fd ps (spX X.K cl 0 b)) (f:Room false k X.A) (e:Gl X x) (g:X.mg x=some (.ref a)) (d:PySem.W.keepIn X.K (.ref a)=true) (j:Binds X.K fd ps [])
  (c:(x==("__debug__" : Str))=false):PE X (.Call (.Name x p) [] [] pos) (tD X.K cl (xOf X) λρ=>b []):=PE.imp (jd F f e g d j .nil my c) λσ H Q ⟨μ,S,ρ,l,i,p⟩=>⟨rfl,μ,S,[],.nil,i,p.up λa H' h m z=>by cases z;exact h⟩
end
inductive G where
 | val (d:D) | fn (i n:Nat) | err (c:Nat) (fs:List Str) | dct (kvs:List (Str×D))
structure Gm where
 gl:List (Str×G)
 sub:Nat->Nat->Bool
 flds:List Str
 qs:List Nat:=[]
structure Lc where
 N:List Str
 sc:Scope
 fr:Bool
 mu:List Str
def quiet (lc:Lc):Bool:=lc.mu.contains ("~" : Str)
structure Ev where
 e:Lc->Expr->Env->M D
 t:Lc->Expr->Env->M Bool
 s:Lc->Stmt->Env->M Fl
 i:Lc->Expr->Expr->Env->M (Src×Nat)
structure EvK where
 e:Lc->Expr->Env->∀ {α:Type},(D->M α)->M α
 t:Lc->Expr->Env->∀ {α:Type},(Bool->M α)->M α
 s:Lc->Stmt->Env->∀ {α:Type},(Fl->M α)->M α
 i:Lc->Expr->Expr->Env->∀ {α:Type},(Src×Nat->M α)->M α
structure EqK (r:Ev) (q:EvK):Prop where
 e:∀ lc e ρ {α:Type} (k:D->M α),q.e lc e ρ k=bind (r.e lc e ρ) k
 t:∀ lc e ρ {α:Type} (k:Bool->M α),q.t lc e ρ k=bind (r.t lc e ρ) k
 s:∀ lc e ρ {α:Type} (k:Fl->M α),q.s lc e ρ k=bind (r.s lc e ρ) k
 i:∀ lc g e ρ {α:Type} (k:Src×Nat->M α),q.i lc g e ρ k=bind (r.i lc g e ρ) k
theorem bJ {α β:Type} (k:α->M β):bind bad k=bad:=rfl
theorem j0 {α β:Type} {c:Prop} [Decidable c] (a b:M α) (k:α->M β):bind (if c then a else b) k=if c then bind a k else bind b k:=by split <;> rfl
theorem E7 {α:Type} (m:M α):bind m ret=m:=by
 funext S;unfold bind ret;cases m S <;> rfl
def f5:List Str->Str->Option Nat
 | [],_=>none
 | y :: ys,x=>if y=x then some 0 else (f5 ys x).map (· + 1)
theorem j9:∀ {N:List Str} {x:Str} {i:Nat},f5 N x=some i->N[i]?=some x
 | [],_,_,e=>by cases e
 | y :: ys,x,i,e=>by
  unfold f5 at e;split at e
  ·rename_i h;cases e;simp [h]
  ·cases q:f5 ys x with
   | none=>rw [q] at e;cases e
   | some j=>rw [q] at e;cases e;simpa using j9 q
def gJ (sc:Scope) (x:Str):Bool:=decide (sc.names.lookup x=some .local)||decide (sc.names.lookup x=some .cell)||decide (sc.names.lookup x=some .free)
def aa (sc:Scope) (x:Str):Bool:=decide (sc.names.lookup x=some .local)||decide (sc.names.lookup x=some .cell)
def glB (sc:Scope) (x:Str):Bool:=decide (sc.names.lookup x=some .globalImplicit)
def q4 (x:Str):Bool:=!(x==("__debug__" : Str))&&!(x==("__classdict__" : Str))&&!(x==("__name__" : Str))
theorem kq {sc:Scope} {x:Str} (h:gJ sc x=true):Vis sc x:=by
 simpa [gJ,Vis,or_assoc] using h
theorem A0 {sc:Scope} {x:Str} (h:aa sc x=true):L2.Loc sc x:=by
 simpa [aa,L2.Loc] using h
theorem m6 {x:Str} (h:q4 x=true):(x==("__debug__" : Str))=false/\(x==("__classdict__" : Str))=false/\x ≠ "__name__":=by
 simpa [q4,and_assoc] using h
structure Tx where
 P:Program
 w:World
 K:PySem.W.Frag
 mg:Str->Option Value
 base:Heap
 cl:Nat->Addr
def bnames:List Str:=["len","tuple","list","repr","isinstance","range","int","bool","str","dict","ValueError","all","any","sum","max","min","sorted","set","enumerate","abs","zip"]
abbrev CXq (q:Bool):CXT:=⟨λ_ _ _ _ _ _=>False,q⟩
structure FnX (T:Tx) (k i n:Nat) (x:Str) (run:List D->M D):Prop where
 ex:∃ (a:Addr) (fd:FuncData) (ps:List Str),ps.length=n/\FnOk T.P T.w T.K T.mg T.base (CXd T.P T.w T.K) k a fd ps (spX T.K T.cl n run)/\T.mg x=some (.ref a)/\PySem.W.keepIn T.K (.ref a)=true/\Binds T.K fd ps []
structure FnAt (T:Tx) (k i n:Nat) (x:Str) (run:List D->M D):Prop where
 ex:∃ (a:Addr) (fd:FuncData) (ps:List Str),ps.length=n/\FnOk T.P T.w T.K T.mg T.base (CXq true) k a fd ps (spD T.K T.cl n run)/\T.mg x=some (.ref a)/\PySem.W.keepIn T.K (.ref a)=true/\Binds T.K fd ps []
structure ErrAt (T:Tx) (x:Str) (c:Nat) (fs:List Str):Prop where
 xc:XC T.K (T.cl c)
 mg_:T.mg x=some (.ref (T.cl c))
 ex:∃ (f:Addr) (fd:FuncData) (ps:List Str),PySem.W.findIn T.K (.ref (T.cl c)) "__init__" = some (some (.ref f))/\PySem.W.isFn T.K (.ref f)=true/\Binds T.K fd ps [] /\
  match fs with
  | []=>FnOk T.P T.w T.K T.mg T.base CX0 2 f fd ps (Hn.spHE T.K)
  | [g]=>FnOk T.P T.w T.K T.mg T.base CX0 2 f fd ps (Hn.sp1 T.K g)
  | [g,g2]=>FnOk T.P T.w T.K T.mg T.base CX0 2 f fd ps (Hn.sp2 T.K g g2)
  | _=>False
def im (T:Tx) (x:Str) (kvs:List (Str×D)):Prop:=∃ (a:Addr) (es:Array DictEntry) (n:Nat),T.mg x=some (.ref a)/\T.K.lookup a=some ⟨.type "dict",none,.dict es n,#[]⟩/\PySem.W.KeysLit T.w.params es.toList/\(a==sysModules)=false/\(∀ k,kvs.lookup k=none->PySem.W.nsIn T.K a k=some none)/\∀ k d,kvs.lookup k=some d->∃ u v,PySem.W.nsIn T.K a k=some (some u)/\RelV v u/\∀ μ H,RD T.K μ H d v
structure TxOk (T:Tx) (Γ:Gm) (k:Nat) (C:Nat->List D->M D):Prop where
 blt:∀ x∈bnames,Γ.gl.lookup x=none->T.mg x=none
 val:∀ x d,Γ.gl.lookup x=some (.val d)->∃ u v,T.mg x=some u/\RelV v u/\∀ μ H,RD T.K μ H d v
 fn:∀ x i n,Γ.gl.lookup x=some (.fn i n)->i∉Γ.qs->FnX T k i n x (C i)
 fnq:∀ x i n,Γ.gl.lookup x=some (.fn i n)->i∈Γ.qs->FnAt T k i n x (C i)
 err:∀ x c fs,Γ.gl.lookup x=some (.err c fs)->ErrAt T x c fs/\(∀ g∈fs,B5 T.K (T.cl c) g)
 sub:∀ x c c0 fs,Γ.gl.lookup x=some (.err c0 fs)->XC T.K (T.cl c)->PySem.W.kitOne T.K (.ref (T.cl c)) (.ref (T.cl c0))=some (Γ.sub c c0)
 subV:∀ c,XC T.K (T.cl c)->PySem.W.kitOne T.K (.ref (T.cl c)) (.type "ValueError")=some true
 subT:∀ c,XC T.K (T.cl c)->∀ t∈tys,PySem.W.kitOne T.K (.ref (T.cl c)) (.type t)=some false
 fld:∀ g∈Γ.flds,∀ c,XC T.K (T.cl c)->B5 T.K (T.cl c) g
 dct:∀ x kvs,Γ.gl.lookup x=some (.dct kvs)->im T x kvs
 k3:3<=k
structure CxOk (T:Tx) (k:Nat) (lc:Lc) (X:Cx):Prop where
 prog:X.prog=T.P
 w:X.w=T.w
 K:X.K=T.K
 mg:X.mg=T.mg
 base:X.base=T.base
 N:X.N=lc.N
 nd:lc.N.Nodup
 sc:X.env.scope=lc.sc
 calm:quiet lc=false->X.calm=true
 room:Room (quiet lc) k X.A
 po:PassesOwn (model X.prog X.w) X.A X.env X.xe
 fn:X.fn=λ_=>lc.fr
 kd:lc.sc.kind=.function
 own:lc.fr=true->quiet lc=false->X.stack=X.env :: X.outer/\X.env.frame=some X.env.locals
structure EvOk (T:Tx) (k:Nat) (r:Ev):Prop where
 e:∀ lc X,CxOk T k lc X->∀ e,PE X e (tD T.K T.cl (xOf X) (r.e lc e))
 t:∀ lc X,CxOk T k lc X->∀ e,PT X e (tBo T.K T.cl (xOf X) (r.t lc e))
 s:∀ lc X,CxOk T k lc X->lc.fr=true->∀ st,PS X st (sD T.K T.cl (xOf X) (r.s lc st))
 i:∀ lc X,CxOk T k lc X->∀ g e,PI X g e (tIt T.K T.cl (xOf X) (r.i lc g e))
section
variable {T:Tx} {k:Nat} {r:Ev} {Γ:Gm} {C:Nat->List D->M D} {lc:Lc} {X:Cx} {pos:Pos}
theorem EvOk.ex (R:EvOk T k r) (h:CxOk T k lc X) (e:Expr):PE X e (tD X.K T.cl (xOf X) (r.e lc e)):=by rw [h.K];exact R.e lc X h e
theorem EvOk.tx (R:EvOk T k r) (h:CxOk T k lc X) (e:Expr):PT X e (tBo X.K T.cl (xOf X) (r.t lc e)):=by rw [h.K];exact R.t lc X h e
theorem EvOk.ix (R:EvOk T k r) (h:CxOk T k lc X) (g e:Expr):PI X g e (tIt X.K T.cl (xOf X) (r.i lc g e)):=by rw [h.K];exact R.i lc X h g e
theorem EvOk.sx (R:EvOk T k r) (h:CxOk T k lc X) (hf:lc.fr=true) (st:Stmt):PS X st (sD X.K T.cl (xOf X) (r.s lc st)):=by rw [h.K];exact R.s lc X h hf st
theorem CxOk.u64 (h:CxOk T k lc X):X.A.units+64<cLine:=h.room.units
theorem CxOk.u80 (h:CxOk T k lc X):X.A.units+80<cLine:=by have:=h.room.un;omega
theorem CxOk.u1 (h:CxOk T k lc X):X.A.units+1<cLine:=qY h.room
theorem CxOk.gl (h:CxOk T k lc X) {x:Str} (hg:glB lc.sc x=true):Gl X x:=by
 show X.env.kindOf x=_;unfold PySem.Env.kindOf;rw [h.sc];exact AS hg
theorem TxOk.none (TX:TxOk T Γ k C) (h:CxOk T k lc X) {x:Str} (hx:x∈bnames) (e:Γ.gl.lookup x=none):X.mg x=none:=by rw [h.mg];exact TX.blt x hx e
theorem CxOk.nd' (h:CxOk T k lc X):X.N.Nodup:=by rw [h.N];exact h.nd
theorem CxOk.fn1 (h:CxOk T k lc X) (hf:lc.fr=true) {x:Str}:X.fn x=true:=by rw [h.fn];exact hf
theorem CxOk.room0 (h:CxOk T k lc X) (hq:quiet lc=false):Room false k X.A:=by have:=h.room;rw [hq] at this;exact this
end
abbrev Cf:=Nat->List D->M D
structure RuE:Type 1 where
 is:Gm->Lc->Expr->Bool
 run:Ev->Gm->Cf->Lc->Expr->Env->M D
 ok:∀ {T:Tx} {k:Nat} {r:Ev} {Γ:Gm} {C:Cf} {lc:Lc} {X:Cx} (e:Expr),EvOk T k r->TxOk T Γ k C->CxOk T k lc X->is Γ lc e=true->PE X e (tD X.K T.cl (xOf X) (run r Γ C lc e))
 runK:EvK->Gm->Cf->Lc->Expr->Env->∀ {α:Type},(D->M α)->M α
 eq:∀ {r:Ev} {q:EvK} {Γ:Gm} {C:Cf} {lc:Lc} (e:Expr) (ρ:Env) {α:Type} (k:D->M α),EqK r q->runK q Γ C lc e ρ k=bind (run r Γ C lc e ρ) k
structure RuT:Type 1 where
 is:Gm->Lc->Expr->Bool
 run:Ev->Gm->Cf->Lc->Expr->Env->M Bool
 ok:∀ {T:Tx} {k:Nat} {r:Ev} {Γ:Gm} {C:Cf} {lc:Lc} {X:Cx} (e:Expr),EvOk T k r->TxOk T Γ k C->CxOk T k lc X->is Γ lc e=true->PT X e (tBo X.K T.cl (xOf X) (run r Γ C lc e))
 runK:EvK->Gm->Cf->Lc->Expr->Env->∀ {α:Type},(Bool->M α)->M α
 eq:∀ {r:Ev} {q:EvK} {Γ:Gm} {C:Cf} {lc:Lc} (e:Expr) (ρ:Env) {α:Type} (k:Bool->M α),EqK r q->runK q Γ C lc e ρ k=bind (run r Γ C lc e ρ) k
structure RuS:Type 1 where
 is:Gm->Lc->Stmt->Bool
 run:Ev->Gm->Cf->Lc->Stmt->Env->M Fl
 ok:∀ {T:Tx} {k:Nat} {r:Ev} {Γ:Gm} {C:Cf} {lc:Lc} {X:Cx} (e:Stmt),EvOk T k r->TxOk T Γ k C->CxOk T k lc X->lc.fr=true->is Γ lc e=true->PS X e (sD X.K T.cl (xOf X) (run r Γ C lc e))
 runK:EvK->Gm->Cf->Lc->Stmt->Env->∀ {α:Type},(Fl->M α)->M α
 eq:∀ {r:Ev} {q:EvK} {Γ:Gm} {C:Cf} {lc:Lc} (e:Stmt) (ρ:Env) {α:Type} (k:Fl->M α),EqK r q->runK q Γ C lc e ρ k=bind (run r Γ C lc e ρ) k
structure RuI:Type 1 where
 is:Gm->Lc->Expr->Expr->Bool
 run:Ev->Gm->Cf->Lc->Expr->Env->M (Src×Nat)
 ok:∀ {T:Tx} {k:Nat} {r:Ev} {Γ:Gm} {C:Cf} {lc:Lc} {X:Cx} (g e:Expr),EvOk T k r->TxOk T Γ k C->CxOk T k lc X->is Γ lc g e=true->PI X g e (tIt X.K T.cl (xOf X) (run r Γ C lc e))
 runK:EvK->Gm->Cf->Lc->Expr->Env->∀ {α:Type},(Src×Nat->M α)->M α
 eq:∀ {r:Ev} {q:EvK} {Γ:Gm} {C:Cf} {lc:Lc} (e:Expr) (ρ:Env) {α:Type} (k:Src×Nat->M α),EqK r q->runK q Γ C lc e ρ k=bind (run r Γ C lc e ρ) k
structure Rules:Type 1 where
 es:List RuE
 ts:List RuT
 ss:List RuS
 is:List RuI
section
variable (Rs:Rules) (Γ:Gm) (C:Cf)
def step (r:Ev):Ev:=
 ⟨λlc e=>match Rs.es.find? (λR=>R.is Γ lc e) with
  | some R=>R.run r Γ C lc e
  | none=>λ_=>bad,
 λlc e=>match Rs.ts.find? (λR=>R.is Γ lc e) with
  | some R=>R.run r Γ C lc e
  | none=>λ_=>bad,
 λlc e=>match Rs.ss.find? (λR=>R.is Γ lc e) with
  | some R=>R.run r Γ C lc e
  | none=>λ_=>bad,
 λlc g e=>match Rs.is.find? (λR=>R.is Γ lc g e) with
  | some R=>R.run r Γ C lc e
  | none=>λ_=>bad⟩
def badEv:Ev:=⟨λ_ _ _=>bad,λ_ _ _=>bad,λ_ _ _=>bad,λ_ _ _ _=>bad⟩
def ev:Nat->Ev
 | 0=>badEv
 | n+1=>step Rs Γ C (ev n)
def mh (q:EvK):EvK:=
 ⟨λlc e ρ _ k=>match Rs.es.find? (λR=>R.is Γ lc e) with
  | some R=>R.runK q Γ C lc e ρ k
  | none=>bad,
 λlc e ρ _ k=>match Rs.ts.find? (λR=>R.is Γ lc e) with
  | some R=>R.runK q Γ C lc e ρ k
  | none=>bad,
 λlc e ρ _ k=>match Rs.ss.find? (λR=>R.is Γ lc e) with
  | some R=>R.runK q Γ C lc e ρ k
  | none=>bad,
 λlc g e ρ _ k=>match Rs.is.find? (λR=>R.is Γ lc g e) with
  | some R=>R.runK q Γ C lc e ρ k
  | none=>bad⟩
def vY:EvK:=⟨λ_ _ _ _ _=>bad,λ_ _ _ _ _=>bad,λ_ _ _ _ _=>bad,λ_ _ _ _ _ _=>bad⟩
def evK:Nat->EvK
 | 0=>vY
 | n+1=>mh Rs Γ C (evK n)
end
section
variable {Rs:Rules} {T:Tx} {k:Nat} {r:Ev} {q:EvK} {Γ:Gm} {C:Cf} {lc:Lc} {X:Cx}
theorem kt (TX:TxOk T Γ k C) (R:EvOk T k r):EvOk T k (step Rs Γ C r):=by
 refine ⟨λlc X h e=>?_,λlc X h e=>?_,λlc X h hf e=>?_,λlc X h g e=>?_⟩
 ·rw [<- h.K];show PE X e (tD X.K T.cl (xOf X) (match Rs.es.find? (λR=>R.is Γ lc e) with
   | some R=>R.run r Γ C lc e
   | none=>λ_=>bad))
  cases hf:Rs.es.find? (λR=>R.is Γ lc e) with
  | none=>exact b7
  | some R0=>exact R0.ok e R TX h (by have:=CG hf;exact this)
 ·rw [<- h.K];show PT X e (tBo X.K T.cl (xOf X) (match Rs.ts.find? (λR=>R.is Γ lc e) with
   | some R=>R.run r Γ C lc e
   | none=>λ_=>bad))
  cases hf:Rs.ts.find? (λR=>R.is Γ lc e) with
  | none=>exact cn
  | some R0=>exact R0.ok e R TX h (by have:=CG hf;exact this)
 ·rw [<- h.K];show PS X e (sD X.K T.cl (xOf X) (match Rs.ss.find? (λR=>R.is Γ lc e) with
   | some R=>R.run r Γ C lc e
   | none=>λ_=>bad))
  cases hq:Rs.ss.find? (λR=>R.is Γ lc e) with
  | none=>exact B7
  | some R0=>exact R0.ok e R TX h hf (by have:=CG hq;exact this)
 ·rw [<- h.K];show PI X g e (tIt X.K T.cl (xOf X) (match Rs.is.find? (λR=>R.is Γ lc g e) with
   | some R=>R.run r Γ C lc e
   | none=>λ_=>bad))
  cases hf:Rs.is.find? (λR=>R.is Γ lc g e) with
  | none=>exact dP
  | some R0=>exact R0.ok g e R TX h (by have:=CG hf;exact this)
theorem jZ:EvOk T k badEv:=⟨λlc X h e=>by rw [<- h.K];exact b7,λlc X h e=>by rw [<- h.K];exact cn,λlc X h _ st=>by rw [<- h.K];exact B7,λlc X h g e=>by rw [<- h.K];exact dP⟩
theorem iR (TX:TxOk T Γ k C):∀ n,EvOk T k (ev Rs Γ C n)
 | 0=>jZ
 | n+1=>kt TX (iR TX n)
theorem lU (h:EqK r q):EqK (step Rs Γ C r) (mh Rs Γ C q):=by
 refine ⟨λlc e ρ _ k=>?_,λlc e ρ _ k=>?_,λlc e ρ _ k=>?_,λlc g e ρ _ k=>?_⟩
 ·show (match Rs.es.find? (λ(R:RuE)=>R.is Γ lc e) with
   | some R=>R.runK q Γ C lc e ρ k
   | none=>bad)=bind ((match Rs.es.find? (λ(R:RuE)=>R.is Γ lc e) with
   | some R=>R.run r Γ C lc e
   | none=>λ_=>bad) ρ) k
  cases Rs.es.find? (λ(R:RuE)=>R.is Γ lc e) with
  | none=>rfl
  | some R0=>exact R0.eq e ρ k h
 ·show (match Rs.ts.find? (λ(R:RuT)=>R.is Γ lc e) with
   | some R=>R.runK q Γ C lc e ρ k
   | none=>bad)=bind ((match Rs.ts.find? (λ(R:RuT)=>R.is Γ lc e) with
   | some R=>R.run r Γ C lc e
   | none=>λ_=>bad) ρ) k
  cases Rs.ts.find? (λ(R:RuT)=>R.is Γ lc e) with
  | none=>rfl
  | some R0=>exact R0.eq e ρ k h
 ·show (match Rs.ss.find? (λ(R:RuS)=>R.is Γ lc e) with
   | some R=>R.runK q Γ C lc e ρ k
   | none=>bad)=bind ((match Rs.ss.find? (λ(R:RuS)=>R.is Γ lc e) with
   | some R=>R.run r Γ C lc e
   | none=>λ_=>bad) ρ) k
  cases Rs.ss.find? (λ(R:RuS)=>R.is Γ lc e) with
  | none=>rfl
  | some R0=>exact R0.eq e ρ k h
 ·show (match Rs.is.find? (λ(R:RuI)=>R.is Γ lc g e) with
   | some R=>R.runK q Γ C lc e ρ k
   | none=>bad)=bind ((match Rs.is.find? (λ(R:RuI)=>R.is Γ lc g e) with
   | some R=>R.run r Γ C lc e
   | none=>λ_=>bad) ρ) k
  cases Rs.is.find? (λ(R:RuI)=>R.is Γ lc g e) with
  | none=>rfl
  | some R0=>exact R0.eq e ρ k h
theorem mi:∀ n,EqK (ev Rs Γ C n) (evK Rs Γ C n)
 | 0=>⟨λ_ _ _ _ _=>rfl,λ_ _ _ _ _=>rfl,λ_ _ _ _ _=>rfl,λ_ _ _ _ _ _=>rfl⟩
 | n+1=>lU (mi n)
end
section
variable (r:Ev) (q:EvK) (lc:Lc)
def u4:List Expr->Env->M (List D)
 | [],_=>ret []
 | e :: es,ρ=>bind (r.e lc e ρ) λd=>bind (u4 es ρ) λds=>ret (d :: ds)
def B2 {α:Type}:List Expr->Env->(List D->M α)->M α
 | [],_,k=>k []
 | e :: es,ρ,k=>q.e lc e ρ λd=>B2 es ρ λds=>k (d :: ds)
def L5:List Stmt->Env->M Fl
 | [],ρ=>ret (.nx ρ)
 | st :: sts,ρ=>tj (r.s lc st) (L5 sts) ρ
def j4 {α:Type}:List Stmt->Env->(Fl->M α)->M α
 | [],ρ,k=>k (.nx ρ)
 | st :: sts,ρ,k=>q.s lc st ρ λfl=>match fl with
  | .nx ρ'=>j4 sts ρ' k
  | fl=>k fl
end
section
variable {T:Tx} {k:Nat} {r:Ev} {q:EvK} {Γ:Gm} {C:Cf} {lc:Lc} {X:Cx} {pos:Pos}
theorem p0 (h:EqK r q):∀ (es:List Expr) (ρ:Env) {α:Type} (k:List D->M α),B2 q lc es ρ k=bind (u4 r lc es ρ) k
 | [],_,_,_=>rfl
 | e :: es,ρ,_,k=>by
  show q.e lc e ρ (λd=>B2 q lc es ρ λds=>k (d :: ds))=bind (bind (r.e lc e ρ) λd=>bind (u4 r lc es ρ) λds=>ret (d :: ds)) k;rw [h.e,bind_assoc];congr;funext d;rw [p0 h,bind_assoc];rfl
theorem Q1 (h:EqK r q):∀ (sts:List Stmt) (ρ:Env) {α:Type} (k:Fl->M α),j4 q lc sts ρ k=bind (L5 r lc sts ρ) k
 | [],_,_,_=>rfl
 | st :: sts,ρ,_,k=>by
  show (q.s lc st ρ λfl=>match fl with
   | .nx ρ'=>j4 q lc sts ρ' k
   | fl=>k fl)=bind (bind (r.s lc st ρ) λfl=>match fl with
   | .nx ρ'=>L5 r lc sts ρ'
   | fl=>ret fl) k
  rw [h.s,bind_assoc];congr;funext fl;cases fl with
  | nx ρ'=>exact Q1 h sts ρ' k
  | bk ρ'=>rfl
  | ct ρ'=>rfl
  | rt d=>rfl
theorem m1 (R:EvOk T k r) (h:CxOk T k lc X):∀ {es:List Expr},es.all a9=true->PA X es (tDs X.K T.cl (xOf X) (u4 r lc es))
 | [],_=>mP
 | e :: es,hs=>by
  rw [Be,Ag] at hs;exact jW (R.ex h e) (m1 R h hs.2) hs.1
theorem C5 (R:EvOk T k r) (h:CxOk T k lc X) (hf:lc.fr=true):∀ {sts:List Stmt},PSs X sts (sD X.K T.cl (xOf X) (L5 r lc sts))
 | []=>jH
 | st :: sts=>kQ (R.sx h hf st) (C5 R h hf)
end
def oQ (c:Const):M D:=match c with
 | .int i=>ret (.int i)
 | .bool b=>ret (.bl b)
 | .none=>ret .non
 | .str x=>ret (.str x)
 | _=>bad
def oC {a:Type} (c:Const) (k:D->M a):M a:=match c with
 | .int i=>k (.int i)
 | .bool b=>k (.bl b)
 | .none=>k .non
 | .str x=>k (.str x)
 | _=>bad
def oM:RuE where
 is _ _ e:=match e with
  | .Constant _ _ _=>true
  | _=>false
 run _ _ _ _ e _:=match e with
  | .Constant c _ _=>oQ c
  | _=>bad
 ok e R TX h hi:=by
  cases e with
  | Constant c n p=>
   cases c <;> first
    | exact v4 pq λ_ _=>.int _
    | exact v4 sk λ_ _=>.bl _
    | exact v4 pv λ_ _=>.non
    | exact v4 pV λ_ _=>.str _
    | exact b7
  | _=>exact b7
 runK _ _ _ _ e _ _ k:=match e with
  | .Constant c _ _=>oC c k
  | _=>bad
 eq e ρ _ k h:=by
  cases e with
  | Constant c n p=>cases c <;> rfl
  | _=>rfl
def ap (Γ:Gm) (a:Lc) (x:Str) (ρ:Env):M D:=match f5 a.N x with
 | some i=>if gJ a.sc x=true then getD i ρ else bad
 | none=>if glB a.sc x=true then (match Γ.gl.lookup x with
  | some (.val d)=>ret d
  | _=>bad) else bad
def tN {a:Type} (i:Nat) (ρ:Env) (k:D->M a):M a:=match ρ[i]? with
 | some (some d)=>k d
 | _=>bad
def ir {b:Type} (Γ:Gm) (a:Lc) (x:Str) (ρ:Env) (k:D->M b):M b:=match f5 a.N x with
 | some i=>if gJ a.sc x=true then tN i ρ k else bad
 | none=>if glB a.sc x=true then (match Γ.gl.lookup x with
  | some (.val d)=>k d
  | _=>bad) else bad
theorem mG {Γ:Gm} {C:Cf} {lc:Lc} {X:Cx} {pos:Pos} (TX:TxOk T Γ k C) (h:CxOk T k lc X) {x:Str} (hn:q4 x=true):PE X (.Name x pos) (tD X.K T.cl (xOf X) (ap Γ lc x)):=by
 unfold ap;obtain ⟨n1,n2,n3⟩:=m6 hn;cases e:f5 lc.N x with
 | some i=>
  by_cases hv:gJ lc.sc x=true
  ·simp only [if_pos hv];exact pO (oP (by rw [h.N];exact j9 e) (by rw [h.sc];exact kq hv) n1 n2)
  ·simp only [if_neg hv];exact b7
 | none=>
  by_cases hv:glB lc.sc x=true
  ·simp only [if_pos hv];cases e2:Γ.gl.lookup x with
   | none=>exact b7
   | some g=>
    cases g with
    | val d=>
     obtain ⟨u,v,e3,rv,rd⟩:=TX.val x d e2;exact v4 (M2 (h.gl hv) (by rw [h.mg];exact e3) rv n1) λμ H=>by rw [h.K];exact rd μ H
    | fn i n=>exact b7
    | err c fs=>exact b7
    | dct kvs=>exact b7
  ·simp only [if_neg hv];exact b7
theorem mN (Γ:Gm) (a:Lc) (x:Str) (ρ:Env) {b:Type} (k:D->M b):ir Γ a x ρ k=bind (ap Γ a x ρ) k:=by
 unfold ir ap;cases f5 a.N x with
 | some i=>
  simp only [];split
  ·unfold tN getD;cases ρ[i]? with
   | none=>rfl
   | some o=>cases o <;> rfl
  ·rfl
 | none=>
  simp only [];split
  ·cases Γ.gl.lookup x with
   | none=>rfl
   | some g=>cases g <;> rfl
  ·rfl
def rH:RuE where
 is _ _ e:=match e with
  | .Name x _=>q4 x
  | _=>false
 run _ Γ _ lc e ρ:=match e with
  | .Name x _=>ap Γ lc x ρ
  | _=>bad
 ok e R TX h hi:=by
  cases e with
  | Name x p=>exact mG TX h hi
  | _=>exact b7
 runK _ Γ _ lc e ρ _ k:=match e with
  | .Name x _=>ir Γ lc x ρ k
  | _=>bad
 eq e ρ _ k h:=by
  cases e with
  | Name x p=>exact mN _ _ x ρ k
  | _=>rfl
def nY (op:Operator):D->D->M D:=match op with
 | .Add=>j3
 | .Sub=>bB
 | .Mult=>M0
 | .Mod=>N8
 | .FloorDiv=>J6
 | .Pow=>kW
 | _=>λ_ _=>bad
def a5 (op:CmpOp):D->D->M D:=match op with
 | .Eq=>eqD false
 | .NotEq=>eqD true
 | .Lt=>hP λi j=>decide (i<j)
 | .LtE=>hP λi j=>decide (i<=j)
 | .Gt=>hP λi j=>decide (j<i)
 | .GtE=>hP λi j=>decide (j<=i)
 | .In=>inD false
 | .NotIn=>inD true
 | .Is=>isD false
 | .IsNot=>isD true
theorem oa (op:Operator):OpR X (binaryOp op) (rP2 X.K cl xe (nY op)):=by
 cases op <;> first
  | exact rS
  | exact uJ
  | exact qR
  | exact rb
  | exact qD
  | exact rl
  | exact λpins s σ H x y v u Q I a c ⟨μ,S,d,e,f,b,g,p⟩=>p.elim
theorem iA (h:CxOk T k lc X) (op:CmpOp):OpR X (compareOp op) (rP2 X.K cl xe (a5 op)):=by
 cases op
 case Eq=>exact uW h.u64
 case NotEq=>exact vK h.u64
 case Lt=>exact eI uB
 case LtE=>exact eI sK
 case Gt=>exact eI rQ
 case GtE=>exact eI rP
 case In=>exact sQ false h.u80
 case NotIn=>exact sQ true h.u80
 case Is=>exact rM false
 case IsNot=>exact rM true
def vo:RuE where
 is _ _ e:=match e with
  | .BinOp _ _ _ _=>true
  | _=>false
 run r _ _ lc e ρ:=match e with
  | .BinOp a op b _=>bind (r.e lc a ρ) λx=>bind (r.e lc b ρ) λy=>nY op x y
  | _=>bad
 ok e R TX h hi:=by
  cases e with
  | BinOp a op b p=>exact gQ (R.ex h _) (R.ex h _) (oa _)
  | _=>exact b7
 runK q _ _ lc e ρ _ k:=match e with
  | .BinOp a op b _=>q.e lc a ρ λx=>q.e lc b ρ λy=>bind (nY op x y) k
  | _=>bad
 eq e ρ _ k h:=by
  cases e with
  | BinOp a op b p=>simp only [h.e,bind_assoc]
  | _=>rfl
def uQ:RuE where
 is _ _ e:=match e with
  | .UnaryOp .Not _ _=>true
  | _=>false
 run r _ _ lc e ρ:=match e with
  | .UnaryOp .Not a _=>bind (r.e lc a ρ) λd=>bind (c6 d) λk=>ret (.bl (!k))
  | _=>bad
 ok e R TX h hi:=by
  split at hi
  ·exact oB (R.ex h _)
  ·cases hi
 runK q _ _ lc e ρ _ k:=match e with
  | .UnaryOp .Not a _=>q.e lc a ρ λd=>bind (c6 d) λc=>k (.bl (!c))
  | _=>bad
 eq e ρ _ k h:=by
  split
  ·simp only [h.e,bind_assoc,f4]
  ·first
   | rfl
   | (rename_i b;split;exact (b _ _ rfl).elim;rfl)
def vS:RuE where
 is _ _ e:=match e with
  | .UnaryOp .USub _ _=>true
  | _=>false
 run r _ _ lc e ρ:=match e with
  | .UnaryOp .USub a _=>bind (r.e lc a ρ) fW
  | _=>bad
 ok e R TX h hi:=by
  split at hi
  ·exact oF (R.ex h _)
  ·cases hi
 runK q _ _ lc e ρ _ k:=match e with
  | .UnaryOp .USub a _=>q.e lc a ρ λd=>bind (fW d) k
  | _=>bad
 eq e ρ _ k h:=by
  split
  ·simp only [h.e,bind_assoc]
  ·first
   | rfl
   | (rename_i b;split;exact (b _ _ rfl).elim;rfl)
section
variable (r:Ev) (q:EvK) (lc:Lc)
def gz:List Expr->Env->M D
 | [],_=>bad
 | [a],ρ=>r.e lc a ρ
 | a :: b :: es,ρ=>bind (r.e lc a ρ) λd=>bind (c6 d) λq=>if q=true then gz (b :: es) ρ else ret d
def orE:List Expr->Env->M D
 | [],_=>bad
 | [a],ρ=>r.e lc a ρ
 | a :: b :: es,ρ=>bind (r.e lc a ρ) λd=>bind (c6 d) λq=>if q=true then ret d else orE (b :: es) ρ
def kn {e:Type}:List Expr->Env->(D->M e)->M e
 | [],_,_=>bad
 | [a],ρ,k=>q.e lc a ρ k
 | a :: b :: es,ρ,k=>q.e lc a ρ λd=>bind (c6 d) λc=>if c=true then kn (b :: es) ρ k else k d
def orK {e:Type}:List Expr->Env->(D->M e)->M e
 | [],_,_=>bad
 | [a],ρ,k=>q.e lc a ρ k
 | a :: b :: es,ρ,k=>q.e lc a ρ λd=>bind (c6 d) λc=>if c=true then k d else orK (b :: es) ρ k
def gv:List Expr->Env->M Bool
 | [],_=>bad
 | [a],ρ=>r.t lc a ρ
 | a :: b :: es,ρ=>bind (r.t lc a ρ) λq=>if q=true then gv (b :: es) ρ else ret false
def orB:List Expr->Env->M Bool
 | [],_=>bad
 | [a],ρ=>r.t lc a ρ
 | a :: b :: es,ρ=>bind (r.t lc a ρ) λq=>if q=true then ret true else orB (b :: es) ρ
def dM {d:Type}:List Expr->Env->(Bool->M d)->M d
 | [],_,_=>bad
 | [a],ρ,k=>q.t lc a ρ k
 | a :: b :: es,ρ,k=>q.t lc a ρ λc=>if c=true then dM (b :: es) ρ k else k false
def kG {d:Type}:List Expr->Env->(Bool->M d)->M d
 | [],_,_=>bad
 | [a],ρ,k=>q.t lc a ρ k
 | a :: b :: es,ρ,k=>q.t lc a ρ λc=>if c=true then k true else kG (b :: es) ρ k
end
section
variable {T:Tx} {k:Nat} {r:Ev} {q:EvK} {Γ:Gm} {C:Cf} {lc:Lc} {X:Cx} {pos:Pos}
theorem ie (R:EvOk T k r) (h:CxOk T k lc X):∀ {es:List Expr},PE X (.BoolOp .And es pos) (tD X.K T.cl (xOf X) (gz r lc es))
 | []=>b7
 | [a]=>hJ (R.ex h a)
 | a :: b :: es=>pF (R.ex h a) (ie R h)
theorem mY (R:EvOk T k r) (h:CxOk T k lc X):∀ {es:List Expr},PE X (.BoolOp .Or es pos) (tD X.K T.cl (xOf X) (orE r lc es))
 | []=>b7
 | [a]=>hJ (R.ex h a)
 | a :: b :: es=>uP (R.ex h a) (mY R h)
theorem eN (R:EvOk T k r) (h:CxOk T k lc X):∀ {es:List Expr},PW X (.BoolOp .And es pos) (tBo X.K T.cl (xOf X) (gv r lc es))
 | []=>pw_bad
 | [a]=>kr (R.tx h a)
 | a :: b :: es=>nI (R.tx h a) (eN R h)
theorem iH (R:EvOk T k r) (h:CxOk T k lc X):∀ {es:List Expr},PW X (.BoolOp .Or es pos) (tBo X.K T.cl (xOf X) (orB r lc es))
 | []=>pw_bad
 | [a]=>pM (R.tx h a)
 | a :: b :: es=>rN (R.tx h a) (iH R h)
theorem ig (h:EqK r q):∀ (es:List Expr) (ρ:Env) {c:Type} (k:D->M c),kn q lc es ρ k=bind (gz r lc es ρ) k
 | [],_,_,_=>rfl
 | [a],ρ,_,k=>h.e lc a ρ k
 | a :: b :: es,ρ,_,k=>by simp only [kn,gz,h.e,bind_assoc,j0,ig h (b :: es),f4]
theorem mx (h:EqK r q):∀ (es:List Expr) (ρ:Env) {c:Type} (k:D->M c),orK q lc es ρ k=bind (orE r lc es ρ) k
 | [],_,_,_=>rfl
 | [a],ρ,_,k=>h.e lc a ρ k
 | a :: b :: es,ρ,_,k=>by simp only [orK,orE,h.e,bind_assoc,j0,mx h (b :: es),f4]
theorem dw (h:EqK r q):∀ (es:List Expr) (ρ:Env) {c:Type} (k:Bool->M c),dM q lc es ρ k=bind (gv r lc es ρ) k
 | [],_,_,_=>rfl
 | [a],ρ,_,k=>h.t lc a ρ k
 | a :: b :: es,ρ,_,k=>by simp only [dM,gv,h.t,bind_assoc,j0,dw h (b :: es),f4]
theorem jf (h:EqK r q):∀ (es:List Expr) (ρ:Env) {c:Type} (k:Bool->M c),kG q lc es ρ k=bind (orB r lc es ρ) k
 | [],_,_,_=>rfl
 | [a],ρ,_,k=>h.t lc a ρ k
 | a :: b :: es,ρ,_,k=>by simp only [kG,orB,h.t,bind_assoc,j0,jf h (b :: es),f4]
end
def rW:RuE where
 is _ _ e:=match e with
  | .BoolOp _ _ _=>true
  | _=>false
 run r _ _ lc e ρ:=match e with
  | .BoolOp .And es _=>gz r lc es ρ
  | .BoolOp .Or es _=>orE r lc es ρ
  | _=>bad
 ok e R TX h hi:=by
  cases e with
  | BoolOp op es p=>cases op;exact ie R h;exact mY R h
  | _=>exact b7
 runK q _ _ lc e ρ _ k:=match e with
  | .BoolOp .And es _=>kn q lc es ρ k
  | .BoolOp .Or es _=>orK q lc es ρ k
  | _=>bad
 eq e ρ _ k h:=by
  cases e with
  | BoolOp op es p=>cases op;exact ig h es ρ k;exact mx h es ρ k
  | _=>rfl
def uZ:RuE where
 is _ _ e:=match e with
  | .Compare _ [_] [b] _=>u7 b
  | _=>false
 run r _ _ lc e ρ:=match e with
  | .Compare a [op] [b] _=>bind (r.e lc a ρ) λx=>bind (r.e lc b ρ) λy=>a5 op x y
  | _=>bad
 ok e R TX h hi:=by
  split at hi
  ·exact pj (R.ex h _) (R.ex h _) (iA h _) (V3 hi)
  ·cases hi
 runK q _ _ lc e ρ _ k:=match e with
  | .Compare a [op] [b] _=>q.e lc a ρ λx=>q.e lc b ρ λy=>bind (a5 op x y) k
  | _=>bad
 eq e ρ _ k h:=by
  split
  ·simp only [h.e,bind_assoc]
  ·first
   | rfl
   | (rename_i c;split;exact (c _ _ _ _ rfl).elim;rfl)
def rIf:RuE where
 is _ _ e:=match e with
  | .IfExp _ _ _ _=>true
  | _=>false
 run r _ _ lc e ρ:=match e with
  | .IfExp c a b _=>bind (r.t lc c ρ) λq=>if q=true then r.e lc a ρ else r.e lc b ρ
  | _=>bad
 ok e R TX h hi:=by
  cases e with
  | IfExp c a b p=>exact sB (R.tx h _) (R.ex h _) (R.ex h _)
  | _=>exact b7
 runK q _ _ lc e ρ _ k:=match e with
  | .IfExp c a b _=>q.t lc c ρ λz=>if z=true then q.e lc a ρ k else q.e lc b ρ k
  | _=>bad
 eq e ρ _ k h:=by
  cases e with
  | IfExp c a b p=>simp only [h.e,h.t,bind_assoc,j0]
  | _=>rfl
def vO:RuE where
 is _ _ e:=match e with
  | .Tuple es _ _=>es.all a9
  | _=>false
 run r _ _ lc e ρ:=match e with
  | .Tuple es _ _=>bind (u4 r lc es ρ) oO
  | _=>bad
 ok e R TX h hi:=by
  cases e with
  | Tuple es n p=>exact oI (m1 R h hi)
  | _=>exact b7
 runK q _ _ lc e ρ _ k:=match e with
  | .Tuple es _ _=>B2 q lc es ρ λds=>bind (oO ds) k
  | _=>bad
 eq e ρ _ k h:=by
  cases e with
  | Tuple es n p=>simp only [p0 h,bind_assoc]
  | _=>rfl
def vj:RuE where
 is _ _ e:=match e with
  | .List es _=>es.all a9
  | _=>false
 run r _ _ lc e ρ:=match e with
  | .List es _=>bind (u4 r lc es ρ) nl
  | _=>bad
 ok e R TX h hi:=by
  cases e with
  | List es p=>exact nR (m1 R h hi)
  | _=>exact b7
 runK q _ _ lc e ρ _ k:=match e with
  | .List es _=>B2 q lc es ρ λds=>bind (nl ds) k
  | _=>bad
 eq e ρ _ k h:=by
  cases e with
  | List es p=>simp only [p0 h,bind_assoc]
  | _=>rfl
def R6 (r:Ev) (a:Lc):List (Option Expr)->List Expr->List ((Env->M D)×(Env->M D))
 | some k :: b,v :: vs=>(r.e a k,r.e a v) :: R6 r a b vs
 | _,_=>[]
def Y8 (q:EvK) (c:Lc) {d:Type}:List (Option Expr)->List Expr->Env->(List (D×D)->M d)->M d
 | some x :: e,v :: vs,ρ,k=>q.e c x ρ λa=>q.e c v ρ λb=>Y8 q c e vs ρ λps=>k ((a,b) :: ps)
 | _,_,_,k=>k []
theorem bM (R:EvOk T k r) (h:CxOk T k lc X):∀ {b:List (Option Expr)} {vs:List Expr},b.all (·.isSome)=true->b.length=vs.length->PPs X pos b vs ((R6 r lc b vs).map λd=>(tD X.K T.cl (xOf X) d.1,tD X.K T.cl (xOf X) d.2))
 | [],[],_,_=>mL
 | [],_ :: _,_,a=>by simp at a
 | _ :: _,[],_,a=>by simp at a
 | none :: _,_ :: _,c,_=>by simp at c
 | some k :: b,v :: vs,c,a=>gY (R.ex h k) (R.ex h v) (bM R h (by simpa using c) (by simpa using a))
theorem bU (h:EqK r q):∀ (c:List (Option Expr)) (vs:List Expr) (ρ:Env) {d:Type} (k:List (D×D)->M d),Y8 q lc c vs ρ k=bind (t0 (R6 r lc c vs) ρ) k
 | [],_,_,_,_=>rfl
 | none :: _,_,_,_,_=>rfl
 | some _ :: _,[],_,_,_=>rfl
 | some x :: c,v :: vs,ρ,_,k=>by
  simp only [Y8,R6,t0,h.e,bind_assoc];congr;funext a;congr;funext b;rw [bU h c vs ρ];rfl
def vH:RuE where
 is _ _ e:=match e with
  | .Dict ks vs _=>ks.all (·.isSome)&&decide (ks.length=vs.length)&&decide (0<ks.length)&&decide (ks.length<=15)
  | _=>false
 run r _ _ lc e ρ:=match e with
  | .Dict ks vs _=>bind (t0 (R6 r lc ks vs) ρ) bp
  | _=>bad
 ok e R TX h hi:=by
  cases e with
  | Dict ks vs p=>
   simp only [Ag,Aq] at hi;exact kF (bM R h hi.1.1.1 hi.1.1.2) hi.1.1.1 hi.1.1.2 (by intro z;rw [z] at hi;simp at hi) hi.2
  | _=>exact b7
 runK q _ _ lc e ρ _ k:=match e with
  | .Dict ks vs _=>Y8 q lc ks vs ρ λps=>bind (bp ps) k
  | _=>bad
 eq e ρ _ k h:=by
  cases e with
  | Dict ks vs p=>simp only [bU h,bind_assoc]
  | _=>rfl
def rIx:RuE where
 is _ _ e:=match e with
  | .Subscript _ i _=>k7 i
  | _=>false
 run r _ _ lc e ρ:=match e with
  | .Subscript a i _=>bind (r.e lc a ρ) λx=>bind (r.e lc i ρ) λy=>ixD x y
  | _=>bad
 ok e R TX h hi:=by
  cases e with
  | Subscript a i p=>exact sS (R.ex h _) (R.ex h _) (vF h.u1) (R4 hi)
  | _=>exact b7
 runK q _ _ lc e ρ _ k:=match e with
  | .Subscript a i _=>q.e lc a ρ λx=>q.e lc i ρ λy=>bind (ixD x y) k
  | _=>bad
 eq e ρ _ k h:=by
  cases e with
  | Subscript a i p=>simp only [h.e,bind_assoc]
  | _=>rfl
def bj (r:Ev) (a:Lc) (o:Option Expr) (ρ:Env):M (Option Int):=match o with
 | none=>ret none
 | some e=>bind (r.e a e ρ) X2
def dR (q:EvK) (b:Lc) {a:Type} (o:Option Expr) (ρ:Env) (k:Option Int->M a):M a:=match o with
 | none=>k none
 | some e=>q.e b e ρ λd=>bind (X2 d) k
theorem kM (h:EqK r q) (o:Option Expr) (ρ:Env) {a:Type} (k:Option Int->M a):dR q lc o ρ k=bind (bj r lc o ρ) k:=by
 cases o with
 | none=>rfl
 | some e=>simp only [dR,bj,h.e,bind_assoc]
theorem dy (R:EvOk T k r) (h:CxOk T k lc X) {o:Option Expr}:PO X o (tPt X.K T.cl (xOf X) (bj r lc o)):=by
 cases o with
 | none=>exact kg
 | some e=>exact mF (R.ex h e)
def rSl:RuE where
 is _ _ e:=match e with
  | .Subscript _ (.Slice _ _ none _) _=>true
  | _=>false
 run r _ _ lc e ρ:=match e with
  | .Subscript a (.Slice lo b none _) _=>bind (r.e lc a ρ) λd=>bind (bj r lc lo ρ) λl=>bind (bj r lc b ρ) λu=>slD d l u
  | _=>bad
 ok e R TX h b:=by
  split at b
  ·exact si (R.ex h _) (dy R h) (dy R h)
  ·cases b
 runK q _ _ lc e ρ _ k:=match e with
  | .Subscript a (.Slice lo b none _) _=>q.e lc a ρ λd=>dR q lc lo ρ λl=>dR q lc b ρ λu=>bind (slD d l u) k
  | _=>bad
 eq e ρ _ k h:=by
  split
  ·simp only [h.e,kM h,bind_assoc]
  ·first
   | rfl
   | (rename_i c;split;exact (c _ _ _ _ _ rfl).elim;rfl)
def vQ:RuE where
 is _ _ e:=match e with
  | .Subscript _ (.Slice none none (some _) _) _=>true
  | _=>false
 run r _ _ lc e ρ:=match e with
  | .Subscript a (.Slice none none (some st) _) _=>bind (r.e lc a ρ) λx=>bind (r.e lc st ρ) λy=>eV x y
  | _=>bad
 ok e R TX h hi:=by
  split at hi
  ·exact pG (R.ex h _) (R.ex h _)
  ·cases hi
 runK q _ _ lc e ρ _ k:=match e with
  | .Subscript a (.Slice none none (some st) _) _=>q.e lc a ρ λx=>q.e lc st ρ λy=>bind (eV x y) k
  | _=>bad
 eq e ρ _ k h:=by
  split
  ·simp only [h.e,bind_assoc]
  ·first
   | rfl
   | (rename_i b;split;exact (b _ _ _ _ rfl).elim;rfl)
def ny:RuT where
 is _ _ e:=match e with
  | .UnaryOp .Not _ _=>true
  | _=>false
 run r _ _ lc e ρ:=match e with
  | .UnaryOp .Not a _=>bind (r.t lc a ρ) λq=>ret (!q)
  | _=>bad
 ok e R TX h hi:=by
  split at hi
  ·exact nz (R.tx h _)
  ·cases hi
 runK q _ _ lc e ρ _ k:=match e with
  | .UnaryOp .Not a _=>q.t lc a ρ λc=>k (!c)
  | _=>bad
 eq e ρ _ k h:=by
  split
  ·simp only [h.t,bind_assoc,f4]
  ·first
   | rfl
   | (rename_i b;split;exact (b _ _ rfl).elim;rfl)
def rC:RuT where
 is _ _ e:=match e with
  | .BoolOp _ _ _=>true
  | _=>false
 run r _ _ lc e ρ:=match e with
  | .BoolOp .And es _=>gv r lc es ρ
  | .BoolOp .Or es _=>orB r lc es ρ
  | _=>bad
 ok e R TX h hi:=by
  cases e with
  | BoolOp op es p=>cases op;exact (eN R h).pt;exact (iH R h).pt
  | _=>exact cn
 runK q _ _ lc e ρ _ k:=match e with
  | .BoolOp .And es _=>dM q lc es ρ k
  | .BoolOp .Or es _=>kG q lc es ρ k
  | _=>bad
 eq e ρ _ k h:=by
  cases e with
  | BoolOp op es p=>cases op;exact dw h es ρ k;exact jf h es ρ k
  | _=>rfl
def vW:RuT where
 is _ _ e:=match e with
  | .Compare _ [_] [b] _=>u7 b
  | _=>false
 run r _ _ lc e ρ:=match e with
  | .Compare a [op] [b] _=>bind (r.e lc a ρ) λx=>bind (r.e lc b ρ) λy=>bind (a5 op x y) asB
  | _=>bad
 ok e R TX h hi:=by
  split at hi
  ·exact nX (R.ex h _) (R.ex h _) (iA h _) (V3 hi)
  ·cases hi
 runK q _ _ lc e ρ _ k:=match e with
  | .Compare a [op] [b] _=>q.e lc a ρ λx=>q.e lc b ρ λy=>bind (a5 op x y) λd=>bind (asB d) k
  | _=>bad
 eq e ρ _ k h:=by
  split
  ·simp only [h.e,bind_assoc]
  ·first
   | rfl
   | (rename_i c;split;exact (c _ _ _ _ rfl).elim;rfl)
def nm:RuT where
 is _ _ e:=t5 e
 run r _ _ lc e ρ:=bind (r.e lc e ρ) c6
 ok e R TX h hi:=jA (R.ex h _) hi
 runK q _ _ lc e ρ _ k:=q.e lc e ρ λd=>bind (c6 d) k
 eq e ρ _ k h:=by simp only [h.e,bind_assoc]
def pL (Γ:Gm) (x:Str) (p:Nat->Nat->Bool):Bool:=match Γ.gl.lookup x with
 | some (.fn i n)=>p i n
 | _=>false
theorem lZ (h:pL Γ x p=true):∃ i n,Γ.gl.lookup x=some (.fn i n)/\p i n=true:=by
 unfold pL at h;grind
def rFn:RuE where
 is Γ lc e:=match e with
  | .Call (.Name x _) es [] _=>q4 x&&glB lc.sc x&&es.all a9&&!quiet lc&&pL Γ x λi n=>decide (es.length=n)&&decide (i∉Γ.qs)
  | _=>false
 run r Γ C lc e ρ:=match e with
  | .Call (.Name x _) es [] _=>(match Γ.gl.lookup x with
   | some (.fn i n)=>bind (u4 r lc es ρ) λds=>if ds.length=n then C i ds else bad
   | _=>bad)
  | _=>bad
 ok {T k r Γ C lc X} e R TX h hi:=by
  split at hi
  ·rename_i x p es pos;simp only [Ag,Bs] at hi;obtain ⟨⟨⟨⟨w,m⟩,c⟩,f⟩,v⟩:=hi;obtain ⟨s,E,D⟩:=m6 w;obtain ⟨i,n,l,b⟩:=lZ v;simp at b;obtain ⟨a,fd,ps,B,A,y,z,u⟩:=(TX.fn x i n l b.2).ex;have F:FnOk X.prog X.w X.K X.mg X.base (CXd X.prog X.w X.K) k a fd ps (spX X.K T.cl n (C i)):=by rw [h.prog,h.w,h.K,h.mg,h.base];exact A
   have d:PySem.W.keepIn X.K (.ref a)=true:=by rw [h.K];exact z
   have j:Binds X.K fd ps []:=by rw [h.K];exact u
   have o:X.mg x=some (.ref a):=by rw [h.mg];exact y
   show PE X _ (tD X.K T.cl (xOf X) λρ=>(match Γ.gl.lookup x with
    | some (.fn i n)=>bind (u4 r lc es ρ) λds=>if ds.length=n then C i ds else bad
    | _=>bad))
   rw [l]
   match es,c,b with
   | [],_,b=>
    have:=b.1.symm;subst this;exact ft F (h.room0 f) (h.gl m) o d j s
   | e :: es,c,_=>exact hI F (h.room0 f) (h.gl m) o d j (m1 R h c) s c
  ·cases hi
 runK q Γ C lc e ρ _ k:=match e with
  | .Call (.Name x _) es [] _=>(match Γ.gl.lookup x with
   | some (.fn i n)=>B2 q lc es ρ λds=>if ds.length=n then bind (C i ds) k else bad
   | _=>bad)
  | _=>bad
 eq {r q Γ C lc} e ρ _ k h:=by
  split
  ·rename_i x p es pos;cases Γ.gl.lookup x with
   | none=>rfl
   | some g=>cases g <;> first | rfl | simp only [p0 h,bind_assoc,j0,bJ]
  ·first
   | rfl
   | (rename_i t;split;exact (t _ _ _ _ rfl).elim;rfl)
def Z2 (Γ:Gm) (b:Lc) (x:Str) (a:Expr):Bool:=decide (x = "isinstance")&&(Γ.gl.lookup ("isinstance" : Str)).isNone&&glB b.sc "isinstance" && a9 a
theorem cA (h:Z2 Γ lc x a=true):x = "isinstance"/\Γ.gl.lookup ("isinstance" : Str)=none/\glB lc.sc "isinstance" = true/\a9 a=true:=by
 simp only [Z2,Ag,Aq,Bc] at h;grind
def btys:List (Str×String):=[("int","int"),("bool","bool"),("str","str"),("tuple","tuple"),("list","list"),("dict","dict"),("ValueError","ValueError")]
theorem kC:∀ {x:Str} {t:String},btys.lookup x=some t->bootBuiltins x=some (.type t)/\x∈bnames/\(t∈tys\/t = "ValueError"):=by
 intro x t e;have:∀ y∈btys,bootBuiltins y.1=some (.type y.2)/\y.1∈bnames/\(y.2∈tys\/y.2 = "ValueError"):=by
  intro y a;simp only [btys,Ar,AH,Br] at a;rcases a with rfl | rfl | rfl | rfl | rfl | rfl | rfl <;> exact ⟨rfl,by decide,by decide⟩
 exact this _ (L2.mem_of_lookup e)
def sM:RuE where
 is Γ lc e:=match e with
  | .Call (.Name x _) [a,.Name y _] [] _=>Z2 Γ lc x a&&q4 y&&glB lc.sc y&&(Γ.gl.lookup y).isNone
  | _=>false
 run r Γ C lc e ρ:=match e with
  | .Call (.Name _ _) [a,.Name y _] [] _=>(match btys.lookup y with
   | some T=>bind (r.e lc a ρ) λd=>if T∈tys then r8 T (λ_=>false) d else fM (λ_=>true) d
   | none=>bad)
  | _=>bad
 ok {T k r Γ C lc X} e R TX h hi:=by
  split at hi
  ·rename_i x p a y q pos;simp only [Ag,Bc] at hi;obtain ⟨⟨⟨c0,w⟩,v⟩,l⟩:=hi;obtain ⟨rfl,B,s,i⟩:=cA c0;obtain ⟨m,D,n⟩:=m6 w;have j:=TX.none h (by decide) B;show PE X _ (tD X.K T.cl (xOf X) λρ=>(match btys.lookup y with
    | some T=>bind (r.e lc a ρ) λd=>if T∈tys then r8 T (λ_=>false) d else fM (λ_=>true) d
    | none=>bad))
   cases A:btys.lookup y with
   | none=>exact b7
   | some t=>
    obtain ⟨o,u,f⟩:=kC A;by_cases g:t∈tys
    ·have:=dg (pos:=pos) (p:=p) (q:=q) (.inl g) (λc b=>by rw [h.K] at b ⊢;exact TX.subT c b t g) (R.ex h a) (h.gl s) j (h.gl v) (TX.none h u l) o n m i;simp only [if_pos g] at this ⊢;exact this
    ·rcases f with f | f
     ·exact absurd f g
     ·subst f;have:=dg (pos:=pos) (p:=p) (q:=q) (.inr rfl) (λc b=>by rw [h.K] at b ⊢;exact TX.subV c b) (R.ex h a) (h.gl s) j (h.gl v) (TX.none h u l) o n m i;exact this
  ·cases hi
 runK q Γ C lc e ρ _ k:=match e with
  | .Call (.Name _ _) [a,.Name y _] [] _=>(match btys.lookup y with
   | some T=>q.e lc a ρ λd=>if T∈tys then bind (r8 T (λ_=>false) d) k else bind (fM (λ_=>true) d) k
   | none=>bad)
  | _=>bad
 eq {r q Γ C lc} e ρ _ k h:=by
  split
  ·rename_i x p a y q pos;cases btys.lookup y with
   | none=>rfl
   | some T=>simp only [h.e,bind_assoc,j0]
  ·first
   | rfl
   | (rename_i z;split;exact (z _ _ _ _ _ _ rfl).elim;rfl)
def eB (x:Str) (c:Bool) (Γ:Gm) (b:Lc) (e:Expr):Bool:=match e with
 | .Call (.Name f _) (a :: es) [] _=>decide (f=x)&&(a :: es).all a9&&(Γ.gl.lookup x).isNone&&glB b.sc x&&!(c&&quiet b)
 | _=>false
def kT (g:List D->M D) (r:Ev) (b:Lc) (e:Expr) (ρ:Env):M D:=match e with
 | .Call (.Name _ _) (a :: es) [] _=>bind (u4 r b (a :: es) ρ) g
 | _=>bad
def kO (g:List D->M D) (q:EvK) (c:Lc) (e:Expr) (ρ:Env) {b:Type} (k:D->M b):M b:=match e with
 | .Call (.Name _ _) (a :: es) [] _=>B2 q c (a :: es) ρ λds=>bind (g ds) k
 | _=>bad
theorem jc (g:List D->M D) {r:Ev} {q:EvK} {a:Lc} (e:Expr) (ρ:Env) {c:Type} (k:D->M c) (h:EqK r q):kO g q a e ρ k=bind (kT g r a e ρ) k:=by
 unfold kO kT;split
 ·simp only [p0 h,bind_assoc]
 ·first
  | rfl
  | (rename_i b;split;exact (b _ _ _ _ _ rfl).elim;rfl)
theorem bK {d:Bool} {Γ:Gm} {b:Lc} {e:Expr} (h:eB x d Γ b e=true):∃ p a es pos,e=.Call (.Name x p) (a :: es) [] pos/\(a :: es).all a9=true/\Γ.gl.lookup x=none/\glB b.sc x=true/\(d=true->quiet b=false):=by
 unfold eB at h;split at h
 ·simp only [Ag,Aq,Bc,Bs] at h;obtain ⟨⟨⟨⟨rfl,f⟩,g⟩,i⟩,c⟩:=h;refine ⟨_,_,_,_,rfl,f,g,i,λz=>?_⟩;rw [z] at c;simpa using c
 ·cases h
def rBf (x:Str) (id:String) (d:Bool) (g:List D->M D) (c:x∈bnames/\x ≠ "__name__"/\(x==("__debug__" : Str))=false) (m:bootBuiltins x=some (.builtin id))
  (j:∀ {T:Tx} {k:Nat} {b:Lc} {X:Cx} {cl:Nat->Addr} {xe:Addr->Hp->Prop},CxOk T k b X->(d=true->X.calm=true)->e8 X (.builtin id) (rPs X.K cl xe g)):RuE where
 is:=eB x d
 run r _ _ b e ρ:=kT g r b e ρ
 ok {T k r Γ C b X} e R TX h hi:=by
  obtain ⟨p,a,es,pos,rfl,f,i,l,n⟩:=bK hi;exact iU (j h λz=>h.calm (n z)) (h.gl l) (TX.none h c.1 i) m (m1 R h f) c.2.1 c.2.2 f
 runK q _ _ b e ρ _ k:=kO g q b e ρ k
 eq e ρ _ k h:=jc g e ρ k h
def rBt (x:Str) (id:String) (d:Bool) (g:List D->M D) (c:x∈bnames/\x ≠ "__name__"/\(x==("__debug__" : Str))=false) (m:bootBuiltins x=some (.type id))
  (j:∀ {T:Tx} {k:Nat} {b:Lc} {X:Cx} {cl:Nat->Addr} {xe:Addr->Hp->Prop},CxOk T k b X->(d=true->X.calm=true)->e8 X (.type id) (rPs X.K cl xe g)):RuE where
 is:=eB x d
 run r _ _ b e ρ:=kT g r b e ρ
 ok {T k r Γ C b X} e R TX h hi:=by
  obtain ⟨p,a,es,pos,rfl,f,i,l,n⟩:=bK hi;exact iL (j h λz=>h.calm (n z)) (h.gl l) (TX.none h c.1 i) m (m1 R h f) c.2.1 c.2.2 f
 runK q _ _ b e ρ _ k:=kO g q b e ρ k
 eq e ρ _ k h:=jc g e ρ k h
def vR:RuE:=rBf "len" "len" false (one A6) (by decide) PySem.boot_len λ_ _=>tO
def qN:RuE:=rBt "tuple" "tuple" false (one C8) (by decide) rfl λ_ _=>ls
def qV:RuE:=rBt "list" "list" false (one mT) (by decide) rfl λ_ _=>qG
def sY:RuE:=rBf "repr" "repr" false (one B1) (by decide) rfl λh _=>oU h.room.gd h.u64
def uS:RuE:=rBf "any" "any" true (one lX) (by decide) rfl λ_ a=>rX (a rfl)
def vw:RuE:=rBf "all" "all" true (one ku) (by decide) rfl λ_ a=>rg (a rfl)
def vr:RuE:=rBt "int" "int" false (one tH) (by decide) rfl λ_ _=>se
def vP:RuE:=rBt "str" "str" false (one kc) (by decide) rfl λ_ _=>rm
def uO (n:Nat) (Γ:Gm) (a:Lc) (e:Expr):Bool:=match e with
 | .Call (.Name f _) es [] _=>decide (f = "range")&&decide (es.length=n)&&es.all a9&&(Γ.gl.lookup ("range" : Str)).isNone&&glB a.sc "range"
 | _=>false
def rgE (n:Nat) (r:Ev) (a:Lc) (e:Expr) (ρ:Env):M (Src×Nat):=match e with
 | .Call (.Name _ _) es [] _=>bind (u4 r a es ρ) λds=>if ds.length=n then u6 ds else bad
 | _=>bad
def rgK (n:Nat) (q:EvK) (b:Lc) (e:Expr) (ρ:Env) {a:Type} (k:Src×Nat->M a):M a:=match e with
 | .Call (.Name _ _) es [] _=>B2 q b es ρ λds=>if ds.length=n then bind (u6 ds) k else bad
 | _=>bad
theorem tW (n:Nat) {r:Ev} {q:EvK} {a:Lc} (e:Expr) (ρ:Env) {b:Type} (k:Src×Nat->M b) (h:EqK r q):rgK n q a e ρ k=bind (rgE n r a e ρ) k:=by
 unfold rgK rgE;split
 ·simp only [p0 h,bind_assoc,j0,bJ]
 ·first
  | rfl
  | (rename_i c;split;exact (c _ _ _ _ rfl).elim;rfl)
def mO:RuI where
 is Γ lc _ e:=uO 1 Γ lc e
 run r _ _ lc e ρ:=rgE 1 r lc e ρ
 ok {T k r Γ C lc X} g e R TX h hi:=by
  unfold uO at hi;split at hi
  ·rename_i f p es pos;simp only [Ag,Aq,Bc] at hi;obtain ⟨⟨⟨⟨rfl,c⟩,b⟩,i⟩,d⟩:=hi
   match es,c,b with
   | [a],_,b=>exact cP (h.gl d) (TX.none h (by decide) i) (m1 R h b) (by simpa using b)
  ·cases hi
 runK q _ _ lc e ρ _ k:=rgK 1 q lc e ρ k
 eq e ρ _ k h:=tW 1 e ρ k h
def vU:RuI where
 is _ _ _ _:=true
 run r _ _ lc e ρ:=bind (r.e lc e ρ) A7
 ok g e R TX h hi:=lO (R.ex h e)
 runK q _ _ lc e ρ _ k:=q.e lc e ρ λd=>bind (A7 d) k
 eq e ρ _ k h:=by simp only [h.e,bind_assoc]
def cM (a b:Scope):Scope:={ a with names:=a.names.map λ(n,k)=>if (k==.free&&b.kind==.function&&b.names.lookup n==some .cell) then (n,NameKind.cell) else (n,k) }
theorem fm (a:Scope) (b:PySem.Env):relabel a b=cM a b.scope:=rfl
def t7 (a:Scope):List Str:=(a.names.filter λy=>y.2==.free).map (·.1)
def E3 (b:Lc) (a:Scope) (xs:List Str):Bool:=
 decide (a.kind=.function)&&a.names.all (λy=>decide (y.2≠.cell))&&a.names.all (λy=>decide (y.2=.local->a.names.lookup y.1=some .local))
  && a.names.all (λy=>decide (y.2=.free->a.names.lookup y.1=some .free/\(b.sc.names.lookup y.1=some .cell\/b.sc.names.lookup y.1=some .free)))
  && (t7 a).all (λz=>decide (a.names.lookup z=some .free))&&decide ((xs++t7 a).Nodup)&&xs.all (λx=>decide (a.names.lookup x=some .local))&&!quiet b
theorem ah:∀ {xs:List α} {ys:List β},d9 f xs=some ys->ys.length=xs.length
 | [],_,e=>by cases e;rfl
 | x :: xs,ys,e=>by
  simp only [d9] at e;cases a:f x with
  | none=>rw [a] at e;cases e
  | some y=>
   cases b:d9 f xs with
   | none=>grind
   | some c=>rw [a,b] at e;cases e;simp [ah b]
theorem aq:∀ {xs:List α} {ys:List β} {j:Nat} {y:β},d9 f xs=some ys->ys[j]?=some y->∃ x,xs[j]?=some x/\f x=some y
 | [],_,_,_,e,h=>by cases e;simp at h
 | x :: xs,ys,j,y,e,h=>by
  simp only [d9] at e;cases a:f x with
  | none=>rw [a] at e;cases e
  | some z=>
   cases b:d9 f xs with
   | none=>grind
   | some c=>
    rw [a,b] at e;cases e;cases j with
    | zero=>grind
    | succ j=>simpa using aq b (by simpa using h)
def D8 (b:Lc) (a:Scope) (xs:List Str):Lc:=⟨xs++t7 a,cM a b.sc,false,[]⟩
def testsE (r:Ev) (a:Lc) (ifs:List Expr) (ρ:Env):M Bool:=match ifs with
 | []=>ret true
 | [c]=>r.t a c ρ
 | _=>bad
def testsK (q:EvK) (a:Lc) (ifs:List Expr) (ρ:Env):M Bool:=match ifs with
 | []=>ret true
 | [c]=>q.t a c ρ ret
 | _=>bad
theorem tests_eq (h:EqK r q) (ifs:List Expr) (ρ:Env):testsK q lc ifs ρ=testsE r lc ifs ρ:=by
 match ifs with
 | []=>rfl
 | [c]=>simp only [testsK,testsE,h.t,E7]
 | _ :: _ :: _=>rfl
section
variable {T:Tx} {k:Nat} {r:Ev} {q:EvK} {Γ:Gm} {C:Cf} {lc:Lc} {X:Cx}
theorem tests_ok (R:EvOk T k r) (h:CxOk T k lc X) {ifs:List Expr}:PTL X ifs (tBo X.K T.cl (xOf X) (testsE r lc ifs)):=by
 match ifs with
 | []=>exact fT
 | [c]=>exact jw (R.tx h c)
 | _ :: _ :: _=>exact λ_ _ _ _ _ _ ⟨_,_,_,_,_,p⟩=>p.elim
theorem W3 (h:CxOk T k lc X) {a:Scope} {xs:List Str} {caps:List Nat} (f:E3 lc a xs=true) (c:d9 (f5 lc.N) (t7 a)=some caps):CompText X.N X.env (xs++t7 a) xs.length caps a/\(xs++t7 a).Nodup/\(∀ x∈xs,a.names.lookup x=some .local)/\quiet lc=false/\a.kind=.function:=by
 simp only [E3,Ag,Aq,Ay,Bs] at f;obtain ⟨⟨⟨⟨⟨⟨⟨b,s⟩,o⟩,r⟩,l⟩,n⟩,t⟩,p⟩:=f;refine ⟨⟨b,s,o,λy m q=>?_,λj i e=>?_,?_⟩,n,t,p,b⟩
 ·rw [h.sc];exact r y m q
 ·obtain ⟨z,d,g⟩:=aq c e;refine ⟨z,by rw [h.N];exact j9 g,?_,l z (AF d)⟩;rw [Bo (by omega)];simpa using d
 ·simp [ah c,Nat.add_comm]
theorem N0 (h:CxOk T k lc X) (b:quiet lc=false) {a:Scope} {xs:List Str} (d:a.kind=.function) (e:(xs++t7 a).Nodup) (pins:List (Addr×Obj)) (C:Addr) (c:List Addr) (s:Shared) (H:Hp):CxOk T k (D8 lc a xs) (b9 X pins (xs++t7 a) a C c s H):=
 ⟨h.prog,h.w,h.K,h.mg,h.base,rfl,e,by show relabel a X.env=cM a lc.sc;rw [fm,h.sc],λ_=>h.calm b,(by have:=h.room;rw [b] at this;exact this),PassesOwn.never,rfl,d,λz=>Bool.noConfusion z⟩
end
def i0 (src:Src) (t:D->M Bool) (f:D->M D):Nat->Nat->List D->M (List D)
 | 0,_,_=>bad
 | m+1,i,es=>λS=>match src i S with
  | none=>.bad
  | some none=>.ok es S
  | some (some d)=>bind (t d) (λb=>if b=true then bind (f d) (λy=>if es.length<sizeLine then i0 src t f m (i+1) (es++[y]) else bad) else i0 src t f m (i+1) es) S
theorem bN (src:Src) (t:Env->M Bool) (f:Env->M D) (mk:D->Env):∀ m i es,Q3 src t f mk m i es=i0 src (λd=>t (mk d)) (λd=>f (mk d)) m i es
 | 0,_,_=>rfl
 | m+1,i,es=>by
  funext S;simp only [Q3,i0,bN src t f mk m]
  all_goals (cases src i S with
  | none=>rfl
  | some o=>cases o <;> rfl)
def C4 (r:Ev) (c:Lc) (d:Expr) (x:Str) (e:Pos) (b:Expr) (ifs:List Expr) (a:Scope) (ρ:Env):M (List D):=match d9 (f5 c.N) (t7 a) with
 | some caps=>nx (eC caps (r.i c (.Name x e) b) (testsE r (D8 c a [x]) ifs) (r.e (D8 c a [x]) d) ρ)
 | none=>bad
def aG (q:EvK) (c:Lc) (e:Expr) (x:Str) (h:Pos) (b:Expr) (ifs:List Expr) (a:Scope) (ρ:Env) {f:Type} (k:List D->M f):M f:=match d9 (f5 c.N) (t7 a) with
 | some caps=>bind (nx (q.i c (.Name x h) b ρ λg=>i0 g.1 (λd=>testsK q (D8 c a [x]) ifs (some d :: ar caps ρ)) (λd=>q.e (D8 c a [x]) e (some d :: ar caps ρ) ret) g.2 0 [])) k
 | none=>bad
theorem bb (h:EqK r q) (c:Expr) (x:Str) (d:Pos) (b:Expr) (ifs:List Expr) (a:Scope) (ρ:Env) {e:Type} (k:List D->M e):aG q lc c x d b ifs a ρ k=bind (C4 r lc c x d b ifs a ρ) k:=by
 unfold aG C4;cases d9 (f5 lc.N) (t7 a) with
 | none=>rfl
 | some caps=>simp only [h.i,h.e,E7,tests_eq h,eC,bN]
theorem jL (R:EvOk T k r) (h:CxOk T k lc X) {c:Expr} {x:Str} {g pos:Pos} {b:Expr} {ifs:List Expr} {a:Scope} (m:E3 lc a [x]=true) (o:u7 b=true) :
  PE X (.ListComp c [⟨.Name x g,b,ifs,0⟩] a pos) (tD X.K T.cl (xOf X) λρ=>bind (C4 r lc c x g b ifs a ρ) λds=>ret (.lst ds)):=by
 unfold C4;cases l:d9 (f5 lc.N) (t7 a) with
 | none=>exact b7
 | some caps=>
  obtain ⟨n,e,j,f,i⟩:=W3 h m l;refine lE (aw n (h.calm f) e rfl (j x (by simp)) (PI.x0 (R.ix h _ _)) (λpins C d s H=>?_) (λpins C d s H=>?_) o)
  ·exact PTL.x0 (tests_ok R (N0 h f i e pins C d s H))
  ·exact PE.x0 (R.ex (N0 h f i e pins C d s H) c)
def oR:RuE where
 is _ lc e:=match e with
  | .ListComp _ [⟨.Name x _,b,_,0⟩] a _=>E3 lc a [x]&&u7 b
  | _=>false
 run r _ _ lc e ρ:=match e with
  | .ListComp c [⟨.Name x d,b,ifs,0⟩] a _=>bind (C4 r lc c x d b ifs a ρ) λds=>ret (.lst ds)
  | _=>bad
 ok e R TX h hi:=by
  split at hi
  ·rw [Ag] at hi;exact jL R h hi.1 hi.2
  ·cases hi
 runK q _ _ lc e ρ _ k:=match e with
  | .ListComp c [⟨.Name x d,b,ifs,0⟩] a _=>aG q lc c x d b ifs a ρ λds=>k (.lst ds)
  | _=>bad
 eq e ρ _ k h:=by
  split
  ·simp only [bb h,bind_assoc,f4]
  ·first
   | rfl
   | (rename_i f;split;exact (f _ _ _ _ _ _ _ rfl).elim;rfl)
def pA (m:Str) (e:Expr):Bool:=match e with
 | .Call (.Attribute o n b) (a :: es) [] c=>decide (n=m)&&i5 o&&(a :: es).all a9&&p7 (a :: es)&&(b.endLine==c.line)
 | _=>false
theorem jr (h:pA m e=true):∃ o b a es c,e=.Call (.Attribute o m b) (a :: es) [] c/\i5 o=true/\(a :: es).all a9=true/\p7 (a :: es)=true/\(b.endLine==c.line)=true:=by
 unfold pA at h;grind
def mtE {c:Type} (g:D->M c) (op:D->List D->M D) (r:Ev) (b:Lc) (e:Expr) (ρ:Env):M D:=match e with
 | .Call (.Attribute o _ _) (a :: es) [] _=>bind (r.e b o ρ) λx=>bind (g x) λ_=>bind (u4 r b (a :: es) ρ) λds=>op x ds
 | _=>bad
def mtK {d:Type} (g:D->M d) (op:D->List D->M D) (q:EvK) (b:Lc) (e:Expr) (ρ:Env) {c:Type} (k:D->M c):M c:=match e with
 | .Call (.Attribute o _ _) (a :: es) [] _=>q.e b o ρ λx=>bind (g x) λ_=>B2 q b (a :: es) ρ λds=>bind (op x ds) k
 | _=>bad
theorem sZ (g:D->M α) (op:D->List D->M D) {r:Ev} {q:EvK} {a:Lc} (e:Expr) (ρ:Env) {b:Type} (k:D->M b) (h:EqK r q):mtK g op q a e ρ k=bind (mtE g op r a e ρ) k:=by
 unfold mtK mtE;split
 ·simp only [h.e,p0 h,bind_assoc]
 ·first
  | rfl
  | (rename_i c;split;exact (c _ _ _ _ _ _ rfl).elim;rfl)
def rMt {α:Type} (m:Str) (g:D->M α) (op:D->List D->M D)
  (ok:∀ {T:Tx} {k:Nat} {lc:Lc} {X:Cx} {xe:Addr->Hp->Prop} {o a:Expr} {es:List Expr} {apos cpos:Pos} {f:Env->M D} {fs:Env->M (List D)},CxOk T k lc X->PE X o (tD X.K T.cl xe f)->PA X (a :: es) (tDs X.K T.cl xe fs)->i5 o=true->(a :: es).all a9=true->p7 (a :: es)=true->(apos.endLine==cpos.line)=true->PE X (.Call (.Attribute o m apos) (a :: es) [] cpos) (tD X.K T.cl xe λρ=>bind (f ρ) λx=>bind (g x) λ_=>bind (fs ρ) λds=>op x ds)):RuE where
 is _ _ e:=pA m e
 run r _ _ lc e ρ:=mtE g op r lc e ρ
 ok {T k r Γ C lc X} e R TX h hi:=by
  obtain ⟨o,apos,a,es,cpos,rfl,c1,c2,c3,c4⟩:=jr hi;exact ok h (R.ex h o) (m1 R h c2) c1 c2 c3 c4
 runK q _ _ lc e ρ _ k:=mtK g op q lc e ρ k
 eq e ρ _ k h:=sZ g op e ρ k h
def ln:RuE:=rMt "extend" lstOf extD λ_ e d c f a b=>dL Cd PySem.F.slot_list_extend PySem.F.type_list_extend cU P9 iG e d c f a b
def vc:RuE:=rMt "get" dctOf getDD λh e d c f a b=>dL Di AW PySem.F.type_dict_get (io h.u1) cf gH e d c f a b
def rAppend:RuE:=rMt "append" lstOf cS λ_ e d c f a b=>fA e d c f a b
def pC:RuE where
 is _ _ e:=match e with
  | .Call (.Attribute o n a) [] [] b=>decide (n = "upper")&&i5 o&&(a.endLine==b.line)
  | _=>false
 run r _ _ lc e ρ:=match e with
  | .Call (.Attribute o _ _) [] [] _=>bind (r.e lc o ρ) O8
  | _=>bad
 ok {T k r Γ C lc X} e R TX h hi:=by
  split at hi
  ·simp only [Ag,Aq] at hi;obtain ⟨⟨rfl,d⟩,c⟩:=hi;exact jD (R.ex h _) d c
  ·cases hi
 runK q _ _ lc e ρ _ k:=match e with
  | .Call (.Attribute o _ _) [] [] _=>q.e lc o ρ λx=>bind (O8 x) k
  | _=>bad
 eq e ρ _ k h:=by
  split
  ·simp only [h.e,bind_assoc]
  ·first
   | rfl
   | (rename_i f;split;exact (f _ _ _ _ rfl).elim;rfl)
def sv:RuS where
 is _ _ e:=match e with
  | .Expr e _=>j6 e
  | _=>false
 run r _ _ lc e ρ:=match e with
  | .Expr e _=>bind (r.e lc e ρ) λ_=>ret (.nx ρ)
  | _=>bad
 ok e R TX h hf hi:=by
  cases e with
  | Expr e p=>exact jU (R.ex h _) hi
  | _=>exact B7
 runK q _ _ lc e ρ _ k:=match e with
  | .Expr e _=>q.e lc e ρ λ_=>k (.nx ρ)
  | _=>bad
 eq e ρ _ k h:=by
  cases e with
  | Expr e p=>simp only [h.e,bind_assoc,f4]
  | _=>rfl
def uU:RuS where
 is _ _ e:=match e with
  | .Return (some _) _=>true
  | _=>false
 run r _ _ lc e ρ:=match e with
  | .Return (some e) _=>bind (r.e lc e ρ) λd=>ret (.rt d)
  | _=>bad
 ok e R TX h hf hi:=by
  split at hi
  ·exact lG (R.ex h _)
  ·cases hi
 runK q _ _ lc e ρ _ k:=match e with
  | .Return (some e) _=>q.e lc e ρ λd=>k (.rt d)
  | _=>bad
 eq e ρ _ k h:=by
  split
  ·simp only [h.e,bind_assoc,f4]
  ·first
   | rfl
   | (rename_i a;split;exact (a _ _ rfl).elim;rfl)
def sIf:RuS where
 is _ _ e:=match e with
  | .If _ _ _ _=>true
  | _=>false
 run r _ _ lc e ρ:=match e with
  | .If c a b _=>bind (r.t lc c ρ) λq=>if q=true then L5 r lc a ρ else L5 r lc b ρ
  | _=>bad
 ok e R TX h hf hi:=by
  cases e with
  | If c a b p=>exact pi (R.tx h _) (C5 R h hf) (C5 R h hf)
  | _=>exact B7
 runK q _ _ lc e ρ _ k:=match e with
  | .If c a b _=>q.t lc c ρ λz=>if z=true then j4 q lc a ρ k else j4 q lc b ρ k
  | _=>bad
 eq e ρ _ k h:=by
  cases e with
  | If c a b p=>simp only [h.t,Q1 h,bind_assoc,j0]
  | _=>rfl
def X6 (a:Lc) (x:Str):Bool:=(f5 a.N x).isSome&&aa a.sc x
def O6 (a:Lc) (x:Str) (ρ:Env) (d:D):M Fl:=match f5 a.N x with
 | some i=>ret (.nx (ρ.set i (some d)))
 | none=>bad
def k0 (b:Lc) (x:Str) (ρ:Env) (d:D) {a:Type} (k:Fl->M a):M a:=match f5 b.N x with
 | some i=>k (.nx (ρ.set i (some d)))
 | none=>bad
theorem X8 (a:Lc) (x:Str) (ρ:Env) (d:D) {b:Type} (k:Fl->M b):bind (O6 a x ρ d) k=k0 a x ρ d k:=by
 unfold O6 k0;cases f5 a.N x <;> rfl
theorem cj {x:Str} {p pos:Pos} {e:Expr} {f:Env->M D} (h:CxOk T k lc X) (l:lc.fr=true) (a:X6 lc x=true) (g:PE X e (tD X.K T.cl xe f)) (c:j6 e=true):PS X (.Assign [.Name x p] e pos) (sD X.K T.cl xe λρ=>bind (f ρ) (O6 lc x ρ)):=by
 rw [X6,Ag,AX] at a;obtain ⟨⟨i,b⟩,j⟩:=a;have:=ly (pos:=pos) (pos':=p) h.nd' (by rw [h.N];exact j9 b) (by rw [h.sc];exact A0 j) g c (.inl (h.fn1 l));have e:O6 lc x=λρ d=>ret (.nx (ρ.set i (some d))):=by funext ρ d;simp only [O6,b]
 simp_all
def vJ:RuS where
 is _ lc e:=match e with
  | .Assign [.Name x _] e _=>X6 lc x&&j6 e
  | _=>false
 run r _ _ lc e ρ:=match e with
  | .Assign [.Name x _] e _=>bind (r.e lc e ρ) (O6 lc x ρ)
  | _=>bad
 ok e R TX h hf hi:=by
  split at hi
  ·rw [Ag] at hi;exact cj h hf hi.1 (R.ex h _) hi.2
  ·cases hi
 runK q _ _ lc e ρ _ k:=match e with
  | .Assign [.Name x _] e _=>q.e lc e ρ λd=>k0 lc x ρ d k
  | _=>bad
 eq e ρ _ k h:=by
  split
  ·simp only [h.e,bind_assoc,X8]
  ·first
   | rfl
   | (rename_i a;split;exact (a _ _ _ _ rfl).elim;rfl)
def tS:RuS where
 is _ lc e:=match e with
  | .Assign [.Name x _] (.List es _) _=>X6 lc x&&decide (x∈lc.mu)&&es.all a9
  | _=>false
 run r _ _ lc e ρ:=match e with
  | .Assign [.Name x _] (.List es _) _=>bind (bind (u4 r lc es ρ) newL) (O6 lc x ρ)
  | _=>bad
 ok e R TX h hf hi:=by
  split at hi
  ·rw [Ag,Ag] at hi;exact cj h hf hi.1.1 (km (m1 R h hi.2)) rfl
  ·cases hi
 runK q _ _ lc e ρ _ k:=match e with
  | .Assign [.Name x _] (.List es _) _=>B2 q lc es ρ λds=>bind (newL ds) λd=>k0 lc x ρ d k
  | _=>bad
 eq e ρ _ k h:=by
  split
  ·simp only [p0 h,bind_assoc,X8]
  ·first
   | rfl
   | (rename_i a;split;exact (a _ _ _ _ _ rfl).elim;rfl)
def ll:RuS where
 is _ lc e:=match e with
  | .Assign [.Name x _] (.BinOp _ .Add _ _) _=>X6 lc x&&decide (x∈lc.mu)
  | _=>false
 run r _ _ lc e ρ:=match e with
  | .Assign [.Name x _] (.BinOp a .Add b _) _=>bind (bind (r.e lc a ρ) λy=>bind (r.e lc b ρ) λz=>cr y z) (O6 lc x ρ)
  | _=>bad
 ok e R TX h hf hi:=by
  split at hi
  ·rw [Ag] at hi;exact cj h hf hi.1 (gQ (R.ex h _) (R.ex h _) oh) rfl
  ·cases hi
 runK q _ _ lc e ρ _ k:=match e with
  | .Assign [.Name x _] (.BinOp a .Add b _) _=>q.e lc a ρ λy=>q.e lc b ρ λz=>bind (cr y z) λd=>k0 lc x ρ d k
  | _=>bad
 eq e ρ _ k h:=by
  split
  ·simp only [h.e,bind_assoc,X8]
  ·first
   | rfl
   | (rename_i c;split;exact (c _ _ _ _ _ _ rfl).elim;rfl)
def swB (c:Lc) (b:Expr) (a:Scope) (t:Str) (pos:Pos):Bool:=c.sc.names.lookup t==some .local&&pos.line==b.pos.line&&!(a.names.any λ(n,k)=>n==t&&(k==.local||k==.cell))
theorem rG (h:CxOk T k lc X) (d:Expr) (c:List Comprehension) (a:Scope) (x:Str) (pos' pos b:Pos):swapsWith (.ListComp d c a b) (some (.Name x pos')) pos.line X.env=pure (swB lc (.ListComp d c a b) a x pos'):=by
 show pure (X.env.blockKind==.function&&X.env.kindOf x==some .local&&pos'.line==(Expr.ListComp d c a b).pos.line&&!(a.names.any λ(n,k)=>n==x&&(k==.local||k==.cell)))=_;have f:X.env.blockKind=.function:=by unfold PySem.Env.blockKind;rw [h.sc,h.kd];rfl
 have e:X.env.kindOf x=lc.sc.names.lookup x:=by unfold PySem.Env.kindOf;rw [h.sc]
 rw [f,e];rfl
theorem hD {T:Tx} {k i:Nat} {f:Lc} {X:Cx} {x:Str} {p pos:Pos} {e:Expr} {fs:Env->M (List D)} {xe:Addr->Hp->Prop} (r:f5 f.N x=some i) (h:PS X (.Assign [.Name x p] e pos) (kA (mf X.K T.cl x0 fs) (dq i))):PS X (.Assign [.Name x p] e pos) (sD X.K T.cl xe λρ=>bind (bind (nx (fs ρ)) λds=>ret (.lst ds)) (O6 f x ρ)):=PS.imp h λD σ H ⟨μ,S,ρ,g,n,p⟩=>
 ⟨μ,S,ρ,g,n,p.bind.bind.nx.imp λds S1 a j l c o m ys q b=>by
  have d:=o.ret a j (Lat.refl _ _) c;simp only [O6,r] at d;exact d.ret a j (Lat.refl _ _) c _ ((g.later l).set (.lst q b) i)⟩
def hQ:RuS where
 is _ lc e:=match e with
  | .Assign [.Name x _] (.ListComp _ [⟨.Name y _,b,_,0⟩] a _) _=>X6 lc x&&E3 lc a [y]&&u7 b
  | _=>false
 run r _ _ lc e ρ:=match e with
  | .Assign [.Name x _] (.ListComp c [⟨.Name y g,b,ifs,0⟩] a _) _=>bind (bind (C4 r lc c y g b ifs a ρ) λds=>ret (.lst ds)) (O6 lc x ρ)
  | _=>bad
 ok {T k r Γ C lc X} e R TX h hf f:=by
  split at f
  ·rename_i x p c y g b ifs a d pos;rw [Ag,Ag] at f;obtain ⟨⟨N,K⟩,t⟩:=f;have m:=N;rw [X6,Ag,AX] at m;obtain ⟨⟨i,f⟩,M⟩:=m;have j:X.N[i]?=some x:=by rw [h.N];exact j9 f
   have n:L2.Loc X.env.scope x:=by rw [h.sc];exact A0 M
   have l:X.fn x=true\/X.env.scope.names.lookup x=some .local:=.inl (h.fn1 hf);have u:=rG h c [⟨.Name y g,b,ifs,0⟩] a x p pos d;unfold C4;cases L:d9 (f5 lc.N) (t7 a) with
   | none=>exact PS.imp jR λD σ H ⟨μ,S,ρ,J,F,p⟩=>p.bind.elim
   | some caps=>
    obtain ⟨z,o,I,v,E⟩:=W3 h K L;have G:=λpins C w s H=>PTL.x0 (tests_ok (ifs:=ifs) R (N0 h v E o pins C w s H));have A:=λpins C w s H=>PE.x0 (R.ex (N0 h v E o pins C w s H) c);refine hD (k:=k) f ?_;cases B:swB lc (.ListComp c [⟨.Name y g,b,ifs,0⟩] a d) a x p with
    | false=>
     rw [B] at u;exact jj h.nd' j n (aw z (h.calm v) o rfl (I y (by simp)) (PI.x0 (R.ix h _ _)) G A t) u l
    | true=>
     rw [B] at u;exact PS.imp (cZ u h.nd' j n l z (h.calm v) o rfl (I y (by simp)) (PI.x0 (R.ix h _ _)) G A (J1 t)) λD σ H ⟨μ,S,ρ,J,F,p⟩=>R7 J F p
  ·cases f
 runK q _ _ lc e ρ _ k:=match e with
  | .Assign [.Name x _] (.ListComp c [⟨.Name y g,b,ifs,0⟩] a _) _=>aG q lc c y g b ifs a ρ λds=>k0 lc x ρ (.lst ds) k
  | _=>bad
 eq e ρ _ k h:=by
  split
  ·simp only [bb h,bind_assoc,f4,X8]
  ·first
   | rfl
   | (rename_i t;split;exact (t _ _ _ _ _ _ _ _ _ _ rfl).elim;rfl)
def f6 (a:Lc):List Expr->Option (List Nat)
 | []=>some []
 | .Name x _ :: b=>if aa a.sc x=true then (match f5 a.N x,f6 a b with
   | some i,some c=>some (i :: c)
   | _,_=>none) else none
 | _=>none
theorem E4 (h:CxOk T k lc X) (hf:lc.fr=true):∀ {ts:List Expr} {is:List Nat},f6 lc ts=some is->NamesAt X ts is
 | [],is,e=>by cases e;exact .nil
 | t :: ts,is,e=>by
  cases t with
  | Name x p=>
   simp only [f6] at e;by_cases hl:aa lc.sc x=true
   ·simp only [if_pos hl] at e;cases e1:f5 lc.N x with
    | none=>rw [e1] at e;cases e
    | some i=>
     cases e2:f6 lc ts with
     | none=>grind
     | some is'=>
      rw [e1,e2] at e;cases e;exact .cons (by rw [h.N];exact j9 e1) (by rw [h.sc];exact A0 hl) (.inl (h.fn1 hf)) (E4 h hf e2)
   ·grind
  | _=>simp only [f6] at e;cases e
def vn:RuS where
 is _ lc e:=match e with
  | .Assign [.Tuple ts _ _] e _=>(f6 lc ts).isSome&&j6 e&&U7 e&&!quiet lc
  | _=>false
 run r _ _ lc e ρ:=match e with
  | .Assign [.Tuple ts _ _] e _=>(match f6 lc ts with
   | some is=>bind (r.e lc e ρ) λd=>D7 (K8 is) d ρ
   | none=>bad)
  | _=>bad
 ok {T k r Γ C lc X} e R TX h hf hi:=by
  split at hi
  ·rename_i ts n p e pos;simp at hi;obtain ⟨⟨⟨h1,h2⟩,h3⟩,h4⟩:=hi;show PS X _ (sD X.K T.cl (xOf X) λρ=>(match f6 lc ts with
    | some is=>bind (r.e lc e ρ) λd=>D7 (K8 is) d ρ
    | none=>bad))
   cases e1:f6 lc ts with
   | none=>exact B7
   | some is=>exact mB (h.calm h4) h.nd' (E4 h hf e1) (R.ex h _) h2 h3
  ·cases hi
 runK q _ _ lc e ρ _ k:=match e with
  | .Assign [.Tuple ts _ _] e _=>(match f6 lc ts with
   | some is=>q.e lc e ρ λd=>bind (D7 (K8 is) d ρ) k
   | none=>bad)
  | _=>bad
 eq {r q Γ C lc} e ρ _ k h:=by
  split
  ·rename_i ts n p e pos;cases f6 lc ts with
   | none=>rfl
   | some is=>simp only [h.e,bind_assoc]
  ·first
   | rfl
   | (rename_i hn;split;exact (hn _ _ _ _ _ rfl).elim;rfl)
def tZ:RuS where
 is _ _ e:=match e with
  | .Assign [.Subscript _ b _] e _=>j6 e&&k7 b
  | _=>false
 run r _ _ lc e ρ:=match e with
  | .Assign [.Subscript a b _] e _=>bind (r.e lc e ρ) λv=>bind (r.e lc a ρ) λx=>bind (r.e lc b ρ) λy=>bind (G2 x y v) λ_=>ret (.nx ρ)
  | _=>bad
 ok e R TX h hf hi:=by
  split at hi
  ·rw [Ag] at hi;exact gj h.u1 (R.ex h _) (R.ex h _) (R.ex h _) hi.1 hi.2
  ·cases hi
 runK q _ _ lc e ρ _ k:=match e with
  | .Assign [.Subscript a b _] e _=>q.e lc e ρ λv=>q.e lc a ρ λx=>q.e lc b ρ λy=>bind (G2 x y v) λ_=>k (.nx ρ)
  | _=>bad
 eq e ρ _ k h:=by
  split
  ·simp only [h.e,bind_assoc,f4]
  ·first
   | rfl
   | (rename_i c;split;exact (c _ _ _ _ _ rfl).elim;rfl)
def tgE (b:Lc) (a:Expr):Option (D->Env->Option Env):=match a with
 | .Name x _=>if aa b.sc x=true then (f5 b.N x).map λi=>λd ρ=>some (ρ.set i (some d)) else none
 | .Tuple c _ _=>(f6 b c).map K8
 | _=>none
theorem sL (h:CxOk T k lc X) (d:lc.fr=true) (g:quiet lc=false) {b:Expr} {tg:D->Env->Option Env} (e:tgE lc b=some tg):PG X b (gh X.K T.cl tg):=by
 unfold tgE at e;split at e
 ·rename_i x p;by_cases c:aa lc.sc x=true
  ·simp only [if_pos c] at e;cases a:f5 lc.N x with
   | none=>rw [a] at e;cases e
   | some i=>rw [a] at e;cases e;exact gc h.nd' (by rw [h.N];exact j9 a) (by rw [h.sc];exact A0 c) (.inl (h.fn1 d))
  ·grind
 ·rename_i f n p;cases a:f6 lc f with
  | none=>rw [a] at e;cases e
  | some j=>rw [a] at e;cases e;exact eK (h.calm g) h.nd' (E4 h d a)
 ·cases e
def uT:RuS where
 is _ lc e:=match e with
  | .For _ a _ [] _=>u7 a&&!quiet lc
  | _=>false
 run r _ _ lc e ρ:=match e with
  | .For b a body [] _=>(match tgE lc b with
   | some tg=>bind (r.i lc b a ρ) λp=>k8 p.1 tg (L5 r lc body) p.2 0 ρ
   | none=>bad)
  | _=>bad
 ok {T k r Γ C lc X} e R TX h hf hi:=by
  split at hi
  ·rename_i b a body pos;simp at hi;show PS X _ (sD X.K T.cl (xOf X) λρ=>(match tgE lc b with
    | some tg=>bind (r.i lc b a ρ) λp=>k8 p.1 tg (L5 r lc body) p.2 0 ρ
    | none=>bad))
   cases e:tgE lc b with
   | none=>exact B7
   | some tg=>exact kL h.po (h.calm hi.2) (R.ix h _ _) (sL h hf hi.2 e) (C5 R h hf) hi.1
  ·cases hi
 runK q _ _ lc e ρ _ k:=match e with
  | .For b a body [] _=>(match tgE lc b with
   | some tg=>q.i lc b a ρ λp=>bind (k8 p.1 tg (λc=>j4 q lc body c ret) p.2 0 ρ) k
   | none=>bad)
  | _=>bad
 eq {r q Γ C lc} e ρ _ k h:=by
  split
  ·rename_i b a body pos;cases tgE lc b with
   | none=>rfl
   | some tg=>
    have:(λc=>j4 q lc body c ret)=L5 r lc body:=funext λc=>by rw [Q1 h,E7]
    simp only [h.i,bind_assoc,this]
  ·first
   | rfl
   | (rename_i d;split;exact (d _ _ _ _ rfl).elim;rfl)
def u3 (t:Env->M Bool) (g:Env->M Fl):Nat->Env->M Fl
 | 0,_=>bad
 | m+1,ρ=>bind (t ρ) λq=>if q=true then bind (g ρ) (λb=>match b with
   | .nx a=>u3 t g m a
   | .ct a=>u3 t g m a
   | .bk a=>ret (.nx a)
   | .rt d=>ret (.rt d)) else ret (.nx ρ)
theorem ek {c:Expr} {body:List Stmt} {pos:Pos} {t:Env->M Bool} {g:Env->M Fl} (n:Nat) (hp:PassesOwn (model X.prog X.w) X.A X.env X.xe) (hc:PT X c (tBo X.K cl xe t)) (hb:PSs X body (sD X.K cl xe g)) :
  PS X (.While c body [] pos) (sD X.K cl xe λρ=>u3 t g n ρ):=PS.imp (gR hp hc hb) λD σ H ⟨μ,S,ρ,eo,rp,p⟩=>by
 refine ⟨λm σ H=>∃ μ2 S2 ρ2,EnvOk X.K μ2 H ρ2 σ/\Rep X.K cl μ2 S2 H/\Post X.K cl xe μ2 H (u3 t g m ρ2 S2) (λfl _ μ' H'=>il X.K D fl μ' H'),⟨n,μ,S,ρ,eo,rp,p⟩,?_⟩;rintro m σ2 H2 ⟨μ2,S2,ρ2,eo2,r2,p2⟩;cases m with
 | zero=>exact p2.elim
 | succ m=>
  refine ⟨μ2,S2,ρ2,eo2,r2,p2.bind.imp λq S3 μ3 H3 l3 r3 p3=>?_⟩;cases q with
  | false=>exact p3.ret μ3 H3 (Lat.refl _ _) r3 σ2 (eo2.later l3)
  | true=>
   refine sU ?_;rw [if_pos rfl] at p3;refine ⟨λσ' H'=>∃ μ4 S4 ρ4,EnvOk X.K μ4 H' ρ4 σ'/\Rep X.K cl μ4 S4 H'/\Post X.K cl xe μ4 H' (u3 t g m ρ4 S4) (λfl _ μ' H'=>il X.K D fl μ' H'),λσ' H' q=>⟨m,Bd _,q⟩,?_⟩;refine ⟨μ3,S3,ρ2,eo2.later l3,r3,p3.bind.imp λfl S4 μ4 H4 l4 r4 p4=>?_⟩;cases fl with
   | nx ρ4=>exact λσ4 eo4=>⟨μ4,S4,ρ4,eo4,r4,p4⟩
   | ct ρ4=>exact λσ4 eo4=>⟨μ4,S4,ρ4,eo4,r4,p4⟩
   | bk ρ4=>exact p4.ret μ4 H4 (Lat.refl _ _) r4
   | rt d=>exact p4.ret μ4 H4 (Lat.refl _ _) r4
def ol:RuS where
 is _ _ e:=match e with
  | .While _ _ [] _=>true
  | _=>false
 run r _ _ lc e ρ:=match e with
  | .While c body [] _=>u3 (r.t lc c) (L5 r lc body) 10000 ρ
  | _=>bad
 ok e R TX h hf hi:=by
  split at hi
  ·exact ek 10000 h.po (R.tx h _) (C5 R h hf)
  ·cases hi
 runK q _ _ lc e ρ _ k:=match e with
  | .While c body [] _=>bind (u3 (λa=>q.t lc c a ret) (λa=>j4 q lc body a ret) 10000 ρ) k
  | _=>bad
 eq {r q Γ C lc} e ρ _ k h:=by
  split
  ·rename_i c body pos;have b:(λa=>j4 q lc body a ret)=L5 r lc body:=funext λa=>by rw [Q1 h,E7]
   have f:(λa=>q.t lc c a ret)=r.t lc c:=funext λa=>by rw [h.t,E7]
   rw [b,f]
  ·first
   | rfl
   | (rename_i d;split;exact (d _ _ _ rfl).elim;rfl)
structure Fd where
 ps:List Str
 N:List Str
 sc:Scope
 body:List Stmt
 mu:List Str
def G9 (N:List Str) (ds:List D):Env:=ds.map some++List.replicate (N.length-ds.length) none
def endD (a:Fl):M D:=match a with
 | .rt d=>ret d
 | .nx _=>ret .non
 | _=>bad
abbrev D1 (fd:Fd):Lc:=⟨fd.N,fd.sc,true,fd.mu⟩
def C3 (Rs:Rules) (Γ:Gm) (a:List Fd):Nat->Nat->List D->M D
 | 0,_,_=>bad
 | k+1,i,ds=>match a[i]? with
  | none=>bad
  | some fd=>if ds.length=fd.ps.length then bind (L5 (ev Rs Γ (C3 Rs Γ a k) 40) (D1 fd) fd.body (G9 fd.N ds)) endD else bad
structure FnTx (T:Tx) (x:Str) (fd:Fd):Prop where
 ex:∃ (f:Addr) (da:FuncData) (qual:Str) (st:Stmt),Fun T.K x qual st f da/\i6 st=fd.body/\b3 st=fd.sc/\FnScope fd.N fd.ps fd.sc/\Binds T.K da fd.ps []/\T.mg x=some (.ref f)
theorem ak {K:PySem.W.Frag} {μ:Mp} {H:Hp} {N:List Str} {ds:List D} {vs:List V} (r:RDs K μ H ds vs):EnvOk K μ H (G9 N ds) (L2.start N vs):=by
 unfold G9 L2.start;refine ⟨by simp [r.length],λi d e=>?_⟩;by_cases hi:i<ds.length
 ·rw [Az (by simpa using hi),AR] at e;cases q:ds[i]? with
  | none=>rw [q] at e;cases e
  | some d'=>
   rw [q] at e;cases e;obtain ⟨v,e1,r1⟩:=r.get q;refine ⟨v,?_,r1⟩;rw [Az (by rw [AE,<- r.length];exact hi),AR,e1];rfl
 ·rw [Bo (by simpa using BL hi),Df] at e;split at e <;> cases e
section
variable {P:Program} {w:World} {K:PySem.W.Frag} {mg:Str->Option Value} {base:Heap}
theorem gU {x b:Str} {st:Stmt} {f:Addr} {fd:FuncData} {N ps:List Str} {k:Nat} {sp:Sp} (F:Fun K x b st f fd) (S:FnScope N ps (b3 st)) (g:∀ vs H Q E,sp vs H Q E->vs.length=ps.length)
  (d:∀ (c:Value) (A:Around) (a:List PySem.Env) (s:Shared) (H:Hp) (vs:List V) (Q:VK) (E:XK),Room CX.q k (A.deeper (envOfC b (b3 st) s.heap.objs.size f c))->sp vs H Q E ->
   ∃ t,PSs (Y0 CX P w K mg base N b (b3 st) f c A a s H E) (i6 st) t/\t { nx:=λ_ H'=>Q .non H',rt:=Q } (start N vs) H):FnOk P w K mg base CX (k+1) f fd ps sp:=by
 obtain ⟨r,od,n,i,o,p,c,q,l,rfl,m,h⟩:=F.ex;exact qU m h S g λA a s H vs Q E j e=>d c A a s H vs Q E j e
theorem Post.fly {H0 H:Hp} {E:XK} {μ:Mp} {r:R α} {G:α->Sto->Mp->Hp->Prop} (p:Post K cl (iF E) μ H r G) :
  Post K cl (xOf (Y0 (CXd P w K) P w K mg base N qual scope f cd A outer s H0 E)) μ H r G:=by
 cases r with
 | ok a S=>exact p
 | bad=>exact p
 | exn n S=>
  intro μ' H' a l rp e pins σ s' C d tb I fx;refine cB I I.ok.frames rfl rfl fx λH2 s2 T I2 fx2 m2=>?_;obtain ⟨l2,r2⟩:=rp.mv I.hok e fx.at_ m2;exact ⟨a,C,d,some T,H2,rfl,I2.os,I2.bare,I2.base,I2.hok,fx2,p μ' H2 a (l.trans l2) r2 e⟩
end
theorem FnOk.unX {K:PySem.W.Frag} {mg:Str->Option Value} {base:Heap} {k n:Nat} {f:Addr} {fd:FuncData} {ps:List Str} {cl:Nat->Addr} {run:List D->M D} (F:FnOk P w K mg base (CXd P w K) k f fd ps (spX K cl n run)):FnOk P w K mg base (CXq false) k f fd ps (spD K cl n run):=
 ⟨λvs H Q E h=>F.len vs H Q E0 h,λA outer s H args us vs Q E hr e0 hb r h=>BJ (F.run A outer s H args us vs Q E0 hr e0 hb r h) λres s' hq=>by
  cases res with
  | ok fl=>cases fl <;> exact hq
  | error e=>obtain ⟨_,_,_,_,_,_,_,_,_,_,_,z⟩:=hq;exact z⟩
section
variable {Rs:Rules} {T:Tx} {Γ:Gm} {Tb:List Fd} {k i:Nat} {x qual:Str} {st:Stmt} {f:Addr} {da:FuncData} {fd:Fd}
theorem bF (TX:TxOk T Γ (k+3) (C3 Rs Γ Tb k)) (hi:Tb[i]?=some fd) (F:Fun T.K x qual st f da) (h1:i6 st=fd.body) (h2:b3 st=fd.sc) (S:FnScope fd.N fd.ps fd.sc) (hq:quiet (D1 fd)=false) :
  FnOk T.P T.w T.K T.mg T.base (CXd T.P T.w T.K) (k+4) f da fd.ps (spX T.K T.cl fd.ps.length (C3 Rs Γ Tb (k+1) i)):=by
 have S':FnScope fd.N fd.ps (b3 st):=by rw [h2];exact S
 refine gU F S' (λvs H Q E h=>h.1) λcdv A outer s H vs Q E hr hsp=>?_;obtain ⟨hl,μ,S0,ds,rds,rp,p⟩:=hsp;have cx:CxOk T (k+3) (D1 fd) (Y0 (CXd T.P T.w T.K) T.P T.w T.K T.mg T.base fd.N qual (b3 st) f cdv A outer s H E):=⟨rfl,rfl,rfl,rfl,rfl,rfl,S.nd,h2,λ_=>rfl,by rw [hq];exact hr,λe s' z=>wpAny_leaving_again (SameStack.refl _) z,rfl,S.kind,λ_ _=>⟨rfl,rfl⟩⟩;have R:=iR (Rs:=Rs) TX 40;refine ⟨_,by rw [h1];exact C5 R cx rfl,?_⟩;refine ⟨μ,S0,G9 fd.N ds,ak rds,rp,?_⟩;have hd:ds.length=fd.ps.length:=by rw [rds.length];exact hl
 simp only [C3,hi,if_pos hd] at p;refine Post.fly (p.bind.imp λfl S1 μ1 H1 l1 r1 p1=>?_);cases fl with
 | nx ρ=>exact λσ _=>p1 μ1 H1 (Lat.refl _ _) r1 _ .non
 | rt d=>exact λv rv=>p1 μ1 H1 (Lat.refl _ _) r1 v rv
 | bk ρ=>exact False.elim p1
 | ct ρ=>exact False.elim p1
theorem hU (TX:TxOk T Γ (k+3) (C3 Rs Γ Tb k)) (hi:Tb[i]?=some fd) (F:Fun T.K x qual st f da) (h1:i6 st=fd.body) (h2:b3 st=fd.sc) (S:FnScope fd.N fd.ps fd.sc) (hq:quiet (D1 fd)=true) :
  FnOk T.P T.w T.K T.mg T.base (CXq true) (k+4) f da fd.ps (spD T.K T.cl fd.ps.length (C3 Rs Γ Tb (k+1) i)):=by
 have S':FnScope fd.N fd.ps (b3 st):=by rw [h2];exact S
 refine gU F S' (λvs H Q E h=>h.1) λcdv A outer s H vs Q E hr hsp=>?_;obtain ⟨hl,μ,S0,ds,rds,rp,p⟩:=hsp;have cx:CxOk T (k+3) (D1 fd) (Y0 (CXq true) T.P T.w T.K T.mg T.base fd.N qual (b3 st) f cdv A outer s H E).nox:=⟨rfl,rfl,rfl,rfl,rfl,rfl,S.nd,h2,λz=>(by rw [hq] at z;exact absurd z (by decide)),by rw [hq];exact hr,PassesOwn.never,rfl,S.kind,λ_ z=>(by rw [hq] at z;exact absurd z (by decide))⟩;have R:=iR (Rs:=Rs) TX 40;refine ⟨_,by rw [h1];exact PSs.nox (PSs.x0 (C5 R cx rfl)),?_⟩;refine ⟨μ,S0,G9 fd.N ds,ak rds,rp,?_⟩;have hd:ds.length=fd.ps.length:=by rw [rds.length];exact hl
 simp only [C3,hi,if_pos hd] at p;refine p.bind.imp λfl S1 μ1 H1 l1 r1 p1=>?_;cases fl with
 | nx ρ=>exact λσ _=>p1 μ1 H1 (Lat.refl _ _) r1 _ .non
 | rt d=>exact λv rv=>p1 μ1 H1 (Lat.refl _ _) r1 v rv
 | bk ρ=>exact False.elim p1
 | ct ρ=>exact False.elim p1
theorem lA (d:TxOk T Γ (k+3) (C3 Rs Γ Tb k)) (a:Tb[i]?=some fd) (F:Fun T.K x qual st f da) (e:i6 st=fd.body) (b:b3 st=fd.sc) (S:FnScope fd.N fd.ps fd.sc) (c:quiet (D1 fd)=false:=by rfl) :
  FnOk T.P T.w T.K T.mg T.base (CXq false) (k+4) f da fd.ps (spD T.K T.cl fd.ps.length (C3 Rs Γ Tb (k+1) i)):=FnOk.unX (bF d a F e b S c)
def ot (Γ:Gm) (a:List Fd):Bool:=(List.range a.length).all λi=>match a[i]? with
 | some fd=>quiet (D1 fd)==Γ.qs.contains i
 | none=>false
theorem dO (h:ot Γ Tb=true) (hi:Tb[i]?=some fd):quiet (D1 fd)=Γ.qs.contains i:=by
 unfold ot at h;have:=(Ay.mp h) i (Bx.mpr (Al.mp hi).1);rw [hi] at this;simpa using this
end
structure TxSt (T:Tx) (Γ:Gm):Prop where
 blt:∀ x∈bnames,Γ.gl.lookup x=none->T.mg x=none
 val:∀ x d,Γ.gl.lookup x=some (.val d)->∃ u v,T.mg x=some u/\RelV v u/\∀ μ H,RD T.K μ H d v
 err:∀ x c fs,Γ.gl.lookup x=some (.err c fs)->ErrAt T x c fs/\(∀ g∈fs,B5 T.K (T.cl c) g)
 sub:∀ x c c0 fs,Γ.gl.lookup x=some (.err c0 fs)->XC T.K (T.cl c)->PySem.W.kitOne T.K (.ref (T.cl c)) (.ref (T.cl c0))=some (Γ.sub c c0)
 subV:∀ c,XC T.K (T.cl c)->PySem.W.kitOne T.K (.ref (T.cl c)) (.type "ValueError")=some true
 subT:∀ c,XC T.K (T.cl c)->∀ t∈tys,PySem.W.kitOne T.K (.ref (T.cl c)) (.type t)=some false
 fld:∀ g∈Γ.flds,∀ c,XC T.K (T.cl c)->B5 T.K (T.cl c) g
 dct:∀ x kvs,Γ.gl.lookup x=some (.dct kvs)->im T x kvs
def hX (T:Tx) (Γ:Gm) (a:List Fd):Prop:=∀ x i n,Γ.gl.lookup x=some (.fn i n)->∃ fd,a[i]?=some fd/\fd.ps.length=n/\FnTx T x fd
theorem TxSt.ok (h:TxSt T Γ) {k:Nat} {C:Cf} (f:∀ x i n,Γ.gl.lookup x=some (.fn i n)->i∉Γ.qs->FnX T (k+3) i n x (C i)) (a:∀ x i n,Γ.gl.lookup x=some (.fn i n)->i∈Γ.qs->FnAt T (k+3) i n x (C i)):TxOk T Γ (k+3) C:=⟨h.blt,h.val,f,a,h.err,h.sub,h.subV,h.subT,h.fld,h.dct,by omega⟩
theorem lY {T:Tx} {Γ:Gm} {q:List Fd} (h:TxSt T Γ) (fs:hX T Γ q) (k:Nat) (w:ot Γ q=true:=by rfl):TxOk T Γ (k+3) (C3 Rs Γ q k):=by
 induction k with
 | zero=>
  have l:∀ x i n,Γ.gl.lookup x=some (.fn i n)->∃ (a:Addr) (fd:FuncData) (ps:List Str),ps.length=n/\(∀ CX,FnOk T.P T.w T.K T.mg T.base CX 3 a fd ps (spX T.K T.cl n (C3 Rs Γ q 0 i)))/\T.mg x=some (.ref a)/\PySem.W.keepIn T.K (.ref a)=true/\Binds T.K fd ps []:=λx i n e=>by
   obtain ⟨fd,d,c,g⟩:=fs x i n e;obtain ⟨f,o,j,st,F,_,_,_,b,m⟩:=g.ex;refine ⟨f,o,fd.ps,c,λCX=>⟨λvs H Q E h=>by rw [c];exact h.1,λA v s H z us vs Q E _ _ _ _ u=>?_⟩,m,F.kp,b⟩;obtain ⟨_,μ,S,ds,_,_,p⟩:=u;exact p.elim
  refine h.ok (λx i n e _=>?_) λx i n e _=>?_
  ·obtain ⟨a,fd,ps,d,c,g⟩:=l x i n e;exact ⟨a,fd,ps,d,c _,g⟩
  ·obtain ⟨a,fd,ps,d,c,g⟩:=l x i n e;exact ⟨a,fd,ps,d,FnOk.imp (c _) λvs H Q E ⟨_,μ,S,ds,_,_,p⟩=>p.elim,g⟩
 | succ k y=>
  refine h.ok (λx i n e B=>?_) λx i n e m=>?_
  ·obtain ⟨fd,d,c,g⟩:=fs x i n e;subst c;obtain ⟨f,o,j,st,F,r,t,S,b,m2⟩:=g.ex;exact ⟨f,o,fd.ps,rfl,bF y d F r t S (by rw [dO w d];simpa using B),m2,F.kp,b⟩
  ·obtain ⟨fd,d,c,g⟩:=fs x i n e;subst c;obtain ⟨f,o,j,st,F,r,t,S,b,m2⟩:=g.ex;exact ⟨f,o,fd.ps,rfl,hU y d F r t S (by rw [dO w d];simpa using m),m2,F.kp,b⟩
def runK (Rs:Rules) (Γ:Gm) (C:Cf) (fd:Fd) (ds:List D):M D:=if ds.length=fd.ps.length then j4 (evK Rs Γ C 40) ⟨fd.N,fd.sc,true,fd.mu⟩ fd.body (G9 fd.N ds) endD else bad
theorem a7 {a:List Fd} {k i:Nat} {fd:Fd} (h:a[i]?=some fd) (ds:List D):C3 Rs Γ a (k+1) i ds=runK Rs Γ (C3 Rs Γ a k) fd ds:=by
 simp only [C3,h,runK];split
 ·rw [Q1 (mi 40)]
 ·rfl
def gq (a:Arguments):List Str:=a.args.map (·.arg)
def kB (ps:List Str) (a:Scope):List Str:=ps++(a.names.filter λy=>(y.2==.local||y.2==.cell)&&!ps.contains y.1).map (·.1)
def j2 (st:Stmt) (a:List Str):Fd:=⟨gq (l8 st),kB (gq (l8 st)) (b3 st),b3 st,i6 st,a⟩
def Z9 (fd:Fd):Bool:=decide (fd.sc.kind=.function)&&!fd.sc.isCoroutine&&!fd.sc.isGenerator&&decide fd.N.Nodup&&decide (fd.N.take fd.ps.length=fd.ps)&&fd.ps.all (λx=>aa fd.sc x)&&fd.sc.names.all (λy=>decide (y.2≠.free))
theorem P8 (h:Z9 fd=true):FnScope fd.N fd.ps fd.sc:=by
 simp only [Z9,Ag,Aq,Ay,Bs] at h;obtain ⟨⟨⟨⟨⟨⟨i,b⟩,c⟩,d⟩,f⟩,e⟩,a⟩:=h;exact ⟨i,b,c,d,f,λx g=>A0 (e x g),a⟩
def rGd (K:PySem.W.Frag) (a:Addr):R2:=λx y H Q=>x=.ref a/\∃ z u v,y=.str z/\PySem.W.nsIn K a z=some (some u)/\RelV v u/\Q v H
theorem tm {X:Cx} {a:Addr} {es:Array DictEntry} {n:Nat} (hl:X.K.lookup a=some ⟨.type "dict",none,.dict es n,#[]⟩) (hk:PySem.W.KeysLit X.w.params es.toList):IxR X (rGd X.K a):=by
 intro value slice pins s σ H x y v u Q I rx ry h hs;obtain ⟨rfl,z,u',v',rfl,e,rv,q⟩:=h;cases rx;obtain ⟨t,rfl⟩:=ry;have hm:=Dr (prog:=X.prog) (w:=X.w) (h:=s.heap) (λb o hb=>I.kIn b o hb) hl hk;exact tail_any hm.typeIs slot_dict_getitem.lookup (wpAny_getItem_of (Dy X.prog X.w z t) hm (Dt hl e) ⟨v',H,I.tok _,rv,q⟩) hs
def gdD (kvs:List (Str×D)) (y:D):M D:=match y with
 | .str z=>(match kvs.lookup z with
  | some d=>ret d
  | none=>bad)
 | _=>bad
def Q7 (Γ:Gm) (x:Str):Bool:=match Γ.gl.lookup x with
 | some (.dct _)=>true
 | _=>false
def gdE (r:Ev) (Γ:Gm) (lc:Lc) (x:Str) (i:Expr) (ρ:Env):M D:=match Γ.gl.lookup x with
 | some (.dct kvs)=>bind (r.e lc i ρ) (gdD kvs)
 | _=>bad
def gdK (q:EvK) (Γ:Gm) (lc:Lc) (x:Str) (i:Expr) (ρ:Env) {α:Type} (k:D->M α):M α:=match Γ.gl.lookup x with
 | some (.dct kvs)=>q.e lc i ρ λd=>bind (gdD kvs d) k
 | _=>bad
theorem rO {r:Ev} {q:EvK} {Γ:Gm} {lc:Lc} (h:EqK r q) (x:Str) (i:Expr) (ρ:Env) {α:Type} (k:D->M α):gdK q Γ lc x i ρ k=bind (gdE r Γ lc x i ρ) k:=by
 unfold gdK gdE;cases Γ.gl.lookup x with
 | none=>rfl
 | some g=>
  cases g with
  | dct kvs=>simp only [h.e,bind_assoc]
  | _=>rfl
theorem sw {T:Tx} {k:Nat} {r:Ev} {Γ:Gm} {C:Cf} {lc:Lc} {X:Cx} {x:Str} {p pos:Pos} {i:Expr} (R:EvOk T k r) (TX:TxOk T Γ k C) (h:CxOk T k lc X) (c1:q4 x=true) (c2:glB lc.sc x=true) (c3:k7 i=true):PE X (.Subscript (.Name x p) i pos) (tD X.K T.cl (xOf X) (gdE r Γ lc x i)):=by
 obtain ⟨n1,n2,n3⟩:=m6 c1;unfold gdE;cases e1:Γ.gl.lookup x with
 | none=>exact b7
 | some g=>
  cases g with
  | dct kvs=>
   obtain ⟨a,es,n,hm,hl,hk,_,_,hv⟩:=TX.dct x kvs e1;refine PE.imp (md (tm (X:=X) (by rw [h.K];exact hl) (by rw [h.w];exact hk)) (M2 (v:=.ref a) (h.gl c2) (by rw [h.mg];exact hm) rfl n1) (R.ex h i) (R4 c3)) λσ H Q ⟨μ,S,ρ,eo,rp,q⟩=>?_;refine ⟨μ,S,ρ,eo,rp,q.bind.imp λy S2 μ2 H2 l2 r2 p2 u ru=>?_⟩;cases y with
   | str z=>
    cases ru;cases e2:kvs.lookup z with
    | none=>simp only [gdD,e2] at p2;exact p2.elim
    | some d=>
     simp only [gdD,e2] at p2;obtain ⟨u,v,f1,f2,f3⟩:=hv z d e2;exact ⟨rfl,z,u,v,rfl,by rw [h.K];exact f1,f2,p2 μ2 H2 (Lat.refl _ _) r2 v (by rw [h.K];exact f3 μ2 H2)⟩
   | _=>exact p2.elim
  | val d=>exact b7
  | fn i n=>exact b7
  | err c fs=>exact b7
def tV:RuE where
 is Γ lc e:=match e with
  | .Subscript (.Name x _) i _=>q4 x&&glB lc.sc x&&k7 i&&Q7 Γ x
  | _=>false
 run r Γ C lc e ρ:=match e with
  | .Subscript (.Name x _) i _=>gdE r Γ lc x i ρ
  | _=>bad
 ok {T k r Γ C lc X} e R TX h hi:=by
  split at hi
  ·simp only [Ag] at hi;exact sw R TX h hi.1.1.1 hi.1.1.2 hi.1.2
  ·cases hi
 runK q Γ C lc e ρ _ k:=match e with
  | .Subscript (.Name x _) i _=>gdK q Γ lc x i ρ k
  | _=>bad
 eq {r q Γ C lc} e ρ _ k h:=by
  split
  ·exact rO h _ _ ρ k
  ·first
   | rfl
   | (rename_i hn;split;exact (hn _ _ _ _ rfl).elim;rfl)
def L6 (i:Nat) (ρ:Env):M D:=match ρ[i]? with
 | some (some d)=>ret d
 | _=>bad
def cW (f:Int->Int->Int) (x y:D):M D:=match x,y with
 | .int i,.int j=>ret (.int (f i j))
 | _,_=>bad
section
variable {X:Cx} {cl:Nat->Addr} {xe:Addr->Hp->Prop} {e:Expr} {f:Env->M D} {pos:Pos}
theorem lv {op:Operator} {g:Int->Int->Int} (ho:PIp X op (ipI g)) (hN:X.N.Nodup) (hi:X.N[i]?=some x) (hx:Loc X.env.scope x) (he:PE X e (tD X.K cl xe f)) (hf:X.fn x=true\/X.env.scope.names.lookup x=some .local) :
  PS X (.AugAssign (.Name x pos') op e pos) (sD X.K cl xe λρ=>bind (L6 i ρ) λa=>bind (f ρ) λb=>bind (cW g a b) λd=>ret (.nx (ρ.set i (some d)))):=PS.imp (qL hN hi hx he ho hf) λD σ H ⟨μ,S,ρ,eo,rp,p⟩=>by
 have p:Post X.K cl xe μ H (bind (L6 i ρ) (λa=>bind (f ρ) λb=>bind (cW g a b) λd=>ret (Fl.nx (ρ.set i (some d)))) S) _:=p;cases q:ρ[i]? with
 | none=>
  have e0:L6 i ρ=bad:=by unfold L6;rw [q]
  rw [e0] at p;exact p.elim
 | some o=>
  cases o with
  | none=>
   have e0:L6 i ρ=bad:=by unfold L6;rw [q]
   rw [e0] at p;exact p.elim
  | some a=>
   have e0:L6 i ρ=ret a:=by unfold L6;rw [q]
   rw [e0] at p;have p:Post X.K cl xe μ H (bind (f ρ) (λb=>bind (cW g a b) λd=>ret (Fl.nx (ρ.set i (some d)))) S) _:=p;obtain ⟨v,e1,rv⟩:=eo.2 i a q;refine ⟨v,e1,μ,S,ρ,eo,rp,p.bind.imp λb S1 μ1 H1 l1 r1 p1 w rw'=>?_⟩;have rv1:=rv.later l1;cases a with
   | int i1=>
    cases b with
    | int j1=>
     cases rv1;cases rw';have p1:=p1;exact ⟨i1,j1,rfl,rfl,p1 μ1 H1 (Lat.refl _ _) r1 _ ((eo.later l1).set (.int _) i)⟩
    | _=>exact False.elim p1
   | _=>exact False.elim p1
end
def kk (c:Lc) (x:Str) (ρ:Env) (m:M D):M Fl:=match f5 c.N x with
 | some i=>bind (L6 i ρ) λa=>bind m λb=>bind (cW (λi j=>i+j) a b) λd=>ret (.nx (ρ.set i (some d)))
 | none=>bad
def qA (b:Lc) (x:Str) (ρ:Env) {a:Type} (k:Nat->D->M a):M a:=match f5 b.N x with
 | some i=>(match ρ[i]? with
  | some (some d)=>k i d
  | _=>bad)
 | none=>bad
theorem nF (c:Lc) (x:Str) (ρ:Env) (m:M D) {e:Type} (k:Fl->M e):bind (kk c x ρ m) k=qA c x ρ λi a=>bind m λb=>bind (cW (λi j=>i+j) a b) λd=>k (.nx (ρ.set i (some d))):=by
 unfold kk qA;cases f5 c.N x with
 | none=>rfl
 | some i=>
  cases q:ρ[i]? with
  | none=>simp only [L6,q];rfl
  | some o=>
   cases o with
   | none=>simp only [L6,q];rfl
   | some a=>simp only [L6,q,bind_assoc,f4]
def vZ:RuS where
 is _ lc e:=match e with
  | .AugAssign (.Name x _) .Add _ _=>X6 lc x
  | _=>false
 run r _ _ lc e ρ:=match e with
  | .AugAssign (.Name x _) .Add e _=>kk lc x ρ (r.e lc e ρ)
  | _=>bad
 ok e R TX h hf c:=by
  split at c
  ·rename_i x p e pos;rw [X6,Ag,AX] at c;obtain ⟨⟨i,c⟩,g⟩:=c;have:=lv (pos:=pos) (pos':=p) nM h.nd' (by rw [h.N];exact j9 c) (by rw [h.sc];exact A0 g) (R.ex h e) (.inl (h.fn1 hf));simp only [kk,c];exact this
  ·cases c
 runK q _ _ lc e ρ _ k:=match e with
  | .AugAssign (.Name x _) .Add e _=>qA lc x ρ λi a=>q.e lc e ρ λb=>bind (cW (λi j=>i+j) a b) λd=>k (.nx (ρ.set i (some d)))
  | _=>bad
 eq e ρ _ k h:=by
  split
  ·simp only [nF,h.e]
  ·first
   | rfl
   | (rename_i f;split;exact (f _ _ _ _ rfl).elim;rfl)
def X1 (m a d:D):M D:=
 bind (N8 d (.int 1000003)) λq=>bind (M0 (.int 31) a) λh=>bind (M0 h a) λs=>bind (j3 q s) λn=>bind (M0 (.int 7) a) λr=>bind (j3 n r) λp=>bind (j3 p (.int 11)) λe=>bind (M0 e (.int 48271)) λi=>bind (N8 i (.int 2147483647)) λc=>
 bind (J6 c (.int 64)) λj=>bind (M0 j (.int 69621)) λl=>bind (M0 (.int 7919) a) λf=>bind (j3 l f) λk=>bind (N8 k (.int 2147483587)) λb=>
 bind (J6 b (.int 64)) λg=>bind (N8 g m) λo=>ret o
def Z4 (p m b cells a:D) (z:Bool):M D:=
 if z=true then bind (J6 a m) λv=>bind (G2 p (.str "left") v) λ_=>bind (N8 a m) λd=>ret d
 else X1 m b a
def v8 (p m b cells a:D):M D:=
 bind (ixD p (.str "at")) λx=>bind (j3 x (.int 1)) λv=>bind (G2 p (.str "at") v) λ_=>
 bind (kW (.int 10) (.int 18)) λy=>bind (a5 .GtE a y) λd=>bind (asB d) λc=>
 if c=true then bind (ixD p (.str "at")) λx=>bind (A6 cells) λy=>bind (a5 .LtE x y) λd=>bind (asB d) λz=>Z4 p m b cells a z
 else Z4 p m b cells a false
def eD (p m:D):M D:=
 bind (ixD p (.str "turn")) λx=>bind (j3 x (.int 1)) λa=>bind (G2 p (.str "turn") a) λ_=>
 bind (ixD p (.str "left")) λx=>bind (a5 .Gt x (.int 0)) λd=>bind (asB d) λz=>
 if z=true then bind (ixD p (.str "left")) λx=>bind (N8 x m) λb=>bind (ixD p (.str "left")) λx=>bind (J6 x m) λv=>bind (G2 p (.str "left") v) λ_=>ret b
 else bind (ixD p (.str "cells")) λcells=>bind (A6 cells) λx=>bind (a5 .Gt x (.int 0)) λd=>bind (asB d) λz=>
  if z=true then bind (ixD p (.str "at")) λx=>bind (A6 cells) λy=>bind (N8 x y) λi=>bind (ixD cells i) λc=>v8 p m a cells c
  else v8 p m a cells (.int 0)
theorem a3 {k:α->M β} {S S':Sto} {a:α} (e:m S=.ok a S'):bind m k S=k a S':=by unfold bind;rw [e]
theorem N2 {d:D} (h:S[p]?=some (.dct kvs)) (e:v3 kvs (.inr x)=some d):ixD (.ref p) (.str x) S=.ok d S:=by
 simp only [ixD,h,m8,Ct,e,Y2,ret]
theorem N4 {v:D} (h:S[p]?=some (.dct kvs)) (a:kvs.length<sizeLine) (e:fH kvs (.inr x) v=kvs'):G2 (.ref p) (.str x) v S=.ok .non (S.set p (.dct kvs')):=by
 simp only [G2,h,m8,if_pos a,e]
theorem je {S:Sto} {p:Nat} {o o':O} (h:S[p]?=some o):(S.set p o')[p]?=some o':=AT (Al.mp h).1
def d4 (ns:List Int) (a l t:Int):O:=.dct [(.inr "cells",.lst (ns.map D.int)),(.inr "at",.int a),(.inr "left",.int l),(.inr "turn",.int t)]
section
variable {S:Sto} {p:Nat} {ns:List Int} {a l t:Int} (h:S[p]?=some (d4 ns a l t))
include h
theorem mJ:ixD (.ref p) (.str "cells") S=.ok (.lst (ns.map D.int)) S:=N2 h rfl
theorem nt:ixD (.ref p) (.str "at") S=.ok (.int a) S:=N2 h rfl
theorem cD:ixD (.ref p) (.str "left") S=.ok (.int l) S:=N2 h rfl
theorem nj:ixD (.ref p) (.str "turn") S=.ok (.int t) S:=N2 h rfl
theorem rj (v:Int):G2 (.ref p) (.str "at") (.int v) S=.ok .non (S.set p (d4 ns v l t)):=N4 h (by show 4<sizeLine;decide) rfl
theorem dY (v:Int):G2 (.ref p) (.str "left") (.int v) S=.ok .non (S.set p (d4 ns a v t)):=N4 h (by show 4<sizeLine;decide) rfl
theorem lV (v:Int):G2 (.ref p) (.str "turn") (.int v) S=.ok .non (S.set p (d4 ns a l v)):=N4 h (by show 4<sizeLine;decide) rfl
end
theorem O1 (i j:Int) (S:Sto):j3 (.int i) (.int j) S=.ok (.int (i+j)) S:=rfl
theorem Q4 {i j:Int} (h:0<j) (S:Sto):N8 (.int i) (.int j) S=.ok (.int (i % j)) S:=by simp only [N8,if_pos h,ret]
theorem Z3 {i j:Int} (h:0<j) (b:j<1073741824) (S:Sto):J6 (.int i) (.int j) S=.ok (.int (i / j)) S:=by
 have a:iS i j:=⟨h,b⟩;simp only [J6,if_pos a,ret]
theorem W1 (h:CMul i j) (S:Sto):M0 (.int i) (.int j) S=.ok (.int (i * j)) S:=by simp only [M0,if_pos h,ret]
theorem R1 (ns:List Int) (S:Sto):A6 (.lst (ns.map D.int)) S=.ok (.int ns.length) S:=by
 show R.ok (D.int ((ns.map D.int).length:Nat)) S=_;grind
theorem mK {ns:List Int} {a:Int} (f:0<=a) (g:0<ns.length) (S:Sto):∃ z:Int,ixD (.lst (ns.map D.int)) (.int (a % (ns.length:Int))) S=.ok (.int z) S:=by
 have c:(0:Int)<(ns.length:Int):=by omega
 have e:=CH a (Dm c);have h:=BZ a c;obtain ⟨j,d⟩:=Dj e;have b:j<ns.length:=by omega
 refine ⟨ns[j],?_⟩;rw [d];show Y2 (atI (ns.map D.int) (j:Int)) S=_;rw [aA (by rw [AR,As b];rfl)];rfl
theorem cE (a:0<m) (d:0<=t) (b:t<2000000) (S:Sto):∃ r:Int,X1 (.int m) (.int t) (.int c) S=.ok (.int r) S/\0<=r/\r<m:=by
 unfold X1;rw [a3 (Q4 (by decide) S),a3 (W1 (.inl ⟨by decide,by decide⟩) S),a3 (W1 (.inr ⟨by omega,by omega⟩) S),a3 (O1 _ _ S),a3 (W1 (.inl ⟨by decide,by decide⟩) S),a3 (O1 _ _ S),a3 (O1 _ _ S),a3 (W1 (.inr ⟨by decide,by decide⟩) S),a3 (Q4 (by decide) S),
  a3 (Z3 (by decide) (by decide) S),a3 (W1 (.inr ⟨by decide,by decide⟩) S),a3 (W1 (.inl ⟨by decide,by decide⟩) S),a3 (O1 _ _ S),a3 (Q4 (by decide) S),a3 (Z3 (by decide) (by decide) S),a3 (Q4 a S)]
 exact ⟨_,rfl,CH _ (Dm a),BZ _ a⟩
theorem set_set {S:Sto} {p:Nat} {o o':O}:(S.set p o).set p o'=S.set p o':=List.set_set ..
theorem ay (h:S[p]?=some (d4 ns a l t)) (x:0<=a) (s:0<=l) (o:0<=t) (k:t<2000000) (b:0<m) (i:m<1073741824) :
  ∃ r g d,v8 (.ref p) (.int m) (.int t) (.lst (ns.map D.int)) (.int c) S=.ok (.int r) (S.set p (d4 ns g d t))/\0<=r/\r<m/\0<=g/\0<=d:=by
 unfold v8;rw [a3 (nt h),a3 (O1 _ _ S),a3 (rj h _)];have n:=je (o':=d4 ns (a+1) l t) h;have v:kW (.int 10) (.int 18) (S.set p (d4 ns (a+1) l t))=.ok (.int 1000000000000000000) (S.set p (d4 ns (a+1) l t)):=rfl;rw [a3 v];have w:a5 .GtE (.int c) (.int 1000000000000000000) (S.set p (d4 ns (a+1) l t))=.ok (.bl (decide (1000000000000000000<=c))) (S.set p (d4 ns (a+1) l t)):=rfl;rw [a3 w,a3 (show asB _ _=_ from rfl)];have f:∀ z:Bool,(z=true->1000000000000000000<=c)->∃ r g d,Z4 (.ref p) (.int m) (.int t) (.lst (ns.map D.int)) (.int c) z (S.set p (d4 ns (a+1) l t))=.ok (.int r) (S.set p (d4 ns g d t))/\0<=r/\r<m/\0<=g/\0<=d:=λz hz=>by
  unfold Z4;cases z with
  | true=>
   rw [if_pos rfl,a3 (Z3 b i _),a3 (dY n _),set_set,a3 (Q4 b _)];exact ⟨_,a+1,c / m,rfl,CH _ (Dm b),BZ _ b,by omega,Int.ediv_nonneg (Int.le_trans (by decide) (hz rfl)) (Int.le_of_lt b)⟩
  | false=>
   rw [if_neg Ak];obtain ⟨r,e,q,u⟩:=cE b o k (S.set p (d4 ns (a+1) l t));exact ⟨r,a+1,l,e,q,u,by omega,s⟩
 by_cases hz:(1000000000000000000:Int)<=c
 ·rw [Au hz,if_pos rfl,a3 (nt n),a3 (R1 ns _)];have j:a5 .LtE (.int (a+1)) (.int (ns.length:Int)) (S.set p (d4 ns (a+1) l t))=.ok (.bl (decide (a+1<=(ns.length:Int)))) (S.set p (d4 ns (a+1) l t)):=rfl;rw [a3 j,a3 (show asB _ _=_ from rfl)];exact f _ λ_=>hz
 ·rw [Ao hz,if_neg Ak];exact f _ λz=>by cases z
theorem fy (h:S[p]?=some (d4 ns a l t)) (j:0<=a) (s:0<=l) (w:0<=t) (v:t<1000000) (g:0<m) (i:m<1073741824) :
  ∃ r f b,eD (.ref p) (.int m) S=.ok (.int r) (S.set p (d4 ns f b (t+1)))/\0<=r/\r<m/\0<=f/\0<=b:=by
 unfold eD;rw [a3 (nj h),a3 (O1 _ _ S),a3 (lV h _)];have d:=je (o':=d4 ns a l (t+1)) h;have u:a5 .Gt (.int l) (.int 0) (S.set p (d4 ns a l (t+1)))=.ok (.bl (decide (0<l))) (S.set p (d4 ns a l (t+1))):=rfl;rw [a3 (cD d),a3 u,a3 (show asB _ _=_ from rfl)];by_cases hz:0<l
 ·rw [Au hz,if_pos rfl,a3 (cD d),a3 (Q4 g _),a3 (cD d),a3 (Z3 g i _),a3 (dY d _),set_set];exact ⟨_,a,l / m,rfl,CH _ (Dm g),BZ _ g,j,Int.ediv_nonneg s (Int.le_of_lt g)⟩
 ·rw [Ao hz,if_neg Ak,a3 (mJ d),a3 (R1 ns _)];have n:a5 .Gt (.int (ns.length:Int)) (.int 0) (S.set p (d4 ns a l (t+1)))=.ok (.bl (decide (0<(ns.length:Int)))) (S.set p (d4 ns a l (t+1))):=rfl;rw [a3 n,a3 (show asB _ _=_ from rfl)];have k:∀ c:Int,∃ r f b,v8 (.ref p) (.int m) (.int (t+1)) (.lst (ns.map D.int)) (.int c) (S.set p (d4 ns a l (t+1)))=.ok (.int r) (S.set p (d4 ns f b (t+1)))/\0<=r/\r<m/\0<=f/\0<=b:=λc=>by
   obtain ⟨r,f,b,e,q⟩:=ay d j s (by omega) (by omega) g i;rw [set_set] at e;exact ⟨r,f,b,e,q⟩
  by_cases o:0<(ns.length:Int)
  ·rw [Au o,if_pos rfl,a3 (nt d),a3 (R1 ns _),a3 (Q4 o _)];obtain ⟨z,e⟩:=mK (ns:=ns) j (by omega) (S.set p (d4 ns a l (t+1)));rw [a3 e];exact k z
  ·simp_all
theorem eM (x:Str) (S:Sto):a5 .Eq (.str x) (.str x) S=.ok (.bl true) S:=by
 show R.ok (D.bl (decide (x=x))) S=_;grind
theorem e9 (b:Bool) (S:Sto):asB (.bl b) S=.ok b S:=rfl
def dE (o:Option (Option Value)) (x:String):Bool:=match o with
 | some (some (.builtin y))=>decide (y=x)
 | _=>false
def isNo (o:Option (Option Value)):Bool:=match o with
 | some none=>true
 | _=>false
theorem dH (h:isNo o=true):o=some none:=by
 unfold isNo at h;grind
def isB (o:Option Bool) (b:Bool):Bool:=match o with
 | some c=>c==b
 | none=>false
theorem ci (h:isB o b=true):o=some b:=by
 unfold isB at h;grind
def xcB (K:PySem.W.Frag) (C:Addr):Bool:=
 dE (PySem.W.findIn K (.ref C) "__getattribute__") "BaseException.__getattribute__" && (isNo (PySem.W.findIn K (.ref C) "__getattr__")&&(isB (PySem.W.mroIn K C (.type "BaseException")) true&&(isB (PySem.W.mroIn K C (.type "object")) true &&
 (PySem.W.hasDictIn K C&&(dE (PySem.W.findIn K (.ref C) "__class__") "object.__class__" && (dE (PySem.W.specialIn K (.builtin "object.__class__") "__get__") "getset_descriptor.__get__" && (isB (PySem.W.takesIn K (.builtin "object.__class__")) true &&
 (bA K C&&((PySem.W.clsIn K C).any (λa=>N9 a.mro)&&(dE (PySem.W.findIn K (.ref C) "__setattr__") "object.__setattr__" && PySem.W.keepIn K (.ref C)))))))))))
def aI (cs:List Addr) (a:Addr) (c:Nat):Addr:=cs.getD c a
structure RowB (K:PySem.W.Frag) (Γ:Gm) (cs:List Addr) (junk:Addr):Prop where
 xc:cs.all (xcB K)=true
 jk:bA K junk=false
 sub:((List.range cs.length).all λc=>(List.range cs.length).all λc0=>isB (PySem.W.kitOne K (.ref (aI cs junk c)) (.ref (aI cs junk c0))) (Γ.sub c c0))=true
 sV:(cs.all λC=>isB (PySem.W.kitOne K (.ref C) (.type "ValueError")) true)=true
 sT:(cs.all λC=>tys.all λt=>isB (PySem.W.kitOne K (.ref C) (.type t)) false)=true
 fl:(Γ.flds.all λg=>cs.all λC=>isNo (PySem.W.findIn K (.ref C) g))=true
 bl:(bnames.all λx=>(Γ.gl.lookup x).isSome||isNo (PySem.W.nsIn K mainGlobals x))=true
theorem sy {K:PySem.W.Frag} {cs:List Addr} {a:Addr} (d:bA K a=false) {c:Nat} (h:XC K (aI cs a c)):c<cs.length/\aI cs a c∈cs:=by
 by_cases b:c<cs.length
 ·refine ⟨b,?_⟩;unfold aI;rw [CS,As b];exact AI b
 ·have e:aI cs a c=a:=by
   unfold aI;rw [CS,Ck (BL b)];rfl
  rw [e] at h;have:=h.ex;rw [d] at this;cases this
theorem RowB.st {Γ:Gm} {cs:List Addr} {j:Addr} {h:Heap} (B:RowB T.K Γ cs j) (X:T.K.In h) (G:h.Ns mainGlobals T.mg) (o:T.cl=aI cs j) (w:∀ x d,Γ.gl.lookup x=some (.val d)->∃ u v,T.mg x=some u/\RelV v u/\∀ μ H,RD T.K μ H d v)
  (r:∀ x c fs,Γ.gl.lookup x=some (.err c fs)->c<cs.length/\ErrAt T x c fs/\∀ g∈fs,g∈Γ.flds) (hd:∀ x k,Γ.gl.lookup x=some (.dct k)->im T x k):TxSt T Γ:=by
 have i:∀ c,XC T.K (T.cl c)->c<cs.length/\T.cl c∈cs:=λc f=>by rw [o] at f ⊢;exact sy B.jk f
 have p:=λg l c f=>by
  have:=(Ay.mp B.fl) g l;exact dH ((Ay.mp this) _ (i c f).2)
 refine ⟨λx s y=>?_,w,λx c fs e=>?_,λx c c0 fs e f=>?_,λc f=>?_,λc f t z=>?_,p,hd⟩
 ·have:=(Ay.mp B.bl) x s;rw [y] at this;exact PySem.W.mg_none_of X G (dH this)
 ·obtain ⟨n,m,q⟩:=r x c fs e;exact ⟨m,λg l=>p g (q g l) c m.xc⟩
 ·obtain ⟨n,m,q⟩:=r x c0 fs e;have a:=(Ay.mp B.sub) c (Bx.mpr (i c f).1);have b:=(Ay.mp a) c0 (Bx.mpr n);rw [o];exact ci b
 ·exact ci ((Ay.mp B.sV) _ (i c f).2)
 ·have a:=(Ay.mp B.sT) _ (i c f).2;exact ci ((Ay.mp a) t z)
def aH (K:PySem.W.Frag):Sp:=λvs H Q _=>∃ (a:Addr) (ns:List Int),vs=[.ref a]/\SqL K H a (ns.map V.int)/\∀ H',Q (.bl true) H'
theorem fE {K:PySem.W.Frag} {cl:Nat->Addr} {b:List D->M D} (d:∀ ns:List Int,∃ S',b [.scr (ns.map D.int)] []=.ok (.bl true) S'):∀ vs H Q E,aH K vs H Q E->spD K cl 1 b vs H Q E:=by
 rintro vs H Q E ⟨a,ns,rfl,c,q⟩;obtain ⟨S',e⟩:=d ns;refine ⟨rfl,⟨[],[]⟩,[],[.scr (ns.map D.int)],.cons (.scr ?_ (RDs.ints ns)) .nil,⟨rfl,by simp,λn o a e=>by simp at e,λa m=>by simp at m⟩,?_⟩
 ·rcases c with h | h
  ·exact .inl ⟨h,by simp,by simp⟩
  ·exact .inr h
 ·rw [e];intro μ' H' l r v f;cases f;exact q H'
theorem ln0 {α:Type} {p:List α->Prop} {us:List α} (hl:us.length=0) (h:p []):p us:=by
 rw [List.length_eq_zero_iff.mp hl];exact h
theorem ln1 {α:Type} {p:List α->Prop} {us:List α} (hl:us.length=1) (h:∀ a,p [a]):p us:=by
 obtain ⟨a,rfl⟩:=List.length_eq_one_iff.mp hl;exact h a
theorem lnS {α:Type} {p:List α->Prop} {us:List α} {n:Nat} (hl:us.length=n+1) (h:∀ a ws,ws.length=n->p (a :: ws)):p us:=by
 cases us with
 | nil=>cases hl
 | cons a ws=>exact h a ws (Nat.succ.inj hl)
theorem ln2 {α:Type} {p:List α->Prop} {us:List α} (hl:us.length=2) (h:∀ a b,p [a,b]):p us:=lnS hl λa _ e=>ln1 (p:=λw=>p (a :: w)) e (h a)
theorem ln3 {α:Type} {p:List α->Prop} {us:List α} (hl:us.length=3) (h:∀ a b c,p [a,b,c]):p us:=lnS hl λa _ e=>ln2 (p:=λw=>p (a :: w)) e (h a)
theorem vT {fd:FuncData} {ps:List Str} {us:List Value} (hl:us.length=0) (h:bindArgs fd ⟨[],[]⟩=pure (ps.zip [])):bindArgs fd ⟨us,[]⟩=pure (ps.zip us):=ln0 (p:=λus=>bindArgs fd ⟨us,[]⟩=pure (ps.zip us)) hl h
theorem L8 {fd:FuncData} {ps:List Str} {us:List Value} (hl:us.length=1) (h:∀ a,bindArgs fd ⟨[a],[]⟩=pure (ps.zip [a])):bindArgs fd ⟨us,[]⟩=pure (ps.zip us):=ln1 (p:=λus=>bindArgs fd ⟨us,[]⟩=pure (ps.zip us)) hl h
theorem X3 {fd:FuncData} {ps:List Str} {us:List Value} (hl:us.length=2) (h:∀ a b,bindArgs fd ⟨[a,b],[]⟩=pure (ps.zip [a,b])):bindArgs fd ⟨us,[]⟩=pure (ps.zip us):=ln2 (p:=λus=>bindArgs fd ⟨us,[]⟩=pure (ps.zip us)) hl h
theorem vB {fd:FuncData} {ps:List Str} {us:List Value} (hl:us.length=3) (h:∀ a b c,bindArgs fd ⟨[a,b,c],[]⟩=pure (ps.zip [a,b,c])):bindArgs fd ⟨us,[]⟩=pure (ps.zip us):=ln3 (p:=λus=>bindArgs fd ⟨us,[]⟩=pure (ps.zip us)) hl h
structure GF (K:PySem.W.Frag) (x:Str) (st:Stmt) (g:Addr):Prop where
 a:PySem.W.nsIn K mainGlobals x=some (some (.ref g))
 f:∃ fd,Fun K x x st g fd
theorem gf_mk {K:PySem.W.Frag} {x:Str} {st:Stmt} {g:Addr} {oc:Value} {od an:Option Addr} {osl:Array (Option Value)} {kV doc pm cdv ct:Value} (a:PySem.W.nsIn K mainGlobals x=some (some (.ref g))) (l:K.lookup g=some ⟨oc,od,.func (PySem.W.fnOf x x (l8 st) (i6 st) (b3 st) .none kV doc pm an cdv ct),osl⟩) (c:PySem.W.codeIn K cdv x=true) (k:PySem.W.keepIn K (.ref g)=true):GF K x st g:=⟨a,_,ja l c k⟩
theorem fe {T:Tx} {h:Heap} (X:T.K.In h) (G:h.Ns mainGlobals T.mg) {x:Str} {st:Stmt} {g:Addr} {m:List Str} {Tb:List Fd} {i n:Nat} (d:GF T.K x st g) (sc:Z9 (j2 st m)=true) (hb:∀ (kV doc pm:Value) (an:Option Addr) (cdv ct:Value) (us:List Value),us.length=(j2 st m).ps.length->bindArgs (PySem.W.fnOf x x (l8 st) (i6 st) (b3 st) .none kV doc pm an cdv ct) ⟨us,[]⟩=pure ((j2 st m).ps.zip us)) (hT:Tb[i]?=some (j2 st m)) (hn:(j2 st m).ps.length=n):∃ fd,Tb[i]?=some fd/\fd.ps.length=n/\FnTx T x fd:=by
 obtain ⟨fd,F⟩:=d.f;exact ⟨_,hT,hn,⟨g,_,_,st,F,rfl,rfl,P8 sc,F.binds hb,BB X G d.a⟩⟩
def nG (T:Tx) (Tb:List Fd):List (Str×G)->Prop
 | []=>True
 | (x,.fn i n) :: l=>(∃ fd,Tb[i]?=some fd/\fd.ps.length=n/\FnTx T x fd)/\nG T Tb l
 | _ :: l=>nG T Tb l
theorem sH {T:Tx} {Γ:Gm} {Tb:List Fd} (h:nG T Tb Γ.gl):hX T Γ Tb:=λx i n e=>by
 have m:=L2.mem_of_lookup e;generalize Γ.gl=l at h m;induction l with
 | nil=>cases m
 | cons y l ih=>
  obtain ⟨z,g⟩:=y;rcases Ar.mp m with q | q
  ·cases q;exact h.1
  ·refine ih ?_ q;cases g with
   | fn j k=>exact h.2
   | _=>exact h
theorem D5 {n:Nat} (I:Nat->Sto->List D->Prop) (a:∀ S es,I n S es->src n S=some none)
  (c:∀ i S es,i<n->I i S es->∃ d b S1,src i S=some (some d)/\t d S=.ok b S1/\(if b=true then ∃ y S2,f d S1=.ok y S2/\es.length<sizeLine/\I (i+1) S2 (es++[y]) else I (i+1) S1 es)) :
  ∀ (k i:Nat) (S:Sto) (es:List D),k+i=n->I i S es->∃ es' S',i0 src t f (k+1) i es S=.ok es' S'/\I n S' es'
 | 0,i,S,es,j,h=>by
  have:i=n:=by omega
  subst this;refine ⟨es,S,?_,h⟩;simp only [i0,a S es h]
 | k+1,i,S,es,j,h=>by
  obtain ⟨d,b,S1,l,m,e⟩:=c i S es (by omega) h;have g:i0 src t f (k+1+1) i es S=bind (t d) (λb=>if b=true then bind (f d) (λy=>if es.length<sizeLine then i0 src t f (k+1) (i+1) (es++[y]) else bad) else i0 src t f (k+1) (i+1) es) S:=by
   conv=>lhs;unfold i0
   simp only [l]
  rw [g,a3 m];cases b with
  | true=>
   rw [if_pos rfl] at e ⊢;obtain ⟨y,S2,p,o,q⟩:=e;rw [a3 p,if_pos o];exact D5 I a c k (i+1) S2 _ (by omega) q
  | false=>
   rw [if_neg Ak] at e ⊢;exact D5 I a c k (i+1) S1 _ (by omega) e
theorem gK {S:Sto} (l:ds.length<sizeLine) (h:∀ d∈ds,f d S=.ok (g d) S):i0 (n4 ds) (λ_=>ret true) f (ds.length+1) 0 [] S=.ok (ds.map g) S:=by
 obtain ⟨es,S',e,k,j⟩:=D5 (src:=n4 ds) (t:=λ_=>ret true) (λi S' es=>S'=S/\es=(ds.take i).map g) (λS es _=>by show some ds[ds.length]?=some none;rw [Ck (Aj _)])
  (λi S' es a ⟨b,c⟩=>by
   subst b c;refine ⟨ds[i],true,S',?_,rfl,?_⟩
   ·show some ds[i]?=some (some ds[i]);rw [As a]
   ·rw [if_pos rfl];refine ⟨g ds[i],S',h _ (AI a),?_,rfl,?_⟩
    ·grind
    ·rw [Ci a,BA];rfl) ds.length 0 S [] (by omega) ⟨rfl,rfl⟩
 grind
def Ok {b:Type} (m:M b) (S:Sto) (Q:b->Sto->Prop):Prop:=∃ a S',m S=.ok a S'/\Q a S'
section
variable {α β:Type} {S S1:Sto} {m m':M α} {k:α->M β} {a:α} {Q Q':α->Sto->Prop} {P:β->Sto->Prop}
theorem Ok.ret (h:Q a S):Ok (ret a) S Q:=⟨a,S,rfl,h⟩
theorem Ok.of (e:m S=.ok a S1) (h:Q a S1):Ok m S Q:=⟨a,S1,e,h⟩
theorem Ok.bind (h:Ok m S λa S1=>Ok (k a) S1 P):Ok (L3.bind m k) S P:=by
 obtain ⟨a,S1,e,b,S2,c,q⟩:=h;exact ⟨b,S2,by rw [a3 e];exact c,q⟩
theorem Ok.eq (e:m S=.ok a S1) (h:Ok (k a) S1 P):Ok (L3.bind m k) S P:=Ok.bind ⟨a,S1,e,h⟩
theorem Ok.mono (h:Ok m S Q) (i:∀ a S1,Q a S1->Q' a S1):Ok m S Q':=by
 obtain ⟨a,S1,e,q⟩:=h;exact ⟨a,S1,e,i _ _ q⟩
theorem Ok.cg (e:m=m') (h:Ok m' S Q):Ok m S Q:=e▸h
theorem Ok.cgS (e:m S=m' S) (h:Ok m' S Q):Ok m S Q:=by
 obtain ⟨a,S1,b,q⟩:=h;exact ⟨a,S1,by rw [e];exact b,q⟩
theorem Ok.ite {c:Prop} [Decidable c] {a m2:M α} (b:c->Ok a S Q) (d:¬ c->Ok m2 S Q):Ok (if c then a else m2) S Q:=by grind
end
theorem Ok.comp {n:Nat} (I:Nat->Sto->List D->Prop) (c:∀ S es,I n S es->src n S=some none)
  (a:∀ i S es,i<n->I i S es->∃ d,src i S=some (some d)/\Ok (t d) S λb S1=>if b=true then Ok (f d) S1 λy S2=>es.length<sizeLine/\I (i+1) S2 (es++[y]) else I (i+1) S1 es) {S:Sto} (h:I 0 S []) :
  Ok (i0 src t f (n+1) 0 []) S λes S'=>I n S' es:=by
 obtain ⟨es,S',e,q⟩:=D5 I c (λi S es o h=>by
  obtain ⟨d,l,b,S1,m,q⟩:=a i S es o h;refine ⟨d,b,S1,l,m,?_⟩;cases b with
  | true=>
   rw [if_pos rfl] at q ⊢;obtain ⟨y,S2,g,j,k⟩:=q;exact ⟨y,S2,g,j,k⟩
  | false=>
   rw [if_neg Ak] at q ⊢;exact q) n 0 S [] (by omega) h
 exact ⟨es,S',e,q⟩
def FlI (I:L3.Env->Sto->Prop) (J:L3.Env->Sto->Prop) (R:D->Sto->Prop) (a:Fl) (S:Sto):Prop:=match a with
 | .nx ρ=>I ρ S
 | .ct ρ=>I ρ S
 | .bk ρ=>J ρ S
 | .rt d=>R d S
theorem Ok.for_ {n:Nat} (I:Nat->L3.Env->Sto->Prop) (J:L3.Env->Sto->Prop) (R:D->Sto->Prop) (hend:∀ ρ S,I n ρ S->src n S=some none)
  (step:∀ i ρ S,i<n->I i ρ S->∃ d ρ1,src i S=some (some d)/\tg d ρ=some ρ1/\Ok (body ρ1) S (FlI (I (i+1)) J R)) :
  ∀ (k i:Nat) (ρ:L3.Env) (S:Sto),k+i=n->I i ρ S->Ok (k8 src tg body (k+1) i ρ) S λfl S'=>match fl with
   | .nx ρ'=>I n ρ' S'\/J ρ' S'
   | .rt d=>R d S'
   | _=>False
 | 0,i,ρ,S,hk,h=>by
  have:i=n:=by omega
  subst this;exact ⟨.nx ρ,S,by simp only [k8,hend ρ S h],.inl h⟩
 | k+1,i,ρ,S,hk,h=>by
  obtain ⟨d,ρ1,e1,e2,h2⟩:=step i ρ S (by omega) h;have un:k8 src tg body (k+1+1) i ρ S=L3.bind (body ρ1) (λfl=>match fl with
    | .nx ρ2=>k8 src tg body (k+1) (i+1) ρ2
    | .ct ρ2=>k8 src tg body (k+1) (i+1) ρ2
    | .bk ρ2=>L3.ret (.nx ρ2)
    | .rt d=>L3.ret (.rt d)) S:=by
   conv=>lhs;unfold k8
   simp only [e1,e2]
   all_goals rfl
  refine Ok.cgS un (Ok.bind (h2.mono λfl S1 q=>?_));cases fl with
  | nx ρ2=>exact Ok.for_ I J R hend step k (i+1) ρ2 S1 (by omega) q
  | ct ρ2=>exact Ok.for_ I J R hend step k (i+1) ρ2 S1 (by omega) q
  | bk ρ2=>exact Ok.ret (.inr q)
  | rt d=>exact Ok.ret q
theorem Ok.while_ (I:Nat->L3.Env->Sto->Prop) (J:L3.Env->Sto->Prop) (R:D->Sto->Prop)
  (step:∀ k ρ S,I k ρ S->Ok (t ρ) S λb S1=>if b=true then Ok (body ρ) S1 (FlI (λρ2 S2=>∃ j,j<k/\I j ρ2 S2) J R) else J ρ S1) :
  ∀ (m k:Nat) (ρ:L3.Env) (S:Sto),k<m->I k ρ S->Ok (u3 t body m ρ) S λfl S'=>match fl with
   | .nx ρ'=>J ρ' S'
   | .rt d=>R d S'
   | _=>False
 | 0,k,ρ,S,hk,h=>by omega
 | m+1,k,ρ,S,hk,h=>by
  refine Ok.bind ((step k ρ S h).mono λb S1 q=>?_);cases b with
  | false=>
   rw [if_neg Ak] at q ⊢;exact Ok.ret q
  | true=>
   rw [if_pos rfl] at q ⊢;refine Ok.bind (q.mono λfl S2 q2=>?_);cases fl with
   | nx ρ2=>obtain ⟨j,hj,q3⟩:=q2;exact Ok.while_ I J R step m j ρ2 S2 (by omega) q3
   | ct ρ2=>obtain ⟨j,hj,q3⟩:=q2;exact Ok.while_ I J R step m j ρ2 S2 (by omega) q3
   | bk ρ2=>exact Ok.ret q2
   | rt d=>exact Ok.ret q2
theorem E2 {c:Type} {l:List c} {h g:c->D} {p:c->Bool} {t:D->M Bool} {f:D->M D} {S:Sto} (s:l.length<sizeLine) (m:∀ a∈l,t (h a) S=.ok (p a) S) (k:∀ a∈l,p a=true->f (h a) S=.ok (g a) S):i0 (n4 (l.map h)) t f (l.length+1) 0 [] S=.ok ((l.filter p).map g) S:=by
 obtain ⟨es,S',e,q,r⟩:=Ok.comp (src:=n4 (l.map h)) (λi S' es=>S'=S/\es=((l.take i).filter p).map g) (λS es _=>by show some (l.map h)[l.length]?=some none;rw [Ck (by simp)])
  (λi S' es b ⟨j,o⟩=>by
   subst j o;refine ⟨h l[i],?_,p l[i],S',m _ (AI b),?_⟩
   ·show some (l.map h)[i]?=some (some (h l[i]));rw [AR,As b];rfl
   ·have n:=Ci b;cases d:p l[i] with
    | true=>
     dsimp only;rw [if_pos rfl];refine ⟨g l[i],S',k _ (AI b) d,?_,rfl,?_⟩
     ·grind
     ·grind
    | false=>
     dsimp only;rw [if_neg Ak];refine ⟨rfl,?_⟩;rw [n,List.filter_append,List.filter_cons_of_neg (by rw [d];exact Ak),List.filter_nil,Bf]) ⟨rfl,rfl⟩
 grind
def Asc (x:Str):Prop:=∀ c∈x.cps.toList,c<128
def t8 (j:Nat):Nat:=1000000000000000000000000000000000000000+j
mutual
def Pln (j:Nat):D->Prop
 | .non=>True
 | .bl _=>True
 | .int i=>i.natAbs<=t8 j
 | .str x=>x.length<=45+j/\Asc x
 | .tup ds=>Plns j ds
 | .lst ds=>Plns j ds
 | .scr _=>False
 | .ref _=>False
def Plns (j:Nat):List D->Prop
 | []=>True
 | d :: ds=>Pln j d/\Plns j ds
end
mutual
noncomputable def py:D->PyData
 | .non=>.none
 | .bl b=>.bool b
 | .int i=>.int i
 | .str x=>.str x
 | .tup ds=>.tuple (pys ds)
 | .lst ds=>.list (pys ds)
 | .scr _=>.none
 | .ref _=>.none
noncomputable def pys:List D->List PyData
 | []=>[]
 | d :: ds=>py d :: pys ds
end
mutual
noncomputable def dp:D->Nat
 | .tup ds=>dps ds+1
 | .lst ds=>dps ds+1
 | _=>0
noncomputable def dps:List D->Nat
 | []=>0
 | d :: ds=>max (dp d) (dps ds)
end
mutual
noncomputable def sz:D->Nat
 | .int _=>60
 | .str x=>10 * x.length+2
 | .tup ds=>szs ds+3
 | .lst ds=>szs ds+3
 | _=>5
noncomputable def szs:List D->Nat
 | []=>0
 | d :: ds=>sz d+2+szs ds
end
theorem Plns.mem:∀ {ds:List D},Plns j ds->∀ d∈ds,Pln j d
 | _ :: _,h,d,hd=>by
  rcases Ar.mp hd with rfl | hd
  ·exact h.1
  ·exact Plns.mem h.2 d hd
theorem Plns.of:∀ {ds:List D},(∀ d∈ds,Pln j d)->Plns j ds
 | [],_=>trivial
 | d :: ds,h=>⟨h d (Ap ..),Plns.of λe a=>h e (Av _ a)⟩
mutual
theorem Pln.up:∀ (d:D),Pln j d->Pln (j+1) d
 | .non,_=>trivial
 | .bl _,_=>trivial
 | .int i,h=>by have h:i.natAbs<=t8 j:=h;show i.natAbs<=t8 (j+1);unfold t8 at *;omega
 | .str x,h=>⟨by have:=h.1;omega,h.2⟩
 | .tup ds,h=>Plns.up ds h
 | .lst ds,h=>Plns.up ds h
 | .scr _,h=>h.elim
 | .ref _,h=>h.elim
theorem Plns.up:∀ (ds:List D),Plns j ds->Plns (j+1) ds
 | [],_=>trivial
 | d :: ds,h=>⟨Pln.up d h.1,Plns.up ds h.2⟩
end
theorem y7:∀ {ds:List D} {d:D},d∈ds->dp d<=dps ds
 | e :: ds,d,h=>by
  rcases Ar.mp h with rfl | h
  ·show dp d<=max (dp d) (dps ds);omega
  ·have:=y7 h;show dp d<=max (dp e) (dps ds);omega
theorem P0:∀ {ds:List D},(∀ d∈ds,dp d<=n)->dps ds<=n
 | [],_=>AO _
 | d :: ds,h=>by
  have:=h d (Ap ..);have:=P0 λe a=>h e (Av _ a);show max (dp d) (dps ds)<=n;omega
theorem u0:∀ (xs ys:List D),szs (xs++ys)=szs xs+szs ys
 | [],_=>by simp [szs]
 | d :: xs,ys=>by
  show sz d+2+szs (xs++ys)=sz d+2+szs xs+szs ys;rw [u0 xs ys];omega
theorem dW:∀ (xs:List D),szs xs.reverse=szs xs
 | []=>rfl
 | d :: xs=>by
  rw [BH,u0,dW xs];show szs xs+(sz d+2+0)=sz d+2+szs xs;omega
theorem M8:∀ (xs:List D),2 * xs.length<=szs xs
 | []=>Aj _
 | d :: xs=>by
  have:=M8 xs;show 2 * (xs.length+1)<=sz d+2+szs xs;omega
theorem dt (h:xs.Sublist ys):szs xs<=szs ys:=by
 induction h with
 | slnil=>exact Aj _
 | cons d _ ih=>show szs _<=sz d+2+szs _;omega
 | cons_cons d _ ih=>show sz d+2+szs _<=sz d+2+szs _;omega
theorem gO (h:xs[i]?=some d):szs xs=szs (xs.take i)+(sz d+2)+szs (xs.drop (i+1)):=by
 have a:=(Al.mp h).1;have e:xs=xs.take i++(d :: xs.drop (i+1)):=by
  have:=Al.mp h
  conv=>lhs;rw [<- List.take_append_drop i xs,CV a]
  rw [this.2]
 conv=>lhs;rw [e,u0]
 show szs _+(sz d+2+szs _)=_;omega
mutual
theorem E9 (S:Sto):∀ (d:D) (n:Nat),Pln j d->dp d<n->d5 n S d=some (py d)
 | .non,n+1,_,_=>rfl
 | .bl _,n+1,_,_=>rfl
 | .int _,n+1,_,_=>rfl
 | .str _,n+1,_,_=>rfl
 | .tup ds,n+1,h,a=>by
  show (d9 (d5 n S) ds).map PyData.tuple=_;rw [Q2 S ds n h (by have:dps ds+1<n+1:=a;omega)];rfl
 | .lst ds,n+1,h,a=>by
  show (d9 (d5 n S) ds).map PyData.list=_;rw [Q2 S ds n h (by have:dps ds+1<n+1:=a;omega)];rfl
 | .scr _,_,h,_=>h.elim
 | .ref _,_,h,_=>h.elim
 | .non,0,_,h=>by omega
 | .bl _,0,_,h=>by omega
 | .int _,0,_,h=>by omega
 | .str _,0,_,h=>by omega
 | .tup _,0,_,h=>by omega
 | .lst _,0,_,h=>by omega
theorem Q2 (S:Sto):∀ (ds:List D) (n:Nat),Plns j ds->dps ds<n->d9 (d5 n S) ds=some (pys ds)
 | [],n,_,_=>rfl
 | d :: ds,n,h,hn=>by
  have hn:max (dp d) (dps ds)<n:=hn;simp only [d9,E9 S d n h.1 (by omega),Q2 S ds n h.2 (by omega)];rfl
end
theorem fz (h:Asc x):PyData.strOk x=true:=by
 unfold PyData.strOk;rw [Array.all_eq_true'];intro c a;have:=h c (by simpa using a);grind
mutual
theorem aT:∀ d:D,Pln j d->(py d).canLay0=true
 | .non,_=>rfl
 | .bl _,_=>rfl
 | .int _,_=>rfl
 | .str x,h=>by show PyData.canLay0 (.str x)=true;simp only [PyData.canLay0];exact fz h.2
 | .tup ds,h=>by show PyData.canLay0 (.tuple (pys ds))=true;simp only [PyData.canLay0];exact aQ ds h
 | .lst ds,h=>by show PyData.canLay0 (.list (pys ds))=true;simp only [PyData.canLay0];exact aQ ds h
 | .scr _,h=>h.elim
 | .ref _,h=>h.elim
theorem aQ:∀ ds:List D,Plns j ds->PyData.canLayAll0 (pys ds)=true
 | [],_=>rfl
 | d :: ds,h=>by show PyData.canLayAll0 (py d :: pys ds)=true;simp only [PyData.canLayAll0,aT d h.1,aQ ds h.2,Cv]
end
mutual
theorem E5:∀ d:D,(py d).depth<=dp d
 | .non=>by show PyData.depth .none<=_;simp [PyData.depth]
 | .bl b=>by show PyData.depth (.bool b)<=_;simp [PyData.depth]
 | .int i=>by show PyData.depth (.int i)<=_;simp [PyData.depth]
 | .str x=>by show PyData.depth (.str x)<=_;simp [PyData.depth]
 | .tup ds=>by show PyData.depth (.tuple (pys ds))<=dps ds+1;simp only [PyData.depth];have:=G7 ds;omega
 | .lst ds=>by show PyData.depth (.list (pys ds))<=dps ds+1;simp only [PyData.depth];have:=G7 ds;omega
 | .scr _=>by show PyData.depth .none<=_;simp [PyData.depth]
 | .ref _=>by show PyData.depth .none<=_;simp [PyData.depth]
theorem G7:∀ ds:List D,PyData.depthAll (pys ds)<=dps ds
 | []=>by show PyData.depthAll []<=0;simp [PyData.depthAll]
 | d :: ds=>by
  have:=E5 d;have:=G7 ds;show PyData.depthAll (py d :: pys ds)<=max (dp d) (dps ds);simp only [PyData.depthAll];omega
end
theorem dZ {i:Int} (h:i.natAbs<=t8 j) (hj:j<=1000):decide (i.natAbs.log2<1920)=true:=by
 refine Au ?_;by_cases z:i.natAbs=0
 ·rw [z];decide
 ·have:i.natAbs<2 ^ 140:=by unfold t8 at h;omega
  have:=(Nat.log2_lt z).mpr this;omega
mutual
theorem dX (f:j<=1000):∀ d:D,Pln j d->(py d).showable=true/\(py d).hasDict=false/\(py d).shown.length<=sz d
 | .non,_=>⟨rfl,rfl,by show (PyData.shown .none).length<=5;decide⟩
 | .bl b,_=>⟨rfl,rfl,by show (PyData.shown (.bool b)).length<=5;cases b <;> decide⟩
 | .int i,h=>⟨dZ h f,rfl,by
   have h:i.natAbs<=t8 j:=h;have e:=int_text_length_le10 (k:=40) (a:=i) (by decide) (by unfold t8 at h;omega);show (Str.ofString (toString i)).length<=60;rw [PySem.ofString_length];omega⟩
 | .str x,h=>⟨rfl,rfl,by
   show (PyData.shown (.str x)).length<=10 * x.length+2;rw [PyData.shown_str];exact StrLaws.reprText_len x λc m=>by have:=h.2 c m;omega⟩
 | .tup ds,h=>by
  obtain ⟨a,b,c⟩:=O4 f ds h;refine ⟨by show PyData.showable (.tuple (pys ds))=true;simp only [PyData.showable];exact a,by show PyData.hasDict (.tuple (pys ds))=false;simp only [PyData.hasDict];exact b,?_⟩;have g:=tupleText_len_le (PyData.shownAll (pys ds));have l:=PyData.shownAll_length (pys ds);show (PyData.shown (.tuple (pys ds))).length<=szs ds+3;simp only [PyData.shown];omega
 | .lst ds,h=>by
  obtain ⟨a,b,c⟩:=O4 f ds h;refine ⟨by show PyData.showable (.list (pys ds))=true;simp only [PyData.showable];exact a,by show PyData.hasDict (.list (pys ds))=false;simp only [PyData.hasDict];exact b,?_⟩;have g:=listText_len_le (PyData.shownAll (pys ds));have l:=PyData.shownAll_length (pys ds);show (PyData.shown (.list (pys ds))).length<=szs ds+3;simp only [PyData.shown];omega
 | .scr _,h=>h.elim
 | .ref _,h=>h.elim
theorem O4 (hj:j<=1000):∀ ds:List D,Plns j ds->PyData.showableAll (pys ds)=true/\PyData.hasDictAll (pys ds)=false/\((PyData.shownAll (pys ds)).map (·.length)).sum+2 * (pys ds).length<=szs ds
 | [],_=>⟨rfl,rfl,by show ((PyData.shownAll []).map (·.length)).sum+2 * 0<=0;simp [PyData.shownAll]⟩
 | d :: ds,h=>by
  obtain ⟨a,b,c⟩:=dX hj d h.1;obtain ⟨a2,b2,c2⟩:=O4 hj ds h.2;refine ⟨by show PyData.showableAll (py d :: pys ds)=true;simp only [PyData.showableAll,a,a2,Cv],by show PyData.hasDictAll (py d :: pys ds)=false;simp only [PyData.hasDictAll,b,b2,Bool.or_self],?_⟩;show ((PyData.shownAll (py d :: pys ds)).map (·.length)).sum+2 * (py d :: pys ds).length<=sz d+2+szs ds;simp only [PyData.shownAll,AG,List.sum_cons,Ba];omega
end
structure Any (j N:Nat) (d:D):Prop where
 pl:Pln j d
 dp:dp d<=3+j
 sz:sz d<=N
theorem R8 (h:Any j N d) (i:j<=40) (g:N<=10000000) (S:Sto):B1 d S=.ok (.str (py d).shown) S:=by
 obtain ⟨a,b,c⟩:=dX (by omega) d h.pl;have e:=E9 S d 64 h.pl (by have:=h.dp;omega);have f:B1 d S=(match d5 64 S d with
  | some p=>(if Shows p then ret (D.str p.shown) else bad) S
  | none=>.bad):=rfl
 rw [f,e];show (if Shows (py d) then ret (D.str (py d).shown) else bad) S=_;rw [if_pos ⟨a,b,by have:=E5 d;have:=h.dp;omega,by have:=h.sz;rw [AK];omega⟩];rfl
theorem cY (h:Any j N (.tup ds)) (hj:j<=40) (S:Sto):a5 .NotEq (.tup ds) (.tup []) S=.ok (.bl (!ds.isEmpty)) S:=by
 show eqP true (.tup ds) (.tup []) S=_;unfold eqP;rw [E9 S (.tup ds) 64 h.pl (by have:=h.dp;omega)];show (if PyData.canLay0 (py (.tup ds))=true/\PyData.canLay0 (.tuple [])=true/\min (PyData.depth (py (.tup ds))) (PyData.depth (.tuple []))<=60 then ret (D.bl (!PyData.eqv (py (.tup ds)) (.tuple []))) else bad) S=_;have hd:PyData.depth (.tuple [])<=60:=by simp [PyData.depth,PyData.depthAll]
 rw [if_pos ⟨aT _ h.pl,rfl,by omega⟩];cases ds <;> rfl
def inW (ws:List Str):D->Bool
 | .str x=>decide (x∈ws)
 | _=>false
theorem ju (ws:List Str) (x:Str):((ws.map PyData.str).any λy=>PyData.eqv y (.str x))=decide (x∈ws):=by
 induction ws with
 | nil=>rfl
 | cons w ws a=>
  rw [AG,Bu,a];rw [Bz,CD,Aq,Aq,Ar];have:PyData.eqv (.str w) (.str x)=(w==x):=by simp only [PyData.eqv]
  rw [this];constructor
  ·grind
  ·grind
theorem jn (a:∀ x,p≠.str x) (ws:List Str):((ws.map PyData.str).any λy=>PyData.eqv y p)=false:=by
 induction ws with
 | nil=>rfl
 | cons w ws b=>
  rw [AG,Bu,b,Bool.or_false];cases p <;> first | (simp only [PyData.eqv];done) | exact absurd rfl (a _)
theorem nA (h:Pln j d) (ws:List Str):((ws.map PyData.str).any λy=>PyData.eqv y (py d))=inW ws d:=by
 cases d with
 | str x=>exact ju ws x
 | scr _=>exact h.elim
 | ref _=>exact h.elim
 | _=>exact jn (λx e=>by cases e) ws
theorem J3 (n:Nat) (S:Sto):∀ ws:List Str,d9 (d5 (n+1) S) (ws.map D.str)=some (ws.map PyData.str)
 | []=>rfl
 | w :: ws=>by
  have e:d5 (n+1) S (.str w)=some (.str w):=rfl;simp only [AG,d9,e,J3 n S ws]
theorem T6:∀ ws:List Str,(∀ w∈ws,Asc w)->PyData.canLayAll0 (ws.map PyData.str)=true
 | [],_=>rfl
 | w :: ws,h=>by simp only [AG,PyData.canLayAll0,PyData.canLay0,fz (h w (Ap ..)),T6 ws λv a=>h v (Av _ a),Cv]
theorem Y1 (h:Any j N d) (b:j<=40) {ws:List Str} (a:∀ w∈ws,Asc w) (S:Sto):a5 .In d (.tup (ws.map D.str)) S=.ok (.bl (inW ws d)) S:=by
 show inD false d (.tup (ws.map D.str)) S=_;unfold inD;have e:d5 64 S (.tup (ws.map D.str))=some (.tuple (ws.map PyData.str)):=by
  show (d9 (d5 63 S) (ws.map D.str)).map PyData.tuple=_;rw [J3 62 S ws];rfl
 rw [E9 S d 64 h.pl (by have:=h.dp;omega),e];show U1 false (py d) (ws.map PyData.str) S=_;unfold U1;have hd:=E5 d;rw [if_pos ⟨aT d h.pl,T6 ws a,by have:=h.dp;omega⟩,nA h.pl];rfl
theorem lf (b:Asc x) (d:Asc y):Asc (x++y):=λc a=>by
 have:(x++y).cps.toList=x.cps.toList++y.cps.toList:=by show (x.cps++y.cps).toList=_;simp
 rw [this] at a;rcases Ax.mp a with h | h
 ·exact b c h
 ·exact d c h
theorem oN:((List.range 128).all λc=>(Unicode.upperOf c).length==1&&(Unicode.upperOf c).all (· < 128))=true:=by decide +kernel
theorem X4 (h:Asc x):Asc (Txt.upper x)/\(Txt.upper x).length=x.length:=by
 have f:∀ c,c<128->Unicode.upperOf c=[(Unicode.upperOf c).headD 0]/\(Unicode.upperOf c).headD 0<128:=λc d=>by
  have:=Ay.mp oN c (Bx.mpr d);rw [Ag] at this;obtain ⟨a,b⟩:=this;have a:=eq_of_beq a
  match q:Unicode.upperOf c,a with
  | [z],_=>
   rw [q] at b;simp at b;exact ⟨rfl,b⟩
 have e:=placed_single x _ _ λi c d=>(f c (h c (AF d))).1;have g:(Txt.upper x).cps=x.cps.map λc=>(Unicode.upperOf c).headD 0:=e;constructor
 ·intro c d;rw [g] at d;simp at d;obtain ⟨b,j,rfl⟩:=d;exact (by have:=(f b (h b (by simpa using j))).2;simpa using this)
 ·show (Txt.upper x).cps.size=x.cps.size;rw [g];simp
theorem kf (i:Int):Asc (Str.ofString (toString i)):=by
 intro c hc;rw [signs_ofString] at hc;obtain ⟨z,hz,rfl⟩:=Dn.mp hc;have dig:∀ n:Nat,∀ z∈(toString n).toList,z.toNat<128:=λn z hz=>by
  have:z∈Nat.toDigits 10 n:=by
   have e:(toString n).toList=Nat.toDigits 10 n:=by show (Nat.repr n).toList=_;simp [Nat.repr]
   rw [e] at hz;exact hz
  have:=Nat.isDigit_of_mem_toDigits (by decide) (by decide) this;unfold Char.isDigit at this;simp at this;have h2:=this.2;show z.val.toNat<128;have:z.val.toNat<=57:=h2;omega
 cases i with
 | ofNat n=>exact dig n z hz
 | negSucc n=>
  have e:(toString (Int.negSucc n)).toList='-' :: (toString (n+1)).toList:=by
   show ("-" ++ toString (n+1)).toList=_;simp
  rw [e] at hz;rcases Ar.mp hz with rfl | hz
  ·decide
  ·exact dig _ z hz
theorem Z1:∀ a:List Bool,y0 (a.map D.bl)=some a
 | []=>rfl
 | b :: a=>by simp only [AG,y0,Z1 a,Option.map_some]
theorem ng (a:List Bool) (S:Sto):lX (.lst (a.map D.bl)) S=.ok (.bl (a.any id)) S:=by
 show bind (lstOf (.lst (a.map D.bl))) _ S=_;rw [a3 (show lstOf (.lst (a.map D.bl)) S=.ok (a.map D.bl) S from rfl),Z1];rfl
theorem ni (a:List Bool) (S:Sto):ku (.lst (a.map D.bl)) S=.ok (.bl (a.all id)) S:=by
 show bind (lstOf (.lst (a.map D.bl))) _ S=_;rw [a3 (show lstOf (.lst (a.map D.bl)) S=.ok (a.map D.bl) S from rfl),Z1];rfl
theorem Any.at (h:Any j N (.tup ds)) (hd:d∈ds):Any j N d:=by
 obtain ⟨i,a,e⟩:=List.getElem_of_mem hd;have g:dps ds+1<=3+j:=h.dp;have b:szs ds+3<=N:=h.sz;have c:=y7 hd;have f:=gO (by rw [As a,e]);exact ⟨Plns.mem h.pl d hd,by omega,by omega⟩
theorem Any.len (h:Any j N (.tup ds)):ds.length<=N:=by
 have h2:szs ds+3<=N:=h.sz;have:=M8 ds;omega
mutual
noncomputable def plB:D->Bool
 | .non=>true
 | .bl _=>true
 | .int i=>decide (i.natAbs<=t8 0)
 | .str x=>decide (x.length<=45)&&x.cps.toList.all (· < 128)
 | .tup ds=>jl ds
 | .lst ds=>jl ds
 | .scr _=>false
 | .ref _=>false
noncomputable def jl:List D->Bool
 | []=>true
 | d :: ds=>plB d&&jl ds
end
mutual
theorem jh:∀ d:D,plB d=true->Pln 0 d
 | .non,_=>trivial
 | .bl _,_=>trivial
 | .int i,h=>by
  have h:decide (i.natAbs<=t8 0)=true:=h;exact (AS h:i.natAbs<=t8 0)
 | .str x,h=>by
  have h:(decide (x.length<=45)&&x.cps.toList.all (· < 128))=true:=h;rw [Ag,Aq,Ay] at h;exact ⟨h.1,λc hc=>AS (h.2 c hc)⟩
 | .tup ds,h=>X7 ds h
 | .lst ds,h=>X7 ds h
 | .scr _,h=>Bool.noConfusion h
 | .ref _,h=>Bool.noConfusion h
theorem X7:∀ ds:List D,jl ds=true->Plns 0 ds
 | [],_=>trivial
 | d :: ds,h=>by
  have h:(plB d&&jl ds)=true:=h;rw [Ag] at h;exact ⟨jh d h.1,X7 ds h.2⟩
end
def smB (n N:Nat) (d:D):Bool:=plB d&&decide (dp d<=n)&&decide (sz d<=N)
theorem k4 (h:smB n N d=true):Pln 0 d/\dp d<=n/\sz d<=N:=by
 unfold smB at h;rw [Ag,Ag,Aq,Aq] at h;exact ⟨jh d h.1.1,h.1.2,h.2⟩
theorem dd (ds:List D) (lo a:Option Int):(m7 ds lo a).Sublist ds:=(CY _ _).trans (List.drop_sublist _ _)
theorem Pln.ups {d:D} (h:Pln 0 d):Pln j d:=by
 induction j with
 | zero=>exact h
 | succ j a=>exact a.up
theorem Y6 (h:∀ d∈xs,d∈ys):dps xs<=dps ys:=P0 λd hd=>y7 (h d hd)
theorem N1 (n:Nat) (S:Sto):∀ ns:List Int,d9 (d5 (n+1) S) (ns.map D.int)=some (ns.map PyData.int)
 | []=>rfl
 | b :: a=>by
  have e:d5 (n+1) S (.int b)=some (.int b):=rfl;simp only [AG,d9,e,N1 n S a]
theorem P3:∀ ns:List Int,PyData.canLayAll0 (ns.map PyData.int)=true
 | []=>rfl
 | b :: a=>by simp only [AG,PyData.canLayAll0,PyData.canLay0,P3 a,Cv]
theorem bX {i:Nat} (h:i<=ds.length):m7 ds none (some (i:Int))=ds.take i:=by
 have e:HT.sIx ds.length ds.length (some (i:Int))=i:=by
  show (if (i:Int)<0 then ((i:Int)+(ds.length:Int)).toNat else min (i:Int).toNat ds.length)=i;rw [if_neg (by omega)];simp;omega
 unfold m7;rw [e,HT.sIx_none];simp
theorem P4 {i:Nat} (h:i<=ds.length):m7 ds (some (i:Int)) none=ds.drop i:=by
 have e:HT.sIx ds.length 0 (some (i:Int))=i:=by
  show (if (i:Int)<0 then ((i:Int)+(ds.length:Int)).toNat else min (i:Int).toNat ds.length)=i;rw [if_neg (by omega)];simp;omega
 unfold m7;rw [e,HT.sIx_none];rw [Bl (by simp)]
theorem cat_tup (h:xs.length+ys.length<=sizeLine):j3 (.tup xs) (.tup ys) S=.ok (.tup (xs++ys)) S:=by
 show (if xs.length+ys.length<=sizeLine then ret (D.tup (xs++ys)) else bad) S=_;rw [if_pos h];rfl
theorem o0 (ds:List D) (S:Sto):A6 (.tup ds) S=.ok (.int ds.length) S:=rfl
theorem G5 (ds:List D) (S:Sto):A7 (.tup ds) S=.ok (n4 ds,ds.length+1) S:=rfl
theorem aB {n:Nat} (h:n<1000) (S:Sto):u6 [.int (n:Int)] S=.ok (bT 0 n,n+1) S:=by
 unfold u6;have a:(n:Int)<1000:=by omega
 have b:(0:Int)<=n:=by omega
 have c:-(2 ^ 62)<=(n:Int)/\(n:Int)<2 ^ 62:=⟨Int.le_trans (by decide) b,Int.lt_trans a (by decide)⟩;simp only [if_pos c,Int.toNat_natCast];rfl
theorem k5 {i:Nat} {d:D} (S:Sto) (h:ds[i]?=some d):ixD (.tup ds) (.int (i:Int)) S=.ok d S:=by
 show Y2 (atI ds (i:Int)) S=_;rw [aA h];rfl
theorem aD {i:Nat} {d:D} (S:Sto) (h:ds[i]?=some d):ixD (.lst ds) (.int (i:Int)) S=.ok d S:=by
 show Y2 (atI ds (i:Int)) S=_;rw [aA h];rfl
theorem oY (n i:Nat) (S:Sto):bT 0 n i S=some ((List.range n).map λ(k:Nat)=>D.int (k:Int))[i]?:=by
 show some (if i<n then some (D.int (0+i)) else none)=_;grind
theorem mn (e:S[n]?=some (.lst ds)) (i:Nat):fv n i S=some ds[i]?:=by
 simp only [fv,e]
theorem Y4 {α β:Type} {f:α->β} {l:List α} {i:Nat} {a:α} (h:l[i]?=some a):(l.map f)[i]?=some (f a):=by rw [AR,h];rfl
theorem ce (x:Int):∀ ns:List Int,((ns.map PyData.int).any λy=>PyData.eqv y (.int x))=decide (x∈ns)
 | []=>by simp
 | y :: ns=>by
  simp only [AG,Bu,ce x ns,PyData.eqv];rw [Bz,CD,Aq,Aq,Ar];constructor
  ·grind
  ·grind
theorem dr (x:Int) (ns:List Int) (S:Sto):a5 .In (.int x) (.tup (ns.map D.int)) S=.ok (.bl (decide (x∈ns))) S:=by
 have e:d5 64 S (.tup (ns.map D.int))=some (.tuple (ns.map PyData.int)):=by
  show (d9 (d5 63 S) (ns.map D.int)).map PyData.tuple=_;rw [N1 62 S ns];rfl
 show inD false (.int x) (.tup (ns.map D.int)) S=_;unfold inD;rw [e];show U1 false (.int x) (ns.map PyData.int) S=_;unfold U1;have hd:PyData.depth (.int x)=0:=by simp [PyData.depth]
 rw [if_pos ⟨rfl,P3 ns,by rw [hd];omega⟩,ce];rfl
def Ex (S S':Sto):Prop:=∃ T,S'=S++T
theorem Ex.refl (S:Sto):Ex S S:=⟨[],by simp⟩
theorem Ex.trans (h:Ex a b) (k:Ex b c):Ex a c:=by
 obtain ⟨t,rfl⟩:=h;obtain ⟨u,rfl⟩:=k;exact ⟨t++u,by simp⟩
theorem Ex.at {S S':Sto} (h:Ex S S') {q:Nat} (hq:q<S.length):S'[q]?=S[q]?:=by
 obtain ⟨t,rfl⟩:=h;rw [Az hq]
theorem gD (e:S[n]?=some (.lst es)):lstOf (.ref n) S=.ok es S:=by simp only [lstOf,e]
theorem mo {y:D} (e:S[n]?=some (.lst es)) (a:es.length<sizeLine):cS (.ref n) [y] S=.ok .non (S.set n (.lst (es++[y]))):=by simp only [cS,e,if_pos a]
theorem Plns.sub {xs ys:List D} (h:Plns j ys) (hs:∀ d∈xs,d∈ys):Plns j xs:=Plns.of λd hd=>h.mem d (hs d hd)
theorem eL (x y:Str):(x++y).length=x.length+y.length:=by show (x.cps++y.cps).size=x.cps.size+y.cps.size;simp
def Fw (ns:List Int) (p N:Nat) (S:Sto):Prop:=∃ a l t:Int,S[p]?=some (d4 ns a l t)/\0<=a/\0<=l/\0<=t/\t+N<1000000
theorem Fw.less {p N K:Nat} {S:Sto} (h:Fw ns p N S) (g:K<=N):Fw ns p K S:=by
 obtain ⟨a,l,t,e,b,d,c,f⟩:=h;exact ⟨a,l,t,e,b,d,c,by omega⟩
theorem Fw.keep (h:Fw ns p N S) (e:S'[p]?=S[p]?):Fw ns p N S':=by
 obtain ⟨a,l,t,c,b⟩:=h;exact ⟨a,l,t,by rw [e];exact c,b⟩
theorem Fw.lt (h:Fw ns p N S):p<S.length:=by
 obtain ⟨a,l,t,e,_⟩:=h;grind
theorem Fw.push (h:Fw ns p N S) (o:O):Fw ns p N (S++[o]):=h.keep (by rw [Az h.lt])
theorem Ok.nx (h:Ok m S Q):Ok (L3.nx m) S Q:=by
 obtain ⟨a,S1,e,q⟩:=h;exact ⟨a,S1,by unfold L3.nx;rw [e],q⟩
def nxt {d:Type} (q:EvK) (e:Lc) (c:List Stmt) (k:Fl->M d):Fl->M d:=λb=>match b with
 | .nx a=>j4 q e c a k
 | b=>k b
section
variable {α:Type} {q:EvK} {lc:Lc} {st:Stmt} {sts:List Stmt} {ρ:L3.Env} {k:Fl->M α} {S:Sto} {Q:α->Sto->Prop} {P:Nat->Sto->Prop}
theorem Ok.first (h:Ok (q.s lc st ρ (nxt q lc sts k)) S Q):Ok (j4 q lc (st :: sts) ρ k) S Q:=h
theorem Ok.nxt (h:Ok (q.s lc st ρ (L3.nxt q lc sts k)) S Q):Ok (L3.nxt q lc (st :: sts) k (.nx ρ)) S Q:=h
theorem Ok.pos [Decidable c] {a b:M α} (h:c) (k:Ok a S Q):Ok (if c then a else b) S Q:=by rw [if_pos h];exact k
theorem Ok.neg [Decidable c] {a b:M α} (h:¬ c) (k:Ok b S Q):Ok (if c then a else b) S Q:=by rw [if_neg h];exact k
end
theorem aE (S:Sto) (a b:O):(S++[a]).set S.length b=S++[b]:=by simp
theorem oz {r:Nat} (h:r<100):Pln 0 (.int (r:Int)):=by
 show ((r:Int)).natAbs<=t8 0;have:t8 0≥100:=by decide +kernel
 omega
theorem df:∀ {ds:List D},(∀ d∈ds,sz d<=n)->szs ds<=(n+2) * ds.length
 | [],_=>Aj _
 | d :: ds,h=>by
  have c:=h d (by simp);have b:=df (ds:=ds) λx a=>h x (by simp [a]);show sz d+2+szs ds<=(n+2) * (ds.length+1);rw [Nat.mul_add];omega
theorem gr (ns:List Int):∃ ms:List Int,m7 (ns.map D.int) none (some 63)=ms.map D.int:=⟨(ns.drop (HT.sIx ns.length 0 none)).take (HT.sIx ns.length ns.length (some 63)-HT.sIx ns.length 0 none),by simp [m7,List.map_drop,List.map_take]⟩
theorem jE (h:n<=6):n<sizeLine:=Nat.lt_of_le_of_lt h (by decide)
theorem E6 (n:Nat) (S:Sto):bT 0 n n S=some none:=by
 show some (if n<n then _ else none)=some none;grind
theorem P2 {n i:Nat} (h:i<n) (S:Sto):bT 0 n i S=some (some (.int (i:Int))):=by rw [oY,Y4 (List.getElem?_range h)]
structure Sml (n N:Nat) (d:D):Prop where
 pl:Pln 0 d
 dp:dp d<=n
 sz:sz d<=N
def Smls (n N:Nat) (ds:List D):Prop:=∀ d∈ds,Sml n N d
theorem Smls.map {b:Type} {n N:Nat} {f:b->D} {l:List b} (h:∀ a∈l,Sml n N (f a)):Smls n N (l.map f):=λx c=>by
 obtain ⟨a,d,rfl⟩:=Dn.mp c;exact h a d
theorem Sml.mono {d:D} (h:Sml n N d) (b:n<=n') (a:N<=N'):Sml n' N' d:=⟨h.pl,AY h.dp b,AY h.sz a⟩
theorem Sml.up {n N a N':Nat} {d:D} (h:Sml n N d) (c:n<=a:=by decide) (b:N<=N':=by decide):Sml a N' d:=h.mono c b
theorem Sml.tup {ds:List D} (h:Smls n N ds) (a:ds.length<=m):Sml (n+1) ((N+2) * m+3) (.tup ds):=by
 have s:=df λd hd=>(h d hd).sz;have b:=P0 λd hd=>(h d hd).dp;refine ⟨Plns.of λd hd=>(h d hd).pl,by show dps ds+1<=n+1;omega,?_⟩;show szs ds+3<=_;have:=CJ (N+2) a;omega
theorem Sml.nat {n N i:Nat} (h:i<100) (a:60<=N:=by decide):Sml n N (.int (i:Int)):=⟨oz h,AO _,a⟩
theorem Sml.bl {n N:Nat} {b:Bool} (a:5<=N:=by decide):Sml n N (.bl b):=⟨trivial,AO _,a⟩
theorem Sml.w (h:smB n N d=true:=by decide +kernel):Sml n N d:=⟨(k4 h).1,(k4 h).2.1,(k4 h).2.2⟩
theorem Sml.any (h:Sml n N d) (hn:n<=43):Any 40 N d:=⟨h.pl.ups,by have:=h.dp;omega,h.sz⟩
theorem Sml.repr (h:Sml n N d) (a:n<=43:=by decide) (b:N<=10000000:=by decide) (S:Sto):B1 d S=.ok (.str (py d).shown) S:=R8 (h.any a) (by omega) b S
theorem B4 (a b:Int) (S:Sto):a5 .Eq (.int a) (.int b) S=.ok (.bl (decide (a=b))) S:=rfl
theorem gB (a b:Int) (S:Sto):a5 .NotEq (.int a) (.int b) S=.ok (.bl (!decide (a=b))) S:=rfl
theorem tR (a b:Int) (S:Sto):a5 .LtE (.int a) (.int b) S=.ok (.bl (decide (a<=b))) S:=rfl
theorem di (a b:Int) (S:Sto):a5 .Lt (.int a) (.int b) S=.ok (.bl (decide (a<b))) S:=rfl
theorem bG (a b:Int) (S:Sto):a5 .Gt (.int a) (.int b) S=.ok (.bl (decide (b<a))) S:=rfl
theorem Q9 (a b:Nat) (S:Sto):j3 (.int (a:Int)) (.int (b:Int)) S=.ok (.int ((a+b:Nat):Int)) S:=by
 show R.ok (D.int ((a:Int)+(b:Int))) S=_;grind
theorem X9 {a b:Nat} (h:b<=a) (S:Sto):bB (.int (a:Int)) (.int (b:Int)) S=.ok (.int ((a-b:Nat):Int)) S:=by
 show R.ok (D.int ((a:Int)-(b:Int))) S=_;grind
theorem nx_bind {k:α->M β} {S:Sto} {Q:β->Sto->Prop} (h:Ok m S λa S1=>Ok (k a) S1 Q):Ok (L3.bind (L3.nx m) k) S Q:=Ok.bind (Ok.nx h)
theorem B8 (h:Ok m S λd S'=>d=a/\S'=S):m S=.ok a S:=by
 obtain ⟨d,S',e,rfl,rfl⟩:=h;exact e
theorem Ok.loop {n:Nat} (I:Nat->L3.Env->Sto->Prop) (f:∀ ρ S,I n ρ S->src n S=some none)
  (e:∀ i ρ S,i<n->I i ρ S->∃ d b,src i S=some (some d)/\tg d ρ=some b/\Ok (body b) S λc S'=>∃ a,(c=.nx a\/c=.ct a)/\I (i+1) a S') {ρ:L3.Env} {S:Sto} (h:I 0 ρ S) :
  Ok (k8 src tg body (n+1) 0 ρ) S λc S'=>∃ a,c=.nx a/\I n a S':=by
 refine (Ok.for_ I (λ_ _=>False) (λ_ _=>False) f (λi ρ S l h=>?_) n 0 ρ S (by omega) h).mono ?_
 ·obtain ⟨d,b,g,j,k⟩:=e i ρ S l h;refine ⟨d,b,g,j,k.mono ?_⟩;rintro c S' ⟨a,rfl | rfl,q⟩
  ·exact q
  ·exact q
 ·grind
theorem gb:∀ ns:List Int,PyData.depthAll (ns.map PyData.int)<=1
 | []=>by simp [PyData.depthAll]
 | n :: ns=>by
  have:=gb ns;simp only [AG,PyData.depthAll,PyData.depth];omega
theorem jM:∀ a b:List Int,PyData.eqvAll (a.map PyData.int) (b.map PyData.int)=decide (a=b)
 | [],[]=>rfl
 | [],_ :: _=>rfl
 | _ :: _,[]=>rfl
 | x :: a,y :: b=>by
  simp only [AG,PyData.eqvAll,PyData.eqv,jM a b];by_cases h:x=y
  ·subst h;simp
  ·simp [h]
theorem jt (a b:List Int) (S:Sto):a5 .Eq (.lst (a.map D.int)) (.lst (b.map D.int)) S=.ok (.bl (decide (a=b))) S:=by
 show eqP false (.lst (a.map D.int)) (.lst (b.map D.int)) S=_;have e:∀ ns:List Int,d5 64 S (.lst (ns.map D.int))=some (.list (ns.map PyData.int)):=λns=>by
  show (d9 (d5 63 S) (ns.map D.int)).map PyData.list=_;rw [N1 62 S ns];rfl
 unfold eqP;rw [e,e];show (if PyData.canLay0 (.list (a.map PyData.int))=true/\PyData.canLay0 (.list (b.map PyData.int))=true/\min (PyData.depth (.list (a.map PyData.int))) (PyData.depth (.list (b.map PyData.int)))<=60 then ret (D.bl (PyData.eqv (.list (a.map PyData.int)) (.list (b.map PyData.int)))) else bad) S=_;have hd:PyData.depth (.list (a.map PyData.int))<=60:=by
  have:=gb a;simp only [PyData.depth];omega
 rw [if_pos ⟨by simp only [PyData.canLay0];exact P3 a,by simp only [PyData.canLay0];exact P3 b,by omega⟩];show R.ok (D.bl (PyData.eqvAll (a.map PyData.int) (b.map PyData.int))) S=_;rw [jM]
def pZ (n:Nat):D->Bool
 | .tup ds=>decide (ds.length=n)
 | _=>false
theorem jS (a b:Nat):decide ((a:Int)=(b:Int))=decide (a=b):=by grind
theorem ke {f:D->M D} {S:Sto} (a:ds.length<sizeLine) (b:∀ d∈ds,f d S=.ok (.bl (p d)) S):i0 (n4 ds) (λ_=>ret true) f (ds.length+1) 0 [] S=.ok ((ds.map p).map D.bl) S:=by
 have c:=E2 (h:=id) (t:=λ_=>ret true) a (λ_ _=>rfl) (λd hd _=>b d hd);rw [List.map_id,List.filter_eq_self.mpr (λ_ _=>rfl)] at c;simp_all
theorem kZ (h:pZ m d=true):∃ ds,d=.tup ds/\ds.length=m:=by
 cases d with
 | tup ds=>exact ⟨ds,rfl,AS h⟩
 | _=>cases h
theorem all_map (ds:List D) (p:D->Bool):(ds.map p).all id=ds.all p:=by rw [Dl];rfl
theorem pb (h:inW ws d=true):∃ w,d=.str w/\w∈ws:=by
 cases d with
 | str w=>exact ⟨w,rfl,AS h⟩
 | _=>cases h
theorem jX {c:Type} {p:D->Bool} {f:c->D} {q:c->Prop} (h:∀ d,p d=true->∃ b,f b=d/\q b):∀ {ds:List D},ds.all p=true->∃ a:List c,a.map f=ds/\∀ b∈a,q b
 | [],_=>⟨[],rfl,λb z=>by cases z⟩
 | d :: ds,e=>by
  rw [Be,Ag] at e;obtain ⟨b,rfl,g⟩:=h d e.1;obtain ⟨a,rfl,hs⟩:=jX h e.2;exact ⟨b :: a,rfl,λx i=>by
   rcases Ar.mp i with rfl | z
   ·exact g
   ·exact hs x z⟩
end L3
namespace L2
open PySem PySem.Spec PyProof.Rows
section
variable {prog:Program} {w:World} {A:Around} {E:Value->Shared->Prop} {s:Shared}
theorem R3 {it t:Addr} {items:Array Value} (h:t≠it):∀ (n i:Nat) (s:Shared) (Q:List Value->Shared->Prop),s.heap.IsListIter it t i->s.heap.IsList t items->i+n<=items.size ->
  (∀ h':Heap,h'.IsListIter it t (i+n)->Heap.SameBut it s.heap h'->Q ((items.toList.drop i).take n) { s with heap:=h' })->wpAny (model prog w) A (draw (.ref it) n) Q E s
 | 0,i,s,Q,e,_,_,j=>by
  show wpAny _ _ (pure []) Q E s;exact Ai (by simpa using j s.heap e (Heap.SameBut.refl ..))
 | n+1,i,s,Q,e,k,m,j=>by
  have f:i<items.size:=by omega
  refine Af (wpAny_pyNext_list_item e k (x:=items[i]) (by simp [f]) λl c a=>?_);refine Af (AM (R3 h n (i+1) _ _ c (k.extBut a.extBut h) (by omega) λg b d=>Ai ?_));have hd:items.toList.drop i=items[i] :: items.toList.drop (i+1):=by simp [CV,f]
  have:=j g (by rw [show i+(n+1)=i+1+n by omega];exact b) (a.trans d);rw [hd,List.take_succ_cons] at this;exact this
theorem G0 (n:A.handled=none) (h:s.heap.IsList t items)
  (m:∀ h',Heap.ExtBut s.heap.objs.size s.heap h'->Q items.toList { s with heap:=h' }):wpAny (model prog w) A (unpackItems (.ref t) items.size none) Q E s:=by
 have i:t≠s.heap.objs.size:=by obtain ⟨o,p,_⟩:=h;exact At (An p)
 refine Af ?_
 ·unfold notIterableAtAll;refine Af (wpAny_specialOf h.typeIs slot_list_iter.lookup ?_);refine Ai ?_;refine Af (AM (BG h ?_));refine Af (AM (R3 i items.size 0 _ _ ⟨_,Aw _ rfl,rfl,rfl⟩ (h.push _) (by omega) λl c a=>?_));have g:List.take items.size (List.drop 0 items.toList)=items.toList:=by
   rw [List.drop_zero];exact Bl (by simp)
  rw [g];rw [if_neg (by simp)];have f:=(h.push _).extBut a.extBut i;refine Af (AM (wpAny_pyNext_list_end n c f (by simp) λj d=>?_));refine Ai (m j λb o k e=>d b o k (a.extBut b o k (Ah _ e)))
theorem C1 {a:List Expr} {x1} {pos:Pos} {t:Addr} {items:Array Value} {Q:Unit->Shared->Prop} (e:A.handled=none) (c:s.heap.IsList t items)
  (d:(assignEach a env).length=items.size) (b:(assignEach a env).findIdx? (·.1)=none)
  (h:∀ h',Heap.ExtBut s.heap.objs.size s.heap h'->wpAny (model prog w) A (assignInOrder ((assignEach a env).map (·.2)) items.toList) Q E { s with heap:=h' }) :
  wpAny (model prog w) A (assign (.Tuple a x1 pos) env (.ref t)) Q E s:=by
 rw [assign_Tuple];refine Af (Du ?_);unfold unpack;rw [d,b];exact Af (AM (G0 e c h))
end
section
variable {X:Cx} {pos:Pos}
def rL (K:PySem.W.Frag) (n:Nat) (t:TGs):TG:=λv σ H Q=>∃ a xs,v=.ref a/\SqL K H a xs/\xs.length=n/\t xs σ H Q
theorem mM {k:Nat} {t:TGs} {n:Nat} (l:X.calm=true) (h:PGs X es t)
  (j:(assignEach es X.env).length=n:=by rfl) (g:(assignEach es X.env).findIdx? (·.1)=none:=by rfl):PG X (.Tuple es k pos) (rL X.K n t):=by
 intro pins s σ H v u Q I r f;obtain ⟨a,xs,m,z,w,f⟩:=f;subst m;cases r;obtain ⟨y,i,⟨o,q,e,c,_,d⟩,hz⟩:=I.list z;refine C1 (I.ok.hd l) ⟨o,e,c,q,d⟩ (by simp [j,<- w,i.length]) g λh' x=>?_;have p:=I.kept (t':=s.toks) λb o e=>x b o (At (An e)) e;exact h pins _ σ H xs _ Q p (by simpa using i) f
end
end L2
namespace L3
open PySem PySem.Spec PyProof.Rows L2
def P7 (a:List Nat) (d:D) (ρ:Env):Option Env:=match d with
 | .lst ds=>J4 a ds ρ
 | _=>none
section
variable {X:Cx} {cl:Nat->Addr} {xe:Addr->Hp->Prop} {e:Expr} {f:Env->M D} {pos:Pos}
theorem lP (hc:X.calm=true) (hN:X.N.Nodup) (h:NamesAt X ts is):PG X (.Tuple ts k pos') (gh X.K cl (P7 is)):=
 PG.imp (mM hc (U5 hN h) (m3 h).1 (m3 h).2) λv σ H Q ⟨μ,S,ρ,d,ρ',eo,rp,rd,e,q⟩=>by
  cases rd with
  | lst h1 h2=>exact ⟨_,_,rfl,h1.sq,by rw [<- h2.length];exact C2 e,μ,_,ρ,ρ',eo,h2,e,q⟩
  | _=>cases e
theorem iN (n:X.calm=true) (s:X.N.Nodup) (h:NamesAt X ts is) (u:PE X e (tD X.K cl xe f)) (m:j6 e=true) (i:U7 e=true):PS X (.Assign [.Tuple ts k pos'] e pos) (sD X.K cl xe λρ=>bind (f ρ) λd=>D7 (P7 is) d ρ):=
 PS.imp (bv u (lP n s h) (by unfold swapsWithSole;exact y3 m) (by cases e <;> first | rfl | (exact absurd i (by simp [U7]))) rfl) λD σ H ⟨μ,S,ρ,l,r,p⟩=>
  ⟨μ,S,ρ,l,r,p.bind.imp λd S1 a o t j b v q=>by
   cases c:P7 is d ρ with
   | none=>simp only [D7,c] at b;exact b.elim
   | some g=>simp only [D7,c] at b;exact ⟨a,S1,ρ,d,g,l.later t,j,q,c,b.ret a o (Lat.refl _ _) j⟩⟩
end
def sO:RuS where
 is _ lc e:=match e with
  | .Assign [.Tuple ts _ _] e _=>decide (("[;]" : Str)∈lc.mu)&&((f6 lc ts).isSome&&j6 e&&U7 e&&!quiet lc)
  | _=>false
 run r _ _ lc e ρ:=match e with
  | .Assign [.Tuple ts _ _] e _=>(match f6 lc ts with
   | some is=>bind (r.e lc e ρ) λd=>D7 (P7 is) d ρ
   | none=>bad)
  | _=>bad
 ok {T k r Γ C lc X} e R TX h hf hi:=by
  split at hi
  ·rename_i ts n p e pos;simp at hi;obtain ⟨_,⟨⟨h1,h2⟩,h3⟩,h4⟩:=hi;show PS X _ (sD X.K T.cl (xOf X) λρ=>(match f6 lc ts with
    | some is=>bind (r.e lc e ρ) λd=>D7 (P7 is) d ρ
    | none=>bad))
   cases e1:f6 lc ts with
   | none=>exact B7
   | some is=>exact iN (h.calm h4) h.nd' (E4 h hf e1) (R.ex h _) h2 h3
  ·cases hi
 runK q _ _ lc e ρ _ k:=match e with
  | .Assign [.Tuple ts _ _] e _=>(match f6 lc ts with
   | some is=>q.e lc e ρ λd=>bind (D7 (P7 is) d ρ) k
   | none=>bad)
  | _=>bad
 eq {r q Γ C lc} e ρ _ k h:=by
  split
  ·rename_i ts n p e pos;cases f6 lc ts with
   | none=>rfl
   | some is=>simp only [h.e,bind_assoc]
  ·first
   | rfl
   | (rename_i hn;split;exact (hn _ _ _ _ _ rfl).elim;rfl)
def ky (kvs:List (Str×D)) (x:D):M Bool:=match x with
 | .str z=>ret (kvs.lookup z).isNone
 | _=>bad
def J9 (kvs:List (Str×D)) (x:D):M D:=match x with
 | .str z=>ret ((kvs.lookup z).getD .non)
 | _=>bad
section
variable {X:Cx} {a:Addr} {es:Array DictEntry} {n:Nat}
def rNI (K:PySem.W.Frag) (a:Addr):R2:=λx y H Q=>y=.ref a/\∃ z r,x=.str z/\PySem.W.nsIn K a z=some r/\Q (.bl r.isNone) H
theorem sd (hl:X.K.lookup a=some ⟨.type "dict",none,.dict es n,#[]⟩) (hk:PySem.W.KeysLit X.w.params es.toList) (hs:(a==sysModules)=false):OpR X (compareOp .NotIn) (rNI X.K a):=by
 intro pins s σ H x y v u Q I rx ry ⟨ey,z,r,ex,e,q⟩;subst ex ey;obtain ⟨t,rfl⟩:=rx;cases ry;have hm:=Dr (prog:=X.prog) (w:=X.w) (h:=s.heap) (λb o hb=>I.kIn b o hb) hl hk;refine wpAny_notIn_of (Dy X.prog X.w z t) hs hm ?_;rw [Dt hl e];refine ⟨.bl (!r.isSome),H,I.tok _,rfl,?_⟩;cases r <;> exact q
theorem rk (hl:X.K.lookup a=some ⟨.type "dict",none,.dict es n,#[]⟩) (hk:PySem.W.KeysLit X.w.params es.toList) (hs:(a==sysModules)=false):MtR X "dict.get" (λx vs H Q=>x=.ref a/\∃ z r v,vs=[.str z]/\PySem.W.nsIn X.K a z=some r/\RelV v (r.getD .none)/\Q v H):=by
 intro pins s σ H x vs v us Q I rx rv ⟨ex,z,r,v',ev,e,r',q⟩;subst ex ev;cases rx;obtain ⟨u,rfl,t,rfl⟩:=rv.one;have hm:=Dr (prog:=X.prog) (w:=X.w) (h:=s.heap) (λb o hb=>I.kIn b o hb) hl hk;refine CL AW hm.typeIs Bk (Cc _ _) (meets_dict_get (strKind X.prog X.w) a (Dy X.prog X.w z t) hs) ⟨_,hm,?_⟩;rw [Dt hl e];exact ⟨v',H,I.tok _,r',q⟩
variable {e:Expr} {to:TE} {t:TA} {apos cpos:Pos} {p:Pos} {x:Str}
theorem tU (hl:X.K.lookup a=some ⟨.type "dict",none,.dict es n,#[]⟩) (hk:PySem.W.KeysLit X.w.params es.toList) (hs:(a==sysModules)=false) (hg:Gl X x) (hm:X.mg x=some (.ref a)) (n1:(x==("__debug__" : Str))=false) (he:PE X e to) (hn:a9 e=true) (hb:i5 (.Name x p)=true) (hf:p7 [e]=true) (hline:(apos.endLine==cpos.line)=true) :
  PE X (.Call (.Attribute (.Name x p) "get" apos) [e] [] cpos) (λσ H Q=>to σ H λy H1=>∃ z r v,y=.str z/\PySem.W.nsIn X.K a z=some r/\RelV v (r.getD .none)/\Q v H1):=by
 intro pins s σ H Q I h;have hs2:[e].all a9=true:=by rw [Be,hn];rfl
 refine wpAny_Call_method_late (p6 hb) (cp hs2 hf) hline rfl (thn (M2 (v:=.ref a) hg hm rfl n1 pins s σ H _ I (show tC (.ref a) σ H (λy H1=>y=.ref a/\H1=H) from ⟨rfl,rfl⟩)) λv s1 ⟨y,H1,I1,r1,ey,eH⟩=>?_);subst ey eH;cases r1;have hk1:=I1.kIn a _ hl;refine ⟨"dict","dict.get",Di,AW,PySem.F.type_dict_get,⟨_,hk1,rfl⟩,λb eb=>(by cases eb;exact ⟨_,hk1,rfl⟩),?_⟩;rw [f7 hn];refine Ch rfl (Calls.evalArgs_plain ?_);refine BV (thn (he pins s1 σ H1 _ I1 h) λu s2 ⟨y,H2,I2,r2,q2⟩=>Ce ?_);obtain ⟨z,r,v,rfl,e1,e2,q⟩:=q2;exact rk hl hk hs pins s2 σ H2 (.ref a) [.str z] _ [u] Q I2 rfl (.cons r2 .nil) ⟨rfl,z,r,v,rfl,e1,e2,q⟩
end
def rc:RuT where
 is Γ lc e:=match e with
  | .Compare _ [.NotIn] [.Name x _] _=>q4 x&&glB lc.sc x&&Q7 Γ x
  | _=>false
 run r Γ _ lc e ρ:=match e with
  | .Compare a [.NotIn] [.Name x _] _=>(match Γ.gl.lookup x with
   | some (.dct kvs)=>bind (r.e lc a ρ) (ky kvs)
   | _=>bad)
  | _=>bad
 ok {T k r Γ C lc X} e R TX h hi:=by
  split at hi
  ·rename_i a x p pos;simp only [Ag] at hi;obtain ⟨⟨h1,h2⟩,h3⟩:=hi;obtain ⟨n1,n2,n3⟩:=m6 h1;cases e1:Γ.gl.lookup x with
   | none=>simp only [Q7,e1] at h3;cases h3
   | some g=>
    cases g with
    | dct kvs=>
     obtain ⟨ad,es,n,hm,hl,hk,hs,hz,hv⟩:=TX.dct x kvs e1;refine PT.imp (dv (sd (X:=X) (by rw [h.K];exact hl) (by rw [h.w];exact hk) hs) (R.ex h a) (M2 (v:=.ref ad) (h.gl h2) (by rw [h.mg];exact hm) rfl n1) rfl) λσ H Q ⟨μ,S,ρ,eo,rp,q⟩=>?_;refine ⟨μ,S,ρ,eo,rp,q.bind.imp λy S2 μ2 H2 l2 r2 p2 u ru=>?_⟩;cases y with
     | str z=>
      cases ru;have hb:∀ r,PySem.W.nsIn T.K ad z=some r->r.isNone=(kvs.lookup z).isNone:=λr er=>by
       cases e2:kvs.lookup z with
       | none=>rw [hz z e2] at er;cases er;rfl
       | some d=>obtain ⟨u,v,f1,_⟩:=hv z d e2;rw [f1] at er;cases er;rfl
      obtain ⟨r,er⟩:∃ r,PySem.W.nsIn T.K ad z=some r:=by
       cases e2:kvs.lookup z with
       | none=>exact ⟨_,hz z e2⟩
       | some d=>obtain ⟨u,v,f1,_⟩:=hv z d e2;exact ⟨_,f1⟩
      refine ⟨rfl,z,r,rfl,by rw [h.K];exact er,?_⟩;rw [hb r er];exact ⟨_,rfl,p2 μ2 H2 (Lat.refl _ _) r2⟩
     | _=>exact p2.elim
    | val d=>simp only [Q7,e1] at h3;cases h3
    | fn i n=>simp only [Q7,e1] at h3;cases h3
    | err c fs=>simp only [Q7,e1] at h3;cases h3
  ·cases hi
 runK q Γ _ lc e ρ _ k:=match e with
  | .Compare a [.NotIn] [.Name x _] _=>(match Γ.gl.lookup x with
   | some (.dct kvs)=>q.e lc a ρ λy=>bind (ky kvs y) k
   | _=>bad)
  | _=>bad
 eq {r q Γ C lc} e ρ _ k h:=by
  split
  ·rename_i a x p pos;cases Γ.gl.lookup x with
   | none=>rfl
   | some g=>
    cases g with
    | dct kvs=>simp only [h.e,bind_assoc]
    | _=>rfl
  ·first
   | rfl
   | (rename_i hn;split;exact (hn _ _ _ _ rfl).elim;rfl)
def rf:RuE where
 is Γ lc e:=match e with
  | .Call (.Attribute (.Name x _) n apos) [a] [] cpos=>decide (n = "get")&&q4 x&&glB lc.sc x&&Q7 Γ x&&a9 a&&p7 [a]&&(apos.endLine==cpos.line)
  | _=>false
 run r Γ _ lc e ρ:=match e with
  | .Call (.Attribute (.Name x _) _ _) [a] [] _=>(match Γ.gl.lookup x with
   | some (.dct kvs)=>bind (r.e lc a ρ) (J9 kvs)
   | _=>bad)
  | _=>bad
 ok {T k r Γ C lc X} e R TX h hi:=by
  split at hi
  ·rename_i x p n apos a cpos;simp only [Ag,Aq] at hi;obtain ⟨⟨⟨⟨⟨⟨rfl,h1⟩,h2⟩,h3⟩,h4⟩,h5⟩,h6⟩:=hi;obtain ⟨n1,n2,n3⟩:=m6 h1;cases e1:Γ.gl.lookup x with
   | none=>simp only [Q7,e1] at h3;cases h3
   | some g=>
    cases g with
    | dct kvs=>
     obtain ⟨ad,es,n,hm,hl,hk,hs,hz,hv⟩:=TX.dct x kvs e1;refine PE.imp (tU (X:=X) (by rw [h.K];exact hl) (by rw [h.w];exact hk) hs (h.gl h2) (by rw [h.mg];exact hm) n1 (R.ex h a) h4 rfl h5 (by simpa using h6)) λσ H Q ⟨μ,S,ρ,eo,rp,q⟩=>?_;refine ⟨μ,S,ρ,eo,rp,q.bind.imp λy S2 μ2 H2 l2 r2 p2 u ru=>?_⟩;cases y with
     | str z=>
      cases ru;cases e2:kvs.lookup z with
      | none=>
       simp only [J9,e2] at p2;exact ⟨z,none,.non,rfl,by rw [h.K];exact hz z e2,rfl,p2 μ2 H2 (Lat.refl _ _) r2 _ .non⟩
      | some d=>
       simp only [J9,e2] at p2;obtain ⟨u,v,f1,f2,f3⟩:=hv z d e2;exact ⟨z,some u,v,rfl,by rw [h.K];exact f1,f2,p2 μ2 H2 (Lat.refl _ _) r2 v (by rw [h.K];exact f3 μ2 H2)⟩
     | _=>exact p2.elim
    | val d=>simp only [Q7,e1] at h3;cases h3
    | fn i n=>simp only [Q7,e1] at h3;cases h3
    | err c fs=>simp only [Q7,e1] at h3;cases h3
  ·cases hi
 runK q Γ _ lc e ρ _ k:=match e with
  | .Call (.Attribute (.Name x _) _ _) [a] [] _=>(match Γ.gl.lookup x with
   | some (.dct kvs)=>q.e lc a ρ λy=>bind (J9 kvs y) k
   | _=>bad)
  | _=>bad
 eq {r q Γ C lc} e ρ _ k h:=by
  split
  ·rename_i x p n apos a cpos;cases Γ.gl.lookup x with
   | none=>rfl
   | some g=>
    cases g with
    | dct kvs=>simp only [h.e,bind_assoc]
    | _=>rfl
  ·first
   | rfl
   | (rename_i hn;split;exact (hn _ _ _ _ _ _ rfl).elim;rfl)
def Q0 (ws:List Str):List Str:=HT.metKHt (λi=>ws.getD i "") ws.length
section
variable {X:Cx} {e:Expr} {te:TE} {p p2 pos pos2:Pos} {cl:Nat->Addr} {xe:Addr->Hp->Prop}
theorem bn:∀ {ws:List Str} {its:List Value},Vals (ws.map V.str) its->∀ (i:Nat) (v:Value),its[i]?=some v->∃ t,v=.str (ws.getD i "") t
 | [],_,h,i,v,e=>by cases h;cases e
 | w :: ws,_,h,i,v,e=>by
  cases h with
  | cons r t=>
   cases i with
   | zero=>cases e;exact r
   | succ i=>exact bn t i v e
def hE (K:PySem.W.Frag) (te:TE):TE:=λσ H Q=>te σ H λx H1=>∃ a ws,x=.ref a/\(SqL K H1 a (ws.map V.str)\/SqT K H1 a (ws.map V.str))/\ws.length<4000/\Q (.int ((Q0 ws).length:Nat)) H1
theorem cL (hc:X.calm=true) (hl:Gl X "len") (ml:X.mg "len" = none) (hs:Gl X "set") (ms:X.mg "set" = none) (he:PE X e te) (hn:a9 e=true):PE X (.Call (.Name "len" p) [.Call (.Name "set" p2) [e] [] pos2] [] pos) (hE X.K te):=by
 intro pins s σ H Q I h;have hh:X.A.handled=none:=I.ok.hd hc;refine Bn (H8 I hl ml PySem.boot_len ?_ (by decide) (by decide));refine Cp ?_ rfl rfl;show wpAny _ _ (spliced ((false,eval (.Call (.Name "set" p2) [e] [] pos2) X.env) :: backTo pos (starEach [] X.env))) _ _ s;refine BV ?_;refine Bn (H8 I hs ms (by rfl) ?_ (by decide) (by decide));refine BD ?_ (f7 hn) rfl;rw [f7 hn];show wpAny _ _ (spliced ((false,eval e X.env) :: backTo pos2 (starEach [] X.env))) _ _ s;refine BV (thn (he pins s σ H _ I h) λu s1 ⟨x,H1,I1,r1,a,ws,e1,hq,hz,q⟩=>?_);subst e1;cases r1;refine Ce ?_;have fin:∀ (its:List Value),its.length=ws.length->Vals (ws.map V.str) its->(s1.heap.IsTuple a its.toArray\/s1.heap.IsList a its.toArray) ->
   wpAny (model X.prog X.w) X.A (call (.type "set") [.ref a]) (λv z=>wpAny (model X.prog X.w) X.A (spliced (backTo pos (starEach [] X.env))) (λvs s2=>wpAny (model X.prog X.w) X.A (call (.builtin "len") (v :: vs)) (EP X pins σ Q) X.xe s2) X.xe z) X.xe s1:=λits hlen hi hsq=>by
  refine HT.callLHt (knd:=strKind X.prog X.w) (λi=>ws.getD i "") hh hsq (λi v hv=>?_) (by rw [Am,hlen];show ws.length+1<4096;omega) λg tk ⟨hS,hk⟩=>?_
  ·obtain ⟨t,rfl⟩:=bn hi i v (by rw [<- List.getElem?_toArray];exact hv);exact ⟨Dy _ _ _ _,rfl⟩
  ·refine Ce ?_;have sz:its.toArray.size=ws.length:=by rw [Am,hlen]
   rw [sz] at hS;obtain ⟨o,es,ep,t,ho,hex,hd,_,_,hsc,hf,hsz2⟩:=hS.old;have hsc':es.size<4096:=hsc;refine PySem.call_len_set ho hex hd hf (by omega) ?_;have e6:es.size=(Q0 ws).length:=hsz2;rw [e6];exact ⟨.int ((Q0 ws).length:Nat),H1,I1.kept (t':=tk+1+1) λb ob eb=>hk b ob (An eb) eb,⟨_,rfl⟩,q⟩
 rcases hq with hq | hq
 ·obtain ⟨its,r',pl,hsz⟩:=I1.list hq;exact fin its (by rw [<- r'.length,AE]) r' (.inr pl.isList)
 ·obtain ⟨its,r',⟨ob,o1,o2,n,o3⟩,hsz⟩:=I1.tuple hq;exact fin its (by rw [<- r'.length,AE]) r' (.inl ⟨ob,o1,o2,n,o3⟩)
def E8 (d:D):M D:=bind (D2 d) λds=>match i8 ds with
 | some ws=>if ws.length<4000 then ret (.int ((Q0 ws).length:Nat)) else bad
 | none=>bad
theorem cQ {f:Env->M D} (hc:X.calm=true) (hl:Gl X "len") (ml:X.mg "len" = none) (hs:Gl X "set") (ms:X.mg "set" = none) (he:PE X e (tD X.K cl xe f)) (hn:a9 e=true):PE X (.Call (.Name "len" p) [.Call (.Name "set" p2) [e] [] pos2] [] pos) (tD X.K cl xe λρ=>bind (f ρ) E8):=
 PE.imp (cL hc hl ml hs ms he hn) λσ H Q ⟨μ,S,ρ,eo,rp,p⟩=>⟨μ,S,ρ,eo,rp,p.bind.imp λd S1 μ1 H1 l1 r1 p1 v rv=>by
  obtain ⟨a,xs,ds,rfl,h1,h2,e2⟩:=bD rv r1 p1.bind;have p1:=p1.ok_bind e2;cases e3:i8 ds with
  | none=>rw [e3] at p1;exact p1.elim
  | some ws=>
   rw [e3] at p1;obtain ⟨hz,p1⟩:=Post.guard p1;have:=eJ e3 h2;subst this;exact ⟨a,ws,rfl,h1,hz,p1 μ1 H1 (Lat.refl _ _) r1 _ (.int _)⟩⟩
end
def ji:RuE where
 is Γ lc e:=match e with
  | .Call (.Name x _) [.Call (.Name y _) [a] [] _] [] _=>decide (x = "len")&&decide (y = "set")&&(Γ.gl.lookup ("len" : Str)).isNone&&(Γ.gl.lookup ("set" : Str)).isNone&&glB lc.sc "len" && glB lc.sc "set" && !quiet lc&&a9 a
  | _=>false
 run r _ _ lc e ρ:=match e with
  | .Call (.Name _ _) [.Call (.Name _ _) [a] [] _] [] _=>bind (r.e lc a ρ) E8
  | _=>bad
 ok {T k r Γ C lc X} e R TX h hi:=by
  split at hi
  ·simp only [Ag,Aq,Bc,Bs] at hi;obtain ⟨⟨⟨⟨⟨⟨⟨rfl,rfl⟩,h1⟩,h2⟩,h3⟩,h4⟩,h5⟩,h6⟩:=hi;exact cQ (h.calm h5) (h.gl h3) (TX.none h (by decide) h1) (h.gl h4) (TX.none h (by decide) h2) (R.ex h _) h6
  ·cases hi
 runK q _ _ lc e ρ _ k:=match e with
  | .Call (.Name _ _) [.Call (.Name _ _) [a] [] _] [] _=>q.e lc a ρ λd=>bind (E8 d) k
  | _=>bad
 eq e ρ _ k h:=by
  split
  ·simp only [h.e,bind_assoc]
  ·first
   | rfl
   | (rename_i hn;split;exact (hn _ _ _ _ _ _ _ rfl).elim;rfl)
def W5 (x:D):M D:=bind (lstOf x) λes=>match x with
 | .ref n=>λS=>(match es[es.length-1]? with
  | some y=>.ok y (S.set n (.lst es.dropLast))
  | none=>.bad)
 | _=>bad
section
variable {X:Cx} {cl:Nat->Addr} {xe:Addr->Hp->Prop} {a:Expr} {f:Env->M D}
theorem lM {apos cpos:Pos} (ho:PE X a (tD X.K cl xe f)) (hb:i5 a=true) (hl:(apos.endLine==cpos.line)=true):PE X (.Call (.Attribute a "pop" apos) [] [] cpos) (tD X.K cl xe λρ=>bind (f ρ) W5):=by
 refine PE.imp (iT Cd PySem.F.slot_list_pop PySem.F.type_list_pop nV ho (p6 hb) hl) λσ H Q ⟨μ,S,ρ,eo,rp,p⟩=>⟨μ,S,ρ,eo,rp,p.bind.imp λx S1 μ1 H1 l1 r1 p1 xv rx=>?_⟩;obtain ⟨ty,_,ea⟩:=P9 μ1 S1 H1 x xv _ rx r1 p1.bind;unfold W5 at p1;obtain ⟨l,xs,ds,rfl,h1,h2,e2⟩:=d8 rx r1 p1.bind;have p1:=p1.ok_bind e2;cases rx with
 | ref e=>
  have ml:l∈μ1.pl:=AF e;have la:Lat μ1 H1 μ1 (upd H1 l (.lst xs.dropLast)):=Lat.wrote ml;dsimp only at p1;cases q:ds[ds.length-1]? with
  | none=>rw [q] at p1;exact p1.elim
  | some y=>
   rw [q] at p1;obtain ⟨v,hv,rv⟩:=h2.get q;have hl2:ds.length=xs.length:=h2.length;have t:=h2.take (ds.length-1);rw [<- List.dropLast_eq_take,hl2,<- List.dropLast_eq_take] at t;exact ⟨ty,l,xs,v,rfl,rfl,h1,by rw [<- hl2];exact hv,p1 μ1 _ la (r1.wrote e ⟨_,b4,t.later la⟩) _ (rv.later la)⟩
 | _=>exact p1.elim
end
def rM0 (m:Str) (op:D->M D) (ok:∀ {T:Tx} {k:Nat} {lc:Lc} {X:Cx} {xe:Addr->Hp->Prop} {o:Expr} {apos cpos:Pos} {f:Env->M D},CxOk T k lc X->PE X o (tD X.K T.cl xe f)->i5 o=true->(apos.endLine==cpos.line)=true->PE X (.Call (.Attribute o m apos) [] [] cpos) (tD X.K T.cl xe λρ=>bind (f ρ) op)):RuE where
 is _ _ e:=match e with
  | .Call (.Attribute o n apos) [] [] cpos=>decide (n=m)&&i5 o&&(apos.endLine==cpos.line)
  | _=>false
 run r _ _ lc e ρ:=match e with
  | .Call (.Attribute o _ _) [] [] _=>bind (r.e lc o ρ) op
  | _=>bad
 ok {T k r Γ C lc X} e R TX h hi:=by
  split at hi
  ·simp only [Ag,Aq] at hi;obtain ⟨⟨rfl,h1⟩,h2⟩:=hi;exact ok h (R.ex h _) h1 h2
  ·cases hi
 runK q _ _ lc e ρ _ k:=match e with
  | .Call (.Attribute o _ _) [] [] _=>q.e lc o ρ λx=>bind (op x) k
  | _=>bad
 eq e ρ _ k h:=by
  split
  ·simp only [h.e,bind_assoc]
  ·first
   | rfl
   | (rename_i hn;split;exact (hn _ _ _ _ rfl).elim;rfl)
def sW:RuE:=rM0 "pop" W5 λ_ ho hb hl=>lM ho hb hl
def B9:List DictEntry->Option (List Str)
 | []=>some []
 | ⟨_,.str x _,_⟩ :: es=>(B9 es).map (x :: ·)
 | _=>none
theorem dU {z:Str}:∀ {es:List DictEntry} {ks:List Str},B9 es=some ks->z∉ks->es.find? (λx=>x.key.isStr z)=none/\es.any (λx=>x.refKey)=false
 | [],_,_,_=>⟨rfl,rfl⟩
 | ⟨h,k,v⟩ :: es,ks,e,hz=>by
  cases k with
  | str x t=>
   simp only [B9] at e;obtain ⟨js,e1,rfl⟩:=Bj.mp e;obtain ⟨a,b⟩:=dU e1 λq=>hz (Av _ q);have ne:(x==z)=false:=BO.mpr λq=>hz (by rw [q];exact Ap ..);constructor
   ·rw [Bb];show (match (x==z) with
     | true=>_
     | false=>_)=_
    rw [ne];exact a
   ·rw [Bu,b];rfl
  | _=>simp only [B9] at e;cases e
theorem mr {K:PySem.W.Frag} {a:Addr} {es:Array DictEntry} {n:Nat} {ks:List Str} {kvs:List (Str×D)} (hl:K.lookup a=some ⟨.type "dict",none,.dict es n,#[]⟩) (hk:B9 es.toList=some ks) (hs:kvs.map Prod.fst=ks) {z:Str} (hz:kvs.lookup z=none):PySem.W.nsIn K a z=some none:=by
 have no:z∉ks:=by
  rw [<- hs];intro q;obtain ⟨⟨k,d⟩,m,e⟩:=Dn.mp q;have e:k=z:=e;subst e;exact absurd (List.lookup_eq_none_iff.mp hz _ m) (by simp)
 obtain ⟨a1,a2⟩:=dU hk no;unfold PySem.W.nsIn;rw [hl];dsimp only;rw [a1,a2];rfl
theorem iB {ns:List Int} {p N m:Nat} {S:Sto} (h:Fw ns p (N+1) S) (hm:0<m) (hm2:m<1073741824):Ok (eD (.ref p) (.int (m:Int))) S λd S'=>∃ r:Nat,d=.int (r:Int)/\r<m/\Fw ns p N S'/\S'.length=S.length/\∀ q,q≠p->S'[q]?=S[q]?:=by
 obtain ⟨a,l,t,e,h1,h2,h3,h4⟩:=h;obtain ⟨r,a',l',e1,r0,r1,ha,hl⟩:=fy (m:=(m:Int)) e h1 h2 h3 (by omega) (by omega) (by omega);obtain ⟨r,rfl⟩:=Dj r0;refine ⟨_,_,e1,r,rfl,by omega,⟨a',l',t+1,?_,ha,hl,by omega,by omega⟩,by simp,λq hq=>?_⟩
 ·rw [AT (Al.mp e).1]
 ·rw [AZ (Ne.symm hq)]
end L3
namespace L3.K05
open PySem PySem.Spec PyProof.Rows L2
def nth (l:List Stmt) (i:Nat):Stmt:=l.getD i (.Pass ⟨0,0,0,0⟩)
def top (i:Nat):Stmt:=nth PySem.Challenge.pw_handnames_k05_sentences_of_any_thing.main.body i
def k6:Stmt->List Stmt
 | .For _ _ b _ _=>b
 | .While _ b _ _=>b
 | _=>[]
def qH:Stmt->Expr
 | .While c _ _ _=>c
 | _=>.Name "" ⟨0,0,0,0⟩
abbrev iV:Fd:=j2 (top 1) []
abbrev pB:Fd:=j2 (top 2) []
abbrev nW:Fd:=j2 (top 3) []
abbrev nH:Fd:=j2 (top 10) []
abbrev Ac:Fd:=j2 (top 11) ["waiting"]
abbrev oy:Fd:=j2 (top 12) []
abbrev oD:Fd:=j2 (top 13) []
abbrev nU:Fd:=j2 (top 14) ["setw"]
abbrev jK:Fd:=j2 (top 16) []
abbrev ij:Fd:=j2 (top 17) []
abbrev jV:Fd:=j2 (top 18) []
abbrev Aa:Fd:=j2 (top 20) []
abbrev pY:Fd:=j2 (top 21) []
abbrev cy:Fd:=j2 (top 22) []
abbrev n0:Fd:=j2 (top 23) []
abbrev nn:Fd:=j2 (top 24) []
abbrev Ab:Fd:=j2 (top 25) []
abbrev Ae:Fd:=j2 (top 26) []
abbrev dueL_F:Fd:=j2 (top 27) ["[;]"]
abbrev jT:Fd:=j2 (top 28) []
abbrev Ad:Fd:=j2 (top 29) []
abbrev rK:Fd:=j2 (top 30) []
abbrev law_F:Fd:=j2 (top 31) ["_law_some"]
abbrev pa:Nat:=0
abbrev uN:Nat:=1
abbrev tP:Nat:=2
abbrev W4:Nat:=3
abbrev rq:Nat:=4
abbrev rZ:Nat:=5
abbrev tq:Nat:=6
abbrev rY:Nat:=7
abbrev ou:Nat:=8
abbrev j7:Nat:=9
abbrev pT:Nat:=10
abbrev cX:Nat:=11
abbrev tM:Nat:=12
abbrev p8:Nat:=13
abbrev cV:Nat:=14
abbrev uL:Nat:=15
abbrev pc:Nat:=16
abbrev qQ:Nat:=17
abbrev kN:Nat:=18
abbrev oH:Nat:=19
abbrev bw:Nat:=20
abbrev O7:Nat:=21
abbrev jY:Nat:=22
def Tb:List Fd:=[iV,pB,nW,nH,Ac,oy,oD,nU,jK,ij,jV,Aa,pY,cy,n0,nn,Ab,Ae,dueL_F,jT,Ad,rK,law_F]
def Γ:Gm:=⟨("WORDS",.val (.tup [(.str "out"),(.str "ask"),(.str "close"),(.str "look"),(.str "holds"),(.str "right"),(.str "down")])) :: ("MOST_FORMULAS",.val (.int 20)) :: ("MOST_WITHIN",.val (.int 8)) :: ("HANDS",.dct [("each",(.tup [(.int 0)])),("some",(.tup [(.int 0)])),("pairs",(.tup [(.int 0),(.int 1)])),("plain",(.tup []))]) :: ("PARTS",.dct [("at",(.int 3)),("mark",(.int 2)),("free",(.int 1)),("closed",(.int 1)),("not",(.int 2)),("both",(.int 3)),("either",(.int 3))]) :: ("is_whole",.fn 0 1) :: ("is_one_of",.fn 1 2) :: ("is_tuple_of",.fn 2 2) :: ("is_sentence",.fn 3 1) :: ("is_formula",.fn 4 2) :: ("is_built",.fn 5 2) :: ("formulas_in",.fn 6 1) :: ("are_words",.fn 7 1) :: ("_law_feed",.fn 8 1) :: ("_law_draw",.fn 9 2) :: ("_law_words",.fn 10 0) :: ("_law_formula",.fn 11 3) :: ("_law_sentence",.fn 12 2) :: ("_law_odd",.fn 13 1) :: ("_law_bent",.fn 14 2) :: ("_law_one_way",.fn 15 1) :: ("_law_count",.fn 16 2) :: ("_law_words_so",.fn 17 1) :: ("_law_due",.fn 18 1) :: ("_law_right",.fn 19 1) :: ("_law_chain",.fn 20 2) :: ("_law_broad",.fn 21 1) :: ("law",.fn 22 1) :: [],λc c0=>c0==0||c==c0,[],[]⟩
def Rs:Rules:=⟨[oM,rH,vo,uZ,tV,rf,rIx,vO,vj,rFn,sM,ji,vR,qN,qV,sY,uS,vw,vr,vP,rW,rIf,uQ,vS,vH,rSl,vQ,oR,rAppend,ln,sW,vc,pC],[ny,rC,rc,vW,nm],[sIf,uT,ol,uU,tS,ll,hQ,vZ,vJ,sO,vn,tZ,sv],[mO,vU]⟩
abbrev rn (k i:Nat) (ds:List D):M D:=C3 Rs Γ Tb k i ds
section
variable (C:Cf) {α:Type} (κ:Fl->M α) {ua ub uc ud ue:D} {qa qb qc qd qe qf qg qh qi qj qk ql qm qn:Option D}
theorem kb:runK Rs Γ C iV [ua]=bind (r8 "int" (λ_=>false) ua) λx1=>bind (c6 x1) λc2=>if c2=true then (bind (r8 "bool" (λ_=>false) ua) λx3=>bind (c6 x3) λc4=>ret (.bl (!c4))) else (ret x1):=by kernel_rfl
theorem pU:runK Rs Γ C pB [ua,ub]=bind (C 0 [ua]) λx1=>bind (c6 x1) λc2=>if c2=true then (bind (a5 .In ua ub) λx3=>ret x3) else (ret x1):=by kernel_rfl
theorem pP:runK Rs Γ C nW [ua,ub]=bind (r8 "tuple" (λ_=>false) ua) λx1=>bind (c6 x1) λc2=>if c2=true then (bind (A6 ua) λx3=>bind (a5 .Eq x3 ub) λx4=>ret x4) else (ret x1):=by kernel_rfl
theorem oZ:runK Rs Γ C nH [ua]=bind (C 2 [ua,(.int 2)]) λx1=>bind (c6 x1) λz2=>if (!z2)=true then (ret (.bl false)) else (bind (ixD ua (.int 0)) λx3=>bind (r8 "str" (λ_=>false) x3) λx4=>bind (c6 x4) λz5=>if (!z5)=true then (ret (.bl false)) else (bind (ixD ua (.int 0)) λx6=>bind (ky [("each",(.tup [(.int 0)])),("some",(.tup [(.int 0)])),("pairs",(.tup [(.int 0),(.int 1)])),("plain",(.tup []))] x6) λz7=>if z7=true then (ret (.bl false)) else (bind (ixD ua (.int 1)) λx8=>bind (ixD ua (.int 0)) λx9=>bind (gdD [("each",(.tup [(.int 0)])),("some",(.tup [(.int 0)])),("pairs",(.tup [(.int 0),(.int 1)])),("plain",(.tup []))] x9) λx10=>bind (C 4 [x8,x10]) λx11=>ret x11))):=by kernel_rfl
def P1:Lc:=D1 Ac
theorem pX:runK Rs Γ C Ac [ua,ub]=j4 (evK Rs Γ C 40) P1 Ac.body [some ua,some ub,none,none,none,none] endD:=by kernel_rfl
theorem nk:Ac.body=[nth Ac.body 0,nth Ac.body 1,nth Ac.body 2,nth Ac.body 3]:=by kernel_rfl
theorem uY:(evK Rs Γ C 40).s P1 (nth Ac.body 0) [some ua,qa,qb,qc,qd,qe] κ=bind (newL [(.tup [ua,(.int 1)])]) λx1=>κ (.nx [some ua,qa,some x1,qc,qd,qe]):=by kernel_rfl
theorem vh:(evK Rs Γ C 40).s P1 (nth Ac.body 1) [qa,qb,qc,qd,qe,qf] κ=κ (.nx [qa,qb,qc,some (.int 0),qe,qf]):=by kernel_rfl
def me (C:Cf):L3.Env->M Bool:=λρ'=>(evK Rs Γ C 39).t P1 (qH (nth Ac.body 2)) ρ' ret
theorem el:me C [qa,qb,some ua,qc,qd,qe]=bind (c6 ua) λz1=>ret z1:=by kernel_rfl
def t4:List Stmt:=k6 (nth Ac.body 2)
def dQ (C:Cf):L3.Env->M Fl:=λρ'=>j4 (evK Rs Γ C 39) P1 t4 ρ' ret
theorem vt:(evK Rs Γ C 40).s P1 (nth Ac.body 2) [qa,qb,qc,qd,qe,qf] κ=bind (u3 (me C) (dQ C) 10000 [qa,qb,qc,qd,qe,qf]) κ:=by kernel_rfl
theorem vL:(evK Rs Γ C 40).s P1 (nth Ac.body 3) [qa,qb,qc,qd,qe,qf] κ=κ (.rt (.bl true)):=by kernel_rfl
theorem cb:t4=[nth t4 0,nth t4 1,nth t4 2,nth t4 3]:=by kernel_rfl
theorem iP:(evK Rs Γ C 39).s P1 (nth t4 0) [qa,qb,some ua,qc,qd,qe] κ=bind (W5 ua) λx1=>bind (D7 (K8 [4,5]) x1 [qa,qb,some ua,qc,qd,qe]) κ:=by kernel_rfl
theorem iI:(evK Rs Γ C 39).s P1 (nth t4 1) [qa,qb,qc,some ua,qd,qe] κ=bind (cW (λi j=>i+j) ua (.int 1)) λx1=>κ (.nx [qa,qb,qc,some x1,qd,qe]):=by kernel_rfl
theorem jB:(evK Rs Γ C 39).s P1 (nth t4 2) [qa,some ua,qb,some ub,some uc,some ud] κ=bind (a5 .Gt ub (.int 20)) λx1=>bind (asB x1) λz2=>if z2=true then (κ (.rt (.bl false))) else (bind (a5 .Gt ud (.int 8)) λx3=>bind (asB x3) λz4=>if z4=true then (κ (.rt (.bl false))) else (bind (C 5 [uc,ua]) λx5=>bind (c6 x5) λz6=>if (!z6)=true then (κ (.rt (.bl false))) else (κ (.nx [qa,some ua,qb,some ub,some uc,some ud])))):=by kernel_rfl
theorem iK:(evK Rs Γ C 39).s P1 (nth t4 3) [qa,qb,some ua,qc,some ub,some uc] κ=bind (lstOf ua) λ_=>bind (nx (bind (C 6 [ub]) λx2=>bind (A7 x2) λsm3=>i0 sm3.1 (λd1=>ret true) (λd1=>bind (j3 uc (.int 1)) λx4=>ret (.tup [d1,x4])) sm3.2 0 [])) λl5=>bind (extD ua [(.lst l5)]) λx6=>κ (.nx [qa,qb,some ua,qc,some ub,some uc]):=by kernel_rfl
theorem nh:runK Rs Γ C oy [ua,ub]=bind (r8 "tuple" (λ_=>false) ua) λx1=>bind (c6 x1) λz2=>if (!z2)=true then (ret (.bl false)) else (bind (A6 ua) λx3=>bind (a5 .Eq x3 (.int 0)) λx4=>bind (asB x4) λz5=>if z5=true then (ret (.bl false)) else (bind (ixD ua (.int 0)) λx6=>bind (r8 "str" (λ_=>false) x6) λx7=>bind (c6 x7) λz8=>if (!z8)=true then (ret (.bl false)) else (bind (ixD ua (.int 0)) λx9=>bind (J9 [("at",(.int 3)),("mark",(.int 2)),("free",(.int 1)),("closed",(.int 1)),("not",(.int 2)),("both",(.int 3)),("either",(.int 3))] x9) λx10=>bind (A6 ua) λx11=>bind (a5 .NotEq x10 x11) λx12=>bind (asB x12) λz13=>if z13=true then (ret (.bl false)) else (bind (a5 .Eq x9 (.str "at")) λx14=>bind (asB x14) λz15=>if z15=true then (bind (ixD ua (.int 1)) λx16=>bind (C 1 [x16,ub]) λx17=>bind (c6 x17) λc18=>if c18=true then (bind (ixD ua (.int 2)) λx19=>bind (C 7 [x19]) λx20=>ret x20) else (ret x17)) else (bind (a5 .NotEq x9 (.str "mark")) λx21=>bind (c6 x21) λc22=>if c22=true then (ret x21) else (bind (ixD ua (.int 1)) λx23=>bind (C 1 [x23,ub]) λx24=>ret x24)))))):=by kernel_rfl
theorem nC:runK Rs Γ C oD [ua]=bind (ixD ua (.int 0)) λx1=>bind (a5 .In x1 (.tup [(.str "not"),(.str "both"),(.str "either")])) λx2=>bind (asB x2) λz3=>if z3=true then (bind (slD ua (some 1) none) λx4=>ret x4) else (ret (.tup [])):=by kernel_rfl
theorem nw:runK Rs Γ C nU [ua]=bind (r8 "tuple" (λ_=>false) ua) λx1=>bind (c6 x1) λz2=>if (!z2)=true then (ret (.bl false)) else (bind (nx (bind (A7 ua) λsm4=>i0 sm4.1 (λd3=>ret true) (λd3=>bind (a5 .In d3 (.tup [(.str "out"),(.str "ask"),(.str "close"),(.str "look"),(.str "holds"),(.str "right"),(.str "down")])) λx5=>ret x5) sm4.2 0 [])) λl6=>bind (ku (.lst l6)) λx7=>bind (c6 x7) λz8=>if (!z8)=true then (ret (.bl false)) else (bind (E8 ua) λx9=>bind (A6 ua) λx10=>bind (a5 .Eq x9 x10) λx11=>ret x11)):=by kernel_rfl
theorem mR:runK Rs Γ C jK [ua]=bind (slD ua none (some 63)) λx1=>bind (bp [((.str "cells"),x1),((.str "at"),(.int 0)),((.str "left"),(.int 0)),((.str "turn"),(.int 0))]) λx2=>ret x2:=by kernel_rfl
theorem kD (C:Cf) (p x:D):runK Rs Γ C ij [p,x]=eD p x:=by kernel_rfl
theorem mQ:runK Rs Γ C jV []=ret (.lst [(.str "out"),(.str "ask"),(.str "close"),(.str "look"),(.str "holds"),(.str "right"),(.str "down")]):=by kernel_rfl
def u5:Lc:=D1 Aa
theorem jv:runK Rs Γ C Aa [ua,ub,uc]=j4 (evK Rs Γ C 40) u5 Aa.body [some ua,some ub,some uc,none,none,none] endD:=by kernel_rfl
theorem mI:Aa.body=[nth Aa.body 0,nth Aa.body 1,nth Aa.body 2,nth Aa.body 3,nth Aa.body 4,nth Aa.body 5,nth Aa.body 6]:=by kernel_rfl
theorem uM:(evK Rs Γ C 40).s u5 (nth Aa.body 0) [some ua,some ub,qa,qb,qc,qd] κ=bind (a5 .Gt ub (.int 0)) λx1=>bind (asB x1) λz2=>if z2=true then (bind (C 9 [ua,(.int 9)]) λx3=>κ (.nx [some ua,some ub,qa,some x3,qc,qd])) else (bind (C 9 [ua,(.int 5)]) λx4=>κ (.nx [some ua,some ub,qa,some x4,qc,qd])):=by kernel_rfl
theorem ra:(evK Rs Γ C 40).s u5 (nth Aa.body 1) [some ua,qa,some ub,some uc,qb,qc] κ=bind (a5 .Lt uc (.int 5)) λx1=>bind (asB x1) λz2=>if z2=true then (bind (a5 .Eq ub (.int 0)) λx3=>bind (asB x3) λz4=>if z4=true then (bind (C 9 [ua,(.int 2)]) λx5=>bind (ixD (.lst [(.tup [(.str "free")]),(.tup [(.str "closed")])]) x5) λx6=>κ (.rt x6)) else (bind (a5 .Eq uc (.int 4)) λx7=>bind (asB x7) λz8=>if z8=true then (bind (C 9 [ua,(.int 2)]) λx9=>bind (ixD (.lst [(.tup [(.str "free")]),(.tup [(.str "closed")])]) x9) λx10=>κ (.rt x10)) else (κ (.nx [some ua,qa,some ub,some uc,qb,qc])))) else (κ (.nx [some ua,qa,some ub,some uc,qb,qc])):=by kernel_rfl
theorem mz:(evK Rs Γ C 40).s u5 (nth Aa.body 2) [some ua,qa,some ub,some uc,qb,qc] κ=bind (a5 .Eq uc (.int 3)) λx1=>bind (asB x1) λz2=>if z2=true then (bind (C 9 [ua,ub]) λx3=>κ (.rt (.tup [(.str "mark"),x3]))) else (κ (.nx [some ua,qa,some ub,some uc,qb,qc])):=by kernel_rfl
theorem mj:(evK Rs Γ C 40).s u5 (nth Aa.body 3) [some ua,qa,some ub,some uc,qb,qc] κ=bind (a5 .Lt uc (.int 3)) λx1=>bind (asB x1) λz2=>if z2=true then (bind (nx (bind (C 10 []) λx4=>bind (A7 x4) λsm5=>i0 sm5.1 (λd3=>bind (C 9 [ua,(.int 3)]) λx6=>bind (a5 .Eq x6 (.int 0)) λx7=>bind (asB x7) λz8=>ret z8) (λd3=>ret d3) sm5.2 0 [])) λl9=>bind (C 9 [ua,(.int 2)]) λx10=>bind (a5 .Eq x10 (.int 0)) λx11=>bind (asB x11) λz12=>if z12=true then (bind (fW (.int 1)) λx13=>bind (eV (.lst l9) x13) λx14=>bind (C 9 [ua,ub]) λx15=>bind (C8 x14) λx16=>κ (.rt (.tup [(.str "at"),x15,x16]))) else (bind (C 9 [ua,ub]) λx17=>bind (C8 (.lst l9)) λx18=>κ (.rt (.tup [(.str "at"),x17,x18])))) else (κ (.nx [some ua,qa,some ub,some uc,qb,qc])):=by kernel_rfl
theorem rJ:(evK Rs Γ C 40).s u5 (nth Aa.body 4) [some ua,some ub,some uc,qa,qb,qc] κ=bind (bB ub (.int 1)) λx1=>bind (C 11 [ua,x1,uc]) λx2=>κ (.nx [some ua,some ub,some uc,qa,qb,some x2]):=by kernel_rfl
theorem tF:(evK Rs Γ C 40).s u5 (nth Aa.body 5) [qa,qb,qc,some ua,qd,some ub] κ=bind (a5 .Lt ua (.int 7)) λx1=>bind (asB x1) λz2=>if z2=true then (κ (.rt (.tup [(.str "not"),ub]))) else (κ (.nx [qa,qb,qc,some ua,qd,some ub])):=by kernel_rfl
theorem rA:(evK Rs Γ C 40).s u5 (nth Aa.body 6) [some ua,some ub,some uc,some ud,qa,some ue] κ=bind (bB ud (.int 7)) λx1=>bind (ixD (.lst [(.str "both"),(.str "either")]) x1) λx2=>bind (bB ub (.int 1)) λx3=>bind (C 11 [ua,x3,uc]) λx4=>κ (.rt (.tup [x2,ue,x4])):=by kernel_rfl
theorem pr:runK Rs Γ C pY [ua,ub]=bind (C 9 [ua,(.int 4)]) λx1=>bind (ixD (.lst [(.str "each"),(.str "some"),(.str "pairs"),(.str "plain")]) x1) λx2=>bind (ixD (.lst [(.int 1),(.int 1),(.int 2),(.int 0)]) x1) λx3=>bind (C 11 [ua,ub,x3]) λx4=>ret (.tup [x2,x4]):=by kernel_rfl
theorem nc:runK Rs Γ C nn [ua]=bind (r8 "int" (λ_=>false) ua) λx1=>bind (c6 x1) λc2=>if c2=true then (bind (r8 "bool" (λ_=>false) ua) λx3=>bind (c6 x3) λc4=>bind (c6 (.bl (!c4))) λc5=>if c5=true then (bind (a5 .In ua (.tup [(.int 0),(.int 1)])) λx6=>ret x6) else (ret (.bl (!c4)))) else (ret x1):=by kernel_rfl
def u8:Lc:=D1 Ab
theorem dm:runK Rs Γ C Ab [ua,ub]=j4 (evK Rs Γ C 40) u8 Ab.body [some ua,some ub,none,none,none,none,none] endD:=by kernel_rfl
theorem eA:Ab.body=[nth Ab.body 0,nth Ab.body 1,nth Ab.body 2,nth Ab.body 3,nth Ab.body 4,nth Ab.body 5,nth Ab.body 6,nth Ab.body 7]:=by kernel_rfl
theorem mW:(evK Rs Γ C 40).s u8 (nth Ab.body 0) [qa,qb,qc,qd,qe,qf,qg] κ=κ (.nx [qa,qb,some (.lst [(.int 1000),(.lst [])]),qd,qe,qf,qg]):=by kernel_rfl
theorem mm:(evK Rs Γ C 40).s u8 (nth Ab.body 1) [some ua,some ub,some uc,qa,qb,qc,qd] κ=bind (a5 .Gt ub (.int 8)) λx1=>bind (asB x1) λz2=>if z2=true then (κ (.rt uc)) else (bind (r8 "tuple" (λ_=>false) ua) λx3=>bind (c6 x3) λz4=>if (!z4)=true then (κ (.rt uc)) else (bind (A6 ua) λx5=>bind (a5 .Eq x5 (.int 0)) λx6=>bind (asB x6) λz7=>if z7=true then (κ (.rt uc)) else (bind (ixD ua (.int 0)) λx8=>bind (r8 "str" (λ_=>false) x8) λx9=>bind (c6 x9) λz10=>if (!z10)=true then (κ (.rt uc)) else (κ (.nx [some ua,some ub,some uc,qa,qb,qc,qd]))))):=by kernel_rfl
theorem rD:(evK Rs Γ C 40).s u8 (nth Ab.body 2) [some ua,qa,qb,qc,qd,qe,qf] κ=bind (bp [((.str "free"),(.int 1)),((.str "closed"),(.int 1)),((.str "not"),(.int 2)),((.str "mark"),(.int 2)),((.str "at"),(.int 3)),((.str "both"),(.int 3)),((.str "either"),(.int 3))]) λx1=>bind (dctOf x1) λ_=>bind (ixD ua (.int 0)) λx2=>bind (getDD x1 [x2]) λx3=>κ (.nx [some ua,qa,qb,some x3,qd,qe,qf]):=by kernel_rfl
theorem sf:(evK Rs Γ C 40).s u8 (nth Ab.body 3) [some ua,qa,some ub,some uc,qb,qc,qd] κ=bind (A6 ua) λx1=>bind (a5 .NotEq uc x1) λx2=>bind (asB x2) λz3=>if z3=true then (κ (.rt ub)) else (κ (.nx [some ua,qa,some ub,some uc,qb,qc,qd])):=by kernel_rfl
theorem uK:(evK Rs Γ C 40).s u8 (nth Ab.body 4) [some ua,qa,some ub,some uc,qb,qc,qd] κ=bind (ixD ua (.int 0)) λx1=>bind (a5 .In x1 (.tup [(.str "mark"),(.str "at")])) λx2=>bind (asB x2) λz3=>if z3=true then (bind (ixD ua (.int 1)) λx4=>bind (C 15 [x4]) λx5=>bind (c6 x5) λz6=>if z6=true then (bind (a5 .Eq uc (.int 2)) λx7=>bind (asB x7) λz8=>if z8=true then (bind (ixD ua (.int 1)) λx9=>κ (.rt (.lst [(.int 1),(.lst [x9])]))) else (bind (ixD ua (.int 2)) λx10=>bind (C 17 [x10]) λx11=>bind (c6 x11) λz12=>if z12=true then (bind (ixD ua (.int 1)) λx13=>κ (.rt (.lst [(.int 1),(.lst [x13])]))) else (κ (.rt ub)))) else (κ (.rt ub))) else (κ (.nx [some ua,qa,some ub,some uc,qb,qc,qd])):=by kernel_rfl
theorem sE:(evK Rs Γ C 40).s u8 (nth Ab.body 5) [qa,qb,qc,qd,qe,qf,qg] κ=κ (.nx [qa,qb,qc,qd,some (.lst [(.int 1),(.lst [])]),qf,qg]):=by kernel_rfl
def z0:List Stmt:=k6 (nth Ab.body 6)
def bV (C:Cf):L3.Env->M Fl:=λρ'=>j4 (evK Rs Γ C 39) u8 z0 ρ' ret
theorem rB:(evK Rs Γ C 40).s u8 (nth Ab.body 6) [some ua,qa,qb,qc,qd,qe,qf] κ=bind (slD ua (some 1) none) λx1=>bind (A7 x1) λsm2=>bind (k8 sm2.1 (λd ρ=>some (ρ.set 5 (some d))) (bV C) sm2.2 0 [some ua,qa,qb,qc,qd,qe,qf]) κ:=by kernel_rfl
theorem tB:(evK Rs Γ C 40).s u8 (nth Ab.body 7) [qa,qb,qc,qd,some ua,qe,qf] κ=κ (.rt ua):=by kernel_rfl
theorem bH:z0=[nth z0 0,nth z0 1]:=by kernel_rfl
theorem fD:(evK Rs Γ C 39).s u8 (nth z0 0) [qa,some ua,qb,qc,qd,some ub,qe] κ=bind (j3 ua (.int 1)) λx1=>bind (C 16 [ub,x1]) λx2=>κ (.nx [qa,some ua,qb,qc,qd,some ub,some x2]):=by kernel_rfl
theorem fu:(evK Rs Γ C 39).s u8 (nth z0 1) [qa,qb,qc,qd,some ua,qe,some ub] κ=bind (ixD ua (.int 0)) λx1=>bind (ixD ub (.int 0)) λx2=>bind (j3 x1 x2) λx3=>bind (ixD ua (.int 1)) λx4=>bind (ixD ub (.int 1)) λx5=>bind (j3 x4 x5) λx6=>κ (.nx [qa,qb,qc,qd,some (.lst [x3,x6]),qe,some ub]):=by kernel_rfl
def fK:Lc:=D1 Ae
theorem pN:runK Rs Γ C Ae [ua]=j4 (evK Rs Γ C 40) fK Ae.body [some ua,none] endD:=by kernel_rfl
theorem nL:Ae.body=[nth Ae.body 0,nth Ae.body 1,nth Ae.body 2]:=by kernel_rfl
theorem uI:(evK Rs Γ C 40).s fK (nth Ae.body 0) [some ua,qa] κ=bind (r8 "tuple" (λ_=>false) ua) λx1=>bind (c6 x1) λz2=>if (!z2)=true then (κ (.rt (.bl false))) else (κ (.nx [some ua,qa])):=by kernel_rfl
def Y3:List Stmt:=k6 (nth Ae.body 1)
def de (C:Cf):L3.Env->M Fl:=λρ'=>j4 (evK Rs Γ C 39) fK Y3 ρ' ret
theorem vM:(evK Rs Γ C 40).s fK (nth Ae.body 1) [some ua,qa] κ=bind (A6 ua) λx1=>bind (u6 [x1]) λsm2=>bind (k8 sm2.1 (λd ρ=>some (ρ.set 1 (some d))) (de C) sm2.2 0 [some ua,qa]) κ:=by kernel_rfl
theorem vp:(evK Rs Γ C 40).s fK (nth Ae.body 2) [qa,qb] κ=κ (.rt (.bl true)):=by kernel_rfl
theorem cm:Y3=[nth Y3 0]:=by kernel_rfl
theorem gu:(evK Rs Γ C 39).s fK (nth Y3 0) [some ua,some ub] κ=bind (ixD ua ub) λx1=>bind (r8 "str" (λ_=>false) x1) λx2=>bind (c6 x2) λz3=>if (!z3)=true then (κ (.rt (.bl false))) else (bind (ixD ua ub) λx4=>bind (C 10 []) λx5=>bind (a5 .NotIn x4 x5) λx6=>bind (asB x6) λz7=>if z7=true then (κ (.rt (.bl false))) else (bind (ixD ua ub) λx8=>bind (X2 ub) λn9=>bind (slD ua none n9) λx10=>bind (a5 .In x8 x10) λx11=>bind (asB x11) λz12=>if z12=true then (κ (.rt (.bl false))) else (κ (.nx [some ua,some ub])))):=by kernel_rfl
def J0:Lc:=D1 dueL_F
theorem ip:runK Rs Γ C dueL_F [ua]=j4 (evK Rs Γ C 40) J0 dueL_F.body [some ua,none,none,none] endD:=by kernel_rfl
theorem jG:dueL_F.body=[nth dueL_F.body 0,nth dueL_F.body 1,nth dueL_F.body 2,nth dueL_F.body 3,nth dueL_F.body 4]:=by kernel_rfl
theorem nv:(evK Rs Γ C 40).s J0 (nth dueL_F.body 0) [some ua,qa,qb,qc] κ=bind (r8 "tuple" (λ_=>false) ua) λx1=>bind (c6 x1) λz2=>if (!z2)=true then (κ (.rt (.bl false))) else (bind (A6 ua) λx3=>bind (a5 .NotEq x3 (.int 2)) λx4=>bind (asB x4) λz5=>if z5=true then (κ (.rt (.bl false))) else (bind (ixD ua (.int 0)) λx6=>bind (r8 "str" (λ_=>false) x6) λx7=>bind (c6 x7) λz8=>if (!z8)=true then (κ (.rt (.bl false))) else (κ (.nx [some ua,qa,qb,qc])))):=by kernel_rfl
theorem oW:(evK Rs Γ C 40).s J0 (nth dueL_F.body 1) [some ua,qa,qb,qc] κ=bind (bp [((.str "each"),(.lst [(.int 0)])),((.str "some"),(.lst [(.int 0)])),((.str "pairs"),(.lst [(.int 0),(.int 1)])),((.str "plain"),(.lst []))]) λx1=>bind (dctOf x1) λ_=>bind (ixD ua (.int 0)) λx2=>bind (getDD x1 [x2]) λx3=>κ (.nx [some ua,some x3,qb,qc]):=by kernel_rfl
theorem nZ:(evK Rs Γ C 40).s J0 (nth dueL_F.body 2) [qa,some ua,qb,qc] κ=bind (a5 .Is ua .non) λx1=>bind (asB x1) λz2=>if z2=true then (κ (.rt (.bl false))) else (κ (.nx [qa,some ua,qb,qc])):=by kernel_rfl
theorem nu:(evK Rs Γ C 40).s J0 (nth dueL_F.body 3) [some ua,qa,qb,qc] κ=bind (ixD ua (.int 1)) λx1=>bind (C 16 [x1,(.int 1)]) λx2=>bind (D7 (P7 [2,3]) x2 [some ua,qa,qb,qc]) κ:=by kernel_rfl
theorem oe:(evK Rs Γ C 40).s J0 (nth dueL_F.body 4) [qa,some ua,some ub,some uc] κ=bind (a5 .LtE ub (.int 20)) λx1=>bind (c6 x1) λc2=>if c2=true then (bind (nx (bind (A7 uc) λsm4=>i0 sm4.1 (λd3=>bind (a5 .NotIn d3 ua) λx5=>bind (asB x5) λz6=>ret z6) (λd3=>ret d3) sm4.2 0 [])) λl7=>bind (a5 .Eq (.lst l7) (.lst [])) λx8=>κ (.rt x8)) else (κ (.rt x1)):=by kernel_rfl
theorem lK:runK Rs Γ C jT [ua]=bind (B1 ua) λx1=>bind (C 3 [ua]) λx2=>bind (B1 x2) λx3=>bind (C 18 [ua]) λx4=>bind (B1 x4) λx5=>bind (a5 .Eq x3 x5) λx6=>bind (c6 x6) λc7=>if c7=true then (bind (B1 ua) λx8=>bind (a5 .Eq x8 x1) λx9=>ret x9) else (ret x6):=by kernel_rfl
def V4:Lc:=D1 Ad
theorem ki:runK Rs Γ C Ad [ua,ub]=j4 (evK Rs Γ C 40) V4 Ad.body [some ua,some ub,none,none] endD:=by kernel_rfl
theorem kw:Ad.body=[nth Ad.body 0,nth Ad.body 1,nth Ad.body 2]:=by kernel_rfl
theorem uE:(evK Rs Γ C 40).s V4 (nth Ad.body 0) [qa,qb,qc,qd] κ=κ (.nx [qa,qb,some (.tup [(.str "closed")]),qd]):=by kernel_rfl
def M9:List Stmt:=k6 (nth Ad.body 1)
def aY (C:Cf):L3.Env->M Fl:=λρ'=>j4 (evK Rs Γ C 39) V4 M9 ρ' ret
theorem sF:(evK Rs Γ C 40).s V4 (nth Ad.body 1) [qa,some ua,qb,qc] κ=bind (bB ua (.int 1)) λx1=>bind (u6 [x1]) λsm2=>bind (k8 sm2.1 (λd ρ=>some (ρ.set 3 (some d))) (aY C) sm2.2 0 [qa,some ua,qb,qc]) κ:=by kernel_rfl
theorem tI:(evK Rs Γ C 40).s V4 (nth Ad.body 2) [qa,qb,some ua,qc] κ=κ (.rt ua):=by kernel_rfl
theorem aj:M9=[nth M9 0]:=by kernel_rfl
theorem eU:(evK Rs Γ C 39).s V4 (nth M9 0) [some ua,qa,some ub,qb] κ=bind (C 9 [ua,(.int 3)]) λx1=>bind (ixD (.lst [(.tup [(.str "not"),ub]),(.tup [(.str "both"),(.tup [(.str "free")]),ub]),(.tup [(.str "either"),ub,(.tup [(.str "free")])])]) x1) λx2=>κ (.nx [some ua,qa,some x2,qb]):=by kernel_rfl
def c9:Lc:=D1 law_F
theorem mC:runK Rs Γ C law_F [ua]=j4 (evK Rs Γ C 40) c9 law_F.body [some ua,none,none,none,none,none,none,none,none,none,none,none,none,none] endD:=by kernel_rfl
theorem lJ:law_F.body=[nth law_F.body 0,nth law_F.body 1,nth law_F.body 2,nth law_F.body 3,nth law_F.body 4,nth law_F.body 5,nth law_F.body 6,nth law_F.body 7]:=by kernel_rfl
theorem rR:(evK Rs Γ C 40).s c9 (nth law_F.body 0) [some ua,qa,qb,qc,qd,qe,qf,qg,qh,qi,qj,qk,ql,qm] κ=bind (C 8 [ua]) λx1=>κ (.nx [some ua,some x1,qb,qc,qd,qe,qf,qg,qh,qi,qj,qk,ql,qm]):=by kernel_rfl
def k9:List Stmt:=k6 (nth law_F.body 1)
def bY (C:Cf):L3.Env->M Fl:=λρ'=>j4 (evK Rs Γ C 39) c9 k9 ρ' ret
theorem sj:(evK Rs Γ C 40).s c9 (nth law_F.body 1) [qa,qb,qc,qd,qe,qf,qg,qh,qi,qj,qk,ql,qm,qn] κ=bind (u6 [(.int 8)]) λsm1=>bind (k8 sm1.1 (λd ρ=>some (ρ.set 2 (some d))) (bY C) sm1.2 0 [qa,qb,qc,qd,qe,qf,qg,qh,qi,qj,qk,ql,qm,qn]) κ:=by kernel_rfl
def b6:List Stmt:=k6 (nth law_F.body 2)
def R5 (C:Cf):L3.Env->M Fl:=λρ'=>j4 (evK Rs Γ C 39) c9 b6 ρ' ret
theorem tE:(evK Rs Γ C 40).s c9 (nth law_F.body 2) [qa,qb,qc,qd,qe,qf,qg,qh,qi,qj,qk,ql,qm,qn] κ=bind (A7 (.lst [(.str "each"),(.str "some"),(.str "pairs"),(.str "plain"),(.str "every")])) λsm1=>bind (k8 sm1.1 (λd ρ=>some (ρ.set 7 (some d))) (R5 C) sm1.2 0 [qa,qb,qc,qd,qe,qf,qg,qh,qi,qj,qk,ql,qm,qn]) κ:=by kernel_rfl
theorem sA:(evK Rs Γ C 40).s c9 (nth law_F.body 3) [qa,qb,qc,qd,qe,qf,qg,qh,qi,qj,qk,ql,qm,qn] κ=bind (C 21 [(.int 19)]) λx1=>κ (.nx [qa,qb,qc,qd,qe,qf,qg,qh,qi,qj,qk,ql,some (.tup [(.str "not"),x1]),qn]):=by kernel_rfl
theorem sn:(evK Rs Γ C 40).s c9 (nth law_F.body 4) [qa,qb,qc,qd,qe,qf,qg,qh,qi,qj,qk,ql,qm,qn] κ=κ (.nx [qa,qb,qc,qd,qe,qf,qg,qh,qi,qj,qk,ql,qm,some (.lst [(.tup [(.str "each"),(.tup [(.str "at"),(.int 0),(.tup [(.str "out"),(.str "out")])])]),(.tup [(.str "each"),(.tup [(.str "at"),(.int 0),(.lst [(.str "out")])])]),(.tup [(.str "each"),(.tup [(.str "at"),(.int 0),(.tup [(.lst [(.str "out")])])])])])]):=by kernel_rfl
theorem qW:(evK Rs Γ C 40).s c9 (nth law_F.body 5) [qa,qb,qc,qd,qe,qf,qg,qh,qi,qj,qk,ql,qm,some ua] κ=bind (j3 ua (.lst [(.tup [(.str "each"),(.tup [(.str "mark"),(.lst [])])]),(.tup [(.str "each"),(.tup [(.str "mark"),(.bl true)])]),(.tup [(.lst [(.str "each")]),(.tup [(.str "free")])]),(.tup [(.str "each"),(.tup [(.lst [])])])])) λx1=>κ (.nx [qa,qb,qc,qd,qe,qf,qg,qh,qi,qj,qk,ql,qm,some x1]):=by kernel_rfl
theorem rF:(evK Rs Γ C 40).s c9 (nth law_F.body 6) [qa,qb,qc,qd,qe,qf,qg,qh,qi,qj,qk,ql,qm,some ua] κ=bind (nx (bind (A7 ua) λsm2=>i0 sm2.1 (λd1=>ret true) (λd1=>bind (C 3 [d1]) λx3=>ret x3) sm2.2 0 [])) λl4=>bind (lX (.lst l4)) λx5=>bind (c6 x5) λz6=>if z6=true then (κ (.rt (.bl false))) else (κ (.nx [qa,qb,qc,qd,qe,qf,qg,qh,qi,qj,qk,ql,qm,some ua])):=by kernel_rfl
theorem sP:(evK Rs Γ C 40).s c9 (nth law_F.body 7) [qa,qb,qc,qd,qe,qf,qg,qh,qi,qj,qk,ql,some ua,qm] κ=bind (C 3 [(.tup [(.str "each"),ua])]) λx1=>bind (a5 .Is x1 (.bl true)) λx2=>bind (c6 x2) λc3=>if c3=true then (bind (C 3 [(.tup [(.str "each"),(.tup [(.str "not"),ua])])]) λx4=>bind (a5 .Is x4 (.bl false)) λx5=>κ (.rt x5)) else (κ (.rt x2)):=by kernel_rfl
theorem aZ:k9=[nth k9 0,nth k9 1,nth k9 2]:=by kernel_rfl
theorem fk:(evK Rs Γ C 39).s c9 (nth k9 0) [qa,some ua,qb,qc,qd,qe,qf,qg,qh,qi,qj,qk,ql,qm] κ=bind (C 9 [ua,(.int 3)]) λx1=>bind (j3 (.int 1) x1) λx2=>bind (C 12 [ua,x2]) λx3=>κ (.nx [qa,some ua,qb,some x3,qd,qe,qf,qg,qh,qi,qj,qk,ql,qm]):=by kernel_rfl
theorem eR:(evK Rs Γ C 39).s c9 (nth k9 1) [qa,qb,qc,some ua,qd,qe,qf,qg,qh,qi,qj,qk,ql,qm] κ=bind (C 19 [ua]) λx1=>bind (c6 x1) λz2=>if (!z2)=true then (κ (.rt (.bl false))) else (κ (.nx [qa,qb,qc,some ua,qd,qe,qf,qg,qh,qi,qj,qk,ql,qm])):=by kernel_rfl
def d6:List Stmt:=k6 (nth k9 2)
def D6 (C:Cf):L3.Env->M Fl:=λρ'=>j4 (evK Rs Γ C 38) c9 d6 ρ' ret
theorem fJ:(evK Rs Γ C 39).s c9 (nth k9 2) [qa,qb,qc,qd,qe,qf,qg,qh,qi,qj,qk,ql,qm,qn] κ=bind (u6 [(.int 6)]) λsm1=>bind (k8 sm1.1 (λd ρ=>some (ρ.set 4 (some d))) (D6 C) sm1.2 0 [qa,qb,qc,qd,qe,qf,qg,qh,qi,qj,qk,ql,qm,qn]) κ:=by kernel_rfl
theorem av:b6=[nth b6 0,nth b6 1,nth b6 2,nth b6 3,nth b6 4,nth b6 5,nth b6 6,nth b6 7,nth b6 8]:=by kernel_rfl
theorem fI:(evK Rs Γ C 39).s c9 (nth b6 0) [qa,qb,qc,qd,qe,qf,qg,qh,qi,qj,qk,ql,qm,qn] κ=bind (newL [(.tup [(.str "mark"),(.int 0)]),(.tup [(.str "mark"),(.int 1)]),(.tup [(.str "at"),(.int 0),(.tup [])]),(.tup [(.str "at"),(.int 1),(.tup [(.str "out"),(.str "down")])]),(.tup [(.str "free")]),(.tup [(.str "not"),(.tup [(.str "mark"),(.int 1)])])]) λx1=>κ (.nx [qa,qb,qc,qd,qe,qf,qg,qh,some x1,qj,qk,ql,qm,qn]):=by kernel_rfl
theorem fU:(evK Rs Γ C 39).s c9 (nth b6 1) [qa,qb,qc,qd,qe,qf,qg,qh,some ua,qi,qj,qk,ql,qm] κ=bind (C 10 []) λx1=>bind (C8 x1) λx2=>bind (C 10 []) λx3=>bind (fW (.int 1)) λx4=>bind (eV x3 x4) λx5=>bind (C8 x5) λx6=>bind (cr ua (.lst [(.tup [(.str "at"),(.int 0),x2]),(.tup [(.str "at"),(.int 0),x6])])) λx7=>κ (.nx [qa,qb,qc,qd,qe,qf,qg,qh,some x7,qi,qj,qk,ql,qm]):=by kernel_rfl
theorem fo:(evK Rs Γ C 39).s c9 (nth b6 2) [qa,qb,qc,qd,qe,qf,qg,qh,some ua,qi,qj,qk,ql,qm] κ=bind (cr ua (.lst [(.tup [(.str "both"),(.tup [(.str "free")]),(.tup [(.str "mark"),(.int 1)])]),(.tup [(.str "either"),(.tup [(.str "closed")]),(.tup [(.str "not"),(.tup [(.str "at"),(.int 0),(.tup [])])])])])) λx1=>κ (.nx [qa,qb,qc,qd,qe,qf,qg,qh,some x1,qi,qj,qk,ql,qm]):=by kernel_rfl
theorem fS:(evK Rs Γ C 39).s c9 (nth b6 3) [qa,qb,qc,qd,qe,qf,qg,qh,some ua,qi,qj,qk,ql,qm] κ=bind (lstOf ua) λ_=>bind (cS ua [(.tup [(.str "not"),(.tup [(.str "both"),(.tup [(.str "mark"),(.int 0)]),(.tup [(.str "mark"),(.int 1)])])])]) λx1=>κ (.nx [qa,qb,qc,qd,qe,qf,qg,qh,some ua,qi,qj,qk,ql,qm]):=by kernel_rfl
theorem eS:(evK Rs Γ C 39).s c9 (nth b6 4) [qa,some ua,qb,qc,qd,qe,qf,qg,some ub,qh,qi,qj,qk,ql] κ=bind (lstOf ub) λ_=>bind (C 9 [ua,(.int 3)]) λx1=>bind (j3 (.int 1) x1) λx2=>bind (C 9 [ua,(.int 3)]) λx3=>bind (C 11 [ua,x2,x3]) λx4=>bind (cS ub [x4]) λx5=>κ (.nx [qa,some ua,qb,qc,qd,qe,qf,qg,some ub,qh,qi,qj,qk,ql]):=by kernel_rfl
def n8:List Stmt:=k6 (nth b6 5)
def D9 (C:Cf):L3.Env->M Fl:=λρ'=>j4 (evK Rs Γ C 38) c9 n8 ρ' ret
theorem eY:(evK Rs Γ C 39).s c9 (nth b6 5) [qa,qb,qc,qd,qe,qf,qg,qh,some ua,qi,qj,qk,ql,qm] κ=bind (A7 ua) λsm1=>bind (k8 sm1.1 (λd ρ=>some (ρ.set 9 (some d))) (D9 C) sm1.2 0 [qa,qb,qc,qd,qe,qf,qg,qh,some ua,qi,qj,qk,ql,qm]) κ:=by kernel_rfl
theorem fg:(evK Rs Γ C 39).s c9 (nth b6 6) [qa,some ua,qb,qc,qd,qe,qf,some ub,qg,qh,qi,qj,qk,ql] κ=bind (nx (bind (A7 (.tup [(.int 1),(.int 8),(.int 9)])) λsm2=>i0 sm2.1 (λd1=>ret true) (λd1=>bind (C 20 [ua,d1]) λx3=>bind (C 3 [(.tup [ub,x3])]) λx4=>ret x4) sm2.2 0 [])) λl5=>κ (.nx [qa,some ua,qb,qc,qd,qe,qf,some ub,qg,qh,some (.lst l5),qj,qk,ql]):=by kernel_rfl
theorem fX:(evK Rs Γ C 39).s c9 (nth b6 7) [qa,qb,qc,qd,qe,qf,qg,some ua,qh,qi,qj,qk,ql,qm] κ=bind (nx (bind (A7 (.tup [(.int 19),(.int 21)])) λsm2=>i0 sm2.1 (λd1=>ret true) (λd1=>bind (C 21 [d1]) λx3=>bind (C 3 [(.tup [ua,x3])]) λx4=>ret x4) sm2.2 0 [])) λl5=>κ (.nx [qa,qb,qc,qd,qe,qf,qg,some ua,qh,qi,qj,some (.lst l5),ql,qm]):=by kernel_rfl
theorem fh:(evK Rs Γ C 39).s c9 (nth b6 8) [qa,qb,qc,qd,qe,qf,qg,some ua,qh,qi,some ub,some uc,qj,qk] κ=bind (a5 .NotEq ua (.str "every")) λx1=>bind (M0 (.lst [x1]) (.int 2)) λx2=>bind (j3 x2 (.lst [(.bl false)])) λx3=>bind (a5 .NotEq ub x3) λx4=>bind (asB x4) λz5=>if z5=true then (κ (.rt (.bl false))) else (bind (a5 .NotIn ua (.tup [(.str "every"),(.str "plain")])) λx6=>bind (a5 .NotEq uc (.lst [x6,(.bl false)])) λx7=>bind (asB x7) λz8=>if z8=true then (κ (.rt (.bl false))) else (κ (.nx [qa,qb,qc,qd,qe,qf,qg,some ua,qh,qi,some ub,some uc,qj,qk]))):=by kernel_rfl
theorem L9:d6=[nth d6 0,nth d6 1,nth d6 2]:=by kernel_rfl
theorem U4:(evK Rs Γ C 38).s c9 (nth d6 0) [qa,some ua,qb,some ub,qc,qd,qe,qf,qg,qh,qi,qj,qk,ql] κ=bind (C 14 [ua,ub]) λx1=>κ (.nx [qa,some ua,qb,some ub,qc,some x1,qe,qf,qg,qh,qi,qj,qk,ql]):=by kernel_rfl
def i7:List Stmt:=k6 (nth d6 1)
def t6 (C:Cf):L3.Env->M Fl:=λρ'=>j4 (evK Rs Γ C 37) c9 i7 ρ' ret
theorem T7:(evK Rs Γ C 38).s c9 (nth d6 1) [qa,some ua,qb,qc,qd,qe,qf,qg,qh,qi,qj,qk,ql,qm] κ=bind (C 9 [ua,(.int 4)]) λx1=>bind (ixD (.lst [(.int 0),(.int 0),(.int 1),(.int 2)]) x1) λx2=>bind (u6 [x2]) λsm3=>bind (k8 sm3.1 (λd ρ=>some (ρ.set 6 (some d))) (t6 C) sm3.2 0 [qa,some ua,qb,qc,qd,qe,qf,qg,qh,qi,qj,qk,ql,qm]) κ:=by kernel_rfl
theorem U0:(evK Rs Γ C 38).s c9 (nth d6 2) [qa,qb,qc,qd,qe,some ua,qf,qg,qh,qi,qj,qk,ql,qm] κ=bind (C 19 [ua]) λx1=>bind (c6 x1) λz2=>if (!z2)=true then (κ (.rt (.bl false))) else (bind (C 19 [(.tup [(.str "each"),ua])]) λx3=>bind (c6 x3) λz4=>if (!z4)=true then (κ (.rt (.bl false))) else (bind (C 19 [(.tup [(.str "pairs"),ua])]) λx5=>bind (c6 x5) λz6=>if (!z6)=true then (κ (.rt (.bl false))) else (κ (.nx [qa,qb,qc,qd,qe,some ua,qf,qg,qh,qi,qj,qk,ql,qm])))):=by kernel_rfl
theorem L7:n8=[nth n8 0]:=by kernel_rfl
theorem T8:(evK Rs Γ C 38).s c9 (nth n8 0) [qa,qb,qc,qd,qe,qf,qg,some ua,qh,some ub,qi,qj,qk,ql] κ=bind (C 19 [(.tup [ua,ub])]) λx1=>bind (c6 x1) λz2=>if (!z2)=true then (κ (.rt (.bl false))) else (κ (.nx [qa,qb,qc,qd,qe,qf,qg,some ua,qh,some ub,qi,qj,qk,ql])):=by kernel_rfl
theorem A5:i7=[nth i7 0]:=by kernel_rfl
theorem E1:(evK Rs Γ C 37).s c9 (nth i7 0) [qa,some ua,qb,qc,qd,some ub,qe,qf,qg,qh,qi,qj,qk,ql] κ=bind (C 14 [ua,ub]) λx1=>κ (.nx [qa,some ua,qb,qc,qd,some x1,qe,qf,qg,qh,qi,qj,qk,ql]):=by kernel_rfl
end
theorem M7 {ns:List Int} {p N m:Nat} {S:Sto} (h:Fw ns p (N+1) S) (hm:0<m) (hm2:m<1073741824) (k:Nat):Ok (rn (k+1) j7 [.ref p,.int (m:Int)]) S λd S'=>∃ r:Nat,d=.int (r:Int)/\r<m/\Fw ns p N S'/\S'.length=S.length/\∀ q,q≠p->S'[q]?=S[q]?:=by
 rw [rn,a7 (fd:=ij) rfl,kD];exact iB h hm hm2
def Kp (p:Nat) (S S':Sto):Prop:=S'.length=S.length/\∀ q,q≠p->S'[q]?=S[q]?
theorem Kp.tr {p:Nat} {S T U:Sto} (a:Kp p S T) (b:Kp p T U):Kp p S U:=⟨b.1.trans a.1,λq h=>(b.2 q h).trans (a.2 q h)⟩
theorem y9 {ns:List Int} {p N m:Nat} {S:Sto} {ds:List D} (h:Fw ns p (N+1) S) (hm:0<m) (hl:ds.length=m) (hm2:m<1000000) (k:Nat):Ok (bind (rn (k+1) j7 [.ref p,.int (m:Int)]) λi=>bind (ixD (.lst ds) i) ret) S λd S'=>d∈ds/\Fw ns p N S'/\Kp p S S':=by
 refine Ok.bind ((M7 h hm (by omega) k).mono ?_);rintro _ S1 ⟨r,rfl,hr,f1,l1,k1⟩;have hr':r<ds.length:=by omega
 exact Ok.eq (aD S1 (As hr')) (Ok.ret ⟨AI hr',f1,l1,k1⟩)
section
variable (C:Cf) (p:D) (ds:List D)
def odds:List D:=[.non,.bl true,.bl false,.int (-1),.int 0,.int 1,.int 2,.int 6,.int 1000000000000000000000000000000000000000,.str "",.str "out",.str "ask",.str "holds",.str "down",.tup [],.lst [],.lst [.str "out"],.tup [.str "out"]]
theorem lB:runK Rs Γ C cy [p]=bind (C j7 [p,.int 18]) λi=>bind (ixD (.lst odds) i) ret:=by kernel_rfl
def bIn:M D:=bind (C j7 [p,.int ds.length]) λat_=>bind (X2 at_) λu=>bind (slD (.tup ds) none u) λh=>bind (ixD (.tup ds) at_) λy=>bind (C cV [p,y]) λy2=>bind (j3 h (.tup [y2])) λh2=>bind (j3 at_ (.int 1)) λa1=>bind (X2 a1) λl=>bind (slD (.tup ds) l none) λr=>bind (j3 h2 r) ret
def dF:M D:=bind (j3 (.tup ds) (.tup (m7 ds (some (-1)) none))) λm2=>bind (j3 (.tup ds) (.tup [.int 0])) λm4=>bind (C p8 [p]) λo=>bind (C j7 [p,.int 8]) λi=>bind (ixD (.lst [.lst ds,.tup (m7 ds (some 1) none),m2,.tup ds.reverse,m4,.tup [],.tup [.tup ds],o]) i) ret
theorem gC:runK Rs Γ C n0 [p,.tup ds]=bind (a5 .NotEq (.tup ds) (.tup [])) λe=>bind (asB e) λz=>if z=true then (bind (C j7 [p,.int 5]) λq=>bind (a5 .Gt q (.int 0)) λe=>bind (asB e) λz=>if z=true then bIn C p ds else dF C p ds) else dF C p ds:=by kernel_rfl
theorem nE:runK Rs Γ C n0 [p,.bl true]=bind (C p8 [p]) λo=>bind (C j7 [p,.int 3]) λi=>bind (ixD (.lst [.bl false,.int 1,o]) i) ret:=by kernel_rfl
theorem nO:runK Rs Γ C n0 [p,.bl false]=bind (C p8 [p]) λo=>bind (C j7 [p,.int 3]) λi=>bind (ixD (.lst [.bl true,.int 0,o]) i) ret:=by kernel_rfl
theorem iX:runK Rs Γ C n0 [p,.non]=bind (C p8 [p]) ret:=by kernel_rfl
theorem hG:runK Rs Γ C n0 [p,.lst ds]=bind (C p8 [p]) ret:=by kernel_rfl
theorem gm (i:Int):runK Rs Γ C n0 [p,.int i]=bind (kc (.int i)) λs=>bind (C p8 [p]) λo=>bind (C j7 [p,.int 8]) λn=>bind (ixD (.lst [.int (i+1),.int (i-1),.bl (decide (i=1)),s,.non,.int 5,.int 6,o]) n) ret:=by kernel_rfl
def words:List D:=[.str "out",.str "ask",.str "close",.str "look",.str "holds",.str "right",.str "down"]
theorem gk (x:Str):runK Rs Γ C n0 [p,.str x]=bind (j3 (.str x) (.str "x")) λs1=>bind (O8 (.str x)) λs2=>bind (C p8 [p]) λo=>bind (C j7 [p,.int 10]) λn=>bind (ixD (.lst (words++[s1,s2,o])) n) ret:=by kernel_rfl
end
theorem iE:odds.all (smB 1 100)=true:=by decide +kernel
theorem C6 {ns:List Int} {p N:Nat} {S:Sto} (h:Fw ns p (N+1) S) (k:Nat):Ok (rn (k+2) p8 [.ref p]) S λd S'=>(Pln 0 d/\dp d<=1/\sz d<=100)/\Fw ns p N S'/\Kp p S S':=by
 rw [rn,a7 (fd:=cy) rfl,lB];refine (y9 (m:=18) h (by omega) rfl (by omega) k).mono ?_;rintro d S' ⟨hd,f,g⟩;exact ⟨k4 (Ay.mp iE d hd),f,g⟩
structure Bt (j:Nat) (d d':D):Prop where
 pl:Pln (j+1) d'
 dp:dp d'<=dp d+1
 sz:sz d'<=2 * sz d+500
theorem Bt.odd {j:Nat} {d o:D} (h:Pln 0 o/\L3.dp o<=1/\L3.sz o<=100):Bt j d o:=⟨h.1.ups,by omega,by omega⟩
theorem du {ns:List Int} {p N j:Nat} {S:Sto} {ds:List D} (h:Fw ns p (N+2) S) (pl:Plns j ds) (hz:szs ds<=1000000) (k:Nat):Ok (dF (rn (k+2)) (.ref p) ds) S λd' S'=>Bt j (.tup ds) d'/\Fw ns p N S'/\Kp p S S':=by
 have len:=M8 ds;have pu:=Plns.up ds pl;unfold dF;have s1:=dd ds (some (-1)) none;have s2:=dd ds (some 1) none;have z1:=dt s1;have z2:=dt s2;have l1:=s1.length_le;refine Ok.eq (cat_tup (by rw [AK];omega)) (Ok.eq (cat_tup (by rw [AK];simp;omega)) (Ok.bind ((C6 (N:=N+1) h k).mono ?_)));rintro o S1 ⟨ho,f1,g1⟩;refine (y9 (m:=8) f1 (by omega) rfl (by omega) (k+1)).mono ?_;rintro d' S2 ⟨hd,f2,g2⟩;refine ⟨?_,f2,g1.tr g2⟩;have D0:dp (.tup ds)=dps ds+1:=rfl;have Z0:sz (.tup ds)=szs ds+3:=rfl;simp only [Ar,AH,Br] at hd;rcases hd with rfl | rfl | rfl | rfl | rfl | rfl | rfl | rfl
 ·exact ⟨pu,by show dps ds+1<=_;omega,by show szs ds+3<=_;omega⟩
 ·exact ⟨pu.sub λd hd=>s2.subset hd,by have:=Y6 λd hd=>s2.subset hd;show dps _+1<=_;omega,by show szs _+3<=_;omega⟩
 ·have sub:∀ d∈ds++m7 ds (some (-1)) none,d∈ds:=λd hd=>by
   rcases Ax.mp hd with q | q
   ·exact q
   ·exact s1.subset q
  exact ⟨pu.sub sub,by have:=Y6 sub;show dps _+1<=_;omega,by show szs _+3<=_;rw [u0];omega⟩
 ·have sub:∀ d∈ds.reverse,d∈ds:=λd hd=>List.mem_reverse.mp hd;exact ⟨pu.sub sub,by have:=Y6 sub;show dps _+1<=_;omega,by show szs _+3<=_;rw [dW];omega⟩
 ·refine ⟨Plns.of λd hd=>?_,?_,?_⟩
  ·rcases Ax.mp hd with q | q
   ·exact pu.mem d q
   ·rw [AB.mp q];exact AO _
  ·have:dps (ds++[.int 0])<=dps ds:=P0 λd hd=>by
    rcases Ax.mp hd with q | q
    ·exact y7 q
    ·rw [AB.mp q];exact AO _
   show dps _+1<=_;omega
  ·show szs _+3<=_;rw [u0];show szs ds+(60+2+0)+3<=_;omega
 ·exact ⟨trivial,by show 0+1<=_;omega,by show 0+3<=_;omega⟩
 ·exact ⟨⟨pu,trivial⟩,by show max (dps ds+1) 0+1<=_;omega,by show szs ds+3+2+0+3<=_;omega⟩
 ·exact Bt.odd ho
theorem eG {ns:List Int} {p:Nat}:∀ (k:Nat) (d:D) (j N:Nat) (S:Sto),Pln j d->dp d<=k->dp d<=3+j->j<=40->sz d<=1000000->Fw ns p (N+4 * (k+1)) S->Ok (rn (k+3) cV [.ref p,d]) S λd' S'=>Bt j d d'/\Fw ns p N S'/\Kp p S S'
 | k,.non,j,N,S,pl,hd,hdj,hj,hz,h=>by
  rw [rn,a7 (fd:=n0) rfl,iX];refine Ok.bind ((C6 (N:=N) (h.less (by omega)) k).mono ?_);rintro o S1 ⟨ho,f1,g1⟩;exact Ok.ret ⟨Bt.odd ho,f1,g1⟩
 | k,.lst ds,j,N,S,pl,hd,hdj,hj,hz,h=>by
  rw [rn,a7 (fd:=n0) rfl,hG];refine Ok.bind ((C6 (N:=N) (h.less (by omega)) k).mono ?_);rintro o S1 ⟨ho,f1,g1⟩;exact Ok.ret ⟨Bt.odd ho,f1,g1⟩
 | k,.bl b,j,N,S,pl,hd,hdj,hj,hz,h=>by
  have mem:∀ d∈([.bl false,.bl true,.int 0,.int 1]:List D),Bt j (.bl b) d:=λd hd=>Bt.odd (k4 (Ay.mp (show ([.bl false,.bl true,.int 0,.int 1]:List D).all (smB 1 100)=true by decide +kernel) d hd));cases b with
  | true=>
   rw [rn,a7 (fd:=n0) rfl,nE];refine Ok.bind ((C6 (N:=N+1) (h.less (by omega)) k).mono ?_);rintro o S1 ⟨ho,f1,g1⟩;refine (y9 (m:=3) f1 (by omega) rfl (by omega) (k+1)).mono ?_;rintro d' S2 ⟨hd,f2,g2⟩;refine ⟨?_,f2,g1.tr g2⟩;simp only [Ar,AH,Br] at hd;rcases hd with rfl | rfl | rfl
   ·exact mem _ (by simp)
   ·exact mem _ (by simp)
   ·exact Bt.odd ho
  | false=>
   rw [rn,a7 (fd:=n0) rfl,nO];refine Ok.bind ((C6 (N:=N+1) (h.less (by omega)) k).mono ?_);rintro o S1 ⟨ho,f1,g1⟩;refine (y9 (m:=3) f1 (by omega) rfl (by omega) (k+1)).mono ?_;rintro d' S2 ⟨hd,f2,g2⟩;refine ⟨?_,f2,g1.tr g2⟩;simp only [Ar,AH,Br] at hd;rcases hd with rfl | rfl | rfl
   ·exact mem _ (by simp)
   ·exact mem _ (by simp)
   ·exact Bt.odd ho
 | k,.int i,j,N,S,pl,hd,hdj,hj,hz,h=>by
  rw [rn,a7 (fd:=n0) rfl,gm];have pl:i.natAbs<=t8 j:=pl;have lg:=AS (dZ pl (by omega));have Z0:sz (.int i)=60:=rfl;have hl:(Str.ofString (toString i)).length<=41:=by
   have e:=int_text_length_le10 (k:=40) (a:=i) (by decide) (by unfold t8 at pl;omega);rw [PySem.ofString_length];omega
  refine Ok.eq (show kc (.int i) S=.ok (.str (Str.ofString (toString i))) S by
   show (if i.natAbs.log2<1920 then ret (D.str (toString i)) else bad) S=_;rw [if_pos lg];rfl) (Ok.bind ((C6 (N:=N+1) (h.less (by omega)) k).mono ?_))
  rintro o S1 ⟨ho,f1,g1⟩;refine (y9 (m:=8) f1 (by omega) rfl (by omega) (k+1)).mono ?_;rintro d' S2 ⟨hd,f2,g2⟩;refine ⟨?_,f2,g1.tr g2⟩;simp only [Ar,AH,Br] at hd;rcases hd with rfl | rfl | rfl | rfl | rfl | rfl | rfl | rfl
  ·exact ⟨by show (i+1).natAbs<=t8 (j+1);unfold t8 at *;omega,AO _,by show 60<=_;omega⟩
  ·exact ⟨by show (i-1).natAbs<=t8 (j+1);unfold t8 at *;omega,AO _,by show 60<=_;omega⟩
  ·exact ⟨trivial,AO _,by show 5<=_;omega⟩
  ·exact ⟨⟨by omega,kf i⟩,AO _,by show 10 * _+2<=_;omega⟩
  ·exact Bt.odd ⟨trivial,AO _,by decide⟩
  ·exact Bt.odd (k4 (by decide +kernel))
  ·exact Bt.odd (k4 (by decide +kernel))
  ·exact Bt.odd ho
 | k,.str x,j,N,S,pl,hd,hdj,hj,hz,h=>by
  rw [rn,a7 (fd:=n0) rfl,gk];have pl:x.length<=45+j/\Asc x:=pl;obtain ⟨p1,p2⟩:=pl;have Z0:sz (.str x)=10 * x.length+2:=rfl;have lx:("x" : Str).length=1:=by decide +kernel
  have ax:Asc ("x" : Str):=by unfold Asc;decide +kernel
  refine Ok.eq (show j3 (.str x) (.str "x") S=.ok (.str (x ++ "x")) S by
   show (if x.length+("x" : Str).length<=sizeLine then ret (D.str (x ++ "x")) else bad) S=_;rw [if_pos (by rw [lx,AK];omega)];rfl) (Ok.eq (show O8 (.str x) S=.ok (.str (Txt.upper x)) S by
   show (if (Txt.upper x).length<=sizeLine then ret (D.str (Txt.upper x)) else bad) S=_;rw [if_pos (by rw [(X4 p2).2,AK];omega)];rfl) (Ok.bind ((C6 (N:=N+1) (h.less (by omega)) k).mono ?_)))
  rintro o S1 ⟨ho,f1,g1⟩;refine (y9 (m:=10) f1 (by omega) rfl (by omega) (k+1)).mono ?_;rintro d' S2 ⟨hd,f2,g2⟩;refine ⟨?_,f2,g1.tr g2⟩;rcases Ax.mp hd with q | q
  ·exact Bt.odd (k4 (Ay.mp (show words.all (smB 1 100)=true by decide +kernel) d' q))
  ·simp only [Ar,AH,Br] at q;rcases q with rfl | rfl | rfl
   ·exact ⟨⟨by rw [eL,lx];omega,lf p2 ax⟩,AO _,by show 10 * _+2<=_;rw [eL,lx];omega⟩
   ·exact ⟨⟨by rw [(X4 p2).2];omega,(X4 p2).1⟩,AO _,by show 10 * _+2<=_;rw [(X4 p2).2];omega⟩
   ·exact Bt.odd ho
 | k,.tup ds,j,N,S,pl,hd,hdj,hj,hz,h=>by
  have pl:Plns j ds:=pl;have hd:dps ds+1<=k:=hd;have hdj:dps ds+1<=3+j:=hdj;have hz:szs ds+3<=1000000:=hz;have len:=M8 ds;have D0:dp (.tup ds)=dps ds+1:=rfl;have Z0:sz (.tup ds)=szs ds+3:=rfl;rw [rn,a7 (fd:=n0) rfl,gC];refine Ok.eq (cY (j:=j) (N:=1000000) ⟨pl,hdj,hz⟩ hj S) (Ok.eq (e9 _ S) ?_);by_cases he:ds=[]
  ·subst he;rw [if_neg (by simp)];exact du (h.less (by omega)) pl (by omega) k
  ·have hp:0<ds.length:=List.length_pos_iff.mpr he;rw [if_pos (by simp [he])];refine Ok.bind ((M7 (m:=5) (N:=N+4 * k+3) (h.less (by omega)) (by omega) (by omega) (k+1)).mono ?_);rintro _ S1 ⟨q,rfl,hq,f1,l1,k1⟩;have g1:Kp p S S1:=⟨l1,k1⟩;refine Ok.eq (show a5 .Gt (.int (q:Int)) (.int 0) S1=.ok (.bl (decide ((0:Int)<(q:Int)))) S1 from rfl) (Ok.eq (e9 _ S1) ?_);by_cases hz2:(0:Int)<(q:Int)
   ·rw [Au hz2,if_pos rfl];unfold bIn;refine Ok.bind ((M7 (m:=ds.length) (N:=N+4 * k) (f1.less (by omega)) hp (by omega) (k+1)).mono ?_);rintro _ S2 ⟨r,rfl,hr,f2,l2,k2⟩;have g2:Kp p S1 S2:=⟨l2,k2⟩;have er:ds[r]?=some ds[r]:=As hr;refine Ok.eq (show X2 (.int (r:Int)) S2=.ok (some (r:Int)) S2 from rfl) (Ok.eq (show slD (.tup ds) none (some (r:Int)) S2=.ok (.tup (ds.take r)) S2 by
     show R.ok (D.tup (m7 ds none (some (r:Int)))) S2=_;rw [bX (by omega)]) (Ok.eq (k5 S2 er) ?_))
    obtain ⟨k',rfl⟩:∃ k',k=k'+1:=⟨k-1,by omega⟩;have hm:=y7 (AI hr);have za:=gO er;refine Ok.bind ((eG k' ds[r] j N S2 (pl.mem _ (AI hr)) (by omega) (by omega) hj (by omega) (f2.less (by omega))).mono ?_);rintro y S3 ⟨hy,f3,g3⟩;refine Ok.eq (cat_tup (by rw [Bm,AK];simp;omega)) (Ok.eq (O1 _ _ S3) (Ok.eq (show X2 (.int ((r:Int)+1)) S3=.ok (some ((r:Int)+1)) S3 from rfl) (Ok.eq (show slD (.tup ds) (some ((r:Int)+1)) none S3=.ok (.tup (ds.drop (r+1))) S3 by
     show R.ok (D.tup (m7 ds (some ((r:Int)+1)) none)) S3=_;rw [show (r:Int)+1=((r+1:Nat):Int) by omega,P4 (by omega)]) (Ok.eq (cat_tup (by rw [AJ,Bm,BK,AK];simp;omega)) (Ok.ret ⟨?_,f3,g1.tr (g2.tr g3)⟩)))))
    have mem:∀ d∈ds.take r++[y]++ds.drop (r+1),d∈ds\/d=y:=λd hd=>by
     rcases Ax.mp hd with q | q
     ·rcases Ax.mp q with q | q
      ·exact .inl (List.mem_of_mem_take q)
      ·exact .inr (AB.mp q)
     ·exact .inl (List.mem_of_mem_drop q)
    refine ⟨Plns.of λd hd=>?_,?_,?_⟩
    ·rcases mem d hd with q | rfl
     ·exact (pl.mem d q).up
     ·exact hy.pl
    ·have:dps (ds.take r++[y]++ds.drop (r+1))<=dps ds+1:=P0 λd hd=>by
      rcases mem d hd with q | rfl
      ·have:=y7 q;omega
      ·have:=hy.dp;omega
     show dps _+1<=_;omega
    ·have:=hy.sz;show szs _+3<=_;rw [u0,u0];show szs _+(sz y+2+0)+szs _+3<=_;omega
   ·rw [Ao hz2,if_neg Ak];exact (du (f1.less (by omega)) pl (by omega) k).mono λd' S' h=>⟨h.1,h.2.1,g1.tr h.2.2⟩
 | _,.scr _,_,_,_,pl,_,_,_,_,_=>pl.elim
 | _,.ref _,_,_,_,pl,_,_,_,_,_=>pl.elim
def wds:List Str:=["out","ask","close","look","holds","right","down"]
def Z8 (w:Str):Option Nat:=if w = "at" then some 3 else if w = "mark" then some 2 else if w = "free" then some 1 else if w = "closed" then some 1 else if w = "not" then some 2 else if w = "both" then some 3 else if w = "either" then some 3 else none
def one (hs:List Int):D->Bool
 | .int i=>decide (i∈hs)
 | _=>false
def wOk:D->Bool
 | .tup ds=>(match i8 ds with
  | some ws=>ws.all (λw=>decide (w∈wds))&&decide ws.Nodup
  | none=>false)
 | _=>false
def b8 (hs:List Int):D->Bool
 | .tup (.str w :: ds)=>decide (Z8 w=some (ds.length+1))&&(if w = "at" then one hs (ds.getD 0 .non)&&wOk (ds.getD 1 .non) else if w = "mark" then one hs (ds.getD 0 .non) else true)
 | _=>false
def A8:D->List D
 | .tup (.str w :: ds)=>if w = "not"\/w = "both"\/w = "either" then ds else []
 | _=>[]
def isV:D->Bool
 | .tup (.str w :: _)=>decide (w = "mark"\/w = "at")
 | _=>false
def arg:D->D
 | .tup (_ :: x :: _)=>x
 | _=>.non
def i4:Option Nat->Option Nat->Option Nat
 | some x,some y=>some (x+y)
 | _,_=>none
def ae (g:D->Option Nat):List D->Option Nat
 | []=>some 0
 | d :: ds=>i4 (g d) (ae g ds)
def sN (hs:List Int):Nat->D->Option Nat
 | 0,_=>none
 | f+1,d=>if b8 hs d=true then i4 (some 1) (ae (sN hs f) (A8 d)) else none
def Z6 (c:D->Nat×List D) (a:Nat×List D) (e:D):Nat×List D:=(a.1+(c e).1,a.2++(c e).2)
def cnt:Nat->D->Nat×List D
 | 0,_=>(1000,[])
 | f+1,d=>if b8 [0,1] d=true then (if isV d=true then (1,[arg d]) else (A8 d).foldl (Z6 (cnt f)) (1,[])) else (1000,[])
theorem O0 (a b c:Option Nat):i4 (i4 a b) c=i4 a (i4 b c):=by
 cases a <;> cases b <;> cases c <;> simp only [i4,Nat.add_assoc]
theorem z9 (a:Option Nat):i4 a (some 0)=a:=by cases a <;> rfl
theorem ed (a:Option Nat):i4 (some 0) a=a:=by cases a <;> simp [i4]
def Rl (hs:List Int) (o:Option Nat) (m:Nat×List D):Prop:=match o with
 | some n=>m.1=n/\∀ v∈m.2,one hs v=true
 | none=>1000<=m.1\/∃ v∈m.2,one hs v=false
theorem Rl.add {hs:List Int} {o o':Option Nat} {m m':Nat×List D} (h:Rl hs o m) (h':Rl hs o' m'):Rl hs (i4 o o') (m.1+m'.1,m.2++m'.2):=by
 have bad:(1000<=m.1\/∃ v∈m.2,one hs v=false)\/(1000<=m'.1\/∃ v∈m'.2,one hs v=false)->1000<=m.1+m'.1\/∃ v∈m.2++m'.2,one hs v=false:=by
  rintro ((a | ⟨v,a,b⟩) | (a | ⟨v,a,b⟩))
  ·exact .inl (by omega)
  ·exact .inr ⟨v,Ax.mpr (.inl a),b⟩
  ·exact .inl (by omega)
  ·exact .inr ⟨v,Ax.mpr (.inr a),b⟩
 cases o with
 | none=>cases o' <;> exact bad (.inl h)
 | some x=>
  cases o' with
  | none=>exact bad (.inr h')
  | some y=>
   refine ⟨by rw [h.1,h'.1],λv hv=>?_⟩;rcases Ax.mp hv with q | q
   ·exact h.2 v q
   ·exact h'.2 v q
theorem dG {hs:List Int} {g:D->Option Nat} {c:D->Nat×List D} (h:∀ d,Rl hs (g d) (c d)):∀ (ds:List D) (o:Option Nat) (a:Nat×List D),Rl hs o a->Rl hs (i4 o (ae g ds)) (ds.foldl (Z6 c) a)
 | [],o,a,r=>by rw [ae,z9];exact r
 | d :: ds,o,a,r=>by
  rw [ae,<- O0];exact dG h ds _ _ (r.add (h d))
theorem ao {hs:List Int} (h:∀ x∈hs,x∈([0,1]:List Int)) {d:D} (e:one hs d=true):one [0,1] d=true:=by
 cases d <;> simp only [one,Aq] at e ⊢ <;> first | exact h _ e | cases e
theorem nB {hs:List Int} (h:∀ x∈hs,x∈([0,1]:List Int)):∀ (f:Nat) (d:D),Rl hs (sN hs f d) (cnt f d)
 | 0,d=>.inl (Aj _)
 | f+1,d=>by
  have ih:=nB h f;by_cases b:b8 [0,1] d=true
  ·match d,b with
   | .tup (.str w :: ds),b=>
    have b0:=b;simp only [b8,Ag,Aq] at b;obtain ⟨b1,b2⟩:=b;by_cases v:w = "mark"\/w = "at"
    ·have hv:isV (.tup (.str w :: ds))=true:=Au v;have e0:arg (.tup (.str w :: ds))=ds.getD 0 .non:=by
      rcases ds with _ | ⟨x,xs⟩
      ·exfalso;rcases v with rfl | rfl
       ·exact absurd b1 (by decide)
       ·exact absurd b1 (by decide)
      ·rfl
     have es:A8 (.tup (.str w :: ds))=[]:=by
      rcases v with rfl | rfl <;> rfl
     have eb:b8 hs (.tup (.str w :: ds))=one hs (ds.getD 0 .non):=by
      rcases v with rfl | rfl
      ·simp only [b8,b1];rfl
      ·rw [if_pos rfl,Ag] at b2;simp only [b8,b1,b2.2];rw [if_pos trivial,Bool.and_true];rfl
     rw [sN,cnt,if_pos b0,if_pos hv,es,e0,eb];cases q:one hs (ds.getD 0 .non) with
     | true=>
      rw [if_pos rfl];exact ⟨rfl,λx hx=>by rw [AB.mp hx];exact q⟩
     | false=>
      rw [if_neg Ak];exact .inr ⟨_,AB.mpr rfl,q⟩
    ·have v1:w ≠ "mark":=λe=>v (.inl e);have v2:w ≠ "at":=λe=>v (.inr e);have hv:isV (.tup (.str w :: ds))=false:=Ao v;have eb:b8 hs (.tup (.str w :: ds))=true:=by
      simp only [b8,Ag,Aq];exact ⟨b1,by rw [if_neg v2,if_neg v1]⟩
     rw [sN,cnt,if_pos b0,hv,if_neg Ak,if_pos eb];exact dG ih _ _ _ ⟨rfl,λx hx=>by cases hx⟩
  ·have nb:b8 hs d=false:=by
    rw [BF];intro q;refine b ?_
    match d,q with
    | .tup (.str w :: ds),q=>
     simp only [b8,Ag,Aq] at q ⊢;refine ⟨q.1,?_⟩;have q2:=q.2;split at q2
     ·rename_i hw;rw [if_pos hw];rw [Ag] at q2 ⊢;exact ⟨ao h q2.1,q2.2⟩
     ·rename_i hw;rw [if_neg hw];split at q2
      ·rename_i hw2;rw [if_pos hw2];exact ao h q2
      ·rename_i hw2;rw [if_neg hw2]
   rw [sN,cnt,if_neg b,nb,if_neg Ak];exact .inl (Aj _)
def few (m:Nat):Option Nat->Bool
 | some t=>decide (m+t<=20)
 | none=>false
theorem li {hs:List Int} (h:∀ x∈hs,x∈([0,1]:List Int)) (f:Nat) (d:D):(decide ((cnt f d).1<=20)&&(cnt f d).2.all (one hs))=few 0 (sN hs f d):=by
 have r:=nB h f d;cases e:sN hs f d with
 | some n=>
  rw [e] at r;rw [r.1,Ay.mpr r.2,Bool.and_true];simp only [few,Nat.zero_add]
 | none=>
  rw [e] at r;show _=false;rw [Bool.and_eq_false_iff];rcases r with r | ⟨v,a,b⟩
  ·exact .inl (Ao (by omega))
  ·refine .inr ?_;rw [BF];intro q;rw [Ay.mp q v a] at b;cases b
def wT (hs:List Int) (p:D×Nat):Option Nat:=sN hs (9-p.2) p.1
def s0 (hs:List Int):List (D×Nat)->Option Nat
 | []=>some 0
 | p :: ps=>i4 (wT hs p) (s0 hs ps)
theorem D4 (hs:List Int):∀ (a b:List (D×Nat)),s0 hs (a++b)=i4 (s0 hs a) (s0 hs b)
 | [],b=>(ed _).symm
 | p :: a,b=>by
  show i4 _ (s0 hs (a++b))=i4 (i4 _ _) _;rw [D4 hs a b,O0]
theorem af (hs:List Int) (l:Nat):∀ ds:List D,s0 hs (ds.map λd=>(d,l))=ae (sN hs (9-l)) ds
 | []=>rfl
 | d :: ds=>by
  show i4 _ (s0 hs (ds.map λd=>(d,l)))=i4 _ _;rw [af hs l ds];rfl
theorem bt {hs:List Int} {m:Nat} {ps:List (D×Nat)} {d:D} {l:Nat} (hb:b8 hs d=false\/8<l\/20<m+1):few m (s0 hs (ps++[(d,l)]))=false:=by
 rw [D4];have e1:s0 hs [(d,l)]=sN hs (9-l) d:=z9 _;rw [e1];rcases hb with h | h | h
 ·cases e:9-l with
  | zero=>cases s0 hs ps <;> rfl
  | succ f=>
   rw [sN,h,if_neg Ak];cases s0 hs ps <;> rfl
 ·rw [show 9-l=0 by omega];cases s0 hs ps <;> rfl
 ·cases e:9-l with
  | zero=>cases s0 hs ps <;> rfl
  | succ f=>
   rw [sN];split
   ·cases s0 hs ps with
    | none=>rfl
    | some x=>
     cases ae (sN hs f) (A8 d) with
     | none=>rfl
     | some y=>exact Ao (by omega)
   ·cases s0 hs ps <;> rfl
theorem lL {hs:List Int} {m:Nat} {ps:List (D×Nat)} {d:D} {l:Nat} (hb:b8 hs d=true) (h8:l<=8):few m (s0 hs (ps++[(d,l)]))=few (m+1) (s0 hs (ps++(A8 d).map λe=>(e,l+1))):=by
 rw [D4,D4,af];have e1:s0 hs [(d,l)]=sN hs (9-l) d:=z9 _;rw [e1];obtain ⟨f,hf⟩:∃ f,9-l=f+1:=⟨8-l,by omega⟩;rw [hf,show 9-(l+1)=f by omega,sN,if_pos hb];cases s0 hs ps with
 | none=>rfl
 | some x=>
  cases ae (sN hs f) (A8 d) with
  | none=>rfl
  | some y=>
   show decide (m+(x+(1+y))<=20)=decide (m+1+(x+y)<=20);congr 1;exact propext ⟨λ_=>by omega,λ_=>by omega⟩
theorem jI {j:Nat} {d:D} (h:Pln j d) (k:Nat) (S:Sto):rn (k+1) pa [d] S=.ok (.bl (match d with
  | .int _=>true
  | _=>false)) S:=by
 rw [rn,a7 (fd:=iV) rfl,kb];cases d with
 | bl b=>cases b <;> rfl
 | scr _=>exact h.elim
 | ref _=>exact h.elim
 | _=>rfl
theorem gL {j:Nat} {d:D} (h:Pln j d) (hs:List Int) (k:Nat) (S:Sto):rn (k+2) uN [d,.tup (hs.map D.int)] S=.ok (.bl (one hs d)) S:=by
 refine B8 ?_;rw [rn,a7 (fd:=pB) rfl,pU];refine Ok.eq (jI h k S) ?_;cases d with
 | int i=>exact Ok.eq (a:=true) rfl<|Ok.pos rfl<|Ok.eq (dr i hs S)<|Ok.ret ⟨rfl,rfl⟩
 | _=>exact Ok.eq (a:=false) rfl<|Ok.neg (by decide)<|Ok.ret ⟨rfl,rfl⟩
theorem P6:∀ {ds:List D} {ws:List Str},i8 ds=some ws->ds=ws.map D.str
 | [],ws,e=>by cases e;rfl
 | d :: ds,ws,e=>by
  cases d with
  | str x=>
   simp only [i8] at e;obtain ⟨vs,e1,e2⟩:=Bj.mp e;rw [<- e2,P6 e1];rfl
  | _=>simp only [i8] at e;cases e
theorem N3:∀ ws:List Str,i8 (ws.map D.str)=some ws
 | []=>rfl
 | w :: ws=>by simp only [AG,i8,N3 ws];rfl
theorem gA (ws:List Str):(ws.map D.str).all (inW wds)=ws.all λw=>decide (w∈wds):=by
 rw [Dl];rfl
theorem uH {ds:List D} (h:ds.all (inW wds)=false):wOk (.tup ds)=false:=by
 simp only [wOk];cases e:i8 ds with
 | none=>rfl
 | some ws=>
  rw [P6 e,gA] at h;simp only [h,CN]
theorem bE {f:Nat->Str}:∀ i,(HT.metKHt f i).length=i↔∀ a b,a<b->b<i->f a≠f b
 | 0=>⟨λ_ a b _ h=>by omega,λ_=>rfl⟩
 | i+1=>by
  have ih:=bE (f:=f) i;have le:=HT.metK_le f i;rw [HT.metK_s];by_cases m:f i∈HT.metKHt f i
  ·rw [if_pos m];refine ⟨λe=>by omega,λh=>?_⟩;obtain ⟨a,ha,e⟩:=(HT.metK_mem f (f i) i).mp m;exact absurd e (h a i ha (by omega))
  ·rw [if_neg m,AJ,Cm];constructor
   ·intro e a b hab hb;by_cases q:b=i
    ·subst q;exact λz=>m ((HT.metK_mem f (f b) b).mpr ⟨a,hab,z⟩)
    ·exact ih.mp (by omega) a b hab (by omega)
   ·intro h;rw [ih.mpr λa b x y=>h a b x (by omega)]
theorem gW (ws:List Str):(Q0 ws).length=ws.length↔ws.Nodup:=by
 unfold Q0 List.Nodup;rw [bE,CU];have g:∀ i (h:i<ws.length),ws.getD i "" = ws[i]:=λi h=>by simp [List.getD,h]
 constructor
 ·intro h a b ha hb hab;have:=h a b hab hb;rw [g a ha,g b hb] at this;exact this
 ·intro h a b hab hb;rw [g a (by omega),g b hb];exact h a b (by omega) hb hab
theorem J7 (b:Bool) (S:Sto):c6 (.bl b) S=.ok b S:=rfl
theorem hR:∀ w∈wds,Asc w:=by unfold Asc;decide +kernel
theorem tJ:∀ w∈wds,3<=w.length:=by decide +kernel
theorem szw:∀ {ws:List Str},(∀ w∈ws,w∈wds)->34 * ws.length<=szs (ws.map D.str)
 | [],_=>Aj _
 | w :: ws,h=>by
  have a:=tJ w (h w (Ap ..));have b:=szw (ws:=ws) λv hv=>h v (Av _ hv);show 34 * (ws.length+1)<=10 * w.length+2+2+szs (ws.map D.str);omega
theorem iw {j N:Nat} {d:D} (h:Any j N d) (hj:j<=40) (hN:N<=100000) (k:Nat) (S:Sto):rn (k+1) rY [d] S=.ok (.bl (wOk d)) S:=by
 refine B8 ?_;rw [rn,a7 (fd:=nU) rfl,nw];cases d with
 | tup ds=>
  have len:=h.len;refine Ok.eq (a:=.bl true) rfl<|Ok.eq (a:=true) rfl<|Ok.neg (by decide)<|nx_bind<|Ok.eq (G5 ds S)<|Ok.of (ke (p:=inW wds) (by rw [AK];omega) λe he=>?_) ?_
  ·exact a3 (Y1 (h.at he) hj hR S)
  ·refine Ok.eq (ni _ S)<|Ok.eq (a:=ds.all (inW wds)) (by rw [all_map];rfl) ?_;cases q:ds.all (inW wds) with
   | false=>exact Ok.pos rfl<|Ok.ret ⟨by rw [uH q],rfl⟩
   | true=>
    obtain ⟨ws,rfl,hw⟩:=jX (f:=D.str) (q:=λw=>w∈wds) (λd hd=>by
     obtain ⟨w,e,m⟩:=pb hd;exact ⟨w,e.symm,m⟩) q
    have lw:ws.length<4000:=by
     have a:=szw hw;have b:szs (ws.map D.str)+3<=N:=h.sz;omega
    have e1:E8 (.tup (ws.map D.str)) S=.ok (.int ((Q0 ws).length:Nat)) S:=by
     refine a3 (m:=D2 (.tup (ws.map D.str))) rfl |>.trans ?_;rw [N3];show (if ws.length<4000 then ret _ else bad) S=_;rw [if_pos lw];rfl
    refine Ok.neg (by decide)<|Ok.eq e1<|Ok.eq (o0 _ S)<|Ok.eq (B4 _ _ S)<|Ok.ret ⟨?_,rfl⟩;rw [gA] at q;simp only [wOk,N3,q,Bool.true_and,AE];congr 1;rw [decide_eq_decide,Int.ofNat_inj];exact gW ws
 | scr _=>exact h.pl.elim
 | ref _=>exact h.pl.elim
 | _=>exact Ok.eq (a:=.bl false) rfl<|Ok.eq (a:=false) rfl<|Ok.pos rfl<|Ok.ret ⟨rfl,rfl⟩
def K9 (w:Str):D:=match Z8 w with
 | some n=>.int (n:Int)
 | none=>.non
theorem aU {P:Str->Prop} (h1:P "at") (h2:P "mark") (h3:P "free") (h4:P "closed") (h5:P "not") (h6:P "both") (h7:P "either") (h:∀ w:Str,w ≠ "at"->w ≠ "mark"->w ≠ "free"->w ≠ "closed"->w ≠ "not"->w ≠ "both"->w ≠ "either"->P w) (w:Str):P w:=by
 by_cases e1:w = "at"
 ·rw [e1];exact h1
 by_cases e2:w = "mark"
 ·rw [e2];exact h2
 by_cases e3:w = "free"
 ·rw [e3];exact h3
 by_cases e4:w = "closed"
 ·rw [e4];exact h4
 by_cases e5:w = "not"
 ·rw [e5];exact h5
 by_cases e6:w = "both"
 ·rw [e6];exact h6
 by_cases e7:w = "either"
 ·rw [e7];exact h7
 exact h w e1 e2 e3 e4 e5 e6 e7
theorem iu (w:Str) (S:Sto):J9 [("at",(.int 3)),("mark",(.int 2)),("free",(.int 1)),("closed",(.int 1)),("not",(.int 2)),("both",(.int 3)),("either",(.int 3))] (.str w) S=.ok (K9 w) S:=by
 refine aU (P:=λw=>J9 _ (.str w) S=.ok (K9 w) S) ?_ ?_ ?_ ?_ ?_ ?_ ?_ ?_ w
 ·kernel_rfl
 ·kernel_rfl
 ·kernel_rfl
 ·kernel_rfl
 ·kernel_rfl
 ·kernel_rfl
 ·kernel_rfl
 ·intro w e1 e2 e3 e4 e5 e6 e7;have no:∀ v:Str,w≠v->(w==v)=false:=λv e=>BO.mpr e;simp only [J9,K9,Z8,List.lookup,no _ e1,no _ e2,no _ e3,no _ e4,no _ e5,no _ e6,no _ e7,if_neg e1,if_neg e2,if_neg e3,if_neg e4,if_neg e5,if_neg e6,if_neg e7];rfl
theorem sI (w v:Str) (S:Sto):a5 .Eq (.str w) (.str v) S=.ok (.bl (decide (w=v))) S/\a5 .NotEq (.str w) (.str v) S=.ok (.bl (!decide (w=v))) S:=⟨rfl,rfl⟩
theorem iz {j N:Nat} {d:D} (h:Any j N d) (hj:j<=40) (hN:N<=100000) (hs:List Int) (k:Nat) (S:Sto):rn (k+3) rZ [d,.tup (hs.map D.int)] S=.ok (.bl (b8 hs d)) S:=by
 refine B8 ?_;rw [rn,a7 (fd:=oy) rfl,nh];cases d with
 | tup ds=>
  refine Ok.eq (a:=.bl true) rfl<|Ok.eq (a:=true) rfl<|Ok.neg (by decide)<|Ok.eq (o0 ds S)<|Ok.eq (B4 _ _ S)<|Ok.eq (e9 _ S) ?_;rcases ds with _ | ⟨x,ds⟩
  ·exact Ok.pos (by decide)<|Ok.ret ⟨rfl,rfl⟩
  ·refine Ok.neg (by rw [Ba,Ao (by omega)];decide)<|Ok.eq (k5 (i:=0) S rfl) ?_;have hx:=h.at (Ap ..);cases x with
   | str w=>
    refine Ok.eq (a:=.bl true) rfl<|Ok.eq (a:=true) rfl<|Ok.neg (by decide)<|Ok.eq (k5 (i:=0) S rfl)<|Ok.eq (iu w S)<|Ok.eq (o0 _ S) ?_;unfold K9;cases e:Z8 w with
    | none=>exact Ok.eq (a:=.bl true) rfl<|Ok.eq (a:=true) rfl<|Ok.pos rfl<|Ok.ret ⟨by simp [b8,e],rfl⟩
    | some n=>
     refine Ok.eq (gB _ _ S)<|Ok.eq (e9 _ S) ?_;by_cases en:n=ds.length+1
     ·refine Ok.neg (by rw [Ba,Au (by omega)];decide)<|Ok.eq (sI _ _ S).1<|Ok.eq (e9 _ S) ?_;by_cases e1:w = "at"
      ·subst e1;obtain ⟨x,y,rfl⟩:∃ x y,ds=[x,y]:=by
        have:n=3:=by cases e;rfl
        match ds,en with
        | [x,y],_=>exact ⟨x,y,rfl⟩
        | [],en=>simp at en;omega
        | [_],en=>simp at en;omega
        | _ :: _ :: _ :: _,en=>simp at en;omega
       have h1:Any j N x:=h.at (by simp);have h2:Any j N y:=h.at (by simp);refine Ok.pos (by decide)<|Ok.eq (k5 (i:=1) S rfl)<|Ok.eq (gL h1.pl hs k S)<|Ok.eq (J7 _ S) ?_;have eb:b8 hs (.tup [.str "at",x,y])=(one hs x&&wOk y):=by
        simp only [b8,e,en];rfl
       rw [eb];cases one hs x with
       | true=>exact Ok.pos rfl<|Ok.eq (k5 (i:=2) S rfl)<|Ok.eq (iw h2 hj hN (k+1) S)<|Ok.ret ⟨rfl,rfl⟩
       | false=>exact Ok.neg (by decide)<|Ok.ret ⟨rfl,rfl⟩
      ·refine Ok.neg (by rw [Ao e1];decide)<|Ok.eq (sI _ _ S).2<|Ok.eq (J7 _ S) ?_;by_cases e2:w = "mark"
       ·subst e2;obtain ⟨x,rfl⟩:∃ x,ds=[x]:=by
         have:n=2:=by cases e;rfl
         match ds,en with
         | [x],_=>exact ⟨x,rfl⟩
         | [],en=>simp at en;omega
         | _ :: _ :: _,en=>simp at en;omega
        have h1:Any j N x:=h.at (by simp);refine Ok.neg (by decide)<|Ok.eq (k5 (i:=1) S rfl)<|Ok.eq (gL h1.pl hs k S)<|Ok.ret ⟨?_,rfl⟩;simp only [b8,e,en];rfl
       ·refine Ok.pos (by rw [Ao e2];rfl)<|Ok.ret ⟨?_,rfl⟩;simp only [b8,e,en,if_neg e1,if_neg e2,Ao e2];rfl
     ·refine Ok.pos (by rw [Ba,Ao (by omega)];rfl)<|Ok.ret ⟨?_,rfl⟩;have:¬ some n=some (ds.length+1):=λz=>en (AD z);simp only [b8,e,Ao this,CN]
   | scr _=>exact hx.pl.elim
   | ref _=>exact hx.pl.elim
   | _=>exact Ok.eq (a:=.bl false) rfl<|Ok.eq (a:=false) rfl<|Ok.pos rfl<|Ok.ret ⟨rfl,rfl⟩
 | scr _=>exact h.pl.elim
 | ref _=>exact h.pl.elim
 | _=>exact Ok.eq (a:=.bl false) rfl<|Ok.eq (a:=false) rfl<|Ok.pos rfl<|Ok.ret ⟨rfl,rfl⟩
theorem tG:∀ w∈(["not","both","either"]:List Str),Asc w:=by unfold Asc;decide +kernel
theorem tK {j N:Nat} {d:D} {hs:List Int} (h:Any j N d) (hj:j<=40) (hb:b8 hs d=true) (k:Nat) (S:Sto):rn (k+1) tq [d] S=.ok (.tup (A8 d)) S/\(A8 d).length<=2/\∀ e∈A8 d,Any j N e:=by
 match d,hb,h with
 | .tup (.str w :: ds),hb,h=>
  have hx:=h.at (Ap ..);refine ⟨B8 ?_,?_,λe he=>?_⟩
  ·rw [rn,a7 (fd:=oD) rfl,nC];refine Ok.eq (k5 (i:=0) S rfl)<|Ok.eq (Y1 (ws:=["not","both","either"]) hx hj tG S)<|Ok.eq (e9 _ S) ?_;by_cases q:w = "not"\/w = "both"\/w = "either"
   ·refine Ok.pos (Au (by simpa using q))<|Ok.eq (a:=.tup ds) ?_<|Ok.ret ⟨by simp only [A8,if_pos q],rfl⟩;show R.ok (D.tup (m7 (.str w :: ds) (some ((1:Nat):Int)) none)) S=_;rw [P4 (by simp)];rfl
   ·refine Ok.neg (by rw [show inW _ (.str w)=false from Ao (by simpa using q)];decide)<|Ok.ret ⟨by simp only [A8,if_neg q],rfl⟩
  ·simp only [A8];split
   ·rename_i q;simp only [b8,Ag,Aq] at hb;have:=hb.1;have n3:∀ n,Z8 w=some n->n<=3:=by
     rcases q with rfl | rfl | rfl <;> intro n e <;> cases e <;> decide
    have:=n3 _ this;omega
   ·exact AO _
  ·simp only [A8] at he;split at he
   ·exact h.at (Av _ he)
   ·cases he
def pD (p:D×Nat):D:=.tup [p.1,.int (p.2:Int)]
theorem jN {S:Sto} {n:Nat} {es:List D} {y:D} (e:S[n]?=some (.lst (es++[y]))):W5 (.ref n) S=.ok y (S.set n (.lst es)):=by
 unfold W5;simp only [bind,lstOf,e,AJ,Cm,Nat.add_sub_cancel,List.getElem?_concat_length,List.dropLast_concat]
theorem sG {S:Sto} {n:Nat} {es ys:List D} (e:S[n]?=some (.lst es)) (hl:es.length+ys.length<=sizeLine):extD (.ref n) [.lst ys] S=.ok .non (S.set n (.lst (es++ys))):=by
 simp only [extD,e,if_pos hl]
theorem cw {j N:Nat} {d:D} (h:Any j N d) (hj:j<=40) (hN:N<=100000) (hs:List Int) (k:Nat) (S:Sto):Ok (rn (k+4) rq [d,.tup (hs.map D.int)]) S λr S'=>r=.bl (few 0 (sN hs 8 d))/\Ex S S':=by
 rw [rn,a7 (fd:=Ac) rfl,pX,nk];refine Ok.first<|Ok.cg (uY ..)<|Ok.eq (show newL [.tup [d,.int 1]] S=.ok (.ref S.length) (S++[.lst [.tup [d,.int 1]]]) from rfl)<|Ok.nxt<|Ok.cg (vh ..)<|Ok.nxt<|Ok.cg (vt ..)<|Ok.bind ((Ok.while_ (λt ρ S'=>∃ (m:Nat) (ps:List (D×Nat)) (o4 o5:Option D),ρ=[some d,some (.tup (hs.map D.int)),some (.ref S.length),some (.int (m:Int)),o4,o5]/\S'=S++[.lst (ps.map pD)]/\(∀ p∈ps,Any j N p.1)/\few m (s0 hs ps)=few 0 (sN hs 8 d)/\m+t=20/\ps.length<=2 * m+1)
  (λρ S'=>∃ x y z u v w,ρ=[x,y,z,u,v,w]/\few 0 (sN hs 8 d)=true/\Ex S S') (λr S'=>r=.bl (few 0 (sN hs 8 d))/\Ex S S') ?_ 10000 20 _ _ (by decide) ⟨0,[(d,1)],_,_,rfl,rfl,λp hp=>by rw [AB.mp hp];exact h,?_,rfl,Aj _⟩).mono ?_)
 ·rintro t ρ S' ⟨m,ps,o4,o5,rfl,rfl,hp,hf,hm,hl⟩;have at_:∀ x:List D,(S++[O.lst x])[S.length]?=some (.lst x):=λx=>by simp
  rw [el];refine Ok.eq (a:=!(ps.map pD).isEmpty) (S1:=S++[.lst (ps.map pD)]) (by simp only [c6,at_])<|Ok.ret ?_;rcases List.eq_nil_or_concat ps with rfl | ⟨qs,⟨e,l⟩,rfl⟩
  ·rw [if_neg (by decide)];refine ⟨_,_,_,_,_,_,rfl,?_,⟨_,rfl⟩⟩;rw [<- hf];exact Au (by omega)
  ·rw [List.concat_eq_append] at hp hf hl ⊢;rw [if_pos (by simp)];have he:Any j N e:=hp (e,l) (by simp);unfold dQ;rw [cb,BA];refine Ok.first<|Ok.cg (iP ..)<|Ok.eq (jN (at_ _)) ?_;rw [aE];refine Ok.eq (a:=.nx [some d,some (.tup (hs.map D.int)),some (.ref S.length),some (.int (m:Int)),some e,some (.int (l:Int))]) rfl<|Ok.nxt<|Ok.cg (iI ..)<|Ok.eq (a:=.int ((m+1:Nat):Int)) rfl<|Ok.nxt<|Ok.cg (jB ..)<|Ok.eq (bG _ _ _)<|Ok.eq (e9 _ _) ?_;by_cases c1:20<m+1
   ·refine Ok.pos (Au (by omega))<|Ok.ret ⟨?_,_,rfl⟩;rw [<- hf,bt (.inr (.inr c1))]
   refine Ok.neg (by rw [Ao (by omega)];decide)<|Ok.eq (bG _ _ _)<|Ok.eq (e9 _ _) ?_;by_cases c2:8<l
   ·refine Ok.pos (Au (by omega))<|Ok.ret ⟨?_,_,rfl⟩;rw [<- hf,bt (.inr (.inl c2))]
   refine Ok.neg (by rw [Ao (by omega)];decide)<|Ok.eq (iz he hj hN hs k _)<|Ok.eq (J7 _ _) ?_;cases hb:b8 hs e with
   | false=>
    refine Ok.pos rfl<|Ok.ret ⟨?_,_,rfl⟩;rw [<- hf,bt (.inl hb)]
   | true=>
    obtain ⟨f1,f2,f3⟩:=tK he hj hb (k+2) (S++[.lst (qs.map pD)]);refine Ok.neg (by decide)<|Ok.nxt<|Ok.cg (iK ..)<|Ok.eq (gD (at_ _))<|nx_bind<|Ok.eq f1<|Ok.eq (G5 _ _)<|Ok.of (gK (g:=λx=>pD (x,l+1)) (by rw [AK];omega) λx hx=>?_) ?_
    ·exact a3 (Q9 l 1 _)
    ·rw [AJ,Cm] at hl;refine Ok.eq (sG (at_ _) (by rw [AE,AE,AK];omega))<|Ok.ret ⟨t-1,by omega,m+1,qs++(A8 e).map (λx=>(x,l+1)),_,_,rfl,?_,λp hq=>?_,?_,by omega,by rw [AJ,AE];omega⟩
     ·rw [aE,BA,List.map_map];rfl
     ·rcases Ax.mp hq with z | z
      ·exact hp p (Ax.mpr (.inl z))
      ·obtain ⟨x,hx,rfl⟩:=Dn.mp z;exact f3 x hx
     ·rw [<- hf,lL hb (by omega)]
 ·have:s0 hs [(d,1)]=sN hs 8 d:=z9 _;rw [this]
 ·rintro fl S' q;cases fl with
  | nx ρ=>
   obtain ⟨x,y,z,u,v,w,rfl,e,ex⟩:=q;rw [e];exact Ok.nxt<|Ok.cg (vL ..)<|Ok.ret ⟨rfl,ex⟩
  | rt r=>exact Ok.ret q
  | bk ρ=>exact q.elim
  | ct ρ=>exact q.elim
def n5 (w:Str):Option (List Int):=if w = "each" then some [0] else if w = "some" then some [0] else if w = "pairs" then some [0,1] else if w = "plain" then some [] else none
def p9:D->Bool
 | .tup [.str w,d]=>(match n5 w with
  | some hs=>few 0 (sN hs 8 d)
  | none=>false)
 | _=>false
theorem Y9 {P:Str->Prop} (h1:P "each") (h2:P "some") (h3:P "pairs") (h4:P "plain") (h:∀ w:Str,w ≠ "each"->w ≠ "some"->w ≠ "pairs"->w ≠ "plain"->P w) (w:Str):P w:=by
 by_cases e1:w = "each"
 ·rw [e1];exact h1
 by_cases e2:w = "some"
 ·rw [e2];exact h2
 by_cases e3:w = "pairs"
 ·rw [e3];exact h3
 by_cases e4:w = "plain"
 ·rw [e4];exact h4
 exact h w e1 e2 e3 e4
theorem aP {w:Str} (e1:w ≠ "each") (e2:w ≠ "some") (e3:w ≠ "pairs") (e4:w ≠ "plain"):n5 w=none:=by
 unfold n5;rw [if_neg e1,if_neg e2,if_neg e3,if_neg e4]
def HD:List (Str×D):=[("each",(.tup [(.int 0)])),("some",(.tup [(.int 0)])),("pairs",(.tup [(.int 0),(.int 1)])),("plain",(.tup []))]
theorem bz (w:Str):HD.lookup w=(n5 w).map λhs=>.tup (hs.map D.int):=by
 refine Y9 (P:=λw=>HD.lookup w=(n5 w).map λhs=>.tup (hs.map D.int)) ?_ ?_ ?_ ?_ ?_ w
 ·kernel_rfl
 ·kernel_rfl
 ·kernel_rfl
 ·kernel_rfl
 ·intro w e1 e2 e3 e4;have no:∀ v:Str,w≠v->(w==v)=false:=λv e=>BO.mpr e;rw [aP e1 e2 e3 e4];simp only [HD,List.lookup,no _ e1,no _ e2,no _ e3,no _ e4];rfl
theorem jP (d:D) {j:Nat} (h:Pln j d) (k:Nat) (S:Sto):rn (k+1) tP [d,.int 2] S=.ok (.bl (pZ 2 d)) S:=by
 refine B8 ?_;rw [rn,a7 (fd:=nW) rfl,pP];cases d with
 | tup ds=>
  refine Ok.eq (a:=.bl true) rfl<|Ok.eq (a:=true) rfl<|Ok.pos rfl<|Ok.eq (o0 ds S)<|Ok.eq (B4 _ _ S)<|Ok.ret ⟨?_,rfl⟩;show D.bl (decide ((ds.length:Int)=((2:Nat):Int)))=.bl (decide (ds.length=2));rw [jS]
 | scr _=>exact h.elim
 | ref _=>exact h.elim
 | _=>exact Ok.eq (a:=.bl false) rfl<|Ok.eq (a:=false) rfl<|Ok.neg (by decide)<|Ok.ret ⟨rfl,rfl⟩
theorem A2 {j N:Nat} {d:D} (h:Any j N d) (hj:j<=40) (hN:N<=100000) (k:Nat) (S:Sto):Ok (rn (k+5) W4 [d]) S λr S'=>r=.bl (p9 d)/\Ex S S':=by
 rw [rn,a7 (fd:=nH) rfl,oZ];refine Ok.eq (jP d h.pl (k+3) S)<|Ok.eq (J7 _ _) ?_;cases q:pZ 2 d with
 | false=>
  refine Ok.pos rfl<|Ok.ret ⟨?_,Ex.refl _⟩;unfold p9;split
  ·cases q
  ·rfl
 | true=>
  obtain ⟨ds,rfl,l2⟩:=kZ q;obtain ⟨x,y,rfl⟩:∃ x y,ds=[x,y]:=by
   match ds,l2 with
   | [x,y],_=>exact ⟨x,y,rfl⟩
  have hx:=h.at (Ap ..);have hy:Any j N y:=h.at (by simp);refine Ok.neg (by decide)<|Ok.eq (k5 (i:=0) S rfl) ?_;cases x with
  | str w=>
   refine Ok.eq (a:=.bl true) rfl<|Ok.eq (a:=true) rfl<|Ok.neg (by decide)<|Ok.eq (k5 (i:=0) S rfl)<|Ok.eq (show ky HD (.str w) S=.ok (HD.lookup w).isNone S from rfl) ?_;cases e:n5 w with
   | none=>
    refine Ok.pos (by rw [bz,e];rfl)<|Ok.ret ⟨by simp only [p9,e],Ex.refl _⟩
   | some hs=>
    refine Ok.neg (by rw [bz,e];exact Ak)<|Ok.eq (k5 (i:=1) S rfl)<|Ok.eq (k5 (i:=0) S rfl)<|Ok.eq (show gdD HD (.str w) S=.ok (.tup (hs.map D.int)) S by simp only [gdD,bz,e];rfl)<|Ok.bind ((cw hy hj hN hs k S).mono ?_);rintro _ S' ⟨rfl,ex⟩;exact Ok.ret ⟨by simp only [p9,e],ex⟩
  | scr _=>exact hx.pl.elim
  | ref _=>exact hx.pl.elim
  | _=>exact Ok.eq (a:=.bl false) rfl<|Ok.eq (a:=false) rfl<|Ok.pos rfl<|Ok.ret ⟨rfl,Ex.refl _⟩
theorem cJ {j N:Nat} {d:D} (h:Any j N d) (hj:j<=40) {ws:List Str} (hw:∀ w∈ws,Asc w) (S:Sto):a5 .NotIn d (.lst (ws.map D.str)) S=.ok (.bl (!inW ws d)) S:=by
 show inD true d (.lst (ws.map D.str)) S=_;unfold inD;have e:d5 64 S (.lst (ws.map D.str))=some (.list (ws.map PyData.str)):=by
  show (d9 (d5 63 S) (ws.map D.str)).map PyData.list=_;rw [J3 62 S ws];rfl
 rw [E9 S d 64 h.pl (by have:=h.dp;omega),e];show U1 true (py d) (ws.map PyData.str) S=_;unfold U1;have hd:=E5 d;rw [if_pos ⟨aT d h.pl,T6 ws hw,by have:=h.dp;omega⟩,nA h.pl];rfl
theorem dC {j:Nat} {d:D} (h:Pln j d) (k:Nat) (S:Sto):rn (k+1) uL [d] S=.ok (.bl (one [0,1] d)) S:=by
 refine B8 ?_;rw [rn,a7 (fd:=nn) rfl,nc];cases d with
 | int i=>exact Ok.eq (a:=.bl true) rfl<|Ok.eq (a:=true) rfl<|Ok.pos rfl<|Ok.eq (a:=.bl false) rfl<|Ok.eq (a:=false) rfl<|Ok.eq (a:=true) rfl<|Ok.pos rfl<|Ok.eq (dr i [0,1] S)<|Ok.ret ⟨rfl,rfl⟩
 | bl b=>exact Ok.eq (a:=.bl true) rfl<|Ok.eq (a:=true) rfl<|Ok.pos rfl<|Ok.eq (a:=.bl true) rfl<|Ok.eq (a:=true) rfl<|Ok.eq (a:=false) rfl<|Ok.neg (by decide)<|Ok.ret ⟨rfl,rfl⟩
 | scr _=>exact h.elim
 | ref _=>exact h.elim
 | _=>exact Ok.eq (a:=.bl false) rfl<|Ok.eq (a:=false) rfl<|Ok.neg (by decide)<|Ok.ret ⟨rfl,rfl⟩
theorem aS (k:Nat) (S:Sto):rn (k+1) pT [] S=.ok (.lst (wds.map D.str)) S:=by
 rw [rn,a7 (fd:=jV) rfl,mQ];rfl
theorem lQ {n:Nat} (h:n<=100000) (S:Sto):u6 [.int (n:Int)] S=.ok (bT 0 n,n+1) S:=by
 unfold u6;have hn:(n:Int)<1000000:=by omega
 have h0:(0:Int)<=n:=by omega
 have c:-(2 ^ 62)<=(n:Int)/\(n:Int)<2 ^ 62:=⟨Int.le_trans (by decide) h0,Int.lt_trans hn (by decide)⟩;simp only [if_pos c,Int.toNat_natCast];rfl
theorem jz {ds:List D} {ws:List Str} {i:Nat} {w:Str} (ht:ds.take i=ws.map D.str) (hi:ds[i]?=some (.str w)) (hw:w∈ws):wOk (.tup ds)=false:=by
 simp only [wOk];cases e:i8 ds with
 | none=>rfl
 | some vs=>
  have e1:=P6 e;subst e1;have e2:vs.take i=ws:=by
   rw [<- List.map_take] at ht;exact List.map_inj_right (λa b z=>by cases z;rfl) |>.mp ht
  rw [AR] at hi;obtain ⟨v,e3,e4⟩:=Bj.mp hi;cases e4;show (_&&decide vs.Nodup)=false;rw [Bool.and_eq_false_iff];refine .inr (Ao λnd=>?_);rw [<- e2] at hw;obtain ⟨a,ha,ea⟩:=List.mem_take_iff_getElem.mp hw;obtain ⟨hb,eb⟩:=Al.mp e3;have:=(De nd).mp (ea.trans eb.symm);omega
theorem pR {j N:Nat} {d:D} (h:Any j N d) (hj:j<=40) (hN:N<=100000) (k:Nat) (S:Sto):rn (k+2) qQ [d] S=.ok (.bl (wOk d)) S:=by
 refine B8 ?_;rw [rn,a7 (fd:=Ae) rfl,pN,nL];cases d with
 | tup ds=>
  have len:=h.len;refine Ok.first<|Ok.cg (uI ..)<|Ok.eq (a:=.bl true) rfl<|Ok.eq (a:=true) rfl<|Ok.neg (by decide)<|Ok.nxt<|Ok.cg (vM ..)<|Ok.eq (o0 ds S)<|Ok.eq (lQ (by omega) S)<|Ok.bind ((Ok.for_ (n:=ds.length) (λi ρ S'=>S'=S/\∃ (o:Option D) (ws:List Str),ρ=[some (.tup ds),o]/\ds.take i=ws.map D.str/\(∀ w∈ws,w∈wds)/\ws.Nodup) (λ_ _=>False) (λr S'=>r=.bl false/\wOk (.tup ds)=false/\S'=S) (λρ S' _=>E6 ds.length S') ?_ ds.length 0 _ S rfl ⟨rfl,_,[],rfl,rfl,(λw hw=>by cases hw),.nil⟩).mono ?_)
  ·rintro i ρ S' hi ⟨rfl,o,ws,rfl,ht,hw,nd⟩;have ei:ds[i]?=some ds[i]:=As hi;have ha:Any j N ds[i]:=h.at (AI hi);refine ⟨.int (i:Int),_,P2 hi S',rfl,?_⟩;unfold de;rw [cm];generalize ds[i]=x at ei ha;refine Ok.first<|Ok.cg (gu ..)<|Ok.eq (k5 S' ei) ?_;have out:inW wds x=false->wOk (.tup ds)=false:=λq=>uH (by
    rw [BF];intro z;have:=Ay.mp z x (AF ei);rw [q] at this;cases this)
   cases x with
   | str w=>
    refine Ok.eq (a:=.bl true) rfl<|Ok.eq (a:=true) rfl<|Ok.neg (by decide)<|Ok.eq (k5 S' ei)<|Ok.eq (aS k S')<|Ok.eq (cJ ha hj hR S')<|Ok.eq (e9 _ S') ?_;cases q:inW wds (.str w) with
    | false=>exact Ok.pos rfl<|Ok.ret ⟨rfl,out q,rfl⟩
    | true=>
     have wm:w∈wds:=AS q;refine Ok.neg (by decide)<|Ok.eq (k5 S' ei)<|Ok.eq (show X2 (.int (i:Int)) S'=.ok (some (i:Int)) S' from rfl)<|Ok.eq (show slD (.tup ds) none (some (i:Int)) S'=.ok (.tup (ws.map D.str)) S' by
      show R.ok (D.tup (m7 ds none (some (i:Int)))) S'=_;rw [bX (by omega),ht])<|Ok.eq (Y1 ha hj (λv hv=>hR v (hw v hv)) S')<|Ok.eq (e9 _ S') ?_
     by_cases m:w∈ws
     ·exact Ok.pos (Au m)<|Ok.ret ⟨rfl,jz ht ei m,rfl⟩
     ·refine Ok.neg (by rw [show inW ws (.str w)=false from Ao m];decide)<|Ok.ret ⟨rfl,_,ws++[w],rfl,?_,λv hv=>?_,?_⟩
      ·rw [List.take_add_one,ht,ei,BA];rfl
      ·rcases Ax.mp hv with z | z
       ·exact hw v z
       ·rw [AB.mp z];exact wm
      ·rw [Da];refine ⟨nd,BU.mpr ⟨by simp,.nil⟩,λa ha b hb e=>?_⟩;rw [AB.mp hb] at e;exact m (e▸ha)
   | scr _=>exact ha.pl.elim
   | ref _=>exact ha.pl.elim
   | _=>exact Ok.eq (a:=.bl false) rfl<|Ok.eq (a:=false) rfl<|Ok.pos rfl<|Ok.ret ⟨rfl,out rfl,rfl⟩
  ·rintro fl S' q;cases fl with
   | nx ρ=>
    rcases q with ⟨rfl,o,ws,rfl,ht,hw,nd⟩ | q
    ·refine Ok.nxt<|Ok.cg (vp ..)<|Ok.ret ⟨?_,rfl⟩;rw [List.take_length] at ht;subst ht;simp only [wOk,N3,Au nd,Ay.mpr λw hw'=>Au (hw w hw'),Cv]
    ·exact q.elim
   | rt r=>
    obtain ⟨rfl,e,rfl⟩:=q;exact Ok.ret ⟨by rw [e],rfl⟩
   | bk ρ=>exact q.elim
   | ct ρ=>exact q.elim
 | scr _=>exact h.pl.elim
 | ref _=>exact h.pl.elim
 | _=>exact Ok.first<|Ok.cg (uI ..)<|Ok.eq (a:=.bl false) rfl<|Ok.eq (a:=false) rfl<|Ok.pos rfl<|Ok.ret ⟨rfl,rfl⟩
def kj (m:Nat×List D):D:=.lst [.int (m.1:Int),.lst m.2]
def kP:List (Key×D):=[(.inr "free",.int 1),(.inr "closed",.int 1),(.inr "not",.int 2),(.inr "mark",.int 2),(.inr "at",.int 3),(.inr "both",.int 3),(.inr "either",.int 3)]
theorem oq (w:Str):(v3 kP (.inr w)).getD .non=K9 w:=by
 refine aU (P:=λw=>(v3 kP (.inr w)).getD .non=K9 w) ?_ ?_ ?_ ?_ ?_ ?_ ?_ ?_ w
 ·kernel_rfl
 ·kernel_rfl
 ·kernel_rfl
 ·kernel_rfl
 ·kernel_rfl
 ·kernel_rfl
 ·kernel_rfl
 ·intro w e1 e2 e3 e4 e5 e6 e7;have no:∀ v:Str,w≠v->decide ((.inr v:Key)=.inr w)=false:=λv e=>Ao λz=>e (Sum.inr.inj z).symm;simp only [v3,kP,List.find?,no _ e1,no _ e2,no _ e3,no _ e4,no _ e5,no _ e6,no _ e7,K9,Z8,if_neg e1,if_neg e2,if_neg e3,if_neg e4,if_neg e5,if_neg e6,if_neg e7];rfl
theorem mw {kvs:List (Key×D)} (w:Str) (S:Sto):getDD (.ref S.length) [.str w] (S++[.dct kvs])=.ok ((v3 kvs (.inr w)).getD .non) (S++[.dct kvs]):=by
 have:(S++[O.dct kvs])[S.length]?=some (.dct kvs):=by simp
 simp only [getDD,this,m8]
theorem ma {kvs:List (Key×D)} (S:Sto):dctOf (.ref S.length) (S++[.dct kvs])=.ok () (S++[.dct kvs]):=by
 have:(S++[O.dct kvs])[S.length]?=some (.dct kvs):=by simp
 simp only [dctOf,this]
theorem uA:∀ w∈(["mark","at"]:List Str),Asc w:=by unfold Asc;decide +kernel
theorem qT {xs ys:List D} {S:Sto} (h:xs.length+ys.length<=sizeLine):j3 (.lst xs) (.lst ys) S=.ok (.lst (xs++ys)) S:=by
 show (if xs.length+ys.length<=sizeLine then ret (D.lst (xs++ys)) else bad) S=_;rw [if_pos h];rfl
theorem db {w:Str} {ds:List D} (hb:b8 [0,1] (.tup (.str w :: ds))=true) (hv:isV (.tup (.str w :: ds))=false):A8 (.tup (.str w :: ds))=ds/\ds.length<=2:=by
 simp only [b8,Ag,Aq] at hb;have v:¬ (w = "mark"\/w = "at"):=of_decide_eq_false hv;have p:=hb.1;revert v p;refine aU (P:=λw=>¬ (w = "mark"\/w = "at")->Z8 w=some (ds.length+1)->A8 (.tup (.str w :: ds))=ds/\ds.length<=2) ?_ ?_ ?_ ?_ ?_ ?_ ?_ ?_ w
 ·exact λv _=>absurd (.inr rfl) v
 ·exact λv _=>absurd (.inl rfl) v
 ·intro _ p;have p:some 1=some (ds.length+1):=p;have:ds=[]:=CC (by simpa using p);rw [this];exact ⟨rfl,by decide⟩
 ·intro _ p;have p:some 1=some (ds.length+1):=p;have:ds=[]:=CC (by simpa using p);rw [this];exact ⟨rfl,by decide⟩
 ·intro _ p;have p:some 2=some (ds.length+1):=p;have:=AD p;exact ⟨rfl,by omega⟩
 ·intro _ p;have p:some 3=some (ds.length+1):=p;have:=AD p;exact ⟨rfl,by omega⟩
 ·intro _ p;have p:some 3=some (ds.length+1):=p;have:=AD p;exact ⟨rfl,by omega⟩
 ·intro w e1 e2 e3 e4 e5 e6 e7 _ p;simp only [Z8,if_neg e1,if_neg e2,if_neg e3,if_neg e4,if_neg e5,if_neg e6,if_neg e7] at p;cases p
theorem T4 {c:D->Nat×List D} {B:Nat} (h:∀ d,(c d).2.length<=B):∀ (ds:List D) (a:Nat×List D),(ds.foldl (Z6 c) a).2.length<=a.2.length+B * ds.length
 | [],a=>by simp
 | d :: ds,a=>by
  have:=T4 h ds (Z6 c a d);have e:(Z6 c a d).2.length=a.2.length+(c d).2.length:=AJ;have:=h d;rw [List.foldl_cons,Ba,Nat.mul_succ];omega
theorem M3:∀ (f:Nat) (d:D),(cnt f d).2.length<=2 ^ f
 | 0,d=>AO _
 | f+1,d=>by
  rw [cnt];have p:0<2 ^ f:=Nat.two_pow_pos f;split
  ·rename_i hb;split
   ·show 1<=_;rw [Nat.pow_succ];omega
   ·rename_i hv
    match d,hb,hv with
    | .tup (.str w :: ds),hb,hv=>
     obtain ⟨a,b⟩:=db hb (BF.mpr hv);have:=T4 (M3 f) ds (1,[]);rw [a,Nat.pow_succ];have:2 ^ f * ds.length<=2 ^ f * 2:=CJ _ b;simp only [Dq,Nat.zero_add] at *;omega
  ·exact AO _
theorem bZ {j N:Nat} (hj:j<=40) (hN:N<=100000):∀ (f:Nat) (d:D) (l k:Nat) (S:Sto),Any j N d->l+f=9->Ok (rn (k+f+3) pc [d,.int (l:Int)]) S λr S'=>r=kj (cnt f d)/\Ex S S'
 | 0,d,l,k,S,h,hl=>by
  rw [rn,a7 (fd:=Ab) rfl,dm,eA];exact Ok.first<|Ok.cg (mW ..)<|Ok.nxt<|Ok.cg (mm ..)<|Ok.eq (bG _ _ S)<|Ok.eq (e9 _ S)<|Ok.pos (Au (by omega))<|Ok.ret ⟨rfl,Ex.refl _⟩
 | f+1,d,l,k,S,h,hl=>by
  rw [rn,a7 (fd:=Ab) rfl,dm,eA];refine Ok.first<|Ok.cg (mW ..)<|Ok.nxt<|Ok.cg (mm ..)<|Ok.eq (bG _ _ S)<|Ok.eq (e9 _ S)<|Ok.neg (by rw [Ao (by omega)];decide) ?_;have no:b8 [0,1] d=false->kj (cnt (f+1) d)=.lst [.int 1000,.lst []]:=λe=>by rw [cnt,e,if_neg Ak];rfl
  cases d with
  | tup ds=>
   refine Ok.eq (a:=.bl true) rfl<|Ok.eq (a:=true) rfl<|Ok.neg (by decide)<|Ok.eq (o0 ds S)<|Ok.eq (B4 _ _ S)<|Ok.eq (e9 _ S) ?_;rcases ds with _ | ⟨x,ds⟩
   ·exact Ok.pos (by decide)<|Ok.ret ⟨(no rfl).symm,Ex.refl _⟩
   ·refine Ok.neg (by rw [Ba,Ao (by omega)];decide)<|Ok.eq (k5 (i:=0) S rfl) ?_;have hx:=h.at (Ap ..);cases x with
    | str w=>
     have dk:=ma (kvs:=kP) S;have ex:Ex S (S++[.dct kP]):=⟨_,rfl⟩;refine Ok.eq (a:=.bl true) rfl<|Ok.eq (a:=true) rfl<|Ok.neg (by decide)<|Ok.nxt<|Ok.cg (rD ..)<|Ok.eq (a:=.ref S.length) (S1:=S++[.dct kP]) (by kernel_rfl)<|Ok.eq dk<|Ok.eq (k5 (i:=0) _ rfl)<|Ok.eq (mw w S) ?_;rw [oq];refine Ok.nxt<|Ok.cg (sf ..)<|Ok.eq (o0 _ _) ?_;generalize S++[O.dct kP]=T at ex;unfold K9;cases e:Z8 w with
     | none=>exact Ok.eq (a:=.bl true) rfl<|Ok.eq (a:=true) rfl<|Ok.pos rfl<|Ok.ret ⟨(no (by simp [b8,e])).symm,ex⟩
     | some n=>
      refine Ok.eq (gB _ _ T)<|Ok.eq (e9 _ T) ?_;by_cases en:n=ds.length+1
      ·refine Ok.neg (by rw [Ba,Au (by omega)];decide)<|Ok.nxt<|Ok.cg (uK ..)<|Ok.eq (k5 (i:=0) T rfl)<|Ok.eq (Y1 (ws:=["mark","at"]) hx hj uA T)<|Ok.eq (e9 _ T) ?_;by_cases v:w = "mark"\/w = "at"
       ·refine Ok.pos (Au (by simpa using v)) ?_;rcases v with rfl | rfl
        ·obtain ⟨x,rfl⟩:∃ x,ds=[x]:=by
          have:n=2:=by cases e;rfl
          match ds,en with
          | [x],_=>exact ⟨x,rfl⟩
          | [],en=>simp at en;omega
          | _ :: _ :: _,en=>simp at en;omega
         have h1:Any j N x:=h.at (by simp);have eb:b8 [0,1] (.tup [.str "mark",x])=one [0,1] x:=by simp only [b8,e,en];rfl
         refine Ok.eq (k5 (i:=1) T rfl)<|Ok.eq (dC h1.pl _ T)<|Ok.eq (J7 _ T) ?_;cases q:one [0,1] x with
         | true=>
          cases e;exact Ok.pos rfl<|Ok.eq (a:=.bl true) rfl<|Ok.eq (a:=true) rfl<|Ok.pos rfl<|Ok.eq (k5 (i:=1) T rfl)<|Ok.ret ⟨by rw [cnt,eb,if_pos q];rfl,ex⟩
         | false=>exact Ok.neg (by decide)<|Ok.ret ⟨(no (eb.trans q)).symm,ex⟩
        ·obtain ⟨x,y,rfl⟩:∃ x y,ds=[x,y]:=by
          have:n=3:=by cases e;rfl
          match ds,en with
          | [x,y],_=>exact ⟨x,y,rfl⟩
          | [],en=>simp at en;omega
          | [_],en=>simp at en;omega
          | _ :: _ :: _ :: _,en=>simp at en;omega
         have h1:Any j N x:=h.at (by simp);have h2:Any j N y:=h.at (by simp);have eb:b8 [0,1] (.tup [.str "at",x,y])=(one [0,1] x&&wOk y):=by simp only [b8,e,en];rfl
         refine Ok.eq (k5 (i:=1) T rfl)<|Ok.eq (dC h1.pl _ T)<|Ok.eq (J7 _ T) ?_;cases q:one [0,1] x with
         | true=>
          cases e;refine Ok.pos rfl<|Ok.eq (a:=.bl false) rfl<|Ok.eq (a:=false) rfl<|Ok.neg (by decide)<|Ok.eq (k5 (i:=2) T rfl)<|Ok.eq (pR h2 hj hN _ T)<|Ok.eq (J7 _ T) ?_;cases q2:wOk y with
          | true=>exact Ok.pos rfl<|Ok.eq (k5 (i:=1) T rfl)<|Ok.ret ⟨by rw [cnt,eb,q,q2];rfl,ex⟩
          | false=>exact Ok.neg (by decide)<|Ok.ret ⟨(no (by rw [eb,q,q2];rfl)).symm,ex⟩
         | false=>exact Ok.neg (by decide)<|Ok.ret ⟨(no (by rw [eb,q];rfl)).symm,ex⟩
       ·have hv:isV (.tup (.str w :: ds))=false:=Ao v;have hb:b8 [0,1] (.tup (.str w :: ds))=true:=by
         simp only [b8,e,en,if_neg λz=>v (.inr z),if_neg λz=>v (.inl z)];rfl
        obtain ⟨su,l2⟩:=db hb hv;have ec:cnt (f+1) (.tup (.str w :: ds))=ds.foldl (Z6 (cnt f)) (1,[]):=by
         rw [cnt,if_pos hb,hv,if_neg Ak,su]
        rw [ec];have f9:f<9:=by omega
        have p2:2 ^ f<=2 ^ 9:=Nat.pow_le_pow_right (by decide) (by omega);refine Ok.neg (by rw [show inW ["mark","at"] (.str w)=false from Ao (by simpa using v)];decide)<|Ok.nxt<|Ok.cg (sE ..)<|Ok.nxt<|Ok.cg (rB ..)<|Ok.eq (a:=.tup ds) (by
         show R.ok (D.tup (m7 (.str w :: ds) (some ((1:Nat):Int)) none)) T=_;rw [P4 (by simp)];rfl)<|Ok.eq (G5 ds T)<|Ok.bind ((Ok.loop (n:=ds.length) (λi ρ S'=>Ex S S'/\∃ o6 o7,ρ=[some (.tup (.str w :: ds)),some (.int (l:Int)),some (.lst [.int 1000,.lst []]),some (.int (n:Int)),some (kj ((ds.take i).foldl (Z6 (cnt f)) (1,[]))),o6,o7]) (λρ S' _=>by simp [n4]) ?_ ⟨ex,_,_,rfl⟩).mono ?_)
        ·rintro i ρ S' hi ⟨exi,o6,o7,rfl⟩;have ei:ds[i]?=some ds[i]:=As hi;have ha:Any j N ds[i]:=h.at (Av _ (AI hi));refine ⟨ds[i],_,by simp [n4,ei],rfl,?_⟩;unfold bV;rw [bH];refine Ok.first<|Ok.cg (fD ..)<|Ok.eq (Q9 l 1 S')<|Ok.bind ((bZ hj hN f ds[i] (l+1) k S' ha (by omega)).mono ?_);rintro _ S1 ⟨rfl,ex1⟩;have l1:=T4 (M3 f) (ds.take i) (1,[]);have l0:=M3 f ds[i];have:2 ^ f * (ds.take i).length<=2 ^ f * 2:=CJ _ (by rw [Bm];omega);simp only [Dq,Nat.zero_add] at l1;refine Ok.nxt<|Ok.cg (fu ..)<|Ok.eq (aD (i:=0) S1 rfl)<|Ok.eq (aD (i:=0) S1 rfl)<|Ok.eq (Q9 _ _ S1)<|Ok.eq (aD (i:=1) S1 rfl)<|Ok.eq (aD (i:=1) S1 rfl)<|Ok.eq (qT (by rw [AK];omega))<|Ok.ret ⟨_,.inl rfl,exi.trans ex1,some ds[i],some (kj (cnt f ds[i])),?_⟩;rw [List.take_add_one,ei,List.foldl_append];rfl
        ·rintro fl S' ⟨ρ,rfl,exi,o6,o7,rfl⟩;rw [List.take_length];exact Ok.nxt<|Ok.cg (tB ..)<|Ok.ret ⟨rfl,exi⟩
      ·refine Ok.pos (by rw [Ba,Ao (by omega)];rfl)<|Ok.ret ⟨(no ?_).symm,ex⟩;have:¬ some n=some (ds.length+1):=λz=>en (AD z);simp only [b8,e,Ao this,CN]
    | scr _=>exact hx.pl.elim
    | ref _=>exact hx.pl.elim
    | _=>exact Ok.eq (a:=.bl false) rfl<|Ok.eq (a:=false) rfl<|Ok.pos rfl<|Ok.ret ⟨(no rfl).symm,Ex.refl _⟩
  | scr _=>exact h.pl.elim
  | ref _=>exact h.pl.elim
  | _=>exact Ok.eq (a:=.bl false) rfl<|Ok.eq (a:=false) rfl<|Ok.pos rfl<|Ok.ret ⟨(no rfl).symm,Ex.refl _⟩
def kH:List (Key×D):=[(.inr "each",.lst [.int 0]),(.inr "some",.lst [.int 0]),(.inr "pairs",.lst [.int 0,.int 1]),(.inr "plain",.lst [])]
theorem oG (w:Str):(v3 kH (.inr w)).getD .non=(match n5 w with
  | some hs=>.lst (hs.map D.int)
  | none=>.non):=by
 refine Y9 (P:=λw=>(v3 kH (.inr w)).getD .non=(match n5 w with
  | some hs=>.lst (hs.map D.int)
  | none=>.non)) ?_ ?_ ?_ ?_ ?_ w
 ·kernel_rfl
 ·kernel_rfl
 ·kernel_rfl
 ·kernel_rfl
 ·intro w e1 e2 e3 e4;have no:∀ v:Str,w≠v->decide ((.inr v:Key)=.inr w)=false:=λv e=>Ao λz=>e (Sum.inr.inj z).symm;rw [aP e1 e2 e3 e4];simp only [v3,kH,List.find?,no _ e1,no _ e2,no _ e3,no _ e4];rfl
theorem kI {w:Str} {hs:List Int} (e:n5 w=some hs):∀ x∈hs,x∈([0,1]:List Int):=by
 revert e;refine Y9 (P:=λw=>n5 w=some hs->∀ x∈hs,x∈([0,1]:List Int)) ?_ ?_ ?_ ?_ ?_ w
 ·intro e;have e:some [0]=some hs:=e;cases e;decide
 ·intro e;have e:some [0]=some hs:=e;cases e;decide
 ·intro e;have e:some [0,1]=some hs:=e;cases e;decide
 ·intro e;have e:some []=some hs:=e;cases e;decide
 ·intro w e1 e2 e3 e4 e;rw [aP e1 e2 e3 e4] at e;cases e
theorem eP:∀ (f:Nat) (d v:D),v∈(cnt f d).2->∃ i:Int,v=.int i
 | 0,d,v,h=>by cases h
 | f+1,d,v,h=>by
  rw [cnt] at h;split at h
  ·rename_i hb;split at h
   ·rename_i hv
    match d,hb,hv,h with
    | .tup (.str w :: ds),hb,hv,h=>
     simp only [b8,Ag,Aq] at hb;have v2:w = "mark"\/w = "at":=AS hv;rcases ds with _ | ⟨x,xs⟩
     ·exfalso;have p:=hb.1;rcases v2 with rfl | rfl
      ·exact absurd p (by decide)
      ·exact absurd p (by decide)
     ·rw [AB.mp h];have o:one [0,1] x=true:=by
       have p:=hb.2;rcases v2 with rfl | rfl
       ·exact p
       ·rw [if_pos rfl,Ag] at p;exact p.1
      show ∃ i,x=D.int i;cases x <;> first | exact ⟨_,rfl⟩ | cases o
   ·have key:∀ (ds:List D) (a:Nat×List D),(∀ u∈a.2,∃ i:Int,u=.int i)->∀ u∈(ds.foldl (Z6 (cnt f)) a).2,∃ i:Int,u=.int i:=by
     intro ds;induction ds with
     | nil=>exact λa ha=>ha
     | cons e ds ih=>
      intro a ha;refine ih (Z6 (cnt f) a e) λu hu=>?_;rcases Ax.mp hu with z | z
      ·exact ha u z
      ·exact eP f e u z
    exact key _ _ (λu hu=>by cases hu) v h
  ·cases h
theorem U8:∀ (vs:List D),(∀ v∈vs,∃ i:Int,v=.int i)->∃ ns:List Int,vs=ns.map D.int
 | [],_=>⟨[],rfl⟩
 | v :: vs,h=>by
  obtain ⟨i,rfl⟩:=h v (Ap ..);obtain ⟨ns,rfl⟩:=U8 vs λu hu=>h u (Av _ hu);exact ⟨i :: ns,rfl⟩
theorem jQ (x:Int) (ns:List Int) (S:Sto):a5 .NotIn (.int x) (.lst (ns.map D.int)) S=.ok (.bl (!decide (x∈ns))) S:=by
 show inD true (.int x) (.lst (ns.map D.int)) S=_;unfold inD;have e:d5 64 S (.lst (ns.map D.int))=some (.list (ns.map PyData.int)):=by
  show (d9 (d5 63 S) (ns.map D.int)).map PyData.list=_;rw [N1 62 S ns];rfl
 rw [e];show U1 true (.int x) (ns.map PyData.int) S=_;unfold U1;rw [if_pos ⟨rfl,P3 ns,by simp [PyData.depth]⟩,ce];rfl
theorem om {j N:Nat} {d:D} (h:Any j N d) (hj:j<=40) (hN:N<=100000) (k:Nat) (S:Sto):Ok (rn (k+12) kN [d]) S λr S'=>r=.bl (p9 d)/\Ex S S':=by
 rw [rn,a7 (fd:=dueL_F) rfl,ip,jG];refine Ok.first<|Ok.cg (nv ..) ?_;cases d with
 | tup ds=>
  refine Ok.eq (a:=.bl true) rfl<|Ok.eq (a:=true) rfl<|Ok.neg (by decide)<|Ok.eq (o0 ds S)<|Ok.eq (gB _ _ S)<|Ok.eq (e9 _ S) ?_;by_cases l2:ds.length=2
  ·obtain ⟨x,y,rfl⟩:∃ x y,ds=[x,y]:=by
    match ds,l2 with
    | [x,y],_=>exact ⟨x,y,rfl⟩
   have hx:=h.at (Ap ..);have hy:Any j N y:=h.at (by simp);refine Ok.neg (show ¬ (!decide (((2:Nat):Int)=2))=true by decide)<|Ok.eq (k5 (i:=0) S rfl) ?_;cases x with
   | str w=>
    have ex:Ex S (S++[.dct kH]):=⟨_,rfl⟩;refine Ok.eq (a:=.bl true) rfl<|Ok.eq (a:=true) rfl<|Ok.neg (by decide)<|Ok.nxt<|Ok.cg (oW ..)<|Ok.eq (a:=.ref S.length) (S1:=S++[.dct kH]) (by kernel_rfl)<|Ok.eq (ma S)<|Ok.eq (k5 (i:=0) _ rfl)<|Ok.eq (mw w S) ?_;rw [oG];generalize S++[O.dct kH]=T at ex;refine Ok.nxt<|Ok.cg (nZ ..) ?_;cases e:n5 w with
    | none=>exact Ok.eq (a:=.bl true) rfl<|Ok.eq (a:=true) rfl<|Ok.pos rfl<|Ok.ret ⟨by simp only [p9,e],ex⟩
    | some hs=>
     refine Ok.eq (a:=.bl false) rfl<|Ok.eq (a:=false) rfl<|Ok.neg (by decide)<|Ok.nxt<|Ok.cg (nu ..)<|Ok.eq (k5 (i:=1) T rfl)<|Ok.bind ((bZ hj hN 8 y 1 k T hy rfl).mono ?_);rintro _ S1 ⟨rfl,ex1⟩;obtain ⟨ns,en⟩:=U8 _ (eP 8 y);have key:p9 (.tup [.str w,y])=(decide ((cnt 8 y).1<=20)&&(cnt 8 y).2.all (one hs)):=by
      rw [li (kI e)];simp only [p9,e]
     have len:=M3 8 y;rw [key];generalize cnt 8 y=c at en len;obtain ⟨m,vs⟩:=c;have en:vs=ns.map D.int:=en;subst en;rw [AE] at len;refine Ok.eq (a:=.nx [some (.tup [.str w,y]),some (.lst (hs.map D.int)),some (.int (m:Int)),some (.lst (ns.map D.int))]) rfl<|Ok.nxt<|Ok.cg (oe ..)<|Ok.eq (tR _ _ S1)<|Ok.eq (J7 _ S1) ?_;by_cases q:m<=20
     ·refine Ok.pos (Au (by omega))<|nx_bind<|Ok.eq (a:=(n4 (ns.map D.int),ns.length+1)) (S1:=S1) (by show R.ok (n4 (ns.map D.int),(ns.map D.int).length+1) S1=_;rw [AE])<|Ok.of (E2 (l:=ns) (h:=D.int) (g:=D.int) (p:=λx=>!decide (x∈hs)) (by rw [AK];omega) (λx _=>a3 (jQ x hs S1)) λx _ _=>rfl)<|Ok.eq (jt _ [] S1)<|Ok.ret ⟨?_,ex.trans ex1⟩;show D.bl (decide (ns.filter _=[]))=_;rw [Au q,Bool.true_and,Dl];congr 1;rw [Bz,Aq,List.filter_eq_nil_iff,Ay];constructor
      ·intro a x hx;have:=a x hx;simpa [one] using this
      ·intro a x hx;have:=a x hx;simpa [one] using this
     ·refine Ok.neg (by rw [Ao (by omega)];decide)<|Ok.ret ⟨?_,ex.trans ex1⟩;rw [Ao q,Ao (by omega)];rfl
   | scr _=>exact hx.pl.elim
   | ref _=>exact hx.pl.elim
   | _=>exact Ok.eq (a:=.bl false) rfl<|Ok.eq (a:=false) rfl<|Ok.pos rfl<|Ok.ret ⟨rfl,Ex.refl _⟩
  ·refine Ok.pos (by rw [Ao (by omega)];rfl)<|Ok.ret ⟨?_,Ex.refl _⟩;unfold p9;split
   ·rename_i z;cases z;exact absurd rfl l2
   ·rfl
 | scr _=>exact h.pl.elim
 | ref _=>exact h.pl.elim
 | _=>exact Ok.eq (a:=.bl false) rfl<|Ok.eq (a:=false) rfl<|Ok.pos rfl<|Ok.ret ⟨rfl,Ex.refl _⟩
theorem v9 {j N:Nat} {d:D} (h:Any j N d) (hj:j<=40) (hN:N<=100000) (k:Nat) (S:Sto):Ok (rn (k+13) oH [d]) S λr S'=>r=.bl true/\Ex S S':=by
 rw [rn,a7 (fd:=jT) rfl,lK];refine Ok.eq (R8 h hj (by omega) S)<|Ok.bind ((A2 h hj hN (k+7) S).mono ?_);rintro _ S1 ⟨rfl,ex1⟩;refine Ok.eq (Sml.repr (n:=0) (N:=100) Sml.bl (S:=S1))<|Ok.bind ((om h hj hN k S1).mono ?_);rintro _ S2 ⟨rfl,ex2⟩;exact Ok.eq (Sml.repr (n:=0) (N:=100) Sml.bl (S:=S2))<|Ok.eq (eM _ S2)<|Ok.eq (a:=true) rfl<|Ok.pos rfl<|Ok.eq (R8 h hj (by omega) S2)<|Ok.eq (eM _ S2)<|Ok.ret ⟨rfl,ex1.trans ex2⟩
theorem Kp.refl (p:Nat) (S:Sto):Kp p S S:=⟨rfl,λ_ _=>rfl⟩
theorem t2 {w:Str} {a:D} {n Z:Nat} (ha:Sml n Z a) (hw:smB 0 70 (.str w)=true:=by decide +kernel):Sml (n+1) (Z+80) (.tup [.str w,a]):=by
 obtain ⟨w1,w2,w3⟩:=k4 hw;refine ⟨⟨w1,ha.pl,trivial⟩,?_,?_⟩
 ·have:=ha.dp;show max 0 (max (dp a) 0)+1<=n+1;omega
 ·have:=ha.sz;show sz (.str w)+2+(sz a+2+0)+3<=_;omega
theorem t3 {w:Str} {a b:D} {n Z:Nat} (ha:Sml n Z a) (hb:Sml n Z b) (hw:smB 0 70 (.str w)=true:=by decide +kernel):Sml (n+1) (2 * Z+80) (.tup [.str w,a,b]):=by
 obtain ⟨w1,w2,w3⟩:=k4 hw;refine ⟨⟨w1,ha.pl,hb.pl,trivial⟩,?_,?_⟩
 ·have:=ha.dp;have:=hb.dp;show max 0 (max (dp a) (max (dp b) 0))+1<=n+1;omega
 ·have:=ha.sz;have:=hb.sz;show sz (.str w)+2+(sz a+2+(sz b+2+0))+3<=_;omega
theorem qS {ws:List Str} (h:∀ w∈ws,w∈wds) (l:ws.length<=7):Sml 1 400 (.tup (ws.map D.str)):=
 (Sml.tup (n:=0) (N:=54) (m:=7) (Smls.map λw hw=>by
  have:∀ w∈wds,smB 0 54 (.str w)=true:=by decide +kernel
  exact Sml.w (this w (h w hw))) (by rw [AE];exact l)).up
def zF:Nat->Nat
 | 0=>600
 | n+1=>2 * zF n+80
def cF:Nat->Nat
 | 0=>12
 | n+1=>2 * cF n+12
theorem sX (n:Nat):600<=zF n:=by
 induction n with
 | zero=>exact Aj _
 | succ n ih=>show 600<=2 * zF n+80;omega
theorem tz (n:Nat):12<=cF n:=by
 cases n with
 | zero=>exact Aj _
 | succ n=>show 12<=2 * cF n+12;omega
def fc:List D:=[.tup [.str "free"],.tup [.str "closed"]]
theorem uG {d:D} (h:d∈fc):Sml 1 70 d:=by
 have:∀ d∈fc,smB 1 70 d=true:=by unfold fc;decide +kernel
 exact Sml.w (this d h)
theorem j8 {ns:List Int} {p N m:Nat} {S:Sto} (h:Fw ns p (N+1) S) (hm:0<m) (hm2:m<1073741824) (k:Nat):Ok (rn (k+1) j7 [.ref p,.int (m:Int)]) S λd S'=>∃ r:Nat,d=.int (r:Int)/\r<m/\Fw ns p N S'/\Kp p S S':=
 (M7 h hm hm2 k).mono λ_ _ ⟨r,a,b,c,d,e⟩=>⟨r,a,b,c,d,e⟩
theorem t9 {ns:List Int} {p v:Nat} (hv:v<=2):∀ (n N k:Nat) (S:Sto),Fw ns p (N+cF n) S->Ok (rn (k+n+2) cX [.ref p,.int (n:Int),.int (v:Int)]) S λd S'=>Sml (n+2) (zF n) d/\Fw ns p N S'/\Kp p S S'
 | n,N,k,S,F=>by
  have zl:=sX n;have cl:=tz n;rw [rn,a7 (fd:=Aa) rfl,jv,mI];refine Ok.first<|Ok.cg (uM ..)<|Ok.eq (bG _ _ S)<|Ok.eq (e9 _ S) ?_;have main:∀ (q:Nat) (S1:Sto),(n=0->q<5)->q<9->Fw ns p (N+cF n-1) S1->Kp p S S1->Ok (nxt (evK Rs Γ (rn (k+n+1)) 40) u5 [nth Aa.body 1,nth Aa.body 2,nth Aa.body 3,nth Aa.body 4,nth Aa.body 5,nth Aa.body 6] endD (.nx [some (.ref p),some (.int (n:Int)),some (.int (v:Int)),some (.int (q:Int)),none,none])) S1 λd S'=>Sml (n+2) (zF n) d/\Fw ns p N S'/\Kp p S S':=by
   intro q S1 q5 q9 F1 K1;have small:Ok (bind (rn (k+n+1) j7 [.ref p,.int 2]) λx=>bind (ixD (.lst fc) x) λy=>nxt (evK Rs Γ (rn (k+n+1)) 40) u5 [nth Aa.body 2,nth Aa.body 3,nth Aa.body 4,nth Aa.body 5,nth Aa.body 6] endD (.rt y)) S1 λd S'=>Sml (n+2) (zF n) d/\Fw ns p N S'/\Kp p S S':=by
    refine Ok.bind ((j8 (N:=N) (m:=2) (F1.less (by omega)) (by omega) (by omega) (k+n)).mono ?_);rintro _ S2 ⟨r,rfl,hr,F2,K2⟩;have er:fc[r]?=some (fc[r]'hr):=As hr;exact Ok.eq (aD S2 er)<|Ok.ret ⟨(uG (AI hr)).mono (by omega) (by omega),F2,K1.tr K2⟩
   refine Ok.nxt<|Ok.cg (ra ..)<|Ok.eq (di _ _ S1)<|Ok.eq (e9 _ S1)<|Ok.ite (λc=>?_) λc=>?_
   ·have c:q<5:=by have:=AS c;omega
    refine Ok.eq (B4 _ _ S1)<|Ok.eq (e9 _ S1)<|Ok.ite (λ_=>small) λv0=>?_;have v0:0<v:=Nat.pos_of_ne_zero λz=>v0 (Au (by omega));refine Ok.eq (B4 _ _ S1)<|Ok.eq (e9 _ S1)<|Ok.ite (λ_=>small) λc4=>?_;have c4:q≠4:=λz=>c4 (Au (by omega));refine Ok.nxt<|Ok.cg (mz ..)<|Ok.eq (B4 _ _ S1)<|Ok.eq (e9 _ S1)<|Ok.ite (λ_=>?_) λc3=>?_
    ·refine Ok.bind ((j8 (N:=N) (m:=v) (F1.less (by omega)) v0 (by omega) (k+n)).mono ?_);rintro _ S2 ⟨r,rfl,hr,F2,K2⟩;exact Ok.ret ⟨(t2 (Sml.nat (n:=0) (N:=60) (by omega))).mono (by omega) (by omega),F2,K1.tr K2⟩
    ·have c3:q≠3:=λz=>c3 (Au (by omega));refine Ok.nxt<|Ok.cg (mj ..)<|Ok.eq (di _ _ S1)<|Ok.eq (e9 _ S1)<|Ok.pos (Au (by omega))<|nx_bind<|Ok.eq (aS (k+n) S1)<|Ok.eq (a:=(n4 (wds.map D.str),8)) (S1:=S1) rfl<|(Ok.comp (n:=7) (λi S' es=>Fw ns p (N+2+(7-i)) S'/\Kp p S S'/\∃ ws:List Str,es=ws.map D.str/\(∀ w∈ws,w∈wds)/\ws.length<=i) (λS' es _=>rfl) ?_ ⟨F1.less (by omega),K1,[],rfl,(λw hw=>by cases hw),Aj _⟩).mono ?_
     ·rintro i S' es hi ⟨Fi,Ki,ws,rfl,hw,hl⟩;have hi':i<wds.length:=hi;have ei:(wds.map D.str)[i]?=some (.str wds[i]):=Y4 (As hi');refine ⟨.str wds[i],by simp only [n4,ei],Ok.bind ((j8 (N:=N+2+(7-(i+1))) (m:=3) (Fi.less (by omega)) (by omega) (by omega) (k+n)).mono ?_)⟩;rintro _ S2 ⟨r,rfl,hr,F2,K2⟩;refine Ok.eq (B4 _ _ S2)<|Ok.eq (e9 _ S2)<|Ok.ret ?_;split
      ·refine Ok.ret ⟨by rw [AE,AK];omega,F2,Ki.tr K2,ws++[wds[i]],by rw [BA];rfl,λw hw'=>?_,by simp;omega⟩;rcases Ax.mp hw' with z | z
       ·exact hw w z
       ·rw [AB.mp z];exact AI hi'
      ·exact ⟨F2,Ki.tr K2,ws,rfl,hw,by omega⟩
     ·rintro _ S2 ⟨F2,K2,ws,rfl,hw,hl⟩;have fin:∀ (us:List Str) (S3:Sto),(∀ w∈us,w∈wds)->us.length<=7->Fw ns p (N+1) S3->Kp p S S3->Ok (bind (rn (k+n+1) j7 [.ref p,.int (v:Int)]) λx=>bind (C8 (.lst (us.map D.str))) λy=>nxt (evK Rs Γ (rn (k+n+1)) 40) u5 [nth Aa.body 4,nth Aa.body 5,nth Aa.body 6] endD (.rt (.tup [.str "at",x,y]))) S3 λd S'=>Sml (n+2) (zF n) d/\Fw ns p N S'/\Kp p S S':=by
       intro us S3 hu lu F3 K3;refine Ok.bind ((j8 (N:=N) (m:=v) F3 v0 (by omega) (k+n)).mono ?_);rintro _ S4 ⟨r,rfl,hr,F4,K4⟩;refine Ok.eq (a:=.tup (us.map D.str)) rfl<|Ok.ret ⟨?_,F4,K3.tr K4⟩;have a:Sml 1 400 (.int (r:Int)):=Sml.nat (by omega);have b:=qS hu lu;refine ⟨(t3 a b).pl,by have:=(t3 (w:="at") a b).dp;omega,?_⟩;have:=b.sz;show 22+2+(60+2+(sz (.tup (us.map D.str))+2+0))+3<=_;omega
      refine Ok.bind ((j8 (N:=N+1) (m:=2) (F2.less (by omega)) (by omega) (by omega) (k+n)).mono ?_);rintro _ S3 ⟨r,rfl,hr,F3,K3⟩;refine Ok.eq (B4 _ _ S3)<|Ok.eq (e9 _ S3)<|Ok.ite (λ_=>?_) λ_=>fin ws S3 hw hl F3 (K2.tr K3);refine Ok.eq (a:=.int (-1)) rfl<|Ok.eq (a:=.lst (ws.reverse.map D.str)) (S1:=S3) (by rw [List.map_reverse];rfl)<|fin ws.reverse S3 (λw h=>hw w (List.mem_reverse.mp h)) (by rw [BP];exact hl) F3 (K2.tr K3)
   ·have c:5<=q:=by
     have:¬ ((q:Int)<5):=λz=>c (Au z);omega
    obtain ⟨n',rfl⟩:∃ n',n=n'+1:=⟨n-1,by
     have:n≠0:=λz=>by have:=q5 z;omega
     omega⟩
    have ec:cF (n'+1)=2 * cF n'+12:=rfl;have ez:zF (n'+1)=2 * zF n'+80:=rfl;refine Ok.nxt<|Ok.cg (mz ..)<|Ok.eq (B4 _ _ S1)<|Ok.eq (e9 _ S1)<|Ok.neg (by rw [Ao (by omega)];decide)<|Ok.nxt<|Ok.cg (mj ..)<|Ok.eq (di _ _ S1)<|Ok.eq (e9 _ S1)<|Ok.neg (by rw [Ao (by omega)];decide) ?_;refine Ok.nxt<|Ok.cg (rJ ..)<|Ok.eq (X9 (a:=n'+1) (b:=1) (by omega) S1)<|Ok.bind ((t9 hv n' (N+cF n') k S1 (F1.less (by omega))).mono ?_);rintro a S2 ⟨ha,F2,K2⟩;refine Ok.nxt<|Ok.cg (tF ..)<|Ok.eq (di _ _ S2)<|Ok.eq (e9 _ S2)<|Ok.ite (λ_=>?_) λc7=>?_
    ·exact Ok.ret ⟨(t2 ha).mono (by omega) (by omega),F2.less (by omega),K1.tr K2⟩
    ·have c7:7<=q:=by
      have:¬ ((q:Int)<7):=λz=>c7 (Au z);omega
     refine Ok.nxt<|Ok.cg (rA ..)<|Ok.eq (X9 (a:=q) (b:=7) c7 S2) ?_;have go:∀ w:Str,smB 0 70 (.str w)=true->ixD (.lst [.str "both",.str "either"]) (.int ((q-7:Nat):Int)) S2=.ok (.str w) S2->Ok (bind (ixD (.lst [.str "both",.str "either"]) (.int ((q-7:Nat):Int))) λx2=>bind (bB (.int ((n'+1:Nat):Int)) (.int 1)) λx3=>bind (rn (k+(n'+1)+1) cX [.ref p,x3,.int (v:Int)]) λx4=>nxt (evK Rs Γ (rn (k+(n'+1)+1)) 40) u5 [] endD (.rt (.tup [x2,a,x4]))) S2 λd S'=>Sml (n'+1+2) (zF (n'+1)) d/\Fw ns p N S'/\Kp p S S':=by
      intro w hw ew;refine Ok.eq ew<|Ok.eq (X9 (a:=n'+1) (b:=1) (by omega) S2)<|Ok.bind ((t9 hv n' N k S2 F2).mono ?_);rintro b S3 ⟨hb,F3,K3⟩;exact Ok.ret ⟨(t3 ha hb hw).mono (by omega) (by omega),F3,K1.tr (K2.tr K3)⟩
     have:q=7\/q=8:=by omega
     rcases this with rfl | rfl
     ·exact go "both" (by decide +kernel) rfl
     ·exact go "either" (by decide +kernel) rfl
  refine Ok.ite (λc=>?_) λc=>?_
  ·refine Ok.bind ((j8 (N:=N+cF n-1) (m:=9) (F.less (by omega)) (by omega) (by omega) (k+n)).mono ?_);rintro _ S1 ⟨q,rfl,hq,F1,K1⟩;exact main q S1 (λz=>by subst z;exact absurd (AS c) (by decide)) hq F1 K1
  ·refine Ok.bind ((j8 (N:=N+cF n-1) (m:=5) (F.less (by omega)) (by omega) (by omega) (k+n)).mono ?_);rintro _ S1 ⟨q,rfl,hq,F1,K1⟩;exact main q S1 (λ_=>hq) (by omega) F1 K1
structure Cn (l:Nat) (d:D):Prop where
 up:∀ hs f,l<=f->∃ t,sN hs f d=some t/\t<=2 * l
 dn:∀ hs f,f<l->sN hs f d=none
 sm:Sml l (160 * l) d
theorem cn0:Cn 1 (.tup [.str "closed"]):=by
 refine ⟨λhs f h=>?_,λhs f h=>?_,Sml.w⟩
 ·obtain ⟨f,rfl⟩:∃ f',f=f'+1:=⟨f-1,by omega⟩;exact ⟨1,rfl,by decide⟩
 ·obtain rfl:f=0:=by omega
  rfl
theorem gZ (hs:List Int) (f:Nat):sN hs (f+1) (.tup [.str "free"])=some 1:=rfl
theorem qF {l:Nat} {d:D} (h:Cn l d):Cn (l+1) (.tup [.str "not",d]):=by
 refine ⟨λhs f hf=>?_,λhs f hf=>?_,(t2 h.sm).mono (Aj _) (by omega)⟩
 ·obtain ⟨f,rfl⟩:∃ f',f=f'+1:=⟨f-1,by omega⟩;obtain ⟨t,e,ht⟩:=h.up hs f (by omega);refine ⟨1+(t+0),?_,by omega⟩;show i4 (some 1) (i4 (sN hs f d) (some 0))=_;rw [e];rfl
 ·cases f with
  | zero=>rfl
  | succ f=>
   show i4 (some 1) (i4 (sN hs f d) (some 0))=_;rw [h.dn hs f (by omega)];rfl
theorem t3f {w:Str} {a b:D} {n Z:Nat} (ha:Sml n Z a) (hb:Sml n 70 b) (hw:smB 0 70 (.str w)=true:=by decide +kernel):Sml (n+1) (Z+160) (.tup [.str w,b,a])/\Sml (n+1) (Z+160) (.tup [.str w,a,b]):=by
 obtain ⟨w1,w2,w3⟩:=k4 hw;have d1:=ha.dp;have d2:=hb.dp;have s1:=ha.sz;have s2:=hb.sz;refine ⟨⟨⟨w1,hb.pl,ha.pl,trivial⟩,?_,?_⟩,⟨⟨w1,ha.pl,hb.pl,trivial⟩,?_,?_⟩⟩
 ·show max 0 (max (dp b) (max (dp a) 0))+1<=n+1;omega
 ·show sz (.str w)+2+(sz b+2+(sz a+2+0))+3<=_;omega
 ·show max 0 (max (dp a) (max (dp b) 0))+1<=n+1;omega
 ·show sz (.str w)+2+(sz a+2+(sz b+2+0))+3<=_;omega
theorem dA {l:Nat} (h:1<=l):Sml l 70 (.tup [.str "free"]):=(Sml.w (n:=1) (N:=70)).mono h (Aj _)
theorem ii {l:Nat} {d:D} (h:Cn l d) (h1:1<=l):Cn (l+1) (.tup [.str "both",.tup [.str "free"],d])/\Cn (l+1) (.tup [.str "either",d,.tup [.str "free"]]):=by
 refine ⟨⟨λhs f hf=>?_,λhs f hf=>?_,(t3f h.sm (dA h1)).1.mono (Aj _) (by omega)⟩,⟨λhs f hf=>?_,λhs f hf=>?_,(t3f h.sm (dA h1)).2.mono (Aj _) (by omega)⟩⟩
 ·obtain ⟨f,rfl⟩:∃ f',f=f'+1+1:=⟨f-2,by omega⟩;obtain ⟨t,e,ht⟩:=h.up hs (f+1) (by omega);refine ⟨1+(1+(t+0)),?_,by omega⟩;show i4 (some 1) (i4 (sN hs (f+1) (.tup [.str "free"])) (i4 (sN hs (f+1) d) (some 0)))=_;rw [e,gZ];rfl
 ·cases f with
  | zero=>rfl
  | succ f=>
   show i4 (some 1) (i4 (sN hs f (.tup [.str "free"])) (i4 (sN hs f d) (some 0)))=_;rw [h.dn hs f (by omega)];cases sN hs f (.tup [.str "free"]) <;> rfl
 ·obtain ⟨f,rfl⟩:∃ f',f=f'+1+1:=⟨f-2,by omega⟩;obtain ⟨t,e,ht⟩:=h.up hs (f+1) (by omega);refine ⟨1+(t+(1+0)),?_,by omega⟩;show i4 (some 1) (i4 (sN hs (f+1) d) (i4 (sN hs (f+1) (.tup [.str "free"])) (some 0)))=_;rw [e,gZ];rfl
 ·cases f with
  | zero=>rfl
  | succ f=>
   show i4 (some 1) (i4 (sN hs f d) (i4 (sN hs f (.tup [.str "free"])) (some 0)))=_;rw [h.dn hs f (by omega)];rfl
theorem ik {ns:List Int} {p N m:Nat} (h1:1<=m) (h9:m<=9) (k:Nat) (S:Sto) (F:Fw ns p (N+9) S):Ok (rn (k+2) bw [.ref p,.int (m:Int)]) S λd S'=>Cn m d/\Fw ns p N S'/\Kp p S S':=by
 rw [rn,a7 (fd:=Ad) rfl,ki,kw];refine Ok.first<|Ok.cg (uE ..)<|Ok.nxt<|Ok.cg (sF ..)<|Ok.eq (X9 (b:=1) h1 S)<|Ok.eq (aB (n:=m-1) (by omega) S)<|Ok.bind ((Ok.loop (n:=m-1) (λi ρ S'=>Fw ns p (N+(9-i)) S'/\Kp p S S'/\∃ d o,Cn (i+1) d/\ρ=[some (.ref p),some (.int (m:Int)),some d,o]) (λρ S' _=>E6 (m-1) S') ?_ ⟨F,Kp.refl p S,_,_,cn0,rfl⟩).mono ?_)
 ·rintro i ρ S' hi ⟨Fi,Ki,d,o,hd,rfl⟩;refine ⟨.int (i:Int),_,P2 hi S',rfl,?_⟩;unfold aY;rw [aj];refine Ok.first<|Ok.cg (eU ..)<|Ok.bind ((j8 (N:=N+(9-(i+1))) (m:=3) (Fi.less (by omega)) (by omega) (by omega) k).mono ?_);rintro _ S2 ⟨r,rfl,hr,F2,K2⟩;have:r=0\/r=1\/r=2:=by omega
  rcases this with rfl | rfl | rfl
  ·exact Ok.eq (aD (i:=0) S2 rfl)<|Ok.ret ⟨_,.inl rfl,F2,Ki.tr K2,_,_,qF hd,rfl⟩
  ·exact Ok.eq (aD (i:=1) S2 rfl)<|Ok.ret ⟨_,.inl rfl,F2,Ki.tr K2,_,_,(ii hd (by omega)).1,rfl⟩
  ·exact Ok.eq (aD (i:=2) S2 rfl)<|Ok.ret ⟨_,.inl rfl,F2,Ki.tr K2,_,_,(ii hd (by omega)).2,rfl⟩
 ·rintro _ S' ⟨ρ,rfl,F',K',d,o,hd,rfl⟩;refine Ok.nxt<|Ok.cg (tI ..)<|Ok.ret ⟨?_,F'.less (by omega),K'⟩;rw [show m=m-1+1 by omega];exact hd
theorem jq {l:Nat} {d:D} (h:Cn l d) (w:Str):p9 (.tup [.str w,d])=(decide (l<=8)&&(n5 w).isSome):=by
 simp only [p9];cases n5 w with
 | none=>simp
 | some hs=>
  show few 0 (sN hs 8 d)=_;by_cases q:l<=8
  ·obtain ⟨t,e,ht⟩:=h.up hs 8 q;rw [e,Au q];exact Au (by omega)
  ·rw [h.dn hs 8 (by omega),Ao q];rfl
def br:Nat->Nat->D
 | 0,_=>.tup [.str "mark",.int 0]
 | f+1,m=>if m=1 then .tup [.str "mark",.int 0] else .tup [.str "both",br f ((m-1) / 2+1-(m-1) / 2 % 2),br f (m-1-((m-1) / 2+1-(m-1) / 2 % 2))]
theorem dJ (k:Nat) (S:Sto):rn (k+7) O7 [.int 19] S=.ok (br 6 19) S:=by kernel_rfl
theorem kJ (k:Nat) (S:Sto):rn (k+7) O7 [.int 21] S=.ok (br 6 21) S:=by kernel_rfl
theorem gF:smB 7 4000 (br 6 19)=true/\smB 7 4000 (br 6 21)=true:=by decide +kernel
theorem C9 {ns:List Int} {p N:Nat} {S S':Sto} (F:Fw ns p N S) (h:Ex S S'):Fw ns p N S':=F.keep (h.at F.lt)
theorem mD (ns:List Int) (S:Sto) (k:Nat):∃ ms:List Int,rn (k+1) ou [.scr (ns.map D.int)] S=.ok (.ref S.length) (S++[d4 ms 0 0 0]):=by
 obtain ⟨ms,em⟩:=gr ns;refine ⟨ms,?_⟩;rw [rn,a7 (fd:=jK) rfl,mR,a3 (show slD (.scr (ns.map D.int)) none (some 63) S=.ok (.lst (m7 (ns.map D.int) none (some 63))) S from rfl),em];kernel_rfl
theorem kl {n N:Nat} {d:D} (h:Sml n N d) (hn:n<=6):Any 3 N d:=⟨h.pl.ups,by have:=h.dp;omega,h.sz⟩
theorem tX {ns:List Int} {p N j Z:Nat} {d:D} {S:Sto} (F:Fw ns p (N+44) S) (h:Any j Z d) (hj:j<=7) (hZ:Z<=1000000):Ok (rn 13 cV [.ref p,d]) S λd' S'=>Any (j+1) (2 * Z+500) d'/\Fw ns p N S':=by
 have dp:=h.dp;refine (eG 10 d j N S h.pl (by omega) dp (by omega) (AY h.sz hZ) F).mono ?_;rintro d' S' ⟨b,F',_⟩;have sz:=h.sz;exact ⟨⟨b.pl,by have:=b.dp;omega,by have:=b.sz;omega⟩,F'⟩
theorem bW {w:Str} {j Z:Nat} {d:D} (h:Any j Z d) (hw:smB 0 70 (.str w)=true:=by decide +kernel):Any (j+1) (Z+80) (.tup [.str w,d]):=by
 obtain ⟨w1,w2,w3⟩:=k4 hw;refine ⟨⟨w1.ups,Pln.up d h.pl,trivial⟩,?_,?_⟩
 ·have:=h.dp;show max 0 (max (dp d) 0)+1<=_;omega
 ·have:=h.sz;show sz (.str w)+2+(sz d+2+0)+3<=_;omega
theorem aW {ns:List Int} {p N n:Nat} (hn:n<=3) (S:Sto) (F:Fw ns p (N+200) S):Ok (rn 13 tM [.ref p,.int (n:Int)]) S λd S'=>Sml 6 5440 d/\Fw ns p N S':=by
 have z3:zF n<=5360/\cF n<=180:=by
  have:n=0\/n=1\/n=2\/n=3:=by omega
  rcases this with rfl | rfl | rfl | rfl <;> decide
 rw [rn,a7 (fd:=pY) rfl,pr];refine Ok.bind ((j8 (N:=N+180) (m:=4) (F.less (by omega)) (by omega) (by omega) 11).mono ?_);rintro _ S1 ⟨r,rfl,hr,F1,K1⟩;have go:∀ (w:Str) (v:Nat),v<=2->smB 0 70 (.str w)=true->ixD (.lst [.str "each",.str "some",.str "pairs",.str "plain"]) (.int (r:Int)) S1=.ok (.str w) S1->ixD (.lst [.int 1,.int 1,.int 2,.int 0]) (.int (r:Int)) S1=.ok (.int (v:Int)) S1->Ok (bind (ixD (.lst [.str "each",.str "some",.str "pairs",.str "plain"]) (.int (r:Int))) λx2=>bind (ixD (.lst [.int 1,.int 1,.int 2,.int 0]) (.int (r:Int))) λx3=>bind (rn 12 cX [.ref p,.int (n:Int),x3]) λx4=>ret (.tup [x2,x4])) S1 λd S'=>Sml 6 5440 d/\Fw ns p N S':=by
  intro w v hv hw e1 e2;have e12:10-n+n+2=12:=by omega
  have fd:=t9 (ns:=ns) (p:=p) hv n N (10-n) S1 (F1.less (by omega));rw [e12] at fd;refine Ok.eq e1<|Ok.eq e2<|Ok.bind (fd.mono ?_);rintro d S2 ⟨hd,F2,K2⟩;exact Ok.ret ⟨(t2 hd hw).mono (by omega) (by omega),F2⟩
 have:r=0\/r=1\/r=2\/r=3:=by omega
 rcases this with rfl | rfl | rfl | rfl
 ·exact go "each" 1 (by decide) (by decide +kernel) rfl rfl
 ·exact go "some" 1 (by decide) (by decide +kernel) rfl rfl
 ·exact go "pairs" 2 (by decide) (by decide +kernel) rfl rfl
 ·exact go "plain" 0 (by decide) (by decide +kernel) rfl rfl
def words5:List Str:=["each","some","pairs","plain","every"]
def L0:List D:=[.tup [.str "mark",.int 0],.tup [.str "mark",.int 1],.tup [.str "at",.int 0,.tup []],.tup [.str "at",.int 1,.tup [.str "out",.str "down"]],.tup [.str "free"],.tup [.str "not",.tup [.str "mark",.int 1]]]
def L1:List D:=[.tup [.str "at",.int 0,.tup (wds.map D.str)],.tup [.str "at",.int 0,.tup (wds.reverse.map D.str)]]
def L2:List D:=[.tup [.str "both",.tup [.str "free"],.tup [.str "mark",.int 1]],.tup [.str "either",.tup [.str "closed"],.tup [.str "not",.tup [.str "at",.int 0,.tup []]]]]
def L3':D:=.tup [.str "not",.tup [.str "both",.tup [.str "mark",.int 0],.tup [.str "mark",.int 1]]]
def Ls:List D:=L0++L1++L2++[L3']
theorem rV:Ls.all (smB 5 1000)=true:=by decide +kernel
theorem mV {S:Sto} {n:Nat} {es ys:List D} (e:S[n]?=some (.lst es)) (hl:es.length+ys.length<=sizeLine):cr (.ref n) (.lst ys) S=.ok (.ref S.length) (S++[.lst (es++ys)]):=by
 simp only [cr,bind,lstOf,e,ret,if_pos hl]
theorem iQ {w:Str} (hw:w∈words5):(n5 w).isSome=!decide (w = "every")/\smB 0 70 (.str w)=true:=by
 have:∀ w∈words5,(n5 w).isSome=!decide (w = "every")/\smB 0 70 (.str w)=true:=by decide +kernel
 exact this w hw
theorem nq {w:Str} (hw:w∈words5) (S:Sto) {α:Type} (x y:M α):(bind (a5 .NotEq (.str w) (.str "every")) λx1=>bind (M0 (.lst [x1]) (.int 2)) λx2=>bind (j3 x2 (.lst [.bl false])) λx3=>bind (a5 .NotEq (.lst ([(n5 w).isSome,(n5 w).isSome,false].map D.bl)) x3) λx4=>bind (asB x4) λz5=>if z5=true then x else (bind (a5 .NotIn (.str w) (.tup [.str "every",.str "plain"])) λx6=>bind (a5 .NotEq (.lst ([p9 (.tup [.str w,br 6 19]),p9 (.tup [.str w,br 6 21])].map D.bl)) (.lst [x6,.bl false])) λx7=>bind (asB x7) λz8=>if z8=true then x else y)) S=y S:=by
 unfold words5 at hw;simp only [Ar,AH,Br] at hw;rcases hw with rfl | rfl | rfl | rfl | rfl <;> kernel_rfl
section
variable {ns:List Int} {p N:Nat} {w:Str} (hw:w∈words5)
include hw
theorem lR (S:Sto) (F:Fw ns p (N+30) S):Ok (i0 (n4 [.int 1,.int 8,.int 9]) (λd1=>ret true) (λd1=>bind (rn 13 bw [.ref p,d1]) λx3=>bind (rn 13 W4 [.tup [.str w,x3]]) λx4=>ret x4) 4 0 []) S λes S'=>es=[(n5 w).isSome,(n5 w).isSome,false].map D.bl/\Fw ns p N S':=by
 have one:∀ (m:Nat) (M:Nat) (S:Sto) (_:1<=m) (_:m<=9) (_:Fw ns p (M+9) S),Ok (bind (rn 13 bw [.ref p,.int (m:Int)]) λx3=>bind (rn 13 W4 [.tup [.str w,x3]]) λx4=>ret x4) S λy S'=>y=.bl (decide (m<=8)&&(n5 w).isSome)/\Fw ns p M S':=by
  intro m M S h1 h9 F;refine Ok.bind ((ik h1 h9 11 S F).mono ?_);rintro d S1 ⟨hd,F1,K1⟩;have a:Any 40 (160 * m+80) (.tup [.str w,d]):=(t2 hd.sm (iQ hw).2).any (by omega);refine Ok.bind ((A2 a (by omega) (by omega) 8 S1).mono ?_);rintro _ S2 ⟨rfl,ex⟩;exact Ok.ret ⟨by rw [jq hd],C9 F1 ex⟩
 refine (Ok.comp (n:=3) (λi S' es=>Fw ns p (N+10 * (3-i)) S'/\es=([(n5 w).isSome,(n5 w).isSome,false].take i).map D.bl) (λS' es _=>rfl) ?_ ⟨F.less (by omega),rfl⟩).mono ?_
 ·rintro i S' es hi ⟨Fi,rfl⟩;have:i=0\/i=1\/i=2:=by omega
  rcases this with rfl | rfl | rfl
  ·refine ⟨.int 1,rfl,Ok.ret ?_⟩;rw [if_pos rfl];refine (one 1 (N+20) S' (by decide) (by decide) (Fi.less (by omega))).mono ?_;rintro _ S1 ⟨rfl,F1⟩;exact ⟨jE (AL rfl),F1,rfl⟩
  ·refine ⟨.int 8,rfl,Ok.ret ?_⟩;rw [if_pos rfl];refine (one 8 (N+10) S' (by decide) (by decide) (Fi.less (by omega))).mono ?_;rintro _ S1 ⟨rfl,F1⟩;exact ⟨jE (AL rfl),F1,rfl⟩
  ·refine ⟨.int 9,rfl,Ok.ret ?_⟩;rw [if_pos rfl];refine (one 9 N S' (by decide) (by decide) (Fi.less (by omega))).mono ?_;rintro _ S1 ⟨rfl,F1⟩;exact ⟨jE (AL rfl),F1,rfl⟩
 ·rintro es S' ⟨F',rfl⟩;exact ⟨rfl,F'⟩
theorem gX (S:Sto) (F:Fw ns p N S):Ok (i0 (n4 [.int 19,.int 21]) (λd1=>ret true) (λd1=>bind (rn 13 O7 [d1]) λx3=>bind (rn 13 W4 [.tup [.str w,x3]]) λx4=>ret x4) 3 0 []) S λes S'=>es=[p9 (.tup [.str w,br 6 19]),p9 (.tup [.str w,br 6 21])].map D.bl/\Fw ns p N S':=by
 have one:∀ (x b:D) (S:Sto) (_:rn 13 O7 [x] S=.ok b S) (_:smB 7 4000 b=true) (_:Fw ns p N S),Ok (bind (rn 13 O7 [x]) λx3=>bind (rn 13 W4 [.tup [.str w,x3]]) λx4=>ret x4) S λy S'=>y=.bl (p9 (.tup [.str w,b]))/\Fw ns p N S':=by
  intro x b S e hb F;have a:Any 40 4080 (.tup [.str w,b]):=(t2 (Sml.w hb) (iQ hw).2).any (by omega);refine Ok.eq e<|Ok.bind ((A2 a (by omega) (by omega) 8 S).mono ?_);rintro _ S2 ⟨rfl,ex⟩;exact Ok.ret ⟨rfl,C9 F ex⟩
 refine (Ok.comp (n:=2) (λi S' es=>Fw ns p N S'/\es=([p9 (.tup [.str w,br 6 19]),p9 (.tup [.str w,br 6 21])].take i).map D.bl) (λS' es _=>rfl) ?_ ⟨F,rfl⟩).mono ?_
 ·rintro i S' es hi ⟨Fi,rfl⟩;have:i=0\/i=1:=by omega
  rcases this with rfl | rfl
  ·refine ⟨.int 19,rfl,Ok.ret ?_⟩;rw [if_pos rfl];refine (one (.int 19) _ S' (dJ 6 S') gF.1 Fi).mono ?_;rintro _ S1 ⟨rfl,F1⟩;exact ⟨jE (AL rfl),F1,rfl⟩
  ·refine ⟨.int 21,rfl,Ok.ret ?_⟩;rw [if_pos rfl];refine (one (.int 21) _ S' (kJ 6 S') gF.2 Fi).mono ?_;rintro _ S1 ⟨rfl,F1⟩;exact ⟨jE (AL rfl),F1,rfl⟩
 ·rintro es S' ⟨F',rfl⟩;exact ⟨rfl,F'⟩
theorem lq (o1 o3 o4 o5 o6 o7 o9 o10 o11 o12 o13 o14:Option D) (S:Sto) (F:Fw ns p (N+300) S):Ok (R5 (rn 13) [o1,some (.ref p),o3,o4,o5,o6,o7,some (.str w),o9,o10,o11,o12,o13,o14]) S λfl S'=>∃ o9 o10 o11 o12,fl=.nx [o1,some (.ref p),o3,o4,o5,o6,o7,some (.str w),o9,o10,o11,o12,o13,o14]/\Fw ns p N S':=by
 unfold R5;rw [av];have hp:=F.lt;have at_:∀ (S:Sto) (x:List D),(S++[O.lst x])[S.length]?=some (.lst x):=λS x=>by simp
 refine Ok.first<|Ok.cg (fI ..)<|Ok.eq (show newL L0 S=.ok (.ref S.length) (S++[.lst L0]) from rfl) ?_;have F1:=F.push (.lst L0);refine Ok.nxt<|Ok.cg (fU ..)<|Ok.eq (aS 12 _)<|Ok.eq (a:=.tup (wds.map D.str)) rfl<|Ok.eq (aS 12 _)<|Ok.eq (a:=.int (-1)) rfl<|Ok.eq (a:=.lst (wds.reverse.map D.str)) rfl<|Ok.eq (a:=.tup (wds.reverse.map D.str)) rfl ?_;refine Ok.eq (mV (ys:=L1) (at_ S L0) (by rw [AK];decide)) ?_;generalize hS1:S++[O.lst L0]=S1 at F1;have F2:=F1.push (.lst (L0++L1));refine Ok.nxt<|Ok.cg (fo ..)<|Ok.eq (mV (ys:=L2) (at_ S1 (L0++L1)) (by rw [AK];decide)) ?_;generalize hS2:S1++[O.lst (L0++L1)]=S2 at F2;have F3:=F2.push (.lst Ls);have p2:=F2.lt;refine Ok.nxt<|Ok.cg (fS ..)<|Ok.eq (gD (at_ S2 _))<|Ok.eq (mo (y:=L3') (at_ S2 (L0++L1++L2)) (by rw [AK];decide)) ?_;rw [aE];show Ok (nxt _ _ _ _ _) (S2++[.lst Ls]) _;refine Ok.nxt<|Ok.cg (eS ..)<|Ok.eq (gD (at_ S2 _))<|Ok.bind ((j8 (N:=N+290) (m:=3) (F3.less (by omega)) (by omega) (by omega) 12).mono ?_);rintro _ S3 ⟨q,rfl,hq,F4,K4⟩;refine Ok.eq (Q9 1 q S3)<|Ok.bind ((j8 (N:=N+280) (m:=3) (F4.less (by omega)) (by omega) (by omega) 12).mono ?_);rintro _ S4 ⟨v,rfl,hv,F5,K5⟩;have z3:zF (1+q)<=5360/\cF (1+q)<=180/\1+q<=3:=by
  have:q=0\/q=1\/q=2:=by omega
  rcases this with rfl | rfl | rfl <;> decide
 have e13:11-(1+q)+(1+q)+2=13:=by omega
 have fd:=t9 (ns:=ns) (p:=p) (v:=v) (by omega) (1+q) (N+50) (11-(1+q)) S4 (F5.less (by omega));rw [e13] at fd;refine Ok.bind (fd.mono ?_);rintro d S5 ⟨hd,F6,K6⟩;have np:S2.length≠p:=by omega
 have e5:S5[S2.length]?=some (.lst Ls):=by rw [K6.2 _ np,K5.2 _ np,K4.2 _ np];exact at_ S2 Ls
 refine Ok.eq (mo (y:=d) e5 (by rw [AK];decide)) ?_;have l5:S2.length<S5.length:=(Al.mp e5).1;have F7:Fw ns p (N+50) (S5.set S2.length (.lst (Ls++[d]))):=F6.keep (AZ np);have e6:(S5.set S2.length (O.lst (Ls++[d])))[S2.length]?=some (.lst (Ls++[d])):=AT l5;generalize S5.set S2.length (O.lst (Ls++[d]))=S6 at F7 e6;generalize S2.length=n at e6;have all:∀ e∈Ls++[d],Sml 5 5360 e:=λe he=>by
  rcases Ax.mp he with z | z
  ·exact (Sml.w (Ay.mp rV e z)).mono (Aj _) (by decide)
  ·rw [AB.mp z];exact hd.mono (by omega) z3.1
 have len:(Ls++[d]).length=12:=rfl;generalize Ls++[d]=M at e6 all len;refine Ok.nxt<|Ok.cg (eY ..)<|Ok.eq (a:=(fv n,M.length+1)) (S1:=S6) (by simp only [A7,e6])<|Ok.bind ((Ok.loop (n:=M.length) (λi ρ S'=>Fw ns p (N+50) S'/\S'[n]?=some (.lst M)/\∃ o10,ρ=[o1,some (.ref p),o3,o4,o5,o6,o7,some (.str w),some (.ref n),o10,o11,o12,o13,o14]) (λρ S' h=>(mn h.2.1 _).trans (by simp)) ?_ ⟨F7,e6,_,rfl⟩).mono ?_)
 ·rintro i ρ S' hi ⟨Fi,ei,o10,rfl⟩;refine ⟨M[i],_,(mn ei i).trans (by rw [As hi]),rfl,?_⟩;unfold D9;rw [L7];have a:Any 40 5440 (.tup [.str w,M[i]]):=(t2 (all _ (AI hi)) (iQ hw).2).any (by omega);refine Ok.first<|Ok.cg (T8 ..)<|Ok.bind ((v9 a (by omega) (by omega) 0 S').mono ?_);rintro _ S1 ⟨rfl,ex⟩;exact Ok.eq (a:=true) rfl<|Ok.neg (by decide)<|Ok.ret ⟨_,.inl rfl,C9 Fi ex,by rw [ex.at (Al.mp ei).1];exact ei,_,rfl⟩
 ·rintro _ S' ⟨ρ,rfl,F8,_,o10,rfl⟩;refine Ok.nxt<|Ok.cg (fg ..)<|nx_bind<|Ok.eq (G5 _ S')<|(lR (N:=N+20) hw S' F8).mono ?_;rintro _ S7 ⟨rfl,F9⟩;refine Ok.nxt<|Ok.cg (fX ..)<|nx_bind<|Ok.eq (G5 _ S7)<|(gX hw S7 F9).mono ?_;rintro _ S8 ⟨rfl,F10⟩;refine Ok.nxt<|Ok.cg (fh ..)<|Ok.cgS (nq hw S8 _ _)<|Ok.ret ⟨_,_,_,_,rfl,F10.less (by omega)⟩
end
def strange:List D:=[.tup [.str "each",.tup [.str "at",.int 0,.tup [.str "out",.str "out"]]],.tup [.str "each",.tup [.str "at",.int 0,.lst [.str "out"]]],.tup [.str "each",.tup [.str "at",.int 0,.tup [.lst [.str "out"]]]],.tup [.str "each",.tup [.str "mark",.lst []]],.tup [.str "each",.tup [.str "mark",.bl true]],.tup [.lst [.str "each"],.tup [.str "free"]],.tup [.str "each",.tup [.lst []]]]
theorem cc:strange.all (λd=>smB 5 1000 d&&!p9 d)=true:=by decide +kernel
theorem cG (S:Sto):Ok (i0 (n4 strange) (λd1=>ret true) (λd1=>bind (rn 13 W4 [d1]) λx3=>ret x3) 8 0 []) S λes S'=>es=(List.replicate 7 false).map D.bl:=by
 refine (Ok.comp (n:=7) (λi S' es=>es=(List.replicate i false).map D.bl/\i<=7) (λS' es _=>rfl) ?_ ⟨rfl,AO _⟩).mono λes S' h=>h.1;rintro i S' es hi ⟨rfl,_⟩;have hi':i<strange.length:=hi;have h:=Ay.mp cc _ (AI hi');rw [Ag,Bs] at h;refine ⟨strange[i],by show some strange[i]?=_;rw [As hi'],Ok.ret ?_⟩;rw [if_pos rfl];refine Ok.bind ((A2 ((Sml.w h.1).any (by omega)) (by omega) (by omega) 8 S').mono ?_);rintro _ S1 ⟨rfl,_⟩;refine Ok.ret ⟨by rw [AE,BC,AK];omega,?_,by omega⟩;rw [h.2,List.replicate_succ',BA];rfl
theorem nJ (ns:List Int):∃ S',rn 14 jY [.scr (ns.map D.int)] []=.ok (.bl true) S':=by
 suffices h:Ok (rn 14 jY [.scr (ns.map D.int)]) [] λd _=>d=.bl true by
  obtain ⟨d,S',e,rfl⟩:=h;exact ⟨S',e⟩
 rw [rn,a7 (fd:=law_F) rfl,mC,lJ];obtain ⟨ms,ew⟩:=mD ns [] 12;refine Ok.first<|Ok.cg (rR ..)<|Ok.eq ew ?_;have F0:Fw ms 0 20000 ([]++[d4 ms 0 0 0]):=⟨0,0,0,by simp,by omega,by omega,by omega,by omega⟩;generalize ([]++[d4 ms 0 0 0]:Sto)=S0 at F0;show Ok (nxt _ _ _ _ (.nx [some (.scr (ns.map D.int)),some (.ref 0),none,none,none,none,none,none,none,none,none,none,none,none])) S0 _;refine Ok.nxt<|Ok.cg (sj ..)<|Ok.eq (aB (n:=8) (by omega) _)<|Ok.bind ((Ok.loop (n:=8) (λi ρ S'=>Fw ms 0 (2000+1200 * (8-i)) S'/\∃ (o3 o4 o5 o6 o7:Option D),ρ=[some (.scr (ns.map D.int)),some (.ref 0),o3,o4,o5,o6,o7,none,none,none,none,none,none,none]) (λρ S' _=>E6 8 S') ?_ ⟨F0.less (by omega),_,_,_,_,_,rfl⟩).mono ?_)
 ·rintro i ρ S hi ⟨F,o3,o4,o5,o6,o7,rfl⟩;refine ⟨.int (i:Int),_,P2 hi S,rfl,?_⟩;unfold bY;rw [aZ];generalize hB:2000+1200 * (8-(i+1))=B;refine Ok.first<|Ok.cg (fk ..)<|Ok.bind ((j8 (N:=B+1100) (m:=3) (F.less (by omega)) (by omega) (by omega) 12).mono ?_);rintro _ S1 ⟨q,rfl,hq,F1,_⟩;refine Ok.eq (Q9 1 q S1)<|Ok.bind ((aW (N:=B+900) (n:=1+q) (by omega) S1 (F1.less (by omega))).mono ?_);rintro g S2 ⟨hg,F2⟩;have ag:=kl hg (Aj _);refine Ok.nxt<|Ok.cg (eR ..)<|Ok.bind ((v9 ag (by omega) (by omega) 0 S2).mono ?_);rintro _ S3 ⟨rfl,ex3⟩;have F3:=C9 F2 ex3;refine Ok.eq (a:=true) rfl<|Ok.neg (by decide)<|Ok.nxt<|Ok.cg (fJ ..)<|Ok.eq (aB (n:=6) (by omega) _)<|Ok.bind ((Ok.loop (n:=6) (λj ρ S'=>Fw ms 0 (B+150 * (6-j)) S'/\∃ (o5 o6 o7:Option D),ρ=[some (.scr (ns.map D.int)),some (.ref 0),some (.int (i:Int)),some g,o5,o6,o7,none,none,none,none,none,none,none]) (λρ S' _=>E6 6 S') ?_ ⟨F3.less (by omega),_,_,_,rfl⟩).mono ?_)
  ·rintro j ρ S4 hj ⟨F4,o5,o6,o7,rfl⟩;refine ⟨.int (j:Int),_,P2 hj S4,rfl,?_⟩;unfold D6;rw [L9];generalize hC:B+150 * (6-(j+1))=C;refine Ok.first<|Ok.cg (U4 ..)<|Ok.bind ((tX (N:=C+100) (F4.less (by omega)) ag (by omega) (by omega)).mono ?_);rintro d1 S5 ⟨a1,F5⟩;refine Ok.nxt<|Ok.cg (T7 ..)<|Ok.bind ((j8 (N:=C+90) (m:=4) (F5.less (by omega)) (by omega) (by omega) 12).mono ?_);rintro _ S6 ⟨r,rfl,hr,F6,_⟩;obtain ⟨m,hm,em⟩:∃ m:Nat,m<=2/\ixD (.lst [.int 0,.int 0,.int 1,.int 2]) (.int (r:Int)) S6=.ok (.int (m:Int)) S6:=by
    have:r=0\/r=1\/r=2\/r=3:=by omega
    rcases this with rfl | rfl | rfl | rfl
    ·exact ⟨0,by decide,rfl⟩
    ·exact ⟨0,by decide,rfl⟩
    ·exact ⟨1,by decide,rfl⟩
    ·exact ⟨2,by decide,rfl⟩
   refine Ok.eq em<|Ok.eq (aB (n:=m) (by omega) _)<|Ok.bind ((Ok.loop (n:=m) (λl ρ S'=>Fw ms 0 (C+45 * (2-l)) S'/\∃ (d:D) (o7:Option D),Any (4+l) (if l=0 then 11380 else if l=1 then 23260 else 47020) d/\ρ=[some (.scr (ns.map D.int)),some (.ref 0),some (.int (i:Int)),some g,some (.int (j:Int)),some d,o7,none,none,none,none,none,none,none]) (λρ S' _=>E6 m S') ?_ ⟨F6.less (by omega),d1,_,a1,rfl⟩).mono ?_)
   ·rintro l ρ S7 hl ⟨F7,d,o7,ad,rfl⟩;refine ⟨.int (l:Int),_,P2 hl S7,rfl,?_⟩;unfold t6;rw [A5];have hl2:l=0\/l=1:=by omega
    refine Ok.first<|Ok.cg (E1 ..)<|Ok.bind ((tX (N:=C+45 * (2-(l+1))) (F7.less (by omega)) ad (by omega) (by rcases hl2 with rfl | rfl <;> decide)).mono ?_);rintro d2 S8 ⟨a2,F8⟩;refine Ok.ret ⟨_,.inl rfl,F8,d2,_,?_,rfl⟩;rcases hl2 with rfl | rfl
    ·exact a2
    ·exact a2
   ·rintro _ S7 ⟨ρ,rfl,F7,d,o7,ad,rfl⟩;have ad:Any 6 47020 d:=⟨by
     have:=ad.pl;have hm':m=0\/m=1\/m=2:=by omega
     rcases hm' with rfl | rfl | rfl
     ·exact Pln.up _ (Pln.up _ this)
     ·exact Pln.up _ this
     ·exact this,by have:=ad.dp;omega,by have:=ad.sz;split at this <;> (try split at this) <;> omega⟩
    refine Ok.nxt<|Ok.cg (U0 ..)<|Ok.bind ((v9 ad (by omega) (by omega) 0 S7).mono ?_);rintro _ S8 ⟨rfl,ex8⟩;refine Ok.eq (a:=true) rfl<|Ok.neg (by decide)<|Ok.bind ((v9 (bW (w:="each") ad) (by omega) (by omega) 0 S8).mono ?_);rintro _ S9 ⟨rfl,ex9⟩;refine Ok.eq (a:=true) rfl<|Ok.neg (by decide)<|Ok.bind ((v9 (bW (w:="pairs") ad) (by omega) (by omega) 0 S9).mono ?_);rintro _ S10 ⟨rfl,ex10⟩;exact Ok.eq (a:=true) rfl<|Ok.neg (by decide)<|Ok.ret ⟨_,.inl rfl,C9 (C9 (C9 (F7.less (by omega)) ex8) ex9) ex10,_,_,_,rfl⟩
  ·rintro _ S' ⟨ρ,rfl,F',o5,o6,o7,rfl⟩;exact Ok.ret ⟨_,.inl rfl,F'.less (by omega),_,_,_,_,_,rfl⟩
 ·rintro _ S' ⟨ρ,rfl,F1,o3,o4,o5,o6,o7,rfl⟩;refine Ok.nxt<|Ok.cg (tE ..)<|Ok.eq (S1:=S') (a:=(n4 (words5.map D.str),6)) rfl<|Ok.bind ((Ok.loop (n:=5) (λi ρ S'=>Fw ms 0 (300 * (5-i)) S'/\∃ o8 o9 o10 o11 o12:Option D,ρ=[some (.scr (ns.map D.int)),some (.ref 0),o3,o4,o5,o6,o7,o8,o9,o10,o11,o12,none,none]) (λρ S' _=>rfl) ?_ ⟨F1.less (by omega),_,_,_,_,_,rfl⟩).mono ?_)
  ·rintro i ρ S2 hi ⟨F2,o8,o9,o10,o11,o12,rfl⟩;have hi':i<words5.length:=hi;refine ⟨.str words5[i],_,by show some (words5.map D.str)[i]?=_;rw [Y4 (As hi')],rfl,?_⟩;refine (lq (N:=300 * (5-(i+1))) (AI hi') _ _ _ _ _ _ _ _ _ _ _ _ S2 (F2.less (by omega))).mono ?_;rintro _ S3 ⟨o9,o10,o11,o12,rfl,F3⟩;exact ⟨_,.inl rfl,F3,_,_,_,_,_,rfl⟩
  ·rintro _ S2 ⟨ρ,rfl,F2,o8,o9,o10,o11,o12,rfl⟩;refine Ok.nxt<|Ok.cg (sA ..)<|Ok.eq (dJ 6 S2)<|Ok.nxt<|Ok.cg (sn ..)<|Ok.nxt<|Ok.cg (qW ..)<|Ok.eq (a:=.lst strange) rfl<|Ok.nxt<|Ok.cg (rF ..)<|nx_bind<|Ok.eq (S1:=S2) (a:=(n4 strange,8)) rfl<|(cG S2).mono ?_;rintro _ S3 rfl;have sm2:Sml 8 4080 (.tup [.str "not",br 6 19]):=t2 (Sml.w gF.1);have a1:Any 40 4160 (.tup [.str "each",.tup [.str "not",br 6 19]]):=(t2 sm2).any (by omega);have a2:Any 40 4240 (.tup [.str "each",.tup [.str "not",.tup [.str "not",br 6 19]]]):=(t2 (t2 sm2)).any (by omega);have e1:p9 (.tup [.str "each",.tup [.str "not",br 6 19]])=true:=by decide +kernel
   have e2:p9 (.tup [.str "each",.tup [.str "not",.tup [.str "not",br 6 19]]])=false:=by decide +kernel
   refine Ok.eq (ng _ S3)<|Ok.eq (a:=false) rfl<|Ok.neg (by decide)<|Ok.nxt<|Ok.cg (sP ..)<|Ok.bind ((A2 a1 (by omega) (by omega) 8 S3).mono ?_);rintro _ S4 ⟨rfl,_⟩;rw [e1];refine Ok.eq (a:=.bl true) rfl<|Ok.eq (a:=true) rfl<|Ok.pos rfl<|Ok.bind ((A2 a2 (by omega) (by omega) 8 S4).mono ?_);rintro _ S5 ⟨rfl,_⟩;rw [e2];exact Ok.eq (a:=.bl true) rfl<|Ok.ret rfl
end L3.K05
section
namespace L3.K05
open PySem PySem.Spec PyProof.Rows L2 Hn
theorem all_mk {l:PySem.W.OpenLaw} {w:World} {K:PySem.W.Frag} {h:Heap} {mg:Str->Option Value} {fa g0 g1 g2 g3 g4 g5 g6 g7 g8 g9 g10 g11 g12 g13 g14 g15 g16 g17 g18 g19 g20 g21 g22:Addr} (X:K.In h) (G:h.Ns mainGlobals mg) (hfa:mg "law" = some (.ref fa))
  {Zc0:Addr} {tC0_0 tC0_1 tC0_2 tC0_3 tC0_4 tC0_5 tC0_6:Tok} {nC0:Nat} {slC0:Array (Option Value)} {tC1:Tok} {tC2:Tok} {Zc3:Addr} {esC3:Array DictEntry} {nC3:Nat} {Yc3_0:Addr} {nC3_0:Nat} {slC3_0:Array (Option Value)} {tC3_0_0:Tok} {Yc3_1:Addr} {nC3_1:Nat} {slC3_1:Array (Option Value)} {tC3_1_0:Tok} {Yc3_2:Addr} {nC3_2:Nat} {slC3_2:Array (Option Value)} {tC3_2_0 tC3_2_1:Tok} {Yc3_3:Addr} {nC3_3:Nat} {slC3_3:Array (Option Value)} {Zc4:Addr} {tC4_0 tC4_1 tC4_2 tC4_3 tC4_4 tC4_5 tC4_6:Tok} {esC4:Array DictEntry} {nC4:Nat}
  (rjk:bA K g22=false)
  (rbl:(bnames.all λx=>(Γ.gl.lookup x).isSome||isNo (PySem.W.nsIn K mainGlobals x))=true)
  (dg0:GF K "is_whole" (top 1) g0)
  (dg1:GF K "is_one_of" (top 2) g1)
  (dg2:GF K "is_tuple_of" (top 3) g2)
  (dg3:GF K "is_sentence" (top 10) g3)
  (dg4:GF K "is_formula" (top 11) g4)
  (dg5:GF K "is_built" (top 12) g5)
  (dg6:GF K "formulas_in" (top 13) g6)
  (dg7:GF K "are_words" (top 14) g7)
  (dg8:GF K "_law_feed" (top 16) g8)
  (dg9:GF K "_law_draw" (top 17) g9)
  (dg10:GF K "_law_words" (top 18) g10)
  (dg11:GF K "_law_formula" (top 20) g11)
  (dg12:GF K "_law_sentence" (top 21) g12)
  (dg13:GF K "_law_odd" (top 22) g13)
  (dg14:GF K "_law_bent" (top 23) g14)
  (dg15:GF K "_law_one_way" (top 24) g15)
  (dg16:GF K "_law_count" (top 25) g16)
  (dg17:GF K "_law_words_so" (top 26) g17)
  (dg18:GF K "_law_due" (top 27) g18)
  (dg19:GF K "_law_right" (top 28) g19)
  (dg20:GF K "_law_chain" (top 29) g20)
  (dg21:GF K "_law_broad" (top 30) g21)
  (dg22:GF K "law" (top 31) g22)
  (aC0:PySem.W.nsIn K mainGlobals "WORDS" = some (some (.ref Zc0))) (lC0:K.lookup Zc0=some ⟨.type "tuple",none,.seq #[.str "out" tC0_0,.str "ask" tC0_1,.str "close" tC0_2,.str "look" tC0_3,.str "holds" tC0_4,.str "right" tC0_5,.str "down" tC0_6] nC0,slC0⟩)
  (aC1:PySem.W.nsIn K mainGlobals "MOST_FORMULAS" = some (some (.int 20 tC1)))
  (aC2:PySem.W.nsIn K mainGlobals "MOST_WITHIN" = some (some (.int 8 tC2)))
  (aC3:PySem.W.nsIn K mainGlobals "HANDS" = some (some (.ref Zc3))) (lC3:K.lookup Zc3=some ⟨.type "dict",none,.dict esC3 nC3,#[]⟩) (kC3:PySem.W.KeysLit w.params esC3.toList) (sC3:(Zc3==sysModules)=false) (zC3:B9 esC3.toList=some (["each","some","pairs","plain"]:List Str))
  (dC3_0:PySem.W.nsIn K Zc3 "each" = some (some (.ref Yc3_0))) (eC3_0:K.lookup Yc3_0=some ⟨.type "tuple",none,.seq #[.int 0 tC3_0_0] nC3_0,slC3_0⟩)
  (dC3_1:PySem.W.nsIn K Zc3 "some" = some (some (.ref Yc3_1))) (eC3_1:K.lookup Yc3_1=some ⟨.type "tuple",none,.seq #[.int 0 tC3_1_0] nC3_1,slC3_1⟩)
  (dC3_2:PySem.W.nsIn K Zc3 "pairs" = some (some (.ref Yc3_2))) (eC3_2:K.lookup Yc3_2=some ⟨.type "tuple",none,.seq #[.int 0 tC3_2_0,.int 1 tC3_2_1] nC3_2,slC3_2⟩)
  (dC3_3:PySem.W.nsIn K Zc3 "plain" = some (some (.ref Yc3_3))) (eC3_3:K.lookup Yc3_3=some ⟨.type "tuple",none,.seq #[] nC3_3,slC3_3⟩)
  (aC4:PySem.W.nsIn K mainGlobals "PARTS" = some (some (.ref Zc4))) (lC4:K.lookup Zc4=some ⟨.type "dict",none,.dict esC4 nC4,#[]⟩) (kC4:PySem.W.KeysLit w.params esC4.toList) (sC4:(Zc4==sysModules)=false) (zC4:B9 esC4.toList=some (["at","mark","free","closed","not","both","either"]:List Str))
  (dC4_0:PySem.W.nsIn K Zc4 "at" = some (some (.int 3 tC4_0)))
  (dC4_1:PySem.W.nsIn K Zc4 "mark" = some (some (.int 2 tC4_1)))
  (dC4_2:PySem.W.nsIn K Zc4 "free" = some (some (.int 1 tC4_2)))
  (dC4_3:PySem.W.nsIn K Zc4 "closed" = some (some (.int 1 tC4_3)))
  (dC4_4:PySem.W.nsIn K Zc4 "not" = some (some (.int 2 tC4_4)))
  (dC4_5:PySem.W.nsIn K Zc4 "both" = some (some (.int 3 tC4_5)))
  (dC4_6:PySem.W.nsIn K Zc4 "either" = some (some (.int 3 tC4_6))) :
  ∃ fd:FuncData,(∀ (s:Shared) (v:Value),BindsTo s fd ⟨[v],[]⟩ [("_law_script",v)])/\∀ base:Heap,K.In base->base.Ns mainGlobals mg->FnOk l.prog w K mg base CX0 17 fa fd ["_law_script"] (aH K):=by
 have e:=hfa.symm.trans (BB X G dg22.a);cases e;have RB:RowB K Γ [] fa:=⟨rfl,rjk,rfl,rfl,rfl,rfl,rbl⟩;obtain ⟨_,⟨oc,od,kV,dc,pm,an,cd,ct,sl,rfl,lk,hc⟩,kp⟩:=dg22.f;have FL:=ja lk hc kp;refine ⟨PySem.W.fnOf "law" "law" (l8 (top 31)) (i6 (top 31)) (b3 (top 31)) .none kV dc pm an cd ct,λs v=>.of_eq rfl,λbase KB GB=>?_⟩
 let T:Tx:=⟨l.prog,w,K,mg,base,aI [] fa⟩
 have st:TxSt T Γ:=by
  refine RB.st (T:=T) X G rfl (λx d e=>?_) (λx c fs e=>?_) (λx kvs e=>?_)
  ·have m:=L2.mem_of_lookup e;simp only [Γ,Ar,AH,Br,Cu,L3.G.val.injEq,reduceCtorEq,and_false,false_or] at m;rcases m with ⟨rfl,rfl⟩ | ⟨rfl,rfl⟩ | ⟨rfl,rfl⟩
   ·exact ⟨_,.ref Zc0,BB X G aC0,rfl,λμ H=>.tup (xs:=[.str "out",.str "ask",.str "close",.str "look",.str "holds",.str "right",.str "down"]) (.inr ⟨_,_,_,lC0,rfl,rfl,AL rfl,(.cons ⟨_,rfl⟩ (.cons ⟨_,rfl⟩ (.cons ⟨_,rfl⟩ (.cons ⟨_,rfl⟩ (.cons ⟨_,rfl⟩ (.cons ⟨_,rfl⟩ (.cons ⟨_,rfl⟩ .nil))))))),rfl⟩) (.cons (.str _) (.cons (.str _) (.cons (.str _) (.cons (.str _) (.cons (.str _) (.cons (.str _) (.cons (.str _) .nil)))))))⟩
   ·exact ⟨_,.int 20,BB X G aC1,⟨_,rfl⟩,λμ H=>.int _⟩
   ·exact ⟨_,.int 8,BB X G aC2,⟨_,rfl⟩,λμ H=>.int _⟩
  ·have m:=L2.mem_of_lookup e;simp [Γ] at m
  ·have m:=L2.mem_of_lookup e;simp only [Γ,Ar,AH,Br,Cu,L3.G.dct.injEq,reduceCtorEq,and_false,false_or] at m;rcases m with ⟨rfl,rfl⟩ | ⟨rfl,rfl⟩
   ·refine ⟨Zc3,_,_,BB X G aC3,lC3,kC3,sC3,λk e2=>mr lC3 zC3 rfl e2,λk d e2=>?_⟩;have m2:=L2.mem_of_lookup e2;simp only [Ar,AH,Br,Cu] at m2;rcases m2 with ⟨rfl,rfl⟩ | ⟨rfl,rfl⟩ | ⟨rfl,rfl⟩ | ⟨rfl,rfl⟩
    ·exact ⟨_,.ref Yc3_0,dC3_0,rfl,λμ H=>.tup (xs:=[.int 0]) (.inr ⟨_,_,_,eC3_0,rfl,rfl,AL rfl,(.cons ⟨_,rfl⟩ .nil),rfl⟩) (.cons (.int _) .nil)⟩
    ·exact ⟨_,.ref Yc3_1,dC3_1,rfl,λμ H=>.tup (xs:=[.int 0]) (.inr ⟨_,_,_,eC3_1,rfl,rfl,AL rfl,(.cons ⟨_,rfl⟩ .nil),rfl⟩) (.cons (.int _) .nil)⟩
    ·exact ⟨_,.ref Yc3_2,dC3_2,rfl,λμ H=>.tup (xs:=[.int 0,.int 1]) (.inr ⟨_,_,_,eC3_2,rfl,rfl,AL rfl,(.cons ⟨_,rfl⟩ (.cons ⟨_,rfl⟩ .nil)),rfl⟩) (.cons (.int _) (.cons (.int _) .nil))⟩
    ·exact ⟨_,.ref Yc3_3,dC3_3,rfl,λμ H=>.tup (xs:=[]) (.inr ⟨_,_,_,eC3_3,rfl,rfl,AL rfl,.nil,rfl⟩) .nil⟩
   ·refine ⟨Zc4,_,_,BB X G aC4,lC4,kC4,sC4,λk e2=>mr lC4 zC4 rfl e2,λk d e2=>?_⟩;have m2:=L2.mem_of_lookup e2;simp only [Ar,AH,Br,Cu] at m2;rcases m2 with ⟨rfl,rfl⟩ | ⟨rfl,rfl⟩ | ⟨rfl,rfl⟩ | ⟨rfl,rfl⟩ | ⟨rfl,rfl⟩ | ⟨rfl,rfl⟩ | ⟨rfl,rfl⟩
    ·exact ⟨_,.int 3,dC4_0,⟨_,rfl⟩,λμ H=>.int _⟩
    ·exact ⟨_,.int 2,dC4_1,⟨_,rfl⟩,λμ H=>.int _⟩
    ·exact ⟨_,.int 1,dC4_2,⟨_,rfl⟩,λμ H=>.int _⟩
    ·exact ⟨_,.int 1,dC4_3,⟨_,rfl⟩,λμ H=>.int _⟩
    ·exact ⟨_,.int 2,dC4_4,⟨_,rfl⟩,λμ H=>.int _⟩
    ·exact ⟨_,.int 3,dC4_5,⟨_,rfl⟩,λμ H=>.int _⟩
    ·exact ⟨_,.int 3,dC4_6,⟨_,rfl⟩,λμ H=>.int _⟩
 have fs:hX T Γ Tb:=by
  refine sH ?_;refine And.intro (fe X G (T:=T) dg0 (by decide +kernel) (λ_ _ _ _ _ _ us hl=>L8 hl λ_=>rfl) rfl rfl) ?_;refine And.intro (fe X G (T:=T) dg1 (by decide +kernel) (λ_ _ _ _ _ _ us hl=>X3 hl λ_ _=>rfl) rfl rfl) ?_;refine And.intro (fe X G (T:=T) dg2 (by decide +kernel) (λ_ _ _ _ _ _ us hl=>X3 hl λ_ _=>rfl) rfl rfl) ?_;refine And.intro (fe X G (T:=T) dg3 (by decide +kernel) (λ_ _ _ _ _ _ us hl=>L8 hl λ_=>rfl) rfl rfl) ?_;refine And.intro (fe X G (T:=T) dg4 (m:=["waiting"]) (by decide +kernel) (λ_ _ _ _ _ _ us hl=>X3 hl λ_ _=>rfl) rfl rfl) ?_;refine And.intro (fe X G (T:=T) dg5 (by decide +kernel) (λ_ _ _ _ _ _ us hl=>X3 hl λ_ _=>rfl) rfl rfl) ?_;refine And.intro (fe X G (T:=T) dg6 (by decide +kernel) (λ_ _ _ _ _ _ us hl=>L8 hl λ_=>rfl) rfl rfl) ?_;refine And.intro (fe X G (T:=T) dg7 (m:=["setw"]) (by decide +kernel) (λ_ _ _ _ _ _ us hl=>L8 hl λ_=>rfl) rfl rfl) ?_;refine And.intro (fe X G (T:=T) dg8 (by decide +kernel) (λ_ _ _ _ _ _ us hl=>L8 hl λ_=>rfl) rfl rfl) ?_;refine And.intro (fe X G (T:=T) dg9 (by decide +kernel) (λ_ _ _ _ _ _ us hl=>X3 hl λ_ _=>rfl) rfl rfl) ?_;refine And.intro (fe X G (T:=T) dg10 (by decide +kernel) (λ_ _ _ _ _ _ us hl=>vT hl rfl) rfl rfl) ?_;refine And.intro (fe X G (T:=T) dg11 (by decide +kernel) (λ_ _ _ _ _ _ us hl=>vB hl λ_ _ _=>rfl) rfl rfl) ?_;refine And.intro (fe X G (T:=T) dg12 (by decide +kernel) (λ_ _ _ _ _ _ us hl=>X3 hl λ_ _=>rfl) rfl rfl) ?_;refine And.intro (fe X G (T:=T) dg13 (by decide +kernel) (λ_ _ _ _ _ _ us hl=>L8 hl λ_=>rfl) rfl rfl) ?_;refine And.intro (fe X G (T:=T) dg14 (by decide +kernel) (λ_ _ _ _ _ _ us hl=>X3 hl λ_ _=>rfl) rfl rfl) ?_;refine And.intro (fe X G (T:=T) dg15 (by decide +kernel) (λ_ _ _ _ _ _ us hl=>L8 hl λ_=>rfl) rfl rfl) ?_;refine And.intro (fe X G (T:=T) dg16 (by decide +kernel) (λ_ _ _ _ _ _ us hl=>X3 hl λ_ _=>rfl) rfl rfl) ?_;refine And.intro (fe X G (T:=T) dg17 (by decide +kernel) (λ_ _ _ _ _ _ us hl=>L8 hl λ_=>rfl) rfl rfl) ?_;refine And.intro (fe X G (T:=T) dg18 (m:=["[;]"]) (by decide +kernel) (λ_ _ _ _ _ _ us hl=>L8 hl λ_=>rfl) rfl rfl) ?_;refine And.intro (fe X G (T:=T) dg19 (by decide +kernel) (λ_ _ _ _ _ _ us hl=>L8 hl λ_=>rfl) rfl rfl) ?_;refine And.intro (fe X G (T:=T) dg20 (by decide +kernel) (λ_ _ _ _ _ _ us hl=>X3 hl λ_ _=>rfl) rfl rfl) ?_;refine And.intro (fe X G (T:=T) dg21 (by decide +kernel) (λ_ _ _ _ _ _ us hl=>L8 hl λ_=>rfl) rfl rfl) ?_;refine And.intro (fe X G (T:=T) dg22 (m:=["_law_some"]) (by decide +kernel) (λ_ _ _ _ _ _ us hl=>L8 hl λ_=>rfl) rfl rfl) ?_
  trivial
 have ok:=lA (Rs:=Rs) (T:=T) (k:=13) (i:=22) (fd:=j2 (top 31) ["_law_some"]) (lY st fs 13) rfl FL rfl rfl (P8 (by decide +kernel));exact FnOk.imp ok (fE nJ)
theorem walk {l:PySem.W.OpenLaw} {q:Program} {loose:List Str} {XP:(Str->Option Value)->Heap->Prop} {YP:World->Heap->Prop} {d:DefRec} {K:Params->PySem.W.Frag} (hn:l.most=some 63) (hdf:d.params.defaults=[])
  (hY:∀ (w:World) (h:Heap),YP w h->(K w.params).In h)
  (F:∀ (w:World) (mg:Str->Option Value) (fa:Addr) (h:Heap),(K w.params).In h->h.Ns mainGlobals mg->mg d.name=some (.ref fa) ->
   ∃ fd:FuncData,(∀ (s:Shared) (u:Value),BindsTo s fd ⟨[u],[]⟩ [("_law_script",u)])/\∀ base:Heap,(K w.params).In base->base.Ns mainGlobals mg->FnOk l.prog w (K w.params) mg base CX0 17 fa fd ["_law_script"] (aH (K w.params))) :
  PySem.W.WalkO q loose XP YP l.row.toRowW d [] (λf vs=>PySem.call f vs):=
 L2.walk_of (n:=63) (k:=17) (x:="_law_script") (CX:=λ_=>CX0) (sp:=λw=>aH (K w.params)) hn (by decide) hdf ⟨λ_=>rfl,by decide,by decide,rfl⟩ hY F (λ_ _ a ns hl _ hS=>⟨a,ns,rfl,hS,λ_=>rfl⟩) λ_ _ _ _ _ z=>z
end L3.K05
open PySem PySem.W PyProof.Rows
set_option maxRecDepth 100000 in
set_option maxHeartbeats 0 in
theorem PySem.Challenge.cw_handnames_k05_sentences_of_any_thing_holds : PySem.Challenge.rw_handnames_k05_sentences_of_any_thing.Holds := by
 w_on;o_law;k_head;(case hw=>w_witness2)
 k_fill
 refine L3.K05.walk (l:=PySem.Challenge.rw_handnames_k05_sentences_of_any_thing) rfl rfl (λw h Y=>PySem.W.kIn_of Y) ?F
 case F=>
  intro w mg fa h KX G hmg;refine' L3.K05.all_mk KX G hmg ?_ ?_ ?_ ?_ ?_ ?_ ?_ ?_ ?_ ?_ ?_ ?_ ?_ ?_ ?_ ?_ ?_ ?_ ?_ ?_ ?_ ?_ ?_ ?_ ?_ ?_ ?_ ?_ ?_ ?_ ?_ ?_ ?_ ?_ ?_ ?_ ?_ ?_ ?_ ?_ ?_ ?_ ?_ ?_ ?_ ?_ ?_ ?_ ?_ ?_ ?_ ?_ ?_ ?_
  rotate_left 64
  iterate 2 kernel_rfl
  iterate 23 (refine' L3.gf_mk ?a ?l ?c ?k;(case a=>k_is);(case l=>k_is);(case c=>k_is);(case k=>k_is))
  iterate 6 k_is
  (repeat (first | exact True.intro | refine And.intro ⟨_,_,rfl,rfl⟩ ?_))
  iterate 2 rfl
  iterate 10 k_is
  (repeat (first | exact True.intro | refine And.intro ⟨_,_,rfl,rfl⟩ ?_))
  iterate 2 rfl
  iterate 7 k_is
end
