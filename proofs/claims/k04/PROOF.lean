import PyProof.Rows.All
import Wide.All
import OpenK.AllK
import Wide.FinOn
import Lean
import PyProof.EqAt
import PyProof.EqKinds
import PyProof.TupleCall
import PyProof.CompUse
import PyProof.P3Eq
import PyProof.NeData
import PyProof.P3In
import PyProof.EnumMake
import PyProof.Draws
import PyProof.ConsumeWalk
import PyProof.Rows.SetFrom
import PyProof.SetRoads
import PyProof.Rows.SortWalk
import PyProof.ListRange
import PyProof.WalksMore
import PySem.Challenge.RW_handnames_k04_all_stands_and_found_ones
set_option Elab.async false
set_option linter.all false
set_option bootstrap.genMatcherCode false
set_option maxRecDepth 100000
set_option maxHeartbeats 4000000
local macro_rules (kind:=Lean.Parser.Command.declaration)
|s=>do
 if (s[1].isOfKind ``Lean.Parser.Command.definition||s[1].isOfKind ``Lean.Parser.Command.abbrev)&&s[0].getArgs.all (·.isNone) then return s.setArg 0 (<-`(command|noncomputable def x:=0)).raw[0]
 else Lean.Macro.throwUnsupported
local macro_rules|`(tactic|omega)=>`(tactic|first|with_reducible assumption|with_reducible exact Nat.le_refl _|exact Nat.zero_le _|exact Nat.succ_pos _|exact Nat.le_of_lt (by with_reducible assumption)|exact Nat.lt_succ_of_le (by with_reducible assumption)|exact Nat.le_trans (by with_reducible assumption) (by decide)|exact Nat.lt_of_le_of_lt (by with_reducible assumption) (by decide)|exact Nat.lt_of_lt_of_le (by with_reducible assumption) (by decide)|lia|omega +splitDisjunctions)
namespace PySem.W.Fast
def tw17343616262110251049:=0
def tw16196750585360079194:=0
def tw3106176841145165701:=0
def tw9172039554453141380:=0
def tw8358781666824771330:=0
def tw3887579865969777584:=0
def tw17664989297555601659:=0
def tw798070559705538104:=0
def tw5603845772534262136:=0
def tw4482848873967293230:=0
def tw17487375172144407702:=0
def tw325449523814179785:=0
def tw10982729261301017241:=0
def tw1438658447598492111:=0
def tw9621147597653117909:=0
def tw16138158692901966911:=0
def tw6963757712736099481:=0
def tw8877315584421764619:=0
def tw15032513438871961388:=0
def tw12165528550213633434:=0
def tw15769427957979353899:=0
def tw10969688815890943114:=0
def tw12110346466107604459:=0
def tw8462240533577579520:=0
def tw1302540368268255800:=0
def tw12274849109600858902:=0
def tw6523832153595000060:=0
def tw16110264824090826193:=0
def tw9010833570836960833:=0
def tw6496555231216629140:=0
def tw9602479297263098489:=0
def tw15847443236554304116:=0
def tw13954111692357489599:=0
def tw5531227648471609113:=0
def tw7600036856787618668:=0
def tw14236116994372308510:=0
def tw5699992610082316221:=0
def tw10529399740690614956:=0
def tw9635492452838613877:=0
def tw7751097881874656421:=0
def tw11636947256448999747:=0
def tw6108648752225265804:=0
def tw3784350149093530500:=0
def tw12569785586237324176:=0
def tw9110010875758213313:=0
def tw13865948825478226393:=0
def tw7385612156082691215:=0
def tw14811567934233868096:=0
def tw12410355565554560250:=0
def tw15016231005451898465:=0
def tw14183920394750109004:=0
def tw7250885492567607268:=0
def tw3272898636344881493:=0
def tw8487706987891682960:=0
def tw3390977620838888795:=0
def tw8977465186525139380:=0
def tw15690191512203321275:=0
def tw13857705966169041722:=0
def tw3516119574766454114:=0
def tw16897840520667224173:=0
def tw6881195527477693728:=0
def tw9454150604593341177:=0
def tw18273204917189719483:=0
def tw595157547796503293:=0
def tw4789844445204747445:=0
def tw11897550702788641052:=0
def tw3773847681940365343:=0
def tw15869425864682400739:=0
def tw3587303554740826389:=0
def tw1304290789927824109:=0
def tw15151787633405588816:=0
def tw5174030392009288430:=0
def tw13522573835046888692:=0
def tw14787818683328195357:=0
def tw18258590206239958981:=0
def tw4341175576427423540:=0
def tw9932992091104501236:=0
def tw11395057261169865768:=0
def tw1666320337809105786:=0
def tw8048703670916868072:=0
def tw13068510390243812550:=0
def tw10216535101001532470:=0
def tw16212148145653601490:=0
def tw4901855627932675125:=0
def tw15238102160309485415:=0
def tw157074677820363990:=0
def tw13249158142622401056:=0
def tw10209044563634415830:=0
def tw12623106116369366394:=0
def tw9939027882305782375:=0
def tw7942556326240875706:=0
def tw6647378122533705521:=0
def tw9517018822567785185:=0
def tw518906030318137891:=0
def tw3490435007747790013:=0
def tw9738722319852708300:=0
def tw2895601165268924207:=0
def tw14006929305072758823:=0
def tw5217245665670812458:=0
def tw4920526552194740545:=0
def tw2817470754673545769:=0
def tw3388487771393445683:=0
def tw14647185962542664276:=0
def tw10312233003819147499:=0
def tw5184838373567681863:=0
def tw5574208509195674212:=0
def tw12177370840269121146:=0
def tw7151484192848211423:=0
def tw8414356484973747533:=0
def tw11239406239994719601:=0
def tw17285611556939891948:=0
def tw14378683039710974397:=0
def tw11647574484862024887:=0
def tw8639413414464059896:=0
def tw2018104009426023101:=0
def tw11246279289606289146:=0
def tw11067009432723395360:=0
def tw4865962038707618431:=0
def tw16233058983279416378:=0
def tw14272565728216126569:=0
def tw1743037489284316618:=0
def tw14016148190613579431:=0
def tw8397718807451014049:=0
def tw12774161880361397149:=0
def tw9319842104902879678:=0
def tw14594420908655282190:=0
def tw8862823605796317674:=0
def tw4347448744728166497:=0
def tw1405722653464576872:=0
def tw11819096405177020238:=0
def tw3794807553906042820:=0
def tw695323562266366730:=0
def tw7153407445825951595:=0
def tw12313093899044005046:=0
def tw2975612606197296437:=0
def tw5980126296971422993:=0
def tw11264310485872708655:=0
def tw18272674160349088620:=0
def tw14768943672107171277:=0
def tw4098485872340887416:=0
def tw13591051618697018009:=0
def tw6890051601149488219:=0
def tw1459641927436535378:=0
def tw11209590597760339504:=0
def tw12562478869171817363:=0
def tw10333474283517693698:=0
def tw11010343386399187089:=0
def tw15796744035586914434:=0
def tw17111082157862459817:=0
end PySem.W.Fast
def Ag:=@PySem.wpAny_bind
def Ah:=@PySem.Heap.get?_push_of_some
def Ai:=@List.getElem?_eq_some_iff
def Aj:=@PySem.wpAny_pure
def Ak:=@Bool.and_eq_true
def Al:=@List.getElem?_append_left
def Am:=@Bool.false_ne_true
def An:=@List.length_map
def Ao:=@Nat.le_refl
def Ap:=@PySem.Heap.lt_size
def Aq:=@List.mem_cons_self
def Ar:=@List.mem_cons_of_mem
def As:=@List.size_toArray
def Au:=@Nat.ne_of_lt
def Av:=@List.mem_append_right
def Aw:=@List.mem_singleton
def Ax:=@PySem.Heap.get?_push_size
def Ay:=@Nat.lt_of_lt_of_le
def Az:=@List.mem_append
def AA:=@List.getElem?_append_right
def AB:=@List.getElem?_eq_getElem
def AC:=@List.getElem?_set_ne
def AD:=@PySem.sizeLine_eq
def AE:=@List.map_cons
def AF:=@Nat.lt_succ_self
def AG:=@decide_eq_true_eq
def AH:=@Option.some.inj
def AI:=@List.append_nil
def AJ:=@List.mem_cons
def AK:=@PySem.wpAny_mono
def AL:=@List.mem_of_getElem?
def AM:=@List.getElem?_map
def AN:=@List.all_eq_true
def AO:=@decide_eq_true
def AQ:=@Nat.le_trans
def AR:=@List.getElem?_set_self
def AS:=@PySem.wpAny_newObj_type
def AT:=@List.getElem?_eq_none
def AU:=@List.mem_map
def AV:=@List.length_append
def AW:=@PySem.lookup_relabel_local
def AX:=@PySem.Heap.get?_update_self
def AY:=@Option.isSome_iff_exists
def AZ:=@List.find?_cons
def Ba:=@List.getElem?_replicate
def Bb:=@Nat.lt_succ_of_lt
def Bc:=@Bool.not_eq_true'
def Bd:=@List.nodup_cons
def Be:=@decide_eq_false
def Bf:=@PyProof.Rows.slot_tuple_getitem
def Bg:=@List.length_cons
def Bh:=@List.getElem_mem
def Bi:=@List.all_cons
def Bj:=@PySem.wpAny_field
def Bk:=@List.drop_zero
def Bl:=@List.filterMap_cons
def Bm:=@List.replicate_succ
def Bn:=@PyProof.Rows.callWith_type1
def Bo:=@PySem.wpAny_standAt
def Bp:=@PySem.wpAny_Call_Name_kw
def Bq:=@PySem.Heap.size_push
def Br:=@PySem.F.slot_dict_get
def Bs:=@List.length_filter_le
def Bt:=@Option.isNone_iff_eq_none
def Bu:=@PySem.wpAny_passesOwn
def Bv:=@List.append_assoc
def Bw:=@Nat.le_succ
def Bx:=@List.flatMap_cons
def By:=@PySem.wpAny_comprehension_free
def Bz:=@PySem.mem_of_lookup
def BA:=@List.length_flatMap
def BB:=@PySem.wpAny_callSpecial?_slot
def BC:=@List.map_flatMap
def BD:=@PySem.Heap.get?_update_other
def BE:=@PySem.F.entry_dict_get
def BF:=@PySem.codeAny_compStart_list
def BG:=@Bool.false_eq_true
def BH:=@List.filter_append
def BI:=@List.forIn_cons
def BJ:=@List.map_append
def BK:=@PySem.wpAny_holding
def BL:=@PySem.W.mg_of
def BM:=@List.length_replicate
def BN:=@Nat.le_of_ble_eq_true
def BO:=@List.flatten_cons
def BP:=@List.nodup_append
def BQ:=@of_decide_eq_true
def BR:=@List.mem_range
def BS:=@List.length_dropLast
def BU:=@PySem.wpAny_newFunctionEnv
def BV:=@PySem.codeAny_mono
def BW:=@Nat.le_of_not_lt
def BX:=@List.lookup_cons
def BY:=@List.map_map
def BZ:=@List.flatMap_nil
def Ca:=@PySem.wpAny_binaryOp_repeat_ref
def Cb:=@List.getElem?_eq_none_iff
def Cc:=@List.getLast?_eq_none_iff
def Cd:=@beq_eq_false_iff_ne
def Ce:=@PySem.Heap.get?_update_ne
def Cg:=@List.flatMap_append
def Ch:=@List.filter_eq_self
def Ci:=@Nat.lt_irrefl
def Cj:=@PySem.F.args_tuple_add_2
def Ck:=@Bool.eq_iff_iff
def Cm:=@PySem.call_meets
def Cn:=@PySem.tupleKind_room_in1
def Co:=@PySem.wpAny_pyIter_tuple
def Cp:=@Int.emod_lt_of_pos
def Cq:=@PySem.F.entry_tuple_add
def Cr:=@Nat.zero_le
def Cs:=@PySem.F.slot_tuple_add
def Ct:=@Option.map_eq_some_iff
def Cu:=@PySem.PyData.noDict_hsm
def Cv:=@PySem.wpAny_setField
def Cw:=@PySem.eqIsQuiet_byValue
def Cy:=@PySem.wpAny_pyIter_enum
def Cz:=@List.take_succ_eq_append_getElem
def CA:=@Array.getElem?_toList
def CB:=@List.pairwise_flatMap
def CC:=@beq_iff_eq
def CD:=@PyProof.Rows.callWith_builtin1
def CF:=@PySem.wpAny_call_entry
def CG:=@PySem.typeIs_int
def CH:=@List.take_length
def CI:=@List.mem_flatMap
def CJ:=@List.mem_append_left
def CK:=@List.mem_of_mem_tail
def CL:=@List.mem_filter
def CM:=@PySem.wpAny_execs_nil
def CN:=@List.nil_append
def CO:=@List.find?_some
def CP:=@Int.emod_nonneg
def CQ:=@PySem.call_meetsIn
def CS:=@PySem.Calls.Name_function_global
def CT:=@List.mem_filterMap
def CU:=@PySem.Calls.spliced_cons
def CV:=@PySem.W.callWith_K
def CW:=@List.forIn_nil
def CY:=@PyProof.Rows.isRef_of_reads
def CZ:=@PySem.F.excBase_ValueError
def Da:=@List.getD_eq_getElem?_getD
def Db:=@Array.getElem?_eq_getElem
def Dc:=@PySem.Calls.spliced_nil
def Dd:=@Option.isSome_map
def De:=@bne_self_eq_false
def Df:=@Int.toNat_natCast
def Dg:=@List.pairwise_map
def Dh:=@List.any_cons
def Di:=@PySem.strLen_append
def Dj:=@PySem.PyData.tuple.sizeOf_spec
def Dk:=@List.length_take
def Dl:=@PySem.noFill_tuple_add
def Dm:=@PySem.F.args_dict_get_2
def Dn:=@PySem.F.args_dict_get_3
def Do:=@Nat.succ_ne_self
def Dp:=@PySem.F.plainAttrs_list
def Dq:=@Int.eq_ofNat_of_zero_le
def Dr:=@List.filter_cons_of_neg
def Ds:=@List.filter_cons
def Dt:=@Nat.le_of_lt
def Du:=@PySem.wpAny_call
def Dv:=@Int.ne_of_gt
def Dw:=@List.of_mem_zip
def Dx:=@List.length_set
def Dy:=@List.foldl_cons
def Dz:=@List.range_succ
def DA:=@PySem.wpAny_loadPart
def DB:=@decide_true
def DC:=@PySem.seq_tuple_add
def DF:=@PySem.eval_ListComp
def DG:=@if_true
def DH:=@if_false
namespace L2
open PySem PySem.Spec PyProof.Rows
abbrev Key:=Sum Int Str
def X2:Key->Value->Bool
 | .inl k,v=>Value.isInt k v
 | .inr x,v=>Value.isStrOf x v
def vX (w:World):Key->Int
 | .inl k=>hashInt k
 | .inr x=>hashStr w x
theorem f9:∀ {k:Key} {v:Value},X2 k v=true->(∃ i t,k=Sum.inl i/\v=Value.int i t)\/(∃ x t,k=Sum.inr x/\v=Value.str x t)
 | .inl i,v,h=>by
  obtain ⟨t,e⟩:=Value.isInt_shape h;exact .inl ⟨i,t,rfl,e⟩
 | .inr x,v,h=>by
  obtain ⟨t,e⟩:=Value.isStrOf_shape h;exact .inr ⟨x,t,rfl,e⟩
theorem ed (i:Int) (t:Tok):X2 (.inl i) (.int i t)=true:=by simp [X2,Value.isInt]
theorem fN (x:Str) (t:Tok):X2 (.inr x) (.str x t)=true:=by simp [X2,Value.isStrOf]
theorem nU (a b:Int):decide ((Sum.inl a:Key)=Sum.inl b)=(a==b):=by grind
theorem nJ (a b:Str):decide ((Sum.inr a:Key)=Sum.inr b)=decide (a=b):=by grind
theorem pA (a:Int) (b:Str):decide ((Sum.inl a:Key)=Sum.inr b)=false:=by grind
theorem om (a:Str) (b:Int):decide ((Sum.inr a:Key)=Sum.inl b)=false:=by grind
def d8 (prog:Program) (w:World):PySem.KeyKind prog w Key where
 is:=X2
 hash:=vX w
 inj:=λv a b f d=>by
  rcases f9 f with ⟨i,t,rfl,rfl⟩ | ⟨x,t,rfl,rfl⟩
  ·rcases f9 d with ⟨j,u,rfl,e⟩ | ⟨y,u,rfl,e⟩
   ·grind
   ·exact nomatch e
  ·rcases f9 d with ⟨j,u,rfl,e⟩ | ⟨y,u,rfl,e⟩
   ·exact nomatch e
   ·grind
 byValue:=λk v h=>by
  rcases f9 h with ⟨i,t,rfl,rfl⟩ | ⟨x,t,rfl,rfl⟩ <;> rfl
 pyHash:=λc h=>by
  rcases f9 c with ⟨i,t,rfl,rfl⟩ | ⟨x,t,rfl,rfl⟩
  ·exact wpAny_pyHash_int h
  ·exact wpAny_pyHash_str h
 eqBool:=λg c h=>by
  rcases f9 g with ⟨i,t,rfl,rfl⟩ | ⟨x,t,rfl,rfl⟩
  ·rcases f9 c with ⟨j,u,rfl,rfl⟩ | ⟨y,u,rfl,rfl⟩
   ·rw [nU] at h;exact wpAny_eqBool_int h
   ·rw [pA] at h;exact SeqAt.EqAt.int_str i t y u _ _ _ _ h
  ·rcases f9 c with ⟨j,u,rfl,rfl⟩ | ⟨y,u,rfl,rfl⟩
   ·rw [om] at h;exact SeqAt.EqAt.str_int x t j u _ _ _ _ h
   ·rw [nJ] at h;exact wpAny_eqBool_str h
 «strs»:=λk x t v h=>by
  rcases f9 h with ⟨i,u,rfl,e⟩ | ⟨y,u,rfl,e⟩
  ·exact nomatch e
  ·injection e with e1 _;subst e1;cases v <;> rfl
theorem bJ (prog:Program) (w:World) (i:Int) (t:Tok):(d8 prog w).is (.inl i) (.int i t)=true:=ed i t
theorem bO (prog:Program) (w:World) (x:Str) (t:Tok):(d8 prog w).is (.inr x) (.str x t)=true:=fN x t
inductive V where
 | non | bl (b:Bool) | int (i:Int) | str (x:Str) | byt (b:Array UInt8) | flt (b:UInt64) | ref (a:Addr) | ty (n:String)
 deriving DecidableEq
def RelV:V->Value->Prop
 | .non,u=>u=Value.none
 | .bl b,u=>u=Value.bool b
 | .int i,u=>∃ t,u=Value.int i t
 | .str x,u=>∃ t,u=Value.str x t
 | .byt b,u=>∃ t,u=Value.bytes b t
 | .flt b,u=>∃ t,u=Value.float b t
 | .ref a,u=>u=Value.ref a
 | .ty n,u=>u=Value.type n
abbrev Vals:List V->List Value->Prop:=Paired RelV
theorem Vals.length (r:Vals xs us):xs.length=us.length:=Paired.length r
theorem Vals.get:∀ {xs:List V} {us:List Value} {i:Nat} {x:V},Vals xs us->xs[i]?=some x->∃ u,us[i]?=some u/\RelV x u
 | _,_,_,_,.nil,e=>by simp at e
 | _,_,0,_,.cons r _,e=>by simp at e;subst e;exact ⟨_,rfl,r⟩
 | _,_,i+1,x,.cons _ t,e=>by
  obtain ⟨u,b,a⟩:=Vals.get t (by simpa using e);exact ⟨u,by simpa using b,a⟩
theorem Vals.set (r:RelV x u):∀ {xs:List V} {us:List Value} (i:Nat),Vals xs us->Vals (xs.set i x) (us.set i u)
 | _,_,_,.nil=>.nil
 | _,_,0,.cons _ t=>.cons r t
 | _,_,i+1,.cons q t=>.cons q (Vals.set r i t)
theorem Vals.append:∀ {xs ys:List V} {us ws:List Value},Vals xs us->Vals ys ws->Vals (xs++ys) (us++ws)
 | _,_,_,_,.nil,s=>s
 | _,_,_,_,.cons r t,s=>.cons r (Vals.append t s)
theorem Vals.take:∀ {xs:List V} {us:List Value} (n:Nat),Vals xs us->Vals (xs.take n) (us.take n)
 | _,_,0,_=>.nil
 | _,_,_+1,.nil=>.nil
 | _,_,n+1,.cons r t=>.cons r (Vals.take n t)
theorem Vals.drop:∀ {xs:List V} {us:List Value} (n:Nat),Vals xs us->Vals (xs.drop n) (us.drop n)
 | _,_,0,r=>r
 | _,_,_+1,.nil=>.nil
 | _,_,n+1,.cons _ t=>Vals.drop n t
def RelO:Option V->Option Value->Prop
 | some v,some u=>RelV v u
 | none,none=>True
 | _,_=>False
def KV {κ:Type}:List (κ×V)->List (κ×Value)->Prop:=Paired λ(p:κ×V) (q:κ×Value)=>p.1=q.1/\RelV p.2 q.2
def kV:Key->V
 | .inl i=>.int i
 | .inr x=>.str x
inductive HO where
 | lst (xs:List V)
 | tup (xs:List V)
 | dK (kvs:List (Key×V)) | dT (kvs:List (List Key×V))
 | set (S:Int->Bool) (n:Nat)
 | ins (C dx:Addr) (fs:List (Str×V))
 | own (x:Addr)
 | xd (fs:List (Str×V))
 | met (f x:Addr)
 | rng (lo hi:Int)
 | frz (o:Obj) (u:HO)
 | tbl (ps:Array Value)
 | ext (φ:Heap->Prop)
abbrev Hp:=Addr->Option HO
def upd (H:Hp) (a:Addr) (o:HO):Hp:=λb=>if b=a then some o else H b
theorem b6:upd H a o a=some o:=by unfold upd;rw [if_pos rfl]
theorem a7 {a b:Addr} {o:HO} (h:b≠a):upd H a o b=H b:=by unfold upd;rw [if_neg h]
theorem cq {H:Hp} {a b:Addr} {o u:HO} (h:H a=some o) (h':H b=some u) (d:o≠u):a≠b:=by grind
theorem a9 {H:Hp} {a b:Addr} {o:HO} (h:H a=some o) (h':H b=none):a≠b:=by grind
def TupN (h:Heap) (a:Addr) (items:Array Value):Prop:=∃ o,h.get? a=some o/\o.cls=.type "tuple"/\∃ n,o.data=.seq items n/\o.dict=none
theorem TupN.is (x:TupN h a items):IsTup h a items:=let ⟨o,e,c,n,d,_⟩:=x;⟨o,e,c,n,d⟩
theorem TupN.new (h:Heap) (items:Array Value):TupN (h.push { cls:=.type "tuple",data:=.seq items }) h.objs.size items:=⟨_,Ax _ rfl,rfl,_,rfl,rfl⟩
section
variable (P:Program) (w:World)
def ObjOk (H:Hp) (h:Heap) (a:Addr):HO->Prop
 | .lst xs=>xs.length<=sizeLine/\∃ (b:List Value) (n:Nat),Vals xs b/\h.get? a=some { cls:=.type "list",data:=.seq b.toArray n }
 | .tup xs=>xs.length<=sizeLine/\∃ b:List Value,Vals xs b/\TupN h a b.toArray
 | .dK c=>c.length<=sizeLine/\(a==sysModules)=false/\∃ vs,KV c vs/\h.DictOf (d8 P w) a vs
 | .dT c=>c.length<=sizeLine/\(a==sysModules)=false/\∃ xs:List (List Key×Addr×Value),
   Paired (λ(p:List Key×V) (q:List Key×Addr×Value)=>p.1=q.1/\H q.2.1=some (.tup (p.1.map kV))/\RelV p.2 q.2.2) c xs /\
   ∃ o es k,h.get? a=some o/\o.ExactDict/\o.data=.dict es k/\es.toList=xs.map (entryOfKey (tupleKind (d8 P w)))/\(xs.map (·.1)).Nodup
 | .set S n=>h.SetOf (intKind P w) a S n
 | .ins C d fs=>H d=some (.own a)/\fs.length<=1000/\d≠a/\h.get? a=some (PySem.W.instObj C d) /\
   ∃ mA,h.Ns1 d mA/\(∀ f,RelO (fs.lookup f) (mA f))/\PySem.Within mA (fs.map (·.1))
 | .own _=>∃ o,h.get? a=some o
 | .xd fs=>∃ mA,h.Ns1 a mA/\∀ f,RelO (fs.lookup f) (mA f)
 | .rng lo j=>∃ t u v,h.get? a=some { cls:=.type "range",data:=.fields #[.int lo t,.int j u,.int 1 v] }
 | .frz o u=>h.get? a=some o/\ObjOk H h a u
 | .tbl ps=>h.get? a=some { cls:=.none,data:=.fields ps }
 | .met f x=>h.get? a=some (PySem.W.methodObj (.ref f) (.ref x))
 | .ext e=>e h/\(∃ o,h.get? a=some o)/\∀ g i:Heap,e g->(∀ o,g.get? a=some o->i.get? a=some o)->e i
def HOk (H:Hp) (h:Heap):Prop:=∀ a o,H a=some o->ObjOk P w H h a o
end
section
variable {P:Program} {w:World} {H H':Hp} {h h':Heap} {a:Addr} {o:HO}
theorem ObjOk.lt (x:ObjOk P w H h a o):a<h.objs.size:=by
 cases o with
 | lst xs=>obtain ⟨_,_,_,_,e⟩:=x;exact Ap e
 | tup xs=>obtain ⟨_,_,_,p⟩:=x;exact p.is.lt
 | dK kvs=>obtain ⟨_,_,_,_,o,_,_,e,_⟩:=x;exact Ap e
 | dT kvs=>obtain ⟨_,_,_,_,o,_,_,e,_⟩:=x;exact Ap e
 | set S n=>obtain ⟨o,_,_,_,e,_⟩:=x;exact Ap e
 | ins C dx fs=>obtain ⟨_,_,_,e,_⟩:=x;exact Ap e
 | own y=>obtain ⟨_,e⟩:=x;exact Ap e
 | xd fs=>obtain ⟨_,⟨_,_,_,e,_⟩,_⟩:=x;exact Ap e
 | rng lo hi=>obtain ⟨_,_,_,e⟩:=x;exact Ap e
 | frz ob u=>obtain ⟨e,_⟩:=x;exact Ap e
 | tbl ps=>exact Ap (x)
 | met f y=>exact Ap (x)
 | ext φ=>obtain ⟨_,⟨_,e⟩,_⟩:=x;exact Ap e
theorem Paired.mapP:∀ {c:List α} {d:List β},Paired F c d->(∀ a b,F a b->G a b)->Paired G c d
 | _,_,.nil,_=>.nil
 | _,_,.cons r t,f=>.cons (f _ _ r) (Paired.mapP t f)
theorem ObjOk.stay (x:ObjOk P w H h a o) (k:∀ b u,(b=a\/H b=some (.own a))->h.get? b=some u->h'.get? b=some u)
  (ho:∀ b,H b=some (.own a)->H' b=some (.own a)) (ht:∀ b xs,H b=some (.tup xs)->H' b=some (.tup xs)):ObjOk P w H' h' a o:=by
 induction o with
 | lst xs=>obtain ⟨z,its,n,r,e⟩:=x;exact ⟨z,its,n,r,k _ _ (.inl rfl) e⟩
 | tup xs=>obtain ⟨z,its,r,ob,e,c⟩:=x;exact ⟨z,its,r,ob,k _ _ (.inl rfl) e,c⟩
 | dK kvs=>obtain ⟨z,y,vs,r,ob,es,ep,e,c⟩:=x;exact ⟨z,y,vs,r,ob,es,ep,k _ _ (.inl rfl) e,c⟩
 | dT kvs=>
  obtain ⟨z,y,xs,r,ob,es,ep,e,c⟩:=x;exact ⟨z,y,xs,Paired.mapP r λp q z=>⟨z.1,ht _ _ z.2.1,z.2.2⟩,ob,es,ep,k _ _ (.inl rfl) e,c⟩
 | set S n=>obtain ⟨ob,es,ep,t,e,c⟩:=x;exact ⟨ob,es,ep,t,k _ _ (.inl rfl) e,c⟩
 | ins C dx fs=>
  obtain ⟨d,z,ne,e,mA,⟨od,es,ep,e2,c⟩,r⟩:=x;exact ⟨ho _ d,z,ne,k _ _ (.inl rfl) e,mA,⟨od,es,ep,k _ _ (.inr d) e2,c⟩,r⟩
 | own y=>obtain ⟨ob,e⟩:=x;exact ⟨ob,k _ _ (.inl rfl) e⟩
 | xd fs=>obtain ⟨mA,⟨od,es,ep,e,c⟩,r⟩:=x;exact ⟨mA,⟨od,es,ep,k _ _ (.inl rfl) e,c⟩,r⟩
 | rng lo hi=>obtain ⟨t,u,v,e⟩:=x;exact ⟨t,u,v,k _ _ (.inl rfl) e⟩
 | frz ob u ih=>obtain ⟨e,q⟩:=x;exact ⟨k _ _ (.inl rfl) e,ih q⟩
 | tbl ps=>
  have e:=x;exact k a _ (.inl rfl) e
 | met f y=>
  have e:=x;exact k a _ (.inl rfl) e
 | ext φ=>obtain ⟨p,⟨o,e⟩,st⟩:=x;exact ⟨st _ _ p λo q=>k _ _ (.inl rfl) q,⟨o,k _ _ (.inl rfl) e⟩,st⟩
theorem HOk.lt (x:HOk P w H h) (e:H a=some o):a<h.objs.size:=(x a o e).lt
theorem HOk.fresh (x:HOk P w H h) (e:h.objs.size<=a):H a=none:=by
 cases q:H a with
 | none=>rfl
 | some u=>exact absurd (Ay (x.lt q) e) (Ci _)
theorem HOk.kept (x:HOk P w H h) (k:∀ b u,h.get? b=some u->h'.get? b=some u):HOk P w H h':=λa o e=>
 (x a o e).stay (λb u _ q=>k b u q) (λ_ q=>q) λ_ _ q=>q
theorem HOk.laid (x:HOk P w H h) (k:∀ b u,h.get? b=some u->h'.get? b=some u) (i:h.objs.size<=a) (d:ObjOk P w (upd H a o) h' a o):HOk P w (upd H a o) h':=λb u e=>by
 have g:=x.fresh i;by_cases f:b=a
 ·subst f;rw [b6] at e;cases e;exact d
 ·rw [a7 f] at e;exact (x b u e).stay (λc v _ q=>k c v q) (λc q=>by rw [a7 (a9 q g)];exact q) λc xs q=>by rw [a7 (a9 q g)];exact q
end
def Rd (H:Hp) (a:Addr) (u:HO):Prop:=H a=some u\/∃ o,H a=some (.frz o u)
theorem Rd.ok {H:Hp} {h:Heap} {a:Addr} {u:HO} (r:Rd H a u) (x:HOk P w H h):ObjOk P w H h a u:=by
 rcases r with r | ⟨o,r⟩
 ·exact x a u r
 ·obtain ⟨_,q⟩:=x a _ r;exact q
def Mut:Option HO->Prop
 | some (.lst _)=>True
 | some (.dK _)=>True
 | some (.dT _)=>True
 | some (.set _ _)=>True
 | some (.ins _ _ _)=>True
 | some (.ext _)=>True
 | _=>False
section
variable {P:Program} {w:World} {H:Hp} {h h':Heap} {x e:Addr} {o':HO}
theorem HOk.write (s:HOk P w H h) (g:Mut (H x)) (o:e=x\/H e=some (.own x)) (k:∀ b u,b≠e->h.get? b=some u->h'.get? b=some u) (i:∃ u,h'.get? e=some u)
  (j:ObjOk P w (upd H x o') h' x o'):HOk P w (upd H x o') h':=λb u q=>by
 have f:∀ c y,H c=some (.own y)->c≠x:=λc y r z=>by subst z;rw [r] at g;exact g
 have d:∀ c xs,H c=some (.tup xs)->c≠x:=λc xs r z=>by subst z;rw [r] at g;exact g
 by_cases l:b=x
 ·subst l;rw [b6] at q;cases q;exact j
 ·rw [a7 l] at q;by_cases a:b=e
  ·have n:H b=some (.own x):=by
    rcases o with z | z
    ·grind
    ·rw [a];exact z
   rw [q] at n;cases n;obtain ⟨v,p⟩:=i;exact ⟨v,by rw [a];exact p⟩
  ·refine (s b u q).stay (λc v m r=>k c v ?_ r) (λc r=>by rw [a7 (f c b r)];exact r) λc xs r=>by rw [a7 (d c xs r)];exact r
   rcases m with rfl | m
   ·exact a
   ·grind
end
structure Un (fs ex:List Addr) (H H':Hp) (h h':Heap):Prop where
 keep:∀ b o,h.get? b=some o->H b=none->b∉fs->b∉ex->h'.get? b=some o
 slot:∀ b o,h.get? b=some o->H b=none->b∈fs->b∉ex->∃ sl,h'.get? b=some { o with slots:=sl }
 free:∀ b o,h.get? b=some o->H b=none->b∉ex->H' b=none
 there:∀ b o,h.get? b=some o->b∉ex->∃ o',h'.get? b=some o'
 tups:∀ b xs,H b=some (.tup xs)->H' b=some (.tup xs)
 frzs:∀ b o u,H b=some (.frz o u)->H' b=some (.frz o u)
 tbls:∀ b ps,H b=some (.tbl ps)->∃ more,H' b=some (.tbl (ps++more))
section
variable {fs fs' ex ex':List Addr} {H H1 H2:Hp} {h h1 h2 h':Heap} {a x e:Addr} {o:HO}
theorem Un.any (u:Un fs ex H H1 h h1) {b:Addr} {ob:Obj} (q:h.get? b=some ob) (n:H b=none) (c:b∉ex):∃ d,h1.get? b=some { ob with slots:=d }:=by
 by_cases a:b∈fs
 ·exact u.slot b ob q n a c
 ·exact ⟨ob.slots,u.keep b ob q n a c⟩
theorem Un.kept (k:∀ b u,h.get? b=some u->h'.get? b=some u):Un fs ex H H h h':=
 ⟨λb ob q _ _ _=>k b ob q,λb ob q _ _ _=>⟨ob.slots,k b ob q⟩,λ_ _ _ n _=>n,λb ob q _=>⟨ob,k b ob q⟩,λ_ _ q=>q,λ_ _ _ q=>q,λ_ ps q=>⟨#[],by rw [q];simp⟩⟩
theorem Un.refl:Un fs ex H H h h:=Un.kept λ_ _ q=>q
theorem Un.laid (k:∀ b u,h.get? b=some u->h'.get? b=some u) (d:h.objs.size<=a) (c:H a=none):Un fs ex H (upd H a o) h h' where
 keep:=λb u q _ _ _=>k b u q
 slot:=λb u q _ _ _=>⟨u.slots,k b u q⟩
 free:=λb u q n _=>by rw [a7 (Au (Ay (Ap q) d))];exact n
 there:=λb u q _=>⟨u,k b u q⟩
 tups:=λb xs q=>by rw [a7 (a9 q c)];exact q
 frzs:=λb u xs q=>by rw [a7 (a9 q c)];exact q
 tbls:=λb ps q=>⟨#[],by rw [a7 (a9 q c),q];simp⟩
theorem Un.write (a:Mut (H x)) (i:e=x\/H e=some (.own x)) (k:∀ b u,b≠e->h.get? b=some u->h'.get? b=some u) (g:∃ u,h'.get? e=some u):Un fs ex H (upd H x o) h h':=by
 have d:∀ b,H b=none->b≠x:=λb n z=>by subst z;rw [n] at a;exact a
 have f:∀ b,H b=none->b≠e:=λb n z=>by
  subst z;rcases i with r | r
  ·exact d b n r
  ·rw [n] at r;cases r
 have c:∀ b u,H b=some u->¬ Mut (some u)->b≠x:=λb u q j z=>by subst z;rw [q] at a;exact j a
 refine ⟨λb u q n _ _=>k b u (f b n) q,λb u q n _ _=>⟨u.slots,k b u (f b n) q⟩,λb u q n _=>by rw [a7 (d b n)];exact n,λb u q _=>?_,
  λb xs q=>by rw [a7 (c b _ q λz=>z)];exact q,λb u xs q=>by rw [a7 (c b _ q λz=>z)];exact q,λb ps q=>⟨#[],by rw [a7 (c b _ q λz=>z),q];simp⟩⟩
 grind
end
def trk (h:Heap) (H:Hp):List Addr:=(List.range h.objs.size).filter λa=>(H a).isSome
def aa (h:Heap) (H:Hp):Heap:=PySem.W.hideAll h (trk h H)
theorem eR (h:Heap) (H:Hp):(aa h H).objs.size=h.objs.size:=PySem.W.hideAll_size _ _
theorem il {H:Hp} {b:Addr} {o:Obj} (e:h.get? b=some o) (n:H b=none):(aa h H).get? b=some o:=
 PySem.W.hideAll_get _ e λa=>by
  have q:=(CL.mp a).2;rw [n] at q;simp at q
theorem kG (e:(aa h H).get? b=some o):h.get? b=some o/\H b=none:=by
 have a:=PySem.W.of_hideAll (trk h H) e;refine ⟨a,?_⟩;cases q:H b with
 | none=>rfl
 | some x=>
  have c:b∈trk h H:=CL.mpr ⟨BR.mpr (Ap a),by simp [q]⟩;have z:(aa h H).get? b=none:=PySem.W.hideAll_none (trk h H) c;rw [z] at e;cases e
structure Mod (K:PySem.W.Frag) (mg:Str->Option Value) (base:Heap):Prop where
 kin:K.In base
 glob:base.Ns mainGlobals mg
 blt:∃ mb,base.Ns builtinsNs mb/\∀ x:Str,x ≠ "__name__"->mb x=bootBuiltins x
 nolimit:base.NoLimit
structure Cx where
 prog:Program
 w:World
 K:PySem.W.Frag
 mg:Str->Option Value
 base:Heap
 A:Around
 N:List Str
 s₀:Shared
 H₀:Hp
 env:Env
 outer:List Env
 stack:List Env
 ex:List Addr
 fn:Str->Bool
 calm:Bool
 pn:List (Addr×Obj)
 xe:Value->Shared->Prop
def frs (l:List Env):List Addr:=l.filterMap (·.frame)
abbrev Cx.fs (X:Cx):List Addr:=frs X.outer
def Vis (a:Scope) (x:Str):Prop:=a.names.lookup x=some .local\/a.names.lookup x=some .cell\/a.names.lookup x=some .free
def Loc (a:Scope) (x:Str):Prop:=a.names.lookup x=some .local\/a.names.lookup x=some .cell
def vL (a:Env) (h:Heap) (m:Str->Option Value) (x:Str) (u:Value):Prop:=
 (a.kindOf x=some .local/\m x=some u)\/((a.kindOf x=some .cell\/a.kindOf x=some .free)/\∃ c,a.cells.lookup x=some c/\h.IsCell c (some u))
structure Cx.Ok (X:Cx):Prop where
 mod:Mod X.K X.mg X.base
 kind:X.env.scope.kind=.function
 glob:X.env.globals=mainGlobals
 blt:X.env.builtins=builtinsNs
 above:X.s₀.heap.objs.size<=X.env.locals
 inj:∀ x y c,X.env.cells.lookup x=some c->X.env.cells.lookup y=some c->x=y
 has:∀ x,(X.env.kindOf x=some .cell\/X.env.kindOf x=some .free)->∃ c,X.env.cells.lookup x=some c
 cab:∀ x c,X.fn x=true->X.env.cells.lookup x=some c->X.s₀.heap.objs.size<=c
 hd:X.calm=true->X.A.handled=none
 frames:X.A.frames=some X.stack
 stk:X.stack=X.outer\/(X.stack=X.env :: X.outer/\X.env.frame=some X.env.locals)
 exf:∀ b∈X.ex,b≠X.env.locals/\∀ x c,X.env.cells.lookup x=some c->c≠b
 bs:∀ b o,X.base.get? b=some o->X.s₀.heap.get? b=some o/\X.H₀ b=none
 bsz:X.base.objs.size<=X.s₀.heap.objs.size
 noex:∀ b o,X.base.get? b=some o->b∉X.ex
 exfs:∀ b∈X.ex,b∉X.fs
 funs:X.s₀.heap.FunFrames X.base X.outer
 frf:∀ b∈X.fs,X.H₀ b=none
structure Inv (X:Cx) (pins:List (Addr×Obj)) (σ:List (Option V)) (H:Hp) (s:Shared):Prop where
 ok:X.Ok
 os:s.os=X.s₀.os
 bare:AllBare s.gens
 base:Un X.fs X.ex X.H₀ H X.s₀.heap s.heap
 loc:∃ m,s.heap.Ns X.env.locals m/\∀ (i:Nat) (x:Str) (v:V),X.N[i]?=some x->σ[i]?=some (some v)->Vis X.env.scope x->∃ u,RelV v u/\vL X.env s.heap m x u
 cell:∀ x c,X.env.cells.lookup x=some c->∃ v,s.heap.IsCell c v
 free:H X.env.locals=none
 freeC:∀ x c,X.env.cells.lookup x=some c->H c=none
 pin:∀ p∈X.pn++pins,s.heap.get? p.1=some p.2/\H p.1=none/\p.1≠X.env.locals/\p.1∉X.fs/\∀ v,p.2.data≠.cell v
 hok:HOk X.prog X.w H s.heap
 len:σ.length=X.N.length
section
variable {X:Cx} {pins:List (Addr×Obj)} {σ:List (Option V)} {H H':Hp} {s:Shared} {h':Heap}
theorem Cx.Ok.nofr (c:X.Ok) {b:Addr} {o:Obj} (e:X.base.get? b=some o):b∉X.fs:=λa=>by
 have:=(c.funs.mem a).1;rw [e] at this;cases this
theorem Inv.bs (I:Inv X pins σ H s):∀ b o,X.base.get? b=some o->s.heap.get? b=some o/\H b=none:=λb o e=>
 ⟨I.base.keep b o (I.ok.bs b o e).1 (I.ok.bs b o e).2 (I.ok.nofr e) (I.ok.noex b o e),I.base.free b o (I.ok.bs b o e).1 (I.ok.bs b o e).2 (I.ok.noex b o e)⟩
theorem Inv.bk (I:Inv X pins σ H s):∀ b o,X.base.get? b=some o->s.heap.get? b=some o:=λb o e=>(I.bs b o e).1
theorem Inv.mod (I:Inv X pins σ H s):Mod X.K X.mg X.base:=I.ok.mod
theorem Inv.kIn (I:Inv X pins σ H s):X.K.In s.heap:=I.ok.mod.kin.keeps I.bk
theorem Inv.fr (I:Inv X pins σ H s):∃ m,Fr X.base X.env.locals s.heap m:=
 let ⟨m,a,_⟩:=I.loc
 ⟨m,a,I.bk,AQ I.ok.bsz I.ok.above⟩
theorem Inv.lt (I:Inv X pins σ H s):X.env.locals<s.heap.objs.size:=let ⟨_,a,_⟩:=I.loc;a.lt
theorem Inv.sz (I:Inv X pins σ H s):X.s₀.heap.objs.size<=s.heap.objs.size:=AQ I.ok.above (Dt I.lt)
theorem Inv.nofs (I:Inv X pins σ H s) {a:Addr} (h:s.heap.objs.size<=a):a∉X.fs:=λb=>by
 obtain ⟨_,o,c,_⟩:=I.ok.funs.mem b;exact absurd (Ay (Ap c) (AQ I.sz h)) (Ci _)
theorem Inv.cne (I:Inv X pins σ H s):∀ x c,X.env.cells.lookup x=some c->c≠X.env.locals:=λx c e z=>by
 obtain ⟨v,o,d,hd⟩:=I.cell x c e;obtain ⟨m,⟨o',es,f,a,b,_⟩,_⟩:=I.loc;rw [z,a] at d;cases d;rw [b] at hd;cases hd
theorem Inv.funs (I:Inv X pins σ H s):s.heap.FunFrames X.base X.outer:=by
 have a:∀ (l:List Env),(∀ b∈frs l,b∈X.fs)->X.s₀.heap.FunFrames X.base l->s.heap.FunFrames X.base l:=by
  intro l;induction l with
  | nil=>intro _ _;trivial
  | cons j r n=>
   intro hs k;obtain ⟨g,⟨L,o,c,i,h,hd⟩,m⟩:=k;have f:=hs L (by unfold frs;rw [Bl,c];exact Aq);obtain ⟨p,e⟩:=I.base.slot L o h (I.ok.frf L f) f λz=>I.ok.exfs L z f;exact ⟨g,⟨L,_,c,i,e,hd⟩,n (λb d=>hs b (by unfold frs;rw [Bl,c];exact Ar _ d)) m⟩
 exact a X.outer (λ_ d=>d) I.ok.funs
theorem Inv.stack (I:Inv X pins σ H s):s.heap.FunFrames X.base X.stack:=by
 rcases I.ok.stk with e | ⟨e,hf⟩
 ·rw [e];exact I.funs
 ·rw [e];obtain ⟨m,a,_⟩:=I.loc;refine .cons (by rw [I.ok.kind];decide) hf a ?_ I.funs;exact Heap.get?_none_of_le (AQ I.ok.bsz I.ok.above)
theorem Inv.stkSub (I:Inv X pins σ H s):∀ b∈frs X.stack,b∈X.env.locals :: X.fs:=λb a=>by
 rcases I.ok.stk with e | ⟨e,hf⟩
 ·grind
 ·rw [e] at a;unfold frs at a;rw [Bl,hf] at a;exact a
theorem Inv.stkFree (I:Inv X pins σ H s):∀ b∈frs X.stack,H b=none:=λb a=>by
 rcases AJ.mp (I.stkSub b a) with e | a
 ·rw [e];exact I.free
 ·obtain ⟨_,o,c,_⟩:=I.ok.funs.mem a;exact I.base.free b o c (I.ok.frf b a) λz=>I.ok.exfs b z a
theorem Inv.step {d':Drawn} {ch:List Addr} (I:Inv X pins σ H s)
  (h:∀ b∈ch,(b∈X.ex\/X.s₀.heap.objs.size<=b)/\b≠X.env.locals/\(∀ x c,X.env.cells.lookup x=some c->c≠b)/\∀ p∈X.pn++pins,p.1≠b)
  (j:∀ b o,b≠X.env.locals->b∉X.fs->b∉ch->s.heap.get? b=some o->H b=none->h'.get? b=some o)
  (A:∀ b o,b≠X.env.locals->b∈X.fs->b∉ch->s.heap.get? b=some o->H b=none->∃ O,h'.get? b=some { o with slots:=O }) (f:∀ b o,b∉ch->s.heap.get? b=some o->H b=none->H' b=none)
  (C:∀ b o,b∉ch->s.heap.get? b=some o->∃ o',h'.get? b=some o')
  (G:∀ b xs,H b=some (.tup xs)->H' b=some (.tup xs)) (J:∀ b o u,H b=some (.frz o u)->H' b=some (.frz o u)) (E:∀ b ps,H b=some (.tbl ps)->∃ F,H' b=some (.tbl (ps++F)))
  (ns:∀ m,s.heap.Ns X.env.locals m->h'.Ns X.env.locals m) (N:HOk X.prog X.w H' h') (Y:AllBare g') :
  Inv X pins σ H' { s with heap:=h',gens:=g',drawn:=d',toks:=t' }:=by
 have K:∀ b o,X.s₀.heap.get? b=some o->b≠X.env.locals:=λb o e=>Au (Ay (Ap e) I.ok.above);have w:∀ b o,X.s₀.heap.get? b=some o->b∉X.ex->b∉ch:=λb o e a B=>by
  rcases (h b B).1 with z | z
  ·exact a z
  ·exact absurd (Ay (Ap e) z) (Ci _)
 have t:∀ x c,X.env.cells.lookup x=some c->∀ v,s.heap.IsCell c v->h'.IsCell c v:=λx c e v ⟨o,D,hd⟩=>by
  have g:=λz=>(h c z).2.2.1 x c e rfl;by_cases P:c∈X.fs
  ·obtain ⟨O,q⟩:=A c o (I.cne x c e) P g D (I.freeC x c e);exact ⟨_,q,hd⟩
  ·exact ⟨o,j c o (I.cne x c e) P g D (I.freeC x c e),hd⟩
 refine ⟨I.ok,I.os,Y,⟨λb o e n B a=>?_,λb o e n B a=>?_,λb o e n a=>?_,λb o e a=>?_,λb xs e=>G b xs (I.base.tups b xs e),λb o xs e=>J b o xs (I.base.frzs b o xs e),λb ps e=>?_⟩,?_,λx c e=>?_,?_,λx c e=>?_,λp S=>?_,N,I.len⟩
 ·exact j b o (K b o e) B (w b o e a) (I.base.keep b o e n B a) (I.base.free b o e n a)
 ·obtain ⟨O,y⟩:=I.base.slot b o e n B a;obtain ⟨M,L⟩:=A b _ (K b o e) B (w b o e a) y (I.base.free b o e n a);exact ⟨M,L⟩
 ·obtain ⟨o',y⟩:=I.base.there b o e a;exact f b o' (w b o e a) y (I.base.free b o e n a)
 ·obtain ⟨o',y⟩:=I.base.there b o e a;exact C b o' (w b o e a) y
 ·obtain ⟨U,y⟩:=I.base.tbls b ps e;obtain ⟨m2,L⟩:=E b _ y;exact ⟨U++m2,by rw [L,Array.append_assoc]⟩
 ·obtain ⟨m,V,T⟩:=I.loc;refine ⟨m,ns m V,λi x v y L W=>?_⟩;obtain ⟨u,r,l⟩:=T i x v y L W;refine ⟨u,r,?_⟩;rcases l with l | ⟨k,c,e,z⟩
  ·exact .inl l
  ·exact .inr ⟨k,c,e,t x c e _ z⟩
 ·obtain ⟨v,z⟩:=I.cell x c e;exact ⟨v,t x c e v z⟩
 ·obtain ⟨m,⟨o,_,_,D,_⟩,_⟩:=I.loc;exact f _ o (λz=>(h _ z).2.1 rfl) D I.free
 ·obtain ⟨v,o,D,hd⟩:=I.cell x c e;exact f c o (λz=>(h c z).2.2.1 x c e rfl) D (I.freeC x c e)
 ·obtain ⟨e,n,R,Q,d⟩:=I.pin p S;have g:=λz=>(h p.1 z).2.2.2 p S rfl;exact ⟨j p.1 p.2 R Q g e n,f p.1 p.2 g e n,R,Q,d⟩
theorem Inv.un (I:Inv X pins σ H s) (u:Un X.fs [] H H' s.heap h') (c:HOk X.prog X.w H' h'):Inv X pins σ H' { s with heap:=h',toks:=t' }:=by
 obtain ⟨m,⟨o,es,k,g,r⟩,_⟩:=id I.loc;obtain ⟨l,j⟩:=u.any g I.free (by simp);exact I.step (ch:=[]) (λ_ z=>nomatch z) (λb o _ d _ e n=>u.keep b o e n d (by simp)) (λb o _ d _ e n=>u.slot b o e n d (by simp)) (λb o _ e n=>u.free b o e n (by simp)) (λb o _ e=>u.there b o e (by simp)) u.tups u.frzs u.tbls (λm' i=>by
  obtain ⟨o',es',f,a,h⟩:=i;rw [g] at a;cases a;exact ⟨_,es',f,j,h⟩) c I.bare
theorem Inv.call {d':Drawn} {ch:List Addr} (I:Inv X pins σ H s) (u:Un (frs X.stack) ch H H' s.heap h') (g:HOk X.prog X.w H' h') (q:AllBare g')
  (f:∀ b∈ch,(b∈X.ex\/X.s₀.heap.objs.size<=b)/\b≠X.env.locals/\(∀ x c,X.env.cells.lookup x=some c->c≠b)/\∀ p∈X.pn++pins,p.1≠b) :
  Inv X pins σ H' { s with heap:=h',gens:=g',drawn:=d',toks:=t' }:=by
 obtain ⟨m,⟨o,es,v,j,r⟩,_⟩:=id I.loc;obtain ⟨w,i⟩:=u.any j I.free λz=>(f _ z).2.1 rfl;exact I.step f (λb o i l a e n=>u.keep b o e n (λz=>(AJ.mp (I.stkSub b z)).elim i l) a) (λb o _ _ a e n=>u.any e n a) (λb o a e n=>u.free b o e n a) (λb o a e=>u.there b o e a) u.tups u.frzs u.tbls (λm' t=>by
  obtain ⟨o',es',h,d,k⟩:=t;rw [j] at d;cases d;exact ⟨_,es',h,i,k⟩) g q
theorem Inv.turned {t':Nat} {it:Addr} (I:Inv X pins σ H s) (k:∀ b o,b≠it->s.heap.get? b=some o->h'.get? b=some o) (hn:H it=none) (hL:it≠X.env.locals)
  (h1:it∈X.ex\/X.s₀.heap.objs.size<=it) (h2:∀ x c,X.env.cells.lookup x=some c->c≠it) (h3:∀ p∈X.pn++pins,p.1≠it):Inv X pins σ H { s with heap:=h',toks:=t' }:=by
 have nit:∀ b u,H b=some u->b≠it:=λb u e z=>by rw [z,hn] at e;cases e
 refine I.step (g':=s.gens) (d':=s.drawn) (ch:=[it]) (λb hb=>?_) (λb o _ _ hc e _=>k b o (λz=>hc (by simp [z])) e) (λb o _ _ hc e _=>⟨o.slots,k b o (λz=>hc (by simp [z])) e⟩) (λ_ _ _ _ n=>n)
  (λb o hc e=>⟨o,k b o (λz=>hc (by simp [z])) e⟩) (λ_ _ e=>e) (λ_ _ _ e=>e) (λb ps e=>⟨#[],by rw [e];simp⟩) (λm hm=>?_) (λb u e=>?_) I.bare
 ·have e:b=it:=by simpa using hb
  subst e;exact ⟨h1,hL,h2,h3⟩
 ·obtain ⟨o,es,ep,ho,r⟩:=hm;exact ⟨o,es,ep,k _ o (Ne.symm hL) ho,r⟩
 ·refine (I.hok b u e).stay (λc v hc q=>k c v ?_ q) (λ_ q=>q) λ_ _ q=>q;rcases hc with z | z
  ·rw [z];exact nit b u e
  ·exact nit c _ z
theorem Inv.tok (I:Inv X pins σ H s) (t:Nat):Inv X pins σ H { s with toks:=t }:=I.un Un.refl I.hok
theorem Inv.kept (I:Inv X pins σ H s) (k:∀ b u,s.heap.get? b=some u->h'.get? b=some u):Inv X pins σ H { s with heap:=h',toks:=t' }:=I.un (Un.kept k) (I.hok.kept k)
theorem Inv.laid {a:Addr} {o:HO} {t':Nat} (I:Inv X pins σ H s) (k:∀ b u,s.heap.get? b=some u->h'.get? b=some u) (d:s.heap.objs.size<=a) (c:ObjOk X.prog X.w (upd H a o) h' a o) :
  Inv X pins σ (upd H a o) { s with heap:=h',toks:=t' }:=I.un (Un.laid k d (I.hok.fresh d)) (I.hok.laid k d c)
theorem Inv.write (I:Inv X pins σ H s) (f:Mut (H x)) (d:e=x\/H e=some (.own x)) (k:∀ b u,b≠e->s.heap.get? b=some u->h'.get? b=some u) (a:∃ u,h'.get? e=some u)
  (c:ObjOk X.prog X.w (upd H x o) h' x o):Inv X pins σ (upd H x o) { s with heap:=h',toks:=t' }:=I.un (Un.write f d k a) (I.hok.write f d k a c)
theorem Inv.weak (I:Inv X pins σ H s) (d:σ'.length=σ.length) (w:∀ (i:Nat) v,σ'[i]?=some (some v)->σ[i]?=some (some v)):Inv X pins σ' H s:=
 ⟨I.ok,I.os,I.bare,I.base,let ⟨m,b,a⟩:=I.loc;⟨m,b,λi x v e c f=>a i x v e (w i v c) f⟩,I.cell,I.free,I.freeC,I.pin,I.hok,d.trans I.len⟩
theorem Inv.pins_of (I:Inv X pins σ H s) (h:∀ p∈pins',s.heap.get? p.1=some p.2/\H p.1=none/\p.1≠X.env.locals/\p.1∉X.fs/\∀ v,p.2.data≠.cell v):Inv X pins' σ H s:=
 ⟨I.ok,I.os,I.bare,I.base,I.loc,I.cell,I.free,I.freeC,λp a=>(Az.mp a).elim (λz=>I.pin p (CJ _ z)) (h p),I.hok,I.len⟩
theorem ak {N:List Str} (e:N.Nodup) {i j:Nat} {x:Str} (a:N[i]?=some x) (b:N[j]?=some x):i=j:=by
 obtain ⟨f,d⟩:=Ai.mp a;obtain ⟨g,c⟩:=Ai.mp b;exact (List.getElem_inj e).mp (d.trans c.symm)
theorem V2 {i:Nat} {x:Str} {v:V} {u:Value} {Q:Unit->Shared->Prop} (I:Inv X pins σ H s) (hN:X.N.Nodup) (O:X.N[i]?=some x) (t:Loc X.env.scope x) (r:RelV v u)
  (h:∀ s',Inv X pins (σ.set i (some v)) H s'->(∃ a,Heap.SameBut a s.heap s'.heap/\(a=X.env.locals\/X.env.cells.lookup x=some a))->Q () s') (hf:X.fn x=true\/X.env.scope.names.lookup x=some .local:=by first | exact .inl rfl | exact .inr rfl | assumption):wpAny M A (storeName X.env x u) Q E s:=by
 obtain ⟨m,Z,hl⟩:=id I.loc;have L:(X.env.scope.kind==.class||(X.env.scope.kind==.module&&X.env.locals != X.env.globals))=false:=by rw [I.ok.kind];rfl
 have B:i<σ.length:=by rw [I.len];exact (Ai.mp O).1
 have C:=I.cne;have f:∀ {a:Addr} {h':Heap},(∃ o,s.heap.get? a=some o/\H a=none)->Heap.SameBut a s.heap h'->HOk X.prog X.w H h':=λ{a h'} ha hs b ob e=>by
  obtain ⟨_,_,hfree⟩:=ha;refine (I.hok b ob e).stay (λc w' l q=>(hs.2 c ?_).trans q) (λ_ q=>q) λ_ _ q=>q;rintro rfl;rcases l with rfl | l
  ·grind
  ·grind
 rcases t with hk | hk
 ·refine wpAny_storeName_local hk Z (λh' W hs=>?_) L;obtain ⟨oL,_,_,hoL,_⟩:=id Z;refine h _ ⟨I.ok,I.os,I.bare,⟨λb o e n D t=>?_,λb o e n D t=>?_,I.base.free,λb o e t=>?_,I.base.tups,I.base.frzs,I.base.tbls⟩,⟨_,W,λj y T g w e3=>?_⟩,λy c e=>?_,I.free,I.freeC,λp hp=>?_,f ⟨oL,hoL,I.free⟩ hs,by simpa using I.len⟩ ⟨_,hs,.inl rfl⟩
  ·exact (hs.2 b (Au (Ay (Ap e) I.ok.above))).trans (I.base.keep b o e n D t)
  ·obtain ⟨sl,g⟩:=I.base.slot b o e n D t;exact ⟨sl,(hs.2 b (Au (Ay (Ap e) I.ok.above))).trans g⟩
  ·obtain ⟨o',g⟩:=I.base.there b o e t;exact ⟨o',(hs.2 b (Au (Ay (Ap e) I.ok.above))).trans g⟩
  ·by_cases F:j=i
   ·subst F;rw [O] at g;cases g;rw [AR B] at w;cases w;exact ⟨u,r,.inl ⟨hk,by simp⟩⟩
   ·rw [AC (Ne.symm F)] at w;obtain ⟨Y,r',q⟩:=hl j y T g w e3;refine ⟨Y,r',?_⟩;rcases q with ⟨k,e⟩ | ⟨k,c,e,z⟩
    ·refine .inl ⟨k,?_⟩;have:y≠x:=λe=>F (ak hN g (e▸O));simp [this,e]
    ·exact .inr ⟨k,c,e,z.sameBut hs (C y c e)⟩
  ·obtain ⟨w',z⟩:=I.cell y c e;exact ⟨w',z.sameBut hs (C y c e)⟩
  ·obtain ⟨e,n,R,U,d⟩:=I.pin p hp;exact ⟨(hs.2 p.1 R).trans e,n,R,U,d⟩
 ·have G:X.fn x=true:=by
   rcases hf with z | z
   ·exact z
   ·rw [z] at hk;cases hk
  obtain ⟨c,l⟩:=I.ok.has x (.inl hk);obtain ⟨w',z⟩:=I.cell x c l;refine wpAny_storeName_cell I.ok.kind hk l z (λh' N hs=>?_);obtain ⟨oc,J,P⟩:=id z;refine h { s with heap:=h' } ⟨I.ok,I.os,I.bare,⟨λb o e n D t=>?_,λb o e n D t=>?_,I.base.free,λb o e t=>?_,I.base.tups,I.base.frzs,I.base.tbls⟩,⟨m,Z.sameBut hs (Ne.symm (C x c l)),λj y T g w e3=>?_⟩,λy S e=>?_,I.free,I.freeC,λp hp=>?_,f ⟨oc,J,I.freeC x c l⟩ hs,by simpa using I.len⟩ ⟨c,hs,.inr l⟩
  ·exact (hs.2 b (Au (Ay (Ap e) (I.ok.cab x c G l)))).trans (I.base.keep b o e n D t)
  ·obtain ⟨sl,g⟩:=I.base.slot b o e n D t;exact ⟨sl,(hs.2 b (Au (Ay (Ap e) (I.ok.cab x c G l)))).trans g⟩
  ·obtain ⟨o',g⟩:=I.base.there b o e t;exact ⟨o',(hs.2 b (Au (Ay (Ap e) (I.ok.cab x c G l)))).trans g⟩
  ·by_cases F:j=i
   ·subst F;rw [O] at g;cases g;rw [AR B] at w;cases w;exact ⟨u,r,.inr ⟨.inl hk,c,l,N⟩⟩
   ·rw [AC (Ne.symm F)] at w;obtain ⟨Y,r',q⟩:=hl j y T g w e3;refine ⟨Y,r',?_⟩;rcases q with q | ⟨k,S,e,z'⟩
    ·exact .inl q
    ·refine .inr ⟨k,S,e,z'.sameBut hs ?_⟩;rintro rfl;exact F (ak hN g (I.ok.inj _ _ _ e l▸O))
  ·by_cases K:S=c
   ·subst K;exact ⟨_,N⟩
   ·obtain ⟨w2,z2⟩:=I.cell y S e;exact ⟨w2,z2.sameBut hs K⟩
  ·obtain ⟨e,n,R,U,d⟩:=I.pin p hp;refine ⟨(hs.2 p.1 ?_).trans e,n,R,U,d⟩;intro q;rw [q,J] at e;have q':=AH e;exact d w' (by rw [<- q'];exact P)
theorem ah {i:Nat} {x:Str} {v:V} {u:Value} {Q:Unit->Shared->Prop} (I:Inv X pins σ H s) (e:X.N.Nodup) (c:X.N[i]?=some x) (a:Loc X.env.scope x) (r:RelV v u)
  (h:∀ s',Inv X pins (σ.set i (some v)) H s'->Q () s') (b:X.fn x=true\/X.env.scope.names.lookup x=some .local:=by first | exact .inl rfl | exact .inr rfl | assumption):wpAny M A (storeName X.env x u) Q E s:=
 V2 I e c a r (λs' d _=>h s' d) b
theorem Inv.call' {ch:List Addr} (I:Inv X pins σ H s) (g:s'.os=s.os) (u:Un (frs X.stack) ch H H' s.heap s'.heap) (d:HOk X.prog X.w H' s'.heap) (f:AllBare s'.gens)
  (a:∀ b∈ch,(b∈X.ex\/X.s₀.heap.objs.size<=b)/\b≠X.env.locals/\(∀ x c,X.env.cells.lookup x=some c->c≠b)/\∀ p∈X.pn++pins,p.1≠b):Inv X pins σ H' s':=by
 obtain ⟨h',g',d',t',o'⟩:=s';have e:=g;subst e;exact I.call u d f a
end
abbrev XK:=Value->Option Addr->Hp->Prop
abbrev St:=List (Option V)
abbrev VK:=V->Hp->Prop
abbrev TE:=St->Hp->VK->Prop
abbrev TT:=St->Hp->(Bool->Hp->Prop)->Prop
abbrev TA:=St->Hp->(List V->Hp->Prop)->Prop
structure Ends where
 nx:St->Hp->Prop
 rt:VK
 bk:St->Hp->Prop:=λ_ _=>False
 ct:St->Hp->Prop:=λ_ _=>False
abbrev TS:=Ends->St->Hp->Prop
def EP (X:Cx) (pins:List (Addr×Obj)) (σ:St) (Q:VK) (u:Value) (s':Shared):Prop:=∃ v H',Inv X pins σ H' s'/\RelV v u/\Q v H'
def TP (X:Cx) (pins:List (Addr×Obj)) (σ:St) (Q:Bool->Hp->Prop) (b:Bool) (s':Shared):Prop:=∃ H',Inv X pins σ H' s'/\Q b H'
def AP (X:Cx) (pins:List (Addr×Obj)) (σ:St) (Q:List V->Hp->Prop) (us:List Value) (s':Shared):Prop:=∃ vs H',Inv X pins σ H' s'/\Vals vs us/\Q vs H'
def SP (X:Cx) (pins:List (Addr×Obj)) (D:Ends) (f:Flow) (s':Shared):Prop:=
 match f with
 | .next=>∃ a H',Inv X pins a H' s'/\D.nx a H'
 | .brk=>∃ a H',Inv X pins a H' s'/\D.bk a H'
 | .cont=>∃ a H',Inv X pins a H' s'/\D.ct a H'
 | .ret u=>∃ v a H',Inv X pins a H' s'/\RelV v u/\D.rt v H'
def PE (X:Cx) (e:Expr) (t:TE):Prop:=
 ∀ (pins:List (Addr×Obj)) (s:Shared) (σ:St) (H:Hp) (Q:VK),Inv X pins σ H s->t σ H Q->wpAny (model X.prog X.w) X.A (eval e X.env) (EP X pins σ Q) X.xe s
def PT (X:Cx) (e:Expr) (t:TT):Prop:=
 ∀ (pins:List (Addr×Obj)) (s:Shared) (σ:St) (H:Hp) (Q:Bool->Hp->Prop),Inv X pins σ H s->t σ H Q->wpAny (model X.prog X.w) X.A (isTrue e X.env (eval e X.env)) (TP X pins σ Q) X.xe s
def PW (X:Cx) (e:Expr) (t:TT):Prop:=
 ∀ (a:Sem Value) (pins:List (Addr×Obj)) (s:Shared) (σ:St) (H:Hp) (Q:Bool->Hp->Prop),Inv X pins σ H s->t σ H Q->wpAny (model X.prog X.w) X.A (isTrue e X.env a) (TP X pins σ Q) X.xe s
theorem PW.pt (h:PW X e t):PT X e t:=h _
def PA (X:Cx) (es:List Expr) (t:TA):Prop:=
 ∀ (pos:Pos) (pins:List (Addr×Obj)) (s:Shared) (σ:St) (H:Hp) (Q:List V->Hp->Prop),Inv X pins σ H s->t σ H Q->wpAny (model X.prog X.w) X.A (spliced (backTo pos (starEach es X.env))) (AP X pins σ Q) X.xe s
def PS (X:Cx) (st:Stmt) (t:TS):Prop:=
 ∀ (pins:List (Addr×Obj)) (s:Shared) (σ:St) (H:Hp) (D:Ends),Inv X pins σ H s->t D σ H->wpAny (model X.prog X.w) X.A (exec st X.env) (SP X pins D) X.xe s
def PSs (X:Cx) (st:List Stmt) (t:TS):Prop:=
 ∀ (pins:List (Addr×Obj)) (s:Shared) (σ:St) (H:Hp) (D:Ends),Inv X pins σ H s->t D σ H->wpAny (model X.prog X.w) X.A (execs st X.env) (SP X pins D) X.xe s
theorem thn {M:Model} {A:Around} {E:Value->Shared->Prop} {s:Shared} (h:wpAny M A t Q E s) (b:∀ a s,Q a s->Q' a s):wpAny M A t Q' E s:=AK h b λ_ _ x=>x
section
variable {X:Cx}
def oQ (i:Nat):TE:=λσ H Q=>∃ v,σ[i]?=some (some v)/\Q v H
def tC (v:V):TE:=λ_ H Q=>Q v H
theorem ip {pos:Pos} (o:X.N[i]?=some x) (p:Vis X.env.scope x) (hd:(x==("__debug__" : Str))=false:=by decide) (f:(x==("__classdict__" : Str))=false:=by decide):PE X (.Name x pos) (oQ i):=by
 intro pins s σ H Q I h;obtain ⟨v,e,h⟩:=h;obtain ⟨m,j,k⟩:=I.loc;obtain ⟨u,r,l⟩:=k i x v o e p;have d:EP X pins σ Q u s:=⟨v,H,I,r,h⟩;rcases l with ⟨b,n⟩ | ⟨b,c,g,a⟩
 ·exact wpAny_Name (wpAny_loadName_local I.ok.kind b j n d) hd
 ·rcases b with b | b
  ·exact wpAny_Name (wpAny_loadName_cell I.ok.kind b g a d) hd
  ·exact wpAny_Name (wpAny_loadName_free I.ok.kind b g a d f) hd
theorem nY {i j pos}:PE X (.Constant (.int i) j pos) (tC (.int i)):=λ_ _ _ H _ I h=>wpAny_Constant_int ⟨.int i,H,I.tok _,⟨_,rfl⟩,h⟩
theorem sI {b j pos}:PE X (.Constant (.bool b) j pos) (tC (.bl b)):=λ_ _ _ H _ I h=>Constant_bool ⟨.bl b,H,I,rfl,h⟩
theorem oK {j pos}:PE X (.Constant .none j pos) (tC .non):=λ_ _ _ H _ I h=>Constant_none ⟨.non,H,I,rfl,h⟩
theorem nX {x j pos}:PE X (.Constant (.str x) j pos) (tC (.str x)):=λ_ _ _ H _ I h=>Calls.Constant_str ⟨.str x,H,I.tok _,⟨_,rfl⟩,h⟩
def Gl (X:Cx) (x:Str):Prop:=X.env.kindOf x=some .globalImplicit
theorem G4 {pins:List (Addr×Obj)} {s:Shared} {σ:St} {H:Hp} {x:Str} {u:Value} {pos:Pos} {Q:Value->Shared->Prop} (I:Inv X pins σ H s) (a:Gl X x) (b:X.mg x=some u) (h:Q u s)
  (hd:(x==("__debug__" : Str))=false:=by decide):wpAny (model X.prog X.w) X.A (eval (.Name x pos) X.env) Q E s:=
 CS I.ok.kind a (Calls.loadGlobal_global (by rw [I.ok.glob];exact I.mod.glob.keeps I.bk) b h) hd
theorem K0 {E:Value->Shared->Prop} {pins:List (Addr×Obj)} {s:Shared} {σ:St} {H:Hp} {x:Str} {u:Value} {pos:Pos} {Q:Value->Shared->Prop} (I:Inv X pins σ H s) (d:Gl X x) (e:X.mg x=none) (f:bootBuiltins x=some u) (h:Q u s)
  (a:x ≠ "__name__":=by decide) (hd:(x==("__debug__" : Str))=false:=by decide):wpAny (model X.prog X.w) X.A (eval (.Name x pos) X.env) Q E s:=by
 obtain ⟨g,b,c⟩:=I.mod.blt;exact CS I.ok.kind d (Calls.loadGlobal_builtin (by rw [I.ok.glob];exact I.mod.glob.keeps I.bk) e (by rw [I.ok.blt];exact b.keeps I.bk) ((c x a).trans f) h) hd
theorem lW {u:Value} {pos:Pos} (a:Gl X x) (b:X.mg x=some u) (r:RelV v u) (hd:(x==("__debug__" : Str))=false:=by decide):PE X (.Name x pos) (tC v):=
 λ_ _ _ H _ I h=>G4 I a b ⟨v,H,I,r,h⟩ hd
variable {a b:Expr} {ta tb:TE} {pos:Pos}
variable {tA tB':TT} {rest:List Expr}
def uU (t u:TT):TT:=λσ H Q=>t σ H λc a=>if c=true then u σ a Q else Q false a
def tOr (t u:TT):TT:=λσ H Q=>t σ H λc a=>if c=true then Q true a else u σ a Q
def qD (t:TT):TT:=λσ H Q=>t σ H λc a=>Q (!c) a
theorem pw_and1 (b:PT X a tA):PW X (.BoolOp .And [a] pos) tA:=by
 intro d pins s σ H Q I h;refine isTrue_and (thn (b pins s σ H Q I h) λc f e=>?_);cases c with
 | true=>exact isTrue_and_nil e
 | false=>exact e
theorem pw_or1 (b:PT X a tA):PW X (.BoolOp .Or [a] pos) tA:=by
 intro d pins s σ H Q I h;refine isTrue_or (thn (b pins s σ H Q I h) λc f e=>?_);cases c with
 | false=>exact isTrue_or_nil e
 | true=>exact e
theorem pw_and (g:PT X a tA) (j:PW X (.BoolOp .And (b :: rest) pos) tB'):PW X (.BoolOp .And (a :: b :: rest) pos) (uU tA tB'):=by
 intro i pins s σ H Q I h;refine isTrue_and (thn (g pins s σ H _ I h) λc k ⟨e,d,f⟩=>?_);cases c with
 | true=>exact j i pins k σ e Q d f
 | false=>exact ⟨e,d,f⟩
theorem pw_or (g:PT X a tA) (j:PW X (.BoolOp .Or (b :: rest) pos) tB'):PW X (.BoolOp .Or (a :: b :: rest) pos) (tOr tA tB'):=by
 intro i pins s σ H Q I h;refine isTrue_or (thn (g pins s σ H _ I h) λc k ⟨e,d,f⟩=>?_);cases c with
 | true=>exact ⟨e,d,f⟩
 | false=>exact j i pins k σ e Q d f
theorem oS (d:PT X a tA):PT X (.UnaryOp .Not a pos) (qD tA):=by
 intro pins s σ H Q I h;exact isTrue_not (d pins s σ H (λc b=>Q (!c) b) I h)
theorem oM {op} {t:TE} (h:PE X a t):PE X (.BoolOp op [a] pos) t:=λpins s σ H Q I b=>BoolOp_one (h pins s σ H Q I b)
def tIf (t:TT) (b d:TE):TE:=λσ H Q=>t σ H λc a=>if c=true then b σ a Q else d σ a Q
theorem gI (l:PT X c tA) (j:PE X a ta) (k:PE X b tb):PE X (.IfExp c a b pos) (tIf tA ta tb):=by
 intro pins s σ H Q I h;refine wpAny_IfExp (thn (l pins s σ H _ I h) λd g ⟨f,e,i⟩=>?_);cases d with
 | true=>exact j pins g σ f Q e i
 | false=>exact k pins g σ f Q e i
end
def SqL (K:PySem.W.Frag) (H:Hp) (a:Addr) (xs:List V):Prop:=
 Rd H a (.lst xs) \/
  ∃ (o:Obj) (b:Array Value) (n:Nat),K.lookup a=some o/\o.cls=.type "list"/\o.dict=none/\o.data=.seq b n/\b.size<=sizeLine/\Vals xs b.toList
def SqT (K:PySem.W.Frag) (H:Hp) (a:Addr) (xs:List V):Prop:=
 Rd H a (.tup xs) \/
  ∃ (o:Obj) (b:Array Value) (n:Nat),K.lookup a=some o/\o.cls=.type "tuple"/\o.data=.seq b n/\b.size<=sizeLine/\Vals xs b.toList
def uK:Value->Option V
 | .none=>some .non
 | .bool b=>some (.bl b)
 | .int i _=>some (.int i)
 | .str x _=>some (.str x)
 | .bytes b _=>some (.byt b)
 | .float b _=>some (.flt b)
 | .ref a=>some (.ref a)
 | .type n=>some (.ty n)
 | _=>none
theorem RelV.abs (r:RelV x u):uK u=some x:=by
 cases x with
 | non=>cases r;rfl
 | bl _=>cases r;rfl
 | int _=>obtain ⟨t,rfl⟩:=r;rfl
 | str _=>obtain ⟨t,rfl⟩:=r;rfl
 | byt _=>obtain ⟨t,rfl⟩:=r;rfl
 | flt _=>obtain ⟨t,rfl⟩:=r;rfl
 | ref _=>cases r;rfl
 | ty _=>cases r;rfl
theorem RelV.inj {u:Value} (r:RelV x u) (q:RelV y u):x=y:=AH (r.abs.symm.trans q.abs)
theorem Vals.inj:∀ {xs ys:List V} {us:List Value},Vals xs us->Vals ys us->xs=ys
 | _,_,_,.nil,.nil=>rfl
 | _,_,_,.cons r t,.cons a t'=>by rw [r.inj a,Vals.inj t t']
section
variable {X:Cx} {pins:List (Addr×Obj)} {σ:St} {H:Hp} {s:Shared} {a:Addr} {xs ys:List V}
theorem Inv.list (I:Inv X pins σ H s) (h:SqL X.K H a xs):∃ b:List Value,Vals xs b/\PlainL s.heap a b.toArray/\xs.length<=sizeLine:=by
 rcases h with h | ⟨o,b,n,hk,hc,hd,hs,hz,r⟩
 ·obtain ⟨z,b,n,r,e⟩:=h.ok I.hok;exact ⟨b,r,⟨_,n,e,rfl,rfl,rfl⟩,z⟩
 ·refine ⟨b.toList,r,⟨o,n,I.kIn a o hk,hc,hd,by simpa using hs⟩,?_⟩;have e:=r.length;simp at e;omega
theorem Inv.tuple (I:Inv X pins σ H s) (h:SqT X.K H a xs):∃ b:List Value,Vals xs b/\IsTup s.heap a b.toArray/\xs.length<=sizeLine:=by
 rcases h with h | ⟨o,b,n,hk,hc,hs,hz,r⟩
 ·obtain ⟨z,b,r,p⟩:=h.ok I.hok;exact ⟨b,r,p.is,z⟩
 ·refine ⟨b.toList,r,⟨o,I.kIn a o hk,hc,n,by simpa using hs⟩,?_⟩;have e:=r.length;simp at e;omega
theorem Inv.list_inj (I:Inv X pins σ H s) (h:SqL X.K H a xs) (h':SqL X.K H a ys):xs=ys:=by
 obtain ⟨b,r,⟨o,n,e,_,_,d⟩,_⟩:=I.list h;obtain ⟨its',f,⟨o',g,c,_,_,d'⟩,_⟩:=I.list h';rw [e] at c;cases c;rw [d] at d';injection d' with d1 _;have:b=its':=by simpa using congrArg Array.toList d1
 subst this;exact r.inj f
theorem Inv.tuple_inj (I:Inv X pins σ H s) (h:SqT X.K H a xs) (h':SqT X.K H a ys):xs=ys:=by
 obtain ⟨b,r,⟨o,e,_,n,d⟩,_⟩:=I.tuple h;obtain ⟨its',f,⟨o',c,_,g,d'⟩,_⟩:=I.tuple h';rw [e] at c;cases c;rw [d] at d';injection d' with d1 _;have:b=its':=by simpa using congrArg Array.toList d1
 subst this;exact r.inj f
end
abbrev Cx.wish (X:Cx) (E:Value->Shared->Prop):Cx:={ X with xe:=E }
abbrev Cx.nox (X:Cx):Cx:=X.wish λ_ _=>False
theorem Cx.Ok.wish {X:Cx} (a:X.Ok) (E:Value->Shared->Prop):(X.wish E).Ok:=
 ⟨a.mod,a.kind,a.glob,a.blt,a.above,a.inj,a.has,a.cab,a.hd,a.frames,a.stk,a.exf,a.bs,a.bsz,a.noex,a.exfs,a.funs,a.frf⟩
theorem Cx.Ok.unwish {X:Cx} {E:Value->Shared->Prop} (a:(X.wish E).Ok):X.Ok:=
 ⟨a.mod,a.kind,a.glob,a.blt,a.above,a.inj,a.has,a.cab,a.hd,a.frames,a.stk,a.exf,a.bs,a.bsz,a.noex,a.exfs,a.funs,a.frf⟩
section
variable {X:Cx} {pins:List (Addr×Obj)} {σ:St} {H:Hp} {s:Shared} {E:Value->Shared->Prop}
theorem Inv.wish (I:Inv X pins σ H s) (E:Value->Shared->Prop):Inv (X.wish E) pins σ H s:=⟨I.ok.wish E,I.os,I.bare,I.base,I.loc,I.cell,I.free,I.freeC,I.pin,I.hok,I.len⟩
theorem Inv.unwish (I:Inv (X.wish E) pins σ H s):Inv X pins σ H s:=⟨I.ok.unwish,I.os,I.bare,I.base,I.loc,I.cell,I.free,I.freeC,I.pin,I.hok,I.len⟩
theorem SP.unwish (h:SP (X.wish E) pins D f s'):SP X pins D f s':=by
 cases f with
 | next=>obtain ⟨σ',H',I,q⟩:=h;exact ⟨σ',H',I.unwish,q⟩
 | brk=>obtain ⟨σ',H',I,q⟩:=h;exact ⟨σ',H',I.unwish,q⟩
 | cont=>obtain ⟨σ',H',I,q⟩:=h;exact ⟨σ',H',I.unwish,q⟩
 | ret u=>obtain ⟨v,σ',H',I,r,q⟩:=h;exact ⟨v,σ',H',I.unwish,r,q⟩
theorem PSs.nox {st:List Stmt} {t:TS} (h:PSs X.nox st t):PSs X st t:=λpins s σ H D I a=>
 AK (h pins s σ H D (I.wish _) a) (λ_ _ q=>q.unwish) λ_ _ z=>False.elim z
end
section
variable {X:Cx} {st:Stmt} {rest:List Stmt} {t u:TS} {e:Expr} {te:TE} {pos:Pos}
def tNext:TS:=λD σ H=>D.nx σ H
def vB (t u:TS):TS:=λD σ H=>t { D with nx:=u D } σ H
theorem kx:PSs X [] tNext:=λ_ _ σ H _ I h=>CM ⟨σ,H,I,h⟩
theorem au (h1:PS X st t) (h2:PSs X rest u):PSs X (st :: rest) (vB t u):=by
 intro pins s σ H D I h;refine wpAny_execs_cons (thn (h1 pins s σ H { D with nx:=u D } I h) λf s1 q=>?_);cases f with
 | next=>
  obtain ⟨σ',H',I',q⟩:=q;exact h2 pins s1 σ' H' D I' q
 | ret v=>exact q
 | brk=>exact q
 | cont=>exact q
theorem eK (h1:PS X st t):PSs X [st] t:=by
 intro pins s σ H D I h;refine wpAny_execs_cons (thn (h1 pins s σ H D I h) λf s1 q=>?_);cases f with
 | next=>exact CM q
 | ret v=>exact q
 | brk=>exact q
 | cont=>exact q
theorem Inv.quiet {σ:St} {H:Hp} {s:Shared} (I:Inv X pins σ H s):interactive X.env=false:=by simp [interactive,I.ok.kind]
def tX (te:TE):TS:=λD σ H=>te σ H λ_ a=>D.nx σ a
theorem Y7 (a:PE X e te) (hs:swapsWith e none pos.line X.env=pure false:=by rfl):PS X (.Expr e pos) (tX te):=by
 intro pins s σ H D I h;exact wpAny_Expr_any (thn (a pins s σ H _ I h) λv f ⟨x,c,b,g,d⟩=>⟨σ,c,b,d⟩) I.quiet hs
def tq (te:TE):TS:=λD σ H=>te σ H D.rt
theorem nW (a:PE X e te):PS X (.Return (some e) pos) (tq te):=by
 intro pins s σ H D I h;exact wpAny_Return_some (thn (a pins s σ H _ I h) λv g ⟨x,c,b,f,d⟩=>⟨x,σ,c,b,f,d⟩)
def tu (c:TT) (t u:TS):TS:=λD σ H=>c σ H λb a=>if b=true then t D σ a else u D σ a
theorem ps_if {j:TT} (m:PT X c j) (k:PSs X a t) (l:PSs X b u):PS X (.If c a b pos) (tu j t u):=by
 intro pins s σ H D I h;refine wpAny_If (thn (m pins s σ H _ I h) λd g ⟨f,e,i⟩=>?_);cases d with
 | true=>exact k pins g σ f D e i
 | false=>exact l pins g σ f D e i
def tNever:TS:=λ_ _ _=>False
theorem ie:PS X st tNever:=λ_ _ _ _ _ _ h=>h.elim
end
abbrev TG:=V->St->Hp->(St->Hp->Prop)->Prop
abbrev TGs:=List V->St->Hp->(St->Hp->Prop)->Prop
def PG (X:Cx) (a:Expr) (t:TG):Prop:=
 ∀ (pins:List (Addr×Obj)) (s:Shared) (σ:St) (H:Hp) (v:V) (u:Value) (Q:St->Hp->Prop),Inv X pins σ H s->RelV v u->t v σ H Q ->
  wpAny (model X.prog X.w) X.A (assign a X.env u) (λ_ s'=>∃ b H',Inv X pins b H' s'/\Q b H') X.xe s
def PGs (X:Cx) (b:List Expr) (t:TGs):Prop:=
 ∀ (pins:List (Addr×Obj)) (s:Shared) (σ:St) (H:Hp) (vs:List V) (us:List Value) (Q:St->Hp->Prop),Inv X pins σ H s->Vals vs us->t vs σ H Q ->
  wpAny (model X.prog X.w) X.A (assignInOrder ((assignEach b X.env).map (·.2)) us) (λ_ s'=>∃ a H',Inv X pins a H' s'/\Q a H') X.xe s
abbrev oZ:=V->V->V->Hp->(Hp->Prop)->Prop
def lN (X:Cx) (t:oZ):Prop:=
 ∀ (pins:List (Addr×Obj)) (s:Shared) (σ:St) (H:Hp) (o i v:V) (b a u:Value) (Q:Hp->Prop),Inv X pins σ H s->RelV o b->RelV i a->RelV v u->t o i v H Q ->
  wpAny (model X.prog X.w) X.A (setItem b a u) (λ_ s'=>∃ H',Inv X pins σ H' s'/\Q H') X.xe s
section
variable {X:Cx} {pos:Pos}
def W9 (i:Nat):TG:=λv σ H Q=>Q (σ.set i (some v)) H
theorem B9 (e:X.N.Nodup) (c:X.N[i]?=some x) (a:Loc X.env.scope x) (b:X.fn x=true\/X.env.scope.names.lookup x=some .local:=by first | exact .inl rfl | exact .inr rfl | assumption):PG X (.Name x pos) (W9 i):=by
 intro pins s σ H v u Q I r h;exact wpAny_assign_Name (ah I e c a r (λs' d=>⟨_,H,d,h⟩) b)
def gNil:TGs:=λvs σ H Q=>vs=[]/\Q σ H
def iq (t:TG) (u:TGs):TGs:=λvs σ H Q=>∃ v r,vs=v :: r/\t v σ H λa H'=>u r a H' Q
theorem dB:PGs X [] gNil:=by
 intro pins s σ H vs us Q I r h;obtain ⟨e,h⟩:=h;subst e;cases r;exact assignInOrder_nil ⟨σ,H,I,h⟩
theorem R1 {t:TG} {u:TGs} (b:PG X e t) (g:PGs X es u)
  (hs:(assignEach (e :: es) X.env).map (·.2)=assign e X.env :: (assignEach es X.env).map (·.2):=by rfl):PGs X (e :: es) (iq t u):=by
 intro pins s σ H vs us Q I r h;obtain ⟨v,l,f,h⟩:=h;subst f;cases r with
 | cons r i=>
  rw [hs];refine assignInOrder_cons (thn (b pins s σ H _ _ _ I r h) λ_ j ⟨a,d,c,k⟩=>?_);exact g pins j a d _ _ Q c i k
def rS (K:PySem.W.Frag) (n:Nat) (t:TGs):TG:=λv σ H Q=>∃ a xs,v=.ref a/\SqT K H a xs/\xs.length=n/\t xs σ H Q
theorem ib {k:Nat} {t:TGs} {n:Nat} (x:X.calm=true) (h:PGs X es t)
  (i:(assignEach es X.env).length=n:=by rfl) (d:(assignEach es X.env).findIdx? (·.1)=none:=by rfl):PG X (.Tuple es k pos) (rS X.K n t):=by
 intro pins s σ H v u Q I r c;obtain ⟨a,xs,w,j,p,c⟩:=c;subst w;cases r;obtain ⟨q,f,l,hz⟩:=I.tuple j;refine assign_Tuple_tuple (I.ok.hd x) l (by simp [i,<- p,f.length]) d λh' g=>?_;have m:=I.kept (t':=s.toks) λb o e=>g b o (Au (Ap e)) e;exact h pins _ σ H xs _ Q m (by simpa using f) c
def uO (c d:TE) (t:oZ):TG:=λv σ H Q=>c σ H λo b=>d σ b λi e=>t o i v e λa=>Q σ a
theorem gk {c d:TE} {t:oZ} (w:PE X o c) (A:PE X i d) (hs:lN X t)
  (q:∀ v,assign (.Subscript o i pos) X.env v=(do
   let a <- holding [v] (eval o X.env)
   let b <- holding [v,a] (eval i X.env)
   standAt pos
   holding [v,a,b] (setItem a b v)
   release [v,a,b] []):=by intro _;rfl):PG X (.Subscript o i pos) (uO c d t):=by
 intro pins s σ H v u Q I r h;rw [q];refine Ag (BK (thn (w pins s σ H _ I h) λa f ⟨x,l,g,p,n⟩=>?_));refine Ag (BK (thn (A pins f σ l _ g n) λb C ⟨y,D,z,k,e⟩=>?_));refine Ag (Bo (Ag (BK (thn (hs pins C σ D x y v a b u _ z p k r e) λ_ E ⟨B,j,m⟩=>?_))));exact wpAny_release ⟨σ,B,j,m⟩
def kI (te:TE) (g:TG):TS:=λD σ H=>te σ H λx a=>g x σ a D.nx
theorem cD {tg e:Expr} {te:TE} {g:TG} (a:PE X e te) (f:PG X tg g) (hs:swapsWithSole [tg] e pos.line X.env=pure false:=by rfl) (l:swappedStores [tg] e X.env=pure none:=by rfl)
  (b:(assignEach [tg] X.env).map (·.2)=[assign tg X.env]:=by rfl):PS X (.Assign [tg] e pos) (kI te g):=by
 intro pins s σ H D I h;refine wpAny_Assign_stores (thn (a pins s σ H _ I h) λv i ⟨x,d,c,k,j⟩=>?_) hs l;rw [b];exact thn (f pins i σ d x v _ c k j) λ_ m q=>q
theorem pP (k:X.N.Nodup) (f:X.N[i]?=some x) (a:Loc X.env.scope x) (d:PE X e te) (hs:swapsWith e (some (.Name x pos')) pos.line X.env=pure false:=by rfl) (b:X.fn x=true\/X.env.scope.names.lookup x=some .local:=by first | exact .inl rfl | exact .inr rfl | assumption) :
  PS X (.Assign [.Name x pos'] e pos) (kI te (W9 i)):=by
 intro pins s σ H D I h;refine wpAny_Assign_Name (thn (d pins s σ H _ I h) λv n ⟨y,j,g,m,l⟩=>?_) hs;exact ah g k f a m (λo c=>⟨_,j,c,l⟩) b
end
section
variable {X:Cx} {pos:Pos}
def nl (c:TT) (e:TS):TS:=λD σ H=>∃ W:Nat->St->Hp->Prop,(∃ m,W m σ H)/\∀ m σ H,W m σ H ->
 c σ H λb d=>if b=true then ∃ N:St->Hp->Prop,(∀ a H',N a H'->∃ m',m'<m/\W m' a H')/\e { D with nx:=N,ct:=N,bk:=D.nx } σ d else D.nx σ d
theorem fj {tc:TT} {tb:TS} (hp:PassesOwn (model X.prog X.w) X.A X.env X.xe) (hc:PT X c tc) (hb:PSs X body tb):PS X (.While c body [] pos) (nl tc tb):=by
 intro pins s σ H D I h;obtain ⟨W,⟨m0,w0⟩,turn⟩:=h;refine wpAny_While (codeAny_whileLoop (λn s'=>∃ σ' H',Inv X pins σ' H' s'/\W n σ' H') ?_ m0 ⟨σ,H,I,w0⟩);rintro n s1 ⟨σ1,H1,I1,w1⟩;refine Bu hp (thn (hc pins s1 σ1 H1 _ I1 (turn n σ1 H1 w1)) λb s2 ⟨H2,I2,q2⟩=>?_);cases b with
 | true=>
  obtain ⟨N,hN,q2⟩:=q2;rw [if_pos rfl];refine Bu hp (thn (hb pins s2 σ1 H2 _ I2 q2) λf s3 q3=>?_);cases f with
  | next=>
   obtain ⟨σ3,H3,I3,n3⟩:=q3;obtain ⟨m',hm,w3⟩:=hN σ3 H3 n3;exact ⟨m',hm,σ3,H3,I3,w3⟩
  | cont=>
   obtain ⟨σ3,H3,I3,n3⟩:=q3;obtain ⟨m',hm,w3⟩:=hN σ3 H3 n3;exact ⟨m',hm,σ3,H3,I3,w3⟩
  | brk=>exact q3
  | ret v=>exact q3
 | false=>
  rw [if_neg Am];exact CM ⟨σ1,H2,I2,q2⟩
end
structure It where
 go:Nat->Hp->Prop
 yld:Nat->Hp->V->Hp->Prop
 stop:Nat->Hp->Prop
def y3 (X:Cx) (pins:List (Addr×Obj)) (H:Hp) (b:Addr):Prop:=
 H b=none/\b≠X.env.locals/\b∉X.fs/\(b∈X.ex\/X.s₀.heap.objs.size<=b)/\(∀ x c,X.env.cells.lookup x=some c->c≠b)/\∀ p∈X.pn++pins,p.1≠b
theorem Inv.fpOk {σ:St} {H H':Hp} {s:Shared} {b:Addr} (I:Inv X pins σ H s) (a:s.heap.objs.size<=b) (f:H' b=none):y3 X pins H' b:=by
 refine ⟨f,Nat.ne_of_gt (Ay I.lt a),I.nofs a,.inr (AQ I.sz a),λx c e z=>?_,λp d z=>?_⟩
 ·obtain ⟨v,q⟩:=I.cell x c e;exact absurd (Ay q.lt (by rw [z];exact a)) (Ci _)
 ·exact absurd (Ay (Ap (I.pin p d).1) (by rw [z];exact a)) (Ci _)
structure Turn (P:Program) (w:World) (K:PySem.W.Frag) (tg:Expr) (J:It) (fp:List Addr) (it:Addr) (tn:Nat->Heap->Prop):Prop where
 mem:it∈fp
 obj:∀ i h,tn i h->∀ b∈fp,∃ o,h.get? b=some o/\∀ v,o.data≠.cell v
 keep:∀ i h h',tn i h->(∀ b∈fp,∀ o,h.get? b=some o->h'.get? b=some o)->tn i h'
 item:∀ (X:Cx),X.prog=P->X.w=w->X.K=K->X.calm=true->∀ (i:Nat) (pins:List (Addr×Obj)) (s:Shared) (σ:St) (H:Hp) (E:Value->Shared->Prop),Inv X pins σ H s->(∀ b∈fp,y3 X pins H b)->tn i s.heap->J.go i H ->
  wpAny (model P w) X.A (pyNext (.ref it)) (λr s1=>∃ u,r=some u /\
   wpAny (model P w) X.A (letOwnedTupleGo tg (.ref it) u) (λ_ s2=>∃ x H',Inv X pins σ H' s2/\RelV x u/\J.yld i H x H'/\tn (i+1) s2.heap/\∀ b∈fp,H' b=none) E s1) E s
 done:∀ (X:Cx),X.prog=P->X.w=w->X.K=K->X.calm=true->∀ (i:Nat) (pins:List (Addr×Obj)) (s:Shared) (σ:St) (H:Hp) (E:Value->Shared->Prop),Inv X pins σ H s->(∀ b∈fp,y3 X pins H b)->tn i s.heap->J.stop i H ->
  wpAny (model P w) X.A (pyNext (.ref it)) (λr s1=>r=none/\Inv X pins σ H s1) E s
 self:∀ (A:Around) (i:Nat) (s:Shared) (Q:Value->Shared->Prop) (E:Value->Shared->Prop),tn i s.heap->Q (.ref it) s->wpAny (model P w) A (pyIter (.ref it)) Q E s
abbrev TI:=St->Hp->(It->Hp->Prop)->Prop
def PIE (X:Cx) (pins:List (Addr×Obj)) (σ:St) (tg:Expr) (R:It->Hp->Prop) (a:Value) (d:Shared):Prop:=
 ∃ (it:Addr) (c:List Addr) (tn:Nat->Heap->Prop) (J:It) (H':Hp),a=.ref it/\Inv X pins σ H' d/\Turn X.prog X.w X.K tg J c it tn/\tn 0 d.heap/\(∀ b∈c,y3 X pins H' b)/\R J H'
def PI (X:Cx) (tg a:Expr) (b:TI):Prop:=
 ∀ (pins:List (Addr×Obj)) (s:Shared) (σ:St) (H:Hp) (R:It->Hp->Prop),Inv X pins σ H s->b σ H R ->
  wpAny (model X.prog X.w) X.A (eval a X.env) (λv c=>wpAny (model X.prog X.w) X.A (pyIter v) (PIE X pins σ tg R) X.xe c) X.xe s
theorem gU {s:Shared} {tg:Expr} {it:Addr} {u:Value} {o:Obj} {n:String} {vs:Array Value} {Q:Unit->Shared->Prop} (c:s.heap.get? it=some o) (b:o.cls=.type n) (hd:o.data=.fields vs)
  (d:["enumerate","zip","dict_itemiterator","dict_reverseitemiterator","odict_iterator","itertools.zip_longest","itertools.pairwise"].contains n=false) (a:Q () s):wpAny M A (letOwnedTupleGo tg (.ref it) u) Q E s:=by
 cases tg <;> first
  | exact Aj a
  | (cases u <;> first
    | exact Aj a
    | (refine Ag (wpAny_load c ?_);rw [b,hd];show wpAny M A (if (["enumerate","zip","dict_itemiterator","dict_reverseitemiterator","odict_iterator","itertools.zip_longest","itertools.pairwise"].contains n&&vs[0]?==some (rawInt _))=true then _ else _) Q E s;rw [if_neg (by intro h;rw [d,Bool.false_and] at h;cases h)];exact Aj a))
def Itl (K:PySem.W.Frag) (a:Addr):It:=
 ⟨λi H=>∃ xs x,SqL K H a xs/\xs[i]?=some x,λi H x H'=>H'=H/\∀ xs,SqL K H a xs->xs[i]?=some x,λi H=>∃ xs,SqL K H a xs/\xs.length<=i⟩
def Itt (K:PySem.W.Frag) (a:Addr):It:=
 ⟨λi H=>∃ xs x,SqT K H a xs/\xs[i]?=some x,λi H x H'=>H'=H/\∀ xs,SqT K H a xs->xs[i]?=some x,λi H=>∃ xs,SqT K H a xs/\xs.length<=i⟩
def Itr (lo:Int) (n:Nat):It:=⟨λi _=>i<n,λi H x H'=>H'=H/\x=.int (lo+i),λi _=>n<=i⟩
theorem ey {K:PySem.W.Frag} {tg:Expr} (a it:Addr):Turn P w K tg (Itl K a) [it] it (λi h=>h.IsListIter it a i) where
 mem:=by simp
 obj:=λi h st b f=>by
  have e:b=it:=by simpa using f
  subst e;obtain ⟨o,e,c,d⟩:=st;exact ⟨o,e,λv z=>by rw [d] at z;cases z⟩
 keep:=λi h h' st k=>st.at λo e=>k it (by simp) o e
 item:=by
  intro X G D A J i pins s σ H E I j st F;subst G D A;obtain ⟨xs,x,l,B⟩:=F;obtain ⟨n,C,p,hz⟩:=I.list l;obtain ⟨u,S,N⟩:=C.get B;obtain ⟨y,q,O,m,t,r⟩:=j it (by simp);refine wpAny_pyNext_list_item st p.isList (by simpa using S) λh' g R=>?_;have M:=I.turned (t':=s.toks) (λb o f e=>(R.2 b f).trans e) y q m t r;obtain ⟨o,e,c,d⟩:=id g;exact ⟨u,rfl,gU e c d (by decide) ⟨x,H,M,N,⟨rfl,λys Q=>by rw [I.list_inj Q l];exact B⟩,g,λb f=>(j b f).1⟩⟩
 done:=by
  intro X G D A J i pins s σ H E I j st F;subst G D A;obtain ⟨xs,l,B⟩:=F;obtain ⟨n,C,p,hz⟩:=I.list l;obtain ⟨y,q,O,m,t,r⟩:=j it (by simp);have T:=C.length;exact wpAny_pyNext_list_end (I.ok.hd J) st p.isList (by simp;omega) λh' L=>⟨rfl,I.turned (λb o f e=>L b o f e) y q m t r⟩
 self:=λ_ _ _ _ _ st h=>wpAny_pyIter_listiter st h
theorem cG {K:PySem.W.Frag} {tg:Expr} (a it:Addr):Turn P w K tg (Itt K a) [it] it (λi h=>h.IsTupleIter it a i) where
 mem:=by simp
 obj:=λi h st b f=>by
  have e:b=it:=by simpa using f
  subst e;obtain ⟨o,e,c,d⟩:=st;exact ⟨o,e,λv z=>by rw [d] at z;cases z⟩
 keep:=λi h h' st k=>st.at λo e=>k it (by simp) o e
 item:=by
  intro X G D A J i pins s σ H E I j st F;subst G D A;obtain ⟨xs,x,l,B⟩:=F;obtain ⟨n,C,p,hz⟩:=I.tuple l;obtain ⟨u,S,N⟩:=C.get B;obtain ⟨y,q,O,m,t,r⟩:=j it (by simp);refine wpAny_pyNext_tuple_item st (p) (by simpa using S) λh' g R=>?_;have M:=I.turned (t':=s.toks) (λb o f e=>(R.2 b f).trans e) y q m t r;obtain ⟨o,e,c,d⟩:=id g;exact ⟨u,rfl,gU e c d (by decide) ⟨x,H,M,N,⟨rfl,λys Q=>by rw [I.tuple_inj Q l];exact B⟩,g,λb f=>(j b f).1⟩⟩
 done:=by
  intro X G D A J i pins s σ H E I j st F;subst G D A;obtain ⟨xs,l,B⟩:=F;obtain ⟨n,C,p,hz⟩:=I.tuple l;obtain ⟨y,q,O,m,t,r⟩:=j it (by simp);have T:=C.length;exact wpAny_pyNext_tuple_end (I.ok.hd J) st (p) (by simp;omega) λh' L=>⟨rfl,I.turned (λb o f e=>L b o f e) y q m t r⟩
 self:=λ_ _ _ _ _ st h=>wpAny_pyIter_tupleiter st h
theorem cI {K:PySem.W.Frag} {tg:Expr} (it:Addr) (lo:Int) (n:Nat):Turn P w K tg (Itr lo n) [it] it (λi h=>IsRangeIter h it (lo+(i:Nat) * 1) ((n:Int)-(i:Nat)) 1) where
 mem:=by simp
 obj:=λi h st b a=>by
  have e:b=it:=by simpa using a
  subst e;exact ⟨_,st,λv z=>by
   have D:=z;cases D⟩
 keep:=λi h h' st k=>k it (by simp) _ st
 item:=by
  intro X x r q g i pins s σ H E I d st u;subst x r q;obtain ⟨p,j,C,f,m,l⟩:=d it (by simp);have W:=Walks.range (prog:=X.prog) (w:=X.w) (I.ok.hd g) it lo 1 n;refine W.item i s _ _ u st λv h' G A c F=>?_;obtain ⟨t,rfl⟩:=A;have B:Inv X pins σ H { s with heap:=h',toks:=G }:=I.turned (λb o a e=>F b o (by simpa using a) e) p j f m l;refine ⟨_,rfl,gU c rfl rfl (by decide) ⟨.int (lo+i),H,B,⟨t,?_⟩,⟨rfl,rfl⟩,c,λb a=>(d b a).1⟩⟩;rw [Int.mul_one]
 done:=by
  intro X x r q g i pins s σ H E I d st u;subst x r q;obtain ⟨p,j,C,f,m,l⟩:=d it (by simp);exact wpAny_pyNext_range_end (I.ok.hd g) st (by have:n<=i:=u;omega) λh' y=>⟨rfl,I.turned (λb o a e=>y b o a e) p j f m l⟩
 self:=λ_ _ _ _ _ st h=>wpAny_pyIter_rangeiter st h
section
variable {X:Cx} {tg:Expr}
theorem gO {σ:St} {H:Hp} {s:Shared} {R:It->Hp->Prop} {E:Value->Shared->Prop} {lo a:Int} {t u v:Tok} {d:Nat} (I:Inv X pins σ H s) (f:-(2 ^ 62)<=lo) (j:lo<2 ^ 62) (l:-(2 ^ 62)<=a) (h:a<2 ^ 62)
  (q:R (Itr lo (a-lo).toNat) H):wpAny (model X.prog X.w) X.A (pyIter (.ref s.heap.objs.size)) (PIE X pins σ tg R) E { s with heap:=s.heap.push { cls:=.type "range",data:=.fields #[.int lo t,.int a u,.int 1 v] },toks:=d }:=by
 refine wpAny_pyIter_range (IsRange.new ..) (small_one f j l h) ?_;have c:Inv X pins σ H { s with heap:=s.heap.push { cls:=.type "range",data:=.fields #[.int lo t,.int a u,.int 1 v] },toks:=d }:=I.kept λb o e=>Ah _ e;refine ⟨(s.heap.push { cls:=.type "range",data:=.fields #[.int lo t,.int a u,.int 1 v] }).objs.size,[(s.heap.push { cls:=.type "range",data:=.fields #[.int lo t,.int a u,.int 1 v] }).objs.size],_,_,H,rfl,
  c.kept λb o e=>Ah _ e,cI _ lo (a-lo).toNat,?_,λb k=>?_,q⟩
 ·have i:lo+((0:Nat):Int) * 1=lo:=by simp
  have g:(((a-lo).toNat:Nat):Int)-((0:Nat):Int)=Builtin.Range.rangeSize lo a 1:=by rw [rangeSize_one];split <;> omega
  rw [i,g];exact Ax _ rfl
 ·have e:b=(s.heap.push { cls:=.type "range",data:=.fields #[.int lo t,.int a u,.int 1 v] }).objs.size:=by simpa using k
  subst e;exact c.fpOk (Ao _) (c.hok.fresh (Ao _))
def sA (a:TA):TI:=λσ H R=>a σ H λvs b=>∃ j:Int,vs=[.int j]/\-(2 ^ 62)<=j/\j<2 ^ 62/\R (Itr 0 j.toNat) b
theorem fJ (f:Gl X "range") (k:X.mg "range" = none) (c:PA X [a] ta) (hs:starEach [a] X.env=[(false,eval a X.env)]:=by rfl):PI X tg (.Call (.Name "range" p) [a] [] pos) (sA ta):=by
 intro pins s σ H R I h;refine Call_ (K0 I f k boot_range (Bn (thn (c pos pins s σ H _ I h) λus m ⟨vs,n,d,l,b⟩=>?_) hs rfl));obtain ⟨j,e,b,g,q⟩:=b;subst e;cases l with
 | cons r i=>
  cases i;obtain ⟨t,rfl⟩:=r;exact call_range_1 (gO d (by omega) (by omega) b g (by simpa using q))
def uJ (f:TI) (g:TG) (c:TS):TS:=λD σ H=>f σ H λJ d=>∃ W:Nat->Nat->St->Hp->Prop,(∃ m,W 0 m σ d)/\∀ i m σ H,W i m σ H ->
 (J.stop i H/\D.nx σ H)\/(J.go i H/\∃ N:St->Hp->Prop,(∀ a H',N a H'->∃ m',m'<m/\W (i+1) m' a H')/\∀ x H',J.yld i H x H'->g x σ H' λb e=>c { D with nx:=N,ct:=N,bk:=D.nx } b e)
def v3 (a:List Addr) (h:Heap):List (Addr×Obj):=a.filterMap λb=>(h.get? b).map λo=>(b,o)
theorem j2 {b:Addr} {o:Obj} (a:b∈fp) (e:h.get? b=some o):(b,o)∈v3 fp h:=CT.mpr ⟨b,a,by rw [e];rfl⟩
theorem el (a:p∈v3 fp h):p.1∈fp/\h.get? p.1=some p.2:=by
 obtain ⟨b,c,e⟩:=CT.mp a;cases q:h.get? b with
 | none=>rw [q] at e;cases e
 | some o=>
  rw [q] at e;have d:=AH e;subst d;exact ⟨c,q⟩
theorem Inv.pinned {σ:St} {H:Hp} {s:Shared} {a:List Addr} (I:Inv X pins σ H s) (i:∀ b∈a,y3 X pins H b) (k:∀ b∈a,∃ o,s.heap.get? b=some o/\∀ v,o.data≠.cell v):Inv X (pins++v3 a s.heap) σ H s:=
 I.pins_of λp j=>(Az.mp j).elim (λz=>I.pin p (Av _ z)) λz=>by
  obtain ⟨c,e⟩:=el z;obtain ⟨h,l,g,_⟩:=i p.1 c;obtain ⟨o,f,d⟩:=k p.1 c;rw [e] at f;cases f;exact ⟨e,h,l,g,d⟩
theorem Inv.unpinned {σ:St} {H:Hp} {s:Shared} (I:Inv X (pins++pl) σ H s):Inv X pins σ H s:=I.pins_of λp a=>I.pin p (Av _ (CJ _ a))
theorem oF {wi:TI} {g:TG} {tb:TS} {pos:Pos} (hp:PassesOwn (model X.prog X.w) X.A X.env X.xe) (hc:X.calm=true) (hi:PI X tg iter wi) (hg:PG X tg g) (hb:PSs X body tb)
  (hs:∀ x,foldedSetIterable iter X.env x=pure x:=by intro _;rfl):PS X (.For tg iter body [] pos) (uJ wi g tb):=by
 intro pins s σ H D I h;refine wpAny_For (thn (hi pins s σ H _ I h) λv s1 h1=>thn h1 λitv s2 h2=>?_) hs;obtain ⟨it,fp,tn,J,H2,e,I2,T,st2,f2,W,⟨m0,w0⟩,turn⟩:=h2;subst e;have stat:∀ {H':Hp},(∀ b∈fp,H' b=none)->∀ b∈fp,y3 X pins H' b:=λhn b hb=>⟨hn b hb,(f2 b hb).2⟩;refine codeAny_forLoop_any (λn s'=>∃ i σ' H',Inv X pins σ' H' s'/\tn i s'.heap/\(∀ b∈fp,H' b=none)/\W i n σ' H') ?_ m0 ⟨0,σ,H2,I2,st2,λb hb=>(f2 b hb).1,w0⟩;rintro n s3 ⟨i,σ3,H3,I3,st3,fr3,w3⟩;rcases turn i n σ3 H3 w3 with ⟨stop,qn⟩ | ⟨go,N,hN,step⟩
 ·refine Bu hp (thn (T.done X rfl rfl rfl hc i pins s3 σ3 H3 X.xe I3 (stat fr3) st3 stop) λr s4 ⟨hr,I4⟩=>?_);subst hr;exact CM ⟨σ3,H3,I4,qn⟩
 ·refine Bu hp (thn (T.item X rfl rfl rfl hc i pins s3 σ3 H3 X.xe I3 (stat fr3) st3 go) λr s4 ⟨u,hr,h4⟩=>?_);subst hr;refine Bu hp (thn h4 λ_ s5 ⟨x,H5,I5,r5,y5,st5,fr5⟩=>?_);have I5':=I5.pinned (stat fr5) (T.obj _ _ st5);refine Bu hp (thn (hg _ s5 σ3 H5 x u _ I5' r5 (step x H5 y5)) λ_ s6 ⟨σ6,H6,I6,q6⟩=>?_);refine Bu hp (thn (hb _ s6 σ6 H6 _ I6 q6) λf s7 q7=>?_);have again:∀ {σ7:St} {H7:Hp},Inv X (pins++v3 fp s5.heap) σ7 H7 s7->N σ7 H7->∃ m,m<n/\∃ i σ' H',Inv X pins σ' H' s7/\tn i s7.heap/\(∀ b∈fp,H' b=none)/\W i m σ' H':=λ{σ7 H7} I7 n7=>by
   obtain ⟨m',hm,w7⟩:=hN σ7 H7 n7;refine ⟨m',hm,i+1,σ7,H7,I7.unpinned,T.keep _ _ _ st5 λb hb o e=>(I7.pin (b,o) (Av _ (Av _ (j2 hb e)))).1,λb hb=>?_,w7⟩;obtain ⟨o,e,d⟩:=T.obj _ _ st5 b hb;exact (I7.pin (b,o) (Av _ (Av _ (j2 hb e)))).2.1
  cases f with
  | next=>obtain ⟨σ7,H7,I7,n7⟩:=q7;exact again I7 n7
  | cont=>obtain ⟨σ7,H7,I7,n7⟩:=q7;exact again I7 n7
  | brk=>obtain ⟨σ7,H7,I7,q7⟩:=q7;exact ⟨σ7,H7,I7.unpinned,q7⟩
  | ret v=>obtain ⟨x7,σ7,H7,I7,r7,q7⟩:=q7;exact ⟨x7,σ7,H7,I7.unpinned,r7,q7⟩
end
abbrev R2:=V->V->Hp->VK->Prop
def OpR (X:Cx) (f:Value->Value->Sem Value) (r:R2):Prop:=
 ∀ (pins:List (Addr×Obj)) (s:Shared) (σ:St) (H:Hp) (x y:V) (v u:Value) (Q:VK),Inv X pins σ H s->RelV x v->RelV y u->r x y H Q ->
  wpAny (model X.prog X.w) X.A (f v u) (EP X pins σ Q) X.xe s
def A4 (X:Cx) (f:Value) (r:List V->Hp->VK->Prop):Prop:=
 ∀ (pins:List (Addr×Obj)) (s:Shared) (σ:St) (H:Hp) (xs:List V) (us:List Value) (Q:VK),Inv X pins σ H s->Vals xs us->r xs H Q ->
  wpAny (model X.prog X.w) X.A (call f us) (EP X pins σ Q) X.xe s
def uS (X:Cx) (r:V->Hp->(Bool->Hp->Prop)->Prop):Prop:=
 ∀ (pins:List (Addr×Obj)) (s:Shared) (σ:St) (H:Hp) (x:V) (v:Value) (Q:Bool->Hp->Prop),Inv X pins σ H s->RelV x v->r x H Q ->
  wpAny (model X.prog X.w) X.A (truthy v) (TP X pins σ Q) X.xe s
def tOp (r:R2) (a b:TE):TE:=λσ H Q=>a σ H λx d=>b σ d λy c=>r x y c Q
def rI (C:Int->Int->Prop) (g:Int->Int->V):R2:=λx y H Q=>∃ i j,x=.int i/\y=.int j/\C i j/\Q (g i j) H
def rI0 (g:Int->Int->V):R2:=λx y H Q=>∃ i j,x=.int i/\y=.int j/\Q (g i j) H
section
variable {X:Cx} {a b c:Expr} {ta tb tc:TE} {pos:Pos}
theorem nh (j:PE X a ta) (l:PE X b tb) {pins:List (Addr×Obj)} {s:Shared} {σ:St} {H:Hp} {R:V->V->Hp->Prop} (I:Inv X pins σ H s)
  (h:ta σ H λx g=>tb σ g λy d=>R x y d) {Q:Value->Shared->Prop} {f:Value->Value->Sem Value}
  (o:∀ v u i x y d,Inv X pins σ d i->RelV x v->RelV y u->R x y d->wpAny (model X.prog X.w) X.A (f v u) Q X.xe i) :
  wpAny (model X.prog X.w) X.A (eval a X.env) (λv c=>wpAny (model X.prog X.w) X.A (eval b X.env) (λu e=>wpAny (model X.prog X.w) X.A (f v u) Q X.xe e) X.xe c) X.xe s:=by
 refine thn (j pins s σ H _ I h) λv m ⟨x,g,k,t,n⟩=>?_;refine thn (l pins m σ g _ k n) λu i ⟨y,d,q,p,r⟩=>?_;grind
theorem rT (d:OpR X (binaryOp op) r) (c:PE X a ta) (g:PE X b tb):PE X (.BinOp a op b pos) (tOp r ta tb):=by
 intro pins s σ H Q I h;exact wpAny_BinOp (nh c g I h λv u j x y k e i f q=>d pins j σ k x y v u Q e i f q)
theorem opI {C:Int->Int->Prop} {g:Int->Int->Int}
  (a:∀ (i j:Int) (t u:Tok) (s:Shared) (Q:Value->Shared->Prop) (E:Value->Shared->Prop),C i j->Q (.int (g i j) s.toks) { s with toks:=s.toks+1 }->wpAny (model X.prog X.w) X.A (f (.int i t) (.int j u)) Q E s) :
  OpR X f (rI C λi j=>.int (g i j)):=by
 intro pins s σ H x y v u Q I d c h;obtain ⟨i,j,rfl,rfl,b,q⟩:=h;obtain ⟨t,rfl⟩:=d;obtain ⟨t',rfl⟩:=c;exact a i j t t' s _ _ b ⟨.int (g i j),H,I.tok _,⟨_,rfl⟩,q⟩
theorem sr {g:Int->Int->Int}
  (a:∀ (i j:Int) (t u:Tok) (s:Shared) (Q:Value->Shared->Prop) (E:Value->Shared->Prop),Q (.int (g i j) s.toks) { s with toks:=s.toks+1 }->wpAny (model X.prog X.w) X.A (f (.int i t) (.int j u)) Q E s) :
  OpR X f (rI0 λi j=>.int (g i j)):=by
 intro pins s σ H x y v u Q I c b h;obtain ⟨i,j,rfl,rfl,q⟩:=h;obtain ⟨t,rfl⟩:=c;obtain ⟨t',rfl⟩:=b;exact a i j t t' s _ _ ⟨.int (g i j),H,I.tok _,⟨_,rfl⟩,q⟩
theorem kf {g:Int->Int->Bool}
  (a:∀ (i j:Int) (t u:Tok) (s:Shared) (Q:Value->Shared->Prop) (E:Value->Shared->Prop),Q (.bool (g i j)) s->wpAny (model X.prog X.w) X.A (f (.int i t) (.int j u)) Q E s) :
  OpR X f (rI0 λi j=>.bl (g i j)):=by
 intro pins s σ H x y v u Q I c b h;obtain ⟨i,j,rfl,rfl,q⟩:=h;obtain ⟨t,rfl⟩:=c;obtain ⟨t',rfl⟩:=b;exact a i j t t' s _ _ ⟨.bl (g i j),H,I,rfl,q⟩
def hX (i j:Int):Prop:=0<j/\j<1073741824
def li (i j:Int):Prop:=0<=j/\j<=1000000/\i.natAbs<2 ^ 64
def CMul (i j:Int):Prop:=(-(2 ^ 64)<i/\i<2 ^ 64)\/(-(2 ^ 64)<j/\j<2 ^ 64)
theorem CMul.ok (h:CMul i j):IntMulOk i j:=by
 rcases h with ⟨b,a⟩ | ⟨b,a⟩
 ·exact .of_left (intBits_le_64 b a)
 ·exact .of_right (intBits_le_64 b a)
theorem oe:OpR X (binaryOp .Add) (rI0 λi j=>.int (i+j)):=sr λ_ _ _ _ _ _ _ q=>add_int q
theorem pN:OpR X (binaryOp .Sub) (rI0 λi j=>.int (i-j)):=sr λ_ _ _ _ _ _ _ q=>sub_int q
theorem oJ:OpR X (binaryOp .Mult) (rI CMul λi j=>.int (i * j)):=opI λ_ _ _ _ _ _ _ a q=>mul_int q a.ok
theorem km:OpR X (binaryOp .FloorDiv) (rI hX λi j=>.int (i / j)):=opI λi j _ _ _ _ _ a q=>by
 have c:=a.1;have b:=a.2;exact floordiv_int (by omega) (by rw [Int.fdiv_eq_ediv_of_nonneg i (by omega)];exact q) (.inl (PyProof.noPylong_small (by omega)))
theorem nk:OpR X (binaryOp .Mod) (rI (λ_ j=>0<j) λi j=>.int (i % j)):=opI λi j _ _ _ _ _ a q=>by
 have b:=a;exact mod_int' (by omega) (by rw [Int.fmod_eq_emod_of_nonneg i (by omega)];exact q)
theorem nF:OpR X (binaryOp .Pow) (rI li λi j=>.int (i ^ j.toNat)):=opI λ_ _ _ _ _ _ _ a q=>pow_int_small a.1 a.2.1 a.2.2 q
end
def tP:V->V->Bool
 | .non,.non=>true | .non,.int _=>true | .int _,.non=>true | .non,.bl _=>true | .bl _,.non=>true | .non,.str _=>true | .str _,.non=>true
 | .int _,.int _=>true | .bl _,.bl _=>true | .str _,.str _=>true | .byt _,.byt _=>true
 | .int _,.str _=>true | .str _,.int _=>true | .bl _,.str _=>true | .str _,.bl _=>true
 | _,_=>false
def rEq:R2:=λx y H Q=>tP x y=true/\Q (.bl (decide (x=y))) H
def rNe:R2:=λx y H Q=>tP x y=true/\Q (.bl (!decide (x=y))) H
theorem dh {i j:Int}:decide (V.int i=V.int j)=(i==j):=by grind
theorem gv {i j:Bool}:decide (V.bl i=V.bl j)=(i==j):=by grind
theorem dg {i j:Str}:decide (V.str i=V.str j)=(i==j):=by grind
theorem dC:decide (V.byt i=V.byt j)=(i.toList==j.toList):=by
 rw [Ck];simp_all
section
variable {X:Cx} {a b c:Expr} {ta tb tc:TE} {pos:Pos}
theorem c6 {σ:St} {H:Hp} {s:Shared} {Q:VK} {k a:Bool} (I:Inv X pins σ H s) (q:Q (.bl k) H) (e:k=a):EP X pins σ Q (.bool a) s:=by
 subst e;exact ⟨.bl k,H,I,rfl,q⟩
theorem qS:OpR X (compareOp .Eq) rEq:=by
 intro pins s σ H x y v u Q I rx ry h;obtain ⟨hs,q⟩:=h;cases x with
 | non=>
  cases rx;cases y with
  | non=>cases ry;exact PySem.EqNone.eq_none_none (c6 I q (by simp))
  | bl j=>cases ry;exact PySem.EqNone.eq_none_bool (c6 I q (by simp))
  | int j=>obtain ⟨t',rfl⟩:=ry;exact PySem.EqNone.eq_none_int (c6 I q (by simp))
  | str j=>obtain ⟨t',rfl⟩:=ry;exact PySem.EqNone.eq_none_str (c6 I q (by simp))
  | _=>exact absurd (hs) Am
 | bl i=>
  cases rx;cases y with
  | non=>cases ry;exact PySem.EqNone.eq_bool_none (c6 I q (by simp))
  | bl j=>cases ry;exact eq_bool (c6 I q gv)
  | str j=>obtain ⟨t',rfl⟩:=ry;exact PySem.EqMixed.eq_bool_str (c6 I q (by simp))
  | _=>exact absurd (hs) Am
 | int i=>
  obtain ⟨t,rfl⟩:=rx;cases y with
  | non=>cases ry;exact PySem.EqNone.eq_int_none (c6 I q (by simp))
  | int j=>obtain ⟨t',rfl⟩:=ry;exact eq_int (c6 I q dh)
  | str j=>obtain ⟨t',rfl⟩:=ry;exact PySem.EqMixed.eq_int_str (c6 I q (by simp))
  | _=>exact absurd (hs) Am
 | str i=>
  obtain ⟨t,rfl⟩:=rx;cases y with
  | non=>cases ry;exact PySem.EqNone.eq_str_none (c6 I q (by simp))
  | bl j=>cases ry;exact PySem.EqMixed.eq_str_bool (c6 I q (by simp))
  | int j=>obtain ⟨t',rfl⟩:=ry;exact PySem.EqMixed.eq_str_int (c6 I q (by simp))
  | str j=>obtain ⟨t',rfl⟩:=ry;exact eq_str (c6 I q dg)
  | _=>exact absurd (hs) Am
 | byt i=>
  obtain ⟨t,rfl⟩:=rx;cases y with
  | byt j=>obtain ⟨t',rfl⟩:=ry;exact PySem.W.eq_bytes (c6 I q dC)
  | _=>exact absurd (hs) Am
 | _=>cases y <;> exact absurd (hs) Am
theorem sW:OpR X (compareOp .NotEq) rNe:=by
 intro pins s σ H x y v u Q I rx ry h;obtain ⟨hs,q⟩:=h;cases x with
 | non=>
  cases rx;cases y with
  | non=>cases ry;exact PySem.EqNone.ne_none_none (c6 I q (by simp))
  | bl j=>cases ry;exact PySem.EqNone.ne_none_bool (c6 I q (by simp))
  | int j=>obtain ⟨t',rfl⟩:=ry;exact PySem.EqNone.ne_none_int (c6 I q (by simp))
  | str j=>obtain ⟨t',rfl⟩:=ry;exact PySem.EqNone.ne_none_str (c6 I q (by simp))
  | _=>exact absurd (hs) Am
 | bl i=>
  cases rx;cases y with
  | non=>cases ry;exact PySem.EqNone.ne_bool_none (c6 I q (by simp))
  | bl j=>cases ry;exact ne_bool (c6 I q (congrArg not gv))
  | str j=>obtain ⟨t',rfl⟩:=ry;exact PySem.EqMixed.ne_bool_str (c6 I q (by simp))
  | _=>exact absurd (hs) Am
 | int i=>
  obtain ⟨t,rfl⟩:=rx;cases y with
  | non=>cases ry;exact PySem.EqNone.ne_int_none (c6 I q (by simp))
  | int j=>obtain ⟨t',rfl⟩:=ry;exact ne_int (c6 I q (congrArg not dh))
  | str j=>obtain ⟨t',rfl⟩:=ry;exact PySem.EqMixed.ne_int_str (c6 I q (by simp))
  | _=>exact absurd (hs) Am
 | str i=>
  obtain ⟨t,rfl⟩:=rx;cases y with
  | non=>cases ry;exact PySem.EqNone.ne_str_none (c6 I q (by simp))
  | bl j=>cases ry;exact PySem.EqMixed.ne_str_bool (c6 I q (by simp))
  | int j=>obtain ⟨t',rfl⟩:=ry;exact PySem.EqMixed.ne_str_int (c6 I q (by simp))
  | str j=>obtain ⟨t',rfl⟩:=ry;exact ne_str (c6 I q (congrArg not dg))
  | _=>exact absurd (hs) Am
 | byt i=>
  obtain ⟨t,rfl⟩:=rx;cases y with
  | byt j=>obtain ⟨t',rfl⟩:=ry;exact PySem.W.ne_bytes (c6 I q (congrArg not dC))
  | _=>exact absurd (hs) Am
 | _=>cases y <;> exact absurd (hs) Am
theorem tQ:OpR X (compareOp .Lt) (rI0 λi j=>.bl (decide (i<j))):=kf λ_ _ _ _ _ _ _ q=>lt_int q
theorem rF:OpR X (compareOp .LtE) (rI0 λi j=>.bl (decide (i<=j))):=kf λ_ _ _ _ _ _ _ q=>le_int q
theorem sZ:OpR X (compareOp .Gt) (rI0 λi j=>.bl (decide (j<i))):=kf λ_ _ _ _ _ _ _ q=>gt_int q
theorem su:OpR X (compareOp .GtE) (rI0 λi j=>.bl (decide (j<=i))):=kf λ_ _ _ _ _ _ _ q=>ge_int q
theorem lg (d:OpR X (compareOp op) r) (c:PE X a ta) (g:PE X b tb) (k:behindInMarks op b=false):PE X (.Compare a [op] [b] pos) (tOp r ta tb):=by
 intro pins s σ H Q I h;exact wpAny_Compare1 (nh c g I h λv u j x y l e i f q=>d pins j σ l x y v u Q e i f q) k
def sX (t:TE):TT:=λσ H Q=>t σ H λx H'=>∃ k,x=.bl k/\Q k H'
theorem jv (w:OpR X (compareOp op) r) (t:PE X a ta) (j:PE X b tb) (o:behindInMarks op b=false):PT X (.Compare a [op] [b] pos) (sX (tOp r ta tb)):=by
 intro pins s σ H Q I h;refine wpAny_isTrue_Compare1 (thn (t pins s σ H _ I h) λv f ⟨x,m,g,q,p⟩=>thn (j pins f σ m _ g p) λu C ⟨y,D,A,l,d⟩=>
  thn (w pins C σ D x y v u _ A q l d) λc F ⟨z,B,i,E,k,e,n⟩=>?_) o
 subst e;cases E;exact wpAny_truthy_bool ⟨B,i,n⟩
def iL (K:PySem.W.Frag) (x:V) (H:Hp) (k:Bool):Prop:=
 match x with
 | .non=>k=false
 | .bl b=>k=b
 | .int i=>k=(i != 0)
 | .str y=>y.length<=sizeLine/\k=((y.length:Int) != 0)
 | .byt y=>y.size<=sizeLine/\k=((y.size:Int) != 0)
 | .ref p=>(∃ xs,SqL K H p xs/\k=!xs.isEmpty)\/(∃ xs,SqT K H p xs/\k=!xs.isEmpty)\/∃ a,H p=some (.dK a)/\k=!a.isEmpty
 | _=>False
theorem bx (r:KV kvs vs):(!vs.isEmpty)=!kvs.isEmpty:=by
 cases r <;> rfl
theorem N9 (r:Vals xs its):(!its.toArray.isEmpty)=!xs.isEmpty:=by
 cases r <;> simp
theorem J5:(sizeLine:Nat)<2 ^ 63:=by rw [AD];decide
theorem bo:uS X (λx H Q=>∃ k,iL X.K x H k/\Q k H):=by
 intro pins s σ H x v Q I rx h;obtain ⟨k,e,q⟩:=h;have hl:=J5;have hs:=AD;cases x with
 | non=>
  cases rx;have e':=e;subst e';exact truthy_none ⟨H,I,q⟩
 | bl b=>
  cases rx;have e':=e;subst e';exact wpAny_truthy_bool ⟨H,I,q⟩
 | int i=>
  obtain ⟨t,rfl⟩:=rx;have e':=e;subst e';exact PySem.P.truthy_int ⟨H,I,q⟩
 | str y=>
  obtain ⟨t,rfl⟩:=rx;obtain ⟨hy,e'⟩:=e;subst e';exact PySem.P.truthy_str (by omega) ⟨H,I.tok _,q⟩
 | byt y=>
  obtain ⟨t,rfl⟩:=rx;obtain ⟨hy,e'⟩:=e;subst e';exact PySem.W.truthy_bytes (by omega) ⟨H,I.tok _,q⟩
 | ref p=>
  cases rx;have e':=e;rcases e' with ⟨xs,hx,e'⟩ | ⟨xs,hx,e'⟩ | ⟨kvs,hx,e'⟩
  ·subst e';obtain ⟨its,r,pl,hz⟩:=I.list hx;have hlen:=r.length;exact wpAny_truthy_list pl.isList (by simp;omega) ⟨H,I.tok _,by rw [N9 r];exact q⟩
  ·subst e';obtain ⟨its,r,pl,hz⟩:=I.tuple hx;have hlen:=r.length;exact truthy_tuple pl (by simp;omega) ⟨H,I.tok _,by rw [N9 r];exact q⟩
  ·subst e';obtain ⟨hz,hS,vs,r,m⟩:=I.hok p _ hx;have hlen:=Paired.length r;exact wpAny_truthy_dict hS m (by omega) ⟨H,I.tok _,by rw [bx r];exact q⟩
 | _=>exact (e).elim
theorem iw (c:PE X a ta) (d:∀ b,isTrue a X.env b=(do let v <- b;standAt a.pos;holding [v] (truthy v))) :
  PT X a (λσ H Q=>ta σ H λx H'=>∃ k,iL X.K x H' k/\Q k H'):=by
 intro pins s σ H Q I h;exact isTrue_plain (thn (c pins s σ H _ I h) λv g ⟨x,f,e,j,i⟩=>bo pins g σ f x v Q e j i) (d _)
theorem br:OpR X (binaryOp .Add) (λx y H Q=>∃ i j,x=.str i/\y=.str j/\i.length+j.length<=sizeLine/\Q (.str (i++j)) H):=by
 intro pins s σ H x y v u Q I b a h;obtain ⟨i,j,rfl,rfl,hz,q⟩:=h;obtain ⟨t,rfl⟩:=b;obtain ⟨t',rfl⟩:=a;exact add_str (λt' c=>⟨.str (i++j),H,I.tok _,⟨_,rfl⟩,q⟩) hz
theorem av (r:Vals [x] us):∃ u,us=[u]/\RelV x u:=by
 cases r with
 | cons b a=>cases a;exact ⟨_,rfl,b⟩
theorem mT (r:Vals [x,y] us):∃ u w',us=[u,w']/\RelV x u/\RelV y w':=by
 cases r with
 | cons b a=>
  cases a with
  | cons d c=>cases c;exact ⟨_,_,rfl,b,d⟩
end
theorem ec {h:Heap} {c:Addr} {mA:Str->Option Value} (n:h.Ns1 c mA):∃ od,h.get? c=some od/\∀ name,PySem.W.lookIn name od=some (mA name):=by
 obtain ⟨o,es,k,g,hd,d,_,j⟩:=n;refine ⟨o,g,λname=>?_⟩;have e:=j name;unfold nsFind findBy at e;rw [<- Array.find?_toList] at e;unfold PySem.W.lookIn;rw [hd];dsimp only;split
 ·grind
 ·rename_i q;rw [q] at e;have a:es.toList.any (·.refKey)=false:=by
   rw [List.any_eq_false];intro y f;obtain ⟨z,t,b⟩:=d y (Array.mem_toList_iff.mp f);simp [DictEntry.refKey,b]
  have i:¬ es.toList.any (·.refKey)=true:=by rw [a];exact Am
  rw [if_neg i];exact congrArg some e
def E5 (f:Str) (v:V):List (Str×V)->List (Str×V)
 | []=>[(f,v)]
 | (g,x) :: r=>if g=f then (g,v) :: r else (g,x) :: E5 f v r
theorem M3 (f g:Str) (v:V):∀ fs:List (Str×V),(E5 f v fs).lookup g=if g=f then some v else fs.lookup g
 | []=>by
  show List.lookup g [(f,v)]=_;by_cases h:g=f
  ·have hb:(g==f)=true:=CC.mpr h;simp only [List.lookup,hb,if_pos h]
  ·have hb:(g==f)=false:=Cd.mpr h;simp only [List.lookup,hb,if_neg h]
 | (k,x) :: r=>by
  have ih:=M3 f g v r;rw [show E5 f v ((k,x) :: r)=(if k=f then (k,v) :: r else (k,x) :: E5 f v r) from rfl];by_cases hk:k=f
  ·rw [if_pos hk];by_cases h:g=k
   ·have hb:(g==k)=true:=CC.mpr h;simp only [List.lookup,hb,if_pos (h.trans hk)]
   ·have hb:(g==k)=false:=Cd.mpr h;simp only [List.lookup,hb,if_neg (λe:g=f=>h (e.trans hk.symm))]
  ·rw [if_neg hk];by_cases h:g=k
   ·have hb:(g==k)=true:=CC.mpr h;simp only [List.lookup,hb,if_neg (λe:g=f=>hk (h.symm.trans e))]
   ·have hb:(g==k)=false:=Cd.mpr h;simp only [List.lookup,hb];exact ih
theorem K5 (f:Str) (v:V):∀ fs:List (Str×V),f∈(E5 f v fs).map (·.1)/\∀ g,g∈fs.map (·.1)->g∈(E5 f v fs).map (·.1)
 | []=>⟨by simp [E5],λg h=>by simp at h⟩
 | (k,x) :: r=>by
  obtain ⟨a,c⟩:=K5 f v r;rw [show E5 f v ((k,x) :: r)=(if k=f then (k,v) :: r else (k,x) :: E5 f v r) from rfl];by_cases b:k=f
  ·grind
  ·grind
theorem L5 (f:Str) (v:V):∀ fs:List (Str×V),(E5 f v fs).length<=fs.length+1
 | []=>by simp [E5]
 | (k,x) :: r=>by
  have b:=L5 f v r;rw [show E5 f v ((k,x) :: r)=(if k=f then (k,v) :: r else (k,x) :: E5 f v r) from rfl];by_cases a:k=f
  ·grind
  ·grind
theorem RelO.some_of (r:RelO (some v) o):∃ u,o=some u/\RelV v u:=by
 cases o with
 | none=>exact (r).elim
 | some u=>exact ⟨u,rfl,r⟩
def t0 (K:PySem.W.Frag) (C:Addr) (f:Str):Prop:=PySem.W.findIn K (.ref C) f=some none
structure Room (q:Bool) (k:Nat) (A:Around):Prop where
 hd:q=false->A.handled=none
 dp:A.depth+3 * k+5<recursionLimit
 un:A.units+16 * k+200<cLine
 gd:A.guards=some []
theorem Room.any {k:Nat} {A:Around} (r:Room false k A):Room q k A:=⟨λ_=>r.hd rfl,r.dp,r.un,r.gd⟩
theorem Room.mono {j k:Nat} {A:Around} (r:Room q k A) (h:j<=k):Room q j A:=⟨r.hd,by have:=r.dp;omega,by have:=r.un;omega,r.gd⟩
theorem Room.deeper (r:Room q (k+1) A) (a:Env):Room q k (A.deeper a):=
 ⟨r.hd,by have:=r.dp;show A.depth+1+3 * k+5<_;omega,by have:=r.un;show A.units+3+16 * k+200<_;omega,r.gd⟩
theorem cS {A:Around} {C:Addr} {us:List Value} {a:List (Str×Value)}:(A.under (.builtin "type.__call__" ⟨.ref C :: us,a⟩)).depth=A.depth+1:=by
 first | rfl | simp [Around.under,Code.weight,Code.isCreation,Code.isGuard,Code.isCaller,Code.frames,Code.isFrame,guardIds]
theorem cf {A:Around} {C:Addr} {us:List Value} {a:List (Str×Value)}:(A.under (.builtin "type.__call__" ⟨.ref C :: us,a⟩)).units=A.units+1:=by
 first | rfl | simp [Around.under,Code.cUnits,Code.frames,Code.isFrame]
theorem Room.make (r:Room q (k+1) A) (C:Addr) (us:List Value) (a:List (Str×Value)):Room q k (A.under (.builtin "type.__call__" ⟨.ref C :: us,a⟩)):=
 ⟨r.hd,by have:=r.dp;rw [cS];omega,by have:=r.un;rw [cf];omega,by have:=r.gd;simp [Around.under,Code.guards,Code.isGuard,guardIds,pushGuards,this]⟩
theorem Room.depth (r:Room q k A):A.depth<recursionLimit:=by have:=r.dp;omega
theorem Room.units (r:Room q k A):A.units+64<cLine:=by have:=r.un;omega
def tNil:TA:=λ_ H Q=>Q [] H
def rQ (d:TE) (a:TA):TA:=λσ H Q=>d σ H λx c=>a σ c λxs b=>Q (x :: xs) b
section
variable {X:Cx} {e:Expr} {es:List Expr} {te:TE} {t:TA} {pos:Pos}
theorem cK:PA X [] tNil:=λ_ _ _ _ H Q I h=>Dc ⟨[],H,I,.nil,h⟩
theorem E9 (a:PE X e te) (g:PA X es t) (hs:starEach (e :: es) X.env=(false,eval e X.env) :: starEach es X.env:=by rfl):PA X (e :: es) (rQ te t):=by
 intro pos pins s σ H Q I h;rw [hs];refine CU (thn (a pins s σ H _ I h) λu j ⟨x,f,d,m,l⟩=>?_);exact thn (g pos pins j σ f _ d l) λus n ⟨xs,k,c,b,i⟩=>⟨x :: xs,k,c,.cons m b,i⟩
def uC (t:TA):TE:=λσ H Q=>t σ H λxs a=>xs.length<=sizeLine/\∀ p,a p=none->Q (.ref p) (upd a p (.tup xs))
def tw (t:TA):TE:=λσ H Q=>t σ H λxs a=>xs.length<=sizeLine/\∀ p,a p=none->Q (.ref p) (upd a p (.lst xs))
theorem pr {x1} (h:PA X es t):PE X (.Tuple es x1 pos) (uC t):=by
 intro pins s σ H Q I f;refine wpAny_Tuple_spliced (thn (h pos pins s σ H _ I f) λus c ⟨xs,g,a,r,z,q⟩=>⟨by rw [<- r.length];exact z,?_⟩);have d:=a.hok.fresh (Ao _);refine ⟨.ref c.heap.objs.size,upd g c.heap.objs.size (.tup xs),a.laid (λb u e=>Ah _ e) (Ao _) ?_,rfl,q _ d⟩;exact ⟨z,us,r,⟨_,Ax _ rfl,rfl,_,rfl,rfl⟩⟩
theorem iZ (h:PA X es t):PE X (.List es pos) (tw t):=by
 intro pins s σ H Q I f;refine wpAny_List_spliced (thn (h pos pins s σ H _ I f) λus c ⟨xs,g,a,r,z,q⟩=>⟨by rw [<- r.length];exact z,?_⟩);have d:=a.hok.fresh (Ao _);refine ⟨.ref c.heap.objs.size,upd g c.heap.objs.size (.lst xs),a.laid (λb u e=>Ah _ e) (Ao _) ?_,rfl,q _ d⟩;exact ⟨z,us,0,r,Ax _ rfl⟩
end
abbrev Sp:=List V->Hp->VK->XK->Prop
structure CXT where
 cx:List Env->Hp->Shared->XK->Value->Shared->Prop
 q:Bool
instance:CoeFun CXT λ_=>List Env->Hp->Shared->XK->Value->Shared->Prop:=⟨CXT.cx⟩
structure Env0 (P:Program) (w:World) (K:PySem.W.Frag) (mg:Str->Option Value) (base:Heap) (A:Around) (outer:List Env) (s:Shared) (H:Hp):Prop where
 frames:A.frames=some outer
 mod:Mod K mg base
 bs:∀ b o,base.get? b=some o->s.heap.get? b=some o/\H b=none
 bsz:base.objs.size<=s.heap.objs.size
 funs:s.heap.FunFrames base outer
 frf:∀ b∈frs outer,H b=none
 hok:HOk P w H s.heap
 bare:AllBare s.gens
def CE (a:List Env) (P:Program) (w:World) (H:Hp) (s:Shared) (Q:VK) (u:Value) (s':Shared):Prop:=
 ∃ v H',s'.os=s.os/\AllBare s'.gens/\Un (frs a) [] H H' s.heap s'.heap/\HOk P w H' s'.heap/\RelV v u/\Q v H'
def CR (CX:CXT) (a:List Env) (P:Program) (w:World) (H:Hp) (s:Shared) (Q:VK) (E:XK) (r:Result) (s':Shared):Prop:=
 match r with
 | .ok (.ret u)=>CE a P w H s Q u s'
 | .ok _=>False
 | .error e=>CX a H s E e s'
structure FnOk (P:Program) (w:World) (K:PySem.W.Frag) (mg:Str->Option Value) (base:Heap) (CX:CXT) (k:Nat) (f:Addr) (fd:FuncData) (ps:List Str) (sp:Sp):Prop where
 len:∀ vs H Q E,sp vs H Q E->vs.length=ps.length
 run:∀ (A:Around) (outer:List Env) (s:Shared) (H:Hp) (args:Args) (us:List Value) (vs:List V) (Q:VK) (E:XK),Room CX.q k A->Env0 P w K mg base A outer s H->BindsTo s fd args (ps.zip us)->Vals vs us->sp vs H Q E ->
  codeAny (model P w) A (.call (.ref f) args) (CR CX outer P w H s Q E) s
theorem FnOk.mono {K:PySem.W.Frag} {d:Str->Option Value} {a:Heap} {CX:CXT} {j k:Nat} {f:Addr} {fd:FuncData} {ps:List Str} {sp:Sp} (F:FnOk P w K d a CX j f fd ps sp) (h:j<=k) :
  FnOk P w K d a CX k f fd ps sp:=⟨F.len,λA b s H c us vs Q E e=>F.run A b s H c us vs Q E (e.mono h)⟩
theorem FnOk.imp {K:PySem.W.Frag} {d:Str->Option Value} {a:Heap} {CX:CXT} {k:Nat} {f:Addr} {fd:FuncData} {ps:List Str} {sp sp':Sp} (F:FnOk P w K d a CX k f fd ps sp)
  (h:∀ vs H Q E,sp' vs H Q E->sp vs H Q E):FnOk P w K d a CX k f fd ps sp':=
 ⟨λvs H Q E q=>F.len vs H Q E (h _ _ _ _ q),λA b s H c us vs Q E g e i j hs=>F.run A b s H c us vs Q E g e i j (h _ _ _ _ hs)⟩
theorem Env0.make {K:PySem.W.Frag} {c:Str->Option Value} {b:Heap} {A:Around} {a:List Env} {s:Shared} {H:Hp} (e:Env0 P w K c b A a s H) (C:Addr) (us:List Value) (d:List (Str×Value)) :
  Env0 P w K c b (A.under (.builtin "type.__call__" ⟨.ref C :: us,d⟩)) a s H:=⟨by first | exact e.frames | (simpa [Around.under,Code.envs,Code.isFrame,pushEnvs] using e.frames),e.mod,e.bs,e.bsz,e.funs,e.frf,e.hok,e.bare⟩
section
variable {X:Cx} {pins:List (Addr×Obj)} {σ:St} {H:Hp} {s s':Shared}
theorem Inv.env0 (I:Inv X pins σ H s):Env0 X.prog X.w X.K X.mg X.base X.A X.stack s H:=
 ⟨I.ok.frames,I.ok.mod,I.bs,AQ I.ok.bsz I.sz,I.stack,I.stkFree,I.hok,I.bare⟩
theorem Inv.after (I:Inv X pins σ H s) (h:CE X.stack X.prog X.w H s Q u s'):EP X pins σ Q u s':=by
 obtain ⟨v,H',f,a,i,e,r,q⟩:=h;obtain ⟨j,g,d,t,c⟩:=s';obtain rfl:c=s.os:=f;exact ⟨v,H',I.call i e a (λb z=>absurd z (by simp)),r,q⟩
end
def iz (sp:Sp) (a:List V) (E:XK) (t:TA):TE:=λσ H Q=>t σ H λvs b=>sp (vs++a) b Q E
def Binds (K:PySem.W.Frag) (fd:FuncData) (ps:List Str) (ds:List Value):Prop:=
 ∀ (s:Shared) (us:List Value),K.In s.heap->(us++ds).length=ps.length->BindsTo s fd ⟨us,[]⟩ (ps.zip (us++ds))
theorem Binds.all {K:PySem.W.Frag} {fd:FuncData} {ps:List Str} (h:∀ us:List Value,us.length=ps.length->bindArgs fd ⟨us,[]⟩=pure (ps.zip us)):Binds K fd ps []:=λs us _ a=>by
 rw [AI] at a ⊢;exact .of_eq (h us a)
def u9 (CX:CXT) (X:Cx) (E:XK):Prop:=∀ (pins:List (Addr×Obj)) (σ:St) (H:Hp) (s:Shared) (e:Value) (s':Shared),Inv X pins σ H s->CX X.stack H s E e s'->X.xe e s'
section
variable {X:Cx} {CX:CXT} {k:Nat} {f C:Addr} {fd:FuncData} {ps:List Str} {sp:Sp} {dvs:List V} {ds:List Value} {E:XK} {x m:Str} {p pos apos:Pos} {e o:Expr} {es:List Expr} {ta:TE} {t:TA}
theorem bY {σ:St} {H:Hp} {s:Shared} {Q:VK} {us:List Value} {vs:List V} (F:FnOk X.prog X.w X.K X.mg X.base CX k f fd ps sp) (hr:Room CX.q k X.A) (hb:Binds X.K fd ps ds) (hd:Vals dvs ds) (hx:u9 CX X E)
  (I:Inv X pins σ H s) (r:Vals vs us) (h:sp (vs++dvs) H Q E):wpAny (model X.prog X.w) X.A (call (.ref f) us) (EP X pins σ Q) X.xe s:=by
 have r2:=r.append hd;have hl:(us++ds).length=ps.length:=by rw [<- r2.length];exact F.len _ _ _ _ h
 refine Du (BV (F.run X.A X.stack s H ⟨us,[]⟩ (us++ds) (vs++dvs) Q E hr I.env0 (hb s us I.kIn hl) r2 h) λr s' hq=>?_);cases r with
 | error e=>exact hx pins σ H s e s' I hq
 | ok fl=>
  cases fl with
  | ret u=>exact I.after hq
  | next=>exact False.elim hq
  | brk=>exact False.elim hq
  | cont=>exact False.elim hq
theorem lL (F:FnOk X.prog X.w X.K X.mg X.base CX k f fd ps sp) (l:Room CX.q k X.A) (m:Gl X x) (o:X.mg x=some (.ref f)) (d:PySem.W.keepIn X.K (.ref f)=true) (n:Binds X.K fd ps ds) (hd:Vals dvs ds) (g:u9 CX X E)
  (i:PA X (e :: es) t) (a:(x==("__debug__" : Str))=false:=by decide) (j:starEach (e :: es) X.env=(false,eval e X.env) :: starEach es X.env:=by rfl) (b:(backTo pos (starEach es X.env)).any (·.1)=false:=by rfl) :
  PE X (.Call (.Name x p) (e :: es) [] pos) (iz sp dvs E t):=by
 intro pins s σ H Q I h;refine Bp (G4 I m o ?_ a);refine CV I.ok.mod.kin d (thn (i pos pins s σ H _ I h) λus v ⟨vs,u,c,r,q⟩=>⟨c.kIn,?_⟩) j b;exact bY F l n hd g c r q
theorem jp (F:FnOk X.prog X.w X.K X.mg X.base CX k f fd ps sp) (d:Room CX.q k X.A) (e:Gl X x) (i:X.mg x=some (.ref f)) (b:PySem.W.keepIn X.K (.ref f)=true) (g:Binds X.K fd ps ds) (hd:Vals dvs ds) (c:u9 CX X E)
  (a:(x==("__debug__" : Str))=false:=by decide):PE X (.Call (.Name x p) [] [] pos) (iz sp dvs E tNil):=by
 intro pins s σ H Q I h;refine Bp (G4 I e i ?_ a);exact PySem.W.callWith_K0 I.kIn b (bY F d g hd c I .nil h)
end
structure FnScope (N P:List Str) (sc:Scope):Prop where
 kind:sc.kind=.function
 co:sc.isCoroutine=false
 gen:sc.isGenerator=false
 nd:N.Nodup
 pre:N.take P.length=P
 par:∀ x∈P,sc.names.lookup x=some .local\/sc.names.lookup x=some .cell
 nofree:∀ y∈sc.names,y.2≠.free
theorem U9 {b:Str->Option NameKind} {x:Str}:∀ {a:List (Str×Value)} {m:Str->Option Value},(∀ v,(x,v)∉a)->bindL b a m x=m x
 | [],_,_=>rfl
 | (n,v) :: r,m,h=>by
  unfold bindL;rw [U9 λw c=>h w (Ar _ c)];split
  ·have:x≠n:=by rintro rfl;exact h v Aq
   simp [this]
  ·rfl
theorem W4 {b:Str->Option NameKind} {x:Str}:∀ {a:List (Str×Value)} {m:Str->Option Value},(∀ v,(x,v)∉a)->bindC b a m x=m x
 | [],_,_=>rfl
 | (n,v) :: r,m,h=>by
  unfold bindC;rw [W4 λw c=>h w (Ar _ c)];split
  ·rfl
  ·have:x≠n:=by rintro rfl;exact h v Aq
   simp [this]
theorem X7 {a:Str->Option NameKind} {x:Str} {v:Value}:∀ {P:List Str} {vs:List Value} {i:Nat} {m:Str->Option Value},P.Nodup->P[i]?=some x->vs[i]?=some v->a x=some .local ->
  bindL a (P.zip vs) m x=some v
 | [],_,_,_,_,h,_,_=>by simp at h
 | _ :: _,[],_,_,_,_,h,_=>by simp at h
 | p :: P,w :: vs,0,m,d,b,c,e=>by
  simp at b c;subst b;subst c;show bindL a ((p,w) :: P.zip vs) m p=_;unfold bindL;rw [U9 λv f=>(Bd.mp d).1 (Dw f).1,if_pos e];simp
 | p :: P,w :: vs,i+1,m,d,b,c,e=>by
  unfold bindL;exact X7 (Bd.mp d).2 (by simpa using b) (by simpa using c) e
theorem V1 {a:Str->Option NameKind} {x:Str} {v:Value}:∀ {P:List Str} {vs:List Value} {i:Nat} {m:Str->Option Value},P.Nodup->P[i]?=some x->vs[i]?=some v->a x≠some .local ->
  bindC a (P.zip vs) m x=some v
 | [],_,_,_,_,h,_,_=>by simp at h
 | _ :: _,[],_,_,_,_,h,_=>by simp at h
 | p :: P,w :: vs,0,m,d,b,c,e=>by
  simp at b c;subst b;subst c;show bindC a ((p,w) :: P.zip vs) m p=_;unfold bindC;rw [W4 λv f=>(Bd.mp d).1 (Dw f).1,if_neg e];simp
 | p :: P,w :: vs,i+1,m,d,b,c,e=>by
  unfold bindC;exact V1 (Bd.mp d).2 (by simpa using b) (by simpa using c) e
def start (N:List Str) (vs:List V):St:=vs.map some++List.replicate (N.length-vs.length) none
def U6 (CX:CXT) (P:Program) (w:World) (K:PySem.W.Frag) (mg:Str->Option Value) (base:Heap) (N:List Str) (qual:Str) (scope:Scope) (f:Addr) (cd:Value) (A:Around) (outer:List Env) (s:Shared) (H:Hp) (E:XK):Cx where
 prog:=P
 w:=w
 K:=K
 mg:=mg
 base:=base
 A:=A.deeper (envOfC qual scope s.heap.objs.size f cd)
 N:=N
 s₀:=s
 H₀:=H
 env:=envOfC qual scope s.heap.objs.size f cd
 outer:=outer
 stack:=envOfC qual scope s.heap.objs.size f cd :: outer
 ex:=[]
 calm:=!CX.q
 fn:=λ_=>true
 pn:=[]
 xe:=λe s'=>wpAny (model P w) (A.deeper (envOfC qual scope s.heap.objs.size f cd)) (leaving (envOfC qual scope s.heap.objs.size f cd) e) (λ_ s''=>CX outer H s E e s'') (λe' s''=>CX outer H s E e' s'') s'
theorem ai {a:Scope} {n:Nat} {x:Str} (h:a.names.lookup x=some .cell):∃ c,(cellsFrom n a.names []).lookup x=some c:=by
 have q:=PySem.W.cellsFrom_some a.names n [] (.inl h);exact AY.mp q
theorem eu {CX:CXT} {P:Program} {w:World} {K:PySem.W.Frag} {mg:Str->Option Value} {base:Heap} {N ps:List Str} {qual:Str} {scope:Scope} {f:Addr} {cd:Value} {A:Around} {outer:List Env} {s s1:Shared} {H:Hp} {E:XK} {us:List Value} {vs:List V}
  (S:FnScope N ps scope) (hd:CX.q=false->A.handled=none) (e0:Env0 P w K mg base A outer s H) (hl:vs.length=ps.length) (r:Vals vs us)
  (x:InCallC s s.heap.objs.size (bindL (envOfC qual scope s.heap.objs.size f cd).kindOf (ps.zip us) λ_=>none) (cellsFrom (s.heap.objs.size+1) scope.names []) (bindC (envOfC qual scope s.heap.objs.size f cd).kindOf (ps.zip us) λ_=>none) s1) :
  Inv (U6 CX P w K mg base N qual scope f cd A outer s H E) [] (start N vs) H s1:=by
 have hpl:ps.length<=N.length:=by have:=congrArg List.length S.pre;rw [Dk] at this;omega
 obtain ⟨h1,tk,rfl,hk⟩:=x.done;have noA:∀ b:Addr,b∉(U6 CX P w K mg base N qual scope f cd A outer s H E).ex:=λb z=>absurd (show b∈([]:List Addr) from z) (by simp);refine ⟨⟨e0.mod,S.kind,rfl,rfl,Ao _,λy z c h1 h2=>?_,λy hy=>?_,λy c _ h=>?_,λz=>hd (by have z:(!CX.q)=true:=z;simpa using z),Around.frames_deeper e0.frames,.inr ⟨rfl,rfl⟩,λb z=>absurd z (noA b),e0.bs,e0.bsz,λb _ _=>noA b,λb z=>absurd z (noA b),e0.funs,e0.frf⟩,
  rfl,e0.bare,Un.kept hk,⟨_,x.toInCall.ns,λi y v h1 h2 h3=>?_⟩,λy c h=>⟨_,x.cell y c h⟩,e0.hok.fresh (Ao _),λy c h=>?_,λp hp=>absurd (show p∈([]:List (Addr×Obj)) from hp) (by simp),e0.hok.kept hk,?_⟩
 ·exact name_of_addr x.apart (Bz h1) (Bz h2)
 ·have hy:scope.names.lookup y=some .cell\/scope.names.lookup y=some .free:=hy;rcases hy with hy | hy
  ·exact ai hy
  ·exact absurd rfl (S.nofree _ (Bz hy))
 ·exact Dt (x.above y c (Bz h))
 ·have hi:i<vs.length:=by
   unfold start at h2;by_cases hi:i<vs.length
   ·exact hi
   ·rw [AA (by simpa using hi)] at h2;rw [Ba] at h2;split at h2 <;> cases h2
  have ha:vs[i]?=some v:=by
   unfold start at h2;rw [Al (by simpa using hi),AM] at h2;cases e:vs[i]? with
   | none=>rw [e] at h2;cases h2
   | some a=>rw [e] at h2;cases h2;rfl
  obtain ⟨u,hu,rv⟩:=r.get ha;have hp:ps[i]?=some y:=by
   rw [<- S.pre,List.getElem?_take_of_lt (by omega)];exact h1
  have ndP:ps.Nodup:=by rw [<- S.pre];exact S.nd.sublist (List.take_sublist _ _)
  refine ⟨u,rv,?_⟩;rcases S.par y (AL hp) with k | k
  ·exact .inl ⟨k,X7 ndP hp hu k⟩
  ·obtain ⟨c,e⟩:=ai (n:=s.heap.objs.size+1) k;refine .inr ⟨.inl k,c,e,?_⟩;have q:=x.cell y c e;rw [V1 ndP hp hu (by show scope.names.lookup y≠_;rw [k];decide)] at q;exact q
 ·exact e0.hok.fresh (Dt (x.above y c (Bz h)))
 ·unfold start;show _=N.length;rw [AV,An,BM];omega
theorem mP {K:PySem.W.Frag} {mg:Str->Option Value} {base:Heap} {k:Nat} {f:Addr} {name qual:Str} {params:Arguments} {body:List Stmt} {scope:Scope} {dV kV doc pm cdv ct oc:Value} {an od:Option Addr}
  {osl:Array (Option Value)} {N ps:List Str} {sp:Sp} (lk:K.lookup f=some ⟨oc,od,.func (PySem.W.fnOf name qual params body scope dV kV doc pm an cdv ct),osl⟩) (hcd:PySem.W.codeIn K cdv qual=true) (S:FnScope N ps scope)
  (len:∀ vs H Q E,sp vs H Q E->vs.length=ps.length)
  (hbody:∀ (A:Around) (outer:List Env) (s:Shared) (H:Hp) (vs:List V) (Q:VK) (E:XK),Room CX.q k (A.deeper (envOfC qual scope s.heap.objs.size f cdv))->sp vs H Q E ->
   ∃ t,PSs (U6 CX P w K mg base N qual scope f cdv A outer s H E) body t/\t { nx:=λ_ H'=>Q .non H',rt:=Q } (start N vs) H) :
  FnOk P w K mg base CX (k+1) f (PySem.W.fnOf name qual params body scope dV kV doc pm an cdv ct) ps sp:=by
 refine ⟨len,λA outer s H args us vs Q E hr e0 hb r hsp=>?_⟩;have hl:=len _ _ _ _ hsp;have KX:=e0.mod.kin.keeps λb o e=>(e0.bs b o e).1;have lim:=e0.mod.nolimit.keeps λb o e=>(e0.bs b o e).1;have hkind:∀ y∈ps.zip us,scope.names.lookup y.1=some .local\/(scope.names.lookup y.1=some .cell/\((cellsFrom (s.heap.objs.size+1) scope.names []).lookup y.1).isSome=true):=λ⟨n,v⟩ hy=>by
  rcases S.par n (Dw hy).1 with q | q
  ·exact .inl q
  ·exact .inr ⟨q,PySem.W.cellsFrom_some _ _ _ (.inl q)⟩
 refine codeAny_call_function hr.depth (KX _ _ lk) rfl S.co S.gen rfl (PySem.W.codeRec_of KX hcd) (hb _ _ _ _ ?_);refine wpAny_newFunctionEnv_cells S.kind hkind λenv he s1 x=>?_;subst he;refine ⟨lim.keeps x.toInCall.keep,codeAny_func ?_⟩;obtain ⟨t,ht,hq⟩:=hbody A outer s H vs Q E (hr.deeper _) hsp;have I:Inv (U6 CX P w K mg base N qual scope f cdv A outer s H E) [] (start N vs) H s1:=eu S hr.hd e0 hl r x;refine AK (ht [] s1 (start N vs) H _ I hq) (λfl s' hs=>?_) λe s' hs=>hs;have fin:∀ {σ':St} {H':Hp} {v:V} {u:Value},Inv (U6 CX P w K mg base N qual scope f cdv A outer s H E) [] σ' H' s'->RelV v u->Q v H'->CE outer P w H s Q u s':=
  λ{σ' H' v u} J rv q=>⟨v,H',J.os,J.bare,J.base,J.hok,rv,q⟩
 cases fl with
 | ret u=>
  obtain ⟨v,σ',H',J,rv,q⟩:=hs;exact fin J rv q
 | next=>
  obtain ⟨σ',H',J,q⟩:=hs;exact fin (v:=V.non) J rfl q
 | brk=>
  obtain ⟨_,_,_,q⟩:=hs;exact False.elim q
 | cont=>
  obtain ⟨_,_,_,q⟩:=hs;exact False.elim q
section
variable {X:Cx} {x:Str} {p pos:Pos} {e:Expr} {es:List Expr} {t:TA} {id T:String} {r:List V->Hp->VK->Prop}
def tCB (r:List V->Hp->VK->Prop) (t:TA):TE:=λσ H Q=>t σ H λvs a=>r vs a Q
theorem iI (n:A4 X (.builtin id) r) (l:Gl X x) (m:X.mg x=none) (c:bootBuiltins x=some (.builtin id)) (d:PA X (e :: es) t) (f:x ≠ "__name__":=by decide) (a:(x==("__debug__" : Str))=false:=by decide)
  (g:starEach (e :: es) X.env=(false,eval e X.env) :: starEach es X.env:=by rfl) (b:(backTo pos (starEach es X.env)).any (·.1)=false:=by rfl):PE X (.Call (.Name x p) (e :: es) [] pos) (tCB r t):=by
 intro pins s σ H Q I h;refine Bp (K0 I l m c ?_ f a);exact CD (thn (d pos pins s σ H _ I h) λus i ⟨vs,k,j,q,o⟩=>n pins i σ k vs us Q j q o) g b
end
end L2
namespace HT
open PySem PyProof.Rows
section
variable {prog:Program} {w:World} {A:Around} {E:Value->Shared->Prop} {s:Shared}
theorem cat_tup (q:IsTup s.heap t vs.toArray) (v:IsTup s.heap b ws.toArray) (p:vs≠[])
  (r:ws=[]->Q (.ref t) s) (u:ws≠[]->Q (.ref s.heap.objs.size) { s with heap:=s.heap.push { cls:=.type "tuple",data:=.seq (vs++ws).toArray } })
  (hsz:vs.length+ws.length<=sizeLine):wpAny (model prog w) A (binaryOp .Add (.ref t) (.ref b)) Q E s:=by
 obtain ⟨⟨cls,k,data,o⟩,f,x,n,hd⟩:=id q;obtain ⟨⟨m,d,i,c⟩,a,h,l,j⟩:=id v;subst x hd h j;have e:vs.toArray++ws.toArray=(vs++ws).toArray:=by simp
 by_cases g:ws=[]
 ·exact concat_meets ⟨_,f,rfl⟩ ⟨_,a,rfl⟩ Dl DC Cs Cq (Cj _ _)
   (tuple_addW1 t b vs.toArray ws.toArray n l k d o c (by simpa using p) (by simp [g])) ⟨f,a,r g⟩
 ·refine concat_meets ⟨_,f,rfl⟩ ⟨_,a,rfl⟩ Dl DC Cs Cq (Cj _ _)
   (tuple_addW2 t b vs.toArray ws.toArray n l k d o c (by simpa using p) (by simpa using g) (by rw [As,As];exact hsz)) ⟨f,a,?_⟩
  rw [e];exact u g
def sIx (n d:Nat):Option Int->Nat
 | none=>d
 | some v=>if v<0 then (v+(n:Int)).toNat else min v.toNat n
theorem sIx_none (n d:Nat):sIx n d none=d:=rfl
theorem pf (n d:Nat) (hd:d<=n) (o:Option Int):sIx n d o<=n:=by
 cases o with
 | none=>exact hd
 | some v=>
  show (if v<0 then (v+(n:Int)).toNat else min v.toNat n)<=n;by_cases a:v<0
  ·rw [if_pos a];omega
  ·grind
theorem dw (v:Int) (n d:Nat):(if v<0 then max (v+(n:Int)) 0 else min v (n:Int))=((sIx n d (some v):Nat):Int):=by
 show (if v<0 then max (v+(n:Int)) 0 else min v (n:Int))=(((if v<0 then (v+(n:Int)).toNat else min v.toNat n):Nat):Int);grind
theorem cP (lo hi:Option Int) (n:Nat):Builtin.Slice.sliceAdjust lo hi 1 (n:Int)=(((sIx n 0 lo:Nat):Int),((sIx n n hi:Nat):Int)):=by
 have h1:¬ ((1:Int)<0):=by omega
 refine Prod.ext ?_ ?_
 ·cases lo with
  | none=>rfl
  | some v=>exact dw v n 0
 ·cases hi with
  | none=>rfl
  | some v=>exact dw v n n
theorem cm (i j:Nat):Builtin.Slice.slicePlaces (i:Int) (j:Int) 1=j-i:=by
 unfold Builtin.Slice.slicePlaces;grind
theorem R4 (p:IsPart v o) (h:Q o s):wpAny (model prog w) A (Builtin.Slice.slicePartIndex v) Q E s:=by
 cases p with
 | none=>exact slicePart_none h
 | int i t=>exact slicePart_int h
theorem sliceApplied_gen {lo hi:Option Int} {n:Nat} {Q:Int×Int×Nat->Shared->Prop} (hs:s.heap.IsSliceOf sl vl vu .none) (pl:IsPart vl lo) (pu:IsPart vu hi)
  (h:Q (((sIx n 0 lo:Nat):Int),1,sIx n n hi-sIx n 0 lo) s):wpAny (model prog w) A (Builtin.Slice.sliceApplied (.ref sl) (pure (n:Int))) Q E s:=by
 obtain ⟨os,hos,hcs,hds⟩:=id hs;refine Ag (Ag (Bj hos hds rfl (Ag (Bj hos hds rfl (Ag (Bj hos hds rfl (Aj ?_)))))));refine Ag (slicePart_none ?_);rw [if_neg (by decide)];refine Ag (R4 pl (Ag (R4 pu (Ag (Aj ?_)))));show wpAny _ _ (match Builtin.Slice.sliceAdjust lo hi 1 (n:Int) with | (lo,hi)=>pure (lo,(1:Int),Builtin.Slice.slicePlaces lo hi 1)) _ _ s;rw [cP lo hi n];show wpAny _ _ (pure (((sIx n 0 lo:Nat):Int),(1:Int),Builtin.Slice.slicePlaces ((sIx n 0 lo:Nat):Int) ((sIx n n hi:Nat):Int) 1)) _ _ s;rw [cm];exact Aj h
theorem jM (xs:Array Value) (i k:Nat):((List.range k).filterMap λ(m:Nat)=>xs[((i:Int)+(m:Int) * 1).toNat]?).toArray=((xs.toList.drop i).take k).toArray:=by
 have e:(λ(m:Nat)=>xs[((i:Int)+(m:Int) * 1).toNat]?)=λm=>xs[i+m]?:=by
  funext m;have:((i:Int)+(m:Int) * 1).toNat=i+m:=by omega
  rw [this]
 rw [e];have:=pick_run xs i k;rw [List.filterMap_map] at this;have e2:((λx=>xs[x]?) ∘ λx=>i+x)=λm=>xs[i+m]?:=rfl;grind
theorem getItem_tuple_cut {items:Array Value} {i j:Value} {lo b:Option Int} {Q:Value->Shared->Prop} (c:IsTup s.heap t items) (hs:s.heap.IsSliceOf sl i j .none) (pl:IsPart i lo) (k:IsPart j b)
  (m:¬ (sIx items.size 0 lo=0/\sIx items.size items.size b=items.size))
  (h:Q (.ref s.heap.objs.size) { s with heap:=s.heap.push { cls:=.type "tuple",data:=.seq ((items.toList.drop (sIx items.size 0 lo)).take (sIx items.size items.size b-sIx items.size 0 lo)).toArray } })
  (hsz:items.size<=sizeLine):wpAny (model prog w) A (getItem (.ref t) (.ref sl)) Q E s:=by
 have a:sizeOk (.seq ((items.toList.drop (sIx items.size 0 lo)).take (sIx items.size items.size b-sIx items.size 0 lo)).toArray):=by
  show ((items.toList.drop (sIx items.size 0 lo)).take (sIx items.size items.size b-sIx items.size 0 lo)).toArray.size<=sizeLine;rw [As,Dk,List.length_drop,Array.length_toList];omega
 have n:sIx items.size items.size b<=items.size:=pf _ _ (Ao _) b;obtain ⟨l,d,e,hds⟩:=id hs;have g:s.TypeIs (.ref sl) "slice":=⟨l,d,e⟩;unfold getItem;try with_reducible refine BK ?_
 first | refine Ag (Aj ?_) | skip
 refine Ag (wpAny_sequenceKey c.typeIs (by decide) ?_);refine Ag (BB c.typeIs Bf
  (CF Bf c.typeIs entry_tuple_getitem ?_ (args_tuple_getitem _ _)))
 show wpAny _ _ (Builtin.Tuple.tupleItemsOf (.ref t) >>= _) _ _ s;refine Ag (tupleItemsOf_ c ?_);refine Ag (wpAny_typeOf g ?_);rw [if_pos (by decide)];refine Ag (sliceApplied_gen hs pl k ?_);have f:¬ ((((sIx items.size 0 lo:Nat):Int)==0&&(1:Int)==1&&(sIx items.size items.size b-sIx items.size 0 lo)==items.size)=true):=by
  intro q;rw [Ak,Ak] at q;have p:=eq_of_beq q.1.1;have o:=eq_of_beq q.2;exact m ⟨by omega,by omega⟩
 show wpAny _ _ (if (((sIx items.size 0 lo:Nat):Int)==0&&(1:Int)==1&&(sIx items.size items.size b-sIx items.size 0 lo)==items.size)=true then _ else _) _ _ s;rw [if_neg f,jM];first
  | exact Ag (AS (Aj ⟨_,rfl,Aj h⟩) a)
  | exact Ag (AS (Ag (Aj (Aj ⟨_,rfl,Aj h⟩))) a)
  | exact Ag (Ag (AS (Aj (Aj ⟨_,rfl,Aj h⟩)) a))
  | exact Ag (Ag (AS (Aj ⟨_,rfl,Aj h⟩) a))
end
end HT
namespace L2
open PySem PySem.Spec PyProof.Rows
abbrev TO:=St->Hp->(Option Int->Hp->Prop)->Prop
def PO (X:Cx) (e:Option Expr) (t:TO):Prop:=
 ∀ (pins:List (Addr×Obj)) (s:Shared) (σ:St) (H:Hp) (Q:Option Int->Hp->Prop),Inv X pins σ H s->t σ H Q ->
  wpAny (model X.prog X.w) X.A (evalPart e X.env) (λu s'=>∃ o H',Inv X pins σ H' s'/\IsPart u o/\Q o H') X.xe s
def tNoPart:TO:=λ_ H Q=>Q none H
def sJ (t:TE):TO:=λσ H Q=>t σ H λx a=>∃ i,x=.int i/\Q (some i) a
section
variable {X:Cx} {e:Expr} {te:TE} {lo hi:Option Expr} {tl th:TO} {pos p2:Pos}
theorem kN:PO X none tNoPart:=by
 intro pins s σ H Q I h;rw [evalPart_none];exact Aj ⟨none,H,I,.none,h⟩
theorem kE (h:PE X e te):PO X (some e) (sJ te):=by
 intro pins s σ H Q I f;rw [evalPart_some];refine thn (h pins s σ H _ I f) λu g ⟨x,b,a,d,c⟩=>?_;obtain ⟨i,rfl,q⟩:=c;obtain ⟨t,rfl⟩:=d;exact ⟨some i,b,a,.int i t,q⟩
def SlR (X:Cx) (r:V->Option Int->Option Int->Hp->VK->Prop):Prop:=
 ∀ (pins:List (Addr×Obj)) (s:Shared) (σ:St) (H:Hp) (x:V) (v c b:Value) (lo a:Option Int) (d:Addr) (Q:VK),Inv X pins σ H s->RelV x v->s.heap.IsSliceOf d c b .none->IsPart c lo->IsPart b a->r x lo a H Q ->
  ∃ T id,typeLookup (.type T) "__getitem__" = pure (some (.builtin id))/\s.TypeIs v T/\wpAny (model X.prog X.w) X.A (getItem v (.ref d)) (EP X pins σ Q) X.xe s
def tSl (r:V->Option Int->Option Int->Hp->VK->Prop) (te:TE) (a d:TO):TE:=λσ H Q=>te σ H λx c=>a σ c λl e=>d σ e λu b=>r x l u b Q
theorem io (j:SlR X r) (o:PE X e te) (g:PO X lo tl) (J:PO X hi th):PE X (.Subscript e (.Slice lo hi none p2) pos) (tSl r te tl th):=by
 intro pins s σ H Q I h;refine Subscript_ (thn (o pins s σ H _ I h) λv m ⟨x,y,t,C,B⟩=>?_);refine wpAny_Slice (thn (g pins m σ y _ t B) λc F ⟨l,G,D,pl,i⟩=>thn (J pins F σ G _ D i) λd a ⟨u,f,w,n,z⟩=>?_);rw [evalPart_none];refine Aj ?_;have k:Inv X pins σ f { a with heap:=a.heap.push { cls:=.type "slice",data:=.fields #[c,d,.none] } }:=w.kept λb ob q=>Ah _ q;obtain ⟨T,id,A,p,E⟩:=j pins { a with heap:=a.heap.push { cls:=.type "slice",data:=.fields #[c,d,.none] } } σ f x v c d l u a.heap.objs.size Q k C (Heap.IsSliceOf.new ..) pl n z;exact tail_any p A E (by with_unfolding_all rfl)
def fG (xs:List V) (lo a:Option Int):List V:=(xs.drop (HT.sIx xs.length 0 lo)).take (HT.sIx xs.length xs.length a-HT.sIx xs.length 0 lo)
theorem L9 (xs:List V) (lo hi:Option Int):(fG xs lo hi).length<=xs.length:=by
 unfold fG;rw [Dk,List.length_drop];omega
def uF (K:PySem.W.Frag):V->Option Int->Option Int->Hp->VK->Prop:=λx lo b H Q=>∃ a xs,x=.ref a/\SqT K H a xs /\
 ¬ (HT.sIx xs.length 0 lo=0/\HT.sIx xs.length xs.length b=xs.length)/\∀ p,H p=none->Q (.ref p) (upd H p (.tup (fG xs lo b)))
theorem oT:SlR X (uF X.K):=by
 intro pins s σ H x v l m lo e n Q I j hs pl i h;obtain ⟨a,xs,rfl,g,k,q⟩:=h;cases j;obtain ⟨d,r,f,hz⟩:=I.tuple g;have c:d.toArray.size=xs.length:=by rw [As];exact r.length.symm
 refine ⟨"tuple",_,PyProof.Rows.slot_tuple_getitem.lookup,f.typeIs,?_⟩;refine HT.getItem_tuple_cut f hs pl i (by rw [c];exact k) ?_ (by rw [c];exact hz);rw [c];refine ⟨.ref s.heap.objs.size,_,I.laid (λb ob q=>Ah _ q) (Ao _) ?_,rfl,q _ (I.hok.fresh (Ao _))⟩;exact ⟨AQ (L9 xs lo e) hz,_,(r.drop (HT.sIx xs.length 0 lo)).take (HT.sIx xs.length xs.length e-HT.sIx xs.length 0 lo),TupN.new _ _⟩
def sf (K:PySem.W.Frag):R2:=λx y H Q=>∃ a b xs ys,x=.ref a/\y=.ref b/\SqT K H a xs/\SqT K H b ys/\xs≠[]/\xs.length+ys.length<=sizeLine /\
 (ys=[]->Q (.ref a) H)/\(ys≠[]->∀ p,H p=none->Q (.ref p) (upd H p (.tup (xs++ys))))
theorem Vals.nil_iff (r:Vals xs us):us=[]↔xs=[]:=by
 cases r with
 | nil=>simp
 | cons _ _=>simp
theorem lB:OpR X (binaryOp .Add) (sf X.K):=by
 intro pins s σ H x y v u Q I n k h;obtain ⟨a,b,xs,ys,rfl,rfl,g,m,f,hz,p,l⟩:=h;cases n;cases k;obtain ⟨j,d,o,_⟩:=I.tuple g;obtain ⟨e,c,i,_⟩:=I.tuple m;refine HT.cat_tup o i (λz=>f (d.nil_iff.mp z)) (λz=>⟨.ref a,H,I,rfl,p (c.nil_iff.mp z)⟩) (λz=>?_) (by rw [<- d.length,<- c.length];exact hz);refine ⟨.ref s.heap.objs.size,_,I.laid (λb ob q=>Ah _ q) (Ao _) ?_,rfl,l (λw=>z (c.nil_iff.mpr w)) _ (I.hok.fresh (Ao _))⟩;exact ⟨by rw [AV];exact hz,_,d.append c,TupN.new _ _⟩
end
def ixN (n:Nat) (i:Int):Option Nat:=if 0<=i then (if i<n then some i.toNat else none) else if -(n:Int)<=i then some (i+n).toNat else none
def atI {a:Type} (xs:List a) (i:Int):Option a:=(ixN xs.length i).bind λj=>xs[j]?
theorem cy (h:ixN n i=some j):seqIndex? i n=some j/\j<n/\-(n:Int)<=i/\i<n:=by
 unfold ixN at h;by_cases b:0<=i
 ·rw [if_pos b] at h;by_cases a:i<n
  ·rw [if_pos a] at h;have e:=AH h;exact ⟨by rw [seqIndex_of b a,e],by omega,by omega,a⟩
  ·grind
 ·rw [if_neg b] at h;by_cases a:-(n:Int)<=i
  ·rw [if_pos a] at h;have e:=AH h;exact ⟨by rw [seqIndex_neg (by omega) a,e],by omega,a,by omega⟩
  ·grind
theorem dI (h:atI xs i=some v):∃ j,seqIndex? i xs.length=some j/\xs[j]?=some v/\j<xs.length/\-(xs.length:Int)<=i/\i<xs.length:=by
 unfold atI at h;cases e:ixN xs.length i with
 | none=>rw [e] at h;cases h
 | some j=>
  rw [e] at h;obtain ⟨c,b,a,d⟩:=cy e;exact ⟨j,c,h,b,a,d⟩
theorem cu {j:Nat} {v:α} (h:xs[j]?=some v):atI xs (j:Int)=some v:=by
 have hj:=(Ai.mp h).1;have e:ixN xs.length (j:Int)=some j:=by
  unfold ixN;rw [if_pos (by omega),if_pos (by omega)];simp
 unfold atI;rw [e];exact h
def Z7 (b:Expr):Prop:=∀ o i,subscripted b false o i=operate [o,i] (getItem o i)
def IxR (X:Cx) (r:R2):Prop:=
 ∀ (b a:Expr) (pins:List (Addr×Obj)) (s:Shared) (σ:St) (H:Hp) (x y:V) (v u:Value) (Q:VK),Inv X pins σ H s->RelV x v->RelV y u->r x y H Q ->
  subscripted a false v u=operate [v,u] (getItem v u)->wpAny (model X.prog X.w) X.A (subscriptTail b a v u) (EP X pins σ Q) X.xe s
def MtR (X:Cx) (id:String) (r:V->List V->Hp->VK->Prop):Prop:=
 ∀ (pins:List (Addr×Obj)) (s:Shared) (σ:St) (H:Hp) (x:V) (xs:List V) (v:Value) (us:List Value) (Q:VK),Inv X pins σ H s->RelV x v->Vals xs us->r x xs H Q ->
  wpAny (model X.prog X.w) X.A (call (.builtin id) (v :: us)) (EP X pins σ Q) X.xe s
section
variable {X:Cx} {a b:Expr} {ta tb:TE} {pos:Pos}
theorem tO (f:IxR X r) (c:PE X a ta) (g:PE X b tb) (hs:Z7 b):PE X (.Subscript a b pos) (tOp r ta tb):=by
 intro pins s σ H Q I h;exact Subscript_ (nh c g I h λv u j x y k d i e q=>f a b pins j σ k x y v u Q d i e q (hs _ _))
def ti (K:PySem.W.Frag):R2:=λx y H Q=>∃ p xs i v,x=.ref p/\y=.int i/\SqL K H p xs/\atI xs i=some v/\Q v H
def vE (K:PySem.W.Frag):R2:=λx y H Q=>∃ p xs i v,x=.ref p/\y=.int i/\SqT K H p xs/\atI xs i=some v/\Q v H
theorem kw:IxR X (ti X.K):=by
 intro f e pins s σ H x y v u Q I D n h hs;obtain ⟨p,xs,i,z,rfl,rfl,E,A,q⟩:=h;cases D;obtain ⟨t,rfl⟩:=n;obtain ⟨d,r,pl,hz⟩:=I.list E;obtain ⟨j,b,C,G,m,B⟩:=dI A;obtain ⟨w,k,c⟩:=r.get C;have o:=r.length;have F:=J5;have a:EP X pins σ Q w s:=⟨z,H,I,c,q⟩;by_cases l:0<=i
 ·have g:i.toNat=j:=by
   rw [seqIndex_of l B] at b;exact AH b
  exact item_listR pl.isList l (by omega) (by rw [g];simpa using k) a hs
 ·have g:(i+(d.toArray.size:Int)).toNat=j:=by
   rw [seqIndex_neg (by omega) m] at b;rw [As,<- o];exact AH b
  exact subscriptTail_builtinR pl.isList.typeIs slot_list_getitem.lookup
   (wpAny_getItem_list_neg pl.isList (by omega) (by rw [As] <;> omega) (by omega) (by rw [g];simpa using k) ⟨rfl,a⟩) hs
theorem qI:IxR X (vE X.K):=by
 intro b d pins s σ H x y v u Q I A l h hs;obtain ⟨p,xs,i,z,rfl,rfl,g,e,q⟩:=h;cases A;obtain ⟨t,rfl⟩:=l;obtain ⟨k,r,pl,hz⟩:=I.tuple g;obtain ⟨j,f,o,D,C,E⟩:=dI e;obtain ⟨w,n,c⟩:=r.get o;have m:=r.length;have B:=J5;have a:EP X pins σ Q w s:=⟨z,H,I,c,q⟩;exact subscriptTail_builtinR pl.typeIs slot_tuple_getitem.lookup
  (getItem_tuple pl (by omega) (by omega) (by rw [As,<- m];exact f) (by simpa using n) ⟨rfl,a⟩) hs
theorem bt (a:List Value) (n j:Nat) (u:Value):Obj.mapSeq (·.setIfInBounds j u) { cls:=.type "list",data:=.seq a.toArray n }={ cls:=.type "list",data:=.seq (a.set j u).toArray n }:=by
 simp [Obj.mapSeq]
theorem Inv.lst {σ:St} {H:Hp} {s:Shared} {p:Addr} {xs:List V} (I:Inv X pins σ H s) (h:H p=some (.lst xs)) :
  ∃ (a:List Value) (n:Nat),Vals xs a/\s.heap.get? p=some { cls:=.type "list",data:=.seq a.toArray n }/\xs.length<=sizeLine:=by
 obtain ⟨z,a,n,r,e⟩:=I.hok p _ h;grind
theorem Inv.lstUpd {σ:St} {H:Hp} {s:Shared} {p:Addr} {xs ys:List V} {a its':List Value} {n c:Nat} {f:Obj->Obj} (I:Inv X pins σ H s) (h:H p=some (.lst xs))
  (g:s.heap.get? p=some { cls:=.type "list",data:=.seq a.toArray n }) (d:f { cls:=.type "list",data:=.seq a.toArray n }={ cls:=.type "list",data:=.seq its'.toArray c }) (r:Vals ys its') (hz:ys.length<=sizeLine) (t:Nat) :
  Inv X pins σ (upd H p (.lst ys)) { s with heap:=s.heap.update p f,toks:=t }:=by
 have e:(s.heap.update p f).get? p=some { cls:=.type "list",data:=.seq its'.toArray c }:=by
  rw [AX f g (by rw [d] <;> rfl),d]
 refine I.write (by rw [h];trivial) (.inl rfl) (λb u i q=>(BD _ _ (Ne.symm i)).trans q) ⟨_,e⟩ ?_;exact ⟨hz,its',c,r,e⟩
def rSetL:V->V->V->Hp->(Hp->Prop)->Prop:=λo i v H Q=>∃ p xs k j,o=.ref p/\i=.int k/\H p=some (.lst xs)/\ixN xs.length k=some j/\Q (upd H p (.lst (xs.set j v)))
theorem gM:lN X rSetL:=by
 intro pins s σ H o i v D B u Q I z x A h;obtain ⟨p,xs,k,j,rfl,rfl,f,y,q⟩:=h;cases z;obtain ⟨t,rfl⟩:=x;obtain ⟨a,n,r,d,hz⟩:=I.lst f;obtain ⟨b,E,w,l⟩:=cy y;have e:=r.length;have C:=J5;have g:Inv X pins σ (upd H p (.lst (xs.set j v))) { s with heap:=s.heap.update p (Obj.mapSeq (·.setIfInBounds j u)) }:=
  I.lstUpd f d (bt a n j u) (r.set A j) (by rw [Dx];exact hz) s.toks
 by_cases m:0<=k
 ·have c:k.toNat=j:=by
   rw [seqIndex_of m l] at b;exact AH b
  exact PySem.W.ki_setAt d m (by omega) (by rw [As,<- e];exact l) (by rw [c];exact ⟨_,g,q⟩)
 ·have c:(k+(a.toArray.size:Int)).toNat=j:=by
   rw [seqIndex_neg (by omega) w] at b;rw [As,<- e];exact AH b
  exact PySem.W.ki_setBack d (by omega) (by rw [As,<- e];exact w) (by omega) (by rw [c];exact ⟨_,g,q⟩)
theorem aD (lo a:Option Int) (n:Nat):(sliceBounds lo a none n).1=((HT.sIx n 0 lo:Nat):Int)/\(sliceBounds lo a none n).2.1=((HT.sIx n n a:Nat):Int)/\(sliceBounds lo a none n).2.2=1:=by
 refine ⟨?_,?_,rfl⟩
 ·cases lo with
  | none=>simp [sliceBounds,HT.sIx]
  | some i=>
   simp only [sliceBounds,HT.sIx,Option.getD_none,show (1:Int) > 0 by decide,DG];by_cases h:i<0
   ·grind
   ·grind
 ·cases a with
  | none=>simp [sliceBounds,HT.sIx]
  | some i=>
   simp only [sliceBounds,HT.sIx,Option.getD_none,show (1:Int) > 0 by decide,DG];by_cases h:i<0
   ·grind
   ·grind
theorem U4 (a:List Value) (lo b:Option Int):slicePick a.toArray lo b none=((a.drop (HT.sIx a.length 0 lo)).take (HT.sIx a.length a.length b-HT.sIx a.length 0 lo)).toArray:=by
 obtain ⟨c,d,e⟩:=aD lo b a.toArray.size;unfold slicePick;rw [c,d,e];simp only [sliceRange_one,pick_run,As] <;> rfl
def uI (K:PySem.W.Frag):V->Option Int->Option Int->Hp->VK->Prop:=λx lo b H Q=>∃ a xs,x=.ref a/\SqL K H a xs/\∀ p,H p=none->Q (.ref p) (upd H p (.lst (fG xs lo b)))
theorem lp:SlR X (uI X.K):=by
 intro pins s σ H x v k l lo d m Q I j hs pl g h;obtain ⟨a,xs,rfl,f,q⟩:=h;cases j;obtain ⟨i,r,e,hz⟩:=I.list f;have c:=r.length;refine ⟨"list",_,slot_list_getitem.lookup,e.isList.typeIs,?_⟩;refine wpAny_getItem_list_slice e.isList hs pl g .none (by simp) ?_ (by rw [As] <;> omega);rw [U4,<- c];refine ⟨.ref s.heap.objs.size,_,I.laid (λb ob q=>Ah _ q) (Ao _) ?_,rfl,q _ (I.hok.fresh (Ao _))⟩;exact ⟨AQ (L9 xs lo d) hz,_,0,(r.drop (HT.sIx xs.length 0 lo)).take (HT.sIx xs.length xs.length d-HT.sIx xs.length 0 lo),Ax _ rfl⟩
theorem Z6:A4 X (.builtin "len") (λxs H Q=>∃ p ys,xs=[.ref p]/\(SqL X.K H p ys\/SqT X.K H p ys)/\Q (.int ys.length) H):=by
 intro pins s σ H xs us Q I r h;obtain ⟨p,ys,rfl,b,q⟩:=h;obtain ⟨u,rfl,e⟩:=av r;cases e;have f:=J5;rcases b with b | b
 ·obtain ⟨d,c,pl,hz⟩:=I.list b;have a:=c.length;exact Calls.call_len_list pl.isList (by simp <;> omega) ⟨.int ys.length,H,I.tok _,⟨s.toks+1,by rw [As,a]⟩,q⟩
 ·obtain ⟨d,c,pl,hz⟩:=I.tuple b;have a:=c.length;exact len_tuple pl (by simp <;> omega) ⟨.int ys.length,H,I.tok _,⟨s.toks+1,by rw [As,a]⟩,q⟩
theorem aR:A4 X (.builtin "len") (λxs H Q=>∃ z,xs=[.str z]/\z.length<=sizeLine/\Q (.int z.length) H):=by
 intro pins s σ H xs us Q I r h;obtain ⟨z,rfl,hz,q⟩:=h;obtain ⟨u,rfl,t,rfl⟩:=av r;have hn:=J5;exact len_str (by omega) ⟨.int z.length,H,I.tok _,⟨_,rfl⟩,q⟩
def tyV (K:PySem.W.Frag) (T:String) (x:V) (H:Hp):Prop:=match x with
 | .str _=>T = "str"
 | .int _=>T = "int"
 | .ref p=>(T = "list"/\∃ xs,SqL K H p xs)\/(T = "tuple"/\∃ o,K.lookup p=some o/\o.cls=.type "tuple"/\o.dict=none) \/
   (T = "dict"/\((∃ a,H p=some (.dK a))\/∃ a,H p=some (.dT a)))\/(T = "set"/\∃ S n,H p=some (.set S n))\/(T = "tuple"/\∃ xs,Rd H p (.tup xs))
 | _=>False
theorem gf {σ:St} {H:Hp} {s:Shared} {T:String} {x:V} {v:Value} (I:Inv X pins σ H s) (r:RelV x v) (ty:tyV X.K T x H) :
  s.TypeIs v T/\∀ a,v=.ref a->∃ ob,s.heap.get? a=some ob/\ob.dict=none:=by
 cases x with
 | str z=>
  obtain ⟨t,rfl⟩:=r;cases (ty);exact ⟨typeIs_str s z t,λ_ e=>nomatch e⟩
 | int i=>
  obtain ⟨t,rfl⟩:=r;cases (ty);exact ⟨CG s i t,λ_ e=>nomatch e⟩
 | ref p=>
  cases r;rcases ty with ⟨rfl,xs,hq⟩ | ⟨rfl,o,hk,hc,hd⟩ | ⟨rfl,hk⟩ | ⟨rfl,S,n,hk⟩ | ⟨rfl,xs,hk⟩
  ·obtain ⟨its,_,pl,_⟩:=I.list hq;refine ⟨pl.isList.typeIs,λa e=>?_⟩;cases e;obtain ⟨o,n,e,c,hd,_⟩:=pl;exact ⟨o,e,hd⟩
  ·refine ⟨⟨o,I.kIn p o hk,hc⟩,λa e=>?_⟩;cases e;exact ⟨o,I.kIn _ o hk,hd⟩
  ·have z:∃ o,s.heap.get? p=some o/\o.ExactDict:=by
    rcases hk with ⟨kvs,hk⟩ | ⟨kvs,hk⟩
    ·obtain ⟨_,_,_,_,o,_,_,e,ex,_⟩:=I.hok p _ hk;exact ⟨o,e,ex⟩
    ·obtain ⟨_,_,_,_,o,_,_,e,ex,_⟩:=I.hok p _ hk;exact ⟨o,e,ex⟩
   obtain ⟨o,e,ex⟩:=z;refine ⟨⟨o,e,ex.1⟩,λa e2=>?_⟩;cases e2;exact ⟨o,e,ex.2.1⟩
  ·obtain ⟨o,_,_,_,e,ex,_⟩:=I.hok p _ hk;refine ⟨⟨o,e,ex.1⟩,λa e2=>?_⟩;cases e2;exact ⟨o,e,ex.2.1⟩
  ·obtain ⟨_,its,_,o,e,c,n,_,hd⟩:=(hk.ok I.hok);exact ⟨⟨o,e,c⟩,λa e2=>by cases e2;exact ⟨o,e,hd⟩⟩
 | _=>exact False.elim ty
def vC (K:PySem.W.Frag) (T:String) (r:V->List V->Hp->VK->Prop) (b:TE):TE:=λσ H Q=>b σ H λx a=>tyV K T x a/\r x [] a Q
def tBM (K:PySem.W.Frag) (T:String) (r:V->List V->Hp->VK->Prop) (c:TE) (t:TA):TE:=λσ H Q=>c σ H λx a=>tyV K T x a/\t σ a λxs b=>r x xs b Q
variable {o e:Expr} {es:List Expr} {to:TE} {t:TA} {name:Str} {apos cpos:Pos} {T id:String} {r:V->List V->Hp->VK->Prop}
theorem oV (j:PlainAttrs T) (c:Slot T name id) (d:typeOf (.builtin id)=pure (.type "method_descriptor")) (n:MtR X id r) (i:PE X o to)
  (b:attributeBase o name X.env (eval o X.env)=eval o X.env:=by rfl) (a:(apos.endLine==cpos.line)=true:=by rfl):PE X (.Call (.Attribute o name apos) [] [] cpos) (vC X.K T r to):=by
 intro pins s σ H Q I h;refine wpAny_Call_method0_late b a (thn (i pins s σ H _ I h) λv p ⟨x,l,e,f,g,q⟩=>?_);obtain ⟨k,m⟩:=gf e f g;exact ⟨T,id,j,c,d,k,m,Calls.callWith_builtin rfl (PySem.evalArgs_none (n pins p σ l x [] v [] Q e f .nil q))⟩
theorem mZ (l:PlainAttrs T) (d:Slot T name id) (g:typeOf (.builtin id)=pure (.type "method_descriptor")) (z:MtR X id r) (C:PE X o to) (B:PA X (e :: es) t)
  (c:attributeBase o name X.env (eval o X.env)=eval o X.env:=by rfl)
  (f:((backTo cpos (starEach (e :: es) X.env)).all (λx=>!x.1)&&(backToKw cpos (keywordEach [] X.env)).all (λx=>x.1.isSome)
   && decide ((e :: es).length+([]:List Keyword).length+(if ([]:List Keyword).isEmpty then 0 else 1)<30))=true:=by rfl)
  (b:(apos.endLine==cpos.line)=true:=by rfl) (hs:starEach (e :: es) X.env=(false,eval e X.env) :: starEach es X.env:=by rfl) (a:(backTo cpos (starEach es X.env)).any (·.1)=false:=by rfl) :
  PE X (.Call (.Attribute o name apos) (e :: es) [] cpos) (tBM X.K T r to t):=by
 intro pins s σ H Q I h;refine wpAny_Call_method_late c f b rfl (thn (C pins s σ H _ I h) λv p ⟨x,w,j,k,q,A⟩=>?_);obtain ⟨m,y⟩:=gf j k q;refine ⟨T,id,l,d,g,m,y,?_⟩;have i:=B cpos pins p σ w _ j A;rw [hs] at i ⊢;refine Calls.callWith_builtin (by show (false||(backTo cpos (starEach es X.env)).any (·.1))=false;rw [a] <;> rfl) (Calls.evalArgs_plain ?_);exact thn i λus E ⟨vs,F,D,u,n⟩=>z pins E σ F x vs v us Q D k u n
end
def MtM (X:Cx) (id:String) (r:V->List V->Hp->VK->Prop):Prop:=
 ∀ (pins:List (Addr×Obj)) (s:Shared) (σ:St) (H:Hp) (x:V) (xs:List V) (v:Value) (us:List Value) (Q:VK),Inv X pins σ H s->RelV x v->Vals xs us->r x xs H Q ->
  wpAny (model X.prog X.w) X.A (call (.builtin id) (v :: us)) (EP X pins σ Q) X.xe s
theorem Vals.one:∀ {x:V} {us:List Value},Vals [x] us->∃ u,us=[u]/\RelV x u
 | _,_,.cons r .nil=>⟨_,rfl,r⟩
theorem Vals.zero:∀ {us:List Value},Vals [] us->us=[]
 | _,.nil=>rfl
theorem Vals.dropLast (h:Vals xs us):Vals xs.dropLast us.dropLast:=by
 induction h with
 | nil=>exact .nil
 | cons r t a=>
  cases t with
  | nil=>exact .nil
  | cons q t'=>exact .cons r a
theorem Vals.rep (h:Vals xs us):∀ k:Nat,Vals (List.replicate k xs).flatten (List.replicate k us).flatten
 | 0=>.nil
 | k+1=>by
  rw [Bm,Bm,BO,BO];exact Vals.append h (Vals.rep h k)
theorem bz {a:Type} (l:List a):l.eraseIdx (l.length-1)=l.dropLast:=by grind
theorem K7 (b:List Value):∀ (k:Nat) (a:List Value),
  List.foldl (λf c=>f++c) a.toArray (List.replicate k b.toArray)=(a++(List.replicate k b).flatten).toArray
 | 0,a=>by simp
 | k+1,a=>by
  have e:a.toArray++b.toArray=(a++b).toArray:=by simp
  have d:(a++b)++(List.replicate k b).flatten=a++(List.replicate (k+1) b).flatten:=by
   rw [Bm,BO,Bv]
  rw [<- d,<- K7 b k (a++b),<- e,Bm,Dy]
section
variable {X:Cx} {pins:List (Addr×Obj)} {σ:St} {H:Hp} {s:Shared} {l b:Addr} {xs ys zs:List V}
theorem Inv.lset {a its':List Value} {n:Nat} {f:Array Value->Array Value} {t':Nat} (I:Inv X pins σ H s) (c:H l=some (.lst xs))
  (e:s.heap.get? l=some { cls:=.type "list",data:=.seq a.toArray n }) (b:f a.toArray=its'.toArray) (g:Vals ys its') (hz:ys.length<=sizeLine) :
  Inv X pins σ (upd H l (.lst ys)) { s with heap:=s.heap.update l (Obj.mapSeq f),toks:=t' }:=by
 have q:=PySem.IsL.update e f;rw [b] at q;refine I.write (by rw [c];exact trivial) (.inl rfl) (λi u d h=>(BD s.heap (Obj.mapSeq f) (Ne.symm d)).trans h) ⟨_,q⟩ ?_;exact ⟨hz,its',_,g,q⟩
theorem Inv.lnew (I:Inv X pins σ H s) (a:Vals ys its) (hz:ys.length<=sizeLine) :
  Inv X pins σ (upd H s.heap.objs.size (.lst ys)) { s with heap:=s.heap.push { cls:=.type "list",data:=.seq its.toArray },toks:=t' }:=
 I.laid (λ_ _ q=>Ah _ q) (Ao _) ⟨hz,its,0,a,Ax _ rfl⟩
theorem Inv.fresh (I:Inv X pins σ H s):H s.heap.objs.size=none:=I.hok.fresh (Ao _)
theorem Inv.lstM (I:Inv X pins σ H s) (b:H l=some (.lst xs)):xs.length<=sizeLine/\∃ (a:List Value) (n:Nat),Vals xs a/\xs.length=a.length/\s.heap.get? l=some { cls:=.type "list",data:=.seq a.toArray n }:=by
 obtain ⟨z,a,n,r,e⟩:=I.hok l _ b;exact ⟨z,a,n,r,r.length,e⟩
theorem iF (h:n<=sizeLine):Builtin.List.listTooLong n=false:=by
 unfold Builtin.List.listTooLong;grind
end
section
variable {X:Cx}
def rAppend:V->List V->Hp->VK->Prop:=λx vs H Q=>∃ l xs y,x=.ref l/\vs=[y]/\H l=some (.lst xs)/\xs.length<sizeLine/\Q .non (upd H l (.lst (xs++[y])))
theorem C4:MtM X "list.append" rAppend:=by
 intro pins s σ H x vs v us Q I d f h;obtain ⟨l,xs,y,rfl,rfl,b,hz,q⟩:=h;cases d;obtain ⟨u,rfl,c⟩:=f.one;obtain ⟨z,a,n,r,g,e⟩:=I.lstM b;refine Cm F.slot_list_append ⟨_,e,rfl⟩ F.entry_list_append (F.args_list_append_2 _ _) (PySem.list_append l a.toArray n u (by rw [As];omega)) ⟨e,?_⟩;refine ⟨.non,_,I.lset b e (by simp) (r.append (.cons c .nil)) ?_,rfl,q⟩;grind
def rPop:V->List V->Hp->VK->Prop:=λx vs H Q=>∃ l xs y,x=.ref l/\vs=[]/\H l=some (.lst xs)/\xs[xs.length-1]?=some y/\Q y (upd H l (.lst xs.dropLast))
theorem pG:MtM X "list.pop" rPop:=by
 intro pins s σ H x vs v us Q I rx rv h;obtain ⟨l,xs,y,rfl,rfl,hH,hy,q⟩:=h;cases rx;have hus:=rv.zero;subst hus;obtain ⟨z,its,n,r,hl,e⟩:=I.lstM hH;obtain ⟨u,hu,ru⟩:=r.get hy;have hy':its.toArray[its.toArray.size-1]?=some u:=by
  show its.toArray[its.length-1]?=some u;rw [<- CA,<- hl];exact hu
 refine Cm F.slot_list_pop ⟨_,e,rfl⟩ F.entry_list_pop (F.args_list_pop_1 _) (MeetsSeq.list_pop_last l its.toArray n u hy' (by rw [As];omega)) ⟨e,?_⟩;refine ⟨y,_,I.lset (its':=its.dropLast) hH e ?_ r.dropLast ?_,ru,q⟩
 ·show its.toArray.eraseIdxIfInBounds (its.toArray.size-1)=its.dropLast.toArray;rw [As,List.eraseIdxIfInBounds_toArray,bz]
 ·rw [BS];omega
def rCat:R2:=λx y H Q=>∃ l b xs a,x=.ref l/\y=.ref b/\H l=some (.lst xs)/\H b=some (.lst a)/\xs.length+a.length<=sizeLine/\∀ p,H p=none->Q (.ref p) (upd H p (.lst (xs++a)))
theorem oP:OpR X (binaryOp .Add) rCat:=by
 intro pins s σ H x y v u Q I m k h;obtain ⟨l,b,xs,A,rfl,rfl,o,g,hz,q⟩:=h;cases m;cases k;obtain ⟨z,c,n,r,t,e⟩:=I.lstM o;obtain ⟨p,a,w,f,j,i⟩:=I.lstM g;refine PySem.P.add_list e i ?_ (by rw [As,As];omega);have d:c.toArray++a.toArray=(c++a).toArray:=by simp
 rw [d];exact ⟨.ref _,_,I.lnew (r.append f) (by rw [AV];omega),rfl,q _ I.fresh⟩
def rRep:R2:=λx y H Q=>∃ l k xs,x=.ref l/\y=.int k/\H l=some (.lst xs)/\-(2 ^ 63)<=k/\k<2 ^ 63/\xs.length * k.toNat<=sizeLine /\
 ∀ p,H p=none->Q (.ref p) (upd H p (.lst (List.replicate k.toNat xs).flatten))
theorem eM {a:Type} (xs:List a) (k:Nat):(List.replicate k xs).flatten.length=k * xs.length:=by simp_all
theorem qB:OpR X (binaryOp .Mult) rRep:=by
 intro pins s σ H x y v u Q I rx ry h;obtain ⟨l,k,xs,rfl,rfl,hH,h1,h2,hz,q⟩:=h;cases rx;obtain ⟨t,rfl⟩:=ry;obtain ⟨z,its,n,r,hl,e⟩:=I.lstM hH;have hlen:its.toArray.size * k.toNat<=sizeLine:=by rw [As,<- hl];exact hz
 have hcap:¬ its.toArray.size * k.toNat > (2 ^ 63-1) / 8:=by
  have:(sizeLine:Nat)<=(2 ^ 63-1) / 8:=by decide
  omega
 have hfit:¬ (!Builtin.List.listFitsIndex k)=true:=by
  rw [fitsIndex_both h1 h2];exact Am
 have hlong:¬ Builtin.List.listTooLong (its.toArray.size * k.toNat)=true:=by
  rw [iF hlen];exact Am
 have hnew:List.foldl (λx1 x2=>x1++x2) #[] (List.replicate (if its.toArray.isEmpty=true then 0 else k.toNat) its.toArray)=(List.replicate k.toNat its).flatten.toArray:=by
  have f0:=λm=>by
   have:=K7 its m [];rw [CN] at this;exact this
  rw [f0];cases its with
  | nil=>simp
  | cons a r'=>rw [if_neg (by simp)]
 refine Ca (by decide) ⟨_,e,rfl⟩ (λs'=>CG s' k t) noFill_list_mul F.fills_int_mul F.slot_int_rmul repeat_list F.slot_int_index.lookup
  (Cm F.slot_int_rmul (CG s k t) F.entry_int_rmul (F.args_int_rmul_2 _ _) (int___rmul___int_list k t l its.toArray n)
   ⟨e,rfl,⟨_,e,rfl⟩,Cm F.slot_list_mul ⟨_,e,rfl⟩ F.entry_list_mul (F.args_list_mul_2 _ _) (AutoListH.list___mul___list_int_3 l its.toArray n k t hfit hcap hlong) ⟨e,?_⟩⟩)
 rw [hnew];exact ⟨.ref _,_,I.lnew (r.rep k.toNat) (by rw [eM,Nat.mul_comm];exact hz),rfl,q _ I.fresh⟩
end
section
variable {κ:Type} [DecidableEq κ]
def C6 (a:List (κ×V)) (k:κ):Option V:=(a.find? λb=>decide (b.1=k)).map (·.2)
def p0 (a:List (κ×V)) (k:κ) (v:V):List (κ×V):=
 if (a.any λb=>decide (b.1=k))=true then a.map (λb=>if b.1=k then (b.1,v) else b) else a++[(k,v)]
theorem G3 {k:κ} (e:p.1=k):C6 (p :: r) k=some p.2:=by simp [C6,AZ,e]
theorem G9 {k:κ} (e:¬ p.1=k):C6 (p :: r) k=C6 r k:=by simp [C6,AZ,e]
theorem aY (k:κ):∀ a:List (κ×V),(a.any λb=>decide (b.1=k))=(C6 a k).isSome
 | []=>rfl
 | p :: r=>by
  rw [Dh];by_cases e:p.1=k
  ·simp only [G3 e,AO e,Bool.true_or,Option.isSome_some]
  ·rw [G9 e,Be e,Bool.false_or];exact aY k r
theorem A3 (a:List (κ×V)) (k:κ) (v:V):(p0 a k v).length<=a.length+1:=by
 unfold p0;grind
theorem RelO.isSome_eq (r:RelO o u):o.isSome=u.isSome:=by
 cases o with
 | none=>cases u with
  | none=>rfl
  | some _=>exact (r).elim
 | some _=>cases u with
  | none=>exact (r).elim
  | some _=>rfl
theorem RelO.getD (r:RelO o u) (a:RelV d d'):RelV (o.getD d) (u.getD d'):=by
 cases o with
 | none=>cases u with
  | none=>exact a
  | some _=>exact (r).elim
 | some _=>cases u with
  | none=>exact (r).elim
  | some _=>exact r
theorem KV.val (r:KV kvs vs) (k:κ):RelO (C6 kvs k) (valueAt vs k):=by
 induction r with
 | nil=>exact True.intro
 | @cons p q ps a h t g=>
  obtain ⟨d,f⟩:=h;by_cases e:p.1=k
  ·have c:=d.symm.trans e;have b:valueAt (q :: a) k=some q.2:=by simp [valueAt,AZ,c]
   rw [G3 e,b];exact f
  ·have c:¬ q.1=k:=λz=>e (d.trans z);have b:valueAt (q :: a) k=valueAt a k:=by simp [valueAt,AZ,c]
   rw [G9 e,b];exact g
theorem KV.any {kvs:List (κ×V)} {vs:List (κ×Value)} (r:KV kvs vs) (k:κ):(kvs.any λkv=>decide (kv.1=k))=vs.any λkv=>decide (kv.1=k):=by
 unfold KV at r;induction r with
 | nil=>rfl
 | cons h t ih=>rw [Dh,Dh,ih,h.1]
theorem KV.repl (r:KV kvs vs) (k:κ) {y:V} {u:Value} (d:RelV y u) :
  KV (kvs.map λa=>if a.1=k then (a.1,y) else a) (vs.map λa=>if a.1=k then (a.1,u) else a):=by
 induction r with
 | nil=>exact .nil
 | @cons p q ps g h t b=>
  rw [AE,AE];refine .cons ?_ b;obtain ⟨c,f⟩:=h;by_cases e:p.1=k
  ·grind
  ·grind
theorem KV.put (r:KV kvs vs) (k:κ) {y:V} {u:Value} (a:RelV y u):KV (p0 kvs k y) (stored vs k u):=by
 unfold p0 stored;rw [r.any k];by_cases e:(vs.any λb=>decide (b.1=k))=true
 ·rw [if_pos e,if_pos e];exact r.repl k a
 ·rw [if_neg e,if_neg e];exact Paired.snoc r ⟨rfl,a⟩
theorem KV.length {vs:List (κ×Value)} (r:KV kvs vs):kvs.length=vs.length:=Paired.length r
end
theorem X6 {k:Key} {u:Value} (r:RelV (kV k) u):(d8 P w).is k u=true:=by
 cases k with
 | inl i=>obtain ⟨t,e⟩:=(r);subst e;exact bJ P w i t
 | inr x=>obtain ⟨t,e⟩:=(r);subst e;exact bO P w x t
theorem W2:∀ {a:List Key} {us:List Value},Vals (a.map kV) us->ItemsAre (d8 P w) a us
 | [],_,r=>by rw [List.map_nil] at r;cases r;exact .nil
 | k :: a,_,r=>by
  rw [AE] at r;cases r with
  | cons h t=>exact .cons (X6 h) (W2 t)
abbrev KT (H:Hp):List (List Key×V)->List (List Key×Addr×Value)->Prop:=Paired λp q=>p.1=q.1/\H q.2.1=some (.tup (p.1.map kV))/\RelV p.2 q.2.2
theorem KT.val (r:KT H kvs xs) (k:List Key):RelO (C6 kvs k) ((atKey xs k).map (·.2)):=by
 induction r with
 | nil=>exact True.intro
 | @cons p q ps a h t g=>
  obtain ⟨d,_,f⟩:=h;by_cases e:p.1=k
  ·have c:=d.symm.trans e;have b:atKey (q :: a) k=some q.2:=by simp [atKey,AZ,c]
   rw [G3 e,b];exact f
  ·have c:¬ q.1=k:=λz=>e (d.trans z);have b:atKey (q :: a) k=atKey a k:=by simp [atKey,AZ,c]
   rw [G9 e,b];exact g
theorem KT.repl {H:Hp} {kvs:List (List Key×V)} {xs:List (List Key×Addr×Value)} (r:KT H kvs xs) (k:List Key) {y:V} {u:Value} (ry:RelV y u) :
  KT H (kvs.map λkv=>if kv.1=k then (kv.1,y) else kv) (xs.map (putAt k u)):=by
 induction r with
 | nil=>exact .nil
 | @cons p q ps qs h t ih=>
  rw [AE,AE];refine .cons ?_ ih;obtain ⟨h1,h2,h3⟩:=h;unfold putAt;by_cases e:p.1=k
  ·rw [if_pos e,if_pos (h1.symm.trans e)];exact ⟨h1,h2,ry⟩
  ·rw [if_neg e,if_neg (λz=>e (h1.trans z))];exact ⟨h1,h2,h3⟩
theorem KT.put (r:KT H kvs xs) (k:List Key) {b:Addr} {y:V} {u:Value} (c:H b=some (.tup (k.map kV))) (a:RelV y u) :
  KT H (p0 kvs k y) (storedH xs k b u):=by
 have e:(kvs.any λd=>decide (d.1=k))=(atKey xs k).isSome:=by
  rw [aY,(r.val k).isSome_eq,Dd]
 unfold p0 storedH;rw [e];by_cases q:(atKey xs k).isSome=true
 ·rw [if_pos q,if_pos q];exact r.repl k a
 ·rw [if_neg q,if_neg q];exact Paired.snoc r ⟨rfl,c,a⟩
theorem KT.keeps {a:List (List Key×V)} {xs:List (List Key×Addr×Value)} (r:KT H a xs) (c:∀ b ys,H b=some (.tup ys)->H' b=some (.tup ys)):KT H' a xs:=
 Paired.mapP r λ_ _ z=>⟨z.1,c _ _ z.2.1,z.2.2⟩
section
variable {P:Program} {w:World} {H:Hp} {h:Heap} {a:Addr}
theorem mQ (b:HOk P w H h) (e:Rd H a u):ObjOk P w H h a u:=e.ok b
theorem V4 (b:HOk P w H h) (e:Rd H a (.dK kvs)):kvs.length<=sizeLine/\(a==sysModules)=false/\∃ vs,KV kvs vs/\h.DictOf (d8 P w) a vs:=
 mQ b e
theorem gN (b:HOk P w H h) (e:H a=some (.dK kvs)):kvs.length<=sizeLine/\(a==sysModules)=false/\∃ vs,KV kvs vs/\h.DictOf (d8 P w) a vs:=V4 b (.inl e)
theorem U2 (g:HOk P w H h) (e:H a=some (.tup (ks.map kV))):(tupleKind (d8 P w)).is h ks a:=by
 obtain ⟨_,b,r,o,c,d,n,f⟩:=(g a _ e);exact ⟨o,b.toArray,n,c,d,f.1,by simpa using W2 r⟩
theorem aV (d:HOk P w H h) (e:Rd H a (.dT kvs)):kvs.length<=sizeLine/\(a==sysModules)=false /\
  ∃ xs,KT H kvs xs/\h.DictOfH (tupleKind (d8 P w)) a xs:=by
 obtain ⟨z,y,xs,r,o,es,s,g,j,n,i,u⟩:=(mQ d e);refine ⟨z,y,xs,r,o,es,s,g,j,n,i,λx b=>?_,u⟩;have f:∀ {l:List (List Key×V)} {m:List (List Key×Addr×Value)},KT H l m->∀ x∈m,(tupleKind (d8 P w)).is h x.1 x.2.1:=by
  intro l m q;induction q with
  | nil=>intro x b;exact nomatch b
  | @cons p q ps v c t k=>
   intro x b;rcases AJ.mp b with e | b
   ·subst e;exact U2 d (by rw [<- c.1];exact c.2.1)
   ·exact k x b
 grind
theorem sR (b:HOk P w H h) (e:H a=some (.dT kvs)):kvs.length<=sizeLine/\(a==sysModules)=false /\
  ∃ xs,KT H kvs xs/\h.DictOfH (tupleKind (d8 P w)) a xs:=aV b (.inl e)
end
def DGet (H:Hp) (a:Addr) (y:V) (r:Option V):Prop:=
 (∃ c k,Rd H a (.dK c)/\y=kV k/\r=C6 c k)\/∃ c k b,Rd H a (.dT c)/\y=.ref b/\H b=some (.tup (k.map kV))/\r=C6 c k
def DPut (H:Hp) (a:Addr) (y v:V) (H':Hp):Prop:=
 (∃ c k,H a=some (.dK c)/\y=kV k/\c.length<sizeLine/\H'=upd H a (.dK (p0 c k v))) \/
 ∃ c k b,H a=some (.dT c)/\y=.ref b/\H b=some (.tup (k.map kV))/\c.length<sizeLine/\H'=upd H a (.dT (p0 c k v))
theorem DGet.k {k:Key} (e:H a=some (.dK kvs)):DGet H a (kV k) (C6 kvs k):=.inl ⟨kvs,k,.inl e,rfl,rfl⟩
theorem DPut.k {k:Key} {v:V} (e:H a=some (.dK kvs)) (b:kvs.length<sizeLine):DPut H a (kV k) v (upd H a (.dK (p0 kvs k v))):=.inl ⟨kvs,k,e,rfl,b,rfl⟩
section
variable {X:Cx} {pins:List (Addr×Obj)} {σ:St} {H:Hp} {s:Shared} {a:Addr} {y v:V} {u r:Value} {o:Option V} {A:Around} {E:Value->Shared->Prop}
theorem Inv.big (I:Inv X pins σ H s):sysModules<s.heap.objs.size:=by
 have h:=(I.mod.glob.keeps I.bk).lt;exact Nat.lt_trans (by decide) h
theorem eU (t:A.units+1<cLine) (I:Inv X pins σ H s) (g:DGet H a y (some v)) (o:RelV y u) (h:∀ w' s',Inv X pins σ H s'->RelV v w'->Q w' s') :
  wpAny (model X.prog X.w) A (getItem (.ref a) u) Q E s:=by
 rcases g with ⟨n,k,e,i,l⟩ | ⟨n,k,b,e,i,q,l⟩
 ·subst i;obtain ⟨z,hd,vs,d,f⟩:=V4 I.hok e;obtain ⟨w',m,c⟩:=RelO.some_of (by rw [l];exact d.val k);exact wpAny_getItem_of (X6 o) f.mapOf m (h w' _ (I.tok _) c)
 ·subst i;cases (o);obtain ⟨z,hd,xs,d,f⟩:=aV I.hok e;obtain ⟨w',m,c⟩:=RelO.some_of (by rw [l];exact d.val k);obtain ⟨p,r,j⟩:=Ct.mp m;refine wpAny_getItem_heap (Cn t) (U2 I.hok q) f r ?_;rw [j];exact h w' _ (I.tok _) c
theorem F1 {ob:HO} (I:Inv X pins σ H s) (e:Mut (H a)) (hs:Heap.SameBut a s.heap h') (d:∃ q,h'.get? a=some q) (c:ObjOk X.prog X.w (upd H a ob) h' a ob) :
  Inv X pins σ (upd H a ob) { s with heap:=h',toks:=t' }:=
 I.write e (.inl rfl) (λb q f z=>(hs.2 b f).trans z) d c
theorem jJ {b:List (Key×V)} {vs:List (Key×Value)} (z:b.length<=sizeLine) (hd:(a==sysModules)=false) (c:KV b vs) (d:h'.DictOf (d8 P w) a vs) :
  ObjOk P w H' h' a (.dK b):=⟨z,hd,vs,c,d⟩
theorem eQ (L:A.units+1<cLine) (I:Inv X pins σ H s) (g:DPut H a y v H') (w:RelV y u) (B:RelV v r) (h:∀ s',Inv X pins σ H' s'->Q () s') :
  wpAny (model X.prog X.w) A (setItem (.ref a) u r) Q E s:=by
 rcases g with ⟨d,k,e,p,l,n⟩ | ⟨d,k,b,e,p,t,l,n⟩
 ·subst p n;obtain ⟨z,hd,vs,f,o⟩:=gN I.hok e;have hz:vs.length<=sizeLine:=by rw [<- f.length];exact z
  have m:(p0 d k v).length<=sizeLine:=by have:=A3 d k v;omega
  refine wpAny_setItem_pairs (X6 w) o λh' i hs=>h _ ?_;have D:∃ q,h'.get? a=some q:=let ⟨q,_,_,j,_⟩:=i;⟨q,j⟩
  exact F1 I (by rw [e];exact True.intro) hs D (jJ m hd (f.put k B) i)
 ·subst p n;cases (w);obtain ⟨z,hd,xs,f,o⟩:=sR I.hok e;have hz:xs.length<=sizeLine:=by rw [<- Paired.length f];exact z
  have m:(p0 d k v).length<=sizeLine:=by have:=A3 d k v;omega
  refine wpAny_setItem_heap (Cn L) (U2 I.hok t) o λh' i hs=>h _ ?_;obtain ⟨q,es,F,j,J,K,C,_,G⟩:=i;refine F1 I (by rw [e];exact True.intro) hs ⟨q,j⟩ ⟨m,hd,_,(f.put k t B).keeps λc ys x=>?_,q,es,F,j,J,K,C,G⟩;rw [a7 (cq x e (λz=>nomatch z))];exact x
end
section
variable {X:Cx} {pins:List (Addr×Obj)} {σ:St} {H:Hp} {s:Shared} {a:Addr} {kvs:List (Key×V)} {k:Key} {u:Value} {A:Around} {E:Value->Shared->Prop}
theorem rE (I:Inv X pins σ H s) (e:Rd H a (.dK kvs)) (h:∀ t s',Inv X pins σ H s'->Q (.int kvs.length t) s'):wpAny (model X.prog X.w) A (call (.builtin "len") [.ref a]) Q E s:=by
 obtain ⟨z,hd,vs,b,c⟩:=V4 I.hok e;refine call_len_dict hd c (by rw [<- b.length];rw [AD] at z;omega) ?_;rw [<- b.length];exact h _ _ (I.tok _)
end
theorem bH {σ:St} {H:Hp} {s:Shared} {a:Addr} {y:V} {o:Option V} (I:Inv X pins σ H s) (g:DGet H a y o):s.TypeIs (.ref a) "dict":=by
 rcases g with ⟨d,k,e,_,_⟩ | ⟨d,k,b,e,_,_,_⟩
 ·obtain ⟨_,_,vs,_,c⟩:=V4 I.hok e;exact c.typeIs
 ·obtain ⟨_,_,xs,_,c⟩:=aV I.hok e;exact c.typeIs
theorem bP (h:Heap) (a:sysModules<h.objs.size):ObjOk P w H (h.push { cls:=.type "dict",data:=.dict #[] }) h.objs.size (.dK []):=
 ⟨Cr _,Cd.mpr (Ne.symm (Au a)),[],.nil,Heap.DictOf.new h⟩
def N6:List (TE×TE)->St->Hp->(List (V×V)->Hp->Prop)->Prop
 | [],_,H,Q=>Q [] H
 | (d,a) :: r,σ,H,Q=>d σ H λx c=>a σ c λy e=>N6 r σ e λps b=>Q ((x,y) :: ps) b
abbrev VV:List (V×V)->List (Value×Value)->Prop:=Paired λp q=>RelV p.1 q.1/\RelV p.2 q.2
def PPs (X:Cx) (pos:Pos) (b:List (Option Expr)) (a:List Expr) (c:List (TE×TE)):Prop:=
 ∀ (pins:List (Addr×Obj)) (s:Shared) (σ:St) (H:Hp) (Q:List (V×V)->Hp->Prop),Inv X pins σ H s->N6 c σ H Q ->
  wpAny (model X.prog X.w) X.A (evalPairs (pairTrees b a X.env pos)) (λvs s'=>∃ ps H',Inv X pins σ H' s'/\VV ps vs/\Q ps H') X.xe s
theorem cz:PPs X pos [] [] []:=λpins s σ H Q I h=>pairTrees_nil_walk ⟨[],H,I,.nil,h⟩
theorem ax {k v:Expr} {d:List (Option Expr)} {vs:List Expr} {e c:TE} {a:List (TE×TE)} (f:PE X k e) (m:PE X v c) (j:PPs X pos d vs a) :
  PPs X pos (some k :: d) (v :: vs) ((e,c) :: a):=λpins s σ H Q I h=>
 pairTrees_cons_walk (thn (f pins s σ H _ I h) λu l ⟨x,p,n,r,t⟩=>thn (m pins l σ p _ n t) λC A ⟨y,B,w,g,i⟩=>
  thn (j pins A σ B _ w i) λws D ⟨ps,z,o,b,q⟩=>⟨(x,y) :: ps,z,o,.cons ⟨r,g⟩ b,q⟩)
def E2 (c a:List (Key×V)):List (Key×V):=a.foldl (λb d=>p0 b d.1 d.2) c
theorem KV.merge:∀ {a:List (Key×V)} {rs:List (Key×Value)} {b:List (Key×V)} {vs:List (Key×Value)},KV a rs->KV b vs->KV (E2 b a) (merged vs rs):=by
 intro a rs b vs r;induction r generalizing b vs with
 | nil=>intro q;exact q
 | @cons p q ps f h t c=>
  intro d;have e:KV (p0 b p.1 p.2) (stored vs q.1 q.2):=by
   have:=d.put p.1 h.2;rw [<- h.1];exact this
  exact c e
theorem C9:∀ (b a:List (Key×V)),(E2 a b).length<=a.length+b.length
 | [],a=>by show a.length<=a.length+0;omega
 | p :: r,a=>by
  have d:=C9 r (p0 a p.1 p.2);have c:=A3 a p.1 p.2;show (E2 (p0 a p.1 p.2) r).length<=_;rw [Bg];omega
theorem O9:∀ {d:List (Key×V)} {ws:List (Value×Value)},VV (d.map λe=>(kV e.1,e.2)) ws->∃ rs,Carries (d8 P w) ws rs/\KV d rs
 | [],_,r=>by rw [List.map_nil] at r;cases r;exact ⟨[],True.intro,.nil⟩
 | p :: d,_,r=>by
  rw [AE] at r;cases r with
  | @cons a b j i h t=>
   obtain ⟨rs,c,q⟩:=O9 t;obtain ⟨g,f⟩:=b;exact ⟨(p.1,f) :: rs,⟨X6 h.1,rfl,c⟩,.cons ⟨rfl,h.2⟩ q⟩
def qU (b:List (TE×TE)):TE:=λσ H Q=>∀ p,H p=none->N6 b σ (upd H p (.dK [])) λps c=>c p=some (.dK [])/\∃ a:List (Key×V),ps=a.map (λd=>(kV d.1,d.2))/\a.length<=15/\Q (.ref p) (upd c p (.dK (E2 [] a)))
theorem kJ (h:PPs X pos keys values trs) (d:keys.all (·.isSome)=true) (k:keys.length=values.length) (u:keys≠[])
  (f:keys.length<=15):PE X (.Dict keys values pos) (qU trs):=by
 intro pins s σ H Q I q;have t:=I.hok.fresh (Ao s.heap.objs.size);have p:=I.laid (t':=s.toks) (λ_ _ q=>Ah _ q) (Ao _) (bP s.heap I.big);refine wpAny_Dict_walk (knd:=d8 X.prog X.w) d k u f (thn (h pins _ σ _ _ p (q _ t)) λws A ⟨ps,B,i,g,e,a,r,y,l⟩=>?_);subst r;obtain ⟨rs,c,n⟩:=O9 g;obtain ⟨z,hd,x,m,v⟩:=gN i.hok e;cases m;refine ⟨rs,c,v,λh' b hs=>⟨.ref s.heap.objs.size,_,?_,rfl,l⟩⟩;have hz:(E2 [] a).length<=sizeLine:=by
  have j:=C9 a [];rw [List.length_nil] at j;rw [AD];omega
 have o:∃ q,h'.get? s.heap.objs.size=some q:=let ⟨q,_,_,w,_⟩:=b;⟨q,w⟩
 exact F1 i (by rw [e];exact True.intro) hs o (jJ hz hd (n.merge .nil) b)
section
variable {X:Cx} {pins:List (Addr×Obj)} {σ:St} {H:Hp} {s:Shared} {a:Addr} {y d:V} {u r:Value} {o:Option V} {A:Around} {E:Value->Shared->Prop}
theorem nq (n:A.units+1<cLine) (I:Inv X pins σ H s) (g:DGet H a y o) (j:RelV y u) (h:∀ w' s',Inv X pins σ H s'->RelV (o.getD .non) w'->Q w' s') :
  wpAny (model X.prog X.w) A (call (.builtin "dict.get") [.ref a,u]) Q E s:=by
 rcases g with ⟨i,k,e,f,l⟩ | ⟨i,k,b,e,f,m,l⟩
 ·subst f;obtain ⟨z,hd,vs,c,d⟩:=V4 I.hok e;refine CQ Br d.typeIs BE (Dm _ _) (meets_dict_get (d8 X.prog X.w) a (X6 j) hd) ⟨_,d.mapOf,h _ _ (I.tok _) ?_⟩;rw [l];exact (c.val k).getD rfl
 ·subst f;cases (j);obtain ⟨z,hd,xs,c,d⟩:=aV I.hok e;refine CQ Br d.typeIs BE (Dm _ _) (meetsH_dict_get (tupleKind (d8 X.prog X.w)) a b hd) ⟨Cn n,k,xs,U2 I.hok m,d,h _ _ (I.tok _) ?_⟩;rw [l];exact (c.val k).getD rfl
theorem oj (q:A.units+1<cLine) (I:Inv X pins σ H s) (g:DGet H a y o) (m:RelV y u) (n:RelV d r) (h:∀ w' s',Inv X pins σ H s'->RelV (o.getD d) w'->Q w' s') :
  wpAny (model X.prog X.w) A (call (.builtin "dict.get") [.ref a,u,r]) Q E s:=by
 rcases g with ⟨j,k,e,i,l⟩ | ⟨j,k,b,e,i,p,l⟩
 ·subst i;obtain ⟨z,hd,vs,c,f⟩:=V4 I.hok e;refine CQ Br f.typeIs BE (Dn _ _ _) (meets_dict_get_default (d8 X.prog X.w) a (X6 m) hd r) ⟨_,f.mapOf,h _ _ (I.tok _) ?_⟩;rw [l];exact (c.val k).getD n
 ·subst i;cases (m);obtain ⟨z,hd,xs,c,f⟩:=aV I.hok e;refine CQ Br f.typeIs BE (Dn _ _ _) (meetsH_dict_get_default (tupleKind (d8 X.prog X.w)) a b hd r) ⟨Cn q,k,xs,U2 I.hok p,f,h _ _ (I.tok _) ?_⟩;rw [l];exact (c.val k).getD n
end
end L2
namespace Att
open PySem PySem.W PySem.Calls PyProof.Rows
theorem M8:∀ (ns:List Int) (vs:List Value),WellAll P h vs (ns.map WData.int)->IntsAre vs ns:=by
 intro ns;induction ns with
 | nil=>
  intro vs w;rw [List.map_nil] at w;cases w;exact .nil
 | cons n ns c=>
  intro vs w;rw [AE] at w;cases w with
  | cons a b=>
   cases a;exact .cons _ _ (c _ b)
theorem fH {l:OpenLaw} {n:Nat} (hn:l.most=some n) {P:Params} {h:Heap} {args:List WData} {vals:List Value}
  (hpre:l.row.toRowW.claim.pre args=true) (hwl:WellAll P h vals args) :
  ∃ a vs ns,vals=[Value.ref a]/\args=[WData.list (ns.map WData.int)]/\h.get? a=some { cls:=.type "list",data:=.seq vs.toArray }/\IntsAre vs ns/\ns.length<=n:=by
 have hsh:=(pre_splitW hpre).1;have hc:=(pre_splitW hpre).2;obtain ⟨d,r,rfl,h1,h2⟩:=hasAllW_cons hsh;obtain rfl:=hasAllW_nil h2;obtain ⟨xs,rfl,h3⟩:=hasW_list h1;obtain ⟨ns,rfl⟩:=items_int h3;have hlen:ns.length<=n:=by
  have h4:(WTm.not (.lt (.lit (.int (n:Int))) (.len (.arg 0)))).holds [] { args:=[.list (ns.map .int)] }=true:=by
   have h4:=(holds_andW hc).1;rw [hn] at h4;exact h4
  have h5:=condW_of h4 (w_not (w_lt w_lit (w_len_list (w_arg rfl))));rw [An] at h5;refine BW λq=>?_;have q':(n:Int)<((ns.length:Nat):Int):=by omega
  first
   | (rw [AO q'] at h5;exact absurd h5 (by decide))
   | (simp at h5;omega)
 cases hwl with
 | cons w1 w2=>
  cases w2;cases w1 with
  | list ho hall=>exact ⟨_,_,ns,rfl,rfl,ho,M8 ns _ hall,hlen⟩
theorem eh (l:OpenLaw) (a:List WData):l.row.toRowW.claim.post a (.bool true) a=true:=
 postW_of
  (show WShape.has [] (.bool true) .bool=true by first | rfl | decide | simp [WShape.has,WShape.arms,WShape.armsAll])
  (w_eq_bool (w_res rfl) w_lit) rfl
theorem attach_call {l:OpenLaw} {n:Nat} {q:Program} {e:List Str} {H:(Str->Option Value)->Heap->Prop} {D:World->Heap->Prop} {d:DefRec}
  (M:l.most=some n) (z:d.params.defaults=[])
  (k:∀ (w:World) (c b:Shared) (s A:Str->Option Value) (m:Addr) (o:Obj) (x t g:Value) (a:Addr) (vs:List Value) (ns:List Int),
   Ground q e [] H w c s A b.heap->D w b.heap ->
   b.heap.get? m=some o->o.data=.func (docDef d.name d.params d.body d.scope x t g)->b.heap.CodeRec t d.name->s d.name=some (.ref m) ->
   b.heap.get? a=some { cls:=.type "list",data:=.seq vs.toArray }->IntsAre vs ns->ns.length<=n->b.gens=#[] ->
   codeAny (model l.prog w) callerA (.call (.ref m) ⟨[.ref a],[]⟩) (λr s'=>r=.ok (.ret (.bool true))/\OldK b.heap s'.heap/\s'.os=b.os/\AllBare s'.gens) b) :
  WalkO q e H D l.row.toRowW d [] (λf vs=>PySem.call f vs):=by
 intro w c b s A G Y m o x t g L I Q hd y B v S E C U j F P u K;obtain rfl:L=.none:=Dflts.none B z;obtain rfl:I=.none:=Dflts.noKw B;obtain ⟨a,vs,ns,rfl,rfl,i,h,p⟩:=fH M j u;refine enter_call (BV (k w c b s A m o x t g a vs ns G Y Q (fd_plain hd) y v i h p S) λr s' R=>?_);obtain ⟨rfl,N,T,J⟩:=R;exact ⟨.inl ⟨.bool true,.bool true,[],rfl,λ_=>rfl,.bool true,eh l _,λ_=>⟨List.Pairwise.nil,λ_ O=>(nomatch O)⟩⟩,N,T,J⟩
end Att
namespace L2
open PySem PySem.Spec PyProof.Rows
theorem W5:∀ {vs:List Value} {ns:List Int},IntsAre vs ns->Vals (ns.map V.int) vs
 | _,_,.nil=>.nil
 | _,_,.cons n t h=>.cons ⟨t,rfl⟩ (W5 h)
def pJ (H:Hp):Prop:=∀ b,H b=none\/∃ o xs,H b=some (.frz o (.lst xs))
theorem iU {K:PySem.W.Frag} {mg mb:Str->Option Value} {CX:CXT} {k:Nat} {fa a:Addr} {fd:FuncData} {x:Str} {sp:Sp} {s₁:Shared} {vs:List Value} {ns:List Int}
  (KX:K.In s₁.heap) (hns:s₁.heap.Ns mainGlobals mg) (hb:s₁.heap.Ns builtinsNs mb) (hbb:∀ x:Str,x ≠ "__name__"->mb x=bootBuiltins x) (hlim:s₁.heap.NoLimit) (hg:s₁.gens=#[])
  (ha:s₁.heap.get? a=some { cls:=.type "list",data:=.seq vs.toArray }) (hi:IntsAre vs ns) (hl:ns.length<=sizeLine) (hr:Room false k callerA)
  (F:∀ base:Heap,K.In base->base.Ns mainGlobals mg->FnOk P w K mg base CX k fa fd [x] sp) (hbind:∀ (s:Shared) (u:Value),BindsTo s fd ⟨[u],[]⟩ [(x,u)])
  (hsp:∀ H:Hp,pJ H->SqL K H a (ns.map V.int)->sp [.ref a] H (λv _=>v=.bl true) λ_ _ _=>False)
  (hCX:∀ H e s',CX [] H s₁ (λ_ _ _=>False) e s'->False) :
  codeAny (model P w) callerA (.call (.ref fa) ⟨[.ref a],[]⟩) (λr s'=>r=.ok (.ret (.bool true))/\OldK s₁.heap s'.heap/\s'.os=s₁.os/\AllBare s'.gens) s₁:=by
 have rv:=W5 hi;have lenV:=hi.length;have core:∀ H:Hp,pJ H->SqL K H a (ns.map V.int)->HOk P w H s₁.heap->(∀ b,H b≠none->b=a)->(H a≠none->K.lookup a=none) ->
   codeAny (model P w) callerA (.call (.ref fa) ⟨[.ref a],[]⟩) (λr s'=>r=.ok (.ret (.bool true))/\OldK s₁.heap s'.heap/\s'.os=s₁.os/\AllBare s'.gens) s₁:=by
  intro H hO hS hok hA hK;have B8:∀ {b:Addr} {o:Obj},s₁.heap.get? b=some o->H b=none->(aa s₁.heap H).get? b=some o:=λe n=>il e n;have noA:∀ {b:Addr} {o:Obj} {es:Array DictEntry} {ep:Nat},s₁.heap.get? b=some o->o.data=.dict es ep->H b=none:=λ{b o es ep} e d=>by
   cases q:H b with
   | none=>rfl
   | some u=>
    have e':=hA b (by rw [q];simp);subst e';rw [ha] at e;cases e;have d':=d;cases d'
  have nsK:∀ {b:Addr} {m:Str->Option Value},s₁.heap.Ns b m->(aa s₁.heap H).Ns b m:=λ{b m} ⟨o,es,ep,e,d,r⟩=>⟨o,es,ep,B8 e (noA e d),d,r⟩;have hKb:=λb o e=>B8 (KX b o e) (by
   cases q:H b with
   | none=>rfl
   | some u=>
    have e':=hA b (by rw [q];simp);subst e';rw [hK (by rw [q];simp)] at e;cases e)
  have hM:Mod K mg (aa s₁.heap H):=⟨hKb,nsK hns,⟨mb,nsK hb,hbb⟩,let ⟨mc,h1,h2⟩:=hlim;⟨mc,nsK h1,h2⟩⟩;have e0:Env0 P w K mg (aa s₁.heap H) callerA [] s₁ H:=⟨rfl,hM,λb o e=>kG e,Nat.le_of_eq (eR _ _),trivial,λb hb=>absurd (show b∈([]:List Addr) from hb) (by simp),hok,.of_eq hg⟩;refine BV ((F _ hKb (nsK hns)).run callerA [] s₁ H ⟨[.ref a],[]⟩ [.ref a] [.ref a] _ _ hr.any e0 (hbind s₁ (.ref a)) (.cons rfl .nil) (hsp H hO hS)) λr s' h=>?_;cases r with
  | error e=>exact (hCX H e s' h).elim
  | ok fl=>
   cases fl with
   | next=>exact False.elim h
   | brk=>exact False.elim h
   | cont=>exact False.elim h
   | ret u=>
    obtain ⟨v,H',os,bare,un,hok',r',q⟩:=h;have q':=q;subst q';obtain rfl:u=Value.bool true:=r';refine ⟨rfl,OldK.of_keep λb o e=>?_,os,bare⟩;cases q:H b with
    | none=>exact un.keep b o e q (by intro z;exact absurd (show b∈([]:List Addr) from z) (by simp)) (by simp)
    | some u=>
     rcases hO b with z | ⟨ob,xs,z⟩
     ·rw [q] at z;cases z
     ·have z2:=un.frzs b ob _ z;obtain ⟨e1,_⟩:=hok b _ z;obtain ⟨e2,_⟩:=hok' b _ z2;rw [e] at e1;cases e1;exact e2
 cases hk:K.lookup a with
 | some o=>
  have e:=KX a o hk;rw [ha] at e;cases e;refine core (λ_=>none) (λ_=>.inl rfl) (.inr ⟨_,vs.toArray,_,hk,rfl,rfl,rfl,by rw [As,lenV];exact hl,by simpa using rv⟩) (λb u z=>by have z':=z;cases z') (λb z=>absurd rfl z) λz=>absurd rfl z
 | none=>
  refine core (λb=>if b=a then some (.frz { cls:=.type "list",data:=.seq vs.toArray } (.lst (ns.map V.int))) else none) (λb=>?_) (.inl (.inr ⟨{ cls:=.type "list",data:=.seq vs.toArray },if_pos rfl⟩)) (λb u z=>?_) (λb z=>?_) λ_=>hk
  ·grind
  ·by_cases hb:b=a
   ·have z':=(if_pos hb).symm.trans z;cases z';subst hb;exact ⟨ha,by rw [An];exact hl,vs,_,rv,ha⟩
   ·grind
  ·grind
theorem walk_of {l:PySem.W.OpenLaw} {n k:Nat} {q:Program} {g:List Str} {Q:(Str->Option Value)->Heap->Prop} {D:World->Heap->Prop} {d:DefRec} {K:Params->PySem.W.Frag} {CX:World->CXT} {sp:World->Sp} {x:Str}
  (O:l.most=some n) (A:n<=sizeLine) (B:d.params.defaults=[]) (M:Room false k callerA)
  (S:∀ (w:World) (h:Heap),D w h->(K w.params).In h)
  (F:∀ (w:World) (j:Str->Option Value) (r:Addr) (h:Heap),(K w.params).In h->h.Ns mainGlobals j->j d.name=some (.ref r) ->
   ∃ fd:FuncData,(∀ (s:Shared) (u:Value),BindsTo s fd ⟨[u],[]⟩ [(x,u)]) /\
    ∀ b:Heap,(K w.params).In b->b.Ns mainGlobals j->FnOk l.prog w (K w.params) j b (CX w) k r fd [x] (sp w))
  (t:∀ (w:World) (H:Hp) (a:Addr) (ns:List Int),ns.length<=n->pJ H->SqL (K w.params) H a (ns.map V.int)->sp w [.ref a] H (λv _=>v=.bl true) λ_ _ _=>False)
  (z:∀ (w:World) (H:Hp) (s:Shared) (e:Value) (s':Shared),CX w [] H s (λ_ _ _=>False) e s'->False) :
  PySem.W.WalkO q g Q D l.row.toRowW d [] (λf vs=>PySem.call f vs):=by
 refine Att.attach_call O B λw C m j Z r o U W J a vs ns G Y X hd P y p i c R=>?_;have E:=S w _ Y;obtain ⟨fd,N,I⟩:=F w j r _ E G.T.g y;exact iU E G.T.g G.T.b G.T.builtins G.T.nolimit R p i (AQ c A) M I N (λH T L=>t w H a ns c T L) λH e s'=>z w H m e s'
def cw (s:Stmt) (j:Nat):Stmt:=match s with
 | .ClassDef _ _ _ body _ _ _ _ _ _ _=>body.getD j (.Pass ⟨0,0,0,0⟩)
 | _=>.Pass ⟨0,0,0,0⟩
def j8 (s:Stmt):Arguments:=match s with
 | .FunctionDef _ a _ _ _ _ _ _ _ _=>a
 | _=>{ posonlyargs:=[],args:=[],vararg:=none,kwonlyargs:=[],kw_defaults:=[],kwarg:=none,defaults:=[] }
def i4 (s:Stmt):List Stmt:=match s with
 | .FunctionDef _ _ b _ _ _ _ _ _ _=>b
 | _=>[]
def b7 (s:Stmt):Scope:=match s with
 | .FunctionDef _ _ _ _ _ _ a _ _ _=>a
 | _=>{ kind:=.function,names:=[],isGenerator:=false,isCoroutine:=false }
abbrev CX0:CXT:=⟨λ_ _ _ _ _ _=>False,false⟩
abbrev E0:XK:=λ_ _ _=>False
theorem dP:u9 CX0 X E0:=λ_ _ _ _ _ _ _ h=>False.elim h
structure Fun (K:PySem.W.Frag) (x qual:Str) (st:Stmt) (f:Addr) (fd:FuncData):Prop where
 ex:∃ (oc:Value) (od:Option Addr) (kV doc pm:Value) (an:Option Addr) (cdv ct:Value) (osl:Array (Option Value)),
  fd=PySem.W.fnOf x qual (j8 st) (i4 st) (b7 st) .none kV doc pm an cdv ct/\K.lookup f=some ⟨oc,od,.func fd,osl⟩/\PySem.W.codeIn K cdv qual=true
 kp:PySem.W.keepIn K (.ref f)=true
section
variable {P:Program} {w:World} {K:PySem.W.Frag} {mg:Str->Option Value} {base:Heap}
theorem Fun.ok {st:Stmt} {f:Addr} {fd:FuncData} {N ps:List Str} {k:Nat} {sp:Sp} (F:Fun K x qual st f fd) (S:FnScope N ps (b7 st)) (e:∀ vs H Q E,sp vs H Q E->vs.length=ps.length)
  (c:∀ (b:Value) (A:Around) (a:List Env) (s:Shared) (H:Hp) (vs:List V) (Q:VK) (E:XK),Room false k (A.deeper (envOfC qual (b7 st) s.heap.objs.size f b))->sp vs H Q E ->
   ∃ t,PSs (U6 CX0 P w K mg base N qual (b7 st) f b A a s H E).nox (i4 st) t/\t { nx:=λ_ H'=>Q .non H',rt:=Q } (start N vs) H):FnOk P w K mg base CX0 (k+1) f fd ps sp:=by
 obtain ⟨n,od,r,i,p,u,b,o,m,rfl,j,g⟩:=F.ex;refine mP j g S e λA a s H vs Q E l d=>?_;obtain ⟨t,h,q⟩:=c b A a s H vs Q E l d;exact ⟨t,h.nox,q⟩
theorem Fun.binds {st:Stmt} {f:Addr} {fd:FuncData} {ps:List Str} (F:Fun K x qual st f fd)
  (h:∀ (e b c:Value) (g:Option Addr) (a d:Value) (us:List Value),us.length=ps.length->bindArgs (PySem.W.fnOf x qual (j8 st) (i4 st) (b7 st) .none e b c g a d) ⟨us,[]⟩=pure (ps.zip us)):Binds K fd ps []:=by
 obtain ⟨k,od,e,b,c,g,a,d,j,rfl,l,i⟩:=F.ex;exact .all (h e b c g a d)
theorem Z2 {st:Stmt} {f:Addr} {j:Value} {od h:Option Addr} {d:Array (Option Value)} {i b e a g:Value} (l:K.lookup f=some ⟨j,od,.func (PySem.W.fnOf x qual (j8 st) (i4 st) (b7 st) .none i b e h a g),d⟩)
  (c:PySem.W.codeIn K a qual=true) (k:PySem.W.keepIn K (.ref f)=true):Fun K x qual st f (PySem.W.fnOf x qual (j8 st) (i4 st) (b7 st) .none i b e h a g):=⟨⟨j,od,i,b,e,h,a,g,d,rfl,l,c⟩,k⟩
end
theorem rM {k:Nat} (a:Room q k A):A.units+1<cLine:=Nat.lt_of_le_of_lt (Nat.add_le_add_left (by decide:1<=64) _) a.units
section
variable {X:Cx}
theorem pv (i:Nat) {x:Str} {pos:Pos} (c:X.N[i]?=some x:=by rfl) (b:Vis X.env.scope x:=by first | exact Or.inl rfl | exact Or.inr (Or.inl rfl) | exact Or.inr (Or.inr rfl)) (hd:(x==("__debug__" : Str))=false:=by decide)
  (a:(x==("__classdict__" : Str))=false:=by decide):PE X (.Name x pos) (oQ i):=ip c b hd a
theorem fA:A4 X (.builtin "len") (λxs H Q=>∃ a b,xs=[V.ref a]/\H a=some (.dK b)/\Q (.int b.length) H):=by
 intro pins s σ H xs us Q I r h;obtain ⟨a,b,rfl,d,q⟩:=h;obtain ⟨u,rfl,e⟩:=av r;cases e;exact rE I (.inl d) λt s' c=>⟨.int b.length,H,c,⟨t,rfl⟩,q⟩
end
theorem cV {A B:Prop} (h:A):if true=true then A else B:=by grind
def Same (H H':Hp):Prop:=∀ b o,H b=some o->H' b=some o
theorem Same.seq {K:PySem.W.Frag} {H H':Hp} {a:Addr} {xs:List V} (e:Same H H') (h:SqL K H a xs):SqL K H' a xs:=by
 rcases h with (h | ⟨o,h⟩) | h
 ·exact .inl (.inl (e _ _ h))
 ·exact .inl (.inr ⟨o,e _ _ h⟩)
 ·exact .inr h
theorem O1 {b a:Type} (g:a->b->a) {f:b->a->Sem (ForInStep a)}:∀ (l:List b) (c:a),(∀ x∈l,∀ c,f x c=pure (.yield (g c x)))->forIn l c f=pure (l.foldl g c)
 | [],_,_=>rfl
 | x :: l,c,h=>by
  rw [BI,h x Aq,pure_bind];exact O1 g l (g c x) λy d=>h y (Ar _ d)
def i9 (cells:List (Str×Addr)) (a:List (Str×Addr)) (x:Str×NameKind):List (Str×Addr):=if x.2=NameKind.free then (x.1,(cells.lookup x.1).getD 0) :: a else a
def D6 (cells:List (Str×Addr)) (a:List (Str×NameKind)):List (Str×Addr):=a.foldl (i9 cells) []
theorem m6 (h:∀ x∈scope.names,x.2=NameKind.free->∃ c,env.cells.lookup x.1=some c):closureFor scope env=pure (D6 env.cells scope.names):=by
 simp only [closureFor];rw [O1 (i9 env.cells) scope.names [] (λx e c=>by
  obtain ⟨n,k⟩:=x;by_cases b:k=NameKind.free
  ·subst b;obtain ⟨a,d⟩:=h _ e rfl;simp [cellOf,i9,d]
  ·have:(k==NameKind.free)=false:=by simpa using b
   simp [i9,b,this])]
 rfl
theorem D7:∀ (b:List (Str×NameKind)) (f:List (Str×Addr)),(∀ x∈b,x.2=NameKind.free->∃ c,cells.lookup x.1=some c)->(∀ x c,f.lookup x=some c->cells.lookup x=some c) ->
  ∀ x c,(b.foldl (i9 cells) f).lookup x=some c->cells.lookup x=some c
 | [],_,_,g,x,c,e=>g x c e
 | y :: r,f,h,g,x,c,e=>by
  refine D7 r (i9 cells f y) (λz hz=>h z (Ar _ hz)) (λz d q=>?_) x c e;unfold i9 at q;split at q
  ·rename_i i;obtain ⟨a,j⟩:=h y Aq i;rw [BX] at q;split at q
   ·grind
   ·exact g z d q
  ·exact g z d q
theorem N8:∀ (b:List (Str×NameKind)) (a:List (Str×Addr)) (x:Str),(a.lookup x).isSome=true->((b.foldl (i9 cells) a).lookup x).isSome=true
 | [],_,_,h=>h
 | y :: r,a,x,h=>by
  refine N8 r (i9 cells a y) x ?_;unfold i9;split
  ·grind
  ·exact h
theorem P6:∀ (a:List (Str×NameKind)) (b:List (Str×Addr)) (x:Str),(x,NameKind.free)∈a->((a.foldl (i9 cells) b).lookup x).isSome=true
 | [],_,_,h=>nomatch h
 | y :: r,b,x,h=>by
  rcases AJ.mp h with h | h
  ·subst h;refine N8 r _ x ?_;simp [i9]
  ·exact P6 r _ x h
theorem mem_of_lookup {c d:Type} [BEq c] [LawfulBEq c]:∀ {l:List (c×d)} {x:c} {y:d},l.lookup x=some y->(x,y)∈l
 | [],_,_,h=>by simp at h
 | (a,b) :: r,x,y,h=>by
  rw [BX] at h;split at h
  ·rename_i e;have:x=a:=by simpa using e
   cases h;subst this;exact Aq
  ·exact Ar _ (mem_of_lookup h)
theorem M1 {f:Str×NameKind->Str×NameKind} (a:∀ y,(f y).1=y.1):∀ (l:List (Str×NameKind)) (x:Str),(l.map f).lookup x=(l.lookup x).map λk=>(f (x,k)).2
 | [],_=>rfl
 | (n,k) :: r,x=>by
  rw [AE,show f (n,k) :: r.map f=((f (n,k)).1,(f (n,k)).2) :: r.map f from rfl,BX,BX,a];cases b:x==n with
  | true=>
   have e:x=n:=by simpa using b
   subst e;rfl
  | false=>exact M1 a r x
def rlF (a:Env) (y:Str×NameKind):Str×NameKind:=if (y.2==.free&&a.scope.kind==.function&&a.kindOf y.1==some .cell) then (y.1,.cell) else (y.1,y.2)
theorem mM (a:Env) (y:Str×NameKind):(rlF a y).1=y.1:=by unfold rlF;split <;> rfl
theorem A5 (a:Scope) (b:Env) (x:Str):(relabel a b).names.lookup x=(a.names.lookup x).map λk=>(rlF b (x,k)).2:=M1 (mM b) a.names x
theorem U7 {scope:Scope} {env:Env} {x:Str} (h:scope.names.lookup x=some .free):(relabel scope env).names.lookup x=some .cell\/(relabel scope env).names.lookup x=some .free:=by
 rw [A5,h];show some (rlF env (x,.free)).2=_\/some (rlF env (x,.free)).2=_;unfold rlF;split
 ·exact .inl rfl
 ·exact .inr rfl
theorem E7 (h:(relabel scope env).names.lookup x=some k) (d:k=.cell\/k=.free) (b:∀ y∈scope.names,y.2≠NameKind.cell):scope.names.lookup x=some .free:=by
 rw [A5] at h;cases e:scope.names.lookup x with
 | none=>rw [e] at h;cases h
 | some a=>
  rw [e] at h;have h':(rlF env (x,a)).2=k:=AH h;have c:=b (x,a) (mem_of_lookup e);unfold rlF at h';split at h'
  ·grind
  ·grind
theorem HOk.sameBut {a:Addr} (g:HOk P w H h) (f:H a=none) (hs:Heap.SameBut a h h'):HOk P w H h':=λb ob e=>by
 refine (g b ob e).stay (λc w' d q=>(hs.2 c ?_).trans q) (λ_ q=>q) λ_ _ q=>q;rintro rfl;rcases d with rfl | d
 ·rw [f] at e;cases e
 ·rw [f] at d;cases d
theorem Un.sameBut {C:Addr} (u:Un fs ex H H' h h1) (hs:Heap.SameBut C h1 h') (g:h.objs.size<=C):Un fs ex H H' h h':=by
 have d:∀ b o,h.get? b=some o->b≠C:=λb o e=>Au (Ay (Ap e) g);exact ⟨λb o e n c a=>(hs.2 b (d b o e)).trans (u.keep b o e n c a),λb o e n c a=>let ⟨f,q⟩:=u.slot b o e n c a;⟨f,(hs.2 b (d b o e)).trans q⟩,u.free,
  λb o e a=>let ⟨o',q⟩:=u.there b o e a;⟨o',(hs.2 b (d b o e)).trans q⟩,u.tups,u.frzs,u.tbls⟩
def cxComp (X:Cx) (pins:List (Addr×Obj)) (N':List Str) (a:Scope) (C:Addr) (b:List Addr) (s:Shared) (H:Hp):Cx where
 prog:=X.prog
 w:=X.w
 K:=X.K
 mg:=X.mg
 base:=X.base
 A:=X.A
 N:=N'
 s₀:=s
 H₀:=H
 env:=compEnvC a (D6 X.env.cells a.names) C X.env
 outer:=X.stack
 stack:=X.stack
 ex:=b
 fn:=λ_=>false
 calm:=X.calm
 pn:=X.pn++pins
 xe:=λ_ _=>False
structure CompText (N:List Str) (env:Env) (N':List Str) (k:Nat) (caps:List Nat) (scope:Scope):Prop where
 kind:scope.kind=.function
 cell:∀ y∈scope.names,y.2≠NameKind.cell
 loc:∀ y∈scope.names,y.2=NameKind.local->scope.names.lookup y.1=some .local
 free:∀ y∈scope.names,y.2=NameKind.free->scope.names.lookup y.1=some .free/\(env.scope.names.lookup y.1=some .cell\/env.scope.names.lookup y.1=some .free)
 cps:∀ (j i:Nat),caps[j]?=some i->∃ x,N[i]?=some x/\N'[k+j]?=some x/\scope.names.lookup x=some .free
 len:N'.length=k+caps.length
def n8 (caps:List Nat) (σ:St):St:=caps.map λi=>(σ[i]?).join
theorem fy {caps:List Nat} {σ:St} {j:Nat} {v:V} (h:(n8 caps σ)[j]?=some (some v)):∃ i,caps[j]?=some i/\σ[i]?=some (some v):=by
 unfold n8 at h;rw [AM] at h;cases e:caps[j]? with
 | none=>rw [e] at h;cases h
 | some i=>
  rw [e] at h;refine ⟨i,rfl,?_⟩;have h':(σ[i]?).join=some v:=AH h;cases q:σ[i]? with
  | none=>rw [q] at h';cases h'
  | some o=>rw [q] at h';exact congrArg some h'
section
variable {X:Cx} {pins:List (Addr×Obj)} {σ:St} {H:Hp} {s:Shared} {N':List Str} {k:Nat} {caps:List Nat} {scope:Scope} {fp:List Addr}
theorem ki (T:CompText X.N X.env N' k caps scope) (I:Inv X pins σ H s) (i:∀ b∈fp,y3 X pins H b) {C:Addr} (n:s.heap.objs.size<=C) (j:∀ b∈fp,b<s.heap.objs.size):(cxComp X pins N' scope C fp s H).Ok:=by
 have p:∀ x∈scope.names,x.2=NameKind.free->∃ c,X.env.cells.lookup x.1=some c:=λx g q=>I.ok.has x.1 (T.free x g q).2;have f:=D7 scope.names [] p λx c e=>by simp at e
 refine ⟨I.mod,?_,I.ok.glob,I.ok.blt,n,λx y c a b=>I.ok.inj x y c (f x c a) (f y c b),λx g=>?_,λx c m=>(by cases m),I.ok.hd,I.ok.frames,.inl rfl,λb d=>⟨?_,λx c e=>(i b d).2.2.2.2.1 x c (f x c e)⟩,I.bs,?_,λb o e d=>?_,λb d l=>?_,I.stack,I.stkFree⟩
 ·exact T.kind
 ·have h:scope.names.lookup x=some .free:=by
   rcases g with g | g
   ·exact E7 g (.inl rfl) T.cell
   ·exact E7 g (.inr rfl) T.cell
  exact AY.mp (P6 scope.names [] x (mem_of_lookup h))
 ·exact Au (Ay (j b d) n)
 ·exact AQ I.ok.bsz I.sz
 ·rcases (i b d).2.2.2.1 with z | z
  ·exact I.ok.noex b o e z
  ·exact absurd (Ay (Ap (I.ok.bs b o e).1) z) (Ci _)
 ·rcases AJ.mp (I.stkSub b l) with z | z
  ·exact (i b d).2.1 z
  ·exact (i b d).2.2.1 z
theorem y4 (T:CompText X.N X.env N' k caps scope) (I:Inv X pins σ H s) (hf:∀ b∈fp,y3 X pins H b) (hlt:∀ b∈fp,b<s.heap.objs.size) {h':Heap} {m:Str->Option Value} {t:Nat}
  (hn:h'.Ns (s.heap.objs.size+1) m) (hk:∀ b o,s.heap.get? b=some o->h'.get? b=some o) (ha:h'.get? s.heap.objs.size=some { cls:=.type "list",data:=.seq #[] }) :
  Inv (cxComp X pins N' scope (s.heap.objs.size+1) fp s H) [] (List.replicate k none++n8 caps σ) (upd H s.heap.objs.size (.lst [])) { s with heap:=h',toks:=t }:=by
 have ok:=ki T I hf (C:=s.heap.objs.size+1) (Bw _) hlt;have fr:∀ x∈scope.names,x.2=NameKind.free->∃ c,X.env.cells.lookup x.1=some c:=λx hx hk=>I.ok.has x.1 (T.free x hx hk).2;have snd:∀ x c,(D6 X.env.cells scope.names).lookup x=some c->X.env.cells.lookup x=some c:=D7 scope.names [] fr λx c e=>by simp at e
 have nacc:H s.heap.objs.size=none:=I.hok.fresh (Ao _);have lt:∀ b u,H b=some u->b<s.heap.objs.size:=λb u e=>I.hok.lt e;refine ⟨ok,rfl,I.bare,Un.laid hk (Ao _) nacc,⟨m,hn,λi x v e1 e2 e3=>?_⟩,λx c e=>?_,?_,λx c e=>?_,λp hp=>?_,I.hok.laid hk (Ao _) ⟨Cr _,[],_,.nil,ha⟩,?_⟩
 ·by_cases hi:i<k
  ·rw [Al (by simpa using hi)] at e2;simp [hi] at e2
  ·rw [AA (by simpa using BW hi)] at e2;rw [BM] at e2;obtain ⟨j,hj,hv⟩:=fy e2;obtain ⟨y,h1,h2,h3⟩:=T.cps _ _ hj;have hik:k+(i-k)=i:=by omega
   rw [hik] at h2;have hxy:y=x:=AH (h2.symm.trans e1);subst hxy;have hvis:=(T.free (y,.free) (mem_of_lookup h3) rfl).2;obtain ⟨mX,hnX,hlX⟩:=I.loc;obtain ⟨u,r,l⟩:=hlX j y v h1 hv (by rcases hvis with z | z;exact .inr (.inl z);exact .inr (.inr z));refine ⟨u,r,?_⟩;rcases l with ⟨hk',_⟩ | ⟨_,c,hc,hcell⟩
   ·have hk'':X.env.scope.names.lookup y=some .local:=hk';rcases hvis with z | z
    ·rw [hk''] at z;cases z
    ·rw [hk''] at z;cases z
   ·obtain ⟨c',hc'⟩:=AY.mp (P6 (cells:=X.env.cells) scope.names [] y (mem_of_lookup h3));have:c'=c:=AH ((snd y c' hc').symm.trans hc);subst this;obtain ⟨oc,ho,hd⟩:=hcell;exact .inr ⟨U7 h3,c',hc',oc,hk _ _ ho,hd⟩
 ·obtain ⟨v,oc,ho,hd⟩:=I.cell x c (snd x c e);exact ⟨v,oc,hk _ _ ho,hd⟩
 ·show upd H s.heap.objs.size (.lst []) (s.heap.objs.size+1)=none;rw [a7 (Do _)];exact I.hok.fresh (Bw _)
 ·obtain ⟨v,oc,ho,hd⟩:=I.cell x c (snd x c e);rw [a7 (Au (Ap ho))];exact I.freeC x c (snd x c e)
 ·have hp':p∈X.pn++pins:=by
   have:p∈(X.pn++pins)++[]:=hp;rwa [AI] at this
  obtain ⟨e,n,ne,nf,d⟩:=I.pin p hp';refine ⟨hk _ _ e,?_,Au (Bb (Ap e)),λhb=>?_,d⟩
  ·rw [a7 (Au (Ap e))];exact n
  ·rcases AJ.mp (I.stkSub p.1 hb) with z | z
   ·exact ne z
   ·exact nf z
 ·show _=N'.length;rw [T.len,AV,BM];unfold n8;rw [An]
end
def PTL (X:Cx) (ifs:List Expr) (t:TT):Prop:=
 ∀ (pins:List (Addr×Obj)) (s:Shared) (σ:St) (H:Hp) (Q:Bool->Hp->Prop),Inv X pins σ H s->t σ H Q ->
  wpAny (model X.prog X.w) X.A (forIn ifs true λc r=>if r=true then do let a <- isTrue c X.env (eval c X.env);pure (ForInStep.yield a) else pure (ForInStep.yield r)) (TP X pins σ Q) X.xe s
def tTrue:TT:=λ_ H Q=>Q true H
theorem kU:PTL X [] tTrue:=λ_ _ _ H _ I h=>by
 rw [CW];exact Aj ⟨H,I,h⟩
theorem ko (h:PT X c t):PTL X [c] t:=λpins s σ H Q I q=>by
 rw [BI];refine Ag ?_;rw [if_pos rfl];refine Ag (thn (h pins s σ H Q I q) λb s' ⟨H',d,a⟩=>Aj ?_);dsimp only;rw [CW];exact Aj ⟨H',d,a⟩
def fu (caps:List Nat) (j:TI) (h:TT) (te:TE):TE:=λσ H Q=>j σ H λJ g=>∀ a,g a=none->∃ W:Nat->Nat->List V->Hp->Prop,(∃ m,W 0 m [] (upd g a (.lst []))) /\
 ∀ i m ys c,W i m ys c->c a=some (.lst ys)/\((J.stop i c/\Q (.ref a) c)\/(J.go i c/\∀ x f,J.yld i c x f->h (some x :: n8 caps σ) f λb e=>
  if b=true then te (some x :: n8 caps σ) e λy d=>d a=some (.lst ys)/\ys.length<sizeLine/\∃ m',m'<m/\W (i+1) m' (ys++[y]) (upd d a (.lst (ys++[y])))
  else ∃ m',m'<m/\W (i+1) m' ys e))
theorem E8 {a:Type} {t:Sem a} {Q:a->Shared->Prop} {u:Sem Unit} (c:u=pure ()) (h:wpAny M A u (λ_ b=>wpAny M A t Q E b) E s):wpAny M A t Q E s:=by
 have d:=Ag h;grind
theorem b9 {s:Shared} {a:Type} {t:Sem a} {Q:a->Shared->Prop} (h:wpAny M A t Q (λ_ _=>False) s):wpAny M A t Q E s:=AK h (λ_ _ q=>q) λ_ _ q=>q.elim
theorem dD {O A:Expr} {x:Str} {px:Pos} {ifs:List Expr} {a:Scope} {pos:Pos} {N':List Str} {caps:List Nat} {wi:TI} {tc:TT} {te:TE}
  (T:CompText X.N X.env N' 1 caps a) (hc:X.calm=true) (hN:N'.Nodup) (hx0:N'[0]?=some x) (hxl:a.names.lookup x=some .local) (hi:PI X (.Name x px) A wi)
  (ht:∀ pins C g s H,PTL (cxComp X pins N' a C g s H) ifs tc) (he:∀ pins C g s H,PE (cxComp X pins N' a C g s H) O te)
  (hs:∀ x,foldedSetIterable A X.env x=pure x:=by intro _;rfl):PE X (.ListComp O [⟨.Name x px,A,ifs,0⟩] a pos) (fu caps wi tc te):=by
 intro pins s σ H Q I h;have fr:∀ x∈a.names,x.2=NameKind.free->∃ c,X.env.cells.lookup x.1=some c:=λx hx hk=>I.ok.has x.1 (T.free x hx hk).2;rw [DF];refine By rfl hs (m6 fr) T.kind T.loc ?_;refine thn (hi pins s σ H _ I h) λv s1 h1=>thn h1 λitv f h2=>?_;obtain ⟨it,g,tn,J,E,rfl,I2,G,st2,f2,h2⟩:=h2;obtain ⟨W,⟨m0,w0⟩,turn⟩:=h2 f.heap.objs.size (I2.hok.fresh (Ao _));have hlt:=λb l=>let ⟨o,e,_⟩:=G.obj _ _ st2 b l;Ap e
 refine AS (BU T.cell (by intro y hy;simp at hy) (λh₁ m k=>?_) T.kind);have hC:(f.heap.push { cls:=.type "list",dict:=none,data:=.seq ([]:List Value).toArray }).objs.size=f.heap.objs.size+1:=Bq ..;rw [hC] at m k;have old:=λb o e=>k.extBut b o (Au (Bb (Ap e))) (Ah _ (Ah _ e));have hacc:=k.extBut _ _ (Au (AF _)) (Ah _ (Ax _ rfl));have w:=G.keep _ _ _ st2 λb _ o e=>old b o e;have I3:=y4 (t:=f.toks+([]:List (Str×Value)).length) T I2 f2 hlt m old hacc;have D:∀ {H':Hp},(∀ b∈g,H' b=none)->∀ b∈g,y3 (cxComp X pins N' a (f.heap.objs.size+1) g f E) [] H' b:=λhn b l=>by
  refine ⟨hn b l,(I3.ok.exf b l).1,I3.ok.exfs b l,.inl l,(I3.ok.exf b l).2,λp hp=>?_⟩;have hp':p∈X.pn++pins:=by
   have:=hp;rwa [AI] at this
  exact (f2 b l).2.2.2.2.2 p hp'
 have F:∀ s3:Shared,s3={ f with heap:=h₁,toks:=f.toks+([]:List (Str×Value)).length } ->
   codeAny (model X.prog X.w) X.A (.compLoop (.ListComp O [⟨.Name x px,A,ifs,0⟩] a pos) 0 (.ref it) (.ref f.heap.objs.size) (compEnvC a (D6 X.env.cells a.names) (f.heap.objs.size+1) X.env))
    (compPost (model X.prog X.w) X.A X.xe none (EP X pins σ Q) (.ref f.heap.objs.size) (f.heap.objs.size+1)) s3:=by
  rintro s3 rfl;refine codeAny_compLoop_tests (λn s'=>∃ i ys H',Inv (cxComp X pins N' a (f.heap.objs.size+1) g f E) [] (none :: n8 caps σ) H' s'/\tn i s'.heap/\(∀ b∈g,H' b=none)/\W i n ys H') ?_ m0
   ⟨0,[],_,I3,w,λb l=>by rw [a7 (Au (hlt b l))];exact (f2 b l).1,w0⟩ (λ_=>rfl)
  rintro n s4 ⟨i,ys,R,I4,Y,fr4,w4⟩;obtain ⟨hacc4,P⟩:=turn i n ys R w4;refine b9 ?_;rcases P with ⟨stop,q⟩ | ⟨go,step⟩
  ·refine thn (G.done (cxComp X pins N' a (f.heap.objs.size+1) g f E) rfl rfl rfl hc i [] s4 _ R (λ_ _=>False) I4 (D fr4) Y stop) λr s5 ⟨hr,V⟩=>?_;subst hr;obtain ⟨m5,hn5,_⟩:=id V.loc;refine ⟨m5,hn5,λh' hs'=>?_⟩;refine ⟨.ref f.heap.objs.size,R,?_,rfl,q⟩;refine I2.call' V.os (Un.sameBut V.base hs' (Bw _)) (V.hok.sameBut V.free hs') V.bare λb l=>?_;have:=f2 b l;exact ⟨this.2.2.2.1,this.2.1,this.2.2.2.2.1,this.2.2.2.2.2⟩
  ·refine thn (G.item (cxComp X pins N' a (f.heap.objs.size+1) g f E) rfl rfl rfl hc i [] s4 _ R (λ_ _=>False) I4 (D fr4) Y go) λr s5 ⟨u,hr,h5⟩=>?_;subst hr;refine b9 (E8 rfl (thn h5 λ_ s6 ⟨xv,H6,I6,r6,y6,L,fr6⟩=>?_));have I6':=I6.pinned (D fr6) (G.obj _ _ L);refine thn (B9 (X:=cxComp X pins N' a (f.heap.objs.size+1) g f E) hN hx0 (.inl (AW hxl)) (.inr (AW hxl)) _ s6 _ H6 xv u (λσ2 R=>σ2=some xv :: n8 caps σ/\R=H6) I6' r6 ⟨rfl,rfl⟩) λ_ s7 ⟨σ7,H7,I7,e7,e7'⟩=>?_;subst e7 e7';have B:∀ {σ8:St} {S:Hp} {s8:Shared},Inv (cxComp X pins N' a (f.heap.objs.size+1) g f E) ([]++v3 g s6.heap) σ8 S s8->tn (i+1) s8.heap/\∀ b∈g,S b=none:=λ{σ8 S s8} N=>by
    refine ⟨G.keep _ _ _ L λb l o e=>(N.pin (b,o) (Av _ (Av _ (j2 l e)))).1,λb l=>?_⟩;obtain ⟨o,e,d⟩:=G.obj _ _ L b l;exact (N.pin (b,o) (Av _ (Av _ (j2 l e)))).2.1
   refine b9 (thn (ht pins _ g f E _ s7 _ _ _ I7 (step xv _ y6)) λb s8 ⟨S,N,q8⟩=>?_);have wk:∀ {U:Hp} {s9:Shared},Inv (cxComp X pins N' a (f.heap.objs.size+1) g f E) ([]++v3 g s6.heap) (some xv :: n8 caps σ) U s9->Inv (cxComp X pins N' a (f.heap.objs.size+1) g f E) [] (none :: n8 caps σ) U s9:=λ{U s9} I9=>
    I9.unpinned.weak rfl λj v e=>by
     cases j with
     | zero=>simp at e
     | succ j=>simpa using e
   cases b with
   | false=>
    obtain ⟨m',hm,w'⟩:=q8;exact ⟨m',hm,i+1,ys,S,wk N,(B N).1,(B N).2,w'⟩
   | true=>
    refine b9 (thn (he pins _ g f E _ s8 _ S _ N q8) λz s9 ⟨y,U,I9,r9,M,hl9,m',hm,w'⟩=>?_);refine b9 (thn (C4 _ s9 _ U (.ref f.heap.objs.size) [y] (.ref f.heap.objs.size) [z] (λ_ H'=>H'=upd U f.heap.objs.size (.lst (ys++[y]))) I9 rfl (.cons r9 .nil) ⟨_,ys,y,rfl,rfl,M,hl9,rfl⟩) λ_ s10 ⟨_,H10,K,_,e10⟩=>?_);subst e10;exact ⟨m',hm,i+1,ys++[y],_,wk K,(B K).1,(B K).2,w'⟩
 have Z:=BF (F _ rfl) (G.self _ 0 _ _ _ w (F _ rfl));rw [<- hC] at Z;exact Z
mutual
inductive DAt (K:PySem.W.Frag) (H:Hp):V->PyData->Prop where
 | non:DAt K H .non .none
 | bl (b:Bool):DAt K H (.bl b) (.bool b)
 | int (i:Int):DAt K H (.int i) (.int i)
 | str (x:Str):DAt K H (.str x) (.str x)
 | lst {a:Addr} {xs:List V} {ds:List PyData}:SqL K H a xs->DAll K H xs ds->DAt K H (.ref a) (.list ds)
 | tup {a:Addr} {xs:List V} {ds:List PyData}:SqT K H a xs->DAll K H xs ds->DAt K H (.ref a) (.tuple ds)
inductive DAll (K:PySem.W.Frag) (H:Hp):List V->List PyData->Prop where
 | nil:DAll K H [] []
 | cons {x:V} {d:PyData} {xs:List V} {ds:List PyData}:DAt K H x d->DAll K H xs ds->DAll K H (x :: xs) (d :: ds)
end
def Keeps (K:PySem.W.Frag) (H H':Hp):Prop:=(∀ a xs,SqL K H a xs->SqL K H' a xs)/\∀ a xs,SqT K H a xs->SqT K H' a xs
mutual
theorem DAt.keeps {K:PySem.W.Frag} {H H':Hp} (k:Keeps K H H'):∀ {v:V} {d:PyData},DAt K H v d->DAt K H' v d
 | _,_,.non=>.non
 | _,_,.bl b=>.bl b
 | _,_,.int i=>.int i
 | _,_,.str x=>.str x
 | _,_,.lst h r=>.lst (k.1 _ _ h) (DAll.keeps k r)
 | _,_,.tup h r=>.tup (k.2 _ _ h) (DAll.keeps k r)
theorem DAll.keeps {K:PySem.W.Frag} {H H':Hp} (k:Keeps K H H'):∀ {xs:List V} {ds:List PyData},DAll K H xs ds->DAll K H' xs ds
 | _,_,.nil=>.nil
 | _,_,.cons h r=>.cons (DAt.keeps k h) (DAll.keeps k r)
end
theorem Keeps.of_same {K:PySem.W.Frag} {H H':Hp} (e:Same H H'):Keeps K H H':=
 ⟨λa xs h=>e.seq h,λa xs h=>by
  rcases h with (h | ⟨o,h⟩) | h
  ·exact .inl (.inl (e _ _ h))
  ·exact .inl (.inr ⟨o,e _ _ h⟩)
  ·exact .inr h⟩
theorem Same.laid (h:H p=none):Same H (upd H p o):=λb u e=>by rw [a7 (a9 e h)];exact e
theorem Keeps.laid {K:PySem.W.Frag} {H:Hp} {p:Addr} {o:HO} (h:H p=none):Keeps K H (upd H p o):=Keeps.of_same (Same.laid h)
section
variable {X:Cx} {pins:List (Addr×Obj)} {σ:St} {H:Hp} {s:Shared}
mutual
theorem DAt.reads (I:Inv X pins σ H s):∀ {v:V} {d:PyData},DAt X.K H v d->∀ {u:Value},RelV v u->∃ a,Reads s.heap u d a
 | _,_,.non,u,r=>by cases (show u=Value.none from r);exact ⟨_,.none⟩
 | _,_,.bl b,u,r=>by cases (show u=Value.bool b from r);exact ⟨_,.bool b⟩
 | _,_,.int i,u,r=>by obtain ⟨t,e⟩:=(r);subst e;exact ⟨_,.int i t⟩
 | _,_,.str x,u,r=>by obtain ⟨t,e⟩:=(r);subst e;exact ⟨_,.str x t⟩
 | _,_,.lst h q,u,r=>by
  cases (r);obtain ⟨f,c,⟨o,n,g,j,m,l⟩,_⟩:=I.list h;obtain ⟨a,k⟩:=DAll.reads I q c;exact ⟨_,.list g j l k⟩
 | _,_,.tup h q,u,r=>by
  cases (r);obtain ⟨f,c,⟨o,g,j,n,l⟩,_⟩:=I.tuple h;obtain ⟨a,k⟩:=DAll.reads I q c;exact ⟨_,.tuple g j l k⟩
theorem DAll.reads (I:Inv X pins σ H s):∀ {vs:List V} {ds:List PyData},DAll X.K H vs ds->∀ {us:List Value},Vals vs us->∃ as,ReadsAll s.heap us ds as
 | _,_,.nil,us,r=>by cases r;exact ⟨_,.nil⟩
 | _,_,.cons h q,us,r=>by
  cases r with
  | cons r1 r2=>
   obtain ⟨as,h1⟩:=DAt.reads I h r1;obtain ⟨bs,h2⟩:=DAll.reads I q r2;exact ⟨_,.cons h1 h2⟩
end
structure Shows (d:PyData):Prop where
 sh:d.showable=true
 nd:d.hasDict=false
 dp:d.depth<=60
 sz:d.shown.length<=sizeLine
theorem fD (hg:X.A.guards=some []) (hu:X.A.units+64<cLine):A4 X (.builtin "repr") (λxs H Q=>∃ v d,xs=[v]/\DAt X.K H v d/\Shows d/\Q (.str d.shown) H):=by
 intro pins s σ H xs us Q I r h;obtain ⟨v,d,rfl,hd,S,q⟩:=h;obtain ⟨u,rfl,ru⟩:=av r;have sh:=S.sh;have sz:=S.sz;cases hd with
 | non=>cases (ru);exact PySem.P.repr_of_none ⟨.str (PyData.shown .none),H,I.tok _,⟨_,rfl⟩,q⟩
 | bl b=>cases (ru);exact PySem.P.repr_of_bool ⟨.str (PyData.shown (.bool b)),H,I.tok _,⟨_,rfl⟩,q⟩
 | int i=>obtain ⟨t,e⟩:=(ru);subst e;exact PySem.P.repr_of_int (by simpa [PyData.showable] using sh) ⟨.str (PyData.shown (.int i)),H,I.tok _,⟨_,rfl⟩,q⟩
 | str x=>obtain ⟨t,e⟩:=(ru);subst e;exact PySem.P.repr_of_str ⟨.str (PyData.shown (.str x)),H,I.tok _,⟨_,rfl⟩,q⟩ sz
 | lst h1 h2=>
  obtain ⟨as,rr⟩:=DAt.reads I (.lst h1 h2) ru;obtain ⟨a,rfl⟩:=CY rr rfl;exact repr_of_reads' rr sh (Cu S.nd) hg (by have:=S.dp;omega) (λ_ _ e=>e) (λh' u tk hk=>⟨.str (PyData.shown _),H,I.kept hk,⟨_,rfl⟩,q⟩) sz
 | tup h1 h2=>
  obtain ⟨as,rr⟩:=DAt.reads I (.tup h1 h2) ru;obtain ⟨a,rfl⟩:=CY rr rfl;exact repr_of_reads' rr sh (Cu S.nd) hg (by have:=S.dp;omega) (λ_ _ e=>e) (λh' u tk hk=>⟨.str (PyData.shown _),H,I.kept hk,⟨_,rfl⟩,q⟩) sz
end
def tT (K:PySem.W.Frag) (a:Bool):R2:=λx y H Q=>∃ d e,DAt K H x d/\DAt K H y e/\d.canLay0=true/\e.canLay0=true/\min d.depth e.depth<=60/\Q (.bl (if a then !PyData.eqv d e else PyData.eqv d e)) H
section
variable {X:Cx}
theorem nt (k:X.A.units+64<cLine):OpR X (compareOp .Eq) (tT X.K false):=by
 intro pins s σ H x y v u Q I i c h;obtain ⟨d,e,hd,a,b,f,m,q⟩:=h;obtain ⟨l,g⟩:=hd.reads I i;obtain ⟨n,j⟩:=a.reads I c;exact SeqAt.compareEq_reads g j b f (by omega) ⟨.bl (PyData.eqv d e),H,I,rfl,q⟩
theorem pV (k:X.A.units+64<cLine):OpR X (compareOp .NotEq) (tT X.K true):=by
 intro pins s σ H x y v u Q I i c h;obtain ⟨d,e,hd,a,b,f,m,q⟩:=h;obtain ⟨l,g⟩:=hd.reads I i;obtain ⟨n,j⟩:=a.reads I c;exact SeqAt.compareNe_reads g j b f (by omega) ⟨.bl (!PyData.eqv d e),H,I,rfl,q⟩
end
end L2
namespace L2
open PySem PySem.W PySem.Calls PyProof.Rows
def L6 (K:Frag) (C:Addr):Bool:=match K.lookup C with
 | some ⟨c,_,.cls a,b⟩=>c==.type "type" && !a.hasDel&&a.hasDict&&(b.toList[4]?).join==some (.builtin "ValueError.__new__")&&!a.mro.isEmpty&&a.mro.contains (.ref C)&&a.mro.contains (.type "ValueError")&&a.mro.contains (.type "BaseException") &&
   !a.mro.contains (.type "AttributeError")&&!a.mro.contains (.type "NameError")&&specialIn K (.ref C) "__call__" == some (some (.builtin "type.__call__"))&&instIn K (.ref C) (.type "type")==some true
 | _=>false
structure MakesX (M:Model) (h:Heap) (C:Addr):Prop where
 obj:∃ oc od cd sl,h.get? C=some ⟨oc,od,.cls cd,sl⟩/\cd.hasDel=false/\cd.mro.isEmpty=false
 made:Looks M h (Bind.madeBy (.ref C)) (some "ValueError.__new__")
 base:Looks M h (Bind.staticBase (.ref C)) (.ref C)
 self:Looks M h (isSubtype (.ref C) (.ref C)) true
 isV:Looks M h (isSubtype (.ref C) (.type "ValueError")) true
 isB:Looks M h (isSubtype (.ref C) (.type "BaseException")) true
 noA:Looks M h (isSubtype (.ref C) (.type "AttributeError")) false
 noN:Looks M h (isSubtype (.ref C) (.type "NameError")) false
 call:Looks M h (specialOf (.ref C) "__call__") (some (.builtin "type.__call__"))
 typ:Looks M h (isInstance (.ref C) (.type "type")) true
 ty:Looks M h (typeOf (.ref C)) (.type "type")
 isT:Looks M h (isType (.ref C)) true
theorem K8 {K:Frag} {M:Model} {h:Heap} (X:K.In h) {C:Addr} (e:L6 K C=true):MakesX M h C:=by
 unfold L6 at e;split at e
 case h_2=>cases e
 rename_i v od f D g;simp only [Ak,Bc,CC] at e;obtain ⟨⟨⟨⟨⟨⟨⟨⟨⟨⟨⟨F,x⟩,_⟩,t⟩,i⟩,u⟩,B⟩,y⟩,w⟩,z⟩,m⟩,j⟩:=e;have p:clsIn K C=some f:=by unfold clsIn;rw [g]
 have a:∀ {b:Value} {r:Bool},f.mro.contains b=r->Looks M h (isSubtype (.ref C) b) r:=λ{b r} q=>looks_mroIn X (by unfold mroIn;rw [p,Option.bind_some,if_neg (by rw [i];decide),q]);have n:Looks M h (mroOf (.ref C)) f.mro:=(looks_clsIn X p).andThen .now;obtain ⟨c,l,o⟩:∃ c l,f.mro=c :: l:=by
  cases q:f.mro with
  | nil=>rw [q] at i;cases i
  | cons c l=>exact ⟨c,l,rfl⟩
 have d:Looks M h (Bind.madeBy (.ref C)) (some "ValueError.__new__"):=λA Q E s k q=>by
  refine Ag (n A _ E s k ?_);rw [o,BI];refine Ag (Ag (Ag (Ag (DA (k _ _ (X _ _ g)) (Aj ?_)))));rw [<- CA,t];exact Aj (Aj (Aj q))
 refine ⟨⟨v,od,f,D,X _ _ g,x,i⟩,d,λA Q E s k q=>?_,a u,a B,a y,a w,a z,looks_specialIn X m,looks_instIn X j,?_,(Looks.ld (X _ _ g)).andThen .now⟩
 ·unfold Bind.staticBase;refine Ag (n A _ E s k ?_);rw [o,BI];exact Ag (Ag (Ag (d A _ E s k (Aj (Aj (Aj q))))))
 ·subst F;exact (Looks.ld (X _ _ g)).andThen .now
abbrev q9 (C t:Addr):Obj:={ cls:=.ref C,data:=.fields #[.ref t,.none,.none,.none,.bool false,.none] }
abbrev v1 (vs:List Value):Obj:={ cls:=.type "tuple",data:=.seq vs.toArray }
section
variable {prog:Program} {w:World} {A:Around} {K:Frag} {C:Addr} {R:Result->Shared->Prop} {h:Heap} {g:Array GenState} {d:Drawn} {t:Nat} {os:OsState}
theorem tz {rest:List Value} (Y:MakesX (model prog w) h C) (hrest:rest.length<=sizeLine)
  (hq:R (.ok (.ret (.ref (h.objs.size+1)))) ⟨(h.push (v1 rest)).push (q9 C h.objs.size),g,d,t,os⟩) :
  codeAny (model prog w) A (.call (.builtin "ValueError.__new__") ⟨.ref C :: rest,[]⟩) R ⟨h,g,d,t,os⟩:=by
 obtain ⟨⟨oc,od,cd,sl,hC,e1,e4⟩,made,base,self,isV,isB,noA,noN,call,typ,_,_⟩:=Y;have F:=CZ;refine codeAny_call_builtin_code (Code.quiet_builtin _ F.quiet) ?_;simp only [checkBuiltinCall,F.newKind,F.newSplit,F.newRow];have here:Looks (model prog w) h (Bind.madeHere "ValueError.__new__" (.ref C)) ():=base.andThen (made.andThen (Looks.of_pure (by simp only [Option.map_some,De,BG,DH])))
 repeat (first | simp only [De,BG,DH] | lk)
 have here2:Looks (model prog w) h (Bind.madeHere "BaseException.__new__" (.ref C)) ():=base.andThen (made.andThen (Looks.of_pure (by simp only [Option.map_some,F.canon,De,BG,DH])));have ends:=F.ends;refine codeAny_builtinAt F.entry (PySem.wpAt_bind ?_);show PySem.wpAt _ _ _ (stack >>= _) _ _ _;refine PySem.wpAt_bind (PySem.wpAt_stack λp below=>PySem.wpAt_of_wpAny ?_)
 wp_walk
 refine PySem.wpAt_of_wpAny ?_;rw [F.owner]
 repeat lk
 rw [if_neg (by rw [As];omega)];show wpAny _ _ (newObjAsIs _ _) _ _ _;have hC2:(h.push (v1 rest)).get? C=some ⟨oc,od,.cls cd,sl⟩:=Ah _ hC;have hC3:((h.push (v1 rest)).push (q9 C h.objs.size)).get? C=some ⟨oc,od,.cls cd,sl⟩:=Ah _ hC2;unfold newObjAsIs;refine Ag (wpAny_alloc (Aj (Ag ?_)));show wpAny _ _ (newObjAsIs _ _) _ _ _;unfold newObjAsIs classHasDel;refine Ag (wpAny_alloc (Ag (Ag (wpAny_load hC3 (Aj ?_)))));rw [e1];refine Aj (Aj ?_);show R _ _;rw [Bq];exact hq
theorem rU {c:List Value} {f:Addr} (Y:MakesX (model prog w) h C) (u:Looks (model prog w) h (typeLookup (.ref C) "__init__") (some (.ref f)))
  (G:∀ i,Looks (model prog w) h (bindSpecial (.ref f) i) (.ref f,[i])) (j:c.length<=sizeLine)
  (B:codeAny (model prog w) (A.under (.builtin "type.__call__" ⟨.ref C :: c,[]⟩)) (.call (.ref f) ⟨.ref (h.objs.size+1) :: c,[]⟩) (InitBack (h.objs.size+1) R) ⟨(h.push (v1 c)).push (q9 C h.objs.size),g,d,t,os⟩) :
  codeAny (model prog w) A (.call (.ref C) ⟨c,[]⟩) R ⟨h,g,d,t,os⟩:=by
 have D:=Y;obtain ⟨⟨L,od,s,O,q,M,I⟩,p,n,i,x,F,E,H,l,m,_,_⟩:=Y;refine codeAny_of_tree ?_;refine nd_load q (show wpAny _ _ (callAny.viaDunder (.ref C) _) _ _ _ from ?_);refine Ag (l.at ?_);dsimp only;rw [tc_bind];refine Ag (Aj (Ag (Aj (Aj (a:=Fin.again (.call (.builtin "type.__call__") ⟨.ref C :: c,[]⟩)) (And.intro rfl ?_)))));refine codeAny_call_builtin_at (Code.quiet_builtin _ (by decide +kernel)) entry_typeCall (check_slot tc_kind tc_split m (tc_args _ _ _) ?_);have J:Looks (model prog w) h (mroOf (.ref C)) s.mro:=((Looks.ld q).andThen .now).andThen .now
 repeat (first | simp only [I,BG,DH] | with_reducible refine Du ?_ | lk)
 refine tz D j ?_;have k:∀ b o,h.get? b=some o->((h.push (v1 c)).push (q9 C h.objs.size)).get? b=some o:=λb o e=>Ah _ (Ah _ e);have y:((h.push (v1 c)).push (q9 C h.objs.size)).get? (h.objs.size+1)=some (q9 C h.objs.size):=by heap_get
 have Q:Looks (model prog w) ((h.push (v1 c)).push (q9 C h.objs.size)) (typeOf (.ref (h.objs.size+1))) (.ref C):=(Looks.ld y).andThen .now;have N:=i.keeps k;have P:=u.keeps k;have K:=(G (.ref (h.objs.size+1))).keeps k
 repeat (first | with_reducible refine Du ?_ | lk)
 refine BV B λr s' z=>?_;rcases r with e | (v | _ | _ | _) <;> first | exact z | exact z.elim | skip
 obtain ⟨rfl,z⟩:=z;exact Aj (Aj z)
end
end L2
namespace L2
open PySem PySem.W PySem.Calls PyProof.Rows Builtin Builtin.ObjectAttr
section
variable {prog:Program} {w:World} {A:Around} {E:Value->Shared->Prop} {s:Shared} {K:Frag} {x C:Addr} {ox:Obj} {od:Option Obj} {name:Str} {expr:Bool} {Q:Value->Shared->Prop}
structure XCls (K:Frag) (C:Addr):Prop where
 ga:findIn K (.ref C) "__getattribute__" = some (some (.builtin "BaseException.__getattribute__"))
 gg:findIn K (.ref C) "__getattr__" = some none
 be:mroIn K C (.type "BaseException")=some true
 ob:mroIn K C (.type "object")=some true
 hd:hasDictIn K C=true
 cl:findIn K (.ref C) "__class__" = some (some (.builtin "object.__class__"))
 cg:specialIn K (.builtin "object.__class__") "__get__" = some (some (.builtin "getset_descriptor.__get__"))
 ct:takesIn K (.builtin "object.__class__")=some true
end
def r8:List Value->Bool
 | .ref _ :: r=>r8 r
 | l=>l==[.type "ValueError",.type "Exception",.type "BaseException",.type "object"]
theorem y7 (a:Value):∀ {l:List Value},r8 l=true->refuseLoop a "__setattr__" l=pure ()
 | .ref c :: r,e=>by rw [refuseLoop_ref];exact y7 a e
 | [],e=>by cases e
 | .none :: r,e=>by cases e
 | .type n :: r,e=>by rw [CC.mp e];exact PySem.F.store_ValueError.passes a
 | .bool _ :: _,e=>by cases e
 | .int _ _ :: _,e=>by cases e
 | .str _ _ :: _,e=>by cases e
 | .bytes _ _ :: _,e=>by cases e
 | .float _ _ :: _,e=>by cases e
 | .builtin _ :: _,e=>by cases e
 | .ellipsis :: _,e=>by cases e
 | .notImplemented :: _,e=>by cases e
section
variable {prog:Program} {w:World} {A:Around} {E:Value->Shared->Prop} {s:Shared} {K:Frag} {x C:Addr} {ox:Obj} {od:Option Obj} {name:Str} {R:Result->Shared->Prop} {v:Value}
theorem rh (X:K.In s.heap) (I:InstAt s.heap x ox C od) (k:XCls K C) (o:(clsIn K C).any (λd=>r8 d.mro)=true) (j:findIn K (.ref C) name=some none)
  (h:∀ b,wpAny (model prog w) A.in1 (storeInOwnDict (.ref x) (.ref C) (.str name tk) name v b) (λc s'=>match c with | .done f=>R (.ok f) s' | .again i=>i.quiet=true/\codeAny (model prog w) A i R s') (λe s'=>R (.error e) s') s) :
  codeAny (model prog w) A (.call (.builtin "object.__setattr__") ⟨[.ref x,.str name tk,v],[]⟩) R s:=by
 have a:=PySem.F.store_object;obtain ⟨d,n,l⟩:=any_some o;have g:Looks (model prog w) s.heap (isInstance (.ref x) (.type "object")) true:=I.type.andThen (looks_mroIn X k.ob);have m:Looks (model prog w) s.heap (mroOf (.ref C)) d.mro:=(looks_clsIn X n).andThen .now;refine codeAny_call_builtin a.slot.plain a.entry (@check_slot (model prog w) _ _ s "object.__setattr__" "object" "__setattr__" (.ref x) [.str name tk,v] [] _ a.kind a.split g (a.args (.ref x) (.str name tk) v) ?_);rw [osa_eq,refuse_eq];refine Ag (Ag (I.type.here (Ag (m.here ?_))));rw [y7 _ l];exact Aj (Ag (I.type.here (Ag ((looks_findIn X j).here (Ag (Aj (h _)))))))
def tbV:Option Addr->Value
 | none=>.none
 | some T=>.ref T
def IsX (a:Option Addr) (h:Heap) (x C:Addr) (d:Option Addr):Prop:=∃ vs,h.get? x=some { cls:=.ref C,dict:=d,data:=.fields vs }/\vs.size=6/\vs[1]?=some (tbV a)
theorem IsX.inst0 (i:IsX fr h x C none):∃ ox,InstAt h x ox C none:=by
 obtain ⟨vs,e,_⟩:=i;exact ⟨_,e,rfl,rfl,True.intro⟩
theorem IsX.inst1 (i:IsX fr h x C (some d)) {o:Obj} (hd:h.get? d=some o):∃ ox,InstAt h x ox C (some o):=by
 obtain ⟨vs,e,_⟩:=i;exact ⟨_,e,rfl,rfl,hd⟩
theorem sO (X:K.In s.heap) (i:IsX fr s.heap x C none) (t:XCls K C) (B:(clsIn K C).any (λr=>r8 r.mro)=true) (hs:findIn K (.ref C) "__setattr__" = some (some (.builtin "object.__setattr__"))) (u:findIn K (.ref C) name=some none)
  (h:∀ h' t',IsX fr h' x C (some s.heap.objs.size)->h'.Ns1 s.heap.objs.size (λy=>if y=name then some v else none)->(∀ b o,b≠x->s.heap.get? b=some o->h'.get? b=some o)->Q () { s with heap:=h',toks:=t' }):wpAny (model prog w) A (setAttr (.ref x) name v) Q E s:=by
 obtain ⟨ox,I⟩:=i.inst0;obtain ⟨vs,a,hsz⟩:=i;obtain ⟨r,D,hd⟩:=any_some t.hd;refine set_plain X I hs (rh X I t B u λb=>?_);refine Ag (Aj (Ag (Ag (DA a (Ag (Looks.here (looks_clsIn X D) ?_))))));rw [hd];have f:=Au (Ap a);have d:(s.heap.push { cls:=.type "dict",data:=.dict #[] }).get? x=some { cls:=.ref C,data:=.fields vs }:=Ah _ a;refine Ag (wpAny_alloc (Ag (wpAny_update d (Aj ?_))));have p:((s.heap.push { cls:=.type "dict",data:=.dict #[] }).update x λo=>{ cls:=o.cls,dict:=some s.heap.objs.size,data:=o.data,slots:=o.slots }).get? s.heap.objs.size=some { cls:=.type "dict",data:=.dict #[] }:=
  (Ce _ _ _ _ f.symm).trans (Heap.get?_push_at rfl rfl)
 have n:((s.heap.push { cls:=.type "dict",data:=.dict #[] }).update x λo=>{ cls:=o.cls,dict:=some s.heap.objs.size,data:=o.data,slots:=o.slots }).get? x=some { cls:=.ref C,dict:=some s.heap.objs.size,data:=.fields vs }:=
  AX _ d rfl
 have m:∀ b o,b≠x->s.heap.get? b=some o->((s.heap.push { cls:=.type "dict",data:=.dict #[] }).update x λo=>{ cls:=o.cls,dict:=some s.heap.objs.size,data:=o.data,slots:=o.slots }).get? b=some o:=
  λb o l e=>(Ce _ _ _ _ l).trans (Ah _ e)
 have q:((s.heap.push { cls:=.type "dict",data:=.dict #[] }).update x λo=>{ cls:=o.cls,dict:=some s.heap.objs.size,data:=o.data,slots:=o.slots }).Ns s.heap.objs.size (λ_=>none):=
  ⟨_,#[],_,p,rfl,λe F=>absurd F (by simp),λ_=>rfl⟩
 generalize ((s.heap.push { cls:=.type "dict",data:=.dict #[] }).update x λo=>{ cls:=o.cls,dict:=some s.heap.objs.size,data:=o.data,slots:=o.slots })=h1 at p n m q ⊢;refine Ag (Aj (Ag (wpAny_nsSet1 (Heap.Ns1.of_empty q) λh' c hs'=>?_)));obtain ⟨H,G,z,g,j,k⟩:=c.count (Within.cons name v Within.nil);refine Ag (wpAny_lookBehind g (by rw [j];exact pastItsLine_dict (AQ k (by rw [Bg,List.length_nil,AD];omega))) (Aj ?_));exact h h' _ ⟨vs,(hs'.2 x f).trans n,hsz⟩ c λb o l e=>(hs'.2 b (Au (Ap e))).trans (m b o l e)
theorem rO {d:Addr} {mA:Str->Option Value} {ns:List Str} (X:K.In s.heap) (i:IsX fr s.heap x C (some d)) (hd:s.heap.Ns1 d mA) (o:d≠x) (l:XCls K C) (t:(clsIn K C).any (λm=>r8 m.mro)=true) (hs:findIn K (.ref C) "__setattr__" = some (some (.builtin "object.__setattr__"))) (n:findIn K (.ref C) name=some none)
  (u:Within mA ns) (hz:ns.length<=1000)
  (h:∀ h' t',h'.Ns1 d (λy=>if y=name then some v else mA y)->Heap.SameBut d s.heap h'->Q () { s with heap:=h',toks:=t' }):wpAny (model prog w) A (setAttr (.ref x) name v) Q E s:=by
 obtain ⟨od,e,z⟩:=ec hd;obtain ⟨ox,I⟩:=i.inst1 e;obtain ⟨vs,k,hsz⟩:=i;obtain ⟨m,p,j⟩:=any_some l.hd;refine set_plain X I hs (rh X I l t n λb=>?_);refine Ag (Aj (Ag (Ag (DA k (Ag (Looks.here (looks_clsIn X p) ?_))))));rw [j];refine Aj ?_;refine Ag (Aj (Ag (wpAny_nsSet1 hd λh' a hs'=>?_)));obtain ⟨B,r,q,c,f,g⟩:=a.count (Within.cons name v u);refine Ag (wpAny_lookBehind c (by rw [f];exact pastItsLine_dict (AQ g (by rw [Bg,AD];omega))) (Aj ?_));exact h h' _ a hs'
end
section
variable {prog:Program} {w:World} {A:Around} {E:Value->Shared->Prop} {s:Shared} {K:Frag} {x C:Addr} {d:Option Addr} {R:Result->Shared->Prop} {y:Value}
theorem sj {l:Option Addr} (X:K.In s.heap) (i:IsX l s.heap x C d) (p:L6 K C=true)
  (h:∀ h',(∀ b o,b≠x->s.heap.get? b=some o->h'.get? b=some o)->IsX l h' x C d->R (.ok (.ret .none)) { s with heap:=h' }) :
  codeAny (model prog w) A (.call (.builtin "ValueError.__init__") ⟨[.ref x,y],[]⟩) R s:=by
 have F:=CZ;obtain ⟨vs,a,hsz,f⟩:=i;have n:Looks (model prog w) s.heap (typeOf (.ref x)) (.ref C):=(Looks.ld a).andThen .now;have Y:=K8 (M:=model prog w) X p;have g:Looks (model prog w) s.heap (isInstance (.ref x) (.type "ValueError")) true:=n.andThen Y.isV;obtain ⟨v,t,u,B,z,_,_⟩:=Y.obj;have m:=F.noStar;refine codeAny_call_builtin F.init.plain F.initEntry ?_;simp only [checkBuiltinCall,F.initKind,F.initSplit,F.initRow];refine Ag (g.here ?_);simp only [Bool.not_true,BG,DH];have k:(s.heap.push { cls:=.type "tuple",data:=.seq #[y] }).get? x=some { cls:=.ref C,dict:=d,data:=.fields vs }:=Ah _ a;obtain ⟨j,q⟩:∃ j,vs[0]?=some j:=⟨vs[0]'(by omega),Db _⟩;have c:R (.ok (.ret .none)) { s with heap:=(s.heap.push { cls:=.type "tuple",data:=.seq #[y] }).update x (Obj.mapFields (·.setIfInBounds 0 (.ref s.heap.objs.size))) }:=by
  refine h _ (λb o r e=>(Ce _ _ _ _ r).trans (Ah _ e)) ⟨vs.setIfInBounds 0 (.ref s.heap.objs.size),AX _ k rfl,?_⟩;rw [Array.size_setIfInBounds];exact ⟨hsz,by rw [Array.getElem?_setIfInBounds_ne (by decide)];exact f⟩
 unfold Bind.checkArgs
 repeat lk
 rw [q];refine Aj (Ag (Cv k rfl (by omega) ?_));cases j <;> first | exact Aj (Aj c) | exact wpAny_letGo (Aj c)
end
end L2
namespace L2
open PySem PySem.Spec PyProof.Rows
def K4 (a:Option Addr) (x C:Addr) (d:Option Addr):HO:=.ext λh=>IsX a h x C d
abbrev E3 (x C:Addr) (d:Option Addr):HO:=K4 none x C d
def G6 (d:Addr) (fs:List (Str×V)):HO:=.ext λh=>∃ mA,h.Ns1 d mA/\(∀ f,RelO (fs.lookup f) (mA f))/\PySem.Within mA (fs.map (·.1))/\fs.length<=900
theorem okX {h:Heap} {x C:Addr} {d:Option Addr} (i:IsX fr h x C d):ObjOk P w H h x (K4 fr x C d):=by
 obtain ⟨vs,e,z⟩:=id i;refine ⟨i,⟨_,e⟩,λf g ⟨a,c,b⟩ k=>⟨a,k _ c,b⟩⟩
theorem okD {mA:Str->Option Value} (n:h.Ns1 d mA) (r:∀ f,RelO (fs.lookup f) (mA f)) (g:PySem.Within mA (fs.map (·.1))) (l:fs.length<=900):ObjOk P w H h d (G6 d fs):=by
 obtain ⟨o,es,p,e,q⟩:=id n;exact ⟨⟨mA,n,r,g,l⟩,⟨o,e⟩,λm s ⟨a,i,j,b,c⟩ k=>⟨a,i.at k,j,b,c⟩⟩
structure XC (K:PySem.W.Frag) (C:Addr):Prop where
 xc:XCls K C
 ex:L6 K C=true
 vm:(PySem.W.clsIn K C).any (λcd=>r8 cd.mro)=true
 sa:PySem.W.findIn K (.ref C) "__setattr__" = some (some (.builtin "object.__setattr__"))
 kp:PySem.W.keepIn K (.ref C)=true
section
variable {X:Cx} {pins:List (Addr×Obj)} {σ:St} {H:Hp} {s:Shared} {x C:Addr}
theorem Inv.isX {a:Option Addr} {d:Option Addr} (I:Inv X pins σ H s) (e:H x=some (K4 a x C d)):IsX a s.heap x C d:=(I.hok x _ e).1
theorem Inv.isD (I:Inv X pins σ H s) (e:H d=some (G6 d fs)):∃ mA,s.heap.Ns1 d mA/\(∀ f,RelO (fs.lookup f) (mA f))/\PySem.Within mA (fs.map (·.1))/\fs.length<=900:=(I.hok d _ e).1
theorem Inv.madeX (I:Inv X pins σ H s):Inv X pins σ (upd H (s.heap.objs.size+1) (E3 (s.heap.objs.size+1) C none)) { s with heap:=(s.heap.push (v1 us)).push (q9 C s.heap.objs.size) }:=by
 have a:((s.heap.push (v1 us)).push (q9 C s.heap.objs.size)).get? (s.heap.objs.size+1)=some (q9 C s.heap.objs.size):=by
  have:=Ax (s.heap.push (v1 us)) (o:=q9 C s.heap.objs.size) rfl;rwa [Bq] at this
 exact I.laid (λb u q=>Ah _ (Ah _ q)) (Bw _) (okX ⟨_,a,rfl,rfl⟩)
end
def qC (C:Addr) (sp:Sp) (E:XK) (t:TA):TE:=λσ H Q=>t σ H λvs a=>vs.length<=1000/\∀ x,a x=none->sp (.ref x :: vs) (upd a x (E3 x C none)) (λv b=>v=.non/\Q (.ref x) b) E
section
variable {X:Cx} {CX:CXT} {k:Nat} {f C:Addr} {fd:FuncData} {ps:List Str} {sp:Sp} {E:XK} {nm:Str} {p pos:Pos} {e:Expr} {es:List Expr} {t:TA}
theorem N4 (M:XC X.K C) (hi:PySem.W.findIn X.K (.ref C) "__init__" = some (some (.ref f))) (hf:PySem.W.isFn X.K (.ref f)=true) (F:FnOk X.prog X.w X.K X.mg X.base CX k f fd ps sp) (hr:Room CX.q (k+1) X.A) (hg:Gl X nm) (hm:X.mg nm=some (.ref C)) (hb:Binds X.K fd ps []) (hx:u9 CX X E)
  (ha:PA X (e :: es) t) (hdb:(nm==("__debug__" : Str))=false:=by decide) (he:starEach (e :: es) X.env=(false,eval e X.env) :: starEach es X.env:=by rfl) (hpl:(backTo pos (starEach es X.env)).any (·.1)=false:=by rfl) :
  PE X (.Call (.Name nm p) (e :: es) [] pos) (qC C sp E t):=by
 intro pins s σ H Q I h;refine Bp (G4 I hg hm ?_ hdb);refine CV I.ok.mod.kin M.kp (thn (ha pos pins s σ H _ I h) λus s1 ⟨vs,H1,I1,r,hl,q⟩=>⟨I1.kIn,?_⟩) he hpl;have hq:=q (s1.heap.objs.size+1) (I1.hok.fresh (Bw _));have I2:=Inv.madeX (C:=C) (us:=us) I1;have r2:Vals (V.ref (s1.heap.objs.size+1) :: vs) (Value.ref (s1.heap.objs.size+1) :: us):=.cons rfl r;have hlen:(Value.ref (s1.heap.objs.size+1) :: us++[]).length=ps.length:=by
  have e:=r2.length;rw [F.len _ _ _ _ hq] at e;simpa using e.symm
 have hus:us.length<=sizeLine:=by
  have:=r.length;have z:(1000:Nat)<=sizeLine:=by decide
  omega
 have hb2:=hb _ (Value.ref (s1.heap.objs.size+1) :: us) I2.kIn hlen;rw [AI] at hb2;refine Du (rU (K8 I1.kIn M.ex) (PySem.W.looks_findIn I1.kIn hi) (λself=>PySem.W.bind_fn I1.kIn self (CC.mp hf)) hus
  (BV (F.run _ X.stack _ _ ⟨Value.ref (s1.heap.objs.size+1) :: us,[]⟩ _ _ _ E (hr.make C us []) (I2.env0.make C us []) hb2 r2 hq) λr s' hq'=>?_))
 cases r with
 | error e=>exact hx pins σ _ _ e s' I2 hq'
 | ok fl=>
  cases fl with
  | ret u=>
   obtain ⟨v,H',I3,rv,ev,q3⟩:=I2.after hq';subst ev;exact ⟨rv,⟨V.ref (s1.heap.objs.size+1),H',I3,rfl,q3⟩⟩
  | next=>exact False.elim hq'
  | brk=>exact False.elim hq'
  | cont=>exact False.elim hq'
end
theorem gp {o:HO} (h:H x=some o):upd H x o=H:=funext λb=>by
 by_cases e:b=x
 ·subst e;rw [b6,h]
 ·rw [a7 e]
def rj (K:PySem.W.Frag) (e g:TE) (f:Str):TS:=λD σ H=>g σ H λy b=>e σ b λc a=>∃ x C,c=.ref x/\XC K C/\t0 K C f /\
 ((a x=some (E3 x C none)/\∀ d,a d=none->D.nx σ (upd (upd a d (G6 d [(f,y)])) x (E3 x C (some d)))) \/
 ∃ d fs,d≠x/\a x=some (E3 x C (some d))/\a d=some (G6 d fs)/\fs.length<900/\D.nx σ (upd a d (G6 d (E5 f y fs))))
section
variable {X:Cx} {o e value:Expr} {f:Str} {pos pos':Pos} {ta tv:TE}
theorem lu (ha:PE X o ta) (hv:PE X value tv) (hs:swapsWith value (some (.Attribute o f pos')) pos.line X.env=pure false):PS X (.Assign [.Attribute o f pos'] value pos) (rj X.K ta tv f):=by
 intro pins s σ H D I h;refine plainObj_wpAny_Assign_Attribute (thn (hv pins s σ H _ I h) λu s1 ⟨y,H1,I1,ry,q⟩=>thn (ha pins s1 σ H1 _ I1 q) λov s2 ⟨xv,H2,I2,rx,x,C,ex,M,n,q2⟩=>?_) hs;subst ex;obtain rfl:ov=Value.ref x:=rx;rcases q2 with ⟨e0,q2⟩ | ⟨d,fs,hdx,e0,e1,hl,q2⟩
 ·have i0:=I2.isX e0;obtain ⟨vs0,hx0,_⟩:=id i0;have nd:=I2.hok.fresh (Ao _);have hne:=Nat.ne_of_gt (Ap hx0);refine sO I2.kIn i0 M.xc M.vm M.sa n λh' t' i1 n1 k1=>?_;obtain ⟨vs1,hx1,_⟩:=id i1;obtain ⟨oD,esD,epD,hoD,rD⟩:=id n1;have m1:(h'.update x λ_=>{ cls:=.ref C,data:=.fields vs0 }).get? x=some { cls:=.ref C,data:=.fields vs0 }:=AX _ hx1 rfl;have m2:∀ b,b≠x->(h'.update x λ_=>{ cls:=.ref C,data:=.fields vs0 }).get? b=h'.get? b:=λb hb=>Ce _ _ _ _ hb;have I3:Inv X pins σ (upd H2 s2.heap.objs.size (G6 s2.heap.objs.size [(f,y)])) { s2 with heap:=h'.update x λ_=>{ cls:=.ref C,data:=.fields vs0 },toks:=t' }:=by
   refine I2.laid (λb ob e=>?_) (Ao _) (okD (n1.at λob e=>(m2 _ hne).trans e) (λg=>?_) (λg hg=>?_) (by show 1<=900;decide))
   ·grind
   ·show RelO (List.lookup g [(f,y)]) (if g=f then some u else none);rw [BX,List.lookup_nil];by_cases q:g=f
    ·subst q;rw [if_pos rfl,show (g==g)=true from by simp];exact ry
    ·have:(g==f)=false:=by simpa using q
     rw [this,if_neg q];exact True.intro
   ·grind
  have I4:=I3.write (t':=t') (by rw [a7 hne.symm,e0];exact True.intro) (.inl rfl) (λb ob hb e=>((m2 b hb).symm.trans e)) ⟨_,hx1⟩ (okX i1);exact ⟨σ,_,I4,q2 _ nd⟩
 ·obtain ⟨mA,n0,r0,w0,l0⟩:=I2.isD e1;refine rO I2.kIn (I2.isX e0) n0 hdx M.xc M.vm M.sa n w0 (by rw [An];omega) λh' t' n1 sb=>?_;obtain ⟨oD,esD,epD,hoD,rD⟩:=id n1;refine ⟨σ,_,I2.write (by rw [e1];exact True.intro) (.inl rfl) (λb ob hb e=>(sb.2 b hb).trans e) ⟨_,hoD⟩ (okD n1 (λg=>?_) (λg hg=>?_) ?_),q2⟩
  ·show RelO ((E5 f y fs).lookup g) (if g=f then some u else mA g);rw [M3];by_cases q:g=f
   ·rw [if_pos q,if_pos q];exact ry
   ·grind
  ·by_cases q:g=f
   ·rw [q];exact (K5 f y fs).1
   ·exact (K5 f y fs).2 g (w0 g λz=>hg (by show (if g=f then some u else mA g)=none;rw [if_neg q];exact z))
  ·have:=L5 f y fs;omega
end
def TbO (T:Addr):HO:=.ext λh=>∃ o a,h.get? T=some o/\o.data=.fields a/\3<a.size
theorem okT {o:Obj} {a:Array Value} (e:h.get? T=some o) (d:o.data=.fields a) (z:3<a.size):ObjOk P w H h T (TbO T):=
 ⟨⟨o,a,e,d,z⟩,⟨o,e⟩,λc b ⟨o,a,e,d,z⟩ k=>⟨o,a,k _ e,d,z⟩⟩
structure Fx (K:PySem.W.Frag) (H:Hp) (a C:Addr) (d tb:Option Addr):Prop where
 xc:XC K C
 at_:H a=some (K4 tb a C d)
 dc:∀ d',d=some d'->d'≠a/\∃ fs,H d'=some (G6 d' fs)
 tb_:∀ T,tb=some T->T≠a/\H T=some (TbO T)
def Mv (H:Hp) (a C:Addr) (d:Option Addr) (H':Hp):Prop:=(∀ b o,b≠a->H b=some o->H' b=some o)/\∃ c,H' a=some (K4 c a C d)
section
variable {X:Cx} {pins:List (Addr×Obj)} {σ:St} {H:Hp} {s:Shared} {a C T:Addr} {d tb:Option Addr} {A:Around} {E:Value->Shared->Prop} {Q:Unit->Shared->Prop}
theorem Inv.slots (I:Inv X pins σ H s) (hs:Heap.SlotsOnly (frs X.stack) s.heap h'):Inv X pins σ H { s with heap:=h' }:=by
 have k:∀ b u,H b≠none->s.heap.get? b=some u->h'.get? b=some u:=λb u n e=>(hs.2.1 b λz=>n (I.stkFree b z)).trans e;have f:Un (frs X.stack) [] H H s.heap h':=⟨λb o e _ g _=>(hs.2.1 b g).trans e,λb o e _ _ _=>hs.2.2 b o e,λ_ _ _ n _=>n,λb o e _=>let ⟨h,q⟩:=hs.2.2 b o e;⟨_,q⟩,λ_ _ e=>e,λ_ _ _ e=>e,λb ps e=>⟨#[],by rw [e];simp⟩⟩;have d:=λb u e=>(I.hok b u e).stay (λc v a q=>k c v (by
  rcases a with a | a
  ·rw [a,e];simp
  ·rw [a];simp) q) (λ_ q=>q) λ_ _ q=>q
 exact I.call f d I.bare λb z=>absurd z (by simp)
theorem Fx.isX (b:Fx X.K H a C d tb) (I:Inv X pins σ H s):IsX tb s.heap a C d:=I.isX b.at_
theorem Inv.setTb (I:Inv X pins σ H s) (e:H T=some (TbO T)) (k:Inv X pins σ H { s with heap:=s.heap.update T (Obj.mapFields (·.setIfInBounds 3 v)) }->Q () { s with heap:=s.heap.update T (Obj.mapFields (·.setIfInBounds 3 v)) }) :
  wpAny (model X.prog X.w) A (setField (.ref T) 3 v) Q E s:=by
 obtain ⟨o,g,c,f,z⟩:=(I.hok T _ e).1;refine Cv c f z (k ?_);have hd:=Obj.data_mapFields f (·.setIfInBounds 3 v);have d:=AX (Obj.mapFields (·.setIfInBounds 3 v)) c (Obj.isFreed_of_fields hd);have a:=I.write (t':=s.toks) (by rw [e];exact True.intro) (.inl rfl) (λb u n q=>(BD _ _ (Ne.symm n)).trans q) ⟨_,d⟩ (okT d hd (by simpa using z));rw [gp e] at a;exact a
theorem bT (I:Inv X pins σ H s) (r:A.frames=some X.stack) (i:X.stack=X.env :: X.outer) (x:X.env.frame=some X.env.locals) (j:Fx X.K H a C d tb)
  (h:∀ H' s' T,Inv X pins σ H' s'->Fx X.K H' a C d (some T)->Mv H a C d H'->Q () s') :
  wpAny (model X.prog X.w) A (do let B <- frameOf X.env;let pl <- entryPlaceOf X.env.locals hadNext;let b <- EntryCells.newEntry head B .none (rawInt X.env.locals) .none pl;setField (.ref a) 1 b) Q E s:=by
 have p:=I.stack;rw [i] at p r;refine Ag (wpAny_frameOf_fun r p x λc e=>?_);have v:=I.slots (by rw [i];exact e);refine Ag (wpAny_entryPlaceOf λpl l=>?_);refine Ag (AS ?_ (l.sizeOk5 _ _ _ _ _));have D:=Ax c (o:={ cls:=.type "traceback",dict:=none,data:=.fields ([head,.ref X.env.locals,.none,rawInt X.env.locals,.none]++(if pl.isEmpty then List.replicate 6 Value.none else pl)).toArray }) rfl;have m:=v.laid (t':=s.toks) (λb u q=>Ah _ q) (Ao _)
  (okT D rfl (by simp <;> omega))
 have k:=v.hok.fresh (Ao _);have f:c.objs.size≠a:=λz=>by rw [z,j.at_] at k;cases k
 have t:upd H c.objs.size (TbO c.objs.size) a=some (K4 tb a C d):=by rw [a7 f.symm];exact j.at_
 generalize (c.push { cls:=.type "traceback",dict:=none,data:=.fields ([head,.ref X.env.locals,.none,rawInt X.env.locals,.none]++(if pl.isEmpty then List.replicate 6 Value.none else pl)).toArray })=h₂ at m ⊢;obtain ⟨vs,g,hsz,F⟩:=m.isX t;refine Cv g rfl (by omega) ?_;have w:=AX (Obj.mapFields (·.setIfInBounds 1 (Value.ref c.objs.size))) g rfl;have y:=m.write (t':=s.toks) (o:=K4 (some c.objs.size) a C d) (by rw [t];exact True.intro) (.inl rfl)
  (λb u n q=>(BD _ _ (Ne.symm n)).trans q) ⟨_,w⟩ (okX ⟨_,w,by simpa using hsz,by simp [tbV,hsz]⟩)
 refine h _ _ c.objs.size y ⟨j.xc,b6,λd' z=>?_,λT z=>?_⟩ ⟨λb o n q=>?_,_,b6⟩
 ·obtain ⟨n,fs,q⟩:=j.dc d' z;exact ⟨n,fs,by rw [a7 n,a7 (a9 q k)];exact q⟩
 ·cases z;exact ⟨f,by rw [a7 f];exact b6⟩
 ·rw [a7 n,a7 (a9 q k)];exact q
theorem jt (I:Inv X pins σ H s) (i:A.frames=some X.stack) (f:X.stack=X.env :: X.outer) (g:X.env.frame=some X.env.locals) (c:Fx X.K H a C d tb)
  (h:∀ H' s' T,Inv X pins σ H' s'->Fx X.K H' a C d (some T)->Mv H a C d H'->Q () s'):wpAny (model X.prog X.w) A (noteFrame (.ref a) X.env) Q E s:=by
 obtain ⟨vs,e,hsz,j⟩:=c.isX I;unfold noteFrame;simp only [g];cases tb with
 | none=>
  refine Ag (Bj e rfl j ?_);rw [if_neg (by decide)];exact bT I i f g c h
 | some T=>
  refine Ag (Bj e rfl (x:=.ref T) j ?_);rw [if_pos (show (Value.ref T != Value.none)=true from by simp)];obtain ⟨t,k⟩:=c.tb_ T rfl;obtain ⟨o,p,n,r,z⟩:=(I.hok T _ k).1;refine Ag (Bj n r (Db z) ?_);by_cases l:(p[3]==rawInt X.env.locals)=true
  ·rw [if_pos l];exact Aj (h H s T I c ⟨λb o _ q=>q,_,c.at_⟩)
  ·rw [if_neg l];exact Ag (I.setTb k λm=>bT m i f g c h)
theorem fK (I:Inv X pins σ H s) (c:Fx X.K H a C d (some T)) (h:∀ s',Inv X pins σ H s'->Q () s'):wpAny (model X.prog X.w) A (setFlight (.ref a) fl) Q E s:=by
 obtain ⟨vs,b,hsz,f⟩:=c.isX I;refine Ag (Bj b rfl (x:=.ref T) f ?_);rw [if_pos (show (Value.ref T != Value.none)=true from by simp)];exact I.setTb (c.tb_ T rfl).2 λe=>h _ e
theorem ci (I:Inv X pins σ H s) (f:A.frames=some X.stack) (c:X.stack=X.env :: X.outer) (i:X.env.frame=some X.env.locals) (l:Fx X.K H a C d tb)
  (h:∀ H' s' T,Inv X pins σ H' s'->Fx X.K H' a C d (some T)->Mv H a C d H'->Q () s'):wpAny (model X.prog X.w) A (leaving X.env (.ref a)) Q E s:=by
 exact Ag (jt I f c i l λg n T k b j=>fK k b λm e=>h g m T e b j)
end
end L2
namespace L2
open PySem PySem.W PySem.Calls PySem.Spec PyProof.Rows
section
variable {prog:Program} {w:World} {A:Around} {E:Value->Shared->Prop} {s:Shared} {K:Frag} {env:PySem.Env}
theorem aT (m:A.handled=none)
  (h:wpAny (model prog w) A x (λv c=>∃ a C d,v=.ref a/\K.In c.heap/\XC K C/\IsX none c.heap a C d/\E (.ref a) c) E s):wpAny (model prog w) A (raiseStmt env (some x) none) Q E s:=by
 refine Ag (AK h (λv c i=>?_) λ_ _ x=>x);obtain ⟨a,C,d,rfl,X,M,⟨vs,b,hsz,k⟩,l⟩:=i;have Y:=K8 (M:=model prog w) X M.ex;have e:Looks (model prog w) c.heap (typeOf (.ref a)) (.ref C):=(Looks.ld b).andThen .now;have f:Looks (model prog w) c.heap (isType (.ref a)) false:=(Looks.ld b).andThen .now;have g:Looks (model prog w) c.heap (isInstance (.ref a) (.type "BaseException")) true:=e.andThen Y.isB;have j:=Y.ty;refine Ag (Aj (Ag (BK (Ag (Ag (f.here ?_))))));refine Aj ?_;refine Ag (g.here ?_);refine Aj (Ag (f.here ?_));refine Ag (Ag (e.here (Ag (j.here ?_))));rw [if_pos (by rfl)];refine Aj (Ag (Ag (Bj b rfl k ?_)));rw [if_neg (by decide)];exact Aj (wpAny_raiseNew_none m l)
end
end L2
namespace L2
open PySem PySem.Spec PyProof.Rows
section
variable {X:Cx} {pins:List (Addr×Obj)} {σ:St} {H:Hp} {s:Shared}
theorem ph (hg:X.A.guards=some []) (hu:X.A.units+80<cLine) (I:Inv X pins σ H s) (hd:DAt X.K H v d) (ru:RelV v u) (S:Shows d) (hl:d.shown.length<=4000) (hx:∀ x,v=.str x->x.length<=4000) :
  wpAny (model X.prog X.w) X.A (formatField u Str.empty) (λz s'=>∃ y t,z=.str y t/\y.length<=4000/\Inv X pins σ H s') E s:=by
 have sh:=S.sh;have sz:=S.sz;have big:(4000:Nat)<=sizeLine:=by decide
 cases hd with
 | non=>cases (ru);exact wpAny_formatField_none ⟨_,_,rfl,hl,I.tok _⟩
 | bl b=>cases (ru);exact wpAny_formatField_bool ⟨_,_,rfl,hl,I.tok _⟩
 | int i=>obtain ⟨t,e⟩:=(ru);subst e;exact formatField_int_small (by simpa [PyData.showable] using sh) ⟨_,_,rfl,hl,I.tok _⟩
 | str x=>obtain ⟨t,e⟩:=(ru);subst e;exact formatField_str (λt' tk=>⟨_,_,rfl,hx x rfl,I.tok _⟩) (AQ (hx x rfl) big)
 | lst h1 h2=>
  obtain ⟨as,rr⟩:=DAt.reads I (.lst h1 h2) ru;obtain ⟨a,rfl⟩:=CY rr rfl;exact formatField_of_reads rr sh (Cu S.nd) hg (by have:=S.dp;omega) (λ_ _ e=>e) (λh' u tk hk=>⟨_,_,rfl,hl,I.kept hk⟩) sz
 | tup h1 h2=>
  obtain ⟨as,rr⟩:=DAt.reads I (.tup h1 h2) ru;obtain ⟨a,rfl⟩:=CY rr rfl;exact formatField_of_reads rr sh (Cu S.nd) hg (by have:=S.dp;omega) (λ_ _ e=>e) (λh' u tk hk=>⟨_,_,rfl,hl,I.kept hk⟩) sz
end
theorem Q5 {Q c:Str->Shared->Prop} (k:∀ out s,Q out s->c out s):∀ (a:List (Sem Value)) (b:Str) (s:Shared),Joins M A E a b Q s->Joins M A E a b c s
 | [],b,s,h=>k _ _ h
 | x :: r,b,s,h=>AK h (λv d ⟨y,t,e,l,q⟩=>⟨y,t,e,l,Q5 k r _ d q⟩) λ_ _ z=>z
abbrev TF:=St->Hp->(Hp->Prop)->Prop
def PFs (X:Cx) (es:List Expr) (n:Nat) (t:TF):Prop:=
 ∀ (a:Str) (pins:List (Addr×Obj)) (s:Shared) (σ:St) (H:Hp) (Q:Hp->Prop),a.length+n<=sizeLine->Inv X pins σ H s->t σ H Q ->
  Joins (model X.prog X.w) X.A X.xe (evalEach es X.env) a (λout b=>out.length<=sizeLine/\∃ H',Inv X pins σ H' b/\Q H') s
def fNil:TF:=λ_ H Q=>Q H
def tt (K:PySem.W.Frag) (te:TE) (t:TF):TF:=λσ H Q=>te σ H λv a=>∃ d,DAt K a v d/\Shows d/\d.shown.length<=4000/\(∀ x,v=.str x->x.length<=4000)/\t σ a Q
section
variable {X:Cx} {e:Expr} {es:List Expr} {n:Nat} {t:TF} {te:TE} {pos:Pos}
theorem lI:PFs X [] 0 fNil:=λa pins s σ H Q b I q=>⟨by omega,H,I,q⟩
theorem dU (h:PFs X es n t) (c:x.length<=1000:=by decide):PFs X (.Constant (.str x) k pos :: es) (1000+n) t:=λa pins s σ H Q b I q=>by
 refine Calls.Constant_str ⟨x,_,rfl,?_,?_⟩
 ·rw [Di];omega
 ·exact h (a++x) pins _ σ H Q (by rw [Di];omega) (I.tok _) q
theorem mI (o:X.A.guards=some []) (j:X.A.units+80<cLine) (g:PE X e te) (h:PFs X es n t):PFs X (.FormattedValue e (-1) none pos :: es) (4000+n) (tt X.K te t):=λa pins s σ H Q x I q=>by
 refine wpAny_FormattedValue_plain (thn (g pins s σ H _ I q) λu A ⟨v,m,i,l,d,hd,S,f,w,p⟩=>?_);refine thn (ph o j i hd l S f w) λz b ⟨y,r,c,B,k⟩=>?_;refine ⟨y,r,c,?_,?_⟩
 ·rw [Di];omega
 ·exact h (a++y) pins b σ m Q (by rw [Di];omega) k p
def tFs (t:TF):TE:=λσ H Q=>t σ H λH'=>∀ z:Str,z.length<=sizeLine->Q (.str z) H'
theorem lj (h:PFs X (e :: e2 :: es) n t) (f:n<=100000):PE X (.JoinedStr (e :: e2 :: es) pos) (tFs t):=by
 intro pins s σ H Q I q;refine wpAny_JoinedStr ?_;have d:(100000:Nat)<=sizeLine:=by decide
 have a:=h Str.empty pins s σ H _ (by show 0+n<=sizeLine;omega) I q;exact Q5 (λout g ⟨l,H',c,b⟩=>⟨l,.str out,H',c.tok _,⟨_,rfl⟩,b out l⟩) _ _ _ a
theorem im {f B:Addr} {fd:FuncData} {ps:List Str} {sp:Sp} {E:XK} {b m:Str} {p a:Pos} {pl:Sem Bool} {j:Value} {n:TA}
  (A:Gl X b) (z:X.mg b=some (.ref B)) (hs:PySem.W.specialIn X.K (.ref B) "__getattribute__" = some (some (.builtin "type.__getattribute__"))) (d:PySem.W.readsIn X.K B j=true) (y:PySem.W.findCls X.K (.ref B) j m=some (.val (.ref f))) (u:PySem.W.keepIn X.K (.ref f)=true)
  (F:FnOk X.prog X.w X.K X.mg X.base CX k f fd ps sp) (v:Room CX.q k X.A) (x:Binds X.K fd ps []) (C:u9 CX X E) (t:PA X (e :: es) n)
  (g:(b==("__debug__" : Str))=false:=by decide) (c:starEach (e :: es) X.env=(false,eval e X.env) :: starEach es X.env:=by rfl) (i:(backTo pos (starEach es X.env)).any (·.1)=false:=by rfl)
  (w:eval (.Call (.Attribute (.Name b p) m a) (e :: es) [] pos) X.env=(do
   let o <- eval (.Name b p) X.env
   standAt a.atName
   let (f,first) <- holding [o] (getMethod o m pl)
   callWith pos f first (backTo pos (starEach (e :: es) X.env)) (backToKw pos (keywordEach [] X.env))):=by rfl) :
  PE X (.Call (.Attribute (.Name b p) m a) (e :: es) [] pos) (iz sp [] E n):=by
 intro pins s σ H Q I h;refine PySem.W.methodCall_KW (G4 I A z ?_ g) w;refine PySem.W.method_cls I.kIn hs (PySem.W.cls_value I.kIn d y rfl ?_);refine CV I.ok.mod.kin u (thn (t pos pins _ σ H _ (I.tok _) h) λus G ⟨vs,D,l,r,q⟩=>⟨l.kIn,?_⟩) c i;exact bY F v x .nil C l r q
def oX (K:PySem.W.Frag) (b:TA):TE:=λσ H Q=>b σ H λvs a=>∃ x C d y,vs=[.ref x,y]/\XC K C/\a x=some (E3 x C d)/\Q .non a
theorem gw {p apos:Pos} {pl:Sem Bool} {ta:TA} (hg:Gl X "ValueError") (hm:X.mg "ValueError" = none) (hf:PySem.W.findCls X.K (.type "ValueError") (.type "type") "__init__" = some (.val (.builtin "ValueError.__init__"))) (ha:PA X (e :: es) ta)
  (hst:starEach (e :: es) X.env=(false,eval e X.env) :: starEach es X.env:=by rfl) (hpl:(backTo pos (starEach es X.env)).any (·.1)=false:=by rfl)
  (ht:eval (.Call (.Attribute (.Name "ValueError" p) "__init__" apos) (e :: es) [] pos) X.env=(do
   let ov <- eval (.Name "ValueError" p) X.env
   standAt apos.atName
   let (f,first) <- holding [ov] (getMethod ov "__init__" pl)
   callWith pos f first (backTo pos (starEach (e :: es) X.env)) (backToKw pos (keywordEach [] X.env))):=by rfl) :
  PE X (.Call (.Attribute (.Name "ValueError" p) "__init__" apos) (e :: es) [] pos) (oX X.K ta):=by
 intro pins s σ H Q I h;refine PySem.W.methodCall_KW (pl:=pl) (K0 I hg hm (show bootBuiltins "ValueError" = some (.type "ValueError") by rfl) ?_) ht;obtain ⟨m,hfr⟩:=I.fr;refine PySem.W.method_type hfr I.ok.mod.kin (by rfl) (by decide +kernel) hf rfl ?_;refine CD (thn (ha pos pins _ σ H _ (I.tok _) h) λus s1 ⟨vs,H1,I1,r,x,C,d,y,ev,M,e0,q⟩=>?_) hst hpl;subst ev;obtain ⟨u,u2,rfl,ru,ru2⟩:=mT r;cases (show u=Value.ref x from ru);refine Du (sj I1.kIn (I1.isX e0) M.ex λh' k1 i1=>?_);obtain ⟨vs1,hx1,_⟩:=id i1;have I2:=I1.write (h':=h') (t':=s1.toks) (x:=x) (e:=x) (o:=E3 x C d) (by rw [e0];exact True.intro) (.inl rfl) (λb ob hb z=>k1 b ob hb z) ⟨_,hx1⟩ (okX i1);rw [gp e0] at I2;exact ⟨.non,H1,I2,rfl,q⟩
end
end L2
namespace Hn
open PySem L2
def spHE (K:PySem.W.Frag):Sp:=λvs H Q _=>∃ (x:Addr) (y:V) (C:Addr) (d:Option Addr),vs=[.ref x,y]/\XC K C/\H x=some (E3 x C d)/\Q .non H
structure Fmt (K:PySem.W.Frag) (H:Hp) (v:V) (d:PyData):Prop where
 at_:DAt K H v d
 sh:Shows d
 l1:d.shown.length<=4000
 l2:∀ x,v=.str x->x.length<=4000
def Got (H:Hp) (x C:Addr) (fs:List (Str×V)) (H':Hp):Prop:=∃ d,H d=none/\d≠x/\H' x=some (E3 x C (some d))/\H' d=some (G6 d fs)/\∀ b,b≠x->b≠d->H' b=H b
def sp1 (K:PySem.W.Frag) (f:Str):Sp:=λvs H Q _=>∃ (x:Addr) (v:V) (C:Addr) (a:PyData),vs=[.ref x,v]/\XC K C/\t0 K C f/\H x=some (E3 x C none)/\Fmt K H v a/\∀ H',Got H x C [(f,v)] H'->Q .non H'
def sp2 (K:PySem.W.Frag) (f g:Str):Sp:=λvs H Q _=>∃ (x:Addr) (v u:V) (C:Addr) (a b:PyData),vs=[.ref x,v,u]/\XC K C/\t0 K C f/\t0 K C g/\H x=some (E3 x C none)/\Fmt K H v a/\Fmt K H u b /\
 ∀ H',Got H x C [(f,v),(g,u)] H'->Q .non H'
structure TxE (K:PySem.W.Frag) (mg:Str->Option Value) (B fB:Addr):Prop where
 mV:mg "ValueError" = none
 fV:PySem.W.findCls K (.type "ValueError") (.type "type") "__init__" = some (.val (.builtin "ValueError.__init__"))
 mB:mg "HandError" = some (.ref B)
 sB:PySem.W.specialIn K (.ref B) "__getattribute__" = some (some (.builtin "type.__getattribute__"))
 rB:PySem.W.readsIn K B (.type "type")=true
 cB:PySem.W.findCls K (.ref B) (.type "type") "__init__" = some (.val (.ref fB))
 kB:PySem.W.keepIn K (.ref fB)=true
section
variable {K:PySem.W.Frag}
theorem Fmt.laid {v:V} {d:PyData} (h:Fmt K H v d) (a:H x=none):Fmt K (upd H x o) v d:=⟨h.at_.keeps (Keeps.laid a),h.sh,h.l1,h.l2⟩
end
end Hn
namespace HT
open PySem PySem.Spec PyProof.Rows
section
variable {prog:Program} {w:World} {A:Around} {E:Value->Shared->Prop} {s:Shared} {Q:Int->Shared->Prop}
theorem fF (h:Q (reduceHash 4238894112) { s with toks:=s.toks+1 }):wpAny (model prog w) A (pyHash .none) Q E s:=by
 show wpAny _ _ (pyHashByItsType .none) _ _ _;refine W.pyHash_slot (T:="NoneType") rfl F.slot_NoneType_hash F.entry_NoneType_hash (F.args_NoneType_hash_1 _) (by decide) (.inl rfl) ?_;unfold Builtin.«NoneType.__hash__»
 wp_walk
 exact ⟨_,_,rfl,h⟩
theorem fY (b:Bool) (h:Q (hashInt (if b then 1 else 0)) { s with toks:=s.toks+1 }):wpAny (model prog w) A (pyHash (.bool b)) Q E s:=by
 show wpAny _ _ (pyHashByItsType (.bool b)) _ _ _;refine W.pyHash_slot (T:="bool") rfl F.slot_bool_hash F.entry_int_hash (F.args_int_hash_1 _) (by decide) (.inl rfl) ?_;unfold Builtin.«int.__hash__»;cases b
 ·wp_walk
  exact ⟨_,_,rfl,h⟩
 ·wp_walk
  exact ⟨_,_,rfl,h⟩
end
mutual
noncomputable def kDHt:PyData->Bool
 | .none=>true
 | .bool _=>true
 | .int _=>true
 | .str _=>true
 | .tuple ds=>kDsHt ds
 | .list _=>false
 | .dict _=>false
noncomputable def kDsHt:List PyData->Bool
 | []=>true
 | d :: ds=>kDHt d&&kDsHt ds
end
mutual
noncomputable def nrmHt:PyData->PyData
 | .bool b=>.int (if b then 1 else 0)
 | .tuple ds=>.tuple (nrmsHt ds)
 | .none=>.none
 | .int i=>.int i
 | .str x=>.str x
 | .list ds=>.list ds
 | .dict ds=>.dict ds
noncomputable def nrmsHt:List PyData->List PyData
 | []=>[]
 | d :: ds=>nrmHt d :: nrmsHt ds
end
mutual
noncomputable def hTHt (w:World):PyData->Int
 | .none=>reduceHash 4238894112
 | .bool b=>hashInt (if b then 1 else 0)
 | .int i=>hashInt i
 | .str x=>hashStr w x
 | .tuple ds=>reduceHash (Builtin.Tuple.tupleHashOf (u3 w ds))
 | .list _=>0
 | .dict _=>0
noncomputable def u3 (w:World):List PyData->List Int
 | []=>[]
 | d :: ds=>hTHt w d :: u3 w ds
end
mutual
noncomputable def aH:PyData->Nat
 | .tuple ds=>A8 ds+1
 | _=>1
noncomputable def A8:List PyData->Nat
 | []=>0
 | d :: ds=>aH d+A8 ds
end
section
variable {prog:Program} {w:World} {E:Value->Shared->Prop}
def HA (prog:Program) (w:World) (E:Value->Shared->Prop) (d:PyData):Prop:=∀ (v:Value) (as:List Addr) (A:Around) (s:Shared) (Q:Int->Shared->Prop),kDHt d=true->Reads s.heap v d as->A.units+d.depth<cLine->Q (hTHt w d) { s with toks:=s.toks+aH d }->wpAny (model prog w) A (pyHash v) Q E s
theorem gq:∀ (ds:List PyData) (_:∀ d∈ds,HA prog w E d) (vs:List Value) (as:List Addr) (A:Around) (s:Shared) (hs:Array Int) (Q:Array Int->Shared->Prop),kDsHt ds=true->ReadsAll s.heap vs ds as->A.units+PyData.depthAll ds<cLine->Q (hs++(u3 w ds).toArray) { s with toks:=s.toks+A8 ds }->wpAny (model prog w) A (forIn vs hs λx hs=>do
   let h <- pyHash x
   pure (ForInStep.yield (hs.push h))) Q E s:=by
 intro ds;induction ds with
 | nil=>
  intro _ vs as A s hs Q _ r _ h;cases r;rw [CW];refine Aj ?_;have:hs++(u3 w []).toArray=hs:=by rw [u3];apply Array.ext';simp
  rw [this] at h;exact h
 | cons d ds ih=>
  intro hd vs as A s hs Q k r hu h;rw [kDsHt,Ak] at k;rw [PyData.depthAll] at hu;cases r with
  | cons r1 r2=>
   rw [BI];refine Ag (Ag (hd d (Aq ..) _ _ A s _ k.1 r1 (by omega) (Aj ?_)));refine ih (λe he=>hd e (Ar _ he)) _ _ A _ _ _ k.2 r2 (by omega) ?_;have e:hs.push (hTHt w d)++(u3 w ds).toArray=hs++(u3 w (d :: ds)).toArray:=by
    rw [u3];apply Array.ext';simp
   rw [e];have e2:s.toks+aH d+A8 ds=s.toks+A8 (d :: ds):=by rw [A8,Nat.add_assoc]
   show Q _ { s with toks:=s.toks+aH d+A8 ds };rw [e2];exact h
theorem gY {ds:List PyData} (ih:∀ d∈ds,HA prog w E d):HA prog w E (.tuple ds):=by
 intro v as A s Q k r hu h;rw [kDHt] at k;rw [PyData.depth] at hu;cases r with
 | tuple e1 e2 e3 r=>
  rename_i a o vs n;show wpAny _ _ (pyHashByItsType (.ref a)) _ _ _;refine W.pyHash_slot (T:="tuple") ⟨o,e1,e2⟩ F.slot_tuple_hash F.entry_tuple_hash (F.args_tuple_hash_1 _) (by decide) (.inr (by omega)) ?_;unfold Builtin.«tuple.__hash__» Builtin.Tuple.tupleItemsOf;have t1:s.heap.IsTuple a vs:=⟨o,e1,e2,n,e3⟩;obtain ⟨cls,dict,data,slots⟩:=o;dsimp only at e2 e3;subst e2 e3;generalize hp:pyHash=pI
  wp_walk
  subst hp;show wpAny _ _ (forIn vs (#[]:Array Int) λx hs=>do
   let h <- pyHash x
   pure (ForInStep.yield (hs.push h))) _ _ _
  rw [<- Array.forIn_toList];refine gq ds ih vs.toList as A.in1 s #[] _ k r (by show A.units+1+_<_;omega) ?_;show wpAny _ _ (retInt _) _ _ _
  wp_walk
  refine ⟨_,_,rfl,?_⟩;have e:(#[]++(u3 w ds).toArray).toList=u3 w ds:=by simp
  rw [e];exact h
theorem dE:∀ (n:Nat) (d:PyData),sizeOf d<n->HA prog w E d
 | 0,_,h=>by omega
 | n+1,d,hn=>by
  cases d with
  | none=>intro v as A s Q k r hu h;cases r;exact fF h
  | bool b=>intro v as A s Q k r hu h;cases r;exact fY b h
  | int i=>intro v as A s Q k r hu h;cases r;exact wpAny_pyHash_int h
  | str x=>intro v as A s Q k r hu h;cases r;exact wpAny_pyHash_str h
  | tuple ds=>
   refine gY λd hd=>dE n d ?_;have:=List.sizeOf_lt_of_mem hd;simp only [Dj] at hn;omega
  | list _=>intro v as A s Q k;cases k
  | dict _=>intro v as A s Q k;cases k
def QA (prog:Program) (w:World) (E:Value->Shared->Prop) (d:PyData):Prop:=∀ (n:Nat) (v:Value) (as:List Addr) (A:Around) (s:Shared) (Q:Bool->Shared->Prop),kDHt d=true->Reads s.heap v d as->d.depth<n->Q true s->wpAny (model prog w) A (eqIsQuiet n v) Q E s
theorem fL:∀ (ds:List PyData) (_:∀ d∈ds,QA prog w E d) (n:Nat) (vs:List Value) (as:List Addr) (A:Around) (s:Shared) (Q:Option Bool×Unit->Shared->Prop),kDsHt ds=true->ReadsAll s.heap vs ds as->PyData.depthAll ds<n->Q (none,()) s->wpAny (model prog w) A (forIn vs ((none,()):Option Bool×Unit) λy _=>do
   let q <- eqIsQuiet n y
   if (!q)=true then pure (ForInStep.done (some false,())) else pure (ForInStep.yield (none,()))) Q E s:=by
 intro ds;induction ds with
 | nil=>
  intro _ n vs as A s Q _ r _ h;cases r;rw [CW];exact Aj h
 | cons d ds ih=>
  intro hd n vs as A s Q k r hu h;rw [kDsHt,Ak] at k;rw [PyData.depthAll] at hu;cases r with
  | cons r1 r2=>
   rw [BI];refine Ag (Ag (hd d (Aq ..) n _ _ A s _ k.1 r1 (by omega) ?_));rw [if_neg (by decide)];exact Aj (ih (λe he=>hd e (Ar _ he)) n _ _ A s Q k.2 r2 (by omega) h)
theorem fX {ds:List PyData} (ih:∀ d∈ds,QA prog w E d):QA prog w E (.tuple ds):=by
 intro n v as A s Q k r hu h;rw [kDHt] at k;rw [PyData.depth] at hu;cases r with
 | tuple e1 e2 e3 r=>
  rename_i a o vs m;obtain ⟨n,rfl⟩:∃ n',n=n'+1:=⟨n-1,by omega⟩;rw [eqIsQuiet.eq_2];have t1:s.heap.IsTuple a vs:=⟨o,e1,e2,m,e3⟩;have ty:s.TypeIs (.ref a) "tuple":=⟨o,e1,e2⟩;generalize hp:eqIsQuiet n=pI;refine Ag (wpAny_specialOf ty F.slot_tuple_eq.lookup ?_);refine Ag (wpAny_isInstance (b:=true) ty F.sub_tuple_tuple ?_);rw [if_neg (by decide)];have e5:wpAny (model prog w) A (seqItems? (.ref a)) (λr s'=>r=some vs/\s'=s) E s:=by
   obtain ⟨cls,dict,data,slots⟩:=o;dsimp only at e2 e3;subst e2 e3;unfold seqItems?
   wp_walk
   exact ⟨rfl,rfl⟩
  refine Ag (AK e5 (λr s' ⟨er,es⟩=>?_) λ_ _ z=>z);subst er es;show wpAny _ _ (forIn vs ((none,()):Option Bool×Unit) _ >>= _) _ _ _;refine Ag ?_;subst hp;rw [<- Array.forIn_toList];exact fL ds ih n vs.toList as A s' _ k r (by omega) (Aj h)
theorem aq:∀ (n:Nat) (d:PyData),sizeOf d<n->QA prog w E d
 | 0,_,h=>by omega
 | n+1,d,hn=>by
  cases d with
  | none=>intro m v as A s Q k r hu h;cases r;rw [Cw m rfl];exact Aj h
  | bool b=>intro m v as A s Q k r hu h;cases r;rw [Cw m rfl];exact Aj h
  | int i=>intro m v as A s Q k r hu h;cases r;rw [Cw m rfl];exact Aj h
  | str x=>intro m v as A s Q k r hu h;cases r;rw [Cw m rfl];exact Aj h
  | tuple ds=>
   refine fX λd hd=>aq n d ?_;have:=List.sizeOf_lt_of_mem hd;simp only [Dj] at hn;omega
  | list _=>intro m v as A s Q k;cases k
  | dict _=>intro m v as A s Q k;cases k
end
mutual
theorem gc (w:World):∀ d:PyData,hTHt w (nrmHt d)=hTHt w d
 | .none=>rfl
 | .bool b=>rfl
 | .int i=>rfl
 | .str x=>rfl
 | .tuple ds=>by rw [nrmHt,hTHt,hTHt,eN w ds]
 | .list _=>rfl
 | .dict _=>rfl
theorem eN (w:World):∀ ds:List PyData,u3 w (nrmsHt ds)=u3 w ds
 | []=>rfl
 | d :: ds=>by rw [nrmsHt,u3,u3,gc w d,eN w ds]
end
mutual
theorem iR:∀ d:PyData,aH (nrmHt d)=aH d
 | .none=>rfl
 | .bool b=>rfl
 | .int i=>rfl
 | .str x=>rfl
 | .tuple ds=>by rw [nrmHt,aH,aH,eA ds]
 | .list _=>rfl
 | .dict _=>rfl
theorem eA:∀ ds:List PyData,A8 (nrmsHt ds)=A8 ds
 | []=>rfl
 | d :: ds=>by rw [nrmsHt,A8,A8,iR d,eA ds]
end
noncomputable instance decPHt:DecidableEq PyData:=λ_ _=>Classical.propDecidable _
mutual
theorem dR:∀ d e:PyData,kDHt d=true->kDHt e=true->(d.eqv e=true↔nrmHt d=nrmHt e)
 | d,e,h1,h2=>by
  cases d with
  | none=>cases e with
   | bool b=>cases b <;> simp [PyData.eqv,nrmHt]
   | _=>simp [PyData.eqv,nrmHt]
  | bool a=>cases e with
   | bool b=>cases a <;> cases b <;> simp [PyData.eqv,nrmHt]
   | _=>cases a <;> first | (simp [PyData.eqv,nrmHt];done) | (simp [PyData.eqv,nrmHt];exact eq_comm)
  | int i=>cases e with
   | bool b=>cases b <;> first | (simp [PyData.eqv,nrmHt];done) | (simp [PyData.eqv,nrmHt];exact eq_comm)
   | _=>simp [PyData.eqv,nrmHt]
  | str x=>cases e with
   | bool b=>cases b <;> simp [PyData.eqv,nrmHt]
   | _=>simp [PyData.eqv,nrmHt]
  | tuple ds=>cases e with
   | tuple es=>
    rw [kDHt] at h1 h2;have:=az ds es h1 h2;simp only [PyData.eqv,nrmHt,PyData.tuple.injEq];exact this
   | bool b=>cases b <;> simp [PyData.eqv,nrmHt]
   | _=>simp [PyData.eqv,nrmHt]
  | list _=>cases h1
  | dict _=>cases h1
theorem az:∀ ds es:List PyData,kDsHt ds=true->kDsHt es=true->(PyData.eqvAll ds es=true↔nrmsHt ds=nrmsHt es)
 | [],[],_,_=>by simp [PyData.eqvAll]
 | [],_ :: _,_,_=>by simp [PyData.eqvAll,nrmsHt]
 | _ :: _,[],_,_=>by simp [PyData.eqvAll,nrmsHt]
 | d :: ds,e :: es,h1,h2=>by
  rw [kDsHt,Ak] at h1 h2;simp only [PyData.eqvAll,Ak,nrmsHt,List.cons.injEq];rw [dR d e h1.1 h2.1,az ds es h1.2 h2.2]
end
section
variable {h h':Heap} {x:Addr} {o:Obj} {es:Array DictEntry} {ep:Nat} (ho:h.get? x=some o) (hd:o.data=.dict es ep) (hs:Heap.SameBut x h h')
include ho hd hs
mutual
theorem R6:∀ (d:PyData) (v:Value) (as:List Addr),kDHt d=true->Reads h v d as->Reads h' v d as
 | d,v,as,k,r=>by
  cases d with
  | none=>cases r;exact .none
  | bool b=>cases r;exact .bool b
  | int i=>cases r;exact .int i _
  | str s=>cases r;exact .str s _
  | tuple ds=>
   rw [kDHt] at k;cases r with
   | tuple e1 e2 e3 r=>
    rename_i a ob vs n;have ne:a≠x:=λz=>by
     subst z;rw [ho] at e1;cases e1;rw [hd] at e3;cases e3
    exact .tuple ((hs.2 a ne).trans e1) e2 e3 (L7 ds _ _ k r)
  | list _=>cases k
  | dict _=>cases k
theorem L7:∀ (ds:List PyData) (vs:List Value) (as:List Addr),kDsHt ds=true->ReadsAll h vs ds as->ReadsAll h' vs ds as
 | [],vs,as,k,r=>by cases r;exact .nil
 | d :: ds,vs,as,k,r=>by
  rw [kDsHt,Ak] at k;cases r with
  | cons r1 r2=>exact .cons (R6 d _ _ k.1 r1) (L7 ds _ _ k.2 r2)
end
end
def keyK (prog:Program) (w:World):HeapKind prog w PyData where
 is h k a:=∃ d as,Reads h (.ref a) d as/\kDHt d=true/\d.canLay0=true/\d.depth<=6/\nrmHt d=k
 hash k:=hTHt w k
 draws k:=aH k
 room A:=A.units+8<cLine
 inj:=by
  rintro h a x y ⟨d,as,r,_,_,_,rfl⟩ ⟨e,bs,r2,_,_,_,rfl⟩;rw [Reads.unique r _ _ r2 |>.1]
 keeps:=by
  rintro h h' k a d o es ep ⟨p,as,r,k1,k2,k3,rfl⟩ ho hd hs;exact ⟨p,as,R6 ho hd hs p _ _ k1 r,k1,k2,k3,rfl⟩
 pyHash:=by
  rintro A E s k a Q hu ⟨p,as,r,k1,k2,k3,rfl⟩ q;rw [gc,iR] at q;exact dE (sizeOf p+1) p (AF _) _ as A s Q k1 r (by omega) q
 eqBool:=by
  rintro A E s x y a b Q hu ⟨p,as,r,k1,k2,k3,rfl⟩ ⟨e,bs,r2,l1,l2,l3,rfl⟩ q;refine SeqAt.eqBoolOverData prog w A E s _ _ p e as bs Q r r2 k2 l2 (by omega) ?_;have:p.eqv e=decide (nrmHt p=nrmHt e):=by
   rw [Ck,AG];exact dR p e k1 l1
  rw [this];exact q
 quiet:=by
  rintro A E s k a Q ⟨p,as,r,k1,k2,k3,rfl⟩ q;exact aq (sizeOf p+1) p (AF _) 8 _ as A s Q k1 r (by omega) q
end HT
namespace L3
open PySem PySem.Spec PyProof.Rows L2
inductive D where
 | non | bl (b:Bool) | int (i:Int) | str (x:Str) | tup (ds:List D) | lst (ds:List D) | scr (ds:List D) | ref (n:Nat)
inductive O where
 | lst (ds:List D) | dct (kvs:List (Key×D)) | exc (c:Nat) (fs:List (Str×D)) | dcT (kvs:List (D×D))
structure ClW where
 f:Nat->Addr
 w:World
instance:CoeFun ClW (λ_=>Nat->Addr):=⟨ClW.f⟩
def DE (a:Addr) (es:List DictEntry):HO:=.ext λh=>∃ o ep,h.get? a=some o/\o.ExactDict/\o.data=.dict es.toArray ep
mutual
noncomputable def kP:D->Option PyData
 | .non=>some .none
 | .bl b=>some (.bool b)
 | .int i=>some (.int i)
 | .str x=>some (.str x)
 | .tup ds=>(kPs ds).map .tuple
 | .lst _=>none
 | .scr _=>none
 | .ref _=>none
noncomputable def kPs:List D->Option (List PyData)
 | []=>some []
 | d :: ds=>match kP d,kPs ds with
  | some p,some ps=>some (p :: ps)
  | _,_=>none
end
def k7 (d:D):Option PyData:=match kP d with
 | some (.tuple ps)=>if (PyData.tuple ps).canLay0=true/\(PyData.tuple ps).depth<=6 then some (HT.nrmHt (.tuple ps)) else none
 | _=>none
def js (kvs:List (D×D)):Prop:=kvs.length<=sizeLine/\(kvs.map λp=>k7 p.1).Nodup
abbrev Sto:=List O
inductive R (α:Type) where
 | ok (a:α) (S:Sto) | exn (n:Nat) (S:Sto) | bad
abbrev M (α:Type):=Sto->R α
def ret {b:Type} (a:b):M b:=λS=>.ok a S
def bad {a:Type}:M a:=λ_=>.bad
def bind {c b:Type} (m:M c) (k:c->M b):M b:=λS=>match m S with
 | .ok a S'=>k a S'
 | .exn n S'=>.exn n S'
 | .bad=>.bad
abbrev Env:=List (Option D)
structure Mp where
 pl:List Addr
 rs:List Addr
def Mp.push (μ:Mp) (p:Addr):Mp:=⟨μ.pl++[p],μ.rs⟩
def TupAt (K:PySem.W.Frag) (μ:Mp) (H:Hp) (a:Addr) (xs:List V):Prop:=
 (Rd H a (.tup xs)/\a∉μ.pl/\a∉μ.rs)\/∃ (o:Obj) (b:Array Value) (n:Nat),K.lookup a=some o/\o.cls=.type "tuple"/\o.data=.seq b n/\b.size<=sizeLine/\Vals xs b.toList/\o.dict=none
def ScrAt (K:PySem.W.Frag) (μ:Mp) (H:Hp) (a:Addr) (xs:List V):Prop:=
 (Rd H a (.lst xs)/\a∉μ.pl/\a∉μ.rs)\/∃ (o:Obj) (b:Array Value) (n:Nat),K.lookup a=some o/\o.cls=.type "list"/\o.dict=none/\o.data=.seq b n/\b.size<=sizeLine/\Vals xs b.toList
def LstAt (μ:Mp) (H:Hp) (a:Addr) (xs:List V):Prop:=H a=some (.lst xs)/\a∉μ.pl/\a∉μ.rs
theorem TupAt.sq {K:PySem.W.Frag} {μ:Mp} {H:Hp} {a:Addr} {xs:List V} (h:TupAt K μ H a xs):SqT K H a xs:=h.imp (λz=>z.1) λ⟨o,f,n,a,b,c,d,e,_⟩=>⟨o,f,n,a,b,c,d,e⟩
theorem ScrAt.sq {K:PySem.W.Frag} {μ:Mp} {H:Hp} {a:Addr} {xs:List V} (h:ScrAt K μ H a xs):SqL K H a xs:=h.imp (λz=>z.1) id
theorem LstAt.sq {K:PySem.W.Frag} {μ:Mp} {H:Hp} {a:Addr} {xs:List V} (h:LstAt μ H a xs):SqL K H a xs:=.inl (.inl h.1)
mutual
inductive RD (K:PySem.W.Frag) (μ:Mp) (H:Hp):D->V->Prop where
 | non:RD K μ H .non .non
 | bl (b:Bool):RD K μ H (.bl b) (.bl b)
 | int (i:Int):RD K μ H (.int i) (.int i)
 | str (x:Str):RD K μ H (.str x) (.str x)
 | tup {a:Addr} {xs:List V} {ds:List D}:TupAt K μ H a xs->RDs K μ H ds xs->RD K μ H (.tup ds) (.ref a)
 | lst {a:Addr} {xs:List V} {ds:List D}:LstAt μ H a xs->RDs K μ H ds xs->RD K μ H (.lst ds) (.ref a)
 | scr {a:Addr} {xs:List V} {ds:List D}:ScrAt K μ H a xs->RDs K μ H ds xs->RD K μ H (.scr ds) (.ref a)
 | ref {n:Nat} {a:Addr}:μ.pl[n]?=some a->RD K μ H (.ref n) (.ref a)
inductive RDs (K:PySem.W.Frag) (μ:Mp) (H:Hp):List D->List V->Prop where
 | nil:RDs K μ H [] []
 | cons {d:D} {v:V} {ds:List D} {vs:List V}:RD K μ H d v->RDs K μ H ds vs->RDs K μ H (d :: ds) (v :: vs)
end
structure Lat (μ:Mp) (H:Hp) (μ':Mp) (H':Hp):Prop where
 pre:∀ (n:Nat) (a:Addr),μ.pl[n]?=some a->μ'.pl[n]?=some a
 oth:∀ a o,H a=some o->a∉μ.pl->H' a=some o
 new:∀ a,a∈μ'.pl->a∈μ.pl\/H a=none
 rsv:μ'.rs=μ.rs
theorem Lat.refl (μ:Mp) (H:Hp):Lat μ H μ H:=⟨λ_ _ h=>h,λ_ _ h _=>h,λ_ h=>.inl h,rfl⟩
theorem Lat.out {H H':Hp} (l:Lat μ H μ' H') {a:Addr} {o:HO} (h:H a=some o) (n:a∉μ.pl):a∉μ'.pl:=λz=>by
 rcases l.new a z with q | q
 ·exact n q
 ·rw [h] at q;cases q
theorem Lat.trans {H c b:Hp} (l:Lat μ H μ1 c) (k:Lat μ1 c μ2 b):Lat μ H μ2 b:=by
 refine ⟨λn a h=>k.pre n a (l.pre n a h),λa o h n=>k.oth a o (l.oth a o h n) (l.out h n),λa h=>?_,k.rsv.trans l.rsv⟩;rcases k.new a h with q | q
 ·exact l.new a q
 ·by_cases m:a∈μ.pl
  ·exact .inl m
  ·right
   cases e:H a with
   | none=>rfl
   | some o=>rw [l.oth a o e m] at q;cases q
theorem Rd.later {H H':Hp} (l:Lat μ H μ' H') {a:Addr} {u:HO} (h:Rd H a u) (n:a∉μ.pl):Rd H' a u/\a∉μ'.pl:=by
 rcases h with h | ⟨o,h⟩
 ·exact ⟨.inl (l.oth _ _ h n),l.out h n⟩
 ·exact ⟨.inr ⟨o,l.oth _ _ h n⟩,l.out h n⟩
theorem TupAt.later {K:PySem.W.Frag} {μ μ':Mp} {H H':Hp} (l:Lat μ H μ' H') {a:Addr} {xs:List V} (h:TupAt K μ H a xs):TupAt K μ' H' a xs:=h.imp (λz=>⟨(Rd.later l z.1 z.2.1).1,(Rd.later l z.1 z.2.1).2,by rw [l.rsv];exact z.2.2⟩) id
theorem ScrAt.later {K:PySem.W.Frag} {μ μ':Mp} {H H':Hp} (l:Lat μ H μ' H') {a:Addr} {xs:List V} (h:ScrAt K μ H a xs):ScrAt K μ' H' a xs:=h.imp (λz=>⟨(Rd.later l z.1 z.2.1).1,(Rd.later l z.1 z.2.1).2,by rw [l.rsv];exact z.2.2⟩) id
theorem LstAt.later {H H':Hp} (l:Lat μ H μ' H') {a:Addr} {xs:List V} (h:LstAt μ H a xs):LstAt μ' H' a xs:=⟨l.oth _ _ h.1 h.2.1,l.out h.1 h.2.1,by rw [l.rsv];exact h.2.2⟩
mutual
theorem RD.later {K:PySem.W.Frag} {μ μ':Mp} {H H':Hp} (l:Lat μ H μ' H'):∀ {d:D} {v:V},RD K μ H d v->RD K μ' H' d v
 | _,_,.non=>.non
 | _,_,.bl b=>.bl b
 | _,_,.int i=>.int i
 | _,_,.str x=>.str x
 | _,_,.tup h r=>.tup (h.later l) (RDs.later l r)
 | _,_,.lst h r=>.lst (h.later l) (RDs.later l r)
 | _,_,.scr h r=>.scr (h.later l) (RDs.later l r)
 | _,_,.ref h=>.ref (l.pre _ _ h)
theorem RDs.later {K:PySem.W.Frag} (l:Lat μ H μ' H'):∀ {ds:List D} {vs:List V},RDs K μ H ds vs->RDs K μ' H' ds vs
 | _,_,.nil=>.nil
 | _,_,.cons h r=>.cons (RD.later l h) (RDs.later l r)
end
section
variable {K:PySem.W.Frag} {μ:Mp} {H:Hp}
theorem RDs.length:∀ {ds:List D} {vs:List V},RDs K μ H ds vs->ds.length=vs.length
 | _,_,.nil=>rfl
 | _,_,.cons _ r=>by simp [RDs.length r]
theorem RDs.get:∀ {ds:List D} {vs:List V} {i:Nat} {d:D},RDs K μ H ds vs->ds[i]?=some d->∃ v,vs[i]?=some v/\RD K μ H d v
 | _,_,_,_,.nil,e=>by simp at e
 | _,_,0,_,.cons h _,e=>by simp at e;subst e;exact ⟨_,rfl,h⟩
 | _,_,i+1,d,.cons _ r,e=>by
  obtain ⟨v,b,a⟩:=RDs.get r (by simpa using e);exact ⟨v,by simpa using b,a⟩
theorem RDs.append:∀ {ds es:List D} {vs us:List V},RDs K μ H ds vs->RDs K μ H es us->RDs K μ H (ds++es) (vs++us)
 | _,_,_,_,.nil,s=>s
 | _,_,_,_,.cons h r,s=>.cons h (RDs.append r s)
theorem RDs.take:∀ {ds:List D} {vs:List V} (n:Nat),RDs K μ H ds vs->RDs K μ H (ds.take n) (vs.take n)
 | _,_,0,_=>by simpa using RDs.nil
 | _,_,_+1,.nil=>by simpa using RDs.nil
 | _,_,n+1,.cons h r=>by simpa using RDs.cons h (RDs.take n r)
theorem RDs.drop:∀ {ds:List D} {vs:List V} (n:Nat),RDs K μ H ds vs->RDs K μ H (ds.drop n) (vs.drop n)
 | _,_,0,h=>by simpa using h
 | _,_,_+1,.nil=>by simpa using RDs.nil
 | _,_,n+1,.cons _ r=>by simpa using RDs.drop n r
theorem RDs.set (q:RD K μ H d v):∀ {ds:List D} {vs:List V} (n:Nat),RDs K μ H ds vs->RDs K μ H (ds.set n d) (vs.set n v)
 | _,_,_,.nil=>by simpa using RDs.nil
 | _,_,0,.cons h r=>by simpa using RDs.cons q r
 | _,_,n+1,.cons h r=>by simpa using RDs.cons h (RDs.set q n r)
theorem RDs.rep (r:RDs K μ H ds vs):∀ k:Nat,RDs K μ H (List.replicate k ds).flatten (List.replicate k vs).flatten
 | 0=>.nil
 | k+1=>by
  rw [Bm,Bm,BO,BO];exact r.append (RDs.rep r k)
theorem RDs.ints:∀ ns:List Int,RDs K μ H (ns.map D.int) (ns.map V.int)
 | []=>.nil
 | n :: ns=>.cons (.int n) (RDs.ints ns)
end
def fz (K:PySem.W.Frag) (μ:Mp) (H:Hp):List (Str×D)->List (Str×V)->Prop:=Paired λp q=>p.1=q.1/\RD K μ H p.2 q.2
def KvsAt (K:PySem.W.Frag) (μ:Mp) (H:Hp):List (Key×D)->List (Key×V)->Prop:=Paired λp q=>p.1=q.1/\RD K μ H p.2 q.2
def eD (K:PySem.W.Frag) (w:World) (μ:Mp) (H:Hp) (p:D×D) (e:DictEntry):Prop:=∃ b v q,e.key=.ref b/\RD K μ H p.1 (.ref b)/\k7 p.1=some q/\e.hash=HT.hTHt w q/\RelV v e.val/\RD K μ H p.2 v
def OAt (K:PySem.W.Frag) (cl:ClW) (μ:Mp) (H:Hp) (a:Addr):O->Prop
 | .lst ds=>∃ xs,H a=some (.lst xs)/\RDs K μ H ds xs
 | .dct kvs=>∃ ks,H a=some (.dK ks)/\KvsAt K μ H kvs ks
 | .exc c fs=>XC K (cl c)/\∃ gs,fz K μ H fs gs/\∃ fr,((gs=[]/\H a=some (K4 fr a (cl c) none))\/∃ d,d≠a/\d∉μ.pl/\H a=some (K4 fr a (cl c) (some d))/\H d=some (G6 d gs))
 | .dcT kvs=>∃ es,H a=some (DE a es)/\(a==sysModules)=false/\js kvs/\Paired (eD K cl.w μ H) kvs es
structure Rep (K:PySem.W.Frag) (cl:ClW) (μ:Mp) (S:Sto) (H:Hp):Prop where
 len:μ.pl.length=S.length
 nd:μ.pl.Nodup
 ats:∀ (n:Nat) (o:O) (a:Addr),S[n]?=some o->μ.pl[n]?=some a->OAt K cl μ H a o
 res:∀ a,a∈μ.rs->a∉μ.pl/\∃ u,H a=some u
theorem Paired.mono {P Q:α->β->Prop} (h:∀ a b,P a b->Q a b):∀ {xs:List α} {ys:List β},Paired P xs ys->Paired Q xs ys
 | _,_,.nil=>.nil
 | _,_,.cons r t=>.cons (h _ _ r) (Paired.mono h t)
section
variable {K:PySem.W.Frag} {cl:ClW} {μ:Mp} {S:Sto} {H:Hp}
theorem OAt.some (h:OAt K cl μ H a o):∃ u,H a=some u:=by
 cases o with
 | lst ds=>obtain ⟨xs,e,_⟩:=h;exact ⟨_,e⟩
 | dct kvs=>obtain ⟨xs,e,_⟩:=h;exact ⟨_,e⟩
 | dcT kvs=>obtain ⟨xs,e,_⟩:=h;exact ⟨_,e⟩
 | exc c fs=>
  obtain ⟨_,gs,_,fr,⟨_,e⟩ | ⟨d,_,_,e,_⟩⟩:=h
  ·exact ⟨_,e⟩
  ·exact ⟨_,e⟩
theorem Rep.tracked (r:Rep K cl μ S H) {a:Addr} (h:a∈μ.pl):∃ u,H a=some u:=by
 obtain ⟨n,b,e⟩:=List.getElem_of_mem h;have hs:n<S.length:=by rw [<- r.len];exact b
 exact (r.ats n S[n] a (AB hs) (by rw [AB b,e])).some
theorem Rep.notrs (r:Rep K cl μ S H) {p:Addr} (h:H p=none):p∉μ.rs:=λz=>by
 obtain ⟨_,u,e⟩:=r.res p z;rw [h] at e;cases e
theorem Rep.notin (r:Rep K cl μ S H) {p:Addr} (h:H p=none):p∉μ.pl:=λz=>by
 obtain ⟨u,e⟩:=r.tracked z;rw [h] at e;cases e
theorem Lat.laid (h:H p=none):Lat μ H μ (upd H p o):=⟨λ_ _ h=>h,λa u e _=>by rw [a7 (a9 e h)];exact e,λ_ h=>.inl h,rfl⟩
theorem Rep.keep (r:Rep K cl μ S H) (l:Lat μ H μ H') (k:∀ a,a∈μ.pl->H' a=H a):Rep K cl μ S H':=by
 refine ⟨r.len,r.nd,λn o a e1 e2=>?_,λa m=>let ⟨h1,u,h2⟩:=r.res a m;⟨h1,u,l.oth _ _ h2 h1⟩⟩;have ka:=k a (AL e2);have h:=r.ats n o a e1 e2;cases o with
 | lst ds=>obtain ⟨xs,e,q⟩:=h;exact ⟨xs,by rw [ka];exact e,q.later l⟩
 | dct kvs=>obtain ⟨xs,e,q⟩:=h;exact ⟨xs,by rw [ka];exact e,Paired.mono (λ_ _ ⟨z,w⟩=>⟨z,w.later l⟩) q⟩
 | dcT kvs=>obtain ⟨es,e,h1,h2,q⟩:=h;exact ⟨es,by rw [ka];exact e,h1,h2,Paired.mono (λ_ _ ⟨b,v,z,a1,a2,a3,a4,a5,a6⟩=>⟨b,v,z,a1,a2.later l,a3,a4,a5,a6.later l⟩) q⟩
 | exc c fs=>
  obtain ⟨xc,gs,q,fr,h⟩:=h;refine ⟨xc,gs,Paired.mono (λ_ _ ⟨z,w⟩=>⟨z,w.later l⟩) q,fr,?_⟩;rcases h with ⟨z,e⟩ | ⟨d,h1,h2,e,e2⟩
  ·grind
  ·exact .inr ⟨d,h1,h2,by rw [ka];exact e,l.oth _ _ e2 h2⟩
theorem Rep.laid (r:Rep K cl μ S H) (h:H p=none):Rep K cl μ S (upd H p o):=r.keep (Lat.laid h) λa m=>a7 λz=>r.notin h (z▸m)
theorem Lat.pushed (h:H p=none) (k:∀ a u,H a=some u->H' a=some u):Lat μ H (μ.push p) H':=
 ⟨λn a e=>by show (μ.pl++[p])[n]?=_;rw [Al (Ai.mp e).1];exact e,λa u e _=>k a u e,λa m=>by
  rcases Az.mp m with z | z
  ·exact .inl z
  ·exact .inr (by rw [Aw.mp z];exact h),rfl⟩
theorem OAt.later {a:Addr} {o:O} (h:OAt K cl μ H a o) (l:Lat μ H μ' H') (ka:H' a=H a):OAt K cl μ' H' a o:=by
 cases o with
 | lst ds=>obtain ⟨xs,e,q⟩:=h;exact ⟨xs,by rw [ka];exact e,q.later l⟩
 | dct kvs=>obtain ⟨xs,e,q⟩:=h;exact ⟨xs,by rw [ka];exact e,Paired.mono (λ_ _ ⟨z,w⟩=>⟨z,w.later l⟩) q⟩
 | dcT kvs=>obtain ⟨es,e,h1,h2,q⟩:=h;exact ⟨es,by rw [ka];exact e,h1,h2,Paired.mono (λ_ _ ⟨b,v,z,a1,a2,a3,a4,a5,a6⟩=>⟨b,v,z,a1,a2.later l,a3,a4,a5,a6.later l⟩) q⟩
 | exc c fs=>
  obtain ⟨xc,gs,q,fr,h⟩:=h;refine ⟨xc,gs,Paired.mono (λ_ _ ⟨z,w⟩=>⟨z,w.later l⟩) q,fr,?_⟩;rcases h with ⟨z,e⟩ | ⟨d,h1,h2,e,e2⟩
  ·grind
  ·exact .inr ⟨d,h1,l.out e2 h2,by rw [ka];exact e,l.oth _ _ e2 h2⟩
theorem Rep.pushed (r:Rep K cl μ S H) (h:H p=none) (k:∀ a u,H a=some u->H' a=some u) (i:OAt K cl (μ.push p) H' p o):Rep K cl (μ.push p) (S++[o]) H':=by
 have l:=Lat.pushed (μ:=μ) h k;refine ⟨by simp [Mp.push,r.len],?_,λn u a d c=>?_,λa m=>?_⟩
 ·show (μ.pl++[p]).Nodup;rw [BP];exact ⟨r.nd,by simp,λa m b m2=>by rw [Aw.mp m2];rintro rfl;exact r.notin h m⟩
 ·have c:(μ.pl++[p])[n]?=some a:=c;by_cases f:n<S.length
  ·rw [Al f] at d;rw [Al (by rw [r.len];exact f)] at c;have q:=r.ats n u a d c;obtain ⟨z,g⟩:=q.some;exact q.later l ((k a z g).trans g.symm)
  ·have e:n=S.length:=by
    have:=(Ai.mp d).1;simp at this;omega
   subst e;rw [<- r.len] at c;simp at d c;subst d;subst c;exact i
 ·obtain ⟨j,u,s⟩:=r.res a m;refine ⟨λz=>?_,u,k a u s⟩;rcases Az.mp (z) with z | z
  ·exact j z
  ·grind
theorem Lat.wrote (h:a∈μ.pl):Lat μ H μ (upd H a o):=⟨λ_ _ h=>h,λb u e n=>by rw [a7 (λz=>n (by rw [z];exact h))];exact e,λ_ h=>.inl h,rfl⟩
theorem Rep.wrote {n:Nat} {a:Addr} {u:HO} {o:O} (r:Rep K cl μ S H) (e:μ.pl[n]?=some a) (ho:OAt K cl μ (upd H a u) a o):Rep K cl μ (S.set n o) (upd H a u):=by
 have m:a∈μ.pl:=AL e;refine ⟨by simp [r.len],r.nd,λk w b e1 e2=>?_,λb mb=>let ⟨h1,u',h2⟩:=r.res b mb;⟨h1,u',by rw [a7 (λz=>h1 (by rw [z];exact m))];exact h2⟩⟩;by_cases hk:n=k
 ·subst hk;rw [e] at e2;cases e2;rw [AR (by have:=(Ai.mp e).1;rw [r.len] at this;exact this)] at e1;cases e1;exact ho
 ·rw [AC hk] at e1;have hb:b≠a:=λz=>by
   subst z;obtain ⟨h1,q1⟩:=Ai.mp e;obtain ⟨h2,q2⟩:=Ai.mp e2;exact hk ((List.getElem_inj r.nd).mp (q1.trans q2.symm))
  exact (r.ats k w b e1 e2).later (Lat.wrote m) (a7 hb)
end
def Mp.hold (μ:Mp) (p:Addr):Mp:=⟨μ.pl,p :: μ.rs⟩
mutual
theorem RD.move {K:PySem.W.Frag} {μ μ':Mp} {H H':Hp} (g:∀ (n:Nat) (a:Addr),μ.pl[n]?=some a->μ'.pl[n]?=some a) (c:∀ a u,H a=some u->a∉μ.pl->a∉μ.rs->H' a=some u/\a∉μ'.pl/\a∉μ'.rs):∀ {d:D} {v:V},RD K μ H d v->RD K μ' H' d v
 | _,_,.non=>.non
 | _,_,.bl b=>.bl b
 | _,_,.int i=>.int i
 | _,_,.str x=>.str x
 | _,_,.tup h r=>.tup (h.imp (λ⟨q,e,f⟩=>by
   rcases q with q | ⟨o,q⟩
   ·exact ⟨.inl (c _ _ q e f).1,(c _ _ q e f).2⟩
   ·exact ⟨.inr ⟨o,(c _ _ q e f).1⟩,(c _ _ q e f).2⟩) id) (RDs.move g c r)
 | _,_,.lst h r=>.lst (c _ _ h.1 h.2.1 h.2.2) (RDs.move g c r)
 | _,_,.scr h r=>.scr (h.imp (λ⟨q,e,f⟩=>by
   rcases q with q | ⟨o,q⟩
   ·exact ⟨.inl (c _ _ q e f).1,(c _ _ q e f).2⟩
   ·exact ⟨.inr ⟨o,(c _ _ q e f).1⟩,(c _ _ q e f).2⟩) id) (RDs.move g c r)
 | _,_,.ref h=>.ref (g _ _ h)
theorem RDs.move {K:PySem.W.Frag} {μ μ':Mp} {H H':Hp} (hp:∀ (n:Nat) (a:Addr),μ.pl[n]?=some a->μ'.pl[n]?=some a) (ho:∀ a u,H a=some u->a∉μ.pl->a∉μ.rs->H' a=some u/\a∉μ'.pl/\a∉μ'.rs):∀ {ds:List D} {vs:List V},RDs K μ H ds vs->RDs K μ' H' ds vs
 | _,_,.nil=>.nil
 | _,_,.cons h r=>.cons (RD.move hp ho h) (RDs.move hp ho r)
end
section
variable {K:PySem.W.Frag} {cl:ClW} {μ:Mp} {S:Sto} {H:Hp}
theorem Rep.move {H':Hp} (r:Rep K cl μ S H) (hr:∀ a,a∈μ'.rs->a∉μ'.pl/\∃ u,H' a=some u) (hp:μ'.pl=μ.pl) (hk:∀ a,a∈μ.pl->H' a=H a) (hx:∀ a u,H a=some (.ext u)->H' a=some (.ext u)) (ho:∀ a u,H a=some u->a∉μ.pl->a∉μ.rs->H' a=some u/\a∉μ'.pl/\a∉μ'.rs):Rep K cl μ' S H':=by
 have hp':∀ (n:Nat) (a:Addr),μ.pl[n]?=some a->μ'.pl[n]?=some a:=λn a e=>by rw [hp];exact e
 refine ⟨by rw [hp];exact r.len,by rw [hp];exact r.nd,λn o a e1 e2=>?_,hr⟩;rw [hp] at e2;have ka:=hk a (AL e2);have h:=r.ats n o a e1 e2;cases o with
 | lst ds=>obtain ⟨xs,e,q⟩:=h;exact ⟨xs,by rw [ka];exact e,q.move hp' ho⟩
 | dct kvs=>obtain ⟨xs,e,q⟩:=h;exact ⟨xs,by rw [ka];exact e,Paired.mono (λ_ _ ⟨z,w⟩=>⟨z,w.move hp' ho⟩) q⟩
 | dcT kvs=>obtain ⟨es,e,h1,h2,q⟩:=h;exact ⟨es,by rw [ka];exact e,h1,h2,Paired.mono (λ_ _ ⟨b,v,z,a1,a2,a3,a4,a5,a6⟩=>⟨b,v,z,a1,a2.move hp' ho,a3,a4,a5,a6.move hp' ho⟩) q⟩
 | exc c fs=>
  obtain ⟨xc,gs,q,fr,h⟩:=h;refine ⟨xc,gs,Paired.mono (λ_ _ ⟨z,w⟩=>⟨z,w.move hp' ho⟩) q,fr,?_⟩;rcases h with ⟨z,e⟩ | ⟨d,h1,h2,e,e2⟩
  ·grind
  ·exact .inr ⟨d,h1,by rw [hp];exact h2,by rw [ka];exact e,hx _ _ e2⟩
end
section
variable (K:PySem.W.Frag) (cl:ClW) (xe:Addr->Hp->Prop)
def Post {b:Type} (μ:Mp) (H:Hp) (r:R b) (G:b->Sto->Mp->Hp->Prop):Prop:=match r with
 | .ok a S=>∀ μ' H',Lat μ H μ' H'->Rep K cl μ' S H'->G a S μ' H'
 | .exn n S=>∀ μ' H' a,Lat μ H μ' H'->Rep K cl μ' S H'->μ'.pl[n]?=some a->xe a H'
 | .bad=>False
end
section
variable {K:PySem.W.Frag} {cl:ClW} {xe:Addr->Hp->Prop} {α β:Type} {μ μ1:Mp} {H H1:Hp}
theorem Post.later {G:α->Sto->Mp->Hp->Prop} (h:Post K cl xe μ H r G) (l:Lat μ H μ1 H1):Post K cl xe μ1 H1 r G:=by
 cases r with
 | ok a S=>exact λμ' H' k r=>h μ' H' (l.trans k) r
 | exn n S=>exact λμ' H' a k r e=>h μ' H' a (l.trans k) r e
 | bad=>exact h
theorem Post.imp {G G':α->Sto->Mp->Hp->Prop} (h:Post K cl xe μ H r G) (k:∀ a S μ' H',Lat μ H μ' H'->Rep K cl μ' S H'->G a S μ' H'->G' a S μ' H'):Post K cl xe μ H r G':=by
 cases r with
 | ok a S=>exact λμ' H' l r=>k a S μ' H' l r (h μ' H' l r)
 | exn n S=>exact h
 | bad=>exact h
theorem Post.bind {k:α->M β} {S:Sto} {G:β->Sto->Mp->Hp->Prop} (h:Post K cl xe μ H (bind m k S) G):Post K cl xe μ H (m S) (λa S1 μ1 H1=>Post K cl xe μ1 H1 (k a S1) G):=by
 unfold L3.bind at h;cases e:m S with
 | ok a S1=>
  rw [e] at h;exact λμ' H' l r=>Post.later h l
 | exn n S1=>rw [e] at h;exact h
 | bad=>rw [e] at h;exact h
theorem Post.ret {G:α->Sto->Mp->Hp->Prop} (h:Post K cl xe μ H (ret a S) G):∀ μ' H',Lat μ H μ' H'->Rep K cl μ' S H'->G a S μ' H':=h
end
def EnvOk (K:PySem.W.Frag) (μ:Mp) (H:Hp) (ρ:Env) (σ:L2.St):Prop:=ρ.length=σ.length/\∀ (i:Nat) (d:D),ρ[i]?=some (some d)->∃ v,σ[i]?=some (some v)/\RD K μ H d v
theorem EnvOk.later {K:PySem.W.Frag} {μ a:Mp} {H b:Hp} {ρ:Env} {σ:L2.St} (h:EnvOk K μ H ρ σ) (l:Lat μ H a b):EnvOk K a b ρ σ:=⟨h.1,λi d e=>let ⟨v,q,r⟩:=h.2 i d e;⟨v,q,r.later l⟩⟩
theorem EnvOk.set {K:PySem.W.Frag} {μ:Mp} {H:Hp} {ρ:Env} {σ:L2.St} {d:D} {v:V} (h:EnvOk K μ H ρ σ) (r:RD K μ H d v) (i:Nat):EnvOk K μ H (ρ.set i (some d)) (σ.set i (some v)):=by
 refine ⟨by simp [h.1],λj e b=>?_⟩;by_cases a:i=j
 ·subst a;have c:i<ρ.length:=by
   have:=(Ai.mp b).1;simpa using this
  rw [AR c] at b;cases b;exact ⟨v,AR (by rw [<- h.1];exact c),r⟩
 ·rw [AC a] at b;obtain ⟨u,q,f⟩:=h.2 j e b;exact ⟨u,by rw [AC a];exact q,f⟩
section
variable (K:PySem.W.Frag) (cl:ClW) (xe:Addr->Hp->Prop)
def tD (f:Env->M D):TE:=λσ H Q=>∃ μ S ρ,EnvOk K μ H ρ σ/\Rep K cl μ S H/\Post K cl xe μ H (f ρ S) λd _ μ' H'=>∀ v,RD K μ' H' d v->Q v H'
def tDs (f:Env->M (List D)):TA:=λσ H Q=>∃ μ S ρ,EnvOk K μ H ρ σ/\Rep K cl μ S H/\Post K cl xe μ H (f ρ S) λds _ μ' H'=>∀ vs,RDs K μ' H' ds vs->Q vs H'
def tBo (f:Env->M Bool):TT:=λσ H Q=>∃ μ S ρ,EnvOk K μ H ρ σ/\Rep K cl μ S H/\Post K cl xe μ H (f ρ S) λb _ _ H'=>Q b H'
def rP2 (g:D->D->M D):R2:=λx y H Q=>∃ μ S d e,RD K μ H d x/\RD K μ H e y/\Rep K cl μ S H/\Post K cl xe μ H (g d e S) λr _ μ' H'=>∀ v,RD K μ' H' r v->Q v H'
def rPs (g:List D->M D):List V->Hp->VK->Prop:=λxs H Q=>∃ μ S ds,RDs K μ H ds xs/\Rep K cl μ S H/\Post K cl xe μ H (g ds S) λr _ μ' H'=>∀ v,RD K μ' H' r v->Q v H'
end
theorem PE.imp (h:PE X e t) (k:∀ σ H Q,t' σ H Q->t σ H Q):PE X e t':=λpins s σ H Q I q=>h pins s σ H Q I (k σ H Q q)
theorem PT.imp (h:PT X e t) (k:∀ σ H Q,t' σ H Q->t σ H Q):PT X e t':=λpins s σ H Q I q=>h pins s σ H Q I (k σ H Q q)
theorem PW.imp (h:PW X e t) (k:∀ σ H Q,t' σ H Q->t σ H Q):PW X e t':=λw pins s σ H Q I q=>h w pins s σ H Q I (k σ H Q q)
theorem PA.imp (h:PA X es t) (k:∀ σ H Q,t' σ H Q->t σ H Q):PA X es t':=λp pins s σ H Q I q=>h p pins s σ H Q I (k σ H Q q)
theorem PS.imp {st:Stmt} {t t':TS} (h:PS X st t) (k:∀ D σ H,t' D σ H->t D σ H):PS X st t':=λpins s σ H D I q=>h pins s σ H D I (k D σ H q)
theorem PSs.imp {st:List Stmt} {t t':TS} (h:PSs X st t) (k:∀ D σ H,t' D σ H->t D σ H):PSs X st t':=λpins s σ H D I q=>h pins s σ H D I (k D σ H q)
section
variable {X:Cx} {cl:ClW} {xe:Addr->Hp->Prop} {a b c:Expr} {es:List Expr} {pos:Pos} {f g:Env->M D}
theorem f6:PE X e (tD X.K cl xe λ_=>bad):=λ_ _ _ _ _ _ ⟨_,_,_,_,_,p⟩=>p.elim
theorem cA:PT X e (tBo X.K cl xe λ_=>bad):=λ_ _ _ _ _ _ ⟨_,_,_,_,_,p⟩=>p.elim
theorem pw_bad:PW X e (tBo X.K cl xe λ_=>bad):=λ_ _ _ _ _ _ _ ⟨_,_,_,_,_,p⟩=>p.elim
theorem B1 (h:PE X e (tC v)) (r:∀ μ H,RD X.K μ H d v):PE X e (tD X.K cl xe λ_=>ret d):=PE.imp h λσ H Q ⟨μ,S,ρ,b,a,p⟩=>p.ret μ H (Lat.refl _ _) a v (r μ H)
def getD (i:Nat) (ρ:Env):M D:=match ρ[i]? with
 | some (some d)=>ret d
 | _=>bad
theorem nu {e:Expr} (h:PE X e (oQ i)):PE X e (tD X.K cl xe λρ=>getD i ρ):=PE.imp h λσ H Q ⟨μ,S,ρ,b,a,p⟩=>by
 cases e:ρ[i]? with
 | none=>simp only [getD,e] at p;exact p.elim
 | some o=>
  cases o with
  | none=>simp only [getD,e] at p;exact p.elim
  | some d=>
   simp only [getD,e] at p;obtain ⟨v,q,r⟩:=b.2 i d e;exact ⟨v,q,p.ret μ H (Lat.refl _ _) a v r⟩
theorem oE (e:PE X a (tD X.K cl xe f)) (k:PE X b (tD X.K cl xe g)) (s:OpR X (binaryOp op) (rP2 X.K cl xe h)) :
  PE X (.BinOp a op b pos) (tD X.K cl xe λρ=>bind (f ρ) λx=>bind (g ρ) λy=>h x y):=PE.imp (rT s e k) λσ H Q ⟨μ,S,ρ,d,j,p⟩=>
 ⟨μ,S,ρ,d,j,p.bind.imp λx S1 c z t q i v r=>⟨c,S1,ρ,d.later t,q,i.bind.imp λy S2 μ2 w l o m u n=>⟨μ2,S2,x,y,r.later l,n,o,m⟩⟩⟩
theorem pS (e:PE X a (tD X.K cl xe f)) (k:PE X b (tD X.K cl xe g)) (s:OpR X (compareOp op) (rP2 X.K cl xe h)) (w:behindInMarks op b=false) :
  PE X (.Compare a [op] [b] pos) (tD X.K cl xe λρ=>bind (f ρ) λx=>bind (g ρ) λy=>h x y):=PE.imp (lg s e k w) λσ H Q ⟨μ,S,ρ,d,j,p⟩=>
 ⟨μ,S,ρ,d,j,p.bind.imp λx S1 c A t q i v r=>⟨c,S1,ρ,d.later t,q,i.bind.imp λy S2 μ2 z l o m u n=>⟨μ2,S2,x,y,r.later l,n,o,m⟩⟩⟩
theorem tK (e:PE X a (tD X.K cl xe f)) (k:PE X b (tD X.K cl xe g)) (s:IxR X (rP2 X.K cl xe h)) (hs:Z7 b) :
  PE X (.Subscript a b pos) (tD X.K cl xe λρ=>bind (f ρ) λx=>bind (g ρ) λy=>h x y):=PE.imp (tO s e k hs) λσ H Q ⟨μ,S,ρ,d,j,p⟩=>
 ⟨μ,S,ρ,d,j,p.bind.imp λx S1 c z t q i v r=>⟨c,S1,ρ,d.later t,q,i.bind.imp λy S2 μ2 w l o m u n=>⟨μ2,S2,x,y,r.later l,n,o,m⟩⟩⟩
theorem qX (n:PT X c (tBo X.K cl xe t)) (k:PE X a (tD X.K cl xe f)) (m:PE X b (tD X.K cl xe g)):PE X (.IfExp c a b pos) (tD X.K cl xe λρ=>bind (t ρ) λq=>if q=true then f ρ else g ρ):=PE.imp (gI n k m) λσ H Q ⟨μ,S,ρ,e,l,p⟩=>
 ⟨μ,S,ρ,e,l,p.bind.imp λq S1 d o j i h=>by
  cases q with
  | true=>exact ⟨d,S1,ρ,e.later j,i,h⟩
  | false=>exact ⟨d,S1,ρ,e.later j,i,h⟩⟩
theorem oW (h:PT X a (tBo X.K cl xe t)):PT X (.UnaryOp .Not a pos) (tBo X.K cl xe λρ=>bind (t ρ) λq=>ret (!q)):=PT.imp (oS h) λσ H Q ⟨μ,S,ρ,f,d,p⟩=>
 ⟨μ,S,ρ,f,d,p.bind.imp λq S1 b g i e c=>c.ret b g (Lat.refl _ _) e⟩
theorem kH (h:PT X a (tBo X.K cl xe t)):PW X (.BoolOp .And [a] pos) (tBo X.K cl xe t):=pw_and1 h
theorem qP (h:PT X a (tBo X.K cl xe t)):PW X (.BoolOp .Or [a] pos) (tBo X.K cl xe t):=pw_or1 h
theorem oq {c:List Expr} (h:PT X a (tBo X.K cl xe t)) (k:PW X (.BoolOp .And (b :: c) pos) (tBo X.K cl xe u)):PW X (.BoolOp .And (a :: b :: c) pos) (tBo X.K cl xe λρ=>bind (t ρ) λq=>if q=true then u ρ else ret false):=PW.imp (pw_and h k) λσ H Q ⟨μ,S,ρ,g,i,p⟩=>
 ⟨μ,S,ρ,g,i,p.bind.imp λq S1 d l j f e=>by
  cases q with
  | true=>exact ⟨d,S1,ρ,g.later j,f,e⟩
  | false=>exact e.ret d l (Lat.refl _ _) f⟩
theorem tZ {c:List Expr} (h:PT X a (tBo X.K cl xe t)) (k:PW X (.BoolOp .Or (b :: c) pos) (tBo X.K cl xe u)):PW X (.BoolOp .Or (a :: b :: c) pos) (tBo X.K cl xe λρ=>bind (t ρ) λq=>if q=true then ret true else u ρ):=PW.imp (pw_or h k) λσ H Q ⟨μ,S,ρ,g,i,p⟩=>
 ⟨μ,S,ρ,g,i,p.bind.imp λq S1 d l j f e=>by
  cases q with
  | true=>exact e.ret d l (Lat.refl _ _) f
  | false=>exact ⟨d,S1,ρ,g.later j,f,e⟩⟩
def asB (d:D):M Bool:=match d with
 | .bl b=>ret b
 | _=>bad
theorem qG {K:PySem.W.Frag} {a:Mp} {c:Hp} {S:Sto} {d:D} {v:V} {Q:Bool->Hp->Prop} (f:RD K a c d v) (e:Rep K cl a S c) (p:Post K cl xe a c (asB d S) λb _ _ H'=>Q b H'):∃ k,v=.bl k/\Q k c:=by
 cases f with
 | bl b=>exact ⟨b,rfl,p.ret a c (Lat.refl _ _) e⟩
 | _=>exact p.elim
theorem O0 (o:PE X a (tD X.K cl xe f)) (k:PE X b (tD X.K cl xe g)) (r:OpR X (compareOp op) (rP2 X.K cl xe h)) (n:behindInMarks op b=false) :
  PT X (.Compare a [op] [b] pos) (tBo X.K cl xe λρ=>bind (f ρ) λx=>bind (g ρ) λy=>bind (h x y) asB):=PT.imp (jv r o k n) λσ H Q ⟨μ,S,ρ,d,t,p⟩=>
 ⟨μ,S,ρ,d,t,p.bind.imp λx S1 c I s q j v m=>⟨c,S1,ρ,d.later s,q,j.bind.imp λy S2 μ2 J A D l u B=>⟨μ2,S2,x,y,m.later A,B,D,l.bind.imp λz F e E G C i w rw=>qG rw C i⟩⟩⟩
end
end L3
namespace HT
open PySem PySem.Spec PyProof.Rows
theorem noFill_tuple_mul:fillsNumberSlot (.type "tuple") "mul" = pure false:=
 PySem.fillsNumberSlot_seq F.slot_tuple_mul.lookup (by decide +kernel) F.slot_tuple_rmul.lookup (by decide +kernel)
theorem repeat_tuple:seqRepeat? (.type "tuple")=pure (some (.builtin "tuple.__mul__")):=by
 unfold seqRepeat?;rw [PySem.seqSlot_of (name:="__mul__") F.slot_tuple_mul.lookup (by decide +kernel),PySem.seqSlot_of (name:="__rmul__") F.slot_tuple_rmul.lookup (by decide +kernel)];rfl
theorem int_rmul_tuple (a:Int) (t:Tok) (l:Addr) (items:Array Value) (n:Nat) (b:Option Addr) (c:Array (Option Value)) :
  Meets (Builtin.«int.__rmul__» ⟨[.int a t,.ref l],[]⟩) (λ_ R s=>s.heap.get? l=some { cls:=.type "tuple",dict:=b,data:=.seq items n,slots:=c }/\R (.ok (.ret Value.notImplemented)) s):=
 .of_wp λprog w A R s h=>by obtain ⟨f,g,d,i,e⟩:=s;obtain ⟨j,h⟩:=h;wp_walk;exact ⟨_,rfl,h⟩
theorem tuple_mul1 (l:Addr) (items:Array Value) (n:Nat) (a:Option Addr) (b:Array (Option Value)) (u:Tok) :
  Meets (Builtin.«tuple.__mul__» ⟨[.ref l,.int 1 u],[]⟩) (λ_ R s=>s.heap.get? l=some { cls:=.type "tuple",dict:=a,data:=.seq items n,slots:=b }/\R (.ok (.ret (.ref l))) s):=
 .of_wp λprog w A R s h=>by obtain ⟨e,g,d,f,c⟩:=s;obtain ⟨i,h⟩:=h;wp_walk;exact ⟨_,rfl,h⟩
theorem bw {k:Int} (b:1<=k) (a:k<2 ^ 63):¬ ((decide (k < -(2 ^ 63))||decide (k≥2 ^ 63))=true):=by grind
theorem tuple_mul2 (l:Addr) (items:Array Value) (n:Nat) (r:Option Addr) (v:Array (Option Value)) (k:Int) (u:Tok) (a:¬ (items.isEmpty||k==1)=true) (B:2<=k) (p:k<2 ^ 63) (hsz:items.size * k.toNat<=sizeLine) :
  Meets (Builtin.«tuple.__mul__» ⟨[.ref l,.int k u],[]⟩) (λ_ R s=>s.heap.get? l=some { cls:=.type "tuple",dict:=r,data:=.seq items n,slots:=v }/\R (.ok (.ret (.ref s.heap.objs.size))) { s with heap:=s.heap.push { cls:=.type "tuple",data:=.seq ((List.replicate k.toNat items).foldl (·++·) #[]) } }):=
 .of_wp λprog w A R s h=>by
  obtain ⟨j,g,d,y,x⟩:=s;obtain ⟨t,h⟩:=h;have q:=bw (by omega) p;have e:=AD;have i:((k.toNat:Nat):Int)=k:=Int.toNat_of_nonneg (by omega);have b:(items.size:Int) * k=((items.size * k.toNat:Nat):Int):=by rw [Int.natCast_mul,i]
  have c:¬ (decide (k<=0)||items.isEmpty)=true:=by
   simp only [Bool.or_eq_true,AG] at a ⊢;intro z;rcases z with z | z
   ·omega
   ·exact a (.inl z)
  have f:¬ ((items.size:Int) * k > (2 ^ 63-1) / 8):=by rw [b];omega
  have m:¬ Builtin.Tuple.tupleTooMany ((items.size:Int) * k)=true:=by
   rw [b];simp only [Builtin.Tuple.tupleTooMany,AG];omega
  have hz:((List.replicate k.toNat items).foldl (·++·) #[]).size<=sizeLine:=by
   rw [AutoListH.size_joined,Nat.mul_comm];simpa using hsz
  wp_walk
  rw [if_neg q];have o:IsTup j l items:=⟨_,t,rfl,n,rfl⟩;refine Ag (tupleItemsOf_ o ?_);rw [if_neg a];rw [if_neg c];rw [if_neg f];rw [if_neg m];refine Ag (AS ?_ hz);exact Aj ⟨_,rfl,h⟩
end HT
namespace L2
open PySem PySem.Spec PyProof.Rows
section
variable {X:Cx}
theorem lJ:OpR X (binaryOp .Mult) (λx y H Q=>∃ a k xs,x=.ref a/\y=.int k/\SqT X.K H a xs/\xs≠[]/\1<=k/\k<2 ^ 63/\xs.length * k.toNat<=sizeLine/\(k=1->Q (.ref a) H)/\(k≠1->∀ p,H p=none->Q (.ref p) (upd H p (.tup (List.replicate k.toNat xs).flatten)))):=by
 intro pins s σ H x y v u Q I J C h;obtain ⟨a,k,xs,rfl,rfl,o,r,N,k2,hz,B,w⟩:=h;cases J;obtain ⟨t,rfl⟩:=C;obtain ⟨c,g,D,_⟩:=I.tuple o;obtain ⟨⟨E,e,j,f⟩,d,G,n,hd⟩:=id D;subst G hd;have L:=g.length;by_cases i:k=1
 ·subst i;exact Ca (by decide) ⟨_,d,rfl⟩ (λs'=>CG s' 1 t) HT.noFill_tuple_mul F.fills_int_mul F.slot_int_rmul HT.repeat_tuple F.slot_int_index.lookup
   (Cm F.slot_int_rmul (CG s 1 t) F.entry_int_rmul (F.args_int_rmul_2 _ _) (HT.int_rmul_tuple 1 t a c.toArray n e f)
    ⟨d,rfl,⟨_,d,rfl⟩,Cm F.slot_tuple_mul ⟨_,d,rfl⟩ F.entry_tuple_mul (F.args_tuple_mul_2 _ _) (HT.tuple_mul1 a c.toArray n e f t) ⟨d,.ref a,H,I,rfl,B rfl⟩⟩)
 ·have M:=λz=>r (g.nil_iff.mp z);have l:¬ (c.toArray.isEmpty||k==1)=true:=by
   simp only [Bool.or_eq_true,CC];rintro (z | z)
   ·grind
   ·exact i z
  refine Ca (by decide) ⟨_,d,rfl⟩ (λs'=>CG s' k t) HT.noFill_tuple_mul F.fills_int_mul F.slot_int_rmul HT.repeat_tuple F.slot_int_index.lookup
   (Cm F.slot_int_rmul (CG s k t) F.entry_int_rmul (F.args_int_rmul_2 _ _) (HT.int_rmul_tuple k t a c.toArray n e f)
    ⟨d,rfl,⟨_,d,rfl⟩,Cm F.slot_tuple_mul ⟨_,d,rfl⟩ F.entry_tuple_mul (F.args_tuple_mul_2 _ _) (HT.tuple_mul2 a c.toArray n e f k t l (by omega) k2 (by rw [As,<- L];exact hz)) ⟨d,?_⟩⟩)
  have m:List.foldl (λA K=>A++K) #[] (List.replicate k.toNat c.toArray)=(List.replicate k.toNat c).flatten.toArray:=by
   have:=K7 c k.toNat [];rw [CN] at this;exact this
  rw [m];refine ⟨.ref s.heap.objs.size,_,I.laid (λb ob q=>Ah _ q) (Ao _) ?_,rfl,w i _ (I.hok.fresh (Ao _))⟩;exact ⟨by rw [eM,Nat.mul_comm];exact hz,_,g.rep k.toNat,TupN.new _ _⟩
end
end L2
namespace L3
open PySem PySem.Spec PyProof.Rows L2
def lstOf (d:D):M (List D):=match d with
 | .lst ds=>ret ds
 | .ref n=>λS=>match S[n]? with
  | some (.lst ds)=>.ok ds S
  | _=>.bad
 | _=>bad
def hZ (d:D):M (List D):=match d with
 | .tup ds=>ret ds
 | .scr ds=>ret ds
 | d=>lstOf d
section
variable {K:PySem.W.Frag} {cl:ClW} {xe:Addr->Hp->Prop} {μ:Mp} {H:Hp} {S:Sto} {α:Type}
theorem t7 (rd:RD K μ H d v) (rp:Rep K cl μ S H) (p:Post K cl xe μ H (lstOf d S) G):∃ a xs ds,v=.ref a/\H a=some (.lst xs)/\RDs K μ H ds xs/\lstOf d S=.ok ds S:=by
 cases rd with
 | lst h r=>exact ⟨_,_,_,rfl,h.1,r,rfl⟩
 | ref e=>
  rename_i n a;simp only [lstOf] at p;cases q:S[n]? with
  | none=>rw [q] at p;exact p.elim
  | some o=>
   cases o with
   | dcT _=>rw [q] at p;exact p.elim
   | lst ds=>
    obtain ⟨xs,h1,h2⟩:=rp.ats n _ a q e;exact ⟨a,xs,ds,rfl,h1,h2,by simp only [lstOf,q]⟩
   | dct _=>rw [q] at p;exact p.elim
   | exc _ _=>rw [q] at p;exact p.elim
 | _=>exact p.elim
theorem Post.ok_bind {a:α} {G:β->Sto->Mp->Hp->Prop} (e:m S=.ok a S) (p:Post K cl xe μ H (L3.bind m k S) G):Post K cl xe μ H (k a S) G:=by
 unfold L3.bind at p;rw [e] at p;exact p
theorem G1 (b:Rep K cl μ S H) (r:RDs K μ H ds xs) (a:H p=none):Lat μ H μ (upd H p (.tup xs))/\Rep K cl μ S (upd H p (.tup xs))/\RD K μ (upd H p (.tup xs)) (.tup ds) (.ref p):=
 ⟨Lat.laid a,b.laid a,.tup (.inl ⟨.inl b6,b.notin a,b.notrs a⟩) (r.later (Lat.laid a))⟩
theorem G2 (b:Rep K cl μ S H) (r:RDs K μ H ds xs) (a:H p=none):Lat μ H μ (upd H p (.lst xs))/\Rep K cl μ S (upd H p (.lst xs))/\RD K μ (upd H p (.lst xs)) (.lst ds) (.ref p):=
 ⟨Lat.laid a,b.laid a,.lst ⟨b6,b.notin a,b.notrs a⟩ (r.later (Lat.laid a))⟩
theorem fT (c:Rep K cl μ S H) (r:RDs K μ H ds xs) (b:H p=none):Lat μ H (μ.push p) (upd H p (.lst xs))/\Rep K cl (μ.push p) (S++[.lst ds]) (upd H p (.lst xs))/\RD K (μ.push p) (upd H p (.lst xs)) (.ref S.length) (.ref p):=by
 have k:∀ a u,H a=some u->upd H p (.lst xs) a=some u:=λa u e=>by rw [a7 (a9 e b)];exact e
 have l:=Lat.pushed (μ:=μ) b k;refine ⟨l,c.pushed b k ⟨xs,b6,r.later l⟩,.ref ?_⟩;show (μ.pl++[p])[S.length]?=some p;rw [<- c.len];simp
theorem Post.guard [Decidable c] {a:α} {G:α->Sto->Mp->Hp->Prop} (p:Post K cl xe μ H ((if c then L3.ret a else L3.bad) S) G):c/\∀ μ' H',Lat μ H μ' H'->Rep K cl μ' S H'->G a S μ' H':=by
 by_cases b:c
 ·rw [if_pos b] at p;exact ⟨b,p⟩
 ·rw [if_neg b] at p;exact p.elim
end
def h7 {a b:Type} (f:a->Option b):List a->Option (List b)
 | []=>some []
 | x :: xs=>match f x,h7 f xs with
  | some y,some ys=>some (y :: ys)
  | _,_=>none
def i7:Nat->Sto->D->Option PyData
 | 0,_,_=>none
 | n+1,S,d=>match d with
  | .non=>some .none
  | .bl b=>some (.bool b)
  | .int i=>some (.int i)
  | .str x=>some (.str x)
  | .tup ds=>(h7 (i7 n S) ds).map .tuple
  | .lst ds=>(h7 (i7 n S) ds).map .list
  | .scr ds=>(h7 (i7 n S) ds).map .list
  | .ref k=>match S[k]? with
   | some (.lst ds)=>(h7 (i7 n S) ds).map .list
   | _=>none
theorem aX {K:PySem.W.Frag} {μ:Mp} {H:Hp} {S:Sto} {n:Nat} (f:∀ {d:D} {v:V} {q:PyData},i7 n S d=some q->RD K μ H d v->DAt K H v q):∀ {ds:List D} {vs:List V} {a:List PyData},h7 (i7 n S) ds=some a->RDs K μ H ds vs->DAll K H vs a
 | [],_,a,e,r=>by cases r;cases e;exact .nil
 | d :: ds,_,a,e,r=>by
  cases r with
  | cons h t=>
   simp only [h7] at e;cases b:i7 n S d with
   | none=>rw [b] at e;cases e
   | some q=>
    cases c:h7 (i7 n S) ds with
    | none=>grind
    | some g=>
     rw [b,c] at e;cases e;exact .cons (f b h) (aX f c t)
theorem o9 {K:PySem.W.Frag} {cl:ClW} {μ:Mp} {H:Hp} {S:Sto} (rp:Rep K cl μ S H):∀ (n:Nat) {d:D} {v:V} {q:PyData},i7 n S d=some q->RD K μ H d v->DAt K H v q
 | 0,_,_,_,e,_=>by cases e
 | n+1,d,v,q,e,r=>by
  have all:∀ {ds:List D} {vs:List V} {qs:List PyData},h7 (i7 n S) ds=some qs->RDs K μ H ds vs->DAll K H vs qs:=λe r=>aX (λe r=>o9 rp n e r) e r;have um:∀ {ds:List D} {C:List PyData->PyData},(h7 (i7 n S) ds).map C=some q->∃ qs,h7 (i7 n S) ds=some qs/\q=C qs:=λ{ds C} e=>by
   cases e1:h7 (i7 n S) ds with
   | none=>rw [e1] at e;cases e
   | some qs=>grind
  cases r with
  | non=>cases e;exact .non
  | bl b=>cases e;exact .bl b
  | int i=>cases e;exact .int i
  | str x=>cases e;exact .str x
  | tup h t=>obtain ⟨qs,e1,rfl⟩:=um e;exact .tup h.sq (all e1 t)
  | lst h t=>obtain ⟨qs,e1,rfl⟩:=um e;exact .lst h.sq (all e1 t)
  | scr h t=>obtain ⟨qs,e1,rfl⟩:=um e;exact .lst h.sq (all e1 t)
  | ref h=>
   rename_i k a;simp only [i7] at e;cases q1:S[k]? with
   | none=>rw [q1] at e;cases e
   | some o=>
    rw [q1] at e;cases o with
    | lst ds=>
     obtain ⟨qs,e1,rfl⟩:=um e;obtain ⟨xs,h1,h2⟩:=rp.ats k _ a q1 h;exact .lst (.inl (.inl h1)) (all e1 h2)
    | dct _=>cases e
    | exc _ _=>cases e
    | dcT _=>cases e
def i8 (x y:D):M D:=match x,y with
 | .int i,.int j=>ret (.int (i+j))
 | .str a,.str b=>if a.length+b.length<=sizeLine then ret (.str (a++b)) else bad
 | .tup xs,.tup ys=>if xs.length+ys.length<=sizeLine then ret (.tup (xs++ys)) else bad
 | x,y=>bind (lstOf x) λxs=>bind (lstOf y) λys=>if xs.length+ys.length<=sizeLine then ret (.lst (xs++ys)) else bad
def sv (x y:D):M D:=match x,y with
 | .int i,.int j=>ret (.int (i-j))
 | _,_=>bad
instance (i j:Int):Decidable (CMul i j):=by unfold CMul;infer_instance
instance (i j:Int):Decidable (hX i j):=by unfold hX;infer_instance
instance (i j:Int):Decidable (li i j):=by unfold li;infer_instance
def O2 (x y:D):M D:=match x,y with
 | .int i,.int j=>if 0<j then ret (.int (i % j)) else bad
 | _,_=>bad
def M0 (x y:D):M D:=match x,y with
 | .int i,.int j=>if hX i j then ret (.int (i / j)) else bad
 | _,_=>bad
def kZ (x y:D):M D:=match x,y with
 | .int i,.int j=>if li i j then ret (.int (i ^ j.toNat)) else bad
 | _,_=>bad
def F6 (x y:D):M D:=match x,y with
 | .int i,.int j=>if CMul i j then ret (.int (i * j)) else bad
 | .tup ds,.int k=>if (ds≠[]/\1<=k/\k<2 ^ 63)/\ds.length * k.toNat<=sizeLine then ret (.tup (List.replicate k.toNat ds).flatten) else bad
 | x,.int k=>bind (lstOf x) λxs=>if (-(2 ^ 63)<=k/\k<2 ^ 63)/\xs.length * k.toNat<=sizeLine then ret (.lst (List.replicate k.toNat xs).flatten) else bad
 | _,_=>bad
section
variable {X:Cx} {cl:ClW} {xe:Addr->Hp->Prop}
theorem jB:OpR X (binaryOp .Add) (λx y H Q=>∃ a b ys,x=.ref a/\y=.ref b/\SqT X.K H a []/\SqT X.K H b ys/\Q (.ref b) H):=by
 intro pins s σ H x y v u Q I t z h;obtain ⟨a,b,ys,rfl,rfl,B,C,q⟩:=h;cases t;cases z;obtain ⟨w,p,F,_⟩:=I.tuple B;obtain ⟨d,J,G,_⟩:=I.tuple C;cases p;obtain ⟨⟨r,E,l,D⟩,k,o,n,hd⟩:=id F;obtain ⟨⟨m,g,j,f⟩,c,i,A,e⟩:=id G;subst o hd i e;exact concat_meets ⟨_,k,rfl⟩ ⟨_,c,rfl⟩ Dl DC Cs Cq (Cj _ _)
   (tuple_addW0 a b #[] d.toArray n A E g D f rfl) ⟨k,c,⟨.ref b,H,I,rfl,q⟩⟩
theorem rV:OpR X (binaryOp .Add) (rP2 X.K cl xe i8):=by
 intro pins s σ H x y v u Q I n o ⟨μ,S,d,e,A,B,c,p⟩;have L:Post X.K cl xe μ H (bind (lstOf d) (λxs=>bind (lstOf e) λys=>if xs.length+ys.length<=sizeLine then ret (.lst (xs++ys)) else bad) S) (λr _ μ' H'=>∀ v,RD X.K μ' H' r v->Q v H')->wpAny (model X.prog X.w) X.A (binaryOp .Add v u) (EP X pins σ Q) X.xe s:=λp=>by
  obtain ⟨a,xs,ds,rfl,q,m,E⟩:=t7 A c p.bind;have p:=p.ok_bind E;obtain ⟨b,ys,es,rfl,t,h,G⟩:=t7 B c p.bind;obtain ⟨k,p⟩:=(p.ok_bind G).guard;refine oP pins s σ H _ _ v u Q I n o ⟨a,b,xs,ys,rfl,rfl,q,t,by rw [<- m.length,<- h.length];exact k,λz hz=>?_⟩;obtain ⟨l,f,g⟩:=G2 c (m.append h) hz;exact p μ _ l f _ g
 cases d <;> cases e <;> try (exact L p)
 case int.int i j=>cases A;cases B;exact oe pins s σ H _ _ v u Q I n o ⟨i,j,rfl,rfl,p μ H (Lat.refl _ _) c _ (.int _)⟩
 case str.str i j=>
  cases A;cases B;obtain ⟨k,p⟩:=Post.guard p;exact br pins s σ H _ _ v u Q I n o ⟨i,j,rfl,rfl,k,p μ H (Lat.refl _ _) c _ (.str _)⟩
 case tup.tup ds es=>
  obtain ⟨k,p⟩:=Post.guard p;cases A with
  | tup q m=>
   cases B with
   | tup t h=>
    rename_i a xs b ys;cases ds with
    | nil=>
     cases m;exact jB pins s σ H _ _ v u Q I n o ⟨a,b,ys,rfl,rfl,q.sq,t.sq,p μ H (Lat.refl _ _) c _ (.tup t h)⟩
    | cons d ds=>
     cases m with
     | cons D C=>
      rename_i K J;refine lB pins s σ H _ _ v u Q I n o ⟨a,b,_,ys,rfl,rfl,q.sq,t.sq,by simp,by rw [<- h.length];simpa [C.length] using k,λz=>?_,λz w F=>?_⟩
      ·subst z;cases h;rw [AI] at p;exact p μ H (Lat.refl _ _) c _ (.tup q (.cons D C))
      ·obtain ⟨l,f,g⟩:=G1 c ((RDs.cons D C).append h) F;exact p μ _ l f _ g
theorem sN:OpR X (binaryOp .Sub) (rP2 X.K cl xe sv):=by
 intro pins s σ H x y v u Q I c f ⟨μ,S,d,e,b,a,g,p⟩;cases d <;> cases e <;> try (exact False.elim p)
 case int.int i j=>cases b;cases a;exact pN pins s σ H _ _ v u Q I c f ⟨i,j,rfl,rfl,p μ H (Lat.refl _ _) g _ (.int _)⟩
theorem qZ:OpR X (binaryOp .Mod) (rP2 X.K cl xe O2):=by
 intro pins s σ H x y v u Q I f g ⟨μ,S,d,e,c,b,h,p⟩;cases d <;> cases e <;> try (exact False.elim p)
 case int.int i j=>
  cases c;cases b;obtain ⟨a,p⟩:=Post.guard p;exact nk pins s σ H _ _ v u Q I f g ⟨i,j,rfl,rfl,a,p μ H (Lat.refl _ _) h _ (.int _)⟩
theorem oo:OpR X (binaryOp .FloorDiv) (rP2 X.K cl xe M0):=by
 intro pins s σ H x y v u Q I f g ⟨μ,S,d,e,c,b,h,p⟩;cases d <;> cases e <;> try (exact False.elim p)
 case int.int i j=>
  cases c;cases b;obtain ⟨a,p⟩:=Post.guard p;exact km pins s σ H _ _ v u Q I f g ⟨i,j,rfl,rfl,a,p μ H (Lat.refl _ _) h _ (.int _)⟩
theorem rR:OpR X (binaryOp .Pow) (rP2 X.K cl xe kZ):=by
 intro pins s σ H x y v u Q I f g ⟨μ,S,d,e,c,b,h,p⟩;cases d <;> cases e <;> try (exact False.elim p)
 case int.int i j=>
  cases c;cases b;obtain ⟨a,p⟩:=Post.guard p;exact nF pins s σ H _ _ v u Q I f g ⟨i,j,rfl,rfl,a,p μ H (Lat.refl _ _) h _ (.int _)⟩
theorem rP:OpR X (binaryOp .Mult) (rP2 X.K cl xe F6):=by
 intro pins s σ H x y v u Q I A B ⟨μ,S,d,e,t,n,h,p⟩;have L:∀ k:Int,e=.int k->Post X.K cl xe μ H (bind (lstOf d) (λxs=>if (-(2 ^ 63)<=k/\k<2 ^ 63)/\xs.length * k.toNat<=sizeLine then ret (.lst (List.replicate k.toNat xs).flatten) else bad) S) (λr _ μ' H'=>∀ v,RD X.K μ' H' r v->Q v H')->wpAny (model X.prog X.w) X.A (binaryOp .Mult v u) (EP X pins σ Q) X.xe s:=λk F q=>by
  clear p;subst F;cases n;obtain ⟨a,xs,ds,rfl,m,b,G⟩:=t7 t h q.bind;obtain ⟨⟨⟨o,k2⟩,g⟩,p⟩:=(q.ok_bind G).guard;refine qB pins s σ H _ _ v u Q I A B ⟨a,k,xs,rfl,rfl,m,o,k2,by rw [<- b.length];exact g,λz hz=>?_⟩;obtain ⟨l,c,f⟩:=G2 h (b.rep k.toNat) hz;exact p μ _ l c _ f
 cases d <;> cases e <;> try (exact False.elim p)
 case int.int i j=>
  cases t;cases n;obtain ⟨g,p⟩:=Post.guard p;exact oJ pins s σ H _ _ v u Q I A B ⟨i,j,rfl,rfl,g,p μ H (Lat.refl _ _) h _ (.int _)⟩
 case tup.int ds k=>
  cases n;obtain ⟨⟨⟨D,o,k2⟩,g⟩,p⟩:=Post.guard p;cases t with
  | tup m b=>
   rename_i a xs;have C:xs≠[]:=λz=>by subst z;cases b;exact D rfl
   refine lJ pins s σ H _ _ v u Q I A B ⟨a,k,xs,rfl,rfl,m.sq,C,o,k2,by rw [<- b.length];exact g,λz=>?_,λz w E=>?_⟩
   ·subst z;have e:(List.replicate (1:Int).toNat ds).flatten=ds:=by simp
    rw [e] at p;exact p μ H (Lat.refl _ _) h _ (.tup m b)
   ·obtain ⟨l,c,f⟩:=G1 h (b.rep k.toNat) E;exact p μ _ l c _ f
 all_goals exact L _ rfl p
end
def eqP (a:Bool) (x y:D):M D:=λS=>match i7 64 S x,i7 64 S y with
 | some p,some q=>(if p.canLay0=true/\q.canLay0=true/\min p.depth q.depth<=60 then ret (.bl (if a then !PyData.eqv p q else PyData.eqv p q)) else bad) S
 | _,_=>.bad
def eqD (c:Bool) (x y:D):M D:=match x,y with
 | .str a,.str b=>ret (.bl (if c then !decide (a=b) else decide (a=b)))
 | .int a,.int b=>ret (.bl (if c then !decide (a=b) else decide (a=b)))
 | x,y=>eqP c x y
def jh (f:Int->Int->Bool) (x y:D):M D:=match x,y with
 | .int i,.int j=>ret (.bl (f i j))
 | _,_=>bad
def rZ (a:Bool) (d:PyData) (ps:List PyData):M D:=if d.canLay0=true/\PyData.canLayAll0 ps=true/\min (PyData.depthAll ps) d.depth<=60 then ret (.bl (if a then !(ps.any λy=>PyData.eqv y d) else ps.any λy=>PyData.eqv y d)) else bad
def inD (a:Bool) (x y:D):M D:=λS=>match i7 64 S x,i7 64 S y with
 | some d,some (.list ps)=>rZ a d ps S
 | some d,some (.tuple ps)=>rZ a d ps S
 | _,_=>.bad
def isD (a:Bool) (x y:D):M D:=match y with
 | .non=>ret (.bl (match x with
  | .non=>!a
  | _=>a))
 | .bl b=>ret (.bl (match x with
  | .bl c=>if a then !(c==b) else c==b
  | _=>a))
 | _=>bad
section
variable {X:Cx} {cl:ClW} {xe:Addr->Hp->Prop}
theorem uD (q:X.A.units+64<cLine):OpR X (compareOp .Eq) (rP2 X.K cl xe (eqD false)):=by
 intro pins s σ H x y v u Q I i k ⟨μ,S,d,e,j,l,c,p⟩;have g:Post X.K cl xe μ H (eqP false d e S) (λr _ μ' H'=>∀ v,RD X.K μ' H' r v->Q v H')->wpAny (model X.prog X.w) X.A (compareOp .Eq v u) (EP X pins σ Q) X.xe s:=λp=>by
  simp only [eqP] at p;cases f:i7 64 S d with
  | none=>rw [f] at p;exact p.elim
  | some a=>
   cases h:i7 64 S e with
   | none=>rw [f,h] at p;exact p.elim
   | some b=>
    rw [f,h] at p;obtain ⟨⟨m,n,o⟩,p⟩:=Post.guard p;exact nt q pins s σ H _ _ v u Q I i k ⟨a,b,o9 c 64 f j,o9 c 64 h l,m,n,o,p μ H (Lat.refl _ _) c _ (.bl _)⟩
 cases d <;> cases e <;> try (exact g p)
 case str.str a b=>
  cases j;cases l;exact qS pins s σ H _ _ v u Q I i k ⟨rfl,by rw [show decide (V.str a=V.str b)=decide (a=b) by rw [Ck];simp];exact p μ H (Lat.refl _ _) c _ (.bl _)⟩
theorem uL (q:X.A.units+64<cLine):OpR X (compareOp .NotEq) (rP2 X.K cl xe (eqD true)):=by
 intro pins s σ H x y v u Q I i k ⟨μ,S,d,e,j,l,c,p⟩;have g:Post X.K cl xe μ H (eqP true d e S) (λr _ μ' H'=>∀ v,RD X.K μ' H' r v->Q v H')->wpAny (model X.prog X.w) X.A (compareOp .NotEq v u) (EP X pins σ Q) X.xe s:=λp=>by
  simp only [eqP] at p;cases f:i7 64 S d with
  | none=>rw [f] at p;exact p.elim
  | some a=>
   cases h:i7 64 S e with
   | none=>rw [f,h] at p;exact p.elim
   | some b=>
    rw [f,h] at p;obtain ⟨⟨m,n,o⟩,p⟩:=Post.guard p;exact pV q pins s σ H _ _ v u Q I i k ⟨a,b,o9 c 64 f j,o9 c 64 h l,m,n,o,p μ H (Lat.refl _ _) c _ (.bl _)⟩
 cases d <;> cases e <;> try (exact g p)
 case str.str a b=>
  cases j;cases l;exact sW pins s σ H _ _ v u Q I i k ⟨rfl,by rw [show decide (V.str a=V.str b)=decide (a=b) by rw [Ck];simp];exact p μ H (Lat.refl _ _) c _ (.bl _)⟩
theorem dO (h:OpR X (compareOp op) (rI0 λi j=>.bl (f i j))):OpR X (compareOp op) (rP2 X.K cl xe (jh f)):=by
 intro pins s σ H x y v u Q I b g ⟨μ,S,d,e,c,k,a,p⟩;cases d <;> cases e <;> try (exact False.elim p)
 case int.int i j=>cases c;cases k;exact h pins s σ H _ _ v u Q I b g ⟨i,j,rfl,rfl,p μ H (Lat.refl _ _) a _ (.bl _)⟩
theorem V5 {a:Bool} (o:X.A.units+80<cLine) {pins:List (Addr×Obj)} {s:Shared} {σ:L2.St} {H:Hp} {x y:V} {v u:Value} {Q:VK} {d:PyData} {ps:List PyData} (I:Inv X pins σ H s) (l:RelV x v) (j:RelV y u)
  (hd:DAt X.K H x d) (f:DAt X.K H y (.list ps)\/DAt X.K H y (.tuple ps)) (c:d.canLay0=true/\PyData.canLayAll0 ps=true/\min (PyData.depthAll ps) d.depth<=60)
  (q:Q (.bl (if a then !(ps.any λy=>PyData.eqv y d) else ps.any λy=>PyData.eqv y d)) H):wpAny (model X.prog X.w) X.A (compareOp (if a then .NotIn else .In) v u) (EP X pins σ Q) X.xe s:=by
 obtain ⟨h,i,n⟩:=c;obtain ⟨m,g⟩:=hd.reads I l;have b:X.A.units+1+min (PyData.depthAll ps) d.depth<cLine:=by omega
 rcases f with f | f
 ·obtain ⟨k,e⟩:=f.reads I j;cases a with
  | false=>exact SeqAt.in_list_reads e g i h b ⟨.bl _,H,I,rfl,q⟩
  | true=>exact SeqAt.notIn_list_reads e g i h b ⟨.bl _,H,I,rfl,q⟩
 ·obtain ⟨k,e⟩:=f.reads I j;cases a with
  | false=>exact SeqAt.in_tuple_reads e g i h b ⟨.bl _,H,I,rfl,q⟩
  | true=>exact SeqAt.notIn_tuple_reads e g i h b ⟨.bl _,H,I,rfl,q⟩
theorem sE (neg:Bool) (hu:X.A.units+80<cLine):OpR X (compareOp (if neg then .NotIn else .In)) (rP2 X.K cl xe (inD neg)):=by
 intro pins s σ H x y v u Q I rx ry ⟨μ,S,d,e,rd,re,rp,p⟩;simp only [inD] at p;cases e1:i7 64 S d with
 | none=>rw [e1] at p;exact p.elim
 | some a=>
  cases e2:i7 64 S e with
  | none=>rw [e1,e2] at p;exact p.elim
  | some b=>
   rw [e1,e2] at p;have ha:=o9 rp 64 e1 rd;have hb:=o9 rp 64 e2 re;cases b with
   | list ps=>obtain ⟨c,p⟩:=Post.guard p;exact V5 hu I rx ry ha (.inl hb) c (p μ H (Lat.refl _ _) rp _ (.bl _))
   | tuple ps=>obtain ⟨c,p⟩:=Post.guard p;exact V5 hu I rx ry ha (.inr hb) c (p μ H (Lat.refl _ _) rp _ (.bl _))
   | _=>exact p.elim
theorem rm (f:Bool):OpR X (compareOp (if f then .IsNot else .Is)) (rP2 X.K cl xe (isD f)):=by
 intro pins s σ H x y v u Q I a i ⟨μ,S,d,e,h,k,j,p⟩;have g:∀ b:Bool,(∀ μ' H',Lat μ H μ' H'->Rep X.K cl μ' S H'->∀ v,RD X.K μ' H' (.bl b) v->Q v H')->∀ c,c=b->EP X pins σ Q (.bool c) s:=λb p c e=>⟨.bl b,H,I,by rw [e];rfl,p μ H (Lat.refl _ _) j _ (.bl _)⟩;cases k <;> try (exact False.elim p)
 case non=>
  cases i;cases f with
  | false=>
   refine is_none_gen (g _ p _ ?_);cases h <;> first
    | (cases a;rfl)
    | (obtain ⟨t,rfl⟩:=a;rfl)
  | true=>
   refine isnot_none_gen (g _ p _ ?_);cases h <;> first
    | (cases a;rfl)
    | (obtain ⟨t,rfl⟩:=a;rfl)
 case bl b=>
  cases i;cases f with
  | false=>
   refine wpAny_is_plain ?_ (g _ p _ ?_)
   ·cases h <;> first
    | (cases a;rfl)
    | (obtain ⟨t,rfl⟩:=a;rfl)
   ·cases h <;> first
    | (cases a;rfl)
    | (obtain ⟨t,rfl⟩:=a;rfl)
    | (cases a;(rename_i c;cases c <;> cases b <;> rfl))
  | true=>
   refine wpAny_isNot_plain ?_ (g _ p _ ?_)
   ·cases h <;> first
    | (cases a;rfl)
    | (obtain ⟨t,rfl⟩:=a;rfl)
   ·cases h <;> first
    | (cases a;rfl)
    | (obtain ⟨t,rfl⟩:=a;rfl)
    | (cases a;(rename_i c;cases c <;> cases b <;> rfl))
end
def u4:D->Option Key
 | .int i=>some (.inl i)
 | .str x=>some (.inr x)
 | _=>none
def M9 {κ:Type} [DecidableEq κ] (a:List (κ×D)) (k:κ):Option D:=(a.find? λb=>decide (b.1=k)).map (·.2)
def fW {κ:Type} [DecidableEq κ] (a:List (κ×D)) (k:κ) (v:D):List (κ×D):=if a.any (λb=>decide (b.1=k)) then a.map (λb=>if b.1=k then (b.1,v) else b) else a++[(k,v)]
def ay {b:Type}:Option b->M b
 | some a=>ret a
 | none=>bad
def ixD (x y:D):M D:=match x with
 | .ref n=>λS=>match S[n]? with
  | some (.lst ds)=>(match y with
   | .int i=>ay (atI ds i)
   | _=>bad) S
  | some (.dct a)=>ay ((u4 y).bind (M9 a)) S
  | _=>.bad
 | x=>match y with
  | .int i=>bind (hZ x) λds=>ay (atI ds i)
  | _=>bad
theorem qE {K:PySem.W.Frag} {μ:Mp} {H:Hp} {ds:List D} {xs:List V} {i:Int} {d:D} (r:RDs K μ H ds xs) (e:atI ds i=some d):∃ v,atI xs i=some v/\RD K μ H d v:=by
 unfold atI at e ⊢;rw [<- r.length];cases q:ixN ds.length i with
 | none=>rw [q] at e;cases e
 | some j=>rw [q] at e;exact r.get e
theorem de {K:PySem.W.Frag} {cl:ClW} {xe:Addr->Hp->Prop} {μ:Mp} {H:Hp} {S:Sto} {α:Type} {o:Option α} {G:α->Sto->Mp->Hp->Prop} (p:Post K cl xe μ H (ay o S) G):∃ a,o=some a/\∀ μ' H',Lat μ H μ' H'->Rep K cl μ' S H'->G a S μ' H':=by
 cases o with
 | none=>exact p.elim
 | some a=>exact ⟨a,rfl,p⟩
theorem N0 {K:PySem.W.Frag} {μ:Mp} {H:Hp} {k:Key} {d:D}:∀ {a:List (Key×D)} {f:List (Key×V)},KvsAt K μ H a f->M9 a k=some d->∃ v,C6 f k=some v/\RD K μ H d v
 | _,_,.nil,e=>by simp [M9] at e
 | p :: r,q :: j,.cons ⟨c,i⟩ t,e=>by
  unfold M9 at e;rw [AZ] at e;by_cases b:p.1=k
  ·simp only [b,DB] at e;cases e;exact ⟨q.2,G3 (c▸b),i⟩
  ·simp only [b,decide_false] at e;obtain ⟨v,g,h⟩:=N0 t e;exact ⟨v,by rw [G9 (c▸b)];exact g,h⟩
theorem B2 {K:PySem.W.Frag} {μ:Mp} {H:Hp} {y:D} {v:V} {k:Key} (r:RD K μ H y v) (e:u4 y=some k):v=kV k:=by
 cases r <;> simp only [u4] at e <;> first | (cases e;rfl) | cases e
section
variable {X:Cx} {cl:ClW} {xe:Addr->Hp->Prop}
theorem lF (o:X.A.units+1<cLine):IxR X (λx y H Q=>∃ a v,x=.ref a/\DGet H a y (some v)/\Q v H):=by
 intro d c pins s σ H x y v u Q I m n h hs;obtain ⟨a,w,rfl,g,q⟩:=h;cases m;have k:=bH I g;have i:wpAny (model X.prog X.w) X.A (getItem (.ref a) u) (EP X pins σ Q) X.xe s:=eU o I g n λw' p l j=>⟨w,H,l,j,q⟩;refine Ag ?_;rw [getitemInPython_of_ne k.not_modules];refine Ag (wpAny_specialOf k PySem.F.slot_dict_getitem.lookup ?_);have e:wpAny (model X.prog X.w) X.A (subscripted c false (.ref a) u) (λr b=>wpAny (model X.prog X.w) X.A (letTemporaryGo d (.ref a) r >>= λ_=>pure r) (EP X pins σ Q) X.xe b) X.xe s:=by
  rw [hs];exact wpAny_operating (AK i (λr b f=>Ag (wpAny_letTemporaryGo (Aj f))) λ_ _ x=>x)
 first
  | exact Aj (Ag e)
  | exact Ag (Aj (Ag e))
  | exact Ag e
theorem uP (hu:X.A.units+1<cLine):IxR X (rP2 X.K cl xe ixD):=by
 intro value slice pins s σ H x y v u Q I rx ry ⟨μ,S,d,e,rd,re,rp,p⟩ hs;have sq:∀ {a:Addr} {xs:List V} {ds:List D} {i:Int},(SqL X.K H a xs\/SqT X.K H a xs)->RDs X.K μ H ds xs->x=.ref a->e=.int i->Post X.K cl xe μ H (ay (atI ds i) S) (λr _ μ' H'=>∀ v,RD X.K μ' H' r v->Q v H') ->
   wpAny (model X.prog X.w) X.A (subscriptTail value slice v u) (EP X pins σ Q) X.xe s:=λ{a xs ds i} hq r hx he q=>by
  clear p;subst hx he;cases re;obtain ⟨z,e1,q⟩:=de q;obtain ⟨w,e2,rw'⟩:=qE r e1;rcases hq with hq | hq
  ·exact kw value slice pins s σ H _ _ v u Q I rx ry ⟨a,xs,i,w,rfl,rfl,hq,e2,q μ H (Lat.refl _ _) rp _ rw'⟩ hs
  ·exact qI value slice pins s σ H _ _ v u Q I rx ry ⟨a,xs,i,w,rfl,rfl,hq,e2,q μ H (Lat.refl _ _) rp _ rw'⟩ hs
 cases rd with
 | tup h r=>
  cases e <;> first | exact False.elim p | exact sq (.inr h.sq) r rfl rfl p
 | lst h r=>
  cases e <;> first | exact False.elim p | exact sq (.inl h.sq) r rfl rfl p
 | scr h r=>
  cases e <;> first | exact False.elim p | exact sq (.inl h.sq) r rfl rfl p
 | ref h=>
  rename_i n a;simp only [ixD] at p;cases q1:S[n]? with
  | none=>rw [q1] at p;exact p.elim
  | some o=>
   rw [q1] at p;cases o with
   | lst ds=>
    obtain ⟨xs,h1,h2⟩:=rp.ats n _ a q1 h;cases e <;> first | exact False.elim p | exact sq (.inl (.inl (.inl h1))) h2 rfl rfl p
   | dct kvs=>
    obtain ⟨ks,h1,h2⟩:=rp.ats n _ a q1 h;obtain ⟨z,e1,p⟩:=de p;cases e2:u4 e with
    | none=>rw [e2] at e1;cases e1
    | some k=>
     rw [e2] at e1;obtain ⟨w,e3,r3⟩:=N0 h2 e1;have hy:=B2 re e2;subst hy;exact lF hu value slice pins s σ H _ _ v u Q I rx ry ⟨a,w,rfl,by rw [<- e3];exact DGet.k h1,p μ H (Lat.refl _ _) rp _ r3⟩ hs
   | exc _ _=>exact p.elim
   | dcT _=>exact p.elim
 | _=>cases e <;> exact False.elim p
def C7 (ds:List D) (lo a:Option Int):List D:=(ds.drop (HT.sIx ds.length 0 lo)).take (HT.sIx ds.length ds.length a-HT.sIx ds.length 0 lo)
theorem jd {K:PySem.W.Frag} {μ:Mp} {H:Hp} {ds:List D} {xs:List V} (r:RDs K μ H ds xs) (lo a:Option Int):RDs K μ H (C7 ds lo a) (fG xs lo a):=by
 unfold C7 fG;rw [<- r.length];exact (r.drop _).take _
def slD (x:D) (lo a:Option Int):M D:=match x with
 | .tup ds=>ret (.tup (C7 ds lo a))
 | x=>bind (match x with
  | .scr ds=>ret ds
  | x=>lstOf x) λds=>ret (.lst (C7 ds lo a))
end
def noStar:Expr->Bool
 | .Starred ..=>false
 | _=>true
def k9:Expr->Bool
 | .ListComp ..=>false
 | .SetComp ..=>false
 | .DictComp ..=>false
 | _=>true
def p8:Expr->Bool
 | .Slice ..=>false
 | _=>true
def i6:Expr->Bool
 | .Set ..=>false
 | _=>true
def m8:Expr->Bool
 | .Call (.Name _ _) [] [] _=>false
 | _=>true
def w5:Expr->Bool
 | .UnaryOp .Not _ _=>false
 | .BoolOp ..=>false
 | .IfExp ..=>false
 | .Compare ..=>false
 | _=>true
theorem j1 (h:noStar e=true):starEach (e :: es) env=(false,eval e env) :: starEach es env:=by
 cases e <;> first | rfl | (exact absurd h (by simp [noStar]))
theorem n4:∀ {es:List Expr} {a:PySem.Env} {pos:Pos},es.all noStar=true->(backTo pos (starEach es a)).any (·.1)=false
 | [],_,_,_=>rfl
 | e :: es,a,pos,h=>by
  rw [Bi,Ak] at h;rw [j1 h.1];show (false||(backTo pos (starEach es a)).any (·.1))=false;rw [n4 h.2];rfl
theorem T5:∀ {es:List Expr} {a:PySem.Env} {pos:Pos},es.all noStar=true->(backTo pos (starEach es a)).all (λx=>!x.1)=true
 | [],_,_,_=>rfl
 | e :: es,a,pos,h=>by
  rw [Bi,Ak] at h;rw [j1 h.1];show (!false&&(backTo pos (starEach es a)).all (λx=>!x.1))=true;rw [T5 h.2];rfl
theorem A2 (h:k9 e=true):swapsWith e t n env=pure false:=by
 cases e <;> first | rfl | (exact absurd h (by simp [k9]))
theorem bq (h:p8 e=true):Z7 e:=by
 intro o i;cases e <;> first | rfl | (exact absurd h (by simp [p8]))
theorem q5 {e:Expr} (h:i6 e=true):behindInMarks op e=false:=by
 cases e <;> first | rfl | (exact absurd h (by simp [i6]))
theorem j3 (h:i6 e=true):∀ x,foldedSetIterable e env x=pure x:=by
 intro x;cases e <;> first | rfl | (exact absurd h (by simp [i6]))
theorem B8 (h:m8 o=true):attributeBase o f env (eval o env)=eval o env:=by
 unfold attributeBase;split
 ·exact absurd h (by simp [m8])
 ·rfl
theorem test_of (h:w5 e=true):∀ a,isTrue e env a=(do let v <- a;standAt e.pos;holding [v] (truthy v)):=by
 intro a;cases e <;> first
  | rfl
  | (rename_i op _ _;cases op <;> first | rfl | (exact absurd h (by simp [w5])))
  | (exact absurd h (by simp [w5]))
section
variable {X:Cx} {cl:ClW} {xe:Addr->Hp->Prop} {e:Expr} {es:List Expr} {pos:Pos} {f:Env->M D} {fs:Env->M (List D)}
theorem jz:PA X [] (tDs X.K cl xe λ_=>ret []):=PA.imp cK λσ H Q ⟨μ,S,ρ,b,a,p⟩=>p.ret μ H (Lat.refl _ _) a [] .nil
theorem je (h:PE X e (tD X.K cl xe f)) (hs:PA X es (tDs X.K cl xe fs)) (m:noStar e=true):PA X (e :: es) (tDs X.K cl xe λρ=>bind (f ρ) λd=>bind (fs ρ) λds=>ret (d :: ds)):=
 PA.imp (E9 h hs (j1 m)) λσ H Q ⟨μ,S,ρ,c,l,p⟩=>
  ⟨μ,S,ρ,c,l,p.bind.imp λd S1 b s q r i v g=>⟨b,S1,ρ,c.later q,r,i.bind.imp λds S2 μ2 j o n k vs a=>k.ret μ2 j (Lat.refl _ _) n _ (.cons (g.later o) a)⟩⟩
def pY (ds:List D):M D:=if ds.length<=sizeLine then ret (.tup ds) else bad
def nO (ds:List D):M D:=if ds.length<=sizeLine then ret (.lst ds) else bad
theorem ni (h:PA X es (tDs X.K cl xe fs)):PE X (.Tuple es k pos) (tD X.K cl xe λρ=>bind (fs ρ) pY):=PE.imp (pr h) λσ H Q ⟨μ,S,ρ,i,g,p⟩=>
 ⟨μ,S,ρ,i,g,p.bind.imp λds S1 e m n j c vs a=>by
  obtain ⟨f,c⟩:=Post.guard c;refine ⟨by rw [<- a.length];exact f,λz hz=>?_⟩;obtain ⟨l,b,d⟩:=G1 j a hz;exact c e _ l b _ d⟩
theorem pg (h:PA X es (tDs X.K cl xe fs)):PE X (.List es pos) (tD X.K cl xe λρ=>bind (fs ρ) nO):=PE.imp (iZ h) λσ H Q ⟨μ,S,ρ,i,g,p⟩=>
 ⟨μ,S,ρ,i,g,p.bind.imp λds S1 e k m j c vs a=>by
  obtain ⟨f,c⟩:=Post.guard c;refine ⟨by rw [<- a.length];exact f,λz hz=>?_⟩;obtain ⟨l,b,d⟩:=G2 j a hz;exact c e _ l b _ d⟩
def newL (ds:List D):M D:=λS=>if ds.length<=sizeLine then .ok (.ref S.length) (S++[.lst ds]) else .bad
theorem lY (h:PA X es (tDs X.K cl xe fs)):PE X (.List es pos) (tD X.K cl xe λρ=>bind (fs ρ) newL):=PE.imp (iZ h) λσ H Q ⟨μ,S,ρ,i,g,p⟩=>
 ⟨μ,S,ρ,i,g,p.bind.imp λds S1 f k m j a vs b=>by
  unfold newL at a;by_cases e:ds.length<=sizeLine
  ·rw [if_pos e] at a;refine ⟨by rw [<- b.length];exact e,λz hz=>?_⟩;obtain ⟨l,c,d⟩:=fT j b hz;exact a _ _ l c _ d
  ·rw [if_neg e] at a;exact a.elim⟩
def ji (E:XK):Addr->Hp->Prop:=λa H=>E (.ref a) none H
def spD (K:PySem.W.Frag) (cl:ClW) (n:Nat) (run:List D->M D):Sp:=λvs H Q E=>vs.length=n/\∃ μ S ds,RDs K μ H ds vs/\Rep K cl μ S H/\Post K cl (ji E0) μ H (run ds S) λd _ μ' H'=>∀ v,RD K μ' H' d v->Q v H'
theorem ab {id:String} {x:Str} {p:Pos} (d:A4 X (.builtin id) (rPs X.K cl xe g)) (o:Gl X x) (k:X.mg x=none) (h:bootBuiltins x=some (.builtin id)) (m:PA X (e :: es) (tDs X.K cl xe fs)) (j:x ≠ "__name__") (c:(x==("__debug__" : Str))=false) (hs:(e :: es).all noStar=true) :
  PE X (.Call (.Name x p) (e :: es) [] pos) (tD X.K cl xe λρ=>bind (fs ρ) g):=by
 rw [Bi,Ak] at hs;exact PE.imp (iI d o k h m j c (j1 hs.1) (n4 hs.2)) λσ H Q ⟨μ,S,ρ,l,i,p⟩=>⟨μ,S,ρ,l,i,p.bind.imp λds S1 b q r n f vs a=>⟨b,S1,ds,a,n,f⟩⟩
end
def one (g:D->M D) (ds:List D):M D:=match ds with
 | [d]=>g d
 | _=>bad
def P1 (d:D):M D:=match d with
 | .str x=>if x.length<=sizeLine then ret (.int x.length) else bad
 | .ref n=>λS=>match S[n]? with
  | some (.lst ds)=>.ok (.int ds.length) S
  | some (.dct a)=>.ok (.int a.length) S
  | _=>.bad
 | d=>bind (hZ d) λds=>ret (.int ds.length)
instance (p:PyData):Decidable (Shows p):=decidable_of_iff (p.showable=true/\p.hasDict=false/\p.depth<=60/\p.shown.length<=sizeLine) ⟨λ⟨a,b,c,d⟩=>⟨a,b,c,d⟩,λ⟨a,b,c,d⟩=>⟨a,b,c,d⟩⟩
def t6 (d:D):M D:=λS=>match i7 64 S d with
 | some p=>(if Shows p then ret (.str p.shown) else bad) S
 | none=>.bad
theorem iW {K:PySem.W.Frag} {μ:Mp} {H:Hp} {d:D} {vs:List V} (r:RDs K μ H [d] vs):∃ v,vs=[v]/\RD K μ H d v:=by
 cases r with
 | cons h t=>cases t;exact ⟨_,rfl,h⟩
section
variable {X:Cx} {cl:ClW} {xe:Addr->Hp->Prop}
theorem cE (h:∀ (pins:List (Addr×Obj)) (s:Shared) (σ:L2.St) (H:Hp) (μ:Mp) (S:Sto) (d:D) (v:V) (us:List Value) (Q:VK),L2.Inv X pins σ H s->Vals [v] us->RD X.K μ H d v->Rep X.K cl μ S H->Post X.K cl xe μ H (g d S) (λr _ μ' H'=>∀ v,RD X.K μ' H' r v->Q v H') ->
  wpAny (model X.prog X.w) X.A (call f us) (EP X pins σ Q) X.xe s):A4 X f (rPs X.K cl xe (one g)):=by
 intro pins s σ H xs us Q I r ⟨μ,S,ds,a,c,p⟩
 match ds,p with
 | [d],p=>
  obtain ⟨v,rfl,b⟩:=iW a;exact h pins s σ H μ S d v us Q I r b c p
 | [],p=>exact p.elim
 | _ :: _ :: _,p=>exact p.elim
theorem mh:A4 X (.builtin "len") (rPs X.K cl xe (one P1)):=cE λpins s σ H μ S d v us Q I r rd rp p=>by
 have sq:∀ {a:Addr} {xs:List V} {ds:List D},(SqL X.K H a xs\/SqT X.K H a xs)->RDs X.K μ H ds xs->v=.ref a->(∀ μ' H',Lat μ H μ' H'->Rep X.K cl μ' S H'->∀ w,RD X.K μ' H' (.int ds.length) w->Q w H')->wpAny (model X.prog X.w) X.A (call (.builtin "len") us) (EP X pins σ Q) X.xe s:=λ{a xs ds} hq r2 hv q=>by
  subst hv;exact Z6 pins s σ H _ us Q I r ⟨a,xs,rfl,hq,by rw [<- r2.length];exact q μ H (Lat.refl _ _) rp _ (.int _)⟩
 cases rd with
 | str x=>
  obtain ⟨hl,p⟩:=Post.guard p;exact aR pins s σ H _ us Q I r ⟨x,rfl,hl,p μ H (Lat.refl _ _) rp _ (.int _)⟩
 | tup h r2=>exact sq (.inr h.sq) r2 rfl p
 | lst h r2=>exact sq (.inl h.sq) r2 rfl p
 | scr h r2=>exact sq (.inl h.sq) r2 rfl p
 | ref h=>
  rename_i n a;simp only [P1] at p;cases q1:S[n]? with
  | none=>rw [q1] at p;exact p.elim
  | some o=>
   rw [q1] at p;cases o with
   | lst ds=>
    obtain ⟨xs,h1,h2⟩:=rp.ats n _ a q1 h;exact sq (.inl (.inl (.inl h1))) h2 rfl p
   | dct kvs=>
    obtain ⟨ks,h1,h2⟩:=rp.ats n _ a q1 h;have hl:=Paired.length h2;exact fA pins s σ H _ us Q I r ⟨a,ks,rfl,h1,by rw [<- hl];exact p μ H (Lat.refl _ _) rp _ (.int _)⟩
   | exc _ _=>exact p.elim
   | dcT _=>exact p.elim
 | _=>exact False.elim p
theorem pX (e:X.A.guards=some []) (f:X.A.units+64<cLine):A4 X (.builtin "repr") (rPs X.K cl xe (one t6)):=cE λpins s σ H μ S d v us Q I r c b p=>by
 simp only [t6] at p;cases a:i7 64 S d with
 | none=>rw [a] at p;exact p.elim
 | some q=>
  rw [a] at p;obtain ⟨hs,p⟩:=Post.guard p;exact fD e f pins s σ H _ us Q I r ⟨v,q,rfl,o9 b 64 a c,hs,p μ H (Lat.refl _ _) b _ (.str _)⟩
end
def Mp.free (μ:Mp):Mp:=⟨μ.pl,μ.rs.tail⟩
section
variable {K:PySem.W.Frag} {cl:ClW} {xe:Addr->Hp->Prop} {μ μ2:Mp} {S S2:Sto} {H H2:Hp} {p:Addr} {o:HO}
theorem lZ (i:Rep K cl μ S H) (h:H p=none):(∀ {d:D} {v:V},RD K μ H d v->RD K (μ.hold p) (upd H p o) d v)/\∀ {ds:List D} {vs:List V},RDs K μ H ds vs->RDs K (μ.hold p) (upd H p o) ds vs:=by
 have c:∀ a u,H a=some u->a∉μ.pl->a∉μ.rs->upd H p o a=some u/\a∉(μ.hold p).pl/\a∉(μ.hold p).rs:=λa u e f g=>by
  have b:=a9 e h;exact ⟨by rw [a7 b];exact e,f,λz=>(AJ.mp z).elim b g⟩
 exact ⟨λr=>r.move (μ:=μ) (μ':=μ.hold p) (λ_ _ e=>e) c,λr=>r.move (μ:=μ) (μ':=μ.hold p) (λ_ _ e=>e) c⟩
theorem v7 (c:Rep K cl μ S H) (b:H p=none):Rep K cl (μ.hold p) S (upd H p o):=by
 have j:∀ a u,H a=some u->a∉μ.pl->a∉μ.rs->upd H p o a=some u/\a∉(μ.hold p).pl/\a∉(μ.hold p).rs:=λa u e g h=>by
  have d:=a9 e b;exact ⟨by rw [a7 d];exact e,g,λz=>(AJ.mp z).elim d h⟩
 refine c.move (λa m=>?_) rfl (λa m=>a7 λz=>c.notin b (z▸m)) (λa u e=>by rw [a7 (a9 e b)];exact e) j;rcases AJ.mp (m) with rfl | m
 ·exact ⟨c.notin b,o,b6⟩
 ·obtain ⟨i,u,f⟩:=c.res a m;exact ⟨i,u,by rw [a7 (a9 f b)];exact f⟩
theorem v5 (b:Rep K cl μ S H) (c:H p=none) (a:EnvOk K μ H ρ σ):EnvOk K (μ.hold p) (upd H p o) ρ σ:=⟨a.1,λi d e=>let ⟨v,q,r⟩:=a.2 i d e;⟨v,q,(lZ b c).1 r⟩⟩
theorem P2 (r:RDs K μ H ds vs):RDs K μ.free H ds vs:=r.move (μ:=μ) (μ':=μ.free) (λ_ _ e=>e) λa u e b c=>⟨e,b,λz=>c (CK z)⟩
theorem F5 (b:Rep K cl μ S H):Rep K cl μ.free S H:=b.move (λa m=>b.res a (CK m)) rfl (λ_ _=>rfl) (λ_ _ e=>e) λa u e c d=>⟨e,c,λz=>d (CK z)⟩
theorem B4 (e:μ.rs=p :: rs) (r:RDs K μ H ds vs):RDs K μ (upd H p o) ds vs:=r.move (λ_ _ e=>e) λa u q c b=>⟨by rw [a7 (λz=>b (by rw [e,z];exact Aq))];exact q,c,b⟩
theorem U0 (e:μ.rs=p :: rs) (r:RD K μ H d v):RD K μ (upd H p o) d v:=r.move (λ_ _ e=>e) λa u q c b=>⟨by rw [a7 (λz=>b (by rw [e,z];exact Aq))];exact q,c,b⟩
theorem C3 (e:μ.rs=p :: rs) (h:H p=some (.lst xs)) (b:Rep K cl μ S H):Rep K cl μ S (upd H p o):=by
 have g:=(b.res p (by rw [e];exact Aq)).1;refine b.move (λa m=>?_) rfl (λa m=>a7 λz=>g (z▸m)) (λa u q=>by rw [a7 (cq q h (by intro z;cases z))];exact q) λa u q f c=>⟨by rw [a7 (λz=>c (by rw [e,z];exact Aq))];exact q,f,c⟩;obtain ⟨d,u,i⟩:=b.res a m;by_cases z:a=p
 ·subst z;exact ⟨d,o,b6⟩
 ·exact ⟨d,u,by rw [a7 z];exact i⟩
end
inductive Fl where
 | nx (ρ:Env) | rt (d:D) | bk (ρ:Env) | ct (ρ:Env)
def fw (K:PySem.W.Frag) (D:Ends) (a:Fl) (μ:Mp) (H:Hp):Prop:=match a with
 | .nx ρ=>∀ σ,EnvOk K μ H ρ σ->D.nx σ H
 | .rt d=>∀ v,RD K μ H d v->D.rt v H
 | .bk ρ=>∀ σ,EnvOk K μ H ρ σ->D.bk σ H
 | .ct ρ=>∀ σ,EnvOk K μ H ρ σ->D.ct σ H
def sD (K:PySem.W.Frag) (cl:ClW) (xe:Addr->Hp->Prop) (f:Env->M Fl):TS:=λD σ H=>∃ μ S ρ,EnvOk K μ H ρ σ/\Rep K cl μ S H/\Post K cl xe μ H (f ρ S) λfl _ μ' H'=>fw K D fl μ' H'
def tH (f g:Env->M Fl) (ρ:Env):M Fl:=bind (f ρ) λa=>match a with
 | .nx b=>g b
 | a=>ret a
section
variable {X:Cx} {cl:ClW} {xe:Addr->Hp->Prop} {e:Expr} {st:Stmt} {sts:List Stmt} {pos:Pos} {f:Env->M D} {g h:Env->M Fl}
theorem J4:PS X st (sD X.K cl xe λ_=>bad):=λ_ _ _ _ _ _ ⟨_,_,_,_,_,p⟩=>p.elim
theorem ff:PSs X [] (sD X.K cl xe λρ=>ret (.nx ρ)):=PSs.imp kx λD σ H ⟨μ,S,ρ,b,a,p⟩=>p.ret μ H (Lat.refl _ _) a σ b
theorem kL (h1:PS X st (sD X.K cl xe g)) (h2:PSs X sts (sD X.K cl xe h)):PSs X (st :: sts) (sD X.K cl xe (tH g h)):=PSs.imp (au h1 h2) λD σ H ⟨μ,S,ρ,eo,rp,p⟩=>
 ⟨μ,S,ρ,eo,rp,p.bind.imp λfl S1 μ1 H1 l1 r1 p1=>by
  cases fl with
  | nx ρ1=>exact λσ1 eo1=>⟨μ1,S1,ρ1,eo1,r1,p1⟩
  | rt d=>exact p1.ret μ1 H1 (Lat.refl _ _) r1
  | bk ρ1=>exact p1.ret μ1 H1 (Lat.refl _ _) r1
  | ct ρ1=>exact p1.ret μ1 H1 (Lat.refl _ _) r1⟩
theorem jX (c:PE X e (tD X.K cl xe f)) (k:k9 e=true):PS X (.Expr e pos) (sD X.K cl xe λρ=>bind (f ρ) λ_=>ret (.nx ρ)):=PS.imp (Y7 c (A2 k)) λD σ H ⟨μ,S,ρ,b,l,p⟩=>
 ⟨μ,S,ρ,b,l,p.bind.imp λd S1 a i h j g v m=>g.ret a i (Lat.refl _ _) j σ (b.later h)⟩
theorem Z1 (c:PE X e (tD X.K cl xe f)):PS X (.Return (some e) pos) (sD X.K cl xe λρ=>bind (f ρ) λd=>ret (.rt d)):=PS.imp (nW c) λD σ H ⟨μ,S,ρ,i,k,p⟩=>
 ⟨μ,S,ρ,i,k,p.bind.imp λd S1 a h l j g v b=>g.ret a h (Lat.refl _ _) j v b⟩
theorem nT (k:PT X c (tBo X.K cl xe t)) (m:PSs X a (sD X.K cl xe g)) (l:PSs X b (sD X.K cl xe h)):PS X (.If c a b pos) (sD X.K cl xe λρ=>bind (t ρ) λq=>if q=true then g ρ else h ρ):=PS.imp (L2.ps_if k m l) λD σ H ⟨μ,S,ρ,e,n,p⟩=>
 ⟨μ,S,ρ,e,n,p.bind.imp λq S1 d o i j f=>by
  cases q with
  | true=>exact ⟨d,S1,ρ,e.later i,j,f⟩
  | false=>exact ⟨d,S1,ρ,e.later i,j,f⟩⟩
theorem ls (q:X.N.Nodup) (g:X.N[i]?=some x) (n:Loc X.env.scope x) (j:PE X e (tD X.K cl xe f)) (o:k9 e=true) (s:X.fn x=true\/X.env.scope.names.lookup x=some .local) :
  PS X (.Assign [.Name x pos'] e pos) (sD X.K cl xe λρ=>bind (f ρ) λd=>ret (.nx (ρ.set i (some d)))):=PS.imp (pP q g n j (A2 o) s) λD σ H ⟨μ,S,ρ,b,r,p⟩=>
 ⟨μ,S,ρ,b,r,p.bind.imp λd S1 a l k m h v c=>h.ret a l (Lat.refl _ _) m _ ((b.later k).set c i)⟩
def lE (K:PySem.W.Frag) (cl:ClW) (tg:D->Env->Option Env):TG:=λv σ H Q=>∃ μ S ρ d ρ',EnvOk K μ H ρ σ/\Rep K cl μ S H/\RD K μ H d v/\tg d ρ=some ρ'/\∀ σ',EnvOk K μ H ρ' σ'->Q σ' H
theorem PG.imp (h:PG X t u) (k:∀ v σ H Q,u' v σ H Q->u v σ H Q):PG X t u':=λpins s σ H v w Q I r q=>h pins s σ H v w Q I r (k v σ H Q q)
theorem jg (h:X.N.Nodup) (a:X.N[i]?=some x) (f:Loc X.env.scope x) (j:X.fn x=true\/X.env.scope.names.lookup x=some .local):PG X (.Name x pos') (lE X.K cl λd ρ=>some (ρ.set i (some d))):=
 PG.imp (B9 h a f j) λv σ H Q ⟨μ,S,ρ,d,g,c,k,b,e,q⟩=>by
  cases e;exact q _ (c.set b i)
def Q8:List Nat->List D->Env->Option Env
 | [],[],ρ=>some ρ
 | i :: a,d :: ds,ρ=>Q8 a ds (ρ.set i (some d))
 | _,_,_=>none
def J0 (a:List Nat) (d:D) (ρ:Env):Option Env:=match d with
 | .tup ds=>Q8 a ds ρ
 | _=>none
inductive NamesAt (X:Cx):List Expr->List Nat->Prop where
 | nil:NamesAt X [] []
 | cons {x:Str} {p:Pos} {i:Nat} {ts:List Expr} {is:List Nat}:X.N[i]?=some x->Loc X.env.scope x->(X.fn x=true\/X.env.scope.names.lookup x=some .local)->NamesAt X ts is->NamesAt X (.Name x p :: ts) (i :: is)
theorem fS (hN:X.N.Nodup)  {ts:List Expr} {is:List Nat} (h:NamesAt X ts is):PGs X ts (λvs σ H Q=>∃ μ ds ρ ρ',EnvOk X.K μ H ρ σ/\RDs X.K μ H ds vs/\Q8 is ds ρ=some ρ'/\∀ σ',EnvOk X.K μ H ρ' σ'->Q σ' H):=by
 induction h with
 | nil=>
  intro pins s σ H vs us Q I r ⟨μ,ds,ρ,ρ',eo,rd,e,q⟩;cases ds with
  | nil=>
   cases rd;cases e;exact dB pins s σ H [] us Q I r ⟨rfl,q σ eo⟩
  | cons d ds=>cases e
 | @cons x p i ts is h1 h2 h3 h4 ih=>
  intro pins s σ H vs us Q I r ⟨μ,ds,ρ,ρ',eo,rd,e,q⟩;cases ds with
  | nil=>cases e
  | cons d ds=>
   cases rd with
   | cons r1 r2=>exact R1 (B9 (i:=i) hN h1 h2 h3) ih rfl pins s σ H _ us Q I r ⟨_,_,rfl,μ,ds,_,ρ',eo.set r1 i,r2,e,q⟩
theorem J2 {ts:List Expr} {is:List Nat} (h:NamesAt X ts is):(assignEach ts X.env).length=is.length/\(assignEach ts X.env).findIdx? (·.1)=none:=by
 induction h with
 | nil=>exact ⟨rfl,rfl⟩
 | @cons x p i ts is h1 h2 h3 h4 ih=>
  refine ⟨by show (assignEach ts X.env).length+1=_;rw [ih.1];rfl,?_⟩;show ((false,assign (.Name x p) X.env) :: assignEach ts X.env).findIdx? (·.1)=none;rw [List.findIdx?_cons];simp [ih.2]
theorem P8:∀ {b:List Nat} {ds:List D} {ρ a:Env},Q8 b ds ρ=some a->ds.length=b.length
 | [],[],_,_,_=>rfl
 | _ :: _,_ :: _,_,_,e=>by simp [P8 (by simpa [Q8] using e)]
 | [],_ :: _,_,_,e=>by cases e
 | _ :: _,[],_,_,e=>by cases e
theorem dn (hc:X.calm=true) (hN:X.N.Nodup) (h:NamesAt X ts is):PG X (.Tuple ts k pos') (lE X.K cl (J0 is)):=
 PG.imp (ib hc (fS hN h) (J2 h).1 (J2 h).2) λv σ H Q ⟨μ,S,ρ,d,ρ',eo,rp,rd,e,q⟩=>by
  cases rd with
  | tup h1 h2=>exact ⟨_,_,rfl,h1.sq,by rw [<- h2.length];exact P8 e,μ,_,ρ,ρ',eo,h2,e,q⟩
  | _=>cases e
def ir:Expr->Bool
 | .Tuple ..=>false
 | _=>true
def bA (tg:D->Env->Option Env) (d:D) (ρ:Env):M Fl:=match tg d ρ with
 | some a=>ret (.nx a)
 | none=>bad
theorem kj (n:X.calm=true) (t:X.N.Nodup) (h:NamesAt X ts is) (o:PE X e (tD X.K cl xe f)) (s:k9 e=true) (i:ir e=true):PS X (.Assign [.Tuple ts k pos'] e pos) (sD X.K cl xe λρ=>bind (f ρ) λd=>bA (J0 is) d ρ):=
 PS.imp (cD o (dn n t h) (by unfold swapsWithSole;exact A2 s) (by cases e <;> first | rfl | (exact absurd i (by simp [ir]))) rfl) λD σ H ⟨μ,S,ρ,j,u,p⟩=>
  ⟨μ,S,ρ,j,u,p.bind.imp λd S1 a r q l b v m=>by
   cases c:J0 is d ρ with
   | none=>simp only [bA,c] at b;exact b.elim
   | some g=>simp only [bA,c] at b;exact ⟨a,S1,ρ,d,g,j.later q,l,m,c,b.ret a r (Lat.refl _ _) l⟩⟩
end
structure LatR (μ:Mp) (H:Hp) (μ':Mp) (H':Hp):Prop where
 pre:∀ (n:Nat) (a:Addr),μ.pl[n]?=some a->μ'.pl[n]?=some a
 oth:∀ a o,H a=some o->a∉μ.pl->H' a=some o
 new:∀ a,a∈μ'.pl->a∈μ.pl\/H a=none
 rsw:∀ a,a∈μ'.rs->a∈μ.rs\/H a=none
theorem Lat.r {H H':Hp} (l:Lat μ H μ' H'):LatR μ H μ' H':=⟨l.pre,l.oth,l.new,λa m=>.inl (by rw [l.rsv] at m;exact m)⟩
structure LatU (μ:Mp) (H:Hp) (μ':Mp) (H':Hp):Prop where
 pre:∀ (n:Nat) (a:Addr),μ.pl[n]?=some a->μ'.pl[n]?=some a
 oth:∀ a o,H a=some o->a∉μ.pl->a∉μ.rs->H' a=some o
 new:∀ a,a∈μ'.pl->a∈μ.pl\/H a=none
 rsw:∀ a,a∈μ'.rs->a∈μ.rs\/H a=none
theorem LatR.u {H H':Hp} (l:LatR μ H μ' H'):LatU μ H μ' H':=⟨l.pre,λa o e n _=>l.oth a o e n,l.new,l.rsw⟩
theorem LatU.out {H H':Hp} (l:LatU μ H μ' H') (a:Addr) (u:HO) (e:H a=some u) (c:a∉μ.pl) (b:a∉μ.rs):H' a=some u/\a∉μ'.pl/\a∉μ'.rs:=by
 refine ⟨l.oth a u e c b,λz=>?_,λz=>?_⟩
 ·rcases l.new a z with q | q
  ·exact c q
  ·rw [e] at q;cases q
 ·rcases l.rsw a z with q | q
  ·exact b q
  ·rw [e] at q;cases q
theorem RD.laterU {K:PySem.W.Frag} {μ μ':Mp} {H H':Hp} (l:LatU μ H μ' H') {d:D} {v:V} (r:RD K μ H d v):RD K μ' H' d v:=r.move l.pre l.out
theorem RDs.laterU {K:PySem.W.Frag} {μ μ':Mp} {H H':Hp} (l:LatU μ H μ' H') {ds:List D} {vs:List V} (r:RDs K μ H ds vs):RDs K μ' H' ds vs:=r.move l.pre l.out
abbrev Src:=Nat->Sto->Option (Option D)
def L0 (K:PySem.W.Frag) (cl:ClW) (J:It) (i:Nat) (μ2:Mp) (H2:Hp) (S2:Sto) (o:Option (Option D)):Prop:=match o with
 | some (some d)=>J.go i H2/\∀ x H3,J.yld i H2 x H3->Lat μ2 H2 μ2 H3/\Rep K cl μ2 S2 H3/\RD K μ2 H3 d x
 | some none=>J.stop i H2
 | none=>True
def Yl (K:PySem.W.Frag) (cl:ClW) (J:It) (μ:Mp) (H:Hp) (src:Src):Prop:=∀ (i:Nat) (μ2:Mp) (H2:Hp) (S2:Sto),LatU μ H μ2 H2->Rep K cl μ2 S2 H2->L0 K cl J i μ2 H2 S2 (src i S2)
def tIt (K:PySem.W.Frag) (cl:ClW) (xe:Addr->Hp->Prop) (f:Env->M (Src×Nat)):TI:=λσ H R=>∃ μ S ρ,EnvOk K μ H ρ σ/\Rep K cl μ S H/\Post K cl xe μ H (f ρ S) λp _ μ' H'=>∀ J,Yl K cl J μ' H' p.1->R J H'
theorem PI.imp (h:PI X tg it t) (k:∀ σ H R,t' σ H R->t σ H R):PI X tg it t':=λpins s σ H R I q=>h pins s σ H R I (k σ H R q)
theorem nI {tg l:Expr} {m:TE} (r:PE X l m):PI X tg l (λσ H R=>m σ H λx d=>∃ a,x=.ref a/\(((∃ xs,SqL X.K d a xs)/\R (Itl X.K a) d)\/((∃ xs,SqT X.K d a xs)/\R (Itt X.K a) d))):=by
 intro pins s σ H R I h;refine thn (r pins s σ H _ I h) λv f ⟨x,d,c,n,j⟩=>?_;obtain ⟨a,e,j⟩:=j;subst e;cases n;rcases j with ⟨⟨xs,g⟩,q⟩ | ⟨⟨xs,g⟩,q⟩
 ·obtain ⟨k,t,p,hz⟩:=c.list g;refine wpAny_pyIter_list p.isList ?_;refine ⟨f.heap.objs.size,[f.heap.objs.size],_,_,d,rfl,c.kept λb o e=>Ah _ e,ey a _,⟨_,Ax _ rfl,rfl,rfl⟩,λb i=>?_,q⟩;have e:b=f.heap.objs.size:=by simpa using i
  subst e;exact c.fpOk (Ao _) (c.hok.fresh (Ao _))
 ·obtain ⟨k,t,p,hz⟩:=c.tuple g;refine Co (p) ?_;refine ⟨f.heap.objs.size,[f.heap.objs.size],_,_,d,rfl,c.kept λb o e=>Ah _ e,cG a _,⟨_,Ax _ rfl,rfl,rfl⟩,λb i=>?_,q⟩;have e:b=f.heap.objs.size:=by simpa using i
  subst e;exact c.fpOk (Ao _) (c.hok.fresh (Ao _))
def F3 (ds:List D):Src:=λi _=>some ds[i]?
def hG (n:Nat):Src:=λi S=>match S[n]? with
 | some (.lst es)=>some es[i]?
 | _=>none
def bR (lo:Int) (n:Nat):Src:=λi _=>some (if i<n then some (.int (lo+i)) else none)
section
variable {K:PySem.W.Frag} {cl:ClW} {μ:Mp} {H:Hp}
theorem pQ (h:TupAt K μ H a xs) (r:RDs K μ H ds xs):Yl K cl (Itt K a) μ H (F3 ds):=λi μ2 g S2 l y=>by
 have b:SqT K g a xs:=by
  rcases h with ⟨q,n1,n2⟩ | q
  ·rcases q with q | ⟨o,q⟩
   ·exact .inl (.inl (l.oth _ _ q n1 n2))
   ·exact .inl (.inr ⟨o,l.oth _ _ q n1 n2⟩)
  ·obtain ⟨o,c,n,u,j,w,m,t,_⟩:=q;exact .inr ⟨o,c,n,u,j,w,m,t⟩
 have k:=r.laterU l;show L0 K cl (Itt K a) i μ2 g S2 (some ds[i]?);cases e:ds[i]? with
 | none=>exact ⟨xs,b,by rw [<- r.length];exact Cb.mp e⟩
 | some d=>
  obtain ⟨v,f,p⟩:=k.get e;exact ⟨⟨xs,v,b,f⟩,λx z ⟨s,q⟩=>by subst s;have:=q xs b;rw [f] at this;cases this;exact ⟨Lat.refl _ _,y,p⟩⟩
theorem iA (h:LstAt μ H a xs\/ScrAt K μ H a xs) (r:RDs K μ H ds xs):Yl K cl (Itl K a) μ H (F3 ds):=λi μ2 f S2 l m=>by
 have b:SqL K f a xs:=by
  rcases h with ⟨q,n1,n2⟩ | ⟨q,n1,n2⟩ | q
  ·exact .inl (.inl (l.oth _ _ q n1 n2))
  ·rcases q with q | ⟨o,q⟩
   ·exact .inl (.inl (l.oth _ _ q n1 n2))
   ·exact .inl (.inr ⟨o,l.oth _ _ q n1 n2⟩)
  ·exact .inr q
 have g:=r.laterU l;show L0 K cl (Itl K a) i μ2 f S2 (some ds[i]?);cases e:ds[i]? with
 | none=>exact ⟨xs,b,by rw [<- r.length];exact Cb.mp e⟩
 | some d=>
  obtain ⟨v,c,j⟩:=g.get e;exact ⟨⟨xs,v,b,c⟩,λx n ⟨k,q⟩=>by subst k;have:=q xs b;rw [c] at this;cases this;exact ⟨Lat.refl _ _,m,j⟩⟩
theorem qA {n:Nat} (h:μ.pl[n]?=some a):Yl K cl (Itl K a) μ H (hG n):=λi μ2 H2 S2 l rp=>by
 show L0 K cl (Itl K a) i μ2 H2 S2 (match S2[n]? with
  | some (.lst es)=>some es[i]?
  | _=>none)
 cases q1:S2[n]? with
 | none=>exact True.intro
 | some o=>
  cases o with
  | dcT _=>exact True.intro
  | dct _=>exact True.intro
  | exc _ _=>exact True.intro
  | lst es=>
   obtain ⟨xs,h1,h2⟩:=rp.ats n _ a q1 (l.pre _ _ h);have hq:SqL K H2 a xs:=.inl (.inl h1);show L0 K cl (Itl K a) i μ2 H2 S2 (some es[i]?);cases e:es[i]? with
   | none=>exact ⟨xs,hq,by rw [<- h2.length];exact Cb.mp e⟩
   | some d=>
    obtain ⟨v,e1,r1⟩:=h2.get e;exact ⟨⟨xs,v,hq,e1⟩,λx H3 ⟨e3,q⟩=>by subst e3;have:=q xs hq;rw [e1] at this;cases this;exact ⟨Lat.refl _ _,rp,r1⟩⟩
theorem gX {lo:Int} {n:Nat}:Yl K cl (Itr lo n) μ H (bR lo n):=λi μ2 d S2 l e=>by
 show L0 K cl (Itr lo n) i μ2 d S2 (some (if i<n then some (.int (lo+i)) else none));by_cases a:i<n
 ·rw [if_pos a];exact ⟨a,λx f ⟨c,b⟩=>by subst c b;exact ⟨Lat.refl _ _,e,.int _⟩⟩
 ·rw [if_neg a];exact BW a
end
def j9 (d:D):M (Src×Nat):=match d with
 | .tup ds=>ret (F3 ds,ds.length+1)
 | .lst ds=>ret (F3 ds,ds.length+1)
 | .scr ds=>ret (F3 ds,ds.length+1)
 | .ref n=>λS=>match S[n]? with
  | some (.lst ds)=>.ok (hG n,ds.length+1) S
  | _=>.bad
 | _=>bad
def M4 (ds:List D):M (Src×Nat):=match ds with
 | [.int j]=>if -(2 ^ 62)<=j/\j<2 ^ 62 then ret (bR 0 j.toNat,j.toNat+1) else bad
 | [.int i,.int j]=>if -(2 ^ 62)<=i/\i<2 ^ 62/\-(2 ^ 62)<=j/\j<2 ^ 62 then ret (bR i (j-i).toNat,(j-i).toNat+1) else bad
 | _=>bad
section
variable {X:Cx} {cl:ClW} {xe:Addr->Hp->Prop} {e:Expr} {tg:Expr} {pos:Pos} {f:Env->M D}
theorem dN {tg e:Expr}:PI X tg e (tIt X.K cl xe λ_=>bad):=λ_ _ _ _ _ _ ⟨_,_,_,_,_,p⟩=>p.elim
theorem kR (h:PE X e (tD X.K cl xe f)):PI X tg e (tIt X.K cl xe λρ=>bind (f ρ) j9):=PI.imp (nI h) λσ H R ⟨μ,S,ρ,eo,rp,p⟩=>
 ⟨μ,S,ρ,eo,rp,p.bind.imp λd S1 μ1 H1 l1 r1 p1 v rv=>by
  cases rv with
  | tup h r=>exact ⟨_,rfl,.inr ⟨⟨_,h.sq⟩,p1.ret μ1 H1 (Lat.refl _ _) r1 _ (pQ h r)⟩⟩
  | lst h r=>exact ⟨_,rfl,.inl ⟨⟨_,h.sq⟩,p1.ret μ1 H1 (Lat.refl _ _) r1 _ (iA (.inl h) r)⟩⟩
  | scr h r=>exact ⟨_,rfl,.inl ⟨⟨_,h.sq⟩,p1.ret μ1 H1 (Lat.refl _ _) r1 _ (iA (.inr h) r)⟩⟩
  | ref h=>
   rename_i n a;simp only [j9] at p1;cases q1:S1[n]? with
   | none=>rw [q1] at p1;exact p1.elim
   | some o=>
    rw [q1] at p1;cases o with
    | lst ds=>
     obtain ⟨xs,h1,h2⟩:=r1.ats n _ a q1 h;exact ⟨_,rfl,.inl ⟨⟨xs,.inl (.inl h1)⟩,p1 μ1 H1 (Lat.refl _ _) r1 _ (qA h)⟩⟩
    | dct _=>exact p1.elim
    | exc _ _=>exact p1.elim
    | dcT _=>exact p1.elim
  | _=>exact False.elim p1⟩
theorem cQ (hg:Gl X "range") (hm:X.mg "range" = none) (ha:PA X [a] (tDs X.K cl xe fs)) (hs:noStar a=true):PI X tg (.Call (.Name "range" p) [a] [] pos) (tIt X.K cl xe λρ=>bind (fs ρ) λds=>if ds.length=1 then M4 ds else bad):=
 PI.imp (fJ hg hm ha (j1 hs)) λσ H R ⟨μ,S,ρ,eo,rp,p⟩=>⟨μ,S,ρ,eo,rp,p.bind.imp λds S1 μ1 H1 l1 r1 p1 vs rvs=>by
  cases rvs with
  | nil=>exact False.elim p1
  | cons h t=>
   cases t with
   | cons _ t=>rw [if_neg (by simp)] at p1;exact p1.elim
   | nil=>
    rename_i d0 v0;rw [if_pos (show ([d0]:List D).length=1 from rfl)] at p1;cases h with
    | int j=>
     obtain ⟨⟨h1,h2⟩,p1⟩:=Post.guard p1;exact ⟨j,rfl,h1,h2,p1 μ1 H1 (Lat.refl _ _) r1 _ gX⟩
    | _=>exact False.elim p1⟩
end
def n9 (src:Src) (tg:D->Env->Option Env) (body:Env->M Fl):Nat->Nat->Env->M Fl
 | 0,_,_=>bad
 | m+1,i,ρ=>λS=>match src i S with
  | none=>.bad
  | some none=>.ok (.nx ρ) S
  | some (some d)=>match tg d ρ with
   | none=>.bad
   | some b=>bind (body b) (λc=>match c with
    | .nx a=>n9 src tg body m (i+1) a
    | .ct a=>n9 src tg body m (i+1) a
    | .bk a=>ret (.nx a)
    | .rt d=>ret (.rt d)) S
section
variable {X:Cx} {cl:ClW} {xe:Addr->Hp->Prop} {iter tgt:Expr} {pos:Pos} {fi:Env->M (Src×Nat)} {tg:D->Env->Option Env} {g:Env->M Fl} {body:List Stmt}
theorem mN (Y:PassesOwn (model X.prog X.w) X.A X.env X.xe) (hc:X.calm=true) (hi:PI X tgt iter (tIt X.K cl xe fi)) (hg:PG X tgt (lE X.K cl tg)) (hb:PSs X body (sD X.K cl xe g)) (hn:i6 iter=true) :
  PS X (.For tgt iter body [] pos) (sD X.K cl xe λρ=>bind (fi ρ) λp=>n9 p.1 tg g p.2 0 ρ):=PS.imp (oF Y hc hi hg hb (j3 hn)) λD σ H ⟨μ,S,ρ,T,rp,p⟩=>by
 refine ⟨μ,S,ρ,T,rp,p.bind.imp λsm S1 f A l1 r1 p1 J yl=>?_⟩;obtain ⟨src,m⟩:=sm;refine ⟨λi m σ H=>∃ μ2 S2 h,LatR f A μ2 H/\EnvOk X.K μ2 H h σ/\Rep X.K cl μ2 S2 H/\Post X.K cl xe μ2 H (n9 src tg g m i h S2) (λw _ μ' H'=>fw X.K D w μ' H'),⟨m,f,S1,ρ,(Lat.refl _ _).r,T.later l1,r1,p1⟩,?_⟩;rintro i m F I ⟨μ2,S2,h,s,u,U,j⟩;cases m with
 | zero=>exact j.elim
 | succ m=>
  have y:L0 X.K cl J i μ2 I S2 (src i S2):=yl i μ2 I S2 s.u U;simp only [n9] at j;cases O:src i S2 with
  | none=>rw [O] at j;exact j.elim
  | some o=>
   rw [O] at j y;cases o with
   | none=>exact .inl ⟨y,j μ2 I (Lat.refl _ _) U F u⟩
   | some d=>
    obtain ⟨y1,Z⟩:=y;cases L:tg d h with
    | none=>simp only [L] at j;exact j.elim
    | some t=>
     simp only [L] at j;refine .inr ⟨y1,λv H'=>∃ l P b,LatR f A l H'/\EnvOk X.K l H' b v/\Rep X.K cl l P H'/\Post X.K cl xe l H' (n9 src tg g m (i+1) b P) (λw _ μ' H'=>fw X.K D w μ' H'),λv H' q=>⟨m,AF _,q⟩,λx H3 hy=>?_⟩;obtain ⟨M,V,E⟩:=Z x H3 hy;refine ⟨μ2,S2,h,d,t,u.later M,V,E,L,λσ3 K=>?_⟩;refine ⟨μ2,S2,t,K,V,(Post.later j M).bind.imp λw W c N l4 B C=>?_⟩;have R:LatR f A c N:=by
      have k:=M.trans l4;refine ⟨λn a e=>k.pre n a (s.pre n a e),λa o e n=>k.oth a o (s.oth a o e n) (λz=>(s.new a z).elim n (λq=>by rw [e] at q;cases q)),λa m=>(k.new a m).elim (λz=>s.new a z) (λz=>?_),λa m=>s.rsw a (by rw [<- k.rsv];exact m)⟩;by_cases Q:a∈f.pl
      ·exact .inl Q
      ·right
       cases e:A a with
       | none=>rfl
       | some o=>rw [s.oth a o e Q] at z;cases z
     cases w with
     | nx b=>exact λG r=>⟨c,W,b,R,r,B,C⟩
     | ct b=>exact λG r=>⟨c,W,b,R,r,B,C⟩
     | bk b=>exact C.ret c N (Lat.refl _ _) B
     | rt d=>exact C.ret c N (Lat.refl _ _) B
end
structure HLat (μ:Mp) (H:Hp) (p:Addr) (μ2:Mp) (H2:Hp):Prop where
 r:LatR μ H μ2 H2
 rs:μ2.rs=p :: μ.rs
theorem HLat.lat {H c H':Hp} {p:Addr} (h:HLat μ H p μ2 c) (l:Lat μ2 c μ' H'):Lat μ H μ'.free H':=by
 refine ⟨λn a e=>l.pre n a (h.r.pre n a e),λa o e n=>?_,λa m=>?_,by show μ'.rs.tail=μ.rs;rw [l.rsv,h.rs];rfl⟩
 ·have d:=λz=>(h.r.new a z).elim n λq=>by rw [e] at q;cases q
  exact l.oth a o (h.r.oth a o e n) d
 ·rcases l.new a m with q | q
  ·exact h.r.new a q
  ·by_cases b:a∈μ.pl
   ·exact .inl b
   ·right
    cases e:H a with
    | none=>rfl
    | some o=>rw [h.r.oth a o e b] at q;cases q
theorem HLat.step {H c b:Hp} {p:Addr} (h:HLat μ H p μ2 c) (l:Lat μ2 c μ3 b):HLat μ H p μ3 b:=by
 have k:=h.lat l;refine ⟨⟨k.pre,k.oth,k.new,λa m=>h.r.rsw a (by rw [<- l.rsv];exact m)⟩,by rw [l.rsv];exact h.rs⟩
section
variable {K:PySem.W.Frag} {cl:ClW} {xe:Addr->Hp->Prop} {α β:Type} {μ μ2:Mp} {H H2:Hp} {p:Addr} {S:Sto}
theorem Post.at {k:α->M β} {G:β->Sto->Mp->Hp->Prop} (h:Post K cl xe μ H (L3.bind m k S) G) (l:HLat μ H p μ2 H2):Post K cl xe μ2 H2 (m S) (λa S' _ _=>Post K cl xe μ H (k a S') G):=by
 unfold L3.bind at h;cases e:m S with
 | ok a S1=>rw [e] at h;exact λ_ _ _ _=>h
 | exn n S1=>rw [e] at h;exact λμ' H' a k r q=>h μ'.free H' a (l.lat k) (F5 r) q
 | bad=>rw [e] at h;exact h
end
def k4 (src:Src) (t:Env->M Bool) (f:Env->M D) (mk:D->Env):Nat->Nat->List D->M (List D)
 | 0,_,_=>bad
 | m+1,i,es=>λS=>match src i S with
  | none=>.bad
  | some none=>.ok es S
  | some (some d)=>bind (t (mk d)) (λb=>if b=true then bind (f (mk d)) (λy=>if es.length<sizeLine then k4 src t f mk m (i+1) (es++[y]) else bad) else k4 src t f mk m (i+1) es) S
def w9 (caps:List Nat) (ρ:Env):Env:=caps.map λi=>(ρ[i]?).join
theorem B7 {K:PySem.W.Frag} {μ:Mp} {H:Hp} {ρ:Env} {σ:L2.St} {caps:List Nat} {d:D} {x:V} (eo:EnvOk K μ H ρ σ) (r:RD K μ H d x):EnvOk K μ H (some d :: w9 caps ρ) (some x :: n8 caps σ):=by
 refine ⟨by simp [w9,n8],λi e he=>?_⟩;cases i with
 | zero=>simp at he;subst he;exact ⟨x,rfl,r⟩
 | succ j=>
  have he:(w9 caps ρ)[j]?=some (some e):=he;unfold w9 at he;rw [AM] at he;cases q:caps[j]? with
  | none=>rw [q] at he;cases he
  | some i=>
   rw [q] at he;have h':(ρ[i]?).join=some e:=AH he;have h2:ρ[i]?=some (some e):=by
    cases q2:ρ[i]? with
    | none=>rw [q2] at h';cases h'
    | some o=>rw [q2] at h';exact congrArg some h'
   obtain ⟨v,e1,r1⟩:=eo.2 i e h2;refine ⟨v,?_,r1⟩;show (n8 caps σ)[j]?=_;unfold n8;rw [AM,q];show some (σ[i]?).join=_;rw [e1];rfl
def W7 (caps:List Nat) (b:Env->M (Src×Nat)) (t:Env->M Bool) (f:Env->M D) (ρ:Env):M (List D):=bind (b ρ) λa=>k4 a.1 t f (λd=>some d :: w9 caps ρ) a.2 0 []
theorem bc {K:PySem.W.Frag} {cl:ClW} {xe:Addr->Hp->Prop} {caps:List Nat} {fi:Env->M (Src×Nat)} {t:Env->M Bool} {f:Env->M D} {σ:L2.St} {H:Hp} {μ:Mp} {S:Sto} {ρ:Env} {Q:VK} (eo:EnvOk K μ H ρ σ) (rp:Rep K cl μ S H)
  (p:Post K cl xe μ H (W7 caps fi t f ρ S) λds _ μ' H'=>∀ acc ys,LstAt μ' H' acc ys->RDs K μ' H' ds ys->Q (.ref acc) H'):fu caps (tIt K cl xe fi) (tBo K cl xe t) (tD K cl xe f) σ H Q:=by
 refine ⟨μ,S,ρ,eo,rp,p.bind.imp λsm S1 μ1 H1 l1 r1 p1 J yl acc hacc=>?_⟩;obtain ⟨src,m0⟩:=sm;have nrs:=r1.notrs hacc;refine ⟨λi m ys H2=>∃ μ2 S2 es,HLat μ1 H1 acc μ2 H2/\acc∉μ2.pl/\H2 acc=some (.lst ys)/\EnvOk K μ2 H2 ρ σ/\Rep K cl μ2 S2 H2/\RDs K μ2 H2 es ys/\Post K cl xe μ1 H1 (k4 src t f (λd=>some d :: w9 caps ρ) m i es S2) (λds _ μ' H'=>∀ acc ys,LstAt μ' H' acc ys->RDs K μ' H' ds ys->Q (.ref acc) H'),⟨m0,μ1.hold acc,S1,[],?_,r1.notin hacc,b6,v5 r1 hacc (eo.later l1),v7 r1 hacc,.nil,p1⟩,?_⟩
 ·refine ⟨⟨λ_ _ e=>e,λa o e _=>by rw [a7 (a9 e hacc)];exact e,λa m=>.inl m,λa m=>?_⟩,rfl⟩;rcases AJ.mp (m) with rfl | m
  ·exact .inr hacc
  ·exact .inl m
 rintro i m ys H2 ⟨μ2,S2,es,hl,npl,e2,eo2,r2,rds2,p2⟩;refine ⟨e2,?_⟩;cases m with
 | zero=>exact p2.elim
 | succ m=>
  have y:L0 K cl J i μ2 H2 S2 (src i S2):=yl i μ2 H2 S2 hl.r.u r2;simp only [k4] at p2;cases e1:src i S2 with
  | none=>rw [e1] at p2;exact p2.elim
  | some o=>
   rw [e1] at p2 y;cases o with
   | none=>
    refine .inl ⟨y,p2 μ2.free H2 (hl.lat (Lat.refl _ _)) (F5 r2) acc ys ⟨e2,npl,?_⟩ (P2 rds2)⟩;show acc∉μ2.rs.tail;rw [hl.rs];exact nrs
   | some d=>
    obtain ⟨y1,y2⟩:=y;refine .inr ⟨y1,λx H3 hy=>?_⟩;obtain ⟨l3,r3,rd3⟩:=y2 x H3 hy;have h3:=hl.step l3;refine ⟨μ2,S2,_,B7 (eo2.later l3) rd3,r3,(Post.at p2 h3).imp λb S5 μ5 H5 l5 r5 p5=>?_⟩;have h5:=h3.step l5;have l35:=l3.trans l5;have a5:=l35.oth _ _ e2 npl;have n5:=l35.out e2 npl;cases b with
    | false=>exact ⟨m,AF _,μ5,S5,es,h5,n5,a5,eo2.later l35,r5,rds2.later l35,p5⟩
    | true=>
     refine cV ?_;rw [if_pos rfl] at p5;refine ⟨μ5,S5,_,(B7 (eo2.later l3) rd3).later l5,r5,(Post.at p5 h5).imp λyv S6 μ6 H6 l6 r6 p6 v rv=>?_⟩;have h6:=h5.step l6;have l36:=l35.trans l6;have a6:=l6.oth _ _ a5 n5;have n6:=l6.out a5 n5;by_cases hz:es.length<sizeLine
     ·rw [if_pos hz] at p6;have er:=h6.rs;refine ⟨a6,by rw [<- rds2.length];exact hz,m,AF _,μ6,S6,es++[yv],?_,n6,b6,?_,C3 er a6 r6,B4 er ((rds2.later l36).append (.cons rv .nil)),p6⟩
      ·refine ⟨⟨h6.r.pre,λa o e n=>?_,h6.r.new,h6.r.rsw⟩,er⟩;rw [a7 (a9 e hacc)];exact h6.r.oth a o e n
      ·have eo6:=eo2.later l36;exact ⟨eo6.1,λj e he=>let ⟨w,q,r⟩:=eo6.2 j e he;⟨w,q,U0 er r⟩⟩
     ·rw [if_neg hz] at p6;exact p6.elim
section
variable {X:Cx} {cl:ClW} {xe:Addr->Hp->Prop} {elt iter:Expr} {x:Str} {px pos:Pos} {ifs:List Expr} {scope:Scope} {N':List Str} {caps:List Nat} {fi:Env->M (Src×Nat)} {t:Env->M Bool} {f:Env->M D}
theorem eX {X:Cx}:PTL X [] (tBo X.K cl xe λ_=>ret true):=λpins s σ H Q I ⟨μ,S,ρ,b,a,p⟩=>kU pins s σ H Q I (p μ H (Lat.refl _ _) a)
theorem hE (T:CompText X.N X.env N' 1 caps scope) (k:X.calm=true) (i:N'.Nodup) (b:N'[0]?=some x) (d:scope.names.lookup x=some .local) (h:PI X (.Name x px) iter (tIt X.K cl xe fi))
  (l:∀ pins C c s H,PTL (cxComp X pins N' scope C c s H) ifs (tBo X.K cl xe t)) (e:∀ pins C c s H,PE (cxComp X pins N' scope C c s H) elt (tD X.K cl xe f)) (g:i6 iter=true) :
  PE X (.ListComp elt [⟨.Name x px,iter,ifs,0⟩] scope pos) (λσ H Q=>∃ μ S ρ,EnvOk X.K μ H ρ σ/\Rep X.K cl μ S H/\Post X.K cl xe μ H (W7 caps fi t f ρ S) λds _ μ' H'=>∀ a ys,LstAt μ' H' a ys->RDs X.K μ' H' ds ys->Q (.ref a) H'):=
 PE.imp (dD T k i b d h l e (j3 g)) λσ H Q ⟨μ,S,ρ,m,j,p⟩=>bc m j p
end
def jH (K:PySem.W.Frag) (cl:ClW) (xe:Addr->Hp->Prop) (fs:Env->M (List D)):TE:=λσ H Q=>∃ μ S ρ,EnvOk K μ H ρ σ/\Rep K cl μ S H/\Post K cl xe μ H (fs ρ S) λds _ μ' H'=>∀ acc ys,LstAt μ' H' acc ys->RDs K μ' H' ds ys->Q (.ref acc) H'
theorem R5 (m:M α) (k:α->M β) (k2:β->M γ):bind (bind m k) k2=bind m λa=>bind (k a) k2:=by
 funext S;unfold bind;grind
theorem gu {k:α->M β} {S:Sto} (h:m S=m' S):bind m k S=bind m' k S:=by
 unfold bind;rw [h]
end L3
namespace L2
open PySem PySem.Spec PyProof.Rows
section
variable {prog:Program} {w:World} {A:Around} {E:Value->Shared->Prop} {s:Shared}
theorem F8 {items} {x:Value} {Q:Value->Shared->Prop} (a:s.heap.IsTupleIter it l i)
  (h:s.heap.IsTuple l items) (e:items[i]?=some x)
  (g:∀ h',h'.IsTupleIter it l (i+1)->Heap.SameBut it s.heap h'->Q x { s with heap:=h' }) :
  wpAny (model prog w) A (Builtin.SmallTypes.nextOf (.ref it)) Q E s:=by
 obtain ⟨o,b,f,hd⟩:=id a;obtain ⟨j,c,_,k,d⟩:=h;refine Ag (BB a.typeIs F.slot_tuple_iterator_next
  (CF F.slot_tuple_iterator_next a.typeIs F.entry_tuple_iterator_next ?_ (F.args_tuple_iterator_next_1 _)))
 show wpAny _ _ (field (.ref it) 0 >>= _) _ _ s;refine Ag (Bj b hd (x:=.ref l) rfl ?_);rw [if_neg (show ¬ ((Value.ref l==Value.none)=true) from Am)];refine Ag (Bj b hd rfl ?_);refine Ag (wpAny_seqItems c d ?_);simp only [Df,e];refine Ag (Cv b hd (by simp) (Aj ⟨x,rfl,Aj (g _ ?_ (Heap.SameBut.update ..))⟩));exact ⟨_,AX _ b (Obj.isFreed_of_fields (Obj.data_mapFields hd _)),(Obj.cls_mapFields ..).trans f,by
  rw [Obj.data_mapFields hd];simp [rawInt]⟩
theorem K6 {items} {Q:Value->Shared->Prop} (f:A.handled=none)
  (a:s.heap.IsTupleIter it l i) (j:s.heap.IsTuple l items) (g:items[i]?=none)
  (h:∀ h' e,Heap.ExtBut it s.heap h'->(∃ o,h'.get? e=some o/\o.cls=.type "StopIteration")->E (.ref e) { s with heap:=h' }) :
  wpAny (model prog w) A (Builtin.SmallTypes.nextOf (.ref it)) Q E s:=by
 obtain ⟨o,c,k,hd⟩:=id a;obtain ⟨m,b,_,n,d⟩:=j;refine Ag (BB a.typeIs F.slot_tuple_iterator_next
  (CF F.slot_tuple_iterator_next a.typeIs F.entry_tuple_iterator_next ?_ (F.args_tuple_iterator_next_1 _)))
 show wpAny _ _ (field (.ref it) 0 >>= _) _ _ s;refine Ag (Bj c hd (x:=.ref l) rfl ?_);rw [if_neg (show ¬ ((Value.ref l==Value.none)=true) from Am)];refine Ag (Bj c hd rfl ?_);refine Ag (wpAny_seqItems b d ?_);simp only [Df,g];refine Ag (wpAny_rule (Ag (Cv c hd (by simp) ?_)));refine Ag ?_;refine Ag (AS ?_ (by size_fits));refine Ag (wpAny_of_eq (by first | rfl | (simp;rfl)) ?_);refine AS ?_ (by size_fits);refine Ag (wpAny_handled ?_);first | rw [f] | rw [f]
 refine Ag (Aj (wpAny_throw ?_));exact h _ _ (((Heap.SameBut.update ..).extBut.push _).push _) ⟨_,Ax _ rfl,rfl⟩
end
theorem jL {h h':Heap} {a:Addr} {items:Array Value} (x:h.IsTuple a items) (k:∀ o,h.get? a=some o->h'.get? a=some o):h'.IsTuple a items:=let ⟨o,b,r⟩:=x;⟨o,k o b,r⟩
theorem jl (k:A.handled=none) (it l:Addr) (c:l≠it) (items:Array Value) :
  Draws prog w A it [it,l] items.size (λi v=>items[i]?=some v) (λi h=>h.IsTupleIter it l i/\h.IsTuple l items) where
 live:=λ_ _ st=>let ⟨o,b,_⟩:=st.1;⟨o,b⟩
 frame:=λ_ _ _ st f=>⟨(let ⟨o,b,r⟩:=st.1;⟨o,f it (by simp) o b,r⟩),jL st.2 λo e=>f l (by simp) o e⟩
 item:=λi s Q E d st g=>by
  refine F8 st.1 st.2 (x:=items[i]) (by simp [d]) λh' a hs'=>?_;exact g _ h' s.toks (by simp [d]) ⟨a,st.2.extBut hs'.extBut c⟩ hs'
 done:=λs Q E st j=>K6 k st.1 st.2 (by simp) j
theorem ar (l:Addr) (items:Array Value) (n:Nat) (b:Option Addr) (i:Array (Option Value)) :
  Meets (Builtin.«enumerate.__new__» ⟨[.type "enumerate",.ref l],[]⟩) (λ_ R s=>s.heap.get? l=some { cls:=.type "tuple",dict:=b,data:=.seq items n,slots:=i } /\
   R (.ok (.ret (.ref (s.heap.push { cls:=.type "tuple_iterator",data:=.fields #[.ref l,.int 0 0] }).objs.size)))
    { s with heap:=(s.heap.push { cls:=.type "tuple_iterator",data:=.fields #[.ref l,.int 0 0] }).push { cls:=.type "enumerate",data:=.fields #[.none,.bool false,.ref s.heap.objs.size,rawInt 0,.none,.none] } }):=
 .of_wp λprog w A R s h=>by
  obtain ⟨j,g,d,k,m⟩:=s;obtain ⟨a,h⟩:=h;have f:=sub_enumerate;have e:Heap.IsTuple (Shared.heap ⟨j,g,d,k,m⟩) l items:=⟨_,a,rfl,n,rfl⟩
  wp_walk using AutoSeq1.wpAny_loadPart' a
  refine wpAny_stack_any λst=>Aj ?_;split
  ·rename_i c _ _ _ _ _;cases (c==Value.type "enumerate")
   ·wp_walk using AutoSeq1.wpAny_loadPart' a,Co e
    exact ⟨_,rfl,h⟩
   ·wp_walk using AutoSeq1.wpAny_loadPart' a,Co e
    exact ⟨_,rfl,h⟩
  ·wp_walk using AutoSeq1.wpAny_loadPart' a,Co e
   exact ⟨_,rfl,h⟩
section
variable {prog:Program} {w:World} {A:Around} {E:Value->Shared->Prop} {s:Shared}
theorem bn (i:s.heap.IsTuple l items)
  (h:∀ h',IsEnum h' (s.heap.objs.size+1) s.heap.objs.size 0 .none->h'.IsTupleIter s.heap.objs.size l 0->h'.objs.size=s.heap.objs.size+2 ->
   (∀ b o,s.heap.get? b=some o->h'.get? b=some o)->Q (.ref (s.heap.objs.size+1)) { s with heap:=h' }) :
  wpAny (model prog w) A (call (.type "enumerate") [.ref l]) Q E s:=by
 obtain ⟨⟨c,d,j,g⟩,k,a,n,hd⟩:=i
 replace a:c=.type "tuple":=a
 replace hd:j=.seq items n:=hd
 subst a hd;refine callType_new F.called_enumerate (by decide) (F.typeCall_enumerate_1 _) (F.newCall_enumerate_1 _) (λe=>F.args_object_init_2 e _) F.entry_enumerate_new
  (ar l items n d g) ⟨k,?_⟩
 have hz:(s.heap.push { cls:=.type "tuple_iterator",data:=.fields #[.ref l,.int 0 0] }).objs.size=s.heap.objs.size+1:=Bq ..;rw [hz];have f:IsEnum ((s.heap.push { cls:=.type "tuple_iterator",data:=.fields #[.ref l,.int 0 0] }).push
   { cls:=.type "enumerate",data:=.fields #[.none,.bool false,.ref s.heap.objs.size,rawInt 0,.none,.none] }) (s.heap.objs.size+1) s.heap.objs.size 0 .none:=by
  have:=Ax (s.heap.push { cls:=.type "tuple_iterator",data:=.fields #[.ref l,.int 0 0] })
   (o:={ cls:=.type "enumerate",data:=.fields #[.none,.bool false,.ref s.heap.objs.size,rawInt 0,.none,.none] }) rfl
  rw [hz] at this;exact this
 refine ⟨⟨_,f,rfl⟩,h _ f ⟨_,Ah _ (Ax _ rfl),rfl,rfl⟩ (by rw [Bq,hz]) λb o x=>Ah _ (Ah _ x)⟩
end
section
variable {X:Cx} {pins:List (Addr×Obj)} {σ:St} {H:Hp} {s:Shared} {h':Heap}
theorem Inv.turned2 {t':Nat} {e it:Addr} (I:Inv X pins σ H s) (k:∀ b o,b≠e->b≠it->s.heap.get? b=some o->h'.get? b=some o) (f:y3 X pins H e) (g:y3 X pins H it):Inv X pins σ H { s with heap:=h',toks:=t' }:=by
 obtain ⟨a0,a1,a2,a3,a4,a5⟩:=f;obtain ⟨b0,b1,b2,b3,b4,b5⟩:=g;have nit:∀ b u,H b=some u->b≠e/\b≠it:=λb u q=>⟨λz=>(by rw [z,a0] at q;cases q),λz=>(by rw [z,b0] at q;cases q)⟩;have kk:∀ b o,b∉[e,it]->s.heap.get? b=some o->h'.get? b=some o:=λb o hb q=>k b o (λz=>hb (by simp [z])) (λz=>hb (by simp [z])) q;refine I.step (g':=s.gens) (d':=s.drawn) (ch:=[e,it]) (λb hb=>?_) (λb o _ _ hc q _=>kk b o hc q) (λb o _ _ hc q _=>⟨o.slots,kk b o hc q⟩) (λ_ _ _ _ n=>n)
  (λb o hc q=>⟨o,kk b o hc q⟩) (λ_ _ q=>q) (λ_ _ _ q=>q) (λb ps q=>⟨#[],by rw [q];simp⟩) (λm hm=>?_) (λb u q=>?_) I.bare
 ·have z:b=e\/b=it:=by simpa using hb
  rcases z with rfl | rfl
  ·exact ⟨a3,a1,a4,a5⟩
  ·exact ⟨b3,b1,b4,b5⟩
 ·obtain ⟨o,es,ep,ho,r⟩:=hm;exact ⟨o,es,ep,k _ o (Ne.symm a1) (Ne.symm b1) ho,r⟩
 ·refine (I.hok b u q).stay (λc v hc r=>?_) (λ_ r=>r) λ_ _ r=>r;rcases hc with z | z
  ·rw [z] at r ⊢;exact k b v (nit b u q).1 (nit b u q).2 r
  ·exact k c v (nit c _ z).1 (nit c _ z).2 r
end
def D5 (a:Hp->List V->Prop):It:=
 ⟨λi H=>∃ xs x,a H xs/\xs[i]?=some x,λi H x H'=>∃ p y,x=.ref p/\H p=none/\H'=upd H p (.tup [.int (i:Int),y])/\∀ xs,a H xs->xs[i]?=some y,λi H=>∃ xs,a H xs/\xs.length=i⟩
section
variable {P:Program} {w:World} {K:PySem.W.Frag} {elts:List Expr} {x1:Nat} {tp:Pos}
theorem V9 {σ:St} {H:Hp} {s:Shared} {E:Value->Shared->Prop} {e it:Addr} {G:List Addr} {n i:Nat} {A:Nat->Value->Prop} {m:Nat->Heap->Prop} {j:Value} {y:V} {J:It} {tn:Nat->Heap->Prop}
  (I:Inv X pins σ H s) (g:∀ b∈[e,it],y3 X pins H b) (D:Draws X.prog X.w X.A.in1 it G n A m) (B:IsEnum s.heap e it i j) (c:m i s.heap) (k:i<n) (v:e≠it) (f:e∉G)
  (R:∀ u,A i u->RelV y u) (S:∀ h',(∃ o,IsEnum h' e it ((i:Int)+1) o)->m (i+1) h'->tn (i+1) h') (M:∀ p,H p=none->J.yld i H (.ref p) (upd H p (.tup [.int (i:Int),y]))) :
  wpAny (model X.prog X.w) X.A (pyNext (.ref e)) (λr Z=>∃ u,r=some u /\
   wpAny (model X.prog X.w) X.A (letOwnedTupleGo (.Tuple elts x1 tp) (.ref e) u) (λ_ F=>∃ x H',Inv X pins σ H' F/\RelV x u/\J.yld i H x H'/\tn (i+1) F.heap/\∀ b∈[e,it],H' b=none) E Z) E s:=by
 refine wpAny_pyNext_enum_itemD D B c k v f λu h' d O T hs' Q hsz hk=>?_;have C:=Ap B;have w:it<s.heap.objs.size:=by obtain ⟨_,z⟩:=D.live _ _ c;exact Ap z
 refine ⟨_,rfl,wpAny_letOwnedTupleGo_enum T λh2 t a=>?_⟩;have fr:=I.hok.fresh (Ao _);have I1:Inv X pins σ (upd H s.heap.objs.size (.tup [.int (i:Int),y])) { s with heap:=s.heap.push { cls:=.type "tuple",data:=.seq #[.int i d,u] },toks:=d }:=
  I.laid (λb q z=>Ah _ z) (Ao _) ⟨by rw [AD];show 2<=16777216;omega,[.int i d,u],.cons ⟨d,rfl⟩ (.cons (R u O) .nil),⟨_,Ax _ rfl,rfl,_,rfl,rfl⟩⟩
 have K:∀ b,y3 X pins H b->b<s.heap.objs.size->y3 X pins (upd H s.heap.objs.size (.tup [.int (i:Int),y])) b:=λb ⟨c0,Y,W,c3,U,c5⟩ N=>⟨by rw [a7 (Au N)];exact c0,Y,W,c3,U,c5⟩;have P:=I1.turned2 (t':=d+1) (λb o h L z=>by
  have:=Heap.get?_push_cases z;rcases this with ⟨rfl,rfl⟩ | z1
  ·exact (a.2 _ h).trans Q
  ·exact (a.2 b h).trans (hk b o h L z1)) (K e (g e (by simp)) C) (K it (g it (by simp)) w)
 refine ⟨.ref s.heap.objs.size,_,P,rfl,M _ fr,S _ ⟨_,t⟩ (D.frame _ _ _ hs' λb l o z=>(a.2 b λq=>f (q▸l)).trans z),λb l=>?_⟩;have z:b=e\/b=it:=by simpa using l
 rcases z with rfl | rfl
 ·rw [a7 (Au C)];exact (g _ (by simp)).1
 ·rw [a7 (Au w)];exact (g _ (by simp)).1
end
section
variable {P:Program} {w:World} {K:PySem.W.Frag} {elts:List Expr} {x1:Nat} {tp:Pos}
theorem eY {h:Heap} {e it:Addr} {i:Int} {a:Value} (z:IsEnum h e it i a):∃ o,h.get? e=some o/\∀ v,o.data≠.cell v:=by grind
theorem dX {H:Hp} {p:Addr} {y:V} (h:H p=none) (k:∀ xs,Sq H xs->xs[i]?=some y):(D5 Sq).yld i H (.ref p) (upd H p (.tup [.int (i:Int),y])):=by
 show ∃ a b,V.ref p=.ref a/\H a=none/\upd H p (.tup [.int (i:Int),y])=upd H a (.tup [.int (i:Int),b])/\∀ xs,Sq H xs->xs[i]?=some b;grind
theorem bi (a e it:Addr) (hne:e≠it):Turn P w K (.Tuple elts x1 tp) (D5 λH xs=>SqL K H a xs) [e,it] e (λi h=>(∃ old,IsEnum h e it ((i:Nat):Int) old)/\h.IsListIter it a i) where
 mem:=by simp
 obj:=λi h st b hb=>by
  have z:b=e\/b=it:=by simpa using hb
  rcases z with rfl | rfl
  ·obtain ⟨old,q⟩:=st.1;exact eY q
  ·obtain ⟨o,q,c,d⟩:=st.2;exact ⟨o,q,λv z=>by rw [d] at z;cases z⟩
 keep:=λi h h' st k=>⟨(let ⟨old,q⟩:=st.1;⟨old,k e (by simp) _ q⟩),st.2.at λo q=>k it (by simp) o q⟩
 item:=by
  intro X hP hw hK hc i pins s σ H E I hf st hg;subst hP hw hK;obtain ⟨xs,x,hq,hx⟩:=hg;obtain ⟨its,rv,p,hz⟩:=I.list hq;obtain ⟨u,hu,ru⟩:=rv.get hx;obtain ⟨⟨old,he⟩,hit⟩:=st;have nit:a≠it:=λz=>by
   obtain ⟨o,q,c,_⟩:=hit;obtain ⟨o2,q2,c2,_⟩:=p.isList;rw [z,q] at q2;cases q2;rw [c] at c2;exact absurd c2 (by decide)
  have nea:e≠a:=λz=>by
   obtain ⟨o2,q2,c2,_⟩:=p.isList;rw [<- z,he] at q2;cases q2;exact absurd (show Value.type "enumerate" = Value.type "list" from c2) (by decide)
  have hlt:i<its.toArray.size:=by
   have:=(Ai.mp hu).1;simpa using this
  refine V9 (y:=x) (J:=D5 λH xs=>SqL X.K H a xs) (tn:=λi h=>(∃ old,IsEnum h e it ((i:Nat):Int) old)/\h.IsListIter it a i) I hf (Draws.list (show X.A.in1.handled=none from I.ok.hd hc) it a nit its.toArray) he ⟨hit,p.isList⟩ hlt hne (by simp [hne,nea]) (λv hv=>?_) (λh' ho hs=>⟨?_,hs.1⟩) λq hq2=>dX hq2 (λys hy=>by rw [I.list_inj hy hq];exact hx)
  ·have hv':its[i]?=some v:=by simpa using hv
   rw [hu] at hv';cases hv';exact ru
  ·obtain ⟨o,q⟩:=ho;exact ⟨o,by rw [show ((i+1:Nat):Int)=(i:Int)+1 from rfl];exact q⟩
 done:=by
  intro X hP hw hK hc i pins s σ H E I hf st hg;subst hP hw hK;obtain ⟨xs,hq,hx⟩:=hg;obtain ⟨its,rv,p,hz⟩:=I.list hq;obtain ⟨⟨old,he⟩,hit⟩:=st;have hl:=rv.length;have nit:a≠it:=λz=>by
   obtain ⟨o,q,c,_⟩:=hit;obtain ⟨o2,q2,c2,_⟩:=p.isList;rw [z,q] at q2;cases q2;rw [c] at c2;exact absurd c2 (by decide)
  have en:i=its.toArray.size:=by simp;omega
  obtain ⟨f0,f1,f2,f3,f4,f5⟩:=hf it (by simp);exact wpAny_pyNext_enum_endD (Draws.list (show X.A.in1.handled=none from I.ok.hd hc) it a nit its.toArray) he ⟨en▸hit,p.isList⟩ λh' eb=>⟨rfl,I.turned (t':=s.toks) (λb o hb q=>eb b o hb q) f0 f1 f3 f4 f5⟩
 self:=λ_ _ _ _ _ st h=>by
  obtain ⟨⟨old,he⟩,_⟩:=st;exact Cy he h
theorem ca (a e it:Addr) (t:e≠it):Turn P w K (.Tuple elts x1 tp) (D5 λH xs=>SqT K H a xs) [e,it] e (λi h=>(∃ f,IsEnum h e it ((i:Nat):Int) f)/\h.IsTupleIter it a i) where
 mem:=by simp
 obj:=λi h st b J=>by
  have z:b=e\/b=it:=by simpa using J
  rcases z with rfl | rfl
  ·grind
  ·obtain ⟨o,q,c,d⟩:=st.2;exact ⟨o,q,λv z=>by rw [d] at z;cases z⟩
 keep:=λi h h' st k=>⟨(let ⟨f,q⟩:=st.1;⟨f,k e (by simp) _ q⟩),st.2.at λo q=>k it (by simp) o q⟩
 item:=by
  intro X L F O N i pins s σ H E I C st B;subst L F O;obtain ⟨xs,x,y,D⟩:=B;obtain ⟨j,G,p,hz⟩:=I.tuple y;have pt:=p;obtain ⟨u,Y,ru⟩:=G.get D;obtain ⟨⟨f,r⟩,g⟩:=st;have n:a≠it:=λz=>by
   obtain ⟨o,q,c,_⟩:=g;obtain ⟨R,l,m,_⟩:=pt;rw [z,q] at l;cases l;rw [c] at m;exact absurd m (by decide)
  have Q:e≠a:=λz=>by
   obtain ⟨R,l,m,_⟩:=pt;rw [<- z,r] at l;cases l;exact absurd (show Value.type "enumerate" = Value.type "tuple" from m) (by decide)
  have M:i<j.toArray.size:=by
   have:=(Ai.mp Y).1;simpa using this
  refine V9 (tn:=λi h=>(∃ f,IsEnum h e it ((i:Nat):Int) f)/\h.IsTupleIter it a i) I C (jl (show X.A.in1.handled=none from I.ok.hd N) it a n j.toArray) r ⟨g,pt⟩ M t (by simp [t,Q]) (λv hv=>?_) (λh' ho hs=>⟨?_,hs.1⟩) λq A=>dX A (λys V=>by rw [I.tuple_inj V y];exact D)
  ·grind
  ·grind
 done:=by
  intro X L F O N i pins s σ H E I C st B;subst L F O;obtain ⟨xs,y,D⟩:=B;obtain ⟨j,G,p,hz⟩:=I.tuple y;have pt:=p;obtain ⟨⟨f,r⟩,g⟩:=st;have hl:=G.length;have n:a≠it:=λz=>by
   obtain ⟨o,q,c,_⟩:=g;obtain ⟨R,l,m,_⟩:=pt;rw [z,q] at l;cases l;rw [c] at m;exact absurd m (by decide)
  have S:i=j.toArray.size:=by simp;omega
  obtain ⟨T,U,f2,f3,f4,W⟩:=C it (by simp);exact wpAny_pyNext_enum_endD (jl (show X.A.in1.handled=none from I.ok.hd N) it a n j.toArray) r ⟨S▸g,pt⟩ λh' Z=>⟨rfl,I.turned (λb o J q=>Z b o J q) T U f3 f4 W⟩
 self:=λ_ _ _ _ _ st h=>by
  obtain ⟨⟨f,r⟩,_⟩:=st;exact Cy r h
end
section
variable {X:Cx} {elts:List Expr} {x1:Nat} {tp:Pos}
theorem eW:bootBuiltins "enumerate" = some (.type "enumerate"):=by decide +kernel
theorem kD (u:Gl X "enumerate") (x:X.mg "enumerate" = none) (w:PA X [l] ta) (hs:starEach [l] X.env=[(false,eval l X.env)]) :
  PI X (.Tuple elts x1 tp) (.Call (.Name "enumerate" p) [l] [] pos) (λσ H R=>ta σ H λvs f=>∃ a,vs=[.ref a]/\(((∃ xs,SqL X.K f a xs)/\R (D5 λH xs=>SqL X.K H a xs) f)\/((∃ xs,SqT X.K f a xs)/\R (D5 λH xs=>SqT X.K H a xs) f))):=by
 intro pins s σ H R I h;refine Call_ (K0 I u x eW (Bn (thn (w pos pins s σ H _ I h) λus c ⟨vs,f,d,A,n⟩=>?_) hs rfl));obtain ⟨a,e,n⟩:=n;subst e;cases A with
 | cons r y=>
  cases y;cases r;have o:∀ h':Heap,h'.objs.size=c.heap.objs.size+2->∀ b∈[c.heap.objs.size+1,c.heap.objs.size],y3 X pins f b:=λh' _ b v=>by
   have z:b=c.heap.objs.size+1\/b=c.heap.objs.size:=by simpa using v
   rcases z with rfl | rfl
   ·exact d.fpOk (Bw _) (d.hok.fresh (Bw _))
   ·exact d.fpOk (Ao _) (d.hok.fresh (Ao _))
  rcases n with ⟨⟨xs,k⟩,q⟩ | ⟨⟨xs,k⟩,q⟩
  ·obtain ⟨m,t,p,hz⟩:=d.list k;refine call_enumerate_list p.isList λh' g j hsz i=>?_;exact Cy g ⟨_,[c.heap.objs.size+1,c.heap.objs.size],_,_,f,rfl,d.kept i,bi a _ _ (Do _),⟨⟨_,g⟩,j⟩,o h' hsz,q⟩
  ·obtain ⟨m,t,p,hz⟩:=d.tuple k;refine bn (p) λh' g j hsz i=>?_;exact Cy g ⟨_,[c.heap.objs.size+1,c.heap.objs.size],_,_,f,rfl,d.kept i,ca a _ _ (Do _),⟨⟨_,g⟩,j⟩,o h' hsz,q⟩
end
end L2
namespace L3
open PySem PySem.Spec PyProof.Rows L2
def U3 (ds:List D):Src:=λi _=>match ds[i]? with
 | some d=>some (some (.tup [.int (i:Int),d]))
 | none=>if i=ds.length then some none else none
def dq (d:D):M (Src×Nat):=match d with
 | .tup ds=>ret (U3 ds,ds.length+1)
 | .lst ds=>ret (U3 ds,ds.length+1)
 | .scr ds=>ret (U3 ds,ds.length+1)
 | _=>bad
section
variable {K:PySem.W.Frag} {cl:ClW} {μ:Mp} {H:Hp}
theorem mw {ds:List D} (j:∀ μ2 a S2,LatU μ H μ2 a->Rep K cl μ2 S2 a->Sq a xs) (r:RDs K μ H ds xs):Yl K cl (D5 Sq) μ H (U3 ds):=λi μ2 a S2 l f=>by
 have b:=j μ2 a S2 l f;have h:=r.laterU l;show L0 K cl (D5 Sq) i μ2 a S2 (match ds[i]? with
  | some d=>some (some (.tup [.int (i:Int),d]))
  | none=>if i=ds.length then some none else none)
 cases e:ds[i]? with
 | none=>
  by_cases q:i=ds.length
  ·rw [if_pos q];exact ⟨xs,b,by rw [<- r.length];exact q.symm⟩
  ·rw [if_neg q];exact trivial
 | some d=>
  obtain ⟨v,c,k⟩:=h.get e;refine ⟨⟨xs,v,b,c⟩,λx m z=>?_⟩;obtain ⟨p,y,rfl,g,rfl,q⟩:=z;have:=q xs b;rw [c] at this;cases this;exact G1 f (.cons (.int _) (.cons k .nil)) g
theorem pL (h:TupAt K μ H a xs) (r:RDs K μ H ds xs):Yl K cl (D5 λH xs=>SqT K H a xs) μ H (U3 ds):=mw (λμ2 i S2 l j=>by
 rcases h with ⟨q,n1,n2⟩ | q
 ·rcases q with q | ⟨o,q⟩
  ·exact .inl (.inl (l.oth _ _ q n1 n2))
  ·exact .inl (.inr ⟨o,l.oth _ _ q n1 n2⟩)
 ·obtain ⟨o,b,n,f,g,c,d,e,_⟩:=q;exact .inr ⟨o,b,n,f,g,c,d,e⟩) r
theorem jK (h:LstAt μ H a xs\/ScrAt K μ H a xs) (r:RDs K μ H ds xs):Yl K cl (D5 λH xs=>SqL K H a xs) μ H (U3 ds):=mw (λμ2 c S2 l b=>by
 rcases h with ⟨q,n1,n2⟩ | ⟨q,n1,n2⟩ | q
 ·exact .inl (.inl (l.oth _ _ q n1 n2))
 ·rcases q with q | ⟨o,q⟩
  ·exact .inl (.inl (l.oth _ _ q n1 n2))
  ·exact .inl (.inr ⟨o,l.oth _ _ q n1 n2⟩)
 ·exact .inr q) r
end
section
variable {X:Cx} {cl:ClW} {xe:Addr->Hp->Prop} {elts:List Expr} {x1:Nat} {tp p pos:Pos}
theorem ik (hg:Gl X "enumerate") (hm:X.mg "enumerate" = none) (ha:PA X [a] (tDs X.K cl xe fs)) (hs:noStar a=true) :
  PI X (.Tuple elts x1 tp) (.Call (.Name "enumerate" p) [a] [] pos) (tIt X.K cl xe λρ=>bind (fs ρ) λds=>match ds with
   | [d]=>dq d
   | _=>bad):=
 PI.imp (kD hg hm ha (j1 hs)) λσ H R ⟨μ,S,ρ,eo,rp,P⟩=>⟨μ,S,ρ,eo,rp,P.bind.imp λds S1 μ1 H1 l1 r1 p1 vs rvs=>by
  cases rvs with
  | nil=>exact False.elim p1
  | cons h t=>
   cases t with
   | cons _ _=>exact False.elim p1
   | nil=>
    cases h with
    | tup h r=>exact ⟨_,rfl,.inr ⟨⟨_,h.sq⟩,p1.ret μ1 H1 (Lat.refl _ _) r1 _ (pL h r)⟩⟩
    | lst h r=>exact ⟨_,rfl,.inl ⟨⟨_,h.sq⟩,p1.ret μ1 H1 (Lat.refl _ _) r1 _ (jK (.inl h) r)⟩⟩
    | scr h r=>exact ⟨_,rfl,.inl ⟨⟨_,h.sq⟩,p1.ret μ1 H1 (Lat.refl _ _) r1 _ (jK (.inr h) r)⟩⟩
    | _=>exact False.elim p1⟩
end
end L3
namespace L2
open PySem PySem.Spec PyProof.Rows
section
variable {prog:Program} {w:World} {A:Around} {s:Shared} {R:Result->Shared->Prop}
theorem aP {B b y:Expr} {ifs:List Expr} {p:Scope} {pos:Pos} {it C:Value} {a:PySem.Env} (I:Nat->Shared->Prop)
  (D:∀ n s,I n s->wpAny (model prog w) A (pyNext it) (λr f=>match r with
   | none=>R (.ok .next) f
   | some v=>wpAny (model prog w) A (letOwnedTupleGo b it v) (λ_ g=>wpAny (model prog w) A (assign b a v) (λ_ j=>
     wpAny (model prog w) A (forIn ifs true λc r=>if r=true then do let t <- isTrue c a (eval c a);pure (ForInStep.yield t) else pure (ForInStep.yield r)) (λt d=>
      if t=true then wpAny (model prog w) A (eval B a) (λx i=>
       wpAny (model prog w) A (call (.builtin "list.append") [C,x]) (λ_ l=>∃ m,m<n/\I m l) (notedBy (model prog w) A a λe s'=>R (.error e) s') i) (notedBy (model prog w) A a λe s'=>R (.error e) s') d
      else ∃ m,m<n/\I m d) (notedBy (model prog w) A a λe s'=>R (.error e) s') j) (notedBy (model prog w) A a λe s'=>R (.error e) s') g) (notedBy (model prog w) A a λe s'=>R (.error e) s') f) (notedBy (model prog w) A a λe s'=>R (.error e) s') s)
  (n:Nat) (h:I n s):codeAny (model prog w) A (.compLoop (.ListComp B [⟨b,y,ifs,0⟩] p pos) 0 it C a) R s:=by
 refine codeAny_loop rfl I (λn s E=>?_) n h;refine wpAny_noted ?_;rw [compTurn_list];refine Ag (Bo (Ag (AK (D n s E) (λr f o=>?_) λ_ _ h'=>h')));cases r with
 | none=>exact Aj o
 | some v=>
  refine Ag (AK o (λ_ g h₀=>?_) λ_ _ h'=>h');refine Ag (AK h₀ (λ_ j u=>Ag (AK u (λt d k=>?_) λ_ _ h'=>h')) λ_ _ h'=>h');cases t with
  | false=>exact Aj ⟨rfl,k⟩
  | true=>
   exact Ag (Ag (AK k (λx i q=>Ag (AK q (λ_ l z=>Aj (Aj ⟨rfl,z⟩)) λ_ _ h'=>h')) λ_ _ h'=>h'))
end
def iT (k:Nat) (caps:List Nat) (n:TI) (f:TG) (p:TT) (te:TE):TE:=λσ H Q=>n σ H λJ g=>∀ a,g a=none->∃ W:Nat->Nat->List V->Hp->Prop,(∃ m,W 0 m [] (upd g a (.lst []))) /\
 ∀ i m ys e,W i m ys e->e a=some (.lst ys)/\((J.stop i e/\Q (.ref a) e)\/(J.go i e/\∀ x l,J.yld i e x l->f x (List.replicate k none++n8 caps σ) l λd o=>∃ c:List (Option V),c.length=k/\d=c++n8 caps σ/\p d o λb h=>
  if b=true then te d h λy j=>j a=some (.lst ys)/\ys.length<sizeLine/\∃ m',m'<m/\W (i+1) m' (ys++[y]) (upd j a (.lst (ys++[y])))
  else ∃ m',m'<m/\W (i+1) m' ys h))
theorem jq {X:Cx} {elt iter tg:Expr} {k:Nat} {tgp:TG} {ifs:List Expr} {scope:Scope} {pos:Pos} {N':List Str} {caps:List Nat} {wi:TI} {tc:TT} {te:TE}
  (T:CompText X.N X.env N' k caps scope) (hc:X.calm=true) (hg:∀ pins C fp s H,PG (cxComp X pins N' scope C fp s H) tg tgp) (hi:PI X tg iter wi)
  (ht:∀ pins C fp s H,PTL (cxComp X pins N' scope C fp s H) ifs tc) (he:∀ pins C fp s H,PE (cxComp X pins N' scope C fp s H) elt te)
  (hs:∀ x,foldedSetIterable iter X.env x=pure x:=by intro _;rfl):PE X (.ListComp elt [⟨tg,iter,ifs,0⟩] scope pos) (iT k caps wi tgp tc te):=by
 intro pins s σ H Q I h;have fr:∀ x∈scope.names,x.2=NameKind.free->∃ c,X.env.cells.lookup x.1=some c:=λx hx hk=>I.ok.has x.1 (T.free x hx hk).2;rw [DF];refine By (use:=none) rfl hs (m6 fr) T.kind T.loc ?_;refine thn (hi pins s σ H _ I h) λv s1 h1=>thn h1 λitv s2 h2=>?_;obtain ⟨it,fp,tn,J,H2,rfl,I2,Tn,st2,f2,h2⟩:=h2;obtain ⟨W,⟨m0,w0⟩,turn⟩:=h2 s2.heap.objs.size (I2.hok.fresh (Ao _));have hlt:∀ b∈fp,b<s2.heap.objs.size:=λb hb=>let ⟨o,e,_⟩:=Tn.obj _ _ st2 b hb;Ap e
 refine AS (BU T.cell (by intro y hy;simp at hy) (λh₁ hns₁ hsb₁=>?_) T.kind);dsimp only at hns₁ hsb₁ ⊢;have hC:(s2.heap.push { cls:=.type "list",dict:=none,data:=.seq ([]:List Value).toArray }).objs.size=s2.heap.objs.size+1:=Bq ..;rw [hC] at hns₁ hsb₁;have old:∀ b o,s2.heap.get? b=some o->h₁.get? b=some o:=λb o e=>hsb₁.extBut b o (Au (Bb (Ap e))) (Ah _ (Ah _ e));have hacc:h₁.get? s2.heap.objs.size=some { cls:=.type "list",data:=.seq #[] }:=hsb₁.extBut _ _ (Au (AF _)) (Ah _ (Ax _ rfl));have hst₁:tn 0 h₁:=Tn.keep _ _ _ st2 λb _ o e=>old b o e;have I3:=y4 (t:=s2.toks+([]:List (Str×Value)).length) T I2 f2 hlt hns₁ old hacc;have stat:∀ {H':Hp},(∀ b∈fp,H' b=none)->∀ b∈fp,y3 (cxComp X pins N' scope (s2.heap.objs.size+1) fp s2 H2) [] H' b:=λhn b hb=>by
  refine ⟨hn b hb,(I3.ok.exf b hb).1,I3.ok.exfs b hb,.inl hb,(I3.ok.exf b hb).2,λp hp=>?_⟩;have hp':p∈X.pn++pins:=by
   have:p∈(X.pn++pins)++[]:=hp;rwa [AI] at this
  exact (f2 b hb).2.2.2.2.2 p hp'
 have loop:∀ s3:Shared,s3={ s2 with heap:=h₁,toks:=s2.toks+([]:List (Str×Value)).length } ->
   codeAny (model X.prog X.w) X.A (.compLoop (.ListComp elt [⟨tg,iter,ifs,0⟩] scope pos) 0 (.ref it) (.ref s2.heap.objs.size) (compEnvC scope (D6 X.env.cells scope.names) (s2.heap.objs.size+1) X.env))
    (compPost (model X.prog X.w) X.A X.xe none (EP X pins σ Q) (.ref s2.heap.objs.size) (s2.heap.objs.size+1)) s3:=by
  rintro s3 rfl;refine aP (λn s'=>∃ i ys H',Inv (cxComp X pins N' scope (s2.heap.objs.size+1) fp s2 H2) [] (List.replicate k none++n8 caps σ) H' s'/\tn i s'.heap/\(∀ b∈fp,H' b=none)/\W i n ys H') ?_ m0
   ⟨0,[],_,I3,hst₁,λb hb=>by rw [a7 (Au (hlt b hb))];exact (f2 b hb).1,w0⟩
  rintro n s4 ⟨i,ys,H4,I4,st4,fr4,w4⟩;obtain ⟨hacc4,turn4⟩:=turn i n ys H4 w4;refine b9 ?_;rcases turn4 with ⟨stop,q⟩ | ⟨go,step⟩
  ·refine thn (Tn.done (cxComp X pins N' scope (s2.heap.objs.size+1) fp s2 H2) rfl rfl rfl hc i [] s4 _ H4 (λ_ _=>False) I4 (stat fr4) st4 stop) λr s5 ⟨hr,I5⟩=>?_;subst hr;obtain ⟨m5,hn5,_⟩:=id I5.loc;refine ⟨m5,hn5,λh' hs'=>?_⟩;refine ⟨.ref s2.heap.objs.size,H4,?_,rfl,q⟩;refine I2.call' (ch:=fp) (s':={ s5 with heap:=h' }) I5.os (Un.sameBut I5.base hs' (Bw _)) (I5.hok.sameBut I5.free hs') I5.bare λb hb=>?_;have:=f2 b hb;exact ⟨this.2.2.2.1,this.2.1,this.2.2.2.2.1,this.2.2.2.2.2⟩
  ·refine thn (Tn.item (cxComp X pins N' scope (s2.heap.objs.size+1) fp s2 H2) rfl rfl rfl hc i [] s4 _ H4 (λ_ _=>False) I4 (stat fr4) st4 go) λr s5 ⟨u,hr,h5⟩=>?_;subst hr;dsimp only;refine b9 (thn h5 λ_ s6 ⟨xv,H6,I6,r6,y6,st6,fr6⟩=>?_);have I6':=I6.pinned (stat fr6) (Tn.obj _ _ st6);refine b9 (thn (hg pins _ fp s2 H2 _ s6 _ H6 xv u _ I6' r6 (step xv _ y6)) λ_ s7 ⟨σ7,H7,I7,vals,hv,e7,q7⟩=>?_);subst e7;have back:∀ {σ8:St} {H8:Hp} {s8:Shared},Inv (cxComp X pins N' scope (s2.heap.objs.size+1) fp s2 H2) ([]++v3 fp s6.heap) σ8 H8 s8->tn (i+1) s8.heap/\∀ b∈fp,H8 b=none:=λ{σ8 H8 s8} I8=>by
    refine ⟨Tn.keep _ _ _ st6 λb hb o e=>(I8.pin (b,o) (Av _ (Av _ (j2 hb e)))).1,λb hb=>?_⟩;obtain ⟨o,e,d⟩:=Tn.obj _ _ st6 b hb;exact (I8.pin (b,o) (Av _ (Av _ (j2 hb e)))).2.1
   refine b9 (thn (ht pins _ fp s2 H2 _ s7 _ _ _ I7 q7) λb s8 ⟨H8,I8,q8⟩=>?_);have wk:∀ {H9:Hp} {s9:Shared},Inv (cxComp X pins N' scope (s2.heap.objs.size+1) fp s2 H2) ([]++v3 fp s6.heap) (vals++n8 caps σ) H9 s9->Inv (cxComp X pins N' scope (s2.heap.objs.size+1) fp s2 H2) [] (List.replicate k none++n8 caps σ) H9 s9:=λ{H9 s9} I9=>
    I9.unpinned.weak (by simp [hv]) λj v e=>by
     by_cases hj:j<k
     ·rw [Al (by simpa using hj),Ba,if_pos hj] at e;cases e
     ·rw [AA (by simpa using hj)] at e;rw [AA (by omega),hv];simpa using e
   cases b with
   | false=>
    obtain ⟨m',hm,w'⟩:=q8;exact ⟨m',hm,i+1,ys,H8,wk I8,(back I8).1,(back I8).2,w'⟩
   | true=>
    refine b9 (thn (he pins _ fp s2 H2 _ s8 _ H8 _ I8 q8) λz s9 ⟨y,H9,I9,r9,hacc9,hl9,m',hm,w'⟩=>?_);refine b9 (thn (C4 (X:=cxComp X pins N' scope (s2.heap.objs.size+1) fp s2 H2) _ s9 _ H9 (.ref s2.heap.objs.size) [y] (.ref s2.heap.objs.size) [z] (λ_ H'=>H'=upd H9 s2.heap.objs.size (.lst (ys++[y]))) I9 rfl (.cons r9 .nil) ⟨_,ys,y,rfl,rfl,hacc9,hl9,rfl⟩) λ_ s10 ⟨_,H10,I10,_,e10⟩=>?_);subst e10;exact ⟨m',hm,i+1,ys++[y],_,wk I10,(back I10).1,(back I10).2,w'⟩
 have fin:=BF (loop _ rfl) (Tn.self _ 0 _ _ _ hst₁ (loop _ rfl));rw [<- hC] at fin;exact fin
end L2
namespace L3
open PySem PySem.Spec PyProof.Rows L2
def mk2 (c:Env) (d:D):Env:=match d with
 | .tup [a,b]=>some a :: some b :: c
 | _=>[]
def kA (t:Env->M Bool) (ρ:Env):M Bool:=match ρ with
 | []=>bad
 | o :: ρ=>t (o :: ρ)
def Y8 (caps:List Nat) (b:Env->M (Src×Nat)) (t:Env->M Bool) (f:Env->M D) (ρ:Env):M (List D):=bind (b ρ) λa=>k4 a.1 (kA t) f (mk2 (w9 caps ρ)) a.2 0 []
theorem gn {K:PySem.W.Frag} {μ:Mp} {H:Hp} {ρ:Env} {σ:L2.St} {d:D} {x:V} (a:EnvOk K μ H ρ σ) (r:RD K μ H d x):EnvOk K μ H (some d :: ρ) (some x :: σ):=by
 refine ⟨by simp [a.1],λi e b=>?_⟩;cases i with
 | zero=>grind
 | succ j=>exact a.2 j e b
def uV:TGs:=iq (W9 0) (iq (W9 1) gNil)
theorem bN {K:PySem.W.Frag} {cl:ClW} {xe:Addr->Hp->Prop} {caps:List Nat} {fi:Env->M (Src×Nat)} {t:Env->M Bool} {f:Env->M D} {σ:L2.St} {H:Hp} {μ:Mp} {S:Sto} {ρ:Env} {Q:VK} (eo:EnvOk K μ H ρ σ) (rp:Rep K cl μ S H)
  (p:Post K cl xe μ H (Y8 caps fi t f ρ S) λds _ μ' H'=>∀ acc ys,LstAt μ' H' acc ys->RDs K μ' H' ds ys->Q (.ref acc) H'):iT 2 caps (tIt K cl xe fi) (rS K 2 uV) (tBo K cl xe t) (tD K cl xe f) σ H Q:=by
 refine ⟨μ,S,ρ,eo,rp,p.bind.imp λsm S1 μ1 H1 l1 r1 p1 J yl acc hacc=>?_⟩;obtain ⟨src,m0⟩:=sm;have nrs:=r1.notrs hacc;refine ⟨λi m ys H2=>∃ μ2 S2 es,HLat μ1 H1 acc μ2 H2/\acc∉μ2.pl/\H2 acc=some (.lst ys)/\EnvOk K μ2 H2 ρ σ/\Rep K cl μ2 S2 H2/\RDs K μ2 H2 es ys/\Post K cl xe μ1 H1 (k4 src (kA t) f (mk2 (w9 caps ρ)) m i es S2) (λds _ μ' H'=>∀ acc ys,LstAt μ' H' acc ys->RDs K μ' H' ds ys->Q (.ref acc) H'),⟨m0,μ1.hold acc,S1,[],?_,r1.notin hacc,b6,v5 r1 hacc (eo.later l1),v7 r1 hacc,.nil,p1⟩,?_⟩
 ·refine ⟨⟨λ_ _ e=>e,λa o e _=>by rw [a7 (a9 e hacc)];exact e,λa m=>.inl m,λa m=>?_⟩,rfl⟩;rcases AJ.mp (m) with rfl | m
  ·exact .inr hacc
  ·exact .inl m
 rintro i m ys H2 ⟨μ2,S2,es,hl,npl,e2,eo2,r2,rds2,p2⟩;refine ⟨e2,?_⟩;cases m with
 | zero=>exact p2.elim
 | succ m=>
  have y:L0 K cl J i μ2 H2 S2 (src i S2):=yl i μ2 H2 S2 hl.r.u r2;simp only [k4] at p2;cases e1:src i S2 with
  | none=>rw [e1] at p2;exact p2.elim
  | some o=>
   rw [e1] at p2 y;cases o with
   | none=>
    refine .inl ⟨y,p2 μ2.free H2 (hl.lat (Lat.refl _ _)) (F5 r2) acc ys ⟨e2,npl,?_⟩ (P2 rds2)⟩;show acc∉μ2.rs.tail;rw [hl.rs];exact nrs
   | some d=>
    obtain ⟨y1,y2⟩:=y;refine .inr ⟨y1,λx H3 hy=>?_⟩;obtain ⟨l3,r3,rd3⟩:=y2 x H3 hy;have h3:=hl.step l3;cases rd3 with
    | tup ht rs=>
     cases rs with
     | nil=>exact False.elim p2
     | cons ra rs=>
      cases rs with
      | nil=>exact False.elim p2
      | cons rb rs=>
       cases rs with
       | cons _ _=>exact False.elim p2
       | nil=>
        rename_i da va db vb;refine ⟨_,_,rfl,ht.sq,rfl,va,[vb],rfl,vb,[],rfl,rfl,[some va,some vb],rfl,rfl,?_⟩;have ev:=gn (B7 (caps:=caps) (eo2.later l3) rb) ra;refine ⟨μ2,S2,some da :: some db :: w9 caps ρ,ev,r3,(Post.at p2 h3).imp λb S5 μ5 H5 l5 r5 p5=>?_⟩;have h5:=h3.step l5;have l35:=l3.trans l5;have a5:=l35.oth _ _ e2 npl;have n5:=l35.out e2 npl;cases b with
        | false=>exact ⟨m,AF _,μ5,S5,es,h5,n5,a5,eo2.later l35,r5,rds2.later l35,p5⟩
        | true=>
         refine cV ?_;rw [if_pos rfl] at p5;refine ⟨μ5,S5,some da :: some db :: w9 caps ρ,ev.later l5,r5,(Post.at p5 h5).imp λyv S6 μ6 H6 l6 r6 p6 v rv=>?_⟩;have h6:=h5.step l6;have l36:=l35.trans l6;have a6:=l6.oth _ _ a5 n5;have n6:=l6.out a5 n5;by_cases hz:es.length<sizeLine
         ·rw [if_pos hz] at p6;have er:=h6.rs;refine ⟨a6,by rw [<- rds2.length];exact hz,m,AF _,μ6,S6,es++[yv],?_,n6,b6,?_,C3 er a6 r6,B4 er ((rds2.later l36).append (.cons rv .nil)),p6⟩
          ·refine ⟨⟨h6.r.pre,λa o e n=>?_,h6.r.new,h6.r.rsw⟩,er⟩;rw [a7 (a9 e hacc)];exact h6.r.oth a o e n
          ·have eo6:=eo2.later l36;exact ⟨eo6.1,λj e he=>let ⟨w,q,r⟩:=eo6.2 j e he;⟨w,q,U0 er r⟩⟩
         ·rw [if_neg hz] at p6;exact p6.elim
    | _=>exact False.elim p2
section
variable {X:Cx} {cl:ClW} {xe:Addr->Hp->Prop} {elt iter:Expr} {x y:Str} {px py tp pos:Pos} {kk:Nat} {ifs:List Expr} {scope:Scope} {N':List Str} {caps:List Nat} {fi:Env->M (Src×Nat)} {t:Env->M Bool} {f:Env->M D}
theorem fR (T:CompText X.N X.env N' 2 caps scope) (h:X.calm=true) (g:N'.Nodup) (d:N'[0]?=some x) (e:N'[1]?=some y) (c:scope.names.lookup x=some .local) (a:scope.names.lookup y=some .local) (j:PI X (.Tuple [.Name x px,.Name y py] kk tp) iter (tIt X.K cl xe fi))
  (n:∀ pins C b s H,PTL (cxComp X pins N' scope C b s H) ifs (tBo X.K cl xe t)) (m:∀ pins C b s H,PE (cxComp X pins N' scope C b s H) elt (tD X.K cl xe f)) (i:i6 iter=true) :
  PE X (.ListComp elt [⟨.Tuple [.Name x px,.Name y py] kk tp,iter,ifs,0⟩] scope pos) (jH X.K cl xe (Y8 caps fi t f)):=
 PE.imp (jq T h (λpins C b s H=>ib (X:=cxComp X pins N' scope C b s H) h (R1 (B9 g d (.inl (AW c)) (.inr (AW c))) (R1 (B9 g e (.inl (AW a)) (.inr (AW a))) dB))) j n m (j3 i)) λσ H Q ⟨μ,S,ρ,l,k,p⟩=>bN l k p
end
def t9 (d:D):M Bool:=match d with
 | .non=>ret false
 | .bl b=>ret b
 | .int i=>ret (i != 0)
 | .str x=>if x.length<=sizeLine then ret ((x.length:Int) != 0) else bad
 | .ref n=>λS=>match S[n]? with
  | some (.lst ds)=>.ok (!ds.isEmpty) S
  | some (.dct a)=>.ok (!a.isEmpty) S
  | _=>.bad
 | d=>bind (hZ d) λds=>ret (!ds.isEmpty)
section
variable {K:PySem.W.Frag} {cl:ClW} {xe:Addr->Hp->Prop} {μ:Mp} {H:Hp} {S:Sto}
theorem C2 (r:RDs K μ H ds vs):ds.isEmpty=vs.isEmpty:=by cases r <;> rfl
theorem Y2 (rd:RD K μ H d v) (rp:Rep K cl μ S H) (p:Post K cl xe μ H (t9 d S) G):∃ k,iL K v H k/\G k S μ H:=by
 cases rd with
 | non=>exact ⟨_,rfl,p μ H (Lat.refl _ _) rp⟩
 | bl b=>exact ⟨_,rfl,p μ H (Lat.refl _ _) rp⟩
 | int i=>exact ⟨_,rfl,p μ H (Lat.refl _ _) rp⟩
 | str x=>
  obtain ⟨hl,p⟩:=Post.guard p;exact ⟨_,⟨hl,rfl⟩,p μ H (Lat.refl _ _) rp⟩
 | tup h r=>exact ⟨_,.inr (.inl ⟨_,h.sq,by rw [<- C2 r]⟩),p μ H (Lat.refl _ _) rp⟩
 | lst h r=>exact ⟨_,.inl ⟨_,h.sq,by rw [<- C2 r]⟩,p μ H (Lat.refl _ _) rp⟩
 | scr h r=>exact ⟨_,.inl ⟨_,h.sq,by rw [<- C2 r]⟩,p μ H (Lat.refl _ _) rp⟩
 | ref h=>
  rename_i n a;simp only [t9] at p;cases q1:S[n]? with
  | none=>rw [q1] at p;exact p.elim
  | some o=>
   rw [q1] at p;cases o with
   | lst ds=>
    obtain ⟨xs,h1,h2⟩:=rp.ats n _ a q1 h;exact ⟨_,.inl ⟨xs,.inl (.inl h1),by rw [<- C2 h2]⟩,p μ H (Lat.refl _ _) rp⟩
   | dct kvs=>
    obtain ⟨ks,h1,h2⟩:=rp.ats n _ a q1 h;refine ⟨_,.inr (.inr ⟨ks,h1,rfl⟩),?_⟩;have e:kvs.isEmpty=ks.isEmpty:=by cases h2 <;> rfl
    rw [<- e];exact p μ H (Lat.refl _ _) rp
   | exc _ _=>exact p.elim
   | dcT _=>exact p.elim
end
section
variable {X:Cx} {cl:ClW} {xe:Addr->Hp->Prop} {a b e:Expr} {es rest:List Expr} {pos:Pos} {f g:Env->M D}
theorem hF (h:PE X a (tD X.K cl xe f)) (i:w5 a=true):PT X a (tBo X.K cl xe λρ=>bind (f ρ) t9):=PT.imp (iw h (test_of i)) λσ H Q ⟨μ,S,ρ,b,k,p⟩=>
 ⟨μ,S,ρ,b,k,p.bind.imp λd S1 j l m e g v c=>Y2 c e g⟩
theorem gP (h:PE X a (tD X.K cl xe f)):PE X (.BoolOp op [a] pos) (tD X.K cl xe f):=oM h
theorem nM (h:PE X a (tD X.K cl xe f)) (k:PE X (.BoolOp .And (b :: rest) pos) (tD X.K cl xe g)):PE X (.BoolOp .And (a :: b :: rest) pos) (tD X.K cl xe λρ=>bind (f ρ) λd=>bind (t9 d) λq=>if q=true then g ρ else ret d):=by
 intro pins s σ H Q I ⟨μ,S,ρ,m,A,p⟩;refine BoolOp_and (thn (h pins s σ H (λv e=>∃ c,iL X.K v e c/\if c=true then tD X.K cl xe g σ e Q else Q v e) I ⟨μ,S,ρ,m,A,p.bind.imp λd S1 i e F j w v n=>?_⟩) λv z ⟨x,e,E,t,c,l,q⟩=>?_)
 ·obtain ⟨c,l,q⟩:=Y2 n j w.bind;refine ⟨c,l,?_⟩;cases c with
  | true=>exact ⟨i,S1,ρ,m.later F,j,q⟩
  | false=>exact q i e (Lat.refl _ _) j _ n
 ·refine thn (bo pins z σ e x v (λB H'=>B=c/\H'=e) E t ⟨c,l,rfl,rfl⟩) λC D ⟨r,o,y,u⟩=>?_;subst y u;cases C with
  | true=>exact k pins D σ r Q o q
  | false=>exact ⟨x,r,o,t,q⟩
theorem sG (h:PE X a (tD X.K cl xe f)) (k:PE X (.BoolOp .Or (b :: rest) pos) (tD X.K cl xe g)):PE X (.BoolOp .Or (a :: b :: rest) pos) (tD X.K cl xe λρ=>bind (f ρ) λd=>bind (t9 d) λq=>if q=true then ret d else g ρ):=by
 intro pins s σ H Q I ⟨μ,S,ρ,m,A,p⟩;refine BoolOp_or (thn (h pins s σ H (λv e=>∃ c,iL X.K v e c/\if c=true then Q v e else tD X.K cl xe g σ e Q) I ⟨μ,S,ρ,m,A,p.bind.imp λd S1 i e F j w v n=>?_⟩) λv z ⟨x,e,E,t,c,l,q⟩=>?_)
 ·obtain ⟨c,l,q⟩:=Y2 n j w.bind;refine ⟨c,l,?_⟩;cases c with
  | true=>exact q i e (Lat.refl _ _) j _ n
  | false=>exact ⟨i,S1,ρ,m.later F,j,q⟩
 ·refine thn (bo pins z σ e x v (λB H'=>B=c/\H'=e) E t ⟨c,l,rfl,rfl⟩) λC D ⟨r,o,y,u⟩=>?_;subst y u;cases C with
  | true=>exact ⟨x,r,o,t,q⟩
  | false=>exact k pins D σ r Q o q
def tPt (K:PySem.W.Frag) (cl:ClW) (xe:Addr->Hp->Prop) (fp:Env->M (Option Int)):TO:=λσ H Q=>∃ μ S ρ,EnvOk K μ H ρ σ/\Rep K cl μ S H/\Post K cl xe μ H (fp ρ S) λo _ _ H'=>Q o H'
def y9 (d:D):M (Option Int):=match d with
 | .int i=>ret (some i)
 | _=>bad
theorem PO.imp {e:Option Expr} {t t':TO} (h:PO X e t) (k:∀ σ H Q,t' σ H Q->t σ H Q):PO X e t':=λpins s σ H Q I q=>h pins s σ H Q I (k σ H Q q)
theorem kh:PO X none (tPt X.K cl xe λ_=>ret none):=PO.imp kN λσ H Q ⟨μ,S,ρ,b,a,p⟩=>p μ H (Lat.refl _ _) a
theorem kl (h:PE X e (tD X.K cl xe f)):PO X (some e) (tPt X.K cl xe λρ=>bind (f ρ) y9):=PO.imp (kE h) λσ H Q ⟨μ,S,ρ,eo,rp,p⟩=>
 ⟨μ,S,ρ,eo,rp,p.bind.imp λd S1 μ1 H1 l1 r1 p1 v rv=>by
  cases rv with
  | int i=>exact ⟨i,rfl,p1 μ1 H1 (Lat.refl _ _) r1⟩
  | _=>exact False.elim p1⟩
theorem C8 {s:Shared} {t e:Addr} {items:Array Value} {k i:Value} {lo c:Option Int} {Q:Value->Shared->Prop} (a:IsTup s.heap t items) (hs:s.heap.IsSliceOf e k i .none) (pl:IsPart k lo) (l:IsPart i c)
  (j:HT.sIx items.size 0 lo=0/\HT.sIx items.size items.size c=items.size) (h:Q (.ref t) s):wpAny (model prog w) A (getItem (.ref t) (.ref e)) Q E s:=by
 obtain ⟨m,g,d,hds⟩:=id hs;have f:s.TypeIs (.ref e) "slice":=⟨m,g,d⟩;unfold getItem;try with_reducible refine BK ?_
 first | refine Ag (Aj ?_) | skip
 refine Ag (wpAny_sequenceKey a.typeIs (by decide) ?_);refine Ag (BB a.typeIs Bf
  (CF Bf a.typeIs entry_tuple_getitem ?_ (args_tuple_getitem _ _)))
 show wpAny _ _ (Builtin.Tuple.tupleItemsOf (.ref t) >>= _) _ _ s;refine Ag (tupleItemsOf_ a ?_);refine Ag (wpAny_typeOf f ?_);rw [if_pos (by decide)];refine Ag (HT.sliceApplied_gen hs pl l ?_);have b:(((HT.sIx items.size 0 lo:Nat):Int)==0&&(1:Int)==1&&(HT.sIx items.size items.size c-HT.sIx items.size 0 lo)==items.size)=true:=by
  rw [j.1,j.2];simp
 show wpAny _ _ (if (((HT.sIx items.size 0 lo:Nat):Int)==0&&(1:Int)==1&&(HT.sIx items.size items.size c-HT.sIx items.size 0 lo)==items.size)=true then _ else _) _ _ s;rw [if_pos b];refine Ag ?_;refine Ag (wpAny_typeOf a.typeIs (Aj ?_));rw [if_pos (by decide)];refine Ag (wpAny_rule ?_);exact Aj ⟨_,rfl,Aj h⟩
theorem lX:SlR X (λx lo e H Q=>∃ a xs,x=.ref a/\SqT X.K H a xs/\(HT.sIx xs.length 0 lo=0/\HT.sIx xs.length xs.length e=xs.length)/\Q (.ref a) H):=by
 intro pins s σ H x v m k lo e l Q I f hs pl j h;obtain ⟨a,xs,rfl,g,i,q⟩:=h;cases f;obtain ⟨c,r,d,hz⟩:=I.tuple g;have b:c.toArray.size=xs.length:=by rw [As];exact r.length.symm
 exact ⟨"tuple",_,PyProof.Rows.slot_tuple_getitem.lookup,d.typeIs,C8 d hs pl j (by rw [b];exact i) ⟨.ref a,H,I,rfl,q⟩⟩
theorem uQ:SlR X (λx lo hi H Q=>∃ μ S d,RD X.K μ H d x/\Rep X.K cl μ S H/\Post X.K cl xe μ H (slD d lo hi S) λr _ μ' H'=>∀ v,RD X.K μ' H' r v->Q v H'):=by
 intro pins s σ H x v vl vu lo hi sl Q I rx hs pl pu ⟨μ,S,d,rd,rp,p⟩;have sq:∀ {a:Addr} {xs:List V} {ds:List D},SqL X.K H a xs->RDs X.K μ H ds xs->x=.ref a->(∀ μ' H',Lat μ H μ' H'->Rep X.K cl μ' S H'->∀ w,RD X.K μ' H' (.lst (C7 ds lo hi)) w->Q w H') ->
   ∃ T id,typeLookup (.type T) "__getitem__" = pure (some (.builtin id))/\s.TypeIs v T/\wpAny (model X.prog X.w) X.A (getItem v (.ref sl)) (EP X pins σ Q) X.xe s:=λ{a xs ds} hq r2 hv q=>by
  subst hv;refine lp pins s σ H _ v vl vu lo hi sl Q I rx hs pl pu ⟨a,xs,rfl,hq,λz hz=>?_⟩;obtain ⟨l,rp2,rd2⟩:=G2 rp (jd r2 lo hi) hz;exact q μ _ l rp2 _ rd2
 cases rd with
 | tup h r=>
  rename_i a xs ds;by_cases hw:HT.sIx xs.length 0 lo=0/\HT.sIx xs.length xs.length hi=xs.length
  ·refine lX pins s σ H _ v vl vu lo hi sl Q I rx hs pl pu ⟨a,xs,rfl,h.sq,hw,?_⟩;have e:C7 ds lo hi=ds:=by
    unfold C7;rw [r.length,hw.1,hw.2,Bk,Nat.sub_zero];exact List.take_of_length_le (by rw [r.length];exact Ao _)
   exact p μ H (Lat.refl _ _) rp _ (by rw [e];exact .tup h r)
  ·refine oT pins s σ H _ v vl vu lo hi sl Q I rx hs pl pu ⟨a,xs,rfl,h.sq,hw,λz hz=>?_⟩;obtain ⟨l,rp2,rd2⟩:=G1 rp (jd r lo hi) hz;exact p μ _ l rp2 _ rd2
 | lst h r=>exact sq h.sq r rfl p
 | scr h r=>exact sq h.sq r rfl p
 | ref h=>
  rename_i n a0;have p2:=p;obtain ⟨a,xs,ds,e1,h1,h2,e2⟩:=t7 (.ref h) rp p2.bind;exact sq (.inl (.inl h1)) h2 e1 (p2.ok_bind e2)
 | _=>exact False.elim p
theorem rY {lo k:Option Expr} {c:Pos} {j m:Env->M (Option Int)} (h:PE X e (tD X.K cl xe f)) (t:PO X lo (tPt X.K cl xe j)) (B:PO X k (tPt X.K cl xe m)) :
  PE X (.Subscript e (.Slice lo k none c) pos) (tD X.K cl xe λρ=>bind (f ρ) λd=>bind (j ρ) λl=>bind (m ρ) λu=>slD d l u):=PE.imp (io uQ h t B) λσ H Q ⟨μ,S,ρ,a,s,p⟩=>
 ⟨μ,S,ρ,a,s,p.bind.imp λd S1 g C n o q v x=>⟨g,S1,ρ,a.later n,o,q.bind.imp λl S2 μ2 E i A c=>⟨μ2,S2,ρ,(a.later n).later i,A,c.bind.imp λu z b D y r w=>⟨b,z,d,(x.later i).later y,r,w⟩⟩⟩⟩
end
def G7 (x k v:D):M D:=match x with
 | .ref n=>λS=>match S[n]? with
  | some (.lst ds)=>match k with
   | .int i=>match ixN ds.length i with
    | some j=>.ok .non (S.set n (.lst (ds.set j v)))
    | none=>.bad
   | _=>.bad
  | some (.dct a)=>match u4 k with
   | some b=>if a.length<sizeLine then .ok .non (S.set n (.dct (fW a b v))) else .bad
   | none=>.bad
  | _=>.bad
 | _=>bad
theorem dQ {K:PySem.W.Frag} {μ:Mp} {H:Hp} {k:Key}:∀ {a:List (Key×D)} {c:List (Key×V)},KvsAt K μ H a c->(a.any λb=>decide (b.1=k))=c.any λb=>decide (b.1=k)
 | _,_,.nil=>rfl
 | _,_,.cons ⟨d,e⟩ t=>by simp only [Dh,d,dQ t]
theorem cv {K:PySem.W.Frag} {μ:Mp} {H:Hp} {k:Key} {d:D} {v:V} (r:RD K μ H d v):∀ {c:List (Key×D)} {e:List (Key×V)},KvsAt K μ H c e->KvsAt K μ H (c.map λa=>if a.1=k then (a.1,d) else a) (e.map λa=>if a.1=k then (a.1,v) else a)
 | _,_,.nil=>.nil
 | _,_,.cons (b:=b) ⟨h1,h2⟩ t=>by
  refine .cons ?_ (cv r t);by_cases f:b.1=k
  ·grind
  ·grind
theorem Paired.app:∀ {xs a:List α} {ys b:List β},Paired P xs ys->Paired P a b->Paired P (xs++a) (ys++b)
 | _,_,_,_,.nil,s=>s
 | _,_,_,_,.cons r t,s=>.cons r (Paired.app t s)
theorem eE {K:PySem.W.Frag} {μ:Mp} {H:Hp} {k:Key} {d:D} {v:V} {a:List (Key×D)} {b:List (Key×V)} (h:KvsAt K μ H a b) (r:RD K μ H d v):KvsAt K μ H (fW a k d) (p0 b k v):=by
 unfold fW p0;rw [dQ h];split
 ·exact cv r h
 ·exact Paired.app h (.cons ⟨rfl,r⟩ .nil)
theorem KvsAt.later {K:PySem.W.Frag} {μ μ':Mp} {H H':Hp} {a:List (Key×D)} {b:List (Key×V)} (h:KvsAt K μ H a b) (l:Lat μ H μ' H'):KvsAt K μ' H' a b:=Paired.mono (λ_ _ ⟨z,w⟩=>⟨z,w.later l⟩) h
section
variable {X:Cx} {cl:ClW} {xe:Addr->Hp->Prop} {a b e:Expr} {es rest:List Expr} {pos:Pos} {f g k:Env->M D}
theorem tB (hu:X.A.units+1<cLine):lN X (λo i v H Q=>∃ μ S x y z,RD X.K μ H x o/\RD X.K μ H y i/\RD X.K μ H z v/\Rep X.K cl μ S H/\Post X.K cl xe μ H (G7 x y z S) λ_ _ _ H'=>Q H'):=by
 intro pins s σ H o i v ov iv u Q I ro ri rv ⟨μ,S,x,y,z,rx,ry,rz,rp,p⟩;cases rx with
 | ref h=>
  rename_i n a;have m:=AL h;simp only [G7] at p;cases q1:S[n]? with
  | none=>rw [q1] at p;exact p.elim
  | some ob=>
   rw [q1] at p;cases ob with
   | lst ds=>
    obtain ⟨xs,h1,h2⟩:=rp.ats n _ a q1 h;cases ry with
    | int j=>
     simp only at p;cases q2:ixN ds.length j with
     | none=>rw [q2] at p;exact p.elim
     | some t=>
      rw [q2] at p;refine gM pins s σ H _ _ v ov iv u Q I ro ri rv ⟨a,xs,j,t,rfl,rfl,h1,by rw [<- h2.length];exact q2,?_⟩;exact p μ _ (Lat.wrote m) (rp.wrote h ⟨_,b6,(h2.set rz t).later (Lat.wrote m)⟩)
    | _=>exact False.elim p
   | dct kvs=>
    obtain ⟨ks,h1,h2⟩:=rp.ats n _ a q1 h;cases q2:u4 y with
    | none=>rw [q2] at p;exact p.elim
    | some key=>
     rw [q2] at p;by_cases hl:kvs.length<sizeLine
     ·simp only [if_pos hl] at p;have hy:=B2 ry q2;subst hy;cases ro;have hl2:ks.length<sizeLine:=by rw [<- Paired.length h2];exact hl
      refine eQ hu I (DPut.k h1 hl2) ri rv λs' I'=>⟨_,I',?_⟩;exact p μ _ (Lat.wrote m) (rp.wrote h ⟨_,b6,(eE h2 rz).later (Lat.wrote m)⟩)
     ·simp only [if_neg hl] at p;exact p.elim
   | exc _ _=>exact p.elim
   | dcT _=>exact p.elim
 | _=>exact False.elim p
theorem X5 (h:p8 b=true):∀ v,assign (.Subscript a b p2) env v=(do
   let c <- holding [v] (eval a env)
   let d <- holding [v,c] (eval b env)
   standAt p2
   holding [v,c,d] (setItem c d v)
   release [v,c,d] []):=by
 intro v;cases b <;> first | rfl | (exact absurd h (by simp [p8]))
theorem jI (o:X.A.units+1<cLine) (L:PE X e (tD X.K cl xe f)) (J:PE X a (tD X.K cl xe g)) (I:PE X b (tD X.K cl xe k)) (s:k9 e=true) (u:p8 b=true) :
  PS X (.Assign [.Subscript a b n] e pos) (sD X.K cl xe λρ=>bind (f ρ) λv=>bind (g ρ) λx=>bind (k ρ) λy=>bind (G7 x y v) λ_=>ret (.nx ρ)):=
 PS.imp (cD L (gk J I (tB o) (X5 u)) (by unfold swapsWithSole;exact A2 s) rfl rfl) λD σ H ⟨μ,S,ρ,c,z,p⟩=>
  ⟨μ,S,ρ,c,z,p.bind.imp λv S1 j P m r t vv F=>⟨j,S1,ρ,c.later m,r,t.bind.imp λx S2 μ2 T d N n R K=>⟨μ2,S2,ρ,(c.later m).later d,N,n.bind.imp λy M i Q l w E O q=>
   ⟨i,M,x,y,v,K.later l,q,(F.later d).later l,w,E.bind.imp λ_ U h B G C A=>A.ret h B (Lat.refl _ _) C σ ((((c.later m).later d).later l).later G)⟩⟩⟩⟩
def Y0 (x:D) (ds:List D):M D:=match x,ds with
 | .ref n,[d]=>λS=>match S[n]? with
  | some (.lst es)=>if es.length<sizeLine then .ok .non (S.set n (.lst (es++[d]))) else .bad
  | _=>.bad
 | _,_=>bad
def B5 (es:List Expr):Bool:=decide (es.length<30)
theorem gW (b:es.all noStar=true) (a:B5 es=true):((backTo cpos (starEach es X.env)).all (λx=>!x.1)&&(backToKw cpos (keywordEach [] X.env)).all (λx=>x.1.isSome)&&decide (es.length+([]:List Keyword).length+(if ([]:List Keyword).isEmpty then 0 else 1)<30))=true:=by
 rw [T5 b];simpa [keywordEach,backToKw] using BQ a
theorem eV (ho:PE X a (tD X.K cl xe f)) (ha:PA X (e :: es) (tDs X.K cl xe fs)) (hb:m8 a=true) (hs:(e :: es).all noStar=true) (hf:B5 (e :: es)=true) (hl:(apos.endLine==cpos.line)=true) :
  PE X (.Call (.Attribute a "append" apos) (e :: es) [] cpos) (tD X.K cl xe λρ=>bind (f ρ) λx=>bind (lstOf x) λ_=>bind (fs ρ) λds=>Y0 x ds):=by
 have hs2:=hs;rw [Bi,Ak] at hs2;refine PE.imp (mZ Dp PySem.F.slot_list_append PySem.F.type_list_append C4 ho ha (B8 hb) (gW hs hf) hl (j1 hs2.1) (n4 hs2.2)) λσ H Q ⟨μ,S,ρ,eo,rp,p⟩=>?_;refine ⟨μ,S,ρ,eo,rp,p.bind.imp λx S1 μ1 H1 l1 r1 p1 xv rx=>?_⟩;obtain ⟨a0,xs0,ds0,e0,h0,r0,q0⟩:=t7 rx r1 p1.bind;have p1:=p1.ok_bind q0;subst e0;refine ⟨.inl ⟨rfl,_,.inl (.inl h0)⟩,μ1,S1,ρ,eo.later l1,r1,p1.bind.imp λds S2 μ2 H2 l2 r2 p2 vs rvs=>?_⟩;have rx2:=rx.later l2;clear p1;cases rx2 with
 | ref h=>
  rename_i n
  match ds,rvs with
  | [],_=>exact False.elim p2
  | _ :: _ :: _,_=>exact False.elim p2
  | [d],rvs=>
   obtain ⟨v,rfl,rv⟩:=iW rvs;simp only [Y0] at p2;cases q1:S2[n]? with
   | none=>rw [q1] at p2;exact p2.elim
   | some o=>
    rw [q1] at p2;cases o with
    | lst es=>
     obtain ⟨xs,h1,h2⟩:=r2.ats n _ _ q1 h;by_cases hl:es.length<sizeLine
     ·simp only [if_pos hl] at p2;have m:=AL h;refine ⟨_,xs,v,rfl,rfl,h1,by rw [<- h2.length];exact hl,?_⟩;exact p2 μ2 _ (Lat.wrote m) (r2.wrote h ⟨_,b6,(h2.append (.cons rv .nil)).later (Lat.wrote m)⟩) _ .non
     ·simp only [if_neg hl] at p2;exact p2.elim
    | dct _=>exact p2.elim
    | exc _ _=>exact p2.elim
    | dcT _=>exact p2.elim
 | _=>exact False.elim p2
end
def m3:List ((Env->M D)×(Env->M D))->Env->M (List (D×D))
 | [],_=>ret []
 | (f,g) :: r,ρ=>bind (f ρ) λx=>bind (g ρ) λy=>bind (m3 r ρ) λps=>ret ((x,y) :: ps)
def ck (c a:List (Key×D)):List (Key×D):=a.foldl (λb d=>fW b d.1 d.2) c
def X0 (p:D×D):Option (Key×D):=(u4 p.1).map λk=>(k,p.2)
def cT (ps:List (D×D)):M D:=λS=>match h7 X0 ps with
 | some a=>if a.length<=15 then .ok (.ref S.length) (S++[.dct (ck [] a)]) else .bad
 | none=>.bad
section
variable {K:PySem.W.Frag} {cl:ClW} {xe:Addr->Hp->Prop} {μ:Mp} {H:Hp} {S:Sto} {β:Type}
theorem X3:∀ {d:List (Key×D)} {ms:List (Key×V)} {c:List (Key×D)} {e:List (Key×V)},KvsAt K μ H d ms->KvsAt K μ H c e->KvsAt K μ H (ck c d) (E2 e ms)
 | _,_,_,_,.nil,h=>h
 | _,_,c,e,.cons (a:=a) (b:=b) ⟨h1,h2⟩ t,h=>by
  show KvsAt K μ H (ck (fW c a.1 a.2) _) (E2 (p0 e b.1 b.2) _);rw [h1];exact X3 t (eE h h2)
abbrev RPs (K:PySem.W.Frag) (μ:Mp) (H:Hp):List (D×D)->List (V×V)->Prop:=Paired λx y=>RD K μ H x.1 y.1/\RD K μ H x.2 y.2
theorem bind_assoc (m:M α) (k:α->M β) (j:β->M γ):bind (bind m k) j=bind m λa=>bind (k a) j:=by
 funext S;unfold bind;grind
theorem d7 (a:α) (k:α->M β):bind (ret a) k=k a:=rfl
theorem A1 {ρ:Env} {σ:L2.St}:∀ {fks:List ((Env->M D)×(Env->M D))} {k:List (D×D)->M β} {G:β->Sto->Mp->Hp->Prop} {R:List (V×V)->Hp->Prop} {μ2:Mp} {c:Hp} {S2:Sto},Post K cl xe μ H (bind (m3 fks ρ) k S2) G->HLat μ H p μ2 c->p∉μ2.pl->c p=some o->EnvOk K μ2 c ρ σ->Rep K cl μ2 S2 c ->
  (∀ ps d a j ds,HLat μ H p a d->p∉a.pl->d p=some o->Rep K cl a j d->Lat μ2 c a d->RPs K a d ds ps->Post K cl xe μ H (k ds j) G->R ps d)->N6 (fks.map λz=>(tD K cl xe z.1,tD K cl xe z.2)) σ c R
 | [],k,G,R,μ2,c,S2,h,l,n,e,i,s,q=>q [] c μ2 S2 [] l n e s (Lat.refl _ _) .nil h
 | (f,g) :: r,k,G,R,μ2,c,S2,h,l,n,e,i,s,q=>by
  have S:Post K cl xe μ H (bind (f ρ) (λx=>bind (g ρ) λy=>bind (m3 r ρ) λps=>k ((x,y) :: ps)) S2) G:=by
   have:bind (m3 ((f,g) :: r) ρ) k=bind (f ρ) (λx=>bind (g ρ) λy=>bind (m3 r ρ) λps=>k ((x,y) :: ps)):=by
    show bind (bind (f ρ) λx=>bind (g ρ) λy=>bind (m3 r ρ) λps=>ret ((x,y) :: ps)) k=_;simp only [bind_assoc,d7]
   rw [<- this];exact h
  refine ⟨μ2,S2,ρ,i,s,(S.at l).imp λx j a d t T C N I=>?_⟩;refine ⟨a,j,ρ,i.later t,T,(C.at (l.step t)).imp λy S4 Y Z A P L U F=>?_⟩;have b:=t.trans A;have O:=b.oth _ _ e n;refine A1 L (l.step b) (b.out e n) O (i.later b) P λps E m B ds w W X J u v Q=>?_;exact q ((N,U) :: ps) E m B ((x,y) :: ds) w W X J (b.trans u) (.cons ⟨(I.later A).later u,F.later u⟩ v) Q
theorem P4 {p:Addr} {u:HO} {ob:O} {rs:List Addr} {kz:List (Key×V)} (er:μ.rs=p :: rs) (nr:p∉rs) (hp:H p=some (.dK kz)) (rp:Rep K cl μ S H) (ho:OAt K cl ⟨μ.pl++[p],rs⟩ (upd H p u) p ob):Rep K cl ⟨μ.pl++[p],rs⟩ (S++[ob]) (upd H p u):=by
 have np:p∉μ.pl:=(rp.res p (by rw [er];exact Aq)).1;have hp':∀ (n:Nat) (a:Addr),μ.pl[n]?=some a->(μ.pl++[p])[n]?=some a:=λn a e=>by rw [Al (Ai.mp e).1];exact e
 have ho':∀ a w,H a=some w->a∉μ.pl->a∉μ.rs->upd H p u a=some w/\a∉(⟨μ.pl++[p],rs⟩:Mp).pl/\a∉(⟨μ.pl++[p],rs⟩:Mp).rs:=λa w e n1 n2=>by
  have ne:a≠p:=λz=>n2 (by rw [er,z];exact Aq);refine ⟨by rw [a7 ne];exact e,λz=>?_,λz=>n2 (by rw [er];exact Ar _ z)⟩;rcases Az.mp z with z | z
  ·exact n1 z
  ·exact ne (Aw.mp z)
 refine ⟨by simp [rp.len],?_,λn o a e1 e2=>?_,λa m=>?_⟩
 ·show (μ.pl++[p]).Nodup;rw [BP];exact ⟨rp.nd,by simp,λa m b m2=>by rw [Aw.mp m2];rintro rfl;exact np m⟩
 ·have e2:(μ.pl++[p])[n]?=some a:=e2;by_cases hn:n<S.length
  ·rw [Al hn] at e1;rw [Al (by rw [rp.len];exact hn)] at e2;have h:=rp.ats n o a e1 e2;have ka:upd H p u a=H a:=a7 λz=>np (z▸AL e2);cases o with
   | lst ds=>obtain ⟨xs,e,q⟩:=h;exact ⟨xs,by rw [ka];exact e,q.move hp' ho'⟩
   | dct kvs=>obtain ⟨xs,e,q⟩:=h;exact ⟨xs,by rw [ka];exact e,Paired.mono (λ_ _ ⟨z,w⟩=>⟨z,w.move hp' ho'⟩) q⟩
   | dcT kvs=>obtain ⟨es,e,h1,h2,q⟩:=h;exact ⟨es,by rw [ka];exact e,h1,h2,Paired.mono (λ_ _ ⟨b,v,z,a1,a2,a3,a4,a5,a6⟩=>⟨b,v,z,a1,a2.move hp' ho',a3,a4,a5,a6.move hp' ho'⟩) q⟩
   | exc c fs=>
    obtain ⟨xc,gs,q,fr,h⟩:=h;refine ⟨xc,gs,Paired.mono (λ_ _ ⟨z,w⟩=>⟨z,w.move hp' ho'⟩) q,fr,?_⟩;rcases h with ⟨z,e⟩ | ⟨d,h1,h2,e,e3⟩
    ·exact .inl ⟨z,by rw [ka];exact e⟩
    ·have ne:d≠p:=cq e3 hp (by intro z;cases z);refine .inr ⟨d,h1,λz=>?_,by rw [ka];exact e,by rw [a7 ne];exact e3⟩;rcases Az.mp z with z | z
     ·exact h2 z
     ·exact ne (Aw.mp z)
  ·have hn2:n=S.length:=by
    have:=(Ai.mp e1).1;simp at this;omega
   subst hn2;rw [<- rp.len] at e2;simp at e1 e2;subst e1;subst e2;exact ho
 ·have m:a∈rs:=m;obtain ⟨h1,w,h2⟩:=rp.res a (by rw [er];exact Ar _ m);have ne:a≠p:=λz=>nr (z▸m);refine ⟨λz=>?_,w,by rw [a7 ne];exact h2⟩;rcases Az.mp z with z | z
  ·exact h1 z
  ·exact ne (Aw.mp z)
theorem T6:∀ {ds:List (D×D)} {ps:List (V×V)} {c:List (Key×D)},RPs K μ H ds ps->h7 X0 ds=some c->∃ f:List (Key×V),KvsAt K μ H c f/\ps=f.map (λg=>(kV g.1,g.2))
 | _,_,c,.nil,e=>by cases e;exact ⟨[],.nil,rfl⟩
 | _,_,c,.cons (a:=a) (b:=b) ⟨h1,h2⟩ t,e=>by
  simp only [h7] at e;cases d:X0 a with
  | none=>rw [d] at e;cases e
  | some g=>
   rename_i m q;cases h:h7 X0 m with
   | none=>rw [d,h] at e;cases e
   | some j=>
    rw [d,h] at e;cases e;obtain ⟨f,o,n⟩:=T6 t h;unfold X0 at d;cases i:u4 a.1 with
    | none=>grind
    | some k=>
     rw [i] at d;cases d;have:=B2 h1 i;obtain ⟨p,l⟩:=b;subst this;exact ⟨(k,l) :: f,.cons ⟨rfl,h2⟩ o,by rw [n];rfl⟩
end
section
variable {X:Cx} {cl:ClW} {xe:Addr->Hp->Prop} {pos:Pos}
theorem ke (h:PPs X pos keys values (fks.map λy=>(tD X.K cl xe y.1,tD X.K cl xe y.2))) (j:keys.all (·.isSome)=true) (I:keys.length=values.length) (O:keys≠[]) (f:keys.length<=15) :
  PE X (.Dict keys values pos) (tD X.K cl xe λρ=>bind (m3 fks ρ) cT):=PE.imp (kJ h j I O f) λσ H Q ⟨μ,S,ρ,M,l,P⟩=>by
 intro p i;have q:=l.notrs i;refine A1 (μ2:=μ.hold p) P ?_ (l.notin i) b6 (v5 l i M) (v7 l i) λps A c R ds b L C E U t g=>?_
 ·refine ⟨⟨λ_ _ e=>e,λa o e _=>by rw [a7 (a9 e i)];exact e,λa m=>.inl m,λa m=>?_⟩,rfl⟩;rcases AJ.mp (m) with rfl | m
  ·exact .inr i
  ·exact .inl m
 ·simp only [cT] at g;cases s:h7 X0 ds with
  | none=>rw [s] at g;exact g.elim
  | some x=>
   rw [s] at g;by_cases f:x.length<=15
   ·simp only [if_pos f] at g;obtain ⟨K,B,G⟩:=T6 t s;refine ⟨C,K,G,by rw [<- Paired.length B];exact f,?_⟩;have W:=L;have k:∀ (n:Nat) (a:Addr),c.pl[n]?=some a->(c.pl++[p])[n]?=some a:=λn a e=>by rw [Al (Ai.mp e).1];exact e
    have N:∀ {u:HO} {d:D} {v:V},RD X.K c A d v->RD X.K ⟨c.pl++[p],μ.rs⟩ (upd A p u) d v:=λr=>r.move k λa w e J F=>by
     have T:a≠p:=λz=>F (by rw [b.rs,z];exact Aq);refine ⟨by rw [a7 T];exact e,λz=>?_,λz=>F (by rw [b.rs];exact Ar _ z)⟩;rcases Az.mp z with z | z
     ·exact J z
     ·grind
    refine g ⟨c.pl++[p],μ.rs⟩ _ ?_ (P4 b.rs q C E ⟨_,b6,X3 (Paired.mono (λ_ _ ⟨z,w⟩=>⟨z,N w⟩) B) .nil⟩) _ (.ref ?_)
    ·refine ⟨λn a e=>k n a (b.r.pre n a e),λa o e n=>?_,λa m=>?_,rfl⟩
     ·rw [a7 (a9 e i)];exact b.r.oth a o e n
     ·rcases Az.mp (m) with m | m
      ·exact b.r.new a m
      ·grind
    ·show (c.pl++[p])[R.length]?=some p;rw [<- E.len];simp
   ·simp only [if_neg f] at g;exact g.elim
end
def T4 (S:Sto) (d:D):Bool:=match i7 64 S d with
 | some p=>decide (Shows p)&&decide (p.shown.length<=4000)&&(match d with
  | .str x=>decide (x.length<=4000)
  | _=>true)
 | none=>false
def aK (c:Nat) (fs:List Str) (ds:List D):M D:=λS=>if ds.length=fs.length/\ds.all (T4 S)=true then .ok (.ref S.length) (S++[.exc c (fs.zip ds)]) else .bad
def gS (c:Nat) (ds:List D):M D:=λS=>match ds with
 | [_]=>.ok (.ref S.length) (S++[.exc c []])
 | _=>.bad
theorem bu {K:PySem.W.Frag} {cl:ClW} {μ:Mp} {H:Hp} {S:Sto} {d:D} {v:V} (rp:Rep K cl μ S H) (r:RD K μ H d v) (h:T4 S d=true):∃ p,Hn.Fmt K H v p:=by
 unfold T4 at h;cases e:i7 64 S d with
 | none=>rw [e] at h;cases h
 | some p=>
  rw [e] at h;simp at h;refine ⟨p,o9 rp 64 e r,h.1.1,h.1.2,λx ex=>?_⟩;subst ex;cases r with
  | str _=>grind
def tN (K:PySem.W.Frag) (H:Hp) (v:V):Prop:=∃ x C d,v=.ref x/\XC K C/\H x=some (E3 x C d)
def tDf (K:PySem.W.Frag) (cl:ClW) (xe:Addr->Hp->Prop) (f:Env->M D):TE:=λσ H Q=>∃ μ S ρ,EnvOk K μ H ρ σ/\Rep K cl μ S H/\Post K cl xe μ H (f ρ S) λd _ μ' H'=>∀ v,RD K μ' H' d v->tN K H' v->Q v H'
theorem PE.unf {X:Cx} {cl:ClW} {xe:Addr->Hp->Prop} {e:Expr} {f:Env->M D} (h:PE X e (tDf X.K cl xe f)):PE X e (tD X.K cl xe f):=PE.imp h λσ H Q ⟨μ,S,ρ,eo,rp,P⟩=>⟨μ,S,ρ,eo,rp,P.imp λd S1 μ1 H1 l1 r1 p1 v rv _=>p1 v rv⟩
section
variable {X:Cx} {cl:ClW} {xe:Addr->Hp->Prop} {e:Expr} {es:List Expr} {pos:Pos} {fs:Env->M (List D)}
theorem eJ {K:PySem.W.Frag} {μ:Mp} {H H':Hp} {S:Sto} {c:Nat} {x:Addr} {gs:List (Str×V)} {ds:List (Str×D)} (b:Rep K cl μ S H) (f:H x=none) (M:XC K (cl c)) (g:Hn.Got (upd H x (E3 x (cl c) none)) x (cl c) gs H') (r:∀ {μ':Mp} {H':Hp},Lat μ H μ' H'->fz K μ' H' ds gs) :
  Lat μ H (μ.push x) H'/\Rep K cl (μ.push x) (S++[.exc c ds]) H'/\RD K (μ.push x) H' (.ref S.length) (.ref x):=by
 obtain ⟨d,hd,h,n,j,m⟩:=g;rw [a7 h] at hd;have k:∀ a u,H a=some u->H' a=some u:=λa u e=>by
  have i:=a9 e f;have o:=a9 e hd;rw [m a i o,a7 i];exact e
 have l:=Lat.pushed (μ:=μ) f k;refine ⟨l,b.pushed f k ⟨M,gs,r l,none,.inr ⟨d,h,λz=>?_,n,j⟩⟩,.ref ?_⟩
 ·rcases Az.mp (z) with z | z
  ·exact b.notin hd z
  ·grind
 ·show (μ.pl++[x])[S.length]?=some x;rw [<- b.len];simp
theorem jR {k:Nat} {f:Addr} {fd:FuncData} {ps:List Str} {E:XK} {CX:CXT} {nm g:Str} {p:Pos} {c:Nat} (M:XC X.K (cl c)) (na:t0 X.K (cl c) g) (hi:PySem.W.findIn X.K (.ref (cl c)) "__init__" = some (some (.ref f))) (hf:PySem.W.isFn X.K (.ref f)=true) (F:FnOk X.prog X.w X.K X.mg X.base CX k f fd ps (Hn.sp1 X.K g)) (hr:Room CX.q (k+1) X.A) (hg:Gl X nm) (hm:X.mg nm=some (.ref (cl c))) (hb:Binds X.K fd ps []) (hx:u9 CX X E)
  (ha:PA X (e :: es) (tDs X.K cl xe fs)) (hdb:(nm==("__debug__" : Str))=false) (hs:(e :: es).all noStar=true):PE X (.Call (.Name nm p) (e :: es) [] pos) (tDf X.K cl xe λρ=>bind (fs ρ) (aK c [g])):=by
 rw [Bi,Ak] at hs;refine PE.imp (N4 M hi hf F hr hg hm hb hx ha hdb (j1 hs.1) (n4 hs.2)) λσ H Q ⟨μ,S,ρ,eo,rp,P⟩=>?_;refine ⟨μ,S,ρ,eo,rp,P.bind.imp λds S1 μ1 H1 l1 r1 p1 vs rvs=>?_⟩;unfold aK at p1;by_cases hc:ds.length=[g].length/\ds.all (T4 S1)=true
 ·rw [if_pos hc] at p1
  match ds,hc,rvs,p1 with
  | [d],hc,rvs,p1=>
   obtain ⟨v,rfl,rv⟩:=iW rvs;obtain ⟨q,ft⟩:=bu r1 rv (by simpa using hc.2);refine ⟨by show 1<=1000;decide,λx hx=>⟨x,v,cl c,q,rfl,M,na,b6,ft.laid hx,λH' got=>⟨rfl,?_⟩⟩⟩;obtain ⟨l2,r2,rd2⟩:=eJ (c:=c) (ds:=[(g,d)]) r1 hx M got λl=>.cons ⟨rfl,rv.later l⟩ .nil;obtain ⟨d0,_,_,g1,_⟩:=id got;exact p1 _ _ l2 r2 _ rd2 ⟨x,cl c,_,rfl,M,g1⟩
  | [],hc,_,_=>exact absurd hc.1 (by simp)
  | _ :: _ :: _,hc,_,_=>exact absurd hc.1 (by simp)
 ·rw [if_neg hc] at p1;exact p1.elim
theorem ij {k:Nat} {f:Addr} {fd:FuncData} {ps:List Str} {E:XK} {CX:CXT} {nm g g2:Str} {p:Pos} {c:Nat} (M:XC X.K (cl c)) (na:t0 X.K (cl c) g) (nb:t0 X.K (cl c) g2) (hi:PySem.W.findIn X.K (.ref (cl c)) "__init__" = some (some (.ref f))) (hf:PySem.W.isFn X.K (.ref f)=true) (F:FnOk X.prog X.w X.K X.mg X.base CX k f fd ps (Hn.sp2 X.K g g2)) (hr:Room CX.q (k+1) X.A) (hg:Gl X nm) (hm:X.mg nm=some (.ref (cl c))) (hb:Binds X.K fd ps []) (hx:u9 CX X E)
  (ha:PA X (e :: es) (tDs X.K cl xe fs)) (hdb:(nm==("__debug__" : Str))=false) (hs:(e :: es).all noStar=true):PE X (.Call (.Name nm p) (e :: es) [] pos) (tDf X.K cl xe λρ=>bind (fs ρ) (aK c [g,g2])):=by
 rw [Bi,Ak] at hs;refine PE.imp (N4 M hi hf F hr hg hm hb hx ha hdb (j1 hs.1) (n4 hs.2)) λσ H Q ⟨μ,S,ρ,eo,rp,P⟩=>?_;refine ⟨μ,S,ρ,eo,rp,P.bind.imp λds S1 μ1 H1 l1 r1 p1 vs rvs=>?_⟩;unfold aK at p1;by_cases hc:ds.length=[g,g2].length/\ds.all (T4 S1)=true
 ·rw [if_pos hc] at p1
  match ds,hc,rvs,p1 with
  | [d,d2],hc,rvs,p1=>
   cases rvs with
   | cons rv t=>
    obtain ⟨v2,rfl,rv2⟩:=iW t;rename_i v;have hc2:T4 S1 d=true/\T4 S1 d2=true:=by simpa using hc.2
    obtain ⟨q,ft⟩:=bu r1 rv hc2.1;obtain ⟨q2,ft2⟩:=bu r1 rv2 hc2.2;refine ⟨by show 2<=1000;decide,λx hx=>⟨x,v,v2,cl c,q,q2,rfl,M,na,nb,b6,ft.laid hx,ft2.laid hx,λH' got=>⟨rfl,?_⟩⟩⟩;obtain ⟨l2,r2,rd2⟩:=eJ (c:=c) (ds:=[(g,d),(g2,d2)]) r1 hx M got λl=>.cons ⟨rfl,rv.later l⟩ (.cons ⟨rfl,rv2.later l⟩ .nil);obtain ⟨d0,_,_,g1,_⟩:=id got;exact p1 _ _ l2 r2 _ rd2 ⟨x,cl c,_,rfl,M,g1⟩
  | [],hc,_,_=>exact absurd hc.1 (by simp)
  | [_],hc,_,_=>exact absurd hc.1 (by simp)
  | _ :: _ :: _ :: _,hc,_,_=>exact absurd hc.1 (by simp)
 ·rw [if_neg hc] at p1;exact p1.elim
theorem ii {f:Addr} {fd:FuncData} {ps:List Str} {E:XK} {CX:CXT} {j:Str} {p:Pos} {c:Nat} (M:XC X.K (cl c)) (B:PySem.W.findIn X.K (.ref (cl c)) "__init__" = some (some (.ref f))) (A:PySem.W.isFn X.K (.ref f)=true) (F:FnOk X.prog X.w X.K X.mg X.base CX k f fd ps (Hn.spHE X.K)) (y:Room CX.q (k+1) X.A) (w:Gl X j) (s:X.mg j=some (.ref (cl c))) (t:Binds X.K fd ps []) (i:u9 CX X E)
  (r:PA X (e :: es) (tDs X.K cl xe fs)) (m:(j==("__debug__" : Str))=false) (hs:(e :: es).all noStar=true):PE X (.Call (.Name j p) (e :: es) [] pos) (tDf X.K cl xe λρ=>bind (fs ρ) (gS c)):=by
 rw [Bi,Ak] at hs;refine PE.imp (N4 M B A F y w s t i r m (j1 hs.1) (n4 hs.2)) λσ H Q ⟨μ,S,ρ,z,q,P⟩=>?_;refine ⟨μ,S,ρ,z,q,P.bind.imp λds S1 h o D n b vs g=>?_⟩
 match ds,g,b with
 | [d],g,b=>
  obtain ⟨v,rfl,C⟩:=iW g;refine ⟨by show 1<=1000;decide,λx i=>⟨x,v,cl c,none,rfl,M,b6,rfl,?_⟩⟩;have k:∀ a u,o a=some u->upd o x (E3 x (cl c) none) a=some u:=λa u e=>by rw [a7 (a9 e i)];exact e
  have l:=Lat.pushed (μ:=h) i k;refine b _ _ l (n.pushed i k ⟨M,[],.nil,none,.inl ⟨rfl,b6⟩⟩) _ (.ref ?_) ⟨x,cl c,_,rfl,M,b6⟩;show (h.pl++[x])[S1.length]?=some x;rw [<- n.len];simp
 | [],_,b=>exact b.elim
 | _ :: _ :: _,_,b=>exact b.elim
end
def tys:List String:=["NoneType","bool","int","str","tuple","list","dict"]
section
variable {X:Cx} {cl:ClW} {xe:Addr->Hp->Prop} {o e:Expr} {es:List Expr} {f:Env->M D} {fs:Env->M (List D)} {apos cpos:Pos} {name:Str} {T T2 id id2:String} {r r2:V->List V->Hp->VK->Prop} {α:Type}
def Looks (K:PySem.W.Frag) (cl:ClW) (xe:Addr->Hp->Prop) (T:String) (g:D->M α):Prop:=∀ (μ:Mp) (S:Sto) (H:Hp) (x:D) (v:V) (G:α->Sto->Mp->Hp->Prop),RD K μ H x v->Rep K cl μ S H->Post K cl xe μ H (g x S) G->tyV K T v H/\∃ a,g x S=.ok a S
def rK (K:PySem.W.Frag) (cl:ClW) (xe:Addr->Hp->Prop) (r:V->List V->Hp->VK->Prop) (op:D->List D->M D):Prop:=∀ (μ:Mp) (S:Sto) (H:Hp) (x:D) (v:V) (ds:List D) (vs:List V) (Q:VK),RD K μ H x v->RDs K μ H ds vs->Rep K cl μ S H->Post K cl xe μ H (op x ds S) (λd _ μ' H'=>∀ w,RD K μ' H' d w->Q w H')->r v vs H Q
theorem lz (B:PlainAttrs T) (c:Slot T name id) (i:typeOf (.builtin id)=pure (.type "method_descriptor")) (s:MtR X id r) (t:Looks X.K cl xe T g) (hd:rK X.K cl xe r op) (F:PE X o (tD X.K cl xe f)) (v:PA X (e :: es) (tDs X.K cl xe fs))
  (G:m8 o=true) (hs:(e :: es).all noStar=true) (C:B5 (e :: es)=true) (E:(apos.endLine==cpos.line)=true) :
  PE X (.Call (.Attribute o name apos) (e :: es) [] cpos) (tD X.K cl xe λρ=>bind (f ρ) λx=>bind (g x) λ_=>bind (fs ρ) λds=>op x ds):=by
 have b:=hs;rw [Bi,Ak] at b;refine PE.imp (mZ B c i s F v (B8 G) (gW hs C) E (j1 b.1) (n4 b.2)) λσ H Q ⟨μ,S,ρ,l,w,p⟩=>?_;refine ⟨μ,S,ρ,l,w,p.bind.imp λx S1 d J u m h n k=>?_⟩;obtain ⟨I,a,D⟩:=t d S1 J x n _ k m h.bind;have h:=h.ok_bind D;exact ⟨I,d,S1,ρ,l.later u,m,h.bind.imp λds S2 μ2 A q y z vs j=>hd μ2 S2 A x n ds vs Q (k.later q) j y z⟩
theorem cJ:Looks X.K cl xe "list" lstOf:=λμ S H x v G b c p=>by
 obtain ⟨a,xs,ds,rfl,d,f,e⟩:=t7 b c p;exact ⟨.inl ⟨rfl,_,.inl (.inl d)⟩,ds,e⟩
theorem gj (f:X.A.units+1<cLine):MtR X "dict.get" (λx vs H Q=>∃ a y z c,x=.ref a/\(vs=[y,z]\/(vs=[y]/\z=.non))/\DGet H a y c/\Q (c.getD z) H):=by
 intro pins s σ H x vs v us Q I k i h;obtain ⟨a,y,z,c,rfl,l,g,q⟩:=h;cases k;rcases l with rfl | ⟨rfl,rfl⟩
 ·obtain ⟨m,n,rfl,e,j⟩:=mT i;exact oj f I g e j λw' s' d b=>⟨_,H,d,b,q⟩
 ·cases i with
  | cons e t=>
   cases t;exact nq f I g e λw' s' d b=>⟨_,H,d,b,q⟩
def getDD (x:D) (ds:List D):M D:=match x,ds with
 | .ref n,[k,z]=>λS=>match S[n]? with
  | some (.dct a)=>(match u4 k with
   | some b=>.ok ((M9 a b).getD z) S
   | none=>.bad)
  | _=>.bad
 | .ref n,[k]=>λS=>match S[n]? with
  | some (.dct a)=>(match u4 k with
   | some b=>.ok ((M9 a b).getD .non) S
   | none=>.bad)
  | _=>.bad
 | _,_=>bad
def dctOf (x:D):M Unit:=match x with
 | .ref n=>λS=>match S[n]? with
  | some (.dct _)=>.ok () S
  | _=>.bad
 | _=>bad
theorem O8 {K:PySem.W.Frag} {μ:Mp} {H:Hp} {k:Key}:∀ {a:List (Key×D)} {c:List (Key×V)},KvsAt K μ H a c->M9 a k=none->C6 c k=none
 | _,_,.nil,_=>rfl
 | p :: r,q :: f,.cons ⟨d,g⟩ t,e=>by
  unfold M9 at e;unfold C6;rw [AZ] at e ⊢;rw [<- d];cases b:decide (p.1=k) with
  | true=>rw [b] at e;cases e
  | false=>
   rw [b] at e;exact O8 t e
theorem cX:Looks X.K cl xe "dict" dctOf:=λμ S H x v G rx rp p=>by
 unfold dctOf at p;cases x with
 | ref n=>
  cases rx with
  | ref e=>
   rename_i a;dsimp only at p;cases q1:S[n]? with
   | none=>rw [q1] at p;exact p.elim
   | some o=>
    rw [q1] at p;cases o with
    | dct kvs=>
     obtain ⟨ks,h1,_⟩:=rp.ats n _ a q1 e;exact ⟨.inr (.inr (.inl ⟨rfl,.inl ⟨_,h1⟩⟩)),(),by simp only [dctOf,q1]⟩
    | lst _=>exact p.elim
    | exc _ _=>exact p.elim
    | dcT _=>exact p.elim
 | _=>exact p.elim
theorem jQ:rK X.K cl xe (λx vs H Q=>∃ a y z ov,x=.ref a/\(vs=[y,z]\/(vs=[y]/\z=.non))/\DGet H a y ov/\Q (ov.getD z) H) getDD:=λμ S H x v ds vs Q rx rvs rp p=>by
 unfold getDD at p;split at p
 ·rename_i n k z;cases rvs with
  | cons hk t=>
   cases t with
   | cons hz t2=>
    cases t2;rename_i kv zv;cases rx with
    | ref e=>
     rename_i a;cases q1:S[n]? with
     | none=>rw [q1] at p;exact p.elim
     | some o=>
      rw [q1] at p;cases o with
      | dct kvs=>
       obtain ⟨ks,h1,h2⟩:=rp.ats n _ a q1 e;cases q2:u4 k with
       | none=>rw [q2] at p;exact p.elim
       | some key=>
        rw [q2] at p;dsimp only at p;have hy:=B2 hk q2;subst hy;refine ⟨a,_,zv,C6 ks key,rfl,.inl rfl,DGet.k h1,?_⟩;cases q3:M9 kvs key with
        | some d=>
         obtain ⟨w,e3,r3⟩:=N0 h2 q3;rw [q3] at p;rw [e3];exact p μ H (Lat.refl _ _) rp _ r3
        | none=>
         rw [q3] at p;rw [O8 h2 q3];exact p μ H (Lat.refl _ _) rp _ hz
      | lst _=>exact p.elim
      | exc _ _=>exact p.elim
      | dcT _=>exact p.elim
 ·rename_i n k;cases rvs with
  | cons hk t=>
   cases t;rename_i kv;cases rx with
   | ref e=>
    rename_i a;cases q1:S[n]? with
    | none=>rw [q1] at p;exact p.elim
    | some o=>
     rw [q1] at p;cases o with
     | dct kvs=>
      obtain ⟨ks,h1,h2⟩:=rp.ats n _ a q1 e;cases q2:u4 k with
      | none=>rw [q2] at p;exact p.elim
      | some key=>
       rw [q2] at p;dsimp only at p;have hy:=B2 hk q2;subst hy;refine ⟨a,_,.non,C6 ks key,rfl,.inr ⟨rfl,rfl⟩,DGet.k h1,?_⟩;cases q3:M9 kvs key with
       | some d=>
        obtain ⟨w,e3,r3⟩:=N0 h2 q3;rw [q3] at p;rw [e3];exact p μ H (Lat.refl _ _) rp _ r3
       | none=>
        rw [q3] at p;rw [O8 h2 q3];exact p μ H (Lat.refl _ _) rp _ .non
     | lst _=>exact p.elim
     | exc _ _=>exact p.elim
     | dcT _=>exact p.elim
 ·exact p.elim
end
section
variable {X:Cx} {cl:ClW} {xe:Addr->Hp->Prop} {o e:Expr} {es:List Expr} {f:Env->M D} {p p2 pos pos2:Pos} {te:TE}
def rgL (n:Nat):List Int:=(List.range n).map λ(k:Nat)=>(k:Int)
theorem lG {n:Nat} (a:acc.length=n) (h:∀ (i:Nat) (v:Value),acc[i]?=some v->∃ t,v=Value.int (i:Int) t):Vals ((rgL n).map V.int) acc:=by
 have d:∀ (k:Nat) (l:List Value) (b:Nat),l.length=k->(∀ (i:Nat) (v:Value),l[i]?=some v->∃ t,v=Value.int ((b+i:Nat):Int) t)->Vals ((List.range' b k).map λ(j:Nat)=>V.int (j:Int)) l:=by
  intro k;induction k with
  | zero=>intro l b a _;cases l with
   | nil=>exact .nil
   | cons _ _=>simp at a
  | succ k f=>
   intro l b a c;cases l with
   | nil=>simp at a
   | cons v l=>
    rw [List.range'_succ,AE];refine .cons ?_ (f l (b+1) (by simpa using a) λi w g=>?_)
    ·obtain ⟨t,e⟩:=c 0 v rfl;exact ⟨t,by rw [e];simp⟩
    ·obtain ⟨t,e⟩:=c (i+1) w (by simpa using g);exact ⟨t,by rw [e];congr 2;omega⟩
 have:=d n acc 0 a λi v c=>by
  obtain ⟨t,e⟩:=h i v c;exact ⟨t,by rw [e];simp⟩
 unfold rgL;rw [BY,List.range_eq_range'];exact this
def lU (te:TE):TE:=λσ H Q=>te σ H λx a=>∃ n:Nat,x=.int (n:Int)/\n<100000/\∀ q,a q=none->Q (.ref q) (upd a q (.lst ((rgL n).map V.int)))
theorem eT (A:X.calm=true) (C:Gl X "list") (w:X.mg "list" = none) (o:Gl X "range") (l:X.mg "range" = none) (y:PE X e te) (j:noStar e=true):PE X (.Call (.Name "list" p) [.Call (.Name "range" p2) [e] [] pos2] [] pos) (lU te):=by
 intro pins s σ H Q I h;have k:=I.ok.hd A;refine Bp (K0 I C w (by rfl) ?_ (by decide) (by decide));refine Bn ?_ rfl rfl;refine CU ?_;refine Bp (K0 I o l boot_range ?_ (by decide) (by decide));refine Bn ?_ (j1 j) rfl;rw [j1 j];refine CU (thn (y pins s σ H _ I h) λu d ⟨x,G,z,B,n,m,hz,q⟩=>?_);subst m;obtain ⟨t,rfl⟩:=B;refine Dc (call_range_1 (Dc ?_));have rs:Builtin.Range.rangeSize 0 (n:Int) 1=(n:Int):=by rw [rangeSize_one];split <;> omega
 refine call_list_range k (IsRange.new ..) (small_one (by omega) (by omega) (by omega) (by omega)) rs (by omega) λh' F f c r E a=>?_;have g:=z.kept (t':=d.toks+1+1) (h':=d.heap.push { cls:=.type "range",data:=.fields #[.int 0 d.toks,.int (n:Int) t,.int 1 (d.toks+1)] }) λb ob q=>Ah _ q;refine ⟨.ref _,_,Inv.laid g r (Ao _) ?_,rfl,q _ (g.hok.fresh (Ao _))⟩;refine ⟨by rw [An];show (rgL n).length<=_;unfold rgL;rw [An,List.length_range,AD];omega,f.toList,c,lG (by rw [Array.length_toList];exact a.1) (λi v D=>?_),?_⟩
 ·obtain ⟨t',e⟩:=a.2 i v (by rw [<- CA];exact D);exact ⟨t',by rw [e];simp⟩
 ·simp_all
def B6 (d:D):M D:=match d with
 | .int i=>if 0<=i/\i<100000 then ret (.lst ((rgL i.toNat).map D.int)) else bad
 | _=>bad
theorem fP (hc:X.calm=true) (hl:Gl X "list") (ml:X.mg "list" = none) (hr:Gl X "range") (mr:X.mg "range" = none) (he:PE X e (tD X.K cl xe f)) (hn:noStar e=true):PE X (.Call (.Name "list" p) [.Call (.Name "range" p2) [e] [] pos2] [] pos) (tD X.K cl xe λρ=>bind (f ρ) B6):=
 PE.imp (eT hc hl ml hr mr he hn) λσ H Q ⟨μ,S,ρ,eo,rp,p⟩=>⟨μ,S,ρ,eo,rp,p.bind.imp λd S1 μ1 H1 l1 r1 p1 v rv=>by
  cases rv with
  | int i=>
   obtain ⟨hi,p1⟩:=Post.guard p1;refine ⟨i.toNat,by rw [Int.toNat_of_nonneg hi.1],by omega,λz hz=>?_⟩;obtain ⟨l,rp2,rd2⟩:=G2 r1 (RDs.ints (rgL i.toNat)) hz;exact p1 μ1 _ l rp2 _ rd2
  | _=>exact False.elim p1⟩
end
def CXr (P:Program) (w:World) (K:PySem.W.Frag):List PySem.Env->Hp->Shared->XK->Value->Shared->Prop:=λb H s E e s'=>
 ∃ a C d c H',e=.ref a/\s'.os=s.os/\AllBare s'.gens/\Un (frs b) [] H H' s.heap s'.heap/\HOk P w H' s'.heap/\Fx K H' a C d c/\E e none H'
abbrev CXd (P:Program) (w:World) (K:PySem.W.Frag):CXT:=⟨CXr P w K,false⟩
section
variable {K:PySem.W.Frag} {cl:ClW} {xe xe':Addr->Hp->Prop} {α β:Type} {μ:Mp} {H H':Hp} {S:Sto} {a C:Addr} {d tb:Option Addr} {P:Program} {w:World} {h:Heap}
theorem Post.ximp {G:α->Sto->Mp->Hp->Prop} (p:Post K cl xe μ H r G) (k:∀ n S μ' H' a,r=.exn n S->Lat μ H μ' H'->Rep K cl μ' S H'->μ'.pl[n]?=some a->xe a H'->xe' a H'):Post K cl xe' μ H r G:=by
 cases r with
 | ok a S=>exact p
 | exn n S=>exact λμ' H' a l r e=>k n S μ' H' a rfl l r e (p μ' H' a l r e)
 | bad=>exact p
def nx (m:M α):M α:=λS=>match m S with
 | .exn _ _=>.bad
 | r=>r
theorem Post.nx {G:α->Sto->Mp->Hp->Prop} (p:Post K cl xe μ H (nx m S) G):Post K cl xe' μ H (m S) G:=by
 unfold L3.nx at p;cases e:m S with
 | ok a S1=>rw [e] at p;exact p
 | exn n S1=>rw [e] at p;exact p.elim
 | bad=>rw [e] at p;exact p
theorem nS (f:HOk P w H h) (o:OAt K cl μ H a (.exc c fs)) (e:H a=some (K4 tb a C d)) (j:∀ T,tb=some T->T≠a/\H T=some (TbO T)):C=cl c/\Fx K H a C d tb:=by
 obtain ⟨k,gs,q,p,o⟩:=o;obtain ⟨vs,l,_⟩:=(f a _ e).1;rcases o with ⟨z,g⟩ | ⟨d',n,r,g,m⟩
 ·obtain ⟨i,b,_⟩:=(f a _ g).1;rw [l] at b;cases b;exact ⟨rfl,k,e,λd' z=>(nomatch z),j⟩
 ·obtain ⟨i,b,_⟩:=(f a _ g).1;rw [l] at b;cases b;exact ⟨rfl,k,e,λs z=>by cases z;exact ⟨n,gs,m⟩,j⟩
theorem Rep.mv {n:Nat} (r:Rep K cl μ S H) (hk:HOk P w H h) (e:μ.pl[n]?=some a) (fx:H a=some (K4 tb a C d)) (m:Mv H a C d H'):Lat μ H μ H'/\Rep K cl μ S H':=by
 have am:=AL e;have l:Lat μ H μ H':=⟨λ_ _ h=>h,λb o q nb=>m.1 b o (λz=>nb (z▸am)) q,λ_ h=>.inl h,rfl⟩;refine ⟨l,r.len,r.nd,λi o b e1 e2=>?_,λb mb=>let ⟨h1,u,h2⟩:=r.res b mb;⟨h1,u,l.oth _ _ h2 h1⟩⟩;have ho:=r.ats i o b e1 e2;by_cases hb:b=a
 ·subst hb;cases o with
  | lst ds=>obtain ⟨xs,q,_⟩:=ho;rw [fx] at q;simp [K4] at q
  | dct kvs=>obtain ⟨xs,q,_⟩:=ho;rw [fx] at q;simp [K4] at q
  | dcT kvs=>
   obtain ⟨es,q,_⟩:=ho;obtain ⟨vs,q1,_⟩:=(hk b _ fx).1;obtain ⟨o,ep,q2,q3,_⟩:=(hk b _ q).1;rw [q1] at q2;cases q2;cases q3.1
  | exc c fs=>
   obtain ⟨xc,gs,q,fr,o⟩:=ho;obtain ⟨tb',m2⟩:=m.2;obtain ⟨vs,q1,_⟩:=(hk b _ fx).1;rcases o with ⟨z,e2⟩ | ⟨d',h1,h2,e2,e3⟩
   ·obtain ⟨vs2,q2,_⟩:=(hk b _ e2).1;rw [q1] at q2;cases q2;exact ⟨xc,gs,Paired.mono (λ_ _ ⟨z,w⟩=>⟨z,w.later l⟩) q,tb',.inl ⟨z,m2⟩⟩
   ·obtain ⟨vs2,q2,_⟩:=(hk b _ e2).1;rw [q1] at q2;cases q2;exact ⟨xc,gs,Paired.mono (λ_ _ ⟨z,w⟩=>⟨z,w.later l⟩) q,tb',.inr ⟨d',h1,h2,m2,m.1 d' _ h1 e3⟩⟩
 ·obtain ⟨u,q⟩:=ho.some;exact ho.later l (by rw [q];exact m.1 b u hb q)
end
def xOf (X:Cx) (a:Addr) (H:Hp):Prop:=∀ (pins:List (Addr×Obj)) (σ:L2.St) (s:Shared) (C:Addr) (d b:Option Addr),L2.Inv X pins σ H s->Fx X.K H a C d b->X.xe (.ref a) s
def spX (K:PySem.W.Frag) (cl:ClW) (n:Nat) (run:List D->M D):Sp:=λvs H Q E=>vs.length=n/\∃ μ S ds,RDs K μ H ds vs/\Rep K cl μ S H/\Post K cl (ji E) μ H (run ds S) λd _ μ' H'=>∀ v,RD K μ' H' d v->Q v H'
section
variable {X:Cx} {cl:ClW} {e:Expr} {es:List Expr} {f:Env->M D} {pos p:Pos}
def O5 (d:D):M Fl:=match d with
 | .ref n=>λS=>match S[n]? with
  | some (.exc _ _)=>.exn n S
  | _=>.bad
 | _=>bad
theorem iB (hc:X.calm=true) (h:PE X e (tDf X.K cl (xOf X) f)):PS X (.Raise (some e) none pos) (sD X.K cl (xOf X) λρ=>bind (f ρ) O5):=by
 intro pins s σ H D I ⟨μ,S,ρ,eo,rp,p⟩;refine Ag (Bo (aT (K:=X.K) (I.ok.hd hc) (Ag (AK (h pins s σ H (λv H1=>∃ (x C:Addr) (d:Option Addr) (μ1:Mp) (S1:Sto) (n c:Nat) (fs:List (Str×L3.D)),v=.ref x/\XC X.K C/\H1 x=some (E3 x C d)/\Rep X.K cl μ1 S1 H1/\S1[n]?=some (O.exc c fs)/\μ1.pl[n]?=some x/\xOf X x H1) I ⟨μ,S,ρ,eo,rp,p.bind.imp λd S1 μ1 H1 l1 r1 p1 v rv fr=>?_⟩)
  (λu s1 ⟨v,H1,I1,ru,x,C,d,μ1,S1,n,c,fs,ev,xc,ex,r1,e1,e2,xo⟩=>Ag (Bo (Aj ?_))) λ_ _ z=>z))))
 ·cases rv with
  | ref hp=>
   rename_i n a;obtain ⟨x,C,d,ev,xc,ex⟩:=fr;cases ev;simp only [O5] at p1;cases q:S1[n]? with
   | none=>rw [q] at p1;exact p1.elim
   | some o=>
    rw [q] at p1;cases o with
    | exc c fs=>exact ⟨_,C,d,μ1,S1,n,c,fs,rfl,xc,ex,r1,q,hp,p1 μ1 H1 _ (Lat.refl _ _) r1 hp⟩
    | lst _=>exact p1.elim
    | dct _=>exact p1.elim
    | dcT _=>exact p1.elim
  | _=>exact False.elim p1
 ·subst ev;obtain rfl:u=Value.ref x:=ru;have fx:=(nS I1.hok (r1.ats n _ x e1 e2) ex λT z=>(nomatch z)).2;exact ⟨x,C,d,rfl,I1.kIn,xc,I1.isX ex,xo pins σ s1 C d none I1 fx⟩
end
section
variable {K:PySem.W.Frag} {cl:ClW} {xe xe':Addr->Hp->Prop} {α:Type} {μ:Mp} {H:Hp}
theorem Post.up {G:α->Sto->Mp->Hp->Prop} (p:Post K cl xe μ H r G) (k:∀ a H',xe a H'->xe' a H'):Post K cl xe' μ H r G:=p.ximp λ_ _ _ H' a _ _ _ _ h=>k a H' h
theorem Post.x0 {G:α->Sto->Mp->Hp->Prop} (p:Post K cl (ji E0) μ H r G):Post K cl xe μ H r G:=p.up λ_ _ z=>False.elim z
end
abbrev x0:Addr->Hp->Prop:=ji E0
section
variable {X:Cx} {cl:ClW} {xe:Addr->Hp->Prop} {e tg:Expr} {es:List Expr}
theorem PE.x0 (h:PE X e (tD X.K cl xe f)):PE X e (tD X.K cl x0 f):=PE.imp h λσ H Q ⟨μ,S,ρ,a,b,p⟩=>⟨μ,S,ρ,a,b,p.x0⟩
theorem PTL.x0 (h:PTL X es (tBo X.K cl xe f)):PTL X es (tBo X.K cl x0 f):=λpins s σ H Q I ⟨μ,S,ρ,a,b,p⟩=>h pins s σ H Q I ⟨μ,S,ρ,a,b,p.x0⟩
theorem PI.x0 (h:PI X tg e (tIt X.K cl xe f)):PI X tg e (tIt X.K cl x0 f):=PI.imp h λσ H Q ⟨μ,S,ρ,a,b,p⟩=>⟨μ,S,ρ,a,b,p.x0⟩
theorem PSs.x0 (h:PSs X sts (sD X.K cl xe f)):PSs X sts (sD X.K cl x0 f):=PSs.imp h λD σ H ⟨μ,S,ρ,a,b,p⟩=>⟨μ,S,ρ,a,b,p.x0⟩
theorem dG (h:PE X e (jH X.K cl x0 fs)):PE X e (tD X.K cl xe λρ=>bind (nx (fs ρ)) λds=>ret (.lst ds)):=PE.imp h λσ H Q ⟨μ,S,ρ,f,j,p⟩=>
 ⟨μ,S,ρ,f,j,p.bind.nx.imp λds S1 b d l g i c ys k a=>i.ret b d (Lat.refl _ _) g _ (.lst k a)⟩
theorem mz:u9 (CXd X.prog X.w X.K) X (λl _ H=>∀ a,l=.ref a->xOf X a H):=λpins σ H s e s' I ⟨a,C,d,i,H',k,g,c,j,f,h,q⟩=>by
 subst k;exact q a rfl pins σ s' C d i (I.call' g j f c λb z=>absurd z (by simp)) h
theorem iG {a:Addr} {fd:FuncData} {ps:List Str} {x:Str} {p pos:Pos} {fs:Env->M (List D)} {b:List D->M D} (F:FnOk X.prog X.w X.K X.mg X.base (CXd X.prog X.w X.K) k a fd ps (spX X.K cl n b)) (l:Room false k X.A) (j:Gl X x) (o:X.mg x=some (.ref a)) (i:PySem.W.keepIn X.K (.ref a)=true) (t:Binds X.K fd ps [])
  (s:PA X (e :: es) (tDs X.K cl (xOf X) fs)) (g:(x==("__debug__" : Str))=false) (hs:(e :: es).all noStar=true) :
  PE X (.Call (.Name x p) (e :: es) [] pos) (tD X.K cl (xOf X) λρ=>bind (fs ρ) λds=>if ds.length=n then b ds else bad):=by
 rw [Bi,Ak] at hs;exact PE.imp (lL F l j o i t .nil mz s g (j1 hs.1) (n4 hs.2)) λσ H Q ⟨μ,S,ρ,m,r,p⟩=>
  ⟨μ,S,ρ,m,r,p.bind.imp λds S1 f u w q d vs c=>by
   by_cases hd:ds.length=n
   ·rw [if_pos hd] at d;exact ⟨by rw [AI,<- c.length];exact hd,f,S1,ds,by rw [AI];exact c,q,d.up λa H' h v z=>by cases z;exact h⟩
   ·rw [if_neg hd] at d;exact d.elim⟩
theorem fM {b:List D->M D} (F:FnOk X.prog X.w X.K X.mg X.base (CXd X.prog X.w X.K) k a fd ps (spX X.K cl 0 b)) (f:Room false k X.A) (e:Gl X x) (g:X.mg x=some (.ref a)) (d:PySem.W.keepIn X.K (.ref a)=true) (j:Binds X.K fd ps [])
  (c:(x==("__debug__" : Str))=false):PE X (.Call (.Name x p) [] [] pos) (tD X.K cl (xOf X) λρ=>b []):=PE.imp (jp F f e g d j .nil mz c) λσ H Q ⟨μ,S,ρ,l,i,p⟩=>⟨rfl,μ,S,[],.nil,i,p.up λa H' h m z=>by cases z;exact h⟩
end
inductive G where
 | val (d:D) | fn (i n:Nat) | err (c:Nat) (fs:List Str) | dct (kvs:List (Str×D))
structure Gm where
 gl:List (Str×G)
 sub:Nat->Nat->Bool
 flds:List Str
 qs:List Nat:=[]
structure Lc where
 N:List Str
 sc:Scope
 fr:Bool
 mu:List Str
def quiet (a:Lc):Bool:=a.mu.contains ("~" : Str)
structure Ev where
 e:Lc->Expr->Env->M D
 t:Lc->Expr->Env->M Bool
 s:Lc->Stmt->Env->M Fl
 i:Lc->Expr->Expr->Env->M (Src×Nat)
structure EvK where
 e:Lc->Expr->Env->∀ {α:Type},(D->M α)->M α
 t:Lc->Expr->Env->∀ {α:Type},(Bool->M α)->M α
 s:Lc->Stmt->Env->∀ {α:Type},(Fl->M α)->M α
 i:Lc->Expr->Expr->Env->∀ {α:Type},(Src×Nat->M α)->M α
structure EqK (r:Ev) (q:EvK):Prop where
 e:∀ lc e ρ {α:Type} (k:D->M α),q.e lc e ρ k=bind (r.e lc e ρ) k
 t:∀ lc e ρ {α:Type} (k:Bool->M α),q.t lc e ρ k=bind (r.t lc e ρ) k
 s:∀ lc e ρ {α:Type} (k:Fl->M α),q.s lc e ρ k=bind (r.s lc e ρ) k
 i:∀ lc g e ρ {α:Type} (k:Src×Nat->M α),q.i lc g e ρ k=bind (r.i lc g e ρ) k
theorem bD (k:α->M β):bind bad k=bad:=rfl
theorem m9 {c:Prop} [Decidable c] (a b:M α) (k:α->M β):bind (if c then a else b) k=if c then bind a k else bind b k:=by split <;> rfl
theorem m7 (m:M α):bind m ret=m:=by
 funext S;unfold bind ret;cases m S <;> rfl
def c9:List Str->Str->Option Nat
 | [],_=>none
 | y :: ys,x=>if y=x then some 0 else (c9 ys x).map (· + 1)
theorem t8:∀ {N:List Str} {x:Str} {i:Nat},c9 N x=some i->N[i]?=some x
 | [],_,_,e=>by cases e
 | y :: ys,x,i,e=>by
  unfold c9 at e;split at e
  ·rename_i h;cases e;simp [h]
  ·cases q:c9 ys x with
   | none=>rw [q] at e;cases e
   | some j=>rw [q] at e;cases e;simpa using t8 q
def gE (a:Scope) (x:Str):Bool:=decide (a.names.lookup x=some .local)||decide (a.names.lookup x=some .cell)||decide (a.names.lookup x=some .free)
def ap (a:Scope) (x:Str):Bool:=decide (a.names.lookup x=some .local)||decide (a.names.lookup x=some .cell)
def glB (a:Scope) (x:Str):Bool:=decide (a.names.lookup x=some .globalImplicit)
def A0 (x:Str):Bool:=!(x==("__debug__" : Str))&&!(x==("__classdict__" : Str))&&!(x==("__name__" : Str))
theorem lq (h:gE sc x=true):Vis sc x:=by
 simpa [gE,Vis,or_assoc] using h
theorem G5 (h:ap sc x=true):L2.Loc sc x:=by
 simpa [ap,L2.Loc] using h
theorem K9 (h:A0 x=true):(x==("__debug__" : Str))=false/\(x==("__classdict__" : Str))=false/\x ≠ "__name__":=by
 simpa [A0,and_assoc] using h
structure Tx where
 P:Program
 w:World
 K:PySem.W.Frag
 mg:Str->Option Value
 base:Heap
 clf:Nat->Addr
def Tx.cl (T:Tx):ClW:=⟨T.clf,T.w⟩
def bnames:List Str:=["len","tuple","list","repr","isinstance","range","int","bool","str","dict","ValueError","all","any","sum","max","min","sorted","set","enumerate","abs","zip"]
abbrev CXq (q:Bool):CXT:=⟨λ_ _ _ _ _ _=>False,q⟩
structure FnX (T:Tx) (k i n:Nat) (x:Str) (run:List D->M D):Prop where
 ex:∃ (a:Addr) (fd:FuncData) (ps:List Str),ps.length=n/\FnOk T.P T.w T.K T.mg T.base (CXd T.P T.w T.K) k a fd ps (spX T.K T.cl n run)/\T.mg x=some (.ref a)/\PySem.W.keepIn T.K (.ref a)=true/\Binds T.K fd ps []
structure FnAt (T:Tx) (k i n:Nat) (x:Str) (run:List D->M D):Prop where
 ex:∃ (a:Addr) (fd:FuncData) (ps:List Str),ps.length=n/\FnOk T.P T.w T.K T.mg T.base (CXq true) k a fd ps (spD T.K T.cl n run)/\T.mg x=some (.ref a)/\PySem.W.keepIn T.K (.ref a)=true/\Binds T.K fd ps []
structure ErrAt (T:Tx) (x:Str) (c:Nat) (fs:List Str):Prop where
 xc:XC T.K (T.cl c)
 mg_:T.mg x=some (.ref (T.cl c))
 ex:∃ (f:Addr) (fd:FuncData) (ps:List Str),PySem.W.findIn T.K (.ref (T.cl c)) "__init__" = some (some (.ref f))/\PySem.W.isFn T.K (.ref f)=true/\Binds T.K fd ps [] /\
  match fs with
  | []=>FnOk T.P T.w T.K T.mg T.base CX0 2 f fd ps (Hn.spHE T.K)
  | [g]=>FnOk T.P T.w T.K T.mg T.base CX0 2 f fd ps (Hn.sp1 T.K g)
  | [g,g2]=>FnOk T.P T.w T.K T.mg T.base CX0 2 f fd ps (Hn.sp2 T.K g g2)
  | _=>False
def fq (T:Tx) (x:Str) (kvs:List (Str×D)):Prop:=∃ (a:Addr) (es:Array DictEntry) (n:Nat),T.mg x=some (.ref a)/\T.K.lookup a=some ⟨.type "dict",none,.dict es n,#[]⟩/\PySem.W.KeysLit T.w.params es.toList/\(a==sysModules)=false/\(∀ k,kvs.lookup k=none->PySem.W.nsIn T.K a k=some none)/\∀ k d,kvs.lookup k=some d->∃ u v,PySem.W.nsIn T.K a k=some (some u)/\RelV v u/\∀ μ H,RD T.K μ H d v
structure TxOk (T:Tx) (Γ:Gm) (k:Nat) (C:Nat->List D->M D):Prop where
 blt:∀ x∈bnames,Γ.gl.lookup x=none->T.mg x=none
 val:∀ x d,Γ.gl.lookup x=some (.val d)->∃ u v,T.mg x=some u/\RelV v u/\∀ μ H,RD T.K μ H d v
 fn:∀ x i n,Γ.gl.lookup x=some (.fn i n)->i∉Γ.qs->FnX T k i n x (C i)
 fnq:∀ x i n,Γ.gl.lookup x=some (.fn i n)->i∈Γ.qs->FnAt T k i n x (C i)
 err:∀ x c fs,Γ.gl.lookup x=some (.err c fs)->ErrAt T x c fs/\(∀ g∈fs,t0 T.K (T.cl c) g)
 sub:∀ x c c0 fs,Γ.gl.lookup x=some (.err c0 fs)->XC T.K (T.cl c)->PySem.W.kitOne T.K (.ref (T.cl c)) (.ref (T.cl c0))=some (Γ.sub c c0)
 subV:∀ c,XC T.K (T.cl c)->PySem.W.kitOne T.K (.ref (T.cl c)) (.type "ValueError")=some true
 subT:∀ c,XC T.K (T.cl c)->∀ t∈tys,PySem.W.kitOne T.K (.ref (T.cl c)) (.type t)=some false
 fld:∀ g∈Γ.flds,∀ c,XC T.K (T.cl c)->t0 T.K (T.cl c) g
 dct:∀ x kvs,Γ.gl.lookup x=some (.dct kvs)->fq T x kvs
 k3:3<=k
structure CxOk (T:Tx) (k:Nat) (lc:Lc) (X:Cx):Prop where
 prog:X.prog=T.P
 w:X.w=T.w
 K:X.K=T.K
 mg:X.mg=T.mg
 base:X.base=T.base
 N:X.N=lc.N
 nd:lc.N.Nodup
 sc:X.env.scope=lc.sc
 calm:quiet lc=false->X.calm=true
 room:Room (quiet lc) k X.A
 po:PassesOwn (model X.prog X.w) X.A X.env X.xe
 fn:X.fn=λ_=>lc.fr
 kd:lc.sc.kind=.function
 own:lc.fr=true->quiet lc=false->X.stack=X.env :: X.outer/\X.env.frame=some X.env.locals
structure EvOk (T:Tx) (k:Nat) (r:Ev):Prop where
 e:∀ lc X,CxOk T k lc X->∀ e,PE X e (tD T.K T.cl (xOf X) (r.e lc e))
 t:∀ lc X,CxOk T k lc X->∀ e,PT X e (tBo T.K T.cl (xOf X) (r.t lc e))
 s:∀ lc X,CxOk T k lc X->lc.fr=true->∀ st,PS X st (sD T.K T.cl (xOf X) (r.s lc st))
 i:∀ lc X,CxOk T k lc X->∀ g e,PI X g e (tIt T.K T.cl (xOf X) (r.i lc g e))
section
variable {T:Tx} {k:Nat} {r:Ev} {Γ:Gm} {C:Nat->List D->M D} {lc:Lc} {X:Cx} {pos:Pos}
theorem EvOk.ex (R:EvOk T k r) (h:CxOk T k lc X) (e:Expr):PE X e (tD X.K T.cl (xOf X) (r.e lc e)):=by rw [h.K];exact R.e lc X h e
theorem EvOk.tx (R:EvOk T k r) (h:CxOk T k lc X) (e:Expr):PT X e (tBo X.K T.cl (xOf X) (r.t lc e)):=by rw [h.K];exact R.t lc X h e
theorem EvOk.ix (R:EvOk T k r) (h:CxOk T k lc X) (g e:Expr):PI X g e (tIt X.K T.cl (xOf X) (r.i lc g e)):=by rw [h.K];exact R.i lc X h g e
theorem EvOk.sx (R:EvOk T k r) (h:CxOk T k lc X) (a:lc.fr=true) (st:Stmt):PS X st (sD X.K T.cl (xOf X) (r.s lc st)):=by rw [h.K];exact R.s lc X h a st
theorem CxOk.u64 (h:CxOk T k lc X):X.A.units+64<cLine:=h.room.units
theorem CxOk.u80 (h:CxOk T k lc X):X.A.units+80<cLine:=by have:=h.room.un;omega
theorem CxOk.u1 (h:CxOk T k lc X):X.A.units+1<cLine:=rM h.room
theorem CxOk.gl (h:CxOk T k lc X) {x:Str} (a:glB lc.sc x=true):Gl X x:=by
 show X.env.kindOf x=_;unfold PySem.Env.kindOf;rw [h.sc];exact BQ a
theorem TxOk.none (a:TxOk T Γ k C) (h:CxOk T k lc X) {x:Str} (b:x∈bnames) (e:Γ.gl.lookup x=none):X.mg x=none:=by rw [h.mg];exact a.blt x b e
theorem CxOk.nd' (h:CxOk T k lc X):X.N.Nodup:=by rw [h.N];exact h.nd
theorem CxOk.fn1 (h:CxOk T k lc X) (a:lc.fr=true) {x:Str}:X.fn x=true:=by rw [h.fn];exact a
theorem CxOk.room0 (h:CxOk T k lc X) (a:quiet lc=false):Room false k X.A:=by have:=h.room;rw [a] at this;exact this
end
abbrev Cf:=Nat->List D->M D
structure RuE:Type 1 where
 is:Gm->Lc->Expr->Bool
 run:Ev->Gm->Cf->Lc->Expr->Env->M D
 ok:∀ {T:Tx} {k:Nat} {r:Ev} {Γ:Gm} {C:Cf} {lc:Lc} {X:Cx} (e:Expr),EvOk T k r->TxOk T Γ k C->CxOk T k lc X->is Γ lc e=true->PE X e (tD X.K T.cl (xOf X) (run r Γ C lc e))
 runK:EvK->Gm->Cf->Lc->Expr->Env->∀ {α:Type},(D->M α)->M α
 eq:∀ {r:Ev} {q:EvK} {Γ:Gm} {C:Cf} {lc:Lc} (e:Expr) (ρ:Env) {α:Type} (k:D->M α),EqK r q->runK q Γ C lc e ρ k=bind (run r Γ C lc e ρ) k
structure RuT:Type 1 where
 is:Gm->Lc->Expr->Bool
 run:Ev->Gm->Cf->Lc->Expr->Env->M Bool
 ok:∀ {T:Tx} {k:Nat} {r:Ev} {Γ:Gm} {C:Cf} {lc:Lc} {X:Cx} (e:Expr),EvOk T k r->TxOk T Γ k C->CxOk T k lc X->is Γ lc e=true->PT X e (tBo X.K T.cl (xOf X) (run r Γ C lc e))
 runK:EvK->Gm->Cf->Lc->Expr->Env->∀ {α:Type},(Bool->M α)->M α
 eq:∀ {r:Ev} {q:EvK} {Γ:Gm} {C:Cf} {lc:Lc} (e:Expr) (ρ:Env) {α:Type} (k:Bool->M α),EqK r q->runK q Γ C lc e ρ k=bind (run r Γ C lc e ρ) k
structure RuS:Type 1 where
 is:Gm->Lc->Stmt->Bool
 run:Ev->Gm->Cf->Lc->Stmt->Env->M Fl
 ok:∀ {T:Tx} {k:Nat} {r:Ev} {Γ:Gm} {C:Cf} {lc:Lc} {X:Cx} (e:Stmt),EvOk T k r->TxOk T Γ k C->CxOk T k lc X->lc.fr=true->is Γ lc e=true->PS X e (sD X.K T.cl (xOf X) (run r Γ C lc e))
 runK:EvK->Gm->Cf->Lc->Stmt->Env->∀ {α:Type},(Fl->M α)->M α
 eq:∀ {r:Ev} {q:EvK} {Γ:Gm} {C:Cf} {lc:Lc} (e:Stmt) (ρ:Env) {α:Type} (k:Fl->M α),EqK r q->runK q Γ C lc e ρ k=bind (run r Γ C lc e ρ) k
structure RuI:Type 1 where
 is:Gm->Lc->Expr->Expr->Bool
 run:Ev->Gm->Cf->Lc->Expr->Env->M (Src×Nat)
 ok:∀ {T:Tx} {k:Nat} {r:Ev} {Γ:Gm} {C:Cf} {lc:Lc} {X:Cx} (g e:Expr),EvOk T k r->TxOk T Γ k C->CxOk T k lc X->is Γ lc g e=true->PI X g e (tIt X.K T.cl (xOf X) (run r Γ C lc e))
 runK:EvK->Gm->Cf->Lc->Expr->Env->∀ {α:Type},(Src×Nat->M α)->M α
 eq:∀ {r:Ev} {q:EvK} {Γ:Gm} {C:Cf} {lc:Lc} (e:Expr) (ρ:Env) {α:Type} (k:Src×Nat->M α),EqK r q->runK q Γ C lc e ρ k=bind (run r Γ C lc e ρ) k
structure Rules:Type 1 where
 es:List RuE
 ts:List RuT
 ss:List RuS
 is:List RuI
section
variable (Rs:Rules) (Γ:Gm) (C:Cf)
def step (r:Ev):Ev:=
 ⟨λa e=>match Rs.es.find? (λR=>R.is Γ a e) with
  | some R=>R.run r Γ C a e
  | none=>λ_=>bad,
 λa e=>match Rs.ts.find? (λR=>R.is Γ a e) with
  | some R=>R.run r Γ C a e
  | none=>λ_=>bad,
 λa e=>match Rs.ss.find? (λR=>R.is Γ a e) with
  | some R=>R.run r Γ C a e
  | none=>λ_=>bad,
 λa g e=>match Rs.is.find? (λR=>R.is Γ a g e) with
  | some R=>R.run r Γ C a e
  | none=>λ_=>bad⟩
def badEv:Ev:=⟨λ_ _ _=>bad,λ_ _ _=>bad,λ_ _ _=>bad,λ_ _ _ _=>bad⟩
def ev:Nat->Ev
 | 0=>badEv
 | n+1=>step Rs Γ C (ev n)
def mO (q:EvK):EvK:=
 ⟨λa e ρ _ k=>match Rs.es.find? (λR=>R.is Γ a e) with
  | some R=>R.runK q Γ C a e ρ k
  | none=>bad,
 λa e ρ _ k=>match Rs.ts.find? (λR=>R.is Γ a e) with
  | some R=>R.runK q Γ C a e ρ k
  | none=>bad,
 λa e ρ _ k=>match Rs.ss.find? (λR=>R.is Γ a e) with
  | some R=>R.runK q Γ C a e ρ k
  | none=>bad,
 λa g e ρ _ k=>match Rs.is.find? (λR=>R.is Γ a g e) with
  | some R=>R.runK q Γ C a e ρ k
  | none=>bad⟩
def uG:EvK:=⟨λ_ _ _ _ _=>bad,λ_ _ _ _ _=>bad,λ_ _ _ _ _=>bad,λ_ _ _ _ _ _=>bad⟩
def evK:Nat->EvK
 | 0=>uG
 | n+1=>mO Rs Γ C (evK n)
end
section
variable {Rs:Rules} {T:Tx} {k:Nat} {r:Ev} {q:EvK} {Γ:Gm} {C:Cf} {lc:Lc} {X:Cx}
theorem lK (d:TxOk T Γ k C) (R:EvOk T k r):EvOk T k (step Rs Γ C r):=by
 refine ⟨λa X h e=>?_,λa X h e=>?_,λa X h c e=>?_,λa X h g e=>?_⟩
 ·rw [<- h.K];show PE X e (tD X.K T.cl (xOf X) (match Rs.es.find? (λR=>R.is Γ a e) with
   | some R=>R.run r Γ C a e
   | none=>λ_=>bad))
  cases c:Rs.es.find? (λR=>R.is Γ a e) with
  | none=>exact f6
  | some b=>exact b.ok e R d h (by have:=CO c;exact this)
 ·rw [<- h.K];show PT X e (tBo X.K T.cl (xOf X) (match Rs.ts.find? (λR=>R.is Γ a e) with
   | some R=>R.run r Γ C a e
   | none=>λ_=>bad))
  cases c:Rs.ts.find? (λR=>R.is Γ a e) with
  | none=>exact cA
  | some b=>exact b.ok e R d h (by have:=CO c;exact this)
 ·rw [<- h.K];show PS X e (sD X.K T.cl (xOf X) (match Rs.ss.find? (λR=>R.is Γ a e) with
   | some R=>R.run r Γ C a e
   | none=>λ_=>bad))
  cases f:Rs.ss.find? (λR=>R.is Γ a e) with
  | none=>exact J4
  | some b=>exact b.ok e R d h c (by have:=CO f;exact this)
 ·rw [<- h.K];show PI X g e (tIt X.K T.cl (xOf X) (match Rs.is.find? (λR=>R.is Γ a g e) with
   | some R=>R.run r Γ C a e
   | none=>λ_=>bad))
  cases c:Rs.is.find? (λR=>R.is Γ a g e) with
  | none=>exact dN
  | some b=>exact b.ok g e R d h (by have:=CO c;exact this)
theorem gi:EvOk T k badEv:=⟨λa X h e=>by rw [<- h.K];exact f6,λa X h e=>by rw [<- h.K];exact cA,λa X h _ st=>by rw [<- h.K];exact J4,λa X h g e=>by rw [<- h.K];exact dN⟩
theorem fc (a:TxOk T Γ k C):∀ n,EvOk T k (ev Rs Γ C n)
 | 0=>gi
 | n+1=>lK a (fc a n)
theorem kC (h:EqK r q):EqK (step Rs Γ C r) (mO Rs Γ C q):=by
 refine ⟨λa e ρ _ k=>?_,λa e ρ _ k=>?_,λa e ρ _ k=>?_,λa g e ρ _ k=>?_⟩
 ·show (match Rs.es.find? (λR=>R.is Γ a e) with
   | some R=>R.runK q Γ C a e ρ k
   | none=>bad)=bind ((match Rs.es.find? (λ(R:RuE)=>R.is Γ a e) with
   | some R=>R.run r Γ C a e
   | none=>λ_=>bad) ρ) k
  cases Rs.es.find? (λR=>R.is Γ a e) with
  | none=>rfl
  | some b=>exact b.eq e ρ k h
 ·show (match Rs.ts.find? (λR=>R.is Γ a e) with
   | some R=>R.runK q Γ C a e ρ k
   | none=>bad)=bind ((match Rs.ts.find? (λ(R:RuT)=>R.is Γ a e) with
   | some R=>R.run r Γ C a e
   | none=>λ_=>bad) ρ) k
  cases Rs.ts.find? (λR=>R.is Γ a e) with
  | none=>rfl
  | some b=>exact b.eq e ρ k h
 ·show (match Rs.ss.find? (λR=>R.is Γ a e) with
   | some R=>R.runK q Γ C a e ρ k
   | none=>bad)=bind ((match Rs.ss.find? (λ(R:RuS)=>R.is Γ a e) with
   | some R=>R.run r Γ C a e
   | none=>λ_=>bad) ρ) k
  cases Rs.ss.find? (λR=>R.is Γ a e) with
  | none=>rfl
  | some b=>exact b.eq e ρ k h
 ·show (match Rs.is.find? (λR=>R.is Γ a g e) with
   | some R=>R.runK q Γ C a e ρ k
   | none=>bad)=bind ((match Rs.is.find? (λ(R:RuI)=>R.is Γ a g e) with
   | some R=>R.run r Γ C a e
   | none=>λ_=>bad) ρ) k
  cases Rs.is.find? (λR=>R.is Γ a g e) with
  | none=>rfl
  | some b=>exact b.eq e ρ k h
theorem md:∀ n,EqK (ev Rs Γ C n) (evK Rs Γ C n)
 | 0=>⟨λ_ _ _ _ _=>rfl,λ_ _ _ _ _=>rfl,λ_ _ _ _ _=>rfl,λ_ _ _ _ _ _=>rfl⟩
 | n+1=>kC (md n)
end
section
variable (r:Ev) (q:EvK) (lc:Lc)
def o8:List Expr->Env->M (List D)
 | [],_=>ret []
 | e :: es,ρ=>bind (r.e lc e ρ) λd=>bind (o8 es ρ) λds=>ret (d :: ds)
def u7 {a:Type}:List Expr->Env->(List D->M a)->M a
 | [],_,k=>k []
 | e :: es,ρ,k=>q.e lc e ρ λd=>u7 es ρ λds=>k (d :: ds)
def M5:List Stmt->Env->M Fl
 | [],ρ=>ret (.nx ρ)
 | st :: a,ρ=>tH (r.s lc st) (M5 a) ρ
def m4 {d:Type}:List Stmt->Env->(Fl->M d)->M d
 | [],ρ,k=>k (.nx ρ)
 | st :: a,ρ,k=>q.s lc st ρ λb=>match b with
  | .nx c=>m4 a c k
  | b=>k b
end
section
variable {T:Tx} {k:Nat} {r:Ev} {q:EvK} {Γ:Gm} {C:Cf} {lc:Lc} {X:Cx} {pos:Pos}
theorem j5 (h:EqK r q):∀ (es:List Expr) (ρ:Env) {a:Type} (k:List D->M a),u7 q lc es ρ k=bind (o8 r lc es ρ) k
 | [],_,_,_=>rfl
 | e :: es,ρ,_,k=>by
  show q.e lc e ρ (λd=>u7 q lc es ρ λds=>k (d :: ds))=bind (bind (r.e lc e ρ) λd=>bind (o8 r lc es ρ) λds=>ret (d :: ds)) k;rw [h.e,bind_assoc];congr;funext d;rw [j5 h,bind_assoc];rfl
theorem P9 (h:EqK r q):∀ (sts:List Stmt) (ρ:Env) {α:Type} (k:Fl->M α),m4 q lc sts ρ k=bind (M5 r lc sts ρ) k
 | [],_,_,_=>rfl
 | st :: sts,ρ,_,k=>by
  show (q.s lc st ρ λfl=>match fl with
   | .nx ρ'=>m4 q lc sts ρ' k
   | fl=>k fl)=bind (bind (r.s lc st ρ) λfl=>match fl with
   | .nx ρ'=>M5 r lc sts ρ'
   | fl=>ret fl) k
  rw [h.s,bind_assoc];congr;funext fl;cases fl with
  | nx ρ'=>exact P9 h sts ρ' k
  | bk ρ'=>rfl
  | ct ρ'=>rfl
  | rt d=>rfl
theorem k0 (R:EvOk T k r) (h:CxOk T k lc X):∀ {es:List Expr},es.all noStar=true->PA X es (tDs X.K T.cl (xOf X) (o8 r lc es))
 | [],_=>jz
 | e :: es,hs=>by
  rw [Bi,Ak] at hs;exact je (R.ex h e) (k0 R h hs.2) hs.1
theorem D9 (R:EvOk T k r) (h:CxOk T k lc X) (b:lc.fr=true):∀ {a:List Stmt},PSs X a (sD X.K T.cl (xOf X) (M5 r lc a))
 | []=>ff
 | st :: a=>kL (R.sx h b st) (D9 R h b)
end
def oH (c:Const):M D:=match c with
 | .int i=>ret (.int i)
 | .bool b=>ret (.bl b)
 | .none=>ret .non
 | .str x=>ret (.str x)
 | _=>bad
def pR {a:Type} (c:Const) (k:D->M a):M a:=match c with
 | .int i=>k (.int i)
 | .bool b=>k (.bl b)
 | .none=>k .non
 | .str x=>k (.str x)
 | _=>bad
def pT:RuE where
 is _ _ e:=match e with
  | .Constant _ _ _=>true
  | _=>false
 run _ _ _ _ e _:=match e with
  | .Constant c _ _=>oH c
  | _=>bad
 ok e R TX h hi:=by
  cases e with
  | Constant c n p=>
   cases c <;> first
    | exact B1 nY λ_ _=>.int _
    | exact B1 sI λ_ _=>.bl _
    | exact B1 oK λ_ _=>.non
    | exact B1 nX λ_ _=>.str _
    | exact f6
  | _=>exact f6
 runK _ _ _ _ e _ _ k:=match e with
  | .Constant c _ _=>pR c k
  | _=>bad
 eq e ρ _ k h:=by
  cases e with
  | Constant c n p=>cases c <;> rfl
  | _=>rfl
def aj (Γ:Gm) (a:Lc) (x:Str) (ρ:Env):M D:=match c9 a.N x with
 | some i=>if gE a.sc x=true then getD i ρ else bad
 | none=>if glB a.sc x=true then (match Γ.gl.lookup x with
  | some (.val d)=>ret d
  | _=>bad) else bad
def rg {a:Type} (i:Nat) (ρ:Env) (k:D->M a):M a:=match ρ[i]? with
 | some (some d)=>k d
 | _=>bad
def gF {b:Type} (Γ:Gm) (a:Lc) (x:Str) (ρ:Env) (k:D->M b):M b:=match c9 a.N x with
 | some i=>if gE a.sc x=true then rg i ρ k else bad
 | none=>if glB a.sc x=true then (match Γ.gl.lookup x with
  | some (.val d)=>k d
  | _=>bad) else bad
theorem ju {Γ:Gm} {C:Cf} {lc:Lc} {X:Cx} {pos:Pos} (TX:TxOk T Γ k C) (h:CxOk T k lc X) {x:Str} (hn:A0 x=true):PE X (.Name x pos) (tD X.K T.cl (xOf X) (aj Γ lc x)):=by
 unfold aj;obtain ⟨n1,n2,n3⟩:=K9 hn;cases e:c9 lc.N x with
 | some i=>
  by_cases hv:gE lc.sc x=true
  ·simp only [if_pos hv];exact nu (ip (by rw [h.N];exact t8 e) (by rw [h.sc];exact lq hv) n1 n2)
  ·simp only [if_neg hv];exact f6
 | none=>
  by_cases hv:glB lc.sc x=true
  ·simp only [if_pos hv];cases e2:Γ.gl.lookup x with
   | none=>exact f6
   | some g=>
    cases g with
    | val d=>
     obtain ⟨u,v,e3,rv,rd⟩:=TX.val x d e2;exact B1 (lW (h.gl hv) (by rw [h.mg];exact e3) rv n1) λμ H=>by rw [h.K];exact rd μ H
    | fn i n=>exact f6
    | err c fs=>exact f6
    | dct kvs=>exact f6
  ·simp only [if_neg hv];exact f6
theorem mF (Γ:Gm) (a:Lc) (x:Str) (ρ:Env) {b:Type} (k:D->M b):gF Γ a x ρ k=bind (aj Γ a x ρ) k:=by
 unfold gF aj;cases c9 a.N x with
 | some i=>
  simp only [];split
  ·unfold rg getD;cases ρ[i]? with
   | none=>rfl
   | some o=>cases o <;> rfl
  ·rfl
 | none=>
  simp only [];split
  ·cases Γ.gl.lookup x with
   | none=>rfl
   | some g=>cases g <;> rfl
  ·rfl
def tI:RuE where
 is _ _ e:=match e with
  | .Name x _=>A0 x
  | _=>false
 run _ Γ _ lc e ρ:=match e with
  | .Name x _=>aj Γ lc x ρ
  | _=>bad
 ok e R TX h hi:=by
  cases e with
  | Name x p=>exact ju TX h hi
  | _=>exact f6
 runK _ Γ _ lc e ρ _ k:=match e with
  | .Name x _=>gF Γ lc x ρ k
  | _=>bad
 eq e ρ _ k h:=by
  cases e with
  | Name x p=>exact mF _ _ x ρ k
  | _=>rfl
def pB (op:Operator):D->D->M D:=match op with
 | .Add=>i8
 | .Sub=>sv
 | .Mult=>F6
 | .Mod=>O2
 | .FloorDiv=>M0
 | .Pow=>kZ
 | _=>λ_ _=>bad
def i5 (op:CmpOp):D->D->M D:=match op with
 | .Eq=>eqD false
 | .NotEq=>eqD true
 | .Lt=>jh λi j=>decide (i<j)
 | .LtE=>jh λi j=>decide (i<=j)
 | .Gt=>jh λi j=>decide (j<i)
 | .GtE=>jh λi j=>decide (j<=i)
 | .In=>inD false
 | .NotIn=>inD true
 | .Is=>isD false
 | .IsNot=>isD true
theorem og {X:Cx} {cl:ClW} {xe:Addr->Hp->Prop} (op:Operator):OpR X (binaryOp op) (rP2 X.K cl xe (pB op)):=by
 cases op <;> first
  | exact rV
  | exact sN
  | exact rP
  | exact qZ
  | exact oo
  | exact rR
  | exact λpins s σ H x y v u Q I rx ry ⟨μ,S,d,e,rd,re,rp,p⟩=>p.elim
theorem gm {T:Tx} {k:Nat} {lc:Lc} {X:Cx} {cl:ClW} {xe:Addr->Hp->Prop} (h:CxOk T k lc X) (op:CmpOp):OpR X (compareOp op) (rP2 X.K cl xe (i5 op)):=by
 cases op
 case Eq=>exact uD h.u64
 case NotEq=>exact uL h.u64
 case Lt=>exact dO tQ
 case LtE=>exact dO rF
 case Gt=>exact dO sZ
 case GtE=>exact dO su
 case In=>exact sE false h.u80
 case NotIn=>exact sE true h.u80
 case Is=>exact rm false
 case IsNot=>exact rm true
def uB:RuE where
 is _ _ e:=match e with
  | .BinOp _ _ _ _=>true
  | _=>false
 run r _ _ lc e ρ:=match e with
  | .BinOp a op b _=>bind (r.e lc a ρ) λx=>bind (r.e lc b ρ) λy=>pB op x y
  | _=>bad
 ok e R TX h hi:=by
  cases e with
  | BinOp a op b p=>exact oE (R.ex h _) (R.ex h _) (og _)
  | _=>exact f6
 runK q _ _ lc e ρ _ k:=match e with
  | .BinOp a op b _=>q.e lc a ρ λx=>q.e lc b ρ λy=>bind (pB op x y) k
  | _=>bad
 eq e ρ _ k h:=by
  cases e with
  | BinOp a op b p=>simp only [h.e,bind_assoc]
  | _=>rfl
section
variable (r:Ev) (q:EvK) (lc:Lc)
def jb:List Expr->Env->M D
 | [],_=>bad
 | [a],ρ=>r.e lc a ρ
 | a :: b :: es,ρ=>bind (r.e lc a ρ) λd=>bind (t9 d) λq=>if q=true then jb (b :: es) ρ else ret d
def orE:List Expr->Env->M D
 | [],_=>bad
 | [a],ρ=>r.e lc a ρ
 | a :: b :: es,ρ=>bind (r.e lc a ρ) λd=>bind (t9 d) λq=>if q=true then ret d else orE (b :: es) ρ
def lH {e:Type}:List Expr->Env->(D->M e)->M e
 | [],_,_=>bad
 | [a],ρ,k=>q.e lc a ρ k
 | a :: b :: es,ρ,k=>q.e lc a ρ λd=>bind (t9 d) λc=>if c=true then lH (b :: es) ρ k else k d
def orK {e:Type}:List Expr->Env->(D->M e)->M e
 | [],_,_=>bad
 | [a],ρ,k=>q.e lc a ρ k
 | a :: b :: es,ρ,k=>q.e lc a ρ λd=>bind (t9 d) λc=>if c=true then k d else orK (b :: es) ρ k
def jC:List Expr->Env->M Bool
 | [],_=>bad
 | [a],ρ=>r.t lc a ρ
 | a :: b :: es,ρ=>bind (r.t lc a ρ) λq=>if q=true then jC (b :: es) ρ else ret false
def orB:List Expr->Env->M Bool
 | [],_=>bad
 | [a],ρ=>r.t lc a ρ
 | a :: b :: es,ρ=>bind (r.t lc a ρ) λq=>if q=true then ret true else orB (b :: es) ρ
def dS {d:Type}:List Expr->Env->(Bool->M d)->M d
 | [],_,_=>bad
 | [a],ρ,k=>q.t lc a ρ k
 | a :: b :: es,ρ,k=>q.t lc a ρ λc=>if c=true then dS (b :: es) ρ k else k false
def lA {d:Type}:List Expr->Env->(Bool->M d)->M d
 | [],_,_=>bad
 | [a],ρ,k=>q.t lc a ρ k
 | a :: b :: es,ρ,k=>q.t lc a ρ λc=>if c=true then k true else lA (b :: es) ρ k
end
section
variable {T:Tx} {k:Nat} {r:Ev} {q:EvK} {Γ:Gm} {C:Cf} {lc:Lc} {X:Cx} {pos:Pos}
theorem jm (R:EvOk T k r) (h:CxOk T k lc X):∀ {es:List Expr},PE X (.BoolOp .And es pos) (tD X.K T.cl (xOf X) (jb r lc es))
 | []=>f6
 | [a]=>gP (R.ex h a)
 | a :: b :: es=>nM (R.ex h a) (jm R h)
theorem me (R:EvOk T k r) (h:CxOk T k lc X):∀ {es:List Expr},PE X (.BoolOp .Or es pos) (tD X.K T.cl (xOf X) (orE r lc es))
 | []=>f6
 | [a]=>gP (R.ex h a)
 | a :: b :: es=>sG (R.ex h a) (me R h)
theorem dj (R:EvOk T k r) (h:CxOk T k lc X):∀ {es:List Expr},PW X (.BoolOp .And es pos) (tBo X.K T.cl (xOf X) (jC r lc es))
 | []=>pw_bad
 | [a]=>kH (R.tx h a)
 | a :: b :: es=>oq (R.tx h a) (dj R h)
theorem jO (R:EvOk T k r) (h:CxOk T k lc X):∀ {es:List Expr},PW X (.BoolOp .Or es pos) (tBo X.K T.cl (xOf X) (orB r lc es))
 | []=>pw_bad
 | [a]=>qP (R.tx h a)
 | a :: b :: es=>tZ (R.tx h a) (jO R h)
theorem jV (h:EqK r q):∀ (es:List Expr) (ρ:Env) {c:Type} (k:D->M c),lH q lc es ρ k=bind (jb r lc es ρ) k
 | [],_,_,_=>rfl
 | [a],ρ,_,k=>h.e lc a ρ k
 | a :: b :: es,ρ,_,k=>by simp only [lH,jb,h.e,bind_assoc,m9,jV h (b :: es),d7]
theorem mx (h:EqK r q):∀ (es:List Expr) (ρ:Env) {c:Type} (k:D->M c),orK q lc es ρ k=bind (orE r lc es ρ) k
 | [],_,_,_=>rfl
 | [a],ρ,_,k=>h.e lc a ρ k
 | a :: b :: es,ρ,_,k=>by simp only [orK,orE,h.e,bind_assoc,m9,mx h (b :: es),d7]
theorem dZ (h:EqK r q):∀ (es:List Expr) (ρ:Env) {c:Type} (k:Bool->M c),dS q lc es ρ k=bind (jC r lc es ρ) k
 | [],_,_,_=>rfl
 | [a],ρ,_,k=>h.t lc a ρ k
 | a :: b :: es,ρ,_,k=>by simp only [dS,jC,h.t,bind_assoc,m9,dZ h (b :: es),d7]
theorem jo (h:EqK r q):∀ (es:List Expr) (ρ:Env) {c:Type} (k:Bool->M c),lA q lc es ρ k=bind (orB r lc es ρ) k
 | [],_,_,_=>rfl
 | [a],ρ,_,k=>h.t lc a ρ k
 | a :: b :: es,ρ,_,k=>by simp only [lA,orB,h.t,bind_assoc,m9,jo h (b :: es),d7]
end
def sY:RuE where
 is _ _ e:=match e with
  | .BoolOp _ _ _=>true
  | _=>false
 run r _ _ lc e ρ:=match e with
  | .BoolOp .And es _=>jb r lc es ρ
  | .BoolOp .Or es _=>orE r lc es ρ
  | _=>bad
 ok e R TX h hi:=by
  cases e with
  | BoolOp op es p=>cases op;exact jm R h;exact me R h
  | _=>exact f6
 runK q _ _ lc e ρ _ k:=match e with
  | .BoolOp .And es _=>lH q lc es ρ k
  | .BoolOp .Or es _=>orK q lc es ρ k
  | _=>bad
 eq e ρ _ k h:=by
  cases e with
  | BoolOp op es p=>cases op;exact jV h es ρ k;exact mx h es ρ k
  | _=>rfl
def vS:RuE where
 is _ _ e:=match e with
  | .Compare _ [_] [b] _=>i6 b
  | _=>false
 run r _ _ lc e ρ:=match e with
  | .Compare a [op] [b] _=>bind (r.e lc a ρ) λx=>bind (r.e lc b ρ) λy=>i5 op x y
  | _=>bad
 ok e R TX h hi:=by
  split at hi
  ·exact pS (R.ex h _) (R.ex h _) (gm h _) (q5 hi)
  ·cases hi
 runK q _ _ lc e ρ _ k:=match e with
  | .Compare a [op] [b] _=>q.e lc a ρ λx=>q.e lc b ρ λy=>bind (i5 op x y) k
  | _=>bad
 eq e ρ _ k h:=by
  split
  ·simp only [h.e,bind_assoc]
  ·first
   | rfl
   | (rename_i c;split;exact (c _ _ _ _ rfl).elim;rfl)
def rIf:RuE where
 is _ _ e:=match e with
  | .IfExp _ _ _ _=>true
  | _=>false
 run r _ _ lc e ρ:=match e with
  | .IfExp c a b _=>bind (r.t lc c ρ) λq=>if q=true then r.e lc a ρ else r.e lc b ρ
  | _=>bad
 ok e R TX h hi:=by
  cases e with
  | IfExp c a b p=>exact qX (R.tx h _) (R.ex h _) (R.ex h _)
  | _=>exact f6
 runK q _ _ lc e ρ _ k:=match e with
  | .IfExp c a b _=>q.t lc c ρ λz=>if z=true then q.e lc a ρ k else q.e lc b ρ k
  | _=>bad
 eq e ρ _ k h:=by
  cases e with
  | IfExp c a b p=>simp only [h.e,h.t,bind_assoc,m9]
  | _=>rfl
def vD:RuE where
 is _ _ e:=match e with
  | .Tuple es _ _=>es.all noStar
  | _=>false
 run r _ _ lc e ρ:=match e with
  | .Tuple es _ _=>bind (o8 r lc es ρ) pY
  | _=>bad
 ok e R TX h hi:=by
  cases e with
  | Tuple es n p=>exact ni (k0 R h hi)
  | _=>exact f6
 runK q _ _ lc e ρ _ k:=match e with
  | .Tuple es _ _=>u7 q lc es ρ λds=>bind (pY ds) k
  | _=>bad
 eq e ρ _ k h:=by
  cases e with
  | Tuple es n p=>simp only [j5 h,bind_assoc]
  | _=>rfl
def vY:RuE where
 is _ _ e:=match e with
  | .List es _=>es.all noStar
  | _=>false
 run r _ _ lc e ρ:=match e with
  | .List es _=>bind (o8 r lc es ρ) nO
  | _=>bad
 ok e R TX h hi:=by
  cases e with
  | List es p=>exact pg (k0 R h hi)
  | _=>exact f6
 runK q _ _ lc e ρ _ k:=match e with
  | .List es _=>u7 q lc es ρ λds=>bind (nO ds) k
  | _=>bad
 eq e ρ _ k h:=by
  cases e with
  | List es p=>simp only [j5 h,bind_assoc]
  | _=>rfl
def T8 (r:Ev) (a:Lc):List (Option Expr)->List Expr->List ((Env->M D)×(Env->M D))
 | some k :: b,v :: vs=>(r.e a k,r.e a v) :: T8 r a b vs
 | _,_=>[]
def Y6 (q:EvK) (c:Lc) {d:Type}:List (Option Expr)->List Expr->Env->(List (D×D)->M d)->M d
 | some x :: e,v :: vs,ρ,k=>q.e c x ρ λa=>q.e c v ρ λb=>Y6 q c e vs ρ λps=>k ((a,b) :: ps)
 | _,_,_,k=>k []
theorem aw (R:EvOk T k r) (h:CxOk T k lc X):∀ {b:List (Option Expr)} {vs:List Expr},b.all (·.isSome)=true->b.length=vs.length->PPs X pos b vs ((T8 r lc b vs).map λd=>(tD X.K T.cl (xOf X) d.1,tD X.K T.cl (xOf X) d.2))
 | [],[],_,_=>cz
 | [],_ :: _,_,a=>by simp at a
 | _ :: _,[],_,a=>by simp at a
 | none :: _,_ :: _,c,_=>by simp at c
 | some k :: b,v :: vs,c,a=>ax (R.ex h k) (R.ex h v) (aw R h (by simpa using c) (by simpa using a))
theorem ag (h:EqK r q):∀ (c:List (Option Expr)) (vs:List Expr) (ρ:Env) {d:Type} (k:List (D×D)->M d),Y6 q lc c vs ρ k=bind (m3 (T8 r lc c vs) ρ) k
 | [],_,_,_,_=>rfl
 | none :: _,_,_,_,_=>rfl
 | some _ :: _,[],_,_,_=>rfl
 | some x :: c,v :: vs,ρ,_,k=>by
  simp only [Y6,T8,m3,h.e,bind_assoc];congr;funext a;congr;funext b;rw [ag h c vs ρ];rfl
def vH:RuE where
 is _ _ e:=match e with
  | .Dict ks vs _=>ks.all (·.isSome)&&decide (ks.length=vs.length)&&decide (0<ks.length)&&decide (ks.length<=15)
  | _=>false
 run r _ _ lc e ρ:=match e with
  | .Dict ks vs _=>bind (m3 (T8 r lc ks vs) ρ) cT
  | _=>bad
 ok e R TX h hi:=by
  cases e with
  | Dict ks vs p=>
   simp only [Ak,AG] at hi;exact ke (aw R h hi.1.1.1 hi.1.1.2) hi.1.1.1 hi.1.1.2 (by intro z;rw [z] at hi;simp at hi) hi.2
  | _=>exact f6
 runK q _ _ lc e ρ _ k:=match e with
  | .Dict ks vs _=>Y6 q lc ks vs ρ λps=>bind (cT ps) k
  | _=>bad
 eq e ρ _ k h:=by
  cases e with
  | Dict ks vs p=>simp only [ag h,bind_assoc]
  | _=>rfl
def rIx:RuE where
 is _ _ e:=match e with
  | .Subscript _ i _=>p8 i
  | _=>false
 run r _ _ lc e ρ:=match e with
  | .Subscript a i _=>bind (r.e lc a ρ) λx=>bind (r.e lc i ρ) λy=>ixD x y
  | _=>bad
 ok e R TX h hi:=by
  cases e with
  | Subscript a i p=>exact tK (R.ex h _) (R.ex h _) (uP h.u1) (bq hi)
  | _=>exact f6
 runK q _ _ lc e ρ _ k:=match e with
  | .Subscript a i _=>q.e lc a ρ λx=>q.e lc i ρ λy=>bind (ixD x y) k
  | _=>bad
 eq e ρ _ k h:=by
  cases e with
  | Subscript a i p=>simp only [h.e,bind_assoc]
  | _=>rfl
def bV (r:Ev) (a:Lc) (o:Option Expr) (ρ:Env):M (Option Int):=match o with
 | none=>ret none
 | some e=>bind (r.e a e ρ) y9
def dy (q:EvK) (b:Lc) {a:Type} (o:Option Expr) (ρ:Env) (k:Option Int->M a):M a:=match o with
 | none=>k none
 | some e=>q.e b e ρ λd=>bind (y9 d) k
theorem mE (h:EqK r q) (o:Option Expr) (ρ:Env) {a:Type} (k:Option Int->M a):dy q lc o ρ k=bind (bV r lc o ρ) k:=by
 cases o with
 | none=>rfl
 | some e=>simp only [dy,bV,h.e,bind_assoc]
theorem dF (R:EvOk T k r) (h:CxOk T k lc X) {o:Option Expr}:PO X o (tPt X.K T.cl (xOf X) (bV r lc o)):=by
 cases o with
 | none=>exact kh
 | some e=>exact kl (R.ex h e)
def rSl:RuE where
 is _ _ e:=match e with
  | .Subscript _ (.Slice _ _ none _) _=>true
  | _=>false
 run r _ _ lc e ρ:=match e with
  | .Subscript a (.Slice lo b none _) _=>bind (r.e lc a ρ) λd=>bind (bV r lc lo ρ) λl=>bind (bV r lc b ρ) λu=>slD d l u
  | _=>bad
 ok e R TX h b:=by
  split at b
  ·exact rY (R.ex h _) (dF R h) (dF R h)
  ·cases b
 runK q _ _ lc e ρ _ k:=match e with
  | .Subscript a (.Slice lo b none _) _=>q.e lc a ρ λd=>dy q lc lo ρ λl=>dy q lc b ρ λu=>bind (slD d l u) k
  | _=>bad
 eq e ρ _ k h:=by
  split
  ·simp only [h.e,mE h,bind_assoc]
  ·first
   | rfl
   | (rename_i c;split;exact (c _ _ _ _ _ rfl).elim;rfl)
def qD:RuT where
 is _ _ e:=match e with
  | .UnaryOp .Not _ _=>true
  | _=>false
 run r _ _ lc e ρ:=match e with
  | .UnaryOp .Not a _=>bind (r.t lc a ρ) λq=>ret (!q)
  | _=>bad
 ok e R TX h hi:=by
  split at hi
  ·exact oW (R.tx h _)
  ·cases hi
 runK q _ _ lc e ρ _ k:=match e with
  | .UnaryOp .Not a _=>q.t lc a ρ λc=>k (!c)
  | _=>bad
 eq e ρ _ k h:=by
  split
  ·simp only [h.t,bind_assoc,d7]
  ·first
   | rfl
   | (rename_i b;split;exact (b _ _ rfl).elim;rfl)
def tL:RuT where
 is _ _ e:=match e with
  | .BoolOp _ _ _=>true
  | _=>false
 run r _ _ lc e ρ:=match e with
  | .BoolOp .And es _=>jC r lc es ρ
  | .BoolOp .Or es _=>orB r lc es ρ
  | _=>bad
 ok e R TX h hi:=by
  cases e with
  | BoolOp op es p=>cases op;exact (dj R h).pt;exact (jO R h).pt
  | _=>exact cA
 runK q _ _ lc e ρ _ k:=match e with
  | .BoolOp .And es _=>dS q lc es ρ k
  | .BoolOp .Or es _=>lA q lc es ρ k
  | _=>bad
 eq e ρ _ k h:=by
  cases e with
  | BoolOp op es p=>cases op;exact dZ h es ρ k;exact jo h es ρ k
  | _=>rfl
def uH:RuT where
 is _ _ e:=match e with
  | .Compare _ [_] [b] _=>i6 b
  | _=>false
 run r _ _ lc e ρ:=match e with
  | .Compare a [op] [b] _=>bind (r.e lc a ρ) λx=>bind (r.e lc b ρ) λy=>bind (i5 op x y) asB
  | _=>bad
 ok e R TX h hi:=by
  split at hi
  ·exact O0 (R.ex h _) (R.ex h _) (gm h _) (q5 hi)
  ·cases hi
 runK q _ _ lc e ρ _ k:=match e with
  | .Compare a [op] [b] _=>q.e lc a ρ λx=>q.e lc b ρ λy=>bind (i5 op x y) λd=>bind (asB d) k
  | _=>bad
 eq e ρ _ k h:=by
  split
  ·simp only [h.e,bind_assoc]
  ·first
   | rfl
   | (rename_i c;split;exact (c _ _ _ _ rfl).elim;rfl)
def oR:RuT where
 is _ _ e:=w5 e
 run r _ _ lc e ρ:=bind (r.e lc e ρ) t9
 ok e R TX h hi:=hF (R.ex h _) hi
 runK q _ _ lc e ρ _ k:=q.e lc e ρ λd=>bind (t9 d) k
 eq e ρ _ k h:=by simp only [h.e,bind_assoc]
def qQ (Γ:Gm) (x:Str) (p:Nat->Nat->Bool):Bool:=match Γ.gl.lookup x with
 | some (.fn i n)=>p i n
 | _=>false
theorem mC (h:qQ Γ x p=true):∃ i n,Γ.gl.lookup x=some (.fn i n)/\p i n=true:=by
 unfold qQ at h;grind
def rFn:RuE where
 is Γ lc e:=match e with
  | .Call (.Name x _) es [] _=>A0 x&&glB lc.sc x&&es.all noStar&&!quiet lc&&qQ Γ x λi n=>decide (es.length=n)&&decide (i∉Γ.qs)
  | _=>false
 run r Γ C lc e ρ:=match e with
  | .Call (.Name x _) es [] _=>(match Γ.gl.lookup x with
   | some (.fn i n)=>bind (o8 r lc es ρ) λds=>if ds.length=n then C i ds else bad
   | _=>bad)
  | _=>bad
 ok {T k r Γ C lc X} e R TX h hi:=by
  split at hi
  ·rename_i x p es pos;simp only [Ak,Bc] at hi;obtain ⟨⟨⟨⟨w,m⟩,c⟩,f⟩,v⟩:=hi;obtain ⟨s,E,D⟩:=K9 w;obtain ⟨i,n,l,b⟩:=mC v;simp at b;obtain ⟨a,fd,ps,B,A,y,z,u⟩:=(TX.fn x i n l b.2).ex;have F:FnOk X.prog X.w X.K X.mg X.base (CXd X.prog X.w X.K) k a fd ps (spX X.K T.cl n (C i)):=by rw [h.prog,h.w,h.K,h.mg,h.base];exact A
   have d:PySem.W.keepIn X.K (.ref a)=true:=by rw [h.K];exact z
   have j:Binds X.K fd ps []:=by rw [h.K];exact u
   have o:X.mg x=some (.ref a):=by rw [h.mg];exact y
   show PE X _ (tD X.K T.cl (xOf X) λρ=>(match Γ.gl.lookup x with
    | some (.fn i n)=>bind (o8 r lc es ρ) λds=>if ds.length=n then C i ds else bad
    | _=>bad))
   rw [l]
   match es,c,b with
   | [],_,b=>
    have:=b.1.symm;subst this;exact fM F (h.room0 f) (h.gl m) o d j s
   | e :: es,c,_=>exact iG F (h.room0 f) (h.gl m) o d j (k0 R h c) s c
  ·cases hi
 runK q Γ C lc e ρ _ k:=match e with
  | .Call (.Name x _) es [] _=>(match Γ.gl.lookup x with
   | some (.fn i n)=>u7 q lc es ρ λds=>if ds.length=n then bind (C i ds) k else bad
   | _=>bad)
  | _=>bad
 eq {r q Γ C lc} e ρ _ k h:=by
  split
  ·rename_i x p es pos;cases Γ.gl.lookup x with
   | none=>rfl
   | some g=>cases g <;> first | rfl | simp only [j5 h,bind_assoc,m9,bD]
  ·first
   | rfl
   | (rename_i t;split;exact (t _ _ _ _ rfl).elim;rfl)
def eP (r:Ev) (Γ:Gm) (a:Lc) (x:Str) (es:List Expr) (ρ:Env):M D:=match Γ.gl.lookup x with
 | some (.err c fs)=>(match fs with
  | []=>bind (o8 r a es ρ) (gS c)
  | [g]=>bind (o8 r a es ρ) (aK c [g])
  | [g,b]=>bind (o8 r a es ρ) (aK c [g,b])
  | _=>bad)
 | _=>bad
def lb (q:EvK) (Γ:Gm) (a:Lc) (x:Str) (es:List Expr) (ρ:Env) {b:Type} (k:D->M b):M b:=match Γ.gl.lookup x with
 | some (.err c fs)=>(match fs with
  | []=>u7 q a es ρ λds=>bind (gS c ds) k
  | [g]=>u7 q a es ρ λds=>bind (aK c [g] ds) k
  | [g,d]=>u7 q a es ρ λds=>bind (aK c [g,d] ds) k
  | _=>bad)
 | _=>bad
theorem hR (h:EqK r q) (x:Str) (es:List Expr) (ρ:Env) {α:Type} (k:D->M α):lb q Γ lc x es ρ k=bind (eP r Γ lc x es ρ) k:=by
 unfold lb eP;cases Γ.gl.lookup x with
 | none=>rfl
 | some g=>
  cases g with
  | err c fs=>
   match fs with
   | []=>simp only [j5 h,bind_assoc]
   | [g]=>simp only [j5 h,bind_assoc]
   | [g,g2]=>simp only [j5 h,bind_assoc]
   | _ :: _ :: _ :: _=>rfl
  | _=>rfl
theorem eC {C:Cf} {lc:Lc} {X:Cx} {x:Str} {p pos:Pos} {e:Expr} {es:List Expr} (R:EvOk T k r) (TX:TxOk T Γ k C) (h:CxOk T k lc X) (c1:A0 x=true) (c2:glB lc.sc x=true) (c3:(e :: es).all noStar=true) (c4:quiet lc=false) :
  PE X (.Call (.Name x p) (e :: es) [] pos) (tDf X.K T.cl (xOf X) (eP r Γ lc x (e :: es))):=by
 have bd:PE X (.Call (.Name x p) (e :: es) [] pos) (tDf X.K T.cl (xOf X) λρ=>bad):=λ_ _ _ _ _ _ ⟨_,_,_,_,_,z⟩=>z.elim;obtain ⟨n1,n2,n3⟩:=K9 c1;have ha:=k0 R h c3;unfold eP;cases e1:Γ.gl.lookup x with
 | none=>exact bd
 | some g=>
  cases g with
  | val d=>exact bd
  | fn i n=>exact bd
  | dct kvs=>exact bd
  | err c fs=>
   obtain ⟨ea,na⟩:=TX.err x c fs e1;obtain ⟨f,fd,ps,g1,g2,g3,g4⟩:=ea.ex;have xc:XC X.K (T.cl c):=by rw [h.K];exact ea.xc
   have hm:X.mg x=some (.ref (T.cl c)):=by rw [h.mg];exact ea.mg_
   have hr:=(h.room0 c4).mono TX.k3;have hi:PySem.W.findIn X.K (.ref (T.cl c)) "__init__" = some (some (.ref f)):=by rw [h.K];exact g1
   have hf:PySem.W.isFn X.K (.ref f)=true:=by rw [h.K];exact g2
   have hb:Binds X.K fd ps []:=by rw [h.K];exact g3
   match fs,g4,na with
   | [],g4,na=>exact ii xc hi hf (by rw [h.prog,h.w,h.K,h.mg,h.base];exact g4) hr (h.gl c2) hm hb dP ha n1 c3
   | [g],g4,na=>exact jR xc (by rw [h.K];exact na g (by simp)) hi hf (by rw [h.prog,h.w,h.K,h.mg,h.base];exact g4) hr (h.gl c2) hm hb dP ha n1 c3
   | [g,g'],g4,na=>exact ij xc (by rw [h.K];exact na g (by simp)) (by rw [h.K];exact na g' (by simp)) hi hf (by rw [h.prog,h.w,h.K,h.mg,h.base];exact g4) hr (h.gl c2) hm hb dP ha n1 c3
   | _ :: _ :: _ :: _,g4,_=>exact g4.elim
def uX (Γ:Gm) (x:Str):Bool:=match Γ.gl.lookup x with
 | some (.err _ _)=>true
 | _=>false
def vR:RuE where
 is Γ lc e:=match e with
  | .Call (.Name x _) (a :: es) [] _=>A0 x&&glB lc.sc x&&(a :: es).all noStar&&!quiet lc&&uX Γ x
  | _=>false
 run r Γ C lc e ρ:=match e with
  | .Call (.Name x _) (a :: es) [] _=>eP r Γ lc x (a :: es) ρ
  | _=>bad
 ok {T k r Γ C lc X} e R TX h hi:=by
  split at hi
  ·simp only [Ak,Bc] at hi;exact PE.unf (eC R TX h hi.1.1.1.1 hi.1.1.1.2 hi.1.1.2 hi.1.2)
  ·cases hi
 runK q Γ C lc e ρ _ k:=match e with
  | .Call (.Name x _) (a :: es) [] _=>lb q Γ lc x (a :: es) ρ k
  | _=>bad
 eq {r q Γ C lc} e ρ _ k h:=by
  split
  ·exact hR h _ _ ρ k
  ·first
   | rfl
   | (rename_i b;split;exact (b _ _ _ _ _ rfl).elim;rfl)
def bE (x:Str) (c:Bool) (Γ:Gm) (b:Lc) (e:Expr):Bool:=match e with
 | .Call (.Name f _) (a :: es) [] _=>decide (f=x)&&(a :: es).all noStar&&(Γ.gl.lookup x).isNone&&glB b.sc x&&!(c&&quiet b)
 | _=>false
def iO (g:List D->M D) (r:Ev) (b:Lc) (e:Expr) (ρ:Env):M D:=match e with
 | .Call (.Name _ _) (a :: es) [] _=>bind (o8 r b (a :: es) ρ) g
 | _=>bad
def gb (g:List D->M D) (q:EvK) (c:Lc) (e:Expr) (ρ:Env) {b:Type} (k:D->M b):M b:=match e with
 | .Call (.Name _ _) (a :: es) [] _=>u7 q c (a :: es) ρ λds=>bind (g ds) k
 | _=>bad
theorem cN (g:List D->M D) {r:Ev} {q:EvK} {a:Lc} (e:Expr) (ρ:Env) {c:Type} (k:D->M c) (h:EqK r q):gb g q a e ρ k=bind (iO g r a e ρ) k:=by
 unfold gb iO;split
 ·simp only [j5 h,bind_assoc]
 ·first
  | rfl
  | (rename_i b;split;exact (b _ _ _ _ _ rfl).elim;rfl)
theorem aW {d:Bool} {Γ:Gm} {b:Lc} {e:Expr} (h:bE x d Γ b e=true):∃ p a es pos,e=.Call (.Name x p) (a :: es) [] pos/\(a :: es).all noStar=true/\Γ.gl.lookup x=none/\glB b.sc x=true/\(d=true->quiet b=false):=by
 unfold bE at h;split at h
 ·simp only [Ak,AG,Bt,Bc] at h;obtain ⟨⟨⟨⟨rfl,f⟩,g⟩,i⟩,c⟩:=h;refine ⟨_,_,_,_,rfl,f,g,i,λz=>?_⟩;rw [z] at c;simpa using c
 ·cases h
def rBf (x:Str) (id:String) (ld:Bool) (g:List D->M D) (hx:x∈bnames/\x ≠ "__name__"/\(x==("__debug__" : Str))=false) (hv:bootBuiltins x=some (.builtin id))
  (hc:∀ {T:Tx} {k:Nat} {lc:Lc} {X:Cx} {cl:ClW} {xe:Addr->Hp->Prop},CxOk T k lc X->(ld=true->X.calm=true)->A4 X (.builtin id) (rPs X.K cl xe g)):RuE where
 is:=bE x ld
 run r _ _ lc e ρ:=iO g r lc e ρ
 ok {T k r Γ C lc X} e R TX h hi:=by
  obtain ⟨p,a,es,pos,rfl,h1,h2,h3,h4⟩:=aW hi;exact ab (hc h λz=>h.calm (h4 z)) (h.gl h3) (TX.none h hx.1 h2) hv (k0 R h h1) hx.2.1 hx.2.2 h1
 runK q _ _ lc e ρ _ k:=gb g q lc e ρ k
 eq e ρ _ k h:=cN g e ρ k h
def tm:RuE:=rBf "len" "len" false (one P1) (by decide) PySem.boot_len λ_ _=>mh
def si:RuE:=rBf "repr" "repr" false (one t6) (by decide) rfl λh _=>pX h.room.gd h.u64
def kg:RuE where
 is Γ lc e:=match e with
  | .Call (.Name x _) [.Call (.Name y _) [a] [] _] [] _=>decide (x = "list")&&decide (y = "range")&&(Γ.gl.lookup ("list" : Str)).isNone&&(Γ.gl.lookup ("range" : Str)).isNone&&glB lc.sc "list" && glB lc.sc "range" && !quiet lc&&noStar a
  | _=>false
 run r _ _ lc e ρ:=match e with
  | .Call (.Name _ _) [.Call (.Name _ _) [a] [] _] [] _=>bind (r.e lc a ρ) B6
  | _=>bad
 ok {T k r Γ C lc X} e R TX h hi:=by
  split at hi
  ·simp only [Ak,AG,Bt,Bc] at hi;obtain ⟨⟨⟨⟨⟨⟨⟨rfl,rfl⟩,l⟩,b⟩,g⟩,j⟩,i⟩,f⟩:=hi;exact fP (h.calm i) (h.gl g) (TX.none h (by decide) l) (h.gl j) (TX.none h (by decide) b) (R.ex h _) f
  ·cases hi
 runK q _ _ lc e ρ _ k:=match e with
  | .Call (.Name _ _) [.Call (.Name _ _) [a] [] _] [] _=>q.e lc a ρ λd=>bind (B6 d) k
  | _=>bad
 eq e ρ _ k h:=by
  split
  ·simp only [h.e,bind_assoc]
  ·first
   | rfl
   | (rename_i c;split;exact (c _ _ _ _ _ _ _ rfl).elim;rfl)
def qW (n:Nat) (Γ:Gm) (a:Lc) (e:Expr):Bool:=match e with
 | .Call (.Name f _) es [] _=>decide (f = "range")&&decide (es.length=n)&&es.all noStar&&(Γ.gl.lookup ("range" : Str)).isNone&&glB a.sc "range"
 | _=>false
def rgE (n:Nat) (r:Ev) (a:Lc) (e:Expr) (ρ:Env):M (Src×Nat):=match e with
 | .Call (.Name _ _) es [] _=>bind (o8 r a es ρ) λds=>if ds.length=n then M4 ds else bad
 | _=>bad
def rgK (n:Nat) (q:EvK) (b:Lc) (e:Expr) (ρ:Env) {a:Type} (k:Src×Nat->M a):M a:=match e with
 | .Call (.Name _ _) es [] _=>u7 q b es ρ λds=>if ds.length=n then bind (M4 ds) k else bad
 | _=>bad
theorem tF (n:Nat) {r:Ev} {q:EvK} {a:Lc} (e:Expr) (ρ:Env) {b:Type} (k:Src×Nat->M b) (h:EqK r q):rgK n q a e ρ k=bind (rgE n r a e ρ) k:=by
 unfold rgK rgE;split
 ·simp only [j5 h,bind_assoc,m9,bD]
 ·first
  | rfl
  | (rename_i c;split;exact (c _ _ _ _ rfl).elim;rfl)
def lT:RuI where
 is Γ lc _ e:=qW 1 Γ lc e
 run r _ _ lc e ρ:=rgE 1 r lc e ρ
 ok {T k r Γ C lc X} g e R TX h hi:=by
  unfold qW at hi;split at hi
  ·rename_i f p es pos;simp only [Ak,AG,Bt] at hi;obtain ⟨⟨⟨⟨rfl,c⟩,b⟩,i⟩,d⟩:=hi
   match es,c,b with
   | [a],_,b=>exact cQ (h.gl d) (TX.none h (by decide) i) (k0 R h b) (by simpa using b)
  ·cases hi
 runK q _ _ lc e ρ _ k:=rgK 1 q lc e ρ k
 eq e ρ _ k h:=tF 1 e ρ k h
def sS:RuI where
 is Γ lc g e:=match g,e with
  | .Tuple _ _ _,.Call (.Name f _) [a] [] _=>decide (f = "enumerate")&&noStar a&&(Γ.gl.lookup ("enumerate" : Str)).isNone&&glB lc.sc "enumerate"
  | _,_=>false
 run r _ _ lc e ρ:=match e with
  | .Call (.Name _ _) [a] [] _=>bind (o8 r lc [a] ρ) λds=>(match ds with
   | [d]=>dq d
   | _=>bad)
  | _=>bad
 ok {T k r Γ C lc X} g e R TX h hi:=by
  split at hi
  ·simp only [Ak,AG,Bt] at hi;obtain ⟨⟨⟨rfl,b⟩,c⟩,j⟩:=hi;exact ik (h.gl j) (TX.none h (by decide) c) (k0 R h (by simpa using b)) b
  ·cases hi
 runK q _ _ lc e ρ _ k:=match e with
  | .Call (.Name _ _) [a] [] _=>u7 q lc [a] ρ λds=>(match ds with
   | [d]=>bind (dq d) k
   | _=>bad)
  | _=>bad
 eq e ρ _ k h:=by
  split
  ·simp only [j5 h,bind_assoc];congr;funext ds
   match ds with
   | []=>rfl
   | [_]=>rfl
   | _ :: _ :: _=>rfl
  ·first
   | rfl
   | (rename_i i;split;exact (i _ _ _ _ rfl).elim;rfl)
def vM:RuI where
 is _ _ _ _:=true
 run r _ _ lc e ρ:=bind (r.e lc e ρ) j9
 ok g e R TX h hi:=kR (R.ex h e)
 runK q _ _ lc e ρ _ k:=q.e lc e ρ λd=>bind (j9 d) k
 eq e ρ _ k h:=by simp only [h.e,bind_assoc]
def cc (a b:Scope):Scope:={ a with names:=a.names.map λ(n,k)=>if (k==.free&&b.kind==.function&&b.names.lookup n==some .cell) then (n,NameKind.cell) else (n,k) }
theorem fE (a:Scope) (b:PySem.Env):relabel a b=cc a b.scope:=rfl
def c7 (a:Scope):List Str:=(a.names.filter λy=>y.2==.free).map (·.1)
def k5 (b:Lc) (a:Scope) (xs:List Str):Bool:=
 decide (a.kind=.function)&&a.names.all (λy=>decide (y.2≠.cell))&&a.names.all (λy=>decide (y.2=.local->a.names.lookup y.1=some .local))
  && a.names.all (λy=>decide (y.2=.free->a.names.lookup y.1=some .free/\(b.sc.names.lookup y.1=some .cell\/b.sc.names.lookup y.1=some .free)))
  && (c7 a).all (λz=>decide (a.names.lookup z=some .free))&&decide ((xs++c7 a).Nodup)&&xs.all (λx=>decide (a.names.lookup x=some .local))&&!quiet b
theorem bC:∀ {xs:List α} {ys:List β},h7 f xs=some ys->ys.length=xs.length
 | [],_,e=>by cases e;rfl
 | x :: xs,ys,e=>by
  simp only [h7] at e;cases a:f x with
  | none=>rw [a] at e;cases e
  | some y=>
   cases b:h7 f xs with
   | none=>grind
   | some c=>rw [a,b] at e;cases e;simp [bC b]
theorem bM:∀ {xs:List α} {ys:List β} {j:Nat} {y:β},h7 f xs=some ys->ys[j]?=some y->∃ x,xs[j]?=some x/\f x=some y
 | [],_,_,_,e,h=>by cases e;simp at h
 | x :: xs,ys,j,y,e,h=>by
  simp only [h7] at e;cases a:f x with
  | none=>rw [a] at e;cases e
  | some z=>
   cases b:h7 f xs with
   | none=>grind
   | some c=>
    rw [a,b] at e;cases e;cases j with
    | zero=>grind
    | succ j=>simpa using bM b (by simpa using h)
def b8 (b:Lc) (a:Scope) (xs:List Str):Lc:=⟨xs++c7 a,cc a b.sc,false,[]⟩
def testsE (r:Ev) (a:Lc) (ifs:List Expr) (ρ:Env):M Bool:=match ifs with
 | []=>ret true
 | [c]=>r.t a c ρ
 | _=>bad
def testsK (q:EvK) (a:Lc) (ifs:List Expr) (ρ:Env):M Bool:=match ifs with
 | []=>ret true
 | [c]=>q.t a c ρ ret
 | _=>bad
theorem tests_eq (h:EqK r q) (ifs:List Expr) (ρ:Env):testsK q lc ifs ρ=testsE r lc ifs ρ:=by
 match ifs with
 | []=>rfl
 | [c]=>simp only [testsK,testsE,h.t,m7]
 | _ :: _ :: _=>rfl
section
variable {T:Tx} {k:Nat} {r:Ev} {q:EvK} {Γ:Gm} {C:Cf} {lc:Lc} {X:Cx}
theorem tests_ok (R:EvOk T k r) (h:CxOk T k lc X) {ifs:List Expr}:PTL X ifs (tBo X.K T.cl (xOf X) (testsE r lc ifs)):=by
 match ifs with
 | []=>exact eX
 | [c]=>exact ko (R.tx h c)
 | _ :: _ :: _=>exact λ_ _ _ _ _ _ ⟨_,_,_,_,_,p⟩=>p.elim
theorem v9 (h:CxOk T k lc X) {a:Scope} {xs:List Str} {caps:List Nat} (f:k5 lc a xs=true) (c:h7 (c9 lc.N) (c7 a)=some caps):CompText X.N X.env (xs++c7 a) xs.length caps a/\(xs++c7 a).Nodup/\(∀ x∈xs,a.names.lookup x=some .local)/\quiet lc=false/\a.kind=.function:=by
 simp only [k5,Ak,AG,AN,Bc] at f;obtain ⟨⟨⟨⟨⟨⟨⟨b,s⟩,o⟩,r⟩,l⟩,n⟩,t⟩,p⟩:=f;refine ⟨⟨b,s,o,λy m q=>?_,λj i e=>?_,?_⟩,n,t,p,b⟩
 ·rw [h.sc];exact r y m q
 ·obtain ⟨z,d,g⟩:=bM c e;refine ⟨z,by rw [h.N];exact t8 g,?_,l z (AL d)⟩;rw [AA (by omega)];simpa using d
 ·simp [bC c,Nat.add_comm]
theorem i3 (h:CxOk T k lc X) (b:quiet lc=false) {a:Scope} {xs:List Str} (d:a.kind=.function) (e:(xs++c7 a).Nodup) (pins:List (Addr×Obj)) (C:Addr) (c:List Addr) (s:Shared) (H:Hp):CxOk T k (b8 lc a xs) (cxComp X pins (xs++c7 a) a C c s H):=
 ⟨h.prog,h.w,h.K,h.mg,h.base,rfl,e,by show relabel a X.env=cc a lc.sc;rw [fE,h.sc],λ_=>h.calm b,(by have:=h.room;rw [b] at this;exact this),PassesOwn.never,rfl,d,λz=>Bool.noConfusion z⟩
end
def j6 (src:Src) (t:D->M Bool) (f:D->M D):Nat->Nat->List D->M (List D)
 | 0,_,_=>bad
 | m+1,i,es=>λS=>match src i S with
  | none=>.bad
  | some none=>.ok es S
  | some (some d)=>bind (t d) (λb=>if b=true then bind (f d) (λy=>if es.length<sizeLine then j6 src t f m (i+1) (es++[y]) else bad) else j6 src t f m (i+1) es) S
theorem R7 (src:Src) (t:Env->M Bool) (f:Env->M D) (mk:D->Env):∀ m i es,k4 src t f mk m i es=j6 src (λd=>t (mk d)) (λd=>f (mk d)) m i es
 | 0,_,_=>rfl
 | m+1,i,es=>by
  funext S;simp only [k4,j6,R7 src t f mk m]
  all_goals (cases src i S with
  | none=>rfl
  | some o=>cases o <;> rfl)
def A7 (r:Ev) (c:Lc) (d:Expr) (x:Str) (e:Pos) (b:Expr) (ifs:List Expr) (a:Scope) (ρ:Env):M (List D):=match h7 (c9 c.N) (c7 a) with
 | some caps=>nx (W7 caps (r.i c (.Name x e) b) (testsE r (b8 c a [x]) ifs) (r.e (b8 c a [x]) d) ρ)
 | none=>bad
def aI (q:EvK) (c:Lc) (e:Expr) (x:Str) (h:Pos) (b:Expr) (ifs:List Expr) (a:Scope) (ρ:Env) {f:Type} (k:List D->M f):M f:=match h7 (c9 c.N) (c7 a) with
 | some caps=>bind (nx (q.i c (.Name x h) b ρ λg=>j6 g.1 (λd=>testsK q (b8 c a [x]) ifs (some d :: w9 caps ρ)) (λd=>q.e (b8 c a [x]) e (some d :: w9 caps ρ) ret) g.2 0 [])) k
 | none=>bad
theorem ao (h:EqK r q) (c:Expr) (x:Str) (d:Pos) (b:Expr) (ifs:List Expr) (a:Scope) (ρ:Env) {e:Type} (k:List D->M e):aI q lc c x d b ifs a ρ k=bind (A7 r lc c x d b ifs a ρ) k:=by
 unfold aI A7;cases h7 (c9 lc.N) (c7 a) with
 | none=>rfl
 | some caps=>simp only [h.i,h.e,m7,tests_eq h,W7,R7]
theorem gC (R:EvOk T k r) (h:CxOk T k lc X) {c:Expr} {x:Str} {g pos:Pos} {b:Expr} {ifs:List Expr} {a:Scope} (m:k5 lc a [x]=true) (o:i6 b=true) :
  PE X (.ListComp c [⟨.Name x g,b,ifs,0⟩] a pos) (tD X.K T.cl (xOf X) λρ=>bind (A7 r lc c x g b ifs a ρ) λds=>ret (.lst ds)):=by
 unfold A7;cases l:h7 (c9 lc.N) (c7 a) with
 | none=>exact f6
 | some caps=>
  obtain ⟨n,e,j,f,i⟩:=v9 h m l;refine dG (hE n (h.calm f) e rfl (j x (by simp)) (PI.x0 (R.ix h _ _)) (λpins C d s H=>?_) (λpins C d s H=>?_) o)
  ·exact PTL.x0 (tests_ok R (i3 h f i e pins C d s H))
  ·exact PE.x0 (R.ex (i3 h f i e pins C d s H) c)
def nZ:RuE where
 is _ lc e:=match e with
  | .ListComp _ [⟨.Name x _,b,_,0⟩] a _=>k5 lc a [x]&&i6 b
  | _=>false
 run r _ _ lc e ρ:=match e with
  | .ListComp c [⟨.Name x d,b,ifs,0⟩] a _=>bind (A7 r lc c x d b ifs a ρ) λds=>ret (.lst ds)
  | _=>bad
 ok e R TX h hi:=by
  split at hi
  ·rw [Ak] at hi;exact gC R h hi.1 hi.2
  ·cases hi
 runK q _ _ lc e ρ _ k:=match e with
  | .ListComp c [⟨.Name x d,b,ifs,0⟩] a _=>aI q lc c x d b ifs a ρ λds=>k (.lst ds)
  | _=>bad
 eq e ρ _ k h:=by
  split
  ·simp only [ao h,bind_assoc,d7]
  ·first
   | rfl
   | (rename_i f;split;exact (f _ _ _ _ _ _ _ rfl).elim;rfl)
def S9 (r:Ev) (c:Lc) (d:Expr) (x y:Str) (f h g:Pos) (e:Nat) (b:Expr) (ifs:List Expr) (a:Scope) (ρ:Env):M (List D):=match h7 (c9 c.N) (c7 a) with
 | some caps=>nx (Y8 caps (r.i c (.Tuple [.Name x f,.Name y h] e g) b) (testsE r (b8 c a [x,y]) ifs) (r.e (b8 c a [x,y]) d) ρ)
 | none=>bad
def cU (q:EvK) (c:Lc) (e:Expr) (x y:Str) (i l j:Pos) (h:Nat) (b:Expr) (ifs:List Expr) (a:Scope) (ρ:Env) {f:Type} (k:List D->M f):M f:=match h7 (c9 c.N) (c7 a) with
 | some caps=>bind (nx (q.i c (.Tuple [.Name x i,.Name y l] h j) b ρ λg=>j6 g.1 (λd=>kA (testsK q (b8 c a [x,y]) ifs) (mk2 (w9 caps ρ) d)) (λd=>q.e (b8 c a [x,y]) e (mk2 (w9 caps ρ) d) ret) g.2 0 [])) k
 | none=>bad
theorem gL (h:EqK r q) (c:Expr) (x y:Str) (f i g:Pos) (d:Nat) (b:Expr) (ifs:List Expr) (a:Scope) (ρ:Env) {j:Type} (k:List D->M j):cU q lc c x y f i g d b ifs a ρ k=bind (S9 r lc c x y f i g d b ifs a ρ) k:=by
 unfold cU S9;cases h7 (c9 lc.N) (c7 a) with
 | none=>rfl
 | some caps=>
  have e:testsK q (b8 lc a [x,y]) ifs=testsE r (b8 lc a [x,y]) ifs:=funext λρ=>tests_eq h ifs ρ;simp only [h.i,h.e,m7,e,Y8,R7]
theorem fm (R:EvOk T k r) (h:CxOk T k lc X) {c:Expr} {x y:Str} {l n m pos:Pos} {i:Nat} {b:Expr} {ifs:List Expr} {a:Scope} (p:k5 lc a [x,y]=true) (t:i6 b=true) :
  PE X (.ListComp c [⟨.Tuple [.Name x l,.Name y n] i m,b,ifs,0⟩] a pos) (tD X.K T.cl (xOf X) λρ=>bind (S9 r lc c x y l n m i b ifs a ρ) λds=>ret (.lst ds)):=by
 unfold S9;cases o:h7 (c9 lc.N) (c7 a) with
 | none=>exact f6
 | some caps=>
  obtain ⟨q,e,g,f,j⟩:=v9 h p o;refine dG (fR q (h.calm f) e rfl rfl (g x (by simp)) (g y (by simp)) (PI.x0 (R.ix h _ _)) (λpins C d s H=>?_) (λpins C d s H=>?_) t)
  ·exact PTL.x0 (tests_ok R (i3 h f j e pins C d s H))
  ·exact PE.x0 (R.ex (i3 h f j e pins C d s H) c)
def qH:RuE where
 is _ lc e:=match e with
  | .ListComp _ [⟨.Tuple [.Name x _,.Name y _] _ _,b,_,0⟩] a _=>k5 lc a [x,y]&&i6 b
  | _=>false
 run r _ _ lc e ρ:=match e with
  | .ListComp c [⟨.Tuple [.Name x f,.Name y i] d g,b,ifs,0⟩] a _=>bind (S9 r lc c x y f i g d b ifs a ρ) λds=>ret (.lst ds)
  | _=>bad
 ok e R TX h hi:=by
  split at hi
  ·rw [Ak] at hi;exact fm R h hi.1 hi.2
  ·cases hi
 runK q _ _ lc e ρ _ k:=match e with
  | .ListComp c [⟨.Tuple [.Name x f,.Name y i] d g,b,ifs,0⟩] a _=>cU q lc c x y f i g d b ifs a ρ λds=>k (.lst ds)
  | _=>bad
 eq e ρ _ k h:=by
  split
  ·simp only [gL h,bind_assoc,d7]
  ·first
   | rfl
   | (rename_i j;split;exact (j _ _ _ _ _ _ _ _ _ _ rfl).elim;rfl)
def oO (m:Str) (e:Expr):Bool:=match e with
 | .Call (.Attribute o n b) (a :: es) [] c=>decide (n=m)&&m8 o&&(a :: es).all noStar&&B5 (a :: es)&&(b.endLine==c.line)
 | _=>false
theorem kF (h:oO m e=true):∃ o b a es c,e=.Call (.Attribute o m b) (a :: es) [] c/\m8 o=true/\(a :: es).all noStar=true/\B5 (a :: es)=true/\(b.endLine==c.line)=true:=by
 unfold oO at h;grind
def mtE {c:Type} (g:D->M c) (op:D->List D->M D) (r:Ev) (b:Lc) (e:Expr) (ρ:Env):M D:=match e with
 | .Call (.Attribute o _ _) (a :: es) [] _=>bind (r.e b o ρ) λx=>bind (g x) λ_=>bind (o8 r b (a :: es) ρ) λds=>op x ds
 | _=>bad
def mtK {d:Type} (g:D->M d) (op:D->List D->M D) (q:EvK) (b:Lc) (e:Expr) (ρ:Env) {c:Type} (k:D->M c):M c:=match e with
 | .Call (.Attribute o _ _) (a :: es) [] _=>q.e b o ρ λx=>bind (g x) λ_=>u7 q b (a :: es) ρ λds=>bind (op x ds) k
 | _=>bad
theorem sC (g:D->M α) (op:D->List D->M D) {r:Ev} {q:EvK} {a:Lc} (e:Expr) (ρ:Env) {b:Type} (k:D->M b) (h:EqK r q):mtK g op q a e ρ k=bind (mtE g op r a e ρ) k:=by
 unfold mtK mtE;split
 ·simp only [h.e,j5 h,bind_assoc]
 ·first
  | rfl
  | (rename_i c;split;exact (c _ _ _ _ _ _ rfl).elim;rfl)
def rMt {α:Type} (m:Str) (g:D->M α) (op:D->List D->M D)
  (ok:∀ {T:Tx} {k:Nat} {lc:Lc} {X:Cx} {xe:Addr->Hp->Prop} {o a:Expr} {es:List Expr} {apos cpos:Pos} {f:Env->M D} {fs:Env->M (List D)},CxOk T k lc X->PE X o (tD X.K T.cl xe f)->PA X (a :: es) (tDs X.K T.cl xe fs)->m8 o=true->(a :: es).all noStar=true->B5 (a :: es)=true->(apos.endLine==cpos.line)=true->PE X (.Call (.Attribute o m apos) (a :: es) [] cpos) (tD X.K T.cl xe λρ=>bind (f ρ) λx=>bind (g x) λ_=>bind (fs ρ) λds=>op x ds)):RuE where
 is _ _ e:=oO m e
 run r _ _ lc e ρ:=mtE g op r lc e ρ
 ok {T k r Γ C lc X} e R TX h hi:=by
  obtain ⟨o,apos,a,es,cpos,rfl,c1,c2,c3,c4⟩:=kF hi;exact ok h (R.ex h o) (k0 R h c2) c1 c2 c3 c4
 runK q _ _ lc e ρ _ k:=mtK g op q lc e ρ k
 eq e ρ _ k h:=sC g op e ρ k h
def uY:RuE:=rMt "get" dctOf getDD λh e d c f a b=>lz PySem.F.plainAttrs_dict Br PySem.F.type_dict_get (gj h.u1) cX jQ e d c f a b
def rAppend:RuE:=rMt "append" lstOf Y0 λ_ e d c f a b=>eV e d c f a b
def rW:RuS where
 is _ _ e:=match e with
  | .Expr e _=>k9 e
  | _=>false
 run r _ _ lc e ρ:=match e with
  | .Expr e _=>bind (r.e lc e ρ) λ_=>ret (.nx ρ)
  | _=>bad
 ok e R TX h hf hi:=by
  cases e with
  | Expr e p=>exact jX (R.ex h _) hi
  | _=>exact J4
 runK q _ _ lc e ρ _ k:=match e with
  | .Expr e _=>q.e lc e ρ λ_=>k (.nx ρ)
  | _=>bad
 eq e ρ _ k h:=by
  cases e with
  | Expr e p=>simp only [h.e,bind_assoc,d7]
  | _=>rfl
def vT:RuS where
 is _ _ e:=match e with
  | .Return (some _) _=>true
  | _=>false
 run r _ _ lc e ρ:=match e with
  | .Return (some e) _=>bind (r.e lc e ρ) λd=>ret (.rt d)
  | _=>bad
 ok e R TX h hf hi:=by
  split at hi
  ·exact Z1 (R.ex h _)
  ·cases hi
 runK q _ _ lc e ρ _ k:=match e with
  | .Return (some e) _=>q.e lc e ρ λd=>k (.rt d)
  | _=>bad
 eq e ρ _ k h:=by
  split
  ·simp only [h.e,bind_assoc,d7]
  ·first
   | rfl
   | (rename_i a;split;exact (a _ _ rfl).elim;rfl)
def sIf:RuS where
 is _ _ e:=match e with
  | .If _ _ _ _=>true
  | _=>false
 run r _ _ lc e ρ:=match e with
  | .If c a b _=>bind (r.t lc c ρ) λq=>if q=true then M5 r lc a ρ else M5 r lc b ρ
  | _=>bad
 ok e R TX h hf hi:=by
  cases e with
  | If c a b p=>exact nT (R.tx h _) (D9 R h hf) (D9 R h hf)
  | _=>exact J4
 runK q _ _ lc e ρ _ k:=match e with
  | .If c a b _=>q.t lc c ρ λz=>if z=true then m4 q lc a ρ k else m4 q lc b ρ k
  | _=>bad
 eq e ρ _ k h:=by
  cases e with
  | If c a b p=>simp only [h.t,P9 h,bind_assoc,m9]
  | _=>rfl
def eg (a:Lc) (x:Str):Bool:=(c9 a.N x).isSome&&ap a.sc x
def R3 (a:Lc) (x:Str) (ρ:Env) (d:D):M Fl:=match c9 a.N x with
 | some i=>ret (.nx (ρ.set i (some d)))
 | none=>bad
def p0 (b:Lc) (x:Str) (ρ:Env) (d:D) {a:Type} (k:Fl->M a):M a:=match c9 b.N x with
 | some i=>k (.nx (ρ.set i (some d)))
 | none=>bad
theorem cp (a:Lc) (x:Str) (ρ:Env) (d:D) {b:Type} (k:Fl->M b):bind (R3 a x ρ d) k=p0 a x ρ d k:=by
 unfold R3 p0;cases c9 a.N x <;> rfl
theorem gB {x:Str} {p pos:Pos} {e:Expr} {f:Env->M D} (h:CxOk T k lc X) (l:lc.fr=true) (a:eg lc x=true) (g:PE X e (tD X.K T.cl xe f)) (c:k9 e=true):PS X (.Assign [.Name x p] e pos) (sD X.K T.cl xe λρ=>bind (f ρ) (R3 lc x ρ)):=by
 rw [eg,Ak,AY] at a;obtain ⟨⟨i,b⟩,j⟩:=a;have:=ls (pos:=pos) (pos':=p) h.nd' (by rw [h.N];exact t8 b) (by rw [h.sc];exact G5 j) g c (.inl (h.fn1 l));have e:R3 lc x=λρ d=>ret (.nx (ρ.set i (some d))):=by funext ρ d;simp only [R3,b]
 simp_all
def uW:RuS where
 is _ lc e:=match e with
  | .Assign [.Name x _] e _=>eg lc x&&k9 e
  | _=>false
 run r _ _ lc e ρ:=match e with
  | .Assign [.Name x _] e _=>bind (r.e lc e ρ) (R3 lc x ρ)
  | _=>bad
 ok e R TX h hf hi:=by
  split at hi
  ·rw [Ak] at hi;exact gB h hf hi.1 (R.ex h _) hi.2
  ·cases hi
 runK q _ _ lc e ρ _ k:=match e with
  | .Assign [.Name x _] e _=>q.e lc e ρ λd=>p0 lc x ρ d k
  | _=>bad
 eq e ρ _ k h:=by
  split
  ·simp only [h.e,bind_assoc,cp]
  ·first
   | rfl
   | (rename_i a;split;exact (a _ _ _ _ rfl).elim;rfl)
def sn:RuS where
 is _ lc e:=match e with
  | .Assign [.Name x _] (.List es _) _=>eg lc x&&decide (x∈lc.mu)&&es.all noStar
  | _=>false
 run r _ _ lc e ρ:=match e with
  | .Assign [.Name x _] (.List es _) _=>bind (bind (o8 r lc es ρ) newL) (R3 lc x ρ)
  | _=>bad
 ok e R TX h hf hi:=by
  split at hi
  ·rw [Ak,Ak] at hi;exact gB h hf hi.1.1 (lY (k0 R h hi.2)) rfl
  ·cases hi
 runK q _ _ lc e ρ _ k:=match e with
  | .Assign [.Name x _] (.List es _) _=>u7 q lc es ρ λds=>bind (newL ds) λd=>p0 lc x ρ d k
  | _=>bad
 eq e ρ _ k h:=by
  split
  ·simp only [j5 h,bind_assoc,cp]
  ·first
   | rfl
   | (rename_i a;split;exact (a _ _ _ _ _ rfl).elim;rfl)
def swB (c:Lc) (b:Expr) (a:Scope) (t:Str) (pos:Pos):Bool:=c.sc.names.lookup t==some .local&&pos.line==b.pos.line&&!(a.names.any λ(n,k)=>n==t&&(k==.local||k==.cell))
theorem td (h:CxOk T k lc X) (d:Expr) (c:List Comprehension) (a:Scope) (x:Str) (pos' pos b:Pos):swapsWith (.ListComp d c a b) (some (.Name x pos')) pos.line X.env=pure (swB lc (.ListComp d c a b) a x pos'):=by
 show pure (X.env.blockKind==.function&&X.env.kindOf x==some .local&&pos'.line==(Expr.ListComp d c a b).pos.line&&!(a.names.any λ(n,k)=>n==x&&(k==.local||k==.cell)))=_;have f:X.env.blockKind=.function:=by unfold PySem.Env.blockKind;rw [h.sc,h.kd];rfl
 have e:X.env.kindOf x=lc.sc.names.lookup x:=by unfold PySem.Env.kindOf;rw [h.sc]
 rw [f,e];rfl
theorem gh {T:Tx} {k i:Nat} {f:Lc} {X:Cx} {x:Str} {p pos:Pos} {e:Expr} {fs:Env->M (List D)} {xe:Addr->Hp->Prop} (r:c9 f.N x=some i) (h:PS X (.Assign [.Name x p] e pos) (kI (jH X.K T.cl x0 fs) (W9 i))):PS X (.Assign [.Name x p] e pos) (sD X.K T.cl xe λρ=>bind (bind (nx (fs ρ)) λds=>ret (.lst ds)) (R3 f x ρ)):=PS.imp h λD σ H ⟨μ,S,ρ,g,n,p⟩=>
 ⟨μ,S,ρ,g,n,p.bind.bind.nx.imp λds S1 a j l c o m ys q b=>by
  have d:=o.ret a j (Lat.refl _ _) c;simp only [R3,r] at d;exact d.ret a j (Lat.refl _ _) c _ ((g.later l).set (.lst q b) i)⟩
def k8 (a:Lc):List Expr->Option (List Nat)
 | []=>some []
 | .Name x _ :: b=>if ap a.sc x=true then (match c9 a.N x,k8 a b with
   | some i,some c=>some (i :: c)
   | _,_=>none) else none
 | _=>none
theorem U1 (h:CxOk T k lc X) (hf:lc.fr=true):∀ {ts:List Expr} {is:List Nat},k8 lc ts=some is->NamesAt X ts is
 | [],is,e=>by cases e;exact .nil
 | t :: ts,is,e=>by
  cases t with
  | Name x p=>
   simp only [k8] at e;by_cases hl:ap lc.sc x=true
   ·simp only [if_pos hl] at e;cases e1:c9 lc.N x with
    | none=>rw [e1] at e;cases e
    | some i=>
     cases e2:k8 lc ts with
     | none=>grind
     | some is'=>
      rw [e1,e2] at e;cases e;exact .cons (by rw [h.N];exact t8 e1) (by rw [h.sc];exact G5 hl) (.inl (h.fn1 hf)) (U1 h hf e2)
   ·grind
  | _=>simp only [k8] at e;cases e
def uZ:RuS where
 is _ lc e:=match e with
  | .Assign [.Tuple ts _ _] e _=>(k8 lc ts).isSome&&k9 e&&ir e&&!quiet lc
  | _=>false
 run r _ _ lc e ρ:=match e with
  | .Assign [.Tuple ts _ _] e _=>(match k8 lc ts with
   | some is=>bind (r.e lc e ρ) λd=>bA (J0 is) d ρ
   | none=>bad)
  | _=>bad
 ok {T k r Γ C lc X} e R TX h hf hi:=by
  split at hi
  ·rename_i ts n p e pos;simp at hi;obtain ⟨⟨⟨h1,h2⟩,h3⟩,h4⟩:=hi;show PS X _ (sD X.K T.cl (xOf X) λρ=>(match k8 lc ts with
    | some is=>bind (r.e lc e ρ) λd=>bA (J0 is) d ρ
    | none=>bad))
   cases e1:k8 lc ts with
   | none=>exact J4
   | some is=>exact kj (h.calm h4) h.nd' (U1 h hf e1) (R.ex h _) h2 h3
  ·cases hi
 runK q _ _ lc e ρ _ k:=match e with
  | .Assign [.Tuple ts _ _] e _=>(match k8 lc ts with
   | some is=>q.e lc e ρ λd=>bind (bA (J0 is) d ρ) k
   | none=>bad)
  | _=>bad
 eq {r q Γ C lc} e ρ _ k h:=by
  split
  ·rename_i ts n p e pos;cases k8 lc ts with
   | none=>rfl
   | some is=>simp only [h.e,bind_assoc]
  ·first
   | rfl
   | (rename_i hn;split;exact (hn _ _ _ _ _ rfl).elim;rfl)
def rc:RuS where
 is _ _ e:=match e with
  | .Assign [.Subscript _ b _] e _=>k9 e&&p8 b
  | _=>false
 run r _ _ lc e ρ:=match e with
  | .Assign [.Subscript a b _] e _=>bind (r.e lc e ρ) λv=>bind (r.e lc a ρ) λx=>bind (r.e lc b ρ) λy=>bind (G7 x y v) λ_=>ret (.nx ρ)
  | _=>bad
 ok e R TX h hf hi:=by
  split at hi
  ·rw [Ak] at hi;exact jI h.u1 (R.ex h _) (R.ex h _) (R.ex h _) hi.1 hi.2
  ·cases hi
 runK q _ _ lc e ρ _ k:=match e with
  | .Assign [.Subscript a b _] e _=>q.e lc e ρ λv=>q.e lc a ρ λx=>q.e lc b ρ λy=>bind (G7 x y v) λ_=>k (.nx ρ)
  | _=>bad
 eq e ρ _ k h:=by
  split
  ·simp only [h.e,bind_assoc,d7]
  ·first
   | rfl
   | (rename_i c;split;exact (c _ _ _ _ _ rfl).elim;rfl)
def tgE (b:Lc) (a:Expr):Option (D->Env->Option Env):=match a with
 | .Name x _=>if ap b.sc x=true then (c9 b.N x).map λi=>λd ρ=>some (ρ.set i (some d)) else none
 | .Tuple c _ _=>(k8 b c).map J0
 | _=>none
theorem sU (h:CxOk T k lc X) (d:lc.fr=true) (g:quiet lc=false) {b:Expr} {tg:D->Env->Option Env} (e:tgE lc b=some tg):PG X b (lE X.K T.cl tg):=by
 unfold tgE at e;split at e
 ·rename_i x p;by_cases c:ap lc.sc x=true
  ·simp only [if_pos c] at e;cases a:c9 lc.N x with
   | none=>rw [a] at e;cases e
   | some i=>rw [a] at e;cases e;exact jg h.nd' (by rw [h.N];exact t8 a) (by rw [h.sc];exact G5 c) (.inl (h.fn1 d))
  ·grind
 ·rename_i f n p;cases a:k8 lc f with
  | none=>rw [a] at e;cases e
  | some j=>rw [a] at e;cases e;exact dn (h.calm g) h.nd' (U1 h d a)
 ·cases e
def uR:RuS where
 is _ lc e:=match e with
  | .For _ a _ [] _=>i6 a&&!quiet lc
  | _=>false
 run r _ _ lc e ρ:=match e with
  | .For b a body [] _=>(match tgE lc b with
   | some tg=>bind (r.i lc b a ρ) λp=>n9 p.1 tg (M5 r lc body) p.2 0 ρ
   | none=>bad)
  | _=>bad
 ok {T k r Γ C lc X} e R TX h hf hi:=by
  split at hi
  ·rename_i b a body pos;simp at hi;show PS X _ (sD X.K T.cl (xOf X) λρ=>(match tgE lc b with
    | some tg=>bind (r.i lc b a ρ) λp=>n9 p.1 tg (M5 r lc body) p.2 0 ρ
    | none=>bad))
   cases e:tgE lc b with
   | none=>exact J4
   | some tg=>exact mN h.po (h.calm hi.2) (R.ix h _ _) (sU h hf hi.2 e) (D9 R h hf) hi.1
  ·cases hi
 runK q _ _ lc e ρ _ k:=match e with
  | .For b a body [] _=>(match tgE lc b with
   | some tg=>q.i lc b a ρ λp=>bind (n9 p.1 tg (λc=>m4 q lc body c ret) p.2 0 ρ) k
   | none=>bad)
  | _=>bad
 eq {r q Γ C lc} e ρ _ k h:=by
  split
  ·rename_i b a body pos;cases tgE lc b with
   | none=>rfl
   | some tg=>
    have:(λc=>m4 q lc body c ret)=M5 r lc body:=funext λc=>by rw [P9 h,m7]
    simp only [h.i,bind_assoc,this]
  ·first
   | rfl
   | (rename_i d;split;exact (d _ _ _ _ rfl).elim;rfl)
def v4 (t:Env->M Bool) (g:Env->M Fl):Nat->Env->M Fl
 | 0,_=>bad
 | m+1,ρ=>bind (t ρ) λq=>if q=true then bind (g ρ) (λb=>match b with
   | .nx a=>v4 t g m a
   | .ct a=>v4 t g m a
   | .bk a=>ret (.nx a)
   | .rt d=>ret (.rt d)) else ret (.nx ρ)
theorem fI {X:Cx} {cl:ClW} {xe:Addr->Hp->Prop} {c:Expr} {body:List Stmt} {pos:Pos} {t:Env->M Bool} {g:Env->M Fl} (n:Nat) (hp:PassesOwn (model X.prog X.w) X.A X.env X.xe) (hc:PT X c (tBo X.K cl xe t)) (hb:PSs X body (sD X.K cl xe g)) :
  PS X (.While c body [] pos) (sD X.K cl xe λρ=>v4 t g n ρ):=PS.imp (fj hp hc hb) λD σ H ⟨μ,S,ρ,eo,rp,p⟩=>by
 refine ⟨λm σ H=>∃ μ2 S2 ρ2,EnvOk X.K μ2 H ρ2 σ/\Rep X.K cl μ2 S2 H/\Post X.K cl xe μ2 H (v4 t g m ρ2 S2) (λfl _ μ' H'=>fw X.K D fl μ' H'),⟨n,μ,S,ρ,eo,rp,p⟩,?_⟩;rintro m σ2 H2 ⟨μ2,S2,ρ2,eo2,r2,p2⟩;cases m with
 | zero=>exact p2.elim
 | succ m=>
  refine ⟨μ2,S2,ρ2,eo2,r2,p2.bind.imp λq S3 μ3 H3 l3 r3 p3=>?_⟩;cases q with
  | false=>exact p3.ret μ3 H3 (Lat.refl _ _) r3 σ2 (eo2.later l3)
  | true=>
   refine cV ?_;rw [if_pos rfl] at p3;refine ⟨λσ' H'=>∃ μ4 S4 ρ4,EnvOk X.K μ4 H' ρ4 σ'/\Rep X.K cl μ4 S4 H'/\Post X.K cl xe μ4 H' (v4 t g m ρ4 S4) (λfl _ μ' H'=>fw X.K D fl μ' H'),λσ' H' q=>⟨m,AF _,q⟩,?_⟩;refine ⟨μ3,S3,ρ2,eo2.later l3,r3,p3.bind.imp λfl S4 μ4 H4 l4 r4 p4=>?_⟩;cases fl with
   | nx ρ4=>exact λσ4 eo4=>⟨μ4,S4,ρ4,eo4,r4,p4⟩
   | ct ρ4=>exact λσ4 eo4=>⟨μ4,S4,ρ4,eo4,r4,p4⟩
   | bk ρ4=>exact p4.ret μ4 H4 (Lat.refl _ _) r4
   | rt d=>exact p4.ret μ4 H4 (Lat.refl _ _) r4
def ou:RuS where
 is _ _ e:=match e with
  | .While _ _ [] _=>true
  | _=>false
 run r _ _ lc e ρ:=match e with
  | .While c body [] _=>v4 (r.t lc c) (M5 r lc body) 10000 ρ
  | _=>bad
 ok e R TX h hf hi:=by
  split at hi
  ·exact fI 10000 h.po (R.tx h _) (D9 R h hf)
  ·cases hi
 runK q _ _ lc e ρ _ k:=match e with
  | .While c body [] _=>bind (v4 (λa=>q.t lc c a ret) (λa=>m4 q lc body a ret) 10000 ρ) k
  | _=>bad
 eq {r q Γ C lc} e ρ _ k h:=by
  split
  ·rename_i c body pos;have b:(λa=>m4 q lc body a ret)=M5 r lc body:=funext λa=>by rw [P9 h,m7]
   have f:(λa=>q.t lc c a ret)=r.t lc c:=funext λa=>by rw [h.t,m7]
   rw [b,f]
  ·first
   | rfl
   | (rename_i d;split;exact (d _ _ _ rfl).elim;rfl)
def oh:RuS where
 is Γ lc e:=match e with
  | .Raise (some (.Call (.Name x _) (a :: es) [] _)) none _=>A0 x&&glB lc.sc x&&(a :: es).all noStar&&!quiet lc
  | _=>false
 run r Γ _ lc e ρ:=match e with
  | .Raise (some (.Call (.Name x _) (a :: es) [] _)) none _=>bind (eP r Γ lc x (a :: es) ρ) O5
  | _=>bad
 ok {T k r Γ C lc X} e R TX h hf hi:=by
  split at hi
  ·simp only [Ak,Bc] at hi;exact iB (h.calm hi.2) (eC R TX h hi.1.1.1 hi.1.1.2 hi.1.2 hi.2)
  ·cases hi
 runK q Γ _ lc e ρ _ k:=match e with
  | .Raise (some (.Call (.Name x _) (a :: es) [] _)) none _=>lb q Γ lc x (a :: es) ρ λd=>bind (O5 d) k
  | _=>bad
 eq {r q Γ C lc} e ρ _ k h:=by
  split
  ·simp only [hR h,bind_assoc]
  ·first
   | rfl
   | (rename_i b;split;exact (b _ _ _ _ _ _ rfl).elim;rfl)
structure Fd where
 ps:List Str
 N:List Str
 sc:Scope
 body:List Stmt
 mu:List Str
def L4 (N:List Str) (ds:List D):Env:=ds.map some++List.replicate (N.length-ds.length) none
def endD (a:Fl):M D:=match a with
 | .rt d=>ret d
 | .nx _=>ret .non
 | _=>bad
abbrev E1 (fd:Fd):Lc:=⟨fd.N,fd.sc,true,fd.mu⟩
def D8 (Rs:Rules) (Γ:Gm) (a:List Fd):Nat->Nat->List D->M D
 | 0,_,_=>bad
 | k+1,i,ds=>match a[i]? with
  | none=>bad
  | some fd=>if ds.length=fd.ps.length then bind (M5 (ev Rs Γ (D8 Rs Γ a k) 40) (E1 fd) fd.body (L4 fd.N ds)) endD else bad
structure FnTx (T:Tx) (x:Str) (fd:Fd):Prop where
 ex:∃ (f:Addr) (da:FuncData) (qual:Str) (st:Stmt),Fun T.K x qual st f da/\i4 st=fd.body/\b7 st=fd.sc/\FnScope fd.N fd.ps fd.sc/\Binds T.K da fd.ps []/\T.mg x=some (.ref f)
theorem bS {K:PySem.W.Frag} {μ:Mp} {H:Hp} {N:List Str} {ds:List D} {vs:List V} (r:RDs K μ H ds vs):EnvOk K μ H (L4 N ds) (L2.start N vs):=by
 unfold L4 L2.start;refine ⟨by simp [r.length],λi d e=>?_⟩;by_cases hi:i<ds.length
 ·rw [Al (by simpa using hi),AM] at e;cases q:ds[i]? with
  | none=>rw [q] at e;cases e
  | some d'=>
   rw [q] at e;cases e;obtain ⟨v,e1,r1⟩:=r.get q;refine ⟨v,?_,r1⟩;rw [Al (by rw [An,<- r.length];exact hi),AM,e1];rfl
 ·rw [AA (by simpa using BW hi),Ba] at e;split at e <;> cases e
section
variable {P:Program} {w:World} {K:PySem.W.Frag} {mg:Str->Option Value} {base:Heap}
theorem gJ {x b:Str} {st:Stmt} {f:Addr} {fd:FuncData} {N ps:List Str} {k:Nat} {sp:Sp} (F:Fun K x b st f fd) (S:FnScope N ps (b7 st)) (g:∀ vs H Q E,sp vs H Q E->vs.length=ps.length)
  (d:∀ (c:Value) (A:Around) (a:List PySem.Env) (s:Shared) (H:Hp) (vs:List V) (Q:VK) (E:XK),Room CX.q k (A.deeper (envOfC b (b7 st) s.heap.objs.size f c))->sp vs H Q E ->
   ∃ t,PSs (U6 CX P w K mg base N b (b7 st) f c A a s H E) (i4 st) t/\t { nx:=λ_ H'=>Q .non H',rt:=Q } (start N vs) H):FnOk P w K mg base CX (k+1) f fd ps sp:=by
 obtain ⟨r,od,n,i,o,p,c,q,l,rfl,m,h⟩:=F.ex;exact mP m h S g λA a s H vs Q E j e=>d c A a s H vs Q E j e
theorem Post.fly {α:Type} {cl:ClW} {N:List Str} {qual:Str} {scope:Scope} {f:Addr} {cd:Value} {A:Around} {outer:List PySem.Env} {s:Shared} {H0 H:Hp} {E:XK} {μ:Mp} {r:R α} {G:α->Sto->Mp->Hp->Prop} (p:Post K cl (ji E) μ H r G) :
  Post K cl (xOf (U6 (CXd P w K) P w K mg base N qual scope f cd A outer s H0 E)) μ H r G:=by
 cases r with
 | ok a S=>exact p
 | bad=>exact p
 | exn n S=>
  intro μ' H' a l rp e pins σ s' C d tb I fx;refine ci I I.ok.frames rfl rfl fx λH2 s2 T I2 fx2 m2=>?_;obtain ⟨l2,r2⟩:=rp.mv I.hok e fx.at_ m2;exact ⟨a,C,d,some T,H2,rfl,I2.os,I2.bare,I2.base,I2.hok,fx2,p μ' H2 a (l.trans l2) r2 e⟩
end
theorem FnOk.unX {P:Program} {w:World} {K:PySem.W.Frag} {mg:Str->Option Value} {base:Heap} {k n:Nat} {f:Addr} {fd:FuncData} {ps:List Str} {cl:ClW} {run:List D->M D} (F:FnOk P w K mg base (CXd P w K) k f fd ps (spX K cl n run)):FnOk P w K mg base (CXq false) k f fd ps (spD K cl n run):=
 ⟨λvs H Q E h=>F.len vs H Q E0 h,λA outer s H args us vs Q E hr e0 hb r h=>BV (F.run A outer s H args us vs Q E0 hr e0 hb r h) λres s' hq=>by
  cases res with
  | ok fl=>cases fl <;> exact hq
  | error e=>obtain ⟨_,_,_,_,_,_,_,_,_,_,_,z⟩:=hq;exact z⟩
section
variable {Rs:Rules} {T:Tx} {Γ:Gm} {Tb:List Fd} {k i:Nat} {x qual:Str} {st:Stmt} {f:Addr} {da:FuncData} {fd:Fd}
theorem bK (TX:TxOk T Γ (k+3) (D8 Rs Γ Tb k)) (hi:Tb[i]?=some fd) (F:Fun T.K x qual st f da) (h1:i4 st=fd.body) (h2:b7 st=fd.sc) (S:FnScope fd.N fd.ps fd.sc) (hq:quiet (E1 fd)=false) :
  FnOk T.P T.w T.K T.mg T.base (CXd T.P T.w T.K) (k+4) f da fd.ps (spX T.K T.cl fd.ps.length (D8 Rs Γ Tb (k+1) i)):=by
 have S':FnScope fd.N fd.ps (b7 st):=by rw [h2];exact S
 refine gJ F S' (λvs H Q E h=>h.1) λcdv A outer s H vs Q E hr hsp=>?_;obtain ⟨hl,μ,S0,ds,rds,rp,p⟩:=hsp;have cx:CxOk T (k+3) (E1 fd) (U6 (CXd T.P T.w T.K) T.P T.w T.K T.mg T.base fd.N qual (b7 st) f cdv A outer s H E):=⟨rfl,rfl,rfl,rfl,rfl,rfl,S.nd,h2,λ_=>rfl,by rw [hq];exact hr,λe s' z=>wpAny_leaving_again (SameStack.refl _) z,rfl,S.kind,λ_ _=>⟨rfl,rfl⟩⟩;have R:=fc (Rs:=Rs) TX 40;refine ⟨_,by rw [h1];exact D9 R cx rfl,?_⟩;refine ⟨μ,S0,L4 fd.N ds,bS rds,rp,?_⟩;have hd:ds.length=fd.ps.length:=by rw [rds.length];exact hl
 simp only [D8,hi,if_pos hd] at p;refine Post.fly (p.bind.imp λfl S1 μ1 H1 l1 r1 p1=>?_);cases fl with
 | nx ρ=>exact λσ _=>p1 μ1 H1 (Lat.refl _ _) r1 _ .non
 | rt d=>exact λv rv=>p1 μ1 H1 (Lat.refl _ _) r1 v rv
 | bk ρ=>exact False.elim p1
 | ct ρ=>exact False.elim p1
theorem jN (TX:TxOk T Γ (k+3) (D8 Rs Γ Tb k)) (hi:Tb[i]?=some fd) (F:Fun T.K x qual st f da) (h1:i4 st=fd.body) (h2:b7 st=fd.sc) (S:FnScope fd.N fd.ps fd.sc) (hq:quiet (E1 fd)=true) :
  FnOk T.P T.w T.K T.mg T.base (CXq true) (k+4) f da fd.ps (spD T.K T.cl fd.ps.length (D8 Rs Γ Tb (k+1) i)):=by
 have S':FnScope fd.N fd.ps (b7 st):=by rw [h2];exact S
 refine gJ F S' (λvs H Q E h=>h.1) λcdv A outer s H vs Q E hr hsp=>?_;obtain ⟨hl,μ,S0,ds,rds,rp,p⟩:=hsp;have cx:CxOk T (k+3) (E1 fd) (U6 (CXq true) T.P T.w T.K T.mg T.base fd.N qual (b7 st) f cdv A outer s H E).nox:=⟨rfl,rfl,rfl,rfl,rfl,rfl,S.nd,h2,λz=>(by rw [hq] at z;exact absurd z (by decide)),by rw [hq];exact hr,PassesOwn.never,rfl,S.kind,λ_ z=>(by rw [hq] at z;exact absurd z (by decide))⟩;have R:=fc (Rs:=Rs) TX 40;refine ⟨_,by rw [h1];exact PSs.nox (PSs.x0 (D9 R cx rfl)),?_⟩;refine ⟨μ,S0,L4 fd.N ds,bS rds,rp,?_⟩;have hd:ds.length=fd.ps.length:=by rw [rds.length];exact hl
 simp only [D8,hi,if_pos hd] at p;refine p.bind.imp λfl S1 μ1 H1 l1 r1 p1=>?_;cases fl with
 | nx ρ=>exact λσ _=>p1 μ1 H1 (Lat.refl _ _) r1 _ .non
 | rt d=>exact λv rv=>p1 μ1 H1 (Lat.refl _ _) r1 v rv
 | bk ρ=>exact False.elim p1
 | ct ρ=>exact False.elim p1
theorem mH (d:TxOk T Γ (k+3) (D8 Rs Γ Tb k)) (a:Tb[i]?=some fd) (F:Fun T.K x qual st f da) (e:i4 st=fd.body) (b:b7 st=fd.sc) (S:FnScope fd.N fd.ps fd.sc) (c:quiet (E1 fd)=false:=by rfl) :
  FnOk T.P T.w T.K T.mg T.base (CXq false) (k+4) f da fd.ps (spD T.K T.cl fd.ps.length (D8 Rs Γ Tb (k+1) i)):=FnOk.unX (bK d a F e b S c)
def qO (Γ:Gm) (a:List Fd):Bool:=(List.range a.length).all λi=>match a[i]? with
 | some fd=>quiet (E1 fd)==Γ.qs.contains i
 | none=>false
theorem eI (h:qO Γ Tb=true) (hi:Tb[i]?=some fd):quiet (E1 fd)=Γ.qs.contains i:=by
 unfold qO at h;have:=(AN.mp h) i (BR.mpr (Ai.mp hi).1);rw [hi] at this;simpa using this
end
structure TxSt (T:Tx) (Γ:Gm):Prop where
 blt:∀ x∈bnames,Γ.gl.lookup x=none->T.mg x=none
 val:∀ x d,Γ.gl.lookup x=some (.val d)->∃ u v,T.mg x=some u/\RelV v u/\∀ μ H,RD T.K μ H d v
 err:∀ x c fs,Γ.gl.lookup x=some (.err c fs)->ErrAt T x c fs/\(∀ g∈fs,t0 T.K (T.cl c) g)
 sub:∀ x c c0 fs,Γ.gl.lookup x=some (.err c0 fs)->XC T.K (T.cl c)->PySem.W.kitOne T.K (.ref (T.cl c)) (.ref (T.cl c0))=some (Γ.sub c c0)
 subV:∀ c,XC T.K (T.cl c)->PySem.W.kitOne T.K (.ref (T.cl c)) (.type "ValueError")=some true
 subT:∀ c,XC T.K (T.cl c)->∀ t∈tys,PySem.W.kitOne T.K (.ref (T.cl c)) (.type t)=some false
 fld:∀ g∈Γ.flds,∀ c,XC T.K (T.cl c)->t0 T.K (T.cl c) g
 dct:∀ x kvs,Γ.gl.lookup x=some (.dct kvs)->fq T x kvs
def gz (T:Tx) (Γ:Gm) (a:List Fd):Prop:=∀ x i n,Γ.gl.lookup x=some (.fn i n)->∃ fd,a[i]?=some fd/\fd.ps.length=n/\FnTx T x fd
theorem TxSt.ok (h:TxSt T Γ) {k:Nat} {C:Cf} (f:∀ x i n,Γ.gl.lookup x=some (.fn i n)->i∉Γ.qs->FnX T (k+3) i n x (C i)) (a:∀ x i n,Γ.gl.lookup x=some (.fn i n)->i∈Γ.qs->FnAt T (k+3) i n x (C i)):TxOk T Γ (k+3) C:=⟨h.blt,h.val,f,a,h.err,h.sub,h.subV,h.subT,h.fld,h.dct,by omega⟩
theorem lv {T:Tx} {Γ:Gm} {q:List Fd} (h:TxSt T Γ) (fs:gz T Γ q) (k:Nat) (w:qO Γ q=true:=by rfl):TxOk T Γ (k+3) (D8 Rs Γ q k):=by
 induction k with
 | zero=>
  have l:∀ x i n,Γ.gl.lookup x=some (.fn i n)->∃ (a:Addr) (fd:FuncData) (ps:List Str),ps.length=n/\(∀ CX,FnOk T.P T.w T.K T.mg T.base CX 3 a fd ps (spX T.K T.cl n (D8 Rs Γ q 0 i)))/\T.mg x=some (.ref a)/\PySem.W.keepIn T.K (.ref a)=true/\Binds T.K fd ps []:=λx i n e=>by
   obtain ⟨fd,d,c,g⟩:=fs x i n e;obtain ⟨f,o,j,st,F,_,_,_,b,m⟩:=g.ex;refine ⟨f,o,fd.ps,c,λCX=>⟨λvs H Q E h=>by rw [c];exact h.1,λA v s H z us vs Q E _ _ _ _ u=>?_⟩,m,F.kp,b⟩;obtain ⟨_,μ,S,ds,_,_,p⟩:=u;exact p.elim
  refine h.ok (λx i n e _=>?_) λx i n e _=>?_
  ·obtain ⟨a,fd,ps,d,c,g⟩:=l x i n e;exact ⟨a,fd,ps,d,c _,g⟩
  ·obtain ⟨a,fd,ps,d,c,g⟩:=l x i n e;exact ⟨a,fd,ps,d,FnOk.imp (c _) λvs H Q E ⟨_,μ,S,ds,_,_,p⟩=>p.elim,g⟩
 | succ k y=>
  refine h.ok (λx i n e B=>?_) λx i n e m=>?_
  ·obtain ⟨fd,d,c,g⟩:=fs x i n e;subst c;obtain ⟨f,o,j,st,F,r,t,S,b,m2⟩:=g.ex;exact ⟨f,o,fd.ps,rfl,bK y d F r t S (by rw [eI w d];simpa using B),m2,F.kp,b⟩
  ·obtain ⟨fd,d,c,g⟩:=fs x i n e;subst c;obtain ⟨f,o,j,st,F,r,t,S,b,m2⟩:=g.ex;exact ⟨f,o,fd.ps,rfl,jN y d F r t S (by rw [eI w d];simpa using m),m2,F.kp,b⟩
def runK (Rs:Rules) (Γ:Gm) (C:Cf) (fd:Fd) (ds:List D):M D:=if ds.length=fd.ps.length then m4 (evK Rs Γ C 40) ⟨fd.N,fd.sc,true,fd.mu⟩ fd.body (L4 fd.N ds) endD else bad
theorem h8 {a:List Fd} {k i:Nat} {fd:Fd} (h:a[i]?=some fd) (ds:List D):D8 Rs Γ a (k+1) i ds=runK Rs Γ (D8 Rs Γ a k) fd ds:=by
 simp only [D8,h,runK];split
 ·rw [P9 (md 40)]
 ·rfl
def iD (a:Arguments):List Str:=a.args.map (·.arg)
def lO (ps:List Str) (a:Scope):List Str:=ps++(a.names.filter λy=>(y.2==.local||y.2==.cell)&&!ps.contains y.1).map (·.1)
def u0 (st:Stmt) (a:List Str):Fd:=⟨iD (j8 st),lO (iD (j8 st)) (b7 st),b7 st,i4 st,a⟩
def Y4 (fd:Fd):Bool:=decide (fd.sc.kind=.function)&&!fd.sc.isCoroutine&&!fd.sc.isGenerator&&decide fd.N.Nodup&&decide (fd.N.take fd.ps.length=fd.ps)&&fd.ps.all (λx=>ap fd.sc x)&&fd.sc.names.all (λy=>decide (y.2≠.free))
theorem T9 (h:Y4 fd=true):FnScope fd.N fd.ps fd.sc:=by
 simp only [Y4,Ak,AG,AN,Bc] at h;obtain ⟨⟨⟨⟨⟨⟨i,b⟩,c⟩,d⟩,f⟩,e⟩,a⟩:=h;exact ⟨i,b,c,d,f,λx g=>G5 (e x g),a⟩
section
variable {K:PySem.W.Frag} {cl:ClW} {xe:Addr->Hp->Prop} {μ:Mp} {H:Hp} {S:Sto}
theorem L8 {p:Addr} {u:HO} {ob:O} {rs:List Addr} {kz:List V} (er:μ.rs=p :: rs) (nr:p∉rs) (hp:H p=some (.lst kz)) (rp:Rep K cl μ S H) (ho:OAt K cl ⟨μ.pl++[p],rs⟩ (upd H p u) p ob):Rep K cl ⟨μ.pl++[p],rs⟩ (S++[ob]) (upd H p u):=by
 have np:p∉μ.pl:=(rp.res p (by rw [er];exact Aq)).1;have hp':∀ (n:Nat) (a:Addr),μ.pl[n]?=some a->(μ.pl++[p])[n]?=some a:=λn a e=>by rw [Al (Ai.mp e).1];exact e
 have ho':∀ a w,H a=some w->a∉μ.pl->a∉μ.rs->upd H p u a=some w/\a∉(⟨μ.pl++[p],rs⟩:Mp).pl/\a∉(⟨μ.pl++[p],rs⟩:Mp).rs:=λa w e n1 n2=>by
  have ne:a≠p:=λz=>n2 (by rw [er,z];exact Aq);refine ⟨by rw [a7 ne];exact e,λz=>?_,λz=>n2 (by rw [er];exact Ar _ z)⟩;rcases Az.mp z with z | z
  ·exact n1 z
  ·exact ne (Aw.mp z)
 refine ⟨by simp [rp.len],?_,λn o a e1 e2=>?_,λa m=>?_⟩
 ·show (μ.pl++[p]).Nodup;rw [BP];exact ⟨rp.nd,by simp,λa m b m2=>by rw [Aw.mp m2];rintro rfl;exact np m⟩
 ·have e2:(μ.pl++[p])[n]?=some a:=e2;by_cases hn:n<S.length
  ·rw [Al hn] at e1;rw [Al (by rw [rp.len];exact hn)] at e2;have h:=rp.ats n o a e1 e2;have ka:upd H p u a=H a:=a7 λz=>np (z▸AL e2);cases o with
   | lst ds=>obtain ⟨xs,e,q⟩:=h;exact ⟨xs,by rw [ka];exact e,q.move hp' ho'⟩
   | dct kvs=>obtain ⟨xs,e,q⟩:=h;exact ⟨xs,by rw [ka];exact e,Paired.mono (λ_ _ ⟨z,w⟩=>⟨z,w.move hp' ho'⟩) q⟩
   | dcT kvs=>obtain ⟨es,e,h1,h2,q⟩:=h;exact ⟨es,by rw [ka];exact e,h1,h2,Paired.mono (λ_ _ ⟨b,v,z,a1,a2,a3,a4,a5,a6⟩=>⟨b,v,z,a1,a2.move hp' ho',a3,a4,a5,a6.move hp' ho'⟩) q⟩
   | exc c fs=>
    obtain ⟨xc,gs,q,fr,h⟩:=h;refine ⟨xc,gs,Paired.mono (λ_ _ ⟨z,w⟩=>⟨z,w.move hp' ho'⟩) q,fr,?_⟩;rcases h with ⟨z,e⟩ | ⟨d,h1,h2,e,e3⟩
    ·exact .inl ⟨z,by rw [ka];exact e⟩
    ·have ne:d≠p:=cq e3 hp (by intro z;cases z);refine .inr ⟨d,h1,λz=>?_,by rw [ka];exact e,by rw [a7 ne];exact e3⟩;rcases Az.mp z with z | z
     ·exact h2 z
     ·exact ne (Aw.mp z)
  ·have hn2:n=S.length:=by
    have:=(Ai.mp e1).1;simp at this;omega
   subst hn2;rw [<- rp.len] at e2;simp at e1 e2;subst e1;subst e2;exact ho
 ·have m:a∈rs:=m;obtain ⟨h1,w,h2⟩:=rp.res a (by rw [er];exact Ar _ m);have ne:a≠p:=λz=>nr (z▸m);refine ⟨λz=>?_,w,by rw [a7 ne];exact h2⟩;rcases Az.mp z with z | z
  ·exact h1 z
  ·exact ne (Aw.mp z)
theorem F7 (h:H p=some u):upd H p u=H:=by
 funext a;by_cases e:a=p
 ·rw [e,b6,h]
 ·rw [a7 e]
theorem lf (src:Src) (t:Env->M Bool) (f:Env->M D) (mk:D->Env) (m i:Nat) (es:List D) (S:Sto):bind (k4 src t f mk (m+1) i es) newL S=(match src i S with
  | none=>.bad
  | some none=>newL es S
  | some (some d)=>bind (t (mk d)) (λb=>if b=true then bind (f (mk d)) (λy=>if es.length<sizeLine then bind (k4 src t f mk m (i+1) (es++[y])) newL else bad) else bind (k4 src t f mk m (i+1) es) newL) S):=by
 have a:∀ {c m2:M (List D)},c S=m2 S->bind c newL S=bind m2 newL S:=λe=>by unfold L3.bind;rw [e]
 cases h:src i S with
 | none=>exact (a (by simp only [k4,h];rfl)).trans rfl
 | some o=>
  cases o with
  | none=>exact (a (by simp only [k4,h];rfl)).trans rfl
  | some d=>
   refine (a (m2:=bind (t (mk d)) (λb=>if b=true then bind (f (mk d)) (λy=>if es.length<sizeLine then k4 src t f mk m (i+1) (es++[y]) else bad) else k4 src t f mk m (i+1) es)) (by simp only [k4,h])).trans ?_;rw [bind_assoc];congr 1;congr 1;funext b;cases b with
   | true=>
    rw [if_pos rfl,if_pos rfl,bind_assoc];congr 1;funext y;split <;> rfl
   | false=>rfl
theorem aZ {σ:L2.St} {ρ:Env} {Q:VK} (eo:EnvOk K μ H ρ σ) (rp:Rep K cl μ S H)
  (p:Post K cl xe μ H (bind (W7 caps fi t f ρ) newL S) λd _ μ' H'=>∀ v,RD K μ' H' d v->Q v H'):fu caps (tIt K cl xe fi) (tBo K cl xe t) (tD K cl xe f) σ H Q:=by
 unfold W7 at p;rw [bind_assoc] at p;refine ⟨μ,S,ρ,eo,rp,p.bind.imp λsm S1 l H1 l1 U p1 J yl g c=>?_⟩;obtain ⟨src,m0⟩:=sm;have Z:=U.notrs c;refine ⟨λi m ys A=>∃ μ2 S2 es,HLat l H1 g μ2 A/\g∉μ2.pl/\A g=some (.lst ys)/\EnvOk K μ2 A ρ σ/\Rep K cl μ2 S2 A/\RDs K μ2 A es ys/\Post K cl xe l H1 (bind (k4 src t f (λd=>some d :: w9 caps ρ) m i es) newL S2) (λd _ μ' H'=>∀ v,RD K μ' H' d v->Q v H'),⟨m0,l.hold g,S1,[],?_,U.notin c,b6,v5 U c (eo.later l1),v7 U c,.nil,p1⟩,?_⟩
 ·refine ⟨⟨λ_ _ e=>e,λa o e _=>by rw [a7 (a9 e c)];exact e,λa m=>.inl m,λa m=>?_⟩,rfl⟩;rcases AJ.mp (m) with rfl | m
  ·exact .inr c
  ·exact .inl m
 rintro i m ys A ⟨μ2,S2,es,E,O,D,B,W,h,k⟩;refine ⟨D,?_⟩;cases m with
 | zero=>exact k.elim
 | succ m=>
  have y:L0 K cl J i μ2 A S2 (src i S2):=yl i μ2 A S2 E.r.u W;rw [lf] at k;cases e1:src i S2 with
  | none=>rw [e1] at k;exact k.elim
  | some o=>
   rw [e1] at k y;cases o with
   | none=>
    refine .inl ⟨y,?_⟩;simp only [newL] at k;by_cases hz:es.length<=sizeLine
    ·rw [if_pos hz] at k;have C:=E.rs;have mv:RDs K ⟨μ2.pl++[g],l.rs⟩ A es ys:=h.move (λn a e=>by
      rw [Al (Ai.mp e).1];exact e) λa u e n1 n2=>⟨e,λz=>by
       rcases Az.mp z with z | z
       ·exact n1 z
       ·exact n2 (by rw [C,Aw.mp z];exact Aq),λz=>n2 (by rw [C];exact Ar _ z)⟩
     have G:=L8 (ob:=.lst es) C Z D W ⟨ys,b6,by rw [F7 D];exact mv⟩;rw [F7 D] at G;refine k ⟨μ2.pl++[g],l.rs⟩ A ⟨λn a e=>?_,λa o e n=>E.r.oth a o e n,λa ma=>?_,rfl⟩ G _ (.ref ?_)
     ·have e':=E.r.pre n a e;rw [Al (Ai.mp e').1];exact e'
     ·rcases Az.mp ma with z | z
      ·exact E.r.new a z
      ·grind
     ·show (μ2.pl++[g])[S2.length]?=some g;rw [<- W.len];simp
    ·rw [if_neg hz] at k;exact k.elim
   | some d=>
    obtain ⟨y1,y2⟩:=y;refine .inr ⟨y1,λx H3 hy=>?_⟩;obtain ⟨T,r3,L⟩:=y2 x H3 hy;have h3:=E.step T;refine ⟨μ2,S2,_,B7 (B.later T) L,r3,(Post.at k h3).imp λb S5 I H5 X r5 p5=>?_⟩;have V:=h3.step X;have s:=T.trans X;have a5:=s.oth _ _ D O;have Y:=s.out D O;cases b with
    | false=>exact ⟨m,AF _,I,S5,es,V,Y,a5,B.later s,r5,h.later s,p5⟩
    | true=>
     refine cV ?_;rw [if_pos rfl] at p5;refine ⟨I,S5,_,(B7 (B.later T) L).later X,r5,(Post.at p5 V).imp λyv S6 μ6 H6 R r6 P v rv=>?_⟩;have F:=V.step R;have N:=s.trans R;have a6:=R.oth _ _ a5 Y;have n6:=R.out a5 Y;by_cases hz:es.length<sizeLine
     ·rw [if_pos hz] at P;have C:=F.rs;refine ⟨a6,by rw [<- h.length];exact hz,m,AF _,μ6,S6,es++[yv],?_,n6,b6,?_,C3 C a6 r6,B4 C ((h.later N).append (.cons rv .nil)),P⟩
      ·refine ⟨⟨F.r.pre,λa o e n=>?_,F.r.new,F.r.rsw⟩,C⟩;rw [a7 (a9 e c)];exact F.r.oth a o e n
      ·have M:=B.later N;exact ⟨M.1,λj e he=>let ⟨w,q,r⟩:=M.2 j e he;⟨w,q,U0 C r⟩⟩
     ·rw [if_neg hz] at P;exact P.elim
end
theorem dY (m:M (List D)) (S:Sto):bind (nx m) newL S=nx (bind m newL) S:=by
 cases h:m S with
 | ok a S1=>
  have e2:nx m S=.ok a S1:=by unfold L3.nx;rw [h]
  have e3:bind (nx m) newL S=newL a S1:=by unfold L3.bind;rw [e2]
  have e:bind m newL S=newL a S1:=by unfold L3.bind;rw [h]
  rw [e3];unfold L3.nx;rw [e];simp only [newL];split <;> rfl
 | exn n S1=>
  have e:bind m newL S=.exn n S1:=by unfold L3.bind;rw [h]
  have e2:nx m S=.bad:=by unfold L3.nx;rw [h]
  have e3:bind (nx m) newL S=.bad:=by unfold L3.bind;rw [e2]
  rw [e3];unfold L3.nx;rw [e]
 | bad=>
  have e:bind m newL S=.bad:=by unfold L3.bind;rw [h]
  have e2:nx m S=.bad:=by unfold L3.nx;rw [h]
  have e3:bind (nx m) newL S=.bad:=by unfold L3.bind;rw [e2]
  rw [e3];unfold L3.nx;rw [e]
def Y3 (m a d:D):M D:=
 bind (O2 d (.int 1000003)) λq=>bind (F6 (.int 31) a) λh=>bind (F6 h a) λs=>bind (i8 q s) λn=>bind (F6 (.int 7) a) λr=>bind (i8 n r) λp=>bind (i8 p (.int 11)) λe=>bind (F6 e (.int 48271)) λi=>bind (O2 i (.int 2147483647)) λc=>
 bind (M0 c (.int 64)) λj=>bind (F6 j (.int 69621)) λl=>bind (F6 (.int 7919) a) λf=>bind (i8 l f) λk=>bind (O2 k (.int 2147483587)) λb=>
 bind (M0 b (.int 64)) λg=>bind (O2 g m) λo=>ret o
def aO (p m b cells a:D) (z:Bool):M D:=
 if z=true then bind (M0 a m) λv=>bind (G7 p (.str "left") v) λ_=>bind (O2 a m) λd=>ret d
 else Y3 m b a
def A9 (p m b cells a:D):M D:=
 bind (ixD p (.str "at")) λx=>bind (i8 x (.int 1)) λv=>bind (G7 p (.str "at") v) λ_=>
 bind (kZ (.int 10) (.int 18)) λy=>bind (i5 .GtE a y) λd=>bind (asB d) λc=>
 if c=true then bind (ixD p (.str "at")) λx=>bind (P1 cells) λy=>bind (i5 .LtE x y) λd=>bind (asB d) λz=>aO p m b cells a z
 else aO p m b cells a false
def eB (p m:D):M D:=
 bind (ixD p (.str "turn")) λx=>bind (i8 x (.int 1)) λa=>bind (G7 p (.str "turn") a) λ_=>
 bind (ixD p (.str "left")) λx=>bind (i5 .Gt x (.int 0)) λd=>bind (asB d) λz=>
 if z=true then bind (ixD p (.str "left")) λx=>bind (O2 x m) λb=>bind (ixD p (.str "left")) λx=>bind (M0 x m) λv=>bind (G7 p (.str "left") v) λ_=>ret b
 else bind (ixD p (.str "cells")) λcells=>bind (P1 cells) λx=>bind (i5 .Gt x (.int 0)) λd=>bind (asB d) λz=>
  if z=true then bind (ixD p (.str "at")) λx=>bind (P1 cells) λy=>bind (O2 x y) λi=>bind (ixD cells i) λc=>A9 p m a cells c
  else A9 p m a cells (.int 0)
theorem a8 {k:α->M β} {S S':Sto} {a:α} (e:m S=.ok a S'):bind m k S=k a S':=by unfold bind;rw [e]
theorem N1 {d:D} (h:S[p]?=some (.dct kvs)) (e:M9 kvs (.inr x)=some d):ixD (.ref p) (.str x) S=.ok d S:=by
 simp only [ixD,h,u4,Option.bind_some,e,ay,ret]
theorem Q9 {v:D} (h:S[p]?=some (.dct kvs)) (a:kvs.length<sizeLine) (e:fW kvs (.inr x) v=kvs'):G7 (.ref p) (.str x) v S=.ok .non (S.set p (.dct kvs')):=by
 simp only [G7,h,u4,if_pos a,e]
theorem jT {S:Sto} {p:Nat} {o o':O} (h:S[p]?=some o):(S.set p o')[p]?=some o':=AR (Ai.mp h).1
def f8 (ns:List Int) (a l t:Int):O:=.dct [(.inr "cells",.lst (ns.map D.int)),(.inr "at",.int a),(.inr "left",.int l),(.inr "turn",.int t)]
section
variable {S:Sto} {p:Nat} {ns:List Int} {a l t:Int} (h:S[p]?=some (f8 ns a l t))
include h
theorem lD:ixD (.ref p) (.str "cells") S=.ok (.lst (ns.map D.int)) S:=N1 h rfl
theorem qJ:ixD (.ref p) (.str "at") S=.ok (.int a) S:=N1 h rfl
theorem cR:ixD (.ref p) (.str "left") S=.ok (.int l) S:=N1 h rfl
theorem ow:ixD (.ref p) (.str "turn") S=.ok (.int t) S:=N1 h rfl
theorem tU (v:Int):G7 (.ref p) (.str "at") (.int v) S=.ok .non (S.set p (f8 ns v l t)):=Q9 h (by show 4<sizeLine;decide) rfl
theorem eG (v:Int):G7 (.ref p) (.str "left") (.int v) S=.ok .non (S.set p (f8 ns a v t)):=Q9 h (by show 4<sizeLine;decide) rfl
theorem mG (v:Int):G7 (.ref p) (.str "turn") (.int v) S=.ok .non (S.set p (f8 ns a l v)):=Q9 h (by show 4<sizeLine;decide) rfl
end
theorem V0 (i j:Int) (S:Sto):i8 (.int i) (.int j) S=.ok (.int (i+j)) S:=rfl
theorem O7 {i j:Int} (h:0<j) (S:Sto):O2 (.int i) (.int j) S=.ok (.int (i % j)) S:=by simp only [O2,if_pos h,ret]
theorem aE {i j:Int} (h:0<j) (b:j<1073741824) (S:Sto):M0 (.int i) (.int j) S=.ok (.int (i / j)) S:=by
 have a:hX i j:=⟨h,b⟩;simp only [M0,if_pos a,ret]
theorem V6 (h:CMul i j) (S:Sto):F6 (.int i) (.int j) S=.ok (.int (i * j)) S:=by simp only [F6,if_pos h,ret]
theorem Q3 (ns:List Int) (S:Sto):P1 (.lst (ns.map D.int)) S=.ok (.int ns.length) S:=by
 show R.ok (D.int ((ns.map D.int).length:Nat)) S=_;grind
theorem kO {ns:List Int} {a:Int} (f:0<=a) (g:0<ns.length) (S:Sto):∃ z:Int,ixD (.lst (ns.map D.int)) (.int (a % (ns.length:Int))) S=.ok (.int z) S:=by
 have c:(0:Int)<(ns.length:Int):=by omega
 have e:=CP a (Dv c);have h:=Cp a c;obtain ⟨j,d⟩:=Dq e;have b:j<ns.length:=by omega
 refine ⟨ns[j],?_⟩;rw [d];show ay (atI (ns.map D.int) (j:Int)) S=_;rw [cu (by rw [AM,AB b];rfl)];rfl
theorem bf (a:0<m) (d:0<=t) (b:t<2000000) (S:Sto):∃ r:Int,Y3 (.int m) (.int t) (.int c) S=.ok (.int r) S/\0<=r/\r<m:=by
 unfold Y3;rw [a8 (O7 (by decide) S),a8 (V6 (.inl ⟨by decide,by decide⟩) S),a8 (V6 (.inr ⟨by omega,by omega⟩) S),a8 (V0 _ _ S),a8 (V6 (.inl ⟨by decide,by decide⟩) S),a8 (V0 _ _ S),a8 (V0 _ _ S),a8 (V6 (.inr ⟨by decide,by decide⟩) S),a8 (O7 (by decide) S),
  a8 (aE (by decide) (by decide) S),a8 (V6 (.inr ⟨by decide,by decide⟩) S),a8 (V6 (.inl ⟨by decide,by decide⟩) S),a8 (V0 _ _ S),a8 (O7 (by decide) S),a8 (aE (by decide) (by decide) S),a8 (O7 a S)]
 exact ⟨_,rfl,CP _ (Dv a),Cp _ a⟩
theorem set_set {S:Sto} {p:Nat} {o o':O}:(S.set p o).set p o'=S.set p o':=List.set_set ..
theorem bF (h:S[p]?=some (f8 ns a l t)) (x:0<=a) (s:0<=l) (o:0<=t) (k:t<2000000) (b:0<m) (i:m<1073741824) :
  ∃ r g d,A9 (.ref p) (.int m) (.int t) (.lst (ns.map D.int)) (.int c) S=.ok (.int r) (S.set p (f8 ns g d t))/\0<=r/\r<m/\0<=g/\0<=d:=by
 unfold A9;rw [a8 (qJ h),a8 (V0 _ _ S),a8 (tU h _)];have n:=jT (o':=f8 ns (a+1) l t) h;have v:kZ (.int 10) (.int 18) (S.set p (f8 ns (a+1) l t))=.ok (.int 1000000000000000000) (S.set p (f8 ns (a+1) l t)):=rfl;rw [a8 v];have w:i5 .GtE (.int c) (.int 1000000000000000000) (S.set p (f8 ns (a+1) l t))=.ok (.bl (decide (1000000000000000000<=c))) (S.set p (f8 ns (a+1) l t)):=rfl;rw [a8 w,a8 (show asB _ _=_ from rfl)];have f:∀ z:Bool,(z=true->1000000000000000000<=c)->∃ r g d,aO (.ref p) (.int m) (.int t) (.lst (ns.map D.int)) (.int c) z (S.set p (f8 ns (a+1) l t))=.ok (.int r) (S.set p (f8 ns g d t))/\0<=r/\r<m/\0<=g/\0<=d:=λz hz=>by
  unfold aO;cases z with
  | true=>
   rw [if_pos rfl,a8 (aE b i _),a8 (eG n _),set_set,a8 (O7 b _)];exact ⟨_,a+1,c / m,rfl,CP _ (Dv b),Cp _ b,by omega,Int.ediv_nonneg (Int.le_trans (by decide) (hz rfl)) (Int.le_of_lt b)⟩
  | false=>
   rw [if_neg Am];obtain ⟨r,e,q,u⟩:=bf b o k (S.set p (f8 ns (a+1) l t));exact ⟨r,a+1,l,e,q,u,by omega,s⟩
 by_cases hz:(1000000000000000000:Int)<=c
 ·rw [AO hz,if_pos rfl,a8 (qJ n),a8 (Q3 ns _)];have j:i5 .LtE (.int (a+1)) (.int (ns.length:Int)) (S.set p (f8 ns (a+1) l t))=.ok (.bl (decide (a+1<=(ns.length:Int)))) (S.set p (f8 ns (a+1) l t)):=rfl;rw [a8 j,a8 (show asB _ _=_ from rfl)];exact f _ λ_=>hz
 ·rw [Be hz,if_neg Am];exact f _ λz=>by cases z
theorem fb (h:S[p]?=some (f8 ns a l t)) (j:0<=a) (s:0<=l) (w:0<=t) (v:t<1000000) (g:0<m) (i:m<1073741824) :
  ∃ r f b,eB (.ref p) (.int m) S=.ok (.int r) (S.set p (f8 ns f b (t+1)))/\0<=r/\r<m/\0<=f/\0<=b:=by
 unfold eB;rw [a8 (ow h),a8 (V0 _ _ S),a8 (mG h _)];have d:=jT (o':=f8 ns a l (t+1)) h;have u:i5 .Gt (.int l) (.int 0) (S.set p (f8 ns a l (t+1)))=.ok (.bl (decide (0<l))) (S.set p (f8 ns a l (t+1))):=rfl;rw [a8 (cR d),a8 u,a8 (show asB _ _=_ from rfl)];by_cases hz:0<l
 ·rw [AO hz,if_pos rfl,a8 (cR d),a8 (O7 g _),a8 (cR d),a8 (aE g i _),a8 (eG d _),set_set];exact ⟨_,a,l / m,rfl,CP _ (Dv g),Cp _ g,j,Int.ediv_nonneg s (Int.le_of_lt g)⟩
 ·rw [Be hz,if_neg Am,a8 (lD d),a8 (Q3 ns _)];have n:i5 .Gt (.int (ns.length:Int)) (.int 0) (S.set p (f8 ns a l (t+1)))=.ok (.bl (decide (0<(ns.length:Int)))) (S.set p (f8 ns a l (t+1))):=rfl;rw [a8 n,a8 (show asB _ _=_ from rfl)];have k:∀ c:Int,∃ r f b,A9 (.ref p) (.int m) (.int (t+1)) (.lst (ns.map D.int)) (.int c) (S.set p (f8 ns a l (t+1)))=.ok (.int r) (S.set p (f8 ns f b (t+1)))/\0<=r/\r<m/\0<=f/\0<=b:=λc=>by
   obtain ⟨r,f,b,e,q⟩:=bF d j s (by omega) (by omega) g i;rw [set_set] at e;exact ⟨r,f,b,e,q⟩
  by_cases o:0<(ns.length:Int)
  ·rw [AO o,if_pos rfl,a8 (qJ d),a8 (Q3 ns _),a8 (O7 o _)];obtain ⟨z,e⟩:=kO (ns:=ns) j (by omega) (S.set p (f8 ns a l (t+1)));rw [a8 e];exact k z
  ·simp_all
theorem af (b:Bool) (S:Sto):asB (.bl b) S=.ok b S:=rfl
def W1 (o:Option (Option Value)) (x:String):Bool:=match o with
 | some (some (.builtin y))=>decide (y=x)
 | _=>false
theorem F4 (h:W1 o x=true):o=some (some (.builtin x)):=by
 unfold W1 at h;grind
def isNo (o:Option (Option Value)):Bool:=match o with
 | some none=>true
 | _=>false
theorem N2 (h:isNo o=true):o=some none:=by
 unfold isNo at h;grind
def isB (o:Option Bool) (b:Bool):Bool:=match o with
 | some c=>c==b
 | none=>false
theorem J6 (h:isB o b=true):o=some b:=by
 unfold isB at h;grind
def xcB (K:PySem.W.Frag) (C:Addr):Bool:=
 W1 (PySem.W.findIn K (.ref C) "__getattribute__") "BaseException.__getattribute__" && (isNo (PySem.W.findIn K (.ref C) "__getattr__")&&(isB (PySem.W.mroIn K C (.type "BaseException")) true&&(isB (PySem.W.mroIn K C (.type "object")) true &&
 (PySem.W.hasDictIn K C&&(W1 (PySem.W.findIn K (.ref C) "__class__") "object.__class__" && (W1 (PySem.W.specialIn K (.builtin "object.__class__") "__get__") "getset_descriptor.__get__" && (isB (PySem.W.takesIn K (.builtin "object.__class__")) true &&
 (L6 K C&&((PySem.W.clsIn K C).any (λa=>r8 a.mro)&&(W1 (PySem.W.findIn K (.ref C) "__setattr__") "object.__setattr__" && PySem.W.keepIn K (.ref C)))))))))))
theorem iH {K:PySem.W.Frag} {C:Addr} (h:xcB K C=true):XC K C:=by
 simp only [xcB,Ak] at h;obtain ⟨d,e,l,m,j,f,g,i,k,a,b,c⟩:=h;exact ⟨⟨F4 d,N2 e,J6 l,J6 m,j,F4 f,F4 g,J6 i⟩,k,a,F4 b,c⟩
def Q7 (cs:List Addr) (a:Addr) (c:Nat):Addr:=cs.getD c a
structure RowB (K:PySem.W.Frag) (Γ:Gm) (cs:List Addr) (junk:Addr):Prop where
 xc:cs.all (xcB K)=true
 jk:L6 K junk=false
 sub:((List.range cs.length).all λc=>(List.range cs.length).all λc0=>isB (PySem.W.kitOne K (.ref (Q7 cs junk c)) (.ref (Q7 cs junk c0))) (Γ.sub c c0))=true
 sV:(cs.all λC=>isB (PySem.W.kitOne K (.ref C) (.type "ValueError")) true)=true
 sT:(cs.all λC=>tys.all λt=>isB (PySem.W.kitOne K (.ref C) (.type t)) false)=true
 fl:(Γ.flds.all λg=>cs.all λC=>isNo (PySem.W.findIn K (.ref C) g))=true
 bl:(bnames.all λx=>(Γ.gl.lookup x).isSome||isNo (PySem.W.nsIn K mainGlobals x))=true
theorem tR {K:PySem.W.Frag} {cs:List Addr} {a:Addr} (d:L6 K a=false) {c:Nat} (h:XC K (Q7 cs a c)):c<cs.length/\Q7 cs a c∈cs:=by
 by_cases b:c<cs.length
 ·refine ⟨b,?_⟩;unfold Q7;rw [Da,AB b];exact Bh b
 ·have e:Q7 cs a c=a:=by
   unfold Q7;rw [Da,AT (BW b)];rfl
  rw [e] at h;have:=h.ex;rw [d] at this;cases this
theorem RowB.st {Γ:Gm} {cs:List Addr} {j:Addr} {h:Heap} (B:RowB T.K Γ cs j) (X:T.K.In h) (G:h.Ns mainGlobals T.mg) (o:T.cl=Q7 cs j) (w:∀ x d,Γ.gl.lookup x=some (.val d)->∃ u v,T.mg x=some u/\RelV v u/\∀ μ H,RD T.K μ H d v)
  (r:∀ x c fs,Γ.gl.lookup x=some (.err c fs)->c<cs.length/\ErrAt T x c fs/\∀ g∈fs,g∈Γ.flds) (hd:∀ x k,Γ.gl.lookup x=some (.dct k)->fq T x k):TxSt T Γ:=by
 have i:∀ c,XC T.K (T.cl c)->c<cs.length/\T.cl c∈cs:=λc f=>by rw [o] at f ⊢;exact tR B.jk f
 have p:=λg l c f=>by
  have:=(AN.mp B.fl) g l;exact N2 ((AN.mp this) _ (i c f).2)
 refine ⟨λx s y=>?_,w,λx c fs e=>?_,λx c c0 fs e f=>?_,λc f=>?_,λc f t z=>?_,p,hd⟩
 ·have:=(AN.mp B.bl) x s;rw [y] at this;exact PySem.W.mg_none_of X G (N2 this)
 ·obtain ⟨n,m,q⟩:=r x c fs e;exact ⟨m,λg l=>p g (q g l) c m.xc⟩
 ·obtain ⟨n,m,q⟩:=r x c0 fs e;have a:=(AN.mp B.sub) c (BR.mpr (i c f).1);have b:=(AN.mp a) c0 (BR.mpr n);rw [o];exact J6 b
 ·exact J6 ((AN.mp B.sV) _ (i c f).2)
 ·have a:=(AN.mp B.sT) _ (i c f).2;exact J6 ((AN.mp a) t z)
def aN (K:PySem.W.Frag):Sp:=λvs H Q _=>∃ (a:Addr) (ns:List Int),vs=[.ref a]/\SqL K H a (ns.map V.int)/\∀ H',Q (.bl true) H'
theorem fZ {K:PySem.W.Frag} {cl:ClW} {run:List D->M D} (hr:∀ ns:List Int,∃ S',run [.scr (ns.map D.int)] []=.ok (.bl true) S'):∀ vs H Q E,aN K vs H Q E->spD K cl 1 run vs H Q E:=by
 rintro vs H Q E ⟨a,ns,rfl,hS,q⟩;obtain ⟨S',e⟩:=hr ns;refine ⟨rfl,⟨[],[]⟩,[],[.scr (ns.map D.int)],.cons (.scr ?_ (RDs.ints ns)) .nil,⟨rfl,by simp,λn o a e=>by simp at e,λa m=>by simp at m⟩,?_⟩
 ·rcases hS with h | h
  ·exact .inl ⟨h,by simp,by simp⟩
  ·exact .inr h
 ·rw [e];intro μ' H' l r v rv;cases rv;exact q H'
theorem ln0 {α:Type} {p:List α->Prop} {us:List α} (hl:us.length=0) (h:p []):p us:=by
 rw [List.length_eq_zero_iff.mp hl];exact h
theorem ln1 {α:Type} {p:List α->Prop} {us:List α} (hl:us.length=1) (h:∀ a,p [a]):p us:=by
 obtain ⟨a,rfl⟩:=List.length_eq_one_iff.mp hl;exact h a
theorem lnS {α:Type} {p:List α->Prop} {us:List α} {n:Nat} (hl:us.length=n+1) (h:∀ a ws,ws.length=n->p (a :: ws)):p us:=by
 cases us with
 | nil=>cases hl
 | cons a ws=>exact h a ws (Nat.succ.inj hl)
theorem ln2 {α:Type} {p:List α->Prop} {us:List α} (hl:us.length=2) (h:∀ a b,p [a,b]):p us:=lnS hl λa _ e=>ln1 (p:=λw=>p (a :: w)) e (h a)
theorem ln3 {α:Type} {p:List α->Prop} {us:List α} (hl:us.length=3) (h:∀ a b c,p [a,b,c]):p us:=lnS hl λa _ e=>ln2 (p:=λw=>p (a :: w)) e (h a)
theorem vZ {fd:FuncData} {ps:List Str} {us:List Value} (hl:us.length=0) (h:bindArgs fd ⟨[],[]⟩=pure (ps.zip [])):bindArgs fd ⟨us,[]⟩=pure (ps.zip us):=ln0 (p:=λus=>bindArgs fd ⟨us,[]⟩=pure (ps.zip us)) hl h
theorem Q6 {fd:FuncData} {ps:List Str} {us:List Value} (hl:us.length=1) (h:∀ a,bindArgs fd ⟨[a],[]⟩=pure (ps.zip [a])):bindArgs fd ⟨us,[]⟩=pure (ps.zip us):=ln1 (p:=λus=>bindArgs fd ⟨us,[]⟩=pure (ps.zip us)) hl h
theorem gA {fd:FuncData} {ps:List Str} {us:List Value} (hl:us.length=2) (h:∀ a b,bindArgs fd ⟨[a,b],[]⟩=pure (ps.zip [a,b])):bindArgs fd ⟨us,[]⟩=pure (ps.zip us):=ln2 (p:=λus=>bindArgs fd ⟨us,[]⟩=pure (ps.zip us)) hl h
theorem vV {fd:FuncData} {ps:List Str} {us:List Value} (hl:us.length=3) (h:∀ a b c,bindArgs fd ⟨[a,b,c],[]⟩=pure (ps.zip [a,b,c])):bindArgs fd ⟨us,[]⟩=pure (ps.zip us):=ln3 (p:=λus=>bindArgs fd ⟨us,[]⟩=pure (ps.zip us)) hl h
structure GF (K:PySem.W.Frag) (x:Str) (st:Stmt) (g:Addr):Prop where
 a:PySem.W.nsIn K mainGlobals x=some (some (.ref g))
 f:∃ fd,Fun K x x st g fd
theorem gf_mk {K:PySem.W.Frag} {x:Str} {st:Stmt} {g:Addr} {oc:Value} {od an:Option Addr} {osl:Array (Option Value)} {kV doc pm cdv ct:Value} (a:PySem.W.nsIn K mainGlobals x=some (some (.ref g))) (l:K.lookup g=some ⟨oc,od,.func (PySem.W.fnOf x x (j8 st) (i4 st) (b7 st) .none kV doc pm an cdv ct),osl⟩) (c:PySem.W.codeIn K cdv x=true) (k:PySem.W.keepIn K (.ref g)=true):GF K x st g:=⟨a,_,Z2 l c k⟩
theorem fe {T:Tx} {h:Heap} (X:T.K.In h) (G:h.Ns mainGlobals T.mg) {x:Str} {st:Stmt} {g:Addr} {m:List Str} {Tb:List Fd} {i n:Nat} (d:GF T.K x st g) (sc:Y4 (u0 st m)=true) (hb:∀ (kV doc pm:Value) (an:Option Addr) (cdv ct:Value) (us:List Value),us.length=(u0 st m).ps.length->bindArgs (PySem.W.fnOf x x (j8 st) (i4 st) (b7 st) .none kV doc pm an cdv ct) ⟨us,[]⟩=pure ((u0 st m).ps.zip us)) (hT:Tb[i]?=some (u0 st m)) (hn:(u0 st m).ps.length=n):∃ fd,Tb[i]?=some fd/\fd.ps.length=n/\FnTx T x fd:=by
 obtain ⟨fd,F⟩:=d.f;exact ⟨_,hT,hn,⟨g,_,_,st,F,rfl,rfl,T9 sc,F.binds hb,BL X G d.a⟩⟩
def ng (T:Tx) (Tb:List Fd):List (Str×G)->Prop
 | []=>True
 | (x,.fn i n) :: l=>(∃ fd,Tb[i]?=some fd/\fd.ps.length=n/\FnTx T x fd)/\ng T Tb l
 | _ :: l=>ng T Tb l
theorem tS {T:Tx} {Γ:Gm} {Tb:List Fd} (h:ng T Tb Γ.gl):gz T Γ Tb:=λx i n e=>by
 have m:=L2.mem_of_lookup e;generalize Γ.gl=l at h m;induction l with
 | nil=>cases m
 | cons y l ih=>
  obtain ⟨z,g⟩:=y;rcases AJ.mp m with q | q
  ·cases q;exact h.1
  ·refine ih ?_ q;cases g with
   | fn j k=>exact h.2
   | _=>exact h
theorem P0 {n:Nat} (I:Nat->Sto->List D->Prop) (a:∀ S es,I n S es->src n S=some none)
  (c:∀ i S es,i<n->I i S es->∃ d b S1,src i S=some (some d)/\t d S=.ok b S1/\(if b=true then ∃ y S2,f d S1=.ok y S2/\es.length<sizeLine/\I (i+1) S2 (es++[y]) else I (i+1) S1 es)) :
  ∀ (k i:Nat) (S:Sto) (es:List D),k+i=n->I i S es->∃ es' S',j6 src t f (k+1) i es S=.ok es' S'/\I n S' es'
 | 0,i,S,es,j,h=>by
  have:i=n:=by omega
  subst this;refine ⟨es,S,?_,h⟩;simp only [j6,a S es h]
 | k+1,i,S,es,j,h=>by
  obtain ⟨d,b,S1,l,m,e⟩:=c i S es (by omega) h;have g:j6 src t f (k+1+1) i es S=bind (t d) (λb=>if b=true then bind (f d) (λy=>if es.length<sizeLine then j6 src t f (k+1) (i+1) (es++[y]) else bad) else j6 src t f (k+1) (i+1) es) S:=by
   conv=>lhs;unfold j6
   simp only [l]
  rw [g,a8 m];cases b with
  | true=>
   rw [if_pos rfl] at e ⊢;obtain ⟨y,S2,p,o,q⟩:=e;rw [a8 p,if_pos o];exact P0 I a c k (i+1) S2 _ (by omega) q
  | false=>
   rw [if_neg Am] at e ⊢;exact P0 I a c k (i+1) S1 _ (by omega) e
def Ok {b:Type} (m:M b) (S:Sto) (Q:b->Sto->Prop):Prop:=∃ a S',m S=.ok a S'/\Q a S'
section
variable {α β:Type} {S S1:Sto} {m m':M α} {k:α->M β} {a:α} {Q Q':α->Sto->Prop} {P:β->Sto->Prop}
theorem Ok.ret (h:Q a S):Ok (ret a) S Q:=⟨a,S,rfl,h⟩
theorem Ok.of (e:m S=.ok a S1) (h:Q a S1):Ok m S Q:=⟨a,S1,e,h⟩
theorem Ok.bind (h:Ok m S λa S1=>Ok (k a) S1 P):Ok (L3.bind m k) S P:=by
 obtain ⟨a,S1,e,b,S2,c,q⟩:=h;exact ⟨b,S2,by rw [a8 e];exact c,q⟩
theorem Ok.eq (e:m S=.ok a S1) (h:Ok (k a) S1 P):Ok (L3.bind m k) S P:=Ok.bind ⟨a,S1,e,h⟩
theorem Ok.mono (h:Ok m S Q) (i:∀ a S1,Q a S1->Q' a S1):Ok m S Q':=by
 obtain ⟨a,S1,e,q⟩:=h;exact ⟨a,S1,e,i _ _ q⟩
theorem Ok.cg (e:m=m') (h:Ok m' S Q):Ok m S Q:=e▸h
theorem Ok.cgS (e:m S=m' S) (h:Ok m' S Q):Ok m S Q:=by
 obtain ⟨a,S1,b,q⟩:=h;exact ⟨a,S1,by rw [e];exact b,q⟩
theorem Ok.ite {c:Prop} [Decidable c] {a m2:M α} (b:c->Ok a S Q) (d:¬ c->Ok m2 S Q):Ok (if c then a else m2) S Q:=by grind
end
theorem Ok.comp {n:Nat} (I:Nat->Sto->List D->Prop) (c:∀ S es,I n S es->src n S=some none)
  (a:∀ i S es,i<n->I i S es->∃ d,src i S=some (some d)/\Ok (t d) S λb S1=>if b=true then Ok (f d) S1 λy S2=>es.length<sizeLine/\I (i+1) S2 (es++[y]) else I (i+1) S1 es) {S:Sto} (h:I 0 S []) :
  Ok (j6 src t f (n+1) 0 []) S λes S'=>I n S' es:=by
 obtain ⟨es,S',e,q⟩:=P0 I c (λi S es o h=>by
  obtain ⟨d,l,b,S1,m,q⟩:=a i S es o h;refine ⟨d,b,S1,l,m,?_⟩;cases b with
  | true=>
   rw [if_pos rfl] at q ⊢;obtain ⟨y,S2,g,j,k⟩:=q;exact ⟨y,S2,g,j,k⟩
  | false=>
   rw [if_neg Am] at q ⊢;exact q) n 0 S [] (by omega) h
 exact ⟨es,S',e,q⟩
def FlI (I:L3.Env->Sto->Prop) (J:L3.Env->Sto->Prop) (R:D->Sto->Prop) (a:Fl) (S:Sto):Prop:=match a with
 | .nx ρ=>I ρ S
 | .ct ρ=>I ρ S
 | .bk ρ=>J ρ S
 | .rt d=>R d S
theorem Ok.for_ {n:Nat} (I:Nat->L3.Env->Sto->Prop) (J:L3.Env->Sto->Prop) (R:D->Sto->Prop) (hend:∀ ρ S,I n ρ S->src n S=some none)
  (step:∀ i ρ S,i<n->I i ρ S->∃ d ρ1,src i S=some (some d)/\tg d ρ=some ρ1/\Ok (body ρ1) S (FlI (I (i+1)) J R)) :
  ∀ (k i:Nat) (ρ:L3.Env) (S:Sto),k+i=n->I i ρ S->Ok (n9 src tg body (k+1) i ρ) S λfl S'=>match fl with
   | .nx ρ'=>I n ρ' S'\/J ρ' S'
   | .rt d=>R d S'
   | _=>False
 | 0,i,ρ,S,hk,h=>by
  have:i=n:=by omega
  subst this;exact ⟨.nx ρ,S,by simp only [n9,hend ρ S h],.inl h⟩
 | k+1,i,ρ,S,hk,h=>by
  obtain ⟨d,ρ1,e1,e2,h2⟩:=step i ρ S (by omega) h;have un:n9 src tg body (k+1+1) i ρ S=L3.bind (body ρ1) (λfl=>match fl with
    | .nx ρ2=>n9 src tg body (k+1) (i+1) ρ2
    | .ct ρ2=>n9 src tg body (k+1) (i+1) ρ2
    | .bk ρ2=>L3.ret (.nx ρ2)
    | .rt d=>L3.ret (.rt d)) S:=by
   conv=>lhs;unfold n9
   simp only [e1,e2]
   all_goals rfl
  refine Ok.cgS un (Ok.bind (h2.mono λfl S1 q=>?_));cases fl with
  | nx ρ2=>exact Ok.for_ I J R hend step k (i+1) ρ2 S1 (by omega) q
  | ct ρ2=>exact Ok.for_ I J R hend step k (i+1) ρ2 S1 (by omega) q
  | bk ρ2=>exact Ok.ret (.inr q)
  | rt d=>exact Ok.ret q
theorem Ok.while_ (I:Nat->L3.Env->Sto->Prop) (J:L3.Env->Sto->Prop) (R:D->Sto->Prop)
  (step:∀ k ρ S,I k ρ S->Ok (t ρ) S λb S1=>if b=true then Ok (body ρ) S1 (FlI (λρ2 S2=>∃ j,j<k/\I j ρ2 S2) J R) else J ρ S1) :
  ∀ (m k:Nat) (ρ:L3.Env) (S:Sto),k<m->I k ρ S->Ok (v4 t body m ρ) S λfl S'=>match fl with
   | .nx ρ'=>J ρ' S'
   | .rt d=>R d S'
   | _=>False
 | 0,k,ρ,S,hk,h=>by omega
 | m+1,k,ρ,S,hk,h=>by
  refine Ok.bind ((step k ρ S h).mono λb S1 q=>?_);cases b with
  | false=>
   rw [if_neg Am] at q ⊢;exact Ok.ret q
  | true=>
   rw [if_pos rfl] at q ⊢;refine Ok.bind (q.mono λfl S2 q2=>?_);cases fl with
   | nx ρ2=>obtain ⟨j,hj,q3⟩:=q2;exact Ok.while_ I J R step m j ρ2 S2 (by omega) q3
   | ct ρ2=>obtain ⟨j,hj,q3⟩:=q2;exact Ok.while_ I J R step m j ρ2 S2 (by omega) q3
   | bk ρ2=>exact Ok.ret q2
   | rt d=>exact Ok.ret q2
theorem y0 {c:Type} {l:List c} {h g:c->D} {p:c->Bool} {t:D->M Bool} {f:D->M D} {S:Sto} (s:l.length<sizeLine) (m:∀ a∈l,t (h a) S=.ok (p a) S) (k:∀ a∈l,p a=true->f (h a) S=.ok (g a) S):j6 (F3 (l.map h)) t f (l.length+1) 0 [] S=.ok ((l.filter p).map g) S:=by
 obtain ⟨es,S',e,q,r⟩:=Ok.comp (src:=F3 (l.map h)) (λi S' es=>S'=S/\es=((l.take i).filter p).map g) (λS es _=>by show some (l.map h)[l.length]?=some none;rw [AT (by simp)])
  (λi S' es b ⟨j,o⟩=>by
   subst j o;refine ⟨h l[i],?_,p l[i],S',m _ (Bh b),?_⟩
   ·show some (l.map h)[i]?=some (some (h l[i]));rw [AM,AB b];rfl
   ·have n:=Cz b;cases d:p l[i] with
    | true=>
     dsimp only;rw [if_pos rfl];refine ⟨g l[i],S',k _ (Bh b) d,?_,rfl,?_⟩
     ·grind
     ·grind
    | false=>
     dsimp only;rw [if_neg Am];refine ⟨rfl,?_⟩;rw [n,BH,Dr (by rw [d];exact Am),List.filter_nil,AI]) ⟨rfl,rfl⟩
 grind
def Asc (x:Str):Prop:=∀ c∈x.cps.toList,c<128
def J9 (j:Nat):Nat:=1000000000000000000000000000000000000000+j
mutual
def Pln (j:Nat):D->Prop
 | .non=>True
 | .bl _=>True
 | .int i=>i.natAbs<=J9 j
 | .str x=>x.length<=45+j/\Asc x
 | .tup ds=>Plns j ds
 | .lst ds=>Plns j ds
 | .scr _=>False
 | .ref _=>False
def Plns (j:Nat):List D->Prop
 | []=>True
 | d :: ds=>Pln j d/\Plns j ds
end
mutual
noncomputable def py:D->PyData
 | .non=>.none
 | .bl b=>.bool b
 | .int i=>.int i
 | .str x=>.str x
 | .tup ds=>.tuple (pys ds)
 | .lst ds=>.list (pys ds)
 | .scr _=>.none
 | .ref _=>.none
noncomputable def pys:List D->List PyData
 | []=>[]
 | d :: ds=>py d :: pys ds
end
mutual
noncomputable def dp:D->Nat
 | .tup ds=>dps ds+1
 | .lst ds=>dps ds+1
 | _=>0
noncomputable def dps:List D->Nat
 | []=>0
 | d :: ds=>max (dp d) (dps ds)
end
mutual
noncomputable def sz:D->Nat
 | .int _=>60
 | .str x=>10 * x.length+2
 | .tup ds=>szs ds+3
 | .lst ds=>szs ds+3
 | _=>5
noncomputable def szs:List D->Nat
 | []=>0
 | d :: ds=>sz d+2+szs ds
end
theorem Plns.of:∀ {ds:List D},(∀ d∈ds,Pln j d)->Plns j ds
 | [],_=>trivial
 | d :: ds,h=>⟨h d (Aq ..),Plns.of λe a=>h e (Ar _ a)⟩
mutual
theorem Pln.up:∀ (d:D),Pln j d->Pln (j+1) d
 | .non,_=>trivial
 | .bl _,_=>trivial
 | .int i,h=>by have h:i.natAbs<=J9 j:=h;show i.natAbs<=J9 (j+1);unfold J9 at *;omega
 | .str x,h=>⟨by have:=h.1;omega,h.2⟩
 | .tup ds,h=>Plns.up ds h
 | .lst ds,h=>Plns.up ds h
 | .scr _,h=>h.elim
 | .ref _,h=>h.elim
theorem Plns.up:∀ (ds:List D),Plns j ds->Plns (j+1) ds
 | [],_=>trivial
 | d :: ds,h=>⟨Pln.up d h.1,Plns.up ds h.2⟩
end
theorem cj:∀ {ds:List D},(∀ d∈ds,dp d<=n)->dps ds<=n
 | [],_=>Cr _
 | d :: ds,h=>by
  have:=h d (Aq ..);have:=cj λe a=>h e (Ar _ a);show max (dp d) (dps ds)<=n;omega
mutual
theorem aB (S:Sto):∀ (d:D) (n:Nat),Pln j d->dp d<n->i7 n S d=some (py d)
 | .non,n+1,_,_=>rfl
 | .bl _,n+1,_,_=>rfl
 | .int _,n+1,_,_=>rfl
 | .str _,n+1,_,_=>rfl
 | .tup ds,n+1,h,a=>by
  show (h7 (i7 n S) ds).map PyData.tuple=_;rw [T3 S ds n h (by have:dps ds+1<n+1:=a;omega)];rfl
 | .lst ds,n+1,h,a=>by
  show (h7 (i7 n S) ds).map PyData.list=_;rw [T3 S ds n h (by have:dps ds+1<n+1:=a;omega)];rfl
 | .scr _,_,h,_=>h.elim
 | .ref _,_,h,_=>h.elim
 | .non,0,_,h=>by omega
 | .bl _,0,_,h=>by omega
 | .int _,0,_,h=>by omega
 | .str _,0,_,h=>by omega
 | .tup _,0,_,h=>by omega
 | .lst _,0,_,h=>by omega
theorem T3 (S:Sto):∀ (ds:List D) (n:Nat),Plns j ds->dps ds<n->h7 (i7 n S) ds=some (pys ds)
 | [],n,_,_=>rfl
 | d :: ds,n,h,hn=>by
  have hn:max (dp d) (dps ds)<n:=hn;simp only [h7,aB S d n h.1 (by omega),T3 S ds n h.2 (by omega)];rfl
end
theorem pw (h:Asc x):PyData.strOk x=true:=by
 unfold PyData.strOk;rw [Array.all_eq_true'];intro c a;have:=h c (by simpa using a);grind
mutual
theorem ba:∀ d:D,Pln j d->(py d).canLay0=true
 | .non,_=>rfl
 | .bl _,_=>rfl
 | .int _,_=>rfl
 | .str x,h=>by show PyData.canLay0 (.str x)=true;simp only [PyData.canLay0];exact pw h.2
 | .tup ds,h=>by show PyData.canLay0 (.tuple (pys ds))=true;simp only [PyData.canLay0];exact aG ds h
 | .lst ds,h=>by show PyData.canLay0 (.list (pys ds))=true;simp only [PyData.canLay0];exact aG ds h
 | .scr _,h=>h.elim
 | .ref _,h=>h.elim
theorem aG:∀ ds:List D,Plns j ds->PyData.canLayAll0 (pys ds)=true
 | [],_=>rfl
 | d :: ds,h=>by show PyData.canLayAll0 (py d :: pys ds)=true;simp only [PyData.canLayAll0,ba d h.1,aG ds h.2,Bool.and_self]
end
mutual
theorem E6:∀ d:D,(py d).depth<=dp d
 | .non=>by show PyData.depth .none<=_;simp [PyData.depth]
 | .bl b=>by show PyData.depth (.bool b)<=_;simp [PyData.depth]
 | .int i=>by show PyData.depth (.int i)<=_;simp [PyData.depth]
 | .str x=>by show PyData.depth (.str x)<=_;simp [PyData.depth]
 | .tup ds=>by show PyData.depth (.tuple (pys ds))<=dps ds+1;simp only [PyData.depth];have:=K1 ds;omega
 | .lst ds=>by show PyData.depth (.list (pys ds))<=dps ds+1;simp only [PyData.depth];have:=K1 ds;omega
 | .scr _=>by show PyData.depth .none<=_;simp [PyData.depth]
 | .ref _=>by show PyData.depth .none<=_;simp [PyData.depth]
theorem K1:∀ ds:List D,PyData.depthAll (pys ds)<=dps ds
 | []=>by show PyData.depthAll []<=0;simp [PyData.depthAll]
 | d :: ds=>by
  have:=E6 d;have:=K1 ds;show PyData.depthAll (py d :: pys ds)<=max (dp d) (dps ds);simp only [PyData.depthAll];omega
end
theorem kt {i:Int} (h:i.natAbs<=J9 j) (hj:j<=1000):decide (i.natAbs.log2<1920)=true:=by
 refine AO ?_;by_cases z:i.natAbs=0
 ·rw [z];decide
 ·have:i.natAbs<2 ^ 140:=by unfold J9 at h;omega
  have:=(Nat.log2_lt z).mpr this;omega
mutual
theorem du (f:j<=1000):∀ d:D,Pln j d->(py d).showable=true/\(py d).hasDict=false/\(py d).shown.length<=sz d
 | .non,_=>⟨rfl,rfl,by show (PyData.shown .none).length<=5;decide⟩
 | .bl b,_=>⟨rfl,rfl,by show (PyData.shown (.bool b)).length<=5;cases b <;> decide⟩
 | .int i,h=>⟨kt h f,rfl,by
   have h:i.natAbs<=J9 j:=h;have e:=int_text_length_le10 (k:=40) (a:=i) (by decide) (by unfold J9 at h;omega);show (Str.ofString (toString i)).length<=60;rw [PySem.ofString_length];omega⟩
 | .str x,h=>⟨rfl,rfl,by
   show (PyData.shown (.str x)).length<=10 * x.length+2;rw [PyData.shown_str];exact StrLaws.reprText_len x λc m=>by have:=h.2 c m;omega⟩
 | .tup ds,h=>by
  obtain ⟨a,b,c⟩:=R0 f ds h;refine ⟨by show PyData.showable (.tuple (pys ds))=true;simp only [PyData.showable];exact a,by show PyData.hasDict (.tuple (pys ds))=false;simp only [PyData.hasDict];exact b,?_⟩;have g:=tupleText_len_le (PyData.shownAll (pys ds));have l:=PyData.shownAll_length (pys ds);show (PyData.shown (.tuple (pys ds))).length<=szs ds+3;simp only [PyData.shown];omega
 | .lst ds,h=>by
  obtain ⟨a,b,c⟩:=R0 f ds h;refine ⟨by show PyData.showable (.list (pys ds))=true;simp only [PyData.showable];exact a,by show PyData.hasDict (.list (pys ds))=false;simp only [PyData.hasDict];exact b,?_⟩;have g:=listText_len_le (PyData.shownAll (pys ds));have l:=PyData.shownAll_length (pys ds);show (PyData.shown (.list (pys ds))).length<=szs ds+3;simp only [PyData.shown];omega
 | .scr _,h=>h.elim
 | .ref _,h=>h.elim
theorem R0 (hj:j<=1000):∀ ds:List D,Plns j ds->PyData.showableAll (pys ds)=true/\PyData.hasDictAll (pys ds)=false/\((PyData.shownAll (pys ds)).map (·.length)).sum+2 * (pys ds).length<=szs ds
 | [],_=>⟨rfl,rfl,by show ((PyData.shownAll []).map (·.length)).sum+2 * 0<=0;simp [PyData.shownAll]⟩
 | d :: ds,h=>by
  obtain ⟨a,b,c⟩:=du hj d h.1;obtain ⟨a2,b2,c2⟩:=R0 hj ds h.2;refine ⟨by show PyData.showableAll (py d :: pys ds)=true;simp only [PyData.showableAll,a,a2,Bool.and_self],by show PyData.hasDictAll (py d :: pys ds)=false;simp only [PyData.hasDictAll,b,b2,Bool.or_self],?_⟩;show ((PyData.shownAll (py d :: pys ds)).map (·.length)).sum+2 * (py d :: pys ds).length<=sz d+2+szs ds;simp only [PyData.shownAll,AE,List.sum_cons,Bg];omega
end
structure Any (j N:Nat) (d:D):Prop where
 pl:Pln j d
 dp:dp d<=3+j
 sz:sz d<=N
theorem iQ (h:Any j N d) (i:j<=40) (g:N<=10000000) (S:Sto):t6 d S=.ok (.str (py d).shown) S:=by
 obtain ⟨a,b,c⟩:=du (by omega) d h.pl;have e:=aB S d 64 h.pl (by have:=h.dp;omega);have f:t6 d S=(match i7 64 S d with
  | some p=>(if Shows p then ret (D.str p.shown) else bad) S
  | none=>.bad):=rfl
 rw [f,e];show (if Shows (py d) then ret (D.str (py d).shown) else bad) S=_;rw [if_pos ⟨a,b,by have:=E6 d;have:=h.dp;omega,by have:=h.sz;rw [AD];omega⟩];rfl
mutual
noncomputable def plB:D->Bool
 | .non=>true
 | .bl _=>true
 | .int i=>decide (i.natAbs<=J9 0)
 | .str x=>decide (x.length<=45)&&x.cps.toList.all (· < 128)
 | .tup ds=>iE ds
 | .lst ds=>iE ds
 | .scr _=>false
 | .ref _=>false
noncomputable def iE:List D->Bool
 | []=>true
 | d :: ds=>plB d&&iE ds
end
mutual
theorem iX:∀ d:D,plB d=true->Pln 0 d
 | .non,_=>trivial
 | .bl _,_=>trivial
 | .int i,h=>by
  have h:decide (i.natAbs<=J9 0)=true:=h;exact (BQ h:i.natAbs<=J9 0)
 | .str x,h=>by
  have h:(decide (x.length<=45)&&x.cps.toList.all (· < 128))=true:=h;rw [Ak,AG,AN] at h;exact ⟨h.1,λc hc=>BQ (h.2 c hc)⟩
 | .tup ds,h=>aA ds h
 | .lst ds,h=>aA ds h
 | .scr _,h=>Bool.noConfusion h
 | .ref _,h=>Bool.noConfusion h
theorem aA:∀ ds:List D,iE ds=true->Plns 0 ds
 | [],_=>trivial
 | d :: ds,h=>by
  have h:(plB d&&iE ds)=true:=h;rw [Ak] at h;exact ⟨iX d h.1,aA ds h.2⟩
end
def smB (n N:Nat) (d:D):Bool:=plB d&&decide (dp d<=n)&&decide (sz d<=N)
theorem cO (h:smB n N d=true):Pln 0 d/\dp d<=n/\sz d<=N:=by
 unfold smB at h;rw [Ak,Ak,AG,AG] at h;exact ⟨iX d h.1.1,h.1.2,h.2⟩
theorem Pln.ups {d:D} (h:Pln 0 d):Pln j d:=by
 induction j with
 | zero=>exact h
 | succ j a=>exact a.up
theorem jD {i:Nat} (h:i<=ds.length):C7 ds none (some (i:Int))=ds.take i:=by
 have e:HT.sIx ds.length ds.length (some (i:Int))=i:=by
  show (if (i:Int)<0 then ((i:Int)+(ds.length:Int)).toNat else min (i:Int).toNat ds.length)=i;rw [if_neg (by omega)];simp;omega
 unfold C7;rw [e,HT.sIx_none];simp
theorem gT {i:Nat} (h:i<=ds.length):C7 ds (some (i:Int)) none=ds.drop i:=by
 have e:HT.sIx ds.length 0 (some (i:Int))=i:=by
  show (if (i:Int)<0 then ((i:Int)+(ds.length:Int)).toNat else min (i:Int).toNat ds.length)=i;rw [if_neg (by omega)];simp;omega
 unfold C7;rw [e,HT.sIx_none];rw [List.take_of_length_le (by simp)]
theorem cat_tup (h:xs.length+ys.length<=sizeLine):i8 (.tup xs) (.tup ys) S=.ok (.tup (xs++ys)) S:=by
 show (if xs.length+ys.length<=sizeLine then ret (D.tup (xs++ys)) else bad) S=_;rw [if_pos h];rfl
theorem lS (ds:List D) (S:Sto):j9 (.tup ds) S=.ok (F3 ds,ds.length+1) S:=rfl
theorem bv {n:Nat} (h:n<1000) (S:Sto):M4 [.int (n:Int)] S=.ok (bR 0 n,n+1) S:=by
 unfold M4;have a:(n:Int)<1000:=by omega
 have b:(0:Int)<=n:=by omega
 have c:-(2 ^ 62)<=(n:Int)/\(n:Int)<2 ^ 62:=⟨Int.le_trans (by decide) b,Int.lt_trans a (by decide)⟩;simp only [if_pos c,Df];rfl
theorem tJ {i:Nat} {d:D} (S:Sto) (h:ds[i]?=some d):ixD (.tup ds) (.int (i:Int)) S=.ok d S:=by
 show ay (atI ds (i:Int)) S=_;rw [cu h];rfl
theorem aS {α:Type} {src:Src} {l:List α} {h g:α->D} {p:α->Bool} {t:D->M Bool} {f:D->M D} {S:Sto} (hs:∀ i,src i S=some (l.map h)[i]?) (hl:l.length<sizeLine) (ht:∀ a∈l,t (h a) S=.ok (p a) S) (hf:∀ a∈l,p a=true->f (h a) S=.ok (g a) S):j6 src t f (l.length+1) 0 [] S=.ok ((l.filter p).map g) S:=by
 obtain ⟨es,S',e,e1,e2⟩:=Ok.comp (src:=src) (t:=t) (f:=f) (n:=l.length) (λi S' es=>S'=S/\es=((l.take i).filter p).map g) (λS' es q=>by obtain ⟨q,_⟩:=q;subst q;rw [hs,AT (by simp)])
  (λi S' es hi ⟨h1,h2⟩=>by
   subst h1 h2;refine ⟨h l[i],?_,p l[i],S',ht _ (Bh hi),?_⟩
   ·rw [hs,AM,AB hi];rfl
   ·have ta:l.take (i+1)=l.take i++[l[i]]:=Cz hi;cases hp:p l[i] with
    | true=>
     dsimp only;rw [if_pos rfl];refine ⟨g l[i],S',hf _ (Bh hi) hp,?_,rfl,?_⟩
     ·rw [An];have:=Bs p (l.take i);have:=List.length_take_le i l;omega
     ·rw [ta,BH,BJ,List.filter_cons_of_pos hp];rfl
    | false=>
     dsimp only;rw [if_neg Am];refine ⟨rfl,?_⟩;rw [ta,BH,Dr (by rw [hp];exact Am),List.filter_nil,AI]) (S:=S) ⟨rfl,rfl⟩
 rw [e];subst e1 e2;rw [CH]
theorem nN (n i:Nat) (S:Sto):bR 0 n i S=some ((List.range n).map λ(k:Nat)=>D.int (k:Int))[i]?:=by
 show some (if i<n then some (D.int (0+i)) else none)=_;grind
theorem qV (e:S[n]?=some (.lst ds)) (i:Nat):hG n i S=some ds[i]?:=by
 simp only [hG,e]
theorem aM {α β:Type} {f:α->β} {l:List α} {i:Nat} {a:α} (h:l[i]?=some a):(l.map f)[i]?=some (f a):=by rw [AM,h];rfl
def Ex (S S':Sto):Prop:=∃ T,S'=S++T
theorem Ex.at {S S':Sto} (h:Ex S S') {q:Nat} (hq:q<S.length):S'[q]?=S[q]?:=by
 obtain ⟨t,rfl⟩:=h;rw [Al hq]
theorem iM (e:S[n]?=some (.lst es)):lstOf (.ref n) S=.ok es S:=by simp only [lstOf,e]
theorem mY {y:D} (e:S[n]?=some (.lst es)) (a:es.length<sizeLine):Y0 (.ref n) [y] S=.ok .non (S.set n (.lst (es++[y]))):=by simp only [Y0,e,if_pos a]
def Fw (ns:List Int) (p N:Nat) (S:Sto):Prop:=∃ a l t:Int,S[p]?=some (f8 ns a l t)/\0<=a/\0<=l/\0<=t/\t+N<1000000
theorem Fw.less {p N K:Nat} {S:Sto} (h:Fw ns p N S) (g:K<=N):Fw ns p K S:=by
 obtain ⟨a,l,t,e,b,d,c,f⟩:=h;exact ⟨a,l,t,e,b,d,c,by omega⟩
theorem Fw.keep (h:Fw ns p N S) (e:S'[p]?=S[p]?):Fw ns p N S':=by
 obtain ⟨a,l,t,c,b⟩:=h;exact ⟨a,l,t,by rw [e];exact c,b⟩
theorem Fw.lt (h:Fw ns p N S):p<S.length:=by
 obtain ⟨a,l,t,e,_⟩:=h;grind
theorem Ok.nx (h:Ok m S Q):Ok (L3.nx m) S Q:=by
 obtain ⟨a,S1,e,q⟩:=h;exact ⟨a,S1,by unfold L3.nx;rw [e],q⟩
def nxt {d:Type} (q:EvK) (e:Lc) (c:List Stmt) (k:Fl->M d):Fl->M d:=λb=>match b with
 | .nx a=>m4 q e c a k
 | b=>k b
section
variable {α:Type} {q:EvK} {lc:Lc} {st:Stmt} {sts:List Stmt} {ρ:L3.Env} {k:Fl->M α} {S:Sto} {Q:α->Sto->Prop} {P:Nat->Sto->Prop}
theorem Ok.first (h:Ok (q.s lc st ρ (nxt q lc sts k)) S Q):Ok (m4 q lc (st :: sts) ρ k) S Q:=h
theorem Ok.nxt (h:Ok (q.s lc st ρ (L3.nxt q lc sts k)) S Q):Ok (L3.nxt q lc (st :: sts) k (.nx ρ)) S Q:=h
theorem Ok.pos [Decidable c] {a b:M α} (h:c) (k:Ok a S Q):Ok (if c then a else b) S Q:=by rw [if_pos h];exact k
theorem Ok.neg [Decidable c] {a b:M α} (h:¬ c) (k:Ok b S Q):Ok (if c then a else b) S Q:=by rw [if_neg h];exact k
end
def fin {b:Type} (κ:Fl->M b):Fl->M b:=λa=>match a with
 | .nx ρ=>κ (.nx ρ)
 | a=>κ a
theorem bQ {i:Nat} {x:D} {S:Sto} (h:i<ds.length) (n:ds.length<=1000) :
  Ok (bind (y9 (.int (i:Int))) λc=>bind (slD (.tup ds) none c) λk=>bind (i8 k (.tup [x])) λb=>bind (i8 (.int (i:Int)) (.int 1)) λj=>bind (y9 j) λf=>bind (slD (.tup ds) f none) λx6=>bind (i8 b x6) λx7=>ret x7) S λd S'=>d=.tup (ds.set i x)/\S'=S:=by
 have m:(1001:Nat)<=sizeLine:=by decide
 have e:((i:Int)+1)=((i+1:Nat):Int):=by omega
 have l:C7 ds none (some (i:Int))=ds.take i:=jD (by omega);have g:C7 ds (some ((i:Int)+1)) none=ds.drop (i+1):=by rw [e];exact gT (by omega)
 refine Ok.eq rfl (Ok.eq (a:=.tup (ds.take i)) (by rw [<- l];rfl) (Ok.eq (cat_tup (by simp;omega)) (Ok.eq rfl (Ok.eq rfl (Ok.eq (a:=.tup (ds.drop (i+1))) (by rw [<- g];rfl) (Ok.eq (cat_tup (by simp;omega)) (Ok.ret ⟨?_,rfl⟩)))))));rw [List.set_eq_take_append_cons_drop,if_pos h,Bv];rfl
theorem pk {r:Nat} (h:r<100):Pln 0 (.int (r:Int)):=by
 show ((r:Int)).natAbs<=J9 0;have:J9 0≥100:=by decide +kernel
 omega
theorem Z4:∀ {ds:List D},(∀ d∈ds,sz d<=n)->szs ds<=(n+2) * ds.length
 | [],_=>Ao _
 | d :: ds,h=>by
  have c:=h d (by simp);have b:=Z4 (ds:=ds) λx a=>h x (by simp [a]);show sz d+2+szs ds<=(n+2) * (ds.length+1);rw [Nat.mul_add];omega
theorem gQ (ns:List Int):∃ ms:List Int,C7 (ns.map D.int) none (some 63)=ms.map D.int:=⟨(ns.drop (HT.sIx ns.length 0 none)).take (HT.sIx ns.length ns.length (some 63)-HT.sIx ns.length 0 none),by simp [C7,List.map_drop,List.map_take]⟩
theorem aF (n:Nat) (S:Sto):bR 0 n n S=some none:=by
 show some (if n<n then _ else none)=some none;grind
theorem bb {n i:Nat} (h:i<n) (S:Sto):bR 0 n i S=some (some (.int (i:Int))):=by rw [nN,aM (List.getElem?_range h)]
structure Sml (n N:Nat) (d:D):Prop where
 pl:Pln 0 d
 dp:dp d<=n
 sz:sz d<=N
def Smls (n N:Nat) (ds:List D):Prop:=∀ d∈ds,Sml n N d
theorem Smls.nil:Smls n N []:=λd h=>by cases h
theorem Smls.cons (h:Sml n N d) (hs:Smls n N ds):Smls n N (d :: ds):=λx a=>by
 rcases AJ.mp a with z | z
 ·rw [z];exact h
 ·exact hs x z
theorem Smls.map {b:Type} {n N:Nat} {f:b->D} {l:List b} (h:∀ a∈l,Sml n N (f a)):Smls n N (l.map f):=λx c=>by
 obtain ⟨a,d,rfl⟩:=AU.mp c;exact h a d
theorem Sml.mono {d:D} (h:Sml n N d) (b:n<=n') (a:N<=N'):Sml n' N' d:=⟨h.pl,AQ h.dp b,AQ h.sz a⟩
theorem Sml.up {n N a N':Nat} {d:D} (h:Sml n N d) (c:n<=a:=by decide) (b:N<=N':=by decide):Sml a N' d:=h.mono c b
theorem Sml.tup {ds:List D} (h:Smls n N ds) (a:ds.length<=m):Sml (n+1) ((N+2) * m+3) (.tup ds):=by
 have s:=Z4 λd hd=>(h d hd).sz;have b:=cj λd hd=>(h d hd).dp;refine ⟨Plns.of λd hd=>(h d hd).pl,by show dps ds+1<=n+1;omega,?_⟩;show szs ds+3<=_;have:=Nat.mul_le_mul_left (N+2) a;omega
theorem Sml.lst {ds:List D} (h:Smls n N ds) (a:ds.length<=m):Sml (n+1) ((N+2) * m+3) (.lst ds):=by
 have s:=Z4 λd hd=>(h d hd).sz;have b:=cj λd hd=>(h d hd).dp;refine ⟨Plns.of λd hd=>(h d hd).pl,by show dps ds+1<=n+1;omega,?_⟩;show szs ds+3<=_;have:=Nat.mul_le_mul_left (N+2) a;omega
theorem Sml.nat {n N i:Nat} (h:i<100) (a:60<=N:=by decide):Sml n N (.int (i:Int)):=⟨pk h,Cr _,a⟩
theorem Sml.non {n N:Nat} (a:5<=N:=by decide):Sml n N .non:=⟨trivial,Cr _,a⟩
theorem Sml.bl {n N:Nat} {b:Bool} (a:5<=N:=by decide):Sml n N (.bl b):=⟨trivial,Cr _,a⟩
theorem Sml.w (h:smB n N d=true:=by decide +kernel):Sml n N d:=⟨(cO h).1,(cO h).2.1,(cO h).2.2⟩
theorem Sml.any (h:Sml n N d) (hn:n<=43):Any 40 N d:=⟨h.pl.ups,by have:=h.dp;omega,h.sz⟩
theorem Sml.repr (h:Sml n N d) (a:n<=43:=by decide) (b:N<=10000000:=by decide) (S:Sto):t6 d S=.ok (.str (py d).shown) S:=iQ (h.any a) (by omega) b S
theorem iV (a b:Int) (S:Sto):i5 .Eq (.int a) (.int b) S=.ok (.bl (decide (a=b))) S:=rfl
theorem tW (a b:Int) (S:Sto):i5 .Gt (.int a) (.int b) S=.ok (.bl (decide (b<a))) S:=rfl
theorem nx_bind {k:α->M β} {S:Sto} {Q:β->Sto->Prop} (h:Ok m S λa S1=>Ok (k a) S1 Q):Ok (L3.bind (L3.nx m) k) S Q:=Ok.bind (Ok.nx h)
theorem aU (h:Ok m S λd S'=>d=a/\S'=S):m S=.ok a S:=by
 obtain ⟨d,S',e,rfl,rfl⟩:=h;exact e
theorem Ok.loop {n:Nat} (I:Nat->L3.Env->Sto->Prop) (f:∀ ρ S,I n ρ S->src n S=some none)
  (e:∀ i ρ S,i<n->I i ρ S->∃ d b,src i S=some (some d)/\tg d ρ=some b/\Ok (body b) S λc S'=>∃ a,(c=.nx a\/c=.ct a)/\I (i+1) a S') {ρ:L3.Env} {S:Sto} (h:I 0 ρ S) :
  Ok (n9 src tg body (n+1) 0 ρ) S λc S'=>∃ a,c=.nx a/\I n a S':=by
 refine (Ok.for_ I (λ_ _=>False) (λ_ _=>False) f (λi ρ S l h=>?_) n 0 ρ S (by omega) h).mono ?_
 ·obtain ⟨d,b,g,j,k⟩:=e i ρ S l h;refine ⟨d,b,g,j,k.mono ?_⟩;rintro c S' ⟨a,rfl | rfl,q⟩
  ·exact q
  ·exact q
 ·grind
end L3
namespace L2
open PySem PySem.Spec PyProof.Rows
section
variable {prog:Program} {w:World} {A:Around} {elt target iter:Expr} {ifs:List Expr} {gens:List Comprehension} {scope:Scope} {pos:Pos} {k:Nat} {it acc:Value} {env:PySem.Env}
theorem jF (hg:gens[k]?=some ⟨target,iter,ifs,0⟩) (hl:gens[k+1]?=none):compTurn (.ListComp elt gens scope pos) k it acc env=(do
   standAt iter.pos
   match <- pyNext it with
   | none=>pure (.done .next)
   | some v=>
    letOwnedTupleGo target it v
    assign target env v
    let mut ok:=true
    for c in ifs do
     if ok then ok <- isTrue c env (eval c env)
    if ok then
     (do let _ <- call (.builtin "list.append") [acc,<- eval elt env])
    again (.compLoop (.ListComp elt gens scope pos) k it acc env)):=by
 unfold compTurn;simp only [hg,hl];rfl
theorem kc {t1 i1:Expr} {ifs1:List Expr} (hg:gens[k]?=some ⟨target,iter,ifs,0⟩) (hl:gens[k+1]?=some ⟨t1,i1,ifs1,0⟩):compTurn (.ListComp elt gens scope pos) k it acc env=(do
   standAt iter.pos
   match <- pyNext it with
   | none=>pure (.done .next)
   | some v=>
    letOwnedTupleGo target it v
    assign target env v
    let mut ok:=true
    for c in ifs do
     if ok then ok <- isTrue c env (eval c env)
    if ok then
     let x <- eval i1 env
     standAt i1.pos
     let x <- foldedSetIterable i1 env x
     let _ <- runOwn (.compStart (.ListComp elt gens scope pos) (k+1) (<- holding [x] (pyIter x)) acc env) env
    again (.compLoop (.ListComp elt gens scope pos) k it acc env)):=by
 unfold compTurn;simp only [hg,hl];rfl
abbrev BT:=(Shared->Prop)->Shared->Prop
def J3 (prog:Program) (w:World) (A:Around) (e:Expr) (k:Nat) (it acc:Value) (env:PySem.Env) (target:Expr) (ifs:List Expr) (B:BT):Prop:=
 ∀ (I:Nat->Shared->Prop) (R:Result->Shared->Prop) (n:Nat) (s:Shared),(∀ n s,I n s->wpAny (model prog w) A (pyNext it) (λr s₁=>match r with
   | none=>R (.ok .next) s₁
   | some v=>wpAny (model prog w) A (assign target env v) (λ_ s₂=>
     wpAny (model prog w) A (forIn ifs true λc r=>if r=true then do let ok <- isTrue c env (eval c env);pure (ForInStep.yield ok) else pure (ForInStep.yield r)) (λok s₃=>
      if ok=true then B (λs'=>∃ m,m<n/\I m s') s₃ else ∃ m,m<n/\I m s₃) (λ_ _=>False) s₂) (λ_ _=>False) s₁) (λ_ _=>False) s) ->
  I n s->codeAny (model prog w) A (.compLoop e k it acc env) R s
def mR (prog:Program) (w:World) (A:Around) (elt:Expr) (acc:Value) (env:PySem.Env):BT:=λP s=>wpAny (model prog w) A (eval elt env) (λx s₄=>
 wpAny (model prog w) A (call (.builtin "list.append") [acc,x]) (λ_ s₅=>P s₅) (λ_ _=>False) s₄) (λ_ _=>False) s
def lM (prog:Program) (w:World) (A:Around) (e i1:Expr) (k:Nat) (acc:Value) (env:PySem.Env):BT:=λP s=>wpAny (model prog w) A (eval i1 env) (λx s₄=>
 wpAny (model prog w) A (pyIter x) (λitv s₅=>codeAny (model prog w) A (.compStart e (k+1) itv acc env) (λr s₆=>match r with
  | .ok _=>P s₆
  | .error _=>False) s₅) (λ_ _=>False) s₄) (λ_ _=>False) s
theorem bG (hg:gens[k]?=some ⟨target,iter,ifs,0⟩) (hl:gens[k+1]?=none) (ht:∀ v,letOwnedTupleGo target it v=pure ()) :
  J3 prog w A (.ListComp elt gens scope pos) k it acc env target ifs (mR prog w A elt acc env):=by
 intro I R n s turn h;refine codeAny_loop rfl I (λn s hI=>?_) n h;show wpAny _ A ((compTurn (.ListComp elt gens scope pos) k it acc env).onRaise (λx=>do noteFrame x env;theTreesLotGoes x)) _ _ s;refine wpAny_noted ?_;rw [jF hg hl];refine Ag (Bo (Ag (AK (turn n s hI) (λr s₁ h₁=>?_) λ_ _ h'=>h'.elim)));cases r with
 | none=>exact Aj h₁
 | some v=>
  refine Ag (wpAny_of_eq (ht v) ?_);refine Ag (AK h₁ (λ_ s₂ h₂=>Ag (AK h₂ (λok s₃ h₃=>?_) λ_ _ h'=>h'.elim)) λ_ _ h'=>h'.elim);cases ok with
  | false=>exact Aj ⟨rfl,h₃⟩
  | true=>
   exact Ag (Ag (AK h₃ (λx s₄ h₄=>Ag (AK h₄ (λ_ s₅ h₅=>Aj (Aj ⟨rfl,h₅⟩)) λ_ _ h'=>h'.elim)) λ_ _ h'=>h'.elim))
theorem Y1 {t1 i1:Expr} {ifs1:List Expr} (hg:gens[k]?=some ⟨target,iter,ifs,0⟩) (hl:gens[k+1]?=some ⟨t1,i1,ifs1,0⟩) (hfs:∀ x,foldedSetIterable i1 env x=pure x) (ht:∀ v,letOwnedTupleGo target it v=pure ()) :
  J3 prog w A (.ListComp elt gens scope pos) k it acc env target ifs (lM prog w A (.ListComp elt gens scope pos) i1 k acc env):=by
 intro I R n s turn h;refine codeAny_loop rfl I (λn s hI=>?_) n h;show wpAny _ A ((compTurn (.ListComp elt gens scope pos) k it acc env).onRaise (λx=>do noteFrame x env;theTreesLotGoes x)) _ _ s;refine wpAny_noted ?_;rw [kc hg hl];refine Ag (Bo (Ag (AK (turn n s hI) (λr s₁ h₁=>?_) λ_ _ h'=>h'.elim)));cases r with
 | none=>exact Aj h₁
 | some v=>
  refine Ag (wpAny_of_eq (ht v) ?_);refine Ag (AK h₁ (λ_ s₂ h₂=>Ag (AK h₂ (λok s₃ h₃=>?_) λ_ _ h'=>h'.elim)) λ_ _ h'=>h'.elim);cases ok with
  | false=>exact Aj ⟨rfl,h₃⟩
  | true=>
   refine Ag (AK h₃ (λx s₄ h₄=>Ag (Bo ?_)) λ_ _ h'=>h'.elim);rw [hfs x];refine Ag (Aj (Ag (BK (AK h₄ (λitv s₅ h₅=>?_) λ_ _ h'=>h'.elim))));refine Ag (wpAny_runOwn (BV h₅ λr s₆ h₆=>?_));cases r with
   | ok f=>exact Aj ⟨rfl,h₆⟩
   | error e=>exact h₆.elim
theorem pq {R:Result->Shared->Prop} {s:Shared} (hg:gens[k]?=some ⟨target,iter,ifs,0⟩)
  (h0:codeAny (model prog w) A (.compLoop (.ListComp elt gens scope pos) k it acc env) R s)
  (h:wpAny (model prog w) A (pyIter it) (λit' s'=>codeAny (model prog w) A (.compLoop (.ListComp elt gens scope pos) k it' acc env) R s')
   (notedBy (model prog w) A env λx s'=>R (.error x) s') s) :
  codeAny (model prog w) A (.compStart (.ListComp elt gens scope pos) k it acc env) R s:=by
 refine codeAny_of_tree ?_;show wpAny _ _ ((compStart (.ListComp elt gens scope pos) k it acc env).onRaise (λx=>do noteFrame x env;standAt theWindowsPlace)) _ _ s;refine wpAny_notedAt ?_;have hc:(clausesOf (.ListComp elt gens scope pos))[k]?=some ⟨target,iter,ifs,0⟩:=hg;unfold compStart;rw [hc];show wpAny _ _ (ask >>= _) _ _ s;refine Ag (wpAny_askSetting (wpAny_ite ?_));split
 ·first
   | exact Ag (Aj (Aj (And.intro rfl h0)))
   | exact Aj (And.intro rfl h0)
 ·refine Ag (wpAny_rule ?_);show wpAny _ _ (standAt iter.pos >>= _) _ _ s;exact Ag (Bo (Ag (AK h (λit' s' h'=>Aj (And.intro rfl h')) λ_ _ x=>x)))
end
abbrev TB:=Nat->St->Hp->List V->(List V->Hp->Prop)->Prop
def tEl (te:TE):TB:=λacc σ H ys Q=>te σ H λz H'=>H' acc=some (.lst ys)/\ys.length<sizeLine/\Q (ys++[z]) (upd H' acc (.lst (ys++[z])))
def ly (J:It) (tc:TT) (k:Nat) (tb:TB):TB:=λacc σ H1 ys Q=>∃ W:Nat->Nat->List V->Hp->Prop,(∃ m,W 0 m ys H1) /\
 ∀ i m ys H2,W i m ys H2->(J.stop i H2/\Q ys H2)\/(J.go i H2/\∀ x H3,J.yld i H2 x H3->tc (σ.set k (some x)) H3 λb H5=>
  if b=true then tb acc (σ.set k (some x)) H5 ys (λzs H6=>∃ m',m'<m/\W (i+1) m' zs H6) else ∃ m',m'<m/\W (i+1) m' ys H5)
def tLv (wi:TI) (tc:TT) (k:Nat) (tb:TB):TB:=λacc σ H ys Q=>wi σ H λJ H1=>ly J tc k tb acc σ H1 ys Q
def Zn (n k:Nat) (σ:St):Prop:=∀ i,k<i->i<n->σ[i]?=some none
def K3 (Y:Cx) (n k:Nat) (B:BT) (acc:Nat) (tb:TB):Prop:=∀ (pins:List (Addr×Obj)) (s:Shared) (σ:St) (H:Hp) (ys:List V) (Q:List V->Hp->Prop) (P:Shared->Prop),Zn n k σ->Inv Y pins σ H s->tb acc σ H ys Q->(∀ zs H' s',Inv Y pins σ H' s'->Q zs H'->P s')->B P s
section
variable {X:Cx} {pins0:List (Addr×Obj)} {N':List Str} {scope:Scope} {C:Addr} {fp0:List Addr} {s0:Shared} {H0:Hp}
theorem W3 {elt:Expr} {acc:Nat} {te:TE} {n k:Nat} (he:PE (cxComp X pins0 N' scope C fp0 s0 H0) elt te):K3 (cxComp X pins0 N' scope C fp0 s0 H0) n k (mR X.prog X.w X.A elt (.ref acc) (cxComp X pins0 N' scope C fp0 s0 H0).env) acc (tEl te):=by
 intro pins s σ H ys Q P _ I h hP;refine b9 (thn (he pins s σ H _ I h) λz s9 ⟨y,H9,I9,r9,hacc9,hl9,q⟩=>?_);refine b9 (thn (C4 (X:=(cxComp X pins0 N' scope C fp0 s0 H0)) _ s9 _ H9 (.ref acc) [y] (.ref acc) [z] (λ_ H'=>H'=upd H9 acc (.lst (ys++[y]))) I9 rfl (.cons r9 .nil) ⟨_,ys,y,rfl,rfl,hacc9,hl9,rfl⟩) λ_ s10 ⟨_,H10,I10,_,e10⟩=>?_);subst e10;exact hP _ _ _ I10 q
theorem cL {e:Expr} {n k:Nat} {x:Str} {px:Pos} {ifs:List Expr} {B:BT} {tc:TT} {tb:TB} {acc it:Nat} {fp:List Addr} {tn:Nat->Heap->Prop} {J:It} {pins:List (Addr×Obj)} {σ:St} {H:Hp} {s:Shared} {ys:List V} {Q:List V->Hp->Prop} {R:Result->Shared->Prop}
  (hc:X.calm=true) (hN:N'.Nodup) (hx0:N'[k]?=some x) (hxl:scope.names.lookup x=some .local)
  (L:J3 X.prog X.w X.A e k (.ref it) (.ref acc) (cxComp X pins0 N' scope C fp0 s0 H0).env (.Name x px) ifs B)
  (ht:PTL (cxComp X pins0 N' scope C fp0 s0 H0) ifs tc) (hb:K3 (cxComp X pins0 N' scope C fp0 s0 H0) n k B acc tb) (Tn:Turn X.prog X.w X.K (.Name x px) J fp it tn)
  (stat:∀ {H':Hp},(∀ b∈fp,H' b=none)->∀ b∈fp,y3 (cxComp X pins0 N' scope C fp0 s0 H0) pins H' b)
  (I0:Inv (cxComp X pins0 N' scope C fp0 s0 H0) pins σ H s) (st:tn 0 s.heap) (fr:∀ b∈fp,H b=none) (hσ:σ[k]?=some none) (hz:Zn n k σ) (h:ly J tc k tb acc σ H ys Q)
  (fin:∀ zs H' s',Inv (cxComp X pins0 N' scope C fp0 s0 H0) pins σ H' s'->Q zs H'->R (.ok .next) s'):codeAny (model X.prog X.w) X.A (.compLoop e k (.ref it) (.ref acc) (cxComp X pins0 N' scope C fp0 s0 H0).env) R s:=by
 obtain ⟨W,⟨m0,w0⟩,turn⟩:=h;refine L (λn s'=>∃ i ys H',Inv (cxComp X pins0 N' scope C fp0 s0 H0) pins σ H' s'/\tn i s'.heap/\(∀ b∈fp,H' b=none)/\W i n ys H') R m0 s ?_ ⟨0,ys,H,I0,st,fr,w0⟩;rintro q s4 ⟨i,ys,H4,I4,st4,fr4,w4⟩;rcases turn i q ys H4 w4 with ⟨stop,q⟩ | ⟨go,step⟩
 ·refine thn (Tn.done (cxComp X pins0 N' scope C fp0 s0 H0) rfl rfl rfl hc i pins s4 _ H4 (λ_ _=>False) I4 (stat fr4) st4 stop) λr s5 ⟨hr,I5⟩=>?_;subst hr;exact fin _ _ _ I5 q
 ·refine thn (Tn.item (cxComp X pins0 N' scope C fp0 s0 H0) rfl rfl rfl hc i pins s4 _ H4 (λ_ _=>False) I4 (stat fr4) st4 go) λr s5 ⟨u,hr,h5⟩=>?_;subst hr;dsimp only;refine b9 (E8 (u:=letOwnedTupleGo (.Name x px) (.ref it) u) rfl (thn h5 λ_ s6 ⟨xv,H6,I6,r6,y6,st6,fr6⟩=>?_));have I6':=I6.pinned (stat fr6) (Tn.obj _ _ st6);refine thn (B9 (X:=(cxComp X pins0 N' scope C fp0 s0 H0)) (i:=k) hN hx0 (.inl (AW hxl)) (.inr (AW hxl)) _ s6 _ H6 xv u (λσ2 H4=>σ2=σ.set k (some xv)/\H4=H6) I6' r6 ⟨rfl,rfl⟩) λ_ s7 ⟨σ7,H7,I7,e7,e7'⟩=>?_;subst e7 e7';have back:∀ {σ8:St} {H8:Hp} {s8:Shared},Inv (cxComp X pins0 N' scope C fp0 s0 H0) (pins++v3 fp s6.heap) σ8 H8 s8->tn (i+1) s8.heap/\∀ b∈fp,H8 b=none:=λ{σ8 H8 s8} I8=>by
   refine ⟨Tn.keep _ _ _ st6 λb hb o e=>(I8.pin (b,o) (Av _ (Av _ (j2 hb e)))).1,λb hb=>?_⟩;obtain ⟨o,e,d⟩:=Tn.obj _ _ st6 b hb;exact (I8.pin (b,o) (Av _ (Av _ (j2 hb e)))).2.1
  have wk:∀ {H9:Hp} {s9:Shared},Inv (cxComp X pins0 N' scope C fp0 s0 H0) (pins++v3 fp s6.heap) (σ.set k (some xv)) H9 s9->Inv (cxComp X pins0 N' scope C fp0 s0 H0) pins σ H9 s9:=λ{H9 s9} I9=>
   I9.unpinned.weak (by simp) λj v e=>by
    by_cases hj:k=j
    ·subst hj;rw [hσ] at e;cases e
    ·rw [AC hj];exact e
  refine b9 (thn (ht _ s7 _ _ _ I7 (step xv _ y6)) λb s8 ⟨H8,I8,q8⟩=>?_);cases b with
  | false=>
   obtain ⟨m',hm,w'⟩:=q8;exact ⟨m',hm,i+1,ys,H8,wk I8,(back I8).1,(back I8).2,w'⟩
  | true=>
   rw [if_pos rfl] at q8 ⊢;exact hb _ s8 _ H8 ys _ _ (λi h1 h2=>by rw [AC (by omega)];exact hz i h1 h2) I8 q8 λzs H' s' I9 ⟨m',hm,w'⟩=>⟨m',hm,i+1,zs,H',wk I9,(back I9).1,(back I9).2,w'⟩
theorem Q1 {elt:Expr} {gens:List Comprehension} {pos:Pos} {n k:Nat} {x:Str} {px:Pos} {i1:Expr} {ifs:List Expr} {B:BT} {wi:TI} {tc:TT} {tb:TB} {acc:Nat} (hg:gens[k+1]?=some ⟨.Name x px,i1,ifs,0⟩) (hn:k+1<n)
  (hc:X.calm=true) (hN:N'.Nodup) (hx0:N'[k+1]?=some x) (hxl:scope.names.lookup x=some .local)
  (L:∀ it,J3 X.prog X.w X.A (.ListComp elt gens scope pos) (k+1) (.ref it) (.ref acc) (cxComp X pins0 N' scope C fp0 s0 H0).env (.Name x px) ifs B)
  (hi:PI (cxComp X pins0 N' scope C fp0 s0 H0) (.Name x px) i1 wi) (ht:PTL (cxComp X pins0 N' scope C fp0 s0 H0) ifs tc) (hb:K3 (cxComp X pins0 N' scope C fp0 s0 H0) n (k+1) B acc tb) :
  K3 (cxComp X pins0 N' scope C fp0 s0 H0) n k (lM X.prog X.w X.A (.ListComp elt gens scope pos) i1 k (.ref acc) (cxComp X pins0 N' scope C fp0 s0 H0).env) acc (tLv wi tc (k+1) tb):=by
 intro pins s σ H ys Q P hz I h hP;refine b9 (thn (hi pins s σ H _ I h) λv9 s9 h9=>b9 (thn h9 λitv1 s10 h10=>?_));obtain ⟨it1,fp1,tn1,J1,H10,rfl,I10,Tn1,st10,f10,q⟩:=h10;have run:∀ s11:Shared,s11=s10->codeAny (model X.prog X.w) X.A (.compLoop (.ListComp elt gens scope pos) (k+1) (.ref it1) (.ref acc) (cxComp X pins0 N' scope C fp0 s0 H0).env) (λr s₆=>match r with
  | .ok _=>P s₆
  | .error _=>False) s11:=by
  rintro s11 rfl;exact cL hc hN hx0 hxl (L it1) ht hb Tn1 (λhn b hb=>⟨hn b hb,(f10 b hb).2⟩) I10 st10 (λb hb=>(f10 b hb).1) (hz _ (AF _) hn) (λi h1 h2=>hz i (by omega) h2) q hP
 exact pq hg (run _ rfl) (Tn1.self _ 0 _ _ _ st10 (run _ rfl))
end
def S8 (n:Nat) (caps:List Nat) (wi:TI) (tc:TT) (tb:TB):TE:=λσ H Q=>wi σ H λJ H1=>∀ acc,H1 acc=none->ly J tc 0 tb acc (List.replicate n none++n8 caps σ) (upd H1 acc (.lst [])) [] λys H2=>H2 acc=some (.lst ys)/\Q (.ref acc) H2
section
variable {X:Cx} {elt iter:Expr} {x:Str} {px:Pos} {ifs:List Expr} {gens:List Comprehension} {scope:Scope} {pos:Pos} {N':List Str} {n:Nat} {caps:List Nat} {wi:TI} {tc:TT} {tb:TB} {B:Cx->Nat->BT}
theorem gK (hn:0<n) (T:CompText X.N X.env N' n caps scope) (hc:X.calm=true) (hN:N'.Nodup) (hx0:N'[0]?=some x) (hxl:scope.names.lookup x=some .local) (hi:PI X (.Name x px) iter wi)
  (L:∀ it acc env,J3 X.prog X.w X.A (.ListComp elt (⟨.Name x px,iter,ifs,0⟩ :: gens) scope pos) 0 (.ref it) (.ref acc) env (.Name x px) ifs (B { X with env:=env } acc))
  (ht:∀ pins C fp s H,PTL (cxComp X pins N' scope C fp s H) ifs tc)
  (hb:∀ pins C fp s H acc,K3 (cxComp X pins N' scope C fp s H) n 0 (B { X with env:=(cxComp X pins N' scope C fp s H).env } acc) acc tb)
  (hs:∀ x,foldedSetIterable iter X.env x=pure x):PE X (.ListComp elt (⟨.Name x px,iter,ifs,0⟩ :: gens) scope pos) (S8 n caps wi tc tb):=by
 intro pins s σ H Q I h;have fr:∀ x∈scope.names,x.2=NameKind.free->∃ c,X.env.cells.lookup x.1=some c:=λx hx hk=>I.ok.has x.1 (T.free x hx hk).2;rw [DF];refine By (use:=none) rfl hs (m6 fr) T.kind T.loc ?_;refine thn (hi pins s σ H _ I h) λv s1 h1=>thn h1 λitv s2 h2=>?_;obtain ⟨it,fp,tn,J,H2,rfl,I2,Tn,st2,f2,h2⟩:=h2;have run:=h2 s2.heap.objs.size (I2.hok.fresh (Ao _));have hlt:∀ b∈fp,b<s2.heap.objs.size:=λb hb=>let ⟨o,e,_⟩:=Tn.obj _ _ st2 b hb;Ap e
 refine AS (BU T.cell (by intro y hy;simp at hy) (λh₁ hns₁ hsb₁=>?_) T.kind);dsimp only at hns₁ hsb₁ ⊢;have hC:(s2.heap.push { cls:=.type "list",dict:=none,data:=.seq ([]:List Value).toArray }).objs.size=s2.heap.objs.size+1:=Bq ..;rw [hC] at hns₁ hsb₁;have old:∀ b o,s2.heap.get? b=some o->h₁.get? b=some o:=λb o e=>hsb₁.extBut b o (Au (Bb (Ap e))) (Ah _ (Ah _ e));have hacc:h₁.get? s2.heap.objs.size=some { cls:=.type "list",data:=.seq #[] }:=hsb₁.extBut _ _ (Au (AF _)) (Ah _ (Ax _ rfl));have hst₁:tn 0 h₁:=Tn.keep _ _ _ st2 λb _ o e=>old b o e;have I3:Inv (cxComp X pins N' scope (s2.heap.objs.size+1) fp s2 H2) [] (List.replicate n none++n8 caps σ) (upd H2 s2.heap.objs.size (.lst [])) { s2 with heap:=h₁,toks:=s2.toks+([]:List (Str×Value)).length }:=y4 (t:=s2.toks+([]:List (Str×Value)).length) T I2 f2 hlt hns₁ old hacc;have stat:∀ {H':Hp},(∀ b∈fp,H' b=none)->∀ b∈fp,y3 (cxComp X pins N' scope (s2.heap.objs.size+1) fp s2 H2) [] H' b:=λhn b hb=>by
  refine ⟨hn b hb,(I3.ok.exf b hb).1,I3.ok.exfs b hb,.inl hb,(I3.ok.exf b hb).2,λp hp=>?_⟩;have hp':p∈X.pn++pins:=by
   have:p∈(X.pn++pins)++[]:=hp;rwa [AI] at this
  exact (f2 b hb).2.2.2.2.2 p hp'
 have zn:∀ i,i<n->(List.replicate n none++n8 caps σ)[i]?=some none:=λi h=>by
  rw [Al (by simpa using h),Ba,if_pos h]
 have loop:∀ s3:Shared,s3={ s2 with heap:=h₁,toks:=s2.toks+([]:List (Str×Value)).length } ->
   codeAny (model X.prog X.w) X.A (.compLoop (.ListComp elt (⟨.Name x px,iter,ifs,0⟩ :: gens) scope pos) 0 (.ref it) (.ref s2.heap.objs.size) (compEnvC scope (D6 X.env.cells scope.names) (s2.heap.objs.size+1) X.env))
    (compPost (model X.prog X.w) X.A X.xe none (EP X pins σ Q) (.ref s2.heap.objs.size) (s2.heap.objs.size+1)) s3:=by
  rintro s3 rfl;refine cL (pins0:=pins) (N':=N') (scope:=scope) (C:=s2.heap.objs.size+1) (fp0:=fp) (s0:=s2) (H0:=H2) hc hN hx0 hxl (L it _ _) (ht pins _ fp s2 H2) (hb pins _ fp s2 H2 _) Tn stat I3 hst₁ (λb hb=>by rw [a7 (Au (hlt b hb))];exact (f2 b hb).1) (zn 0 hn) (λi _ h=>zn i h) run λzs H4 s5 I5 ⟨_,q⟩=>?_;obtain ⟨m5,hn5,_⟩:=id I5.loc;refine ⟨m5,hn5,λh' hs'=>?_⟩;refine ⟨.ref s2.heap.objs.size,H4,?_,rfl,q⟩;refine I2.call' (ch:=fp) (s':={ s5 with heap:=h' }) I5.os (Un.sameBut I5.base hs' (Bw _)) (I5.hok.sameBut I5.free hs') I5.bare λb hb=>?_;have:=f2 b hb;exact ⟨this.2.2.2.1,this.2.1,this.2.2.2.2.1,this.2.2.2.2.2⟩
 have fin:=BF (loop _ rfl) (Tn.self _ 0 _ _ _ hst₁ (loop _ rfl));rw [<- hC] at fin;exact fin
theorem ig {y:Str} {py spos:Pos} {iy:Nat} (hsw:swapsWith (.ListComp elt (⟨.Name x px,iter,ifs,0⟩ :: gens) scope pos) (some (.Name y py)) spos.line X.env=pure true) (hNX:X.N.Nodup) (hiy:X.N[iy]?=some y) (hy:Loc X.env.scope y) (hf:X.fn y=true\/X.env.scope.names.lookup y=some .local)
  (hn:0<n) (T:CompText X.N X.env N' n caps scope) (hc:X.calm=true) (hN:N'.Nodup) (hx0:N'[0]?=some x) (hxl:scope.names.lookup x=some .local) (hi:PI X (.Name x px) iter wi)
  (L:∀ it acc env,J3 X.prog X.w X.A (.ListComp elt (⟨.Name x px,iter,ifs,0⟩ :: gens) scope pos) 0 (.ref it) (.ref acc) env (.Name x px) ifs (B { X with env:=env } acc))
  (ht:∀ pins C fp s H,PTL (cxComp X pins N' scope C fp s H) ifs tc)
  (hb:∀ pins C fp s H acc,K3 (cxComp X pins N' scope C fp s H) n 0 (B { X with env:=(cxComp X pins N' scope C fp s H).env } acc) acc tb)
  (hs:∀ x,foldedSetIterable iter X.env x=pure x):PS X (.Assign [.Name y py] (.ListComp elt (⟨.Name x px,iter,ifs,0⟩ :: gens) scope pos) spos) (kI (S8 n caps wi tc tb) (W9 iy)):=by
 intro pins s σ H D I h;have fr:∀ x∈scope.names,x.2=NameKind.free->∃ c,X.env.cells.lookup x.1=some c:=λx hx hk=>I.ok.has x.1 (T.free x hx hk).2;rw [exec_Assign_Name_used _ _ _ _ hsw];refine Ag (Bo (Ag ?_));show wpAny _ X.A (do let _ <- comprehension (.ListComp elt (⟨.Name x px,iter,ifs,0⟩ :: gens) scope pos) scope X.env _ (newList []) false (eval iter X.env) (some (assign (.Name y py) X.env))) _ _ s;refine Ag (AK (By (use:=some (assign (.Name y py) X.env)) (Q:=λ_ s'=>SP X pins D .next s') rfl hs (m6 fr) T.kind T.loc ?_) (λ_ s' hq=>Aj (Aj hq)) λ_ _ e=>e);refine thn (hi pins s σ H _ I h) λv s1 h1=>thn h1 λitv s2 h2=>?_;obtain ⟨it,fp,tn,J,H2,rfl,I2,Tn,st2,f2,h2⟩:=h2;have run:=h2 s2.heap.objs.size (I2.hok.fresh (Ao _));have hlt:∀ b∈fp,b<s2.heap.objs.size:=λb hb=>let ⟨o,e,_⟩:=Tn.obj _ _ st2 b hb;Ap e
 refine AS (BU T.cell (by intro y hy;simp at hy) (λh₁ hns₁ hsb₁=>?_) T.kind);dsimp only at hns₁ hsb₁ ⊢;have hC:(s2.heap.push { cls:=.type "list",dict:=none,data:=.seq ([]:List Value).toArray }).objs.size=s2.heap.objs.size+1:=Bq ..;rw [hC] at hns₁ hsb₁;have old:∀ b o,s2.heap.get? b=some o->h₁.get? b=some o:=λb o e=>hsb₁.extBut b o (Au (Bb (Ap e))) (Ah _ (Ah _ e));have hacc:h₁.get? s2.heap.objs.size=some { cls:=.type "list",data:=.seq #[] }:=hsb₁.extBut _ _ (Au (AF _)) (Ah _ (Ax _ rfl));have hst₁:tn 0 h₁:=Tn.keep _ _ _ st2 λb _ o e=>old b o e;have I3:Inv (cxComp X pins N' scope (s2.heap.objs.size+1) fp s2 H2) [] (List.replicate n none++n8 caps σ) (upd H2 s2.heap.objs.size (.lst [])) { s2 with heap:=h₁,toks:=s2.toks+([]:List (Str×Value)).length }:=y4 (t:=s2.toks+([]:List (Str×Value)).length) T I2 f2 hlt hns₁ old hacc;have stat:∀ {H':Hp},(∀ b∈fp,H' b=none)->∀ b∈fp,y3 (cxComp X pins N' scope (s2.heap.objs.size+1) fp s2 H2) [] H' b:=λhn b hb=>by
  refine ⟨hn b hb,(I3.ok.exf b hb).1,I3.ok.exfs b hb,.inl hb,(I3.ok.exf b hb).2,λp hp=>?_⟩;have hp':p∈X.pn++pins:=by
   have:p∈(X.pn++pins)++[]:=hp;rwa [AI] at this
  exact (f2 b hb).2.2.2.2.2 p hp'
 have zn:∀ i,i<n->(List.replicate n none++n8 caps σ)[i]?=some none:=λi h=>by
  rw [Al (by simpa using h),Ba,if_pos h]
 have loop:∀ s3:Shared,s3={ s2 with heap:=h₁,toks:=s2.toks+([]:List (Str×Value)).length } ->
   codeAny (model X.prog X.w) X.A (.compLoop (.ListComp elt (⟨.Name x px,iter,ifs,0⟩ :: gens) scope pos) 0 (.ref it) (.ref s2.heap.objs.size) (compEnvC scope (D6 X.env.cells scope.names) (s2.heap.objs.size+1) X.env))
    (compPost (model X.prog X.w) X.A X.xe (some (assign (.Name y py) X.env)) (λ_ s'=>SP X pins D .next s') (.ref s2.heap.objs.size) (s2.heap.objs.size+1)) s3:=by
  rintro s3 rfl;refine cL (pins0:=pins) (N':=N') (scope:=scope) (C:=s2.heap.objs.size+1) (fp0:=fp) (s0:=s2) (H0:=H2) hc hN hx0 hxl (L it _ _) (ht pins _ fp s2 H2) (hb pins _ fp s2 H2 _) Tn stat I3 hst₁ (λb hb=>by rw [a7 (Au (hlt b hb))];exact (f2 b hb).1) (zn 0 hn) (λi _ h=>zn i h) run λzs H4 s5 I5 ⟨_,q⟩=>?_;obtain ⟨m5,hn5,_⟩:=id I5.loc;have IX:Inv X pins σ H4 s5:=I2.call' (ch:=fp) I5.os I5.base I5.hok I5.bare λb hb=>by
   have:=f2 b hb;exact ⟨this.2.2.2.1,this.2.1,this.2.2.2.2.1,this.2.2.2.2.2⟩
  have C0:s2.heap.objs.size<=s2.heap.objs.size+1:=Bw _;have cC:∀ z c,X.env.cells.lookup z=some c->c≠s2.heap.objs.size+1:=λz c e=>by
   obtain ⟨v,oc,ho,_⟩:=I2.cell z c e;exact Au (Bb (Ap ho))
  have lC:X.env.locals≠s2.heap.objs.size+1:=Au (Bb I2.lt);show wpAny _ X.A (assign (.Name y py) X.env (.ref s2.heap.objs.size)) (λ_ s''=>∃ m,s''.heap.Ns (s2.heap.objs.size+1) m/\∀ h',Heap.SameBut (s2.heap.objs.size+1) s''.heap h'->SP X pins D .next { s'' with heap:=h' }) X.xe s5;refine wpAny_assign_Name (V2 (v:=.ref s2.heap.objs.size) IX hNX hiy hy rfl (λs6 I6 ⟨a,sb,ha⟩=>?_) hf);have aC:s2.heap.objs.size+1≠a:=λz=>by
   rcases ha with ha | ha
   ·exact lC (by rw [<- ha,<- z])
   ·exact cC _ _ ha z.symm
  refine ⟨m5,hn5.sameBut sb aC,λh' hs'=>?_⟩;refine ⟨_,H4,I6.turned (t':=s6.toks) (it:=s2.heap.objs.size+1) (λb o hb e=>hs'.extBut b o hb e) I5.free lC.symm (.inr (AQ I2.sz C0)) cC (λp hp=>?_),q⟩;exact Au (Bb (Ap (I2.pin p hp).1))
 have fin:=BF (loop _ rfl) (Tn.self _ 0 _ _ _ hst₁ (loop _ rfl));rw [<- hC] at fin;exact fin
end
end L2
namespace L3
open PySem PySem.Spec PyProof.Rows L2
def lvM (src:Src) (t:D->M Bool) (b:D->List D->M (List D)):Nat->Nat->List D->M (List D)
 | 0,_,_=>bad
 | m+1,i,es=>λS=>match src i S with
  | none=>.bad
  | some none=>.ok es S
  | some (some d)=>bind (t d) (λz=>if z=true then bind (b d es) (λes'=>lvM src t b m (i+1) es') else lvM src t b m (i+1) es) S
abbrev TBM:=Env->List D->M (List D)
def elM (f:Env->M D):TBM:=λρ es=>bind (f ρ) λy=>if es.length<sizeLine then ret (es++[y]) else bad
def lvB (fi:Env->M (Src×Nat)) (t:Env->M Bool) (k:Nat) (b:TBM):TBM:=λρ es=>bind (fi ρ) λsm=>lvM sm.1 (λd=>t (ρ.set k (some d))) (λd=>b (ρ.set k (some d))) sm.2 0 es
def cM (n:Nat) (caps:List Nat) (ρ:Env):Env:=List.replicate n none++w9 caps ρ
def X1 (n:Nat) (caps:List Nat) (fi:Env->M (Src×Nat)) (t:Env->M Bool) (b:TBM) (ρ:Env):M (List D):=bind (fi ρ) λsm=>lvM sm.1 (λd=>t ((cM n caps ρ).set 0 (some d))) (λd=>b ((cM n caps ρ).set 0 (some d))) sm.2 0 []
theorem sg {α:Type} (src:Src) (t:D->M Bool) (b:D->List D->M (List D)) (m i:Nat) (es:List D) (κ:List D->M α) (S:Sto):bind (lvM src t b (m+1) i es) κ S=(match src i S with
  | none=>.bad
  | some none=>κ es S
  | some (some d)=>bind (t d) (λz=>if z=true then bind (b d es) (λes'=>bind (lvM src t b m (i+1) es') κ) else bind (lvM src t b m (i+1) es) κ) S):=by
 cases h:src i S with
 | none=>exact (gu (m':=bad) (by simp only [lvM,h];rfl)).trans rfl
 | some o=>
  cases o with
  | none=>exact (gu (m':=ret es) (by simp only [lvM,h];rfl)).trans rfl
  | some d=>
   refine (gu (m':=bind (t d) (λz=>if z=true then bind (b d es) (λes'=>lvM src t b m (i+1) es') else lvM src t b m (i+1) es)) (by simp only [lvM,h])).trans ?_;rw [R5];show bind (t d) _ S=bind (t d) _ S;congr 1;congr 1;funext z;cases z with
   | true=>rw [if_pos rfl,if_pos rfl,R5]
   | false=>rfl
section
variable {K:PySem.W.Frag} {cl:ClW} {xe:Addr->Hp->Prop}
structure Hl (K:PySem.W.Frag) (cl:ClW) (μ1:Mp) (H1:Hp) (acc:Addr) (μ:Mp) (H:Hp) (S:Sto) (ys:List V) (es:List D):Prop where
 h:HLat μ1 H1 acc μ H
 n:acc∉μ.pl
 a:H acc=some (.lst ys)
 r:Rep K cl μ S H
 d:RDs K μ H es ys
theorem Hl.later {μ1 μ μ':Mp} {H1 H H':Hp} {acc:Addr} {S S':Sto} {ys:List V} {es:List D} (h:Hl K cl μ1 H1 acc μ H S ys es) (l:Lat μ H μ' H') (r:Rep K cl μ' S' H'):Hl K cl μ1 H1 acc μ' H' S' ys es:=
 ⟨h.h.step l,l.out h.a h.n,l.oth _ _ h.a h.n,r,h.d.later l⟩
theorem EnvOk.laterU {μ μ1:Mp} {H H1:Hp} {ρ:Env} {σ:L2.St} (h:EnvOk K μ H ρ σ) (l:LatU μ H μ1 H1):EnvOk K μ1 H1 ρ σ:=⟨h.1,λi d e=>let ⟨v,q,r⟩:=h.2 i d e;⟨v,q,r.laterU l⟩⟩
theorem LatU.tr {μ μ1 μ2:Mp} {H H1 H2:Hp} {S:Sto} (u:LatU μ H μ1 H1) (e:μ1.rs=μ.rs) (r:Rep K cl μ1 S H1) (l:LatU μ1 H1 μ2 H2):LatU μ H μ2 H2:=by
 have key:∀ a,H1 a=none->a∈μ.pl\/a∈μ.rs\/H a=none:=λa q=>by
  by_cases n1:a∈μ.pl
  ·exact .inl n1
  ·by_cases n2:a∈μ.rs
   ·exact .inr (.inl n2)
   ·refine .inr (.inr ?_);cases e:H a with
    | none=>rfl
    | some o=>rw [(u.out a o e n1 n2).1] at q;cases q
 have nrs:∀ a,H1 a=none->a∉μ.rs:=λa q m=>by
  obtain ⟨_,w,hw⟩:=r.res a (by rw [e];exact m);rw [hw] at q;cases q
 refine ⟨λn a e=>l.pre n a (u.pre n a e),λa o e n1 n2=>?_,λa mm=>?_,λa mm=>?_⟩
 ·obtain ⟨q1,q2,q3⟩:=u.out a o e n1 n2;exact l.oth a o q1 q2 q3
 ·rcases l.new a mm with q | q
  ·exact u.new a q
  ·rcases key a q with z | z | z
   ·exact .inl z
   ·exact absurd z (nrs a q)
   ·exact .inr z
 ·rcases l.rsw a mm with q | q
  ·exact u.rsw a q
  ·rcases key a q with z | z | z
   ·have:a∈μ1.pl:=by
     obtain ⟨n,hn⟩:=List.mem_iff_getElem?.mp z;exact List.mem_iff_getElem?.mpr ⟨n,u.pre n a hn⟩
    exact absurd this (r.notin q)
   ·exact .inl z
   ·exact .inr z
def Reads (K:PySem.W.Frag) (cl:ClW) (xe:Addr->Hp->Prop) (μ1:Mp) (H1:Hp) (acc:Addr) (tb:TB) (b:TBM):Prop:=
 ∀ (α:Type) (κ:List D->M α) (Φ:α->Sto->Mp->Hp->Prop) (σ:L2.St) (H:Hp) (ys:List V) (Q:List V->Hp->Prop) (μ:Mp) (S:Sto) (ρ:Env) (es:List D),Hl K cl μ1 H1 acc μ H S ys es->EnvOk K μ H ρ σ->Post K cl xe μ1 H1 (bind (b ρ es) κ S) Φ ->
  (∀ zs vs μ' S' H',Hl K cl μ1 H1 acc μ' H' S' vs zs->LatU μ H μ' H'->Post K cl xe μ1 H1 (κ zs S') Φ->Q vs H')->tb acc σ H ys Q
variable {μ1:Mp} {H1:Hp} {acc:Addr}
theorem bI (hacc:H1 acc=none) {f:Env->M D}:Reads K cl xe μ1 H1 acc (tEl (tD K cl xe f)) (elM f):=by
 intro α κ Φ σ H ys Q μ S ρ es h eo p fin;unfold elM at p;rw [R5] at p;refine ⟨μ,S,ρ,eo,h.r,(Post.at p h.h).imp λy S2 μ2 H2 l2 r2 p2 v rv=>?_⟩;have h2:=h.later l2 r2;have er:μ2.rs=acc :: μ1.rs:=h2.h.rs;by_cases hz:es.length<sizeLine
 ·rw [if_pos hz] at p2;refine ⟨h2.a,by rw [<- h.d.length];exact hz,fin (es++[y]) _ μ2 S2 _ ⟨⟨⟨h2.h.r.pre,λa o e n=>?_,h2.h.r.new,h2.h.r.rsw⟩,er⟩,h2.n,b6,C3 er h2.a r2,B4 er (h2.d.append (.cons rv .nil))⟩ ?_ p2⟩
  ·rw [a7 (a9 e hacc)];exact h2.h.r.oth a o e n
  ·refine ⟨l2.pre,λa o e n1 n2=>?_,l2.new,l2.r.rsw⟩;rw [a7 (λz=>n2 (by rw [h.h.rs,z];exact Aq))];exact l2.oth a o e n1
 ·rw [if_neg hz] at p2;exact p2.elim
theorem W8 {J:It} {src:Src} {t:Env->M Bool} {k:Nat} {tb:TB} {b:TBM} (hb:Reads K cl xe μ1 H1 acc tb b) {α:Type} {κ:List D->M α} {Φ:α->Sto->Mp->Hp->Prop} {σ:L2.St} {H:Hp} {ys:List V} {Q:List V->Hp->Prop} {μ:Mp} {S:Sto} {ρ:Env} {es:List D} {m0:Nat}
  (h:Hl K cl μ1 H1 acc μ H S ys es) (eo:EnvOk K μ H ρ σ)
  (yl:∀ i μ2 H2 S2 ys2 es2,Hl K cl μ1 H1 acc μ2 H2 S2 ys2 es2->LatU μ H μ2 H2->L0 K cl J i μ2 H2 S2 (src i S2))
  (p:Post K cl xe μ1 H1 (bind (lvM src (λd=>t (ρ.set k (some d))) (λd=>b (ρ.set k (some d))) m0 0 es) κ S) Φ)
  (fin:∀ zs vs μ' S' H',Hl K cl μ1 H1 acc μ' H' S' vs zs->LatU μ H μ' H'->Post K cl xe μ1 H1 (κ zs S') Φ->Q vs H'):ly J (tBo K cl xe t) k tb acc σ H ys Q:=by
 refine ⟨λi m ys H2=>∃ μ2 S2 es,Hl K cl μ1 H1 acc μ2 H2 S2 ys es/\LatU μ H μ2 H2/\Post K cl xe μ1 H1 (bind (lvM src (λd=>t (ρ.set k (some d))) (λd=>b (ρ.set k (some d))) m i es) κ S2) Φ,⟨m0,μ,S,es,h,(Lat.refl _ _).r.u,p⟩,?_⟩;rintro i m ys H2 ⟨μ2,S2,es,h2,u2,p2⟩;have rs2:μ2.rs=μ.rs:=h2.h.rs.trans h.h.rs.symm;cases m with
 | zero=>exact p2.elim
 | succ m=>
  have y:L0 K cl J i μ2 H2 S2 (src i S2):=yl i μ2 H2 S2 ys es h2 u2;rw [sg] at p2;cases e1:src i S2 with
  | none=>rw [e1] at p2;exact p2.elim
  | some o=>
   rw [e1] at p2 y;cases o with
   | none=>exact .inl ⟨y,fin es ys μ2 S2 H2 h2 u2 p2⟩
   | some d=>
    obtain ⟨y1,y2⟩:=y;refine .inr ⟨y1,λx H3 hy=>?_⟩;obtain ⟨l3,r3,rd3⟩:=y2 x H3 hy;have h3:=h2.later l3 r3;have eo3:EnvOk K μ2 H3 (ρ.set k (some d)) (σ.set k (some x)):=((eo.laterU u2).later l3).set rd3 k;refine ⟨μ2,S2,_,eo3,r3,(Post.at p2 h3.h).imp λz S5 μ5 H5 l5 r5 p5=>?_⟩;have h5:=h3.later l5 r5;have u5:=u2.tr rs2 h2.r (l3.trans l5).r.u;cases z with
    | false=>exact ⟨m,AF _,μ5,S5,es,h5,u5,p5⟩
    | true=>
     refine cV ?_;rw [if_pos rfl] at p5;exact hb _ _ Φ _ H5 ys _ μ5 S5 _ es h5 (eo3.later l5) p5 λzs vs μ' S' H' h6 u6 p6=>⟨m,AF _,μ',S',zs,h6,u5.tr (h5.h.rs.trans h.h.rs.symm) r5 u6,p6⟩
theorem Q0 {fi:Env->M (Src×Nat)} {t:Env->M Bool} {k:Nat} {tb:TB} {b:TBM} (hb:Reads K cl xe μ1 H1 acc tb b):Reads K cl xe μ1 H1 acc (tLv (tIt K cl xe fi) (tBo K cl xe t) k tb) (lvB fi t k b):=by
 intro α κ Φ σ H ys Q μ S ρ es h eo p fin;unfold lvB at p;rw [R5] at p;refine ⟨μ,S,ρ,eo,h.r,(Post.at p h.h).imp λsm S6 μ6 H6 l6 r6 p6 J yl=>?_⟩;have h6:=h.later l6 r6;exact W8 hb h6 (eo.later l6) (λi μ2 H2 S2 _ _ q u=>yl i μ2 H2 S2 u q.r) p6 λzs vs μ' S' H' q u p'=>fin zs vs μ' S' H' q (l6.r.u.tr l6.rsv r6 u) p'
theorem hW {μ:Mp} {H:Hp} {ρ:Env} {σ:L2.St} (n:Nat) (caps:List Nat) (eo:EnvOk K μ H ρ σ):EnvOk K μ H (cM n caps ρ) (List.replicate n none++n8 caps σ):=by
 have c:EnvOk K μ H (w9 caps ρ) (n8 caps σ):=by
  have c:=B7 (caps:=caps) (d:=.non) (x:=.non) eo .non;exact ⟨by simpa using c.1,λi d e=>by simpa using c.2 (i+1) d (by simpa using e)⟩
 refine ⟨by simp [cM,c.1],λi d e=>?_⟩;unfold cM at e;by_cases hi:i<n
 ·rw [Al (by simpa using hi),Ba,if_pos hi] at e;cases e
 ·rw [AA (by simp;omega)] at e ⊢;simp only [BM] at e ⊢;exact c.2 _ _ e
theorem dM {n:Nat} {caps:List Nat} {fi:Env->M (Src×Nat)} {t:Env->M Bool} {tb:TB} {b:TBM} (hb:∀ μ1 H1 acc,H1 acc=none->Reads K cl xe μ1 H1 acc tb b) {α:Type} {κ:List D->M α} {Φ:α->Sto->Mp->Hp->Prop} {σ:L2.St} {H:Hp} {Q:VK} {μ:Mp} {S:Sto} {ρ:Env} (eo:EnvOk K μ H ρ σ) (rp:Rep K cl μ S H)
  (p:Post K cl xe μ H (bind (X1 n caps fi t b ρ) κ S) Φ)
  (fin:∀ μ1 H1 acc zs vs μ' S' H',H1 acc=none->acc∉μ1.rs->Hl K cl μ1 H1 acc μ' H' S' vs zs->Post K cl xe μ1 H1 (κ zs S') Φ->Q (.ref acc) H'):S8 n caps (tIt K cl xe fi) (tBo K cl xe t) tb σ H Q:=by
 unfold X1 at p;rw [R5] at p;refine ⟨μ,S,ρ,eo,rp,p.bind.imp λsm S1 μ1 H1 l1 r1 p1 J yl acc hacc=>?_⟩;have nrs:acc∉μ1.rs:=r1.notrs hacc;have h0:Hl K cl μ1 H1 acc (μ1.hold acc) (upd H1 acc (.lst [])) S1 [] []:=by
  refine ⟨⟨⟨λ_ _ e=>e,λa o e _=>by rw [a7 (a9 e hacc)];exact e,λa m=>.inl m,λa m=>?_⟩,rfl⟩,r1.notin hacc,b6,v7 r1 hacc,.nil⟩;rcases AJ.mp (show a∈acc :: μ1.rs from m) with rfl | m
  ·exact .inr hacc
  ·exact .inl m
 exact W8 (hb μ1 H1 acc hacc) h0 (v5 r1 hacc (hW n caps (eo.later l1))) (λi μ2 H2 S2 _ _ q _=>yl i μ2 H2 S2 q.h.r.u q.r) p1 λzs vs μ' S' H' q _ p'=>⟨q.a,fin μ1 H1 acc zs vs μ' S' H' hacc nrs q p'⟩
theorem lw {n:Nat} {caps:List Nat} {fi:Env->M (Src×Nat)} {t:Env->M Bool} {tb:TB} {b:TBM} (hb:∀ μ1 H1 acc,H1 acc=none->Reads K cl xe μ1 H1 acc tb b) {σ:L2.St} {H:Hp} {Q:VK} {μ:Mp} {S:Sto} {ρ:Env} (eo:EnvOk K μ H ρ σ) (rp:Rep K cl μ S H)
  (p:Post K cl xe μ H (X1 n caps fi t b ρ S) λds _ μ' H'=>∀ acc ys,LstAt μ' H' acc ys->RDs K μ' H' ds ys->Q (.ref acc) H'):S8 n caps (tIt K cl xe fi) (tBo K cl xe t) tb σ H Q:=by
 refine dM (κ:=ret) hb eo rp (Φ:=λds _ μ' H'=>∀ acc ys,LstAt μ' H' acc ys->RDs K μ' H' ds ys->Q (.ref acc) H') (by rw [m7];exact p) λμ1 H1 acc zs vs μ' S' H' _ nrs q p'=>?_;refine p' μ'.free H' (q.h.lat (Lat.refl _ _)) (F5 q.r) acc vs ⟨q.a,q.n,?_⟩ (P2 q.d);show acc∉μ'.rs.tail;rw [q.h.rs];exact nrs
theorem kM {n:Nat} {caps:List Nat} {fi:Env->M (Src×Nat)} {t:Env->M Bool} {tb:TB} {b:TBM} (hb:∀ μ1 H1 acc,H1 acc=none->Reads K cl xe μ1 H1 acc tb b) {σ:L2.St} {H:Hp} {Q:VK} {μ:Mp} {S:Sto} {ρ:Env} (eo:EnvOk K μ H ρ σ) (rp:Rep K cl μ S H)
  (p:Post K cl xe μ H (bind (X1 n caps fi t b ρ) newL S) λd _ μ' H'=>∀ v,RD K μ' H' d v->Q v H'):S8 n caps (tIt K cl xe fi) (tBo K cl xe t) tb σ H Q:=by
 refine dM (κ:=newL) hb eo rp p λμ1 H1 acc es ys μ2 S2 H2 hacc nrs q p2=>?_;simp only [newL] at p2;by_cases hz:es.length<=sizeLine
 ·rw [if_pos hz] at p2;have er:μ2.rs=acc :: μ1.rs:=q.h.rs;have mv:RDs K ⟨μ2.pl++[acc],μ1.rs⟩ H2 es ys:=q.d.move (λn a e=>by
   show (μ2.pl++[acc])[n]?=some a;rw [Al (Ai.mp e).1];exact e) λa u e n1 n2=>⟨e,λz=>by
    rcases Az.mp z with z | z
    ·exact n1 z
    ·exact n2 (by rw [er,Aw.mp z];exact Aq),λz=>n2 (by rw [er];exact Ar _ z)⟩
  have rp':=L8 (u:=.lst ys) (ob:=.lst es) er nrs q.a q.r ⟨ys,b6,by rw [F7 q.a];exact mv⟩;rw [F7 q.a] at rp';refine p2 ⟨μ2.pl++[acc],μ1.rs⟩ H2 ⟨λn a e=>?_,λa o e n=>q.h.r.oth a o e n,λa ma=>?_,rfl⟩ rp' _ (.ref ?_)
  ·have e':=q.h.r.pre n a e;show (μ2.pl++[acc])[n]?=some a;rw [Al (Ai.mp e').1];exact e'
  ·rcases Az.mp ma with z | z
   ·exact q.h.r.new a z
   ·rw [Aw.mp z];exact .inr hacc
  ·show (μ2.pl++[acc])[S2.length]?=some acc;rw [<- q.r.len];simp
 ·rw [if_neg hz] at p2;exact p2.elim
end
section
variable {K:PySem.W.Frag} {μ:Mp} {H:Hp}
mutual
theorem iK:∀ (d:D) {v:V} {q:PyData},kP d=some q->RD K μ H d v->DAt K H v q/\HT.kDHt q=true
 | .non,_,_,e,r=>by cases r;cases e;exact ⟨.non,rfl⟩
 | .bl b,_,_,e,r=>by cases r;cases e;exact ⟨.bl b,rfl⟩
 | .int i,_,_,e,r=>by cases r;cases e;exact ⟨.int i,rfl⟩
 | .str x,_,_,e,r=>by cases r;cases e;exact ⟨.str x,rfl⟩
 | .tup ds,_,q,e,r=>by
  rw [kP] at e;obtain ⟨ps,e1,rfl⟩:=Ct.mp e;cases r with
  | tup h rs=>
   obtain ⟨a,b⟩:=jc ds e1 rs;exact ⟨.tup h.sq a,by rw [HT.kDHt];exact b⟩
 | .lst _,_,_,e,_=>by cases e
 | .scr _,_,_,e,_=>by cases e
 | .ref _,_,_,e,_=>by cases e
theorem jc:∀ (ds:List D) {vs:List V} {qs:List PyData},kPs ds=some qs->RDs K μ H ds vs->DAll K H vs qs/\HT.kDsHt qs=true
 | [],_,_,e,r=>by cases r;cases e;exact ⟨.nil,rfl⟩
 | d :: ds,_,qs,e,r=>by
  rw [kPs] at e;cases r with
  | cons r1 r2=>
   cases e1:kP d with
   | none=>rw [e1] at e;cases e
   | some p=>
    cases e2:kPs ds with
    | none=>rw [e1,e2] at e;cases e
    | some ps=>
     rw [e1,e2] at e;cases e;obtain ⟨a,b⟩:=iK d e1 r1;obtain ⟨a2,b2⟩:=jc ds e2 r2;exact ⟨.cons a a2,by rw [HT.kDsHt,b,b2];rfl⟩
end
end
section
variable {X:Cx} {μ:Mp} {H:Hp} {s:Shared} {pins:List (Addr×Obj)} {σ:L2.St}
theorem aL {d:D} {k:PyData} (e:k7 d=some k):∃ ps,kP d=some (.tuple ps)/\(PyData.tuple ps).canLay0=true/\(PyData.tuple ps).depth<=6/\HT.nrmHt (.tuple ps)=k:=by
 unfold k7 at e;split at e
 ·rename_i ps e1;split at e
  ·rename_i c;cases e;exact ⟨ps,e1,c.1,c.2,rfl⟩
  ·cases e
 ·cases e
theorem N3 (I:Inv X pins σ H s) {d:D} {k:PyData} {b:Addr} (e:k7 d=some k) (r:RD X.K μ H d (.ref b)):(HT.keyK X.prog X.w).is s.heap k b:=by
 obtain ⟨ps,e1,e2,e3,e4⟩:=aL e;obtain ⟨a,c⟩:=iK d e1 r;obtain ⟨as,rd⟩:=a.reads I (u:=.ref b) rfl;exact ⟨_,as,rd,c,e2,e3,e4⟩
theorem T7 {d:D} {k:PyData} {v:V} (e:k7 d=some k) (r:RD X.K μ H d v):∃ b,v=.ref b:=by
 obtain ⟨ps,e1,_⟩:=aL e;cases r with
 | tup _ _=>exact ⟨_,rfl⟩
 | non=>cases e1
 | bl _=>cases e1
 | int _=>cases e1
 | str _=>cases e1
 | lst _ _=>cases e1
 | scr _ _=>cases e1
 | ref _=>cases e1
def XAt (X:Cx) (μ:Mp) (H:Hp) (p:D×D) (x:PyData×Addr×Value):Prop:=k7 p.1=some x.1/\RD X.K μ H p.1 (.ref x.2.1)/\∃ v,RelV v x.2.2/\RD X.K μ H p.2 v
theorem hh:∀ {kvs:List (D×D)} {es:List DictEntry},Paired (eD X.K X.w μ H) kvs es->∃ xs:List (PyData×Addr×Value),es=xs.map (entryOfKey (HT.keyK X.prog X.w))/\Paired (XAt X μ H) kvs xs
 | _,_,.nil=>⟨[],rfl,.nil⟩
 | _,_,.cons (b:=e) ⟨b,v,q,a1,a2,a3,a4,a5,a6⟩ t=>by
  obtain ⟨xs,e1,e2⟩:=hh t;refine ⟨(q,b,e.val) :: xs,?_,.cons ⟨a3,a2,v,a5,a6⟩ e2⟩;rw [AE,<- e1];congr 1;obtain ⟨h,k,u⟩:=e;have a1:k=.ref b:=a1;have a4:h=HT.hTHt X.w q:=a4;rw [a1,a4];rfl
theorem iP:∀ {kvs:List (D×D)} {xs:List (PyData×Addr×Value)},Paired (XAt X μ H) kvs xs->Paired (eD X.K X.w μ H) kvs (xs.map (entryOfKey (HT.keyK X.prog X.w)))
 | _,_,.nil=>.nil
 | _,_,.cons ⟨a1,a2,v,a3,a4⟩ t=>.cons ⟨_,v,_,rfl,a2,a1,rfl,a3,a4⟩ (iP t)
theorem ia:∀ {kvs:List (D×D)} {xs:List (PyData×Addr×Value)},Paired (XAt X μ H) kvs xs->(kvs.map λp=>k7 p.1)=(xs.map (·.1)).map some
 | _,_,.nil=>rfl
 | _,_,.cons ⟨a1,_⟩ t=>by rw [AE,AE,AE,ia t,a1]
theorem cH {xs:List PyData} (h:(xs.map some).Nodup):xs.Nodup:=by
 induction xs with
 | nil=>exact .nil
 | cons x xs ih=>
  rw [AE,Bd] at h;exact Bd.mpr ⟨λm=>h.1 (AU.mpr ⟨x,m,rfl⟩),ih h.2⟩
theorem rN (I:Inv X pins σ H s):∀ {kvs:List (D×D)} {xs:List (PyData×Addr×Value)},Paired (XAt X μ H) kvs xs->∀ x∈xs,(HT.keyK X.prog X.w).is s.heap x.1 x.2.1
 | _,_,.nil,x,m=>by cases m
 | _,_,.cons ⟨a1,a2,_⟩ t,x,m=>by
  rcases AJ.mp m with rfl | m
  ·exact N3 I a1 a2
  ·exact rN I t x m
theorem dm (I:Inv X pins σ H s) {a:Addr} {kvs:List (D×D)} {es:List DictEntry} (e:H a=some (DE a es)) (ok:js kvs) (r:Paired (eD X.K X.w μ H) kvs es):∃ xs,s.heap.DictOfH (HT.keyK X.prog X.w) a xs/\Paired (XAt X μ H) kvs xs:=by
 obtain ⟨xs,e1,e2⟩:=hh r;obtain ⟨o,ep,h1,h2,h3⟩:=(I.hok a _ e).1;refine ⟨xs,⟨o,es.toArray,ep,h1,h2,h3,e1,rN I e2,?_⟩,e2⟩;have:=ok.2;rw [ia e2] at this;exact cH this
def D4 (kvs:List (D×D)) (k:PyData):Option D:=(kvs.find? λp=>decide (k7 p.1=some k)).map (·.2)
def fQ (kvs:List (D×D)) (k:PyData) (d v:D):List (D×D):=if (D4 kvs k).isSome=true then kvs.map (λp=>if k7 p.1=some k then (p.1,v) else p) else kvs++[(d,v)]
theorem iC {k:PyData}:∀ {kvs:List (D×D)} {xs:List (PyData×Addr×Value)},Paired (XAt X μ H) kvs xs->match D4 kvs k with
  | some d=>∃ b u,atKey xs k=some (b,u)/\∃ v,RelV v u/\RD X.K μ H d v
  | none=>atKey xs k=none
 | _,_,.nil=>rfl
 | _,_,.cons (a:=p) (b:=x) ⟨a1,a2,v,a3,a4⟩ t=>by
  have ih:=iC (k:=k) t;unfold D4 atKey at ih ⊢;rw [AZ,AZ,a1];by_cases q:x.1=k
  ·rw [AO (show some x.1=some k by rw [q]),AO q];exact ⟨x.2.1,x.2.2,rfl,v,a3,a4⟩
  ·rw [Be (show ¬ some x.1=some k from λz=>q (AH z)),Be q];exact ih
theorem V7 {k:PyData} {kvs:List (D×D)} {xs:List (PyData×Addr×Value)} (r:Paired (XAt X μ H) kvs xs):(D4 kvs k).isSome=(atKey xs k).isSome:=by
 have:=iC (k:=k) r;cases e:D4 kvs k with
 | none=>rw [e] at this;rw [this];rfl
 | some d=>rw [e] at this;obtain ⟨b,u,e2,_⟩:=this;rw [e2];rfl
theorem dz {k:PyData} {v:D} {u:Value} {vv:V} (rv:RelV vv u) (rd:RD X.K μ H v vv):∀ {kvs:List (D×D)} {xs:List (PyData×Addr×Value)},Paired (XAt X μ H) kvs xs->Paired (XAt X μ H) (kvs.map (λp=>if k7 p.1=some k then (p.1,v) else p)) (xs.map (putAt k u))
 | _,_,.nil=>.nil
 | _,_,.cons (a:=p) (b:=x) ⟨a1,a2,w,a3,a4⟩ t=>by
  rw [AE,AE];refine .cons ?_ (dz rv rd t);unfold putAt;by_cases q:x.1=k
  ·rw [if_pos (by rw [a1,q])];have:(if (x.1==k)=true then (x.1,x.2.1,u) else x)=(x.1,x.2.1,u):=by rw [if_pos (by rw [q];exact beq_self_eq_true k)]
   first
   | (rw [if_pos q];exact ⟨a1,a2,vv,rv,rd⟩)
   | (rw [this];exact ⟨a1,a2,vv,rv,rd⟩)
   | (simp only [q,DB,DG];exact ⟨by rw [a1,q],a2,vv,rv,rd⟩)
  ·rw [if_neg (by rw [a1];exact λz=>q (AH z))];first
   | (rw [if_neg q];exact ⟨a1,a2,w,a3,a4⟩)
   | (simp only [q,decide_false];exact ⟨a1,a2,w,a3,a4⟩)
theorem qY {k:PyData} {d v:D} {b:Addr} {u:Value} {vv:V} {kvs:List (D×D)} {xs:List (PyData×Addr×Value)} (r:Paired (XAt X μ H) kvs xs) (ek:k7 d=some k) (rk:RD X.K μ H d (.ref b)) (rv:RelV vv u) (rd:RD X.K μ H v vv):Paired (XAt X μ H) (fQ kvs k d v) (storedH xs k b u):=by
 unfold fQ storedH;rw [V7 r];split
 ·exact dz rv rd r
 ·have app:∀ {l1:List (D×D)} {l2:List (PyData×Addr×Value)},Paired (XAt X μ H) l1 l2->Paired (XAt X μ H) (l1++[(d,v)]) (l2++[(k,b,u)]):=by
   intro l1 l2 h;induction h with
   | nil=>exact .cons ⟨ek,rk,vv,rv,rd⟩ .nil
   | cons h _ ih=>exact .cons h ih
  exact app r
theorem iN {k:PyData} {d v:D} {kvs:List (D×D)} (ek:k7 d=some k) (ok:js kvs) (hl:kvs.length<sizeLine):js (fQ kvs k d v):=by
 unfold fQ;split
 ·refine ⟨by rw [An];exact ok.1,?_⟩;rw [BY];have:((λp:D×D=>k7 p.1) ∘ λp=>if k7 p.1=some k then (p.1,v) else p)=λp=>k7 p.1:=by
   funext p;show k7 (if k7 p.1=some k then (p.1,v) else p).1=_;split <;> rfl
  rw [this];exact ok.2
 ·rename_i h;refine ⟨by rw [AV,List.length_singleton];omega,?_⟩;rw [BJ,BP];refine ⟨ok.2,by simp,λx hx y hy z=>h ?_⟩;obtain ⟨p,hp,e1⟩:=AU.mp hx;have hy:y=k7 d:=by simpa using hy
  unfold D4;rw [Dd,List.find?_isSome];exact ⟨p,hp,AO (by rw [e1,z,hy,ek])⟩
end
def M2 (x:D):M D:=bind (lstOf x) λes=>match x with
 | .ref n=>λS=>(match es[es.length-1]? with
  | some y=>.ok y (S.set n (.lst es.dropLast))
  | none=>.bad)
 | _=>bad
section
variable {X:Cx} {cl:ClW} {xe:Addr->Hp->Prop} {a:Expr} {f:Env->M D}
theorem lR {apos cpos:Pos} (ho:PE X a (tD X.K cl xe f)) (hb:m8 a=true) (hl:(apos.endLine==cpos.line)=true):PE X (.Call (.Attribute a "pop" apos) [] [] cpos) (tD X.K cl xe λρ=>bind (f ρ) M2):=by
 refine PE.imp (oV Dp PySem.F.slot_list_pop PySem.F.type_list_pop pG ho (B8 hb) hl) λσ H Q ⟨μ,S,ρ,eo,rp,p⟩=>⟨μ,S,ρ,eo,rp,p.bind.imp λx S1 μ1 H1 l1 r1 p1 xv rx=>?_⟩;obtain ⟨ty,_,ea⟩:=cJ μ1 S1 H1 x xv _ rx r1 p1.bind;unfold M2 at p1;obtain ⟨l,xs,ds,rfl,h1,h2,e2⟩:=t7 rx r1 p1.bind;have p1:=p1.ok_bind e2;cases rx with
 | ref e=>
  have ml:l∈μ1.pl:=AL e;have la:Lat μ1 H1 μ1 (upd H1 l (.lst xs.dropLast)):=Lat.wrote ml;dsimp only at p1;cases q:ds[ds.length-1]? with
  | none=>rw [q] at p1;exact p1.elim
  | some y=>
   rw [q] at p1;obtain ⟨v,hv,rv⟩:=h2.get q;have hl2:ds.length=xs.length:=h2.length;have t:=h2.take (ds.length-1);rw [<- List.dropLast_eq_take,hl2,<- List.dropLast_eq_take] at t;exact ⟨ty,l,xs,v,rfl,rfl,h1,by rw [<- hl2];exact hv,p1 μ1 _ la (r1.wrote e ⟨_,b6,t.later la⟩) _ (rv.later la)⟩
 | _=>exact p1.elim
end
def rM0 (m:Str) (op:D->M D) (ok:∀ {T:Tx} {k:Nat} {lc:Lc} {X:Cx} {xe:Addr->Hp->Prop} {o:Expr} {apos cpos:Pos} {f:Env->M D},CxOk T k lc X->PE X o (tD X.K T.cl xe f)->m8 o=true->(apos.endLine==cpos.line)=true->PE X (.Call (.Attribute o m apos) [] [] cpos) (tD X.K T.cl xe λρ=>bind (f ρ) op)):RuE where
 is _ _ e:=match e with
  | .Call (.Attribute o n apos) [] [] cpos=>decide (n=m)&&m8 o&&(apos.endLine==cpos.line)
  | _=>false
 run r _ _ lc e ρ:=match e with
  | .Call (.Attribute o _ _) [] [] _=>bind (r.e lc o ρ) op
  | _=>bad
 ok {T k r Γ C lc X} e R TX h hi:=by
  split at hi
  ·simp only [Ak,AG] at hi;obtain ⟨⟨rfl,h1⟩,h2⟩:=hi;exact ok h (R.ex h _) h1 h2
  ·cases hi
 runK q _ _ lc e ρ _ k:=match e with
  | .Call (.Attribute o _ _) [] [] _=>q.e lc o ρ λx=>bind (op x) k
  | _=>bad
 eq e ρ _ k h:=by
  split
  ·simp only [h.e,bind_assoc]
  ·first
   | rfl
   | (rename_i hn;split;exact (hn _ _ _ _ rfl).elim;rfl)
def rH:RuE:=rM0 "pop" M2 λ_ ho hb hl=>lR ho hb hl
def z0 (neg:Bool) (x y:D):M D:=match y with
 | .ref n=>λS=>match S[n]? with
  | some (.dcT kvs)=>(match k7 x with
   | some k=>.ok (.bl (if neg then !(D4 kvs k).isSome else (D4 kvs k).isSome)) S
   | none=>.bad)
  | _=>.bad
 | _=>bad
def D1 (x k v:D):M D:=match x with
 | .ref n=>λS=>match S[n]? with
  | some (.dcT kvs)=>(match k7 k with
   | some q=>if kvs.length<sizeLine then .ok .non (S.set n (.dcT (fQ kvs q k v))) else .bad
   | none=>.bad)
  | _=>.bad
 | _=>bad
def D0 (ps:List (D×D)):M D:=match ps with
 | [(k,v)]=>λS=>(match k7 k with
  | some _=>.ok (.ref S.length) (S++[.dcT [(k,v)]])
  | none=>.bad)
 | _=>bad
def u8 (d:D):M D:=match d with
 | .ref n=>λS=>match S[n]? with
  | some (.dcT kvs)=>.ok (.int kvs.length) S
  | _=>P1 d S
 | _=>P1 d
section
variable {X:Cx} {cl:ClW} {xe:Addr->Hp->Prop}
theorem fh (hu:X.A.units+80<cLine):(HT.keyK X.prog X.w).room X.A.in1:=by
 show X.A.units+1+8<cLine;omega
theorem eO (neg:Bool) (hu:X.A.units+80<cLine) (hw:cl.w=X.w):OpR X (compareOp (if neg then .NotIn else .In)) (rP2 X.K cl xe (z0 neg)):=by
 intro pins s σ H x y v u Q I rx ry ⟨μ,S,d,e,rd,re,rp,p⟩;cases re <;> try (exact False.elim p)
 rename_i n a h;simp only [z0] at p;cases q1:S[n]? with
 | none=>rw [q1] at p;exact p.elim
 | some o=>
  rw [q1] at p;cases o with
  | lst _=>exact p.elim
  | exc _ _=>exact p.elim
  | dct _=>exact p.elim
  | dcT kvs=>
   obtain ⟨es,h1,h2,h3,h4⟩:=rp.ats n _ a q1 h;rw [hw] at h4;dsimp only at p;cases q2:k7 d with
   | none=>rw [q2] at p;exact p.elim
   | some k=>
    rw [q2] at p;dsimp only at p;obtain ⟨b,rfl⟩:=T7 q2 rd;cases rx;cases ry;obtain ⟨xs,dd,xx⟩:=dm I h1 h3 h4;have iS:=V7 (k:=k) xx;cases neg with
    | false=>exact wpAny_in_heap (fh hu) (N3 I q2 rd) h2 dd ⟨.bl _,H,I.tok _,rfl,by rw [<- iS];exact p μ H (Lat.refl _ _) rp _ (.bl _)⟩
    | true=>exact wpAny_notIn_heap (fh hu) (N3 I q2 rd) h2 dd ⟨.bl _,H,I.tok _,rfl,by rw [<- iS];exact p μ H (Lat.refl _ _) rp _ (.bl _)⟩
theorem sk {P:Program} {w:World} {H:Hp} {h:Heap} {a:Addr} {es:List DictEntry} (e:∃ o ep,h.get? a=some o/\o.ExactDict/\o.data=.dict es.toArray ep):ObjOk P w H h a (DE a es):=by
 obtain ⟨o,ep,e1,e2,e3⟩:=e;exact ⟨⟨o,ep,e1,e2,e3⟩,⟨o,e1⟩,λh1 h2 ⟨o,ep,a1,a2,a3⟩ k=>⟨o,ep,k o a1,a2,a3⟩⟩
theorem pC (hu:X.A.units+80<cLine) (hw:cl.w=X.w):lN X (λo i v H Q=>∃ μ S x y z,RD X.K μ H x o/\RD X.K μ H y i/\RD X.K μ H z v/\Rep X.K cl μ S H/\Post X.K cl xe μ H (D1 x y z S) λ_ _ _ H'=>Q H'):=by
 intro pins s σ H o i v ov iv u Q I ro ri rv ⟨μ,S,x,y,z,rx,ry,rz,rp,p⟩;cases rx <;> try (exact False.elim p)
 rename_i n a h;have m:a∈μ.pl:=AL h;simp only [D1] at p;cases q1:S[n]? with
 | none=>rw [q1] at p;exact p.elim
 | some ob=>
  rw [q1] at p;cases ob with
  | lst _=>exact p.elim
  | exc _ _=>exact p.elim
  | dct _=>exact p.elim
  | dcT kvs=>
   obtain ⟨es,h1,h2,h3,h4⟩:=rp.ats n _ a q1 h;rw [hw] at h4;dsimp only at p;cases q2:k7 y with
   | none=>rw [q2] at p;exact p.elim
   | some k=>
    rw [q2] at p;by_cases hl:kvs.length<sizeLine
    ·simp only [if_pos hl] at p;obtain ⟨b,rfl⟩:=T7 q2 ry;cases ro;cases ri;obtain ⟨xs,dd,xx⟩:=dm I h1 h3 h4;have lx:xs.length<=sizeLine:=by rw [<- Paired.length xx];exact Dt hl
     refine wpAny_setItem_heap (hsz:=lx) (fh hu) (N3 I q2 ry) dd λh' dd' hs=>?_;obtain ⟨o',es',ep',g1,g2,g3,g4,_,_⟩:=dd';have px:=qY (d:=y) xx q2 ry rv rz;have w1:Lat μ H μ (upd H a (DE a es'.toList)):=Lat.wrote m;refine ⟨upd H a (DE a es'.toList),F1 I (by rw [h1];exact True.intro) hs ⟨o',g1⟩ (sk ⟨o',ep',g1,g2,by rw [Array.toArray_toList];exact g3⟩),?_⟩;refine p μ _ w1 (rp.wrote h ⟨es'.toList,b6,h2,iN q2 h3 hl,?_⟩);have pe:=iP px;rw [<- g4] at pe;rw [hw];exact Paired.mono (λ_ _ ⟨b,v,z,a1,a2,a3,a4,a5,a6⟩=>⟨b,v,z,a1,a2.later w1,a3,a4,a5,a6.later w1⟩) pe
    ·simp only [if_neg hl] at p;exact p.elim
theorem ez {a b e:Expr} {pos p2:Pos} {f g k:Env->M D} (hu:X.A.units+80<cLine) (hw:cl.w=X.w) (he:PE X e (tD X.K cl xe f)) (ho:PE X a (tD X.K cl xe g)) (hi:PE X b (tD X.K cl xe k)) (hn:k9 e=true) (hb:p8 b=true) :
  PS X (.Assign [.Subscript a b p2] e pos) (sD X.K cl xe λρ=>bind (f ρ) λv=>bind (g ρ) λx=>bind (k ρ) λy=>bind (D1 x y v) λ_=>ret (.nx ρ)):=
 PS.imp (cD he (gk ho hi (pC (cl:=cl) (xe:=xe) hu hw) (X5 hb)) (by unfold swapsWithSole;exact A2 hn) rfl rfl) λD σ H ⟨μ,S,ρ,eo,rp,p⟩=>
  ⟨μ,S,ρ,eo,rp,p.bind.imp λv S1 μ1 H1 l1 r1 p1 vv rv=>⟨μ1,S1,ρ,eo.later l1,r1,p1.bind.imp λx S2 μ2 H2 l2 r2 p2 xv rx=>⟨μ2,S2,ρ,(eo.later l1).later l2,r2,p2.bind.imp λy S3 μ3 H3 l3 r3 p3 yv ry=>
   ⟨μ3,S3,x,y,v,rx.later l3,ry,(rv.later l2).later l3,r3,p3.bind.imp λ_ S4 μ4 H4 l4 r4 p4=>p4.ret μ4 H4 (Lat.refl _ _) r4 σ ((((eo.later l1).later l2).later l3).later l4)⟩⟩⟩⟩
end
def vW:RuT where
 is _ lc e:=match e with
  | .Compare _ [.NotIn] [b] _=>i6 b&&decide (("t{}" : Str)∈lc.mu)
  | .Compare _ [.In] [b] _=>i6 b&&decide (("t{}" : Str)∈lc.mu)
  | _=>false
 run r _ _ lc e ρ:=match e with
  | .Compare a [.NotIn] [b] _=>bind (r.e lc a ρ) λx=>bind (r.e lc b ρ) λy=>bind (z0 true x y) asB
  | .Compare a [.In] [b] _=>bind (r.e lc a ρ) λx=>bind (r.e lc b ρ) λy=>bind (z0 false x y) asB
  | _=>bad
 ok {T k r Γ C lc X} e R TX h hi:=by
  split at hi
  ·rw [Ak] at hi;exact O0 (R.ex h _) (R.ex h _) (eO true h.u80 (by rw [h.w];rfl)) (q5 hi.1)
  ·rw [Ak] at hi;exact O0 (R.ex h _) (R.ex h _) (eO false h.u80 (by rw [h.w];rfl)) (q5 hi.1)
  ·cases hi
 runK q _ _ lc e ρ _ k:=match e with
  | .Compare a [.NotIn] [b] _=>q.e lc a ρ λx=>q.e lc b ρ λy=>bind (z0 true x y) λd=>bind (asB d) k
  | .Compare a [.In] [b] _=>q.e lc a ρ λx=>q.e lc b ρ λy=>bind (z0 false x y) λd=>bind (asB d) k
  | _=>bad
 eq e ρ _ k h:=by
  split
  ·simp only [h.e,bind_assoc]
  ·simp only [h.e,bind_assoc]
  ·first
   | rfl
   | (rename_i hn hn2;split;exact (hn _ _ _ rfl).elim;exact (hn2 _ _ _ rfl).elim;rfl)
def nR:RuS where
 is _ lc e:=match e with
  | .Assign [.Subscript _ b _] e _=>k9 e&&p8 b&&decide (("t{}" : Str)∈lc.mu)
  | _=>false
 run r _ _ lc e ρ:=match e with
  | .Assign [.Subscript a b _] e _=>bind (r.e lc e ρ) λv=>bind (r.e lc a ρ) λx=>bind (r.e lc b ρ) λy=>bind (D1 x y v) λ_=>ret (.nx ρ)
  | _=>bad
 ok {T k r Γ C lc X} e R TX h hf hi:=by
  split at hi
  ·rw [Ak,Ak] at hi;exact ez h.u80 (by rw [h.w];rfl) (R.ex h _) (R.ex h _) (R.ex h _) hi.1.1 hi.1.2
  ·cases hi
 runK q _ _ lc e ρ _ k:=match e with
  | .Assign [.Subscript a b _] e _=>q.e lc e ρ λv=>q.e lc a ρ λx=>q.e lc b ρ λy=>bind (D1 x y v) λ_=>k (.nx ρ)
  | _=>bad
 eq e ρ _ k h:=by
  split
  ·simp only [h.e,bind_assoc,d7]
  ·first
   | rfl
   | (rename_i hn;split;exact (hn _ _ _ _ _ rfl).elim;rfl)
theorem bm {prog:Program} {w:World} (d:Addr) (hd:(d==sysModules)=false):MeetsIn prog w (Builtin.«dict.__len__» { pos:=[Value.ref d] }) λ_ R s=>∃ o es ep,s.heap.get? d=some o/\o.ExactDict/\o.data=.dict es ep/\R (Except.ok (Flow.ret (Value.int (es.size:Nat) s.toks))) { s with toks:=s.toks+1 }:=by
 rintro A R s ⟨o,es,ep,e1,e2,e3,r⟩;unfold Builtin.«dict.__len__» dictSize;obtain ⟨cls,dict,data,slots⟩:=o;obtain ⟨c1,c2,c3⟩:=e2;dsimp only at c1 c2 c3 e3;subst c1 c2 c3 e3;generalize hp:Builtin.Dict.pendingCount d=pI
 wp_walk
 show R (Except.ok (Flow.ret (Value.int ((es.size:Int)+0) s.toks))) _;rw [Int.add_zero];exact r
def ot (X:Cx) (trs:List (TE×TE)):TE:=λσ H Q=>∀ p,H p=none->N6 trs σ (upd H p (.dK [])) λps H2=>H2 p=some (.dK [])/\∃ b v q,ps=[(V.ref b,v)]/\DAt X.K H2 (.ref b) q/\HT.kDHt q=true/\q.canLay0=true/\q.depth<=6/\((p==sysModules)=false->∀ u,RelV v u->Q (.ref p) (upd H2 p (DE p [⟨HT.hTHt X.w (HT.nrmHt q),.ref b,u⟩])))
section
variable {X:Cx} {cl:ClW} {xe:Addr->Hp->Prop} {pos:Pos}
theorem gy {k v:Expr} {trs:List (TE×TE)} (hu:X.A.units+80<cLine) (h:PPs X pos [some k] [v] trs):PE X (.Dict [some k] [v] pos) (ot X trs):=by
 intro pins s σ H Q I q;have hn:=I.hok.fresh (Ao s.heap.objs.size);have I1:=I.laid (a:=s.heap.objs.size) (o:=.dK []) (h':=s.heap.push { cls:=.type "dict",data:=.dict #[] }) (t':=s.toks) (λ_ _ q=>Ah _ q) (Ao _) (bP s.heap I.big);refine wpAny_Dict_any rfl rfl (by simp) (BN rfl) (thn (h pins _ σ _ _ I1 (q _ hn)) λws s2 ⟨ps,H2,I2,rel,e,b,v,q0,ep,d1,d2,d3,d4,q2⟩=>?_);subst ep;cases rel with
 | @cons _ y _ _ r t=>
  cases t;obtain ⟨y1,y2⟩:=y;obtain ⟨r1,r2⟩:=r;have r1:L2.RelV (V.ref b) y1:=r1;cases r1;obtain ⟨z,hd,vs0,r0,dd⟩:=gN I2.hok e;cases r0;obtain ⟨o,es,ep,e1,e2,e3,_,e5,_⟩:=dd;have e6:es.toList=[]:=by
   cases e7:es.toList with
   | nil=>rfl
   | cons x xs=>rw [e7] at e5;cases e5
  obtain ⟨as,rd⟩:=d1.reads I2 (u:=.ref b) rfl;have dH:s2.heap.DictOfH (HT.keyK X.prog X.w) s.heap.objs.size []:=⟨o,es,ep,e1,e2,e3,e6,(λx hx=>by cases hx),.nil⟩;show wpAny _ _ (storeAll _ [(.ref b,y2)]) _ _ _;unfold storeAll;refine Ag (Ag (wpAny_dictSet_heap (hsz:=Cr _) (knd:=HT.keyK X.prog X.w) (by show X.A.units+8<cLine;omega) ⟨q0,as,rd,d2,d3,d4,rfl⟩ dH λh' dd' hs=>Aj ?_));refine Aj ?_;obtain ⟨o',es',ep',g1,g2,g3,g4,_,_⟩:=dd';have g5:es'.toList=[⟨HT.hTHt X.w (HT.nrmHt q0),.ref b,y2⟩]:=g4;refine ⟨.ref s.heap.objs.size,_,F1 I2 (by rw [e];exact True.intro) hs ⟨o',g1⟩ (sk ⟨o',ep',g1,g2,?_⟩),rfl,q2 hd y2 r2⟩;rw [<- g5,Array.toArray_toList];exact g3
theorem gx {k v:Expr} {fk fv:Env->M D} (hu:X.A.units+80<cLine) (hw:cl.w=X.w) (hk:PE X k (tD X.K cl xe fk)) (hv:PE X v (tD X.K cl xe fv)) :
  PE X (.Dict [some k] [v] pos) (tD X.K cl xe λρ=>bind (m3 [(fk,fv)] ρ) D0):=PE.imp (gy hu (ax hk hv cz)) λσ H Q ⟨μ,S,ρ,eo,rp,P⟩=>by
 intro p hp;have nrs:=rp.notrs hp;refine A1 (p:=p) (o:=.dK []) (ρ:=ρ) (μ:=μ) (H:=H) (μ2:=μ.hold p) (S2:=S) (fks:=[(fk,fv)]) P ?_ (rp.notin hp) b6 (v5 rp hp eo) (v7 rp hp) λps H3 μ3 S3 ds hl3 n3 e3 r3 l3 rps P3=>?_
 ·refine ⟨⟨λ_ _ e=>e,λa o e _=>by rw [a7 (a9 e hp)];exact e,λa m=>.inl m,λa m=>?_⟩,rfl⟩;rcases AJ.mp (show a∈p :: μ.rs from m) with rfl | m
  ·exact .inr hp
  ·exact .inl m
 ·unfold D0 at P3;split at P3
  ·rename_i kd vd;cases rps with
   | @cons _ y _ _ r t=>
    cases t;obtain ⟨ky,vy⟩:=y;obtain ⟨rk,rv⟩:=r;have rk:RD X.K μ3 H3 kd ky:=rk;have rv:RD X.K μ3 H3 vd vy:=rv;cases e1:k7 kd with
    | none=>rw [e1] at P3;exact P3.elim
    | some q=>
     rw [e1] at P3;obtain ⟨b,rfl⟩:=T7 e1 rk;obtain ⟨zs,f1,f2,f3,f4⟩:=aL e1;obtain ⟨da,dk⟩:=iK kd f1 rk;refine ⟨e3,b,vy,_,rfl,da,dk,f2,f3,λhs u ru=>?_⟩;have np:p∉μ3.pl:=n3;have hp':∀ (n:Nat) (a:Addr),μ3.pl[n]?=some a->(μ3.pl++[p])[n]?=some a:=λn a e=>by rw [Al (Ai.mp e).1];exact e
     have mv:∀ {u:HO} {d:D} {v:V},RD X.K μ3 H3 d v->RD X.K ⟨μ3.pl++[p],μ.rs⟩ (upd H3 p u) d v:=λr=>r.move (μ:=μ3) (μ':=⟨μ3.pl++[p],μ.rs⟩) hp' λa w e n1 n2=>by
      have ne:a≠p:=λz=>n2 (by rw [hl3.rs,z];exact Aq);refine ⟨by rw [a7 ne];exact e,λz=>?_,λz=>n2 (by rw [hl3.rs];exact Ar _ z)⟩;rcases Az.mp z with z | z
      ·exact n1 z
      ·exact ne (Aw.mp z)
     have oa:OAt X.K cl ⟨μ3.pl++[p],μ.rs⟩ (upd H3 p (DE p [⟨HT.hTHt X.w (HT.nrmHt (.tuple zs)),.ref b,u⟩])) p (.dcT [(kd,vd)]):=by
      refine ⟨_,b6,hs,⟨by rw [AD];exact BN rfl,by simp⟩,.cons ⟨b,vy,q,rfl,mv rk,e1,?_,ru,mv rv⟩ .nil⟩;rw [hw,f4]
     refine P3 ⟨μ3.pl++[p],μ.rs⟩ _ ?_ (P4 hl3.rs nrs e3 r3 oa) _ (.ref ?_)
     ·refine ⟨λn a e=>hp' n a (hl3.r.pre n a e),λa o e n=>?_,λa m=>?_,rfl⟩
      ·rw [a7 (a9 e hp)];exact hl3.r.oth a o e n
      ·rcases Az.mp (show a∈μ3.pl++[p] from m) with m | m
       ·exact hl3.r.new a m
       ·exact .inr (by rw [Aw.mp m];exact hp)
     ·show (μ3.pl++[p])[S3.length]?=some p;rw [<- r3.len];simp
  ·exact P3.elim
theorem pD (hw:cl.w=X.w):A4 X (.builtin "len") (rPs X.K cl xe (one u8)):=cE λpins s σ H μ S d v us Q I r rd rp p=>by
 have old:Post X.K cl xe μ H (P1 d S) (λr _ μ' H'=>∀ v,RD X.K μ' H' r v->Q v H')->wpAny (model X.prog X.w) X.A (call (.builtin "len") us) (EP X pins σ Q) X.xe s:=λp=>mh (cl:=cl) (xe:=xe) pins s σ H [v] us Q I r ⟨μ,S,[d],.cons rd .nil,rp,p⟩;cases rd with
 | ref h=>
  rename_i n a;unfold u8 at p;dsimp only at p;cases q1:S[n]? with
  | none=>rw [q1] at p;exact old p
  | some o=>
   rw [q1] at p;cases o with
   | dcT kvs=>
    obtain ⟨es,h1,h2,h3,h4⟩:=rp.ats n _ a q1 h;rw [hw] at h4;obtain ⟨u,rfl,ru⟩:=av r;cases ru;obtain ⟨o,ep,g1,g2,g3⟩:=(I.hok a _ h1).1;have hl:kvs.length=es.length:=Paired.length h4;have ty:s.TypeIs (.ref a) "dict":=⟨o,g1,g2.1⟩;have hz:=h3.1;rw [AD] at hz;refine call_len_slot (n:=(kvs.length:Int)) ty PySem.F.slot_dict_len (λQ' q'=>CQ PySem.F.slot_dict_len ty PySem.F.entry_dict_len (PySem.F.args_dict_len_1 _) (bm a h2) ⟨o,es.toArray,ep,g1,g2,g3,?_⟩) (by omega) (by omega) ⟨.int kvs.length,H,I.tok _,⟨_,rfl⟩,p μ H (Lat.refl _ _) rp _ (.int _)⟩;rw [As,<- hl];exact q'
   | lst _=>exact old p
   | dct _=>exact old p
   | exc _ _=>exact old p
 | _=>exact old p
end
def tE:RuE where
 is _ lc e:=match e with
  | .Dict [some _] [_] _=>decide (("t{}" : Str)∈lc.mu)
  | _=>false
 run r _ _ lc e ρ:=match e with
  | .Dict [some k] [v] _=>bind (m3 [(r.e lc k,r.e lc v)] ρ) D0
  | _=>bad
 ok {T k r Γ C lc X} e R TX h hi:=by
  split at hi
  ·exact gx h.u80 (by rw [h.w];rfl) (R.ex h _) (R.ex h _)
  ·cases hi
 runK q _ _ lc e ρ _ k:=match e with
  | .Dict [some x] [v] _=>q.e lc x ρ λa=>q.e lc v ρ λb=>bind (D0 [(a,b)]) k
  | _=>bad
 eq e ρ _ k h:=by
  split
  ·simp only [h.e,bind_assoc,m3,d7]
  ·first
   | rfl
   | (rename_i hn;split;exact (hn _ _ _ rfl).elim;rfl)
def rLenT:RuE where
 is:=bE "len" false
 run r _ _ lc e ρ:=iO (one u8) r lc e ρ
 ok {T k r Γ C lc X} e R TX h hi:=by
  obtain ⟨p,a,es,pos,rfl,h1,h2,h3,h4⟩:=aW hi;exact ab (pD (by rw [h.w];rfl)) (h.gl h3) (TX.none h (by decide) h2) PySem.boot_len (k0 R h h1) (by decide) (by decide) h1
 runK q _ _ lc e ρ _ k:=gb (one u8) q lc e ρ k
 eq e ρ _ k h:=cN (one u8) e ρ k h
abbrev Cl1:=Str×Pos×Expr×List Expr
def cl1:Comprehension->Option Cl1
 | ⟨.Name x p,it,ifs,0⟩=>some (x,p,it,ifs)
 | _=>none
theorem N7 {c:Comprehension} {a:Cl1} (h:cl1 c=some a):c=⟨.Name a.1 a.2.1,a.2.2.1,a.2.2.2,0⟩:=by
 unfold cl1 at h;split at h
 ·cases h;rfl
 ·cases h
section
variable (r:Ev) (q:EvK) (lc:Lc) (elt:Expr) (a b c:Cl1) (scope:Scope) (ρ:Env)
def lvE (l:Lc) (k:Nat) (a:Cl1) (t:TBM):TBM:=lvB (r.i l (.Name a.1 a.2.1) a.2.2.1) (testsE r l a.2.2.2) k t
def lvK (l:Lc) (k:Nat) (a:Cl1) (t:TBM):TBM:=lvB (λρ=>q.i l (.Name a.1 a.2.1) a.2.2.1 ρ ret) (testsK q l a.2.2.2) k t
def nE (xs:List Str) (t:Lc->TBM):M (List D):=match h7 (c9 lc.N) (c7 scope) with
 | some caps=>nx (X1 xs.length caps (r.i lc (.Name a.1 a.2.1) a.2.2.1) (testsE r (b8 lc scope xs) a.2.2.2) (t (b8 lc scope xs)) ρ)
 | none=>bad
def nK (xs:List Str) (t:Lc->TBM) {α:Type} (k:List D->M α):M α:=match h7 (c9 lc.N) (c7 scope) with
 | some caps=>bind (nx (q.i lc (.Name a.1 a.2.1) a.2.2.1 ρ λsm=>lvM sm.1 (λd=>testsK q (b8 lc scope xs) a.2.2.2 ((cM xs.length caps ρ).set 0 (some d))) (λd=>t (b8 lc scope xs) ((cM xs.length caps ρ).set 0 (some d))) sm.2 0 [])) k
 | none=>bad
def dJ:M (List D):=nE r lc a scope ρ [a.1,b.1] λl=>lvE r l 1 b (elM (r.e l elt))
def dW:M (List D):=nE r lc a scope ρ [a.1,b.1,c.1] λl=>lvE r l 1 b (lvE r l 2 c (elM (r.e l elt)))
def my {α:Type} (k:List D->M α):M α:=nK q lc a scope ρ [a.1,b.1] (λl=>lvK q l 1 b (elM λρ=>q.e l elt ρ ret)) k
def mo {α:Type} (k:List D->M α):M α:=nK q lc a scope ρ [a.1,b.1,c.1] (λl=>lvK q l 1 b (lvK q l 2 c (elM λρ=>q.e l elt ρ ret))) k
end
section
variable {r:Ev} {q:EvK} (h:EqK r q)
include h
theorem mq (l:Lc) (k:Nat) (a:Cl1) (t:TBM):lvK q l k a t=lvE r l k a t:=by
 have e:testsK q l a.2.2.2=testsE r l a.2.2.2:=funext λρ=>tests_eq h _ ρ;simp only [lvK,lvE,h.i,m7,e]
theorem sM (lc:Lc) (a:Cl1) (scope:Scope) (ρ:Env) (xs:List Str) (t t':Lc->TBM) (ht:t'=t) {α:Type} (k:List D->M α):nK q lc a scope ρ xs t' k=bind (nE r lc a scope ρ xs t) k:=by
 subst ht;unfold nK nE;cases h7 (c9 lc.N) (c7 scope) with
 | none=>rfl
 | some caps=>simp only [h.i,tests_eq h,X1]
theorem kn (lc:Lc) (elt:Expr) (a b:Cl1) (scope:Scope) (ρ:Env) {α:Type} (k:List D->M α):my q lc elt a b scope ρ k=bind (dJ r lc elt a b scope ρ) k:=
 sM h lc a scope ρ _ _ _ (by funext l;simp only [mq h,h.e,m7]) k
theorem lm (lc:Lc) (elt:Expr) (a b c:Cl1) (scope:Scope) (ρ:Env) {α:Type} (k:List D->M α):mo q lc elt a b c scope ρ k=bind (dW r lc elt a b c scope ρ) k:=
 sM h lc a scope ρ _ _ _ (by funext l;simp only [mq h,h.e,m7]) k
end
abbrev S2V:=Str×Pos×Expr×Comprehension×Comprehension×Scope×Pos×Pos
def s2v:Stmt->Option S2V
 | .Assign [.Name g p] (.ListComp elt [c1,c2] scope pos2) pos=>some (g,p,elt,c1,c2,scope,pos2,pos)
 | _=>none
theorem nP {e:Stmt} {v:S2V} (h:s2v e=some v):e=.Assign [.Name v.1 v.2.1] (.ListComp v.2.2.1 [v.2.2.2.1,v.2.2.2.2.1] v.2.2.2.2.2.1 v.2.2.2.2.2.2.1) v.2.2.2.2.2.2.2:=by
 unfold s2v at h;split at h
 ·cases h;rfl
 ·cases h
def qN:RuS where
 is _ lc e:=match s2v e with
  | some (g,p,elt,c1,c2,scope,pos2,pos)=>match cl1 c1,cl1 c2 with
   | some a,some b=>eg lc g&&k5 lc scope [a.1,b.1]&&i6 a.2.2.1&&i6 b.2.2.1&&swB lc (.ListComp elt [c1,c2] scope pos2) scope g p
   | _,_=>false
  | none=>false
 run r _ _ lc e ρ:=match s2v e with
  | some (g,p,elt,c1,c2,scope,pos2,pos)=>match cl1 c1,cl1 c2 with
   | some a,some b=>bind (bind (dJ r lc elt a b scope ρ) λds=>ret (.lst ds)) (R3 lc g ρ)
   | _,_=>bad
  | none=>bad
 ok {T k r Γ C lc X} e R TX h hf hi:=by
  cases hv:s2v e with
  | none=>simp only [hv] at hi;cases hi
  | some v=>
   have he:=nP hv;obtain ⟨g,p,elt,c1,c2,scope,pos2,pos⟩:=v;simp only [hv] at hi;cases h1:cl1 c1 with
   | none=>simp only [h1] at hi;cases hi
   | some a=>
    cases h2:cl1 c2 with
    | none=>simp only [h1,h2] at hi;cases hi
    | some b=>
     simp only [h1,h2] at hi;have e1:=N7 h1;have e2:=N7 h2;rw [Ak,Ak,Ak,Ak] at hi;obtain ⟨⟨⟨⟨hg,hc⟩,hn⟩,hn2⟩,hb⟩:=hi;have hg':=hg;rw [eg,Ak,AY] at hg';obtain ⟨⟨i,hi⟩,hl⟩:=hg';have hi':X.N[i]?=some g:=by rw [h.N];exact t8 hi
     have hl':L2.Loc X.env.scope g:=by rw [h.sc];exact G5 hl
     have hff:X.fn g=true\/X.env.scope.names.lookup g=some .local:=.inl (h.fn1 hf);have sw:=td h elt [c1,c2] scope g p pos pos2;rw [hb] at sw;rw [he];dsimp only;simp only [h1,h2];obtain ⟨x,px,iter,ifs⟩:=a;obtain ⟨y,py,iter2,ifs2⟩:=b;dsimp only at e1 e2 hc hn hn2;show PS X (.Assign [.Name g p] (.ListComp elt [c1,c2] scope pos2) pos) (sD X.K T.cl (xOf X) λρ=>bind (bind (dJ r lc elt (x,px,iter,ifs) (y,py,iter2,ifs2) scope ρ) λds=>ret (.lst ds)) (R3 lc g ρ));rw [e1,e2] at sw ⊢;unfold dJ nE;cases hm:h7 (c9 lc.N) (c7 scope) with
     | none=>exact PS.imp ie λD σ H ⟨μ,S,ρ,eo,rp,p⟩=>p.bind.elim
     | some caps=>
      obtain ⟨t1,t2,t3,t4,t5⟩:=v9 h hc hm;have e4:∀ pins C fp s H,PE (cxComp X pins ([x,y]++c7 scope) scope C fp s H) elt (tD X.K T.cl x0 (r.e (b8 lc scope [x,y]) elt)):=λpins C fp s H=>PE.x0 (R.ex (i3 h t4 t5 t2 pins C fp s H) elt);have q0:∀ pins C fp s H,PTL (cxComp X pins ([x,y]++c7 scope) scope C fp s H) ifs (tBo X.K T.cl x0 (testsE r (b8 lc scope [x,y]) ifs)):=λpins C fp s H=>PTL.x0 (tests_ok (ifs:=ifs) R (i3 h t4 t5 t2 pins C fp s H));have q1:∀ pins C fp s H,PTL (cxComp X pins ([x,y]++c7 scope) scope C fp s H) ifs2 (tBo X.K T.cl x0 (testsE r (b8 lc scope [x,y]) ifs2)):=λpins C fp s H=>PTL.x0 (tests_ok (ifs:=ifs2) R (i3 h t4 t5 t2 pins C fp s H));have i1:∀ pins C fp s H,PI (cxComp X pins ([x,y]++c7 scope) scope C fp s H) (.Name y py) iter2 (tIt X.K T.cl x0 (r.i (b8 lc scope [x,y]) (.Name y py) iter2)):=λpins C fp s H=>PI.x0 (R.ix (i3 h t4 t5 t2 pins C fp s H) (.Name y py) iter2);refine gh (k:=k) hi ?_;exact PS.imp (ig (n:=2) (B:=λY acc=>lM Y.prog Y.w Y.A (.ListComp elt [⟨.Name x px,iter,ifs,0⟩,⟨.Name y py,iter2,ifs2,0⟩] scope pos2) iter2 0 (.ref acc) Y.env) sw h.nd' hi' hl' hff (by decide) t1 (h.calm t4) t2 rfl (t3 x (by simp)) (PI.x0 (R.ix h _ _))
       (λit acc env=>Y1 (k:=0) rfl rfl (j3 hn2) λ_=>rfl)
       q0
       (λpins C fp s H acc=>Q1 (n:=2) (k:=0) rfl (by decide) (h.calm t4) t2 rfl (t3 y (by simp)) (λit=>bG (k:=1) rfl rfl λ_=>rfl) (i1 pins C fp s H) (q1 pins C fp s H) (W3 (e4 pins C fp s H)))
       (j3 hn)) λD σ H ⟨μ,S,ρ,eo,rp,p⟩=>lw (λ_ _ _ hacc=>Q0 (bI hacc)) eo rp p
 runK q _ _ lc e ρ _ k:=match s2v e with
  | some (g,p,elt,c1,c2,scope,pos2,pos)=>match cl1 c1,cl1 c2 with
   | some a,some b=>my q lc elt a b scope ρ λds=>p0 lc g ρ (.lst ds) k
   | _,_=>bad
  | none=>bad
 eq e ρ _ k h:=by
  cases s2v e with
  | none=>rfl
  | some v=>
   obtain ⟨g,p,elt,c1,c2,scope,pos2,pos⟩:=v;dsimp only;cases cl1 c1 with
   | none=>rfl
   | some a=>
    cases cl1 c2 with
    | none=>rfl
    | some b=>simp only [kn h,bind_assoc,d7,cp]
abbrev R3V:=Expr×Comprehension×Comprehension×Comprehension×Scope×Pos×Pos
def r3v:Stmt->Option R3V
 | .Return (some (.ListComp elt [c1,c2,c3] scope pos2)) pos=>some (elt,c1,c2,c3,scope,pos2,pos)
 | _=>none
theorem qF {e:Stmt} {v:R3V} (h:r3v e=some v):e=.Return (some (.ListComp v.1 [v.2.1,v.2.2.1,v.2.2.2.1] v.2.2.2.2.1 v.2.2.2.2.2.1)) v.2.2.2.2.2.2:=by
 unfold r3v at h;split at h
 ·cases h;rfl
 ·cases h
theorem lh {T:Tx} {k:Nat} {r:Ev} {lc:Lc} {X:Cx} (R:EvOk T k r) (h:CxOk T k lc X) {elt:Expr} {x y z:Str} {px py pz pos:Pos} {iter iter2 iter3:Expr} {ifs ifs2 ifs3:List Expr} {scope:Scope} (hc:k5 lc scope [x,y,z]=true) (hn:i6 iter=true) (hn2:i6 iter2=true) (hn3:i6 iter3=true) :
  PE X (.ListComp elt [⟨.Name x px,iter,ifs,0⟩,⟨.Name y py,iter2,ifs2,0⟩,⟨.Name z pz,iter3,ifs3,0⟩] scope pos) (tD X.K T.cl (xOf X) λρ=>bind (dW r lc elt (x,px,iter,ifs) (y,py,iter2,ifs2) (z,pz,iter3,ifs3) scope ρ) newL):=by
 unfold dW nE;cases hm:h7 (c9 lc.N) (c7 scope) with
 | none=>exact PE.imp (f6 (cl:=T.cl) (xe:=xOf X)) λσ H Q ⟨μ,S,ρ,eo,rp,p⟩=>p.bind.elim
 | some caps=>
  obtain ⟨t1,t2,t3,t4,t5⟩:=v9 h hc hm;have e4:∀ pins C fp s H,PE (cxComp X pins ([x,y,z]++c7 scope) scope C fp s H) elt (tD X.K T.cl x0 (r.e (b8 lc scope [x,y,z]) elt)):=λpins C fp s H=>PE.x0 (R.ex (i3 h t4 t5 t2 pins C fp s H) elt);have q0:∀ pins C fp s H,PTL (cxComp X pins ([x,y,z]++c7 scope) scope C fp s H) ifs (tBo X.K T.cl x0 (testsE r (b8 lc scope [x,y,z]) ifs)):=λpins C fp s H=>PTL.x0 (tests_ok (ifs:=ifs) R (i3 h t4 t5 t2 pins C fp s H));have q1:∀ pins C fp s H,PTL (cxComp X pins ([x,y,z]++c7 scope) scope C fp s H) ifs2 (tBo X.K T.cl x0 (testsE r (b8 lc scope [x,y,z]) ifs2)):=λpins C fp s H=>PTL.x0 (tests_ok (ifs:=ifs2) R (i3 h t4 t5 t2 pins C fp s H));have i1:∀ pins C fp s H,PI (cxComp X pins ([x,y,z]++c7 scope) scope C fp s H) (.Name y py) iter2 (tIt X.K T.cl x0 (r.i (b8 lc scope [x,y,z]) (.Name y py) iter2)):=λpins C fp s H=>PI.x0 (R.ix (i3 h t4 t5 t2 pins C fp s H) (.Name y py) iter2);have q2:∀ pins C fp s H,PTL (cxComp X pins ([x,y,z]++c7 scope) scope C fp s H) ifs3 (tBo X.K T.cl x0 (testsE r (b8 lc scope [x,y,z]) ifs3)):=λpins C fp s H=>PTL.x0 (tests_ok (ifs:=ifs3) R (i3 h t4 t5 t2 pins C fp s H));have i2:∀ pins C fp s H,PI (cxComp X pins ([x,y,z]++c7 scope) scope C fp s H) (.Name z pz) iter3 (tIt X.K T.cl x0 (r.i (b8 lc scope [x,y,z]) (.Name z pz) iter3)):=λpins C fp s H=>PI.x0 (R.ix (i3 h t4 t5 t2 pins C fp s H) (.Name z pz) iter3);refine PE.imp (gK (n:=3) (B:=λY acc=>lM Y.prog Y.w Y.A (.ListComp elt [⟨.Name x px,iter,ifs,0⟩,⟨.Name y py,iter2,ifs2,0⟩,⟨.Name z pz,iter3,ifs3,0⟩] scope pos) iter2 0 (.ref acc) Y.env) (by decide) t1 (h.calm t4) t2 rfl (t3 x (by simp)) (PI.x0 (R.ix h _ _))
   (λit acc env=>Y1 (k:=0) rfl rfl (j3 hn2) λ_=>rfl)
   q0
   (λpins C fp s H acc=>Q1 (n:=3) (k:=0) rfl (by decide) (h.calm t4) t2 rfl (t3 y (by simp)) (λit=>Y1 (k:=1) rfl rfl (j3 hn3) λ_=>rfl) (i1 pins C fp s H) (q1 pins C fp s H)
    (Q1 (n:=3) (k:=1) rfl (by decide) (h.calm t4) t2 rfl (t3 z (by simp)) (λit=>bG (k:=2) rfl rfl λ_=>rfl) (i2 pins C fp s H) (q2 pins C fp s H) (W3 (e4 pins C fp s H))))
   (j3 hn)) λσ H Q ⟨μ,S,ρ,eo,rp,p⟩=>?_
  dsimp only at p;rw [dY] at p;exact kM (λ_ _ _ hacc=>Q0 (Q0 (bI hacc))) eo rp p.nx
def pM:RuS where
 is _ lc e:=match r3v e with
  | some (elt,c1,c2,c3,scope,pos2,pos)=>match cl1 c1,cl1 c2,cl1 c3 with
   | some a,some b,some c=>decide (("return" : Str)∈lc.mu)&&(k5 lc scope [a.1,b.1,c.1]&&i6 a.2.2.1&&i6 b.2.2.1&&i6 c.2.2.1)
   | _,_,_=>false
  | none=>false
 run r _ _ lc e ρ:=match r3v e with
  | some (elt,c1,c2,c3,scope,pos2,pos)=>match cl1 c1,cl1 c2,cl1 c3 with
   | some a,some b,some c=>bind (bind (dW r lc elt a b c scope ρ) newL) λd=>ret (.rt d)
   | _,_,_=>bad
  | none=>bad
 ok {T k r Γ C lc X} e R TX h hf hi:=by
  cases hv:r3v e with
  | none=>simp only [hv] at hi;cases hi
  | some v=>
   have he:=qF hv;obtain ⟨elt,c1,c2,c3,scope,pos2,pos⟩:=v;simp only [hv] at hi;cases h1:cl1 c1 with
   | none=>simp only [h1] at hi;cases hi
   | some a=>
    cases h2:cl1 c2 with
    | none=>simp only [h1,h2] at hi;cases hi
    | some b=>
     cases h3:cl1 c3 with
     | none=>simp only [h1,h2,h3] at hi;cases hi
     | some c=>
      simp only [h1,h2,h3] at hi;have e1:=N7 h1;have e2:=N7 h2;have e3:=N7 h3;rw [Ak,Ak,Ak,Ak] at hi;obtain ⟨_,⟨⟨hc,hn⟩,hn2⟩,hn3⟩:=hi;rw [he];dsimp only;simp only [h1,h2,h3];rw [e1,e2,e3];exact Z1 (lh R h hc hn hn2 hn3)
 runK q _ _ lc e ρ _ k:=match r3v e with
  | some (elt,c1,c2,c3,scope,pos2,pos)=>match cl1 c1,cl1 c2,cl1 c3 with
   | some a,some b,some c=>mo q lc elt a b c scope ρ λds=>bind (newL ds) λd=>k (.rt d)
   | _,_,_=>bad
  | none=>bad
 eq e ρ _ k h:=by
  cases r3v e with
  | none=>rfl
  | some v=>
   obtain ⟨elt,c1,c2,c3,scope,pos2,pos⟩:=v;dsimp only;cases cl1 c1 with
   | none=>rfl
   | some a=>
    cases cl1 c2 with
    | none=>rfl
    | some b=>
     cases cl1 c3 with
     | none=>rfl
     | some c=>simp only [lm h,bind_assoc,d7]
abbrev ITV:=Str×Pos×Bool×Str×Pos×Pos
def itv:Expr->Option ITV
 | .Compare (.Name x p) [.In] [.Name y p2] p3=>some (x,p,false,y,p2,p3)
 | .Compare (.Name x p) [.NotIn] [.Name y p2] p3=>some (x,p,true,y,p2,p3)
 | _=>none
theorem pb {e:Expr} {v:ITV} (h:itv e=some v):e=.Compare (.Name v.1 v.2.1) [if v.2.2.1 then .NotIn else .In] [.Name v.2.2.2.1 v.2.2.2.2.1] v.2.2.2.2.2:=by
 unfold itv at h;split at h
 ·cases h;rfl
 ·cases h;rfl
 ·cases h
def tV:RuT where
 is _ lc e:=match itv e with
  | some v=>decide (lc.mu=[])&&(c9 lc.N v.2.2.2.1).isSome
  | none=>false
 run r _ _ lc e ρ:=match itv e with
  | some v=>bind (r.e lc (.Name v.1 v.2.1) ρ) λx=>bind (r.e lc (.Name v.2.2.2.1 v.2.2.2.2.1) ρ) λy=>bind (z0 v.2.2.1 x y) asB
  | none=>bad
 ok {T k r Γ C lc X} e R TX h hi:=by
  cases hv:itv e with
  | none=>simp only [hv] at hi;cases hi
  | some v=>
   have he:=pb hv;obtain ⟨x,p,b,y,p2,p3⟩:=v;rw [he];dsimp only;cases b with
   | true=>exact O0 (R.ex h _) (R.ex h _) (eO true h.u80 (by rw [h.w];rfl)) (q5 rfl)
   | false=>exact O0 (R.ex h _) (R.ex h _) (eO false h.u80 (by rw [h.w];rfl)) (q5 rfl)
 runK q _ _ lc e ρ _ k:=match itv e with
  | some v=>q.e lc (.Name v.1 v.2.1) ρ λx=>q.e lc (.Name v.2.2.2.1 v.2.2.2.2.1) ρ λy=>bind (z0 v.2.2.1 x y) λd=>bind (asB d) k
  | none=>bad
 eq e ρ _ k h:=by
  cases itv e with
  | none=>rfl
  | some v=>simp only [h.e,bind_assoc]
def oy:RuE where
 is Γ lc e:=bE "len" false Γ lc e&&decide (("t{}" : Str)∈lc.mu)
 run r _ _ lc e ρ:=iO (one u8) r lc e ρ
 ok {T k r Γ C lc X} e R TX h hi:=by
  rw [Ak] at hi;exact rLenT.ok e R TX h hi.1
 runK q _ _ lc e ρ _ k:=gb (one u8) q lc e ρ k
 eq e ρ _ k h:=cN (one u8) e ρ k h
theorem fC {T:Tx} {k:Nat} {r:Ev} {lc:Lc} {X:Cx} (R:EvOk T k r) (h:CxOk T k lc X) {elt:Expr} {y:Str} {py pos:Pos} {iter:Expr} {ifs:List Expr} {scope:Scope} (hc:k5 lc scope [y]=true) (hn:i6 iter=true) :
  PE X (.ListComp elt [⟨.Name y py,iter,ifs,0⟩] scope pos) (tD X.K T.cl (xOf X) λρ=>bind (A7 r lc elt y py iter ifs scope ρ) newL):=by
 unfold A7;cases hm:h7 (c9 lc.N) (c7 scope) with
 | none=>exact PE.imp (f6 (cl:=T.cl) (xe:=xOf X)) λσ H Q ⟨μ,S,ρ,eo,rp,p⟩=>p.bind.elim
 | some caps=>
  obtain ⟨t1,t2,t3,t4,t5⟩:=v9 h hc hm;have e1:∀ pins C fp s H,PTL (cxComp X pins ([y]++c7 scope) scope C fp s H) ifs (tBo X.K T.cl x0 (testsE r (b8 lc scope [y]) ifs)):=λpins C fp s H=>PTL.x0 (tests_ok (ifs:=ifs) R (i3 h t4 t5 t2 pins C fp s H));have e2:∀ pins C fp s H,PE (cxComp X pins ([y]++c7 scope) scope C fp s H) elt (tD X.K T.cl x0 (r.e (b8 lc scope [y]) elt)):=λpins C fp s H=>PE.x0 (R.ex (i3 h t4 t5 t2 pins C fp s H) elt);refine PE.imp (dD t1 (h.calm t4) t2 rfl (t3 y (by simp)) (PI.x0 (R.ix h _ _)) e1 e2 (j3 hn)) λσ H Q ⟨μ,S,ρ,eo,rp,p⟩=>?_;dsimp only at p;rw [dY] at p;exact aZ eo rp p.nx
def pH:RuS where
 is _ lc e:=match e with
  | .Return (some (.ListComp _ [⟨.Name y _,iter,_,0⟩] scope _)) _=>decide (("return" : Str)∈lc.mu)&&(k5 lc scope [y]&&i6 iter)
  | _=>false
 run r _ _ lc e ρ:=match e with
  | .Return (some (.ListComp elt [⟨.Name y py,iter,ifs,0⟩] scope _)) _=>bind (bind (A7 r lc elt y py iter ifs scope ρ) newL) λd=>ret (.rt d)
  | _=>bad
 ok e R TX h hf hi:=by
  split at hi
  ·rw [Ak,Ak] at hi;exact Z1 (fC R h hi.2.1 hi.2.2)
  ·cases hi
 runK q _ _ lc e ρ _ k:=match e with
  | .Return (some (.ListComp elt [⟨.Name y py,iter,ifs,0⟩] scope _)) _=>aI q lc elt y py iter ifs scope ρ λds=>bind (newL ds) λd=>k (.rt d)
  | _=>bad
 eq e ρ _ k h:=by
  split
  ·simp only [ao h,bind_assoc,d7]
  ·first
   | rfl
   | (rename_i hn;split;exact (hn _ _ _ _ _ _ _ _ rfl).elim;rfl)
end L3
namespace L3.K04
open PySem PySem.Spec PyProof.Rows L2
def nth (l:List Stmt) (i:Nat):Stmt:=l.getD i (.Pass ⟨0,0,0,0⟩)
def top (i:Nat):Stmt:=nth PySem.Challenge.pw_handnames_k04_all_stands_and_found_ones.main.body i
def p9:Stmt->List Stmt
 | .For _ _ b _ _=>b
 | .While _ b _ _=>b
 | _=>[]
def hJ:Stmt->Expr
 | .While c _ _ _=>c
 | _=>.Name "" ⟨0,0,0,0⟩
abbrev nQ:Fd:=u0 (top 4) []
abbrev qR:Fd:=u0 (top 8) []
abbrev Ab:Fd:=u0 (top 9) []
abbrev Af:Fd:=u0 (top 10) []
abbrev qK:Fd:=u0 (top 11) ["return"]
abbrev Ae:Fd:=u0 (top 12) []
abbrev qL:Fd:=u0 (top 13) ["t{}","return"]
abbrev Ad:Fd:=u0 (top 14) ["waiting","t{}"]
abbrev gR:Fd:=u0 (top 16) []
abbrev jj:Fd:=u0 (top 17) []
abbrev nL:Fd:=u0 (top 18) []
abbrev Aa:Fd:=u0 (top 20) []
abbrev allL_F:Fd:=u0 (top 21) []
abbrev Ac:Fd:=u0 (top 22) ["_law_pile","t{}"]
abbrev hB:Fd:=u0 (top 23) ["t{}"]
abbrev jW:Fd:=u0 (top 24) []
abbrev tG:Nat:=0
abbrev sH:Nat:=1
abbrev mi:Nat:=2
abbrev qT:Nat:=3
abbrev sF:Nat:=4
abbrev sd:Nat:=5
abbrev rL:Nat:=6
abbrev rX:Nat:=7
abbrev oB:Nat:=8
abbrev nH:Nat:=9
abbrev sK:Nat:=10
abbrev nA:Nat:=11
abbrev kX:Nat:=12
abbrev oN:Nat:=13
abbrev ol:Nat:=14
abbrev hD:Nat:=15
def Tb:List Fd:=[nQ,qR,Ab,Af,qK,Ae,qL,Ad,gR,jj,nL,Aa,allL_F,Ac,hB,jW]
def Γ:Gm:=⟨("HandError",.err 0 []) :: ("NoStep",.err 1 ["hand"]) :: ("WORDS",.val (.tup [(.str "out"),(.str "ask"),(.str "close"),(.str "look"),(.str "holds"),(.str "right"),(.str "down")])) :: ("ENDED",.val (.tup [(.str "holds"),(.str "right"),(.str "down")])) :: ("with_at",.fn 0 3) :: ("first_decider",.fn 1 1) :: ("step_decider",.fn 2 2) :: ("moving_hands",.fn 3 1) :: ("all_deciders",.fn 4 1) :: ("all_words",.fn 5 1) :: ("found_deciders",.fn 6 1) :: ("stands_behind",.fn 7 1) :: ("_law_feed",.fn 8 1) :: ("_law_draw",.fn 9 2) :: ("_law_words",.fn 10 0) :: ("_law_behind",.fn 11 2) :: ("_law_all",.fn 12 1) :: ("_law_found",.fn 13 1) :: ("_law_right",.fn 14 1) :: ("law",.fn 15 1) :: [],λc c0=>c0==0||c==c0,["hand"],[]⟩
def Rs:Rules:=⟨[pT,tI,uB,vS,rIx,vD,vY,rFn,vR,kg,oy,tm,si,sY,rIf,tE,vH,rSl,nZ,qH,rAppend,rH,uY],[qD,tL,vW,tV,uH,oR],[oh,sIf,uR,ou,pH,pM,vT,sn,qN,uW,uZ,nR,rc,rW],[lT,sS,vM]⟩
abbrev rn (k i:Nat) (ds:List D):M D:=D8 Rs Γ Tb k i ds
abbrev XX (C:Cf) (n:Nat) (l:Lc) (b:List Stmt) (i:Nat) (ρ:L3.Env) {α:Type} (κ:Fl->M α):M α:=(evK Rs Γ C n).s l (nth b i) ρ κ
local macro_rules|`($x:ident@$e<|$b)=>`(bind $e λ$x=>$b)
local macro_rules|`(())=>`(by kernel_rfl)
section
variable (C:Cf) {α:Type} (κ:Fl->M α) {ua ub uc ud ue:D} {qa qb qc qd qe qf qg qh:Option D}
theorem pU:runK Rs Γ C nQ [ua,ub,uc]=(n1@(y9 ub)<|x2@(slD ua none n1)<|x3@(i8 x2 (.tup [uc]))<|x4@(i8 ub (.int 1))<|n5@(y9 x4)<|x6@(slD ua n5 none)<|x7@(i8 x3 x6)<|ret x7):=()
theorem nj:runK Rs Γ C qR [ua]=(x1@(F6 (.tup [(.str "out")]) ua)<|ret (.tup [.non,(.bl false),x1])):=()
def bW:Lc:=E1 Ab
theorem oA:runK Rs Γ C Ab [ua,ub]=m4 (evK Rs Γ C 40) bW Ab.body [ua,ub,none,none,none,none] endD:=()
theorem pZ:Ab.body=[nth Ab.body 0,nth Ab.body 1,nth Ab.body 2,nth Ab.body 3,nth Ab.body 4,nth Ab.body 5,nth Ab.body 6]:=()
theorem vU:XX C 40 bW Ab.body 0 [ua,qa,qb,qc,qd,qe] κ=bind (bA (J0 [2,3,4]) ua [ua,qa,qb,qc,qd,qe]) κ:=()
theorem uM:XX C 40 bW Ab.body 1 [qa,ua,qb,qc,ub,qd] κ=(x1@(ixD ub ua)<|κ (.nx [qa,ua,qb,qc,ub,x1])):=()
theorem vA:XX C 40 bW Ab.body 2 [qa,ua,qb,qc,qd,ub] κ=(x1@(i5 .In ub (.tup [(.str "holds"),(.str "right"),(.str "down")]))<|z2@(asB x1)<|if z2 then (x3@(aK 1 ["hand"] [ua])<|bind (O5 x3) (fin κ)) else (κ (.nx [qa,ua,qb,qc,qd,ub]))):=()
theorem mJ:XX C 40 bW Ab.body 3 [qa,ua,qb,ub,uc,ud] κ=(x1@(i5 .Eq ud (.str "out"))<|z2@(asB x1)<|if z2 then (x3@(C 0 [uc,ua,(.str "ask")])<|κ (.rt (.tup [ua,ub,x3]))) else (κ (.nx [qa,ua,qb,ub,uc,ud]))):=()
theorem nn:XX C 40 bW Ab.body 4 [qa,ua,ub,uc,ud,ue] κ=(x1@(i5 .Eq ue (.str "ask"))<|z2@(asB x1)<|if z2 then (z3@(t9 uc)<|if z3 then (x4@(C 0 [ud,ua,(.str "right")])<|κ (.rt (.tup [ub,uc,x4]))) else (x5@(C 0 [ud,ua,(.str "close")])<|κ (.rt (.tup [ub,uc,x5])))) else (κ (.nx [qa,ua,ub,uc,ud,ue]))):=()
theorem sP:XX C 40 bW Ab.body 5 [qa,ua,ub,qb,uc,ud] κ=(x1@(i5 .Eq ud (.str "close"))<|z2@(asB x1)<|if z2 then (x3@(C 0 [uc,ua,(.str "look")])<|κ (.rt (.tup [ub,(.bl true),x3]))) else (κ (.nx [qa,ua,ub,qb,uc,ud]))):=()
theorem vI:XX C 40 bW Ab.body 6 [qa,ua,ub,uc,ud,qb] κ=(x1@(i5 .Eq ub ua)<|z2@(asB x1)<|if z2 then (x3@(C 0 [ud,ua,(.str "holds")])<|κ (.rt (.tup [ub,uc,x3]))) else (x4@(C 0 [ud,ua,(.str "down")])<|κ (.rt (.tup [ub,uc,x4])))):=()
def z4_L:Lc:=E1 Af
def V8:Expr×List Expr×Scope:=match (nth Af.body 0) with
 | .Return (some (.ListComp elt [⟨_,_,ifs,_⟩] scope _)) _=>(elt,ifs,scope)
 | _=>(.Name "" ⟨0,0,0,0⟩,[],default)
def jY (C:Cf) (ρ:L3.Env) (d:D):M Bool:=match h7 (c9 z4_L.N) (c7 V8.2.2) with
 | some caps=>kA (testsK (evK Rs Γ C 38) (b8 z4_L V8.2.2 ["hand","word"]) V8.2.1) (mk2 (w9 caps ρ) d)
 | none=>bad
theorem cY:jY C [qa] (.tup [ua,ub])=(x1@(i5 .NotIn ub (.tup [(.str "holds"),(.str "right"),(.str "down")]))<|z2@(asB x1)<|ret z2):=()
def gD (C:Cf) (ρ:L3.Env) (d:D):M D:=match h7 (c9 z4_L.N) (c7 V8.2.2) with
 | some caps=>(evK Rs Γ C 38).e (b8 z4_L V8.2.2 ["hand","word"]) V8.1 (mk2 (w9 caps ρ) d) ret
 | none=>bad
theorem cF:gD C [qa] (.tup [ua,ub])=ret ua:=()
theorem oI:runK Rs Γ C Af [ua]=(l3@(nx (x1@(ixD ua (.int 2))<|sm2@(dq x1)<|j6 sm2.1 (jY C [ua]) (gD C [ua]) sm2.2 0 []))<|ret (.lst l3)):=()
theorem pd:runK Rs Γ C qK [ua]=(x1@(B6 ua)<|x2@(i8 (.lst [.non]) x1)<|x3@(C 5 [ua])<|l16@(nx (sm4@(j9 x2)<|lvM sm4.1 (λd5=>ret true) (λd5=>λl6=>sm7@(sm8@(j9 (.tup [(.bl false),(.bl true)]))<|ret sm8)<|lvM sm7.1 (λd9=>ret true) (λd9=>λl10=>sm11@(sm12@(j9 x3)<|ret sm12)<|lvM sm11.1 (λd13=>ret true) (λd13=>λl14=>x15@(ret (.tup [d5,d9,d13]))<|if l14.length<sizeLine then ret (l14++[x15]) else bad) sm11.2 0 l10) sm7.2 0 l6) sm4.2 0 []))<|x17@(newL l16)<|ret x17):=()
def ee:Lc:=E1 Ae
theorem oY:runK Rs Γ C Ae [ua]=m4 (evK Rs Γ C 40) ee Ae.body [ua,none,none] endD:=()
theorem nG:Ae.body=[nth Ae.body 0,nth Ae.body 1,nth Ae.body 2]:=()
theorem uN:XX C 40 ee Ae.body 0 [qa,qb,qc] κ=κ (.nx [qa,some (.lst [(.tup [])]),qc]):=()
def aQ:List Stmt:=p9 (nth Ae.body 1)
def eH (C:Cf):L3.Env->M Fl:=λρ'=>m4 (evK Rs Γ C 39) ee aQ ρ' ret
theorem vN:XX C 40 ee Ae.body 1 [ua,qa,qb] κ=(sm1@(M4 [ua])<|bind (n9 sm1.1 (λd ρ=>some (ρ.set 2 (some d))) (eH C) sm1.2 0 [ua,qa,qb]) κ):=()
theorem uA:XX C 40 ee Ae.body 2 [qa,ua,qb] κ=κ (.rt ua):=()
theorem cZ:aQ=[nth aQ 0]:=()
theorem gV:XX C 39 ee aQ 0 [qa,ua,qb] κ=(l10@(nx (sm1@(j9 ua)<|lvM sm1.1 (λd2=>ret true) (λd2=>λl3=>sm4@(sm5@(j9 (.tup [(.str "out"),(.str "ask"),(.str "close"),(.str "look"),(.str "holds"),(.str "right"),(.str "down")]))<|ret sm5)<|lvM sm4.1 (λd6=>ret true) (λd6=>λl7=>x8@(x9@(i8 d2 (.tup [d6]))<|ret x9)<|if l7.length<sizeLine then ret (l7++[x8]) else bad) sm4.2 0 l3) sm1.2 0 []))<|κ (.nx [qa,some (.lst l10),qb])):=()
theorem pc:runK Rs Γ C qL [ua]=(x1@(C 1 [ua])<|x2@(C 7 [x1])<|l8@(nx (x4@(C 4 [ua])<|sm5@(j9 x4)<|j6 sm5.1 (λd3=>x6@(z0 false d3 x2)<|z7@(asB x6)<|ret z7) (λd3=>ret d3) sm5.2 0 []))<|x9@(newL l8)<|ret x9):=()
def M7:Lc:=E1 Ad
theorem nV:runK Rs Γ C Ad [ua]=m4 (evK Rs Γ C 40) M7 Ad.body [ua,none,none,none,none,none] endD:=()
theorem oG:Ad.body=[nth Ad.body 0,nth Ad.body 1,nth Ad.body 2,nth Ad.body 3]:=()
theorem vF:XX C 40 M7 Ad.body 0 [ua,qa,qb,qc,qd,qe] κ=(x1@(D0 [(ua,(.bl true))])<|κ (.nx [ua,x1,qb,qc,qd,qe])):=()
theorem tf:XX C 40 M7 Ad.body 1 [ua,qa,qb,qc,qd,qe] κ=(x1@(newL [ua])<|κ (.nx [ua,qa,x1,qc,qd,qe])):=()
def mS (C:Cf):L3.Env->M Bool:=λρ'=>(evK Rs Γ C 39).t M7 (hJ (nth Ad.body 2)) ρ' ret
theorem fU:mS C [qa,qb,ua,qc,qd,qe]=(z1@(t9 ua)<|ret z1):=()
def E4:List Stmt:=p9 (nth Ad.body 2)
def dr (C:Cf):L3.Env->M Fl:=λρ'=>m4 (evK Rs Γ C 39) M7 E4 ρ' ret
theorem vP:XX C 40 M7 Ad.body 2 [qa,qb,qc,qd,qe,qf] κ=bind (v4 (mS C) (dr C) 10000 [qa,qb,qc,qd,qe,qf]) κ:=()
theorem vO:XX C 40 M7 Ad.body 3 [qa,ua,qb,qc,qd,qe] κ=κ (.rt ua):=()
theorem bg:E4=[nth E4 0,nth E4 1]:=()
theorem jU:XX C 39 M7 E4 0 [qa,qb,ua,qc,qd,qe] κ=(x1@(M2 ua)<|κ (.nx [qa,qb,ua,x1,qd,qe])):=()
def l9:List Stmt:=p9 (nth E4 1)
def B3 (C:Cf):L3.Env->M Fl:=λρ'=>m4 (evK Rs Γ C 38) M7 l9 ρ' ret
theorem jf:XX C 39 M7 E4 1 [qa,qb,qc,ua,qd,qe] κ=(x1@(C 3 [ua])<|sm2@(j9 x1)<|bind (n9 sm2.1 (λd ρ=>some (ρ.set 4 (some d))) (B3 C) sm2.2 0 [qa,qb,qc,ua,qd,qe]) κ):=()
theorem Q4:l9=[nth l9 0,nth l9 1]:=()
theorem Z9:XX C 38 M7 l9 0 [qa,qb,qc,ua,ub,qd] κ=(x1@(C 2 [ua,ub])<|κ (.nx [qa,qb,qc,ua,ub,x1])):=()
theorem X9:XX C 38 M7 l9 1 [qa,ua,ub,qb,qc,uc] κ=(x1@(z0 true uc ua)<|z2@(asB x1)<|if z2 then (x@(D1 ua uc (.bl true))<|x@(lstOf ub)<|x3@(Y0 ub [uc])<|κ (.nx [qa,ua,ub,qb,qc,uc])) else (κ (.nx [qa,ua,ub,qb,qc,uc]))):=()
theorem jw:runK Rs Γ C gR [ua]=(x1@(slD ua none (some 63))<|x2@(cT [((.str "cells"),x1),((.str "at"),(.int 0)),((.str "left"),(.int 0)),((.str "turn"),(.int 0))])<|ret x2):=()
theorem ku (C:Cf) (p x:D):runK Rs Γ C jj [p,x]=eB p x:=()
theorem pK:runK Rs Γ C nL []=ret (.lst [(.str "out"),(.str "ask"),(.str "close"),(.str "look"),(.str "holds"),(.str "right"),(.str "down")]):=()
def R9:Lc:=E1 Aa
theorem pF:runK Rs Γ C Aa [ua,ub]=m4 (evK Rs Γ C 40) R9 Aa.body [ua,ub,none,none,none,none,none] endD:=()
theorem pE:Aa.body=[nth Aa.body 0,nth Aa.body 1,nth Aa.body 2,nth Aa.body 3,nth Aa.body 4,nth Aa.body 5,nth Aa.body 6]:=()
theorem vJ:XX C 40 R9 Aa.body 0 [ua,qa,qb,qc,qd,qe,qf] κ=bind (bA (J0 [2,3,4]) ua [ua,qa,qb,qc,qd,qe,qf]) κ:=()
theorem vK:XX C 40 R9 Aa.body 1 [qa,ua,qb,qc,ub,qd,qe] κ=(x1@(ixD ub ua)<|κ (.nx [qa,ua,qb,qc,ub,x1,qe])):=()
theorem uE:XX C 40 R9 Aa.body 2 [qa,qb,qc,ua,qd,ub,qe] κ=(z1@(t9 ua)<|if z1 then (x2@(cT [((.str "out"),(.str "ask")),((.str "ask"),(.str "right")),((.str "close"),(.str "look")),((.str "look"),(.str "down"))])<|x@(dctOf x2)<|x3@(getDD x2 [ub])<|κ (.nx [qa,qb,qc,ua,qd,ub,x3])) else (x4@(cT [((.str "out"),(.str "ask")),((.str "ask"),(.str "close")),((.str "close"),(.str "look")),((.str "look"),(.str "down"))])<|x@(dctOf x4)<|x5@(getDD x4 [ub])<|κ (.nx [qa,qb,qc,ua,qd,ub,x5]))):=()
theorem vc:XX C 40 R9 Aa.body 3 [qa,ua,ub,qb,qc,uc,qd] κ=(x1@(i5 .Eq uc (.str "look"))<|z2@(asB x1)<|if z2 then (x3@(i5 .IsNot ub .non)<|z4@(asB x3)<|if z4 then (x5@(i5 .Eq ub ua)<|z6@(asB x5)<|if z6 then (κ (.nx [qa,ua,ub,qb,qc,uc,some (.str "holds")])) else (κ (.nx [qa,ua,ub,qb,qc,uc,qd]))) else (κ (.nx [qa,ua,ub,qb,qc,uc,qd]))) else (κ (.nx [qa,ua,ub,qb,qc,uc,qd]))):=()
theorem lV:XX C 40 R9 Aa.body 4 [qa,qb,qc,qd,qe,qf,ua] κ=(x1@(i5 .Is ua .non)<|z2@(asB x1)<|if z2 then (κ (.rt .non)) else (κ (.nx [qa,qb,qc,qd,qe,qf,ua]))):=()
theorem tj:XX C 40 R9 Aa.body 5 [qa,ua,qb,qc,ub,qd,uc] κ=(n1@(y9 ua)<|x2@(slD ub none n1)<|x3@(i8 x2 (.tup [uc]))<|x4@(i8 ua (.int 1))<|n5@(y9 x4)<|x6@(slD ub n5 none)<|x7@(i8 x3 x6)<|κ (.nx [qa,ua,qb,qc,x7,qd,uc])):=()
theorem uT:XX C 40 R9 Aa.body 6 [qa,ua,ub,uc,ud,ue,qb] κ=(x1@(i5 .Eq ue (.str "out"))<|z2@(asB x1)<|if z2 then (c3@(t9 uc)<|if c3 then (κ (.rt (.tup [ua,uc,ud]))) else (x4@(i5 .Eq ue (.str "close"))<|κ (.rt (.tup [ua,x4,ud])))) else (c5@(t9 uc)<|if c5 then (κ (.rt (.tup [ub,uc,ud]))) else (x6@(i5 .Eq ue (.str "close"))<|κ (.rt (.tup [ub,x6,ud]))))):=()
def j4:Lc:=E1 allL_F
theorem jG:runK Rs Γ C allL_F [ua]=m4 (evK Rs Γ C 40) j4 allL_F.body [ua,none,none,none,none,none,none,none] endD:=()
theorem gZ:allL_F.body=[nth allL_F.body 0,nth allL_F.body 1,nth allL_F.body 2,nth allL_F.body 3,nth allL_F.body 4]:=()
theorem qM:XX C 40 j4 allL_F.body 0 [qa,qb,qc,qd,qe,qf,qg,qh] κ=κ (.nx [qa,some (.lst [(.tup [])]),qc,qd,qe,qf,qg,qh]):=()
def k6:List Stmt:=p9 (nth allL_F.body 1)
def V3 (C:Cf):L3.Env->M Fl:=λρ'=>m4 (evK Rs Γ C 39) j4 k6 ρ' ret
theorem nc:XX C 40 j4 allL_F.body 1 [ua,qa,qb,qc,qd,qe,qf,qg] κ=(sm1@(M4 [ua])<|bind (n9 sm1.1 (λd ρ=>some (ρ.set 2 (some d))) (V3 C) sm1.2 0 [ua,qa,qb,qc,qd,qe,qf,qg]) κ):=()
theorem pj:XX C 40 j4 allL_F.body 2 [qa,qb,qc,qd,qe,qf,qg,qh] κ=κ (.nx [qa,qb,qc,qd,qe,some (.lst []),qg,qh]):=()
def B0:List Stmt:=p9 (nth allL_F.body 3)
def W0 (C:Cf):L3.Env->M Fl:=λρ'=>m4 (evK Rs Γ C 39) j4 B0 ρ' ret
theorem oi:XX C 40 j4 allL_F.body 3 [ua,qa,qb,qc,qd,qe,qf,qg] κ=(x1@(i8 (.int 1) ua)<|n2@(y9 x1)<|x3@(slD (.lst [.non,(.int 0),(.int 1),(.int 2)]) none n2)<|sm4@(j9 x3)<|bind (n9 sm4.1 (λd ρ=>some (ρ.set 6 (some d))) (W0 C) sm4.2 0 [ua,qa,qb,qc,qd,qe,qf,qg]) κ):=()
theorem oU:XX C 40 j4 allL_F.body 4 [qa,qb,qc,qd,qe,ua,qf,qg] κ=κ (.rt ua):=()
theorem aJ:k6=[nth k6 0,nth k6 1,nth k6 2]:=()
theorem bp:XX C 39 j4 k6 0 [qa,qb,qc,qd,qe,qf,qg,qh] κ=κ (.nx [qa,qb,qc,some (.lst []),qe,qf,qg,qh]):=()
def p7:List Stmt:=p9 (nth k6 1)
def D2 (C:Cf):L3.Env->M Fl:=λρ'=>m4 (evK Rs Γ C 38) j4 p7 ρ' ret
theorem ce:XX C 39 j4 k6 1 [qa,ua,qb,qc,qd,qe,qf,qg] κ=(sm1@(j9 ua)<|bind (n9 sm1.1 (λd ρ=>some (ρ.set 4 (some d))) (D2 C) sm1.2 0 [qa,ua,qb,qc,qd,qe,qf,qg]) κ):=()
theorem cn:XX C 39 j4 k6 2 [qa,qb,qc,ua,qd,qe,qf,qg] κ=κ (.nx [qa,ua,qc,ua,qd,qe,qf,qg]):=()
theorem X8:B0=[nth B0 0]:=()
def q4:List Stmt:=p9 (nth B0 0)
def D3 (C:Cf):L3.Env->M Fl:=λρ'=>m4 (evK Rs Γ C 38) j4 q4 ρ' ret
theorem cb:XX C 39 j4 B0 0 [qa,qb,qc,qd,qe,qf,qg,qh] κ=(sm1@(j9 (.tup [(.bl false),(.bl true)]))<|bind (n9 sm1.1 (λd ρ=>some (ρ.set 7 (some d))) (D3 C) sm1.2 0 [qa,qb,qc,qd,qe,qf,qg,qh]) κ):=()
theorem J7:p7=[nth p7 0]:=()
theorem P7:XX C 38 j4 p7 0 [qa,qb,qc,ua,ub,qd,qe,qf] κ=(l5@(nx (x2@(C 10 [])<|sm3@(j9 x2)<|j6 sm3.1 (λd1=>ret true) (λd1=>x4@(i8 ub (.tup [d1]))<|ret x4) sm3.2 0 []))<|x6@(i8 ua (.lst l5))<|κ (.nx [qa,qb,qc,x6,ub,qd,qe,qf])):=()
theorem J8:q4=[nth q4 0]:=()
theorem O3:XX C 38 j4 q4 0 [qa,ua,qb,qc,qd,ub,uc,ud] κ=(l3@(nx (sm2@(j9 ua)<|j6 sm2.1 (λd1=>ret true) (λd1=>ret (.tup [uc,ud,d1])) sm2.2 0 []))<|x4@(i8 ub (.lst l3))<|κ (.nx [qa,ua,qb,qc,qd,x4,uc,ud])):=()
def y8:Lc:=E1 Ac
theorem kT:runK Rs Γ C Ac [ua]=m4 (evK Rs Γ C 40) y8 Ac.body [ua,none,none,none,none,none] endD:=()
theorem mD:Ac.body=[nth Ac.body 0,nth Ac.body 1,nth Ac.body 2,nth Ac.body 3]:=()
theorem sL:XX C 40 y8 Ac.body 0 [ua,qa,qb,qc,qd,qe] κ=(x1@(F6 (.tup [(.str "out")]) ua)<|x2@(D0 [((.tup [.non,(.bl false),x1]),(.bl true))])<|κ (.nx [ua,x2,qb,qc,qd,qe])):=()
theorem sQ:XX C 40 y8 Ac.body 1 [ua,qa,qb,qc,qd,qe] κ=(x1@(F6 (.tup [(.str "out")]) ua)<|x2@(newL [(.tup [.non,(.bl false),x1])])<|κ (.nx [ua,qa,x2,qc,qd,qe])):=()
def iY (C:Cf):L3.Env->M Bool:=λρ'=>(evK Rs Γ C 39).t y8 (hJ (nth Ac.body 2)) ρ' ret
theorem bZ:iY C [qa,qb,ua,qc,qd,qe]=(x1@(i5 .NotEq ua (.lst []))<|z2@(asB x1)<|ret z2):=()
def w8:List Stmt:=p9 (nth Ac.body 2)
def bL (C:Cf):L3.Env->M Fl:=λρ'=>m4 (evK Rs Γ C 39) y8 w8 ρ' ret
theorem rG:XX C 40 y8 Ac.body 2 [qa,qb,qc,qd,qe,qf] κ=bind (v4 (iY C) (bL C) 10000 [qa,qb,qc,qd,qe,qf]) κ:=()
theorem sy:XX C 40 y8 Ac.body 3 [qa,ua,qb,qc,qd,qe] κ=κ (.rt ua):=()
theorem bU:w8=[nth w8 0,nth w8 1]:=()
theorem ej:XX C 39 y8 w8 0 [qa,qb,ua,qc,qd,qe] κ=(x1@(M2 ua)<|κ (.nx [qa,qb,ua,x1,qd,qe])):=()
def j7:List Stmt:=p9 (nth w8 1)
def w6 (C:Cf):L3.Env->M Fl:=λρ'=>m4 (evK Rs Γ C 38) y8 j7 ρ' ret
theorem eS:XX C 39 y8 w8 1 [ua,qa,qb,qc,qd,qe] κ=(sm1@(M4 [ua])<|bind (n9 sm1.1 (λd ρ=>some (ρ.set 4 (some d))) (w6 C) sm1.2 0 [ua,qa,qb,qc,qd,qe]) κ):=()
theorem M6:j7=[nth j7 0,nth j7 1]:=()
theorem U5:XX C 38 y8 j7 0 [qa,qb,qc,ua,ub,qd] κ=(x1@(C 11 [ua,ub])<|κ (.nx [qa,qb,qc,ua,ub,x1])):=()
theorem U8:XX C 38 y8 j7 1 [qa,ua,ub,qb,qc,uc] κ=(x1@(i5 .IsNot uc .non)<|z2@(asB x1)<|if z2 then (x3@(z0 true uc ua)<|z4@(asB x3)<|if z4 then (x@(D1 ua uc (.bl true))<|x@(lstOf ub)<|x5@(Y0 ub [uc])<|κ (.nx [qa,ua,ub,qb,qc,uc])) else (κ (.nx [qa,ua,ub,qb,qc,uc]))) else (κ (.nx [qa,ua,ub,qb,qc,uc]))):=()
theorem lP:runK Rs Γ C hB [ua]=(x1@(C 12 [ua])<|x2@(C 13 [ua])<|x3@(C 4 [ua])<|x4@(C 6 [ua])<|x5@(t6 x3)<|x6@(t6 x1)<|x7@(i5 .NotEq x5 x6)<|z8@(asB x7)<|if z8 then (ret (.bl false)) else (x9@(t6 x4)<|l14@(nx (sm11@(j9 x1)<|j6 sm11.1 (λd10=>x12@(z0 false d10 x2)<|z13@(asB x12)<|ret z13) (λd10=>ret d10) sm11.2 0 []))<|x15@(t6 (.lst l14))<|x16@(i5 .NotEq x9 x15)<|z17@(asB x16)<|if z17 then (ret (.bl false)) else (x@(lstOf x3)<|x18@(Y0 x3 [.non])<|x19@(M2 x4)<|x20@(C 4 [ua])<|x21@(t6 x20)<|x22@(t6 x1)<|x23@(i5 .Eq x21 x22)<|c24@(t9 x23)<|if c24 then (x25@(C 6 [ua])<|x26@(u8 x25)<|x27@(u8 x2)<|x28@(i5 .Eq x26 x27)<|ret x28) else (ret x23)))):=()
theorem kQ:runK Rs Γ C jW [ua]=(x1@(C 8 [ua])<|x2@(C 14 [(.int 1)])<|z3@(t9 x2)<|if (!z3)=true then (ret (.bl false)) else (x4@(C 14 [(.int 2)])<|z5@(t9 x4)<|if (!z5)=true then (ret (.bl false)) else (x6@(C 9 [x1,(.int 32)])<|x7@(i5 .Gt x6 (.int 0))<|c8@(t9 x7)<|if c8 then (ret x7) else (x9@(C 14 [(.int 3)])<|ret x9)))):=()
end
inductive Wo where
 | out | ask | close | look | holds | right | down
 deriving DecidableEq
def Wo.s:Wo->Str
 | .out=>"out"
 | .ask=>"ask"
 | .close=>"close"
 | .look=>"look"
 | .holds=>"holds"
 | .right=>"right"
 | .down=>"down"
def Wo.d (w:Wo):D:=.str w.s
def wos:List Wo:=[.out,.ask,.close,.look,.holds,.right,.down]
theorem Wo.inj {a b:Wo} (h:a.s=b.s):a=b:=by revert h;cases a <;> cases b <;> decide
structure Dst where
 ma:Option Nat
 cl:Bool
 ws:List Wo
 deriving DecidableEq
def oD:Option Nat->D
 | none=>.non
 | some g=>.int (g:Int)
def Dst.d (s:Dst):D:=.tup [oD s.ma,.bl s.cl,.tup (s.ws.map Wo.d)]
def step (s:Dst) (i:Nat):Option Dst:=match s.ws[i]? with
 | some .out=>some ⟨some i,s.cl,s.ws.set i .ask⟩
 | some .ask=>some ⟨s.ma,s.cl,s.ws.set i (if s.cl=true then .right else .close)⟩
 | some .close=>some ⟨s.ma,true,s.ws.set i .look⟩
 | some .look=>some ⟨s.ma,s.cl,s.ws.set i (if s.ma=some i then .holds else .down)⟩
 | _=>none
structure DI (n:Nat) (s:Dst):Prop where
 l:s.ws.length=n
 m:∀ g,s.ma=some g->g<n
theorem DI.step {n i:Nat} {s t:Dst} (h:DI n s) (hi:i<n) (e:step s i=some t):DI n t:=by
 unfold K04.step at e;split at e
 ·cases e;exact ⟨by simp [h.l],λg hg=>by cases hg;exact hi⟩
 ·cases e;exact ⟨by simp [h.l],h.m⟩
 ·cases e;exact ⟨by simp [h.l],h.m⟩
 ·cases e;exact ⟨by simp [h.l],h.m⟩
 ·cases e
def f7:Nat->List (List Wo)
 | 0=>[[]]
 | n+1=>(f7 n).flatMap λr=>wos.map λw=>r++[w]
def j0 (n:Nat):List (Option Nat):=none :: (List.range n).map some
def all (n:Nat):List Dst:=(j0 n).flatMap λm=>[false,true].flatMap λc=>(f7 n).map λws=>⟨m,c,ws⟩
theorem N5:∀ n,(f7 n).length=7 ^ n
 | 0=>rfl
 | n+1=>by
  rw [f7,BA];simp only [An];rw [List.map_const',List.sum_replicate_nat,N5 n];show 7 ^ n * 7=_;rw [Nat.pow_succ]
theorem v8:∀ n (r:List Wo),r∈f7 n↔r.length=n
 | 0,r=>by simp [f7]
 | n+1,r=>by
  rw [f7,CI];constructor
  ·rintro ⟨a,ha,hr⟩;obtain ⟨w,_,rfl⟩:=AU.mp hr;have:=(v8 n a).mp ha;simp [this]
  ·intro h;rcases List.eq_nil_or_concat r with rfl | ⟨a,w,rfl⟩
   ·simp at h
   ·refine ⟨a,(v8 n a).mpr (by simpa using h),AU.mpr ⟨w,by cases w <;> decide,by simp⟩⟩
theorem eF:∀ n,(f7 n).Nodup
 | 0=>by decide
 | n+1=>by
  rw [f7,List.Nodup,CB];refine ⟨λa _=>?_,(eF n).imp λ{a b} hab x hx y hy e=>?_⟩
  ·rw [Dg];exact (show wos.Nodup by decide).imp λ{u v} h e=>h (by simpa using e)
  ·obtain ⟨u,_,rfl⟩:=AU.mp hx;obtain ⟨v,_,rfl⟩:=AU.mp hy;exact hab (List.append_inj' e rfl).1
theorem hV (n:Nat):(j0 n).Nodup:=by
 unfold j0;rw [Bd];refine ⟨by simp,?_⟩;rw [List.Nodup,Dg];exact List.nodup_range.imp λ{a b} h e=>h (by simpa using e)
theorem hU (n:Nat):(all n).Nodup:=by
 rw [all,List.Nodup,CB];refine ⟨λm _=>?_,(hV n).imp λ{a b} hab x hx y hy e=>?_⟩
 ·rw [CB];refine ⟨λc _=>?_,?_⟩
  ·rw [Dg];exact (eF n).imp λ{u v} h e=>h (by simpa using e)
  ·refine (show [false,true].Nodup by decide).imp λ{a b} hab x hx y hy e=>?_;obtain ⟨u,_,rfl⟩:=AU.mp hx;obtain ⟨v,_,rfl⟩:=AU.mp hy;exact hab (by simpa using congrArg Dst.cl e)
 ·obtain ⟨c,_,hx⟩:=CI.mp hx;obtain ⟨c2,_,hy⟩:=CI.mp hy;obtain ⟨u,_,rfl⟩:=AU.mp hx;obtain ⟨v,_,rfl⟩:=AU.mp hy;exact hab (by simpa using congrArg Dst.ma e)
theorem all_mem {n:Nat} {s:Dst}:s∈all n↔DI n s:=by
 unfold all;simp only [CI,AU];constructor
 ·rintro ⟨m,hm,c,_,r,hr,rfl⟩;refine ⟨(v8 n r).mp hr,λg hg=>?_⟩;have hg:m=some g:=hg;subst hg;simpa [j0] using hm
 ·rintro ⟨h1,h2⟩;refine ⟨s.ma,?_,s.cl,by cases s.cl <;> decide,s.ws,(v8 n _).mpr h1,rfl⟩;unfold j0;cases e:s.ma with
  | none=>exact Aq
  | some g=>exact Ar _ (AU.mpr ⟨g,BR.mpr (h2 g e),rfl⟩)
theorem K2 (f:α->Nat) (k:Nat):∀ l:List α,(∀ a∈l,f a=k)->(l.map f).sum=l.length * k
 | [],_=>by simp
 | a :: l,h=>by
  rw [AE,List.sum_cons,K2 f k l λb hb=>h b (Ar _ hb),h a Aq,Bg,Nat.succ_mul];omega
theorem kr (n:Nat):(all n).length=(n+1) * (2 * 7 ^ n):=by
 unfold all;rw [BA,K2 _ (2 * 7 ^ n)]
 ·simp [j0]
 ·intro m _;rw [BA,K2 _ (7 ^ n)]
  ·simp
  ·intro c _;rw [An,N5]
theorem L1 {n:Nat} (h:n<=3):(all n).length<=2744:=by
 rw [kr];have:n=0\/n=1\/n=2\/n=3:=by omega
 rcases this with rfl | rfl | rfl | rfl <;> decide
theorem O6 {α:Type} [DecidableEq α]:∀ (f a:List α),f.Nodup->a.Nodup->(∀ x∈f,x∈a)->(a.filter λx=>decide (x∈f)).length=f.length
 | [],a,_,_,_=>by simp
 | y :: f,a,hf,ha,hs=>by
  obtain ⟨ny,hf'⟩:=Bd.mp hf;have ih:=O6 f a hf' ha λx hx=>hs x (Ar _ hx);have one:∀ l:List α,l.Nodup->(l.filter λx=>decide (x∈y :: f)).length=(l.filter λx=>decide (x∈f)).length+(if y∈l then 1 else 0):=by
   intro l;induction l with
   | nil=>intro _;simp
   | cons z l ih=>
    intro hl;obtain ⟨nz,hl'⟩:=Bd.mp hl;have ih:=ih hl';rw [Ds,Ds];by_cases hz:z=y
    ·subst hz;rw [if_neg nz] at ih;simp only [Aq,DB,DG,Bg,AG,if_neg ny];rw [ih]
    ·have:(z∈y :: f)↔z∈f:=by simp [hz]
     have m:(y∈z :: l)↔y∈l:=by simp [Ne.symm hz]
     simp only [this,m];by_cases hq:z∈f
     ·simp only [hq,DB,DG,Bg,ih];omega
     ·simp only [hq,decide_false];exact ih
  rw [one a ha,ih,if_pos (hs y Aq),Bg]
theorem kK {α:Type} [DecidableEq α] {f a:List α} (hf:f.Nodup) (ha:a.Nodup) (hs:∀ x∈f,x∈a):f.length<=a.length:=by
 rw [<- O6 f a hf ha hs];exact Bs ..
theorem C5 {α:Type} {l:List α} {h:α->D} {g:α->List D} {b:D->List D->M (List D)} {src:Src} {S:Sto} (hs:∀ i,src i S=some (l.map h)[i]?) (N:Nat)
  (hb:∀ a∈l,∀ es:List D,es.length+(g a).length<=N->b (h a) es S=.ok (es++g a) S):∀ (m i:Nat) (es:List D),i+m=l.length->es.length+((l.drop i).flatMap g).length<=N->lvM src (λ_=>ret true) b (m+1) i es S=.ok (es++(l.drop i).flatMap g) S
 | 0,i,es,e,_=>by
  have:src i S=some none:=by rw [hs,AT (by rw [An];omega)]
  rw [List.drop_eq_nil_of_le (by omega),BZ,AI];show (match src i S with
   | none=>_
   | some none=>_
   | some (some d)=>_)=_
  rw [this]
 | m+1,i,es,e,hl=>by
  have hi:i<l.length:=by omega
  have e1:src i S=some (some (h l[i])):=by rw [hs,AM,AB hi];rfl
  rw [List.drop_eq_getElem_cons hi,Bx] at hl ⊢;rw [AV] at hl;have e2:=hb l[i] (Bh hi) es (by omega);have e3:=C5 hs N hb m (i+1) (es++g l[i]) (by omega) (by rw [AV];omega);show (match src i S with
   | none=>_
   | some none=>_
   | some (some d)=>_)=_
  rw [e1];show bind (b (h l[i]) es) _ S=_;rw [a8 e2,e3,Bv]
theorem G8 {α:Type} (l:List α) (h:α->D) (S:Sto):j9 (.lst (l.map h)) S=.ok (F3 (l.map h),l.length+1) S:=by
 show R.ok (F3 _,_+1) S=_;rw [An]
theorem G0 {α:Type} {l:List α} {h:α->D} (S:Sto) (i:Nat):F3 (l.map h) i S=some (l.map h)[i]?:=rfl
abbrev rD (r:List Wo):D:=.tup (r.map Wo.d)
theorem mn {x:D} {es:List D} {f:M D} {S:Sto} (e:f S=.ok x S) (hl:es.length+1<=5000):bind f (λy=>if es.length<sizeLine then ret (es++[y]) else bad) S=.ok (es++[x]) S:=by
 rw [a8 e,if_pos (by rw [AD];omega)];rfl
theorem Y9 {α β:Type} (f:α->β) (l:List α):l.flatMap (λa=>[f a])=l.map f:=by
 induction l with
 | nil=>rfl
 | cons a l ih=>rw [Bx,ih];rfl
theorem Z0 {n:Nat} (h:n<=3):(f7 n).length<=343:=by
 rw [N5];have:n=0\/n=1\/n=2\/n=3:=by omega
 rcases this with rfl | rfl | rfl | rfl <;> decide
theorem hQ {n:Nat} (h3:n<=3) (k:Nat) (S:Sto):rn (k+1) sd [.int (n:Int)] S=.ok (.lst ((f7 n).map rD)) S:=by
 refine aU ?_;rw [rn,h8 (fd:=Ae) rfl,oY,nG];refine Ok.first<|Ok.cg (uN ..)<|Ok.nxt<|Ok.cg (vN ..)<|Ok.eq (bv (n:=n) (by omega) _)<|Ok.bind ((Ok.loop (n:=n) (λi ρ S'=>S'=S/\∃ o,ρ=[some (.int (n:Int)),some (.lst ((f7 i).map rD)),o]) (λρ S' _=>aF n S') ?_ ⟨rfl,_,rfl⟩).mono ?_)
 ·rintro i ρ S' hi ⟨rfl,o,rfl⟩;refine ⟨.int (i:Int),_,bb hi S',rfl,?_⟩;unfold eH;rw [cZ];have rl:=Z0 (n:=i+1) (by omega);refine Ok.first<|Ok.cg (gV ..)<|nx_bind<|Ok.eq (G8 (f7 i) rD S')<|Ok.of (C5 (l:=f7 i) (h:=rD) (g:=λr=>wos.map λw=>rD (r++[w])) (G0 S') 5000 ?_ _ 0 [] (by omega) ?_)<|Ok.ret ⟨_,.inl rfl,rfl,some (.int (i:Int)),?_⟩
  ·intro r hr es hl;have lr:=(v8 i r).mp hr;rw [An] at hl;have:=C5 (l:=wos) (h:=Wo.d) (g:=λw=>[rD (r++[w])]) (b:=λd6=>λl7=>bind (bind (i8 (rD r) (.tup [d6])) λx9=>ret x9) λx8=>if l7.length<sizeLine then ret (l7++[x8]) else bad) (G0 S') 5000 (λw _ es hl=>mn (by
    rw [a8 (cat_tup (S:=S') (by simp [AD,lr];omega))];show R.ok _ S'=_;rw [rD,BJ];rfl) hl) 7 0 es rfl (by rw [Bk,Y9,An];exact hl)
   rw [Bk,Y9] at this;exact this
  ·rw [Bk];have:((f7 i).flatMap λr=>wos.map λw=>rD (r++[w])).length=(f7 (i+1)).length:=by
    rw [f7,BA,BA];simp only [An]
   rw [this];simp;omega
  ·rw [Bk,CN,f7,BC];simp only [BY];rfl
 ·rintro _ S' ⟨ρ,rfl,rfl,o,rfl⟩;exact Ok.nxt<|Ok.cg (uA ..)<|Ok.ret ⟨rfl,rfl⟩
theorem rJ {n:Nat} (h3:n<=3) (S:Sto):lvM (F3 ((j0 n).map oD)) (λ_=>ret true) (λd5=>λl6=>bind (bind (j9 (.tup [(.bl false),(.bl true)])) λsm8=>ret sm8) λsm7=>lvM sm7.1 (λd9=>ret true) (λd9=>λl10=>bind (bind (j9 (.lst ((f7 n).map rD))) λsm12=>ret sm12) λsm11=>lvM sm11.1 (λd13=>ret true) (λd13=>λl14=>bind (ret (.tup [d5,d9,d13])) λx15=>if l14.length<sizeLine then ret (l14++[x15]) else bad) sm11.2 0 l10) sm7.2 0 l6) ((j0 n).length+1) 0 [] S=.ok ((all n).map Dst.d) S:=by
 have al:=L1 h3;have e:(all n).map Dst.d=(j0 n).flatMap λm=>[false,true].flatMap λc=>(f7 n).map λws=>(Dst.mk m c ws).d:=by
  unfold all;rw [BC];congr 1;funext m;rw [BC];congr 1;funext c;rw [BY];rfl
 have:=C5 (l:=j0 n) (h:=oD) (g:=λm=>[false,true].flatMap λc=>(f7 n).map λws=>(Dst.mk m c ws).d) (b:=λd5=>λl6=>bind (bind (j9 (.tup [(.bl false),(.bl true)])) λsm8=>ret sm8) λsm7=>lvM sm7.1 (λd9=>ret true) (λd9=>λl10=>bind (bind (j9 (.lst ((f7 n).map rD))) λsm12=>ret sm12) λsm11=>lvM sm11.1 (λd13=>ret true) (λd13=>λl14=>bind (ret (.tup [d5,d9,d13])) λx15=>if l14.length<sizeLine then ret (l14++[x15]) else bad) sm11.2 0 l10) sm7.2 0 l6) (G0 S) 5000 (λm _ es hl=>?_) (j0 n).length 0 [] (by omega) (by rw [Bk,<- e,An];simp;omega)
 ·rw [Bk,CN,<- e] at this;exact this
 ·have:=C5 (l:=[false,true]) (h:=D.bl) (g:=λc=>(f7 n).map λws=>(Dst.mk m c ws).d) (b:=λd9=>λl10=>bind (bind (j9 (.lst ((f7 n).map rD))) λsm12=>ret sm12) λsm11=>lvM sm11.1 (λd13=>ret true) (λd13=>λl14=>bind (ret (.tup [oD m,d9,d13])) λx15=>if l14.length<sizeLine then ret (l14++[x15]) else bad) sm11.2 0 l10) (G0 S) 5000 (λc _ es hl=>?_) 2 0 es rfl hl
  ·exact this
  ·rw [a8 (show bind (j9 (.lst ((f7 n).map rD))) (λsm12=>ret sm12) S=.ok (F3 ((f7 n).map rD),(f7 n).length+1) S by rw [a8 (G8 (f7 n) rD S)];rfl)];have:=C5 (l:=f7 n) (h:=rD) (g:=λws=>[(Dst.mk m c ws).d]) (b:=λd13=>λl14=>bind (ret (.tup [oD m,.bl c,d13])) λx15=>if l14.length<sizeLine then ret (l14++[x15]) else bad) (G0 S) 5000 (λws _ es hl=>mn rfl hl) (f7 n).length 0 es (by omega) (by rw [Bk,Y9];exact hl);rw [Bk,Y9] at this;exact this
theorem fg {xs ys:List D} {S:Sto} (h:xs.length+ys.length<=sizeLine):i8 (.lst xs) (.lst ys) S=.ok (.lst (xs++ys)) S:=by
 show (if xs.length+ys.length<=sizeLine then ret (.lst (xs++ys)) else bad:M D) S=_;rw [if_pos h];rfl
theorem Z3 {ds:List D} {S:Sto} (h:ds.length<=5000):newL ds S=.ok (.ref S.length) (S++[.lst ds]):=by
 unfold newL;rw [if_pos (by rw [AD];omega)]
theorem cW {n:Nat} (h3:n<=3) (k:Nat) (S:Sto):rn (k+2) sF [.int (n:Int)] S=.ok (.ref S.length) (S++[.lst ((all n).map Dst.d)]):=by
 have al:=L1 h3;rw [rn,h8 (fd:=qK) rfl,pd];have e1:B6 (.int (n:Int)) S=.ok (.lst ((List.range n).map λ(k:Nat)=>.int (k:Int))) S:=by
  have:n=0\/n=1\/n=2\/n=3:=by omega
  rcases this with rfl | rfl | rfl | rfl <;> rfl
 have e2:i8 (.lst [.non]) (.lst ((List.range n).map λ(k:Nat)=>.int (k:Int))) S=.ok (.lst ((j0 n).map oD)) S:=by
  rw [fg (by simp [AD];omega)];unfold j0;rw [AE,BY];rfl
 have:Ok (bind (B6 (.int (n:Int))) λx1=>bind (i8 (.lst [.non]) x1) λx2=>bind (rn (k+1) 5 [.int (n:Int)]) λx3=>bind (nx (bind (j9 x2) λsm4=>lvM sm4.1 (λd5=>ret true) (λd5=>λl6=>bind (bind (j9 (.tup [(.bl false),(.bl true)])) λsm8=>ret sm8) λsm7=>lvM sm7.1 (λd9=>ret true) (λd9=>λl10=>bind (bind (j9 x3) λsm12=>ret sm12) λsm11=>lvM sm11.1 (λd13=>ret true) (λd13=>λl14=>bind (ret (.tup [d5,d9,d13])) λx15=>if l14.length<sizeLine then ret (l14++[x15]) else bad) sm11.2 0 l10) sm7.2 0 l6) sm4.2 0 [])) λl16=>bind (newL l16) λx17=>ret x17) S λd S'=>d=.ref S.length/\S'=S++[.lst ((all n).map Dst.d)]:=
  Ok.eq e1<|Ok.eq e2<|Ok.eq (hQ h3 k S)<|nx_bind<|Ok.eq (G8 (j0 n) oD S)<|Ok.of (rJ h3 S)<|Ok.eq (Z3 (by rw [An];omega))<|Ok.ret ⟨rfl,rfl⟩
 obtain ⟨d,S',e,rfl,rfl⟩:=this;exact e
theorem rq (k:Nat) (S:Sto):rn (k+1) sK [] S=.ok (.lst (wos.map Wo.d)) S:=by
 rw [rn,h8 (fd:=nL) rfl,pK];rfl
theorem bj {α:Type} {l:List α} {i:Nat} (h:i<l.length):l.take (i+1)=l.take i++[l[i]]:=by
 rw [List.take_add_one,AB h];rfl
theorem Z8 {α β:Type} (l:List α) (f:α->List β) (i:Nat):((l.take i).flatMap f).length<=(l.flatMap f).length:=by
 conv=>rhs;rw [<- List.take_append_drop i l,Cg,AV]
 omega
abbrev bX (r:List Wo):List D:=wos.map λw=>rD (r++[w])
theorem O4 (i:Nat):(f7 i).flatMap bX=(f7 (i+1)).map rD:=by
 rw [f7,BC];simp only [BY];rfl
abbrev R8 (n:Nat) (m:Option Nat) (c:Bool):List D:=(f7 n).map λws=>(Dst.mk m c ws).d
theorem ae (n:Nat):(j0 n).flatMap (λm=>[false,true].flatMap (R8 n m))=(all n).map Dst.d:=by
 unfold all;rw [BC];congr 1;funext m;rw [BC];congr 1;funext c;rw [BY];rfl
theorem jx {n:Nat} (h1:1<=n) (h3:n<=3) (k:Nat) (S:Sto):rn (k+2) kX [.int (n:Int)] S=.ok (.lst ((all n).map Dst.d)) S:=by
 have al:=L1 h3;refine aU ?_;rw [rn,h8 (fd:=allL_F) rfl,jG,gZ];refine Ok.first<|Ok.cg (qM ..)<|Ok.nxt<|Ok.cg (nc ..)<|Ok.eq (bv (n:=n) (by omega) _)<|Ok.bind ((Ok.loop (n:=n) (λi ρ S'=>S'=S/\∃ o2 o3 o4,ρ=[some (.int (n:Int)),some (.lst ((f7 i).map rD)),o2,o3,o4,none,none,none]) (λρ S' _=>aF n S') ?_ ⟨rfl,_,_,_,rfl⟩).mono ?_)
 ·rintro i ρ S' hi ⟨rfl,o2,o3,o4,rfl⟩;refine ⟨.int (i:Int),_,bb hi S',rfl,?_⟩;unfold V3;rw [aJ];have rl:=Z0 (n:=i+1) (by omega);refine Ok.first<|Ok.cg (bp ..)<|Ok.nxt<|Ok.cg (ce ..)<|Ok.eq (G8 (f7 i) rD S')<|Ok.bind ((Ok.loop (n:=(f7 i).length) (λj ρ S2=>S2=S'/\∃ o4,ρ=[some (.int (n:Int)),some (.lst ((f7 i).map rD)),some (.int (i:Int)),some (.lst (((f7 i).take j).flatMap bX)),o4,none,none,none]) (λρ S2 _=>by show some _=_;rw [AT (by simp)]) ?_ ⟨rfl,_,rfl⟩).mono ?_)
  ·rintro j ρ S2 hj ⟨rfl,o4,rfl⟩;refine ⟨rD (f7 i)[j],_,by show some _=_;rw [AM,AB hj];rfl,rfl,?_⟩;have lr:=(v8 i _).mp (Bh hj);generalize hr:(f7 i)[j]=r at lr ⊢;unfold D2;rw [J7];have tl:=Z8 (f7 i) bX j;rw [O4,An] at tl;refine Ok.first<|Ok.cg (P7 ..)<|nx_bind<|Ok.eq (rq k S2)<|Ok.eq (G8 wos Wo.d S2)<|Ok.of (y0 (l:=wos) (h:=Wo.d) (g:=λw=>rD (r++[w])) (p:=λ_=>true) (t:=λ_=>ret true) (by rw [AD];decide) (λ_ _=>rfl) λw _ _=>?_)<|Ok.eq (fg (by rw [AD,Ch.mpr λ_ _=>rfl,An];show _+7<=_;omega))<|Ok.ret ⟨_,.inl rfl,rfl,some (rD r),?_⟩
   ·rw [a8 (cat_tup (S:=S2) (by simp [AD,lr];omega))];show R.ok _ S2=_;rw [rD,BJ];rfl
   ·rw [bj hj,Cg,hr,Ch.mpr λ_ _=>rfl,Bx,BZ,AI]
  ·rintro _ S2 ⟨ρ,rfl,rfl,o4,rfl⟩;rw [CH,O4];exact Ok.nxt<|Ok.cg (cn ..)<|Ok.ret ⟨_,.inl rfl,rfl,_,_,_,rfl⟩
 ·rintro _ S' ⟨ρ,rfl,rfl,o2,o3,o4,rfl⟩;have e1:(bind (i8 (.int 1) (.int (n:Int))) λx1=>bind (y9 x1) λn2=>slD (.lst [.non,(.int 0),(.int 1),(.int 2)]) none n2) S'=.ok (.lst ((j0 n).map oD)) S':=by
   have:n=1\/n=2\/n=3:=by omega
   rcases this with rfl | rfl | rfl <;> rfl
  refine Ok.nxt<|Ok.cg (pj ..)<|Ok.nxt<|Ok.cg (oi ..) ?_;have sl:∀ {α:Type} {K:D->M α} {Q:α->Sto->Prop},Ok (K (.lst ((j0 n).map oD))) S' Q->Ok (bind (i8 (.int 1) (.int (n:Int))) λx1=>bind (y9 x1) λn2=>bind (slD (.lst [.non,(.int 0),(.int 1),(.int 2)]) none n2) K) S' Q:=λ{α K Q} h=>by
   have:(bind (i8 (.int 1) (.int (n:Int))) λx1=>bind (y9 x1) λn2=>bind (slD (.lst [.non,(.int 0),(.int 1),(.int 2)]) none n2) K)=bind (bind (i8 (.int 1) (.int (n:Int))) λx1=>bind (y9 x1) λn2=>slD (.lst [.non,(.int 0),(.int 1),(.int 2)]) none n2) K:=by
    rw [R5];congr 1;funext x;rw [R5]
   rw [this];exact Ok.eq e1 h
  refine sl<|Ok.eq (G8 (j0 n) oD S')<|Ok.bind ((Ok.loop (n:=(j0 n).length) (λi ρ S2=>S2=S'/\∃ o6 o7,ρ=[some (.int (n:Int)),some (.lst ((f7 n).map rD)),o2,o3,o4,some (.lst (((j0 n).take i).flatMap λm=>[false,true].flatMap (R8 n m))),o6,o7]) (λρ S2 _=>by show some _=_;rw [AT (by simp)]) ?_ ⟨rfl,_,_,rfl⟩).mono ?_)
  ·rintro i ρ S2 hi ⟨rfl,o6,o7,rfl⟩;refine ⟨oD (j0 n)[i],_,by show some _=_;rw [AM,AB hi];rfl,rfl,?_⟩;generalize hm:(j0 n)[i]=m;unfold W0;rw [X8];refine Ok.first<|Ok.cg (cb ..)<|Ok.eq (lS _ S2)<|Ok.bind ((Ok.loop (n:=2) (λj ρ S3=>S3=S2/\∃ o7,ρ=[some (.int (n:Int)),some (.lst ((f7 n).map rD)),o2,o3,o4,some (.lst ((((j0 n).take i).flatMap λm=>[false,true].flatMap (R8 n m))++([false,true].take j).flatMap (R8 n m))),some (oD m),o7]) (λρ S3 _=>rfl) ?_ ⟨rfl,_,by rw [List.take_zero,BZ,AI]⟩).mono ?_)
   ·rintro j ρ S3 hj ⟨rfl,o7,rfl⟩;have hj':j<[false,true].length:=hj;refine ⟨.bl [false,true][j],_,by
     have:j=0\/j=1:=by omega
     rcases this with rfl | rfl <;> rfl,rfl,?_⟩
    generalize hc:[false,true][j]=c;unfold D3;rw [J8];have t1:=Z8 (j0 n) (λm=>[false,true].flatMap (R8 n m)) i;rw [ae,An] at t1;have t2:=Z8 [false,true] (R8 n m) j;have t3:([false,true].flatMap (R8 n m)).length=(f7 n).length+(f7 n).length:=by simp [Bx]
    have rl:=Z0 h3;refine Ok.first<|Ok.cg (O3 ..)<|nx_bind<|Ok.eq (G8 (f7 n) rD S3)<|Ok.of (y0 (l:=f7 n) (h:=rD) (g:=λws=>(Dst.mk m c ws).d) (p:=λ_=>true) (t:=λ_=>ret true) (by rw [AD];omega) (λ_ _=>rfl) λw _ _=>rfl)<|Ok.eq (fg (by rw [AD,Ch.mpr λ_ _=>rfl,An,AV];omega))<|Ok.ret ⟨_,.inl rfl,rfl,some (.bl c),?_⟩;rw [bj hj',Cg,hc,Ch.mpr λ_ _=>rfl,Bx,BZ,AI,Bv]
   ·rintro _ S3 ⟨ρ,rfl,rfl,o7,rfl⟩;refine Ok.ret ⟨_,.inl rfl,rfl,some (oD m),o7,?_⟩;rw [bj hi,Cg,hm,Bx,BZ,AI];rfl
  ·rintro _ S2 ⟨ρ,rfl,rfl,o6,o7,rfl⟩;rw [CH,ae];exact Ok.nxt<|Ok.cg (oU ..)<|Ok.ret ⟨rfl,rfl⟩
def bh (mk:Option Nat) (cl:Bool) (i:Nat):Wo->Option (Option Nat×Bool×Str)
 | .out=>some (some i,cl,"ask")
 | .ask=>some (mk,cl,if cl=true then "right" else "close")
 | .close=>some (mk,true,"look")
 | .look=>some (mk,cl,if mk=some i then "holds" else "down")
 | .holds=>none
 | .right=>none
 | .down=>none
def bhD (mk:Option Nat) (cl:Bool) (i:Nat) (w:Wo) (ws:List D):D:=match bh mk cl i w with
 | none=>.non
 | some (m,c,x)=>.tup [oD m,.bl c,.tup (ws.set i (.str x))]
theorem mW {mk:Option Nat} {cl:Bool} {i:Nat} (h:mk=some i):bh mk cl i .look=some (mk,cl,("holds" : Str)):=by
 show some (mk,cl,if mk=some i then ("holds" : Str) else "down")=_;rw [if_pos h]
theorem gG {mk:Option Nat} {cl:Bool} {i:Nat} (h:mk≠some i):bh mk cl i .look=some (mk,cl,("down" : Str)):=by
 show some (mk,cl,if mk=some i then ("holds" : Str) else "down")=_;rw [if_neg h]
theorem nB {S:Sto} {o:O} {kvs:List (Key×D)} (h:o=.dct kvs) (w:Str):getDD (.ref S.length) [.str w] (S++[o])=.ok ((M9 kvs (.inr w)).getD .non) (S++[o]):=by
 subst h;have ef:(S++[O.dct kvs])[S.length]?=some (.dct kvs):=by simp
 simp only [getDD,ef];rfl
theorem fO {mk:Option Nat} {cl:Bool} {i:Nat} {w:Wo} {ws:List D} (hw:ws[i]?=some w.d) (hl:ws.length<=6) (k:Nat) (S:Sto):Ok (rn (k+1) nA [.tup [oD mk,.bl cl,.tup ws],.int (i:Int)]) S λd S'=>d=bhD mk cl i w ws/\Ex S S':=by
 have hi:i<ws.length:=(Ai.mp hw).1;rw [rn,h8 (fd:=Aa) rfl,pF,pE];refine Ok.first<|Ok.cg (vJ ..)<|Ok.eq (a:=.nx [some (.tup [oD mk,.bl cl,.tup ws]),some (.int (i:Int)),some (oD mk),some (.bl cl),some (.tup ws),none,none]) rfl<|Ok.nxt<|Ok.cg (vK ..)<|Ok.eq (tJ S hw)<|Ok.nxt<|Ok.cg (uE ..)<|Ok.eq (a:=cl) rfl ?_;have last:∀ (x:Str) (S':Sto) (o1:Option D),Ex S S'->(∃ m c,bh mk cl i w=some (m,c,x))->Ok (nxt (evK Rs Γ (rn k) 40) R9 [nth Aa.body 4,nth Aa.body 5,nth Aa.body 6] endD (.nx [o1,some (.int (i:Int)),some (oD mk),some (.bl cl),some (.tup ws),some w.d,some (.str x)])) S' λd S'=>d=bhD mk cl i w ws/\Ex S S':=by
  rintro x S' o1 hS ⟨m,c,hb⟩;refine Ok.nxt<|Ok.cg (lV ..)<|Ok.eq (a:=.bl false) rfl<|Ok.eq rfl<|Ok.neg (by decide)<|Ok.nxt<|Ok.cg (tj ..) ?_;have g:=bQ (x:=.str x) (S:=S') hi (by omega);have g2:∀ {α:Type} (κ:D->M α),(bind (y9 (.int (i:Int))) λn1=>bind (slD (.tup ws) none n1) λx2=>bind (i8 x2 (.tup [.str x])) λx3=>bind (i8 (.int (i:Int)) (.int 1)) λx4=>bind (y9 x4) λn5=>bind (slD (.tup ws) n5 none) λx6=>bind (i8 x3 x6) κ)=bind (bind (y9 (.int (i:Int))) λn1=>bind (slD (.tup ws) none n1) λx2=>bind (i8 x2 (.tup [.str x])) λx3=>bind (i8 (.int (i:Int)) (.int 1)) λx4=>bind (y9 x4) λn5=>bind (slD (.tup ws) n5 none) λx6=>bind (i8 x3 x6) λx7=>ret x7) κ:=λκ=>by
   simp only [bind_assoc,d7]
  refine Ok.cg (g2 _) (Ok.bind (g.mono ?_));rintro _ _ ⟨rfl,rfl⟩;refine Ok.nxt<|Ok.cg (uT ..) ?_;have fin:∀ (y z:D) (S':Sto),Ex S S'->y=oD m->z=.bl c->Ok (nxt (evK Rs Γ (rn k) 40) R9 [] endD (.rt (.tup [y,z,.tup (ws.set i (.str x))]))) S' λd S'=>d=bhD mk cl i w ws/\Ex S S':=by
   rintro y z S' hS rfl rfl;refine Ok.ret ⟨?_,hS⟩;unfold bhD;rw [hb]
  cases w with
  | out=>
   cases hb;refine Ok.eq rfl<|Ok.eq rfl<|Ok.pos rfl<|Ok.eq (a:=cl) rfl ?_;cases cl with
   | true=>exact Ok.pos rfl (fin _ _ _ hS rfl rfl)
   | false=>exact Ok.neg (by decide) (Ok.eq (a:=.bl false) rfl (fin _ _ _ hS rfl rfl))
  | ask=>
   cases hb;refine Ok.eq (a:=.bl false) rfl<|Ok.eq rfl<|Ok.neg (by decide)<|Ok.eq (a:=cl) rfl ?_;cases cl with
   | true=>exact Ok.pos rfl (fin _ _ _ hS rfl rfl)
   | false=>exact Ok.neg (by decide) (Ok.eq (a:=.bl false) rfl (fin _ _ _ hS rfl rfl))
  | close=>
   cases hb;refine Ok.eq (a:=.bl false) rfl<|Ok.eq rfl<|Ok.neg (by decide)<|Ok.eq (a:=cl) rfl ?_;cases cl with
   | true=>exact Ok.pos rfl (fin _ _ _ hS rfl rfl)
   | false=>exact Ok.neg (by decide) (Ok.eq (a:=.bl true) rfl (fin _ _ _ hS rfl rfl))
  | look=>
   cases hb;refine Ok.eq (a:=.bl false) rfl<|Ok.eq rfl<|Ok.neg (by decide)<|Ok.eq (a:=cl) rfl ?_;cases cl with
   | true=>exact Ok.pos rfl (fin _ _ _ hS rfl rfl)
   | false=>exact Ok.neg (by decide) (Ok.eq (a:=.bl false) rfl (fin _ _ _ hS rfl rfl))
  | holds=>cases hb
  | right=>cases hb
  | down=>cases hb
 have mid:∀ (o:O) (o1:Option D),Ok (nxt (evK Rs Γ (rn k) 40) R9 [nth Aa.body 3,nth Aa.body 4,nth Aa.body 5,nth Aa.body 6] endD (.nx [o1,some (.int (i:Int)),some (oD mk),some (.bl cl),some (.tup ws),some w.d,some (match w with
   | .out=>.str "ask"
   | .ask=>.str (if cl=true then "right" else "close")
   | .close=>.str "look"
   | .look=>.str "down"
   | _=>.non)])) (S++[o]) λd S'=>d=bhD mk cl i w ws/\Ex S S':=λo o1=>by
  have hS:Ex S (S++[o]):=⟨_,rfl⟩;refine Ok.nxt<|Ok.cg (vc ..) ?_;cases w with
  | out=>exact Ok.eq (a:=.bl false) rfl<|Ok.eq rfl<|Ok.neg (by decide)<|last _ _ _ hS ⟨_,_,rfl⟩
  | ask=>exact Ok.eq (a:=.bl false) rfl<|Ok.eq rfl<|Ok.neg (by decide)<|last _ _ _ hS ⟨_,_,rfl⟩
  | close=>exact Ok.eq (a:=.bl false) rfl<|Ok.eq rfl<|Ok.neg (by decide)<|last _ _ _ hS ⟨_,_,rfl⟩
  | look=>
   refine Ok.eq (a:=.bl true) rfl<|Ok.eq rfl<|Ok.pos rfl ?_;cases mk with
   | none=>exact Ok.eq (a:=.bl false) rfl<|Ok.eq rfl<|Ok.neg (by decide)<|last _ _ _ hS ⟨_,_,gG (by simp)⟩
   | some g=>
    refine Ok.eq (a:=.bl true) rfl<|Ok.eq rfl<|Ok.pos rfl<|Ok.eq (iV _ _ _)<|Ok.eq rfl ?_;by_cases q:g=i
    ·exact Ok.pos (AO (by omega))<|last _ _ _ hS ⟨_,_,mW (by rw [q])⟩
    ·exact Ok.neg (by rw [Be (by omega)];exact Am)<|last _ _ _ hS ⟨_,_,gG (by simpa using q)⟩
  | holds=>
   exact Ok.eq (a:=.bl false) rfl<|Ok.eq rfl<|Ok.neg (by decide)<|Ok.nxt<|Ok.cg (lV ..)<|Ok.eq (a:=.bl true) rfl<|Ok.eq rfl<|Ok.pos rfl<|Ok.ret ⟨rfl,hS⟩
  | right=>
   exact Ok.eq (a:=.bl false) rfl<|Ok.eq rfl<|Ok.neg (by decide)<|Ok.nxt<|Ok.cg (lV ..)<|Ok.eq (a:=.bl true) rfl<|Ok.eq rfl<|Ok.pos rfl<|Ok.ret ⟨rfl,hS⟩
  | down=>
   exact Ok.eq (a:=.bl false) rfl<|Ok.eq rfl<|Ok.neg (by decide)<|Ok.nxt<|Ok.cg (lV ..)<|Ok.eq (a:=.bl true) rfl<|Ok.eq rfl<|Ok.pos rfl<|Ok.ret ⟨rfl,hS⟩
 have gd:∀ (kvs:List (Key×D)),dctOf (.ref S.length) (S++[.dct kvs])=.ok Unit.unit (S++[.dct kvs]):=λkvs=>by
  have ef:(S++[O.dct kvs])[S.length]?=some (.dct kvs):=by simp
  simp only [dctOf,ef]
 cases cl with
 | true=>
  refine Ok.pos rfl<|Ok.eq (a:=.ref S.length) (S1:=S++[.dct [(.inr "out",.str "ask"),(.inr "ask",.str "right"),(.inr "close",.str "look"),(.inr "look",.str "down")]]) rfl<|Ok.eq (gd _)<|Ok.eq (nB rfl w.s) ?_;have:=mid (.dct [(.inr "out",.str "ask"),(.inr "ask",.str "right"),(.inr "close",.str "look"),(.inr "look",.str "down")]) (some (.tup [oD mk,.bl true,.tup ws]));cases w <;> exact this
 | false=>
  refine Ok.neg (by decide)<|Ok.eq (a:=.ref S.length) (S1:=S++[.dct [(.inr "out",.str "ask"),(.inr "ask",.str "close"),(.inr "close",.str "look"),(.inr "look",.str "down")]]) rfl<|Ok.eq (gd _)<|Ok.eq (nB rfl w.s) ?_;have:=mid (.dct [(.inr "out",.str "ask"),(.inr "ask",.str "close"),(.inr "close",.str "look"),(.inr "look",.str "down")]) (some (.tup [oD mk,.bl false,.tup ws]));cases w <;> exact this
theorem mK {ds:List D} {i:Nat} (x:D) (h:i<ds.length) (hl:ds.length<=1000) (k:Nat) (S:Sto):rn (k+1) tG [.tup ds,.int (i:Int),x] S=.ok (.tup (ds.set i x)) S:=by
 rw [rn,h8 (fd:=nQ) rfl,pU];exact aU (bQ h hl)
theorem oC {mk:Option Nat} {cl:Bool} {i:Nat} {w:Wo} {ws:List D} (hw:ws[i]?=some w.d) (hl:ws.length<=6) (hn:bh mk cl i w≠none) (k:Nat) (S:Sto):rn (k+2) mi [.tup [oD mk,.bl cl,.tup ws],.int (i:Int)] S=.ok (bhD mk cl i w ws) S:=by
 have hi:i<ws.length:=(Ai.mp hw).1;have wa:=λ(x:D)=>mK (ds:=ws) x hi (by omega) k S;refine aU ?_;rw [rn,h8 (fd:=Ab) rfl,oA,pZ];refine Ok.first<|Ok.cg (vU ..)<|Ok.eq (a:=.nx [some (.tup [oD mk,.bl cl,.tup ws]),some (.int (i:Int)),some (oD mk),some (.bl cl),some (.tup ws),none]) rfl<|Ok.nxt<|Ok.cg (uM ..)<|Ok.eq (tJ S hw)<|Ok.nxt<|Ok.cg (vA ..) ?_;cases w with
 | holds=>exact (hn rfl).elim
 | right=>exact (hn rfl).elim
 | down=>exact (hn rfl).elim
 | out=>exact Ok.eq (S1:=S) (a:=.bl false) (by kernel_rfl)<|Ok.eq rfl<|Ok.neg (by decide)<|Ok.nxt<|Ok.cg (mJ ..)<|Ok.eq (a:=.bl true) rfl<|Ok.eq rfl<|Ok.pos rfl<|Ok.eq (wa _)<|Ok.ret ⟨rfl,rfl⟩
 | ask=>
  refine Ok.eq (S1:=S) (a:=.bl false) (by kernel_rfl)<|Ok.eq rfl<|Ok.neg (by decide)<|Ok.nxt<|Ok.cg (mJ ..)<|Ok.eq (a:=.bl false) rfl<|Ok.eq rfl<|Ok.neg (by decide)<|Ok.nxt<|Ok.cg (nn ..)<|Ok.eq (a:=.bl true) rfl<|Ok.eq rfl<|Ok.pos rfl<|Ok.eq (a:=cl) rfl ?_;cases cl with
  | true=>exact Ok.pos rfl<|Ok.eq (wa _)<|Ok.ret ⟨rfl,rfl⟩
  | false=>exact Ok.neg (by decide)<|Ok.eq (wa _)<|Ok.ret ⟨rfl,rfl⟩
 | close=>exact Ok.eq (S1:=S) (a:=.bl false) (by kernel_rfl)<|Ok.eq rfl<|Ok.neg (by decide)<|Ok.nxt<|Ok.cg (mJ ..)<|Ok.eq (a:=.bl false) rfl<|Ok.eq rfl<|Ok.neg (by decide)<|Ok.nxt<|Ok.cg (nn ..)<|Ok.eq (a:=.bl false) rfl<|Ok.eq rfl<|Ok.neg (by decide)<|Ok.nxt<|Ok.cg (sP ..)<|Ok.eq (a:=.bl true) rfl<|Ok.eq rfl<|Ok.pos rfl<|Ok.eq (wa _)<|Ok.ret ⟨rfl,rfl⟩
 | look=>
  have em:i5 .Eq (oD mk) (.int (i:Int)) S=.ok (.bl (decide (mk=some i))) S:=by
   cases mk with
   | none=>exact (show i5 .Eq .non (.int (i:Int)) S=.ok (.bl false) S from rfl).trans (by simp)
   | some g=>
    refine (iV _ _ S).trans ?_;rw [show decide ((g:Int)=(i:Int))=decide (some g=some i) by simp;omega]
  refine Ok.eq (S1:=S) (a:=.bl false) (by kernel_rfl)<|Ok.eq rfl<|Ok.neg (by decide)<|Ok.nxt<|Ok.cg (mJ ..)<|Ok.eq (a:=.bl false) rfl<|Ok.eq rfl<|Ok.neg (by decide)<|Ok.nxt<|Ok.cg (nn ..)<|Ok.eq (a:=.bl false) rfl<|Ok.eq rfl<|Ok.neg (by decide)<|Ok.nxt<|Ok.cg (sP ..)<|Ok.eq (a:=.bl false) rfl<|Ok.eq rfl<|Ok.neg (by decide)<|Ok.nxt<|Ok.cg (vI ..)<|Ok.eq em<|Ok.eq (af _ _) ?_;by_cases q:mk=some i
  ·exact Ok.pos (AO q)<|Ok.eq (wa _)<|Ok.ret ⟨by unfold bhD;rw [mW q],rfl⟩
  ·exact Ok.neg (by rw [Be q];decide)<|Ok.eq (wa _)<|Ok.ret ⟨by unfold bhD;rw [gG q],rfl⟩
def Z5 (s:Dst) (i:Nat):D:=match step s i with
 | some t=>t.d
 | none=>.non
theorem A6 {α β:Type} (f:α->β):∀ (l:List α) (i:Nat) (x:α),(l.set i x).map f=(l.map f).set i (f x)
 | [],_,_=>rfl
 | a :: l,0,x=>rfl
 | a :: l,i+1,x=>by rw [List.set_cons_succ,AE,AE,List.set_cons_succ,A6 f l i x]
theorem jn {s:Dst} {i:Nat} {w:Wo} (hw:s.ws[i]?=some w):Z5 s i=bhD s.ma s.cl i w (s.ws.map Wo.d)/\((step s i).isSome=(bh s.ma s.cl i w).isSome):=by
 unfold Z5 step bhD;rw [hw];cases w with
 | out=>exact ⟨by simp only [Dst.d,A6];rfl,rfl⟩
 | ask=>exact ⟨by simp only [Dst.d,A6,bh];cases s.cl <;> rfl,rfl⟩
 | close=>exact ⟨by simp only [Dst.d,A6];rfl,rfl⟩
 | look=>exact ⟨by simp only [Dst.d,A6,bh];split <;> rfl,rfl⟩
 | holds=>exact ⟨rfl,rfl⟩
 | right=>exact ⟨rfl,rfl⟩
 | down=>exact ⟨rfl,rfl⟩
theorem ic {s:Dst} {i:Nat} {w:Wo} (hw:s.ws[i]?=some w):(s.ws.map Wo.d)[i]?=some w.d:=aM hw
theorem DI.w {n i:Nat} {s:Dst} (V:DI n s) (hi:i<n):∃ w,s.ws[i]?=some w:=⟨_,AB (by rw [V.l];exact hi)⟩
theorem gH {n i:Nat} {s:Dst} (V:DI n s) (hi:i<n) (h3:n<=3) (k:Nat) (S:Sto):Ok (rn (k+1) nA [s.d,.int (i:Int)]) S λd S'=>d=Z5 s i/\Ex S S':=by
 obtain ⟨w,hw⟩:=V.w hi;rw [(jn hw).1];exact fO (ic hw) (by rw [An,V.l];omega) k S
theorem jE {n i:Nat} {s t:Dst} (V:DI n s) (hi:i<n) (h3:n<=3) (e:step s i=some t) (k:Nat) (S:Sto):rn (k+2) mi [s.d,.int (i:Int)] S=.ok t.d S:=by
 obtain ⟨w,hw⟩:=V.w hi;obtain ⟨o1,o2⟩:=jn hw;have:Z5 s i=t.d:=by unfold Z5;rw [e]
 rw [<- this,o1];refine oC (ic hw) (by rw [An,V.l];omega) (λz=>?_) k S;rw [z,e] at o2;cases o2
theorem eZ {n:Nat} {s:Dst} (V:DI n s) (h3:n<=3) (k:Nat) (S:Sto):Ok (rn (k+1) qT [s.d]) S λd S'=>d=.lst (((List.range n).filter λj=>(step s j).isSome).map λ(j:Nat)=>.int (j:Int))/\S'=S:=by
 rw [rn,h8 (fd:=Af) rfl,oI];have ll:(s.ws.map Wo.d).length=n:=by rw [An,V.l]
 refine nx_bind<|Ok.eq (a:=.tup (s.ws.map Wo.d)) (S1:=S) rfl<|Ok.eq (a:=(U3 (s.ws.map Wo.d),n+1)) (S1:=S) (by show R.ok (U3 _,_+1) S=_;rw [ll])<|((Ok.comp (n:=n) (λi S' es=>S'=S/\es=((List.range i).filter λj=>(step s j).isSome).map λ(j:Nat)=>.int (j:Int)) (λS' es _=>by unfold U3;dsimp only;rw [AT (by omega)];exact if_pos ll.symm) ?_ ⟨rfl,rfl⟩).mono ?_)
 ·rintro i S' es hi ⟨rfl,rfl⟩;obtain ⟨w,hw⟩:=V.w hi;have wd:=ic hw;refine ⟨.tup [.int (i:Int),w.d],by unfold U3;dsimp only;rw [wd],?_⟩;have le:(((List.range i).filter λj=>(step s j).isSome).map λ(j:Nat)=>D.int (j:Int)).length<sizeLine:=by
   rw [An,AD];have:=Bs (λj=>(step s j).isSome) (List.range i);rw [List.length_range] at this;omega
  have e:=(jn hw).2;rw [cY];have ev:i5 .NotIn w.d (.tup [(.str "holds"),(.str "right"),(.str "down")]) S'=.ok (.bl (step s i).isSome) S':=by
   rw [e];cases w <;> kernel_rfl
  refine Ok.eq ev<|Ok.eq (af _ _)<|Ok.ret ?_;cases q:(step s i).isSome with
  | false=>
   rw [if_neg Am];exact ⟨rfl,by rw [Dz,BH];simp [q]⟩
  | true=>
   rw [if_pos rfl,cF];exact Ok.ret ⟨le,rfl,by rw [Dz,BH];simp [q]⟩
 ·rintro es S' ⟨rfl,rfl⟩;exact Ok.ret ⟨rfl,rfl⟩
mutual
theorem mU:∀ (d:D) {q:PyData},kP d=some q->q=py d
 | .non,_,e=>by cases e;rfl
 | .bl _,_,e=>by cases e;rfl
 | .int _,_,e=>by cases e;rfl
 | .str _,_,e=>by cases e;rfl
 | .tup ds,_,e=>by
  rw [kP] at e;obtain ⟨ps,e1,rfl⟩:=Ct.mp e;rw [iu ds e1];rfl
 | .lst _,_,e=>by cases e
 | .scr _,_,e=>by cases e
 | .ref _,_,e=>by cases e
theorem iu:∀ (ds:List D) {qs:List PyData},kPs ds=some qs->qs=pys ds
 | [],_,e=>by cases e;rfl
 | d :: ds,_,e=>by
  rw [kPs] at e;cases e1:kP d with
  | none=>rw [e1] at e;cases e
  | some p=>
   cases e2:kPs ds with
   | none=>rw [e1,e2] at e;cases e
   | some ps=>
    rw [e1,e2] at e;cases e;rw [mU d e1,iu ds e2];rfl
end
def Kb (S S':Sto):Prop:=S.length<=S'.length/\∀ i,i<S.length->S'[i]?=S[i]?
theorem Kb.refl (S:Sto):Kb S S:=⟨Ao _,λ_ _=>rfl⟩
theorem Kb.ex {S T U:Sto} (a:Kb S T) (b:Ex T U):Kb S U:=by
 obtain ⟨E,rfl⟩:=b;refine ⟨by have:=a.1;simp;omega,λi hi=>?_⟩;rw [Al (by have:=a.1;omega)];exact a.2 i hi
theorem Kb.set {S T:Sto} (a:Kb S T) {i:Nat} (h:S.length<=i) (o:O):Kb S (T.set i o):=
 ⟨by rw [Dx];exact a.1,λj hj=>by rw [AC (by omega)];exact a.2 j hj⟩
theorem sml {n:Nat} {s:Dst} (V:DI n s) (h3:n<=3):Sml 3 600 s.d:=by
 have a:Sml 1 190 (oD s.ma):=by
  cases e:s.ma with
  | none=>exact Sml.non
  | some g=>exact Sml.nat (by have:=V.m g e;omega)
 have b:Sml 1 190 (.tup (s.ws.map Wo.d)):=(Sml.tup (n:=0) (N:=60) (m:=3) (Smls.map λw _=>by cases w <;> exact Sml.w) (by rw [An,V.l];exact h3)).up;exact (Sml.tup (n:=1) (N:=190) (m:=3) (.cons a (.cons Sml.bl (.cons b .nil))) (Ao _)).mono (by decide) (by decide)
def pO:Option Nat->PyData
 | none=>.none
 | some g=>.int (g:Int)
def pW (ws:List Wo):List PyData:=ws.map λw=>.str w.s
def kq (s:Dst):PyData:=.tuple [pO s.ma,.bool s.cl,.tuple (pW s.ws)]
def kS (s:Dst):PyData:=HT.nrmHt (kq s)
theorem mf:∀ ws:List Wo,kPs (ws.map Wo.d)=some (pW ws)
 | []=>rfl
 | w :: ws=>by rw [AE,kPs,mf ws];rfl
theorem tY (s:Dst):kP s.d=some (kq s):=by
 unfold Dst.d kq;have a:kP (.tup (s.ws.map Wo.d))=some (.tuple (pW s.ws)):=by rw [kP,mf];rfl
 rw [kP,kPs,kPs,kPs,a];cases s.ma <;> rfl
theorem T1 {n:Nat} {s:Dst} (V:DI n s) (h3:n<=3):k7 s.d=some (kS s):=by
 have h:=sml V h3;have e1:=mU _ (tY s);have l:=ba s.d h.pl;have dd:=E6 s.d;have:=h.dp;unfold k7;rw [tY];rw [<- e1] at l dd;unfold kq at l dd ⊢;dsimp only;rw [if_pos ⟨l,by omega⟩];rfl
theorem gr:∀ ws:List Wo,HT.nrmsHt (pW ws)=pW ws
 | []=>rfl
 | w :: ws=>by
  show HT.nrmHt (.str w.s) :: HT.nrmsHt (pW ws)=_;rw [gr ws];rfl
theorem iJ:∀ {a b:List Wo},pW a=pW b->a=b
 | [],[],_=>rfl
 | [],_ :: _,h=>by cases h
 | _ :: _,[],h=>by cases h
 | x :: a,y :: b,h=>by
  have h:PyData.str x.s :: pW a=.str y.s :: pW b:=h;injection h with h1 h2;injection h1 with h1;rw [Wo.inj h1,iJ h2]
theorem nC {s t:Dst} (h:kS s=kS t):s=t:=by
 obtain ⟨m,c,w⟩:=s;obtain ⟨m2,c2,w2⟩:=t;have h:PyData.tuple [HT.nrmHt (pO m),.int (if c then 1 else 0),.tuple (HT.nrmsHt (pW w))]=.tuple [HT.nrmHt (pO m2),.int (if c2 then 1 else 0),.tuple (HT.nrmsHt (pW w2))]:=h;rw [gr,gr] at h;injection h with h;injection h with h1 h;injection h with h2 h;injection h with h3 _;injection h3 with h3;injection h2 with h2;have e3:=iJ h3;have e2:c=c2:=by revert h2;cases c <;> cases c2 <;> decide
 have e1:m=m2:=by
  cases m with
  | none=>
   cases m2 with
   | none=>rfl
   | some g=>cases h1
  | some g=>
   cases m2 with
   | none=>cases h1
   | some g2=>
    have h1:PyData.int (g:Int)=.int (g2:Int):=h1;injection h1 with h1;rw [Int.ofNat_inj.mp h1]
 rw [e1,e2,e3]
def kvs (f:List Dst):List (D×D):=f.map λs=>(s.d,.bl true)
theorem jP {n:Nat} (h3:n<=3) {f:List Dst} (hf:∀ x∈f,DI n x) (s:Dst):(D4 (kvs f) (kS s)).isSome=decide (s∈f):=by
 unfold D4 kvs;rw [Ck,Dd,List.find?_isSome,decide_eq_true_iff];constructor
 ·rintro ⟨p,hp,e⟩;obtain ⟨t,ht,rfl⟩:=AU.mp hp;have e:k7 t.d=some (kS s):=BQ e;rw [T1 (hf t ht) h3] at e;rw [<- nC (AH e)];exact ht
 ·intro h;exact ⟨(s.d,.bl true),AU.mpr ⟨s,h,rfl⟩,AO (T1 (hf s h) h3)⟩
abbrev FP:=List Dst×List Dst
def z9 (x:FP) (s:Dst):FP:=if s∈x.1 then x else (x.1++[s],x.2++[s])
def v6 (s:Dst) (n:Nat):List Dst:=(List.range n).filterMap (step s)
def X4 (n:Nat):Nat->FP->FP
 | 0,x=>x
 | m+1,x=>match x.2.getLast? with
  | none=>x
  | some s=>X4 n m ((v6 s n).foldl z9 (x.1,x.2.dropLast))
def s0 (n:Nat):Dst:=⟨none,false,List.replicate n .out⟩
def Fin (n:Nat):FP:=X4 n 2744 ([s0 n],[s0 n])
theorem Y5 (s:Dst) (n:Nat):v6 s (n+1)=v6 s n++(step s n).toList:=by
 unfold v6;rw [Dz,List.filterMap_append];cases e:step s n <;> simp [e]
structure WI (n:Nat) (x:FP):Prop where
 nd:x.1.Nodup
 di:∀ s∈x.1,DI n s
 pi:∀ s∈x.2,DI n s
 st:s0 n∈x.1
theorem WI.len {n:Nat} (h3:n<=3) {x:FP} (h:WI n x):x.1.length<=2744:=AQ (kK h.nd (hU n) λs hs=>all_mem.mpr (h.di s hs)) (L1 h3)
theorem WI.add {n:Nat} {x:FP} {s:Dst} (h:WI n x) (V:DI n s):WI n (z9 x s):=by
 unfold z9;split
 ·exact h
 ·rename_i no;refine ⟨?_,λy hy=>?_,λy hy=>?_,CJ _ h.st⟩
  ·rw [BP];exact ⟨h.nd,by simp,λa ha b hb e=>no (by rw [<- Aw.mp hb,<- e];exact ha)⟩
  ·rcases Az.mp hy with z | z
   ·exact h.di y z
   ·rw [Aw.mp z];exact V
  ·rcases Az.mp hy with z | z
   ·exact h.pi y z
   ·rw [Aw.mp z];exact V
theorem WI.fold {n:Nat}:∀ {l:List Dst} {x:FP},WI n x->(∀ s∈l,DI n s)->WI n (l.foldl z9 x)
 | [],x,h,_=>h
 | s :: l,x,h,hl=>WI.fold (l:=l) (h.add (hl s Aq)) λy hy=>hl y (Ar _ hy)
theorem jy (x:FP) (s:Dst):(z9 x s).2.length+x.1.length=x.2.length+(z9 x s).1.length:=by
 unfold z9;split
 ·rfl
 ·simp;omega
theorem F9:∀ (l:List Dst) (x:FP),(l.foldl z9 x).2.length+x.1.length=x.2.length+(l.foldl z9 x).1.length
 | [],x=>rfl
 | s :: l,x=>by
  have a:=jy x s;have b:=F9 l (z9 x s);rw [Dy];omega
theorem P5 {n:Nat} {s:Dst} (V:DI n s):∀ m,m<=n->∀ t∈v6 s m,DI n t
 | 0,_,t,ht=>by simp [v6] at ht
 | m+1,hm,t,ht=>by
  rw [Y5] at ht;rcases Az.mp ht with z | z
  ·exact P5 V m (by omega) t z
  ·exact V.step hm (by simpa using z)
theorem dt (n:Nat):DI n (s0 n):=⟨by simp [s0],λg hg=>by cases hg⟩
theorem wi0 (n:Nat):WI n ([s0 n],[s0 n]):=⟨by simp,λs hs=>by rw [Aw.mp hs];exact dt n,λs hs=>by rw [Aw.mp hs];exact dt n,Aw.mpr rfl⟩
def At (S S':Sto) (x:FP):Prop:=S'[S.length]?=some (.dcT (kvs x.1))/\S'[S.length+1]?=some (.lst (x.2.map Dst.d))/\Kb S S'
theorem At.ex {S T U:Sto} {x:FP} (a:At S T x) (b:Ex T U):At S U x:=
 ⟨by rw [b.at (Ai.mp a.1).1];exact a.1,by rw [b.at (Ai.mp a.2.1).1];exact a.2.1,a.2.2.ex b⟩
theorem put_ok {α:Type} {n:Nat} (h3:n<=3) {s:Dst} (V:DI n s) {x:FP} (w:WI n x) {S S':Sto} (at_:At S S' x) (hp:x.2.length<=6000) {Q:α->Sto->Prop} {f:L3.M α}
  (fin:∀ S2,At S S2 (z9 x s)->Ok f S2 Q) :
  Ok (bind (z0 true s.d (.ref S.length)) λx1=>bind (asB x1) λz2=>if z2=true then (bind (D1 (.ref S.length) s.d (.bl true)) λ_=>bind (lstOf (.ref (S.length+1))) λ_=>bind (Y0 (.ref (S.length+1)) [s.d]) λ_=>f) else f) S' Q:=by
 obtain ⟨e1,e2,kb⟩:=at_;have fl:=w.len h3;have fs:=jP h3 w.di s;have i1:z0 true s.d (.ref S.length) S'=.ok (.bl (!decide (s∈x.1))) S':=by
  simp only [z0,e1,T1 V h3,fs];rfl
 refine Ok.eq i1<|Ok.eq (af _ _) ?_;have l1:=(Ai.mp e1).1;have l2:=(Ai.mp e2).1;by_cases no:s∈x.1
 ·have ea:z9 x s=x:=if_pos no;refine Ok.neg (by rw [AO no];decide)<|fin S' ?_;rw [ea];exact ⟨e1,e2,kb⟩
 ·have ea:z9 x s=(x.1++[s],x.2++[s]):=if_neg no;rw [Be no] at fs;have i2:D1 (.ref S.length) s.d (.bl true) S'=.ok .non (S'.set S.length (.dcT (kvs (x.1++[s])))):=by
   have l:(kvs x.1).length<sizeLine:=by unfold kvs;rw [An,AD];omega
   simp only [D1,e1,T1 V h3,if_pos l];unfold fQ;rw [fs,if_neg Am];unfold kvs;rw [BJ];rfl
  have e3:(S'.set S.length (.dcT (kvs (x.1++[s]))))[S.length+1]?=some (.lst (x.2.map Dst.d)):=by rw [AC (by omega)];exact e2
  refine Ok.pos (by rw [Be no];rfl)<|Ok.eq i2<|Ok.eq (iM e3)<|Ok.eq (mY e3 (by rw [An,AD];omega))<|fin _ ?_;rw [ea];refine ⟨?_,?_,(kb.set (Ao _) _).set (by omega) _⟩
  ·rw [AC (by omega),AR l1]
  ·rw [AR (by rw [Dx];exact l2),BJ];rfl
theorem toP {S:Sto} {n:Nat} {ds:List D} (e:S[n]?=some (.lst ds)):(∀ k,i7 (k+1) S (.ref n)=i7 (k+1) S (.lst ds))/\t6 (.ref n) S=t6 (.lst ds) S:=by
 have:∀ k,i7 (k+1) S (.ref n)=i7 (k+1) S (.lst ds):=λk=>by simp only [i7,e]
 refine ⟨this,?_⟩;unfold t6;rw [this 63]
theorem oz {n:Nat} (h3:n<=3) {l:List Dst} (hl:∀ s∈l,DI n s) (le:l.length<=6000):Sml 4 3612003 (.lst (l.map Dst.d)):=
 Sml.lst (n:=3) (N:=600) (m:=6000) (Smls.map λs hs=>sml (hl s hs) h3) (by rw [An];exact le)
theorem jZ {S:Sto} {p:Nat} {l:List Dst} {s:Dst} (e:S[p]?=some (.lst (l.map Dst.d))) (h:l.getLast?=some s):M2 (.ref p) S=.ok s.d (S.set p (.lst (l.dropLast.map Dst.d))):=by
 have e1:(l.map Dst.d)[(l.map Dst.d).length-1]?=some s.d:=by
  rw [An];rw [List.getLast?_eq_getElem?] at h;exact aM h
 unfold M2;rw [a8 (iM e)];dsimp only;rw [e1];dsimp only;rw [List.map_dropLast]
theorem ja {l:List Dst} {s:Dst} (h:l.getLast?=some s):s∈l:=List.mem_of_getLast? h
theorem Q2 {α β:Type} (f:α->Option β):∀ (l:List α),(l.filter λa=>(f a).isSome).filterMap f=l.filterMap f
 | []=>rfl
 | a :: l=>by
  rw [Ds,Bl];cases e:f a with
  | none=>simpa [e] using Q2 f l
  | some b=>simp only [Option.isSome_some,DG,Bl,e];rw [Q2 f l]
structure Wk (n k:Nat) (x:FP):Prop where
 w:WI n x
 k1:k<=2744
 k2:k+x.1.length=2744+x.2.length
 e:X4 n k x=Fin n
theorem Wk.fin {n k:Nat} {x:FP} (h:Wk n k x) (z:x.2=[]):x=Fin n:=by
 have:∀ k,X4 n k x=x:=λk=>by
  cases k with
  | zero=>rfl
  | succ k=>rw [X4,z];rfl
 rw [<- h.e,this]
theorem Wk.p {n k:Nat} (h3:n<=3) {x:FP} (h:Wk n k x):x.2.length<=2744:=by
 have:=h.w.len h3;have:=h.k1;have:=h.k2;omega
theorem Wk.pop {n k:Nat} (h3:n<=3) {x:FP} (h:Wk n k x) {s:Dst} (hs:x.2.getLast?=some s):WI n (x.1,x.2.dropLast)/\DI n s/\Wk n (k-1) ((v6 s n).foldl z9 (x.1,x.2.dropLast))/\k-1<k:=by
 have V:=h.w.pi s (ja hs);have fl:=h.w.len h3;have:=h.k1;have:=h.k2;have ne:x.2≠[]:=λz=>by rw [z] at hs;cases hs
 have pl:=List.length_pos_iff.mpr ne;have w:WI n (x.1,x.2.dropLast):=⟨h.w.nd,h.w.di,λs hs=>h.w.pi s (List.dropLast_subset _ hs),h.w.st⟩;have w':=w.fold (P5 V n (Ao _));have fo:=F9 (v6 s n) (x.1,x.2.dropLast);have dl:x.2.dropLast.length=x.2.length-1:=BS;dsimp only at fo;have ek:k=(k-1)+1:=by omega
 refine ⟨w,V,⟨w',by omega,by omega,?_⟩,by omega⟩;rw [<- h.e]
 conv=>rhs;rw [ek,X4,hs]
theorem jS {S S':Sto} {x:FP} (a:At S S' x):At S (S'.set (S.length+1) (.lst (x.2.dropLast.map Dst.d))) (x.1,x.2.dropLast):=
 ⟨by rw [AC (by omega)];exact a.1,AR (Ai.mp a.2.1).1,a.2.2.set (by omega) _⟩
theorem wk0 (n:Nat):Wk n 2744 ([s0 n],[s0 n]):=⟨wi0 n,Ao _,rfl,rfl⟩
theorem nD {n:Nat}:(s0 n).d=.tup [.non,.bl false,.tup (List.replicate n (.str "out"))]:=by
 unfold s0 Dst.d;rw [List.map_replicate];rfl
theorem nw {n:Nat} (h3:n<=3) {S S':Sto} {x:FP} {s:Dst} (w:WI n x) (V:DI n s) (at_:At S S' x) (hp:x.2.length<=2800) (k:Nat) (o0 o4 o5:Option D) :
  Ok (n9 (F3 (((List.range n).filter λj=>(step s j).isSome).map λ(j:Nat)=>.int (j:Int))) (λd ρ=>some (ρ.set 4 (some d))) (B3 (rn (k+2))) (((List.range n).filter λj=>(step s j).isSome).length+1) 0 [o0,some (.ref S.length),some (.ref (S.length+1)),some s.d,o4,o5]) S' λfl S2=>∃ o4 o5,fl=.nx [o0,some (.ref S.length),some (.ref (S.length+1)),some s.d,o4,o5]/\At S S2 ((v6 s n).foldl z9 x):=by
 generalize hL:((List.range n).filter λj=>(step s j).isSome)=L;have mL:∀ j∈L,j<n/\(step s j).isSome=true:=λj hj=>by
  rw [<- hL] at hj;obtain ⟨h1,h2⟩:=CL.mp hj;exact ⟨BR.mp h1,h2⟩
 have eL:L.filterMap (step s)=v6 s n:=by rw [<- hL];exact Q2 (step s) (List.range n)
 have dL:∀ i,∀ t∈(L.take i).filterMap (step s),DI n t:=λi t ht=>by
  obtain ⟨j,hj,e⟩:=CT.mp ht;exact V.step (mL j (List.mem_of_mem_take hj)).1 e
 refine (Ok.loop (n:=L.length) (λi ρ S2=>At S S2 (((L.take i).filterMap (step s)).foldl z9 x)/\∃ o4 o5,ρ=[o0,some (.ref S.length),some (.ref (S.length+1)),some s.d,o4,o5]) (λρ S2 _=>by show some _=_;rw [AT (by simp)]) ?_ ⟨at_,_,_,rfl⟩).mono ?_
 ·rintro i ρ S2 hi ⟨a2,o4,o5,rfl⟩;have ei:L[i]?=some L[i]:=AB hi;obtain ⟨m1,m2⟩:=mL _ (Bh hi);generalize L[i]=j at ei m1 m2;obtain ⟨t,et⟩:=AY.mp m2;refine ⟨.int (j:Int),_,by show some _=_;rw [AM,ei];rfl,rfl,?_⟩;unfold B3;rw [Q4];have wi:=w.fold (dL i);have fo:=F9 ((L.take i).filterMap (step s)) x;have fl:=wi.len h3;refine Ok.first<|Ok.cg (Z9 ..)<|Ok.eq (jE V m1 h3 et k S2)<|Ok.nxt<|Ok.cg (X9 ..)<|put_ok h3 (V.step m1 et) wi a2 (by omega) λS3 a3=>Ok.ret ⟨_,.inl rfl,?_,_,_,rfl⟩;rw [List.take_add_one,ei,List.filterMap_append,List.foldl_append];simp only [Option.toList,Bl,et,List.filterMap_nil,Dy,List.foldl_nil];exact a3
 ·rintro _ S2 ⟨ρ,rfl,a2,o4,o5,rfl⟩;rw [CH,eL] at a2;exact ⟨_,_,rfl,a2⟩
theorem rA {n:Nat} (h3:n<=3) (k:Nat) (S:Sto):Ok (rn (k+3) rX [(s0 n).d]) S λd S'=>d=.ref S.length/\S'[S.length]?=some (.dcT (kvs (Fin n).1))/\Kb S S'/\WI n (Fin n):=by
 rw [rn,h8 (fd:=Ad) rfl,nV,oG];have e0:D0 [((s0 n).d,.bl true)] S=.ok (.ref S.length) (S++[.dcT [((s0 n).d,.bl true)]]):=by simp only [D0,T1 (dt n) h3]
 refine Ok.first<|Ok.cg (vF ..)<|Ok.eq e0<|Ok.nxt<|Ok.cg (tf ..)<|Ok.eq (Z3 (by simp)) ?_;have b0:At S (S++[.dcT [((s0 n).d,.bl true)]]++[.lst [(s0 n).d]]) ([s0 n],[s0 n]):=⟨by rw [Bv,AA (Ao _)];simp [kvs],by rw [AA (by simp)];simp,(Kb.refl S).ex ⟨[.dcT [((s0 n).d,.bl true)],.lst [(s0 n).d]],by simp⟩⟩;rw [show (S++[O.dcT [((s0 n).d,.bl true)]]).length=S.length+1 by simp];refine Ok.nxt<|Ok.cg (vP ..)<|Ok.bind ((Ok.while_ (λk ρ S2=>∃ x o3 o4 o5,ρ=[some (s0 n).d,some (.ref S.length),some (.ref (S.length+1)),o3,o4,o5]/\At S S2 x/\Wk n k x) (λρ S2=>∃ o3 o4 o5,ρ=[some (s0 n).d,some (.ref S.length),some (.ref (S.length+1)),o3,o4,o5]/\At S S2 (Fin n)/\WI n (Fin n)) (λ_ _=>False) ?_ 10000 2744 _ _ (by omega) ⟨_,_,_,_,rfl,b0,wk0 n⟩).mono ?_)
 ·rintro q ρ S2 ⟨x,o3,o4,o5,rfl,a,h⟩;rw [fU];have et:t9 (.ref (S.length+1)) S2=.ok (!(x.2.map Dst.d).isEmpty) S2:=by simp only [t9,a.2.1]
  refine Ok.eq et<|Ok.ret ?_;cases hl:x.2.getLast? with
  | none=>
   have z:x.2=[]:=Cc.mp hl;rw [z];refine if_neg Am▸?_;have:=h.fin z;exact ⟨_,_,_,rfl,this▸a,this▸h.w⟩
  | some s=>
   have z:(x.2.map Dst.d).isEmpty=false:=by
    cases e:x.2 with
    | nil=>rw [e] at hl;cases hl
    | cons _ _=>rfl
   rw [z];refine cV ?_;obtain ⟨w,V,hk,lt⟩:=h.pop h3 hl;have pp:=h.p h3;unfold dr;rw [bg];refine Ok.first<|Ok.cg (jU ..)<|Ok.eq (jZ a.2.1 hl)<|Ok.nxt<|Ok.cg (jf ..)<|Ok.bind ((eZ V h3 (k+1) _).mono ?_);rintro _ _ ⟨rfl,rfl⟩;refine Ok.eq (G8 _ _ _)<|Ok.bind ((nw h3 w V (jS a) (by rw [BS];omega) k _ _ _).mono ?_);rintro _ S3 ⟨o4,o5,rfl,a3⟩;exact Ok.ret ⟨q-1,lt,_,_,_,_,rfl,a3,hk⟩
 ·rintro fl S2 hf;cases fl with
  | nx ρ=>
   obtain ⟨o3,o4,o5,rfl,a,w⟩:=hf;exact Ok.nxt<|Ok.cg (vO ..)<|Ok.ret ⟨rfl,a.1,a.2.2,w⟩
  | ct _=>exact hf.elim
  | bk _=>exact hf.elim
  | rt _=>exact hf.elim
theorem pa {n:Nat} (h3:n<=3) {S S':Sto} {x:FP} {s:Dst} (w:WI n x) (V:DI n s) (at_:At S S' x) (hp:x.2.length<=2800) (k:Nat) (o0 o4 o5:Option D) :
  Ok (n9 (bR 0 n) (λd ρ=>some (ρ.set 4 (some d))) (w6 (rn (k+2))) (n+1) 0 [o0,some (.ref S.length),some (.ref (S.length+1)),some s.d,o4,o5]) S' λfl S2=>∃ o4 o5,fl=.nx [o0,some (.ref S.length),some (.ref (S.length+1)),some s.d,o4,o5]/\At S S2 ((v6 s n).foldl z9 x):=by
 refine (Ok.loop (n:=n) (λi ρ S2=>At S S2 ((v6 s i).foldl z9 x)/\∃ o4 o5,ρ=[o0,some (.ref S.length),some (.ref (S.length+1)),some s.d,o4,o5]) (λρ S2 _=>aF n S2) ?_ ⟨at_,_,_,rfl⟩).mono ?_
 ·rintro i ρ S2 hi ⟨a2,o4,o5,rfl⟩;refine ⟨.int (i:Int),_,bb hi S2,rfl,?_⟩;unfold w6;rw [M6];have wi:=w.fold (P5 V i (by omega));have fo:=F9 (v6 s i) x;have fl:=wi.len h3;refine Ok.first<|Ok.cg (U5 ..)<|Ok.bind ((gH V hi h3 (k+1) S2).mono ?_);rintro _ S3 ⟨rfl,ex⟩;have a3:=a2.ex ex;refine Ok.nxt<|Ok.cg (U8 ..) ?_;cases et:step s i with
  | none=>
   have:Z5 s i=.non:=by unfold Z5;rw [et]
   rw [this];refine Ok.eq (a:=.bl false) (S1:=S3) rfl<|Ok.eq (a:=false) rfl<|Ok.neg (by decide)<|Ok.ret ⟨_,.inl rfl,?_,_,_,rfl⟩;rw [Y5,et];simpa using a3
  | some t=>
   have:Z5 s i=t.d:=by unfold Z5;rw [et]
   rw [this];refine Ok.eq (a:=.bl true) (S1:=S3) rfl<|Ok.eq (a:=true) rfl<|Ok.pos rfl<|put_ok h3 (V.step hi et) wi a3 (by omega) λS4 a4=>Ok.ret ⟨_,.inl rfl,?_,_,_,rfl⟩;rw [Y5,et,List.foldl_append];exact a4
 ·rintro _ S2 ⟨ρ,rfl,a2,o4,o5,rfl⟩;exact ⟨_,_,rfl,a2⟩
theorem rC {n:Nat} (h1:1<=n) (h3:n<=3) (k:Nat) (S:Sto):Ok (rn (k+3) oN [.int (n:Int)]) S λd S'=>d=.ref S.length/\S'[S.length]?=some (.dcT (kvs (Fin n).1))/\Kb S S':=by
 rw [rn,h8 (fd:=Ac) rfl,kT,mD];have em:∀ S,F6 (.tup [.str "out"]) (.int (n:Int)) S=.ok (.tup (List.replicate n (.str "out"))) S:=λS=>by
  have:n=1\/n=2\/n=3:=by omega
  rcases this with rfl | rfl | rfl <;> rfl
 have e0:D0 [(.tup [.non,.bl false,.tup (List.replicate n (.str "out"))],.bl true)] S=.ok (.ref S.length) (S++[.dcT [((s0 n).d,.bl true)]]):=by rw [<- nD];simp only [D0,T1 (dt n) h3]
 refine Ok.first<|Ok.cg (sL ..)<|Ok.eq (em S)<|Ok.eq e0<|Ok.nxt<|Ok.cg (sQ ..)<|Ok.eq (em _)<|Ok.eq (Z3 (by simp)) ?_;rw [<- nD];have b0:At S (S++[.dcT [((s0 n).d,.bl true)]]++[.lst [(s0 n).d]]) ([s0 n],[s0 n]):=⟨by rw [Bv,AA (Ao _)];simp [kvs],by rw [AA (by simp)];simp,(Kb.refl S).ex ⟨[.dcT [((s0 n).d,.bl true)],.lst [(s0 n).d]],by simp⟩⟩;rw [show (S++[O.dcT [((s0 n).d,.bl true)]]).length=S.length+1 by simp];refine Ok.nxt<|Ok.cg (rG ..)<|Ok.bind ((Ok.while_ (λk ρ S2=>∃ x o3 o4 o5,ρ=[some (.int (n:Int)),some (.ref S.length),some (.ref (S.length+1)),o3,o4,o5]/\At S S2 x/\Wk n k x) (λρ S2=>∃ o3 o4 o5,ρ=[some (.int (n:Int)),some (.ref S.length),some (.ref (S.length+1)),o3,o4,o5]/\At S S2 (Fin n)) (λ_ _=>False) ?_ 10000 2744 _ _ (by omega) ⟨_,_,_,_,rfl,b0,wk0 n⟩).mono ?_)
 ·rintro q ρ S2 ⟨x,o3,o4,o5,rfl,a,h⟩;rw [bZ];have pp:=h.p h3;have sm:=oz h3 h.w.pi (by omega);have tp:=aB S2 (.lst (x.2.map Dst.d)) 64 sm.pl (by have:=sm.dp;omega);have et:i5 .NotEq (.ref (S.length+1)) (.lst []) S2=.ok (.bl (!(x.2.map Dst.d).isEmpty)) S2:=by
   show eqP true _ _ S2=_;have l:=ba _ sm.pl;have dd:=E6 (.lst (x.2.map Dst.d));have:=sm.dp;have t1:=((toP a.2.1).1 63).trans tp;have t2:i7 64 S2 (.lst [])=some (.list []):=rfl;simp only [eqP,t1,t2];rw [if_pos ⟨l,rfl,by omega⟩];cases x.2 <;> rfl
  refine Ok.eq et<|Ok.eq (af _ _)<|Ok.ret ?_;cases hl:x.2.getLast? with
  | none=>
   have z:x.2=[]:=Cc.mp hl;rw [z];refine if_neg Am▸?_;have:=h.fin z;exact ⟨_,_,_,rfl,this▸a⟩
  | some s=>
   have z:(x.2.map Dst.d).isEmpty=false:=by
    cases e:x.2 with
    | nil=>rw [e] at hl;cases hl
    | cons _ _=>rfl
   rw [z];refine cV ?_;obtain ⟨w,V,hk,lt⟩:=h.pop h3 hl;unfold bL;rw [bU];refine Ok.first<|Ok.cg (ej ..)<|Ok.eq (jZ a.2.1 hl)<|Ok.nxt<|Ok.cg (eS ..)<|Ok.eq (bv (n:=n) (by omega) _)<|Ok.bind ((pa h3 w V (jS a) (by rw [BS];omega) k _ _ _).mono ?_);rintro _ S3 ⟨o4,o5,rfl,a3⟩;exact Ok.ret ⟨q-1,lt,_,_,_,_,rfl,a3,hk⟩
 ·rintro fl S2 hf;cases fl with
  | nx ρ=>
   obtain ⟨o3,o4,o5,rfl,a⟩:=hf;exact Ok.nxt<|Ok.cg (sy ..)<|Ok.ret ⟨rfl,a.1,a.2.2⟩
  | ct _=>exact hf.elim
  | bk _=>exact hf.elim
  | rt _=>exact hf.elim
end L3.K04
namespace L3
open PySem PySem.Spec PyProof.Rows L2
theorem jr {p N m:Nat} {S:Sto} (h:Fw ns p (N+1) S) (v:0<m) (k:m<1073741824):Ok (eB (.ref p) (.int (m:Int))) S λd S'=>∃ r:Nat,d=.int (r:Int)/\r<m/\Fw ns p N S'/\S'.length=S.length/\∀ q,q≠p->S'[q]?=S[q]?:=by
 obtain ⟨a,l,t,e,j,s,n,u⟩:=h;obtain ⟨r,o,g,i,b,w,f,c⟩:=fb (m:=(m:Int)) e j s n (by omega) (by omega) (by omega);obtain ⟨r,rfl⟩:=Dq b;refine ⟨_,_,i,r,rfl,by omega,⟨o,g,t+1,?_,f,c,by omega,by omega⟩,by simp,λq x=>?_⟩
 ·grind
 ·grind
end L3
namespace L3.K04
open PySem PySem.Spec PyProof.Rows L2
theorem Kb.tr {S T U:Sto} (a:Kb S T) (b:Kb T U):Kb S U:=⟨AQ a.1 b.1,λi hi=>by rw [b.2 i (Ay hi a.1)];exact a.2 i hi⟩
theorem Kb.get {S T:Sto} (a:Kb S T) {i:Nat} {o:O} (e:S[i]?=some o):T[i]?=some o:=by
 rw [a.2 i (Ai.mp e).1];exact e
abbrev few (n:Nat):List Dst:=(all n).filter λs=>decide (s∈(Fin n).1)
theorem tM {n:Nat} (h3:n<=3) (w:WI n (Fin n)) {q:Nat} {S:Sto} (e:S[q]?=some (.dcT (kvs (Fin n).1))) {s:Dst} (V:DI n s):bind (z0 false s.d (.ref q)) (λx6=>bind (asB x6) λz7=>ret z7) S=.ok (decide (s∈(Fin n).1)) S:=by
 have i1:z0 false s.d (.ref q) S=.ok (.bl (decide (s∈(Fin n).1))) S:=by
  simp only [z0,e,T1 V h3,jP h3 w.di s];rfl
 rw [a8 i1,a8 (af _ _)];rfl
theorem jA {n:Nat} (h1:1<=n) (h3:n<=3) (k:Nat) (S:Sto):rn (k+1) sH [.int (n:Int)] S=.ok (s0 n).d S:=by
 rw [rn,h8 (fd:=qR) rfl,nj,nD];have:n=1\/n=2\/n=3:=by omega
 rcases this with rfl | rfl | rfl <;> rfl
theorem W6 {n:Nat} (h1:1<=n) (h3:n<=3) (k:Nat) (S:Sto):Ok (rn (k+4) rL [.int (n:Int)]) S λd S'=>∃ q,d=.ref q/\S.length<=q/\S'[q]?=some (.lst ((few n).map Dst.d))/\Kb S S'/\WI n (Fin n):=by
 have al:=L1 h3;rw [rn,h8 (fd:=qL) rfl,pc];refine Ok.eq (jA h1 h3 (k+2) S)<|Ok.bind ((rA h3 k S).mono ?_);rintro _ S1 ⟨rfl,e1,kb1,w⟩;refine nx_bind<|Ok.eq (cW h3 (k+1) S1) ?_;have e2:(S1++[O.lst ((all n).map Dst.d)])[S1.length]?=some (.lst ((all n).map Dst.d)):=by simp
 have ex:Ex S1 (S1++[O.lst ((all n).map Dst.d)]):=⟨_,rfl⟩;have e3:(S1++[O.lst ((all n).map Dst.d)])[S.length]?=some (.dcT (kvs (Fin n).1)):=by rw [ex.at (Ai.mp e1).1];exact e1
 have kb2:=kb1.ex ex;generalize (S1++[O.lst ((all n).map Dst.d)]:Sto)=S2 at e2 e3 kb2;refine Ok.eq (a:=(hG S1.length,(all n).length+1)) (S1:=S2) (by simp only [j9,e2,An])<|Ok.of (aS (l:=all n) (h:=Dst.d) (g:=Dst.d) (p:=λs=>decide (s∈(Fin n).1)) (qV e2) (by rw [AD];omega) (λs hs=>tM h3 w e3 (all_mem.mp hs)) λs _ _=>rfl) ?_;have fl:=Bs (λs=>decide (s∈(Fin n).1)) (all n);refine Ok.eq (Z3 (by rw [An];omega))<|Ok.ret ⟨S2.length,rfl,kb2.1,by simp,kb2.ex ⟨_,rfl⟩,w⟩
theorem cr (x:Str) (S:Sto):i5 .NotEq (.str x) (.str x) S=.ok (.bl false) S:=by
 show R.ok (D.bl (!decide (x=x))) S=_;rw [AO rfl];rfl
theorem kY (x:Str) (S:Sto):i5 .Eq (.str x) (.str x) S=.ok (.bl true) S:=by
 show R.ok (D.bl (decide (x=x))) S=_;rw [AO rfl]
theorem dA {n:Nat} (w:WI n (Fin n)):(few n).length=(Fin n).1.length:=O6 (Fin n).1 (all n) w.nd (hU n) λs hs=>all_mem.mpr (w.di s hs)
theorem T0 {n:Nat} (h1:1<=n) (h3:n<=3) (k:Nat) (S:Sto):Ok (rn (k+5) ol [.int (n:Int)]) S λd S'=>d=.bl true/\Kb S S':=by
 have al:=L1 h3;have da:∀ s∈all n,DI n s:=λs hs=>all_mem.mp hs;have df:∀ s∈few n,DI n s:=λs hs=>da s (CL.mp hs).1;have fl:(few n).length<=(all n).length:=Bs ..;have ra:=λS=>(oz h3 da (by omega)).repr (S:=S);have rf:=λS=>(oz h3 df (by omega)).repr (S:=S);rw [rn,h8 (fd:=hB) rfl,lP];refine Ok.eq (jx h1 h3 (k+2) S)<|Ok.bind ((rC h1 h3 (k+1) S).mono ?_);rintro _ S1 ⟨rfl,e1,kb1⟩;refine Ok.eq (cW h3 (k+2) S1) ?_;have e2:(S1++[O.lst ((all n).map Dst.d)])[S1.length]?=some (.lst ((all n).map Dst.d)):=by simp
 have ex:Ex S1 (S1++[O.lst ((all n).map Dst.d)]):=⟨_,rfl⟩;have e3:(S1++[O.lst ((all n).map Dst.d)])[S.length]?=some (.dcT (kvs (Fin n).1)):=by rw [ex.at (Ai.mp e1).1];exact e1
 have kb2:=kb1.ex ex;have l2:S1.length<(S1++[O.lst ((all n).map Dst.d)]).length:=by simp
 generalize (S1++[O.lst ((all n).map Dst.d)]:Sto)=S2 at e2 e3 kb2 l2;have sl:S.length<S1.length:=(Ai.mp e1).1;refine Ok.bind ((W6 h1 h3 k S2).mono ?_);rintro _ S3 ⟨q,rfl,hq,e4,kb3,w⟩;have e5:=kb3.get e2;have e6:=kb3.get e3;have kb4:=kb2.tr kb3;refine Ok.eq ((toP e5).2.trans (ra S3))<|Ok.eq (ra S3)<|Ok.eq (cr _ S3)<|Ok.eq (a:=false) rfl<|Ok.neg (by decide)<|Ok.eq ((toP e4).2.trans (rf S3))<|nx_bind<|Ok.eq (G8 (all n) Dst.d S3)<|Ok.of (y0 (l:=all n) (h:=Dst.d) (g:=Dst.d) (p:=λs=>decide (s∈(Fin n).1)) (by rw [AD];omega) (λs hs=>tM h3 w e6 (da s hs)) λs _ _=>rfl)<|Ok.eq (rf S3)<|Ok.eq (cr _ S3)<|Ok.eq (a:=false) rfl<|Ok.neg (by decide)<|Ok.eq (iM e5)<|Ok.eq (mY e5 (by rw [An,AD];omega)) ?_;have ln:0<(few n).length:=by rw [dA w];exact List.length_pos_of_mem w.st
 have e7:(S3.set S1.length (.lst ((all n).map Dst.d++[.non])))[q]?=some (.lst ((few n).map Dst.d)):=by rw [AC (by omega)];exact e4
 have e8:(S3.set S1.length (.lst ((all n).map Dst.d++[.non])))[S.length]?=some (.dcT (kvs (Fin n).1)):=by rw [AC (by omega)];exact e6
 have kb5:=kb4.set (i:=S1.length) (by omega) (.lst ((all n).map Dst.d++[.non]));generalize S3.set S1.length (.lst ((all n).map Dst.d++[.non]))=S4 at e7 e8 kb5;obtain ⟨s,hs⟩:∃ s,(few n).getLast?=some s:=by
  cases e:(few n).getLast? with
  | none=>rw [Cc.mp e] at ln;simp at ln
  | some s=>exact ⟨s,rfl⟩
 refine Ok.eq (jZ e7 hs) ?_;have e9:(S4.set q (.lst ((few n).dropLast.map Dst.d)))[S.length]?=some (.dcT (kvs (Fin n).1)):=by rw [AC (by omega)];exact e8
 have kb6:=kb5.set (i:=q) (by omega) (.lst ((few n).dropLast.map Dst.d));generalize S4.set q (.lst ((few n).dropLast.map Dst.d))=S5 at e9 kb6;refine Ok.eq (cW h3 (k+2) S5) ?_;have f2:(S5++[O.lst ((all n).map Dst.d)])[S5.length]?=some (.lst ((all n).map Dst.d)):=by simp
 have ex5:Ex S5 (S5++[O.lst ((all n).map Dst.d)]):=⟨_,rfl⟩;have f3:(S5++[O.lst ((all n).map Dst.d)])[S.length]?=some (.dcT (kvs (Fin n).1)):=by rw [ex5.at (Ai.mp e9).1];exact e9
 have kb7:=kb6.ex ex5;generalize (S5++[O.lst ((all n).map Dst.d)]:Sto)=S6 at f2 f3 kb7;refine Ok.eq ((toP f2).2.trans (ra S6))<|Ok.eq (ra S6)<|Ok.eq (kY _ S6)<|Ok.eq (a:=true) rfl<|Ok.pos rfl<|Ok.bind ((W6 h1 h3 k S6).mono ?_);rintro _ S7 ⟨q2,rfl,hq2,g4,kb8,_⟩;have g3:=kb8.get f3;have t1:u8 (.ref q2) S7=.ok (.int (((few n).length:Nat):Int)) S7:=by simp only [u8,P1,g4,An]
 have t2:u8 (.ref S.length) S7=.ok (.int ((Fin n).1.length:Int)) S7:=by simp only [u8,g3,kvs,An]
 refine Ok.eq t1<|Ok.eq t2<|Ok.eq (iV _ _ S7)<|Ok.ret ⟨?_,kb7.tr kb8⟩;rw [dA w,AO rfl]
theorem lQ {ns:List Int} {p N m:Nat} {S:Sto} (h:Fw ns p (N+1) S) (hm:0<m) (hm2:m<1073741824) (k:Nat):Ok (rn (k+1) nH [.ref p,.int (m:Int)]) S λd S'=>∃ r:Nat,d=.int (r:Int)/\r<m/\Fw ns p N S'/\S'.length=S.length/\∀ q,q≠p->S'[q]?=S[q]?:=by
 rw [rn,h8 (fd:=jj) rfl,ku];exact jr h hm hm2
theorem kW (ns:List Int) (S:Sto) (k:Nat):∃ ms:List Int,rn (k+1) oB [.scr (ns.map D.int)] S=.ok (.ref S.length) (S++[f8 ms 0 0 0]):=by
 obtain ⟨ms,em⟩:=gQ ns;refine ⟨ms,?_⟩;rw [rn,h8 (fd:=gR) rfl,jw,a8 (show slD (.scr (ns.map D.int)) none (some 63) S=.ok (.lst (C7 (ns.map D.int) none (some 63))) S from rfl),em];kernel_rfl
theorem nv (ns:List Int):∃ S',rn 6 hD [.scr (ns.map D.int)] []=.ok (.bl true) S':=by
 suffices h:Ok (rn 6 hD [.scr (ns.map D.int)]) [] λd _=>d=.bl true by
  obtain ⟨d,S',e,rfl⟩:=h;exact ⟨S',e⟩
 rw [rn,h8 (fd:=jW) rfl,kQ];obtain ⟨ms,ew⟩:=kW ns [] 4;refine Ok.eq ew ?_;have F0:Fw ms 0 20000 ([]++[f8 ms 0 0 0]):=⟨0,0,0,by simp,by omega,by omega,by omega,by omega⟩;generalize ([]++[f8 ms 0 0 0]:Sto)=S0 at F0;refine Ok.bind ((T0 (n:=1) (by omega) (by omega) 0 S0).mono ?_);rintro _ S1 ⟨rfl,kb1⟩;refine Ok.eq (a:=true) rfl<|Ok.neg (by decide)<|Ok.bind ((T0 (n:=2) (by omega) (by omega) 0 S1).mono ?_);rintro _ S2 ⟨rfl,kb2⟩;have F2:Fw ms 0 20000 S2:=F0.keep ((kb1.tr kb2).2 0 F0.lt);refine Ok.eq (a:=true) rfl<|Ok.neg (by decide)<|Ok.bind ((lQ (N:=10) (m:=32) (F2.less (by omega)) (by omega) (by omega) 4).mono ?_);rintro _ S3 ⟨r,rfl,_⟩;refine Ok.eq (tW _ _ S3)<|Ok.eq (a:=decide ((0:Int)<(r:Int))) rfl<|Ok.ite (λh=>?_) λ_=>?_
 ·exact Ok.ret (by rw [h])
 ·refine Ok.bind ((T0 (n:=3) (by omega) (by omega) 0 S3).mono ?_);rintro _ S4 ⟨rfl,_⟩;exact Ok.ret rfl
end L3.K04
namespace L3.K04
open PySem L2 Hn
abbrev iHE:Stmt:=cw (top 1) 0
abbrev iNS:Stmt:=cw (top 2) 0
section
variable {P:Program} {w:World} {K:PySem.W.Frag} {mg:Str->Option Value} {base:Heap} {f fB B:Addr} {fd fdB:FuncData}
theorem vG:FnScope ["self","text"] ["self","text"] (b7 iHE):=⟨rfl,rfl,rfl,by decide +kernel,rfl,by decide +kernel,by decide +kernel⟩
theorem mj (F:Fun K "__init__" "HandError.__init__" iHE f fd) (T:TxE K mg B fB):FnOk P w K mg base CX0 1 f fd ["self","text"] (spHE K):=by
 refine F.ok vG (λvs H Q E h=>?_) (λcdv A outer s H vs Q E hr h=>?_)
 ·obtain ⟨x,y,C,d,rfl,_⟩:=h;rfl
 ·obtain ⟨x,y,C,d,rfl,M,e0,k⟩:=h;refine ⟨_,eK (Y7 (gw rfl T.mV T.fV (E9 (pv 0) (E9 (pv 1) cK)))),?_⟩;exact ⟨_,rfl,_,rfl,x,C,d,y,rfl,M,e0,k⟩
theorem vQ:FnScope ["self","hand"] ["self","hand"] (b7 iNS):=⟨rfl,rfl,rfl,by decide +kernel,rfl,by decide +kernel,by decide +kernel⟩
theorem se (F:Fun K "__init__" "NoStep.__init__" iNS f fd) (T:TxE K mg B fB) (FB:Fun K "__init__" "HandError.__init__" iHE fB fdB) (bB:Binds K fdB ["self","text"] []):FnOk P w K mg base CX0 2 f fd ["self","hand"] (sp1 K "hand"):=by
 have G:FnOk P w K mg base CX0 1 fB fdB ["self","text"] (spHE K):=mj FB T;refine F.ok vQ (λvs H Q E h=>?_) (λcdv A outer s H vs Q E hr h=>?_)
 ·obtain ⟨x,v,C,dv,rfl,_⟩:=h;rfl
 ·obtain ⟨x,v,C,dv,rfl,M,na,e0,ft,k⟩:=h;have hu:(A.deeper (PyProof.Rows.envOfC "NoStep.__init__" (b7 iNS) s.heap.objs.size f cdv)).units+80<cLine:=by have:=hr.un;omega
  refine ⟨_,au (Y7 (im rfl T.mB T.sB T.rB T.cB T.kB G hr bB dP (E9 (pv 0) (E9 (lj (dU (mI hr.gd hu (pv 1) (dU lI))) (by decide)) cK))))
   (eK (lu (pv 0) (pv 1) rfl)),?_⟩
  refine ⟨_,rfl,_,rfl,dv,ft.at_,ft.sh,ft.l1,ft.l2,λz hz=>?_⟩;refine ⟨x,.str z,C,none,rfl,M,e0,?_⟩;refine ⟨_,rfl,_,rfl,x,C,rfl,M,na,.inl ⟨e0,λd hd=>?_⟩⟩;have ne:d≠x:=λq=>by rw [q,e0] at hd;cases hd
  exact k _ ⟨d,hd,ne,b6,by rw [a7 ne,b6],λb hb hb2=>by rw [a7 hb,a7 hb2]⟩
end
end L3.K04
section
namespace L3.K04
open PySem PySem.Spec PyProof.Rows L2 Hn
theorem all_mk {l:PySem.W.OpenLaw} {w:World} {K:PySem.W.Frag} {h:Heap} {mg:Str->Option Value} {fa B fB C1 f1 g0 g1 g2 g3 g4 g5 g6 g7 g8 g9 g10 g11 g12 g13 g14 g15:Addr} (X:K.In h) (G:h.Ns mainGlobals mg) (hfa:mg "law" = some (.ref fa))
  {odHE anHE odNS anNS:Option Addr} {slHE slNS:Array (Option Value)} {ocHE kVHE dcHE pmHE cdHE ctHE ocNS kVNS dcNS pmNS cdNS ctNS:Value} {Zc0:Addr} {tC0_0 tC0_1 tC0_2 tC0_3 tC0_4 tC0_5 tC0_6:Tok} {nC0:Nat} {slC0:Array (Option Value)} {Zc1:Addr} {tC1_0 tC1_1 tC1_2:Tok} {nC1:Nat} {slC1:Array (Option Value)}
  (aHE:PySem.W.nsIn K mainGlobals "HandError" = some (some (.ref B))) (iHE_:PySem.W.findIn K (.ref B) "__init__" = some (some (.ref fB))) (nHE:PySem.W.isFn K (.ref fB)=true) (lHE:K.lookup fB=some ⟨ocHE,odHE,.func (PySem.W.fnOf "__init__" "HandError.__init__" (j8 (iHE)) (i4 (iHE)) (b7 (iHE)) .none kVHE dcHE pmHE anHE cdHE ctHE),slHE⟩) (cHE:PySem.W.codeIn K cdHE "HandError.__init__" = true) (kHE:PySem.W.keepIn K (.ref fB)=true)
  (aNS:PySem.W.nsIn K mainGlobals "NoStep" = some (some (.ref C1))) (iNS_:PySem.W.findIn K (.ref C1) "__init__" = some (some (.ref f1))) (nNS:PySem.W.isFn K (.ref f1)=true) (lNS:K.lookup f1=some ⟨ocNS,odNS,.func (PySem.W.fnOf "__init__" "NoStep.__init__" (j8 (iNS)) (i4 (iNS)) (b7 (iNS)) .none kVNS dcNS pmNS anNS cdNS ctNS),slNS⟩) (cNS:PySem.W.codeIn K cdNS "NoStep.__init__" = true) (kNS:PySem.W.keepIn K (.ref f1)=true)
  (fV:PySem.W.findCls K (.type "ValueError") (.type "type") "__init__" = some (.val (.builtin "ValueError.__init__"))) (sB:PySem.W.specialIn K (.ref B) "__getattribute__" = some (some (.builtin "type.__getattribute__"))) (rB:PySem.W.readsIn K B (.type "type")=true) (cB:PySem.W.findCls K (.ref B) (.type "type") "__init__" = some (.val (.ref fB)))
  (rxc:[B,C1].all (xcB K)=true)
  (rjk:L6 K fB=false)
  (rsub:((List.range [B,C1].length).all λc=>(List.range [B,C1].length).all λc0=>isB (PySem.W.kitOne K (.ref (Q7 [B,C1] fB c)) (.ref (Q7 [B,C1] fB c0))) (Γ.sub c c0))=true)
  (rsV:([B,C1].all λC=>isB (PySem.W.kitOne K (.ref C) (.type "ValueError")) true)=true)
  (rsT:([B,C1].all λC=>tys.all λt=>isB (PySem.W.kitOne K (.ref C) (.type t)) false)=true)
  (rfl_:(Γ.flds.all λg=>[B,C1].all λC=>isNo (PySem.W.findIn K (.ref C) g))=true)
  (rbl:(bnames.all λx=>(Γ.gl.lookup x).isSome||isNo (PySem.W.nsIn K mainGlobals x))=true)
  (dg0:GF K "with_at" (top 4) g0)
  (dg1:GF K "first_decider" (top 8) g1)
  (dg2:GF K "step_decider" (top 9) g2)
  (dg3:GF K "moving_hands" (top 10) g3)
  (dg4:GF K "all_deciders" (top 11) g4)
  (dg5:GF K "all_words" (top 12) g5)
  (dg6:GF K "found_deciders" (top 13) g6)
  (dg7:GF K "stands_behind" (top 14) g7)
  (dg8:GF K "_law_feed" (top 16) g8)
  (dg9:GF K "_law_draw" (top 17) g9)
  (dg10:GF K "_law_words" (top 18) g10)
  (dg11:GF K "_law_behind" (top 20) g11)
  (dg12:GF K "_law_all" (top 21) g12)
  (dg13:GF K "_law_found" (top 22) g13)
  (dg14:GF K "_law_right" (top 23) g14)
  (dg15:GF K "law" (top 24) g15)
  (aC0:PySem.W.nsIn K mainGlobals "WORDS" = some (some (.ref Zc0))) (lC0:K.lookup Zc0=some ⟨.type "tuple",none,.seq #[.str "out" tC0_0,.str "ask" tC0_1,.str "close" tC0_2,.str "look" tC0_3,.str "holds" tC0_4,.str "right" tC0_5,.str "down" tC0_6] nC0,slC0⟩)
  (aC1:PySem.W.nsIn K mainGlobals "ENDED" = some (some (.ref Zc1))) (lC1:K.lookup Zc1=some ⟨.type "tuple",none,.seq #[.str "holds" tC1_0,.str "right" tC1_1,.str "down" tC1_2] nC1,slC1⟩) :
  ∃ fd:FuncData,(∀ (s:Shared) (v:Value),BindsTo s fd ⟨[v],[]⟩ [("_law_script",v)])/\∀ base:Heap,K.In base->base.Ns mainGlobals mg->FnOk l.prog w K mg base CX0 9 fa fd ["_law_script"] (aN K):=by
 have e:=hfa.symm.trans (BL X G dg15.a);cases e;have RB:RowB K Γ [B,C1] fB:=⟨rxc,rjk,rsub,rsV,rsT,rfl_,rbl⟩;have FHE:=Z2 (st:=iHE) lHE cHE kHE;have bHE:=FHE.binds (ps:=["self","text"]) λ_ _ _ _ _ _ us hl=>gA hl λ_ _=>rfl;have FNS:=Z2 (st:=iNS) lNS cNS kNS;have bNS:=FNS.binds (ps:=["self","hand"]) λ_ _ _ _ _ _ us hl=>gA hl λ_ _=>rfl;have xHE:XC K B:=iH ((AN.mp rxc) B (by simp));have xNS:XC K C1:=iH ((AN.mp rxc) C1 (by simp));obtain ⟨_,⟨oc,od,kV,dc,pm,an,cd,ct,sl,rfl,lk,hc⟩,kp⟩:=dg15.f;have FL:=Z2 lk hc kp;refine ⟨PySem.W.fnOf "law" "law" (j8 (top 24)) (i4 (top 24)) (b7 (top 24)) .none kV dc pm an cd ct,λs v=>.of_eq rfl,λbase KB GB=>?_⟩
 let T:Tx:=⟨l.prog,w,K,mg,base,Q7 [B,C1] fB⟩
 have mV:mg "ValueError" = none:=PySem.W.mg_none_of X G (N2 ((AN.mp rbl) "ValueError" (by decide)));have TE:TxE K mg B fB:=⟨mV,fV,BL X G aHE,sB,rB,cB,kHE⟩;have gHE:FnOk l.prog w K mg base CX0 2 fB _ ["self","text"] (spHE K):=(mj FHE TE).mono (by decide);have gNS:FnOk l.prog w K mg base CX0 2 f1 _ _ _:=se FNS TE FHE bHE;have st:TxSt T Γ:=by
  refine RB.st (T:=T) X G rfl (λx d e=>?_) (λx c fs e=>?_) (λx kvs e=>?_)
  ·have m:=L2.mem_of_lookup e;simp only [Γ,AJ,List.not_mem_nil,or_false,Prod.mk.injEq,L3.G.val.injEq,reduceCtorEq,and_false,false_or] at m;rcases m with ⟨rfl,rfl⟩ | ⟨rfl,rfl⟩
   ·exact ⟨_,.ref Zc0,BL X G aC0,rfl,λμ H=>.tup (xs:=[.str "out",.str "ask",.str "close",.str "look",.str "holds",.str "right",.str "down"]) (.inr ⟨_,_,_,lC0,rfl,rfl,BN rfl,(.cons ⟨_,rfl⟩ (.cons ⟨_,rfl⟩ (.cons ⟨_,rfl⟩ (.cons ⟨_,rfl⟩ (.cons ⟨_,rfl⟩ (.cons ⟨_,rfl⟩ (.cons ⟨_,rfl⟩ .nil))))))),rfl⟩) (.cons (.str _) (.cons (.str _) (.cons (.str _) (.cons (.str _) (.cons (.str _) (.cons (.str _) (.cons (.str _) .nil)))))))⟩
   ·exact ⟨_,.ref Zc1,BL X G aC1,rfl,λμ H=>.tup (xs:=[.str "holds",.str "right",.str "down"]) (.inr ⟨_,_,_,lC1,rfl,rfl,BN rfl,(.cons ⟨_,rfl⟩ (.cons ⟨_,rfl⟩ (.cons ⟨_,rfl⟩ .nil))),rfl⟩) (.cons (.str _) (.cons (.str _) (.cons (.str _) .nil)))⟩
  ·have m:=L2.mem_of_lookup e;simp only [Γ,AJ,List.not_mem_nil,or_false,Prod.mk.injEq,L3.G.err.injEq,reduceCtorEq,and_false,false_or] at m;rcases m with ⟨rfl,rfl,rfl⟩ | ⟨rfl,rfl,rfl⟩
   ·exact ⟨by simp,⟨xHE,BL X G aHE,fB,_,_,iHE_,nHE,bHE,gHE⟩,by simp⟩
   ·exact ⟨by simp,⟨xNS,BL X G aNS,f1,_,_,iNS_,nNS,bNS,gNS⟩,by simp [Γ]⟩
  ·have m:=L2.mem_of_lookup e;simp [Γ] at m
 have fs:gz T Γ Tb:=by
  refine tS ?_;refine And.intro (fe X G (T:=T) dg0 (by decide +kernel) (λ_ _ _ _ _ _ us hl=>vV hl λ_ _ _=>rfl) rfl rfl) ?_;refine And.intro (fe X G (T:=T) dg1 (by decide +kernel) (λ_ _ _ _ _ _ us hl=>Q6 hl λ_=>rfl) rfl rfl) ?_;refine And.intro (fe X G (T:=T) dg2 (by decide +kernel) (λ_ _ _ _ _ _ us hl=>gA hl λ_ _=>rfl) rfl rfl) ?_;refine And.intro (fe X G (T:=T) dg3 (by decide +kernel) (λ_ _ _ _ _ _ us hl=>Q6 hl λ_=>rfl) rfl rfl) ?_;refine And.intro (fe X G (T:=T) dg4 (m:=["return"]) (by decide +kernel) (λ_ _ _ _ _ _ us hl=>Q6 hl λ_=>rfl) rfl rfl) ?_;refine And.intro (fe X G (T:=T) dg5 (by decide +kernel) (λ_ _ _ _ _ _ us hl=>Q6 hl λ_=>rfl) rfl rfl) ?_;refine And.intro (fe X G (T:=T) dg6 (m:=["t{}","return"]) (by decide +kernel) (λ_ _ _ _ _ _ us hl=>Q6 hl λ_=>rfl) rfl rfl) ?_;refine And.intro (fe X G (T:=T) dg7 (m:=["waiting","t{}"]) (by decide +kernel) (λ_ _ _ _ _ _ us hl=>Q6 hl λ_=>rfl) rfl rfl) ?_;refine And.intro (fe X G (T:=T) dg8 (by decide +kernel) (λ_ _ _ _ _ _ us hl=>Q6 hl λ_=>rfl) rfl rfl) ?_;refine And.intro (fe X G (T:=T) dg9 (by decide +kernel) (λ_ _ _ _ _ _ us hl=>gA hl λ_ _=>rfl) rfl rfl) ?_;refine And.intro (fe X G (T:=T) dg10 (by decide +kernel) (λ_ _ _ _ _ _ us hl=>vZ hl rfl) rfl rfl) ?_;refine And.intro (fe X G (T:=T) dg11 (by decide +kernel) (λ_ _ _ _ _ _ us hl=>gA hl λ_ _=>rfl) rfl rfl) ?_;refine And.intro (fe X G (T:=T) dg12 (by decide +kernel) (λ_ _ _ _ _ _ us hl=>Q6 hl λ_=>rfl) rfl rfl) ?_;refine And.intro (fe X G (T:=T) dg13 (m:=["_law_pile","t{}"]) (by decide +kernel) (λ_ _ _ _ _ _ us hl=>Q6 hl λ_=>rfl) rfl rfl) ?_;refine And.intro (fe X G (T:=T) dg14 (m:=["t{}"]) (by decide +kernel) (λ_ _ _ _ _ _ us hl=>Q6 hl λ_=>rfl) rfl rfl) ?_;refine And.intro (fe X G (T:=T) dg15 (by decide +kernel) (λ_ _ _ _ _ _ us hl=>Q6 hl λ_=>rfl) rfl rfl) ?_
  trivial
 have ok:=mH (Rs:=Rs) (T:=T) (k:=5) (i:=15) (fd:=u0 (top 24) []) (lv st fs 5) rfl FL rfl rfl (T9 (by decide +kernel));exact FnOk.imp ok (fZ nv)
theorem walk {l:PySem.W.OpenLaw} {q:Program} {loose:List Str} {XP:(Str->Option Value)->Heap->Prop} {YP:World->Heap->Prop} {d:DefRec} {K:Params->PySem.W.Frag} (hn:l.most=some 63) (hdf:d.params.defaults=[])
  (hY:∀ (w:World) (h:Heap),YP w h->(K w.params).In h)
  (F:∀ (w:World) (mg:Str->Option Value) (fa:Addr) (h:Heap),(K w.params).In h->h.Ns mainGlobals mg->mg d.name=some (.ref fa) ->
   ∃ fd:FuncData,(∀ (s:Shared) (u:Value),BindsTo s fd ⟨[u],[]⟩ [("_law_script",u)])/\∀ base:Heap,(K w.params).In base->base.Ns mainGlobals mg->FnOk l.prog w (K w.params) mg base CX0 9 fa fd ["_law_script"] (aN (K w.params))) :
  PySem.W.WalkO q loose XP YP l.row.toRowW d [] (λf vs=>PySem.call f vs):=
 L2.walk_of (n:=63) (k:=9) (x:="_law_script") (CX:=λ_=>CX0) (sp:=λw=>aN (K w.params)) hn (by decide) hdf ⟨λ_=>rfl,by decide,by decide,rfl⟩ hY F (λ_ _ a ns hl _ hS=>⟨a,ns,rfl,hS,λ_=>rfl⟩) λ_ _ _ _ _ z=>z
end L3.K04
open PySem PySem.W PyProof.Rows
set_option maxRecDepth 100000 in
set_option maxHeartbeats 0 in
theorem PySem.Challenge.cw_handnames_k04_all_stands_and_found_ones_holds : PySem.Challenge.rw_handnames_k04_all_stands_and_found_ones.Holds := by
 w_on;o_law;k_head;(case hw=>w_witness2)
 k_fill
 refine L3.K04.walk (l:=PySem.Challenge.rw_handnames_k04_all_stands_and_found_ones) rfl rfl (λw h Y=>PySem.W.kIn_of Y) ?F
 case F=>
  intro w mg fa h KX G hmg;refine' L3.K04.all_mk KX G hmg ?_ ?_ ?_ ?_ ?_ ?_ ?_ ?_ ?_ ?_ ?_ ?_ ?_ ?_ ?_ ?_ ?_ ?_ ?_ ?_ ?_ ?_ ?_ ?_ ?_ ?_ ?_ ?_ ?_ ?_ ?_ ?_ ?_ ?_ ?_ ?_ ?_ ?_ ?_ ?_ ?_ ?_ ?_
  rotate_left 54
  iterate 16 k_is
  iterate 7 kernel_rfl
  iterate 16 (refine' L3.gf_mk ?a ?l ?c ?k;(case a=>k_is);(case l=>k_is);(case c=>k_is);(case k=>k_is))
  iterate 4 k_is
end
