import PyProof.Rows.All
import Wide.All
import OpenK.AllK
import Wide.FinOn
import Lean
import PyProof.EqAt
import PyProof.EqKinds
import PyProof.TupleCall
import PyProof.CompUse
import PyProof.P3Eq
import PyProof.NeData
import PyProof.P3In
import PyProof.EnumMake
import PyProof.Draws
import PyProof.ConsumeWalk
import PyProof.Rows.SetFrom
import PyProof.SetRoads
import PyProof.Rows.SortWalk
import PyProof.ListRange
import PyProof.WalksMore
import PySem.Challenge.RW_handnames_k31_what_machines_tell
set_option Elab.async false
set_option linter.all false
set_option bootstrap.genMatcherCode false
set_option maxRecDepth 100000
set_option maxHeartbeats 4000000
local macro_rules (kind:=Lean.Parser.Command.declaration)
|s=>do
 if (s[1].isOfKind ``Lean.Parser.Command.definition||s[1].isOfKind ``Lean.Parser.Command.abbrev)&&s[0].getArgs.all (·.isNone) then return s.setArg 0 (<-`(command|noncomputable def x:=0)).raw[0]
 else Lean.Macro.throwUnsupported
local macro_rules|`(tactic|omega)=>`(tactic|first|with_reducible assumption|with_reducible exact Nat.le_refl _|exact Nat.zero_le _|exact Nat.succ_pos _|exact Nat.le_of_lt (by with_reducible assumption)|exact Nat.lt_succ_of_le (by with_reducible assumption)|exact Nat.le_trans (by with_reducible assumption) (by decide)|exact Nat.lt_of_le_of_lt (by with_reducible assumption) (by decide)|exact Nat.lt_of_lt_of_le (by with_reducible assumption) (by decide)|lia|omega +splitDisjunctions)
namespace PySem.W.Fast
def tw12958935604058166164:=0
def tw10635773670871553242:=0
def tw8368318844815823810:=0
def tw10299682412228730076:=0
def tw4409092570059598207:=0
def tw3646936918663003720:=0
def tw946417775899198613:=0
def tw11313812189259703374:=0
def tw4835334966529258754:=0
def tw6062160884647355322:=0
def tw14796099076007738673:=0
def tw10059433299940101409:=0
def tw13076075168991985144:=0
def tw6923615337360303248:=0
def tw7418905267303009547:=0
def tw16608303219686706327:=0
def tw12126406557710321266:=0
def tw16607811444424561260:=0
def tw10598460199636849142:=0
def tw8016828019565514393:=0
def tw14067415075567264907:=0
def tw2575668753052366959:=0
def tw14745055292241078332:=0
def tw11308289972400043544:=0
def tw5312765614446444173:=0
def tw15159956667006133785:=0
def tw15059411737273216718:=0
def tw4296002449624274402:=0
def tw12321456757001250218:=0
def tw12181397939704960933:=0
def tw2990338642006574445:=0
def tw13829170110133928294:=0
def tw16238995346836163924:=0
def tw3919136860352399107:=0
def tw976712779720294598:=0
def tw13061657629547399312:=0
def tw15461884084706670112:=0
def tw1434753160937065015:=0
def tw10220575776625417923:=0
def tw2097113210682382008:=0
def tw15318984218362907498:=0
def tw16629879537803456942:=0
def tw3765416027945902248:=0
def tw7731257931239646145:=0
def tw12832599741434811914:=0
def tw3855820807629219145:=0
def tw2091963337159507397:=0
def tw3626883341134911182:=0
def tw5446597709993279599:=0
def tw2419408088118595872:=0
def tw3686284579669567183:=0
def tw1567505583183707453:=0
def tw336347834370560951:=0
def tw18152256018357264152:=0
def tw10494484824701470442:=0
def tw9757312665163415400:=0
def tw1554443988312135284:=0
def tw17437462403601475567:=0
def tw2637609020843852221:=0
def tw7171837350323100024:=0
def tw11609473135485352142:=0
def tw18223635684843536479:=0
def tw6076216741282565228:=0
def tw16906554866232713916:=0
def tw10637583984508156488:=0
def tw17097061600793373092:=0
def tw284354834699692293:=0
def tw17729348844125404024:=0
def tw4778432513235522927:=0
def tw15908428694856641918:=0
def tw16199114372853252732:=0
def tw12076308096079208596:=0
def tw9188670910550670452:=0
def tw17042031473334349746:=0
def tw9969409866458473213:=0
def tw14984862301701082173:=0
def tw454277526716518246:=0
def tw11987367984201255108:=0
def tw17160547619440857188:=0
def tw3441160815007184379:=0
def tw429795783306914530:=0
def tw5777674463294527734:=0
def tw13368204920354113502:=0
def tw9068339033788431456:=0
def tw9899961033740697441:=0
def tw16395893378394712713:=0
def tw4290524373311126655:=0
def tw15401886289718030915:=0
def tw4777017662152944263:=0
def tw15530180579723560183:=0
def tw3310743102737124407:=0
def tw15760672815776536679:=0
def tw14209768973967707427:=0
def tw7046626307935255070:=0
def tw9333665087090156380:=0
def tw4517875829090727620:=0
def tw17460271263266566139:=0
def tw5189233988749895907:=0
def tw1226891457165047863:=0
def tw10391728743410450895:=0
def tw7451547007687164997:=0
def tw14826782736142699114:=0
def tw10622675549018584508:=0
def tw9142277205811603420:=0
def tw5426310595247731264:=0
def tw13266372766375138717:=0
def tw1769020867705541389:=0
def tw12199812153277708968:=0
def tw15537624899399045454:=0
def tw4048501758264606056:=0
def tw9305682306452134851:=0
def tw9665725862681105598:=0
def tw2286113408404242287:=0
def tw12975149002573449052:=0
def tw7365213499695961958:=0
def tw6014741516971434052:=0
def tw4871940303375244358:=0
def tw10883999292238656755:=0
def tw12478286993329381549:=0
def tw15320422127802341287:=0
def tw5852488522616549774:=0
def tw10036031097388099678:=0
def tw16227357142104939391:=0
def tw16195639228218801185:=0
def tw15052937093222373550:=0
def tw16277565985292589964:=0
def tw15427307530650319081:=0
def tw10938572035422017563:=0
def tw10287966731645120796:=0
def tw11559645834366999127:=0
def tw11999618156905349063:=0
def tw1425649553819968883:=0
def tw5208980461676916973:=0
def tw407652637133083590:=0
def tw2033139931529022063:=0
def tw18031251485775647663:=0
def tw12075314924331305802:=0
def tw16804876020533352209:=0
def tw1932966965892505336:=0
def tw195876869208108329:=0
def tw11584852502763296974:=0
def tw4319681546400344618:=0
def tw15584068302235158769:=0
def tw3311721383641156991:=0
def tw1377924855408931939:=0
def tw8523397362553989782:=0
def tw8734613670981363650:=0
def tw15602706200892855113:=0
def tw13839412821099888067:=0
def tw8194257678580847268:=0
def tw17037359170563556745:=0
def tw11536270215021692584:=0
def tw12456920028123770657:=0
def tw12640995620971030648:=0
def tw5180793321038915261:=0
def tw12090165734537494998:=0
def tw5796891107015008404:=0
def tw16990425338387878183:=0
def tw3086967673508242563:=0
def tw3170893716743375483:=0
def tw3475229565132635402:=0
def tw6855957248817023797:=0
def tw7278110177713812767:=0
def tw11225432099063537507:=0
def tw14941349095521269736:=0
def tw9084624442203585451:=0
def tw6059865129281032110:=0
def tw12788426058243967566:=0
def tw6808821544145783938:=0
def tw11807739989832895897:=0
def tw15264354152543851123:=0
def tw10159480862747108374:=0
def tw11807433608939992696:=0
def tw10416620235256107256:=0
def tw12791725713497308225:=0
def tw18129382641271776801:=0
def tw3658719115042666286:=0
def tw14856278995871342861:=0
def tw10455190168498145508:=0
def tw9172876019809528265:=0
def tw50833625032256618:=0
def tw706095749372965804:=0
def tw15771752710050825968:=0
def tw567671774795004548:=0
def tw8130911850691935582:=0
def tw1150350812990276739:=0
def tw77310800170288420:=0
def tw8785801137124172356:=0
def tw16694409245964876783:=0
def tw17814064438908687059:=0
def tw11427336243137629215:=0
def tw16156164456257245462:=0
def tw4354726700050771336:=0
def tw10929067969250473592:=0
def tw17209127193010290508:=0
def tw10680004369018095689:=0
def tw16595984831795131928:=0
def tw470453123901810071:=0
def tw841943813052289409:=0
def tw14333137128760031015:=0
def tw8385575283682664278:=0
def tw3217838868670488014:=0
def tw16660178488181604817:=0
def tw17871759222743718657:=0
def tw3831722544376303069:=0
def tw7278406197298058383:=0
def tw5389328861014096477:=0
def tw15506851798286923268:=0
def tw10385890143976329219:=0
def tw17207276289795641195:=0
def tw78612858204456011:=0
def tw7394540320436636320:=0
def tw9509339279727770421:=0
def tw7149973041833502062:=0
def tw10387918841091635023:=0
def tw15503611678801440626:=0
def tw10920535143092289551:=0
def tw7574951693268776746:=0
def tw14585908891464668999:=0
def tw16891055049086055806:=0
def tw16858840150258503286:=0
def tw16473801801629105506:=0
def tw16139538318458478595:=0
def tw12693070459359456240:=0
def tw9072662668437742464:=0
def tw7172764246424195131:=0
def tw1281003352530303582:=0
def tw7518104008025323719:=0
def tw6412502571137051002:=0
def tw8853315831890986297:=0
def tw6360861812387464826:=0
def tw11768829849927212931:=0
def tw15459257116189327332:=0
def tw3552699496440610492:=0
def tw12851214875549080415:=0
def tw3111283081143752727:=0
def tw14334548988723681888:=0
def tw13776851863327976409:=0
def tw1551209030076199904:=0
def tw17096521210695496589:=0
def tw12722729030490156148:=0
def tw10105868625899045733:=0
def tw264817379704973899:=0
def tw4163246513055654239:=0
def tw17393349445193758090:=0
def tw16216326060917622935:=0
def tw13908174449148114138:=0
def tw8100922680711999119:=0
def tw1033818496237986819:=0
def tw8918502329368118345:=0
def tw5936400505427425530:=0
def tw9944445174236940510:=0
def tw13904585686900376934:=0
def tw7774271071692432666:=0
def tw9347413449040910071:=0
def tw4038246504149296865:=0
def tw265409506804282210:=0
def tw2038962710187551670:=0
def tw15309581360790695913:=0
def tw13049252309866208732:=0
def tw5846680130855988993:=0
def tw14187757974583987996:=0
def tw3114002544820896480:=0
def tw911614430176388183:=0
def tw4029014124834583023:=0
def tw3321336762776537438:=0
def tw13888023336912983791:=0
def tw7024727268179819729:=0
def tw1103445387556607772:=0
def tw14485671225176993850:=0
def tw15240271766886567086:=0
def tw6122471317791006354:=0
def tw1714986267952443657:=0
def tw4597565757682664903:=0
def tw18384977618496660755:=0
def tw8845497604312217935:=0
def tw11717872047417140742:=0
def tw13418841083407950205:=0
def tw9835429006457991371:=0
def tw4066277184964957594:=0
def tw13191276030505146583:=0
def tw17930658282949010813:=0
def tw10222602188993411257:=0
def tw11161633516133905772:=0
def tw17419431961602204673:=0
def tw15009755180673817194:=0
def tw1003735108804968713:=0
def tw13911211706836191353:=0
def tw16676365606069912545:=0
def tw11330586325924391232:=0
def tw11616410944354375495:=0
def tw9345650840549332791:=0
def tw3340063743364289218:=0
def tw2851441825102163531:=0
def tw13627958899188621933:=0
def tw2132577343454047959:=0
def tw7836562727982050505:=0
def tw756707278796355825:=0
def tw6284058230090265783:=0
def tw6381923494625557746:=0
def tw13705850069750943976:=0
def tw17041395234128968849:=0
def tw18071144155677526809:=0
def tw2938721215515557670:=0
def tw7830058789179004154:=0
def tw8680417847545760438:=0
def tw16086419058694615877:=0
def tw4914167002444317462:=0
def tw7871822783069139143:=0
def tw18286921607956237339:=0
def tw3334459902285097479:=0
def tw3938658627637531362:=0
def tw2851615844160489216:=0
def tw2198456102742850930:=0
def tw15545378029438974959:=0
def tw3361368559608735572:=0
def tw13350612569024560684:=0
def tw8806854226117149529:=0
end PySem.W.Fast
def Hy:=@List.length_map
def Hz:=@PySem.wpAny_bind
def HN:=@List.getElem?_eq_some_iff
def HP:=@List.getElem?_eq_getElem
def HQ:=@PySem.wpAny_pure
def HR:=@PySem.Heap.get?_push_of_some
def HS:=@Bool.and_eq_true
def HU:=@Bool.false_ne_true
def HV:=@Nat.le_refl
def HW:=@List.getElem?_append_left
def HX:=@PySem.Heap.lt_size
def HY:=@List.mem_cons_self
def HZ:=@List.getElem?_set_ne
def Ia:=@decide_eq_true
def Ib:=@List.size_toArray
def Ic:=@List.mem_cons_of_mem
def Ie:=@List.getElem?_map
def Ig:=@Nat.ne_of_lt
def Ih:=@PySem.Heap.get?_push_size
def Ii:=@List.mem_cons
def Ij:=@List.length_set
def Ik:=@List.mem_append_right
def Il:=@List.length_range
def Im:=@decide_eq_false
def Io:=@List.mem_of_getElem?
def Ip:=@Nat.lt_of_lt_of_le
def Iq:=@PySem.sizeLine_eq
def Ir:=@Nat.le_trans
def Iu:=@of_decide_eq_true
def Iv:=@Option.some.inj
def Iw:=@List.mem_range
def Ix:=@List.all_eq_true
def Iy:=@List.map_set
def Iz:=@decide_eq_true_eq
def IA:=@List.getElem?_set_self
def IB:=@List.getElem?_append_right
def IC:=@List.mem_append
def ID:=@List.mem_singleton
def IE:=@List.countP_eq_length_filter
def IF:=@List.append_nil
def IG:=@List.getD_eq_getElem?_getD
def IH:=@List.countP_le_length
def II:=@List.map_cons
def IJ:=@PySem.wpAny_mono
def IK:=@PySem.wpAny_newObj_type
def IL:=@Option.isNone_iff_eq_none
def IM:=@List.mem_filter
def IN:=@List.map_append
def IP:=@Nat.lt_succ_self
def IQ:=@List.all_cons
def IR:=@List.getElem?_eq_none
def IS:=@List.length_filter_le
def IT:=@PyProof.Rows.callWith_type1
def IU:=@PySem.lookup_relabel_local
def IV:=@List.length_cons
def IW:=@Array.getElem?_eq_getElem
def IY:=@PySem.Heap.get?_update_self
def IZ:=@Option.isSome_iff_exists
def Ja:=@PySem.wpAny_Call_Name_kw
def Jb:=@List.getElem?_replicate
def Jc:=@PySem.W.mg_of
def Jd:=@Bool.not_eq_true'
def Je:=@List.take_succ_eq_append_getElem
def Jf:=@List.filter_eq_self
def Jg:=@PyProof.Rows.slot_tuple_getitem
def Jh:=@List.length_replicate
def Ji:=@List.countP_mono_left
def Jj:=@Option.bind_some
def Jk:=@List.getElem_mem
def Jl:=@List.filter_append
def Jm:=@PySem.wpAny_holding
def Jn:=@PySem.wpAny_field
def Jo:=@Nat.le_succ
def Jp:=@Nat.zero_le
def Jq:=@Nat.lt_succ_of_lt
def Jr:=@List.nodup_cons
def Js:=@List.find?_cons
def Jt:=@PySem.W.kia_one
def Ju:=@List.replicate_succ
def Jv:=@List.getElem_of_mem
def Jw:=@Option.map_eq_some_iff
def Jx:=@List.length_pos_of_mem
def Jy:=@List.countP_cons
def Jz:=@List.length_append
def JA:=@PySem.call_meets
def JB:=@Bool.false_eq_true
def JC:=@List.pairwise_cons
def JD:=@Array.getElem?_toList
def JE:=@List.getElem?_eq_none_iff
def JF:=@PySem.wpAny_passesOwn
def JG:=@List.forIn_cons
def JH:=@Int.natCast_mul
def JI:=@List.range_succ
def JJ:=@List.ext_getElem?
def JK:=@PySem.F.slot_tuple_count
def JL:=@PySem.mem_of_lookup
def JM:=@Array.length_toList
def JN:=@PySem.wpAny_callSpecial?_slot
def JO:=@List.lookup_cons
def JP:=@PySem.Heap.size_push
def JQ:=@Int.eq_ofNat_of_zero_le
def JR:=@Int.natCast_ediv
def JS:=@PySem.Heap.get?_update_other
def JT:=@PySem.wpAny_pyIter_tuple
def JU:=@PySem.PyData.shownAll_length
def JV:=@PySem.wpAny_execs_nil
def JW:=@List.flatten_cons
def JX:=@Int.toNat_natCast
def JY:=@PySem.codeAny_mono
def JZ:=@List.length_take
def Ka:=@PySem.wpAny_call_entry
def Kb:=@Nat.le_of_not_lt
def Kc:=@List.map_map
def Kd:=@PySem.wpAny_binaryOp_repeat_ref
def Ke:=@List.mem_or_eq_of_mem_set
def Kf:=@beq_eq_false_iff_ne
def Kg:=@PySem.Heap.get?_update_ne
def Kh:=@List.getElem?_range
def Ki:=@List.countP_pos_iff
def Kj:=@Nat.lt_irrefl
def Kk:=@PySem.wpAny_standAt
def Kl:=@PySem.F.args_tuple_add_2
def Km:=@List.any_cons
def Kn:=@PySem.wpAny_comprehension_free
def Ko:=@PySem.F.plainAttrs_tuple
def Kp:=@beq_iff_eq
def Kq:=@PySem.wpAny_call
def Kr:=@PySem.W.callWith_K
def Ks:=@PySem.tupleKind_room_in1
def Kt:=@Int.emod_lt_of_pos
def Ku:=@PySem.F.entry_tuple_add
def Kv:=@PySem.F.plainAttrs_list
def Kw:=@List.filter_cons_of_neg
def Kx:=@List.findIdx?_eq_some_iff_getElem
def Ky:=@PySem.F.slot_tuple_add
def Kz:=@PySem.Calls.callWith_builtin
def KA:=@PySem.codeAny_compStart_list
def KC:=@PySem.PyData.noDict_hsm
def KD:=@PySem.wpAny_setField
def KE:=@List.nodup_append
def KF:=@PySem.wpAny_pyIter_enum
def KG:=@List.set_getElem_self
def KH:=@PyProof.Rows.callWith_builtin1
def KI:=@PySem.typeIs_int
def KJ:=@List.not_mem_nil
def KL:=@List.take_length
def KM:=@PySem.Calls.evalArgs_plain
def KN:=@PySem.wpAny_newFunctionEnv
def KO:=@PySem.codeAny_call_builtin
def KP:=@List.mem_of_mem_tail
def KQ:=@Bool.eq_iff_iff
def KR:=@List.find?_some
def KS:=@Int.emod_nonneg
def KU:=@List.filter_nil
def KW:=@List.filterMap_cons
def KY:=@List.mem_map
def KZ:=@PySem.Calls.Name_function_global
def La:=@PySem.Calls.spliced_cons
def Lb:=@List.forIn_nil
def Ld:=@PyProof.Rows.isRef_of_reads
def Le:=@PySem.wpAny_loadPart
def Lf:=@PySem.F.excBase_ValueError
def Lg:=@PySem.F.args_tuple_count_2
def Lh:=@PyProof.Rows.listItems_at
def Li:=@PySem.F.entry_tuple_count
def Lj:=@PySem.SeqAt.tuple_countAt
def Lk:=@PySem.Calls.spliced_nil
def Ll:=@Option.isSome_map
def Lm:=@bne_self_eq_false
def Ln:=@List.countP_congr
def Lo:=@PyProof.Rows.tupleItemsOf_
def Lp:=@PySem.strLen_append
def Lq:=@PySem.F.type_tuple_count
def Lr:=@Bool.and_self
def Ls:=@List.length_erase_of_mem
def Lu:=@PySem.wpAny_execs_cons
def Lv:=@PySem.noFill_tuple_add
def Lw:=@Nat.succ_ne_self
def Lx:=@List.filter_cons_of_pos
def Ly:=@Nat.le_of_lt
def Lz:=@PySem.wpAny_typeOf
def LA:=@Int.ne_of_gt
def LB:=@Int.le_trans
def LC:=@List.of_mem_zip
def LD:=@Option.map_some
def LF:=@Bool.or_eq_true
def LG:=@List.countP_map
def LH:=@if_false
def LI:=@PySem.seq_tuple_add
namespace L2
open PySem PySem.Spec PyProof.Rows
abbrev Key:=Sum Int Str
def cG:Key->Value->Bool
 | .inl k,v=>Value.isInt k v
 | .inr x,v=>Value.isStrOf x v
def HA (w:World):Key->Int
 | .inl k=>hashInt k
 | .inr x=>hashStr w x
theorem j9:∀ {k:Key} {v:Value},cG k v=true->(∃ i t,k=Sum.inl i/\v=Value.int i t)\/(∃ x t,k=Sum.inr x/\v=Value.str x t)
 | .inl i,v,h=>by
  obtain ⟨t,e⟩:=Value.isInt_shape h;exact .inl ⟨i,t,rfl,e⟩
 | .inr x,v,h=>by
  obtain ⟨t,e⟩:=Value.isStrOf_shape h;exact .inr ⟨x,t,rfl,e⟩
theorem lI (i:Int) (t:Tok):cG (.inl i) (.int i t)=true:=by simp [cG,Value.isInt]
theorem mQ (x:Str) (t:Tok):cG (.inr x) (.str x t)=true:=by simp [cG,Value.isStrOf]
theorem zQ (a b:Int):decide ((Sum.inl a:Key)=Sum.inl b)=(a==b):=by grind
theorem AB (a b:Str):decide ((Sum.inr a:Key)=Sum.inr b)=decide (a=b):=by grind
theorem zr (a:Int) (b:Str):decide ((Sum.inl a:Key)=Sum.inr b)=false:=by grind
theorem BP (a:Str) (b:Int):decide ((Sum.inr a:Key)=Sum.inl b)=false:=by grind
def k7 (prog:Program) (w:World):PySem.KeyKind prog w Key where
 is:=cG
 hash:=HA w
 inj:=λv a b f d=>by
  rcases j9 f with ⟨i,t,rfl,rfl⟩ | ⟨x,t,rfl,rfl⟩
  ·rcases j9 d with ⟨j,u,rfl,e⟩ | ⟨y,u,rfl,e⟩
   ·grind
   ·exact nomatch e
  ·rcases j9 d with ⟨j,u,rfl,e⟩ | ⟨y,u,rfl,e⟩
   ·exact nomatch e
   ·grind
 byValue:=λk v h=>by
  rcases j9 h with ⟨i,t,rfl,rfl⟩ | ⟨x,t,rfl,rfl⟩ <;> rfl
 pyHash:=λc h=>by
  rcases j9 c with ⟨i,t,rfl,rfl⟩ | ⟨x,t,rfl,rfl⟩
  ·exact wpAny_pyHash_int h
  ·exact wpAny_pyHash_str h
 eqBool:=λg c h=>by
  rcases j9 g with ⟨i,t,rfl,rfl⟩ | ⟨x,t,rfl,rfl⟩
  ·rcases j9 c with ⟨j,u,rfl,rfl⟩ | ⟨y,u,rfl,rfl⟩
   ·rw [zQ] at h;exact wpAny_eqBool_int h
   ·rw [zr] at h;exact SeqAt.EqAt.int_str i t y u _ _ _ _ h
  ·rcases j9 c with ⟨j,u,rfl,rfl⟩ | ⟨y,u,rfl,rfl⟩
   ·rw [BP] at h;exact SeqAt.EqAt.str_int x t j u _ _ _ _ h
   ·rw [AB] at h;exact wpAny_eqBool_str h
 «strs»:=λk x t v h=>by
  rcases j9 h with ⟨i,u,rfl,e⟩ | ⟨y,u,rfl,e⟩
  ·exact nomatch e
  ·injection e with e1 _;subst e1;cases v <;> rfl
theorem gI (prog:Program) (w:World) (i:Int) (t:Tok):(k7 prog w).is (.inl i) (.int i t)=true:=lI i t
theorem gC (prog:Program) (w:World) (x:Str) (t:Tok):(k7 prog w).is (.inr x) (.str x t)=true:=mQ x t
inductive V where
 | non | bl (b:Bool) | int (i:Int) | str (x:Str) | byt (b:Array UInt8) | flt (b:UInt64) | ref (a:Addr) | ty (n:String)
 deriving DecidableEq
def RelV:V->Value->Prop
 | .non,u=>u=Value.none
 | .bl b,u=>u=Value.bool b
 | .int i,u=>∃ t,u=Value.int i t
 | .str x,u=>∃ t,u=Value.str x t
 | .byt b,u=>∃ t,u=Value.bytes b t
 | .flt b,u=>∃ t,u=Value.float b t
 | .ref a,u=>u=Value.ref a
 | .ty n,u=>u=Value.type n
abbrev Vals:List V->List Value->Prop:=Paired RelV
theorem Vals.length (r:Vals xs us):xs.length=us.length:=Paired.length r
theorem Vals.get:∀ {xs:List V} {us:List Value} {i:Nat} {x:V},Vals xs us->xs[i]?=some x->∃ u,us[i]?=some u/\RelV x u
 | _,_,_,_,.nil,e=>by simp at e
 | _,_,0,_,.cons r _,e=>by simp at e;subst e;exact ⟨_,rfl,r⟩
 | _,_,i+1,x,.cons _ t,e=>by
  obtain ⟨u,b,a⟩:=Vals.get t (by simpa using e);exact ⟨u,by simpa using b,a⟩
theorem Vals.set (r:RelV x u):∀ {xs:List V} {us:List Value} (i:Nat),Vals xs us->Vals (xs.set i x) (us.set i u)
 | _,_,_,.nil=>.nil
 | _,_,0,.cons _ t=>.cons r t
 | _,_,i+1,.cons q t=>.cons q (Vals.set r i t)
theorem Vals.append:∀ {xs ys:List V} {us ws:List Value},Vals xs us->Vals ys ws->Vals (xs++ys) (us++ws)
 | _,_,_,_,.nil,s=>s
 | _,_,_,_,.cons r t,s=>.cons r (Vals.append t s)
theorem Vals.take:∀ {xs:List V} {us:List Value} (n:Nat),Vals xs us->Vals (xs.take n) (us.take n)
 | _,_,0,_=>.nil
 | _,_,_+1,.nil=>.nil
 | _,_,n+1,.cons r t=>.cons r (Vals.take n t)
theorem Vals.drop:∀ {xs:List V} {us:List Value} (n:Nat),Vals xs us->Vals (xs.drop n) (us.drop n)
 | _,_,0,r=>r
 | _,_,_+1,.nil=>.nil
 | _,_,n+1,.cons _ t=>Vals.drop n t
def RelO:Option V->Option Value->Prop
 | some v,some u=>RelV v u
 | none,none=>True
 | _,_=>False
def KV {κ:Type}:List (κ×V)->List (κ×Value)->Prop:=Paired λ(p:κ×V) (q:κ×Value)=>p.1=q.1/\RelV p.2 q.2
def kV:Key->V
 | .inl i=>.int i
 | .inr x=>.str x
inductive HO where
 | lst (xs:List V)
 | tup (xs:List V)
 | dK (kvs:List (Key×V)) | dT (kvs:List (List Key×V))
 | set (S:Int->Bool) (n:Nat)
 | ins (C dx:Addr) (fs:List (Str×V))
 | own (x:Addr)
 | xd (fs:List (Str×V))
 | met (f x:Addr)
 | rng (lo hi:Int)
 | frz (o:Obj) (u:HO)
 | tbl (ps:Array Value)
 | ext (φ:Heap->Prop)
abbrev Hp:=Addr->Option HO
def upd (H:Hp) (a:Addr) (o:HO):Hp:=λb=>if b=a then some o else H b
theorem b8:upd H a o a=some o:=by unfold upd;rw [if_pos rfl]
theorem b6 {a b:Addr} {o:HO} (h:b≠a):upd H a o b=H b:=by unfold upd;rw [if_neg h]
theorem jp {H:Hp} {a b:Addr} {o u:HO} (h:H a=some o) (h':H b=some u) (d:o≠u):a≠b:=by grind
theorem c8 {H:Hp} {a b:Addr} {o:HO} (h:H a=some o) (h':H b=none):a≠b:=by grind
def TupN (h:Heap) (a:Addr) (items:Array Value):Prop:=∃ o,h.get? a=some o/\o.cls=.type "tuple"/\∃ n,o.data=.seq items n/\o.dict=none
theorem TupN.is (x:TupN h a items):IsTup h a items:=let ⟨o,e,c,n,d,_⟩:=x;⟨o,e,c,n,d⟩
theorem TupN.new (h:Heap) (items:Array Value):TupN (h.push { cls:=.type "tuple",data:=.seq items }) h.objs.size items:=⟨_,Ih _ rfl,rfl,_,rfl,rfl⟩
section
variable (P:Program) (w:World)
def ObjOk (H:Hp) (h:Heap) (a:Addr):HO->Prop
 | .lst xs=>xs.length<=sizeLine/\∃ (b:List Value) (n:Nat),Vals xs b/\h.get? a=some { cls:=.type "list",data:=.seq b.toArray n }
 | .tup xs=>xs.length<=sizeLine/\∃ b:List Value,Vals xs b/\TupN h a b.toArray
 | .dK c=>c.length<=sizeLine/\(a==sysModules)=false/\∃ vs,KV c vs/\h.DictOf (k7 P w) a vs
 | .dT c=>c.length<=sizeLine/\(a==sysModules)=false/\∃ xs:List (List Key×Addr×Value),
   Paired (λ(p:List Key×V) (q:List Key×Addr×Value)=>p.1=q.1/\H q.2.1=some (.tup (p.1.map kV))/\RelV p.2 q.2.2) c xs /\
   ∃ o es k,h.get? a=some o/\o.ExactDict/\o.data=.dict es k/\es.toList=xs.map (entryOfKey (tupleKind (k7 P w)))/\(xs.map (·.1)).Nodup
 | .set S n=>h.SetOf (intKind P w) a S n
 | .ins C d fs=>H d=some (.own a)/\fs.length<=1000/\d≠a/\h.get? a=some (PySem.W.instObj C d) /\
   ∃ mA,h.Ns1 d mA/\(∀ f,RelO (fs.lookup f) (mA f))/\PySem.Within mA (fs.map (·.1))
 | .own _=>∃ o,h.get? a=some o
 | .xd fs=>∃ mA,h.Ns1 a mA/\∀ f,RelO (fs.lookup f) (mA f)
 | .rng lo j=>∃ t u v,h.get? a=some { cls:=.type "range",data:=.fields #[.int lo t,.int j u,.int 1 v] }
 | .frz o u=>h.get? a=some o/\ObjOk H h a u
 | .tbl ps=>h.get? a=some { cls:=.none,data:=.fields ps }
 | .met f x=>h.get? a=some (PySem.W.methodObj (.ref f) (.ref x))
 | .ext e=>e h/\(∃ o,h.get? a=some o)/\∀ g i:Heap,e g->(∀ o,g.get? a=some o->i.get? a=some o)->e i
def HOk (H:Hp) (h:Heap):Prop:=∀ a o,H a=some o->ObjOk P w H h a o
end
section
variable {P:Program} {w:World} {H H':Hp} {h h':Heap} {a:Addr} {o:HO}
theorem ObjOk.lt (x:ObjOk P w H h a o):a<h.objs.size:=by
 cases o with
 | lst xs=>obtain ⟨_,_,_,_,e⟩:=x;exact HX e
 | tup xs=>obtain ⟨_,_,_,p⟩:=x;exact p.is.lt
 | dK kvs=>obtain ⟨_,_,_,_,o,_,_,e,_⟩:=x;exact HX e
 | dT kvs=>obtain ⟨_,_,_,_,o,_,_,e,_⟩:=x;exact HX e
 | set S n=>obtain ⟨o,_,_,_,e,_⟩:=x;exact HX e
 | ins C dx fs=>obtain ⟨_,_,_,e,_⟩:=x;exact HX e
 | own y=>obtain ⟨_,e⟩:=x;exact HX e
 | xd fs=>obtain ⟨_,⟨_,_,_,e,_⟩,_⟩:=x;exact HX e
 | rng lo hi=>obtain ⟨_,_,_,e⟩:=x;exact HX e
 | frz ob u=>obtain ⟨e,_⟩:=x;exact HX e
 | tbl ps=>exact HX (x)
 | met f y=>exact HX (x)
 | ext φ=>obtain ⟨_,⟨_,e⟩,_⟩:=x;exact HX e
theorem Paired.mapP:∀ {c:List α} {d:List β},Paired F c d->(∀ a b,F a b->G a b)->Paired G c d
 | _,_,.nil,_=>.nil
 | _,_,.cons r t,f=>.cons (f _ _ r) (Paired.mapP t f)
theorem ObjOk.stay (x:ObjOk P w H h a o) (k:∀ b u,(b=a\/H b=some (.own a))->h.get? b=some u->h'.get? b=some u)
  (ho:∀ b,H b=some (.own a)->H' b=some (.own a)) (ht:∀ b xs,H b=some (.tup xs)->H' b=some (.tup xs)):ObjOk P w H' h' a o:=by
 induction o with
 | lst xs=>obtain ⟨z,its,n,r,e⟩:=x;exact ⟨z,its,n,r,k _ _ (.inl rfl) e⟩
 | tup xs=>obtain ⟨z,its,r,ob,e,c⟩:=x;exact ⟨z,its,r,ob,k _ _ (.inl rfl) e,c⟩
 | dK kvs=>obtain ⟨z,y,vs,r,ob,es,ep,e,c⟩:=x;exact ⟨z,y,vs,r,ob,es,ep,k _ _ (.inl rfl) e,c⟩
 | dT kvs=>
  obtain ⟨z,y,xs,r,ob,es,ep,e,c⟩:=x;exact ⟨z,y,xs,Paired.mapP r λp q z=>⟨z.1,ht _ _ z.2.1,z.2.2⟩,ob,es,ep,k _ _ (.inl rfl) e,c⟩
 | set S n=>obtain ⟨ob,es,ep,t,e,c⟩:=x;exact ⟨ob,es,ep,t,k _ _ (.inl rfl) e,c⟩
 | ins C dx fs=>
  obtain ⟨d,z,ne,e,mA,⟨od,es,ep,e2,c⟩,r⟩:=x;exact ⟨ho _ d,z,ne,k _ _ (.inl rfl) e,mA,⟨od,es,ep,k _ _ (.inr d) e2,c⟩,r⟩
 | own y=>obtain ⟨ob,e⟩:=x;exact ⟨ob,k _ _ (.inl rfl) e⟩
 | xd fs=>obtain ⟨mA,⟨od,es,ep,e,c⟩,r⟩:=x;exact ⟨mA,⟨od,es,ep,k _ _ (.inl rfl) e,c⟩,r⟩
 | rng lo hi=>obtain ⟨t,u,v,e⟩:=x;exact ⟨t,u,v,k _ _ (.inl rfl) e⟩
 | frz ob u ih=>obtain ⟨e,q⟩:=x;exact ⟨k _ _ (.inl rfl) e,ih q⟩
 | tbl ps=>
  have e:=x;exact k a _ (.inl rfl) e
 | met f y=>
  have e:=x;exact k a _ (.inl rfl) e
 | ext φ=>obtain ⟨p,⟨o,e⟩,st⟩:=x;exact ⟨st _ _ p λo q=>k _ _ (.inl rfl) q,⟨o,k _ _ (.inl rfl) e⟩,st⟩
theorem HOk.lt (x:HOk P w H h) (e:H a=some o):a<h.objs.size:=(x a o e).lt
theorem HOk.fresh (x:HOk P w H h) (e:h.objs.size<=a):H a=none:=by
 cases q:H a with
 | none=>rfl
 | some u=>exact absurd (Ip (x.lt q) e) (Kj _)
theorem HOk.kept (x:HOk P w H h) (k:∀ b u,h.get? b=some u->h'.get? b=some u):HOk P w H h':=λa o e=>
 (x a o e).stay (λb u _ q=>k b u q) (λ_ q=>q) λ_ _ q=>q
theorem HOk.laid (x:HOk P w H h) (k:∀ b u,h.get? b=some u->h'.get? b=some u) (i:h.objs.size<=a) (d:ObjOk P w (upd H a o) h' a o):HOk P w (upd H a o) h':=λb u e=>by
 have g:=x.fresh i;by_cases f:b=a
 ·subst f;rw [b8] at e;cases e;exact d
 ·rw [b6 f] at e;exact (x b u e).stay (λc v _ q=>k c v q) (λc q=>by rw [b6 (c8 q g)];exact q) λc xs q=>by rw [b6 (c8 q g)];exact q
end
def Rd (H:Hp) (a:Addr) (u:HO):Prop:=H a=some u\/∃ o,H a=some (.frz o u)
theorem Rd.ok {H:Hp} {h:Heap} {a:Addr} {u:HO} (r:Rd H a u) (x:HOk P w H h):ObjOk P w H h a u:=by
 rcases r with r | ⟨o,r⟩
 ·exact x a u r
 ·obtain ⟨_,q⟩:=x a _ r;exact q
def Mut:Option HO->Prop
 | some (.lst _)=>True
 | some (.dK _)=>True
 | some (.dT _)=>True
 | some (.set _ _)=>True
 | some (.ins _ _ _)=>True
 | some (.ext _)=>True
 | _=>False
section
variable {P:Program} {w:World} {H:Hp} {h h':Heap} {x e:Addr} {o':HO}
theorem HOk.write (s:HOk P w H h) (g:Mut (H x)) (o:e=x\/H e=some (.own x)) (k:∀ b u,b≠e->h.get? b=some u->h'.get? b=some u) (i:∃ u,h'.get? e=some u)
  (j:ObjOk P w (upd H x o') h' x o'):HOk P w (upd H x o') h':=λb u q=>by
 have f:∀ c y,H c=some (.own y)->c≠x:=λc y r z=>by subst z;rw [r] at g;exact g
 have d:∀ c xs,H c=some (.tup xs)->c≠x:=λc xs r z=>by subst z;rw [r] at g;exact g
 by_cases l:b=x
 ·subst l;rw [b8] at q;cases q;exact j
 ·rw [b6 l] at q;by_cases a:b=e
  ·have n:H b=some (.own x):=by
    rcases o with z | z
    ·grind
    ·rw [a];exact z
   rw [q] at n;cases n;obtain ⟨v,p⟩:=i;exact ⟨v,by rw [a];exact p⟩
  ·refine (s b u q).stay (λc v m r=>k c v ?_ r) (λc r=>by rw [b6 (f c b r)];exact r) λc xs r=>by rw [b6 (d c xs r)];exact r
   rcases m with rfl | m
   ·exact a
   ·grind
end
structure Un (fs ex:List Addr) (H H':Hp) (h h':Heap):Prop where
 keep:∀ b o,h.get? b=some o->H b=none->b∉fs->b∉ex->h'.get? b=some o
 slot:∀ b o,h.get? b=some o->H b=none->b∈fs->b∉ex->∃ sl,h'.get? b=some { o with slots:=sl }
 free:∀ b o,h.get? b=some o->H b=none->b∉ex->H' b=none
 there:∀ b o,h.get? b=some o->b∉ex->∃ o',h'.get? b=some o'
 tups:∀ b xs,H b=some (.tup xs)->H' b=some (.tup xs)
 frzs:∀ b o u,H b=some (.frz o u)->H' b=some (.frz o u)
 tbls:∀ b ps,H b=some (.tbl ps)->∃ more,H' b=some (.tbl (ps++more))
section
variable {fs fs' ex ex':List Addr} {H H1 H2:Hp} {h h1 h2 h':Heap} {a x e:Addr} {o:HO}
theorem Un.any (u:Un fs ex H H1 h h1) {b:Addr} {ob:Obj} (q:h.get? b=some ob) (n:H b=none) (c:b∉ex):∃ d,h1.get? b=some { ob with slots:=d }:=by
 by_cases a:b∈fs
 ·exact u.slot b ob q n a c
 ·exact ⟨ob.slots,u.keep b ob q n a c⟩
theorem Un.kept (k:∀ b u,h.get? b=some u->h'.get? b=some u):Un fs ex H H h h':=
 ⟨λb ob q _ _ _=>k b ob q,λb ob q _ _ _=>⟨ob.slots,k b ob q⟩,λ_ _ _ n _=>n,λb ob q _=>⟨ob,k b ob q⟩,λ_ _ q=>q,λ_ _ _ q=>q,λ_ ps q=>⟨#[],by rw [q];simp⟩⟩
theorem Un.refl:Un fs ex H H h h:=Un.kept λ_ _ q=>q
theorem Un.laid (k:∀ b u,h.get? b=some u->h'.get? b=some u) (d:h.objs.size<=a) (c:H a=none):Un fs ex H (upd H a o) h h' where
 keep:=λb u q _ _ _=>k b u q
 slot:=λb u q _ _ _=>⟨u.slots,k b u q⟩
 free:=λb u q n _=>by rw [b6 (Ig (Ip (HX q) d))];exact n
 there:=λb u q _=>⟨u,k b u q⟩
 tups:=λb xs q=>by rw [b6 (c8 q c)];exact q
 frzs:=λb u xs q=>by rw [b6 (c8 q c)];exact q
 tbls:=λb ps q=>⟨#[],by rw [b6 (c8 q c),q];simp⟩
theorem Un.write (a:Mut (H x)) (i:e=x\/H e=some (.own x)) (k:∀ b u,b≠e->h.get? b=some u->h'.get? b=some u) (g:∃ u,h'.get? e=some u):Un fs ex H (upd H x o) h h':=by
 have d:∀ b,H b=none->b≠x:=λb n z=>by subst z;rw [n] at a;exact a
 have f:∀ b,H b=none->b≠e:=λb n z=>by
  subst z;rcases i with r | r
  ·exact d b n r
  ·rw [n] at r;cases r
 have c:∀ b u,H b=some u->¬ Mut (some u)->b≠x:=λb u q j z=>by subst z;rw [q] at a;exact j a
 refine ⟨λb u q n _ _=>k b u (f b n) q,λb u q n _ _=>⟨u.slots,k b u (f b n) q⟩,λb u q n _=>by rw [b6 (d b n)];exact n,λb u q _=>?_,
  λb xs q=>by rw [b6 (c b _ q λz=>z)];exact q,λb u xs q=>by rw [b6 (c b _ q λz=>z)];exact q,λb ps q=>⟨#[],by rw [b6 (c b _ q λz=>z),q];simp⟩⟩
 grind
end
def trk (h:Heap) (H:Hp):List Addr:=(List.range h.objs.size).filter λa=>(H a).isSome
def ey (h:Heap) (H:Hp):Heap:=PySem.W.hideAll h (trk h H)
theorem lP (h:Heap) (H:Hp):(ey h H).objs.size=h.objs.size:=PySem.W.hideAll_size _ _
theorem nH {H:Hp} {b:Addr} {o:Obj} (e:h.get? b=some o) (n:H b=none):(ey h H).get? b=some o:=
 PySem.W.hideAll_get _ e λa=>by
  have q:=(IM.mp a).2;rw [n] at q;simp at q
theorem wG (e:(ey h H).get? b=some o):h.get? b=some o/\H b=none:=by
 have a:=PySem.W.of_hideAll (trk h H) e;refine ⟨a,?_⟩;cases q:H b with
 | none=>rfl
 | some x=>
  have c:b∈trk h H:=IM.mpr ⟨Iw.mpr (HX a),by simp [q]⟩;have z:(ey h H).get? b=none:=PySem.W.hideAll_none (trk h H) c;rw [z] at e;cases e
structure Mod (K:PySem.W.Frag) (mg:Str->Option Value) (base:Heap):Prop where
 kin:K.In base
 glob:base.Ns mainGlobals mg
 blt:∃ mb,base.Ns builtinsNs mb/\∀ x:Str,x ≠ "__name__"->mb x=bootBuiltins x
 nolimit:base.NoLimit
structure Cx where
 prog:Program
 w:World
 K:PySem.W.Frag
 mg:Str->Option Value
 base:Heap
 A:Around
 N:List Str
 s₀:Shared
 H₀:Hp
 env:Env
 outer:List Env
 stack:List Env
 ex:List Addr
 fn:Str->Bool
 calm:Bool
 pn:List (Addr×Obj)
 xe:Value->Shared->Prop
def frs (l:List Env):List Addr:=l.filterMap (·.frame)
abbrev Cx.fs (X:Cx):List Addr:=frs X.outer
def Vis (a:Scope) (x:Str):Prop:=a.names.lookup x=some .local\/a.names.lookup x=some .cell\/a.names.lookup x=some .free
def Loc (a:Scope) (x:Str):Prop:=a.names.lookup x=some .local\/a.names.lookup x=some .cell
def GP (a:Env) (h:Heap) (m:Str->Option Value) (x:Str) (u:Value):Prop:=
 (a.kindOf x=some .local/\m x=some u)\/((a.kindOf x=some .cell\/a.kindOf x=some .free)/\∃ c,a.cells.lookup x=some c/\h.IsCell c (some u))
structure Cx.Ok (X:Cx):Prop where
 mod:Mod X.K X.mg X.base
 kind:X.env.scope.kind=.function
 glob:X.env.globals=mainGlobals
 blt:X.env.builtins=builtinsNs
 above:X.s₀.heap.objs.size<=X.env.locals
 inj:∀ x y c,X.env.cells.lookup x=some c->X.env.cells.lookup y=some c->x=y
 has:∀ x,(X.env.kindOf x=some .cell\/X.env.kindOf x=some .free)->∃ c,X.env.cells.lookup x=some c
 cab:∀ x c,X.fn x=true->X.env.cells.lookup x=some c->X.s₀.heap.objs.size<=c
 hd:X.calm=true->X.A.handled=none
 frames:X.A.frames=some X.stack
 stk:X.stack=X.outer\/(X.stack=X.env :: X.outer/\X.env.frame=some X.env.locals)
 exf:∀ b∈X.ex,b≠X.env.locals/\∀ x c,X.env.cells.lookup x=some c->c≠b
 bs:∀ b o,X.base.get? b=some o->X.s₀.heap.get? b=some o/\X.H₀ b=none
 bsz:X.base.objs.size<=X.s₀.heap.objs.size
 noex:∀ b o,X.base.get? b=some o->b∉X.ex
 exfs:∀ b∈X.ex,b∉X.fs
 funs:X.s₀.heap.FunFrames X.base X.outer
 frf:∀ b∈X.fs,X.H₀ b=none
structure Inv (X:Cx) (pins:List (Addr×Obj)) (σ:List (Option V)) (H:Hp) (s:Shared):Prop where
 ok:X.Ok
 os:s.os=X.s₀.os
 bare:AllBare s.gens
 base:Un X.fs X.ex X.H₀ H X.s₀.heap s.heap
 loc:∃ m,s.heap.Ns X.env.locals m/\∀ (i:Nat) (x:Str) (v:V),X.N[i]?=some x->σ[i]?=some (some v)->Vis X.env.scope x->∃ u,RelV v u/\GP X.env s.heap m x u
 cell:∀ x c,X.env.cells.lookup x=some c->∃ v,s.heap.IsCell c v
 free:H X.env.locals=none
 freeC:∀ x c,X.env.cells.lookup x=some c->H c=none
 pin:∀ p∈X.pn++pins,s.heap.get? p.1=some p.2/\H p.1=none/\p.1≠X.env.locals/\p.1∉X.fs/\∀ v,p.2.data≠.cell v
 hok:HOk X.prog X.w H s.heap
 len:σ.length=X.N.length
section
variable {X:Cx} {pins:List (Addr×Obj)} {σ:List (Option V)} {H H':Hp} {s:Shared} {h':Heap}
theorem Cx.Ok.nofr (c:X.Ok) {b:Addr} {o:Obj} (e:X.base.get? b=some o):b∉X.fs:=λa=>by
 have:=(c.funs.mem a).1;rw [e] at this;cases this
theorem Inv.bs (I:Inv X pins σ H s):∀ b o,X.base.get? b=some o->s.heap.get? b=some o/\H b=none:=λb o e=>
 ⟨I.base.keep b o (I.ok.bs b o e).1 (I.ok.bs b o e).2 (I.ok.nofr e) (I.ok.noex b o e),I.base.free b o (I.ok.bs b o e).1 (I.ok.bs b o e).2 (I.ok.noex b o e)⟩
theorem Inv.bk (I:Inv X pins σ H s):∀ b o,X.base.get? b=some o->s.heap.get? b=some o:=λb o e=>(I.bs b o e).1
theorem Inv.mod (I:Inv X pins σ H s):Mod X.K X.mg X.base:=I.ok.mod
theorem Inv.kIn (I:Inv X pins σ H s):X.K.In s.heap:=I.ok.mod.kin.keeps I.bk
theorem Inv.fr (I:Inv X pins σ H s):∃ m,Fr X.base X.env.locals s.heap m:=
 let ⟨m,a,_⟩:=I.loc
 ⟨m,a,I.bk,Ir I.ok.bsz I.ok.above⟩
theorem Inv.lt (I:Inv X pins σ H s):X.env.locals<s.heap.objs.size:=let ⟨_,a,_⟩:=I.loc;a.lt
theorem Inv.sz (I:Inv X pins σ H s):X.s₀.heap.objs.size<=s.heap.objs.size:=Ir I.ok.above (Ly I.lt)
theorem Inv.nofs (I:Inv X pins σ H s) {a:Addr} (h:s.heap.objs.size<=a):a∉X.fs:=λb=>by
 obtain ⟨_,o,c,_⟩:=I.ok.funs.mem b;exact absurd (Ip (HX c) (Ir I.sz h)) (Kj _)
theorem Inv.cne (I:Inv X pins σ H s):∀ x c,X.env.cells.lookup x=some c->c≠X.env.locals:=λx c e z=>by
 obtain ⟨v,o,d,hd⟩:=I.cell x c e;obtain ⟨m,⟨o',es,f,a,b,_⟩,_⟩:=I.loc;rw [z,a] at d;cases d;rw [b] at hd;cases hd
theorem Inv.funs (I:Inv X pins σ H s):s.heap.FunFrames X.base X.outer:=by
 have a:∀ (l:List Env),(∀ b∈frs l,b∈X.fs)->X.s₀.heap.FunFrames X.base l->s.heap.FunFrames X.base l:=by
  intro l;induction l with
  | nil=>intro _ _;trivial
  | cons j r n=>
   intro hs k;obtain ⟨g,⟨L,o,c,i,h,hd⟩,m⟩:=k;have f:=hs L (by unfold frs;rw [KW,c];exact HY);obtain ⟨p,e⟩:=I.base.slot L o h (I.ok.frf L f) f λz=>I.ok.exfs L z f;exact ⟨g,⟨L,_,c,i,e,hd⟩,n (λb d=>hs b (by unfold frs;rw [KW,c];exact Ic _ d)) m⟩
 exact a X.outer (λ_ d=>d) I.ok.funs
theorem Inv.stack (I:Inv X pins σ H s):s.heap.FunFrames X.base X.stack:=by
 rcases I.ok.stk with e | ⟨e,hf⟩
 ·rw [e];exact I.funs
 ·rw [e];obtain ⟨m,a,_⟩:=I.loc;refine .cons (by rw [I.ok.kind];decide) hf a ?_ I.funs;exact Heap.get?_none_of_le (Ir I.ok.bsz I.ok.above)
theorem Inv.stkSub (I:Inv X pins σ H s):∀ b∈frs X.stack,b∈X.env.locals :: X.fs:=λb a=>by
 rcases I.ok.stk with e | ⟨e,hf⟩
 ·grind
 ·rw [e] at a;unfold frs at a;rw [KW,hf] at a;exact a
theorem Inv.stkFree (I:Inv X pins σ H s):∀ b∈frs X.stack,H b=none:=λb a=>by
 rcases Ii.mp (I.stkSub b a) with e | a
 ·rw [e];exact I.free
 ·obtain ⟨_,o,c,_⟩:=I.ok.funs.mem a;exact I.base.free b o c (I.ok.frf b a) λz=>I.ok.exfs b z a
theorem Inv.step {d':Drawn} {ch:List Addr} (I:Inv X pins σ H s)
  (h:∀ b∈ch,(b∈X.ex\/X.s₀.heap.objs.size<=b)/\b≠X.env.locals/\(∀ x c,X.env.cells.lookup x=some c->c≠b)/\∀ p∈X.pn++pins,p.1≠b)
  (j:∀ b o,b≠X.env.locals->b∉X.fs->b∉ch->s.heap.get? b=some o->H b=none->h'.get? b=some o)
  (A:∀ b o,b≠X.env.locals->b∈X.fs->b∉ch->s.heap.get? b=some o->H b=none->∃ O,h'.get? b=some { o with slots:=O }) (f:∀ b o,b∉ch->s.heap.get? b=some o->H b=none->H' b=none)
  (C:∀ b o,b∉ch->s.heap.get? b=some o->∃ o',h'.get? b=some o')
  (G:∀ b xs,H b=some (.tup xs)->H' b=some (.tup xs)) (J:∀ b o u,H b=some (.frz o u)->H' b=some (.frz o u)) (E:∀ b ps,H b=some (.tbl ps)->∃ F,H' b=some (.tbl (ps++F)))
  (ns:∀ m,s.heap.Ns X.env.locals m->h'.Ns X.env.locals m) (N:HOk X.prog X.w H' h') (Y:AllBare g') :
  Inv X pins σ H' { s with heap:=h',gens:=g',drawn:=d',toks:=t' }:=by
 have K:∀ b o,X.s₀.heap.get? b=some o->b≠X.env.locals:=λb o e=>Ig (Ip (HX e) I.ok.above);have w:∀ b o,X.s₀.heap.get? b=some o->b∉X.ex->b∉ch:=λb o e a B=>by
  rcases (h b B).1 with z | z
  ·exact a z
  ·exact absurd (Ip (HX e) z) (Kj _)
 have t:∀ x c,X.env.cells.lookup x=some c->∀ v,s.heap.IsCell c v->h'.IsCell c v:=λx c e v ⟨o,D,hd⟩=>by
  have g:=λz=>(h c z).2.2.1 x c e rfl;by_cases P:c∈X.fs
  ·obtain ⟨O,q⟩:=A c o (I.cne x c e) P g D (I.freeC x c e);exact ⟨_,q,hd⟩
  ·exact ⟨o,j c o (I.cne x c e) P g D (I.freeC x c e),hd⟩
 refine ⟨I.ok,I.os,Y,⟨λb o e n B a=>?_,λb o e n B a=>?_,λb o e n a=>?_,λb o e a=>?_,λb xs e=>G b xs (I.base.tups b xs e),λb o xs e=>J b o xs (I.base.frzs b o xs e),λb ps e=>?_⟩,?_,λx c e=>?_,?_,λx c e=>?_,λp S=>?_,N,I.len⟩
 ·exact j b o (K b o e) B (w b o e a) (I.base.keep b o e n B a) (I.base.free b o e n a)
 ·obtain ⟨O,y⟩:=I.base.slot b o e n B a;obtain ⟨M,L⟩:=A b _ (K b o e) B (w b o e a) y (I.base.free b o e n a);exact ⟨M,L⟩
 ·obtain ⟨o',y⟩:=I.base.there b o e a;exact f b o' (w b o e a) y (I.base.free b o e n a)
 ·obtain ⟨o',y⟩:=I.base.there b o e a;exact C b o' (w b o e a) y
 ·obtain ⟨U,y⟩:=I.base.tbls b ps e;obtain ⟨m2,L⟩:=E b _ y;exact ⟨U++m2,by rw [L,Array.append_assoc]⟩
 ·obtain ⟨m,V,T⟩:=I.loc;refine ⟨m,ns m V,λi x v y L W=>?_⟩;obtain ⟨u,r,l⟩:=T i x v y L W;refine ⟨u,r,?_⟩;rcases l with l | ⟨k,c,e,z⟩
  ·exact .inl l
  ·exact .inr ⟨k,c,e,t x c e _ z⟩
 ·obtain ⟨v,z⟩:=I.cell x c e;exact ⟨v,t x c e v z⟩
 ·obtain ⟨m,⟨o,_,_,D,_⟩,_⟩:=I.loc;exact f _ o (λz=>(h _ z).2.1 rfl) D I.free
 ·obtain ⟨v,o,D,hd⟩:=I.cell x c e;exact f c o (λz=>(h c z).2.2.1 x c e rfl) D (I.freeC x c e)
 ·obtain ⟨e,n,R,Q,d⟩:=I.pin p S;have g:=λz=>(h p.1 z).2.2.2 p S rfl;exact ⟨j p.1 p.2 R Q g e n,f p.1 p.2 g e n,R,Q,d⟩
theorem Inv.un (I:Inv X pins σ H s) (u:Un X.fs [] H H' s.heap h') (c:HOk X.prog X.w H' h'):Inv X pins σ H' { s with heap:=h',toks:=t' }:=by
 obtain ⟨m,⟨o,es,k,g,r⟩,_⟩:=id I.loc;obtain ⟨l,j⟩:=u.any g I.free (by simp);exact I.step (ch:=[]) (λ_ z=>nomatch z) (λb o _ d _ e n=>u.keep b o e n d (by simp)) (λb o _ d _ e n=>u.slot b o e n d (by simp)) (λb o _ e n=>u.free b o e n (by simp)) (λb o _ e=>u.there b o e (by simp)) u.tups u.frzs u.tbls (λm' i=>by
  obtain ⟨o',es',f,a,h⟩:=i;rw [g] at a;cases a;exact ⟨_,es',f,j,h⟩) c I.bare
theorem Inv.call {d':Drawn} {ch:List Addr} (I:Inv X pins σ H s) (u:Un (frs X.stack) ch H H' s.heap h') (g:HOk X.prog X.w H' h') (q:AllBare g')
  (f:∀ b∈ch,(b∈X.ex\/X.s₀.heap.objs.size<=b)/\b≠X.env.locals/\(∀ x c,X.env.cells.lookup x=some c->c≠b)/\∀ p∈X.pn++pins,p.1≠b) :
  Inv X pins σ H' { s with heap:=h',gens:=g',drawn:=d',toks:=t' }:=by
 obtain ⟨m,⟨o,es,v,j,r⟩,_⟩:=id I.loc;obtain ⟨w,i⟩:=u.any j I.free λz=>(f _ z).2.1 rfl;exact I.step f (λb o i l a e n=>u.keep b o e n (λz=>(Ii.mp (I.stkSub b z)).elim i l) a) (λb o _ _ a e n=>u.any e n a) (λb o a e n=>u.free b o e n a) (λb o a e=>u.there b o e a) u.tups u.frzs u.tbls (λm' t=>by
  obtain ⟨o',es',h,d,k⟩:=t;rw [j] at d;cases d;exact ⟨_,es',h,i,k⟩) g q
theorem Inv.turned {t':Nat} {it:Addr} (I:Inv X pins σ H s) (k:∀ b o,b≠it->s.heap.get? b=some o->h'.get? b=some o) (hn:H it=none) (hL:it≠X.env.locals)
  (h1:it∈X.ex\/X.s₀.heap.objs.size<=it) (h2:∀ x c,X.env.cells.lookup x=some c->c≠it) (h3:∀ p∈X.pn++pins,p.1≠it):Inv X pins σ H { s with heap:=h',toks:=t' }:=by
 have nit:∀ b u,H b=some u->b≠it:=λb u e z=>by rw [z,hn] at e;cases e
 refine I.step (g':=s.gens) (d':=s.drawn) (ch:=[it]) (λb hb=>?_) (λb o _ _ hc e _=>k b o (λz=>hc (by simp [z])) e) (λb o _ _ hc e _=>⟨o.slots,k b o (λz=>hc (by simp [z])) e⟩) (λ_ _ _ _ n=>n)
  (λb o hc e=>⟨o,k b o (λz=>hc (by simp [z])) e⟩) (λ_ _ e=>e) (λ_ _ _ e=>e) (λb ps e=>⟨#[],by rw [e];simp⟩) (λm hm=>?_) (λb u e=>?_) I.bare
 ·have e:b=it:=by simpa using hb
  subst e;exact ⟨h1,hL,h2,h3⟩
 ·obtain ⟨o,es,ep,ho,r⟩:=hm;exact ⟨o,es,ep,k _ o (Ne.symm hL) ho,r⟩
 ·refine (I.hok b u e).stay (λc v hc q=>k c v ?_ q) (λ_ q=>q) λ_ _ q=>q;rcases hc with z | z
  ·rw [z];exact nit b u e
  ·exact nit c _ z
theorem Inv.tok (I:Inv X pins σ H s) (t:Nat):Inv X pins σ H { s with toks:=t }:=I.un Un.refl I.hok
theorem Inv.kept (I:Inv X pins σ H s) (k:∀ b u,s.heap.get? b=some u->h'.get? b=some u):Inv X pins σ H { s with heap:=h',toks:=t' }:=I.un (Un.kept k) (I.hok.kept k)
theorem Inv.laid {a:Addr} {o:HO} {t':Nat} (I:Inv X pins σ H s) (k:∀ b u,s.heap.get? b=some u->h'.get? b=some u) (d:s.heap.objs.size<=a) (c:ObjOk X.prog X.w (upd H a o) h' a o) :
  Inv X pins σ (upd H a o) { s with heap:=h',toks:=t' }:=I.un (Un.laid k d (I.hok.fresh d)) (I.hok.laid k d c)
theorem Inv.write (I:Inv X pins σ H s) (f:Mut (H x)) (d:e=x\/H e=some (.own x)) (k:∀ b u,b≠e->s.heap.get? b=some u->h'.get? b=some u) (a:∃ u,h'.get? e=some u)
  (c:ObjOk X.prog X.w (upd H x o) h' x o):Inv X pins σ (upd H x o) { s with heap:=h',toks:=t' }:=I.un (Un.write f d k a) (I.hok.write f d k a c)
theorem Inv.weak (I:Inv X pins σ H s) (d:σ'.length=σ.length) (w:∀ (i:Nat) v,σ'[i]?=some (some v)->σ[i]?=some (some v)):Inv X pins σ' H s:=
 ⟨I.ok,I.os,I.bare,I.base,let ⟨m,b,a⟩:=I.loc;⟨m,b,λi x v e c f=>a i x v e (w i v c) f⟩,I.cell,I.free,I.freeC,I.pin,I.hok,d.trans I.len⟩
theorem Inv.pins_of (I:Inv X pins σ H s) (h:∀ p∈pins',s.heap.get? p.1=some p.2/\H p.1=none/\p.1≠X.env.locals/\p.1∉X.fs/\∀ v,p.2.data≠.cell v):Inv X pins' σ H s:=
 ⟨I.ok,I.os,I.bare,I.base,I.loc,I.cell,I.free,I.freeC,λp a=>(IC.mp a).elim (λz=>I.pin p (List.mem_append_left _ z)) (h p),I.hok,I.len⟩
theorem bE {N:List Str} (e:N.Nodup) {i j:Nat} {x:Str} (a:N[i]?=some x) (b:N[j]?=some x):i=j:=by
 obtain ⟨f,d⟩:=HN.mp a;obtain ⟨g,c⟩:=HN.mp b;exact (List.getElem_inj e).mp (d.trans c.symm)
theorem bj {i:Nat} {x:Str} {v:V} {u:Value} {Q:Unit->Shared->Prop} (I:Inv X pins σ H s) (hN:X.N.Nodup) (O:X.N[i]?=some x) (t:Loc X.env.scope x) (r:RelV v u)
  (h:∀ s',Inv X pins (σ.set i (some v)) H s'->(∃ a,Heap.SameBut a s.heap s'.heap/\(a=X.env.locals\/X.env.cells.lookup x=some a))->Q () s') (hf:X.fn x=true\/X.env.scope.names.lookup x=some .local:=by first | exact .inl rfl | exact .inr rfl | assumption):wpAny M A (storeName X.env x u) Q E s:=by
 obtain ⟨m,Z,hl⟩:=id I.loc;have L:(X.env.scope.kind==.class||(X.env.scope.kind==.module&&X.env.locals != X.env.globals))=false:=by rw [I.ok.kind];rfl
 have B:i<σ.length:=by rw [I.len];exact (HN.mp O).1
 have C:=I.cne;have f:∀ {a:Addr} {h':Heap},(∃ o,s.heap.get? a=some o/\H a=none)->Heap.SameBut a s.heap h'->HOk X.prog X.w H h':=λ{a h'} ha hs b ob e=>by
  obtain ⟨_,_,hfree⟩:=ha;refine (I.hok b ob e).stay (λc w' l q=>(hs.2 c ?_).trans q) (λ_ q=>q) λ_ _ q=>q;rintro rfl;rcases l with rfl | l
  ·grind
  ·grind
 rcases t with hk | hk
 ·refine wpAny_storeName_local hk Z (λh' W hs=>?_) L;obtain ⟨oL,_,_,hoL,_⟩:=id Z;refine h _ ⟨I.ok,I.os,I.bare,⟨λb o e n D t=>?_,λb o e n D t=>?_,I.base.free,λb o e t=>?_,I.base.tups,I.base.frzs,I.base.tbls⟩,⟨_,W,λj y T g w e3=>?_⟩,λy c e=>?_,I.free,I.freeC,λp hp=>?_,f ⟨oL,hoL,I.free⟩ hs,by simpa using I.len⟩ ⟨_,hs,.inl rfl⟩
  ·exact (hs.2 b (Ig (Ip (HX e) I.ok.above))).trans (I.base.keep b o e n D t)
  ·obtain ⟨sl,g⟩:=I.base.slot b o e n D t;exact ⟨sl,(hs.2 b (Ig (Ip (HX e) I.ok.above))).trans g⟩
  ·obtain ⟨o',g⟩:=I.base.there b o e t;exact ⟨o',(hs.2 b (Ig (Ip (HX e) I.ok.above))).trans g⟩
  ·by_cases F:j=i
   ·subst F;rw [O] at g;cases g;rw [IA B] at w;cases w;exact ⟨u,r,.inl ⟨hk,by simp⟩⟩
   ·rw [HZ (Ne.symm F)] at w;obtain ⟨Y,r',q⟩:=hl j y T g w e3;refine ⟨Y,r',?_⟩;rcases q with ⟨k,e⟩ | ⟨k,c,e,z⟩
    ·refine .inl ⟨k,?_⟩;have:y≠x:=λe=>F (bE hN g (e▸O));simp [this,e]
    ·exact .inr ⟨k,c,e,z.sameBut hs (C y c e)⟩
  ·obtain ⟨w',z⟩:=I.cell y c e;exact ⟨w',z.sameBut hs (C y c e)⟩
  ·obtain ⟨e,n,R,U,d⟩:=I.pin p hp;exact ⟨(hs.2 p.1 R).trans e,n,R,U,d⟩
 ·have G:X.fn x=true:=by
   rcases hf with z | z
   ·exact z
   ·rw [z] at hk;cases hk
  obtain ⟨c,l⟩:=I.ok.has x (.inl hk);obtain ⟨w',z⟩:=I.cell x c l;refine wpAny_storeName_cell I.ok.kind hk l z (λh' N hs=>?_);obtain ⟨oc,J,P⟩:=id z;refine h { s with heap:=h' } ⟨I.ok,I.os,I.bare,⟨λb o e n D t=>?_,λb o e n D t=>?_,I.base.free,λb o e t=>?_,I.base.tups,I.base.frzs,I.base.tbls⟩,⟨m,Z.sameBut hs (Ne.symm (C x c l)),λj y T g w e3=>?_⟩,λy S e=>?_,I.free,I.freeC,λp hp=>?_,f ⟨oc,J,I.freeC x c l⟩ hs,by simpa using I.len⟩ ⟨c,hs,.inr l⟩
  ·exact (hs.2 b (Ig (Ip (HX e) (I.ok.cab x c G l)))).trans (I.base.keep b o e n D t)
  ·obtain ⟨sl,g⟩:=I.base.slot b o e n D t;exact ⟨sl,(hs.2 b (Ig (Ip (HX e) (I.ok.cab x c G l)))).trans g⟩
  ·obtain ⟨o',g⟩:=I.base.there b o e t;exact ⟨o',(hs.2 b (Ig (Ip (HX e) (I.ok.cab x c G l)))).trans g⟩
  ·by_cases F:j=i
   ·subst F;rw [O] at g;cases g;rw [IA B] at w;cases w;exact ⟨u,r,.inr ⟨.inl hk,c,l,N⟩⟩
   ·rw [HZ (Ne.symm F)] at w;obtain ⟨Y,r',q⟩:=hl j y T g w e3;refine ⟨Y,r',?_⟩;rcases q with q | ⟨k,S,e,z'⟩
    ·exact .inl q
    ·refine .inr ⟨k,S,e,z'.sameBut hs ?_⟩;rintro rfl;exact F (bE hN g (I.ok.inj _ _ _ e l▸O))
  ·by_cases K:S=c
   ·subst K;exact ⟨_,N⟩
   ·obtain ⟨w2,z2⟩:=I.cell y S e;exact ⟨w2,z2.sameBut hs K⟩
  ·obtain ⟨e,n,R,U,d⟩:=I.pin p hp;refine ⟨(hs.2 p.1 ?_).trans e,n,R,U,d⟩;intro q;rw [q,J] at e;have q':=Iv e;exact d w' (by rw [<- q'];exact P)
theorem Q0 {i:Nat} {x:Str} {v:V} {u:Value} {Q:Unit->Shared->Prop} (I:Inv X pins σ H s) (e:X.N.Nodup) (c:X.N[i]?=some x) (a:Loc X.env.scope x) (r:RelV v u)
  (h:∀ s',Inv X pins (σ.set i (some v)) H s'->Q () s') (b:X.fn x=true\/X.env.scope.names.lookup x=some .local:=by first | exact .inl rfl | exact .inr rfl | assumption):wpAny M A (storeName X.env x u) Q E s:=
 bj I e c a r (λs' d _=>h s' d) b
theorem Inv.call' {ch:List Addr} (I:Inv X pins σ H s) (g:s'.os=s.os) (u:Un (frs X.stack) ch H H' s.heap s'.heap) (d:HOk X.prog X.w H' s'.heap) (f:AllBare s'.gens)
  (a:∀ b∈ch,(b∈X.ex\/X.s₀.heap.objs.size<=b)/\b≠X.env.locals/\(∀ x c,X.env.cells.lookup x=some c->c≠b)/\∀ p∈X.pn++pins,p.1≠b):Inv X pins σ H' s':=by
 obtain ⟨h',g',d',t',o'⟩:=s';have e:=g;subst e;exact I.call u d f a
end
abbrev XK:=Value->Option Addr->Hp->Prop
abbrev St:=List (Option V)
abbrev VK:=V->Hp->Prop
abbrev TE:=St->Hp->VK->Prop
abbrev TT:=St->Hp->(Bool->Hp->Prop)->Prop
abbrev TA:=St->Hp->(List V->Hp->Prop)->Prop
structure Ends where
 nx:St->Hp->Prop
 rt:VK
 bk:St->Hp->Prop:=λ_ _=>False
 ct:St->Hp->Prop:=λ_ _=>False
abbrev TS:=Ends->St->Hp->Prop
def EP (X:Cx) (pins:List (Addr×Obj)) (σ:St) (Q:VK) (u:Value) (s':Shared):Prop:=∃ v H',Inv X pins σ H' s'/\RelV v u/\Q v H'
def TP (X:Cx) (pins:List (Addr×Obj)) (σ:St) (Q:Bool->Hp->Prop) (b:Bool) (s':Shared):Prop:=∃ H',Inv X pins σ H' s'/\Q b H'
def AP (X:Cx) (pins:List (Addr×Obj)) (σ:St) (Q:List V->Hp->Prop) (us:List Value) (s':Shared):Prop:=∃ vs H',Inv X pins σ H' s'/\Vals vs us/\Q vs H'
def SP (X:Cx) (pins:List (Addr×Obj)) (D:Ends) (f:Flow) (s':Shared):Prop:=
 match f with
 | .next=>∃ a H',Inv X pins a H' s'/\D.nx a H'
 | .brk=>∃ a H',Inv X pins a H' s'/\D.bk a H'
 | .cont=>∃ a H',Inv X pins a H' s'/\D.ct a H'
 | .ret u=>∃ v a H',Inv X pins a H' s'/\RelV v u/\D.rt v H'
def PE (X:Cx) (e:Expr) (t:TE):Prop:=
 ∀ (pins:List (Addr×Obj)) (s:Shared) (σ:St) (H:Hp) (Q:VK),Inv X pins σ H s->t σ H Q->wpAny (model X.prog X.w) X.A (eval e X.env) (EP X pins σ Q) X.xe s
def PT (X:Cx) (e:Expr) (t:TT):Prop:=
 ∀ (pins:List (Addr×Obj)) (s:Shared) (σ:St) (H:Hp) (Q:Bool->Hp->Prop),Inv X pins σ H s->t σ H Q->wpAny (model X.prog X.w) X.A (isTrue e X.env (eval e X.env)) (TP X pins σ Q) X.xe s
def PW (X:Cx) (e:Expr) (t:TT):Prop:=
 ∀ (a:Sem Value) (pins:List (Addr×Obj)) (s:Shared) (σ:St) (H:Hp) (Q:Bool->Hp->Prop),Inv X pins σ H s->t σ H Q->wpAny (model X.prog X.w) X.A (isTrue e X.env a) (TP X pins σ Q) X.xe s
theorem PW.pt (h:PW X e t):PT X e t:=h _
def PA (X:Cx) (es:List Expr) (t:TA):Prop:=
 ∀ (pos:Pos) (pins:List (Addr×Obj)) (s:Shared) (σ:St) (H:Hp) (Q:List V->Hp->Prop),Inv X pins σ H s->t σ H Q->wpAny (model X.prog X.w) X.A (spliced (backTo pos (starEach es X.env))) (AP X pins σ Q) X.xe s
def PS (X:Cx) (st:Stmt) (t:TS):Prop:=
 ∀ (pins:List (Addr×Obj)) (s:Shared) (σ:St) (H:Hp) (D:Ends),Inv X pins σ H s->t D σ H->wpAny (model X.prog X.w) X.A (exec st X.env) (SP X pins D) X.xe s
def PSs (X:Cx) (st:List Stmt) (t:TS):Prop:=
 ∀ (pins:List (Addr×Obj)) (s:Shared) (σ:St) (H:Hp) (D:Ends),Inv X pins σ H s->t D σ H->wpAny (model X.prog X.w) X.A (execs st X.env) (SP X pins D) X.xe s
theorem thn {M:Model} {A:Around} {E:Value->Shared->Prop} {s:Shared} (h:wpAny M A t Q E s) (b:∀ a s,Q a s->Q' a s):wpAny M A t Q' E s:=IJ h b λ_ _ x=>x
section
variable {X:Cx}
def AR (i:Nat):TE:=λσ H Q=>∃ v,σ[i]?=some (some v)/\Q v H
def tC (v:V):TE:=λ_ H Q=>Q v H
theorem sH {pos:Pos} (o:X.N[i]?=some x) (p:Vis X.env.scope x) (hd:(x==("__debug__" : Str))=false:=by decide) (f:(x==("__classdict__" : Str))=false:=by decide):PE X (.Name x pos) (AR i):=by
 intro pins s σ H Q I h;obtain ⟨v,e,h⟩:=h;obtain ⟨m,j,k⟩:=I.loc;obtain ⟨u,r,l⟩:=k i x v o e p;have d:EP X pins σ Q u s:=⟨v,H,I,r,h⟩;rcases l with ⟨b,n⟩ | ⟨b,c,g,a⟩
 ·exact wpAny_Name (wpAny_loadName_local I.ok.kind b j n d) hd
 ·rcases b with b | b
  ·exact wpAny_Name (wpAny_loadName_cell I.ok.kind b g a d) hd
  ·exact wpAny_Name (wpAny_loadName_free I.ok.kind b g a d f) hd
theorem yc {i j pos}:PE X (.Constant (.int i) j pos) (tC (.int i)):=λ_ _ _ H _ I h=>wpAny_Constant_int ⟨.int i,H,I.tok _,⟨_,rfl⟩,h⟩
theorem CC {b j pos}:PE X (.Constant (.bool b) j pos) (tC (.bl b)):=λ_ _ _ H _ I h=>Constant_bool ⟨.bl b,H,I,rfl,h⟩
theorem Ao {j pos}:PE X (.Constant .none j pos) (tC .non):=λ_ _ _ H _ I h=>Constant_none ⟨.non,H,I,rfl,h⟩
theorem yg {x j pos}:PE X (.Constant (.str x) j pos) (tC (.str x)):=λ_ _ _ H _ I h=>Calls.Constant_str ⟨.str x,H,I.tok _,⟨_,rfl⟩,h⟩
def Gl (X:Cx) (x:Str):Prop:=X.env.kindOf x=some .globalImplicit
theorem G3 {pins:List (Addr×Obj)} {s:Shared} {σ:St} {H:Hp} {x:Str} {u:Value} {pos:Pos} {Q:Value->Shared->Prop} (I:Inv X pins σ H s) (a:Gl X x) (b:X.mg x=some u) (h:Q u s)
  (hd:(x==("__debug__" : Str))=false:=by decide):wpAny (model X.prog X.w) X.A (eval (.Name x pos) X.env) Q E s:=
 KZ I.ok.kind a (Calls.loadGlobal_global (by rw [I.ok.glob];exact I.mod.glob.keeps I.bk) b h) hd
theorem G1 {E:Value->Shared->Prop} {pins:List (Addr×Obj)} {s:Shared} {σ:St} {H:Hp} {x:Str} {u:Value} {pos:Pos} {Q:Value->Shared->Prop} (I:Inv X pins σ H s) (d:Gl X x) (e:X.mg x=none) (f:bootBuiltins x=some u) (h:Q u s)
  (a:x ≠ "__name__":=by decide) (hd:(x==("__debug__" : Str))=false:=by decide):wpAny (model X.prog X.w) X.A (eval (.Name x pos) X.env) Q E s:=by
 obtain ⟨g,b,c⟩:=I.mod.blt;exact KZ I.ok.kind d (Calls.loadGlobal_builtin (by rw [I.ok.glob];exact I.mod.glob.keeps I.bk) e (by rw [I.ok.blt];exact b.keeps I.bk) ((c x a).trans f) h) hd
theorem eC {u:Value} {pos:Pos} (a:Gl X x) (b:X.mg x=some u) (r:RelV v u) (hd:(x==("__debug__" : Str))=false:=by decide):PE X (.Name x pos) (tC v):=
 λ_ _ _ H _ I h=>G3 I a b ⟨v,H,I,r,h⟩ hd
theorem uU {u:Value} {pos:Pos} (c:Gl X x) (d:X.mg x=none) (b:bootBuiltins x=some u) (r:RelV v u) (a:x ≠ "__name__":=by decide) (hd:(x==("__debug__" : Str))=false:=by decide):PE X (.Name x pos) (tC v):=
 λ_ _ _ H _ I h=>G1 I c d b ⟨v,H,I,r,h⟩ a hd
variable {a b:Expr} {ta tb:TE} {pos:Pos}
variable {tA tB':TT} {rest:List Expr}
def Gb (t u:TT):TT:=λσ H Q=>t σ H λc a=>if c=true then u σ a Q else Q false a
def tOr (t u:TT):TT:=λσ H Q=>t σ H λc a=>if c=true then Q true a else u σ a Q
def BE (t:TT):TT:=λσ H Q=>t σ H λc a=>Q (!c) a
theorem pw_and1 (b:PT X a tA):PW X (.BoolOp .And [a] pos) tA:=by
 intro d pins s σ H Q I h;refine isTrue_and (thn (b pins s σ H Q I h) λc f e=>?_);cases c with
 | true=>exact isTrue_and_nil e
 | false=>exact e
theorem pw_or1 (b:PT X a tA):PW X (.BoolOp .Or [a] pos) tA:=by
 intro d pins s σ H Q I h;refine isTrue_or (thn (b pins s σ H Q I h) λc f e=>?_);cases c with
 | false=>exact isTrue_or_nil e
 | true=>exact e
theorem pw_and (g:PT X a tA) (j:PW X (.BoolOp .And (b :: rest) pos) tB'):PW X (.BoolOp .And (a :: b :: rest) pos) (Gb tA tB'):=by
 intro i pins s σ H Q I h;refine isTrue_and (thn (g pins s σ H _ I h) λc k ⟨e,d,f⟩=>?_);cases c with
 | true=>exact j i pins k σ e Q d f
 | false=>exact ⟨e,d,f⟩
theorem pw_or (g:PT X a tA) (j:PW X (.BoolOp .Or (b :: rest) pos) tB'):PW X (.BoolOp .Or (a :: b :: rest) pos) (tOr tA tB'):=by
 intro i pins s σ H Q I h;refine isTrue_or (thn (g pins s σ H _ I h) λc k ⟨e,d,f⟩=>?_);cases c with
 | true=>exact ⟨e,d,f⟩
 | false=>exact j i pins k σ e Q d f
theorem zE (d:PT X a tA):PT X (.UnaryOp .Not a pos) (BE tA):=by
 intro pins s σ H Q I h;exact isTrue_not (d pins s σ H (λc b=>Q (!c) b) I h)
theorem zy {op} {t:TE} (h:PE X a t):PE X (.BoolOp op [a] pos) t:=λpins s σ H Q I b=>BoolOp_one (h pins s σ H Q I b)
def tIf (t:TT) (b d:TE):TE:=λσ H Q=>t σ H λc a=>if c=true then b σ a Q else d σ a Q
theorem pj (l:PT X c tA) (j:PE X a ta) (k:PE X b tb):PE X (.IfExp c a b pos) (tIf tA ta tb):=by
 intro pins s σ H Q I h;refine wpAny_IfExp (thn (l pins s σ H _ I h) λd g ⟨f,e,i⟩=>?_);cases d with
 | true=>exact j pins g σ f Q e i
 | false=>exact k pins g σ f Q e i
end
def SqL (K:PySem.W.Frag) (H:Hp) (a:Addr) (xs:List V):Prop:=
 Rd H a (.lst xs) \/
  ∃ (o:Obj) (b:Array Value) (n:Nat),K.lookup a=some o/\o.cls=.type "list"/\o.dict=none/\o.data=.seq b n/\b.size<=sizeLine/\Vals xs b.toList
def SqT (K:PySem.W.Frag) (H:Hp) (a:Addr) (xs:List V):Prop:=
 Rd H a (.tup xs) \/
  ∃ (o:Obj) (b:Array Value) (n:Nat),K.lookup a=some o/\o.cls=.type "tuple"/\o.data=.seq b n/\b.size<=sizeLine/\Vals xs b.toList
def Gv:Value->Option V
 | .none=>some .non
 | .bool b=>some (.bl b)
 | .int i _=>some (.int i)
 | .str x _=>some (.str x)
 | .bytes b _=>some (.byt b)
 | .float b _=>some (.flt b)
 | .ref a=>some (.ref a)
 | .type n=>some (.ty n)
 | _=>none
theorem RelV.abs (r:RelV x u):Gv u=some x:=by
 cases x with
 | non=>cases r;rfl
 | bl _=>cases r;rfl
 | int _=>obtain ⟨t,rfl⟩:=r;rfl
 | str _=>obtain ⟨t,rfl⟩:=r;rfl
 | byt _=>obtain ⟨t,rfl⟩:=r;rfl
 | flt _=>obtain ⟨t,rfl⟩:=r;rfl
 | ref _=>cases r;rfl
 | ty _=>cases r;rfl
theorem RelV.inj {u:Value} (r:RelV x u) (q:RelV y u):x=y:=Iv (r.abs.symm.trans q.abs)
theorem Vals.inj:∀ {xs ys:List V} {us:List Value},Vals xs us->Vals ys us->xs=ys
 | _,_,_,.nil,.nil=>rfl
 | _,_,_,.cons r t,.cons a t'=>by rw [r.inj a,Vals.inj t t']
section
variable {X:Cx} {pins:List (Addr×Obj)} {σ:St} {H:Hp} {s:Shared} {a:Addr} {xs ys:List V}
theorem Inv.list (I:Inv X pins σ H s) (h:SqL X.K H a xs):∃ b:List Value,Vals xs b/\PlainL s.heap a b.toArray/\xs.length<=sizeLine:=by
 rcases h with h | ⟨o,b,n,hk,hc,hd,hs,hz,r⟩
 ·obtain ⟨z,b,n,r,e⟩:=h.ok I.hok;exact ⟨b,r,⟨_,n,e,rfl,rfl,rfl⟩,z⟩
 ·refine ⟨b.toList,r,⟨o,n,I.kIn a o hk,hc,hd,by simpa using hs⟩,?_⟩;have e:=r.length;simp at e;omega
theorem Inv.tuple (I:Inv X pins σ H s) (h:SqT X.K H a xs):∃ b:List Value,Vals xs b/\IsTup s.heap a b.toArray/\xs.length<=sizeLine:=by
 rcases h with h | ⟨o,b,n,hk,hc,hs,hz,r⟩
 ·obtain ⟨z,b,r,p⟩:=h.ok I.hok;exact ⟨b,r,p.is,z⟩
 ·refine ⟨b.toList,r,⟨o,I.kIn a o hk,hc,n,by simpa using hs⟩,?_⟩;have e:=r.length;simp at e;omega
theorem Inv.list_inj (I:Inv X pins σ H s) (h:SqL X.K H a xs) (h':SqL X.K H a ys):xs=ys:=by
 obtain ⟨b,r,⟨o,n,e,_,_,d⟩,_⟩:=I.list h;obtain ⟨its',f,⟨o',g,c,_,_,d'⟩,_⟩:=I.list h';rw [e] at c;cases c;rw [d] at d';injection d' with d1 _;have:b=its':=by simpa using congrArg Array.toList d1
 subst this;exact r.inj f
theorem Inv.tuple_inj (I:Inv X pins σ H s) (h:SqT X.K H a xs) (h':SqT X.K H a ys):xs=ys:=by
 obtain ⟨b,r,⟨o,e,_,n,d⟩,_⟩:=I.tuple h;obtain ⟨its',f,⟨o',c,_,g,d'⟩,_⟩:=I.tuple h';rw [e] at c;cases c;rw [d] at d';injection d' with d1 _;have:b=its':=by simpa using congrArg Array.toList d1
 subst this;exact r.inj f
end
abbrev Cx.wish (X:Cx) (E:Value->Shared->Prop):Cx:={ X with xe:=E }
abbrev Cx.nox (X:Cx):Cx:=X.wish λ_ _=>False
theorem Cx.Ok.wish {X:Cx} (a:X.Ok) (E:Value->Shared->Prop):(X.wish E).Ok:=
 ⟨a.mod,a.kind,a.glob,a.blt,a.above,a.inj,a.has,a.cab,a.hd,a.frames,a.stk,a.exf,a.bs,a.bsz,a.noex,a.exfs,a.funs,a.frf⟩
theorem Cx.Ok.unwish {X:Cx} {E:Value->Shared->Prop} (a:(X.wish E).Ok):X.Ok:=
 ⟨a.mod,a.kind,a.glob,a.blt,a.above,a.inj,a.has,a.cab,a.hd,a.frames,a.stk,a.exf,a.bs,a.bsz,a.noex,a.exfs,a.funs,a.frf⟩
section
variable {X:Cx} {pins:List (Addr×Obj)} {σ:St} {H:Hp} {s:Shared} {E:Value->Shared->Prop}
theorem Inv.wish (I:Inv X pins σ H s) (E:Value->Shared->Prop):Inv (X.wish E) pins σ H s:=⟨I.ok.wish E,I.os,I.bare,I.base,I.loc,I.cell,I.free,I.freeC,I.pin,I.hok,I.len⟩
theorem Inv.unwish (I:Inv (X.wish E) pins σ H s):Inv X pins σ H s:=⟨I.ok.unwish,I.os,I.bare,I.base,I.loc,I.cell,I.free,I.freeC,I.pin,I.hok,I.len⟩
theorem SP.unwish (h:SP (X.wish E) pins D f s'):SP X pins D f s':=by
 cases f with
 | next=>obtain ⟨σ',H',I,q⟩:=h;exact ⟨σ',H',I.unwish,q⟩
 | brk=>obtain ⟨σ',H',I,q⟩:=h;exact ⟨σ',H',I.unwish,q⟩
 | cont=>obtain ⟨σ',H',I,q⟩:=h;exact ⟨σ',H',I.unwish,q⟩
 | ret u=>obtain ⟨v,σ',H',I,r,q⟩:=h;exact ⟨v,σ',H',I.unwish,r,q⟩
theorem PSs.nox {st:List Stmt} {t:TS} (h:PSs X.nox st t):PSs X st t:=λpins s σ H D I a=>
 IJ (h pins s σ H D (I.wish _) a) (λ_ _ q=>q.unwish) λ_ _ z=>False.elim z
end
section
variable {X:Cx} {st:Stmt} {rest:List Stmt} {t u:TS} {e:Expr} {te:TE} {pos:Pos}
def tNext:TS:=λD σ H=>D.nx σ H
def FR (t u:TS):TS:=λD σ H=>t { D with nx:=u D } σ H
theorem tK:PSs X [] tNext:=λ_ _ σ H _ I h=>JV ⟨σ,H,I,h⟩
theorem y7 (h1:PS X st t) (h2:PSs X rest u):PSs X (st :: rest) (FR t u):=by
 intro pins s σ H D I h;refine Lu (thn (h1 pins s σ H { D with nx:=u D } I h) λf s1 q=>?_);cases f with
 | next=>
  obtain ⟨σ',H',I',q⟩:=q;exact h2 pins s1 σ' H' D I' q
 | ret v=>exact q
 | brk=>exact q
 | cont=>exact q
theorem M7 (h1:PS X st t):PSs X [st] t:=by
 intro pins s σ H D I h;refine Lu (thn (h1 pins s σ H D I h) λf s1 q=>?_);cases f with
 | next=>exact JV q
 | ret v=>exact q
 | brk=>exact q
 | cont=>exact q
theorem Inv.quiet {σ:St} {H:Hp} {s:Shared} (I:Inv X pins σ H s):interactive X.env=false:=by simp [interactive,I.ok.kind]
def CH (te:TE):TS:=λD σ H=>te σ H λ_ a=>D.nx σ a
theorem F8 (a:PE X e te) (hs:swapsWith e none pos.line X.env=pure false:=by rfl):PS X (.Expr e pos) (CH te):=by
 intro pins s σ H D I h;exact wpAny_Expr_any (thn (a pins s σ H _ I h) λv f ⟨x,c,b,g,d⟩=>⟨σ,c,b,d⟩) I.quiet hs
def GD (te:TE):TS:=λD σ H=>te σ H D.rt
theorem ya (a:PE X e te):PS X (.Return (some e) pos) (GD te):=by
 intro pins s σ H D I h;exact wpAny_Return_some (thn (a pins s σ H _ I h) λv g ⟨x,c,b,f,d⟩=>⟨x,σ,c,b,f,d⟩)
def Ft (c:TT) (t u:TS):TS:=λD σ H=>c σ H λb a=>if b=true then t D σ a else u D σ a
theorem ps_if {j:TT} (m:PT X c j) (k:PSs X a t) (l:PSs X b u):PS X (.If c a b pos) (Ft j t u):=by
 intro pins s σ H D I h;refine wpAny_If (thn (m pins s σ H _ I h) λd g ⟨f,e,i⟩=>?_);cases d with
 | true=>exact k pins g σ f D e i
 | false=>exact l pins g σ f D e i
def tNever:TS:=λ_ _ _=>False
theorem eX:PS X st tNever:=λ_ _ _ _ _ _ h=>h.elim
end
abbrev TG:=V->St->Hp->(St->Hp->Prop)->Prop
abbrev TGs:=List V->St->Hp->(St->Hp->Prop)->Prop
def PG (X:Cx) (a:Expr) (t:TG):Prop:=
 ∀ (pins:List (Addr×Obj)) (s:Shared) (σ:St) (H:Hp) (v:V) (u:Value) (Q:St->Hp->Prop),Inv X pins σ H s->RelV v u->t v σ H Q ->
  wpAny (model X.prog X.w) X.A (assign a X.env u) (λ_ s'=>∃ b H',Inv X pins b H' s'/\Q b H') X.xe s
def PGs (X:Cx) (b:List Expr) (t:TGs):Prop:=
 ∀ (pins:List (Addr×Obj)) (s:Shared) (σ:St) (H:Hp) (vs:List V) (us:List Value) (Q:St->Hp->Prop),Inv X pins σ H s->Vals vs us->t vs σ H Q ->
  wpAny (model X.prog X.w) X.A (assignInOrder ((assignEach b X.env).map (·.2)) us) (λ_ s'=>∃ a H',Inv X pins a H' s'/\Q a H') X.xe s
abbrev zv:=V->V->V->Hp->(Hp->Prop)->Prop
def zB (X:Cx) (t:zv):Prop:=
 ∀ (pins:List (Addr×Obj)) (s:Shared) (σ:St) (H:Hp) (o i v:V) (b a u:Value) (Q:Hp->Prop),Inv X pins σ H s->RelV o b->RelV i a->RelV v u->t o i v H Q ->
  wpAny (model X.prog X.w) X.A (setItem b a u) (λ_ s'=>∃ H',Inv X pins σ H' s'/\Q H') X.xe s
section
variable {X:Cx} {pos:Pos}
def bH (i:Nat):TG:=λv σ H Q=>Q (σ.set i (some v)) H
theorem M5 (e:X.N.Nodup) (c:X.N[i]?=some x) (a:Loc X.env.scope x) (b:X.fn x=true\/X.env.scope.names.lookup x=some .local:=by first | exact .inl rfl | exact .inr rfl | assumption):PG X (.Name x pos) (bH i):=by
 intro pins s σ H v u Q I r h;exact wpAny_assign_Name (Q0 I e c a r (λs' d=>⟨_,H,d,h⟩) b)
def gNil:TGs:=λvs σ H Q=>vs=[]/\Q σ H
def qH (t:TG) (u:TGs):TGs:=λvs σ H Q=>∃ v r,vs=v :: r/\t v σ H λa H'=>u r a H' Q
theorem jF:PGs X [] gNil:=by
 intro pins s σ H vs us Q I r h;obtain ⟨e,h⟩:=h;subst e;cases r;exact assignInOrder_nil ⟨σ,H,I,h⟩
theorem ak {t:TG} {u:TGs} (b:PG X e t) (g:PGs X es u)
  (hs:(assignEach (e :: es) X.env).map (·.2)=assign e X.env :: (assignEach es X.env).map (·.2):=by rfl):PGs X (e :: es) (qH t u):=by
 intro pins s σ H vs us Q I r h;obtain ⟨v,l,f,h⟩:=h;subst f;cases r with
 | cons r i=>
  rw [hs];refine assignInOrder_cons (thn (b pins s σ H _ _ _ I r h) λ_ j ⟨a,d,c,k⟩=>?_);exact g pins j a d _ _ Q c i k
def Cn (K:PySem.W.Frag) (n:Nat) (t:TGs):TG:=λv σ H Q=>∃ a xs,v=.ref a/\SqT K H a xs/\xs.length=n/\t xs σ H Q
theorem pT {k:Nat} {t:TGs} {n:Nat} (x:X.calm=true) (h:PGs X es t)
  (i:(assignEach es X.env).length=n:=by rfl) (d:(assignEach es X.env).findIdx? (·.1)=none:=by rfl):PG X (.Tuple es k pos) (Cn X.K n t):=by
 intro pins s σ H v u Q I r c;obtain ⟨a,xs,w,j,p,c⟩:=c;subst w;cases r;obtain ⟨q,f,l,hz⟩:=I.tuple j;refine assign_Tuple_tuple (I.ok.hd x) l (by simp [i,<- p,f.length]) d λh' g=>?_;have m:=I.kept (t':=s.toks) λb o e=>g b o (Ig (HX e)) e;exact h pins _ σ H xs _ Q m (by simpa using f) c
def Gu (c d:TE) (t:zv):TG:=λv σ H Q=>c σ H λo b=>d σ b λi e=>t o i v e λa=>Q σ a
theorem zk {c d:TE} {t:zv} (w:PE X o c) (A:PE X i d) (hs:zB X t)
  (q:∀ v,assign (.Subscript o i pos) X.env v=(do
   let a <- holding [v] (eval o X.env)
   let b <- holding [v,a] (eval i X.env)
   standAt pos
   holding [v,a,b] (setItem a b v)
   release [v,a,b] []):=by intro _;rfl):PG X (.Subscript o i pos) (Gu c d t):=by
 intro pins s σ H v u Q I r h;rw [q];refine Hz (Jm (thn (w pins s σ H _ I h) λa f ⟨x,l,g,p,n⟩=>?_));refine Hz (Jm (thn (A pins f σ l _ g n) λb C ⟨y,D,z,k,e⟩=>?_));refine Hz (Kk (Hz (Jm (thn (hs pins C σ D x y v a b u _ z p k r e) λ_ E ⟨B,j,m⟩=>?_))));exact wpAny_release ⟨σ,B,j,m⟩
def pZ (te:TE) (g:TG):TS:=λD σ H=>te σ H λx a=>g x σ a D.nx
theorem sG {tg e:Expr} {te:TE} {g:TG} (a:PE X e te) (f:PG X tg g) (hs:swapsWithSole [tg] e pos.line X.env=pure false:=by rfl) (l:swappedStores [tg] e X.env=pure none:=by rfl)
  (b:(assignEach [tg] X.env).map (·.2)=[assign tg X.env]:=by rfl):PS X (.Assign [tg] e pos) (pZ te g):=by
 intro pins s σ H D I h;refine wpAny_Assign_stores (thn (a pins s σ H _ I h) λv i ⟨x,d,c,k,j⟩=>?_) hs l;rw [b];exact thn (f pins i σ d x v _ c k j) λ_ m q=>q
theorem hF (k:X.N.Nodup) (f:X.N[i]?=some x) (a:Loc X.env.scope x) (d:PE X e te) (hs:swapsWith e (some (.Name x pos')) pos.line X.env=pure false:=by rfl) (b:X.fn x=true\/X.env.scope.names.lookup x=some .local:=by first | exact .inl rfl | exact .inr rfl | assumption) :
  PS X (.Assign [.Name x pos'] e pos) (pZ te (bH i)):=by
 intro pins s σ H D I h;refine wpAny_Assign_Name (thn (d pins s σ H _ I h) λv n ⟨y,j,g,m,l⟩=>?_) hs;exact Q0 g k f a m (λo c=>⟨_,j,c,l⟩) b
end
section
variable {X:Cx} {pos:Pos}
def Av (c:TT) (e:TS):TS:=λD σ H=>∃ W:Nat->St->Hp->Prop,(∃ m,W m σ H)/\∀ m σ H,W m σ H ->
 c σ H λb d=>if b=true then ∃ N:St->Hp->Prop,(∀ a H',N a H'->∃ m',m'<m/\W m' a H')/\e { D with nx:=N,ct:=N,bk:=D.nx } σ d else D.nx σ d
theorem pU {tc:TT} {tb:TS} (hp:PassesOwn (model X.prog X.w) X.A X.env X.xe) (hc:PT X c tc) (hb:PSs X body tb):PS X (.While c body [] pos) (Av tc tb):=by
 intro pins s σ H D I h;obtain ⟨W,⟨m0,w0⟩,turn⟩:=h;refine wpAny_While (codeAny_whileLoop (λn s'=>∃ σ' H',Inv X pins σ' H' s'/\W n σ' H') ?_ m0 ⟨σ,H,I,w0⟩);rintro n s1 ⟨σ1,H1,I1,w1⟩;refine JF hp (thn (hc pins s1 σ1 H1 _ I1 (turn n σ1 H1 w1)) λb s2 ⟨H2,I2,q2⟩=>?_);cases b with
 | true=>
  obtain ⟨N,hN,q2⟩:=q2;rw [if_pos rfl];refine JF hp (thn (hb pins s2 σ1 H2 _ I2 q2) λf s3 q3=>?_);cases f with
  | next=>
   obtain ⟨σ3,H3,I3,n3⟩:=q3;obtain ⟨m',hm,w3⟩:=hN σ3 H3 n3;exact ⟨m',hm,σ3,H3,I3,w3⟩
  | cont=>
   obtain ⟨σ3,H3,I3,n3⟩:=q3;obtain ⟨m',hm,w3⟩:=hN σ3 H3 n3;exact ⟨m',hm,σ3,H3,I3,w3⟩
  | brk=>exact q3
  | ret v=>exact q3
 | false=>
  rw [if_neg HU];exact JV ⟨σ1,H2,I2,q2⟩
end
structure It where
 go:Nat->Hp->Prop
 yld:Nat->Hp->V->Hp->Prop
 stop:Nat->Hp->Prop
def K8 (X:Cx) (pins:List (Addr×Obj)) (H:Hp) (b:Addr):Prop:=
 H b=none/\b≠X.env.locals/\b∉X.fs/\(b∈X.ex\/X.s₀.heap.objs.size<=b)/\(∀ x c,X.env.cells.lookup x=some c->c≠b)/\∀ p∈X.pn++pins,p.1≠b
theorem Inv.fpOk {σ:St} {H H':Hp} {s:Shared} {b:Addr} (I:Inv X pins σ H s) (a:s.heap.objs.size<=b) (f:H' b=none):K8 X pins H' b:=by
 refine ⟨f,Nat.ne_of_gt (Ip I.lt a),I.nofs a,.inr (Ir I.sz a),λx c e z=>?_,λp d z=>?_⟩
 ·obtain ⟨v,q⟩:=I.cell x c e;exact absurd (Ip q.lt (by rw [z];exact a)) (Kj _)
 ·exact absurd (Ip (HX (I.pin p d).1) (by rw [z];exact a)) (Kj _)
structure Turn (P:Program) (w:World) (K:PySem.W.Frag) (tg:Expr) (J:It) (fp:List Addr) (it:Addr) (tn:Nat->Heap->Prop):Prop where
 mem:it∈fp
 obj:∀ i h,tn i h->∀ b∈fp,∃ o,h.get? b=some o/\∀ v,o.data≠.cell v
 keep:∀ i h h',tn i h->(∀ b∈fp,∀ o,h.get? b=some o->h'.get? b=some o)->tn i h'
 item:∀ (X:Cx),X.prog=P->X.w=w->X.K=K->X.calm=true->∀ (i:Nat) (pins:List (Addr×Obj)) (s:Shared) (σ:St) (H:Hp) (E:Value->Shared->Prop),Inv X pins σ H s->(∀ b∈fp,K8 X pins H b)->tn i s.heap->J.go i H ->
  wpAny (model P w) X.A (pyNext (.ref it)) (λr s1=>∃ u,r=some u /\
   wpAny (model P w) X.A (letOwnedTupleGo tg (.ref it) u) (λ_ s2=>∃ x H',Inv X pins σ H' s2/\RelV x u/\J.yld i H x H'/\tn (i+1) s2.heap/\∀ b∈fp,H' b=none) E s1) E s
 done:∀ (X:Cx),X.prog=P->X.w=w->X.K=K->X.calm=true->∀ (i:Nat) (pins:List (Addr×Obj)) (s:Shared) (σ:St) (H:Hp) (E:Value->Shared->Prop),Inv X pins σ H s->(∀ b∈fp,K8 X pins H b)->tn i s.heap->J.stop i H ->
  wpAny (model P w) X.A (pyNext (.ref it)) (λr s1=>r=none/\Inv X pins σ H s1) E s
 self:∀ (A:Around) (i:Nat) (s:Shared) (Q:Value->Shared->Prop) (E:Value->Shared->Prop),tn i s.heap->Q (.ref it) s->wpAny (model P w) A (pyIter (.ref it)) Q E s
abbrev TI:=St->Hp->(It->Hp->Prop)->Prop
def PIE (X:Cx) (pins:List (Addr×Obj)) (σ:St) (tg:Expr) (R:It->Hp->Prop) (a:Value) (d:Shared):Prop:=
 ∃ (it:Addr) (c:List Addr) (tn:Nat->Heap->Prop) (J:It) (H':Hp),a=.ref it/\Inv X pins σ H' d/\Turn X.prog X.w X.K tg J c it tn/\tn 0 d.heap/\(∀ b∈c,K8 X pins H' b)/\R J H'
def PI (X:Cx) (tg a:Expr) (b:TI):Prop:=
 ∀ (pins:List (Addr×Obj)) (s:Shared) (σ:St) (H:Hp) (R:It->Hp->Prop),Inv X pins σ H s->b σ H R ->
  wpAny (model X.prog X.w) X.A (eval a X.env) (λv c=>wpAny (model X.prog X.w) X.A (pyIter v) (PIE X pins σ tg R) X.xe c) X.xe s
theorem oK {s:Shared} {tg:Expr} {it:Addr} {u:Value} {o:Obj} {n:String} {vs:Array Value} {Q:Unit->Shared->Prop} (c:s.heap.get? it=some o) (b:o.cls=.type n) (hd:o.data=.fields vs)
  (d:["enumerate","zip","dict_itemiterator","dict_reverseitemiterator","odict_iterator","itertools.zip_longest","itertools.pairwise"].contains n=false) (a:Q () s):wpAny M A (letOwnedTupleGo tg (.ref it) u) Q E s:=by
 cases tg <;> first
  | exact HQ a
  | (cases u <;> first
    | exact HQ a
    | (refine Hz (wpAny_load c ?_);rw [b,hd];show wpAny M A (if (["enumerate","zip","dict_itemiterator","dict_reverseitemiterator","odict_iterator","itertools.zip_longest","itertools.pairwise"].contains n&&vs[0]?==some (rawInt _))=true then _ else _) Q E s;rw [if_neg (by intro h;rw [d,Bool.false_and] at h;cases h)];exact HQ a))
def Itl (K:PySem.W.Frag) (a:Addr):It:=
 ⟨λi H=>∃ xs x,SqL K H a xs/\xs[i]?=some x,λi H x H'=>H'=H/\∀ xs,SqL K H a xs->xs[i]?=some x,λi H=>∃ xs,SqL K H a xs/\xs.length<=i⟩
def Itt (K:PySem.W.Frag) (a:Addr):It:=
 ⟨λi H=>∃ xs x,SqT K H a xs/\xs[i]?=some x,λi H x H'=>H'=H/\∀ xs,SqT K H a xs->xs[i]?=some x,λi H=>∃ xs,SqT K H a xs/\xs.length<=i⟩
def Itr (lo:Int) (n:Nat):It:=⟨λi _=>i<n,λi H x H'=>H'=H/\x=.int (lo+i),λi _=>n<=i⟩
theorem kr {K:PySem.W.Frag} {tg:Expr} (a it:Addr):Turn P w K tg (Itl K a) [it] it (λi h=>h.IsListIter it a i) where
 mem:=by simp
 obj:=λi h st b f=>by
  have e:b=it:=by simpa using f
  subst e;obtain ⟨o,e,c,d⟩:=st;exact ⟨o,e,λv z=>by rw [d] at z;cases z⟩
 keep:=λi h h' st k=>st.at λo e=>k it (by simp) o e
 item:=by
  intro X G D A J i pins s σ H E I j st F;subst G D A;obtain ⟨xs,x,l,B⟩:=F;obtain ⟨n,C,p,hz⟩:=I.list l;obtain ⟨u,S,N⟩:=C.get B;obtain ⟨y,q,O,m,t,r⟩:=j it (by simp);refine wpAny_pyNext_list_item st p.isList (by simpa using S) λh' g R=>?_;have M:=I.turned (t':=s.toks) (λb o f e=>(R.2 b f).trans e) y q m t r;obtain ⟨o,e,c,d⟩:=id g;exact ⟨u,rfl,oK e c d (by decide) ⟨x,H,M,N,⟨rfl,λys Q=>by rw [I.list_inj Q l];exact B⟩,g,λb f=>(j b f).1⟩⟩
 done:=by
  intro X G D A J i pins s σ H E I j st F;subst G D A;obtain ⟨xs,l,B⟩:=F;obtain ⟨n,C,p,hz⟩:=I.list l;obtain ⟨y,q,O,m,t,r⟩:=j it (by simp);have T:=C.length;exact wpAny_pyNext_list_end (I.ok.hd J) st p.isList (by simp;omega) λh' L=>⟨rfl,I.turned (λb o f e=>L b o f e) y q m t r⟩
 self:=λ_ _ _ _ _ st h=>wpAny_pyIter_listiter st h
theorem iT {K:PySem.W.Frag} {tg:Expr} (a it:Addr):Turn P w K tg (Itt K a) [it] it (λi h=>h.IsTupleIter it a i) where
 mem:=by simp
 obj:=λi h st b f=>by
  have e:b=it:=by simpa using f
  subst e;obtain ⟨o,e,c,d⟩:=st;exact ⟨o,e,λv z=>by rw [d] at z;cases z⟩
 keep:=λi h h' st k=>st.at λo e=>k it (by simp) o e
 item:=by
  intro X G D A J i pins s σ H E I j st F;subst G D A;obtain ⟨xs,x,l,B⟩:=F;obtain ⟨n,C,p,hz⟩:=I.tuple l;obtain ⟨u,S,N⟩:=C.get B;obtain ⟨y,q,O,m,t,r⟩:=j it (by simp);refine wpAny_pyNext_tuple_item st (p) (by simpa using S) λh' g R=>?_;have M:=I.turned (t':=s.toks) (λb o f e=>(R.2 b f).trans e) y q m t r;obtain ⟨o,e,c,d⟩:=id g;exact ⟨u,rfl,oK e c d (by decide) ⟨x,H,M,N,⟨rfl,λys Q=>by rw [I.tuple_inj Q l];exact B⟩,g,λb f=>(j b f).1⟩⟩
 done:=by
  intro X G D A J i pins s σ H E I j st F;subst G D A;obtain ⟨xs,l,B⟩:=F;obtain ⟨n,C,p,hz⟩:=I.tuple l;obtain ⟨y,q,O,m,t,r⟩:=j it (by simp);have T:=C.length;exact wpAny_pyNext_tuple_end (I.ok.hd J) st (p) (by simp;omega) λh' L=>⟨rfl,I.turned (λb o f e=>L b o f e) y q m t r⟩
 self:=λ_ _ _ _ _ st h=>wpAny_pyIter_tupleiter st h
theorem iP {K:PySem.W.Frag} {tg:Expr} (it:Addr) (lo:Int) (n:Nat):Turn P w K tg (Itr lo n) [it] it (λi h=>IsRangeIter h it (lo+(i:Nat) * 1) ((n:Int)-(i:Nat)) 1) where
 mem:=by simp
 obj:=λi h st b a=>by
  have e:b=it:=by simpa using a
  subst e;exact ⟨_,st,λv z=>by
   have D:=z;cases D⟩
 keep:=λi h h' st k=>k it (by simp) _ st
 item:=by
  intro X x r q g i pins s σ H E I d st u;subst x r q;obtain ⟨p,j,C,f,m,l⟩:=d it (by simp);have W:=Walks.range (prog:=X.prog) (w:=X.w) (I.ok.hd g) it lo 1 n;refine W.item i s _ _ u st λv h' G A c F=>?_;obtain ⟨t,rfl⟩:=A;have B:Inv X pins σ H { s with heap:=h',toks:=G }:=I.turned (λb o a e=>F b o (by simpa using a) e) p j f m l;refine ⟨_,rfl,oK c rfl rfl (by decide) ⟨.int (lo+i),H,B,⟨t,?_⟩,⟨rfl,rfl⟩,c,λb a=>(d b a).1⟩⟩;rw [Int.mul_one]
 done:=by
  intro X x r q g i pins s σ H E I d st u;subst x r q;obtain ⟨p,j,C,f,m,l⟩:=d it (by simp);exact wpAny_pyNext_range_end (I.ok.hd g) st (by have:n<=i:=u;omega) λh' y=>⟨rfl,I.turned (λb o a e=>y b o a e) p j f m l⟩
 self:=λ_ _ _ _ _ st h=>wpAny_pyIter_rangeiter st h
section
variable {X:Cx} {tg:Expr}
theorem eN {σ:St} {H:Hp} {s:Shared} {R:It->Hp->Prop} {E:Value->Shared->Prop} {lo a:Int} {t u v:Tok} {d:Nat} (I:Inv X pins σ H s) (f:-(2 ^ 62)<=lo) (j:lo<2 ^ 62) (l:-(2 ^ 62)<=a) (h:a<2 ^ 62)
  (q:R (Itr lo (a-lo).toNat) H):wpAny (model X.prog X.w) X.A (pyIter (.ref s.heap.objs.size)) (PIE X pins σ tg R) E { s with heap:=s.heap.push { cls:=.type "range",data:=.fields #[.int lo t,.int a u,.int 1 v] },toks:=d }:=by
 refine wpAny_pyIter_range (IsRange.new ..) (small_one f j l h) ?_;have c:Inv X pins σ H { s with heap:=s.heap.push { cls:=.type "range",data:=.fields #[.int lo t,.int a u,.int 1 v] },toks:=d }:=I.kept λb o e=>HR _ e;refine ⟨(s.heap.push { cls:=.type "range",data:=.fields #[.int lo t,.int a u,.int 1 v] }).objs.size,[(s.heap.push { cls:=.type "range",data:=.fields #[.int lo t,.int a u,.int 1 v] }).objs.size],_,_,H,rfl,
  c.kept λb o e=>HR _ e,iP _ lo (a-lo).toNat,?_,λb k=>?_,q⟩
 ·have i:lo+((0:Nat):Int) * 1=lo:=by simp
  have g:(((a-lo).toNat:Nat):Int)-((0:Nat):Int)=Builtin.Range.rangeSize lo a 1:=by rw [rangeSize_one];split <;> omega
  rw [i,g];exact Ih _ rfl
 ·have e:b=(s.heap.push { cls:=.type "range",data:=.fields #[.int lo t,.int a u,.int 1 v] }).objs.size:=by simpa using k
  subst e;exact c.fpOk (HV _) (c.hok.fresh (HV _))
def ES (a:TA):TI:=λσ H R=>a σ H λvs b=>∃ j:Int,vs=[.int j]/\-(2 ^ 62)<=j/\j<2 ^ 62/\R (Itr 0 j.toNat) b
def DF (a:TA):TI:=λσ H R=>a σ H λvs b=>∃ i j:Int,vs=[.int i,.int j]/\(-(2 ^ 62)<=i/\i<2 ^ 62/\-(2 ^ 62)<=j/\j<2 ^ 62)/\R (Itr i (j-i).toNat) b
theorem mi (f:Gl X "range") (k:X.mg "range" = none) (c:PA X [a] ta) (hs:starEach [a] X.env=[(false,eval a X.env)]:=by rfl):PI X tg (.Call (.Name "range" p) [a] [] pos) (ES ta):=by
 intro pins s σ H R I h;refine Call_ (G1 I f k boot_range (IT (thn (c pos pins s σ H _ I h) λus m ⟨vs,n,d,l,b⟩=>?_) hs rfl));obtain ⟨j,e,b,g,q⟩:=b;subst e;cases l with
 | cons r i=>
  cases i;obtain ⟨t,rfl⟩:=r;exact call_range_1 (eN d (by omega) (by omega) b g (by simpa using q))
theorem km {p pos:Pos} (u:Gl X "range") (v:X.mg "range" = none) (g:PA X [a,b] ta) (hs:starEach [a,b] X.env=[(false,eval a X.env),(false,eval b X.env)]:=by rfl) (c:starEach [b] X.env=[(false,eval b X.env)]:=by rfl) :
  PI X tg (.Call (.Name "range" p) [a,b] [] pos) (DF ta):=by
 intro pins s σ H R I h;refine Call_ (G1 I u v boot_range (IT (thn (g pos pins s σ H _ I h) λus x ⟨vs,y,l,w,f⟩=>?_) (by rw [hs,c]) (by rw [c];rfl)));obtain ⟨i,j,e,⟨f,o,m,n⟩,q⟩:=f;subst e;cases w with
 | cons r d=>
  cases d with
  | cons k d=>
   cases d;obtain ⟨t,rfl⟩:=r;obtain ⟨t',rfl⟩:=k;exact call_range_2 (eN l f o m n q)
def FX (f:TI) (g:TG) (c:TS):TS:=λD σ H=>f σ H λJ d=>∃ W:Nat->Nat->St->Hp->Prop,(∃ m,W 0 m σ d)/\∀ i m σ H,W i m σ H ->
 (J.stop i H/\D.nx σ H)\/(J.go i H/\∃ N:St->Hp->Prop,(∀ a H',N a H'->∃ m',m'<m/\W (i+1) m' a H')/\∀ x H',J.yld i H x H'->g x σ H' λb e=>c { D with nx:=N,ct:=N,bk:=D.nx } b e)
def D9 (a:List Addr) (h:Heap):List (Addr×Obj):=a.filterMap λb=>(h.get? b).map λo=>(b,o)
theorem q5 {b:Addr} {o:Obj} (a:b∈fp) (e:h.get? b=some o):(b,o)∈D9 fp h:=List.mem_filterMap.mpr ⟨b,a,by rw [e];rfl⟩
theorem lU (a:p∈D9 fp h):p.1∈fp/\h.get? p.1=some p.2:=by
 obtain ⟨b,c,e⟩:=List.mem_filterMap.mp a;cases q:h.get? b with
 | none=>rw [q] at e;cases e
 | some o=>
  rw [q] at e;have d:=Iv e;subst d;exact ⟨c,q⟩
theorem Inv.pinned {σ:St} {H:Hp} {s:Shared} {a:List Addr} (I:Inv X pins σ H s) (i:∀ b∈a,K8 X pins H b) (k:∀ b∈a,∃ o,s.heap.get? b=some o/\∀ v,o.data≠.cell v):Inv X (pins++D9 a s.heap) σ H s:=
 I.pins_of λp j=>(IC.mp j).elim (λz=>I.pin p (Ik _ z)) λz=>by
  obtain ⟨c,e⟩:=lU z;obtain ⟨h,l,g,_⟩:=i p.1 c;obtain ⟨o,f,d⟩:=k p.1 c;rw [e] at f;cases f;exact ⟨e,h,l,g,d⟩
theorem Inv.unpinned {σ:St} {H:Hp} {s:Shared} (I:Inv X (pins++pl) σ H s):Inv X pins σ H s:=I.pins_of λp a=>I.pin p (Ik _ (List.mem_append_left _ a))
theorem AK {wi:TI} {g:TG} {tb:TS} {pos:Pos} (hp:PassesOwn (model X.prog X.w) X.A X.env X.xe) (hc:X.calm=true) (hi:PI X tg iter wi) (hg:PG X tg g) (hb:PSs X body tb)
  (hs:∀ x,foldedSetIterable iter X.env x=pure x:=by intro _;rfl):PS X (.For tg iter body [] pos) (FX wi g tb):=by
 intro pins s σ H D I h;refine wpAny_For (thn (hi pins s σ H _ I h) λv s1 h1=>thn h1 λitv s2 h2=>?_) hs;obtain ⟨it,fp,tn,J,H2,e,I2,T,st2,f2,W,⟨m0,w0⟩,turn⟩:=h2;subst e;have stat:∀ {H':Hp},(∀ b∈fp,H' b=none)->∀ b∈fp,K8 X pins H' b:=λhn b hb=>⟨hn b hb,(f2 b hb).2⟩;refine codeAny_forLoop_any (λn s'=>∃ i σ' H',Inv X pins σ' H' s'/\tn i s'.heap/\(∀ b∈fp,H' b=none)/\W i n σ' H') ?_ m0 ⟨0,σ,H2,I2,st2,λb hb=>(f2 b hb).1,w0⟩;rintro n s3 ⟨i,σ3,H3,I3,st3,fr3,w3⟩;rcases turn i n σ3 H3 w3 with ⟨stop,qn⟩ | ⟨go,N,hN,step⟩
 ·refine JF hp (thn (T.done X rfl rfl rfl hc i pins s3 σ3 H3 X.xe I3 (stat fr3) st3 stop) λr s4 ⟨hr,I4⟩=>?_);subst hr;exact JV ⟨σ3,H3,I4,qn⟩
 ·refine JF hp (thn (T.item X rfl rfl rfl hc i pins s3 σ3 H3 X.xe I3 (stat fr3) st3 go) λr s4 ⟨u,hr,h4⟩=>?_);subst hr;refine JF hp (thn h4 λ_ s5 ⟨x,H5,I5,r5,y5,st5,fr5⟩=>?_);have I5':=I5.pinned (stat fr5) (T.obj _ _ st5);refine JF hp (thn (hg _ s5 σ3 H5 x u _ I5' r5 (step x H5 y5)) λ_ s6 ⟨σ6,H6,I6,q6⟩=>?_);refine JF hp (thn (hb _ s6 σ6 H6 _ I6 q6) λf s7 q7=>?_);have again:∀ {σ7:St} {H7:Hp},Inv X (pins++D9 fp s5.heap) σ7 H7 s7->N σ7 H7->∃ m,m<n/\∃ i σ' H',Inv X pins σ' H' s7/\tn i s7.heap/\(∀ b∈fp,H' b=none)/\W i m σ' H':=λ{σ7 H7} I7 n7=>by
   obtain ⟨m',hm,w7⟩:=hN σ7 H7 n7;refine ⟨m',hm,i+1,σ7,H7,I7.unpinned,T.keep _ _ _ st5 λb hb o e=>(I7.pin (b,o) (Ik _ (Ik _ (q5 hb e)))).1,λb hb=>?_,w7⟩;obtain ⟨o,e,d⟩:=T.obj _ _ st5 b hb;exact (I7.pin (b,o) (Ik _ (Ik _ (q5 hb e)))).2.1
  cases f with
  | next=>obtain ⟨σ7,H7,I7,n7⟩:=q7;exact again I7 n7
  | cont=>obtain ⟨σ7,H7,I7,n7⟩:=q7;exact again I7 n7
  | brk=>obtain ⟨σ7,H7,I7,q7⟩:=q7;exact ⟨σ7,H7,I7.unpinned,q7⟩
  | ret v=>obtain ⟨x7,σ7,H7,I7,r7,q7⟩:=q7;exact ⟨x7,σ7,H7,I7.unpinned,r7,q7⟩
end
abbrev R2:=V->V->Hp->VK->Prop
def OpR (X:Cx) (f:Value->Value->Sem Value) (r:R2):Prop:=
 ∀ (pins:List (Addr×Obj)) (s:Shared) (σ:St) (H:Hp) (x y:V) (v u:Value) (Q:VK),Inv X pins σ H s->RelV x v->RelV y u->r x y H Q ->
  wpAny (model X.prog X.w) X.A (f v u) (EP X pins σ Q) X.xe s
def UnR (X:Cx) (f:Value->Sem Value) (r:V->Hp->VK->Prop):Prop:=
 ∀ (pins:List (Addr×Obj)) (s:Shared) (σ:St) (H:Hp) (x:V) (v:Value) (Q:VK),Inv X pins σ H s->RelV x v->r x H Q ->
  wpAny (model X.prog X.w) X.A (f v) (EP X pins σ Q) X.xe s
def j6 (X:Cx) (f:Value) (r:List V->Hp->VK->Prop):Prop:=
 ∀ (pins:List (Addr×Obj)) (s:Shared) (σ:St) (H:Hp) (xs:List V) (us:List Value) (Q:VK),Inv X pins σ H s->Vals xs us->r xs H Q ->
  wpAny (model X.prog X.w) X.A (call f us) (EP X pins σ Q) X.xe s
def FT (X:Cx) (r:V->Hp->(Bool->Hp->Prop)->Prop):Prop:=
 ∀ (pins:List (Addr×Obj)) (s:Shared) (σ:St) (H:Hp) (x:V) (v:Value) (Q:Bool->Hp->Prop),Inv X pins σ H s->RelV x v->r x H Q ->
  wpAny (model X.prog X.w) X.A (truthy v) (TP X pins σ Q) X.xe s
def tOp (r:R2) (a b:TE):TE:=λσ H Q=>a σ H λx d=>b σ d λy c=>r x y c Q
def tUn (r:V->Hp->VK->Prop) (a:TE):TE:=λσ H Q=>a σ H λx b=>r x b Q
def rI (C:Int->Int->Prop) (g:Int->Int->V):R2:=λx y H Q=>∃ i j,x=.int i/\y=.int j/\C i j/\Q (g i j) H
def rI0 (g:Int->Int->V):R2:=λx y H Q=>∃ i j,x=.int i/\y=.int j/\Q (g i j) H
def rU (g:Int->V):V->Hp->VK->Prop:=λx H Q=>∃ i,x=.int i/\Q (g i) H
section
variable {X:Cx} {a b c:Expr} {ta tb tc:TE} {pos:Pos}
theorem Aa (j:PE X a ta) (l:PE X b tb) {pins:List (Addr×Obj)} {s:Shared} {σ:St} {H:Hp} {R:V->V->Hp->Prop} (I:Inv X pins σ H s)
  (h:ta σ H λx g=>tb σ g λy d=>R x y d) {Q:Value->Shared->Prop} {f:Value->Value->Sem Value}
  (o:∀ v u i x y d,Inv X pins σ d i->RelV x v->RelV y u->R x y d->wpAny (model X.prog X.w) X.A (f v u) Q X.xe i) :
  wpAny (model X.prog X.w) X.A (eval a X.env) (λv c=>wpAny (model X.prog X.w) X.A (eval b X.env) (λu e=>wpAny (model X.prog X.w) X.A (f v u) Q X.xe e) X.xe c) X.xe s:=by
 refine thn (j pins s σ H _ I h) λv m ⟨x,g,k,t,n⟩=>?_;refine thn (l pins m σ g _ k n) λu i ⟨y,d,q,p,r⟩=>?_;grind
theorem Do (d:OpR X (binaryOp op) r) (c:PE X a ta) (g:PE X b tb):PE X (.BinOp a op b pos) (tOp r ta tb):=by
 intro pins s σ H Q I h;exact wpAny_BinOp (Aa c g I h λv u j x y k e i f q=>d pins j σ k x y v u Q e i f q)
theorem FB (c:UnR X (unaryOp op) r) (b:PE X a ta):PE X (.UnaryOp op a pos) (tUn r ta):=by
 intro pins s σ H Q I h;exact UnaryOp_ (thn (b pins s σ H _ I h) λv f ⟨x,e,d,i,g⟩=>c pins f σ e x v Q d i g)
theorem opI {C:Int->Int->Prop} {g:Int->Int->Int}
  (a:∀ (i j:Int) (t u:Tok) (s:Shared) (Q:Value->Shared->Prop) (E:Value->Shared->Prop),C i j->Q (.int (g i j) s.toks) { s with toks:=s.toks+1 }->wpAny (model X.prog X.w) X.A (f (.int i t) (.int j u)) Q E s) :
  OpR X f (rI C λi j=>.int (g i j)):=by
 intro pins s σ H x y v u Q I d c h;obtain ⟨i,j,rfl,rfl,b,q⟩:=h;obtain ⟨t,rfl⟩:=d;obtain ⟨t',rfl⟩:=c;exact a i j t t' s _ _ b ⟨.int (g i j),H,I.tok _,⟨_,rfl⟩,q⟩
theorem CM {g:Int->Int->Int}
  (a:∀ (i j:Int) (t u:Tok) (s:Shared) (Q:Value->Shared->Prop) (E:Value->Shared->Prop),Q (.int (g i j) s.toks) { s with toks:=s.toks+1 }->wpAny (model X.prog X.w) X.A (f (.int i t) (.int j u)) Q E s) :
  OpR X f (rI0 λi j=>.int (g i j)):=by
 intro pins s σ H x y v u Q I c b h;obtain ⟨i,j,rfl,rfl,q⟩:=h;obtain ⟨t,rfl⟩:=c;obtain ⟨t',rfl⟩:=b;exact a i j t t' s _ _ ⟨.int (g i j),H,I.tok _,⟨_,rfl⟩,q⟩
theorem wB {g:Int->Int->Bool}
  (a:∀ (i j:Int) (t u:Tok) (s:Shared) (Q:Value->Shared->Prop) (E:Value->Shared->Prop),Q (.bool (g i j)) s->wpAny (model X.prog X.w) X.A (f (.int i t) (.int j u)) Q E s) :
  OpR X f (rI0 λi j=>.bl (g i j)):=by
 intro pins s σ H x y v u Q I c b h;obtain ⟨i,j,rfl,rfl,q⟩:=h;obtain ⟨t,rfl⟩:=c;obtain ⟨t',rfl⟩:=b;exact a i j t t' s _ _ ⟨.bl (g i j),H,I,rfl,q⟩
def rP (i j:Int):Prop:=0<j/\j<1073741824
def wh (i j:Int):Prop:=0<=j/\j<=1000000/\i.natAbs<2 ^ 64
def CMul (i j:Int):Prop:=(-(2 ^ 64)<i/\i<2 ^ 64)\/(-(2 ^ 64)<j/\j<2 ^ 64)
theorem CMul.ok (h:CMul i j):IntMulOk i j:=by
 rcases h with ⟨b,a⟩ | ⟨b,a⟩
 ·exact .of_left (intBits_le_64 b a)
 ·exact .of_right (intBits_le_64 b a)
theorem zV:OpR X (binaryOp .Add) (rI0 λi j=>.int (i+j)):=CM λ_ _ _ _ _ _ _ q=>add_int q
theorem AC:OpR X (binaryOp .Sub) (rI0 λi j=>.int (i-j)):=CM λ_ _ _ _ _ _ _ q=>sub_int q
theorem AW:OpR X (binaryOp .Mult) (rI CMul λi j=>.int (i * j)):=opI λ_ _ _ _ _ _ _ a q=>mul_int q a.ok
theorem tX:OpR X (binaryOp .FloorDiv) (rI rP λi j=>.int (i / j)):=opI λi j _ _ _ _ _ a q=>by
 have c:=a.1;have b:=a.2;exact floordiv_int (by omega) (by rw [Int.fdiv_eq_ediv_of_nonneg i (by omega)];exact q) (.inl (PyProof.noPylong_small (by omega)))
theorem Bb:OpR X (binaryOp .Mod) (rI (λ_ j=>0<j) λi j=>.int (i % j)):=opI λi j _ _ _ _ _ a q=>by
 have b:=a;exact mod_int' (by omega) (by rw [Int.fmod_eq_emod_of_nonneg i (by omega)];exact q)
theorem zC:OpR X (binaryOp .Pow) (rI wh λi j=>.int (i ^ j.toNat)):=opI λ_ _ _ _ _ _ _ a q=>pow_int_small a.1 a.2.1 a.2.2 q
theorem unI {g:Int->Int}
  (a:∀ (i:Int) (t:Tok) (s:Shared) (Q:Value->Shared->Prop) (E:Value->Shared->Prop),Q (.int (g i) s.toks) { s with toks:=s.toks+1 }->wpAny (model X.prog X.w) X.A (f (.int i t)) Q E s) :
  UnR X f (rU λi=>.int (g i)):=by
 intro pins s σ H x v Q I b h;obtain ⟨i,rfl,q⟩:=h;obtain ⟨t,rfl⟩:=b;exact a i t s _ _ ⟨.int (g i),H,I.tok _,⟨_,rfl⟩,q⟩
theorem zj:UnR X (unaryOp .USub) (rU λi=>.int (-i)):=unI λ_ _ _ _ _ q=>neg_int q
end
def Dk:V->V->Bool
 | .non,.non=>true | .non,.int _=>true | .int _,.non=>true | .non,.bl _=>true | .bl _,.non=>true | .non,.str _=>true | .str _,.non=>true
 | .int _,.int _=>true | .bl _,.bl _=>true | .str _,.str _=>true | .byt _,.byt _=>true
 | .int _,.str _=>true | .str _,.int _=>true | .bl _,.str _=>true | .str _,.bl _=>true
 | _,_=>false
def rEq:R2:=λx y H Q=>Dk x y=true/\Q (.bl (decide (x=y))) H
def rNe:R2:=λx y H Q=>Dk x y=true/\Q (.bl (!decide (x=y))) H
theorem ii {i j:Int}:decide (V.int i=V.int j)=(i==j):=by grind
theorem oB {i j:Bool}:decide (V.bl i=V.bl j)=(i==j):=by grind
theorem kW {i j:Str}:decide (V.str i=V.str j)=(i==j):=by grind
theorem jI:decide (V.byt i=V.byt j)=(i.toList==j.toList):=by
 rw [KQ];simp_all
section
variable {X:Cx} {a b c:Expr} {ta tb tc:TE} {pos:Pos}
theorem h9 {σ:St} {H:Hp} {s:Shared} {Q:VK} {k a:Bool} (I:Inv X pins σ H s) (q:Q (.bl k) H) (e:k=a):EP X pins σ Q (.bool a) s:=by
 subst e;exact ⟨.bl k,H,I,rfl,q⟩
theorem Bx:OpR X (compareOp .Eq) rEq:=by
 intro pins s σ H x y v u Q I rx ry h;obtain ⟨hs,q⟩:=h;cases x with
 | non=>
  cases rx;cases y with
  | non=>cases ry;exact PySem.EqNone.eq_none_none (h9 I q (by simp))
  | bl j=>cases ry;exact PySem.EqNone.eq_none_bool (h9 I q (by simp))
  | int j=>obtain ⟨t',rfl⟩:=ry;exact PySem.EqNone.eq_none_int (h9 I q (by simp))
  | str j=>obtain ⟨t',rfl⟩:=ry;exact PySem.EqNone.eq_none_str (h9 I q (by simp))
  | _=>exact absurd (hs) HU
 | bl i=>
  cases rx;cases y with
  | non=>cases ry;exact PySem.EqNone.eq_bool_none (h9 I q (by simp))
  | bl j=>cases ry;exact eq_bool (h9 I q oB)
  | str j=>obtain ⟨t',rfl⟩:=ry;exact PySem.EqMixed.eq_bool_str (h9 I q (by simp))
  | _=>exact absurd (hs) HU
 | int i=>
  obtain ⟨t,rfl⟩:=rx;cases y with
  | non=>cases ry;exact PySem.EqNone.eq_int_none (h9 I q (by simp))
  | int j=>obtain ⟨t',rfl⟩:=ry;exact eq_int (h9 I q ii)
  | str j=>obtain ⟨t',rfl⟩:=ry;exact PySem.EqMixed.eq_int_str (h9 I q (by simp))
  | _=>exact absurd (hs) HU
 | str i=>
  obtain ⟨t,rfl⟩:=rx;cases y with
  | non=>cases ry;exact PySem.EqNone.eq_str_none (h9 I q (by simp))
  | bl j=>cases ry;exact PySem.EqMixed.eq_str_bool (h9 I q (by simp))
  | int j=>obtain ⟨t',rfl⟩:=ry;exact PySem.EqMixed.eq_str_int (h9 I q (by simp))
  | str j=>obtain ⟨t',rfl⟩:=ry;exact eq_str (h9 I q kW)
  | _=>exact absurd (hs) HU
 | byt i=>
  obtain ⟨t,rfl⟩:=rx;cases y with
  | byt j=>obtain ⟨t',rfl⟩:=ry;exact PySem.W.eq_bytes (h9 I q jI)
  | _=>exact absurd (hs) HU
 | _=>cases y <;> exact absurd (hs) HU
theorem Ef:OpR X (compareOp .NotEq) rNe:=by
 intro pins s σ H x y v u Q I rx ry h;obtain ⟨hs,q⟩:=h;cases x with
 | non=>
  cases rx;cases y with
  | non=>cases ry;exact PySem.EqNone.ne_none_none (h9 I q (by simp))
  | bl j=>cases ry;exact PySem.EqNone.ne_none_bool (h9 I q (by simp))
  | int j=>obtain ⟨t',rfl⟩:=ry;exact PySem.EqNone.ne_none_int (h9 I q (by simp))
  | str j=>obtain ⟨t',rfl⟩:=ry;exact PySem.EqNone.ne_none_str (h9 I q (by simp))
  | _=>exact absurd (hs) HU
 | bl i=>
  cases rx;cases y with
  | non=>cases ry;exact PySem.EqNone.ne_bool_none (h9 I q (by simp))
  | bl j=>cases ry;exact ne_bool (h9 I q (congrArg not oB))
  | str j=>obtain ⟨t',rfl⟩:=ry;exact PySem.EqMixed.ne_bool_str (h9 I q (by simp))
  | _=>exact absurd (hs) HU
 | int i=>
  obtain ⟨t,rfl⟩:=rx;cases y with
  | non=>cases ry;exact PySem.EqNone.ne_int_none (h9 I q (by simp))
  | int j=>obtain ⟨t',rfl⟩:=ry;exact ne_int (h9 I q (congrArg not ii))
  | str j=>obtain ⟨t',rfl⟩:=ry;exact PySem.EqMixed.ne_int_str (h9 I q (by simp))
  | _=>exact absurd (hs) HU
 | str i=>
  obtain ⟨t,rfl⟩:=rx;cases y with
  | non=>cases ry;exact PySem.EqNone.ne_str_none (h9 I q (by simp))
  | bl j=>cases ry;exact PySem.EqMixed.ne_str_bool (h9 I q (by simp))
  | int j=>obtain ⟨t',rfl⟩:=ry;exact PySem.EqMixed.ne_str_int (h9 I q (by simp))
  | str j=>obtain ⟨t',rfl⟩:=ry;exact ne_str (h9 I q (congrArg not kW))
  | _=>exact absurd (hs) HU
 | byt i=>
  obtain ⟨t,rfl⟩:=rx;cases y with
  | byt j=>obtain ⟨t',rfl⟩:=ry;exact PySem.W.ne_bytes (h9 I q (congrArg not jI))
  | _=>exact absurd (hs) HU
 | _=>cases y <;> exact absurd (hs) HU
theorem Ca:OpR X (compareOp .Lt) (rI0 λi j=>.bl (decide (i<j))):=wB λ_ _ _ _ _ _ _ q=>lt_int q
theorem Bl:OpR X (compareOp .LtE) (rI0 λi j=>.bl (decide (i<=j))):=wB λ_ _ _ _ _ _ _ q=>le_int q
theorem Cp:OpR X (compareOp .Gt) (rI0 λi j=>.bl (decide (j<i))):=wB λ_ _ _ _ _ _ _ q=>gt_int q
theorem Bs:OpR X (compareOp .GtE) (rI0 λi j=>.bl (decide (j<=i))):=wB λ_ _ _ _ _ _ _ q=>ge_int q
theorem tj (d:OpR X (compareOp op) r) (c:PE X a ta) (g:PE X b tb) (k:behindInMarks op b=false):PE X (.Compare a [op] [b] pos) (tOp r ta tb):=by
 intro pins s σ H Q I h;exact wpAny_Compare1 (Aa c g I h λv u j x y l e i f q=>d pins j σ l x y v u Q e i f q) k
def EI (t:TE):TT:=λσ H Q=>t σ H λx H'=>∃ k,x=.bl k/\Q k H'
theorem tL (w:OpR X (compareOp op) r) (t:PE X a ta) (j:PE X b tb) (o:behindInMarks op b=false):PT X (.Compare a [op] [b] pos) (EI (tOp r ta tb)):=by
 intro pins s σ H Q I h;refine wpAny_isTrue_Compare1 (thn (t pins s σ H _ I h) λv f ⟨x,m,g,q,p⟩=>thn (j pins f σ m _ g p) λu C ⟨y,D,A,l,d⟩=>
  thn (w pins C σ D x y v u _ A q l d) λc F ⟨z,B,i,E,k,e,n⟩=>?_) o
 subst e;cases E;exact wpAny_truthy_bool ⟨B,i,n⟩
def nK (K:PySem.W.Frag) (x:V) (H:Hp) (k:Bool):Prop:=
 match x with
 | .non=>k=false
 | .bl b=>k=b
 | .int i=>k=(i != 0)
 | .str y=>y.length<=sizeLine/\k=((y.length:Int) != 0)
 | .byt y=>y.size<=sizeLine/\k=((y.size:Int) != 0)
 | .ref p=>(∃ xs,SqL K H p xs/\k=!xs.isEmpty)\/(∃ xs,SqT K H p xs/\k=!xs.isEmpty)\/∃ a,H p=some (.dK a)/\k=!a.isEmpty
 | _=>False
theorem gj (r:KV kvs vs):(!vs.isEmpty)=!kvs.isEmpty:=by
 cases r <;> rfl
theorem bM (r:Vals xs its):(!its.toArray.isEmpty)=!xs.isEmpty:=by
 cases r <;> simp
theorem U7:(sizeLine:Nat)<2 ^ 63:=by rw [Iq];decide
theorem gp:FT X (λx H Q=>∃ k,nK X.K x H k/\Q k H):=by
 intro pins s σ H x v Q I rx h;obtain ⟨k,e,q⟩:=h;have hl:=U7;have hs:=Iq;cases x with
 | non=>
  cases rx;have e':=e;subst e';exact truthy_none ⟨H,I,q⟩
 | bl b=>
  cases rx;have e':=e;subst e';exact wpAny_truthy_bool ⟨H,I,q⟩
 | int i=>
  obtain ⟨t,rfl⟩:=rx;have e':=e;subst e';exact PySem.P.truthy_int ⟨H,I,q⟩
 | str y=>
  obtain ⟨t,rfl⟩:=rx;obtain ⟨hy,e'⟩:=e;subst e';exact PySem.P.truthy_str (by omega) ⟨H,I.tok _,q⟩
 | byt y=>
  obtain ⟨t,rfl⟩:=rx;obtain ⟨hy,e'⟩:=e;subst e';exact PySem.W.truthy_bytes (by omega) ⟨H,I.tok _,q⟩
 | ref p=>
  cases rx;have e':=e;rcases e' with ⟨xs,hx,e'⟩ | ⟨xs,hx,e'⟩ | ⟨kvs,hx,e'⟩
  ·subst e';obtain ⟨its,r,pl,hz⟩:=I.list hx;have hlen:=r.length;exact wpAny_truthy_list pl.isList (by simp;omega) ⟨H,I.tok _,by rw [bM r];exact q⟩
  ·subst e';obtain ⟨its,r,pl,hz⟩:=I.tuple hx;have hlen:=r.length;exact truthy_tuple pl (by simp;omega) ⟨H,I.tok _,by rw [bM r];exact q⟩
  ·subst e';obtain ⟨hz,hS,vs,r,m⟩:=I.hok p _ hx;have hlen:=Paired.length r;exact wpAny_truthy_dict hS m (by omega) ⟨H,I.tok _,by rw [gj r];exact q⟩
 | _=>exact (e).elim
theorem mz (c:PE X a ta) (d:∀ b,isTrue a X.env b=(do let v <- b;standAt a.pos;holding [v] (truthy v))) :
  PT X a (λσ H Q=>ta σ H λx H'=>∃ k,nK X.K x H' k/\Q k H'):=by
 intro pins s σ H Q I h;exact isTrue_plain (thn (c pins s σ H _ I h) λv g ⟨x,f,e,j,i⟩=>gp pins g σ f x v Q e j i) (d _)
theorem hQ:OpR X (binaryOp .Add) (λx y H Q=>∃ i j,x=.str i/\y=.str j/\i.length+j.length<=sizeLine/\Q (.str (i++j)) H):=by
 intro pins s σ H x y v u Q I b a h;obtain ⟨i,j,rfl,rfl,hz,q⟩:=h;obtain ⟨t,rfl⟩:=b;obtain ⟨t',rfl⟩:=a;exact add_str (λt' c=>⟨.str (i++j),H,I.tok _,⟨_,rfl⟩,q⟩) hz
theorem N5 (r:Vals [x] us):∃ u,us=[u]/\RelV x u:=by
 cases r with
 | cons b a=>cases a;exact ⟨_,rfl,b⟩
theorem cT (r:Vals [x,y] us):∃ u w',us=[u,w']/\RelV x u/\RelV y w':=by
 cases r with
 | cons b a=>
  cases a with
  | cons d c=>cases c;exact ⟨_,_,rfl,b,d⟩
theorem kq (b:X.calm=true):j6 X (.builtin "max") (λxs H Q=>∃ i j,xs=[.int i,.int j]/\Q (.int (if j > i then j else i)) H):=by
 intro pins s σ H xs us Q I r h;obtain ⟨i,j,rfl,q⟩:=h;obtain ⟨u,w',rfl,⟨t,rfl⟩,⟨t',rfl⟩⟩:=cT r;refine max_two_ints (I.ok.hd b) λh' c k=>⟨_,H,I.kept k,?_,q⟩;by_cases a:j > i
 ·rw [if_pos a,if_pos a];exact ⟨_,rfl⟩
 ·rw [if_neg a,if_neg a];exact ⟨_,rfl⟩
theorem lN (b:X.calm=true):j6 X (.builtin "min") (λxs H Q=>∃ i j,xs=[.int i,.int j]/\Q (.int (if j<i then j else i)) H):=by
 intro pins s σ H xs us Q I r h;obtain ⟨i,j,rfl,q⟩:=h;obtain ⟨u,w',rfl,⟨t,rfl⟩,⟨t',rfl⟩⟩:=cT r;refine min_two_ints (I.ok.hd b) λh' c k=>⟨_,H,I.kept k,?_,q⟩;by_cases a:j<i
 ·rw [if_pos a,if_pos a];exact ⟨_,rfl⟩
 ·rw [if_neg a,if_neg a];exact ⟨_,rfl⟩
theorem bn:j6 X (.type "int") (λxs H Q=>(∃ i,xs=[.int i]/\Q (.int i) H)\/∃ k,xs=[.bl k]/\Q (.int (if k then 1 else 0)) H):=by
 intro pins s σ H xs us Q I r h;rcases h with ⟨i,rfl,q⟩ | ⟨k,rfl,q⟩
 ·obtain ⟨u,rfl,t,rfl⟩:=N5 r;exact call_int_int ⟨.int i,H,I,⟨_,rfl⟩,q⟩
 ·obtain ⟨u,rfl,a⟩:=N5 r;cases a;exact call_int_bool ⟨.int (if k then 1 else 0),H,I.tok _,⟨_,rfl⟩,q⟩
end
theorem M8 {h:Heap} {c:Addr} {mA:Str->Option Value} (n:h.Ns1 c mA):∃ od,h.get? c=some od/\∀ name,PySem.W.lookIn name od=some (mA name):=by
 obtain ⟨o,es,k,g,hd,d,_,j⟩:=n;refine ⟨o,g,λname=>?_⟩;have e:=j name;unfold nsFind findBy at e;rw [<- Array.find?_toList] at e;unfold PySem.W.lookIn;rw [hd];dsimp only;split
 ·grind
 ·rename_i q;rw [q] at e;have a:es.toList.any (·.refKey)=false:=by
   rw [List.any_eq_false];intro y f;obtain ⟨z,t,b⟩:=d y (Array.mem_toList_iff.mp f);simp [DictEntry.refKey,b]
  have i:¬ es.toList.any (·.refKey)=true:=by rw [a];exact HU
  rw [if_neg i];exact congrArg some e
def K7 (f:Str) (v:V):List (Str×V)->List (Str×V)
 | []=>[(f,v)]
 | (g,x) :: r=>if g=f then (g,v) :: r else (g,x) :: K7 f v r
theorem X0 (f g:Str) (v:V):∀ fs:List (Str×V),(K7 f v fs).lookup g=if g=f then some v else fs.lookup g
 | []=>by
  show List.lookup g [(f,v)]=_;by_cases h:g=f
  ·have hb:(g==f)=true:=Kp.mpr h;simp only [List.lookup,hb,if_pos h]
  ·have hb:(g==f)=false:=Kf.mpr h;simp only [List.lookup,hb,if_neg h]
 | (k,x) :: r=>by
  have ih:=X0 f g v r;rw [show K7 f v ((k,x) :: r)=(if k=f then (k,v) :: r else (k,x) :: K7 f v r) from rfl];by_cases hk:k=f
  ·rw [if_pos hk];by_cases h:g=k
   ·have hb:(g==k)=true:=Kp.mpr h;simp only [List.lookup,hb,if_pos (h.trans hk)]
   ·have hb:(g==k)=false:=Kf.mpr h;simp only [List.lookup,hb,if_neg (λe:g=f=>h (e.trans hk.symm))]
  ·rw [if_neg hk];by_cases h:g=k
   ·have hb:(g==k)=true:=Kp.mpr h;simp only [List.lookup,hb,if_neg (λe:g=f=>hk (h.symm.trans e))]
   ·have hb:(g==k)=false:=Kf.mpr h;simp only [List.lookup,hb];exact ih
theorem V5 (f:Str) (v:V):∀ fs:List (Str×V),f∈(K7 f v fs).map (·.1)/\∀ g,g∈fs.map (·.1)->g∈(K7 f v fs).map (·.1)
 | []=>⟨by simp [K7],λg h=>by simp at h⟩
 | (k,x) :: r=>by
  obtain ⟨a,c⟩:=V5 f v r;rw [show K7 f v ((k,x) :: r)=(if k=f then (k,v) :: r else (k,x) :: K7 f v r) from rfl];by_cases b:k=f
  ·grind
  ·grind
theorem Y0 (f:Str) (v:V):∀ fs:List (Str×V),(K7 f v fs).length<=fs.length+1
 | []=>by simp [K7]
 | (k,x) :: r=>by
  have b:=Y0 f v r;rw [show K7 f v ((k,x) :: r)=(if k=f then (k,v) :: r else (k,x) :: K7 f v r) from rfl];by_cases a:k=f
  ·grind
  ·grind
theorem RelO.some_of (r:RelO (some v) o):∃ u,o=some u/\RelV v u:=by
 cases o with
 | none=>exact (r).elim
 | some u=>exact ⟨u,rfl,r⟩
theorem mM (r:RelV v u):PySem.W.handedIn u=true:=by
 cases v with
 | non=>cases (r);rfl
 | bl b=>cases (r);rfl
 | int i=>obtain ⟨t,e⟩:=(r);cases e;rfl
 | str x=>obtain ⟨t,e⟩:=(r);cases e;rfl
 | byt b=>obtain ⟨t,e⟩:=(r);cases e;rfl
 | flt b=>obtain ⟨t,e⟩:=(r);cases e;rfl
 | ref a=>cases (r);rfl
 | ty n=>cases (r);rfl
def v9 (K:PySem.W.Frag) (C:Addr) (f:Str):Prop:=PySem.W.findIn K (.ref C) f=some none
section
variable {X:Cx} {pins:List (Addr×Obj)} {σ:St} {H:Hp} {s:Shared} {a C dx:Addr} {fs:List (Str×V)} {f:Str} {v:V} {A:Around} {E:Value->Shared->Prop}
theorem wW {a:Env} {e:Expr} {f:Str} {pos:Pos} {s:Shared} {Q:Value->Shared->Prop} (c:attributeBase e f a (eval e a)=eval e a)
  (h:wpAny (model prog w) A (eval e a) (λo b=>wpAny (model prog w) A (getAttr o f true) Q E b) E s):wpAny (model prog w) A (eval (.Attribute e f pos) a) Q E s:=
 Attribute_any_ h (by rw [arm_eval_Attribute,c])
end
structure Room (q:Bool) (k:Nat) (A:Around):Prop where
 hd:q=false->A.handled=none
 dp:A.depth+3 * k+5<recursionLimit
 un:A.units+16 * k+200<cLine
 gd:A.guards=some []
theorem Room.any {k:Nat} {A:Around} (r:Room false k A):Room q k A:=⟨λ_=>r.hd rfl,r.dp,r.un,r.gd⟩
theorem Room.mono {j k:Nat} {A:Around} (r:Room q k A) (h:j<=k):Room q j A:=⟨r.hd,by have:=r.dp;omega,by have:=r.un;omega,r.gd⟩
theorem Room.deeper (r:Room q (k+1) A) (a:Env):Room q k (A.deeper a):=
 ⟨r.hd,by have:=r.dp;show A.depth+1+3 * k+5<_;omega,by have:=r.un;show A.units+3+16 * k+200<_;omega,r.gd⟩
theorem gS {A:Around} {C:Addr} {us:List Value} {a:List (Str×Value)}:(A.under (.builtin "type.__call__" ⟨.ref C :: us,a⟩)).depth=A.depth+1:=by
 first | rfl | simp [Around.under,Code.weight,Code.isCreation,Code.isGuard,Code.isCaller,Code.frames,Code.isFrame,guardIds]
theorem iH {A:Around} {C:Addr} {us:List Value} {a:List (Str×Value)}:(A.under (.builtin "type.__call__" ⟨.ref C :: us,a⟩)).units=A.units+1:=by
 first | rfl | simp [Around.under,Code.cUnits,Code.frames,Code.isFrame]
theorem Room.make (r:Room q (k+1) A) (C:Addr) (us:List Value) (a:List (Str×Value)):Room q k (A.under (.builtin "type.__call__" ⟨.ref C :: us,a⟩)):=
 ⟨r.hd,by have:=r.dp;rw [gS];omega,by have:=r.un;rw [iH];omega,by have:=r.gd;simp [Around.under,Code.guards,Code.isGuard,guardIds,pushGuards,this]⟩
theorem Room.depth (r:Room q k A):A.depth<recursionLimit:=by have:=r.dp;omega
theorem Room.units (r:Room q k A):A.units+64<cLine:=by have:=r.un;omega
def tNil:TA:=λ_ H Q=>Q [] H
def EZ (d:TE) (a:TA):TA:=λσ H Q=>d σ H λx c=>a σ c λxs b=>Q (x :: xs) b
section
variable {X:Cx} {e:Expr} {es:List Expr} {te:TE} {t:TA} {pos:Pos}
theorem B0:PA X [] tNil:=λ_ _ _ _ H Q I h=>Lk ⟨[],H,I,.nil,h⟩
theorem i9 (a:PE X e te) (g:PA X es t) (hs:starEach (e :: es) X.env=(false,eval e X.env) :: starEach es X.env:=by rfl):PA X (e :: es) (EZ te t):=by
 intro pos pins s σ H Q I h;rw [hs];refine La (thn (a pins s σ H _ I h) λu j ⟨x,f,d,m,l⟩=>?_);exact thn (g pos pins j σ f _ d l) λus n ⟨xs,k,c,b,i⟩=>⟨x :: xs,k,c,.cons m b,i⟩
def Gc (t:TA):TE:=λσ H Q=>t σ H λxs a=>xs.length<=sizeLine/\∀ p,a p=none->Q (.ref p) (upd a p (.tup xs))
def Fh (t:TA):TE:=λσ H Q=>t σ H λxs a=>xs.length<=sizeLine/\∀ p,a p=none->Q (.ref p) (upd a p (.lst xs))
theorem nU {x1} (h:PA X es t):PE X (.Tuple es x1 pos) (Gc t):=by
 intro pins s σ H Q I f;refine wpAny_Tuple_spliced (thn (h pos pins s σ H _ I f) λus c ⟨xs,g,a,r,z,q⟩=>⟨by rw [<- r.length];exact z,?_⟩);have d:=a.hok.fresh (HV _);refine ⟨.ref c.heap.objs.size,upd g c.heap.objs.size (.tup xs),a.laid (λb u e=>HR _ e) (HV _) ?_,rfl,q _ d⟩;exact ⟨z,us,r,⟨_,Ih _ rfl,rfl,_,rfl,rfl⟩⟩
theorem ou (h:PA X es t):PE X (.List es pos) (Fh t):=by
 intro pins s σ H Q I f;refine wpAny_List_spliced (thn (h pos pins s σ H _ I f) λus c ⟨xs,g,a,r,z,q⟩=>⟨by rw [<- r.length];exact z,?_⟩);have d:=a.hok.fresh (HV _);refine ⟨.ref c.heap.objs.size,upd g c.heap.objs.size (.lst xs),a.laid (λb u e=>HR _ e) (HV _) ?_,rfl,q _ d⟩;exact ⟨z,us,0,r,Ih _ rfl⟩
end
abbrev Sp:=List V->Hp->VK->XK->Prop
structure CXT where
 cx:List Env->Hp->Shared->XK->Value->Shared->Prop
 q:Bool
instance:CoeFun CXT λ_=>List Env->Hp->Shared->XK->Value->Shared->Prop:=⟨CXT.cx⟩
structure Env0 (P:Program) (w:World) (K:PySem.W.Frag) (mg:Str->Option Value) (base:Heap) (A:Around) (outer:List Env) (s:Shared) (H:Hp):Prop where
 frames:A.frames=some outer
 mod:Mod K mg base
 bs:∀ b o,base.get? b=some o->s.heap.get? b=some o/\H b=none
 bsz:base.objs.size<=s.heap.objs.size
 funs:s.heap.FunFrames base outer
 frf:∀ b∈frs outer,H b=none
 hok:HOk P w H s.heap
 bare:AllBare s.gens
def CE (a:List Env) (P:Program) (w:World) (H:Hp) (s:Shared) (Q:VK) (u:Value) (s':Shared):Prop:=
 ∃ v H',s'.os=s.os/\AllBare s'.gens/\Un (frs a) [] H H' s.heap s'.heap/\HOk P w H' s'.heap/\RelV v u/\Q v H'
def CR (CX:CXT) (a:List Env) (P:Program) (w:World) (H:Hp) (s:Shared) (Q:VK) (E:XK) (r:Result) (s':Shared):Prop:=
 match r with
 | .ok (.ret u)=>CE a P w H s Q u s'
 | .ok _=>False
 | .error e=>CX a H s E e s'
structure FnOk (P:Program) (w:World) (K:PySem.W.Frag) (mg:Str->Option Value) (base:Heap) (CX:CXT) (k:Nat) (f:Addr) (fd:FuncData) (ps:List Str) (sp:Sp):Prop where
 len:∀ vs H Q E,sp vs H Q E->vs.length=ps.length
 run:∀ (A:Around) (outer:List Env) (s:Shared) (H:Hp) (args:Args) (us:List Value) (vs:List V) (Q:VK) (E:XK),Room CX.q k A->Env0 P w K mg base A outer s H->BindsTo s fd args (ps.zip us)->Vals vs us->sp vs H Q E ->
  codeAny (model P w) A (.call (.ref f) args) (CR CX outer P w H s Q E) s
theorem FnOk.mono {K:PySem.W.Frag} {d:Str->Option Value} {a:Heap} {CX:CXT} {j k:Nat} {f:Addr} {fd:FuncData} {ps:List Str} {sp:Sp} (F:FnOk P w K d a CX j f fd ps sp) (h:j<=k) :
  FnOk P w K d a CX k f fd ps sp:=⟨F.len,λA b s H c us vs Q E e=>F.run A b s H c us vs Q E (e.mono h)⟩
theorem FnOk.imp {K:PySem.W.Frag} {d:Str->Option Value} {a:Heap} {CX:CXT} {k:Nat} {f:Addr} {fd:FuncData} {ps:List Str} {sp sp':Sp} (F:FnOk P w K d a CX k f fd ps sp)
  (h:∀ vs H Q E,sp' vs H Q E->sp vs H Q E):FnOk P w K d a CX k f fd ps sp':=
 ⟨λvs H Q E q=>F.len vs H Q E (h _ _ _ _ q),λA b s H c us vs Q E g e i j hs=>F.run A b s H c us vs Q E g e i j (h _ _ _ _ hs)⟩
theorem Env0.make {K:PySem.W.Frag} {c:Str->Option Value} {b:Heap} {A:Around} {a:List Env} {s:Shared} {H:Hp} (e:Env0 P w K c b A a s H) (C:Addr) (us:List Value) (d:List (Str×Value)) :
  Env0 P w K c b (A.under (.builtin "type.__call__" ⟨.ref C :: us,d⟩)) a s H:=⟨by first | exact e.frames | (simpa [Around.under,Code.envs,Code.isFrame,pushEnvs] using e.frames),e.mod,e.bs,e.bsz,e.funs,e.frf,e.hok,e.bare⟩
section
variable {X:Cx} {pins:List (Addr×Obj)} {σ:St} {H:Hp} {s s':Shared}
theorem Inv.env0 (I:Inv X pins σ H s):Env0 X.prog X.w X.K X.mg X.base X.A X.stack s H:=
 ⟨I.ok.frames,I.ok.mod,I.bs,Ir I.ok.bsz I.sz,I.stack,I.stkFree,I.hok,I.bare⟩
theorem Inv.after (I:Inv X pins σ H s) (h:CE X.stack X.prog X.w H s Q u s'):EP X pins σ Q u s':=by
 obtain ⟨v,H',f,a,i,e,r,q⟩:=h;obtain ⟨j,g,d,t,c⟩:=s';obtain rfl:c=s.os:=f;exact ⟨v,H',I.call i e a (λb z=>absurd z (by simp)),r,q⟩
end
def qZ (sp:Sp) (a:List V) (E:XK) (t:TA):TE:=λσ H Q=>t σ H λvs b=>sp (vs++a) b Q E
def Binds (K:PySem.W.Frag) (fd:FuncData) (ps:List Str) (ds:List Value):Prop:=
 ∀ (s:Shared) (us:List Value),K.In s.heap->(us++ds).length=ps.length->BindsTo s fd ⟨us,[]⟩ (ps.zip (us++ds))
theorem Binds.all {K:PySem.W.Frag} {fd:FuncData} {ps:List Str} (h:∀ us:List Value,us.length=ps.length->bindArgs fd ⟨us,[]⟩=pure (ps.zip us)):Binds K fd ps []:=λs us _ a=>by
 rw [IF] at a ⊢;exact .of_eq (h us a)
def z0 (CX:CXT) (X:Cx) (E:XK):Prop:=∀ (pins:List (Addr×Obj)) (σ:St) (H:Hp) (s:Shared) (e:Value) (s':Shared),Inv X pins σ H s->CX X.stack H s E e s'->X.xe e s'
section
variable {X:Cx} {CX:CXT} {k:Nat} {f C:Addr} {fd:FuncData} {ps:List Str} {sp:Sp} {dvs:List V} {ds:List Value} {E:XK} {x m:Str} {p pos apos:Pos} {e o:Expr} {es:List Expr} {ta:TE} {t:TA}
theorem gx {σ:St} {H:Hp} {s:Shared} {Q:VK} {us:List Value} {vs:List V} (F:FnOk X.prog X.w X.K X.mg X.base CX k f fd ps sp) (hr:Room CX.q k X.A) (hb:Binds X.K fd ps ds) (hd:Vals dvs ds) (hx:z0 CX X E)
  (I:Inv X pins σ H s) (r:Vals vs us) (h:sp (vs++dvs) H Q E):wpAny (model X.prog X.w) X.A (call (.ref f) us) (EP X pins σ Q) X.xe s:=by
 have r2:=r.append hd;have hl:(us++ds).length=ps.length:=by rw [<- r2.length];exact F.len _ _ _ _ h
 refine Kq (JY (F.run X.A X.stack s H ⟨us,[]⟩ (us++ds) (vs++dvs) Q E hr I.env0 (hb s us I.kIn hl) r2 h) λr s' hq=>?_);cases r with
 | error e=>exact hx pins σ H s e s' I hq
 | ok fl=>
  cases fl with
  | ret u=>exact I.after hq
  | next=>exact False.elim hq
  | brk=>exact False.elim hq
  | cont=>exact False.elim hq
theorem jS (F:FnOk X.prog X.w X.K X.mg X.base CX k f fd ps sp) (l:Room CX.q k X.A) (m:Gl X x) (o:X.mg x=some (.ref f)) (d:PySem.W.keepIn X.K (.ref f)=true) (n:Binds X.K fd ps ds) (hd:Vals dvs ds) (g:z0 CX X E)
  (i:PA X (e :: es) t) (a:(x==("__debug__" : Str))=false:=by decide) (j:starEach (e :: es) X.env=(false,eval e X.env) :: starEach es X.env:=by rfl) (b:(backTo pos (starEach es X.env)).any (·.1)=false:=by rfl) :
  PE X (.Call (.Name x p) (e :: es) [] pos) (qZ sp dvs E t):=by
 intro pins s σ H Q I h;refine Ja (G3 I m o ?_ a);refine Kr I.ok.mod.kin d (thn (i pos pins s σ H _ I h) λus v ⟨vs,u,c,r,q⟩=>⟨c.kIn,?_⟩) j b;exact gx F l n hd g c r q
theorem nS (F:FnOk X.prog X.w X.K X.mg X.base CX k f fd ps sp) (d:Room CX.q k X.A) (e:Gl X x) (i:X.mg x=some (.ref f)) (b:PySem.W.keepIn X.K (.ref f)=true) (g:Binds X.K fd ps ds) (hd:Vals dvs ds) (c:z0 CX X E)
  (a:(x==("__debug__" : Str))=false:=by decide):PE X (.Call (.Name x p) [] [] pos) (qZ sp dvs E tNil):=by
 intro pins s σ H Q I h;refine Ja (G3 I e i ?_ a);exact PySem.W.callWith_K0 I.kIn b (gx F d g hd c I .nil h)
end
structure FnScope (N P:List Str) (sc:Scope):Prop where
 kind:sc.kind=.function
 co:sc.isCoroutine=false
 gen:sc.isGenerator=false
 nd:N.Nodup
 pre:N.take P.length=P
 par:∀ x∈P,sc.names.lookup x=some .local\/sc.names.lookup x=some .cell
 nofree:∀ y∈sc.names,y.2≠.free
theorem cR {b:Str->Option NameKind} {x:Str}:∀ {a:List (Str×Value)} {m:Str->Option Value},(∀ v,(x,v)∉a)->bindL b a m x=m x
 | [],_,_=>rfl
 | (n,v) :: r,m,h=>by
  unfold bindL;rw [cR λw c=>h w (Ic _ c)];split
  ·have:x≠n:=by rintro rfl;exact h v HY
   simp [this]
  ·rfl
theorem cA {b:Str->Option NameKind} {x:Str}:∀ {a:List (Str×Value)} {m:Str->Option Value},(∀ v,(x,v)∉a)->bindC b a m x=m x
 | [],_,_=>rfl
 | (n,v) :: r,m,h=>by
  unfold bindC;rw [cA λw c=>h w (Ic _ c)];split
  ·rfl
  ·have:x≠n:=by rintro rfl;exact h v HY
   simp [this]
theorem bp {a:Str->Option NameKind} {x:Str} {v:Value}:∀ {P:List Str} {vs:List Value} {i:Nat} {m:Str->Option Value},P.Nodup->P[i]?=some x->vs[i]?=some v->a x=some .local ->
  bindL a (P.zip vs) m x=some v
 | [],_,_,_,_,h,_,_=>by simp at h
 | _ :: _,[],_,_,_,_,h,_=>by simp at h
 | p :: P,w :: vs,0,m,d,b,c,e=>by
  simp at b c;subst b;subst c;show bindL a ((p,w) :: P.zip vs) m p=_;unfold bindL;rw [cR λv f=>(Jr.mp d).1 (LC f).1,if_pos e];simp
 | p :: P,w :: vs,i+1,m,d,b,c,e=>by
  unfold bindL;exact bp (Jr.mp d).2 (by simpa using b) (by simpa using c) e
theorem bw {a:Str->Option NameKind} {x:Str} {v:Value}:∀ {P:List Str} {vs:List Value} {i:Nat} {m:Str->Option Value},P.Nodup->P[i]?=some x->vs[i]?=some v->a x≠some .local ->
  bindC a (P.zip vs) m x=some v
 | [],_,_,_,_,h,_,_=>by simp at h
 | _ :: _,[],_,_,_,_,h,_=>by simp at h
 | p :: P,w :: vs,0,m,d,b,c,e=>by
  simp at b c;subst b;subst c;show bindC a ((p,w) :: P.zip vs) m p=_;unfold bindC;rw [cA λv f=>(Jr.mp d).1 (LC f).1,if_neg e];simp
 | p :: P,w :: vs,i+1,m,d,b,c,e=>by
  unfold bindC;exact bw (Jr.mp d).2 (by simpa using b) (by simpa using c) e
def start (N:List Str) (vs:List V):St:=vs.map some++List.replicate (N.length-vs.length) none
def bW (CX:CXT) (P:Program) (w:World) (K:PySem.W.Frag) (mg:Str->Option Value) (base:Heap) (N:List Str) (qual:Str) (scope:Scope) (f:Addr) (cd:Value) (A:Around) (outer:List Env) (s:Shared) (H:Hp) (E:XK):Cx where
 prog:=P
 w:=w
 K:=K
 mg:=mg
 base:=base
 A:=A.deeper (envOfC qual scope s.heap.objs.size f cd)
 N:=N
 s₀:=s
 H₀:=H
 env:=envOfC qual scope s.heap.objs.size f cd
 outer:=outer
 stack:=envOfC qual scope s.heap.objs.size f cd :: outer
 ex:=[]
 calm:=!CX.q
 fn:=λ_=>true
 pn:=[]
 xe:=λe s'=>wpAny (model P w) (A.deeper (envOfC qual scope s.heap.objs.size f cd)) (leaving (envOfC qual scope s.heap.objs.size f cd) e) (λ_ s''=>CX outer H s E e s'') (λe' s''=>CX outer H s E e' s'') s'
theorem fG {a:Scope} {n:Nat} {x:Str} (h:a.names.lookup x=some .cell):∃ c,(cellsFrom n a.names []).lookup x=some c:=by
 have q:=PySem.W.cellsFrom_some a.names n [] (.inl h);exact IZ.mp q
theorem kZ {CX:CXT} {P:Program} {w:World} {K:PySem.W.Frag} {mg:Str->Option Value} {base:Heap} {N ps:List Str} {qual:Str} {scope:Scope} {f:Addr} {cd:Value} {A:Around} {outer:List Env} {s s1:Shared} {H:Hp} {E:XK} {us:List Value} {vs:List V}
  (S:FnScope N ps scope) (hd:CX.q=false->A.handled=none) (e0:Env0 P w K mg base A outer s H) (hl:vs.length=ps.length) (r:Vals vs us)
  (x:InCallC s s.heap.objs.size (bindL (envOfC qual scope s.heap.objs.size f cd).kindOf (ps.zip us) λ_=>none) (cellsFrom (s.heap.objs.size+1) scope.names []) (bindC (envOfC qual scope s.heap.objs.size f cd).kindOf (ps.zip us) λ_=>none) s1) :
  Inv (bW CX P w K mg base N qual scope f cd A outer s H E) [] (start N vs) H s1:=by
 have hpl:ps.length<=N.length:=by have:=congrArg List.length S.pre;rw [JZ] at this;omega
 obtain ⟨h1,tk,rfl,hk⟩:=x.done;have noA:∀ b:Addr,b∉(bW CX P w K mg base N qual scope f cd A outer s H E).ex:=λb z=>absurd (show b∈([]:List Addr) from z) (by simp);refine ⟨⟨e0.mod,S.kind,rfl,rfl,HV _,λy z c h1 h2=>?_,λy hy=>?_,λy c _ h=>?_,λz=>hd (by have z:(!CX.q)=true:=z;simpa using z),Around.frames_deeper e0.frames,.inr ⟨rfl,rfl⟩,λb z=>absurd z (noA b),e0.bs,e0.bsz,λb _ _=>noA b,λb z=>absurd z (noA b),e0.funs,e0.frf⟩,
  rfl,e0.bare,Un.kept hk,⟨_,x.toInCall.ns,λi y v h1 h2 h3=>?_⟩,λy c h=>⟨_,x.cell y c h⟩,e0.hok.fresh (HV _),λy c h=>?_,λp hp=>absurd (show p∈([]:List (Addr×Obj)) from hp) (by simp),e0.hok.kept hk,?_⟩
 ·exact name_of_addr x.apart (JL h1) (JL h2)
 ·have hy:scope.names.lookup y=some .cell\/scope.names.lookup y=some .free:=hy;rcases hy with hy | hy
  ·exact fG hy
  ·exact absurd rfl (S.nofree _ (JL hy))
 ·exact Ly (x.above y c (JL h))
 ·have hi:i<vs.length:=by
   unfold start at h2;by_cases hi:i<vs.length
   ·exact hi
   ·rw [IB (by simpa using hi)] at h2;rw [Jb] at h2;split at h2 <;> cases h2
  have ha:vs[i]?=some v:=by
   unfold start at h2;rw [HW (by simpa using hi),Ie] at h2;cases e:vs[i]? with
   | none=>rw [e] at h2;cases h2
   | some a=>rw [e] at h2;cases h2;rfl
  obtain ⟨u,hu,rv⟩:=r.get ha;have hp:ps[i]?=some y:=by
   rw [<- S.pre,List.getElem?_take_of_lt (by omega)];exact h1
  have ndP:ps.Nodup:=by rw [<- S.pre];exact S.nd.sublist (List.take_sublist _ _)
  refine ⟨u,rv,?_⟩;rcases S.par y (Io hp) with k | k
  ·exact .inl ⟨k,bp ndP hp hu k⟩
  ·obtain ⟨c,e⟩:=fG (n:=s.heap.objs.size+1) k;refine .inr ⟨.inl k,c,e,?_⟩;have q:=x.cell y c e;rw [bw ndP hp hu (by show scope.names.lookup y≠_;rw [k];decide)] at q;exact q
 ·exact e0.hok.fresh (Ly (x.above y c (JL h)))
 ·unfold start;show _=N.length;rw [Jz,Hy,Jh];omega
theorem wy {K:PySem.W.Frag} {mg:Str->Option Value} {base:Heap} {k:Nat} {f:Addr} {name qual:Str} {params:Arguments} {body:List Stmt} {scope:Scope} {dV kV doc pm cdv ct oc:Value} {an od:Option Addr}
  {osl:Array (Option Value)} {N ps:List Str} {sp:Sp} (lk:K.lookup f=some ⟨oc,od,.func (PySem.W.fnOf name qual params body scope dV kV doc pm an cdv ct),osl⟩) (hcd:PySem.W.codeIn K cdv qual=true) (S:FnScope N ps scope)
  (len:∀ vs H Q E,sp vs H Q E->vs.length=ps.length)
  (hbody:∀ (A:Around) (outer:List Env) (s:Shared) (H:Hp) (vs:List V) (Q:VK) (E:XK),Room CX.q k (A.deeper (envOfC qual scope s.heap.objs.size f cdv))->sp vs H Q E ->
   ∃ t,PSs (bW CX P w K mg base N qual scope f cdv A outer s H E) body t/\t { nx:=λ_ H'=>Q .non H',rt:=Q } (start N vs) H) :
  FnOk P w K mg base CX (k+1) f (PySem.W.fnOf name qual params body scope dV kV doc pm an cdv ct) ps sp:=by
 refine ⟨len,λA outer s H args us vs Q E hr e0 hb r hsp=>?_⟩;have hl:=len _ _ _ _ hsp;have KX:=e0.mod.kin.keeps λb o e=>(e0.bs b o e).1;have lim:=e0.mod.nolimit.keeps λb o e=>(e0.bs b o e).1;have hkind:∀ y∈ps.zip us,scope.names.lookup y.1=some .local\/(scope.names.lookup y.1=some .cell/\((cellsFrom (s.heap.objs.size+1) scope.names []).lookup y.1).isSome=true):=λ⟨n,v⟩ hy=>by
  rcases S.par n (LC hy).1 with q | q
  ·exact .inl q
  ·exact .inr ⟨q,PySem.W.cellsFrom_some _ _ _ (.inl q)⟩
 refine codeAny_call_function hr.depth (KX _ _ lk) rfl S.co S.gen rfl (PySem.W.codeRec_of KX hcd) (hb _ _ _ _ ?_);refine wpAny_newFunctionEnv_cells S.kind hkind λenv he s1 x=>?_;subst he;refine ⟨lim.keeps x.toInCall.keep,codeAny_func ?_⟩;obtain ⟨t,ht,hq⟩:=hbody A outer s H vs Q E (hr.deeper _) hsp;have I:Inv (bW CX P w K mg base N qual scope f cdv A outer s H E) [] (start N vs) H s1:=kZ S hr.hd e0 hl r x;refine IJ (ht [] s1 (start N vs) H _ I hq) (λfl s' hs=>?_) λe s' hs=>hs;have fin:∀ {σ':St} {H':Hp} {v:V} {u:Value},Inv (bW CX P w K mg base N qual scope f cdv A outer s H E) [] σ' H' s'->RelV v u->Q v H'->CE outer P w H s Q u s':=
  λ{σ' H' v u} J rv q=>⟨v,H',J.os,J.bare,J.base,J.hok,rv,q⟩
 cases fl with
 | ret u=>
  obtain ⟨v,σ',H',J,rv,q⟩:=hs;exact fin J rv q
 | next=>
  obtain ⟨σ',H',J,q⟩:=hs;exact fin (v:=V.non) J rfl q
 | brk=>
  obtain ⟨_,_,_,q⟩:=hs;exact False.elim q
 | cont=>
  obtain ⟨_,_,_,q⟩:=hs;exact False.elim q
section
variable {X:Cx} {x:Str} {p pos:Pos} {e:Expr} {es:List Expr} {t:TA} {id T:String} {r:List V->Hp->VK->Prop}
def tCB (r:List V->Hp->VK->Prop) (t:TA):TE:=λσ H Q=>t σ H λvs a=>r vs a Q
theorem Q1 (n:j6 X (.builtin id) r) (l:Gl X x) (m:X.mg x=none) (c:bootBuiltins x=some (.builtin id)) (d:PA X (e :: es) t) (f:x ≠ "__name__":=by decide) (a:(x==("__debug__" : Str))=false:=by decide)
  (g:starEach (e :: es) X.env=(false,eval e X.env) :: starEach es X.env:=by rfl) (b:(backTo pos (starEach es X.env)).any (·.1)=false:=by rfl):PE X (.Call (.Name x p) (e :: es) [] pos) (tCB r t):=by
 intro pins s σ H Q I h;refine Ja (G1 I l m c ?_ f a);exact KH (thn (d pos pins s σ H _ I h) λus i ⟨vs,k,j,q,o⟩=>n pins i σ k vs us Q j q o) g b
theorem lB (n:j6 X (.type T) r) (l:Gl X x) (m:X.mg x=none) (c:bootBuiltins x=some (.type T)) (d:PA X (e :: es) t) (f:x ≠ "__name__":=by decide) (a:(x==("__debug__" : Str))=false:=by decide)
  (g:starEach (e :: es) X.env=(false,eval e X.env) :: starEach es X.env:=by rfl) (b:(backTo pos (starEach es X.env)).any (·.1)=false:=by rfl):PE X (.Call (.Name x p) (e :: es) [] pos) (tCB r t):=by
 intro pins s σ H Q I h;refine Ja (G1 I l m c ?_ f a);exact IT (thn (d pos pins s σ H _ I h) λus i ⟨vs,k,j,q,o⟩=>n pins i σ k vs us Q j q o) g b
end
end L2
namespace HT
open PySem PyProof.Rows
section
variable {prog:Program} {w:World} {A:Around} {E:Value->Shared->Prop} {s:Shared}
theorem cat_tup (q:IsTup s.heap t vs.toArray) (v:IsTup s.heap b ws.toArray) (p:vs≠[])
  (r:ws=[]->Q (.ref t) s) (u:ws≠[]->Q (.ref s.heap.objs.size) { s with heap:=s.heap.push { cls:=.type "tuple",data:=.seq (vs++ws).toArray } })
  (hsz:vs.length+ws.length<=sizeLine):wpAny (model prog w) A (binaryOp .Add (.ref t) (.ref b)) Q E s:=by
 obtain ⟨⟨cls,k,data,o⟩,f,x,n,hd⟩:=id q;obtain ⟨⟨m,d,i,c⟩,a,h,l,j⟩:=id v;subst x hd h j;have e:vs.toArray++ws.toArray=(vs++ws).toArray:=by simp
 by_cases g:ws=[]
 ·exact concat_meets ⟨_,f,rfl⟩ ⟨_,a,rfl⟩ Lv LI Ky Ku (Kl _ _)
   (tuple_addW1 t b vs.toArray ws.toArray n l k d o c (by simpa using p) (by simp [g])) ⟨f,a,r g⟩
 ·refine concat_meets ⟨_,f,rfl⟩ ⟨_,a,rfl⟩ Lv LI Ky Ku (Kl _ _)
   (tuple_addW2 t b vs.toArray ws.toArray n l k d o c (by simpa using p) (by simpa using g) (by rw [Ib,Ib];exact hsz)) ⟨f,a,?_⟩
  rw [e];exact u g
def sIx (n d:Nat):Option Int->Nat
 | none=>d
 | some v=>if v<0 then (v+(n:Int)).toNat else min v.toNat n
theorem sIx_none (n d:Nat):sIx n d none=d:=rfl
theorem BK (n d:Nat) (hd:d<=n) (o:Option Int):sIx n d o<=n:=by
 cases o with
 | none=>exact hd
 | some v=>
  show (if v<0 then (v+(n:Int)).toNat else min v.toNat n)<=n;by_cases a:v<0
  ·rw [if_pos a];omega
  ·grind
theorem jG (v:Int) (n d:Nat):(if v<0 then max (v+(n:Int)) 0 else min v (n:Int))=((sIx n d (some v):Nat):Int):=by
 show (if v<0 then max (v+(n:Int)) 0 else min v (n:Int))=(((if v<0 then (v+(n:Int)).toNat else min v.toNat n):Nat):Int);grind
theorem gb (lo hi:Option Int) (n:Nat):Builtin.Slice.sliceAdjust lo hi 1 (n:Int)=(((sIx n 0 lo:Nat):Int),((sIx n n hi:Nat):Int)):=by
 have h1:¬ ((1:Int)<0):=by omega
 refine Prod.ext ?_ ?_
 ·cases lo with
  | none=>rfl
  | some v=>exact jG v n 0
 ·cases hi with
  | none=>rfl
  | some v=>exact jG v n n
theorem iJ (i j:Nat):Builtin.Slice.slicePlaces (i:Int) (j:Int) 1=j-i:=by
 unfold Builtin.Slice.slicePlaces;grind
theorem bI (p:IsPart v o) (h:Q o s):wpAny (model prog w) A (Builtin.Slice.slicePartIndex v) Q E s:=by
 cases p with
 | none=>exact slicePart_none h
 | int i t=>exact slicePart_int h
theorem sliceApplied_gen {lo hi:Option Int} {n:Nat} {Q:Int×Int×Nat->Shared->Prop} (hs:s.heap.IsSliceOf sl vl vu .none) (pl:IsPart vl lo) (pu:IsPart vu hi)
  (h:Q (((sIx n 0 lo:Nat):Int),1,sIx n n hi-sIx n 0 lo) s):wpAny (model prog w) A (Builtin.Slice.sliceApplied (.ref sl) (pure (n:Int))) Q E s:=by
 obtain ⟨os,hos,hcs,hds⟩:=id hs;refine Hz (Hz (Jn hos hds rfl (Hz (Jn hos hds rfl (Hz (Jn hos hds rfl (HQ ?_)))))));refine Hz (slicePart_none ?_);rw [if_neg (by decide)];refine Hz (bI pl (Hz (bI pu (Hz (HQ ?_)))));show wpAny _ _ (match Builtin.Slice.sliceAdjust lo hi 1 (n:Int) with | (lo,hi)=>pure (lo,(1:Int),Builtin.Slice.slicePlaces lo hi 1)) _ _ s;rw [gb lo hi n];show wpAny _ _ (pure (((sIx n 0 lo:Nat):Int),(1:Int),Builtin.Slice.slicePlaces ((sIx n 0 lo:Nat):Int) ((sIx n n hi:Nat):Int) 1)) _ _ s;rw [iJ];exact HQ h
theorem oQ (xs:Array Value) (i k:Nat):((List.range k).filterMap λ(m:Nat)=>xs[((i:Int)+(m:Int) * 1).toNat]?).toArray=((xs.toList.drop i).take k).toArray:=by
 have e:(λ(m:Nat)=>xs[((i:Int)+(m:Int) * 1).toNat]?)=λm=>xs[i+m]?:=by
  funext m;have:((i:Int)+(m:Int) * 1).toNat=i+m:=by omega
  rw [this]
 rw [e];have:=pick_run xs i k;rw [List.filterMap_map] at this;have e2:((λx=>xs[x]?) ∘ λx=>i+x)=λm=>xs[i+m]?:=rfl;grind
theorem getItem_tuple_cut {items:Array Value} {i j:Value} {lo b:Option Int} {Q:Value->Shared->Prop} (c:IsTup s.heap t items) (hs:s.heap.IsSliceOf sl i j .none) (pl:IsPart i lo) (k:IsPart j b)
  (m:¬ (sIx items.size 0 lo=0/\sIx items.size items.size b=items.size))
  (h:Q (.ref s.heap.objs.size) { s with heap:=s.heap.push { cls:=.type "tuple",data:=.seq ((items.toList.drop (sIx items.size 0 lo)).take (sIx items.size items.size b-sIx items.size 0 lo)).toArray } })
  (hsz:items.size<=sizeLine):wpAny (model prog w) A (getItem (.ref t) (.ref sl)) Q E s:=by
 have a:sizeOk (.seq ((items.toList.drop (sIx items.size 0 lo)).take (sIx items.size items.size b-sIx items.size 0 lo)).toArray):=by
  show ((items.toList.drop (sIx items.size 0 lo)).take (sIx items.size items.size b-sIx items.size 0 lo)).toArray.size<=sizeLine;rw [Ib,JZ,List.length_drop,JM];omega
 have n:sIx items.size items.size b<=items.size:=BK _ _ (HV _) b;obtain ⟨l,d,e,hds⟩:=id hs;have g:s.TypeIs (.ref sl) "slice":=⟨l,d,e⟩;unfold getItem;try with_reducible refine Jm ?_
 first | refine Hz (HQ ?_) | skip
 refine Hz (wpAny_sequenceKey c.typeIs (by decide) ?_);refine Hz (JN c.typeIs Jg
  (Ka Jg c.typeIs entry_tuple_getitem ?_ (args_tuple_getitem _ _)))
 show wpAny _ _ (Builtin.Tuple.tupleItemsOf (.ref t) >>= _) _ _ s;refine Hz (Lo c ?_);refine Hz (Lz g ?_);rw [if_pos (by decide)];refine Hz (sliceApplied_gen hs pl k ?_);have f:¬ ((((sIx items.size 0 lo:Nat):Int)==0&&(1:Int)==1&&(sIx items.size items.size b-sIx items.size 0 lo)==items.size)=true):=by
  intro q;rw [HS,HS] at q;have p:=eq_of_beq q.1.1;have o:=eq_of_beq q.2;exact m ⟨by omega,by omega⟩
 show wpAny _ _ (if (((sIx items.size 0 lo:Nat):Int)==0&&(1:Int)==1&&(sIx items.size items.size b-sIx items.size 0 lo)==items.size)=true then _ else _) _ _ s;rw [if_neg f,oQ];first
  | exact Hz (IK (HQ ⟨_,rfl,HQ h⟩) a)
  | exact Hz (IK (Hz (HQ (HQ ⟨_,rfl,HQ h⟩))) a)
  | exact Hz (Hz (IK (HQ (HQ ⟨_,rfl,HQ h⟩)) a))
  | exact Hz (Hz (IK (HQ ⟨_,rfl,HQ h⟩) a))
end
end HT
namespace L2
open PySem PySem.Spec PyProof.Rows
abbrev TO:=St->Hp->(Option Int->Hp->Prop)->Prop
def PO (X:Cx) (e:Option Expr) (t:TO):Prop:=
 ∀ (pins:List (Addr×Obj)) (s:Shared) (σ:St) (H:Hp) (Q:Option Int->Hp->Prop),Inv X pins σ H s->t σ H Q ->
  wpAny (model X.prog X.w) X.A (evalPart e X.env) (λu s'=>∃ o H',Inv X pins σ H' s'/\IsPart u o/\Q o H') X.xe s
def tNoPart:TO:=λ_ H Q=>Q none H
def DW (t:TE):TO:=λσ H Q=>t σ H λx a=>∃ i,x=.int i/\Q (some i) a
section
variable {X:Cx} {e:Expr} {te:TE} {lo hi:Option Expr} {tl th:TO} {pos p2:Pos}
theorem wD:PO X none tNoPart:=by
 intro pins s σ H Q I h;rw [evalPart_none];exact HQ ⟨none,H,I,.none,h⟩
theorem uM (h:PE X e te):PO X (some e) (DW te):=by
 intro pins s σ H Q I f;rw [evalPart_some];refine thn (h pins s σ H _ I f) λu g ⟨x,b,a,d,c⟩=>?_;obtain ⟨i,rfl,q⟩:=c;obtain ⟨t,rfl⟩:=d;exact ⟨some i,b,a,.int i t,q⟩
def SlR (X:Cx) (r:V->Option Int->Option Int->Hp->VK->Prop):Prop:=
 ∀ (pins:List (Addr×Obj)) (s:Shared) (σ:St) (H:Hp) (x:V) (v c b:Value) (lo a:Option Int) (d:Addr) (Q:VK),Inv X pins σ H s->RelV x v->s.heap.IsSliceOf d c b .none->IsPart c lo->IsPart b a->r x lo a H Q ->
  ∃ T id,typeLookup (.type T) "__getitem__" = pure (some (.builtin id))/\s.TypeIs v T/\wpAny (model X.prog X.w) X.A (getItem v (.ref d)) (EP X pins σ Q) X.xe s
def tSl (r:V->Option Int->Option Int->Hp->VK->Prop) (te:TE) (a d:TO):TE:=λσ H Q=>te σ H λx c=>a σ c λl e=>d σ e λu b=>r x l u b Q
theorem nO (j:SlR X r) (o:PE X e te) (g:PO X lo tl) (J:PO X hi th):PE X (.Subscript e (.Slice lo hi none p2) pos) (tSl r te tl th):=by
 intro pins s σ H Q I h;refine Subscript_ (thn (o pins s σ H _ I h) λv m ⟨x,y,t,C,B⟩=>?_);refine wpAny_Slice (thn (g pins m σ y _ t B) λc F ⟨l,G,D,pl,i⟩=>thn (J pins F σ G _ D i) λd a ⟨u,f,w,n,z⟩=>?_);rw [evalPart_none];refine HQ ?_;have k:Inv X pins σ f { a with heap:=a.heap.push { cls:=.type "slice",data:=.fields #[c,d,.none] } }:=w.kept λb ob q=>HR _ q;obtain ⟨T,id,A,p,E⟩:=j pins { a with heap:=a.heap.push { cls:=.type "slice",data:=.fields #[c,d,.none] } } σ f x v c d l u a.heap.objs.size Q k C (Heap.IsSliceOf.new ..) pl n z;exact tail_any p A E (by with_unfolding_all rfl)
def lJ (xs:List V) (lo a:Option Int):List V:=(xs.drop (HT.sIx xs.length 0 lo)).take (HT.sIx xs.length xs.length a-HT.sIx xs.length 0 lo)
theorem X5 (xs:List V) (lo hi:Option Int):(lJ xs lo hi).length<=xs.length:=by
 unfold lJ;rw [JZ,List.length_drop];omega
def Gd (K:PySem.W.Frag):V->Option Int->Option Int->Hp->VK->Prop:=λx lo b H Q=>∃ a xs,x=.ref a/\SqT K H a xs /\
 ¬ (HT.sIx xs.length 0 lo=0/\HT.sIx xs.length xs.length b=xs.length)/\∀ p,H p=none->Q (.ref p) (upd H p (.tup (lJ xs lo b)))
theorem BN:SlR X (Gd X.K):=by
 intro pins s σ H x v l m lo e n Q I j hs pl i h;obtain ⟨a,xs,rfl,g,k,q⟩:=h;cases j;obtain ⟨d,r,f,hz⟩:=I.tuple g;have c:d.toArray.size=xs.length:=by rw [Ib];exact r.length.symm
 refine ⟨"tuple",_,PyProof.Rows.slot_tuple_getitem.lookup,f.typeIs,?_⟩;refine HT.getItem_tuple_cut f hs pl i (by rw [c];exact k) ?_ (by rw [c];exact hz);rw [c];refine ⟨.ref s.heap.objs.size,_,I.laid (λb ob q=>HR _ q) (HV _) ?_,rfl,q _ (I.hok.fresh (HV _))⟩;exact ⟨Ir (X5 xs lo e) hz,_,(r.drop (HT.sIx xs.length 0 lo)).take (HT.sIx xs.length xs.length e-HT.sIx xs.length 0 lo),TupN.new _ _⟩
def Ct (K:PySem.W.Frag):R2:=λx y H Q=>∃ a b xs ys,x=.ref a/\y=.ref b/\SqT K H a xs/\SqT K H b ys/\xs≠[]/\xs.length+ys.length<=sizeLine /\
 (ys=[]->Q (.ref a) H)/\(ys≠[]->∀ p,H p=none->Q (.ref p) (upd H p (.tup (xs++ys))))
theorem Vals.nil_iff (r:Vals xs us):us=[]↔xs=[]:=by
 cases r with
 | nil=>simp
 | cons _ _=>simp
theorem uH:OpR X (binaryOp .Add) (Ct X.K):=by
 intro pins s σ H x y v u Q I n k h;obtain ⟨a,b,xs,ys,rfl,rfl,g,m,f,hz,p,l⟩:=h;cases n;cases k;obtain ⟨j,d,o,_⟩:=I.tuple g;obtain ⟨e,c,i,_⟩:=I.tuple m;refine HT.cat_tup o i (λz=>f (d.nil_iff.mp z)) (λz=>⟨.ref a,H,I,rfl,p (c.nil_iff.mp z)⟩) (λz=>?_) (by rw [<- d.length,<- c.length];exact hz);refine ⟨.ref s.heap.objs.size,_,I.laid (λb ob q=>HR _ q) (HV _) ?_,rfl,l (λw=>z (c.nil_iff.mpr w)) _ (I.hok.fresh (HV _))⟩;exact ⟨by rw [Jz];exact hz,_,d.append c,TupN.new _ _⟩
end
def ixN (n:Nat) (i:Int):Option Nat:=if 0<=i then (if i<n then some i.toNat else none) else if -(n:Int)<=i then some (i+n).toNat else none
def atI {a:Type} (xs:List a) (i:Int):Option a:=(ixN xs.length i).bind λj=>xs[j]?
theorem de (h:ixN n i=some j):seqIndex? i n=some j/\j<n/\-(n:Int)<=i/\i<n:=by
 unfold ixN at h;by_cases b:0<=i
 ·rw [if_pos b] at h;by_cases a:i<n
  ·rw [if_pos a] at h;have e:=Iv h;exact ⟨by rw [seqIndex_of b a,e],by omega,by omega,a⟩
  ·grind
 ·rw [if_neg b] at h;by_cases a:-(n:Int)<=i
  ·rw [if_pos a] at h;have e:=Iv h;exact ⟨by rw [seqIndex_neg (by omega) a,e],by omega,a,by omega⟩
  ·grind
theorem kA (h:atI xs i=some v):∃ j,seqIndex? i xs.length=some j/\xs[j]?=some v/\j<xs.length/\-(xs.length:Int)<=i/\i<xs.length:=by
 unfold atI at h;cases e:ixN xs.length i with
 | none=>rw [e] at h;cases h
 | some j=>
  rw [e] at h;obtain ⟨c,b,a,d⟩:=de e;exact ⟨j,c,h,b,a,d⟩
theorem Z6 {j:Nat} {v:α} (h:xs[j]?=some v):atI xs (j:Int)=some v:=by
 have hj:=(HN.mp h).1;have e:ixN xs.length (j:Int)=some j:=by
  unfold ixN;rw [if_pos (by omega),if_pos (by omega)];simp
 unfold atI;rw [e];exact h
def dP (b:Expr):Prop:=∀ o i,subscripted b false o i=operate [o,i] (getItem o i)
def IxR (X:Cx) (r:R2):Prop:=
 ∀ (b a:Expr) (pins:List (Addr×Obj)) (s:Shared) (σ:St) (H:Hp) (x y:V) (v u:Value) (Q:VK),Inv X pins σ H s->RelV x v->RelV y u->r x y H Q ->
  subscripted a false v u=operate [v,u] (getItem v u)->wpAny (model X.prog X.w) X.A (subscriptTail b a v u) (EP X pins σ Q) X.xe s
def MtR (X:Cx) (id:String) (r:V->List V->Hp->VK->Prop):Prop:=
 ∀ (pins:List (Addr×Obj)) (s:Shared) (σ:St) (H:Hp) (x:V) (xs:List V) (v:Value) (us:List Value) (Q:VK),Inv X pins σ H s->RelV x v->Vals xs us->r x xs H Q ->
  wpAny (model X.prog X.w) X.A (call (.builtin id) (v :: us)) (EP X pins σ Q) X.xe s
section
variable {X:Cx} {a b:Expr} {ta tb:TE} {pos:Pos}
theorem Da (f:IxR X r) (c:PE X a ta) (g:PE X b tb) (hs:dP b):PE X (.Subscript a b pos) (tOp r ta tb):=by
 intro pins s σ H Q I h;exact Subscript_ (Aa c g I h λv u j x y k d i e q=>f a b pins j σ k x y v u Q d i e q (hs _ _))
def Gj (K:PySem.W.Frag):R2:=λx y H Q=>∃ p xs i v,x=.ref p/\y=.int i/\SqL K H p xs/\atI xs i=some v/\Q v H
def Fj (K:PySem.W.Frag):R2:=λx y H Q=>∃ p xs i v,x=.ref p/\y=.int i/\SqT K H p xs/\atI xs i=some v/\Q v H
theorem tS:IxR X (Gj X.K):=by
 intro f e pins s σ H x y v u Q I D n h hs;obtain ⟨p,xs,i,z,rfl,rfl,E,A,q⟩:=h;cases D;obtain ⟨t,rfl⟩:=n;obtain ⟨d,r,pl,hz⟩:=I.list E;obtain ⟨j,b,C,G,m,B⟩:=kA A;obtain ⟨w,k,c⟩:=r.get C;have o:=r.length;have F:=U7;have a:EP X pins σ Q w s:=⟨z,H,I,c,q⟩;by_cases l:0<=i
 ·have g:i.toNat=j:=by
   rw [seqIndex_of l B] at b;exact Iv b
  exact item_listR pl.isList l (by omega) (by rw [g];simpa using k) a hs
 ·have g:(i+(d.toArray.size:Int)).toNat=j:=by
   rw [seqIndex_neg (by omega) m] at b;rw [Ib,<- o];exact Iv b
  exact subscriptTail_builtinR pl.isList.typeIs slot_list_getitem.lookup
   (wpAny_getItem_list_neg pl.isList (by omega) (by rw [Ib] <;> omega) (by omega) (by rw [g];simpa using k) ⟨rfl,a⟩) hs
theorem yu:IxR X (Fj X.K):=by
 intro b d pins s σ H x y v u Q I A l h hs;obtain ⟨p,xs,i,z,rfl,rfl,g,e,q⟩:=h;cases A;obtain ⟨t,rfl⟩:=l;obtain ⟨k,r,pl,hz⟩:=I.tuple g;obtain ⟨j,f,o,D,C,E⟩:=kA e;obtain ⟨w,n,c⟩:=r.get o;have m:=r.length;have B:=U7;have a:EP X pins σ Q w s:=⟨z,H,I,c,q⟩;exact subscriptTail_builtinR pl.typeIs slot_tuple_getitem.lookup
  (getItem_tuple pl (by omega) (by omega) (by rw [Ib,<- m];exact f) (by simpa using n) ⟨rfl,a⟩) hs
theorem gn (a:List Value) (n j:Nat) (u:Value):Obj.mapSeq (·.setIfInBounds j u) { cls:=.type "list",data:=.seq a.toArray n }={ cls:=.type "list",data:=.seq (a.set j u).toArray n }:=by
 simp [Obj.mapSeq]
theorem Inv.lst {σ:St} {H:Hp} {s:Shared} {p:Addr} {xs:List V} (I:Inv X pins σ H s) (h:H p=some (.lst xs)) :
  ∃ (a:List Value) (n:Nat),Vals xs a/\s.heap.get? p=some { cls:=.type "list",data:=.seq a.toArray n }/\xs.length<=sizeLine:=by
 obtain ⟨z,a,n,r,e⟩:=I.hok p _ h;grind
theorem Inv.lstUpd {σ:St} {H:Hp} {s:Shared} {p:Addr} {xs ys:List V} {a its':List Value} {n c:Nat} {f:Obj->Obj} (I:Inv X pins σ H s) (h:H p=some (.lst xs))
  (g:s.heap.get? p=some { cls:=.type "list",data:=.seq a.toArray n }) (d:f { cls:=.type "list",data:=.seq a.toArray n }={ cls:=.type "list",data:=.seq its'.toArray c }) (r:Vals ys its') (hz:ys.length<=sizeLine) (t:Nat) :
  Inv X pins σ (upd H p (.lst ys)) { s with heap:=s.heap.update p f,toks:=t }:=by
 have e:(s.heap.update p f).get? p=some { cls:=.type "list",data:=.seq its'.toArray c }:=by
  rw [IY f g (by rw [d] <;> rfl),d]
 refine I.write (by rw [h];trivial) (.inl rfl) (λb u i q=>(JS _ _ (Ne.symm i)).trans q) ⟨_,e⟩ ?_;exact ⟨hz,its',c,r,e⟩
def rSetL:V->V->V->Hp->(Hp->Prop)->Prop:=λo i v H Q=>∃ p xs k j,o=.ref p/\i=.int k/\H p=some (.lst xs)/\ixN xs.length k=some j/\Q (upd H p (.lst (xs.set j v)))
theorem nB:zB X rSetL:=by
 intro pins s σ H o i v D B u Q I z x A h;obtain ⟨p,xs,k,j,rfl,rfl,f,y,q⟩:=h;cases z;obtain ⟨t,rfl⟩:=x;obtain ⟨a,n,r,d,hz⟩:=I.lst f;obtain ⟨b,E,w,l⟩:=de y;have e:=r.length;have C:=U7;have g:Inv X pins σ (upd H p (.lst (xs.set j v))) { s with heap:=s.heap.update p (Obj.mapSeq (·.setIfInBounds j u)) }:=
  I.lstUpd f d (gn a n j u) (r.set A j) (by rw [Ij];exact hz) s.toks
 by_cases m:0<=k
 ·have c:k.toNat=j:=by
   rw [seqIndex_of m l] at b;exact Iv b
  exact PySem.W.ki_setAt d m (by omega) (by rw [Ib,<- e];exact l) (by rw [c];exact ⟨_,g,q⟩)
 ·have c:(k+(a.toArray.size:Int)).toNat=j:=by
   rw [seqIndex_neg (by omega) w] at b;rw [Ib,<- e];exact Iv b
  exact PySem.W.ki_setBack d (by omega) (by rw [Ib,<- e];exact w) (by omega) (by rw [c];exact ⟨_,g,q⟩)
theorem du (lo a:Option Int) (n:Nat):(sliceBounds lo a none n).1=((HT.sIx n 0 lo:Nat):Int)/\(sliceBounds lo a none n).2.1=((HT.sIx n n a:Nat):Int)/\(sliceBounds lo a none n).2.2=1:=by
 refine ⟨?_,?_,rfl⟩
 ·cases lo with
  | none=>simp [sliceBounds,HT.sIx]
  | some i=>
   simp only [sliceBounds,HT.sIx,Option.getD_none,show (1:Int) > 0 by decide,if_true];by_cases h:i<0
   ·grind
   ·grind
 ·cases a with
  | none=>simp [sliceBounds,HT.sIx]
  | some i=>
   simp only [sliceBounds,HT.sIx,Option.getD_none,show (1:Int) > 0 by decide,if_true];by_cases h:i<0
   ·grind
   ·grind
theorem bf (a:List Value) (lo b:Option Int):slicePick a.toArray lo b none=((a.drop (HT.sIx a.length 0 lo)).take (HT.sIx a.length a.length b-HT.sIx a.length 0 lo)).toArray:=by
 obtain ⟨c,d,e⟩:=du lo b a.toArray.size;unfold slicePick;rw [c,d,e];simp only [sliceRange_one,pick_run,Ib] <;> rfl
def Gf (K:PySem.W.Frag):V->Option Int->Option Int->Hp->VK->Prop:=λx lo b H Q=>∃ a xs,x=.ref a/\SqL K H a xs/\∀ p,H p=none->Q (.ref p) (upd H p (.lst (lJ xs lo b)))
theorem vW:SlR X (Gf X.K):=by
 intro pins s σ H x v k l lo d m Q I j hs pl g h;obtain ⟨a,xs,rfl,f,q⟩:=h;cases j;obtain ⟨i,r,e,hz⟩:=I.list f;have c:=r.length;refine ⟨"list",_,slot_list_getitem.lookup,e.isList.typeIs,?_⟩;refine wpAny_getItem_list_slice e.isList hs pl g .none (by simp) ?_ (by rw [Ib] <;> omega);rw [bf,<- c];refine ⟨.ref s.heap.objs.size,_,I.laid (λb ob q=>HR _ q) (HV _) ?_,rfl,q _ (I.hok.fresh (HV _))⟩;exact ⟨Ir (X5 xs lo d) hz,_,0,(r.drop (HT.sIx xs.length 0 lo)).take (HT.sIx xs.length xs.length d-HT.sIx xs.length 0 lo),Ih _ rfl⟩
theorem dj:j6 X (.builtin "len") (λxs H Q=>∃ p ys,xs=[.ref p]/\(SqL X.K H p ys\/SqT X.K H p ys)/\Q (.int ys.length) H):=by
 intro pins s σ H xs us Q I r h;obtain ⟨p,ys,rfl,b,q⟩:=h;obtain ⟨u,rfl,e⟩:=N5 r;cases e;have f:=U7;rcases b with b | b
 ·obtain ⟨d,c,pl,hz⟩:=I.list b;have a:=c.length;exact Calls.call_len_list pl.isList (by simp <;> omega) ⟨.int ys.length,H,I.tok _,⟨s.toks+1,by rw [Ib,a]⟩,q⟩
 ·obtain ⟨d,c,pl,hz⟩:=I.tuple b;have a:=c.length;exact len_tuple pl (by simp <;> omega) ⟨.int ys.length,H,I.tok _,⟨s.toks+1,by rw [Ib,a]⟩,q⟩
theorem cy:j6 X (.builtin "len") (λxs H Q=>∃ z,xs=[.str z]/\z.length<=sizeLine/\Q (.int z.length) H):=by
 intro pins s σ H xs us Q I r h;obtain ⟨z,rfl,hz,q⟩:=h;obtain ⟨u,rfl,t,rfl⟩:=N5 r;have hn:=U7;exact len_str (by omega) ⟨.int z.length,H,I.tok _,⟨_,rfl⟩,q⟩
theorem O0:j6 X (.type "tuple") (λxs H Q=>∃ p ys,xs=[.ref p]/\((SqL X.K H p ys/\∀ l,H l=none->Q (.ref l) (upd H l (.tup ys)))\/(SqT X.K H p ys/\Q (.ref p) H))):=by
 intro pins s σ H xs us Q I r h;obtain ⟨p,ys,rfl,h⟩:=h;obtain ⟨u,rfl,k⟩:=N5 r;cases k;rcases h with ⟨c,q⟩ | ⟨c,q⟩
 ·obtain ⟨a,d,pl,hz⟩:=I.list c;have f:=d.length;refine call_tuple_list pl.isList (λh' i=>?_) (by simp <;> omega);have g:=I.kept (t':=s.toks) i;have j:Inv X pins σ (upd H h'.objs.size (.tup ys)) { s with heap:=h'.push { cls:=.type "tuple",data:=.seq a.toArray } }:=
   g.laid (λb o e=>HR _ e) (HV _) (⟨hz,a,d,TupN.new _ _⟩)
  exact ⟨.ref h'.objs.size,_,j,rfl,q _ (g.hok.fresh (HV _))⟩
 ·obtain ⟨a,d,pl,hz⟩:=I.tuple c;exact call_tuple_same pl ⟨.ref p,H,I,rfl,q⟩
def tyV (K:PySem.W.Frag) (T:String) (x:V) (H:Hp):Prop:=match x with
 | .str _=>T = "str"
 | .int _=>T = "int"
 | .ref p=>(T = "list"/\∃ xs,SqL K H p xs)\/(T = "tuple"/\∃ o,K.lookup p=some o/\o.cls=.type "tuple"/\o.dict=none) \/
   (T = "dict"/\((∃ a,H p=some (.dK a))\/∃ a,H p=some (.dT a)))\/(T = "set"/\∃ S n,H p=some (.set S n))\/(T = "tuple"/\∃ xs,Rd H p (.tup xs))
 | _=>False
theorem gf {σ:St} {H:Hp} {s:Shared} {T:String} {x:V} {v:Value} (I:Inv X pins σ H s) (r:RelV x v) (ty:tyV X.K T x H) :
  s.TypeIs v T/\∀ a,v=.ref a->∃ ob,s.heap.get? a=some ob/\ob.dict=none:=by
 cases x with
 | str z=>
  obtain ⟨t,rfl⟩:=r;cases (ty);exact ⟨typeIs_str s z t,λ_ e=>nomatch e⟩
 | int i=>
  obtain ⟨t,rfl⟩:=r;cases (ty);exact ⟨KI s i t,λ_ e=>nomatch e⟩
 | ref p=>
  cases r;rcases ty with ⟨rfl,xs,hq⟩ | ⟨rfl,o,hk,hc,hd⟩ | ⟨rfl,hk⟩ | ⟨rfl,S,n,hk⟩ | ⟨rfl,xs,hk⟩
  ·obtain ⟨its,_,pl,_⟩:=I.list hq;refine ⟨pl.isList.typeIs,λa e=>?_⟩;cases e;obtain ⟨o,n,e,c,hd,_⟩:=pl;exact ⟨o,e,hd⟩
  ·refine ⟨⟨o,I.kIn p o hk,hc⟩,λa e=>?_⟩;cases e;exact ⟨o,I.kIn _ o hk,hd⟩
  ·have z:∃ o,s.heap.get? p=some o/\o.ExactDict:=by
    rcases hk with ⟨kvs,hk⟩ | ⟨kvs,hk⟩
    ·obtain ⟨_,_,_,_,o,_,_,e,ex,_⟩:=I.hok p _ hk;exact ⟨o,e,ex⟩
    ·obtain ⟨_,_,_,_,o,_,_,e,ex,_⟩:=I.hok p _ hk;exact ⟨o,e,ex⟩
   obtain ⟨o,e,ex⟩:=z;refine ⟨⟨o,e,ex.1⟩,λa e2=>?_⟩;cases e2;exact ⟨o,e,ex.2.1⟩
  ·obtain ⟨o,_,_,_,e,ex,_⟩:=I.hok p _ hk;refine ⟨⟨o,e,ex.1⟩,λa e2=>?_⟩;cases e2;exact ⟨o,e,ex.2.1⟩
  ·obtain ⟨_,its,_,o,e,c,n,_,hd⟩:=(hk.ok I.hok);exact ⟨⟨o,e,c⟩,λa e2=>by cases e2;exact ⟨o,e,hd⟩⟩
 | _=>exact False.elim ty
def tBM (K:PySem.W.Frag) (T:String) (r:V->List V->Hp->VK->Prop) (c:TE) (t:TA):TE:=λσ H Q=>c σ H λx a=>tyV K T x a/\t σ a λxs b=>r x xs b Q
variable {o e:Expr} {es:List Expr} {to:TE} {t:TA} {name:Str} {apos cpos:Pos} {T id:String} {r:V->List V->Hp->VK->Prop}
theorem xS (l:PlainAttrs T) (d:Slot T name id) (g:typeOf (.builtin id)=pure (.type "method_descriptor")) (z:MtR X id r) (C:PE X o to) (B:PA X (e :: es) t)
  (c:attributeBase o name X.env (eval o X.env)=eval o X.env:=by rfl)
  (f:((backTo cpos (starEach (e :: es) X.env)).all (λx=>!x.1)&&(backToKw cpos (keywordEach [] X.env)).all (λx=>x.1.isSome)
   && decide ((e :: es).length+([]:List Keyword).length+(if ([]:List Keyword).isEmpty then 0 else 1)<30))=true:=by rfl)
  (b:(apos.endLine==cpos.line)=true:=by rfl) (hs:starEach (e :: es) X.env=(false,eval e X.env) :: starEach es X.env:=by rfl) (a:(backTo cpos (starEach es X.env)).any (·.1)=false:=by rfl) :
  PE X (.Call (.Attribute o name apos) (e :: es) [] cpos) (tBM X.K T r to t):=by
 intro pins s σ H Q I h;refine wpAny_Call_method_late c f b rfl (thn (C pins s σ H _ I h) λv p ⟨x,w,j,k,q,A⟩=>?_);obtain ⟨m,y⟩:=gf j k q;refine ⟨T,id,l,d,g,m,y,?_⟩;have i:=B cpos pins p σ w _ j A;rw [hs] at i ⊢;refine Kz (by show (false||(backTo cpos (starEach es X.env)).any (·.1))=false;rw [a] <;> rfl) (KM ?_);exact thn i λus E ⟨vs,F,D,u,n⟩=>z pins E σ F x vs v us Q D k u n
end
def MtM (X:Cx) (id:String) (r:V->List V->Hp->VK->Prop):Prop:=
 ∀ (pins:List (Addr×Obj)) (s:Shared) (σ:St) (H:Hp) (x:V) (xs:List V) (v:Value) (us:List Value) (Q:VK),Inv X pins σ H s->RelV x v->Vals xs us->r x xs H Q ->
  wpAny (model X.prog X.w) X.A (call (.builtin id) (v :: us)) (EP X pins σ Q) X.xe s
theorem Vals.one:∀ {x:V} {us:List Value},Vals [x] us->∃ u,us=[u]/\RelV x u
 | _,_,.cons r .nil=>⟨_,rfl,r⟩
theorem Vals.eraseIdx:∀ {xs:List V} {us:List Value} (i:Nat),Vals xs us->Vals (xs.eraseIdx i) (us.eraseIdx i)
 | _,_,_,.nil=>.nil
 | _,_,0,.cons _ t=>t
 | _,_,i+1,.cons r t=>.cons r (Vals.eraseIdx i t)
theorem Vals.rep (h:Vals xs us):∀ k:Nat,Vals (List.replicate k xs).flatten (List.replicate k us).flatten
 | 0=>.nil
 | k+1=>by
  rw [Ju,Ju,JW,JW];exact Vals.append h (Vals.rep h k)
theorem cQ {a:Type}:∀ (l:List a) (i:Nat),(l.eraseIdx i).length<=l.length
 | [],_=>HV _
 | _ :: _,0=>Jo _
 | _ :: r,i+1=>Nat.succ_le_succ (cQ r i)
theorem V1 (b:List Value):∀ (k:Nat) (a:List Value),
  List.foldl (λf c=>f++c) a.toArray (List.replicate k b.toArray)=(a++(List.replicate k b).flatten).toArray
 | 0,a=>by simp
 | k+1,a=>by
  have e:a.toArray++b.toArray=(a++b).toArray:=by simp
  have d:(a++b)++(List.replicate k b).flatten=a++(List.replicate (k+1) b).flatten:=by
   rw [Ju,JW,List.append_assoc]
  rw [<- d,<- V1 b k (a++b),<- e,Ju,List.foldl_cons]
section
variable {X:Cx} {pins:List (Addr×Obj)} {σ:St} {H:Hp} {s:Shared} {l b:Addr} {xs ys zs:List V}
theorem Inv.lset {a its':List Value} {n:Nat} {f:Array Value->Array Value} {t':Nat} (I:Inv X pins σ H s) (c:H l=some (.lst xs))
  (e:s.heap.get? l=some { cls:=.type "list",data:=.seq a.toArray n }) (b:f a.toArray=its'.toArray) (g:Vals ys its') (hz:ys.length<=sizeLine) :
  Inv X pins σ (upd H l (.lst ys)) { s with heap:=s.heap.update l (Obj.mapSeq f),toks:=t' }:=by
 have q:=PySem.IsL.update e f;rw [b] at q;refine I.write (by rw [c];exact trivial) (.inl rfl) (λi u d h=>(JS s.heap (Obj.mapSeq f) (Ne.symm d)).trans h) ⟨_,q⟩ ?_;exact ⟨hz,its',_,g,q⟩
theorem Inv.lnew (I:Inv X pins σ H s) (a:Vals ys its) (hz:ys.length<=sizeLine) :
  Inv X pins σ (upd H s.heap.objs.size (.lst ys)) { s with heap:=s.heap.push { cls:=.type "list",data:=.seq its.toArray },toks:=t' }:=
 I.laid (λ_ _ q=>HR _ q) (HV _) ⟨hz,its,0,a,Ih _ rfl⟩
theorem Inv.fresh (I:Inv X pins σ H s):H s.heap.objs.size=none:=I.hok.fresh (HV _)
theorem Inv.lstM (I:Inv X pins σ H s) (b:H l=some (.lst xs)):xs.length<=sizeLine/\∃ (a:List Value) (n:Nat),Vals xs a/\xs.length=a.length/\s.heap.get? l=some { cls:=.type "list",data:=.seq a.toArray n }:=by
 obtain ⟨z,a,n,r,e⟩:=I.hok l _ b;exact ⟨z,a,n,r,r.length,e⟩
theorem nG (h:n<=sizeLine):Builtin.List.listTooLong n=false:=by
 unfold Builtin.List.listTooLong;grind
end
section
variable {X:Cx}
def rAppend:V->List V->Hp->VK->Prop:=λx vs H Q=>∃ l xs y,x=.ref l/\vs=[y]/\H l=some (.lst xs)/\xs.length<sizeLine/\Q .non (upd H l (.lst (xs++[y])))
theorem M2:MtM X "list.append" rAppend:=by
 intro pins s σ H x vs v us Q I d f h;obtain ⟨l,xs,y,rfl,rfl,b,hz,q⟩:=h;cases d;obtain ⟨u,rfl,c⟩:=f.one;obtain ⟨z,a,n,r,g,e⟩:=I.lstM b;refine JA F.slot_list_append ⟨_,e,rfl⟩ F.entry_list_append (F.args_list_append_2 _ _) (PySem.list_append l a.toArray n u (by rw [Ib];omega)) ⟨e,?_⟩;refine ⟨.non,_,I.lset b e (by simp) (r.append (.cons c .nil)) ?_,rfl,q⟩;grind
def rPopAt:V->List V->Hp->VK->Prop:=λx vs H Q=>∃ l xs i k y,x=.ref l/\vs=[.int i]/\H l=some (.lst xs)/\-(2 ^ 63)<=i/\i<2 ^ 63/\seqIndex? i xs.length=some k/\xs[k]?=some y/\Q y (upd H l (.lst (xs.eraseIdx k)))
theorem qQ:MtM X "list.pop" rPopAt:=by
 intro pins s σ H x vs v us Q I rx rv h;obtain ⟨l,xs,i,k,y,rfl,rfl,hH,h1,h2,hk,hy,q⟩:=h;cases rx;obtain ⟨u,rfl,ru⟩:=rv.one;obtain ⟨t,rfl⟩:=ru;obtain ⟨z,its,n,r,hl,e⟩:=I.lstM hH;obtain ⟨w,hw,rw'⟩:=r.get hy;refine JA F.slot_list_pop ⟨_,e,rfl⟩ F.entry_list_pop (F.args_list_pop_2 _ _)
  (MeetsSeq.list_pop_at l its.toArray n i t k w (fitsIndex_both h1 h2) (by rw [Ib,<- hl];exact hk) (by rw [<- JD];exact hw) (by rw [Ib];omega)) ⟨e,?_⟩
 refine ⟨y,_,I.lset (its':=its.eraseIdx k) hH e ?_ (r.eraseIdx k) ?_,rw',q⟩
 ·show its.toArray.eraseIdxIfInBounds k=(its.eraseIdx k).toArray;rw [List.eraseIdxIfInBounds_toArray]
 ·have:=cQ xs k;omega
def rCat:R2:=λx y H Q=>∃ l b xs a,x=.ref l/\y=.ref b/\H l=some (.lst xs)/\H b=some (.lst a)/\xs.length+a.length<=sizeLine/\∀ p,H p=none->Q (.ref p) (upd H p (.lst (xs++a)))
theorem Ax:OpR X (binaryOp .Add) rCat:=by
 intro pins s σ H x y v u Q I m k h;obtain ⟨l,b,xs,A,rfl,rfl,o,g,hz,q⟩:=h;cases m;cases k;obtain ⟨z,c,n,r,t,e⟩:=I.lstM o;obtain ⟨p,a,w,f,j,i⟩:=I.lstM g;refine PySem.P.add_list e i ?_ (by rw [Ib,Ib];omega);have d:c.toArray++a.toArray=(c++a).toArray:=by simp
 rw [d];exact ⟨.ref _,_,I.lnew (r.append f) (by rw [Jz];omega),rfl,q _ I.fresh⟩
def rRep:R2:=λx y H Q=>∃ l k xs,x=.ref l/\y=.int k/\H l=some (.lst xs)/\-(2 ^ 63)<=k/\k<2 ^ 63/\xs.length * k.toNat<=sizeLine /\
 ∀ p,H p=none->Q (.ref p) (upd H p (.lst (List.replicate k.toNat xs).flatten))
theorem kU {a:Type} (xs:List a) (k:Nat):(List.replicate k xs).flatten.length=k * xs.length:=by simp_all
theorem rT:OpR X (binaryOp .Mult) rRep:=by
 intro pins s σ H x y v u Q I rx ry h;obtain ⟨l,k,xs,rfl,rfl,hH,h1,h2,hz,q⟩:=h;cases rx;obtain ⟨t,rfl⟩:=ry;obtain ⟨z,its,n,r,hl,e⟩:=I.lstM hH;have hlen:its.toArray.size * k.toNat<=sizeLine:=by rw [Ib,<- hl];exact hz
 have hcap:¬ its.toArray.size * k.toNat > (2 ^ 63-1) / 8:=by
  have:(sizeLine:Nat)<=(2 ^ 63-1) / 8:=by decide
  omega
 have hfit:¬ (!Builtin.List.listFitsIndex k)=true:=by
  rw [fitsIndex_both h1 h2];exact HU
 have hlong:¬ Builtin.List.listTooLong (its.toArray.size * k.toNat)=true:=by
  rw [nG hlen];exact HU
 have hnew:List.foldl (λx1 x2=>x1++x2) #[] (List.replicate (if its.toArray.isEmpty=true then 0 else k.toNat) its.toArray)=(List.replicate k.toNat its).flatten.toArray:=by
  have f0:=λm=>by
   have:=V1 its m [];rw [List.nil_append] at this;exact this
  rw [f0];cases its with
  | nil=>simp
  | cons a r'=>rw [if_neg (by simp)]
 refine Kd (by decide) ⟨_,e,rfl⟩ (λs'=>KI s' k t) noFill_list_mul F.fills_int_mul F.slot_int_rmul repeat_list F.slot_int_index.lookup
  (JA F.slot_int_rmul (KI s k t) F.entry_int_rmul (F.args_int_rmul_2 _ _) (int___rmul___int_list k t l its.toArray n)
   ⟨e,rfl,⟨_,e,rfl⟩,JA F.slot_list_mul ⟨_,e,rfl⟩ F.entry_list_mul (F.args_list_mul_2 _ _) (AutoListH.list___mul___list_int_3 l its.toArray n k t hfit hcap hlong) ⟨e,?_⟩⟩)
 rw [hnew];exact ⟨.ref _,_,I.lnew (r.rep k.toNat) (by rw [kU,Nat.mul_comm];exact hz),rfl,q _ I.fresh⟩
end
section
variable {κ:Type} [DecidableEq κ]
def O1 (a:List (κ×V)) (k:κ):Option V:=(a.find? λb=>decide (b.1=k)).map (·.2)
def y8 (a:List (κ×V)) (k:κ) (v:V):List (κ×V):=
 if (a.any λb=>decide (b.1=k))=true then a.map (λb=>if b.1=k then (b.1,v) else b) else a++[(k,v)]
theorem Q2 {k:κ} (e:p.1=k):O1 (p :: r) k=some p.2:=by simp [O1,Js,e]
theorem R8 {k:κ} (e:¬ p.1=k):O1 (p :: r) k=O1 r k:=by simp [O1,Js,e]
theorem fc (k:κ):∀ a:List (κ×V),(a.any λb=>decide (b.1=k))=(O1 a k).isSome
 | []=>rfl
 | p :: r=>by
  rw [Km];by_cases e:p.1=k
  ·simp only [Q2 e,Ia e,Bool.true_or,Option.isSome_some]
  ·rw [R8 e,Im e,Bool.false_or];exact fc k r
theorem L1 (a:List (κ×V)) (k:κ) (v:V):(y8 a k v).length<=a.length+1:=by
 unfold y8;grind
theorem RelO.isSome_eq (r:RelO o u):o.isSome=u.isSome:=by
 cases o with
 | none=>cases u with
  | none=>rfl
  | some _=>exact (r).elim
 | some _=>cases u with
  | none=>exact (r).elim
  | some _=>rfl
theorem KV.val (r:KV kvs vs) (k:κ):RelO (O1 kvs k) (valueAt vs k):=by
 induction r with
 | nil=>exact True.intro
 | @cons p q ps a h t g=>
  obtain ⟨d,f⟩:=h;by_cases e:p.1=k
  ·have c:=d.symm.trans e;have b:valueAt (q :: a) k=some q.2:=by simp [valueAt,Js,c]
   rw [Q2 e,b];exact f
  ·have c:¬ q.1=k:=λz=>e (d.trans z);have b:valueAt (q :: a) k=valueAt a k:=by simp [valueAt,Js,c]
   rw [R8 e,b];exact g
theorem KV.any {kvs:List (κ×V)} {vs:List (κ×Value)} (r:KV kvs vs) (k:κ):(kvs.any λkv=>decide (kv.1=k))=vs.any λkv=>decide (kv.1=k):=by
 unfold KV at r;induction r with
 | nil=>rfl
 | cons h t ih=>rw [Km,Km,ih,h.1]
theorem KV.repl (r:KV kvs vs) (k:κ) {y:V} {u:Value} (d:RelV y u) :
  KV (kvs.map λa=>if a.1=k then (a.1,y) else a) (vs.map λa=>if a.1=k then (a.1,u) else a):=by
 induction r with
 | nil=>exact .nil
 | @cons p q ps g h t b=>
  rw [II,II];refine .cons ?_ b;obtain ⟨c,f⟩:=h;by_cases e:p.1=k
  ·grind
  ·grind
theorem KV.put (r:KV kvs vs) (k:κ) {y:V} {u:Value} (a:RelV y u):KV (y8 kvs k y) (stored vs k u):=by
 unfold y8 stored;rw [r.any k];by_cases e:(vs.any λb=>decide (b.1=k))=true
 ·rw [if_pos e,if_pos e];exact r.repl k a
 ·rw [if_neg e,if_neg e];exact Paired.snoc r ⟨rfl,a⟩
theorem KV.length {vs:List (κ×Value)} (r:KV kvs vs):kvs.length=vs.length:=Paired.length r
end
theorem bz {k:Key} {u:Value} (r:RelV (kV k) u):(k7 P w).is k u=true:=by
 cases k with
 | inl i=>obtain ⟨t,e⟩:=(r);subst e;exact gI P w i t
 | inr x=>obtain ⟨t,e⟩:=(r);subst e;exact gC P w x t
theorem cE:∀ {a:List Key} {us:List Value},Vals (a.map kV) us->ItemsAre (k7 P w) a us
 | [],_,r=>by rw [List.map_nil] at r;cases r;exact .nil
 | k :: a,_,r=>by
  rw [II] at r;cases r with
  | cons h t=>exact .cons (bz h) (cE t)
abbrev KT (H:Hp):List (List Key×V)->List (List Key×Addr×Value)->Prop:=Paired λp q=>p.1=q.1/\H q.2.1=some (.tup (p.1.map kV))/\RelV p.2 q.2.2
theorem KT.val (r:KT H kvs xs) (k:List Key):RelO (O1 kvs k) ((atKey xs k).map (·.2)):=by
 induction r with
 | nil=>exact True.intro
 | @cons p q ps a h t g=>
  obtain ⟨d,_,f⟩:=h;by_cases e:p.1=k
  ·have c:=d.symm.trans e;have b:atKey (q :: a) k=some q.2:=by simp [atKey,Js,c]
   rw [Q2 e,b];exact f
  ·have c:¬ q.1=k:=λz=>e (d.trans z);have b:atKey (q :: a) k=atKey a k:=by simp [atKey,Js,c]
   rw [R8 e,b];exact g
theorem KT.repl {H:Hp} {kvs:List (List Key×V)} {xs:List (List Key×Addr×Value)} (r:KT H kvs xs) (k:List Key) {y:V} {u:Value} (ry:RelV y u) :
  KT H (kvs.map λkv=>if kv.1=k then (kv.1,y) else kv) (xs.map (putAt k u)):=by
 induction r with
 | nil=>exact .nil
 | @cons p q ps qs h t ih=>
  rw [II,II];refine .cons ?_ ih;obtain ⟨h1,h2,h3⟩:=h;unfold putAt;by_cases e:p.1=k
  ·rw [if_pos e,if_pos (h1.symm.trans e)];exact ⟨h1,h2,ry⟩
  ·rw [if_neg e,if_neg (λz=>e (h1.trans z))];exact ⟨h1,h2,h3⟩
theorem KT.put (r:KT H kvs xs) (k:List Key) {b:Addr} {y:V} {u:Value} (c:H b=some (.tup (k.map kV))) (a:RelV y u) :
  KT H (y8 kvs k y) (storedH xs k b u):=by
 have e:(kvs.any λd=>decide (d.1=k))=(atKey xs k).isSome:=by
  rw [fc,(r.val k).isSome_eq,Ll]
 unfold y8 storedH;rw [e];by_cases q:(atKey xs k).isSome=true
 ·rw [if_pos q,if_pos q];exact r.repl k a
 ·rw [if_neg q,if_neg q];exact Paired.snoc r ⟨rfl,c,a⟩
theorem KT.keeps {a:List (List Key×V)} {xs:List (List Key×Addr×Value)} (r:KT H a xs) (c:∀ b ys,H b=some (.tup ys)->H' b=some (.tup ys)):KT H' a xs:=
 Paired.mapP r λ_ _ z=>⟨z.1,c _ _ z.2.1,z.2.2⟩
section
variable {P:Program} {w:World} {H:Hp} {h:Heap} {a:Addr}
theorem xl (b:HOk P w H h) (e:Rd H a u):ObjOk P w H h a u:=e.ok b
theorem cP (b:HOk P w H h) (e:Rd H a (.dK kvs)):kvs.length<=sizeLine/\(a==sysModules)=false/\∃ vs,KV kvs vs/\h.DictOf (k7 P w) a vs:=
 xl b e
theorem wp (b:HOk P w H h) (e:H a=some (.dK kvs)):kvs.length<=sizeLine/\(a==sysModules)=false/\∃ vs,KV kvs vs/\h.DictOf (k7 P w) a vs:=cP b (.inl e)
theorem bR (g:HOk P w H h) (e:H a=some (.tup (ks.map kV))):(tupleKind (k7 P w)).is h ks a:=by
 obtain ⟨_,b,r,o,c,d,n,f⟩:=(g a _ e);exact ⟨o,b.toArray,n,c,d,f.1,by simpa using cE r⟩
theorem eM (d:HOk P w H h) (e:Rd H a (.dT kvs)):kvs.length<=sizeLine/\(a==sysModules)=false /\
  ∃ xs,KT H kvs xs/\h.DictOfH (tupleKind (k7 P w)) a xs:=by
 obtain ⟨z,y,xs,r,o,es,s,g,j,n,i,u⟩:=(xl d e);refine ⟨z,y,xs,r,o,es,s,g,j,n,i,λx b=>?_,u⟩;have f:∀ {l:List (List Key×V)} {m:List (List Key×Addr×Value)},KT H l m->∀ x∈m,(tupleKind (k7 P w)).is h x.1 x.2.1:=by
  intro l m q;induction q with
  | nil=>intro x b;exact nomatch b
  | @cons p q ps v c t k=>
   intro x b;rcases Ii.mp b with e | b
   ·subst e;exact bR d (by rw [<- c.1];exact c.2.1)
   ·exact k x b
 grind
theorem Ee (b:HOk P w H h) (e:H a=some (.dT kvs)):kvs.length<=sizeLine/\(a==sysModules)=false /\
  ∃ xs,KT H kvs xs/\h.DictOfH (tupleKind (k7 P w)) a xs:=eM b (.inl e)
end
def DGet (H:Hp) (a:Addr) (y:V) (r:Option V):Prop:=
 (∃ c k,Rd H a (.dK c)/\y=kV k/\r=O1 c k)\/∃ c k b,Rd H a (.dT c)/\y=.ref b/\H b=some (.tup (k.map kV))/\r=O1 c k
def DPut (H:Hp) (a:Addr) (y v:V) (H':Hp):Prop:=
 (∃ c k,H a=some (.dK c)/\y=kV k/\c.length<sizeLine/\H'=upd H a (.dK (y8 c k v))) \/
 ∃ c k b,H a=some (.dT c)/\y=.ref b/\H b=some (.tup (k.map kV))/\c.length<sizeLine/\H'=upd H a (.dT (y8 c k v))
theorem DGet.k {k:Key} (e:H a=some (.dK kvs)):DGet H a (kV k) (O1 kvs k):=.inl ⟨kvs,k,.inl e,rfl,rfl⟩
theorem DPut.k {k:Key} {v:V} (e:H a=some (.dK kvs)) (b:kvs.length<sizeLine):DPut H a (kV k) v (upd H a (.dK (y8 kvs k v))):=.inl ⟨kvs,k,e,rfl,b,rfl⟩
section
variable {X:Cx} {pins:List (Addr×Obj)} {σ:St} {H:Hp} {s:Shared} {a:Addr} {y v:V} {u r:Value} {o:Option V} {A:Around} {E:Value->Shared->Prop}
theorem Inv.big (I:Inv X pins σ H s):sysModules<s.heap.objs.size:=by
 have h:=(I.mod.glob.keeps I.bk).lt;exact Nat.lt_trans (by decide) h
theorem lA (t:A.units+1<cLine) (I:Inv X pins σ H s) (g:DGet H a y (some v)) (o:RelV y u) (h:∀ w' s',Inv X pins σ H s'->RelV v w'->Q w' s') :
  wpAny (model X.prog X.w) A (getItem (.ref a) u) Q E s:=by
 rcases g with ⟨n,k,e,i,l⟩ | ⟨n,k,b,e,i,q,l⟩
 ·subst i;obtain ⟨z,hd,vs,d,f⟩:=cP I.hok e;obtain ⟨w',m,c⟩:=RelO.some_of (by rw [l];exact d.val k);exact wpAny_getItem_of (bz o) f.mapOf m (h w' _ (I.tok _) c)
 ·subst i;cases (o);obtain ⟨z,hd,xs,d,f⟩:=eM I.hok e;obtain ⟨w',m,c⟩:=RelO.some_of (by rw [l];exact d.val k);obtain ⟨p,r,j⟩:=Jw.mp m;refine wpAny_getItem_heap (Ks t) (bR I.hok q) f r ?_;rw [j];exact h w' _ (I.tok _) c
theorem Fq (n:A.units+1<cLine) (I:Inv X pins σ H s) (g:DGet H a y o) (j:RelV y u) (h:∀ s',Inv X pins σ H s'->Q (.bool o.isSome) s') :
  wpAny (model X.prog X.w) A (compareOp .In u (.ref a)) Q E s:=by
 rcases g with ⟨i,k,e,f,l⟩ | ⟨i,k,b,e,f,m,l⟩
 ·subst f;obtain ⟨z,hd,vs,c,d⟩:=cP I.hok e;refine wpAny_in_of (bz j) hd d.mapOf ?_;rw [<- (c.val k).isSome_eq,<- l];exact h _ (I.tok _)
 ·subst f;cases (j);obtain ⟨z,hd,xs,c,d⟩:=eM I.hok e;refine wpAny_in_heap (Ks n) (bR I.hok m) hd d ?_;have q:=(c.val k).isSome_eq;rw [Ll] at q;rw [<- q,<- l];exact h _ (I.tok _)
theorem we (n:A.units+1<cLine) (I:Inv X pins σ H s) (g:DGet H a y o) (j:RelV y u) (h:∀ s',Inv X pins σ H s'->Q (.bool (!o.isSome)) s') :
  wpAny (model X.prog X.w) A (compareOp .NotIn u (.ref a)) Q E s:=by
 rcases g with ⟨i,k,e,f,l⟩ | ⟨i,k,b,e,f,m,l⟩
 ·subst f;obtain ⟨z,hd,vs,c,d⟩:=cP I.hok e;refine wpAny_notIn_of (bz j) hd d.mapOf ?_;rw [<- (c.val k).isSome_eq,<- l];exact h _ (I.tok _)
 ·subst f;cases (j);obtain ⟨z,hd,xs,c,d⟩:=eM I.hok e;refine wpAny_notIn_heap (Ks n) (bR I.hok m) hd d ?_;have q:=(c.val k).isSome_eq;rw [Ll] at q;rw [<- q,<- l];exact h _ (I.tok _)
theorem ci {ob:HO} (I:Inv X pins σ H s) (e:Mut (H a)) (hs:Heap.SameBut a s.heap h') (d:∃ q,h'.get? a=some q) (c:ObjOk X.prog X.w (upd H a ob) h' a ob) :
  Inv X pins σ (upd H a ob) { s with heap:=h',toks:=t' }:=
 I.write e (.inl rfl) (λb q f z=>(hs.2 b f).trans z) d c
theorem qC {b:List (Key×V)} {vs:List (Key×Value)} (z:b.length<=sizeLine) (hd:(a==sysModules)=false) (c:KV b vs) (d:h'.DictOf (k7 P w) a vs) :
  ObjOk P w H' h' a (.dK b):=⟨z,hd,vs,c,d⟩
theorem lZ (L:A.units+1<cLine) (I:Inv X pins σ H s) (g:DPut H a y v H') (w:RelV y u) (B:RelV v r) (h:∀ s',Inv X pins σ H' s'->Q () s') :
  wpAny (model X.prog X.w) A (setItem (.ref a) u r) Q E s:=by
 rcases g with ⟨d,k,e,p,l,n⟩ | ⟨d,k,b,e,p,t,l,n⟩
 ·subst p n;obtain ⟨z,hd,vs,f,o⟩:=wp I.hok e;have hz:vs.length<=sizeLine:=by rw [<- f.length];exact z
  have m:(y8 d k v).length<=sizeLine:=by have:=L1 d k v;omega
  refine wpAny_setItem_pairs (bz w) o λh' i hs=>h _ ?_;have D:∃ q,h'.get? a=some q:=let ⟨q,_,_,j,_⟩:=i;⟨q,j⟩
  exact ci I (by rw [e];exact True.intro) hs D (qC m hd (f.put k B) i)
 ·subst p n;cases (w);obtain ⟨z,hd,xs,f,o⟩:=Ee I.hok e;have hz:xs.length<=sizeLine:=by rw [<- Paired.length f];exact z
  have m:(y8 d k v).length<=sizeLine:=by have:=L1 d k v;omega
  refine wpAny_setItem_heap (Ks L) (bR I.hok t) o λh' i hs=>h _ ?_;obtain ⟨q,es,F,j,J,K,C,_,G⟩:=i;refine ci I (by rw [e];exact True.intro) hs ⟨q,j⟩ ⟨m,hd,_,(f.put k t B).keeps λc ys x=>?_,q,es,F,j,J,K,C,G⟩;rw [b6 (jp x e (λz=>nomatch z))];exact x
end
section
variable {X:Cx} {pins:List (Addr×Obj)} {σ:St} {H:Hp} {s:Shared} {a:Addr} {kvs:List (Key×V)} {k:Key} {u:Value} {A:Around} {E:Value->Shared->Prop}
theorem Be (I:Inv X pins σ H s) (e:Rd H a (.dK kvs)) (h:∀ t s',Inv X pins σ H s'->Q (.int kvs.length t) s'):wpAny (model X.prog X.w) A (call (.builtin "len") [.ref a]) Q E s:=by
 obtain ⟨z,hd,vs,b,c⟩:=cP I.hok e;refine call_len_dict hd c (by rw [<- b.length];rw [Iq] at z;omega) ?_;rw [<- b.length];exact h _ _ (I.tok _)
end
theorem ek {σ:St} {H:Hp} {s:Shared} {a:Addr} {y:V} {o:Option V} (I:Inv X pins σ H s) (g:DGet H a y o):s.TypeIs (.ref a) "dict":=by
 rcases g with ⟨d,k,e,_,_⟩ | ⟨d,k,b,e,_,_,_⟩
 ·obtain ⟨_,_,vs,_,c⟩:=cP I.hok e;exact c.typeIs
 ·obtain ⟨_,_,xs,_,c⟩:=eM I.hok e;exact c.typeIs
theorem pP (h:Heap) (a:sysModules<h.objs.size):ObjOk P w H (h.push { cls:=.type "dict",data:=.dict #[] }) h.objs.size (.dK []):=
 ⟨Jp _,Kf.mpr (Ne.symm (Ig a)),[],.nil,Heap.DictOf.new h⟩
def dv:List (TE×TE)->St->Hp->(List (V×V)->Hp->Prop)->Prop
 | [],_,H,Q=>Q [] H
 | (d,a) :: r,σ,H,Q=>d σ H λx c=>a σ c λy e=>dv r σ e λps b=>Q ((x,y) :: ps) b
abbrev VV:List (V×V)->List (Value×Value)->Prop:=Paired λp q=>RelV p.1 q.1/\RelV p.2 q.2
def PPs (X:Cx) (pos:Pos) (b:List (Option Expr)) (a:List Expr) (c:List (TE×TE)):Prop:=
 ∀ (pins:List (Addr×Obj)) (s:Shared) (σ:St) (H:Hp) (Q:List (V×V)->Hp->Prop),Inv X pins σ H s->dv c σ H Q ->
  wpAny (model X.prog X.w) X.A (evalPairs (pairTrees b a X.env pos)) (λvs s'=>∃ ps H',Inv X pins σ H' s'/\VV ps vs/\Q ps H') X.xe s
theorem uW:PPs X pos [] [] []:=λpins s σ H Q I h=>pairTrees_nil_walk ⟨[],H,I,.nil,h⟩
theorem pd {k v:Expr} {d:List (Option Expr)} {vs:List Expr} {e c:TE} {a:List (TE×TE)} (f:PE X k e) (m:PE X v c) (j:PPs X pos d vs a) :
  PPs X pos (some k :: d) (v :: vs) ((e,c) :: a):=λpins s σ H Q I h=>
 pairTrees_cons_walk (thn (f pins s σ H _ I h) λu l ⟨x,p,n,r,t⟩=>thn (m pins l σ p _ n t) λC A ⟨y,B,w,g,i⟩=>
  thn (j pins A σ B _ w i) λws D ⟨ps,z,o,b,q⟩=>⟨(x,y) :: ps,z,o,.cons ⟨r,g⟩ b,q⟩)
def O6 (c a:List (Key×V)):List (Key×V):=a.foldl (λb d=>y8 b d.1 d.2) c
theorem KV.merge:∀ {a:List (Key×V)} {rs:List (Key×Value)} {b:List (Key×V)} {vs:List (Key×Value)},KV a rs->KV b vs->KV (O6 b a) (merged vs rs):=by
 intro a rs b vs r;induction r generalizing b vs with
 | nil=>intro q;exact q
 | @cons p q ps f h t c=>
  intro d;have e:KV (y8 b p.1 p.2) (stored vs q.1 q.2):=by
   have:=d.put p.1 h.2;rw [<- h.1];exact this
  exact c e
theorem N6:∀ (b a:List (Key×V)),(O6 a b).length<=a.length+b.length
 | [],a=>by show a.length<=a.length+0;omega
 | p :: r,a=>by
  have d:=N6 r (y8 a p.1 p.2);have c:=L1 a p.1 p.2;show (O6 (y8 a p.1 p.2) r).length<=_;rw [IV];omega
theorem bF:∀ {d:List (Key×V)} {ws:List (Value×Value)},VV (d.map λe=>(kV e.1,e.2)) ws->∃ rs,Carries (k7 P w) ws rs/\KV d rs
 | [],_,r=>by rw [List.map_nil] at r;cases r;exact ⟨[],True.intro,.nil⟩
 | p :: d,_,r=>by
  rw [II] at r;cases r with
  | @cons a b j i h t=>
   obtain ⟨rs,c,q⟩:=bF t;obtain ⟨g,f⟩:=b;exact ⟨(p.1,f) :: rs,⟨bz h.1,rfl,c⟩,.cons ⟨rfl,h.2⟩ q⟩
def EY (b:List (TE×TE)):TE:=λσ H Q=>∀ p,H p=none->dv b σ (upd H p (.dK [])) λps c=>c p=some (.dK [])/\∃ a:List (Key×V),ps=a.map (λd=>(kV d.1,d.2))/\a.length<=15/\Q (.ref p) (upd c p (.dK (O6 [] a)))
theorem sX (h:PPs X pos keys values trs) (d:keys.all (·.isSome)=true) (k:keys.length=values.length) (u:keys≠[])
  (f:keys.length<=15):PE X (.Dict keys values pos) (EY trs):=by
 intro pins s σ H Q I q;have t:=I.hok.fresh (HV s.heap.objs.size);have p:=I.laid (t':=s.toks) (λ_ _ q=>HR _ q) (HV _) (pP s.heap I.big);refine wpAny_Dict_walk (knd:=k7 X.prog X.w) d k u f (thn (h pins _ σ _ _ p (q _ t)) λws A ⟨ps,B,i,g,e,a,r,y,l⟩=>?_);subst r;obtain ⟨rs,c,n⟩:=bF g;obtain ⟨z,hd,x,m,v⟩:=wp i.hok e;cases m;refine ⟨rs,c,v,λh' b hs=>⟨.ref s.heap.objs.size,_,?_,rfl,l⟩⟩;have hz:(O6 [] a).length<=sizeLine:=by
  have j:=N6 a [];rw [List.length_nil] at j;rw [Iq];omega
 have o:∃ q,h'.get? s.heap.objs.size=some q:=let ⟨q,_,_,w,_⟩:=b;⟨q,w⟩
 exact ci i (by rw [e];exact True.intro) hs o (qC hz hd (n.merge .nil) b)
end L2
namespace Att
open PySem PySem.W PySem.Calls PyProof.Rows
theorem Y5:∀ (ns:List Int) (vs:List Value),WellAll P h vs (ns.map WData.int)->IntsAre vs ns:=by
 intro ns;induction ns with
 | nil=>
  intro vs w;rw [List.map_nil] at w;cases w;exact .nil
 | cons n ns c=>
  intro vs w;rw [II] at w;cases w with
  | cons a b=>
   cases a;exact .cons _ _ (c _ b)
theorem lL {l:OpenLaw} {n:Nat} (hn:l.most=some n) {P:Params} {h:Heap} {args:List WData} {vals:List Value}
  (hpre:l.row.toRowW.claim.pre args=true) (hwl:WellAll P h vals args) :
  ∃ a vs ns,vals=[Value.ref a]/\args=[WData.list (ns.map WData.int)]/\h.get? a=some { cls:=.type "list",data:=.seq vs.toArray }/\IntsAre vs ns/\ns.length<=n:=by
 have hsh:=(pre_splitW hpre).1;have hc:=(pre_splitW hpre).2;obtain ⟨d,r,rfl,h1,h2⟩:=hasAllW_cons hsh;obtain rfl:=hasAllW_nil h2;obtain ⟨xs,rfl,h3⟩:=hasW_list h1;obtain ⟨ns,rfl⟩:=items_int h3;have hlen:ns.length<=n:=by
  have h4:(WTm.not (.lt (.lit (.int (n:Int))) (.len (.arg 0)))).holds [] { args:=[.list (ns.map .int)] }=true:=by
   have h4:=(holds_andW hc).1;rw [hn] at h4;exact h4
  have h5:=condW_of h4 (w_not (w_lt w_lit (w_len_list (w_arg rfl))));rw [Hy] at h5;refine Kb λq=>?_;have q':(n:Int)<((ns.length:Nat):Int):=by omega
  first
   | (rw [Ia q'] at h5;exact absurd h5 (by decide))
   | (simp at h5;omega)
 cases hwl with
 | cons w1 w2=>
  cases w2;cases w1 with
  | list ho hall=>exact ⟨_,_,ns,rfl,rfl,ho,Y5 ns _ hall,hlen⟩
theorem ll (l:OpenLaw) (a:List WData):l.row.toRowW.claim.post a (.bool true) a=true:=
 postW_of
  (show WShape.has [] (.bool true) .bool=true by first | rfl | decide | simp [WShape.has,WShape.arms,WShape.armsAll])
  (w_eq_bool (w_res rfl) w_lit) rfl
theorem attach_call {l:OpenLaw} {n:Nat} {q:Program} {e:List Str} {H:(Str->Option Value)->Heap->Prop} {D:World->Heap->Prop} {d:DefRec}
  (M:l.most=some n) (z:d.params.defaults=[])
  (k:∀ (w:World) (c b:Shared) (s A:Str->Option Value) (m:Addr) (o:Obj) (x t g:Value) (a:Addr) (vs:List Value) (ns:List Int),
   Ground q e [] H w c s A b.heap->D w b.heap ->
   b.heap.get? m=some o->o.data=.func (docDef d.name d.params d.body d.scope x t g)->b.heap.CodeRec t d.name->s d.name=some (.ref m) ->
   b.heap.get? a=some { cls:=.type "list",data:=.seq vs.toArray }->IntsAre vs ns->ns.length<=n->b.gens=#[] ->
   codeAny (model l.prog w) callerA (.call (.ref m) ⟨[.ref a],[]⟩) (λr s'=>r=.ok (.ret (.bool true))/\OldK b.heap s'.heap/\s'.os=b.os/\AllBare s'.gens) b) :
  WalkO q e H D l.row.toRowW d [] (λf vs=>PySem.call f vs):=by
 intro w c b s A G Y m o x t g L I Q hd y B v S E C U j F P u K;obtain rfl:L=.none:=Dflts.none B z;obtain rfl:I=.none:=Dflts.noKw B;obtain ⟨a,vs,ns,rfl,rfl,i,h,p⟩:=lL M j u;refine enter_call (JY (k w c b s A m o x t g a vs ns G Y Q (fd_plain hd) y v i h p S) λr s' R=>?_);obtain ⟨rfl,N,T,J⟩:=R;exact ⟨.inl ⟨.bool true,.bool true,[],rfl,λ_=>rfl,.bool true,ll l _,λ_=>⟨List.Pairwise.nil,λ_ O=>(nomatch O)⟩⟩,N,T,J⟩
end Att
namespace L2
open PySem PySem.Spec PyProof.Rows
theorem E2:∀ {vs:List Value} {ns:List Int},IntsAre vs ns->Vals (ns.map V.int) vs
 | _,_,.nil=>.nil
 | _,_,.cons n t h=>.cons ⟨t,rfl⟩ (E2 h)
def zl (H:Hp):Prop:=∀ b,H b=none\/∃ o xs,H b=some (.frz o (.lst xs))
theorem rq {K:PySem.W.Frag} {mg mb:Str->Option Value} {CX:CXT} {k:Nat} {fa a:Addr} {fd:FuncData} {x:Str} {sp:Sp} {s₁:Shared} {vs:List Value} {ns:List Int}
  (KX:K.In s₁.heap) (hns:s₁.heap.Ns mainGlobals mg) (hb:s₁.heap.Ns builtinsNs mb) (hbb:∀ x:Str,x ≠ "__name__"->mb x=bootBuiltins x) (hlim:s₁.heap.NoLimit) (hg:s₁.gens=#[])
  (ha:s₁.heap.get? a=some { cls:=.type "list",data:=.seq vs.toArray }) (hi:IntsAre vs ns) (hl:ns.length<=sizeLine) (hr:Room false k callerA)
  (F:∀ base:Heap,K.In base->base.Ns mainGlobals mg->FnOk P w K mg base CX k fa fd [x] sp) (hbind:∀ (s:Shared) (u:Value),BindsTo s fd ⟨[u],[]⟩ [(x,u)])
  (hsp:∀ H:Hp,zl H->SqL K H a (ns.map V.int)->sp [.ref a] H (λv _=>v=.bl true) λ_ _ _=>False)
  (hCX:∀ H e s',CX [] H s₁ (λ_ _ _=>False) e s'->False) :
  codeAny (model P w) callerA (.call (.ref fa) ⟨[.ref a],[]⟩) (λr s'=>r=.ok (.ret (.bool true))/\OldK s₁.heap s'.heap/\s'.os=s₁.os/\AllBare s'.gens) s₁:=by
 have rv:=E2 hi;have lenV:=hi.length;have core:∀ H:Hp,zl H->SqL K H a (ns.map V.int)->HOk P w H s₁.heap->(∀ b,H b≠none->b=a)->(H a≠none->K.lookup a=none) ->
   codeAny (model P w) callerA (.call (.ref fa) ⟨[.ref a],[]⟩) (λr s'=>r=.ok (.ret (.bool true))/\OldK s₁.heap s'.heap/\s'.os=s₁.os/\AllBare s'.gens) s₁:=by
  intro H hO hS hok hA hK;have G5:∀ {b:Addr} {o:Obj},s₁.heap.get? b=some o->H b=none->(ey s₁.heap H).get? b=some o:=λe n=>nH e n;have noA:∀ {b:Addr} {o:Obj} {es:Array DictEntry} {ep:Nat},s₁.heap.get? b=some o->o.data=.dict es ep->H b=none:=λ{b o es ep} e d=>by
   cases q:H b with
   | none=>rfl
   | some u=>
    have e':=hA b (by rw [q];simp);subst e';rw [ha] at e;cases e;have d':=d;cases d'
  have nsK:∀ {b:Addr} {m:Str->Option Value},s₁.heap.Ns b m->(ey s₁.heap H).Ns b m:=λ{b m} ⟨o,es,ep,e,d,r⟩=>⟨o,es,ep,G5 e (noA e d),d,r⟩;have hKb:=λb o e=>G5 (KX b o e) (by
   cases q:H b with
   | none=>rfl
   | some u=>
    have e':=hA b (by rw [q];simp);subst e';rw [hK (by rw [q];simp)] at e;cases e)
  have hM:Mod K mg (ey s₁.heap H):=⟨hKb,nsK hns,⟨mb,nsK hb,hbb⟩,let ⟨mc,h1,h2⟩:=hlim;⟨mc,nsK h1,h2⟩⟩;have e0:Env0 P w K mg (ey s₁.heap H) callerA [] s₁ H:=⟨rfl,hM,λb o e=>wG e,Nat.le_of_eq (lP _ _),trivial,λb hb=>absurd (show b∈([]:List Addr) from hb) (by simp),hok,.of_eq hg⟩;refine JY ((F _ hKb (nsK hns)).run callerA [] s₁ H ⟨[.ref a],[]⟩ [.ref a] [.ref a] _ _ hr.any e0 (hbind s₁ (.ref a)) (.cons rfl .nil) (hsp H hO hS)) λr s' h=>?_;cases r with
  | error e=>exact (hCX H e s' h).elim
  | ok fl=>
   cases fl with
   | next=>exact False.elim h
   | brk=>exact False.elim h
   | cont=>exact False.elim h
   | ret u=>
    obtain ⟨v,H',os,bare,un,hok',r',q⟩:=h;have q':=q;subst q';obtain rfl:u=Value.bool true:=r';refine ⟨rfl,OldK.of_keep λb o e=>?_,os,bare⟩;cases q:H b with
    | none=>exact un.keep b o e q (by intro z;exact absurd (show b∈([]:List Addr) from z) (by simp)) (by simp)
    | some u=>
     rcases hO b with z | ⟨ob,xs,z⟩
     ·rw [q] at z;cases z
     ·have z2:=un.frzs b ob _ z;obtain ⟨e1,_⟩:=hok b _ z;obtain ⟨e2,_⟩:=hok' b _ z2;rw [e] at e1;cases e1;exact e2
 cases hk:K.lookup a with
 | some o=>
  have e:=KX a o hk;rw [ha] at e;cases e;refine core (λ_=>none) (λ_=>.inl rfl) (.inr ⟨_,vs.toArray,_,hk,rfl,rfl,rfl,by rw [Ib,lenV];exact hl,by simpa using rv⟩) (λb u z=>by have z':=z;cases z') (λb z=>absurd rfl z) λz=>absurd rfl z
 | none=>
  refine core (λb=>if b=a then some (.frz { cls:=.type "list",data:=.seq vs.toArray } (.lst (ns.map V.int))) else none) (λb=>?_) (.inl (.inr ⟨{ cls:=.type "list",data:=.seq vs.toArray },if_pos rfl⟩)) (λb u z=>?_) (λb z=>?_) λ_=>hk
  ·grind
  ·by_cases hb:b=a
   ·have z':=(if_pos hb).symm.trans z;cases z';subst hb;exact ⟨ha,by rw [Hy];exact hl,vs,_,rv,ha⟩
   ·grind
  ·grind
theorem walk_of {l:PySem.W.OpenLaw} {n k:Nat} {q:Program} {g:List Str} {Q:(Str->Option Value)->Heap->Prop} {D:World->Heap->Prop} {d:DefRec} {K:Params->PySem.W.Frag} {CX:World->CXT} {sp:World->Sp} {x:Str}
  (O:l.most=some n) (A:n<=sizeLine) (B:d.params.defaults=[]) (M:Room false k callerA)
  (S:∀ (w:World) (h:Heap),D w h->(K w.params).In h)
  (F:∀ (w:World) (j:Str->Option Value) (r:Addr) (h:Heap),(K w.params).In h->h.Ns mainGlobals j->j d.name=some (.ref r) ->
   ∃ fd:FuncData,(∀ (s:Shared) (u:Value),BindsTo s fd ⟨[u],[]⟩ [(x,u)]) /\
    ∀ b:Heap,(K w.params).In b->b.Ns mainGlobals j->FnOk l.prog w (K w.params) j b (CX w) k r fd [x] (sp w))
  (t:∀ (w:World) (H:Hp) (a:Addr) (ns:List Int),ns.length<=n->zl H->SqL (K w.params) H a (ns.map V.int)->sp w [.ref a] H (λv _=>v=.bl true) λ_ _ _=>False)
  (z:∀ (w:World) (H:Hp) (s:Shared) (e:Value) (s':Shared),CX w [] H s (λ_ _ _=>False) e s'->False) :
  PySem.W.WalkO q g Q D l.row.toRowW d [] (λf vs=>PySem.call f vs):=by
 refine Att.attach_call O B λw C m j Z r o U W J a vs ns G Y X hd P y p i c R=>?_;have E:=S w _ Y;obtain ⟨fd,N,I⟩:=F w j r _ E G.T.g y;exact rq E G.T.g G.T.b G.T.builtins G.T.nolimit R p i (Ir c A) M I N (λH T L=>t w H a ns c T L) λH e s'=>z w H m e s'
def M3 (s:Stmt) (j:Nat):Stmt:=match s with
 | .ClassDef _ _ _ body _ _ _ _ _ _ _=>body.getD j (.Pass ⟨0,0,0,0⟩)
 | _=>.Pass ⟨0,0,0,0⟩
def k8 (s:Stmt):Arguments:=match s with
 | .FunctionDef _ a _ _ _ _ _ _ _ _=>a
 | _=>{ posonlyargs:=[],args:=[],vararg:=none,kwonlyargs:=[],kw_defaults:=[],kwarg:=none,defaults:=[] }
def j0 (s:Stmt):List Stmt:=match s with
 | .FunctionDef _ _ b _ _ _ _ _ _ _=>b
 | _=>[]
def b9 (s:Stmt):Scope:=match s with
 | .FunctionDef _ _ _ _ _ _ a _ _ _=>a
 | _=>{ kind:=.function,names:=[],isGenerator:=false,isCoroutine:=false }
abbrev CX0:CXT:=⟨λ_ _ _ _ _ _=>False,false⟩
abbrev E0:XK:=λ_ _ _=>False
theorem X9:z0 CX0 X E0:=λ_ _ _ _ _ _ _ h=>False.elim h
structure Fun (K:PySem.W.Frag) (x qual:Str) (st:Stmt) (f:Addr) (fd:FuncData):Prop where
 ex:∃ (oc:Value) (od:Option Addr) (kV doc pm:Value) (an:Option Addr) (cdv ct:Value) (osl:Array (Option Value)),
  fd=PySem.W.fnOf x qual (k8 st) (j0 st) (b9 st) .none kV doc pm an cdv ct/\K.lookup f=some ⟨oc,od,.func fd,osl⟩/\PySem.W.codeIn K cdv qual=true
 kp:PySem.W.keepIn K (.ref f)=true
section
variable {P:Program} {w:World} {K:PySem.W.Frag} {mg:Str->Option Value} {base:Heap}
theorem Fun.ok {st:Stmt} {f:Addr} {fd:FuncData} {N ps:List Str} {k:Nat} {sp:Sp} (F:Fun K x qual st f fd) (S:FnScope N ps (b9 st)) (e:∀ vs H Q E,sp vs H Q E->vs.length=ps.length)
  (c:∀ (b:Value) (A:Around) (a:List Env) (s:Shared) (H:Hp) (vs:List V) (Q:VK) (E:XK),Room false k (A.deeper (envOfC qual (b9 st) s.heap.objs.size f b))->sp vs H Q E ->
   ∃ t,PSs (bW CX0 P w K mg base N qual (b9 st) f b A a s H E).nox (j0 st) t/\t { nx:=λ_ H'=>Q .non H',rt:=Q } (start N vs) H):FnOk P w K mg base CX0 (k+1) f fd ps sp:=by
 obtain ⟨n,od,r,i,p,u,b,o,m,rfl,j,g⟩:=F.ex;refine wy j g S e λA a s H vs Q E l d=>?_;obtain ⟨t,h,q⟩:=c b A a s H vs Q E l d;exact ⟨t,h.nox,q⟩
theorem Fun.binds {st:Stmt} {f:Addr} {fd:FuncData} {ps:List Str} (F:Fun K x qual st f fd)
  (h:∀ (e b c:Value) (g:Option Addr) (a d:Value) (us:List Value),us.length=ps.length->bindArgs (PySem.W.fnOf x qual (k8 st) (j0 st) (b9 st) .none e b c g a d) ⟨us,[]⟩=pure (ps.zip us)):Binds K fd ps []:=by
 obtain ⟨k,od,e,b,c,g,a,d,j,rfl,l,i⟩:=F.ex;exact .all (h e b c g a d)
theorem L7 {st:Stmt} {f:Addr} {j:Value} {od h:Option Addr} {d:Array (Option Value)} {i b e a g:Value} (l:K.lookup f=some ⟨j,od,.func (PySem.W.fnOf x qual (k8 st) (j0 st) (b9 st) .none i b e h a g),d⟩)
  (c:PySem.W.codeIn K a qual=true) (k:PySem.W.keepIn K (.ref f)=true):Fun K x qual st f (PySem.W.fnOf x qual (k8 st) (j0 st) (b9 st) .none i b e h a g):=⟨⟨j,od,i,b,e,h,a,g,d,rfl,l,c⟩,k⟩
end
theorem Df {k:Nat} (a:Room q k A):A.units+1<cLine:=Nat.lt_of_le_of_lt (Nat.add_le_add_left (by decide:1<=64) _) a.units
section
variable {X:Cx}
theorem pv (i:Nat) {x:Str} {pos:Pos} (c:X.N[i]?=some x:=by rfl) (b:Vis X.env.scope x:=by first | exact Or.inl rfl | exact Or.inr (Or.inl rfl) | exact Or.inr (Or.inr rfl)) (hd:(x==("__debug__" : Str))=false:=by decide)
  (a:(x==("__classdict__" : Str))=false:=by decide):PE X (.Name x pos) (AR i):=sH c b hd a
theorem mE:j6 X (.builtin "len") (λxs H Q=>∃ a b,xs=[V.ref a]/\H a=some (.dK b)/\Q (.int b.length) H):=by
 intro pins s σ H xs us Q I r h;obtain ⟨a,b,rfl,d,q⟩:=h;obtain ⟨u,rfl,e⟩:=N5 r;cases e;exact Be I (.inl d) λt s' c=>⟨.int b.length,H,c,⟨t,rfl⟩,q⟩
end
theorem tI {A B:Prop} (h:A):if true=true then A else B:=by grind
def Same (H H':Hp):Prop:=∀ b o,H b=some o->H' b=some o
theorem Same.seq {K:PySem.W.Frag} {H H':Hp} {a:Addr} {xs:List V} (e:Same H H') (h:SqL K H a xs):SqL K H' a xs:=by
 rcases h with (h | ⟨o,h⟩) | h
 ·exact .inl (.inl (e _ _ h))
 ·exact .inl (.inr ⟨o,e _ _ h⟩)
 ·exact .inr h
theorem aW {b a:Type} (g:a->b->a) {f:b->a->Sem (ForInStep a)}:∀ (l:List b) (c:a),(∀ x∈l,∀ c,f x c=pure (.yield (g c x)))->forIn l c f=pure (l.foldl g c)
 | [],_,_=>rfl
 | x :: l,c,h=>by
  rw [JG,h x HY,pure_bind];exact aW g l (g c x) λy d=>h y (Ic _ d)
def m7 (cells:List (Str×Addr)) (a:List (Str×Addr)) (x:Str×NameKind):List (Str×Addr):=if x.2=NameKind.free then (x.1,(cells.lookup x.1).getD 0) :: a else a
def V8 (cells:List (Str×Addr)) (a:List (Str×NameKind)):List (Str×Addr):=a.foldl (m7 cells) []
theorem D4 (h:∀ x∈scope.names,x.2=NameKind.free->∃ c,env.cells.lookup x.1=some c):closureFor scope env=pure (V8 env.cells scope.names):=by
 simp only [closureFor];rw [aW (m7 env.cells) scope.names [] (λx e c=>by
  obtain ⟨n,k⟩:=x;by_cases b:k=NameKind.free
  ·subst b;obtain ⟨a,d⟩:=h _ e rfl;simp [cellOf,m7,d]
  ·have:(k==NameKind.free)=false:=by simpa using b
   simp [m7,b,this])]
 rfl
theorem P5:∀ (b:List (Str×NameKind)) (f:List (Str×Addr)),(∀ x∈b,x.2=NameKind.free->∃ c,cells.lookup x.1=some c)->(∀ x c,f.lookup x=some c->cells.lookup x=some c) ->
  ∀ x c,(b.foldl (m7 cells) f).lookup x=some c->cells.lookup x=some c
 | [],_,_,g,x,c,e=>g x c e
 | y :: r,f,h,g,x,c,e=>by
  refine P5 r (m7 cells f y) (λz hz=>h z (Ic _ hz)) (λz d q=>?_) x c e;unfold m7 at q;split at q
  ·rename_i i;obtain ⟨a,j⟩:=h y HY i;rw [JO] at q;split at q
   ·grind
   ·exact g z d q
  ·exact g z d q
theorem bB:∀ (b:List (Str×NameKind)) (a:List (Str×Addr)) (x:Str),(a.lookup x).isSome=true->((b.foldl (m7 cells) a).lookup x).isSome=true
 | [],_,_,h=>h
 | y :: r,a,x,h=>by
  refine bB r (m7 cells a y) x ?_;unfold m7;split
  ·grind
  ·exact h
theorem ab:∀ (a:List (Str×NameKind)) (b:List (Str×Addr)) (x:Str),(x,NameKind.free)∈a->((a.foldl (m7 cells) b).lookup x).isSome=true
 | [],_,_,h=>nomatch h
 | y :: r,b,x,h=>by
  rcases Ii.mp h with h | h
  ·subst h;refine bB r _ x ?_;simp [m7]
  ·exact ab r _ x h
theorem mem_of_lookup {c d:Type} [BEq c] [LawfulBEq c]:∀ {l:List (c×d)} {x:c} {y:d},l.lookup x=some y->(x,y)∈l
 | [],_,_,h=>by simp at h
 | (a,b) :: r,x,y,h=>by
  rw [JO] at h;split at h
  ·rename_i e;have:x=a:=by simpa using e
   cases h;subst this;exact HY
  ·exact Ic _ (mem_of_lookup h)
theorem W6 {f:Str×NameKind->Str×NameKind} (a:∀ y,(f y).1=y.1):∀ (l:List (Str×NameKind)) (x:Str),(l.map f).lookup x=(l.lookup x).map λk=>(f (x,k)).2
 | [],_=>rfl
 | (n,k) :: r,x=>by
  rw [II,show f (n,k) :: r.map f=((f (n,k)).1,(f (n,k)).2) :: r.map f from rfl,JO,JO,a];cases b:x==n with
  | true=>
   have e:x=n:=by simpa using b
   subst e;rfl
  | false=>exact W6 a r x
def rlF (a:Env) (y:Str×NameKind):Str×NameKind:=if (y.2==.free&&a.scope.kind==.function&&a.kindOf y.1==some .cell) then (y.1,.cell) else (y.1,y.2)
theorem sk (a:Env) (y:Str×NameKind):(rlF a y).1=y.1:=by unfold rlF;split <;> rfl
theorem K6 (a:Scope) (b:Env) (x:Str):(relabel a b).names.lookup x=(a.names.lookup x).map λk=>(rlF b (x,k)).2:=W6 (sk b) a.names x
theorem bT {scope:Scope} {env:Env} {x:Str} (h:scope.names.lookup x=some .free):(relabel scope env).names.lookup x=some .cell\/(relabel scope env).names.lookup x=some .free:=by
 rw [K6,h];show some (rlF env (x,.free)).2=_\/some (rlF env (x,.free)).2=_;unfold rlF;split
 ·exact .inl rfl
 ·exact .inr rfl
theorem T0 (h:(relabel scope env).names.lookup x=some k) (d:k=.cell\/k=.free) (b:∀ y∈scope.names,y.2≠NameKind.cell):scope.names.lookup x=some .free:=by
 rw [K6] at h;cases e:scope.names.lookup x with
 | none=>rw [e] at h;cases h
 | some a=>
  rw [e] at h;have h':(rlF env (x,a)).2=k:=Iv h;have c:=b (x,a) (mem_of_lookup e);unfold rlF at h';split at h'
  ·grind
  ·grind
theorem HOk.sameBut {a:Addr} (g:HOk P w H h) (f:H a=none) (hs:Heap.SameBut a h h'):HOk P w H h':=λb ob e=>by
 refine (g b ob e).stay (λc w' d q=>(hs.2 c ?_).trans q) (λ_ q=>q) λ_ _ q=>q;rintro rfl;rcases d with rfl | d
 ·rw [f] at e;cases e
 ·rw [f] at d;cases d
theorem Un.sameBut {C:Addr} (u:Un fs ex H H' h h1) (hs:Heap.SameBut C h1 h') (g:h.objs.size<=C):Un fs ex H H' h h':=by
 have d:∀ b o,h.get? b=some o->b≠C:=λb o e=>Ig (Ip (HX e) g);exact ⟨λb o e n c a=>(hs.2 b (d b o e)).trans (u.keep b o e n c a),λb o e n c a=>let ⟨f,q⟩:=u.slot b o e n c a;⟨f,(hs.2 b (d b o e)).trans q⟩,u.free,
  λb o e a=>let ⟨o',q⟩:=u.there b o e a;⟨o',(hs.2 b (d b o e)).trans q⟩,u.tups,u.frzs,u.tbls⟩
def d6 (X:Cx) (pins:List (Addr×Obj)) (N':List Str) (a:Scope) (C:Addr) (b:List Addr) (s:Shared) (H:Hp):Cx where
 prog:=X.prog
 w:=X.w
 K:=X.K
 mg:=X.mg
 base:=X.base
 A:=X.A
 N:=N'
 s₀:=s
 H₀:=H
 env:=compEnvC a (V8 X.env.cells a.names) C X.env
 outer:=X.stack
 stack:=X.stack
 ex:=b
 fn:=λ_=>false
 calm:=X.calm
 pn:=X.pn++pins
 xe:=λ_ _=>False
structure CompText (N:List Str) (env:Env) (N':List Str) (k:Nat) (caps:List Nat) (scope:Scope):Prop where
 kind:scope.kind=.function
 cell:∀ y∈scope.names,y.2≠NameKind.cell
 loc:∀ y∈scope.names,y.2=NameKind.local->scope.names.lookup y.1=some .local
 free:∀ y∈scope.names,y.2=NameKind.free->scope.names.lookup y.1=some .free/\(env.scope.names.lookup y.1=some .cell\/env.scope.names.lookup y.1=some .free)
 cps:∀ (j i:Nat),caps[j]?=some i->∃ x,N[i]?=some x/\N'[k+j]?=some x/\scope.names.lookup x=some .free
 len:N'.length=k+caps.length
def B5 (caps:List Nat) (σ:St):St:=caps.map λi=>(σ[i]?).join
theorem oq {caps:List Nat} {σ:St} {j:Nat} {v:V} (h:(B5 caps σ)[j]?=some (some v)):∃ i,caps[j]?=some i/\σ[i]?=some (some v):=by
 unfold B5 at h;rw [Ie] at h;cases e:caps[j]? with
 | none=>rw [e] at h;cases h
 | some i=>
  rw [e] at h;refine ⟨i,rfl,?_⟩;have h':(σ[i]?).join=some v:=Iv h;cases q:σ[i]? with
  | none=>rw [q] at h';cases h'
  | some o=>rw [q] at h';exact congrArg some h'
section
variable {X:Cx} {pins:List (Addr×Obj)} {σ:St} {H:Hp} {s:Shared} {N':List Str} {k:Nat} {caps:List Nat} {scope:Scope} {fp:List Addr}
theorem wS (T:CompText X.N X.env N' k caps scope) (I:Inv X pins σ H s) (i:∀ b∈fp,K8 X pins H b) {C:Addr} (n:s.heap.objs.size<=C) (j:∀ b∈fp,b<s.heap.objs.size):(d6 X pins N' scope C fp s H).Ok:=by
 have p:∀ x∈scope.names,x.2=NameKind.free->∃ c,X.env.cells.lookup x.1=some c:=λx g q=>I.ok.has x.1 (T.free x g q).2;have f:=P5 scope.names [] p λx c e=>by simp at e
 refine ⟨I.mod,?_,I.ok.glob,I.ok.blt,n,λx y c a b=>I.ok.inj x y c (f x c a) (f y c b),λx g=>?_,λx c m=>(by cases m),I.ok.hd,I.ok.frames,.inl rfl,λb d=>⟨?_,λx c e=>(i b d).2.2.2.2.1 x c (f x c e)⟩,I.bs,?_,λb o e d=>?_,λb d l=>?_,I.stack,I.stkFree⟩
 ·exact T.kind
 ·have h:scope.names.lookup x=some .free:=by
   rcases g with g | g
   ·exact T0 g (.inl rfl) T.cell
   ·exact T0 g (.inr rfl) T.cell
  exact IZ.mp (ab scope.names [] x (mem_of_lookup h))
 ·exact Ig (Ip (j b d) n)
 ·exact Ir I.ok.bsz I.sz
 ·rcases (i b d).2.2.2.1 with z | z
  ·exact I.ok.noex b o e z
  ·exact absurd (Ip (HX (I.ok.bs b o e).1) z) (Kj _)
 ·rcases Ii.mp (I.stkSub b l) with z | z
  ·exact (i b d).2.1 z
  ·exact (i b d).2.2.1 z
theorem O2 (T:CompText X.N X.env N' k caps scope) (I:Inv X pins σ H s) (hf:∀ b∈fp,K8 X pins H b) (hlt:∀ b∈fp,b<s.heap.objs.size) {h':Heap} {m:Str->Option Value} {t:Nat}
  (hn:h'.Ns (s.heap.objs.size+1) m) (hk:∀ b o,s.heap.get? b=some o->h'.get? b=some o) (ha:h'.get? s.heap.objs.size=some { cls:=.type "list",data:=.seq #[] }) :
  Inv (d6 X pins N' scope (s.heap.objs.size+1) fp s H) [] (List.replicate k none++B5 caps σ) (upd H s.heap.objs.size (.lst [])) { s with heap:=h',toks:=t }:=by
 have ok:=wS T I hf (C:=s.heap.objs.size+1) (Jo _) hlt;have fr:∀ x∈scope.names,x.2=NameKind.free->∃ c,X.env.cells.lookup x.1=some c:=λx hx hk=>I.ok.has x.1 (T.free x hx hk).2;have snd:∀ x c,(V8 X.env.cells scope.names).lookup x=some c->X.env.cells.lookup x=some c:=P5 scope.names [] fr λx c e=>by simp at e
 have nacc:H s.heap.objs.size=none:=I.hok.fresh (HV _);have lt:∀ b u,H b=some u->b<s.heap.objs.size:=λb u e=>I.hok.lt e;refine ⟨ok,rfl,I.bare,Un.laid hk (HV _) nacc,⟨m,hn,λi x v e1 e2 e3=>?_⟩,λx c e=>?_,?_,λx c e=>?_,λp hp=>?_,I.hok.laid hk (HV _) ⟨Jp _,[],_,.nil,ha⟩,?_⟩
 ·by_cases hi:i<k
  ·rw [HW (by simpa using hi)] at e2;simp [hi] at e2
  ·rw [IB (by simpa using Kb hi)] at e2;rw [Jh] at e2;obtain ⟨j,hj,hv⟩:=oq e2;obtain ⟨y,h1,h2,h3⟩:=T.cps _ _ hj;have hik:k+(i-k)=i:=by omega
   rw [hik] at h2;have hxy:y=x:=Iv (h2.symm.trans e1);subst hxy;have hvis:=(T.free (y,.free) (mem_of_lookup h3) rfl).2;obtain ⟨mX,hnX,hlX⟩:=I.loc;obtain ⟨u,r,l⟩:=hlX j y v h1 hv (by rcases hvis with z | z;exact .inr (.inl z);exact .inr (.inr z));refine ⟨u,r,?_⟩;rcases l with ⟨hk',_⟩ | ⟨_,c,hc,hcell⟩
   ·have hk'':X.env.scope.names.lookup y=some .local:=hk';rcases hvis with z | z
    ·rw [hk''] at z;cases z
    ·rw [hk''] at z;cases z
   ·obtain ⟨c',hc'⟩:=IZ.mp (ab (cells:=X.env.cells) scope.names [] y (mem_of_lookup h3));have:c'=c:=Iv ((snd y c' hc').symm.trans hc);subst this;obtain ⟨oc,ho,hd⟩:=hcell;exact .inr ⟨bT h3,c',hc',oc,hk _ _ ho,hd⟩
 ·obtain ⟨v,oc,ho,hd⟩:=I.cell x c (snd x c e);exact ⟨v,oc,hk _ _ ho,hd⟩
 ·show upd H s.heap.objs.size (.lst []) (s.heap.objs.size+1)=none;rw [b6 (Lw _)];exact I.hok.fresh (Jo _)
 ·obtain ⟨v,oc,ho,hd⟩:=I.cell x c (snd x c e);rw [b6 (Ig (HX ho))];exact I.freeC x c (snd x c e)
 ·have hp':p∈X.pn++pins:=by
   have:p∈(X.pn++pins)++[]:=hp;rwa [IF] at this
  obtain ⟨e,n,ne,nf,d⟩:=I.pin p hp';refine ⟨hk _ _ e,?_,Ig (Jq (HX e)),λhb=>?_,d⟩
  ·rw [b6 (Ig (HX e))];exact n
  ·rcases Ii.mp (I.stkSub p.1 hb) with z | z
   ·exact ne z
   ·exact nf z
 ·show _=N'.length;rw [T.len,Jz,Jh];unfold B5;rw [Hy]
end
def PTL (X:Cx) (ifs:List Expr) (t:TT):Prop:=
 ∀ (pins:List (Addr×Obj)) (s:Shared) (σ:St) (H:Hp) (Q:Bool->Hp->Prop),Inv X pins σ H s->t σ H Q ->
  wpAny (model X.prog X.w) X.A (forIn ifs true λc r=>if r=true then do let a <- isTrue c X.env (eval c X.env);pure (ForInStep.yield a) else pure (ForInStep.yield r)) (TP X pins σ Q) X.xe s
def tTrue:TT:=λ_ H Q=>Q true H
theorem uO:PTL X [] tTrue:=λ_ _ _ H _ I h=>by
 rw [Lb];exact HQ ⟨H,I,h⟩
theorem wj (h:PT X c t):PTL X [c] t:=λpins s σ H Q I q=>by
 rw [JG];refine Hz ?_;rw [if_pos rfl];refine Hz (thn (h pins s σ H Q I q) λb s' ⟨H',d,a⟩=>HQ ?_);dsimp only;rw [Lb];exact HQ ⟨H',d,a⟩
def jb (caps:List Nat) (j:TI) (h:TT) (te:TE):TE:=λσ H Q=>j σ H λJ g=>∀ a,g a=none->∃ W:Nat->Nat->List V->Hp->Prop,(∃ m,W 0 m [] (upd g a (.lst []))) /\
 ∀ i m ys c,W i m ys c->c a=some (.lst ys)/\((J.stop i c/\Q (.ref a) c)\/(J.go i c/\∀ x f,J.yld i c x f->h (some x :: B5 caps σ) f λb e=>
  if b=true then te (some x :: B5 caps σ) e λy d=>d a=some (.lst ys)/\ys.length<sizeLine/\∃ m',m'<m/\W (i+1) m' (ys++[y]) (upd d a (.lst (ys++[y])))
  else ∃ m',m'<m/\W (i+1) m' ys e))
theorem T8 {a:Type} {t:Sem a} {Q:a->Shared->Prop} {u:Sem Unit} (c:u=pure ()) (h:wpAny M A u (λ_ b=>wpAny M A t Q E b) E s):wpAny M A t Q E s:=by
 have d:=Hz h;grind
theorem i4 {s:Shared} {a:Type} {t:Sem a} {Q:a->Shared->Prop} (h:wpAny M A t Q (λ_ _=>False) s):wpAny M A t Q E s:=IJ h (λ_ _ q=>q) λ_ _ q=>q.elim
theorem cj {O A:Expr} {x:Str} {px:Pos} {ifs:List Expr} {a:Scope} {pos:Pos} {N':List Str} {caps:List Nat} {wi:TI} {tc:TT} {te:TE}
  (T:CompText X.N X.env N' 1 caps a) (hc:X.calm=true) (hN:N'.Nodup) (hx0:N'[0]?=some x) (hxl:a.names.lookup x=some .local) (hi:PI X (.Name x px) A wi)
  (ht:∀ pins C g s H,PTL (d6 X pins N' a C g s H) ifs tc) (he:∀ pins C g s H,PE (d6 X pins N' a C g s H) O te)
  (hs:∀ x,foldedSetIterable A X.env x=pure x:=by intro _;rfl):PE X (.ListComp O [⟨.Name x px,A,ifs,0⟩] a pos) (jb caps wi tc te):=by
 intro pins s σ H Q I h;have fr:∀ x∈a.names,x.2=NameKind.free->∃ c,X.env.cells.lookup x.1=some c:=λx hx hk=>I.ok.has x.1 (T.free x hx hk).2;rw [eval_ListComp];refine Kn rfl hs (D4 fr) T.kind T.loc ?_;refine thn (hi pins s σ H _ I h) λv s1 h1=>thn h1 λitv f h2=>?_;obtain ⟨it,g,tn,J,E,rfl,I2,G,st2,f2,h2⟩:=h2;obtain ⟨W,⟨m0,w0⟩,turn⟩:=h2 f.heap.objs.size (I2.hok.fresh (HV _));have hlt:=λb l=>let ⟨o,e,_⟩:=G.obj _ _ st2 b l;HX e
 refine IK (KN T.cell (by intro y hy;simp at hy) (λh₁ m k=>?_) T.kind);have hC:(f.heap.push { cls:=.type "list",dict:=none,data:=.seq ([]:List Value).toArray }).objs.size=f.heap.objs.size+1:=JP ..;rw [hC] at m k;have old:=λb o e=>k.extBut b o (Ig (Jq (HX e))) (HR _ (HR _ e));have hacc:=k.extBut _ _ (Ig (IP _)) (HR _ (Ih _ rfl));have w:=G.keep _ _ _ st2 λb _ o e=>old b o e;have I3:=O2 (t:=f.toks+([]:List (Str×Value)).length) T I2 f2 hlt m old hacc;have D:∀ {H':Hp},(∀ b∈g,H' b=none)->∀ b∈g,K8 (d6 X pins N' a (f.heap.objs.size+1) g f E) [] H' b:=λhn b l=>by
  refine ⟨hn b l,(I3.ok.exf b l).1,I3.ok.exfs b l,.inl l,(I3.ok.exf b l).2,λp hp=>?_⟩;have hp':p∈X.pn++pins:=by
   have:=hp;rwa [IF] at this
  exact (f2 b l).2.2.2.2.2 p hp'
 have F:∀ s3:Shared,s3={ f with heap:=h₁,toks:=f.toks+([]:List (Str×Value)).length } ->
   codeAny (model X.prog X.w) X.A (.compLoop (.ListComp O [⟨.Name x px,A,ifs,0⟩] a pos) 0 (.ref it) (.ref f.heap.objs.size) (compEnvC a (V8 X.env.cells a.names) (f.heap.objs.size+1) X.env))
    (compPost (model X.prog X.w) X.A X.xe none (EP X pins σ Q) (.ref f.heap.objs.size) (f.heap.objs.size+1)) s3:=by
  rintro s3 rfl;refine codeAny_compLoop_tests (λn s'=>∃ i ys H',Inv (d6 X pins N' a (f.heap.objs.size+1) g f E) [] (none :: B5 caps σ) H' s'/\tn i s'.heap/\(∀ b∈g,H' b=none)/\W i n ys H') ?_ m0
   ⟨0,[],_,I3,w,λb l=>by rw [b6 (Ig (hlt b l))];exact (f2 b l).1,w0⟩ (λ_=>rfl)
  rintro n s4 ⟨i,ys,R,I4,Y,fr4,w4⟩;obtain ⟨hacc4,P⟩:=turn i n ys R w4;refine i4 ?_;rcases P with ⟨stop,q⟩ | ⟨go,step⟩
  ·refine thn (G.done (d6 X pins N' a (f.heap.objs.size+1) g f E) rfl rfl rfl hc i [] s4 _ R (λ_ _=>False) I4 (D fr4) Y stop) λr s5 ⟨hr,V⟩=>?_;subst hr;obtain ⟨m5,hn5,_⟩:=id V.loc;refine ⟨m5,hn5,λh' hs'=>?_⟩;refine ⟨.ref f.heap.objs.size,R,?_,rfl,q⟩;refine I2.call' V.os (Un.sameBut V.base hs' (Jo _)) (V.hok.sameBut V.free hs') V.bare λb l=>?_;have:=f2 b l;exact ⟨this.2.2.2.1,this.2.1,this.2.2.2.2.1,this.2.2.2.2.2⟩
  ·refine thn (G.item (d6 X pins N' a (f.heap.objs.size+1) g f E) rfl rfl rfl hc i [] s4 _ R (λ_ _=>False) I4 (D fr4) Y go) λr s5 ⟨u,hr,h5⟩=>?_;subst hr;refine i4 (T8 rfl (thn h5 λ_ s6 ⟨xv,H6,I6,r6,y6,L,fr6⟩=>?_));have I6':=I6.pinned (D fr6) (G.obj _ _ L);refine thn (M5 (X:=d6 X pins N' a (f.heap.objs.size+1) g f E) hN hx0 (.inl (IU hxl)) (.inr (IU hxl)) _ s6 _ H6 xv u (λσ2 R=>σ2=some xv :: B5 caps σ/\R=H6) I6' r6 ⟨rfl,rfl⟩) λ_ s7 ⟨σ7,H7,I7,e7,e7'⟩=>?_;subst e7 e7';have B:∀ {σ8:St} {S:Hp} {s8:Shared},Inv (d6 X pins N' a (f.heap.objs.size+1) g f E) ([]++D9 g s6.heap) σ8 S s8->tn (i+1) s8.heap/\∀ b∈g,S b=none:=λ{σ8 S s8} N=>by
    refine ⟨G.keep _ _ _ L λb l o e=>(N.pin (b,o) (Ik _ (Ik _ (q5 l e)))).1,λb l=>?_⟩;obtain ⟨o,e,d⟩:=G.obj _ _ L b l;exact (N.pin (b,o) (Ik _ (Ik _ (q5 l e)))).2.1
   refine i4 (thn (ht pins _ g f E _ s7 _ _ _ I7 (step xv _ y6)) λb s8 ⟨S,N,q8⟩=>?_);have wk:∀ {U:Hp} {s9:Shared},Inv (d6 X pins N' a (f.heap.objs.size+1) g f E) ([]++D9 g s6.heap) (some xv :: B5 caps σ) U s9->Inv (d6 X pins N' a (f.heap.objs.size+1) g f E) [] (none :: B5 caps σ) U s9:=λ{U s9} I9=>
    I9.unpinned.weak rfl λj v e=>by
     cases j with
     | zero=>simp at e
     | succ j=>simpa using e
   cases b with
   | false=>
    obtain ⟨m',hm,w'⟩:=q8;exact ⟨m',hm,i+1,ys,S,wk N,(B N).1,(B N).2,w'⟩
   | true=>
    refine i4 (thn (he pins _ g f E _ s8 _ S _ N q8) λz s9 ⟨y,U,I9,r9,M,hl9,m',hm,w'⟩=>?_);refine i4 (thn (M2 _ s9 _ U (.ref f.heap.objs.size) [y] (.ref f.heap.objs.size) [z] (λ_ H'=>H'=upd U f.heap.objs.size (.lst (ys++[y]))) I9 rfl (.cons r9 .nil) ⟨_,ys,y,rfl,rfl,M,hl9,rfl⟩) λ_ s10 ⟨_,H10,K,_,e10⟩=>?_);subst e10;exact ⟨m',hm,i+1,ys++[y],_,wk K,(B K).1,(B K).2,w'⟩
 have Z:=KA (F _ rfl) (G.self _ 0 _ _ _ w (F _ rfl));rw [<- hC] at Z;exact Z
theorem aX {K w:Expr} {x:Str} {px:Pos} {y:Str} {py N:Pos} {iy:Nat} {ifs:List Expr} {f:Scope} {pos:Pos} {N':List Str} {caps:List Nat} {wi:TI} {tc:TT} {te:TE}
  (hsw:swapsWith (.ListComp K [⟨.Name x px,w,ifs,0⟩] f pos) (some (.Name y py)) N.line X.env=pure true) (hNX:X.N.Nodup) (hiy:X.N[iy]?=some y) (hy:Loc X.env.scope y) (hf:X.fn y=true\/X.env.scope.names.lookup y=some .local)
  (T:CompText X.N X.env N' 1 caps f) (hc:X.calm=true) (hN:N'.Nodup) (hx0:N'[0]?=some x) (hxl:f.names.lookup x=some .local) (hi:PI X (.Name x px) w wi)
  (ht:∀ pins C l s H,PTL (d6 X pins N' f C l s H) ifs tc) (he:∀ pins C l s H,PE (d6 X pins N' f C l s H) K te)
  (hs:∀ x,foldedSetIterable w X.env x=pure x:=by intro _;rfl):PS X (.Assign [.Name y py] (.ListComp K [⟨.Name x px,w,ifs,0⟩] f pos) N) (pZ (jb caps wi tc te) (bH iy)):=by
 intro pins s σ H D I h;have fr:∀ x∈f.names,x.2=NameKind.free->∃ c,X.env.cells.lookup x.1=some c:=λx hx hk=>I.ok.has x.1 (T.free x hx hk).2;rw [exec_Assign_Name_used _ _ _ _ hsw];refine Hz (Kk (Hz ?_));refine Hz (IJ (Kn rfl hs (D4 fr) T.kind T.loc ?_) (λ_ s' hq=>HQ (HQ hq)) λ_ _ e=>e);refine thn (hi pins s σ H _ I h) λv s1 h1=>thn h1 λitv g h2=>?_;obtain ⟨it,l,tn,J,G,rfl,O,M,st2,f2,h2⟩:=h2;obtain ⟨W,⟨m0,w0⟩,turn⟩:=h2 g.heap.objs.size (O.hok.fresh (HV _));have hlt:=λb k=>let ⟨o,e,_⟩:=M.obj _ _ st2 b k;HX e
 refine IK (KN T.cell (by intro y hy;simp at hy) (λh₁ A m=>?_) T.kind);have hC:(g.heap.push { cls:=.type "list",dict:=none,data:=.seq ([]:List Value).toArray }).objs.size=g.heap.objs.size+1:=JP ..;rw [hC] at A m;have old:=λb o e=>m.extBut b o (Ig (Jq (HX e))) (HR _ (HR _ e));have hacc:=m.extBut _ _ (Ig (IP _)) (HR _ (Ih _ rfl));have E:=M.keep _ _ _ st2 λb _ o e=>old b o e;have I3:=O2 (t:=g.toks+([]:List (Str×Value)).length) T O f2 hlt A old hacc;have F:∀ {H':Hp},(∀ b∈l,H' b=none)->∀ b∈l,K8 (d6 X pins N' f (g.heap.objs.size+1) l g G) [] H' b:=λhn b k=>by
  refine ⟨hn b k,(I3.ok.exf b k).1,I3.ok.exfs b k,.inl k,(I3.ok.exf b k).2,λp hp=>?_⟩;have hp':p∈X.pn++pins:=by
   have:=hp;rwa [IF] at this
  exact (f2 b k).2.2.2.2.2 p hp'
 have L:∀ s3:Shared,s3={ g with heap:=h₁,toks:=g.toks+([]:List (Str×Value)).length } ->
   codeAny (model X.prog X.w) X.A (.compLoop (.ListComp K [⟨.Name x px,w,ifs,0⟩] f pos) 0 (.ref it) (.ref g.heap.objs.size) (compEnvC f (V8 X.env.cells f.names) (g.heap.objs.size+1) X.env))
    (compPost (model X.prog X.w) X.A X.xe (some (assign (.Name y py) X.env)) (λ_ s'=>SP X pins D .next s') (.ref g.heap.objs.size) (g.heap.objs.size+1)) s3:=by
  rintro s3 rfl;refine codeAny_compLoop_tests (λn s'=>∃ i ys H',Inv (d6 X pins N' f (g.heap.objs.size+1) l g G) [] (none :: B5 caps σ) H' s'/\tn i s'.heap/\(∀ b∈l,H' b=none)/\W i n ys H') ?_ m0
   ⟨0,[],_,I3,E,λb k=>by rw [b6 (Ig (hlt b k))];exact (f2 b k).1,w0⟩ (λ_=>rfl)
  rintro n s4 ⟨i,ys,Z,I4,st4,fr4,w4⟩;obtain ⟨hacc4,S⟩:=turn i n ys Z w4;refine i4 ?_;rcases S with ⟨stop,q⟩ | ⟨go,step⟩
  ·refine thn (M.done (d6 X pins N' f (g.heap.objs.size+1) l g G) rfl rfl rfl hc i [] s4 _ Z (λ_ _=>False) I4 (F fr4) st4 stop) λr s5 ⟨hr,V⟩=>?_;subst hr;obtain ⟨m5,hn5,_⟩:=id V.loc;have IX:=O.call' V.os V.base V.hok V.bare λb k=>by
    have:=f2 b k;exact ⟨this.2.2.2.1,this.2.1,this.2.2.2.2.1,this.2.2.2.2.2⟩
   have C0:g.heap.objs.size<=g.heap.objs.size+1:=Jo _;have cC:∀ z c,X.env.cells.lookup z=some c->c≠g.heap.objs.size+1:=λz c e=>by
    obtain ⟨v,oc,ho,_⟩:=O.cell z c e;exact Ig (Jq (HX ho))
   have lC:=Ig (Jq O.lt);refine wpAny_assign_Name (bj (v:=.ref g.heap.objs.size) IX hNX hiy hy rfl (λs6 I6 ⟨a,sb,ha⟩=>?_) hf);have aC:g.heap.objs.size+1≠a:=λz=>by
    rcases ha with ha | ha
    ·grind
    ·exact cC _ _ ha z.symm
   refine ⟨m5,hn5.sameBut sb aC,λh' hs'=>?_⟩;refine ⟨_,Z,I6.turned (λb o k e=>hs'.extBut b o k e) V.free lC.symm (.inr (Ir O.sz C0)) cC (λp hp=>?_),q⟩;exact Ig (Jq (HX (O.pin p hp).1))
  ·refine thn (M.item (d6 X pins N' f (g.heap.objs.size+1) l g G) rfl rfl rfl hc i [] s4 _ Z (λ_ _=>False) I4 (F fr4) st4 go) λr s5 ⟨u,hr,h5⟩=>?_;subst hr;refine i4 (T8 rfl (thn h5 λ_ s6 ⟨xv,H6,I6,r6,y6,U,fr6⟩=>?_));have I6':=I6.pinned (F fr6) (M.obj _ _ U);refine thn (M5 (X:=d6 X pins N' f (g.heap.objs.size+1) l g G) hN hx0 (.inl (IU hxl)) (.inr (IU hxl)) _ s6 _ H6 xv u (λσ2 Z=>σ2=some xv :: B5 caps σ/\Z=H6) I6' r6 ⟨rfl,rfl⟩) λ_ s7 ⟨σ7,H7,I7,e7,e7'⟩=>?_;subst e7 e7';have B:∀ {σ8:St} {Y:Hp} {s8:Shared},Inv (d6 X pins N' f (g.heap.objs.size+1) l g G) ([]++D9 l s6.heap) σ8 Y s8->tn (i+1) s8.heap/\∀ b∈l,Y b=none:=λ{σ8 Y s8} Q=>by
    refine ⟨M.keep _ _ _ U λb k o e=>(Q.pin (b,o) (Ik _ (Ik _ (q5 k e)))).1,λb k=>?_⟩;obtain ⟨o,e,d⟩:=M.obj _ _ U b k;exact (Q.pin (b,o) (Ik _ (Ik _ (q5 k e)))).2.1
   refine i4 (thn (ht pins _ l g G _ s7 _ _ _ I7 (step xv _ y6)) λb s8 ⟨Y,Q,q8⟩=>?_);have wk:∀ {H9:Hp} {s9:Shared},Inv (d6 X pins N' f (g.heap.objs.size+1) l g G) ([]++D9 l s6.heap) (some xv :: B5 caps σ) H9 s9->Inv (d6 X pins N' f (g.heap.objs.size+1) l g G) [] (none :: B5 caps σ) H9 s9:=λ{H9 s9} I9=>
    I9.unpinned.weak rfl λj v e=>by
     cases j with
     | zero=>simp at e
     | succ j=>simpa using e
   cases b with
   | false=>
    obtain ⟨m',hm,w'⟩:=q8;exact ⟨m',hm,i+1,ys,Y,wk Q,(B Q).1,(B Q).2,w'⟩
   | true=>
    refine i4 (thn (he pins _ l g G _ s8 _ Y _ Q q8) λz s9 ⟨y,H9,I9,r9,P,hl9,m',hm,w'⟩=>?_);refine i4 (thn (M2 _ s9 _ H9 (.ref g.heap.objs.size) [y] (.ref g.heap.objs.size) [z] (λ_ H'=>H'=upd H9 g.heap.objs.size (.lst (ys++[y]))) I9 rfl (.cons r9 .nil) ⟨_,ys,y,rfl,rfl,P,hl9,rfl⟩) λ_ s10 ⟨_,H10,R,_,e10⟩=>?_);subst e10;exact ⟨m',hm,i+1,ys++[y],_,wk R,(B R).1,(B R).2,w'⟩
 have fin:=KA (L _ rfl) (M.self _ 0 _ _ _ E (L _ rfl));rw [<- hC] at fin;exact fin
mutual
inductive DAt (K:PySem.W.Frag) (H:Hp):V->PyData->Prop where
 | non:DAt K H .non .none
 | bl (b:Bool):DAt K H (.bl b) (.bool b)
 | int (i:Int):DAt K H (.int i) (.int i)
 | str (x:Str):DAt K H (.str x) (.str x)
 | lst {a:Addr} {xs:List V} {ds:List PyData}:SqL K H a xs->DAll K H xs ds->DAt K H (.ref a) (.list ds)
 | tup {a:Addr} {xs:List V} {ds:List PyData}:SqT K H a xs->DAll K H xs ds->DAt K H (.ref a) (.tuple ds)
inductive DAll (K:PySem.W.Frag) (H:Hp):List V->List PyData->Prop where
 | nil:DAll K H [] []
 | cons {x:V} {d:PyData} {xs:List V} {ds:List PyData}:DAt K H x d->DAll K H xs ds->DAll K H (x :: xs) (d :: ds)
end
def Keeps (K:PySem.W.Frag) (H H':Hp):Prop:=(∀ a xs,SqL K H a xs->SqL K H' a xs)/\∀ a xs,SqT K H a xs->SqT K H' a xs
mutual
theorem DAt.keeps {K:PySem.W.Frag} {H H':Hp} (k:Keeps K H H'):∀ {v:V} {d:PyData},DAt K H v d->DAt K H' v d
 | _,_,.non=>.non
 | _,_,.bl b=>.bl b
 | _,_,.int i=>.int i
 | _,_,.str x=>.str x
 | _,_,.lst h r=>.lst (k.1 _ _ h) (DAll.keeps k r)
 | _,_,.tup h r=>.tup (k.2 _ _ h) (DAll.keeps k r)
theorem DAll.keeps {K:PySem.W.Frag} {H H':Hp} (k:Keeps K H H'):∀ {xs:List V} {ds:List PyData},DAll K H xs ds->DAll K H' xs ds
 | _,_,.nil=>.nil
 | _,_,.cons h r=>.cons (DAt.keeps k h) (DAll.keeps k r)
end
theorem Keeps.of_same {K:PySem.W.Frag} {H H':Hp} (e:Same H H'):Keeps K H H':=
 ⟨λa xs h=>e.seq h,λa xs h=>by
  rcases h with (h | ⟨o,h⟩) | h
  ·exact .inl (.inl (e _ _ h))
  ·exact .inl (.inr ⟨o,e _ _ h⟩)
  ·exact .inr h⟩
theorem Same.laid (h:H p=none):Same H (upd H p o):=λb u e=>by rw [b6 (c8 e h)];exact e
theorem Keeps.laid {K:PySem.W.Frag} {H:Hp} {p:Addr} {o:HO} (h:H p=none):Keeps K H (upd H p o):=Keeps.of_same (Same.laid h)
section
variable {X:Cx} {pins:List (Addr×Obj)} {σ:St} {H:Hp} {s:Shared}
mutual
theorem DAt.reads (I:Inv X pins σ H s):∀ {v:V} {d:PyData},DAt X.K H v d->∀ {u:Value},RelV v u->∃ a,Reads s.heap u d a
 | _,_,.non,u,r=>by cases (show u=Value.none from r);exact ⟨_,.none⟩
 | _,_,.bl b,u,r=>by cases (show u=Value.bool b from r);exact ⟨_,.bool b⟩
 | _,_,.int i,u,r=>by obtain ⟨t,e⟩:=(r);subst e;exact ⟨_,.int i t⟩
 | _,_,.str x,u,r=>by obtain ⟨t,e⟩:=(r);subst e;exact ⟨_,.str x t⟩
 | _,_,.lst h q,u,r=>by
  cases (r);obtain ⟨f,c,⟨o,n,g,j,m,l⟩,_⟩:=I.list h;obtain ⟨a,k⟩:=DAll.reads I q c;exact ⟨_,.list g j l k⟩
 | _,_,.tup h q,u,r=>by
  cases (r);obtain ⟨f,c,⟨o,g,j,n,l⟩,_⟩:=I.tuple h;obtain ⟨a,k⟩:=DAll.reads I q c;exact ⟨_,.tuple g j l k⟩
theorem DAll.reads (I:Inv X pins σ H s):∀ {vs:List V} {ds:List PyData},DAll X.K H vs ds->∀ {us:List Value},Vals vs us->∃ as,ReadsAll s.heap us ds as
 | _,_,.nil,us,r=>by cases r;exact ⟨_,.nil⟩
 | _,_,.cons h q,us,r=>by
  cases r with
  | cons r1 r2=>
   obtain ⟨as,h1⟩:=DAt.reads I h r1;obtain ⟨bs,h2⟩:=DAll.reads I q r2;exact ⟨_,.cons h1 h2⟩
end
structure Shows (d:PyData):Prop where
 sh:d.showable=true
 nd:d.hasDict=false
 dp:d.depth<=60
 sz:d.shown.length<=sizeLine
theorem lg (hg:X.A.guards=some []) (hu:X.A.units+64<cLine):j6 X (.builtin "repr") (λxs H Q=>∃ v d,xs=[v]/\DAt X.K H v d/\Shows d/\Q (.str d.shown) H):=by
 intro pins s σ H xs us Q I r h;obtain ⟨v,d,rfl,hd,S,q⟩:=h;obtain ⟨u,rfl,ru⟩:=N5 r;have sh:=S.sh;have sz:=S.sz;cases hd with
 | non=>cases (ru);exact PySem.P.repr_of_none ⟨.str (PyData.shown .none),H,I.tok _,⟨_,rfl⟩,q⟩
 | bl b=>cases (ru);exact PySem.P.repr_of_bool ⟨.str (PyData.shown (.bool b)),H,I.tok _,⟨_,rfl⟩,q⟩
 | int i=>obtain ⟨t,e⟩:=(ru);subst e;exact PySem.P.repr_of_int (by simpa [PyData.showable] using sh) ⟨.str (PyData.shown (.int i)),H,I.tok _,⟨_,rfl⟩,q⟩
 | str x=>obtain ⟨t,e⟩:=(ru);subst e;exact PySem.P.repr_of_str ⟨.str (PyData.shown (.str x)),H,I.tok _,⟨_,rfl⟩,q⟩ sz
 | lst h1 h2=>
  obtain ⟨as,rr⟩:=DAt.reads I (.lst h1 h2) ru;obtain ⟨a,rfl⟩:=Ld rr rfl;exact repr_of_reads' rr sh (KC S.nd) hg (by have:=S.dp;omega) (λ_ _ e=>e) (λh' u tk hk=>⟨.str (PyData.shown _),H,I.kept hk,⟨_,rfl⟩,q⟩) sz
 | tup h1 h2=>
  obtain ⟨as,rr⟩:=DAt.reads I (.tup h1 h2) ru;obtain ⟨a,rfl⟩:=Ld rr rfl;exact repr_of_reads' rr sh (KC S.nd) hg (by have:=S.dp;omega) (λ_ _ e=>e) (λh' u tk hk=>⟨.str (PyData.shown _),H,I.kept hk,⟨_,rfl⟩,q⟩) sz
end
def FK (K:PySem.W.Frag) (a:Bool):R2:=λx y H Q=>∃ d e,DAt K H x d/\DAt K H y e/\d.canLay0=true/\e.canLay0=true/\min d.depth e.depth<=60/\Q (.bl (if a then !PyData.eqv d e else PyData.eqv d e)) H
section
variable {X:Cx}
theorem zz (k:X.A.units+64<cLine):OpR X (compareOp .Eq) (FK X.K false):=by
 intro pins s σ H x y v u Q I i c h;obtain ⟨d,e,hd,a,b,f,m,q⟩:=h;obtain ⟨l,g⟩:=hd.reads I i;obtain ⟨n,j⟩:=a.reads I c;exact SeqAt.compareEq_reads g j b f (by omega) ⟨.bl (PyData.eqv d e),H,I,rfl,q⟩
theorem BQ (k:X.A.units+64<cLine):OpR X (compareOp .NotEq) (FK X.K true):=by
 intro pins s σ H x y v u Q I i c h;obtain ⟨d,e,hd,a,b,f,m,q⟩:=h;obtain ⟨l,g⟩:=hd.reads I i;obtain ⟨n,j⟩:=a.reads I c;exact SeqAt.compareNe_reads g j b f (by omega) ⟨.bl (!PyData.eqv d e),H,I,rfl,q⟩
end
end L2
namespace L2
open PySem PySem.W PySem.Calls PyProof.Rows
def Y1 (K:Frag) (C:Addr):Bool:=match K.lookup C with
 | some ⟨c,_,.cls a,b⟩=>c==.type "type" && !a.hasDel&&a.hasDict&&(b.toList[4]?).join==some (.builtin "ValueError.__new__")&&!a.mro.isEmpty&&a.mro.contains (.ref C)&&a.mro.contains (.type "ValueError")&&a.mro.contains (.type "BaseException") &&
   !a.mro.contains (.type "AttributeError")&&!a.mro.contains (.type "NameError")&&specialIn K (.ref C) "__call__" == some (some (.builtin "type.__call__"))&&instIn K (.ref C) (.type "type")==some true
 | _=>false
structure MakesX (M:Model) (h:Heap) (C:Addr):Prop where
 obj:∃ oc od cd sl,h.get? C=some ⟨oc,od,.cls cd,sl⟩/\cd.hasDel=false/\cd.mro.isEmpty=false
 made:Looks M h (Bind.madeBy (.ref C)) (some "ValueError.__new__")
 base:Looks M h (Bind.staticBase (.ref C)) (.ref C)
 self:Looks M h (isSubtype (.ref C) (.ref C)) true
 isV:Looks M h (isSubtype (.ref C) (.type "ValueError")) true
 isB:Looks M h (isSubtype (.ref C) (.type "BaseException")) true
 noA:Looks M h (isSubtype (.ref C) (.type "AttributeError")) false
 noN:Looks M h (isSubtype (.ref C) (.type "NameError")) false
 call:Looks M h (specialOf (.ref C) "__call__") (some (.builtin "type.__call__"))
 typ:Looks M h (isInstance (.ref C) (.type "type")) true
 ty:Looks M h (typeOf (.ref C)) (.type "type")
 isT:Looks M h (isType (.ref C)) true
theorem E7 {K:Frag} {M:Model} {h:Heap} (X:K.In h) {C:Addr} (e:Y1 K C=true):MakesX M h C:=by
 unfold Y1 at e;split at e
 case h_2=>cases e
 rename_i v od f D g;simp only [HS,Jd,Kp] at e;obtain ⟨⟨⟨⟨⟨⟨⟨⟨⟨⟨⟨F,x⟩,_⟩,t⟩,i⟩,u⟩,B⟩,y⟩,w⟩,z⟩,m⟩,j⟩:=e;have p:clsIn K C=some f:=by unfold clsIn;rw [g]
 have a:∀ {b:Value} {r:Bool},f.mro.contains b=r->Looks M h (isSubtype (.ref C) b) r:=λ{b r} q=>looks_mroIn X (by unfold mroIn;rw [p,Jj,if_neg (by rw [i];decide),q]);have n:Looks M h (mroOf (.ref C)) f.mro:=(looks_clsIn X p).andThen .now;obtain ⟨c,l,o⟩:∃ c l,f.mro=c :: l:=by
  cases q:f.mro with
  | nil=>rw [q] at i;cases i
  | cons c l=>exact ⟨c,l,rfl⟩
 have d:Looks M h (Bind.madeBy (.ref C)) (some "ValueError.__new__"):=λA Q E s k q=>by
  refine Hz (n A _ E s k ?_);rw [o,JG];refine Hz (Hz (Hz (Hz (Le (k _ _ (X _ _ g)) (HQ ?_)))));rw [<- JD,t];exact HQ (HQ (HQ q))
 refine ⟨⟨v,od,f,D,X _ _ g,x,i⟩,d,λA Q E s k q=>?_,a u,a B,a y,a w,a z,looks_specialIn X m,looks_instIn X j,?_,(Looks.ld (X _ _ g)).andThen .now⟩
 ·unfold Bind.staticBase;refine Hz (n A _ E s k ?_);rw [o,JG];exact Hz (Hz (Hz (d A _ E s k (HQ (HQ (HQ q))))))
 ·subst F;exact (Looks.ld (X _ _ g)).andThen .now
abbrev B1 (C t:Addr):Obj:={ cls:=.ref C,data:=.fields #[.ref t,.none,.none,.none,.bool false,.none] }
abbrev D3 (vs:List Value):Obj:={ cls:=.type "tuple",data:=.seq vs.toArray }
section
variable {prog:Program} {w:World} {A:Around} {K:Frag} {C:Addr} {R:Result->Shared->Prop} {h:Heap} {g:Array GenState} {d:Drawn} {t:Nat} {os:OsState}
theorem Fb {rest:List Value} (Y:MakesX (model prog w) h C) (hrest:rest.length<=sizeLine)
  (hq:R (.ok (.ret (.ref (h.objs.size+1)))) ⟨(h.push (D3 rest)).push (B1 C h.objs.size),g,d,t,os⟩) :
  codeAny (model prog w) A (.call (.builtin "ValueError.__new__") ⟨.ref C :: rest,[]⟩) R ⟨h,g,d,t,os⟩:=by
 obtain ⟨⟨oc,od,cd,sl,hC,e1,e4⟩,made,base,self,isV,isB,noA,noN,call,typ,_,_⟩:=Y;have F:=Lf;refine codeAny_call_builtin_code (Code.quiet_builtin _ F.quiet) ?_;simp only [checkBuiltinCall,F.newKind,F.newSplit,F.newRow];have here:Looks (model prog w) h (Bind.madeHere "ValueError.__new__" (.ref C)) ():=base.andThen (made.andThen (Looks.of_pure (by simp only [LD,Lm,JB,LH])))
 repeat (first | simp only [Lm,JB,LH] | lk)
 have here2:Looks (model prog w) h (Bind.madeHere "BaseException.__new__" (.ref C)) ():=base.andThen (made.andThen (Looks.of_pure (by simp only [LD,F.canon,Lm,JB,LH])));have ends:=F.ends;refine codeAny_builtinAt F.entry (PySem.wpAt_bind ?_);show PySem.wpAt _ _ _ (stack >>= _) _ _ _;refine PySem.wpAt_bind (PySem.wpAt_stack λp below=>PySem.wpAt_of_wpAny ?_)
 wp_walk
 refine PySem.wpAt_of_wpAny ?_;rw [F.owner]
 repeat lk
 rw [if_neg (by rw [Ib];omega)];show wpAny _ _ (newObjAsIs _ _) _ _ _;have hC2:(h.push (D3 rest)).get? C=some ⟨oc,od,.cls cd,sl⟩:=HR _ hC;have hC3:((h.push (D3 rest)).push (B1 C h.objs.size)).get? C=some ⟨oc,od,.cls cd,sl⟩:=HR _ hC2;unfold newObjAsIs;refine Hz (wpAny_alloc (HQ (Hz ?_)));show wpAny _ _ (newObjAsIs _ _) _ _ _;unfold newObjAsIs classHasDel;refine Hz (wpAny_alloc (Hz (Hz (wpAny_load hC3 (HQ ?_)))));rw [e1];refine HQ (HQ ?_);show R _ _;rw [JP];exact hq
theorem Dt {c:List Value} {f:Addr} (Y:MakesX (model prog w) h C) (u:Looks (model prog w) h (typeLookup (.ref C) "__init__") (some (.ref f)))
  (G:∀ i,Looks (model prog w) h (bindSpecial (.ref f) i) (.ref f,[i])) (j:c.length<=sizeLine)
  (B:codeAny (model prog w) (A.under (.builtin "type.__call__" ⟨.ref C :: c,[]⟩)) (.call (.ref f) ⟨.ref (h.objs.size+1) :: c,[]⟩) (InitBack (h.objs.size+1) R) ⟨(h.push (D3 c)).push (B1 C h.objs.size),g,d,t,os⟩) :
  codeAny (model prog w) A (.call (.ref C) ⟨c,[]⟩) R ⟨h,g,d,t,os⟩:=by
 have D:=Y;obtain ⟨⟨L,od,s,O,q,M,I⟩,p,n,i,x,F,E,H,l,m,_,_⟩:=Y;refine codeAny_of_tree ?_;refine nd_load q (show wpAny _ _ (callAny.viaDunder (.ref C) _) _ _ _ from ?_);refine Hz (l.at ?_);dsimp only;rw [tc_bind];refine Hz (HQ (Hz (HQ (HQ (a:=Fin.again (.call (.builtin "type.__call__") ⟨.ref C :: c,[]⟩)) (And.intro rfl ?_)))));refine codeAny_call_builtin_at (Code.quiet_builtin _ (by decide +kernel)) entry_typeCall (check_slot tc_kind tc_split m (tc_args _ _ _) ?_);have J:Looks (model prog w) h (mroOf (.ref C)) s.mro:=((Looks.ld q).andThen .now).andThen .now
 repeat (first | simp only [I,JB,LH] | with_reducible refine Kq ?_ | lk)
 refine Fb D j ?_;have k:∀ b o,h.get? b=some o->((h.push (D3 c)).push (B1 C h.objs.size)).get? b=some o:=λb o e=>HR _ (HR _ e);have y:((h.push (D3 c)).push (B1 C h.objs.size)).get? (h.objs.size+1)=some (B1 C h.objs.size):=by heap_get
 have Q:Looks (model prog w) ((h.push (D3 c)).push (B1 C h.objs.size)) (typeOf (.ref (h.objs.size+1))) (.ref C):=(Looks.ld y).andThen .now;have N:=i.keeps k;have P:=u.keeps k;have K:=(G (.ref (h.objs.size+1))).keeps k
 repeat (first | with_reducible refine Kq ?_ | lk)
 refine JY B λr s' z=>?_;rcases r with e | (v | _ | _ | _) <;> first | exact z | exact z.elim | skip
 obtain ⟨rfl,z⟩:=z;exact HQ (HQ z)
end
end L2
namespace L2
open PySem PySem.W PySem.Calls PyProof.Rows Builtin Builtin.ObjectAttr
theorem qM:builtinKind "BaseException.__getattribute__" = some .slot:=by decide +kernel
theorem mF:splitId "BaseException.__getattribute__" = some ("BaseException","__getattribute__"):=by decide +kernel
theorem mq:plainId "BaseException.__getattribute__" = true:=by decide +kernel
section
variable {prog:Program} {w:World} {A:Around} {R:Result->Shared->Prop} {s:Shared} {x:Addr} {name:Str} {t:Tok}
theorem rX (c:Looks (model prog w) s.heap (isInstance (.ref x) (.type "BaseException")) true)
  (h:wpAny (model prog w) A.in1 (Builtin.«object.__getattribute__» ⟨[.ref x,.str name t],[]⟩) (λa s'=>match a with | .done f=>R (.ok f) s' | .again b=>b.quiet=true/\codeAny (model prog w) A b R s') (λe s'=>R (.error e) s') s) :
  codeAny (model prog w) A (.call (.builtin "BaseException.__getattribute__") ⟨[.ref x,.str name t],[]⟩) R s:=
 KO mq PySem.F.entry_bexc_ga (@check_slot (model prog w) _ _ _ "BaseException.__getattribute__" "BaseException" "__getattribute__" (.ref x) [.str name t] [] _ qM mF c (PySem.F.args_bexc_ga (.ref x) (.str name t)) h)
end
section
variable {prog:Program} {w:World} {A:Around} {E:Value->Shared->Prop} {s:Shared} {K:Frag} {x C:Addr} {ox:Obj} {od:Option Obj} {name:Str} {expr:Bool} {Q:Value->Shared->Prop}
structure XCls (K:Frag) (C:Addr):Prop where
 ga:findIn K (.ref C) "__getattribute__" = some (some (.builtin "BaseException.__getattribute__"))
 gg:findIn K (.ref C) "__getattr__" = some none
 be:mroIn K C (.type "BaseException")=some true
 ob:mroIn K C (.type "object")=some true
 hd:hasDictIn K C=true
 cl:findIn K (.ref C) "__class__" = some (some (.builtin "object.__class__"))
 cg:specialIn K (.builtin "object.__class__") "__get__" = some (some (.builtin "getset_descriptor.__get__"))
 ct:takesIn K (.builtin "object.__class__")=some true
theorem rh {b:Bool} {t:Tok} (X:K.In s.heap) (I:InstAt s.heap x ox C od) (c:XCls K C)
  (h:wpAny (model prog w) A.in1 (Builtin.«object.__getattribute__» ⟨[.ref x,.str name t],[]⟩) (λa s'=>match a with | .done (.ret v)=>wpAny (model prog w) A (handedOut v) Q E s' | _=>False) (λ_ _=>False) s) :
  wpAny (model prog w) A (getAttrBy (.ref x) (.str name t) b expr) Q E s:=by
 obtain ⟨l,g,d,p,n⟩:=s;have f:=I.type (M:=model prog w);have j:=looks_findIn (M:=model prog w) X c.ga;have o:=looks_findIn (M:=model prog w) X c.gg;have i:Looks (model prog w) l (isInstance (.ref x) (.type "BaseException")) true:=f.andThen (looks_mroIn X c.be);have k:=(PySem.F.attrBase_ValueError).ga.bind (.ref x);have e:(expr&&onTheHeap (Value.builtin "BaseException.__getattribute__"))=false:=by cases expr <;> rfl
 have m:(Value.builtin "BaseException.__getattribute__" == Value.builtin "object.__getattribute__")=false:=by decide +kernel
 refine Jm (Hz (f.at (Hz (j.at ?_))))
 repeat (first | simp | lk)
 refine wpAny_attempt (Jm ?_);unfold callGetattribute;rw [e];refine Hz (wpAny_of_eq k ?_);refine Kq (rX i ?_);refine IJ h (λa s' z=>?_) λ_ _ z=>z.elim;rcases a with (v | _ | _ | _) | _ <;> first | exact z | exact z.elim
theorem HE (X:K.In s.heap) (I:InstAt s.heap x ox C od) (b:XCls K C) (f:findObj K C od name=some (.value v)) (e:handedIn v=true) (h:Q v { s with toks:=s.toks+1 }):wpAny (model prog w) A (getAttr (.ref x) name expr) Q E s:=by
 obtain ⟨j,g,d,t,i⟩:=s;have a:=I.type (M:=model prog w);have c:=looks_find (M:=model prog w) X I f;refine Hz (wpAny_mkText (rh X I b ?_));refine Hz (HQ (Hz (HQ (Hz (a.at (Hz (c.at (HQ ?_))))))));show wpAny _ _ (handedOut v) _ _ _;rw [handedOut_of e];exact HQ h
theorem gG (a:XCls K C):findObj K C od "__class__" = some (.bind (.builtin "getset_descriptor.__get__") (.builtin "object.__class__")):=by
 obtain ⟨c,b,_⟩:=any_some a.hd;unfold findObj;rw [b,Jj,a.cl,Jj];dsimp only;rw [a.cg,Jj];dsimp only;rw [a.ct];rfl
theorem zG (X:K.In s.heap) (I:InstAt s.heap x ox C od) (a:XCls K C) (h:R (some (.ref C)) { s with toks:=s.toks+1 }):wpAny (model prog w) A (getAttr? (.ref x) "__class__") R E s:=by
 have e:=gG (od:=od) a;obtain ⟨i,g,d,t,f⟩:=s;have b:=I.type (M:=model prog w);have c:=looks_find (M:=model prog w) X I e;refine Hz (wpAny_mkText (Hz (wpAny_attempt (rh X I a ?_))));refine Hz (HQ (Hz (HQ (Hz (b.at (Hz (c.at ?_)))))));refine Hz (Jm (Kq (class_get X I a.ob ?_)));refine HQ ?_;exact handed_on rfl (HQ h)
theorem CV (c:XCls K C):KitX K (.ref x) (.ref C) (λh=>∃ ox od,InstAt h x ox C od) where
 ty:=λ_ _ _ ⟨_,_,I⟩=>I.type
 it:=λ_ _ X _=>by
  obtain ⟨j,a,_⟩:=any_some c.hd;unfold clsIn at a;split at a
  ·rename_i m e d g f;exact λo r s s' k q=>by
    exact Hz (Le (k _ _ (X _ _ f)) (HQ q))
  ·cases a
 ne:=λh l p i n g X b=>by
  obtain ⟨j,a,_⟩:=any_some c.hd;refine Bool.eq_false_iff.mpr λq=>?_;obtain rfl:C=l:=Value.ref.inj (Kp.mp q);unfold clsIn at a;split at a
  ·rename_i m e d g f;have z:=(X _ _ f).symm.trans b;cases z
  ·cases a
 ca:=λX ⟨_,_,I⟩ k=>zG X I c k
end
def B4:List Value->Bool
 | .ref _ :: r=>B4 r
 | l=>l==[.type "ValueError",.type "Exception",.type "BaseException",.type "object"]
theorem K0 (a:Value):∀ {l:List Value},B4 l=true->refuseLoop a "__setattr__" l=pure ()
 | .ref c :: r,e=>by rw [refuseLoop_ref];exact K0 a e
 | [],e=>by cases e
 | .none :: r,e=>by cases e
 | .type n :: r,e=>by rw [Kp.mp e];exact PySem.F.store_ValueError.passes a
 | .bool _ :: _,e=>by cases e
 | .int _ _ :: _,e=>by cases e
 | .str _ _ :: _,e=>by cases e
 | .bytes _ _ :: _,e=>by cases e
 | .float _ _ :: _,e=>by cases e
 | .builtin _ :: _,e=>by cases e
 | .ellipsis :: _,e=>by cases e
 | .notImplemented :: _,e=>by cases e
section
variable {prog:Program} {w:World} {A:Around} {E:Value->Shared->Prop} {s:Shared} {K:Frag} {x C:Addr} {ox:Obj} {od:Option Obj} {name:Str} {R:Result->Shared->Prop} {v:Value}
theorem Bh (X:K.In s.heap) (I:InstAt s.heap x ox C od) (k:XCls K C) (o:(clsIn K C).any (λd=>B4 d.mro)=true) (j:findIn K (.ref C) name=some none)
  (h:∀ b,wpAny (model prog w) A.in1 (storeInOwnDict (.ref x) (.ref C) (.str name tk) name v b) (λc s'=>match c with | .done f=>R (.ok f) s' | .again i=>i.quiet=true/\codeAny (model prog w) A i R s') (λe s'=>R (.error e) s') s) :
  codeAny (model prog w) A (.call (.builtin "object.__setattr__") ⟨[.ref x,.str name tk,v],[]⟩) R s:=by
 have a:=PySem.F.store_object;obtain ⟨d,n,l⟩:=any_some o;have g:Looks (model prog w) s.heap (isInstance (.ref x) (.type "object")) true:=I.type.andThen (looks_mroIn X k.ob);have m:Looks (model prog w) s.heap (mroOf (.ref C)) d.mro:=(looks_clsIn X n).andThen .now;refine KO a.slot.plain a.entry (@check_slot (model prog w) _ _ s "object.__setattr__" "object" "__setattr__" (.ref x) [.str name tk,v] [] _ a.kind a.split g (a.args (.ref x) (.str name tk) v) ?_);rw [osa_eq,refuse_eq];refine Hz (Hz (I.type.here (Hz (m.here ?_))));rw [K0 _ l];exact HQ (Hz (I.type.here (Hz ((looks_findIn X j).here (Hz (HQ (h _)))))))
def tbV:Option Addr->Value
 | none=>.none
 | some T=>.ref T
def IsX (a:Option Addr) (h:Heap) (x C:Addr) (d:Option Addr):Prop:=∃ vs,h.get? x=some { cls:=.ref C,dict:=d,data:=.fields vs }/\vs.size=6/\vs[1]?=some (tbV a)
theorem IsX.inst0 (i:IsX fr h x C none):∃ ox,InstAt h x ox C none:=by
 obtain ⟨vs,e,_⟩:=i;exact ⟨_,e,rfl,rfl,True.intro⟩
theorem IsX.inst1 (i:IsX fr h x C (some d)) {o:Obj} (hd:h.get? d=some o):∃ ox,InstAt h x ox C (some o):=by
 obtain ⟨vs,e,_⟩:=i;exact ⟨_,e,rfl,rfl,hd⟩
theorem Di (X:K.In s.heap) (i:IsX fr s.heap x C none) (t:XCls K C) (B:(clsIn K C).any (λr=>B4 r.mro)=true) (hs:findIn K (.ref C) "__setattr__" = some (some (.builtin "object.__setattr__"))) (u:findIn K (.ref C) name=some none)
  (h:∀ h' t',IsX fr h' x C (some s.heap.objs.size)->h'.Ns1 s.heap.objs.size (λy=>if y=name then some v else none)->(∀ b o,b≠x->s.heap.get? b=some o->h'.get? b=some o)->Q () { s with heap:=h',toks:=t' }):wpAny (model prog w) A (setAttr (.ref x) name v) Q E s:=by
 obtain ⟨ox,I⟩:=i.inst0;obtain ⟨vs,a,hsz⟩:=i;obtain ⟨r,D,hd⟩:=any_some t.hd;refine set_plain X I hs (Bh X I t B u λb=>?_);refine Hz (HQ (Hz (Hz (Le a (Hz (Looks.here (looks_clsIn X D) ?_))))));rw [hd];have f:=Ig (HX a);have d:(s.heap.push { cls:=.type "dict",data:=.dict #[] }).get? x=some { cls:=.ref C,data:=.fields vs }:=HR _ a;refine Hz (wpAny_alloc (Hz (wpAny_update d (HQ ?_))));have p:((s.heap.push { cls:=.type "dict",data:=.dict #[] }).update x λo=>{ cls:=o.cls,dict:=some s.heap.objs.size,data:=o.data,slots:=o.slots }).get? s.heap.objs.size=some { cls:=.type "dict",data:=.dict #[] }:=
  (Kg _ _ _ _ f.symm).trans (Heap.get?_push_at rfl rfl)
 have n:((s.heap.push { cls:=.type "dict",data:=.dict #[] }).update x λo=>{ cls:=o.cls,dict:=some s.heap.objs.size,data:=o.data,slots:=o.slots }).get? x=some { cls:=.ref C,dict:=some s.heap.objs.size,data:=.fields vs }:=
  IY _ d rfl
 have m:∀ b o,b≠x->s.heap.get? b=some o->((s.heap.push { cls:=.type "dict",data:=.dict #[] }).update x λo=>{ cls:=o.cls,dict:=some s.heap.objs.size,data:=o.data,slots:=o.slots }).get? b=some o:=
  λb o l e=>(Kg _ _ _ _ l).trans (HR _ e)
 have q:((s.heap.push { cls:=.type "dict",data:=.dict #[] }).update x λo=>{ cls:=o.cls,dict:=some s.heap.objs.size,data:=o.data,slots:=o.slots }).Ns s.heap.objs.size (λ_=>none):=
  ⟨_,#[],_,p,rfl,λe F=>absurd F (by simp),λ_=>rfl⟩
 generalize ((s.heap.push { cls:=.type "dict",data:=.dict #[] }).update x λo=>{ cls:=o.cls,dict:=some s.heap.objs.size,data:=o.data,slots:=o.slots })=h1 at p n m q ⊢;refine Hz (HQ (Hz (wpAny_nsSet1 (Heap.Ns1.of_empty q) λh' c hs'=>?_)));obtain ⟨H,G,z,g,j,k⟩:=c.count (Within.cons name v Within.nil);refine Hz (wpAny_lookBehind g (by rw [j];exact pastItsLine_dict (Ir k (by rw [IV,List.length_nil,Iq];omega))) (HQ ?_));exact h h' _ ⟨vs,(hs'.2 x f).trans n,hsz⟩ c λb o l e=>(hs'.2 b (Ig (HX e))).trans (m b o l e)
theorem CB {d:Addr} {mA:Str->Option Value} {ns:List Str} (X:K.In s.heap) (i:IsX fr s.heap x C (some d)) (hd:s.heap.Ns1 d mA) (o:d≠x) (l:XCls K C) (t:(clsIn K C).any (λm=>B4 m.mro)=true) (hs:findIn K (.ref C) "__setattr__" = some (some (.builtin "object.__setattr__"))) (n:findIn K (.ref C) name=some none)
  (u:Within mA ns) (hz:ns.length<=1000)
  (h:∀ h' t',h'.Ns1 d (λy=>if y=name then some v else mA y)->Heap.SameBut d s.heap h'->Q () { s with heap:=h',toks:=t' }):wpAny (model prog w) A (setAttr (.ref x) name v) Q E s:=by
 obtain ⟨od,e,z⟩:=M8 hd;obtain ⟨ox,I⟩:=i.inst1 e;obtain ⟨vs,k,hsz⟩:=i;obtain ⟨m,p,j⟩:=any_some l.hd;refine set_plain X I hs (Bh X I l t n λb=>?_);refine Hz (HQ (Hz (Hz (Le k (Hz (Looks.here (looks_clsIn X p) ?_))))));rw [j];refine HQ ?_;refine Hz (HQ (Hz (wpAny_nsSet1 hd λh' a hs'=>?_)));obtain ⟨B,r,q,c,f,g⟩:=a.count (Within.cons name v u);refine Hz (wpAny_lookBehind c (by rw [f];exact pastItsLine_dict (Ir g (by rw [IV,Iq];omega))) (HQ ?_));exact h h' _ a hs'
end
section
variable {prog:Program} {w:World} {A:Around} {E:Value->Shared->Prop} {s:Shared} {K:Frag} {x C:Addr} {d:Option Addr} {R:Result->Shared->Prop} {y:Value}
theorem DN {l:Option Addr} (X:K.In s.heap) (i:IsX l s.heap x C d) (p:Y1 K C=true)
  (h:∀ h',(∀ b o,b≠x->s.heap.get? b=some o->h'.get? b=some o)->IsX l h' x C d->R (.ok (.ret .none)) { s with heap:=h' }) :
  codeAny (model prog w) A (.call (.builtin "ValueError.__init__") ⟨[.ref x,y],[]⟩) R s:=by
 have F:=Lf;obtain ⟨vs,a,hsz,f⟩:=i;have n:Looks (model prog w) s.heap (typeOf (.ref x)) (.ref C):=(Looks.ld a).andThen .now;have Y:=E7 (M:=model prog w) X p;have g:Looks (model prog w) s.heap (isInstance (.ref x) (.type "ValueError")) true:=n.andThen Y.isV;obtain ⟨v,t,u,B,z,_,_⟩:=Y.obj;have m:=F.noStar;refine KO F.init.plain F.initEntry ?_;simp only [checkBuiltinCall,F.initKind,F.initSplit,F.initRow];refine Hz (g.here ?_);simp only [Bool.not_true,JB,LH];have k:(s.heap.push { cls:=.type "tuple",data:=.seq #[y] }).get? x=some { cls:=.ref C,dict:=d,data:=.fields vs }:=HR _ a;obtain ⟨j,q⟩:∃ j,vs[0]?=some j:=⟨vs[0]'(by omega),IW _⟩;have c:R (.ok (.ret .none)) { s with heap:=(s.heap.push { cls:=.type "tuple",data:=.seq #[y] }).update x (Obj.mapFields (·.setIfInBounds 0 (.ref s.heap.objs.size))) }:=by
  refine h _ (λb o r e=>(Kg _ _ _ _ r).trans (HR _ e)) ⟨vs.setIfInBounds 0 (.ref s.heap.objs.size),IY _ k rfl,?_⟩;rw [Array.size_setIfInBounds];exact ⟨hsz,by rw [Array.getElem?_setIfInBounds_ne (by decide)];exact f⟩
 unfold Bind.checkArgs
 repeat lk
 rw [q];refine HQ (Hz (KD k rfl (by omega) ?_));cases j <;> first | exact HQ (HQ c) | exact wpAny_letGo (HQ c)
end
end L2
namespace L2
open PySem PySem.Spec PyProof.Rows
def M9 (a:Option Addr) (x C:Addr) (d:Option Addr):HO:=.ext λh=>IsX a h x C d
abbrev O4 (x C:Addr) (d:Option Addr):HO:=M9 none x C d
def J9 (d:Addr) (fs:List (Str×V)):HO:=.ext λh=>∃ mA,h.Ns1 d mA/\(∀ f,RelO (fs.lookup f) (mA f))/\PySem.Within mA (fs.map (·.1))/\fs.length<=900
theorem okX {h:Heap} {x C:Addr} {d:Option Addr} (i:IsX fr h x C d):ObjOk P w H h x (M9 fr x C d):=by
 obtain ⟨vs,e,z⟩:=id i;refine ⟨i,⟨_,e⟩,λf g ⟨a,c,b⟩ k=>⟨a,k _ c,b⟩⟩
theorem okD {mA:Str->Option Value} (n:h.Ns1 d mA) (r:∀ f,RelO (fs.lookup f) (mA f)) (g:PySem.Within mA (fs.map (·.1))) (l:fs.length<=900):ObjOk P w H h d (J9 d fs):=by
 obtain ⟨o,es,p,e,q⟩:=id n;exact ⟨⟨mA,n,r,g,l⟩,⟨o,e⟩,λm s ⟨a,i,j,b,c⟩ k=>⟨a,i.at k,j,b,c⟩⟩
structure XC (K:PySem.W.Frag) (C:Addr):Prop where
 xc:XCls K C
 ex:Y1 K C=true
 vm:(PySem.W.clsIn K C).any (λcd=>B4 cd.mro)=true
 sa:PySem.W.findIn K (.ref C) "__setattr__" = some (some (.builtin "object.__setattr__"))
 kp:PySem.W.keepIn K (.ref C)=true
section
variable {X:Cx} {pins:List (Addr×Obj)} {σ:St} {H:Hp} {s:Shared} {x C:Addr}
theorem Inv.isX {a:Option Addr} {d:Option Addr} (I:Inv X pins σ H s) (e:H x=some (M9 a x C d)):IsX a s.heap x C d:=(I.hok x _ e).1
theorem Inv.isD (I:Inv X pins σ H s) (e:H d=some (J9 d fs)):∃ mA,s.heap.Ns1 d mA/\(∀ f,RelO (fs.lookup f) (mA f))/\PySem.Within mA (fs.map (·.1))/\fs.length<=900:=(I.hok d _ e).1
theorem Inv.madeX (I:Inv X pins σ H s):Inv X pins σ (upd H (s.heap.objs.size+1) (O4 (s.heap.objs.size+1) C none)) { s with heap:=(s.heap.push (D3 us)).push (B1 C s.heap.objs.size) }:=by
 have a:((s.heap.push (D3 us)).push (B1 C s.heap.objs.size)).get? (s.heap.objs.size+1)=some (B1 C s.heap.objs.size):=by
  have:=Ih (s.heap.push (D3 us)) (o:=B1 C s.heap.objs.size) rfl;rwa [JP] at this
 exact I.laid (λb u q=>HR _ (HR _ q)) (Jo _) (okX ⟨_,a,rfl,rfl⟩)
end
def zx (C:Addr) (sp:Sp) (E:XK) (t:TA):TE:=λσ H Q=>t σ H λvs a=>vs.length<=1000/\∀ x,a x=none->sp (.ref x :: vs) (upd a x (O4 x C none)) (λv b=>v=.non/\Q (.ref x) b) E
section
variable {X:Cx} {CX:CXT} {k:Nat} {f C:Addr} {fd:FuncData} {ps:List Str} {sp:Sp} {E:XK} {nm:Str} {p pos:Pos} {e:Expr} {es:List Expr} {t:TA}
theorem ae (M:XC X.K C) (hi:PySem.W.findIn X.K (.ref C) "__init__" = some (some (.ref f))) (hf:PySem.W.isFn X.K (.ref f)=true) (F:FnOk X.prog X.w X.K X.mg X.base CX k f fd ps sp) (hr:Room CX.q (k+1) X.A) (hg:Gl X nm) (hm:X.mg nm=some (.ref C)) (hb:Binds X.K fd ps []) (hx:z0 CX X E)
  (ha:PA X (e :: es) t) (hdb:(nm==("__debug__" : Str))=false:=by decide) (he:starEach (e :: es) X.env=(false,eval e X.env) :: starEach es X.env:=by rfl) (hpl:(backTo pos (starEach es X.env)).any (·.1)=false:=by rfl) :
  PE X (.Call (.Name nm p) (e :: es) [] pos) (zx C sp E t):=by
 intro pins s σ H Q I h;refine Ja (G3 I hg hm ?_ hdb);refine Kr I.ok.mod.kin M.kp (thn (ha pos pins s σ H _ I h) λus s1 ⟨vs,H1,I1,r,hl,q⟩=>⟨I1.kIn,?_⟩) he hpl;have hq:=q (s1.heap.objs.size+1) (I1.hok.fresh (Jo _));have I2:=Inv.madeX (C:=C) (us:=us) I1;have r2:Vals (V.ref (s1.heap.objs.size+1) :: vs) (Value.ref (s1.heap.objs.size+1) :: us):=.cons rfl r;have hlen:(Value.ref (s1.heap.objs.size+1) :: us++[]).length=ps.length:=by
  have e:=r2.length;rw [F.len _ _ _ _ hq] at e;simpa using e.symm
 have hus:us.length<=sizeLine:=by
  have:=r.length;have z:(1000:Nat)<=sizeLine:=by decide
  omega
 have hb2:=hb _ (Value.ref (s1.heap.objs.size+1) :: us) I2.kIn hlen;rw [IF] at hb2;refine Kq (Dt (E7 I1.kIn M.ex) (PySem.W.looks_findIn I1.kIn hi) (λself=>PySem.W.bind_fn I1.kIn self (Kp.mp hf)) hus
  (JY (F.run _ X.stack _ _ ⟨Value.ref (s1.heap.objs.size+1) :: us,[]⟩ _ _ _ E (hr.make C us []) (I2.env0.make C us []) hb2 r2 hq) λr s' hq'=>?_))
 cases r with
 | error e=>exact hx pins σ _ _ e s' I2 hq'
 | ok fl=>
  cases fl with
  | ret u=>
   obtain ⟨v,H',I3,rv,ev,q3⟩:=I2.after hq';subst ev;exact ⟨rv,⟨V.ref (s1.heap.objs.size+1),H',I3,rfl,q3⟩⟩
  | next=>exact False.elim hq'
  | brk=>exact False.elim hq'
  | cont=>exact False.elim hq'
end
theorem nw {o:HO} (h:H x=some o):upd H x o=H:=funext λb=>by
 by_cases e:b=x
 ·subst e;rw [b8,h]
 ·rw [b6 e]
def DC (K:PySem.W.Frag) (e g:TE) (f:Str):TS:=λD σ H=>g σ H λy b=>e σ b λc a=>∃ x C,c=.ref x/\XC K C/\v9 K C f /\
 ((a x=some (O4 x C none)/\∀ d,a d=none->D.nx σ (upd (upd a d (J9 d [(f,y)])) x (O4 x C (some d)))) \/
 ∃ d fs,d≠x/\a x=some (O4 x C (some d))/\a d=some (J9 d fs)/\fs.length<900/\D.nx σ (upd a d (J9 d (K7 f y fs))))
def Cv (K:PySem.W.Frag) (e:TE) (f:Str):TE:=λσ H Q=>e σ H λb a=>∃ c x C d fs v,b=.ref x/\XC K C/\v9 K C f/\a x=some (M9 c x C (some d))/\a d=some (J9 d fs)/\fs.lookup f=some v/\Q v a
section
variable {X:Cx} {o e value:Expr} {f:Str} {pos pos':Pos} {ta tv:TE}
theorem J2 (ha:PE X o ta) (hv:PE X value tv) (hs:swapsWith value (some (.Attribute o f pos')) pos.line X.env=pure false):PS X (.Assign [.Attribute o f pos'] value pos) (DC X.K ta tv f):=by
 intro pins s σ H D I h;refine plainObj_wpAny_Assign_Attribute (thn (hv pins s σ H _ I h) λu s1 ⟨y,H1,I1,ry,q⟩=>thn (ha pins s1 σ H1 _ I1 q) λov s2 ⟨xv,H2,I2,rx,x,C,ex,M,n,q2⟩=>?_) hs;subst ex;obtain rfl:ov=Value.ref x:=rx;rcases q2 with ⟨e0,q2⟩ | ⟨d,fs,hdx,e0,e1,hl,q2⟩
 ·have i0:=I2.isX e0;obtain ⟨vs0,hx0,_⟩:=id i0;have nd:=I2.hok.fresh (HV _);have hne:=Nat.ne_of_gt (HX hx0);refine Di I2.kIn i0 M.xc M.vm M.sa n λh' t' i1 n1 k1=>?_;obtain ⟨vs1,hx1,_⟩:=id i1;obtain ⟨oD,esD,epD,hoD,rD⟩:=id n1;have m1:(h'.update x λ_=>{ cls:=.ref C,data:=.fields vs0 }).get? x=some { cls:=.ref C,data:=.fields vs0 }:=IY _ hx1 rfl;have m2:∀ b,b≠x->(h'.update x λ_=>{ cls:=.ref C,data:=.fields vs0 }).get? b=h'.get? b:=λb hb=>Kg _ _ _ _ hb;have I3:Inv X pins σ (upd H2 s2.heap.objs.size (J9 s2.heap.objs.size [(f,y)])) { s2 with heap:=h'.update x λ_=>{ cls:=.ref C,data:=.fields vs0 },toks:=t' }:=by
   refine I2.laid (λb ob e=>?_) (HV _) (okD (n1.at λob e=>(m2 _ hne).trans e) (λg=>?_) (λg hg=>?_) (by show 1<=900;decide))
   ·grind
   ·show RelO (List.lookup g [(f,y)]) (if g=f then some u else none);rw [JO,List.lookup_nil];by_cases q:g=f
    ·subst q;rw [if_pos rfl,show (g==g)=true from by simp];exact ry
    ·have:(g==f)=false:=by simpa using q
     rw [this,if_neg q];exact True.intro
   ·grind
  have I4:=I3.write (t':=t') (by rw [b6 hne.symm,e0];exact True.intro) (.inl rfl) (λb ob hb e=>((m2 b hb).symm.trans e)) ⟨_,hx1⟩ (okX i1);exact ⟨σ,_,I4,q2 _ nd⟩
 ·obtain ⟨mA,n0,r0,w0,l0⟩:=I2.isD e1;refine CB I2.kIn (I2.isX e0) n0 hdx M.xc M.vm M.sa n w0 (by rw [Hy];omega) λh' t' n1 sb=>?_;obtain ⟨oD,esD,epD,hoD,rD⟩:=id n1;refine ⟨σ,_,I2.write (by rw [e1];exact True.intro) (.inl rfl) (λb ob hb e=>(sb.2 b hb).trans e) ⟨_,hoD⟩ (okD n1 (λg=>?_) (λg hg=>?_) ?_),q2⟩
  ·show RelO ((K7 f y fs).lookup g) (if g=f then some u else mA g);rw [X0];by_cases q:g=f
   ·rw [if_pos q,if_pos q];exact ry
   ·grind
  ·by_cases q:g=f
   ·rw [q];exact (V5 f y fs).1
   ·exact (V5 f y fs).2 g (w0 g λz=>hg (by show (if g=f then some u else mA g)=none;rw [if_neg q];exact z))
  ·have:=Y0 f y fs;omega
theorem vS (z:PE X e ta) (w:attributeBase e f X.env (eval e X.env)=eval e X.env):PE X (.Attribute e f pos) (Cv X.K ta f):=by
 intro pins s σ H Q I h;refine wW w (thn (z pins s σ H _ I h) λu B ⟨F,m,a,o,A,x,C,d,fs,v,k,M,n,p,y,l,q⟩=>?_);subst k;obtain rfl:u=Value.ref x:=o;obtain ⟨mA,i,t,G,E⟩:=a.isD y;obtain ⟨od,b,r⟩:=M8 i;obtain ⟨ox,J⟩:=(a.isX p).inst1 b;have g:=t f;rw [l] at g;obtain ⟨D,j,c⟩:=RelO.some_of g;exact HE a.kIn J M.xc (PySem.W.findObj_own M.xc.hd n rfl (by rw [r,j])) (mM c) ⟨v,m,a.tok _,c,q⟩
def CF:V->Option Value
 | .ref a=>some (.ref a)
 | .ty n=>some (.type n)
 | _=>none
theorem cV:j6 X (.builtin "isinstance") (λxs H Q=>∃ g x C d y c b,xs=[.ref x,y]/\XC X.K C/\H x=some (M9 g x C d)/\(∀ d',d=some d'->∃ fs,H d'=some (J9 d' fs))/\CF y=some c/\PySem.W.kitOne X.K (.ref C) c=some b/\Q (.bl b) H):=by
 intro pins s σ H xs us Q I r h;obtain ⟨g,x,C,d,y,c,b,rfl,M,f,hd,i,o,q⟩:=h;obtain ⟨u,k,rfl,l,e⟩:=cT r;cases (l);have m:k=c:=by
  cases y <;> first | (cases i;exact e) | cases i
 subst m;have J:∃ ox od,PySem.W.InstAt s.heap x ox C od:=by
  cases d with
  | none=>obtain ⟨ox,J⟩:=(I.isX f).inst0;exact ⟨ox,_,J⟩
  | some d'=>
   obtain ⟨fs,n⟩:=hd d' rfl;obtain ⟨mA,j,_⟩:=I.isD n;obtain ⟨od,a,_⟩:=M8 j;obtain ⟨ox,J⟩:=(I.isX f).inst1 a;exact ⟨ox,_,J⟩
 exact Jt (CV M.xc) I.kIn J o (λz=>nomatch z) λp=>⟨.bl b,H,I.tok _,rfl,q⟩
end
def TbO (T:Addr):HO:=.ext λh=>∃ o a,h.get? T=some o/\o.data=.fields a/\3<a.size
theorem okT {o:Obj} {a:Array Value} (e:h.get? T=some o) (d:o.data=.fields a) (z:3<a.size):ObjOk P w H h T (TbO T):=
 ⟨⟨o,a,e,d,z⟩,⟨o,e⟩,λc b ⟨o,a,e,d,z⟩ k=>⟨o,a,k _ e,d,z⟩⟩
structure Fx (K:PySem.W.Frag) (H:Hp) (a C:Addr) (d tb:Option Addr):Prop where
 xc:XC K C
 at_:H a=some (M9 tb a C d)
 dc:∀ d',d=some d'->d'≠a/\∃ fs,H d'=some (J9 d' fs)
 tb_:∀ T,tb=some T->T≠a/\H T=some (TbO T)
def Mv (H:Hp) (a C:Addr) (d:Option Addr) (H':Hp):Prop:=(∀ b o,b≠a->H b=some o->H' b=some o)/\∃ c,H' a=some (M9 c a C d)
section
variable {X:Cx} {pins:List (Addr×Obj)} {σ:St} {H:Hp} {s:Shared} {a C T:Addr} {d tb:Option Addr} {A:Around} {E:Value->Shared->Prop} {Q:Unit->Shared->Prop}
theorem Inv.slots (I:Inv X pins σ H s) (hs:Heap.SlotsOnly (frs X.stack) s.heap h'):Inv X pins σ H { s with heap:=h' }:=by
 have k:∀ b u,H b≠none->s.heap.get? b=some u->h'.get? b=some u:=λb u n e=>(hs.2.1 b λz=>n (I.stkFree b z)).trans e;have f:Un (frs X.stack) [] H H s.heap h':=⟨λb o e _ g _=>(hs.2.1 b g).trans e,λb o e _ _ _=>hs.2.2 b o e,λ_ _ _ n _=>n,λb o e _=>let ⟨h,q⟩:=hs.2.2 b o e;⟨_,q⟩,λ_ _ e=>e,λ_ _ _ e=>e,λb ps e=>⟨#[],by rw [e];simp⟩⟩;have d:=λb u e=>(I.hok b u e).stay (λc v a q=>k c v (by
  rcases a with a | a
  ·rw [a,e];simp
  ·rw [a];simp) q) (λ_ q=>q) λ_ _ q=>q
 exact I.call f d I.bare λb z=>absurd z (by simp)
theorem Fx.isX (b:Fx X.K H a C d tb) (I:Inv X pins σ H s):IsX tb s.heap a C d:=I.isX b.at_
theorem Inv.setTb (I:Inv X pins σ H s) (e:H T=some (TbO T)) (k:Inv X pins σ H { s with heap:=s.heap.update T (Obj.mapFields (·.setIfInBounds 3 v)) }->Q () { s with heap:=s.heap.update T (Obj.mapFields (·.setIfInBounds 3 v)) }) :
  wpAny (model X.prog X.w) A (setField (.ref T) 3 v) Q E s:=by
 obtain ⟨o,g,c,f,z⟩:=(I.hok T _ e).1;refine KD c f z (k ?_);have hd:=Obj.data_mapFields f (·.setIfInBounds 3 v);have d:=IY (Obj.mapFields (·.setIfInBounds 3 v)) c (Obj.isFreed_of_fields hd);have a:=I.write (t':=s.toks) (by rw [e];exact True.intro) (.inl rfl) (λb u n q=>(JS _ _ (Ne.symm n)).trans q) ⟨_,d⟩ (okT d hd (by simpa using z));rw [nw e] at a;exact a
theorem eW (I:Inv X pins σ H s) (r:A.frames=some X.stack) (i:X.stack=X.env :: X.outer) (x:X.env.frame=some X.env.locals) (j:Fx X.K H a C d tb)
  (h:∀ H' s' T,Inv X pins σ H' s'->Fx X.K H' a C d (some T)->Mv H a C d H'->Q () s') :
  wpAny (model X.prog X.w) A (do let B <- frameOf X.env;let pl <- entryPlaceOf X.env.locals hadNext;let b <- EntryCells.newEntry head B .none (rawInt X.env.locals) .none pl;setField (.ref a) 1 b) Q E s:=by
 have p:=I.stack;rw [i] at p r;refine Hz (wpAny_frameOf_fun r p x λc e=>?_);have v:=I.slots (by rw [i];exact e);refine Hz (wpAny_entryPlaceOf λpl l=>?_);refine Hz (IK ?_ (l.sizeOk5 _ _ _ _ _));have D:=Ih c (o:={ cls:=.type "traceback",dict:=none,data:=.fields ([head,.ref X.env.locals,.none,rawInt X.env.locals,.none]++(if pl.isEmpty then List.replicate 6 Value.none else pl)).toArray }) rfl;have m:=v.laid (t':=s.toks) (λb u q=>HR _ q) (HV _)
  (okT D rfl (by simp <;> omega))
 have k:=v.hok.fresh (HV _);have f:c.objs.size≠a:=λz=>by rw [z,j.at_] at k;cases k
 have t:upd H c.objs.size (TbO c.objs.size) a=some (M9 tb a C d):=by rw [b6 f.symm];exact j.at_
 generalize (c.push { cls:=.type "traceback",dict:=none,data:=.fields ([head,.ref X.env.locals,.none,rawInt X.env.locals,.none]++(if pl.isEmpty then List.replicate 6 Value.none else pl)).toArray })=h₂ at m ⊢;obtain ⟨vs,g,hsz,F⟩:=m.isX t;refine KD g rfl (by omega) ?_;have w:=IY (Obj.mapFields (·.setIfInBounds 1 (Value.ref c.objs.size))) g rfl;have y:=m.write (t':=s.toks) (o:=M9 (some c.objs.size) a C d) (by rw [t];exact True.intro) (.inl rfl)
  (λb u n q=>(JS _ _ (Ne.symm n)).trans q) ⟨_,w⟩ (okX ⟨_,w,by simpa using hsz,by simp [tbV,hsz]⟩)
 refine h _ _ c.objs.size y ⟨j.xc,b8,λd' z=>?_,λT z=>?_⟩ ⟨λb o n q=>?_,_,b8⟩
 ·obtain ⟨n,fs,q⟩:=j.dc d' z;exact ⟨n,fs,by rw [b6 n,b6 (c8 q k)];exact q⟩
 ·cases z;exact ⟨f,by rw [b6 f];exact b8⟩
 ·rw [b6 n,b6 (c8 q k)];exact q
theorem ik (I:Inv X pins σ H s) (i:A.frames=some X.stack) (f:X.stack=X.env :: X.outer) (g:X.env.frame=some X.env.locals) (c:Fx X.K H a C d tb)
  (h:∀ H' s' T,Inv X pins σ H' s'->Fx X.K H' a C d (some T)->Mv H a C d H'->Q () s'):wpAny (model X.prog X.w) A (noteFrame (.ref a) X.env) Q E s:=by
 obtain ⟨vs,e,hsz,j⟩:=c.isX I;unfold noteFrame;simp only [g];cases tb with
 | none=>
  refine Hz (Jn e rfl j ?_);rw [if_neg (by decide)];exact eW I i f g c h
 | some T=>
  refine Hz (Jn e rfl (x:=.ref T) j ?_);rw [if_pos (show (Value.ref T != Value.none)=true from by simp)];obtain ⟨t,k⟩:=c.tb_ T rfl;obtain ⟨o,p,n,r,z⟩:=(I.hok T _ k).1;refine Hz (Jn n r (IW z) ?_);by_cases l:(p[3]==rawInt X.env.locals)=true
  ·rw [if_pos l];exact HQ (h H s T I c ⟨λb o _ q=>q,_,c.at_⟩)
  ·rw [if_neg l];exact Hz (I.setTb k λm=>eW m i f g c h)
theorem M1 (I:Inv X pins σ H s) (c:Fx X.K H a C d (some T)) (h:∀ s',Inv X pins σ H s'->Q () s'):wpAny (model X.prog X.w) A (setFlight (.ref a) fl) Q E s:=by
 obtain ⟨vs,b,hsz,f⟩:=c.isX I;refine Hz (Jn b rfl (x:=.ref T) f ?_);rw [if_pos (show (Value.ref T != Value.none)=true from by simp)];exact I.setTb (c.tb_ T rfl).2 λe=>h _ e
theorem gr (I:Inv X pins σ H s) (f:A.frames=some X.stack) (c:X.stack=X.env :: X.outer) (i:X.env.frame=some X.env.locals) (l:Fx X.K H a C d tb)
  (h:∀ H' s' T,Inv X pins σ H' s'->Fx X.K H' a C d (some T)->Mv H a C d H'->Q () s'):wpAny (model X.prog X.w) A (leaving X.env (.ref a)) Q E s:=by
 exact Hz (ik I f c i l λg n T k b j=>M1 k b λm e=>h g m T e b j)
end
end L2
namespace L2
open PySem PySem.W PySem.Calls PySem.Spec PyProof.Rows
section
variable {prog:Program} {w:World} {A:Around} {E:Value->Shared->Prop} {s:Shared} {K:Frag} {env:PySem.Env}
theorem ck (m:A.handled=none)
  (h:wpAny (model prog w) A x (λv c=>∃ a C d,v=.ref a/\K.In c.heap/\XC K C/\IsX none c.heap a C d/\E (.ref a) c) E s):wpAny (model prog w) A (raiseStmt env (some x) none) Q E s:=by
 refine Hz (IJ h (λv c i=>?_) λ_ _ x=>x);obtain ⟨a,C,d,rfl,X,M,⟨vs,b,hsz,k⟩,l⟩:=i;have Y:=E7 (M:=model prog w) X M.ex;have e:Looks (model prog w) c.heap (typeOf (.ref a)) (.ref C):=(Looks.ld b).andThen .now;have f:Looks (model prog w) c.heap (isType (.ref a)) false:=(Looks.ld b).andThen .now;have g:Looks (model prog w) c.heap (isInstance (.ref a) (.type "BaseException")) true:=e.andThen Y.isB;have j:=Y.ty;refine Hz (HQ (Hz (Jm (Hz (Hz (f.here ?_))))));refine HQ ?_;refine Hz (g.here ?_);refine HQ (Hz (f.here ?_));refine Hz (Hz (e.here (Hz (j.here ?_))));rw [if_pos (by rfl)];refine HQ (Hz (Hz (Jn b rfl k ?_)));rw [if_neg (by decide)];exact HQ (wpAny_raiseNew_none m l)
theorem gV {a C T:Addr} {d o:Option Addr} {b:Bool} {Q:Bool->Shared->Prop} (X:K.In s.heap) (M:XC K C) (l:XC K T) (i:IsX o s.heap a C d) (c:kitOne K (.ref C) (.ref T)=some b) (h:Q b s) :
  wpAny (model prog w) A (excMatches (.ref a) (.ref T)) Q E s:=by
 obtain ⟨vs,g,hsz,p⟩:=i;have Y:=E7 (M:=model prog w) X M.ex;have f:=E7 (M:=model prog w) X l.ex;have n:Looks (model prog w) s.heap (typeOf (.ref a)) (.ref C):=(Looks.ld g).andThen .now;have k:Looks (model prog w) s.heap (isInstance (.ref T) (.type "tuple")) false:=f.ty.andThen (Looks.of_pure tc_notTuple);have m:Looks (model prog w) s.heap (isExcClass (.ref T)) true:=f.isT.andThen f.isB;have j:Looks (model prog w) s.heap (isSubtype (.ref C) (.ref T)) b:=by
  unfold kitOne at c;by_cases e:((Value.ref C:Value)==.ref T)=true
  ·rw [if_pos e] at c;cases c;cases (eq_of_beq e);exact Y.self
  ·rw [if_neg e] at c;exact (kit_cls X c).2.2
 refine Hz (k.here ?_);simp only [JB,LH];refine Hz (HQ ?_);rw [JG];refine Hz (Hz (Hz (m.here ?_)));refine HQ ?_;dsimp only;rw [Lb];refine HQ (Hz (n.here ?_));rw [JG];refine Hz (Hz (Hz (j.here ?_)));cases b with
 | true=>exact HQ (HQ (HQ h))
 | false=>
  refine HQ ?_;dsimp only;rw [Lb];exact HQ (HQ h)
end
end L2
namespace L2
open PySem PySem.Spec PyProof.Rows
def fv (X:Cx) (v:Value):Cx:={ X with A:=X.A.mark (some v),calm:=false,xe:=λ_ _=>False }
section
variable {X:Cx} {pins:List (Addr×Obj)} {σ:St} {H:Hp} {s:Shared} {v:Value}
theorem Inv.hushed (I:Inv X pins σ H s) (v:Value):Inv (fv X v) pins σ H s:=
 have a:=I.ok
 ⟨⟨a.mod,a.kind,a.glob,a.blt,a.above,a.inj,a.has,a.cab,λz=>absurd (show (false:Bool)=true from z) (by decide),a.frames,a.stk,a.exf,a.bs,a.bsz,a.noex,a.exfs,a.funs,a.frf⟩,I.os,I.bare,I.base,I.loc,I.cell,I.free,I.freeC,I.pin,I.hok,I.len⟩
theorem Inv.unhush (a:X.Ok) (I:Inv (fv X v) pins σ H s):Inv X pins σ H s:=⟨a,I.os,I.bare,I.base,I.loc,I.cell,I.free,I.freeC,I.pin,I.hok,I.len⟩
theorem Z4 {M:Model} {A:Around} {E:Value->Shared->Prop} {i:Nat} {x:Str} {pos:Pos} {Q:Unit->Shared->Prop} (I:Inv X pins σ H s) (hN:X.N.Nodup) (hi:X.N[i]?=some x) (hk:X.env.scope.names.lookup x=some .local)
  (h:∀ s',Inv X pins (σ.set i none) H s'->Q () s'):wpAny M A (do bindName X.env x .none;unbindBehindTheSuite X.env x pos) Q E s:=by
 obtain ⟨m,hn,hl⟩:=id I.loc;have hcls:(X.env.scope.kind==.class||(X.env.scope.kind==.module&&X.env.locals != X.env.globals))=false:=by rw [I.ok.kind];rfl
 have hiσ:i<σ.length:=by rw [I.len];exact (HN.mp hi).1
 have cne:=I.cne;refine wpAny_nameGoes_keeps hk hn hcls λh' v hn' hs=>?_;have tracked:HOk X.prog X.w H h':=λb ob e=>by
  refine (I.hok b ob e).stay (λc w' hc q=>(hs.2 c ?_).trans q) (λ_ q=>q) λ_ _ q=>q;rintro rfl;rcases hc with hc | hc
  ·rw [<- hc,I.free] at e;cases e
  ·rw [I.free] at hc;cases hc
 refine h _ ⟨I.ok,I.os,I.bare,⟨λb o e n hb hx=>?_,λb o e n hb hx=>?_,I.base.free,λb o e hx=>?_,I.base.tups,I.base.frzs,I.base.tbls⟩,⟨_,hn',λj y v' e1 e2 e3=>?_⟩,λy c e=>?_,I.free,I.freeC,λp hp=>?_,tracked,by simpa using I.len⟩
 ·exact (hs.2 b (Ig (Ip (HX e) I.ok.above))).trans (I.base.keep b o e n hb hx)
 ·obtain ⟨sl,e1⟩:=I.base.slot b o e n hb hx;exact ⟨sl,(hs.2 b (Ig (Ip (HX e) I.ok.above))).trans e1⟩
 ·obtain ⟨o',e1⟩:=I.base.there b o e hx;exact ⟨o',(hs.2 b (Ig (Ip (HX e) I.ok.above))).trans e1⟩
 ·by_cases hj:j=i
  ·subst hj;rw [IA hiσ] at e2;cases e2
  ·rw [HZ (Ne.symm hj)] at e2;obtain ⟨u',r',q⟩:=hl j y v' e1 e2 e3;refine ⟨u',r',?_⟩;rcases q with ⟨k,e⟩ | ⟨k,c,e,z⟩
   ·refine .inl ⟨k,?_⟩;have:y≠x:=λe=>hj (bE hN e1 (e▸hi));simp [this,e]
   ·exact .inr ⟨k,c,e,z.sameBut hs (cne y c e)⟩
 ·obtain ⟨w',z⟩:=I.cell y c e;exact ⟨w',z.sameBut hs (cne y c e)⟩
 ·obtain ⟨e,n,ne,nf,d⟩:=I.pin p hp;exact ⟨(hs.2 p.1 ne).trans e,n,ne,nf,d⟩
end
section
variable {X:Cx} {pins:List (Addr×Obj)} {σ:St} {H:Hp} {s:Shared}
theorem yW (hg:X.A.guards=some []) (hu:X.A.units+80<cLine) (I:Inv X pins σ H s) (hd:DAt X.K H v d) (ru:RelV v u) (S:Shows d) (hl:d.shown.length<=4000) (hx:∀ x,v=.str x->x.length<=4000) :
  wpAny (model X.prog X.w) X.A (formatField u Str.empty) (λz s'=>∃ y t,z=.str y t/\y.length<=4000/\Inv X pins σ H s') E s:=by
 have sh:=S.sh;have sz:=S.sz;have big:(4000:Nat)<=sizeLine:=by decide
 cases hd with
 | non=>cases (ru);exact wpAny_formatField_none ⟨_,_,rfl,hl,I.tok _⟩
 | bl b=>cases (ru);exact wpAny_formatField_bool ⟨_,_,rfl,hl,I.tok _⟩
 | int i=>obtain ⟨t,e⟩:=(ru);subst e;exact formatField_int_small (by simpa [PyData.showable] using sh) ⟨_,_,rfl,hl,I.tok _⟩
 | str x=>obtain ⟨t,e⟩:=(ru);subst e;exact formatField_str (λt' tk=>⟨_,_,rfl,hx x rfl,I.tok _⟩) (Ir (hx x rfl) big)
 | lst h1 h2=>
  obtain ⟨as,rr⟩:=DAt.reads I (.lst h1 h2) ru;obtain ⟨a,rfl⟩:=Ld rr rfl;exact formatField_of_reads rr sh (KC S.nd) hg (by have:=S.dp;omega) (λ_ _ e=>e) (λh' u tk hk=>⟨_,_,rfl,hl,I.kept hk⟩) sz
 | tup h1 h2=>
  obtain ⟨as,rr⟩:=DAt.reads I (.tup h1 h2) ru;obtain ⟨a,rfl⟩:=Ld rr rfl;exact formatField_of_reads rr sh (KC S.nd) hg (by have:=S.dp;omega) (λ_ _ e=>e) (λh' u tk hk=>⟨_,_,rfl,hl,I.kept hk⟩) sz
end
theorem aO {Q c:Str->Shared->Prop} (k:∀ out s,Q out s->c out s):∀ (a:List (Sem Value)) (b:Str) (s:Shared),Joins M A E a b Q s->Joins M A E a b c s
 | [],b,s,h=>k _ _ h
 | x :: r,b,s,h=>IJ h (λv d ⟨y,t,e,l,q⟩=>⟨y,t,e,l,aO k r _ d q⟩) λ_ _ z=>z
abbrev TF:=St->Hp->(Hp->Prop)->Prop
def PFs (X:Cx) (es:List Expr) (n:Nat) (t:TF):Prop:=
 ∀ (a:Str) (pins:List (Addr×Obj)) (s:Shared) (σ:St) (H:Hp) (Q:Hp->Prop),a.length+n<=sizeLine->Inv X pins σ H s->t σ H Q ->
  Joins (model X.prog X.w) X.A X.xe (evalEach es X.env) a (λout b=>out.length<=sizeLine/\∃ H',Inv X pins σ H' b/\Q H') s
def fNil:TF:=λ_ H Q=>Q H
def Fi (K:PySem.W.Frag) (te:TE) (t:TF):TF:=λσ H Q=>te σ H λv a=>∃ d,DAt K a v d/\Shows d/\d.shown.length<=4000/\(∀ x,v=.str x->x.length<=4000)/\t σ a Q
section
variable {X:Cx} {e:Expr} {es:List Expr} {n:Nat} {t:TF} {te:TE} {pos:Pos}
theorem T1:PFs X [] 0 fNil:=λa pins s σ H Q b I q=>⟨by omega,H,I,q⟩
theorem C7 (h:PFs X es n t) (c:x.length<=1000:=by decide):PFs X (.Constant (.str x) k pos :: es) (1000+n) t:=λa pins s σ H Q b I q=>by
 refine Calls.Constant_str ⟨x,_,rfl,?_,?_⟩
 ·rw [Lp];omega
 ·exact h (a++x) pins _ σ H Q (by rw [Lp];omega) (I.tok _) q
theorem I0 (o:X.A.guards=some []) (j:X.A.units+80<cLine) (g:PE X e te) (h:PFs X es n t):PFs X (.FormattedValue e (-1) none pos :: es) (4000+n) (Fi X.K te t):=λa pins s σ H Q x I q=>by
 refine wpAny_FormattedValue_plain (thn (g pins s σ H _ I q) λu A ⟨v,m,i,l,d,hd,S,f,w,p⟩=>?_);refine thn (yW o j i hd l S f w) λz b ⟨y,r,c,B,k⟩=>?_;refine ⟨y,r,c,?_,?_⟩
 ·rw [Lp];omega
 ·exact h (a++y) pins b σ m Q (by rw [Lp];omega) k p
def tFs (t:TF):TE:=λσ H Q=>t σ H λH'=>∀ z:Str,z.length<=sizeLine->Q (.str z) H'
theorem T5 (h:PFs X (e :: e2 :: es) n t) (f:n<=100000):PE X (.JoinedStr (e :: e2 :: es) pos) (tFs t):=by
 intro pins s σ H Q I q;refine wpAny_JoinedStr ?_;have d:(100000:Nat)<=sizeLine:=by decide
 have a:=h Str.empty pins s σ H _ (by show 0+n<=sizeLine;omega) I q;exact aO (λout g ⟨l,H',c,b⟩=>⟨l,.str out,H',c.tok _,⟨_,rfl⟩,b out l⟩) _ _ _ a
theorem L5 {f B:Addr} {fd:FuncData} {ps:List Str} {sp:Sp} {E:XK} {b m:Str} {p a:Pos} {pl:Sem Bool} {j:Value} {n:TA}
  (A:Gl X b) (z:X.mg b=some (.ref B)) (hs:PySem.W.specialIn X.K (.ref B) "__getattribute__" = some (some (.builtin "type.__getattribute__"))) (d:PySem.W.readsIn X.K B j=true) (y:PySem.W.findCls X.K (.ref B) j m=some (.val (.ref f))) (u:PySem.W.keepIn X.K (.ref f)=true)
  (F:FnOk X.prog X.w X.K X.mg X.base CX k f fd ps sp) (v:Room CX.q k X.A) (x:Binds X.K fd ps []) (C:z0 CX X E) (t:PA X (e :: es) n)
  (g:(b==("__debug__" : Str))=false:=by decide) (c:starEach (e :: es) X.env=(false,eval e X.env) :: starEach es X.env:=by rfl) (i:(backTo pos (starEach es X.env)).any (·.1)=false:=by rfl)
  (w:eval (.Call (.Attribute (.Name b p) m a) (e :: es) [] pos) X.env=(do
   let o <- eval (.Name b p) X.env
   standAt a.atName
   let (f,first) <- holding [o] (getMethod o m pl)
   callWith pos f first (backTo pos (starEach (e :: es) X.env)) (backToKw pos (keywordEach [] X.env))):=by rfl) :
  PE X (.Call (.Attribute (.Name b p) m a) (e :: es) [] pos) (qZ sp [] E n):=by
 intro pins s σ H Q I h;refine PySem.W.methodCall_KW (G3 I A z ?_ g) w;refine PySem.W.method_cls I.kIn hs (PySem.W.cls_value I.kIn d y rfl ?_);refine Kr I.ok.mod.kin u (thn (t pos pins _ σ H _ (I.tok _) h) λus G ⟨vs,D,l,r,q⟩=>⟨l.kIn,?_⟩) c i;exact gx F v x .nil C l r q
def AG (K:PySem.W.Frag) (b:TA):TE:=λσ H Q=>b σ H λvs a=>∃ x C d y,vs=[.ref x,y]/\XC K C/\a x=some (O4 x C d)/\Q .non a
theorem qY {p apos:Pos} {pl:Sem Bool} {ta:TA} (hg:Gl X "ValueError") (hm:X.mg "ValueError" = none) (hf:PySem.W.findCls X.K (.type "ValueError") (.type "type") "__init__" = some (.val (.builtin "ValueError.__init__"))) (ha:PA X (e :: es) ta)
  (hst:starEach (e :: es) X.env=(false,eval e X.env) :: starEach es X.env:=by rfl) (hpl:(backTo pos (starEach es X.env)).any (·.1)=false:=by rfl)
  (ht:eval (.Call (.Attribute (.Name "ValueError" p) "__init__" apos) (e :: es) [] pos) X.env=(do
   let ov <- eval (.Name "ValueError" p) X.env
   standAt apos.atName
   let (f,first) <- holding [ov] (getMethod ov "__init__" pl)
   callWith pos f first (backTo pos (starEach (e :: es) X.env)) (backToKw pos (keywordEach [] X.env))):=by rfl) :
  PE X (.Call (.Attribute (.Name "ValueError" p) "__init__" apos) (e :: es) [] pos) (AG X.K ta):=by
 intro pins s σ H Q I h;refine PySem.W.methodCall_KW (pl:=pl) (G1 I hg hm (show bootBuiltins "ValueError" = some (.type "ValueError") by rfl) ?_) ht;obtain ⟨m,hfr⟩:=I.fr;refine PySem.W.method_type hfr I.ok.mod.kin (by rfl) (by decide +kernel) hf rfl ?_;refine KH (thn (ha pos pins _ σ H _ (I.tok _) h) λus s1 ⟨vs,H1,I1,r,x,C,d,y,ev,M,e0,q⟩=>?_) hst hpl;subst ev;obtain ⟨u,u2,rfl,ru,ru2⟩:=cT r;cases (show u=Value.ref x from ru);refine Kq (DN I1.kIn (I1.isX e0) M.ex λh' k1 i1=>?_);obtain ⟨vs1,hx1,_⟩:=id i1;have I2:=I1.write (h':=h') (t':=s1.toks) (x:=x) (e:=x) (o:=O4 x C d) (by rw [e0];exact True.intro) (.inl rfl) (λb ob hb z=>k1 b ob hb z) ⟨_,hx1⟩ (okX i1);rw [nw e0] at I2;exact ⟨.non,H1,I2,rfl,q⟩
end
end L2
namespace Hn
open PySem L2
def spHE (K:PySem.W.Frag):Sp:=λvs H Q _=>∃ (x:Addr) (y:V) (C:Addr) (d:Option Addr),vs=[.ref x,y]/\XC K C/\H x=some (O4 x C d)/\Q .non H
structure Fmt (K:PySem.W.Frag) (H:Hp) (v:V) (d:PyData):Prop where
 at_:DAt K H v d
 sh:Shows d
 l1:d.shown.length<=4000
 l2:∀ x,v=.str x->x.length<=4000
def Got (H:Hp) (x C:Addr) (fs:List (Str×V)) (H':Hp):Prop:=∃ d,H d=none/\d≠x/\H' x=some (O4 x C (some d))/\H' d=some (J9 d fs)/\∀ b,b≠x->b≠d->H' b=H b
def sp1 (K:PySem.W.Frag) (f:Str):Sp:=λvs H Q _=>∃ (x:Addr) (v:V) (C:Addr) (a:PyData),vs=[.ref x,v]/\XC K C/\v9 K C f/\H x=some (O4 x C none)/\Fmt K H v a/\∀ H',Got H x C [(f,v)] H'->Q .non H'
def sp2 (K:PySem.W.Frag) (f g:Str):Sp:=λvs H Q _=>∃ (x:Addr) (v u:V) (C:Addr) (a b:PyData),vs=[.ref x,v,u]/\XC K C/\v9 K C f/\v9 K C g/\H x=some (O4 x C none)/\Fmt K H v a/\Fmt K H u b /\
 ∀ H',Got H x C [(f,v),(g,u)] H'->Q .non H'
structure TxE (K:PySem.W.Frag) (mg:Str->Option Value) (B fB:Addr):Prop where
 mV:mg "ValueError" = none
 fV:PySem.W.findCls K (.type "ValueError") (.type "type") "__init__" = some (.val (.builtin "ValueError.__init__"))
 mB:mg "HandError" = some (.ref B)
 sB:PySem.W.specialIn K (.ref B) "__getattribute__" = some (some (.builtin "type.__getattribute__"))
 rB:PySem.W.readsIn K B (.type "type")=true
 cB:PySem.W.findCls K (.ref B) (.type "type") "__init__" = some (.val (.ref fB))
 kB:PySem.W.keepIn K (.ref fB)=true
theorem jV (v u:V):K7 ("at" : Str) u ([("word",v)]:List (Str×V))=([("word",v),("at",u)]:List (Str×V)):=by
 show (if ("word" : Str) = "at" then [(("word" : Str),u)] else (("word" : Str),v) :: K7 "at" u [])=([("word",v),("at",u)]:List (Str×V));rw [if_neg (by decide +kernel)];rfl
section
variable {K:PySem.W.Frag}
theorem Fmt.laid {v:V} {d:PyData} (h:Fmt K H v d) (a:H x=none):Fmt K (upd H x o) v d:=⟨h.at_.keeps (Keeps.laid a),h.sh,h.l1,h.l2⟩
end
end Hn
namespace L3
open PySem PySem.Spec PyProof.Rows L2
inductive D where
 | non | bl (b:Bool) | int (i:Int) | str (x:Str) | tup (ds:List D) | lst (ds:List D) | scr (ds:List D) | ref (n:Nat)
inductive O where
 | lst (ds:List D) | dct (kvs:List (Key×D)) | exc (c:Nat) (fs:List (Str×D))
abbrev Sto:=List O
inductive R (α:Type) where
 | ok (a:α) (S:Sto) | exn (n:Nat) (S:Sto) | bad
abbrev M (α:Type):=Sto->R α
def ret {b:Type} (a:b):M b:=λS=>.ok a S
def bad {a:Type}:M a:=λ_=>.bad
def bind {c b:Type} (m:M c) (k:c->M b):M b:=λS=>match m S with
 | .ok a S'=>k a S'
 | .exn n S'=>.exn n S'
 | .bad=>.bad
abbrev Env:=List (Option D)
structure Mp where
 pl:List Addr
 rs:List Addr
def Mp.push (μ:Mp) (p:Addr):Mp:=⟨μ.pl++[p],μ.rs⟩
def TupAt (K:PySem.W.Frag) (μ:Mp) (H:Hp) (a:Addr) (xs:List V):Prop:=
 (Rd H a (.tup xs)/\a∉μ.pl/\a∉μ.rs)\/∃ (o:Obj) (b:Array Value) (n:Nat),K.lookup a=some o/\o.cls=.type "tuple"/\o.data=.seq b n/\b.size<=sizeLine/\Vals xs b.toList/\o.dict=none
def ScrAt (K:PySem.W.Frag) (μ:Mp) (H:Hp) (a:Addr) (xs:List V):Prop:=
 (Rd H a (.lst xs)/\a∉μ.pl/\a∉μ.rs)\/∃ (o:Obj) (b:Array Value) (n:Nat),K.lookup a=some o/\o.cls=.type "list"/\o.dict=none/\o.data=.seq b n/\b.size<=sizeLine/\Vals xs b.toList
def LstAt (μ:Mp) (H:Hp) (a:Addr) (xs:List V):Prop:=H a=some (.lst xs)/\a∉μ.pl/\a∉μ.rs
theorem TupAt.sq {K:PySem.W.Frag} {μ:Mp} {H:Hp} {a:Addr} {xs:List V} (h:TupAt K μ H a xs):SqT K H a xs:=h.imp (λz=>z.1) λ⟨o,f,n,a,b,c,d,e,_⟩=>⟨o,f,n,a,b,c,d,e⟩
theorem ScrAt.sq {K:PySem.W.Frag} {μ:Mp} {H:Hp} {a:Addr} {xs:List V} (h:ScrAt K μ H a xs):SqL K H a xs:=h.imp (λz=>z.1) id
theorem LstAt.sq {K:PySem.W.Frag} {μ:Mp} {H:Hp} {a:Addr} {xs:List V} (h:LstAt μ H a xs):SqL K H a xs:=.inl (.inl h.1)
mutual
inductive RD (K:PySem.W.Frag) (μ:Mp) (H:Hp):D->V->Prop where
 | non:RD K μ H .non .non
 | bl (b:Bool):RD K μ H (.bl b) (.bl b)
 | int (i:Int):RD K μ H (.int i) (.int i)
 | str (x:Str):RD K μ H (.str x) (.str x)
 | tup {a:Addr} {xs:List V} {ds:List D}:TupAt K μ H a xs->RDs K μ H ds xs->RD K μ H (.tup ds) (.ref a)
 | lst {a:Addr} {xs:List V} {ds:List D}:LstAt μ H a xs->RDs K μ H ds xs->RD K μ H (.lst ds) (.ref a)
 | scr {a:Addr} {xs:List V} {ds:List D}:ScrAt K μ H a xs->RDs K μ H ds xs->RD K μ H (.scr ds) (.ref a)
 | ref {n:Nat} {a:Addr}:μ.pl[n]?=some a->RD K μ H (.ref n) (.ref a)
inductive RDs (K:PySem.W.Frag) (μ:Mp) (H:Hp):List D->List V->Prop where
 | nil:RDs K μ H [] []
 | cons {d:D} {v:V} {ds:List D} {vs:List V}:RD K μ H d v->RDs K μ H ds vs->RDs K μ H (d :: ds) (v :: vs)
end
structure Lat (μ:Mp) (H:Hp) (μ':Mp) (H':Hp):Prop where
 pre:∀ (n:Nat) (a:Addr),μ.pl[n]?=some a->μ'.pl[n]?=some a
 oth:∀ a o,H a=some o->a∉μ.pl->H' a=some o
 new:∀ a,a∈μ'.pl->a∈μ.pl\/H a=none
 rsv:μ'.rs=μ.rs
theorem Lat.refl (μ:Mp) (H:Hp):Lat μ H μ H:=⟨λ_ _ h=>h,λ_ _ h _=>h,λ_ h=>.inl h,rfl⟩
theorem Lat.out {H H':Hp} (l:Lat μ H μ' H') {a:Addr} {o:HO} (h:H a=some o) (n:a∉μ.pl):a∉μ'.pl:=λz=>by
 rcases l.new a z with q | q
 ·exact n q
 ·rw [h] at q;cases q
theorem Lat.trans {H c b:Hp} (l:Lat μ H μ1 c) (k:Lat μ1 c μ2 b):Lat μ H μ2 b:=by
 refine ⟨λn a h=>k.pre n a (l.pre n a h),λa o h n=>k.oth a o (l.oth a o h n) (l.out h n),λa h=>?_,k.rsv.trans l.rsv⟩;rcases k.new a h with q | q
 ·exact l.new a q
 ·by_cases m:a∈μ.pl
  ·exact .inl m
  ·right
   cases e:H a with
   | none=>rfl
   | some o=>rw [l.oth a o e m] at q;cases q
theorem Rd.later {H H':Hp} (l:Lat μ H μ' H') {a:Addr} {u:HO} (h:Rd H a u) (n:a∉μ.pl):Rd H' a u/\a∉μ'.pl:=by
 rcases h with h | ⟨o,h⟩
 ·exact ⟨.inl (l.oth _ _ h n),l.out h n⟩
 ·exact ⟨.inr ⟨o,l.oth _ _ h n⟩,l.out h n⟩
theorem TupAt.later {K:PySem.W.Frag} {μ μ':Mp} {H H':Hp} (l:Lat μ H μ' H') {a:Addr} {xs:List V} (h:TupAt K μ H a xs):TupAt K μ' H' a xs:=h.imp (λz=>⟨(Rd.later l z.1 z.2.1).1,(Rd.later l z.1 z.2.1).2,by rw [l.rsv];exact z.2.2⟩) id
theorem ScrAt.later {K:PySem.W.Frag} {μ μ':Mp} {H H':Hp} (l:Lat μ H μ' H') {a:Addr} {xs:List V} (h:ScrAt K μ H a xs):ScrAt K μ' H' a xs:=h.imp (λz=>⟨(Rd.later l z.1 z.2.1).1,(Rd.later l z.1 z.2.1).2,by rw [l.rsv];exact z.2.2⟩) id
theorem LstAt.later {H H':Hp} (l:Lat μ H μ' H') {a:Addr} {xs:List V} (h:LstAt μ H a xs):LstAt μ' H' a xs:=⟨l.oth _ _ h.1 h.2.1,l.out h.1 h.2.1,by rw [l.rsv];exact h.2.2⟩
mutual
theorem RD.later {K:PySem.W.Frag} {μ μ':Mp} {H H':Hp} (l:Lat μ H μ' H'):∀ {d:D} {v:V},RD K μ H d v->RD K μ' H' d v
 | _,_,.non=>.non
 | _,_,.bl b=>.bl b
 | _,_,.int i=>.int i
 | _,_,.str x=>.str x
 | _,_,.tup h r=>.tup (h.later l) (RDs.later l r)
 | _,_,.lst h r=>.lst (h.later l) (RDs.later l r)
 | _,_,.scr h r=>.scr (h.later l) (RDs.later l r)
 | _,_,.ref h=>.ref (l.pre _ _ h)
theorem RDs.later {K:PySem.W.Frag} (l:Lat μ H μ' H'):∀ {ds:List D} {vs:List V},RDs K μ H ds vs->RDs K μ' H' ds vs
 | _,_,.nil=>.nil
 | _,_,.cons h r=>.cons (RD.later l h) (RDs.later l r)
end
section
variable {K:PySem.W.Frag} {μ:Mp} {H:Hp}
theorem RDs.length:∀ {ds:List D} {vs:List V},RDs K μ H ds vs->ds.length=vs.length
 | _,_,.nil=>rfl
 | _,_,.cons _ r=>by simp [RDs.length r]
theorem RDs.get:∀ {ds:List D} {vs:List V} {i:Nat} {d:D},RDs K μ H ds vs->ds[i]?=some d->∃ v,vs[i]?=some v/\RD K μ H d v
 | _,_,_,_,.nil,e=>by simp at e
 | _,_,0,_,.cons h _,e=>by simp at e;subst e;exact ⟨_,rfl,h⟩
 | _,_,i+1,d,.cons _ r,e=>by
  obtain ⟨v,b,a⟩:=RDs.get r (by simpa using e);exact ⟨v,by simpa using b,a⟩
theorem RDs.append:∀ {ds es:List D} {vs us:List V},RDs K μ H ds vs->RDs K μ H es us->RDs K μ H (ds++es) (vs++us)
 | _,_,_,_,.nil,s=>s
 | _,_,_,_,.cons h r,s=>.cons h (RDs.append r s)
theorem RDs.take:∀ {ds:List D} {vs:List V} (n:Nat),RDs K μ H ds vs->RDs K μ H (ds.take n) (vs.take n)
 | _,_,0,_=>by simpa using RDs.nil
 | _,_,_+1,.nil=>by simpa using RDs.nil
 | _,_,n+1,.cons h r=>by simpa using RDs.cons h (RDs.take n r)
theorem RDs.drop:∀ {ds:List D} {vs:List V} (n:Nat),RDs K μ H ds vs->RDs K μ H (ds.drop n) (vs.drop n)
 | _,_,0,h=>by simpa using h
 | _,_,_+1,.nil=>by simpa using RDs.nil
 | _,_,n+1,.cons _ r=>by simpa using RDs.drop n r
theorem RDs.set (q:RD K μ H d v):∀ {ds:List D} {vs:List V} (n:Nat),RDs K μ H ds vs->RDs K μ H (ds.set n d) (vs.set n v)
 | _,_,_,.nil=>by simpa using RDs.nil
 | _,_,0,.cons h r=>by simpa using RDs.cons q r
 | _,_,n+1,.cons h r=>by simpa using RDs.cons h (RDs.set q n r)
theorem RDs.rep (r:RDs K μ H ds vs):∀ k:Nat,RDs K μ H (List.replicate k ds).flatten (List.replicate k vs).flatten
 | 0=>.nil
 | k+1=>by
  rw [Ju,Ju,JW,JW];exact r.append (RDs.rep r k)
theorem RDs.ints:∀ ns:List Int,RDs K μ H (ns.map D.int) (ns.map V.int)
 | []=>.nil
 | n :: ns=>.cons (.int n) (RDs.ints ns)
end
def gi (K:PySem.W.Frag) (μ:Mp) (H:Hp):List (Str×D)->List (Str×V)->Prop:=Paired λp q=>p.1=q.1/\RD K μ H p.2 q.2
def KvsAt (K:PySem.W.Frag) (μ:Mp) (H:Hp):List (Key×D)->List (Key×V)->Prop:=Paired λp q=>p.1=q.1/\RD K μ H p.2 q.2
def OAt (K:PySem.W.Frag) (cl:Nat->Addr) (μ:Mp) (H:Hp) (a:Addr):O->Prop
 | .lst ds=>∃ xs,H a=some (.lst xs)/\RDs K μ H ds xs
 | .dct b=>∃ e,H a=some (.dK e)/\KvsAt K μ H b e
 | .exc c fs=>XC K (cl c)/\∃ gs,gi K μ H fs gs/\∃ f,((gs=[]/\H a=some (M9 f a (cl c) none))\/∃ d,d≠a/\d∉μ.pl/\H a=some (M9 f a (cl c) (some d))/\H d=some (J9 d gs))
structure Rep (K:PySem.W.Frag) (cl:Nat->Addr) (μ:Mp) (S:Sto) (H:Hp):Prop where
 len:μ.pl.length=S.length
 nd:μ.pl.Nodup
 ats:∀ (n:Nat) (o:O) (a:Addr),S[n]?=some o->μ.pl[n]?=some a->OAt K cl μ H a o
 res:∀ a,a∈μ.rs->a∉μ.pl/\∃ u,H a=some u
theorem Paired.mono {P Q:α->β->Prop} (h:∀ a b,P a b->Q a b):∀ {xs:List α} {ys:List β},Paired P xs ys->Paired Q xs ys
 | _,_,.nil=>.nil
 | _,_,.cons r t=>.cons (h _ _ r) (Paired.mono h t)
section
variable {K:PySem.W.Frag} {cl:Nat->Addr} {μ:Mp} {S:Sto} {H:Hp}
theorem OAt.some (h:OAt K cl μ H a o):∃ u,H a=some u:=by
 cases o with
 | lst ds=>obtain ⟨xs,e,_⟩:=h;exact ⟨_,e⟩
 | dct kvs=>obtain ⟨xs,e,_⟩:=h;exact ⟨_,e⟩
 | exc c fs=>
  obtain ⟨_,gs,_,fr,⟨_,e⟩ | ⟨d,_,_,e,_⟩⟩:=h
  ·exact ⟨_,e⟩
  ·exact ⟨_,e⟩
theorem Rep.tracked (r:Rep K cl μ S H) {a:Addr} (h:a∈μ.pl):∃ u,H a=some u:=by
 obtain ⟨n,b,e⟩:=Jv h;have hs:n<S.length:=by rw [<- r.len];exact b
 exact (r.ats n S[n] a (HP hs) (by rw [HP b,e])).some
theorem Rep.notrs (r:Rep K cl μ S H) {p:Addr} (h:H p=none):p∉μ.rs:=λz=>by
 obtain ⟨_,u,e⟩:=r.res p z;rw [h] at e;cases e
theorem Rep.notin (r:Rep K cl μ S H) {p:Addr} (h:H p=none):p∉μ.pl:=λz=>by
 obtain ⟨u,e⟩:=r.tracked z;rw [h] at e;cases e
theorem Lat.laid (h:H p=none):Lat μ H μ (upd H p o):=⟨λ_ _ h=>h,λa u e _=>by rw [b6 (c8 e h)];exact e,λ_ h=>.inl h,rfl⟩
theorem Rep.keep (r:Rep K cl μ S H) (l:Lat μ H μ H') (k:∀ a,a∈μ.pl->H' a=H a):Rep K cl μ S H':=by
 refine ⟨r.len,r.nd,λn o a e1 e2=>?_,λa m=>let ⟨h1,u,h2⟩:=r.res a m;⟨h1,u,l.oth _ _ h2 h1⟩⟩;have ka:=k a (Io e2);have h:=r.ats n o a e1 e2;cases o with
 | lst ds=>obtain ⟨xs,e,q⟩:=h;exact ⟨xs,by rw [ka];exact e,q.later l⟩
 | dct kvs=>obtain ⟨xs,e,q⟩:=h;exact ⟨xs,by rw [ka];exact e,Paired.mono (λ_ _ ⟨z,w⟩=>⟨z,w.later l⟩) q⟩
 | exc c fs=>
  obtain ⟨xc,gs,q,fr,h⟩:=h;refine ⟨xc,gs,Paired.mono (λ_ _ ⟨z,w⟩=>⟨z,w.later l⟩) q,fr,?_⟩;rcases h with ⟨z,e⟩ | ⟨d,h1,h2,e,e2⟩
  ·grind
  ·exact .inr ⟨d,h1,h2,by rw [ka];exact e,l.oth _ _ e2 h2⟩
theorem Rep.laid (r:Rep K cl μ S H) (h:H p=none):Rep K cl μ S (upd H p o):=r.keep (Lat.laid h) λa m=>b6 λz=>r.notin h (z▸m)
theorem Lat.pushed (h:H p=none) (k:∀ a u,H a=some u->H' a=some u):Lat μ H (μ.push p) H':=
 ⟨λn a e=>by show (μ.pl++[p])[n]?=_;rw [HW (HN.mp e).1];exact e,λa u e _=>k a u e,λa m=>by
  rcases IC.mp m with z | z
  ·exact .inl z
  ·exact .inr (by rw [ID.mp z];exact h),rfl⟩
theorem OAt.later {a:Addr} {o:O} (h:OAt K cl μ H a o) (l:Lat μ H μ' H') (ka:H' a=H a):OAt K cl μ' H' a o:=by
 cases o with
 | lst ds=>obtain ⟨xs,e,q⟩:=h;exact ⟨xs,by rw [ka];exact e,q.later l⟩
 | dct kvs=>obtain ⟨xs,e,q⟩:=h;exact ⟨xs,by rw [ka];exact e,Paired.mono (λ_ _ ⟨z,w⟩=>⟨z,w.later l⟩) q⟩
 | exc c fs=>
  obtain ⟨xc,gs,q,fr,h⟩:=h;refine ⟨xc,gs,Paired.mono (λ_ _ ⟨z,w⟩=>⟨z,w.later l⟩) q,fr,?_⟩;rcases h with ⟨z,e⟩ | ⟨d,h1,h2,e,e2⟩
  ·grind
  ·exact .inr ⟨d,h1,l.out e2 h2,by rw [ka];exact e,l.oth _ _ e2 h2⟩
theorem Rep.pushed (r:Rep K cl μ S H) (h:H p=none) (k:∀ a u,H a=some u->H' a=some u) (i:OAt K cl (μ.push p) H' p o):Rep K cl (μ.push p) (S++[o]) H':=by
 have l:=Lat.pushed (μ:=μ) h k;refine ⟨by simp [Mp.push,r.len],?_,λn u a d c=>?_,λa m=>?_⟩
 ·show (μ.pl++[p]).Nodup;rw [KE];exact ⟨r.nd,by simp,λa m b m2=>by rw [ID.mp m2];rintro rfl;exact r.notin h m⟩
 ·have c:(μ.pl++[p])[n]?=some a:=c;by_cases f:n<S.length
  ·rw [HW f] at d;rw [HW (by rw [r.len];exact f)] at c;have q:=r.ats n u a d c;obtain ⟨z,g⟩:=q.some;exact q.later l ((k a z g).trans g.symm)
  ·have e:n=S.length:=by
    have:=(HN.mp d).1;simp at this;omega
   subst e;rw [<- r.len] at c;simp at d c;subst d;subst c;exact i
 ·obtain ⟨j,u,s⟩:=r.res a m;refine ⟨λz=>?_,u,k a u s⟩;rcases IC.mp (z) with z | z
  ·exact j z
  ·grind
theorem Lat.wrote (h:a∈μ.pl):Lat μ H μ (upd H a o):=⟨λ_ _ h=>h,λb u e n=>by rw [b6 (λz=>n (by rw [z];exact h))];exact e,λ_ h=>.inl h,rfl⟩
theorem Rep.wrote {n:Nat} {a:Addr} {u:HO} {o:O} (r:Rep K cl μ S H) (e:μ.pl[n]?=some a) (ho:OAt K cl μ (upd H a u) a o):Rep K cl μ (S.set n o) (upd H a u):=by
 have m:a∈μ.pl:=Io e;refine ⟨by simp [r.len],r.nd,λk w b e1 e2=>?_,λb mb=>let ⟨h1,u',h2⟩:=r.res b mb;⟨h1,u',by rw [b6 (λz=>h1 (by rw [z];exact m))];exact h2⟩⟩;by_cases hk:n=k
 ·subst hk;rw [e] at e2;cases e2;rw [IA (by have:=(HN.mp e).1;rw [r.len] at this;exact this)] at e1;cases e1;exact ho
 ·rw [HZ hk] at e1;have hb:b≠a:=λz=>by
   subst z;obtain ⟨h1,q1⟩:=HN.mp e;obtain ⟨h2,q2⟩:=HN.mp e2;exact hk ((List.getElem_inj r.nd).mp (q1.trans q2.symm))
  exact (r.ats k w b e1 e2).later (Lat.wrote m) (b6 hb)
end
def Mp.hold (μ:Mp) (p:Addr):Mp:=⟨μ.pl,p :: μ.rs⟩
mutual
theorem RD.move {K:PySem.W.Frag} {μ μ':Mp} {H H':Hp} (g:∀ (n:Nat) (a:Addr),μ.pl[n]?=some a->μ'.pl[n]?=some a) (c:∀ a u,H a=some u->a∉μ.pl->a∉μ.rs->H' a=some u/\a∉μ'.pl/\a∉μ'.rs):∀ {d:D} {v:V},RD K μ H d v->RD K μ' H' d v
 | _,_,.non=>.non
 | _,_,.bl b=>.bl b
 | _,_,.int i=>.int i
 | _,_,.str x=>.str x
 | _,_,.tup h r=>.tup (h.imp (λ⟨q,e,f⟩=>by
   rcases q with q | ⟨o,q⟩
   ·exact ⟨.inl (c _ _ q e f).1,(c _ _ q e f).2⟩
   ·exact ⟨.inr ⟨o,(c _ _ q e f).1⟩,(c _ _ q e f).2⟩) id) (RDs.move g c r)
 | _,_,.lst h r=>.lst (c _ _ h.1 h.2.1 h.2.2) (RDs.move g c r)
 | _,_,.scr h r=>.scr (h.imp (λ⟨q,e,f⟩=>by
   rcases q with q | ⟨o,q⟩
   ·exact ⟨.inl (c _ _ q e f).1,(c _ _ q e f).2⟩
   ·exact ⟨.inr ⟨o,(c _ _ q e f).1⟩,(c _ _ q e f).2⟩) id) (RDs.move g c r)
 | _,_,.ref h=>.ref (g _ _ h)
theorem RDs.move {K:PySem.W.Frag} {μ μ':Mp} {H H':Hp} (hp:∀ (n:Nat) (a:Addr),μ.pl[n]?=some a->μ'.pl[n]?=some a) (ho:∀ a u,H a=some u->a∉μ.pl->a∉μ.rs->H' a=some u/\a∉μ'.pl/\a∉μ'.rs):∀ {ds:List D} {vs:List V},RDs K μ H ds vs->RDs K μ' H' ds vs
 | _,_,.nil=>.nil
 | _,_,.cons h r=>.cons (RD.move hp ho h) (RDs.move hp ho r)
end
section
variable {K:PySem.W.Frag} {cl:Nat->Addr} {μ:Mp} {S:Sto} {H:Hp}
theorem Rep.move {H':Hp} (r:Rep K cl μ S H) (hr:∀ a,a∈μ'.rs->a∉μ'.pl/\∃ u,H' a=some u) (hp:μ'.pl=μ.pl) (hk:∀ a,a∈μ.pl->H' a=H a) (hx:∀ a u,H a=some (.ext u)->H' a=some (.ext u)) (ho:∀ a u,H a=some u->a∉μ.pl->a∉μ.rs->H' a=some u/\a∉μ'.pl/\a∉μ'.rs):Rep K cl μ' S H':=by
 have hp':∀ (n:Nat) (a:Addr),μ.pl[n]?=some a->μ'.pl[n]?=some a:=λn a e=>by rw [hp];exact e
 refine ⟨by rw [hp];exact r.len,by rw [hp];exact r.nd,λn o a e1 e2=>?_,hr⟩;rw [hp] at e2;have ka:=hk a (Io e2);have h:=r.ats n o a e1 e2;cases o with
 | lst ds=>obtain ⟨xs,e,q⟩:=h;exact ⟨xs,by rw [ka];exact e,q.move hp' ho⟩
 | dct kvs=>obtain ⟨xs,e,q⟩:=h;exact ⟨xs,by rw [ka];exact e,Paired.mono (λ_ _ ⟨z,w⟩=>⟨z,w.move hp' ho⟩) q⟩
 | exc c fs=>
  obtain ⟨xc,gs,q,fr,h⟩:=h;refine ⟨xc,gs,Paired.mono (λ_ _ ⟨z,w⟩=>⟨z,w.move hp' ho⟩) q,fr,?_⟩;rcases h with ⟨z,e⟩ | ⟨d,h1,h2,e,e2⟩
  ·grind
  ·exact .inr ⟨d,h1,by rw [hp];exact h2,by rw [ka];exact e,hx _ _ e2⟩
end
section
variable (K:PySem.W.Frag) (cl:Nat->Addr) (xe:Addr->Hp->Prop)
def Post {b:Type} (μ:Mp) (H:Hp) (r:R b) (G:b->Sto->Mp->Hp->Prop):Prop:=match r with
 | .ok a S=>∀ μ' H',Lat μ H μ' H'->Rep K cl μ' S H'->G a S μ' H'
 | .exn n S=>∀ μ' H' a,Lat μ H μ' H'->Rep K cl μ' S H'->μ'.pl[n]?=some a->xe a H'
 | .bad=>False
end
section
variable {K:PySem.W.Frag} {cl:Nat->Addr} {xe:Addr->Hp->Prop} {α β:Type} {μ μ1:Mp} {H H1:Hp}
theorem Post.later {G:α->Sto->Mp->Hp->Prop} (h:Post K cl xe μ H r G) (l:Lat μ H μ1 H1):Post K cl xe μ1 H1 r G:=by
 cases r with
 | ok a S=>exact λμ' H' k r=>h μ' H' (l.trans k) r
 | exn n S=>exact λμ' H' a k r e=>h μ' H' a (l.trans k) r e
 | bad=>exact h
theorem Post.imp {G G':α->Sto->Mp->Hp->Prop} (h:Post K cl xe μ H r G) (k:∀ a S μ' H',Lat μ H μ' H'->Rep K cl μ' S H'->G a S μ' H'->G' a S μ' H'):Post K cl xe μ H r G':=by
 cases r with
 | ok a S=>exact λμ' H' l r=>k a S μ' H' l r (h μ' H' l r)
 | exn n S=>exact h
 | bad=>exact h
theorem Post.bind {k:α->M β} {S:Sto} {G:β->Sto->Mp->Hp->Prop} (h:Post K cl xe μ H (bind m k S) G):Post K cl xe μ H (m S) (λa S1 μ1 H1=>Post K cl xe μ1 H1 (k a S1) G):=by
 unfold L3.bind at h;cases e:m S with
 | ok a S1=>
  rw [e] at h;exact λμ' H' l r=>Post.later h l
 | exn n S1=>rw [e] at h;exact h
 | bad=>rw [e] at h;exact h
theorem Post.ret {G:α->Sto->Mp->Hp->Prop} (h:Post K cl xe μ H (ret a S) G):∀ μ' H',Lat μ H μ' H'->Rep K cl μ' S H'->G a S μ' H':=h
end
def EnvOk (K:PySem.W.Frag) (μ:Mp) (H:Hp) (ρ:Env) (σ:L2.St):Prop:=ρ.length=σ.length/\∀ (i:Nat) (d:D),ρ[i]?=some (some d)->∃ v,σ[i]?=some (some v)/\RD K μ H d v
theorem EnvOk.later {K:PySem.W.Frag} {μ a:Mp} {H b:Hp} {ρ:Env} {σ:L2.St} (h:EnvOk K μ H ρ σ) (l:Lat μ H a b):EnvOk K a b ρ σ:=⟨h.1,λi d e=>let ⟨v,q,r⟩:=h.2 i d e;⟨v,q,r.later l⟩⟩
theorem EnvOk.set {K:PySem.W.Frag} {μ:Mp} {H:Hp} {ρ:Env} {σ:L2.St} {d:D} {v:V} (h:EnvOk K μ H ρ σ) (r:RD K μ H d v) (i:Nat):EnvOk K μ H (ρ.set i (some d)) (σ.set i (some v)):=by
 refine ⟨by simp [h.1],λj e b=>?_⟩;by_cases a:i=j
 ·subst a;have c:i<ρ.length:=by
   have:=(HN.mp b).1;simpa using this
  rw [IA c] at b;cases b;exact ⟨v,IA (by rw [<- h.1];exact c),r⟩
 ·rw [HZ a] at b;obtain ⟨u,q,f⟩:=h.2 j e b;exact ⟨u,by rw [HZ a];exact q,f⟩
section
variable (K:PySem.W.Frag) (cl:Nat->Addr) (xe:Addr->Hp->Prop)
def tD (f:Env->M D):TE:=λσ H Q=>∃ μ S ρ,EnvOk K μ H ρ σ/\Rep K cl μ S H/\Post K cl xe μ H (f ρ S) λd _ μ' H'=>∀ v,RD K μ' H' d v->Q v H'
def tDs (f:Env->M (List D)):TA:=λσ H Q=>∃ μ S ρ,EnvOk K μ H ρ σ/\Rep K cl μ S H/\Post K cl xe μ H (f ρ S) λds _ μ' H'=>∀ vs,RDs K μ' H' ds vs->Q vs H'
def tBo (f:Env->M Bool):TT:=λσ H Q=>∃ μ S ρ,EnvOk K μ H ρ σ/\Rep K cl μ S H/\Post K cl xe μ H (f ρ S) λb _ _ H'=>Q b H'
def rP2 (g:D->D->M D):R2:=λx y H Q=>∃ μ S d e,RD K μ H d x/\RD K μ H e y/\Rep K cl μ S H/\Post K cl xe μ H (g d e S) λr _ μ' H'=>∀ v,RD K μ' H' r v->Q v H'
def rPs (g:List D->M D):List V->Hp->VK->Prop:=λxs H Q=>∃ μ S ds,RDs K μ H ds xs/\Rep K cl μ S H/\Post K cl xe μ H (g ds S) λr _ μ' H'=>∀ v,RD K μ' H' r v->Q v H'
end
theorem PE.imp (h:PE X e t) (k:∀ σ H Q,t' σ H Q->t σ H Q):PE X e t':=λpins s σ H Q I q=>h pins s σ H Q I (k σ H Q q)
theorem PT.imp (h:PT X e t) (k:∀ σ H Q,t' σ H Q->t σ H Q):PT X e t':=λpins s σ H Q I q=>h pins s σ H Q I (k σ H Q q)
theorem PW.imp (h:PW X e t) (k:∀ σ H Q,t' σ H Q->t σ H Q):PW X e t':=λw pins s σ H Q I q=>h w pins s σ H Q I (k σ H Q q)
theorem PA.imp (h:PA X es t) (k:∀ σ H Q,t' σ H Q->t σ H Q):PA X es t':=λp pins s σ H Q I q=>h p pins s σ H Q I (k σ H Q q)
theorem PS.imp {st:Stmt} {t t':TS} (h:PS X st t) (k:∀ D σ H,t' D σ H->t D σ H):PS X st t':=λpins s σ H D I q=>h pins s σ H D I (k D σ H q)
theorem PSs.imp {st:List Stmt} {t t':TS} (h:PSs X st t) (k:∀ D σ H,t' D σ H->t D σ H):PSs X st t':=λpins s σ H D I q=>h pins s σ H D I (k D σ H q)
section
variable {X:Cx} {cl:Nat->Addr} {xe:Addr->Hp->Prop} {a b c:Expr} {es:List Expr} {pos:Pos} {f g:Env->M D}
theorem f8:PE X e (tD X.K cl xe λ_=>bad):=λ_ _ _ _ _ _ ⟨_,_,_,_,_,p⟩=>p.elim
theorem iK:PT X e (tBo X.K cl xe λ_=>bad):=λ_ _ _ _ _ _ ⟨_,_,_,_,_,p⟩=>p.elim
theorem pw_bad:PW X e (tBo X.K cl xe λ_=>bad):=λ_ _ _ _ _ _ _ ⟨_,_,_,_,_,p⟩=>p.elim
theorem K2 (h:PE X e (tC v)) (r:∀ μ H,RD X.K μ H d v):PE X e (tD X.K cl xe λ_=>ret d):=PE.imp h λσ H Q ⟨μ,S,ρ,b,a,p⟩=>p.ret μ H (Lat.refl _ _) a v (r μ H)
def getD (i:Nat) (ρ:Env):M D:=match ρ[i]? with
 | some (some d)=>ret d
 | _=>bad
theorem BJ {e:Expr} (h:PE X e (AR i)):PE X e (tD X.K cl xe λρ=>getD i ρ):=PE.imp h λσ H Q ⟨μ,S,ρ,b,a,p⟩=>by
 cases e:ρ[i]? with
 | none=>simp only [getD,e] at p;exact p.elim
 | some o=>
  cases o with
  | none=>simp only [getD,e] at p;exact p.elim
  | some d=>
   simp only [getD,e] at p;obtain ⟨v,q,r⟩:=b.2 i d e;exact ⟨v,q,p.ret μ H (Lat.refl _ _) a v r⟩
theorem qX (e:PE X a (tD X.K cl xe f)) (k:PE X b (tD X.K cl xe g)) (s:OpR X (binaryOp op) (rP2 X.K cl xe h)) :
  PE X (.BinOp a op b pos) (tD X.K cl xe λρ=>bind (f ρ) λx=>bind (g ρ) λy=>h x y):=PE.imp (Do s e k) λσ H Q ⟨μ,S,ρ,d,j,p⟩=>
 ⟨μ,S,ρ,d,j,p.bind.imp λx S1 c z t q i v r=>⟨c,S1,ρ,d.later t,q,i.bind.imp λy S2 μ2 w l o m u n=>⟨μ2,S2,x,y,r.later l,n,o,m⟩⟩⟩
theorem zX (e:PE X a (tD X.K cl xe f)) (k:PE X b (tD X.K cl xe g)) (s:OpR X (compareOp op) (rP2 X.K cl xe h)) (w:behindInMarks op b=false) :
  PE X (.Compare a [op] [b] pos) (tD X.K cl xe λρ=>bind (f ρ) λx=>bind (g ρ) λy=>h x y):=PE.imp (tj s e k w) λσ H Q ⟨μ,S,ρ,d,j,p⟩=>
 ⟨μ,S,ρ,d,j,p.bind.imp λx S1 c A t q i v r=>⟨c,S1,ρ,d.later t,q,i.bind.imp λy S2 μ2 z l o m u n=>⟨μ2,S2,x,y,r.later l,n,o,m⟩⟩⟩
theorem FF (e:PE X a (tD X.K cl xe f)) (k:PE X b (tD X.K cl xe g)) (s:IxR X (rP2 X.K cl xe h)) (hs:dP b) :
  PE X (.Subscript a b pos) (tD X.K cl xe λρ=>bind (f ρ) λx=>bind (g ρ) λy=>h x y):=PE.imp (Da s e k hs) λσ H Q ⟨μ,S,ρ,d,j,p⟩=>
 ⟨μ,S,ρ,d,j,p.bind.imp λx S1 c z t q i v r=>⟨c,S1,ρ,d.later t,q,i.bind.imp λy S2 μ2 w l o m u n=>⟨μ2,S2,x,y,r.later l,n,o,m⟩⟩⟩
theorem Dc (n:PT X c (tBo X.K cl xe t)) (k:PE X a (tD X.K cl xe f)) (m:PE X b (tD X.K cl xe g)):PE X (.IfExp c a b pos) (tD X.K cl xe λρ=>bind (t ρ) λq=>if q=true then f ρ else g ρ):=PE.imp (pj n k m) λσ H Q ⟨μ,S,ρ,e,l,p⟩=>
 ⟨μ,S,ρ,e,l,p.bind.imp λq S1 d o j i h=>by
  cases q with
  | true=>exact ⟨d,S1,ρ,e.later j,i,h⟩
  | false=>exact ⟨d,S1,ρ,e.later j,i,h⟩⟩
theorem yQ (h:PT X a (tBo X.K cl xe t)):PT X (.UnaryOp .Not a pos) (tBo X.K cl xe λρ=>bind (t ρ) λq=>ret (!q)):=PT.imp (zE h) λσ H Q ⟨μ,S,ρ,f,d,p⟩=>
 ⟨μ,S,ρ,f,d,p.bind.imp λq S1 b g i e c=>c.ret b g (Lat.refl _ _) e⟩
theorem uY (h:PT X a (tBo X.K cl xe t)):PW X (.BoolOp .And [a] pos) (tBo X.K cl xe t):=pw_and1 h
theorem BH (h:PT X a (tBo X.K cl xe t)):PW X (.BoolOp .Or [a] pos) (tBo X.K cl xe t):=pw_or1 h
theorem yh {c:List Expr} (h:PT X a (tBo X.K cl xe t)) (k:PW X (.BoolOp .And (b :: c) pos) (tBo X.K cl xe u)):PW X (.BoolOp .And (a :: b :: c) pos) (tBo X.K cl xe λρ=>bind (t ρ) λq=>if q=true then u ρ else ret false):=PW.imp (pw_and h k) λσ H Q ⟨μ,S,ρ,g,i,p⟩=>
 ⟨μ,S,ρ,g,i,p.bind.imp λq S1 d l j f e=>by
  cases q with
  | true=>exact ⟨d,S1,ρ,g.later j,f,e⟩
  | false=>exact e.ret d l (Lat.refl _ _) f⟩
theorem Ec {c:List Expr} (h:PT X a (tBo X.K cl xe t)) (k:PW X (.BoolOp .Or (b :: c) pos) (tBo X.K cl xe u)):PW X (.BoolOp .Or (a :: b :: c) pos) (tBo X.K cl xe λρ=>bind (t ρ) λq=>if q=true then ret true else u ρ):=PW.imp (pw_or h k) λσ H Q ⟨μ,S,ρ,g,i,p⟩=>
 ⟨μ,S,ρ,g,i,p.bind.imp λq S1 d l j f e=>by
  cases q with
  | true=>exact e.ret d l (Lat.refl _ _) f
  | false=>exact ⟨d,S1,ρ,g.later j,f,e⟩⟩
def asB (d:D):M Bool:=match d with
 | .bl b=>ret b
 | _=>bad
theorem AV {K:PySem.W.Frag} {a:Mp} {c:Hp} {S:Sto} {d:D} {v:V} {Q:Bool->Hp->Prop} (f:RD K a c d v) (e:Rep K cl a S c) (p:Post K cl xe a c (asB d S) λb _ _ H'=>Q b H'):∃ k,v=.bl k/\Q k c:=by
 cases f with
 | bl b=>exact ⟨b,rfl,p.ret a c (Lat.refl _ _) e⟩
 | _=>exact p.elim
theorem pF (o:PE X a (tD X.K cl xe f)) (k:PE X b (tD X.K cl xe g)) (r:OpR X (compareOp op) (rP2 X.K cl xe h)) (n:behindInMarks op b=false) :
  PT X (.Compare a [op] [b] pos) (tBo X.K cl xe λρ=>bind (f ρ) λx=>bind (g ρ) λy=>bind (h x y) asB):=PT.imp (tL r o k n) λσ H Q ⟨μ,S,ρ,d,t,p⟩=>
 ⟨μ,S,ρ,d,t,p.bind.imp λx S1 c I s q j v m=>⟨c,S1,ρ,d.later s,q,j.bind.imp λy S2 μ2 J A D l u B=>⟨μ2,S2,x,y,m.later A,B,D,l.bind.imp λz F e E G C i w rw=>AV rw C i⟩⟩⟩
end
end L3
namespace HT
open PySem PySem.Spec PyProof.Rows
theorem noFill_tuple_mul:fillsNumberSlot (.type "tuple") "mul" = pure false:=
 PySem.fillsNumberSlot_seq F.slot_tuple_mul.lookup (by decide +kernel) F.slot_tuple_rmul.lookup (by decide +kernel)
theorem repeat_tuple:seqRepeat? (.type "tuple")=pure (some (.builtin "tuple.__mul__")):=by
 unfold seqRepeat?;rw [PySem.seqSlot_of (name:="__mul__") F.slot_tuple_mul.lookup (by decide +kernel),PySem.seqSlot_of (name:="__rmul__") F.slot_tuple_rmul.lookup (by decide +kernel)];rfl
theorem int_rmul_tuple (a:Int) (t:Tok) (l:Addr) (items:Array Value) (n:Nat) (b:Option Addr) (c:Array (Option Value)) :
  Meets (Builtin.«int.__rmul__» ⟨[.int a t,.ref l],[]⟩) (λ_ R s=>s.heap.get? l=some { cls:=.type "tuple",dict:=b,data:=.seq items n,slots:=c }/\R (.ok (.ret Value.notImplemented)) s):=
 .of_wp λprog w A R s h=>by obtain ⟨f,g,d,i,e⟩:=s;obtain ⟨j,h⟩:=h;wp_walk;exact ⟨_,rfl,h⟩
theorem tuple_mul1 (l:Addr) (items:Array Value) (n:Nat) (a:Option Addr) (b:Array (Option Value)) (u:Tok) :
  Meets (Builtin.«tuple.__mul__» ⟨[.ref l,.int 1 u],[]⟩) (λ_ R s=>s.heap.get? l=some { cls:=.type "tuple",dict:=a,data:=.seq items n,slots:=b }/\R (.ok (.ret (.ref l))) s):=
 .of_wp λprog w A R s h=>by obtain ⟨e,g,d,f,c⟩:=s;obtain ⟨i,h⟩:=h;wp_walk;exact ⟨_,rfl,h⟩
theorem gP {k:Int} (b:1<=k) (a:k<2 ^ 63):¬ ((decide (k < -(2 ^ 63))||decide (k≥2 ^ 63))=true):=by grind
theorem tuple_mul2 (l:Addr) (items:Array Value) (n:Nat) (r:Option Addr) (v:Array (Option Value)) (k:Int) (u:Tok) (a:¬ (items.isEmpty||k==1)=true) (B:2<=k) (p:k<2 ^ 63) (hsz:items.size * k.toNat<=sizeLine) :
  Meets (Builtin.«tuple.__mul__» ⟨[.ref l,.int k u],[]⟩) (λ_ R s=>s.heap.get? l=some { cls:=.type "tuple",dict:=r,data:=.seq items n,slots:=v }/\R (.ok (.ret (.ref s.heap.objs.size))) { s with heap:=s.heap.push { cls:=.type "tuple",data:=.seq ((List.replicate k.toNat items).foldl (·++·) #[]) } }):=
 .of_wp λprog w A R s h=>by
  obtain ⟨j,g,d,y,x⟩:=s;obtain ⟨t,h⟩:=h;have q:=gP (by omega) p;have e:=Iq;have i:((k.toNat:Nat):Int)=k:=Int.toNat_of_nonneg (by omega);have b:(items.size:Int) * k=((items.size * k.toNat:Nat):Int):=by rw [JH,i]
  have c:¬ (decide (k<=0)||items.isEmpty)=true:=by
   simp only [LF,Iz] at a ⊢;intro z;rcases z with z | z
   ·omega
   ·exact a (.inl z)
  have f:¬ ((items.size:Int) * k > (2 ^ 63-1) / 8):=by rw [b];omega
  have m:¬ Builtin.Tuple.tupleTooMany ((items.size:Int) * k)=true:=by
   rw [b];simp only [Builtin.Tuple.tupleTooMany,Iz];omega
  have hz:((List.replicate k.toNat items).foldl (·++·) #[]).size<=sizeLine:=by
   rw [AutoListH.size_joined,Nat.mul_comm];simpa using hsz
  wp_walk
  rw [if_neg q];have o:IsTup j l items:=⟨_,t,rfl,n,rfl⟩;refine Hz (Lo o ?_);rw [if_neg a];rw [if_neg c];rw [if_neg f];rw [if_neg m];refine Hz (IK ?_ hz);exact HQ ⟨_,rfl,h⟩
end HT
namespace L2
open PySem PySem.Spec PyProof.Rows
section
variable {X:Cx}
theorem sK:OpR X (binaryOp .Mult) (λx y H Q=>∃ a k xs,x=.ref a/\y=.int k/\SqT X.K H a xs/\xs≠[]/\1<=k/\k<2 ^ 63/\xs.length * k.toNat<=sizeLine/\(k=1->Q (.ref a) H)/\(k≠1->∀ p,H p=none->Q (.ref p) (upd H p (.tup (List.replicate k.toNat xs).flatten)))):=by
 intro pins s σ H x y v u Q I J C h;obtain ⟨a,k,xs,rfl,rfl,o,r,N,k2,hz,B,w⟩:=h;cases J;obtain ⟨t,rfl⟩:=C;obtain ⟨c,g,D,_⟩:=I.tuple o;obtain ⟨⟨E,e,j,f⟩,d,G,n,hd⟩:=id D;subst G hd;have L:=g.length;by_cases i:k=1
 ·subst i;exact Kd (by decide) ⟨_,d,rfl⟩ (λs'=>KI s' 1 t) HT.noFill_tuple_mul F.fills_int_mul F.slot_int_rmul HT.repeat_tuple F.slot_int_index.lookup
   (JA F.slot_int_rmul (KI s 1 t) F.entry_int_rmul (F.args_int_rmul_2 _ _) (HT.int_rmul_tuple 1 t a c.toArray n e f)
    ⟨d,rfl,⟨_,d,rfl⟩,JA F.slot_tuple_mul ⟨_,d,rfl⟩ F.entry_tuple_mul (F.args_tuple_mul_2 _ _) (HT.tuple_mul1 a c.toArray n e f t) ⟨d,.ref a,H,I,rfl,B rfl⟩⟩)
 ·have M:=λz=>r (g.nil_iff.mp z);have l:¬ (c.toArray.isEmpty||k==1)=true:=by
   simp only [LF,Kp];rintro (z | z)
   ·grind
   ·exact i z
  refine Kd (by decide) ⟨_,d,rfl⟩ (λs'=>KI s' k t) HT.noFill_tuple_mul F.fills_int_mul F.slot_int_rmul HT.repeat_tuple F.slot_int_index.lookup
   (JA F.slot_int_rmul (KI s k t) F.entry_int_rmul (F.args_int_rmul_2 _ _) (HT.int_rmul_tuple k t a c.toArray n e f)
    ⟨d,rfl,⟨_,d,rfl⟩,JA F.slot_tuple_mul ⟨_,d,rfl⟩ F.entry_tuple_mul (F.args_tuple_mul_2 _ _) (HT.tuple_mul2 a c.toArray n e f k t l (by omega) k2 (by rw [Ib,<- L];exact hz)) ⟨d,?_⟩⟩)
  have m:List.foldl (λA K=>A++K) #[] (List.replicate k.toNat c.toArray)=(List.replicate k.toNat c).flatten.toArray:=by
   have:=V1 c k.toNat [];rw [List.nil_append] at this;exact this
  rw [m];refine ⟨.ref s.heap.objs.size,_,I.laid (λb ob q=>HR _ q) (HV _) ?_,rfl,w i _ (I.hok.fresh (HV _))⟩;exact ⟨by rw [kU,Nat.mul_comm];exact hz,_,g.rep k.toNat,TupN.new _ _⟩
end
end L2
namespace L3
open PySem PySem.Spec PyProof.Rows L2
def lstOf (d:D):M (List D):=match d with
 | .lst ds=>ret ds
 | .ref n=>λS=>match S[n]? with
  | some (.lst ds)=>.ok ds S
  | _=>.bad
 | _=>bad
def N9 (d:D):M (List D):=match d with
 | .tup ds=>ret ds
 | .scr ds=>ret ds
 | d=>lstOf d
section
variable {K:PySem.W.Frag} {cl:Nat->Addr} {xe:Addr->Hp->Prop} {μ:Mp} {H:Hp} {S:Sto} {α:Type}
theorem p7 (rd:RD K μ H d v) (rp:Rep K cl μ S H) (p:Post K cl xe μ H (lstOf d S) G):∃ a xs ds,v=.ref a/\H a=some (.lst xs)/\RDs K μ H ds xs/\lstOf d S=.ok ds S:=by
 cases rd with
 | lst h r=>exact ⟨_,_,_,rfl,h.1,r,rfl⟩
 | ref e=>
  rename_i n a;simp only [lstOf] at p;cases q:S[n]? with
  | none=>rw [q] at p;exact p.elim
  | some o=>
   cases o with
   | lst ds=>
    obtain ⟨xs,h1,h2⟩:=rp.ats n _ a q e;exact ⟨a,xs,ds,rfl,h1,h2,by simp only [lstOf,q]⟩
   | dct _=>rw [q] at p;exact p.elim
   | exc _ _=>rw [q] at p;exact p.elim
 | _=>exact p.elim
theorem ff (rd:RD K μ H d v) (rp:Rep K cl μ S H) (p:Post K cl xe μ H (N9 d S) G):∃ a xs ds,v=.ref a/\(SqL K H a xs\/SqT K H a xs)/\RDs K μ H ds xs/\N9 d S=.ok ds S:=by
 cases rd with
 | tup h r=>exact ⟨_,_,_,rfl,.inr h.sq,r,rfl⟩
 | scr h r=>exact ⟨_,_,_,rfl,.inl h.sq,r,rfl⟩
 | lst h r=>exact ⟨_,_,_,rfl,.inl h.sq,r,rfl⟩
 | ref e=>
  obtain ⟨a,xs,ds,h1,h2,h3,h4⟩:=p7 (.ref e) rp p;exact ⟨a,xs,ds,h1,.inl (.inl (.inl h2)),h3,h4⟩
 | _=>exact p.elim
theorem Post.ok_bind {a:α} {G:β->Sto->Mp->Hp->Prop} (e:m S=.ok a S) (p:Post K cl xe μ H (L3.bind m k S) G):Post K cl xe μ H (k a S) G:=by
 unfold L3.bind at p;rw [e] at p;exact p
theorem M6 (b:Rep K cl μ S H) (r:RDs K μ H ds xs) (a:H p=none):Lat μ H μ (upd H p (.tup xs))/\Rep K cl μ S (upd H p (.tup xs))/\RD K μ (upd H p (.tup xs)) (.tup ds) (.ref p):=
 ⟨Lat.laid a,b.laid a,.tup (.inl ⟨.inl b8,b.notin a,b.notrs a⟩) (r.later (Lat.laid a))⟩
theorem M0 (b:Rep K cl μ S H) (r:RDs K μ H ds xs) (a:H p=none):Lat μ H μ (upd H p (.lst xs))/\Rep K cl μ S (upd H p (.lst xs))/\RD K μ (upd H p (.lst xs)) (.lst ds) (.ref p):=
 ⟨Lat.laid a,b.laid a,.lst ⟨b8,b.notin a,b.notrs a⟩ (r.later (Lat.laid a))⟩
theorem cJ (c:Rep K cl μ S H) (r:RDs K μ H ds xs) (b:H p=none):Lat μ H (μ.push p) (upd H p (.lst xs))/\Rep K cl (μ.push p) (S++[.lst ds]) (upd H p (.lst xs))/\RD K (μ.push p) (upd H p (.lst xs)) (.ref S.length) (.ref p):=by
 have k:∀ a u,H a=some u->upd H p (.lst xs) a=some u:=λa u e=>by rw [b6 (c8 e b)];exact e
 have l:=Lat.pushed (μ:=μ) b k;refine ⟨l,c.pushed b k ⟨xs,b8,r.later l⟩,.ref ?_⟩;show (μ.pl++[p])[S.length]?=some p;rw [<- c.len];simp
theorem Post.guard [Decidable c] {a:α} {G:α->Sto->Mp->Hp->Prop} (p:Post K cl xe μ H ((if c then L3.ret a else L3.bad) S) G):c/\∀ μ' H',Lat μ H μ' H'->Rep K cl μ' S H'->G a S μ' H':=by
 by_cases b:c
 ·rw [if_pos b] at p;exact ⟨b,p⟩
 ·rw [if_neg b] at p;exact p.elim
end
def j4 {a b:Type} (f:a->Option b):List a->Option (List b)
 | []=>some []
 | x :: xs=>match f x,j4 f xs with
  | some y,some ys=>some (y :: ys)
  | _,_=>none
def f9:Nat->Sto->D->Option PyData
 | 0,_,_=>none
 | n+1,S,d=>match d with
  | .non=>some .none
  | .bl b=>some (.bool b)
  | .int i=>some (.int i)
  | .str x=>some (.str x)
  | .tup ds=>(j4 (f9 n S) ds).map .tuple
  | .lst ds=>(j4 (f9 n S) ds).map .list
  | .scr ds=>(j4 (f9 n S) ds).map .list
  | .ref k=>match S[k]? with
   | some (.lst ds)=>(j4 (f9 n S) ds).map .list
   | _=>none
theorem eY {K:PySem.W.Frag} {μ:Mp} {H:Hp} {S:Sto} {n:Nat} (f:∀ {d:D} {v:V} {q:PyData},f9 n S d=some q->RD K μ H d v->DAt K H v q):∀ {ds:List D} {vs:List V} {a:List PyData},j4 (f9 n S) ds=some a->RDs K μ H ds vs->DAll K H vs a
 | [],_,a,e,r=>by cases r;cases e;exact .nil
 | d :: ds,_,a,e,r=>by
  cases r with
  | cons h t=>
   simp only [j4] at e;cases b:f9 n S d with
   | none=>rw [b] at e;cases e
   | some q=>
    cases c:j4 (f9 n S) ds with
    | none=>grind
    | some g=>
     rw [b,c] at e;cases e;exact .cons (f b h) (eY f c t)
theorem k9 {K:PySem.W.Frag} {cl:Nat->Addr} {μ:Mp} {H:Hp} {S:Sto} (rp:Rep K cl μ S H):∀ (n:Nat) {d:D} {v:V} {q:PyData},f9 n S d=some q->RD K μ H d v->DAt K H v q
 | 0,_,_,_,e,_=>by cases e
 | n+1,d,v,q,e,r=>by
  have all:∀ {ds:List D} {vs:List V} {qs:List PyData},j4 (f9 n S) ds=some qs->RDs K μ H ds vs->DAll K H vs qs:=λe r=>eY (λe r=>k9 rp n e r) e r;have um:∀ {ds:List D} {C:List PyData->PyData},(j4 (f9 n S) ds).map C=some q->∃ qs,j4 (f9 n S) ds=some qs/\q=C qs:=λ{ds C} e=>by
   cases e1:j4 (f9 n S) ds with
   | none=>rw [e1] at e;cases e
   | some qs=>grind
  cases r with
  | non=>cases e;exact .non
  | bl b=>cases e;exact .bl b
  | int i=>cases e;exact .int i
  | str x=>cases e;exact .str x
  | tup h t=>obtain ⟨qs,e1,rfl⟩:=um e;exact .tup h.sq (all e1 t)
  | lst h t=>obtain ⟨qs,e1,rfl⟩:=um e;exact .lst h.sq (all e1 t)
  | scr h t=>obtain ⟨qs,e1,rfl⟩:=um e;exact .lst h.sq (all e1 t)
  | ref h=>
   rename_i k a;simp only [f9] at e;cases q1:S[k]? with
   | none=>rw [q1] at e;cases e
   | some o=>
    rw [q1] at e;cases o with
    | lst ds=>
     obtain ⟨qs,e1,rfl⟩:=um e;obtain ⟨xs,h1,h2⟩:=rp.ats k _ a q1 h;exact .lst (.inl (.inl h1)) (all e1 h2)
    | dct _=>cases e
    | exc _ _=>cases e
def f7 (x y:D):M D:=match x,y with
 | .int i,.int j=>ret (.int (i+j))
 | .str a,.str b=>if a.length+b.length<=sizeLine then ret (.str (a++b)) else bad
 | .tup xs,.tup ys=>if xs.length+ys.length<=sizeLine then ret (.tup (xs++ys)) else bad
 | x,y=>bind (lstOf x) λxs=>bind (lstOf y) λys=>if xs.length+ys.length<=sizeLine then ret (.lst (xs++ys)) else bad
def A6 (x y:D):M D:=match x,y with
 | .int i,.int j=>ret (.int (i-j))
 | _,_=>bad
instance (i j:Int):Decidable (CMul i j):=by unfold CMul;infer_instance
instance (i j:Int):Decidable (rP i j):=by unfold rP;infer_instance
instance (i j:Int):Decidable (wh i j):=by unfold wh;infer_instance
def O8 (x y:D):M D:=match x,y with
 | .int i,.int j=>if 0<j then ret (.int (i % j)) else bad
 | _,_=>bad
def E8 (x y:D):M D:=match x,y with
 | .int i,.int j=>if rP i j then ret (.int (i / j)) else bad
 | _,_=>bad
def fE (x y:D):M D:=match x,y with
 | .int i,.int j=>if wh i j then ret (.int (i ^ j.toNat)) else bad
 | _,_=>bad
def p6 (x y:D):M D:=match x,y with
 | .int i,.int j=>if CMul i j then ret (.int (i * j)) else bad
 | .tup ds,.int k=>if (ds≠[]/\1<=k/\k<2 ^ 63)/\ds.length * k.toNat<=sizeLine then ret (.tup (List.replicate k.toNat ds).flatten) else bad
 | x,.int k=>bind (lstOf x) λxs=>if (-(2 ^ 63)<=k/\k<2 ^ 63)/\xs.length * k.toNat<=sizeLine then ret (.lst (List.replicate k.toNat xs).flatten) else bad
 | _,_=>bad
def qD (x y:D):M D:=match y with
 | .int k=>bind (lstOf x) λxs=>λS=>if (-(2 ^ 63)<=k/\k<2 ^ 63)/\xs.length * k.toNat<=sizeLine then .ok (.ref S.length) (S++[.lst (List.replicate k.toNat xs).flatten]) else .bad
 | _=>bad
section
variable {X:Cx} {cl:Nat->Addr} {xe:Addr->Hp->Prop}
theorem nV:OpR X (binaryOp .Add) (λx y H Q=>∃ a b ys,x=.ref a/\y=.ref b/\SqT X.K H a []/\SqT X.K H b ys/\Q (.ref b) H):=by
 intro pins s σ H x y v u Q I t z h;obtain ⟨a,b,ys,rfl,rfl,B,C,q⟩:=h;cases t;cases z;obtain ⟨w,p,F,_⟩:=I.tuple B;obtain ⟨d,J,G,_⟩:=I.tuple C;cases p;obtain ⟨⟨r,E,l,D⟩,k,o,n,hd⟩:=id F;obtain ⟨⟨m,g,j,f⟩,c,i,A,e⟩:=id G;subst o hd i e;exact concat_meets ⟨_,k,rfl⟩ ⟨_,c,rfl⟩ Lv LI Ky Ku (Kl _ _)
   (tuple_addW0 a b #[] d.toArray n A E g D f rfl) ⟨k,c,⟨.ref b,H,I,rfl,q⟩⟩
theorem CY:OpR X (binaryOp .Add) (rP2 X.K cl xe f7):=by
 intro pins s σ H x y v u Q I n o ⟨μ,S,d,e,A,B,c,p⟩;have L:Post X.K cl xe μ H (bind (lstOf d) (λxs=>bind (lstOf e) λys=>if xs.length+ys.length<=sizeLine then ret (.lst (xs++ys)) else bad) S) (λr _ μ' H'=>∀ v,RD X.K μ' H' r v->Q v H')->wpAny (model X.prog X.w) X.A (binaryOp .Add v u) (EP X pins σ Q) X.xe s:=λp=>by
  obtain ⟨a,xs,ds,rfl,q,m,E⟩:=p7 A c p.bind;have p:=p.ok_bind E;obtain ⟨b,ys,es,rfl,t,h,G⟩:=p7 B c p.bind;obtain ⟨k,p⟩:=(p.ok_bind G).guard;refine Ax pins s σ H _ _ v u Q I n o ⟨a,b,xs,ys,rfl,rfl,q,t,by rw [<- m.length,<- h.length];exact k,λz hz=>?_⟩;obtain ⟨l,f,g⟩:=M0 c (m.append h) hz;exact p μ _ l f _ g
 cases d <;> cases e <;> try (exact L p)
 case int.int i j=>cases A;cases B;exact zV pins s σ H _ _ v u Q I n o ⟨i,j,rfl,rfl,p μ H (Lat.refl _ _) c _ (.int _)⟩
 case str.str i j=>
  cases A;cases B;obtain ⟨k,p⟩:=Post.guard p;exact hQ pins s σ H _ _ v u Q I n o ⟨i,j,rfl,rfl,k,p μ H (Lat.refl _ _) c _ (.str _)⟩
 case tup.tup ds es=>
  obtain ⟨k,p⟩:=Post.guard p;cases A with
  | tup q m=>
   cases B with
   | tup t h=>
    rename_i a xs b ys;cases ds with
    | nil=>
     cases m;exact nV pins s σ H _ _ v u Q I n o ⟨a,b,ys,rfl,rfl,q.sq,t.sq,p μ H (Lat.refl _ _) c _ (.tup t h)⟩
    | cons d ds=>
     cases m with
     | cons D C=>
      rename_i K J;refine uH pins s σ H _ _ v u Q I n o ⟨a,b,_,ys,rfl,rfl,q.sq,t.sq,by simp,by rw [<- h.length];simpa [C.length] using k,λz=>?_,λz w F=>?_⟩
      ·subst z;cases h;rw [IF] at p;exact p μ H (Lat.refl _ _) c _ (.tup q (.cons D C))
      ·obtain ⟨l,f,g⟩:=M6 c ((RDs.cons D C).append h) F;exact p μ _ l f _ g
theorem Cg:OpR X (binaryOp .Sub) (rP2 X.K cl xe A6):=by
 intro pins s σ H x y v u Q I c f ⟨μ,S,d,e,b,a,g,p⟩;cases d <;> cases e <;> try (exact False.elim p)
 case int.int i j=>cases b;cases a;exact AC pins s σ H _ _ v u Q I c f ⟨i,j,rfl,rfl,p μ H (Lat.refl _ _) g _ (.int _)⟩
theorem EB:OpR X (binaryOp .Mod) (rP2 X.K cl xe O8):=by
 intro pins s σ H x y v u Q I f g ⟨μ,S,d,e,c,b,h,p⟩;cases d <;> cases e <;> try (exact False.elim p)
 case int.int i j=>
  cases c;cases b;obtain ⟨a,p⟩:=Post.guard p;exact Bb pins s σ H _ _ v u Q I f g ⟨i,j,rfl,rfl,a,p μ H (Lat.refl _ _) h _ (.int _)⟩
theorem AU:OpR X (binaryOp .FloorDiv) (rP2 X.K cl xe E8):=by
 intro pins s σ H x y v u Q I f g ⟨μ,S,d,e,c,b,h,p⟩;cases d <;> cases e <;> try (exact False.elim p)
 case int.int i j=>
  cases c;cases b;obtain ⟨a,p⟩:=Post.guard p;exact tX pins s σ H _ _ v u Q I f g ⟨i,j,rfl,rfl,a,p μ H (Lat.refl _ _) h _ (.int _)⟩
theorem Et:OpR X (binaryOp .Pow) (rP2 X.K cl xe fE):=by
 intro pins s σ H x y v u Q I f g ⟨μ,S,d,e,c,b,h,p⟩;cases d <;> cases e <;> try (exact False.elim p)
 case int.int i j=>
  cases c;cases b;obtain ⟨a,p⟩:=Post.guard p;exact zC pins s σ H _ _ v u Q I f g ⟨i,j,rfl,rfl,a,p μ H (Lat.refl _ _) h _ (.int _)⟩
theorem CA:OpR X (binaryOp .Mult) (rP2 X.K cl xe p6):=by
 intro pins s σ H x y v u Q I A B ⟨μ,S,d,e,t,n,h,p⟩;have L:∀ k:Int,e=.int k->Post X.K cl xe μ H (bind (lstOf d) (λxs=>if (-(2 ^ 63)<=k/\k<2 ^ 63)/\xs.length * k.toNat<=sizeLine then ret (.lst (List.replicate k.toNat xs).flatten) else bad) S) (λr _ μ' H'=>∀ v,RD X.K μ' H' r v->Q v H')->wpAny (model X.prog X.w) X.A (binaryOp .Mult v u) (EP X pins σ Q) X.xe s:=λk F q=>by
  clear p;subst F;cases n;obtain ⟨a,xs,ds,rfl,m,b,G⟩:=p7 t h q.bind;obtain ⟨⟨⟨o,k2⟩,g⟩,p⟩:=(q.ok_bind G).guard;refine rT pins s σ H _ _ v u Q I A B ⟨a,k,xs,rfl,rfl,m,o,k2,by rw [<- b.length];exact g,λz hz=>?_⟩;obtain ⟨l,c,f⟩:=M0 h (b.rep k.toNat) hz;exact p μ _ l c _ f
 cases d <;> cases e <;> try (exact False.elim p)
 case int.int i j=>
  cases t;cases n;obtain ⟨g,p⟩:=Post.guard p;exact AW pins s σ H _ _ v u Q I A B ⟨i,j,rfl,rfl,g,p μ H (Lat.refl _ _) h _ (.int _)⟩
 case tup.int ds k=>
  cases n;obtain ⟨⟨⟨D,o,k2⟩,g⟩,p⟩:=Post.guard p;cases t with
  | tup m b=>
   rename_i a xs;have C:xs≠[]:=λz=>by subst z;cases b;exact D rfl
   refine sK pins s σ H _ _ v u Q I A B ⟨a,k,xs,rfl,rfl,m.sq,C,o,k2,by rw [<- b.length];exact g,λz=>?_,λz w E=>?_⟩
   ·subst z;have e:(List.replicate (1:Int).toNat ds).flatten=ds:=by simp
    rw [e] at p;exact p μ H (Lat.refl _ _) h _ (.tup m b)
   ·obtain ⟨l,c,f⟩:=M6 h (b.rep k.toNat) E;exact p μ _ l c _ f
 all_goals exact L _ rfl p
theorem BM:OpR X (binaryOp .Mult) (rP2 X.K cl xe qD):=by
 intro pins s σ H x y v u Q I o r ⟨μ,S,d,e,n,j,h,p⟩;cases e <;> try (exact False.elim p)
 rename_i k;cases j;have p:=p;obtain ⟨a,xs,ds,rfl,q,g,t⟩:=p7 n h p.bind;have p:=p.ok_bind t;by_cases b:(-(2 ^ 63)<=k/\k<2 ^ 63)/\ds.length * k.toNat<=sizeLine
 ·rw [if_pos b] at p;obtain ⟨⟨m,k2⟩,i⟩:=b;refine rT pins s σ H _ _ v u Q I o r ⟨a,k,xs,rfl,rfl,q,m,k2,by rw [<- g.length];exact i,λz hz=>?_⟩;obtain ⟨l,c,f⟩:=cJ h (g.rep k.toNat) hz;exact p _ _ l c _ f
 ·rw [if_neg b] at p;exact p.elim
end
def eqP (a:Bool) (x y:D):M D:=λS=>match f9 64 S x,f9 64 S y with
 | some p,some q=>(if p.canLay0=true/\q.canLay0=true/\min p.depth q.depth<=60 then ret (.bl (if a then !PyData.eqv p q else PyData.eqv p q)) else bad) S
 | _,_=>.bad
def eqD (c:Bool) (x y:D):M D:=match x,y with
 | .str a,.str b=>ret (.bl (if c then !decide (a=b) else decide (a=b)))
 | .int a,.int b=>ret (.bl (if c then !decide (a=b) else decide (a=b)))
 | x,y=>eqP c x y
def pe (f:Int->Int->Bool) (x y:D):M D:=match x,y with
 | .int i,.int j=>ret (.bl (f i j))
 | _,_=>bad
def ko (a:Bool) (d:PyData) (ps:List PyData):M D:=if d.canLay0=true/\PyData.canLayAll0 ps=true/\min (PyData.depthAll ps) d.depth<=60 then ret (.bl (if a then !(ps.any λy=>PyData.eqv y d) else ps.any λy=>PyData.eqv y d)) else bad
def inD (a:Bool) (x y:D):M D:=λS=>match f9 64 S x,f9 64 S y with
 | some d,some (.list ps)=>ko a d ps S
 | some d,some (.tuple ps)=>ko a d ps S
 | _,_=>.bad
def isD (a:Bool) (x y:D):M D:=match y with
 | .non=>ret (.bl (match x with
  | .non=>!a
  | _=>a))
 | .bl b=>ret (.bl (match x with
  | .bl c=>if a then !(c==b) else c==b
  | _=>a))
 | _=>bad
section
variable {X:Cx} {cl:Nat->Addr} {xe:Addr->Hp->Prop}
theorem HJ (q:X.A.units+64<cLine):OpR X (compareOp .Eq) (rP2 X.K cl xe (eqD false)):=by
 intro pins s σ H x y v u Q I i k ⟨μ,S,d,e,j,l,c,p⟩;have g:Post X.K cl xe μ H (eqP false d e S) (λr _ μ' H'=>∀ v,RD X.K μ' H' r v->Q v H')->wpAny (model X.prog X.w) X.A (compareOp .Eq v u) (EP X pins σ Q) X.xe s:=λp=>by
  simp only [eqP] at p;cases f:f9 64 S d with
  | none=>rw [f] at p;exact p.elim
  | some a=>
   cases h:f9 64 S e with
   | none=>rw [f,h] at p;exact p.elim
   | some b=>
    rw [f,h] at p;obtain ⟨⟨m,n,o⟩,p⟩:=Post.guard p;exact zz q pins s σ H _ _ v u Q I i k ⟨a,b,k9 c 64 f j,k9 c 64 h l,m,n,o,p μ H (Lat.refl _ _) c _ (.bl _)⟩
 cases d <;> cases e <;> try (exact g p)
 case str.str a b=>
  cases j;cases l;exact Bx pins s σ H _ _ v u Q I i k ⟨rfl,by rw [show decide (V.str a=V.str b)=decide (a=b) by rw [KQ];simp];exact p μ H (Lat.refl _ _) c _ (.bl _)⟩
theorem GT (q:X.A.units+64<cLine):OpR X (compareOp .NotEq) (rP2 X.K cl xe (eqD true)):=by
 intro pins s σ H x y v u Q I i k ⟨μ,S,d,e,j,l,c,p⟩;have g:Post X.K cl xe μ H (eqP true d e S) (λr _ μ' H'=>∀ v,RD X.K μ' H' r v->Q v H')->wpAny (model X.prog X.w) X.A (compareOp .NotEq v u) (EP X pins σ Q) X.xe s:=λp=>by
  simp only [eqP] at p;cases f:f9 64 S d with
  | none=>rw [f] at p;exact p.elim
  | some a=>
   cases h:f9 64 S e with
   | none=>rw [f,h] at p;exact p.elim
   | some b=>
    rw [f,h] at p;obtain ⟨⟨m,n,o⟩,p⟩:=Post.guard p;exact BQ q pins s σ H _ _ v u Q I i k ⟨a,b,k9 c 64 f j,k9 c 64 h l,m,n,o,p μ H (Lat.refl _ _) c _ (.bl _)⟩
 cases d <;> cases e <;> try (exact g p)
 case str.str a b=>
  cases j;cases l;exact Ef pins s σ H _ _ v u Q I i k ⟨rfl,by rw [show decide (V.str a=V.str b)=decide (a=b) by rw [KQ];simp];exact p μ H (Lat.refl _ _) c _ (.bl _)⟩
theorem kH (h:OpR X (compareOp op) (rI0 λi j=>.bl (f i j))):OpR X (compareOp op) (rP2 X.K cl xe (pe f)):=by
 intro pins s σ H x y v u Q I b g ⟨μ,S,d,e,c,k,a,p⟩;cases d <;> cases e <;> try (exact False.elim p)
 case int.int i j=>cases c;cases k;exact h pins s σ H _ _ v u Q I b g ⟨i,j,rfl,rfl,p μ H (Lat.refl _ _) a _ (.bl _)⟩
theorem bt {a:Bool} (o:X.A.units+80<cLine) {pins:List (Addr×Obj)} {s:Shared} {σ:L2.St} {H:Hp} {x y:V} {v u:Value} {Q:VK} {d:PyData} {ps:List PyData} (I:Inv X pins σ H s) (l:RelV x v) (j:RelV y u)
  (hd:DAt X.K H x d) (f:DAt X.K H y (.list ps)\/DAt X.K H y (.tuple ps)) (c:d.canLay0=true/\PyData.canLayAll0 ps=true/\min (PyData.depthAll ps) d.depth<=60)
  (q:Q (.bl (if a then !(ps.any λy=>PyData.eqv y d) else ps.any λy=>PyData.eqv y d)) H):wpAny (model X.prog X.w) X.A (compareOp (if a then .NotIn else .In) v u) (EP X pins σ Q) X.xe s:=by
 obtain ⟨h,i,n⟩:=c;obtain ⟨m,g⟩:=hd.reads I l;have b:X.A.units+1+min (PyData.depthAll ps) d.depth<cLine:=by omega
 rcases f with f | f
 ·obtain ⟨k,e⟩:=f.reads I j;cases a with
  | false=>exact SeqAt.in_list_reads e g i h b ⟨.bl _,H,I,rfl,q⟩
  | true=>exact SeqAt.notIn_list_reads e g i h b ⟨.bl _,H,I,rfl,q⟩
 ·obtain ⟨k,e⟩:=f.reads I j;cases a with
  | false=>exact SeqAt.in_tuple_reads e g i h b ⟨.bl _,H,I,rfl,q⟩
  | true=>exact SeqAt.notIn_tuple_reads e g i h b ⟨.bl _,H,I,rfl,q⟩
theorem EE (neg:Bool) (hu:X.A.units+80<cLine):OpR X (compareOp (if neg then .NotIn else .In)) (rP2 X.K cl xe (inD neg)):=by
 intro pins s σ H x y v u Q I rx ry ⟨μ,S,d,e,rd,re,rp,p⟩;simp only [inD] at p;cases e1:f9 64 S d with
 | none=>rw [e1] at p;exact p.elim
 | some a=>
  cases e2:f9 64 S e with
  | none=>rw [e1,e2] at p;exact p.elim
  | some b=>
   rw [e1,e2] at p;have ha:=k9 rp 64 e1 rd;have hb:=k9 rp 64 e2 re;cases b with
   | list ps=>obtain ⟨c,p⟩:=Post.guard p;exact bt hu I rx ry ha (.inl hb) c (p μ H (Lat.refl _ _) rp _ (.bl _))
   | tuple ps=>obtain ⟨c,p⟩:=Post.guard p;exact bt hu I rx ry ha (.inr hb) c (p μ H (Lat.refl _ _) rp _ (.bl _))
   | _=>exact p.elim
theorem Dz (f:Bool):OpR X (compareOp (if f then .IsNot else .Is)) (rP2 X.K cl xe (isD f)):=by
 intro pins s σ H x y v u Q I a i ⟨μ,S,d,e,h,k,j,p⟩;have g:∀ b:Bool,(∀ μ' H',Lat μ H μ' H'->Rep X.K cl μ' S H'->∀ v,RD X.K μ' H' (.bl b) v->Q v H')->∀ c,c=b->EP X pins σ Q (.bool c) s:=λb p c e=>⟨.bl b,H,I,by rw [e];rfl,p μ H (Lat.refl _ _) j _ (.bl _)⟩;cases k <;> try (exact False.elim p)
 case non=>
  cases i;cases f with
  | false=>
   refine is_none_gen (g _ p _ ?_);cases h <;> first
    | (cases a;rfl)
    | (obtain ⟨t,rfl⟩:=a;rfl)
  | true=>
   refine isnot_none_gen (g _ p _ ?_);cases h <;> first
    | (cases a;rfl)
    | (obtain ⟨t,rfl⟩:=a;rfl)
 case bl b=>
  cases i;cases f with
  | false=>
   refine wpAny_is_plain ?_ (g _ p _ ?_)
   ·cases h <;> first
    | (cases a;rfl)
    | (obtain ⟨t,rfl⟩:=a;rfl)
   ·cases h <;> first
    | (cases a;rfl)
    | (obtain ⟨t,rfl⟩:=a;rfl)
    | (cases a;(rename_i c;cases c <;> cases b <;> rfl))
  | true=>
   refine wpAny_isNot_plain ?_ (g _ p _ ?_)
   ·cases h <;> first
    | (cases a;rfl)
    | (obtain ⟨t,rfl⟩:=a;rfl)
   ·cases h <;> first
    | (cases a;rfl)
    | (obtain ⟨t,rfl⟩:=a;rfl)
    | (cases a;(rename_i c;cases c <;> cases b <;> rfl))
end
def E6:D->Option Key
 | .int i=>some (.inl i)
 | .str x=>some (.inr x)
 | _=>none
def aj {κ:Type} [DecidableEq κ] (a:List (κ×D)) (k:κ):Option D:=(a.find? λb=>decide (b.1=k)).map (·.2)
def iL {κ:Type} [DecidableEq κ] (a:List (κ×D)) (k:κ) (v:D):List (κ×D):=if a.any (λb=>decide (b.1=k)) then a.map (λb=>if b.1=k then (b.1,v) else b) else a++[(k,v)]
def dU {b:Type}:Option b->M b
 | some a=>ret a
 | none=>bad
def ixD (x y:D):M D:=match x with
 | .ref n=>λS=>match S[n]? with
  | some (.lst ds)=>(match y with
   | .int i=>dU (atI ds i)
   | _=>bad) S
  | some (.dct a)=>dU ((E6 y).bind (aj a)) S
  | _=>.bad
 | x=>match y with
  | .int i=>bind (N9 x) λds=>dU (atI ds i)
  | _=>bad
theorem zM {K:PySem.W.Frag} {μ:Mp} {H:Hp} {ds:List D} {xs:List V} {i:Int} {d:D} (r:RDs K μ H ds xs) (e:atI ds i=some d):∃ v,atI xs i=some v/\RD K μ H d v:=by
 unfold atI at e ⊢;rw [<- r.length];cases q:ixN ds.length i with
 | none=>rw [q] at e;cases e
 | some j=>rw [q] at e;exact r.get e
theorem je {K:PySem.W.Frag} {cl:Nat->Addr} {xe:Addr->Hp->Prop} {μ:Mp} {H:Hp} {S:Sto} {b:Type} {o:Option b} {G:b->Sto->Mp->Hp->Prop} (p:Post K cl xe μ H (dU o S) G):∃ a,o=some a/\∀ μ' H',Lat μ H μ' H'->Rep K cl μ' S H'->G a S μ' H':=by
 cases o with
 | none=>exact p.elim
 | some a=>exact ⟨a,rfl,p⟩
theorem dm {K:PySem.W.Frag} {μ:Mp} {H:Hp} {k:Key} {d:D}:∀ {a:List (Key×D)} {f:List (Key×V)},KvsAt K μ H a f->aj a k=some d->∃ v,O1 f k=some v/\RD K μ H d v
 | _,_,.nil,e=>by simp [aj] at e
 | p :: r,q :: j,.cons ⟨c,i⟩ t,e=>by
  unfold aj at e;rw [Js] at e;by_cases b:p.1=k
  ·simp only [b,decide_true] at e;cases e;exact ⟨q.2,Q2 (c▸b),i⟩
  ·simp only [b,decide_false] at e;obtain ⟨v,g,h⟩:=dm t e;exact ⟨v,by rw [R8 (c▸b)];exact g,h⟩
theorem Q8 {K:PySem.W.Frag} {μ:Mp} {H:Hp} {y:D} {v:V} {k:Key} (r:RD K μ H y v) (e:E6 y=some k):v=kV k:=by
 cases r <;> simp only [E6] at e <;> first | (cases e;rfl) | cases e
section
variable {X:Cx} {cl:Nat->Addr} {xe:Addr->Hp->Prop}
theorem vC (o:X.A.units+1<cLine):IxR X (λx y H Q=>∃ a v,x=.ref a/\DGet H a y (some v)/\Q v H):=by
 intro d c pins s σ H x y v u Q I m n h hs;obtain ⟨a,w,rfl,g,q⟩:=h;cases m;have k:=ek I g;have i:wpAny (model X.prog X.w) X.A (getItem (.ref a) u) (EP X pins σ Q) X.xe s:=lA o I g n λw' p l j=>⟨w,H,l,j,q⟩;refine Hz ?_;rw [getitemInPython_of_ne k.not_modules];refine Hz (wpAny_specialOf k PySem.F.slot_dict_getitem.lookup ?_);have e:wpAny (model X.prog X.w) X.A (subscripted c false (.ref a) u) (λr b=>wpAny (model X.prog X.w) X.A (letTemporaryGo d (.ref a) r >>= λ_=>pure r) (EP X pins σ Q) X.xe b) X.xe s:=by
  rw [hs];exact wpAny_operating (IJ i (λr b f=>Hz (wpAny_letTemporaryGo (HQ f))) λ_ _ x=>x)
 first
  | exact HQ (Hz e)
  | exact Hz (HQ (Hz e))
  | exact Hz e
theorem Gw (hu:X.A.units+1<cLine):IxR X (rP2 X.K cl xe ixD):=by
 intro value slice pins s σ H x y v u Q I rx ry ⟨μ,S,d,e,rd,re,rp,p⟩ hs;have sq:∀ {a:Addr} {xs:List V} {ds:List D} {i:Int},(SqL X.K H a xs\/SqT X.K H a xs)->RDs X.K μ H ds xs->x=.ref a->e=.int i->Post X.K cl xe μ H (dU (atI ds i) S) (λr _ μ' H'=>∀ v,RD X.K μ' H' r v->Q v H') ->
   wpAny (model X.prog X.w) X.A (subscriptTail value slice v u) (EP X pins σ Q) X.xe s:=λ{a xs ds i} hq r hx he q=>by
  clear p;subst hx he;cases re;obtain ⟨z,e1,q⟩:=je q;obtain ⟨w,e2,rw'⟩:=zM r e1;rcases hq with hq | hq
  ·exact tS value slice pins s σ H _ _ v u Q I rx ry ⟨a,xs,i,w,rfl,rfl,hq,e2,q μ H (Lat.refl _ _) rp _ rw'⟩ hs
  ·exact yu value slice pins s σ H _ _ v u Q I rx ry ⟨a,xs,i,w,rfl,rfl,hq,e2,q μ H (Lat.refl _ _) rp _ rw'⟩ hs
 cases rd with
 | tup h r=>
  cases e <;> first | exact False.elim p | exact sq (.inr h.sq) r rfl rfl p
 | lst h r=>
  cases e <;> first | exact False.elim p | exact sq (.inl h.sq) r rfl rfl p
 | scr h r=>
  cases e <;> first | exact False.elim p | exact sq (.inl h.sq) r rfl rfl p
 | ref h=>
  rename_i n a;simp only [ixD] at p;cases q1:S[n]? with
  | none=>rw [q1] at p;exact p.elim
  | some o=>
   rw [q1] at p;cases o with
   | lst ds=>
    obtain ⟨xs,h1,h2⟩:=rp.ats n _ a q1 h;cases e <;> first | exact False.elim p | exact sq (.inl (.inl (.inl h1))) h2 rfl rfl p
   | dct kvs=>
    obtain ⟨ks,h1,h2⟩:=rp.ats n _ a q1 h;obtain ⟨z,e1,p⟩:=je p;cases e2:E6 e with
    | none=>rw [e2] at e1;cases e1
    | some k=>
     rw [e2] at e1;obtain ⟨w,e3,r3⟩:=dm h2 e1;have hy:=Q8 re e2;subst hy;exact vC hu value slice pins s σ H _ _ v u Q I rx ry ⟨a,w,rfl,by rw [<- e3];exact DGet.k h1,p μ H (Lat.refl _ _) rp _ r3⟩ hs
   | exc _ _=>exact p.elim
 | _=>cases e <;> exact False.elim p
def L4 (ds:List D) (lo a:Option Int):List D:=(ds.drop (HT.sIx ds.length 0 lo)).take (HT.sIx ds.length ds.length a-HT.sIx ds.length 0 lo)
theorem rG {K:PySem.W.Frag} {μ:Mp} {H:Hp} {ds:List D} {xs:List V} (r:RDs K μ H ds xs) (lo a:Option Int):RDs K μ H (L4 ds lo a) (lJ xs lo a):=by
 unfold L4 lJ;rw [<- r.length];exact (r.drop _).take _
def slD (x:D) (lo a:Option Int):M D:=match x with
 | .tup ds=>ret (.tup (L4 ds lo a))
 | x=>bind (match x with
  | .scr ds=>ret ds
  | x=>lstOf x) λds=>ret (.lst (L4 ds lo a))
end
def noStar:Expr->Bool
 | .Starred ..=>false
 | _=>true
def r8:Expr->Bool
 | .ListComp ..=>false
 | .SetComp ..=>false
 | .DictComp ..=>false
 | _=>true
def G4:Expr->Bool
 | .Slice ..=>false
 | _=>true
def v4:Expr->Bool
 | .Set ..=>false
 | _=>true
def v1:Expr->Bool
 | .Call (.Name _ _) [] [] _=>false
 | _=>true
def E5:Expr->Bool
 | .UnaryOp .Not _ _=>false
 | .BoolOp ..=>false
 | .IfExp ..=>false
 | .Compare ..=>false
 | _=>true
theorem d8 (h:noStar e=true):starEach (e :: es) env=(false,eval e env) :: starEach es env:=by
 cases e <;> first | rfl | (exact absurd h (by simp [noStar]))
theorem j1:∀ {es:List Expr} {a:PySem.Env} {pos:Pos},es.all noStar=true->(backTo pos (starEach es a)).any (·.1)=false
 | [],_,_,_=>rfl
 | e :: es,a,pos,h=>by
  rw [IQ,HS] at h;rw [d8 h.1];show (false||(backTo pos (starEach es a)).any (·.1))=false;rw [j1 h.2];rfl
theorem au:∀ {es:List Expr} {a:PySem.Env} {pos:Pos},es.all noStar=true->(backTo pos (starEach es a)).all (λx=>!x.1)=true
 | [],_,_,_=>rfl
 | e :: es,a,pos,h=>by
  rw [IQ,HS] at h;rw [d8 h.1];show (!false&&(backTo pos (starEach es a)).all (λx=>!x.1))=true;rw [au h.2];rfl
theorem F7 (h:r8 e=true):swapsWith e t n env=pure false:=by
 cases e <;> first | rfl | (exact absurd h (by simp [r8]))
theorem ia (h:G4 e=true):dP e:=by
 intro o i;cases e <;> first | rfl | (exact absurd h (by simp [G4]))
theorem U3 {e:Expr} (h:v4 e=true):behindInMarks op e=false:=by
 cases e <;> first | rfl | (exact absurd h (by simp [v4]))
theorem w9 (h:v4 e=true):∀ x,foldedSetIterable e env x=pure x:=by
 intro x;cases e <;> first | rfl | (exact absurd h (by simp [v4]))
theorem G5 (h:v1 o=true):attributeBase o f env (eval o env)=eval o env:=by
 unfold attributeBase;split
 ·exact absurd h (by simp [v1])
 ·rfl
theorem test_of (h:E5 e=true):∀ a,isTrue e env a=(do let v <- a;standAt e.pos;holding [v] (truthy v)):=by
 intro a;cases e <;> first
  | rfl
  | (rename_i op _ _;cases op <;> first | rfl | (exact absurd h (by simp [E5])))
  | (exact absurd h (by simp [E5]))
section
variable {X:Cx} {cl:Nat->Addr} {xe:Addr->Hp->Prop} {e:Expr} {es:List Expr} {pos:Pos} {f:Env->M D} {fs:Env->M (List D)}
theorem tT:PA X [] (tDs X.K cl xe λ_=>ret []):=PA.imp B0 λσ H Q ⟨μ,S,ρ,b,a,p⟩=>p.ret μ H (Lat.refl _ _) a [] .nil
theorem nI (h:PE X e (tD X.K cl xe f)) (hs:PA X es (tDs X.K cl xe fs)) (m:noStar e=true):PA X (e :: es) (tDs X.K cl xe λρ=>bind (f ρ) λd=>bind (fs ρ) λds=>ret (d :: ds)):=
 PA.imp (i9 h hs (d8 m)) λσ H Q ⟨μ,S,ρ,c,l,p⟩=>
  ⟨μ,S,ρ,c,l,p.bind.imp λd S1 b s q r i v g=>⟨b,S1,ρ,c.later q,r,i.bind.imp λds S2 μ2 j o n k vs a=>k.ret μ2 j (Lat.refl _ _) n _ (.cons (g.later o) a)⟩⟩
def yV (ds:List D):M D:=if ds.length<=sizeLine then ret (.tup ds) else bad
def yn (ds:List D):M D:=if ds.length<=sizeLine then ret (.lst ds) else bad
theorem Aw (h:PA X es (tDs X.K cl xe fs)):PE X (.Tuple es k pos) (tD X.K cl xe λρ=>bind (fs ρ) yV):=PE.imp (nU h) λσ H Q ⟨μ,S,ρ,i,g,p⟩=>
 ⟨μ,S,ρ,i,g,p.bind.imp λds S1 e m n j c vs a=>by
  obtain ⟨f,c⟩:=Post.guard c;refine ⟨by rw [<- a.length];exact f,λz hz=>?_⟩;obtain ⟨l,b,d⟩:=M6 j a hz;exact c e _ l b _ d⟩
theorem zq (h:PA X es (tDs X.K cl xe fs)):PE X (.List es pos) (tD X.K cl xe λρ=>bind (fs ρ) yn):=PE.imp (ou h) λσ H Q ⟨μ,S,ρ,i,g,p⟩=>
 ⟨μ,S,ρ,i,g,p.bind.imp λds S1 e k m j c vs a=>by
  obtain ⟨f,c⟩:=Post.guard c;refine ⟨by rw [<- a.length];exact f,λz hz=>?_⟩;obtain ⟨l,b,d⟩:=M0 j a hz;exact c e _ l b _ d⟩
def newL (ds:List D):M D:=λS=>if ds.length<=sizeLine then .ok (.ref S.length) (S++[.lst ds]) else .bad
theorem sw (h:PA X es (tDs X.K cl xe fs)):PE X (.List es pos) (tD X.K cl xe λρ=>bind (fs ρ) newL):=PE.imp (ou h) λσ H Q ⟨μ,S,ρ,i,g,p⟩=>
 ⟨μ,S,ρ,i,g,p.bind.imp λds S1 f k m j a vs b=>by
  unfold newL at a;by_cases e:ds.length<=sizeLine
  ·rw [if_pos e] at a;refine ⟨by rw [<- b.length];exact e,λz hz=>?_⟩;obtain ⟨l,c,d⟩:=cJ j b hz;exact a _ _ l c _ d
  ·rw [if_neg e] at a;exact a.elim⟩
def iW (E:XK):Addr->Hp->Prop:=λa H=>E (.ref a) none H
def spD (K:PySem.W.Frag) (cl:Nat->Addr) (n:Nat) (a:List D->M D):Sp:=λvs H Q E=>vs.length=n/\∃ μ S ds,RDs K μ H ds vs/\Rep K cl μ S H/\Post K cl (iW E0) μ H (a ds S) λd _ μ' H'=>∀ v,RD K μ' H' d v->Q v H'
theorem wJ {k n:Nat} {a:Addr} {fd:FuncData} {ps:List Str} {E:XK} {x:Str} {p:Pos} {c:List D->M D} (w:ps.length=n) (F:FnOk X.prog X.w X.K X.mg X.base CX k a fd ps (spD X.K cl n c)) (o:Room CX.q k X.A) (j:Gl X x) (r:X.mg x=some (.ref a)) (m:PySem.W.keepIn X.K (.ref a)=true) (q:Binds X.K fd ps []) (s:z0 CX X E)
  (t:PA X (e :: es) (tDs X.K cl (iW E0) fs)) (f:(x==("__debug__" : Str))=false) (hs:(e :: es).all noStar=true) (u:(e :: es).length=n) :
  PE X (.Call (.Name x p) (e :: es) [] pos) (tD X.K cl (iW E0) λρ=>bind (fs ρ) λds=>if ds.length=n then c ds else bad):=by
 rw [IQ,HS] at hs;exact PE.imp (jS F o j r m q .nil s t f (d8 hs.1) (j1 hs.2)) λσ H Q ⟨μ,S,ρ,h,l,p⟩=>
  ⟨μ,S,ρ,h,l,p.bind.imp λds S1 g v y i d vs b=>by
   by_cases hd:ds.length=n
   ·rw [if_pos hd] at d;exact ⟨by rw [IF,<- b.length];exact hd,g,S1,ds,by rw [IF];exact b,i,d⟩
   ·rw [if_neg hd] at d;exact d.elim⟩
theorem pX {id:String} {x:Str} {p:Pos} (d:j6 X (.builtin id) (rPs X.K cl xe g)) (o:Gl X x) (k:X.mg x=none) (h:bootBuiltins x=some (.builtin id)) (m:PA X (e :: es) (tDs X.K cl xe fs)) (j:x ≠ "__name__") (c:(x==("__debug__" : Str))=false) (hs:(e :: es).all noStar=true) :
  PE X (.Call (.Name x p) (e :: es) [] pos) (tD X.K cl xe λρ=>bind (fs ρ) g):=by
 rw [IQ,HS] at hs;exact PE.imp (Q1 d o k h m j c (d8 hs.1) (j1 hs.2)) λσ H Q ⟨μ,S,ρ,l,i,p⟩=>⟨μ,S,ρ,l,i,p.bind.imp λds S1 b q r n f vs a=>⟨b,S1,ds,a,n,f⟩⟩
theorem rW {T:String} {x:Str} {p:Pos} (d:j6 X (.type T) (rPs X.K cl xe g)) (o:Gl X x) (k:X.mg x=none) (h:bootBuiltins x=some (.type T)) (m:PA X (e :: es) (tDs X.K cl xe fs)) (j:x ≠ "__name__") (c:(x==("__debug__" : Str))=false) (hs:(e :: es).all noStar=true) :
  PE X (.Call (.Name x p) (e :: es) [] pos) (tD X.K cl xe λρ=>bind (fs ρ) g):=by
 rw [IQ,HS] at hs;exact PE.imp (lB d o k h m j c (d8 hs.1) (j1 hs.2)) λσ H Q ⟨μ,S,ρ,l,i,p⟩=>⟨μ,S,ρ,l,i,p.bind.imp λds S1 b q r n f vs a=>⟨b,S1,ds,a,n,f⟩⟩
end
def one (g:D->M D) (ds:List D):M D:=match ds with
 | [d]=>g d
 | _=>bad
def e8 (d:D):M D:=match d with
 | .str x=>if x.length<=sizeLine then ret (.int x.length) else bad
 | .ref n=>λS=>match S[n]? with
  | some (.lst ds)=>.ok (.int ds.length) S
  | some (.dct a)=>.ok (.int a.length) S
  | _=>.bad
 | d=>bind (N9 d) λds=>ret (.int ds.length)
def m9 (d:D):M D:=match d with
 | .tup ds=>ret (.tup ds)
 | d=>bind (N9 d) λds=>ret (.tup ds)
instance (p:PyData):Decidable (Shows p):=decidable_of_iff (p.showable=true/\p.hasDict=false/\p.depth<=60/\p.shown.length<=sizeLine) ⟨λ⟨a,b,c,d⟩=>⟨a,b,c,d⟩,λ⟨a,b,c,d⟩=>⟨a,b,c,d⟩⟩
def p8 (d:D):M D:=λS=>match f9 64 S d with
 | some p=>(if Shows p then ret (.str p.shown) else bad) S
 | none=>.bad
theorem fu {K:PySem.W.Frag} {μ:Mp} {H:Hp} {d:D} {vs:List V} (r:RDs K μ H [d] vs):∃ v,vs=[v]/\RD K μ H d v:=by
 cases r with
 | cons h t=>cases t;exact ⟨_,rfl,h⟩
section
variable {X:Cx} {cl:Nat->Addr} {xe:Addr->Hp->Prop}
theorem U5 (h:∀ (pins:List (Addr×Obj)) (s:Shared) (σ:L2.St) (H:Hp) (μ:Mp) (S:Sto) (d:D) (v:V) (us:List Value) (Q:VK),L2.Inv X pins σ H s->Vals [v] us->RD X.K μ H d v->Rep X.K cl μ S H->Post X.K cl xe μ H (g d S) (λr _ μ' H'=>∀ v,RD X.K μ' H' r v->Q v H') ->
  wpAny (model X.prog X.w) X.A (call f us) (EP X pins σ Q) X.xe s):j6 X f (rPs X.K cl xe (one g)):=by
 intro pins s σ H xs us Q I r ⟨μ,S,ds,a,c,p⟩
 match ds,p with
 | [d],p=>
  obtain ⟨v,rfl,b⟩:=fu a;exact h pins s σ H μ S d v us Q I r b c p
 | [],p=>exact p.elim
 | _ :: _ :: _,p=>exact p.elim
theorem Cu:j6 X (.builtin "len") (rPs X.K cl xe (one e8)):=U5 λpins s σ H μ S d v us Q I r rd rp p=>by
 have sq:∀ {a:Addr} {xs:List V} {ds:List D},(SqL X.K H a xs\/SqT X.K H a xs)->RDs X.K μ H ds xs->v=.ref a->(∀ μ' H',Lat μ H μ' H'->Rep X.K cl μ' S H'->∀ w,RD X.K μ' H' (.int ds.length) w->Q w H')->wpAny (model X.prog X.w) X.A (call (.builtin "len") us) (EP X pins σ Q) X.xe s:=λ{a xs ds} hq r2 hv q=>by
  subst hv;exact dj pins s σ H _ us Q I r ⟨a,xs,rfl,hq,by rw [<- r2.length];exact q μ H (Lat.refl _ _) rp _ (.int _)⟩
 cases rd with
 | str x=>
  obtain ⟨hl,p⟩:=Post.guard p;exact cy pins s σ H _ us Q I r ⟨x,rfl,hl,p μ H (Lat.refl _ _) rp _ (.int _)⟩
 | tup h r2=>exact sq (.inr h.sq) r2 rfl p
 | lst h r2=>exact sq (.inl h.sq) r2 rfl p
 | scr h r2=>exact sq (.inl h.sq) r2 rfl p
 | ref h=>
  rename_i n a;simp only [e8] at p;cases q1:S[n]? with
  | none=>rw [q1] at p;exact p.elim
  | some o=>
   rw [q1] at p;cases o with
   | lst ds=>
    obtain ⟨xs,h1,h2⟩:=rp.ats n _ a q1 h;exact sq (.inl (.inl (.inl h1))) h2 rfl p
   | dct kvs=>
    obtain ⟨ks,h1,h2⟩:=rp.ats n _ a q1 h;have hl:=Paired.length h2;exact mE pins s σ H _ us Q I r ⟨a,ks,rfl,h1,by rw [<- hl];exact p μ H (Lat.refl _ _) rp _ (.int _)⟩
   | exc _ _=>exact p.elim
 | _=>exact False.elim p
theorem wF:j6 X (.type "tuple") (rPs X.K cl xe (one m9)):=U5 λpins s σ H μ S d v us Q I r rd rp p=>by
 have sq:∀ {a:Addr} {xs:List V} {ds:List D},SqL X.K H a xs->RDs X.K μ H ds xs->v=.ref a->(∀ μ' H',Lat μ H μ' H'->Rep X.K cl μ' S H'->∀ w,RD X.K μ' H' (.tup ds) w->Q w H')->wpAny (model X.prog X.w) X.A (call (.type "tuple") us) (EP X pins σ Q) X.xe s:=λ{a xs ds} hq r2 hv q=>by
  subst hv;refine O0 pins s σ H _ us Q I r ⟨a,xs,rfl,.inl ⟨hq,λz hz=>?_⟩⟩;obtain ⟨l,rp2,rd2⟩:=M6 rp r2 hz;exact q μ _ l rp2 _ rd2
 cases rd with
 | tup h r2=>exact O0 pins s σ H _ us Q I r ⟨_,_,rfl,.inr ⟨h.sq,p μ H (Lat.refl _ _) rp _ (.tup h r2)⟩⟩
 | lst h r2=>exact sq h.sq r2 rfl p
 | scr h r2=>exact sq h.sq r2 rfl p
 | ref h=>
  rename_i n a0;have p2:=p;obtain ⟨a,xs,ds,e1,h1,h2,e2⟩:=p7 (.ref h) rp p2.bind;exact sq (.inl (.inl h1)) h2 e1 (p2.ok_bind e2)
 | _=>exact False.elim p
theorem zU (e:X.A.guards=some []) (f:X.A.units+64<cLine):j6 X (.builtin "repr") (rPs X.K cl xe (one p8)):=U5 λpins s σ H μ S d v us Q I r c b p=>by
 simp only [p8] at p;cases a:f9 64 S d with
 | none=>rw [a] at p;exact p.elim
 | some q=>
  rw [a] at p;obtain ⟨hs,p⟩:=Post.guard p;exact lg e f pins s σ H _ us Q I r ⟨v,q,rfl,k9 b 64 a c,hs,p μ H (Lat.refl _ _) b _ (.str _)⟩
end
def Mp.free (μ:Mp):Mp:=⟨μ.pl,μ.rs.tail⟩
section
variable {K:PySem.W.Frag} {cl:Nat->Addr} {xe:Addr->Hp->Prop} {μ μ2:Mp} {S S2:Sto} {H H2:Hp} {p:Addr} {o:HO}
theorem sP (i:Rep K cl μ S H) (h:H p=none):(∀ {d:D} {v:V},RD K μ H d v->RD K (μ.hold p) (upd H p o) d v)/\∀ {ds:List D} {vs:List V},RDs K μ H ds vs->RDs K (μ.hold p) (upd H p o) ds vs:=by
 have c:∀ a u,H a=some u->a∉μ.pl->a∉μ.rs->upd H p o a=some u/\a∉(μ.hold p).pl/\a∉(μ.hold p).rs:=λa u e f g=>by
  have b:=c8 e h;exact ⟨by rw [b6 b];exact e,f,λz=>(Ii.mp z).elim b g⟩
 exact ⟨λr=>r.move (μ:=μ) (μ':=μ.hold p) (λ_ _ e=>e) c,λr=>r.move (μ:=μ) (μ':=μ.hold p) (λ_ _ e=>e) c⟩
theorem R3 (c:Rep K cl μ S H) (b:H p=none):Rep K cl (μ.hold p) S (upd H p o):=by
 have j:∀ a u,H a=some u->a∉μ.pl->a∉μ.rs->upd H p o a=some u/\a∉(μ.hold p).pl/\a∉(μ.hold p).rs:=λa u e g h=>by
  have d:=c8 e b;exact ⟨by rw [b6 d];exact e,g,λz=>(Ii.mp z).elim d h⟩
 refine c.move (λa m=>?_) rfl (λa m=>b6 λz=>c.notin b (z▸m)) (λa u e=>by rw [b6 (c8 e b)];exact e) j;rcases Ii.mp (m) with rfl | m
 ·exact ⟨c.notin b,o,b8⟩
 ·obtain ⟨i,u,f⟩:=c.res a m;exact ⟨i,u,by rw [b6 (c8 f b)];exact f⟩
theorem R6 (b:Rep K cl μ S H) (c:H p=none) (a:EnvOk K μ H ρ σ):EnvOk K (μ.hold p) (upd H p o) ρ σ:=⟨a.1,λi d e=>let ⟨v,q,r⟩:=a.2 i d e;⟨v,q,(sP b c).1 r⟩⟩
theorem fP (r:RDs K μ H ds vs):RDs K μ.free H ds vs:=r.move (μ:=μ) (μ':=μ.free) (λ_ _ e=>e) λa u e b c=>⟨e,b,λz=>c (KP z)⟩
theorem aU (b:Rep K cl μ S H):Rep K cl μ.free S H:=b.move (λa m=>b.res a (KP m)) rfl (λ_ _=>rfl) (λ_ _ e=>e) λa u e c d=>⟨e,c,λz=>d (KP z)⟩
theorem U1 (e:μ.rs=p :: rs) (r:RDs K μ H ds vs):RDs K μ (upd H p o) ds vs:=r.move (λ_ _ e=>e) λa u q c b=>⟨by rw [b6 (λz=>b (by rw [e,z];exact HY))];exact q,c,b⟩
theorem aG (e:μ.rs=p :: rs) (r:RD K μ H d v):RD K μ (upd H p o) d v:=r.move (λ_ _ e=>e) λa u q c b=>⟨by rw [b6 (λz=>b (by rw [e,z];exact HY))];exact q,c,b⟩
theorem V3 (e:μ.rs=p :: rs) (h:H p=some (.lst xs)) (b:Rep K cl μ S H):Rep K cl μ S (upd H p o):=by
 have g:=(b.res p (by rw [e];exact HY)).1;refine b.move (λa m=>?_) rfl (λa m=>b6 λz=>g (z▸m)) (λa u q=>by rw [b6 (jp q h (by intro z;cases z))];exact q) λa u q f c=>⟨by rw [b6 (λz=>c (by rw [e,z];exact HY))];exact q,f,c⟩;obtain ⟨d,u,i⟩:=b.res a m;by_cases z:a=p
 ·subst z;exact ⟨d,o,b8⟩
 ·exact ⟨d,u,by rw [b6 z];exact i⟩
end
inductive Fl where
 | nx (ρ:Env) | rt (d:D) | bk (ρ:Env) | ct (ρ:Env)
def FlOk (K:PySem.W.Frag) (D:Ends) (a:Fl) (μ:Mp) (H:Hp):Prop:=match a with
 | .nx ρ=>∀ σ,EnvOk K μ H ρ σ->D.nx σ H
 | .rt d=>∀ v,RD K μ H d v->D.rt v H
 | .bk ρ=>∀ σ,EnvOk K μ H ρ σ->D.bk σ H
 | .ct ρ=>∀ σ,EnvOk K μ H ρ σ->D.ct σ H
def sD (K:PySem.W.Frag) (cl:Nat->Addr) (xe:Addr->Hp->Prop) (f:Env->M Fl):TS:=λD σ H=>∃ μ S ρ,EnvOk K μ H ρ σ/\Rep K cl μ S H/\Post K cl xe μ H (f ρ S) λa _ μ' H'=>FlOk K D a μ' H'
def DK (f g:Env->M Fl) (ρ:Env):M Fl:=bind (f ρ) λa=>match a with
 | .nx b=>g b
 | a=>ret a
section
variable {X:Cx} {cl:Nat->Addr} {xe:Addr->Hp->Prop} {e:Expr} {st:Stmt} {sts:List Stmt} {pos:Pos} {f:Env->M D} {g h:Env->M Fl}
theorem P2:PS X st (sD X.K cl xe λ_=>bad):=λ_ _ _ _ _ _ ⟨_,_,_,_,_,p⟩=>p.elim
theorem oz:PSs X [] (sD X.K cl xe λρ=>ret (.nx ρ)):=PSs.imp tK λD σ H ⟨μ,S,ρ,b,a,p⟩=>p.ret μ H (Lat.refl _ _) a σ b
theorem uI (h1:PS X st (sD X.K cl xe g)) (h2:PSs X sts (sD X.K cl xe h)):PSs X (st :: sts) (sD X.K cl xe (DK g h)):=PSs.imp (y7 h1 h2) λD σ H ⟨μ,S,ρ,eo,rp,p⟩=>
 ⟨μ,S,ρ,eo,rp,p.bind.imp λfl S1 μ1 H1 l1 r1 p1=>by
  cases fl with
  | nx ρ1=>exact λσ1 eo1=>⟨μ1,S1,ρ1,eo1,r1,p1⟩
  | rt d=>exact p1.ret μ1 H1 (Lat.refl _ _) r1
  | bk ρ1=>exact p1.ret μ1 H1 (Lat.refl _ _) r1
  | ct ρ1=>exact p1.ret μ1 H1 (Lat.refl _ _) r1⟩
theorem pS (c:PE X e (tD X.K cl xe f)) (k:r8 e=true):PS X (.Expr e pos) (sD X.K cl xe λρ=>bind (f ρ) λ_=>ret (.nx ρ)):=PS.imp (F8 c (F7 k)) λD σ H ⟨μ,S,ρ,b,l,p⟩=>
 ⟨μ,S,ρ,b,l,p.bind.imp λd S1 a i h j g v m=>g.ret a i (Lat.refl _ _) j σ (b.later h)⟩
theorem jJ (c:PE X e (tD X.K cl xe f)):PS X (.Return (some e) pos) (sD X.K cl xe λρ=>bind (f ρ) λd=>ret (.rt d)):=PS.imp (ya c) λD σ H ⟨μ,S,ρ,i,k,p⟩=>
 ⟨μ,S,ρ,i,k,p.bind.imp λd S1 a h l j g v b=>g.ret a h (Lat.refl _ _) j v b⟩
theorem Ar (k:PT X c (tBo X.K cl xe t)) (m:PSs X a (sD X.K cl xe g)) (l:PSs X b (sD X.K cl xe h)):PS X (.If c a b pos) (sD X.K cl xe λρ=>bind (t ρ) λq=>if q=true then g ρ else h ρ):=PS.imp (L2.ps_if k m l) λD σ H ⟨μ,S,ρ,e,n,p⟩=>
 ⟨μ,S,ρ,e,n,p.bind.imp λq S1 d o i j f=>by
  cases q with
  | true=>exact ⟨d,S1,ρ,e.later i,j,f⟩
  | false=>exact ⟨d,S1,ρ,e.later i,j,f⟩⟩
theorem tQ (q:X.N.Nodup) (g:X.N[i]?=some x) (n:Loc X.env.scope x) (j:PE X e (tD X.K cl xe f)) (o:r8 e=true) (s:X.fn x=true\/X.env.scope.names.lookup x=some .local) :
  PS X (.Assign [.Name x pos'] e pos) (sD X.K cl xe λρ=>bind (f ρ) λd=>ret (.nx (ρ.set i (some d)))):=PS.imp (hF q g n j (F7 o) s) λD σ H ⟨μ,S,ρ,b,r,p⟩=>
 ⟨μ,S,ρ,b,r,p.bind.imp λd S1 a l k m h v c=>h.ret a l (Lat.refl _ _) m _ ((b.later k).set c i)⟩
def tP (K:PySem.W.Frag) (cl:Nat->Addr) (tg:D->Env->Option Env):TG:=λv σ H Q=>∃ μ S ρ d a,EnvOk K μ H ρ σ/\Rep K cl μ S H/\RD K μ H d v/\tg d ρ=some a/\∀ b,EnvOk K μ H a b->Q b H
theorem PG.imp (h:PG X t u) (k:∀ v σ H Q,u' v σ H Q->u v σ H Q):PG X t u':=λpins s σ H v w Q I r q=>h pins s σ H v w Q I r (k v σ H Q q)
theorem rL (h:X.N.Nodup) (a:X.N[i]?=some x) (f:Loc X.env.scope x) (j:X.fn x=true\/X.env.scope.names.lookup x=some .local):PG X (.Name x pos') (tP X.K cl λd ρ=>some (ρ.set i (some d))):=
 PG.imp (M5 h a f j) λv σ H Q ⟨μ,S,ρ,d,g,c,k,b,e,q⟩=>by
  cases e;exact q _ (c.set b i)
def ap:List Nat->List D->Env->Option Env
 | [],[],ρ=>some ρ
 | i :: a,d :: ds,ρ=>ap a ds (ρ.set i (some d))
 | _,_,_=>none
def t7 (a:List Nat) (d:D) (ρ:Env):Option Env:=match d with
 | .tup ds=>ap a ds ρ
 | _=>none
inductive NamesAt (X:Cx):List Expr->List Nat->Prop where
 | nil:NamesAt X [] []
 | cons {x:Str} {p:Pos} {i:Nat} {ts:List Expr} {is:List Nat}:X.N[i]?=some x->Loc X.env.scope x->(X.fn x=true\/X.env.scope.names.lookup x=some .local)->NamesAt X ts is->NamesAt X (.Name x p :: ts) (i :: is)
theorem lx (hN:X.N.Nodup)  {ts:List Expr} {is:List Nat} (h:NamesAt X ts is):PGs X ts (λvs σ H Q=>∃ μ ds ρ ρ',EnvOk X.K μ H ρ σ/\RDs X.K μ H ds vs/\ap is ds ρ=some ρ'/\∀ σ',EnvOk X.K μ H ρ' σ'->Q σ' H):=by
 induction h with
 | nil=>
  intro pins s σ H vs us Q I r ⟨μ,ds,ρ,ρ',eo,rd,e,q⟩;cases ds with
  | nil=>
   cases rd;cases e;exact jF pins s σ H [] us Q I r ⟨rfl,q σ eo⟩
  | cons d ds=>cases e
 | @cons x p i ts is h1 h2 h3 h4 ih=>
  intro pins s σ H vs us Q I r ⟨μ,ds,ρ,ρ',eo,rd,e,q⟩;cases ds with
  | nil=>cases e
  | cons d ds=>
   cases rd with
   | cons r1 r2=>exact ak (M5 (i:=i) hN h1 h2 h3) ih rfl pins s σ H _ us Q I r ⟨_,_,rfl,μ,ds,_,ρ',eo.set r1 i,r2,e,q⟩
theorem T6 {ts:List Expr} {is:List Nat} (h:NamesAt X ts is):(assignEach ts X.env).length=is.length/\(assignEach ts X.env).findIdx? (·.1)=none:=by
 induction h with
 | nil=>exact ⟨rfl,rfl⟩
 | @cons x p i ts is h1 h2 h3 h4 ih=>
  refine ⟨by show (assignEach ts X.env).length+1=_;rw [ih.1];rfl,?_⟩;show ((false,assign (.Name x p) X.env) :: assignEach ts X.env).findIdx? (·.1)=none;rw [List.findIdx?_cons];simp [ih.2]
theorem ah:∀ {b:List Nat} {ds:List D} {ρ a:Env},ap b ds ρ=some a->ds.length=b.length
 | [],[],_,_,_=>rfl
 | _ :: _,_ :: _,_,_,e=>by simp [ah (by simpa [ap] using e)]
 | [],_ :: _,_,_,e=>by cases e
 | _ :: _,[],_,_,e=>by cases e
theorem kJ (hc:X.calm=true) (hN:X.N.Nodup) (h:NamesAt X ts is):PG X (.Tuple ts k pos') (tP X.K cl (t7 is)):=
 PG.imp (pT hc (lx hN h) (T6 h).1 (T6 h).2) λv σ H Q ⟨μ,S,ρ,d,ρ',eo,rp,rd,e,q⟩=>by
  cases rd with
  | tup h1 h2=>exact ⟨_,_,rfl,h1.sq,by rw [<- h2.length];exact ah e,μ,_,ρ,ρ',eo,h2,e,q⟩
  | _=>cases e
def pc:Expr->Bool
 | .Tuple ..=>false
 | _=>true
def F6 (tg:D->Env->Option Env) (d:D) (ρ:Env):M Fl:=match tg d ρ with
 | some a=>ret (.nx a)
 | none=>bad
theorem vG (n:X.calm=true) (t:X.N.Nodup) (h:NamesAt X ts is) (o:PE X e (tD X.K cl xe f)) (s:r8 e=true) (i:pc e=true):PS X (.Assign [.Tuple ts k pos'] e pos) (sD X.K cl xe λρ=>bind (f ρ) λd=>F6 (t7 is) d ρ):=
 PS.imp (sG o (kJ n t h) (by unfold swapsWithSole;exact F7 s) (by cases e <;> first | rfl | (exact absurd i (by simp [pc]))) rfl) λD σ H ⟨μ,S,ρ,j,u,p⟩=>
  ⟨μ,S,ρ,j,u,p.bind.imp λd S1 a r q l b v m=>by
   cases c:t7 is d ρ with
   | none=>simp only [F6,c] at b;exact b.elim
   | some g=>simp only [F6,c] at b;exact ⟨a,S1,ρ,d,g,j.later q,l,m,c,b.ret a r (Lat.refl _ _) l⟩⟩
end
structure LatR (μ:Mp) (H:Hp) (μ':Mp) (H':Hp):Prop where
 pre:∀ (n:Nat) (a:Addr),μ.pl[n]?=some a->μ'.pl[n]?=some a
 oth:∀ a o,H a=some o->a∉μ.pl->H' a=some o
 new:∀ a,a∈μ'.pl->a∈μ.pl\/H a=none
 rsw:∀ a,a∈μ'.rs->a∈μ.rs\/H a=none
theorem Lat.r {H H':Hp} (l:Lat μ H μ' H'):LatR μ H μ' H':=⟨l.pre,l.oth,l.new,λa m=>.inl (by rw [l.rsv] at m;exact m)⟩
structure LatU (μ:Mp) (H:Hp) (μ':Mp) (H':Hp):Prop where
 pre:∀ (n:Nat) (a:Addr),μ.pl[n]?=some a->μ'.pl[n]?=some a
 oth:∀ a o,H a=some o->a∉μ.pl->a∉μ.rs->H' a=some o
 new:∀ a,a∈μ'.pl->a∈μ.pl\/H a=none
 rsw:∀ a,a∈μ'.rs->a∈μ.rs\/H a=none
theorem LatR.u {H H':Hp} (l:LatR μ H μ' H'):LatU μ H μ' H':=⟨l.pre,λa o e n _=>l.oth a o e n,l.new,l.rsw⟩
theorem LatU.out {H H':Hp} (l:LatU μ H μ' H') (a:Addr) (u:HO) (e:H a=some u) (c:a∉μ.pl) (b:a∉μ.rs):H' a=some u/\a∉μ'.pl/\a∉μ'.rs:=by
 refine ⟨l.oth a u e c b,λz=>?_,λz=>?_⟩
 ·rcases l.new a z with q | q
  ·exact c q
  ·rw [e] at q;cases q
 ·rcases l.rsw a z with q | q
  ·exact b q
  ·rw [e] at q;cases q
theorem RDs.laterU {K:PySem.W.Frag} {μ μ':Mp} {H H':Hp} (l:LatU μ H μ' H') {ds:List D} {vs:List V} (r:RDs K μ H ds vs):RDs K μ' H' ds vs:=r.move l.pre l.out
abbrev Src:=Nat->Sto->Option (Option D)
def bG (K:PySem.W.Frag) (cl:Nat->Addr) (J:It) (i:Nat) (μ2:Mp) (b:Hp) (S2:Sto) (o:Option (Option D)):Prop:=match o with
 | some (some d)=>J.go i b/\∀ x a,J.yld i b x a->Lat μ2 b μ2 a/\Rep K cl μ2 S2 a/\RD K μ2 a d x
 | some none=>J.stop i b
 | none=>True
def Yl (K:PySem.W.Frag) (cl:Nat->Addr) (J:It) (μ:Mp) (H:Hp) (src:Src):Prop:=∀ (i:Nat) (μ2:Mp) (a:Hp) (S2:Sto),LatU μ H μ2 a->Rep K cl μ2 S2 a->bG K cl J i μ2 a S2 (src i S2)
def tIt (K:PySem.W.Frag) (cl:Nat->Addr) (xe:Addr->Hp->Prop) (f:Env->M (Src×Nat)):TI:=λσ H R=>∃ μ S ρ,EnvOk K μ H ρ σ/\Rep K cl μ S H/\Post K cl xe μ H (f ρ S) λp _ μ' H'=>∀ J,Yl K cl J μ' H' p.1->R J H'
theorem PI.imp (h:PI X tg it t) (k:∀ σ H R,t' σ H R->t σ H R):PI X tg it t':=λpins s σ H R I q=>h pins s σ H R I (k σ H R q)
theorem yr {tg l:Expr} {m:TE} (r:PE X l m):PI X tg l (λσ H R=>m σ H λx d=>∃ a,x=.ref a/\(((∃ xs,SqL X.K d a xs)/\R (Itl X.K a) d)\/((∃ xs,SqT X.K d a xs)/\R (Itt X.K a) d))):=by
 intro pins s σ H R I h;refine thn (r pins s σ H _ I h) λv f ⟨x,d,c,n,j⟩=>?_;obtain ⟨a,e,j⟩:=j;subst e;cases n;rcases j with ⟨⟨xs,g⟩,q⟩ | ⟨⟨xs,g⟩,q⟩
 ·obtain ⟨k,t,p,hz⟩:=c.list g;refine wpAny_pyIter_list p.isList ?_;refine ⟨f.heap.objs.size,[f.heap.objs.size],_,_,d,rfl,c.kept λb o e=>HR _ e,kr a _,⟨_,Ih _ rfl,rfl,rfl⟩,λb i=>?_,q⟩;have e:b=f.heap.objs.size:=by simpa using i
  subst e;exact c.fpOk (HV _) (c.hok.fresh (HV _))
 ·obtain ⟨k,t,p,hz⟩:=c.tuple g;refine JT (p) ?_;refine ⟨f.heap.objs.size,[f.heap.objs.size],_,_,d,rfl,c.kept λb o e=>HR _ e,iT a _,⟨_,Ih _ rfl,rfl,rfl⟩,λb i=>?_,q⟩;have e:b=f.heap.objs.size:=by simpa using i
  subst e;exact c.fpOk (HV _) (c.hok.fresh (HV _))
def U8 (ds:List D):Src:=λi _=>some ds[i]?
def ba (n:Nat):Src:=λi S=>match S[n]? with
 | some (.lst es)=>some es[i]?
 | _=>none
def ar (lo:Int) (n:Nat):Src:=λi _=>some (if i<n then some (.int (lo+i)) else none)
section
variable {K:PySem.W.Frag} {cl:Nat->Addr} {μ:Mp} {H:Hp}
theorem yP (h:TupAt K μ H a xs) (r:RDs K μ H ds xs):Yl K cl (Itt K a) μ H (U8 ds):=λi μ2 g S2 l y=>by
 have b:SqT K g a xs:=by
  rcases h with ⟨q,n1,n2⟩ | q
  ·rcases q with q | ⟨o,q⟩
   ·exact .inl (.inl (l.oth _ _ q n1 n2))
   ·exact .inl (.inr ⟨o,l.oth _ _ q n1 n2⟩)
  ·obtain ⟨o,c,n,u,j,w,m,t,_⟩:=q;exact .inr ⟨o,c,n,u,j,w,m,t⟩
 have k:=r.laterU l;show bG K cl (Itt K a) i μ2 g S2 (some ds[i]?);cases e:ds[i]? with
 | none=>exact ⟨xs,b,by rw [<- r.length];exact JE.mp e⟩
 | some d=>
  obtain ⟨v,f,p⟩:=k.get e;exact ⟨⟨xs,v,b,f⟩,λx z ⟨s,q⟩=>by subst s;have:=q xs b;rw [f] at this;cases this;exact ⟨Lat.refl _ _,y,p⟩⟩
theorem sI (h:LstAt μ H a xs\/ScrAt K μ H a xs) (r:RDs K μ H ds xs):Yl K cl (Itl K a) μ H (U8 ds):=λi μ2 f S2 l m=>by
 have b:SqL K f a xs:=by
  rcases h with ⟨q,n1,n2⟩ | ⟨q,n1,n2⟩ | q
  ·exact .inl (.inl (l.oth _ _ q n1 n2))
  ·rcases q with q | ⟨o,q⟩
   ·exact .inl (.inl (l.oth _ _ q n1 n2))
   ·exact .inl (.inr ⟨o,l.oth _ _ q n1 n2⟩)
  ·exact .inr q
 have g:=r.laterU l;show bG K cl (Itl K a) i μ2 f S2 (some ds[i]?);cases e:ds[i]? with
 | none=>exact ⟨xs,b,by rw [<- r.length];exact JE.mp e⟩
 | some d=>
  obtain ⟨v,c,j⟩:=g.get e;exact ⟨⟨xs,v,b,c⟩,λx n ⟨k,q⟩=>by subst k;have:=q xs b;rw [c] at this;cases this;exact ⟨Lat.refl _ _,m,j⟩⟩
theorem AE {n:Nat} (h:μ.pl[n]?=some a):Yl K cl (Itl K a) μ H (ba n):=λi μ2 H2 S2 l rp=>by
 show bG K cl (Itl K a) i μ2 H2 S2 (match S2[n]? with
  | some (.lst es)=>some es[i]?
  | _=>none)
 cases q1:S2[n]? with
 | none=>exact True.intro
 | some o=>
  cases o with
  | dct _=>exact True.intro
  | exc _ _=>exact True.intro
  | lst es=>
   obtain ⟨xs,h1,h2⟩:=rp.ats n _ a q1 (l.pre _ _ h);have hq:SqL K H2 a xs:=.inl (.inl h1);show bG K cl (Itl K a) i μ2 H2 S2 (some es[i]?);cases e:es[i]? with
   | none=>exact ⟨xs,hq,by rw [<- h2.length];exact JE.mp e⟩
   | some d=>
    obtain ⟨v,e1,r1⟩:=h2.get e;exact ⟨⟨xs,v,hq,e1⟩,λx H3 ⟨e3,q⟩=>by subst e3;have:=q xs hq;rw [e1] at this;cases this;exact ⟨Lat.refl _ _,rp,r1⟩⟩
theorem fb {lo:Int} {n:Nat}:Yl K cl (Itr lo n) μ H (ar lo n):=λi μ2 d S2 l e=>by
 show bG K cl (Itr lo n) i μ2 d S2 (some (if i<n then some (.int (lo+i)) else none));by_cases a:i<n
 ·rw [if_pos a];exact ⟨a,λx f ⟨c,b⟩=>by subst c b;exact ⟨Lat.refl _ _,e,.int _⟩⟩
 ·rw [if_neg a];exact Kb a
end
def u8 (d:D):M (Src×Nat):=match d with
 | .tup ds=>ret (U8 ds,ds.length+1)
 | .lst ds=>ret (U8 ds,ds.length+1)
 | .scr ds=>ret (U8 ds,ds.length+1)
 | .ref n=>λS=>match S[n]? with
  | some (.lst ds)=>.ok (ba n,ds.length+1) S
  | _=>.bad
 | _=>bad
def k4 (ds:List D):M (Src×Nat):=match ds with
 | [.int j]=>if -(2 ^ 62)<=j/\j<2 ^ 62 then ret (ar 0 j.toNat,j.toNat+1) else bad
 | [.int i,.int j]=>if -(2 ^ 62)<=i/\i<2 ^ 62/\-(2 ^ 62)<=j/\j<2 ^ 62 then ret (ar i (j-i).toNat,(j-i).toNat+1) else bad
 | _=>bad
section
variable {X:Cx} {cl:Nat->Addr} {xe:Addr->Hp->Prop} {e:Expr} {tg:Expr} {pos:Pos} {f:Env->M D}
theorem jY {tg e:Expr}:PI X tg e (tIt X.K cl xe λ_=>bad):=λ_ _ _ _ _ _ ⟨_,_,_,_,_,p⟩=>p.elim
theorem vb (h:PE X e (tD X.K cl xe f)):PI X tg e (tIt X.K cl xe λρ=>bind (f ρ) u8):=PI.imp (yr h) λσ H R ⟨μ,S,ρ,eo,rp,p⟩=>
 ⟨μ,S,ρ,eo,rp,p.bind.imp λd S1 μ1 H1 l1 r1 p1 v rv=>by
  cases rv with
  | tup h r=>exact ⟨_,rfl,.inr ⟨⟨_,h.sq⟩,p1.ret μ1 H1 (Lat.refl _ _) r1 _ (yP h r)⟩⟩
  | lst h r=>exact ⟨_,rfl,.inl ⟨⟨_,h.sq⟩,p1.ret μ1 H1 (Lat.refl _ _) r1 _ (sI (.inl h) r)⟩⟩
  | scr h r=>exact ⟨_,rfl,.inl ⟨⟨_,h.sq⟩,p1.ret μ1 H1 (Lat.refl _ _) r1 _ (sI (.inr h) r)⟩⟩
  | ref h=>
   rename_i n a;simp only [u8] at p1;cases q1:S1[n]? with
   | none=>rw [q1] at p1;exact p1.elim
   | some o=>
    rw [q1] at p1;cases o with
    | lst ds=>
     obtain ⟨xs,h1,h2⟩:=r1.ats n _ a q1 h;exact ⟨_,rfl,.inl ⟨⟨xs,.inl (.inl h1)⟩,p1 μ1 H1 (Lat.refl _ _) r1 _ (AE h)⟩⟩
    | dct _=>exact p1.elim
    | exc _ _=>exact p1.elim
  | _=>exact False.elim p1⟩
theorem gX (hg:Gl X "range") (hm:X.mg "range" = none) (ha:PA X [a] (tDs X.K cl xe fs)) (hs:noStar a=true):PI X tg (.Call (.Name "range" p) [a] [] pos) (tIt X.K cl xe λρ=>bind (fs ρ) λds=>if ds.length=1 then k4 ds else bad):=
 PI.imp (mi hg hm ha (d8 hs)) λσ H R ⟨μ,S,ρ,eo,rp,p⟩=>⟨μ,S,ρ,eo,rp,p.bind.imp λds S1 μ1 H1 l1 r1 p1 vs rvs=>by
  cases rvs with
  | nil=>exact False.elim p1
  | cons h t=>
   cases t with
   | cons _ t=>rw [if_neg (by simp)] at p1;exact p1.elim
   | nil=>
    rename_i d0 v0;rw [if_pos (show ([d0]:List D).length=1 from rfl)] at p1;cases h with
    | int j=>
     obtain ⟨⟨h1,h2⟩,p1⟩:=Post.guard p1;exact ⟨j,rfl,h1,h2,p1 μ1 H1 (Lat.refl _ _) r1 _ fb⟩
    | _=>exact False.elim p1⟩
theorem gv (hg:Gl X "range") (hm:X.mg "range" = none) (ha:PA X [a,b] (tDs X.K cl xe fs)) (hs:noStar a=true) (hs2:noStar b=true):PI X tg (.Call (.Name "range" p) [a,b] [] pos) (tIt X.K cl xe λρ=>bind (fs ρ) λds=>if ds.length=2 then k4 ds else bad):=
 PI.imp (km hg hm ha (by rw [d8 hs,d8 hs2];rfl) (d8 hs2)) λσ H R ⟨μ,S,ρ,eo,rp,p⟩=>⟨μ,S,ρ,eo,rp,p.bind.imp λds S1 μ1 H1 l1 r1 p1 vs rvs=>by
  by_cases hd:ds.length=2
  ·rw [if_pos hd] at p1
   match ds,hd with
   | [d1,d2],_=>
    cases rvs with
    | cons h t=>
     cases t with
     | cons h2 t=>
      cases t;cases h with
      | int i=>
       cases h2 with
       | int j=>
        obtain ⟨hh,p1⟩:=Post.guard p1;exact ⟨i,j,rfl,hh,p1 μ1 H1 (Lat.refl _ _) r1 _ fb⟩
       | _=>exact False.elim p1
      | _=>exact False.elim p1
  ·rw [if_neg hd] at p1;exact p1.elim⟩
end
def v7 (src:Src) (tg:D->Env->Option Env) (body:Env->M Fl):Nat->Nat->Env->M Fl
 | 0,_,_=>bad
 | m+1,i,ρ=>λS=>match src i S with
  | none=>.bad
  | some none=>.ok (.nx ρ) S
  | some (some d)=>match tg d ρ with
   | none=>.bad
   | some b=>bind (body b) (λc=>match c with
    | .nx a=>v7 src tg body m (i+1) a
    | .ct a=>v7 src tg body m (i+1) a
    | .bk a=>ret (.nx a)
    | .rt d=>ret (.rt d)) S
section
variable {X:Cx} {cl:Nat->Addr} {xe:Addr->Hp->Prop} {iter tgt:Expr} {pos:Pos} {fi:Env->M (Src×Nat)} {tg:D->Env->Option Env} {g:Env->M Fl} {body:List Stmt}
theorem wb (Y:PassesOwn (model X.prog X.w) X.A X.env X.xe) (hc:X.calm=true) (hi:PI X tgt iter (tIt X.K cl xe fi)) (hg:PG X tgt (tP X.K cl tg)) (hb:PSs X body (sD X.K cl xe g)) (hn:v4 iter=true) :
  PS X (.For tgt iter body [] pos) (sD X.K cl xe λρ=>bind (fi ρ) λp=>v7 p.1 tg g p.2 0 ρ):=PS.imp (AK Y hc hi hg hb (w9 hn)) λD σ H ⟨μ,S,ρ,T,rp,p⟩=>by
 refine ⟨μ,S,ρ,T,rp,p.bind.imp λsm S1 f A l1 r1 p1 J yl=>?_⟩;obtain ⟨src,m⟩:=sm;refine ⟨λi m σ H=>∃ μ2 S2 h,LatR f A μ2 H/\EnvOk X.K μ2 H h σ/\Rep X.K cl μ2 S2 H/\Post X.K cl xe μ2 H (v7 src tg g m i h S2) (λw _ μ' H'=>FlOk X.K D w μ' H'),⟨m,f,S1,ρ,(Lat.refl _ _).r,T.later l1,r1,p1⟩,?_⟩;rintro i m F I ⟨μ2,S2,h,s,u,U,j⟩;cases m with
 | zero=>exact j.elim
 | succ m=>
  have y:bG X.K cl J i μ2 I S2 (src i S2):=yl i μ2 I S2 s.u U;simp only [v7] at j;cases O:src i S2 with
  | none=>rw [O] at j;exact j.elim
  | some o=>
   rw [O] at j y;cases o with
   | none=>exact .inl ⟨y,j μ2 I (Lat.refl _ _) U F u⟩
   | some d=>
    obtain ⟨y1,Z⟩:=y;cases L:tg d h with
    | none=>simp only [L] at j;exact j.elim
    | some t=>
     simp only [L] at j;refine .inr ⟨y1,λv H'=>∃ l P b,LatR f A l H'/\EnvOk X.K l H' b v/\Rep X.K cl l P H'/\Post X.K cl xe l H' (v7 src tg g m (i+1) b P) (λw _ μ' H'=>FlOk X.K D w μ' H'),λv H' q=>⟨m,IP _,q⟩,λx H3 hy=>?_⟩;obtain ⟨M,V,E⟩:=Z x H3 hy;refine ⟨μ2,S2,h,d,t,u.later M,V,E,L,λσ3 K=>?_⟩;refine ⟨μ2,S2,t,K,V,(Post.later j M).bind.imp λw W c N l4 B C=>?_⟩;have R:LatR f A c N:=by
      have k:=M.trans l4;refine ⟨λn a e=>k.pre n a (s.pre n a e),λa o e n=>k.oth a o (s.oth a o e n) (λz=>(s.new a z).elim n (λq=>by rw [e] at q;cases q)),λa m=>(k.new a m).elim (λz=>s.new a z) (λz=>?_),λa m=>s.rsw a (by rw [<- k.rsv];exact m)⟩;by_cases Q:a∈f.pl
      ·exact .inl Q
      ·right
       cases e:A a with
       | none=>rfl
       | some o=>rw [s.oth a o e Q] at z;cases z
     cases w with
     | nx b=>exact λG r=>⟨c,W,b,R,r,B,C⟩
     | ct b=>exact λG r=>⟨c,W,b,R,r,B,C⟩
     | bk b=>exact C.ret c N (Lat.refl _ _) B
     | rt d=>exact C.ret c N (Lat.refl _ _) B
end
structure HLat (μ:Mp) (H:Hp) (p:Addr) (μ2:Mp) (H2:Hp):Prop where
 r:LatR μ H μ2 H2
 rs:μ2.rs=p :: μ.rs
theorem HLat.lat {H c H':Hp} {p:Addr} (h:HLat μ H p μ2 c) (l:Lat μ2 c μ' H'):Lat μ H μ'.free H':=by
 refine ⟨λn a e=>l.pre n a (h.r.pre n a e),λa o e n=>?_,λa m=>?_,by show μ'.rs.tail=μ.rs;rw [l.rsv,h.rs];rfl⟩
 ·have d:=λz=>(h.r.new a z).elim n λq=>by rw [e] at q;cases q
  exact l.oth a o (h.r.oth a o e n) d
 ·rcases l.new a m with q | q
  ·exact h.r.new a q
  ·by_cases b:a∈μ.pl
   ·exact .inl b
   ·right
    cases e:H a with
    | none=>rfl
    | some o=>rw [h.r.oth a o e b] at q;cases q
theorem HLat.step {H c b:Hp} {p:Addr} (h:HLat μ H p μ2 c) (l:Lat μ2 c μ3 b):HLat μ H p μ3 b:=by
 have k:=h.lat l;refine ⟨⟨k.pre,k.oth,k.new,λa m=>h.r.rsw a (by rw [<- l.rsv];exact m)⟩,by rw [l.rsv];exact h.rs⟩
section
variable {K:PySem.W.Frag} {cl:Nat->Addr} {xe:Addr->Hp->Prop} {α β:Type} {μ μ2:Mp} {H H2:Hp} {p:Addr} {S:Sto}
theorem Post.at {k:α->M β} {G:β->Sto->Mp->Hp->Prop} (h:Post K cl xe μ H (L3.bind m k S) G) (l:HLat μ H p μ2 H2):Post K cl xe μ2 H2 (m S) (λa S' _ _=>Post K cl xe μ H (k a S') G):=by
 unfold L3.bind at h;cases e:m S with
 | ok a S1=>rw [e] at h;exact λ_ _ _ _=>h
 | exn n S1=>rw [e] at h;exact λμ' H' a k r q=>h μ'.free H' a (l.lat k) (aU r) q
 | bad=>rw [e] at h;exact h
end
def u9 (src:Src) (t:Env->M Bool) (f:Env->M D) (mk:D->Env):Nat->Nat->List D->M (List D)
 | 0,_,_=>bad
 | m+1,i,es=>λS=>match src i S with
  | none=>.bad
  | some none=>.ok es S
  | some (some d)=>bind (t (mk d)) (λb=>if b=true then bind (f (mk d)) (λy=>if es.length<sizeLine then u9 src t f mk m (i+1) (es++[y]) else bad) else u9 src t f mk m (i+1) es) S
def G6 (caps:List Nat) (ρ:Env):Env:=caps.map λi=>(ρ[i]?).join
theorem S8 {K:PySem.W.Frag} {μ:Mp} {H:Hp} {ρ:Env} {σ:L2.St} {caps:List Nat} {d:D} {x:V} (eo:EnvOk K μ H ρ σ) (r:RD K μ H d x):EnvOk K μ H (some d :: G6 caps ρ) (some x :: B5 caps σ):=by
 refine ⟨by simp [G6,B5],λi e he=>?_⟩;cases i with
 | zero=>simp at he;subst he;exact ⟨x,rfl,r⟩
 | succ j=>
  have he:(G6 caps ρ)[j]?=some (some e):=he;unfold G6 at he;rw [Ie] at he;cases q:caps[j]? with
  | none=>rw [q] at he;cases he
  | some i=>
   rw [q] at he;have h':(ρ[i]?).join=some e:=Iv he;have h2:ρ[i]?=some (some e):=by
    cases q2:ρ[i]? with
    | none=>rw [q2] at h';cases h'
    | some o=>rw [q2] at h';exact congrArg some h'
   obtain ⟨v,e1,r1⟩:=eo.2 i e h2;refine ⟨v,?_,r1⟩;show (B5 caps σ)[j]?=_;unfold B5;rw [Ie,q];show some (σ[i]?).join=_;rw [e1];rfl
def cO (caps:List Nat) (b:Env->M (Src×Nat)) (t:Env->M Bool) (f:Env->M D) (ρ:Env):M (List D):=bind (b ρ) λa=>u9 a.1 t f (λd=>some d :: G6 caps ρ) a.2 0 []
theorem bC {K:PySem.W.Frag} {cl:Nat->Addr} {xe:Addr->Hp->Prop} {caps:List Nat} {fi:Env->M (Src×Nat)} {t:Env->M Bool} {f:Env->M D} {σ:L2.St} {H:Hp} {μ:Mp} {S:Sto} {ρ:Env} {Q:VK} (eo:EnvOk K μ H ρ σ) (rp:Rep K cl μ S H)
  (p:Post K cl xe μ H (cO caps fi t f ρ S) λds _ μ' H'=>∀ c ys,LstAt μ' H' c ys->RDs K μ' H' ds ys->Q (.ref c) H'):jb caps (tIt K cl xe fi) (tBo K cl xe t) (tD K cl xe f) σ H Q:=by
 refine ⟨μ,S,ρ,eo,rp,p.bind.imp λsm S1 u H1 l1 P p1 J yl c g=>?_⟩;obtain ⟨src,m0⟩:=sm;have V:=P.notrs g;refine ⟨λi m ys l=>∃ μ2 S2 es,HLat u H1 c μ2 l/\c∉μ2.pl/\l c=some (.lst ys)/\EnvOk K μ2 l ρ σ/\Rep K cl μ2 S2 l/\RDs K μ2 l es ys/\Post K cl xe u H1 (u9 src t f (λd=>some d :: G6 caps ρ) m i es S2) (λds _ μ' H'=>∀ c ys,LstAt μ' H' c ys->RDs K μ' H' ds ys->Q (.ref c) H'),⟨m0,u.hold c,S1,[],?_,P.notin g,b8,R6 P g (eo.later l1),R3 P g,.nil,p1⟩,?_⟩
 ·refine ⟨⟨λ_ _ e=>e,λa o e _=>by rw [b6 (c8 e g)];exact e,λa m=>.inl m,λa m=>?_⟩,rfl⟩;rcases Ii.mp (m) with rfl | m
  ·exact .inr g
  ·exact .inl m
 rintro i m ys l ⟨μ2,S2,es,R,z,I,s,r2,h,A⟩;refine ⟨I,?_⟩;cases m with
 | zero=>exact A.elim
 | succ m=>
  have y:bG K cl J i μ2 l S2 (src i S2):=yl i μ2 l S2 R.r.u r2;simp only [u9] at A;cases e1:src i S2 with
  | none=>rw [e1] at A;exact A.elim
  | some o=>
   rw [e1] at A y;cases o with
   | none=>
    refine .inl ⟨y,A μ2.free l (R.lat (Lat.refl _ _)) (aU r2) c ys ⟨I,z,?_⟩ (fP h)⟩;show c∉μ2.rs.tail;rw [R.rs];exact V
   | some d=>
    obtain ⟨y1,y2⟩:=y;refine .inr ⟨y1,λx H3 hy=>?_⟩;obtain ⟨L,r3,C⟩:=y2 x H3 hy;have h3:=R.step L;refine ⟨μ2,S2,_,S8 (s.later L) C,r3,(Post.at A h3).imp λb S5 F H5 Y r5 U=>?_⟩;have X:=h3.step Y;have k:=L.trans Y;have Z:=k.oth _ _ I z;have W:=k.out I z;cases b with
    | false=>exact ⟨m,IP _,F,S5,es,X,W,Z,s.later k,r5,h.later k,U⟩
    | true=>
     refine tI ?_;rw [if_pos rfl] at U;refine ⟨F,S5,_,(S8 (s.later L) C).later Y,r5,(Post.at U X).imp λyv S6 μ6 H6 O r6 T v rv=>?_⟩;have B:=X.step O;have G:=k.trans O;have a6:=O.oth _ _ Z W;have n6:=O.out Z W;by_cases hz:es.length<sizeLine
     ·rw [if_pos hz] at T;have N:=B.rs;refine ⟨a6,by rw [<- h.length];exact hz,m,IP _,μ6,S6,es++[yv],?_,n6,b8,?_,V3 N a6 r6,U1 N ((h.later G).append (.cons rv .nil)),T⟩
      ·refine ⟨⟨B.r.pre,λa o e n=>?_,B.r.new,B.r.rsw⟩,N⟩;rw [b6 (c8 e g)];exact B.r.oth a o e n
      ·have E:=s.later G;exact ⟨E.1,λj e he=>let ⟨w,q,r⟩:=E.2 j e he;⟨w,q,aG N r⟩⟩
     ·rw [if_neg hz] at T;exact T.elim
section
variable {X:Cx} {cl:Nat->Addr} {xe:Addr->Hp->Prop} {elt iter:Expr} {x:Str} {px pos:Pos} {ifs:List Expr} {scope:Scope} {N':List Str} {caps:List Nat} {fi:Env->M (Src×Nat)} {t:Env->M Bool} {f:Env->M D}
theorem li {X:Cx}:PTL X [] (tBo X.K cl xe λ_=>ret true):=λpins s σ H Q I ⟨μ,S,ρ,b,a,p⟩=>uO pins s σ H Q I (p μ H (Lat.refl _ _) a)
theorem ez (T:CompText X.N X.env N' 1 caps scope) (k:X.calm=true) (i:N'.Nodup) (b:N'[0]?=some x) (d:scope.names.lookup x=some .local) (h:PI X (.Name x px) iter (tIt X.K cl xe fi))
  (l:∀ pins C c s H,PTL (d6 X pins N' scope C c s H) ifs (tBo X.K cl xe t)) (e:∀ pins C c s H,PE (d6 X pins N' scope C c s H) elt (tD X.K cl xe f)) (g:v4 iter=true) :
  PE X (.ListComp elt [⟨.Name x px,iter,ifs,0⟩] scope pos) (λσ H Q=>∃ μ S ρ,EnvOk X.K μ H ρ σ/\Rep X.K cl μ S H/\Post X.K cl xe μ H (cO caps fi t f ρ S) λds _ μ' H'=>∀ a ys,LstAt μ' H' a ys->RDs X.K μ' H' ds ys->Q (.ref a) H'):=
 PE.imp (cj T k i b d h l e (w9 g)) λσ H Q ⟨μ,S,ρ,m,j,p⟩=>bC m j p
end
def qJ (K:PySem.W.Frag) (cl:Nat->Addr) (xe:Addr->Hp->Prop) (fs:Env->M (List D)):TE:=λσ H Q=>∃ μ S ρ,EnvOk K μ H ρ σ/\Rep K cl μ S H/\Post K cl xe μ H (fs ρ S) λds _ μ' H'=>∀ a ys,LstAt μ' H' a ys->RDs K μ' H' ds ys->Q (.ref a) H'
end L3
namespace L2
open PySem PySem.Spec PyProof.Rows
section
variable {prog:Program} {w:World} {A:Around} {E:Value->Shared->Prop} {s:Shared}
theorem R5 {items} {x:Value} {Q:Value->Shared->Prop} (a:s.heap.IsTupleIter it l i)
  (h:s.heap.IsTuple l items) (e:items[i]?=some x)
  (g:∀ h',h'.IsTupleIter it l (i+1)->Heap.SameBut it s.heap h'->Q x { s with heap:=h' }) :
  wpAny (model prog w) A (Builtin.SmallTypes.nextOf (.ref it)) Q E s:=by
 obtain ⟨o,b,f,hd⟩:=id a;obtain ⟨j,c,_,k,d⟩:=h;refine Hz (JN a.typeIs F.slot_tuple_iterator_next
  (Ka F.slot_tuple_iterator_next a.typeIs F.entry_tuple_iterator_next ?_ (F.args_tuple_iterator_next_1 _)))
 show wpAny _ _ (field (.ref it) 0 >>= _) _ _ s;refine Hz (Jn b hd (x:=.ref l) rfl ?_);rw [if_neg (show ¬ ((Value.ref l==Value.none)=true) from HU)];refine Hz (Jn b hd rfl ?_);refine Hz (wpAny_seqItems c d ?_);simp only [JX,e];refine Hz (KD b hd (by simp) (HQ ⟨x,rfl,HQ (g _ ?_ (Heap.SameBut.update ..))⟩));exact ⟨_,IY _ b (Obj.isFreed_of_fields (Obj.data_mapFields hd _)),(Obj.cls_mapFields ..).trans f,by
  rw [Obj.data_mapFields hd];simp [rawInt]⟩
theorem V6 {items} {Q:Value->Shared->Prop} (f:A.handled=none)
  (a:s.heap.IsTupleIter it l i) (j:s.heap.IsTuple l items) (g:items[i]?=none)
  (h:∀ h' e,Heap.ExtBut it s.heap h'->(∃ o,h'.get? e=some o/\o.cls=.type "StopIteration")->E (.ref e) { s with heap:=h' }) :
  wpAny (model prog w) A (Builtin.SmallTypes.nextOf (.ref it)) Q E s:=by
 obtain ⟨o,c,k,hd⟩:=id a;obtain ⟨m,b,_,n,d⟩:=j;refine Hz (JN a.typeIs F.slot_tuple_iterator_next
  (Ka F.slot_tuple_iterator_next a.typeIs F.entry_tuple_iterator_next ?_ (F.args_tuple_iterator_next_1 _)))
 show wpAny _ _ (field (.ref it) 0 >>= _) _ _ s;refine Hz (Jn c hd (x:=.ref l) rfl ?_);rw [if_neg (show ¬ ((Value.ref l==Value.none)=true) from HU)];refine Hz (Jn c hd rfl ?_);refine Hz (wpAny_seqItems b d ?_);simp only [JX,g];refine Hz (wpAny_rule (Hz (KD c hd (by simp) ?_)));refine Hz ?_;refine Hz (IK ?_ (by size_fits));refine Hz (wpAny_of_eq (by first | rfl | (simp;rfl)) ?_);refine IK ?_ (by size_fits);refine Hz (wpAny_handled ?_);first | rw [f] | rw [f]
 refine Hz (HQ (wpAny_throw ?_));exact h _ _ (((Heap.SameBut.update ..).extBut.push _).push _) ⟨_,Ih _ rfl,rfl⟩
end
theorem pW {h h':Heap} {a:Addr} {items:Array Value} (x:h.IsTuple a items) (k:∀ o,h.get? a=some o->h'.get? a=some o):h'.IsTuple a items:=let ⟨o,b,r⟩:=x;⟨o,k o b,r⟩
theorem sE (k:A.handled=none) (it l:Addr) (c:l≠it) (items:Array Value) :
  Draws prog w A it [it,l] items.size (λi v=>items[i]?=some v) (λi h=>h.IsTupleIter it l i/\h.IsTuple l items) where
 live:=λ_ _ st=>let ⟨o,b,_⟩:=st.1;⟨o,b⟩
 frame:=λ_ _ _ st f=>⟨(let ⟨o,b,r⟩:=st.1;⟨o,f it (by simp) o b,r⟩),pW st.2 λo e=>f l (by simp) o e⟩
 item:=λi s Q E d st g=>by
  refine R5 st.1 st.2 (x:=items[i]) (by simp [d]) λh' a hs'=>?_;exact g _ h' s.toks (by simp [d]) ⟨a,st.2.extBut hs'.extBut c⟩ hs'
 done:=λs Q E st j=>V6 k st.1 st.2 (by simp) j
theorem eU (l:Addr) (items:Array Value) (n:Nat) (b:Option Addr) (i:Array (Option Value)) :
  Meets (Builtin.«enumerate.__new__» ⟨[.type "enumerate",.ref l],[]⟩) (λ_ R s=>s.heap.get? l=some { cls:=.type "tuple",dict:=b,data:=.seq items n,slots:=i } /\
   R (.ok (.ret (.ref (s.heap.push { cls:=.type "tuple_iterator",data:=.fields #[.ref l,.int 0 0] }).objs.size)))
    { s with heap:=(s.heap.push { cls:=.type "tuple_iterator",data:=.fields #[.ref l,.int 0 0] }).push { cls:=.type "enumerate",data:=.fields #[.none,.bool false,.ref s.heap.objs.size,rawInt 0,.none,.none] } }):=
 .of_wp λprog w A R s h=>by
  obtain ⟨j,g,d,k,m⟩:=s;obtain ⟨a,h⟩:=h;have f:=sub_enumerate;have e:Heap.IsTuple (Shared.heap ⟨j,g,d,k,m⟩) l items:=⟨_,a,rfl,n,rfl⟩
  wp_walk using AutoSeq1.wpAny_loadPart' a
  refine wpAny_stack_any λst=>HQ ?_;split
  ·rename_i c _ _ _ _ _;cases (c==Value.type "enumerate")
   ·wp_walk using AutoSeq1.wpAny_loadPart' a,JT e
    exact ⟨_,rfl,h⟩
   ·wp_walk using AutoSeq1.wpAny_loadPart' a,JT e
    exact ⟨_,rfl,h⟩
  ·wp_walk using AutoSeq1.wpAny_loadPart' a,JT e
   exact ⟨_,rfl,h⟩
section
variable {prog:Program} {w:World} {A:Around} {E:Value->Shared->Prop} {s:Shared}
theorem iM (i:s.heap.IsTuple l items)
  (h:∀ h',IsEnum h' (s.heap.objs.size+1) s.heap.objs.size 0 .none->h'.IsTupleIter s.heap.objs.size l 0->h'.objs.size=s.heap.objs.size+2 ->
   (∀ b o,s.heap.get? b=some o->h'.get? b=some o)->Q (.ref (s.heap.objs.size+1)) { s with heap:=h' }) :
  wpAny (model prog w) A (call (.type "enumerate") [.ref l]) Q E s:=by
 obtain ⟨⟨c,d,j,g⟩,k,a,n,hd⟩:=i
 replace a:c=.type "tuple":=a
 replace hd:j=.seq items n:=hd
 subst a hd;refine callType_new F.called_enumerate (by decide) (F.typeCall_enumerate_1 _) (F.newCall_enumerate_1 _) (λe=>F.args_object_init_2 e _) F.entry_enumerate_new
  (eU l items n d g) ⟨k,?_⟩
 have hz:(s.heap.push { cls:=.type "tuple_iterator",data:=.fields #[.ref l,.int 0 0] }).objs.size=s.heap.objs.size+1:=JP ..;rw [hz];have f:IsEnum ((s.heap.push { cls:=.type "tuple_iterator",data:=.fields #[.ref l,.int 0 0] }).push
   { cls:=.type "enumerate",data:=.fields #[.none,.bool false,.ref s.heap.objs.size,rawInt 0,.none,.none] }) (s.heap.objs.size+1) s.heap.objs.size 0 .none:=by
  have:=Ih (s.heap.push { cls:=.type "tuple_iterator",data:=.fields #[.ref l,.int 0 0] })
   (o:={ cls:=.type "enumerate",data:=.fields #[.none,.bool false,.ref s.heap.objs.size,rawInt 0,.none,.none] }) rfl
  rw [hz] at this;exact this
 refine ⟨⟨_,f,rfl⟩,h _ f ⟨_,HR _ (Ih _ rfl),rfl,rfl⟩ (by rw [JP,hz]) λb o x=>HR _ (HR _ x)⟩
end
section
variable {X:Cx} {pins:List (Addr×Obj)} {σ:St} {H:Hp} {s:Shared} {h':Heap}
theorem Inv.turned2 {t':Nat} {e it:Addr} (I:Inv X pins σ H s) (k:∀ b o,b≠e->b≠it->s.heap.get? b=some o->h'.get? b=some o) (f:K8 X pins H e) (g:K8 X pins H it):Inv X pins σ H { s with heap:=h',toks:=t' }:=by
 obtain ⟨a0,a1,a2,a3,a4,a5⟩:=f;obtain ⟨b0,b1,b2,b3,b4,b5⟩:=g;have nit:∀ b u,H b=some u->b≠e/\b≠it:=λb u q=>⟨λz=>(by rw [z,a0] at q;cases q),λz=>(by rw [z,b0] at q;cases q)⟩;have kk:∀ b o,b∉[e,it]->s.heap.get? b=some o->h'.get? b=some o:=λb o hb q=>k b o (λz=>hb (by simp [z])) (λz=>hb (by simp [z])) q;refine I.step (g':=s.gens) (d':=s.drawn) (ch:=[e,it]) (λb hb=>?_) (λb o _ _ hc q _=>kk b o hc q) (λb o _ _ hc q _=>⟨o.slots,kk b o hc q⟩) (λ_ _ _ _ n=>n)
  (λb o hc q=>⟨o,kk b o hc q⟩) (λ_ _ q=>q) (λ_ _ _ q=>q) (λb ps q=>⟨#[],by rw [q];simp⟩) (λm hm=>?_) (λb u q=>?_) I.bare
 ·have z:b=e\/b=it:=by simpa using hb
  rcases z with rfl | rfl
  ·exact ⟨a3,a1,a4,a5⟩
  ·exact ⟨b3,b1,b4,b5⟩
 ·obtain ⟨o,es,ep,ho,r⟩:=hm;exact ⟨o,es,ep,k _ o (Ne.symm a1) (Ne.symm b1) ho,r⟩
 ·refine (I.hok b u q).stay (λc v hc r=>?_) (λ_ r=>r) λ_ _ r=>r;rcases hc with z | z
  ·rw [z] at r ⊢;exact k b v (nit b u q).1 (nit b u q).2 r
  ·exact k c v (nit c _ z).1 (nit c _ z).2 r
end
def N8 (a:Hp->List V->Prop):It:=
 ⟨λi H=>∃ xs x,a H xs/\xs[i]?=some x,λi H x H'=>∃ p y,x=.ref p/\H p=none/\H'=upd H p (.tup [.int (i:Int),y])/\∀ xs,a H xs->xs[i]?=some y,λi H=>∃ xs,a H xs/\xs.length=i⟩
section
variable {P:Program} {w:World} {K:PySem.W.Frag} {elts:List Expr} {x1:Nat} {tp:Pos}
theorem cM {σ:St} {H:Hp} {s:Shared} {E:Value->Shared->Prop} {e it:Addr} {G:List Addr} {n i:Nat} {A:Nat->Value->Prop} {m:Nat->Heap->Prop} {j:Value} {y:V} {J:It} {tn:Nat->Heap->Prop}
  (I:Inv X pins σ H s) (g:∀ b∈[e,it],K8 X pins H b) (D:Draws X.prog X.w X.A.in1 it G n A m) (B:IsEnum s.heap e it i j) (c:m i s.heap) (k:i<n) (v:e≠it) (f:e∉G)
  (R:∀ u,A i u->RelV y u) (S:∀ h',(∃ o,IsEnum h' e it ((i:Int)+1) o)->m (i+1) h'->tn (i+1) h') (M:∀ p,H p=none->J.yld i H (.ref p) (upd H p (.tup [.int (i:Int),y]))) :
  wpAny (model X.prog X.w) X.A (pyNext (.ref e)) (λr Z=>∃ u,r=some u /\
   wpAny (model X.prog X.w) X.A (letOwnedTupleGo (.Tuple elts x1 tp) (.ref e) u) (λ_ F=>∃ x H',Inv X pins σ H' F/\RelV x u/\J.yld i H x H'/\tn (i+1) F.heap/\∀ b∈[e,it],H' b=none) E Z) E s:=by
 refine wpAny_pyNext_enum_itemD D B c k v f λu h' d O T hs' Q hsz hk=>?_;have C:=HX B;have w:it<s.heap.objs.size:=by obtain ⟨_,z⟩:=D.live _ _ c;exact HX z
 refine ⟨_,rfl,wpAny_letOwnedTupleGo_enum T λh2 t a=>?_⟩;have fr:=I.hok.fresh (HV _);have I1:Inv X pins σ (upd H s.heap.objs.size (.tup [.int (i:Int),y])) { s with heap:=s.heap.push { cls:=.type "tuple",data:=.seq #[.int i d,u] },toks:=d }:=
  I.laid (λb q z=>HR _ z) (HV _) ⟨by rw [Iq];show 2<=16777216;omega,[.int i d,u],.cons ⟨d,rfl⟩ (.cons (R u O) .nil),⟨_,Ih _ rfl,rfl,_,rfl,rfl⟩⟩
 have K:∀ b,K8 X pins H b->b<s.heap.objs.size->K8 X pins (upd H s.heap.objs.size (.tup [.int (i:Int),y])) b:=λb ⟨c0,Y,W,c3,U,c5⟩ N=>⟨by rw [b6 (Ig N)];exact c0,Y,W,c3,U,c5⟩;have P:=I1.turned2 (t':=d+1) (λb o h L z=>by
  have:=Heap.get?_push_cases z;rcases this with ⟨rfl,rfl⟩ | z1
  ·exact (a.2 _ h).trans Q
  ·exact (a.2 b h).trans (hk b o h L z1)) (K e (g e (by simp)) C) (K it (g it (by simp)) w)
 refine ⟨.ref s.heap.objs.size,_,P,rfl,M _ fr,S _ ⟨_,t⟩ (D.frame _ _ _ hs' λb l o z=>(a.2 b λq=>f (q▸l)).trans z),λb l=>?_⟩;have z:b=e\/b=it:=by simpa using l
 rcases z with rfl | rfl
 ·rw [b6 (Ig C)];exact (g _ (by simp)).1
 ·rw [b6 (Ig w)];exact (g _ (by simp)).1
end
section
variable {P:Program} {w:World} {K:PySem.W.Frag} {elts:List Expr} {x1:Nat} {tp:Pos}
theorem lh {h:Heap} {e it:Addr} {i:Int} {a:Value} (z:IsEnum h e it i a):∃ o,h.get? e=some o/\∀ v,o.data≠.cell v:=by grind
theorem jg {H:Hp} {p:Addr} {y:V} (h:H p=none) (k:∀ xs,Sq H xs->xs[i]?=some y):(N8 Sq).yld i H (.ref p) (upd H p (.tup [.int (i:Int),y])):=by
 show ∃ a b,V.ref p=.ref a/\H a=none/\upd H p (.tup [.int (i:Int),y])=upd H a (.tup [.int (i:Int),b])/\∀ xs,Sq H xs->xs[i]?=some b;grind
theorem hV (a e it:Addr) (hne:e≠it):Turn P w K (.Tuple elts x1 tp) (N8 λH xs=>SqL K H a xs) [e,it] e (λi h=>(∃ old,IsEnum h e it ((i:Nat):Int) old)/\h.IsListIter it a i) where
 mem:=by simp
 obj:=λi h st b hb=>by
  have z:b=e\/b=it:=by simpa using hb
  rcases z with rfl | rfl
  ·obtain ⟨old,q⟩:=st.1;exact lh q
  ·obtain ⟨o,q,c,d⟩:=st.2;exact ⟨o,q,λv z=>by rw [d] at z;cases z⟩
 keep:=λi h h' st k=>⟨(let ⟨old,q⟩:=st.1;⟨old,k e (by simp) _ q⟩),st.2.at λo q=>k it (by simp) o q⟩
 item:=by
  intro X hP hw hK hc i pins s σ H E I hf st hg;subst hP hw hK;obtain ⟨xs,x,hq,hx⟩:=hg;obtain ⟨its,rv,p,hz⟩:=I.list hq;obtain ⟨u,hu,ru⟩:=rv.get hx;obtain ⟨⟨old,he⟩,hit⟩:=st;have nit:a≠it:=λz=>by
   obtain ⟨o,q,c,_⟩:=hit;obtain ⟨o2,q2,c2,_⟩:=p.isList;rw [z,q] at q2;cases q2;rw [c] at c2;exact absurd c2 (by decide)
  have nea:e≠a:=λz=>by
   obtain ⟨o2,q2,c2,_⟩:=p.isList;rw [<- z,he] at q2;cases q2;exact absurd (show Value.type "enumerate" = Value.type "list" from c2) (by decide)
  have hlt:i<its.toArray.size:=by
   have:=(HN.mp hu).1;simpa using this
  refine cM (y:=x) (J:=N8 λH xs=>SqL X.K H a xs) (tn:=λi h=>(∃ old,IsEnum h e it ((i:Nat):Int) old)/\h.IsListIter it a i) I hf (Draws.list (show X.A.in1.handled=none from I.ok.hd hc) it a nit its.toArray) he ⟨hit,p.isList⟩ hlt hne (by simp [hne,nea]) (λv hv=>?_) (λh' ho hs=>⟨?_,hs.1⟩) λq hq2=>jg hq2 (λys hy=>by rw [I.list_inj hy hq];exact hx)
  ·have hv':its[i]?=some v:=by simpa using hv
   rw [hu] at hv';cases hv';exact ru
  ·obtain ⟨o,q⟩:=ho;exact ⟨o,by rw [show ((i+1:Nat):Int)=(i:Int)+1 from rfl];exact q⟩
 done:=by
  intro X hP hw hK hc i pins s σ H E I hf st hg;subst hP hw hK;obtain ⟨xs,hq,hx⟩:=hg;obtain ⟨its,rv,p,hz⟩:=I.list hq;obtain ⟨⟨old,he⟩,hit⟩:=st;have hl:=rv.length;have nit:a≠it:=λz=>by
   obtain ⟨o,q,c,_⟩:=hit;obtain ⟨o2,q2,c2,_⟩:=p.isList;rw [z,q] at q2;cases q2;rw [c] at c2;exact absurd c2 (by decide)
  have en:i=its.toArray.size:=by simp;omega
  obtain ⟨f0,f1,f2,f3,f4,f5⟩:=hf it (by simp);exact wpAny_pyNext_enum_endD (Draws.list (show X.A.in1.handled=none from I.ok.hd hc) it a nit its.toArray) he ⟨en▸hit,p.isList⟩ λh' eb=>⟨rfl,I.turned (t':=s.toks) (λb o hb q=>eb b o hb q) f0 f1 f3 f4 f5⟩
 self:=λ_ _ _ _ _ st h=>by
  obtain ⟨⟨old,he⟩,_⟩:=st;exact KF he h
theorem hX (a e it:Addr) (t:e≠it):Turn P w K (.Tuple elts x1 tp) (N8 λH xs=>SqT K H a xs) [e,it] e (λi h=>(∃ f,IsEnum h e it ((i:Nat):Int) f)/\h.IsTupleIter it a i) where
 mem:=by simp
 obj:=λi h st b J=>by
  have z:b=e\/b=it:=by simpa using J
  rcases z with rfl | rfl
  ·grind
  ·obtain ⟨o,q,c,d⟩:=st.2;exact ⟨o,q,λv z=>by rw [d] at z;cases z⟩
 keep:=λi h h' st k=>⟨(let ⟨f,q⟩:=st.1;⟨f,k e (by simp) _ q⟩),st.2.at λo q=>k it (by simp) o q⟩
 item:=by
  intro X L F O N i pins s σ H E I C st B;subst L F O;obtain ⟨xs,x,y,D⟩:=B;obtain ⟨j,G,p,hz⟩:=I.tuple y;have pt:=p;obtain ⟨u,Y,ru⟩:=G.get D;obtain ⟨⟨f,r⟩,g⟩:=st;have n:a≠it:=λz=>by
   obtain ⟨o,q,c,_⟩:=g;obtain ⟨R,l,m,_⟩:=pt;rw [z,q] at l;cases l;rw [c] at m;exact absurd m (by decide)
  have Q:e≠a:=λz=>by
   obtain ⟨R,l,m,_⟩:=pt;rw [<- z,r] at l;cases l;exact absurd (show Value.type "enumerate" = Value.type "tuple" from m) (by decide)
  have M:i<j.toArray.size:=by
   have:=(HN.mp Y).1;simpa using this
  refine cM (tn:=λi h=>(∃ f,IsEnum h e it ((i:Nat):Int) f)/\h.IsTupleIter it a i) I C (sE (show X.A.in1.handled=none from I.ok.hd N) it a n j.toArray) r ⟨g,pt⟩ M t (by simp [t,Q]) (λv hv=>?_) (λh' ho hs=>⟨?_,hs.1⟩) λq A=>jg A (λys V=>by rw [I.tuple_inj V y];exact D)
  ·grind
  ·grind
 done:=by
  intro X L F O N i pins s σ H E I C st B;subst L F O;obtain ⟨xs,y,D⟩:=B;obtain ⟨j,G,p,hz⟩:=I.tuple y;have pt:=p;obtain ⟨⟨f,r⟩,g⟩:=st;have hl:=G.length;have n:a≠it:=λz=>by
   obtain ⟨o,q,c,_⟩:=g;obtain ⟨R,l,m,_⟩:=pt;rw [z,q] at l;cases l;rw [c] at m;exact absurd m (by decide)
  have S:i=j.toArray.size:=by simp;omega
  obtain ⟨T,U,f2,f3,f4,W⟩:=C it (by simp);exact wpAny_pyNext_enum_endD (sE (show X.A.in1.handled=none from I.ok.hd N) it a n j.toArray) r ⟨S▸g,pt⟩ λh' Z=>⟨rfl,I.turned (λb o J q=>Z b o J q) T U f3 f4 W⟩
 self:=λ_ _ _ _ _ st h=>by
  obtain ⟨⟨f,r⟩,_⟩:=st;exact KF r h
end
section
variable {X:Cx} {elts:List Expr} {x1:Nat} {tp:Pos}
theorem mm:bootBuiltins "enumerate" = some (.type "enumerate"):=by decide +kernel
theorem tH (u:Gl X "enumerate") (x:X.mg "enumerate" = none) (w:PA X [l] ta) (hs:starEach [l] X.env=[(false,eval l X.env)]) :
  PI X (.Tuple elts x1 tp) (.Call (.Name "enumerate" p) [l] [] pos) (λσ H R=>ta σ H λvs f=>∃ a,vs=[.ref a]/\(((∃ xs,SqL X.K f a xs)/\R (N8 λH xs=>SqL X.K H a xs) f)\/((∃ xs,SqT X.K f a xs)/\R (N8 λH xs=>SqT X.K H a xs) f))):=by
 intro pins s σ H R I h;refine Call_ (G1 I u x mm (IT (thn (w pos pins s σ H _ I h) λus c ⟨vs,f,d,A,n⟩=>?_) hs rfl));obtain ⟨a,e,n⟩:=n;subst e;cases A with
 | cons r y=>
  cases y;cases r;have o:∀ h':Heap,h'.objs.size=c.heap.objs.size+2->∀ b∈[c.heap.objs.size+1,c.heap.objs.size],K8 X pins f b:=λh' _ b v=>by
   have z:b=c.heap.objs.size+1\/b=c.heap.objs.size:=by simpa using v
   rcases z with rfl | rfl
   ·exact d.fpOk (Jo _) (d.hok.fresh (Jo _))
   ·exact d.fpOk (HV _) (d.hok.fresh (HV _))
  rcases n with ⟨⟨xs,k⟩,q⟩ | ⟨⟨xs,k⟩,q⟩
  ·obtain ⟨m,t,p,hz⟩:=d.list k;refine call_enumerate_list p.isList λh' g j hsz i=>?_;exact KF g ⟨_,[c.heap.objs.size+1,c.heap.objs.size],_,_,f,rfl,d.kept i,hV a _ _ (Lw _),⟨⟨_,g⟩,j⟩,o h' hsz,q⟩
  ·obtain ⟨m,t,p,hz⟩:=d.tuple k;refine iM (p) λh' g j hsz i=>?_;exact KF g ⟨_,[c.heap.objs.size+1,c.heap.objs.size],_,_,f,rfl,d.kept i,hX a _ _ (Lw _),⟨⟨_,g⟩,j⟩,o h' hsz,q⟩
end
end L2
namespace L3
open PySem PySem.Spec PyProof.Rows L2
def K1 (ds:List D):Src:=λi _=>match ds[i]? with
 | some d=>some (some (.tup [.int (i:Int),d]))
 | none=>if i=ds.length then some none else none
def aS (d:D):M (Src×Nat):=match d with
 | .tup ds=>ret (K1 ds,ds.length+1)
 | .lst ds=>ret (K1 ds,ds.length+1)
 | .scr ds=>ret (K1 ds,ds.length+1)
 | _=>bad
section
variable {K:PySem.W.Frag} {cl:Nat->Addr} {μ:Mp} {H:Hp}
theorem xr {ds:List D} (j:∀ μ2 a S2,LatU μ H μ2 a->Rep K cl μ2 S2 a->Sq a xs) (r:RDs K μ H ds xs):Yl K cl (N8 Sq) μ H (K1 ds):=λi μ2 a S2 l f=>by
 have b:=j μ2 a S2 l f;have h:=r.laterU l;show bG K cl (N8 Sq) i μ2 a S2 (match ds[i]? with
  | some d=>some (some (.tup [.int (i:Int),d]))
  | none=>if i=ds.length then some none else none)
 cases e:ds[i]? with
 | none=>
  by_cases q:i=ds.length
  ·rw [if_pos q];exact ⟨xs,b,by rw [<- r.length];exact q.symm⟩
  ·rw [if_neg q];exact trivial
 | some d=>
  obtain ⟨v,c,k⟩:=h.get e;refine ⟨⟨xs,v,b,c⟩,λx m z=>?_⟩;obtain ⟨p,y,rfl,g,rfl,q⟩:=z;have:=q xs b;rw [c] at this;cases this;exact M6 f (.cons (.int _) (.cons k .nil)) g
theorem BS (h:TupAt K μ H a xs) (r:RDs K μ H ds xs):Yl K cl (N8 λH xs=>SqT K H a xs) μ H (K1 ds):=xr (λμ2 i S2 l j=>by
 rcases h with ⟨q,n1,n2⟩ | q
 ·rcases q with q | ⟨o,q⟩
  ·exact .inl (.inl (l.oth _ _ q n1 n2))
  ·exact .inl (.inr ⟨o,l.oth _ _ q n1 n2⟩)
 ·obtain ⟨o,b,n,f,g,c,d,e,_⟩:=q;exact .inr ⟨o,b,n,f,g,c,d,e⟩) r
theorem rQ (h:LstAt μ H a xs\/ScrAt K μ H a xs) (r:RDs K μ H ds xs):Yl K cl (N8 λH xs=>SqL K H a xs) μ H (K1 ds):=xr (λμ2 c S2 l b=>by
 rcases h with ⟨q,n1,n2⟩ | ⟨q,n1,n2⟩ | q
 ·exact .inl (.inl (l.oth _ _ q n1 n2))
 ·rcases q with q | ⟨o,q⟩
  ·exact .inl (.inl (l.oth _ _ q n1 n2))
  ·exact .inl (.inr ⟨o,l.oth _ _ q n1 n2⟩)
 ·exact .inr q) r
end
section
variable {X:Cx} {cl:Nat->Addr} {xe:Addr->Hp->Prop} {elts:List Expr} {x1:Nat} {tp p pos:Pos}
theorem nk (hg:Gl X "enumerate") (hm:X.mg "enumerate" = none) (ha:PA X [a] (tDs X.K cl xe fs)) (hs:noStar a=true) :
  PI X (.Tuple elts x1 tp) (.Call (.Name "enumerate" p) [a] [] pos) (tIt X.K cl xe λρ=>bind (fs ρ) λds=>match ds with
   | [d]=>aS d
   | _=>bad):=
 PI.imp (tH hg hm ha (d8 hs)) λσ H R ⟨μ,S,ρ,eo,rp,P⟩=>⟨μ,S,ρ,eo,rp,P.bind.imp λds S1 μ1 H1 l1 r1 p1 vs rvs=>by
  cases rvs with
  | nil=>exact False.elim p1
  | cons h t=>
   cases t with
   | cons _ _=>exact False.elim p1
   | nil=>
    cases h with
    | tup h r=>exact ⟨_,rfl,.inr ⟨⟨_,h.sq⟩,p1.ret μ1 H1 (Lat.refl _ _) r1 _ (BS h r)⟩⟩
    | lst h r=>exact ⟨_,rfl,.inl ⟨⟨_,h.sq⟩,p1.ret μ1 H1 (Lat.refl _ _) r1 _ (rQ (.inl h) r)⟩⟩
    | scr h r=>exact ⟨_,rfl,.inl ⟨⟨_,h.sq⟩,p1.ret μ1 H1 (Lat.refl _ _) r1 _ (rQ (.inr h) r)⟩⟩
    | _=>exact False.elim p1⟩
end
end L3
namespace L2
open PySem PySem.Spec PyProof.Rows
section
variable {prog:Program} {w:World} {A:Around} {s:Shared} {R:Result->Shared->Prop}
theorem cY {B b y:Expr} {ifs:List Expr} {p:Scope} {pos:Pos} {it C:Value} {a:PySem.Env} (I:Nat->Shared->Prop)
  (D:∀ n s,I n s->wpAny (model prog w) A (pyNext it) (λr f=>match r with
   | none=>R (.ok .next) f
   | some v=>wpAny (model prog w) A (letOwnedTupleGo b it v) (λ_ g=>wpAny (model prog w) A (assign b a v) (λ_ j=>
     wpAny (model prog w) A (forIn ifs true λc r=>if r=true then do let t <- isTrue c a (eval c a);pure (ForInStep.yield t) else pure (ForInStep.yield r)) (λt d=>
      if t=true then wpAny (model prog w) A (eval B a) (λx i=>
       wpAny (model prog w) A (call (.builtin "list.append") [C,x]) (λ_ l=>∃ m,m<n/\I m l) (notedBy (model prog w) A a λe s'=>R (.error e) s') i) (notedBy (model prog w) A a λe s'=>R (.error e) s') d
      else ∃ m,m<n/\I m d) (notedBy (model prog w) A a λe s'=>R (.error e) s') j) (notedBy (model prog w) A a λe s'=>R (.error e) s') g) (notedBy (model prog w) A a λe s'=>R (.error e) s') f) (notedBy (model prog w) A a λe s'=>R (.error e) s') s)
  (n:Nat) (h:I n s):codeAny (model prog w) A (.compLoop (.ListComp B [⟨b,y,ifs,0⟩] p pos) 0 it C a) R s:=by
 refine codeAny_loop rfl I (λn s E=>?_) n h;refine wpAny_noted ?_;rw [compTurn_list];refine Hz (Kk (Hz (IJ (D n s E) (λr f o=>?_) λ_ _ h'=>h')));cases r with
 | none=>exact HQ o
 | some v=>
  refine Hz (IJ o (λ_ g h₀=>?_) λ_ _ h'=>h');refine Hz (IJ h₀ (λ_ j u=>Hz (IJ u (λt d k=>?_) λ_ _ h'=>h')) λ_ _ h'=>h');cases t with
  | false=>exact HQ ⟨rfl,k⟩
  | true=>
   exact Hz (Hz (IJ k (λx i q=>Hz (IJ q (λ_ l z=>HQ (HQ ⟨rfl,z⟩)) λ_ _ h'=>h')) λ_ _ h'=>h'))
end
def oZ (k:Nat) (caps:List Nat) (n:TI) (f:TG) (p:TT) (te:TE):TE:=λσ H Q=>n σ H λJ g=>∀ a,g a=none->∃ W:Nat->Nat->List V->Hp->Prop,(∃ m,W 0 m [] (upd g a (.lst []))) /\
 ∀ i m ys e,W i m ys e->e a=some (.lst ys)/\((J.stop i e/\Q (.ref a) e)\/(J.go i e/\∀ x l,J.yld i e x l->f x (List.replicate k none++B5 caps σ) l λd o=>∃ c:List (Option V),c.length=k/\d=c++B5 caps σ/\p d o λb h=>
  if b=true then te d h λy j=>j a=some (.lst ys)/\ys.length<sizeLine/\∃ m',m'<m/\W (i+1) m' (ys++[y]) (upd j a (.lst (ys++[y])))
  else ∃ m',m'<m/\W (i+1) m' ys h))
theorem oR {X:Cx} {elt iter tg:Expr} {k:Nat} {tgp:TG} {ifs:List Expr} {scope:Scope} {pos:Pos} {N':List Str} {caps:List Nat} {wi:TI} {tc:TT} {te:TE}
  (T:CompText X.N X.env N' k caps scope) (hc:X.calm=true) (hg:∀ pins C fp s H,PG (d6 X pins N' scope C fp s H) tg tgp) (hi:PI X tg iter wi)
  (ht:∀ pins C fp s H,PTL (d6 X pins N' scope C fp s H) ifs tc) (he:∀ pins C fp s H,PE (d6 X pins N' scope C fp s H) elt te)
  (hs:∀ x,foldedSetIterable iter X.env x=pure x:=by intro _;rfl):PE X (.ListComp elt [⟨tg,iter,ifs,0⟩] scope pos) (oZ k caps wi tgp tc te):=by
 intro pins s σ H Q I h;have fr:∀ x∈scope.names,x.2=NameKind.free->∃ c,X.env.cells.lookup x.1=some c:=λx hx hk=>I.ok.has x.1 (T.free x hx hk).2;rw [eval_ListComp];refine Kn (use:=none) rfl hs (D4 fr) T.kind T.loc ?_;refine thn (hi pins s σ H _ I h) λv s1 h1=>thn h1 λitv s2 h2=>?_;obtain ⟨it,fp,tn,J,H2,rfl,I2,Tn,st2,f2,h2⟩:=h2;obtain ⟨W,⟨m0,w0⟩,turn⟩:=h2 s2.heap.objs.size (I2.hok.fresh (HV _));have hlt:∀ b∈fp,b<s2.heap.objs.size:=λb hb=>let ⟨o,e,_⟩:=Tn.obj _ _ st2 b hb;HX e
 refine IK (KN T.cell (by intro y hy;simp at hy) (λh₁ hns₁ hsb₁=>?_) T.kind);dsimp only at hns₁ hsb₁ ⊢;have hC:(s2.heap.push { cls:=.type "list",dict:=none,data:=.seq ([]:List Value).toArray }).objs.size=s2.heap.objs.size+1:=JP ..;rw [hC] at hns₁ hsb₁;have old:∀ b o,s2.heap.get? b=some o->h₁.get? b=some o:=λb o e=>hsb₁.extBut b o (Ig (Jq (HX e))) (HR _ (HR _ e));have hacc:h₁.get? s2.heap.objs.size=some { cls:=.type "list",data:=.seq #[] }:=hsb₁.extBut _ _ (Ig (IP _)) (HR _ (Ih _ rfl));have hst₁:tn 0 h₁:=Tn.keep _ _ _ st2 λb _ o e=>old b o e;have I3:=O2 (t:=s2.toks+([]:List (Str×Value)).length) T I2 f2 hlt hns₁ old hacc;have stat:∀ {H':Hp},(∀ b∈fp,H' b=none)->∀ b∈fp,K8 (d6 X pins N' scope (s2.heap.objs.size+1) fp s2 H2) [] H' b:=λhn b hb=>by
  refine ⟨hn b hb,(I3.ok.exf b hb).1,I3.ok.exfs b hb,.inl hb,(I3.ok.exf b hb).2,λp hp=>?_⟩;have hp':p∈X.pn++pins:=by
   have:p∈(X.pn++pins)++[]:=hp;rwa [IF] at this
  exact (f2 b hb).2.2.2.2.2 p hp'
 have loop:∀ s3:Shared,s3={ s2 with heap:=h₁,toks:=s2.toks+([]:List (Str×Value)).length } ->
   codeAny (model X.prog X.w) X.A (.compLoop (.ListComp elt [⟨tg,iter,ifs,0⟩] scope pos) 0 (.ref it) (.ref s2.heap.objs.size) (compEnvC scope (V8 X.env.cells scope.names) (s2.heap.objs.size+1) X.env))
    (compPost (model X.prog X.w) X.A X.xe none (EP X pins σ Q) (.ref s2.heap.objs.size) (s2.heap.objs.size+1)) s3:=by
  rintro s3 rfl;refine cY (λn s'=>∃ i ys H',Inv (d6 X pins N' scope (s2.heap.objs.size+1) fp s2 H2) [] (List.replicate k none++B5 caps σ) H' s'/\tn i s'.heap/\(∀ b∈fp,H' b=none)/\W i n ys H') ?_ m0
   ⟨0,[],_,I3,hst₁,λb hb=>by rw [b6 (Ig (hlt b hb))];exact (f2 b hb).1,w0⟩
  rintro n s4 ⟨i,ys,H4,I4,st4,fr4,w4⟩;obtain ⟨hacc4,turn4⟩:=turn i n ys H4 w4;refine i4 ?_;rcases turn4 with ⟨stop,q⟩ | ⟨go,step⟩
  ·refine thn (Tn.done (d6 X pins N' scope (s2.heap.objs.size+1) fp s2 H2) rfl rfl rfl hc i [] s4 _ H4 (λ_ _=>False) I4 (stat fr4) st4 stop) λr s5 ⟨hr,I5⟩=>?_;subst hr;obtain ⟨m5,hn5,_⟩:=id I5.loc;refine ⟨m5,hn5,λh' hs'=>?_⟩;refine ⟨.ref s2.heap.objs.size,H4,?_,rfl,q⟩;refine I2.call' (ch:=fp) (s':={ s5 with heap:=h' }) I5.os (Un.sameBut I5.base hs' (Jo _)) (I5.hok.sameBut I5.free hs') I5.bare λb hb=>?_;have:=f2 b hb;exact ⟨this.2.2.2.1,this.2.1,this.2.2.2.2.1,this.2.2.2.2.2⟩
  ·refine thn (Tn.item (d6 X pins N' scope (s2.heap.objs.size+1) fp s2 H2) rfl rfl rfl hc i [] s4 _ H4 (λ_ _=>False) I4 (stat fr4) st4 go) λr s5 ⟨u,hr,h5⟩=>?_;subst hr;dsimp only;refine i4 (thn h5 λ_ s6 ⟨xv,H6,I6,r6,y6,st6,fr6⟩=>?_);have I6':=I6.pinned (stat fr6) (Tn.obj _ _ st6);refine i4 (thn (hg pins _ fp s2 H2 _ s6 _ H6 xv u _ I6' r6 (step xv _ y6)) λ_ s7 ⟨σ7,H7,I7,vals,hv,e7,q7⟩=>?_);subst e7;have back:∀ {σ8:St} {H8:Hp} {s8:Shared},Inv (d6 X pins N' scope (s2.heap.objs.size+1) fp s2 H2) ([]++D9 fp s6.heap) σ8 H8 s8->tn (i+1) s8.heap/\∀ b∈fp,H8 b=none:=λ{σ8 H8 s8} I8=>by
    refine ⟨Tn.keep _ _ _ st6 λb hb o e=>(I8.pin (b,o) (Ik _ (Ik _ (q5 hb e)))).1,λb hb=>?_⟩;obtain ⟨o,e,d⟩:=Tn.obj _ _ st6 b hb;exact (I8.pin (b,o) (Ik _ (Ik _ (q5 hb e)))).2.1
   refine i4 (thn (ht pins _ fp s2 H2 _ s7 _ _ _ I7 q7) λb s8 ⟨H8,I8,q8⟩=>?_);have wk:∀ {H9:Hp} {s9:Shared},Inv (d6 X pins N' scope (s2.heap.objs.size+1) fp s2 H2) ([]++D9 fp s6.heap) (vals++B5 caps σ) H9 s9->Inv (d6 X pins N' scope (s2.heap.objs.size+1) fp s2 H2) [] (List.replicate k none++B5 caps σ) H9 s9:=λ{H9 s9} I9=>
    I9.unpinned.weak (by simp [hv]) λj v e=>by
     by_cases hj:j<k
     ·rw [HW (by simpa using hj),Jb,if_pos hj] at e;cases e
     ·rw [IB (by simpa using hj)] at e;rw [IB (by omega),hv];simpa using e
   cases b with
   | false=>
    obtain ⟨m',hm,w'⟩:=q8;exact ⟨m',hm,i+1,ys,H8,wk I8,(back I8).1,(back I8).2,w'⟩
   | true=>
    refine i4 (thn (he pins _ fp s2 H2 _ s8 _ H8 _ I8 q8) λz s9 ⟨y,H9,I9,r9,hacc9,hl9,m',hm,w'⟩=>?_);refine i4 (thn (M2 (X:=d6 X pins N' scope (s2.heap.objs.size+1) fp s2 H2) _ s9 _ H9 (.ref s2.heap.objs.size) [y] (.ref s2.heap.objs.size) [z] (λ_ H'=>H'=upd H9 s2.heap.objs.size (.lst (ys++[y]))) I9 rfl (.cons r9 .nil) ⟨_,ys,y,rfl,rfl,hacc9,hl9,rfl⟩) λ_ s10 ⟨_,H10,I10,_,e10⟩=>?_);subst e10;exact ⟨m',hm,i+1,ys++[y],_,wk I10,(back I10).1,(back I10).2,w'⟩
 have fin:=KA (loop _ rfl) (Tn.self _ 0 _ _ _ hst₁ (loop _ rfl));rw [<- hC] at fin;exact fin
end L2
namespace L3
open PySem PySem.Spec PyProof.Rows L2
def mk2 (c:Env) (d:D):Env:=match d with
 | .tup [a,b]=>some a :: some b :: c
 | _=>[]
def qW (t:Env->M Bool) (ρ:Env):M Bool:=match ρ with
 | []=>bad
 | o :: ρ=>t (o :: ρ)
def cm (caps:List Nat) (b:Env->M (Src×Nat)) (t:Env->M Bool) (f:Env->M D) (ρ:Env):M (List D):=bind (b ρ) λa=>u9 a.1 (qW t) f (mk2 (G6 caps ρ)) a.2 0 []
theorem ni {K:PySem.W.Frag} {μ:Mp} {H:Hp} {ρ:Env} {σ:L2.St} {d:D} {x:V} (a:EnvOk K μ H ρ σ) (r:RD K μ H d x):EnvOk K μ H (some d :: ρ) (some x :: σ):=by
 refine ⟨by simp [a.1],λi e b=>?_⟩;cases i with
 | zero=>grind
 | succ j=>exact a.2 j e b
def GY:TGs:=qH (bH 0) (qH (bH 1) gNil)
theorem eS {K:PySem.W.Frag} {cl:Nat->Addr} {xe:Addr->Hp->Prop} {caps:List Nat} {fi:Env->M (Src×Nat)} {t:Env->M Bool} {f:Env->M D} {σ:L2.St} {H:Hp} {μ:Mp} {S:Sto} {ρ:Env} {Q:VK} (eo:EnvOk K μ H ρ σ) (rp:Rep K cl μ S H)
  (p:Post K cl xe μ H (cm caps fi t f ρ S) λds _ μ' H'=>∀ c ys,LstAt μ' H' c ys->RDs K μ' H' ds ys->Q (.ref c) H'):oZ 2 caps (tIt K cl xe fi) (Cn K 2 GY) (tBo K cl xe t) (tD K cl xe f) σ H Q:=by
 refine ⟨μ,S,ρ,eo,rp,p.bind.imp λsm S1 u H1 l1 L p1 J yl c g=>?_⟩;obtain ⟨src,m0⟩:=sm;have W:=L.notrs g;refine ⟨λi m ys s=>∃ μ2 S2 es,HLat u H1 c μ2 s/\c∉μ2.pl/\s c=some (.lst ys)/\EnvOk K μ2 s ρ σ/\Rep K cl μ2 S2 s/\RDs K μ2 s es ys/\Post K cl xe u H1 (u9 src (qW t) f (mk2 (G6 caps ρ)) m i es S2) (λds _ μ' H'=>∀ c ys,LstAt μ' H' c ys->RDs K μ' H' ds ys->Q (.ref c) H'),⟨m0,u.hold c,S1,[],?_,L.notin g,b8,R6 L g (eo.later l1),R3 L g,.nil,p1⟩,?_⟩
 ·refine ⟨⟨λ_ _ e=>e,λa o e _=>by rw [b6 (c8 e g)];exact e,λa m=>.inl m,λa m=>?_⟩,rfl⟩;rcases Ii.mp (m) with rfl | m
  ·exact .inr g
  ·exact .inl m
 rintro i m ys s ⟨μ2,S2,es,P,A,G,z,r2,h,k⟩;refine ⟨G,?_⟩;cases m with
 | zero=>exact k.elim
 | succ m=>
  have y:bG K cl J i μ2 s S2 (src i S2):=yl i μ2 s S2 P.r.u r2;simp only [u9] at k;cases e1:src i S2 with
  | none=>rw [e1] at k;exact k.elim
  | some o=>
   rw [e1] at k y;cases o with
   | none=>
    refine .inl ⟨y,k μ2.free s (P.lat (Lat.refl _ _)) (aU r2) c ys ⟨G,A,?_⟩ (fP h)⟩;show c∉μ2.rs.tail;rw [P.rs];exact W
   | some d=>
    obtain ⟨y1,y2⟩:=y;refine .inr ⟨y1,λx H3 hy=>?_⟩;obtain ⟨l3,r3,R⟩:=y2 x H3 hy;have h3:=P.step l3;cases R with
    | tup ht rs=>
     cases rs with
     | nil=>exact False.elim k
     | cons ra rs=>
      cases rs with
      | nil=>exact False.elim k
      | cons rb rs=>
       cases rs with
       | cons _ _=>exact False.elim k
       | nil=>
        rename_i da va db V;refine ⟨_,_,rfl,ht.sq,rfl,va,[V],rfl,V,[],rfl,rfl,[some va,some V],rfl,rfl,?_⟩;have ev:=ni (S8 (caps:=caps) (z.later l3) rb) ra;refine ⟨μ2,S2,some da :: some db :: G6 caps ρ,ev,r3,(Post.at k h3).imp λb S5 B H5 U r5 Z=>?_⟩;have h5:=h3.step U;have l:=l3.trans U;have T:=l.oth _ _ G A;have X:=l.out G A;cases b with
        | false=>exact ⟨m,IP _,B,S5,es,h5,X,T,z.later l,r5,h.later l,Z⟩
        | true=>
         refine tI ?_;rw [if_pos rfl] at Z;refine ⟨B,S5,some da :: some db :: G6 caps ρ,ev.later U,r5,(Post.at Z h5).imp λyv S6 Y H6 N r6 I v rv=>?_⟩;have C:=h5.step N;have E:=l.trans N;have a6:=N.oth _ _ T X;have n6:=N.out T X;by_cases hz:es.length<sizeLine
         ·rw [if_pos hz] at I;have O:=C.rs;refine ⟨a6,by rw [<- h.length];exact hz,m,IP _,Y,S6,es++[yv],?_,n6,b8,?_,V3 O a6 r6,U1 O ((h.later E).append (.cons rv .nil)),I⟩
          ·refine ⟨⟨C.r.pre,λa o e n=>?_,C.r.new,C.r.rsw⟩,O⟩;rw [b6 (c8 e g)];exact C.r.oth a o e n
          ·have F:=z.later E;exact ⟨F.1,λj e he=>let ⟨w,q,r⟩:=F.2 j e he;⟨w,q,aG O r⟩⟩
         ·rw [if_neg hz] at I;exact I.elim
    | _=>exact False.elim k
section
variable {X:Cx} {cl:Nat->Addr} {xe:Addr->Hp->Prop} {elt iter:Expr} {x y:Str} {px py tp pos:Pos} {kk:Nat} {ifs:List Expr} {scope:Scope} {N':List Str} {caps:List Nat} {fi:Env->M (Src×Nat)} {t:Env->M Bool} {f:Env->M D}
theorem kb (T:CompText X.N X.env N' 2 caps scope) (h:X.calm=true) (g:N'.Nodup) (d:N'[0]?=some x) (e:N'[1]?=some y) (c:scope.names.lookup x=some .local) (a:scope.names.lookup y=some .local) (j:PI X (.Tuple [.Name x px,.Name y py] kk tp) iter (tIt X.K cl xe fi))
  (n:∀ pins C b s H,PTL (d6 X pins N' scope C b s H) ifs (tBo X.K cl xe t)) (m:∀ pins C b s H,PE (d6 X pins N' scope C b s H) elt (tD X.K cl xe f)) (i:v4 iter=true) :
  PE X (.ListComp elt [⟨.Tuple [.Name x px,.Name y py] kk tp,iter,ifs,0⟩] scope pos) (qJ X.K cl xe (cm caps fi t f)):=
 PE.imp (oR T h (λpins C b s H=>pT (X:=d6 X pins N' scope C b s H) h (ak (M5 g d (.inl (IU c)) (.inr (IU c))) (ak (M5 g e (.inl (IU a)) (.inr (IU a))) jF))) j n m (w9 i)) λσ H Q ⟨μ,S,ρ,l,k,p⟩=>eS l k p
end
def u7 (d:D):M Bool:=match d with
 | .non=>ret false
 | .bl b=>ret b
 | .int i=>ret (i != 0)
 | .str x=>if x.length<=sizeLine then ret ((x.length:Int) != 0) else bad
 | .ref n=>λS=>match S[n]? with
  | some (.lst ds)=>.ok (!ds.isEmpty) S
  | some (.dct a)=>.ok (!a.isEmpty) S
  | _=>.bad
 | d=>bind (N9 d) λds=>ret (!ds.isEmpty)
section
variable {K:PySem.W.Frag} {cl:Nat->Addr} {xe:Addr->Hp->Prop} {μ:Mp} {H:Hp} {S:Sto}
theorem M4 (r:RDs K μ H ds vs):ds.isEmpty=vs.isEmpty:=by cases r <;> rfl
theorem dO (rd:RD K μ H d v) (rp:Rep K cl μ S H) (p:Post K cl xe μ H (u7 d S) G):∃ k,nK K v H k/\G k S μ H:=by
 cases rd with
 | non=>exact ⟨_,rfl,p μ H (Lat.refl _ _) rp⟩
 | bl b=>exact ⟨_,rfl,p μ H (Lat.refl _ _) rp⟩
 | int i=>exact ⟨_,rfl,p μ H (Lat.refl _ _) rp⟩
 | str x=>
  obtain ⟨hl,p⟩:=Post.guard p;exact ⟨_,⟨hl,rfl⟩,p μ H (Lat.refl _ _) rp⟩
 | tup h r=>exact ⟨_,.inr (.inl ⟨_,h.sq,by rw [<- M4 r]⟩),p μ H (Lat.refl _ _) rp⟩
 | lst h r=>exact ⟨_,.inl ⟨_,h.sq,by rw [<- M4 r]⟩,p μ H (Lat.refl _ _) rp⟩
 | scr h r=>exact ⟨_,.inl ⟨_,h.sq,by rw [<- M4 r]⟩,p μ H (Lat.refl _ _) rp⟩
 | ref h=>
  rename_i n a;simp only [u7] at p;cases q1:S[n]? with
  | none=>rw [q1] at p;exact p.elim
  | some o=>
   rw [q1] at p;cases o with
   | lst ds=>
    obtain ⟨xs,h1,h2⟩:=rp.ats n _ a q1 h;exact ⟨_,.inl ⟨xs,.inl (.inl h1),by rw [<- M4 h2]⟩,p μ H (Lat.refl _ _) rp⟩
   | dct kvs=>
    obtain ⟨ks,h1,h2⟩:=rp.ats n _ a q1 h;refine ⟨_,.inr (.inr ⟨ks,h1,rfl⟩),?_⟩;have e:kvs.isEmpty=ks.isEmpty:=by cases h2 <;> rfl
    rw [<- e];exact p μ H (Lat.refl _ _) rp
   | exc _ _=>exact p.elim
end
section
variable {X:Cx} {cl:Nat->Addr} {xe:Addr->Hp->Prop} {a b e:Expr} {es rest:List Expr} {pos:Pos} {f g:Env->M D}
theorem rV (h:PE X a (tD X.K cl xe f)) (i:E5 a=true):PT X a (tBo X.K cl xe λρ=>bind (f ρ) u7):=PT.imp (mz h (test_of i)) λσ H Q ⟨μ,S,ρ,b,k,p⟩=>
 ⟨μ,S,ρ,b,k,p.bind.imp λd S1 j l m e g v c=>dO c e g⟩
theorem nW (h:PE X a (tD X.K cl xe f)):PE X (.BoolOp op [a] pos) (tD X.K cl xe f):=zy h
theorem BG (h:PE X a (tD X.K cl xe f)) (k:PE X (.BoolOp .And (b :: rest) pos) (tD X.K cl xe g)):PE X (.BoolOp .And (a :: b :: rest) pos) (tD X.K cl xe λρ=>bind (f ρ) λd=>bind (u7 d) λq=>if q=true then g ρ else ret d):=by
 intro pins s σ H Q I ⟨μ,S,ρ,m,A,p⟩;refine BoolOp_and (thn (h pins s σ H (λv e=>∃ c,nK X.K v e c/\if c=true then tD X.K cl xe g σ e Q else Q v e) I ⟨μ,S,ρ,m,A,p.bind.imp λd S1 i e F j w v n=>?_⟩) λv z ⟨x,e,E,t,c,l,q⟩=>?_)
 ·obtain ⟨c,l,q⟩:=dO n j w.bind;refine ⟨c,l,?_⟩;cases c with
  | true=>exact ⟨i,S1,ρ,m.later F,j,q⟩
  | false=>exact q i e (Lat.refl _ _) j _ n
 ·refine thn (gp pins z σ e x v (λB H'=>B=c/\H'=e) E t ⟨c,l,rfl,rfl⟩) λC D ⟨r,o,y,u⟩=>?_;subst y u;cases C with
  | true=>exact k pins D σ r Q o q
  | false=>exact ⟨x,r,o,t,q⟩
theorem DJ (h:PE X a (tD X.K cl xe f)) (k:PE X (.BoolOp .Or (b :: rest) pos) (tD X.K cl xe g)):PE X (.BoolOp .Or (a :: b :: rest) pos) (tD X.K cl xe λρ=>bind (f ρ) λd=>bind (u7 d) λq=>if q=true then ret d else g ρ):=by
 intro pins s σ H Q I ⟨μ,S,ρ,m,A,p⟩;refine BoolOp_or (thn (h pins s σ H (λv e=>∃ c,nK X.K v e c/\if c=true then Q v e else tD X.K cl xe g σ e Q) I ⟨μ,S,ρ,m,A,p.bind.imp λd S1 i e F j w v n=>?_⟩) λv z ⟨x,e,E,t,c,l,q⟩=>?_)
 ·obtain ⟨c,l,q⟩:=dO n j w.bind;refine ⟨c,l,?_⟩;cases c with
  | true=>exact q i e (Lat.refl _ _) j _ n
  | false=>exact ⟨i,S1,ρ,m.later F,j,q⟩
 ·refine thn (gp pins z σ e x v (λB H'=>B=c/\H'=e) E t ⟨c,l,rfl,rfl⟩) λC D ⟨r,o,y,u⟩=>?_;subst y u;cases C with
  | true=>exact ⟨x,r,o,t,q⟩
  | false=>exact k pins D σ r Q o q
def tPt (K:PySem.W.Frag) (cl:Nat->Addr) (xe:Addr->Hp->Prop) (a:Env->M (Option Int)):TO:=λσ H Q=>∃ μ S ρ,EnvOk K μ H ρ σ/\Rep K cl μ S H/\Post K cl xe μ H (a ρ S) λo _ _ H'=>Q o H'
def bU (d:D):M (Option Int):=match d with
 | .int i=>ret (some i)
 | _=>bad
theorem PO.imp {e:Option Expr} {t t':TO} (h:PO X e t) (k:∀ σ H Q,t' σ H Q->t σ H Q):PO X e t':=λpins s σ H Q I q=>h pins s σ H Q I (k σ H Q q)
theorem vJ:PO X none (tPt X.K cl xe λ_=>ret none):=PO.imp wD λσ H Q ⟨μ,S,ρ,b,a,p⟩=>p μ H (Lat.refl _ _) a
theorem wE (h:PE X e (tD X.K cl xe f)):PO X (some e) (tPt X.K cl xe λρ=>bind (f ρ) bU):=PO.imp (uM h) λσ H Q ⟨μ,S,ρ,eo,rp,p⟩=>
 ⟨μ,S,ρ,eo,rp,p.bind.imp λd S1 μ1 H1 l1 r1 p1 v rv=>by
  cases rv with
  | int i=>exact ⟨i,rfl,p1 μ1 H1 (Lat.refl _ _) r1⟩
  | _=>exact False.elim p1⟩
theorem N2 {s:Shared} {t e:Addr} {items:Array Value} {k i:Value} {lo c:Option Int} {Q:Value->Shared->Prop} (a:IsTup s.heap t items) (hs:s.heap.IsSliceOf e k i .none) (pl:IsPart k lo) (l:IsPart i c)
  (j:HT.sIx items.size 0 lo=0/\HT.sIx items.size items.size c=items.size) (h:Q (.ref t) s):wpAny (model prog w) A (getItem (.ref t) (.ref e)) Q E s:=by
 obtain ⟨m,g,d,hds⟩:=id hs;have f:s.TypeIs (.ref e) "slice":=⟨m,g,d⟩;unfold getItem;try with_reducible refine Jm ?_
 first | refine Hz (HQ ?_) | skip
 refine Hz (wpAny_sequenceKey a.typeIs (by decide) ?_);refine Hz (JN a.typeIs Jg
  (Ka Jg a.typeIs entry_tuple_getitem ?_ (args_tuple_getitem _ _)))
 show wpAny _ _ (Builtin.Tuple.tupleItemsOf (.ref t) >>= _) _ _ s;refine Hz (Lo a ?_);refine Hz (Lz f ?_);rw [if_pos (by decide)];refine Hz (HT.sliceApplied_gen hs pl l ?_);have b:(((HT.sIx items.size 0 lo:Nat):Int)==0&&(1:Int)==1&&(HT.sIx items.size items.size c-HT.sIx items.size 0 lo)==items.size)=true:=by
  rw [j.1,j.2];simp
 show wpAny _ _ (if (((HT.sIx items.size 0 lo:Nat):Int)==0&&(1:Int)==1&&(HT.sIx items.size items.size c-HT.sIx items.size 0 lo)==items.size)=true then _ else _) _ _ s;rw [if_pos b];refine Hz ?_;refine Hz (Lz a.typeIs (HQ ?_));rw [if_pos (by decide)];refine Hz (wpAny_rule ?_);exact HQ ⟨_,rfl,HQ h⟩
theorem vh:SlR X (λx lo e H Q=>∃ a xs,x=.ref a/\SqT X.K H a xs/\(HT.sIx xs.length 0 lo=0/\HT.sIx xs.length xs.length e=xs.length)/\Q (.ref a) H):=by
 intro pins s σ H x v m k lo e l Q I f hs pl j h;obtain ⟨a,xs,rfl,g,i,q⟩:=h;cases f;obtain ⟨c,r,d,hz⟩:=I.tuple g;have b:c.toArray.size=xs.length:=by rw [Ib];exact r.length.symm
 exact ⟨"tuple",_,PyProof.Rows.slot_tuple_getitem.lookup,d.typeIs,N2 d hs pl j (by rw [b];exact i) ⟨.ref a,H,I,rfl,q⟩⟩
theorem Fs:SlR X (λx lo hi H Q=>∃ μ S d,RD X.K μ H d x/\Rep X.K cl μ S H/\Post X.K cl xe μ H (slD d lo hi S) λr _ μ' H'=>∀ v,RD X.K μ' H' r v->Q v H'):=by
 intro pins s σ H x v vl vu lo hi sl Q I rx hs pl pu ⟨μ,S,d,rd,rp,p⟩;have sq:∀ {a:Addr} {xs:List V} {ds:List D},SqL X.K H a xs->RDs X.K μ H ds xs->x=.ref a->(∀ μ' H',Lat μ H μ' H'->Rep X.K cl μ' S H'->∀ w,RD X.K μ' H' (.lst (L4 ds lo hi)) w->Q w H') ->
   ∃ T id,typeLookup (.type T) "__getitem__" = pure (some (.builtin id))/\s.TypeIs v T/\wpAny (model X.prog X.w) X.A (getItem v (.ref sl)) (EP X pins σ Q) X.xe s:=λ{a xs ds} hq r2 hv q=>by
  subst hv;refine vW pins s σ H _ v vl vu lo hi sl Q I rx hs pl pu ⟨a,xs,rfl,hq,λz hz=>?_⟩;obtain ⟨l,rp2,rd2⟩:=M0 rp (rG r2 lo hi) hz;exact q μ _ l rp2 _ rd2
 cases rd with
 | tup h r=>
  rename_i a xs ds;by_cases hw:HT.sIx xs.length 0 lo=0/\HT.sIx xs.length xs.length hi=xs.length
  ·refine vh pins s σ H _ v vl vu lo hi sl Q I rx hs pl pu ⟨a,xs,rfl,h.sq,hw,?_⟩;have e:L4 ds lo hi=ds:=by
    unfold L4;rw [r.length,hw.1,hw.2,List.drop_zero,Nat.sub_zero];exact List.take_of_length_le (by rw [r.length];exact HV _)
   exact p μ H (Lat.refl _ _) rp _ (by rw [e];exact .tup h r)
  ·refine BN pins s σ H _ v vl vu lo hi sl Q I rx hs pl pu ⟨a,xs,rfl,h.sq,hw,λz hz=>?_⟩;obtain ⟨l,rp2,rd2⟩:=M6 rp (rG r lo hi) hz;exact p μ _ l rp2 _ rd2
 | lst h r=>exact sq h.sq r rfl p
 | scr h r=>exact sq h.sq r rfl p
 | ref h=>
  rename_i n a0;have p2:=p;obtain ⟨a,xs,ds,e1,h1,h2,e2⟩:=p7 (.ref h) rp p2.bind;exact sq (.inl (.inl h1)) h2 e1 (p2.ok_bind e2)
 | _=>exact False.elim p
theorem FA {lo k:Option Expr} {c:Pos} {j m:Env->M (Option Int)} (h:PE X e (tD X.K cl xe f)) (t:PO X lo (tPt X.K cl xe j)) (B:PO X k (tPt X.K cl xe m)) :
  PE X (.Subscript e (.Slice lo k none c) pos) (tD X.K cl xe λρ=>bind (f ρ) λd=>bind (j ρ) λl=>bind (m ρ) λu=>slD d l u):=PE.imp (nO Fs h t B) λσ H Q ⟨μ,S,ρ,a,s,p⟩=>
 ⟨μ,S,ρ,a,s,p.bind.imp λd S1 g C n o q v x=>⟨g,S1,ρ,a.later n,o,q.bind.imp λl S2 μ2 E i A c=>⟨μ2,S2,ρ,(a.later n).later i,A,c.bind.imp λu z b D y r w=>⟨b,z,d,(x.later i).later y,r,w⟩⟩⟩⟩
end
def A9 (x k v:D):M D:=match x with
 | .ref n=>λS=>match S[n]? with
  | some (.lst ds)=>match k with
   | .int i=>match ixN ds.length i with
    | some j=>.ok .non (S.set n (.lst (ds.set j v)))
    | none=>.bad
   | _=>.bad
  | some (.dct a)=>match E6 k with
   | some b=>if a.length<sizeLine then .ok .non (S.set n (.dct (iL a b v))) else .bad
   | none=>.bad
  | _=>.bad
 | _=>bad
theorem jq {K:PySem.W.Frag} {μ:Mp} {H:Hp} {k:Key}:∀ {a:List (Key×D)} {c:List (Key×V)},KvsAt K μ H a c->(a.any λb=>decide (b.1=k))=c.any λb=>decide (b.1=k)
 | _,_,.nil=>rfl
 | _,_,.cons ⟨d,e⟩ t=>by simp only [Km,d,jq t]
theorem ju {K:PySem.W.Frag} {μ:Mp} {H:Hp} {k:Key} {d:D} {v:V} (r:RD K μ H d v):∀ {c:List (Key×D)} {e:List (Key×V)},KvsAt K μ H c e->KvsAt K μ H (c.map λa=>if a.1=k then (a.1,d) else a) (e.map λa=>if a.1=k then (a.1,v) else a)
 | _,_,.nil=>.nil
 | _,_,.cons (b:=b) ⟨h1,h2⟩ t=>by
  refine .cons ?_ (ju r t);by_cases f:b.1=k
  ·grind
  ·grind
theorem Paired.app:∀ {xs a:List α} {ys b:List β},Paired P xs ys->Paired P a b->Paired P (xs++a) (ys++b)
 | _,_,_,_,.nil,s=>s
 | _,_,_,_,.cons r t,s=>.cons r (Paired.app t s)
theorem ij {K:PySem.W.Frag} {μ:Mp} {H:Hp} {k:Key} {d:D} {v:V} {a:List (Key×D)} {b:List (Key×V)} (h:KvsAt K μ H a b) (r:RD K μ H d v):KvsAt K μ H (iL a k d) (y8 b k v):=by
 unfold iL y8;rw [jq h];split
 ·exact ju r h
 ·exact Paired.app h (.cons ⟨rfl,r⟩ .nil)
theorem KvsAt.later {K:PySem.W.Frag} {μ μ':Mp} {H H':Hp} {a:List (Key×D)} {b:List (Key×V)} (h:KvsAt K μ H a b) (l:Lat μ H μ' H'):KvsAt K μ' H' a b:=Paired.mono (λ_ _ ⟨z,w⟩=>⟨z,w.later l⟩) h
section
variable {X:Cx} {cl:Nat->Addr} {xe:Addr->Hp->Prop} {a b e:Expr} {es rest:List Expr} {pos:Pos} {f g k:Env->M D}
theorem DO (hu:X.A.units+1<cLine):zB X (λo i v H Q=>∃ μ S x y z,RD X.K μ H x o/\RD X.K μ H y i/\RD X.K μ H z v/\Rep X.K cl μ S H/\Post X.K cl xe μ H (A9 x y z S) λ_ _ _ H'=>Q H'):=by
 intro pins s σ H o i v ov iv u Q I ro ri rv ⟨μ,S,x,y,z,rx,ry,rz,rp,p⟩;cases rx with
 | ref h=>
  rename_i n a;have m:=Io h;simp only [A9] at p;cases q1:S[n]? with
  | none=>rw [q1] at p;exact p.elim
  | some ob=>
   rw [q1] at p;cases ob with
   | lst ds=>
    obtain ⟨xs,h1,h2⟩:=rp.ats n _ a q1 h;cases ry with
    | int j=>
     simp only at p;cases q2:ixN ds.length j with
     | none=>rw [q2] at p;exact p.elim
     | some t=>
      rw [q2] at p;refine nB pins s σ H _ _ v ov iv u Q I ro ri rv ⟨a,xs,j,t,rfl,rfl,h1,by rw [<- h2.length];exact q2,?_⟩;exact p μ _ (Lat.wrote m) (rp.wrote h ⟨_,b8,(h2.set rz t).later (Lat.wrote m)⟩)
    | _=>exact False.elim p
   | dct kvs=>
    obtain ⟨ks,h1,h2⟩:=rp.ats n _ a q1 h;cases q2:E6 y with
    | none=>rw [q2] at p;exact p.elim
    | some key=>
     rw [q2] at p;by_cases hl:kvs.length<sizeLine
     ·simp only [if_pos hl] at p;have hy:=Q8 ry q2;subst hy;cases ro;have hl2:ks.length<sizeLine:=by rw [<- Paired.length h2];exact hl
      refine lZ hu I (DPut.k h1 hl2) ri rv λs' I'=>⟨_,I',?_⟩;exact p μ _ (Lat.wrote m) (rp.wrote h ⟨_,b8,(ij h2 rz).later (Lat.wrote m)⟩)
     ·simp only [if_neg hl] at p;exact p.elim
   | exc _ _=>exact p.elim
 | _=>exact False.elim p
theorem mS (h:G4 b=true):∀ v,assign (.Subscript a b p2) env v=(do
   let c <- holding [v] (eval a env)
   let d <- holding [v,c] (eval b env)
   standAt p2
   holding [v,c,d] (setItem c d v)
   release [v,c,d] []):=by
 intro v;cases b <;> first | rfl | (exact absurd h (by simp [G4]))
theorem qK (o:X.A.units+1<cLine) (L:PE X e (tD X.K cl xe f)) (J:PE X a (tD X.K cl xe g)) (I:PE X b (tD X.K cl xe k)) (s:r8 e=true) (u:G4 b=true) :
  PS X (.Assign [.Subscript a b n] e pos) (sD X.K cl xe λρ=>bind (f ρ) λv=>bind (g ρ) λx=>bind (k ρ) λy=>bind (A9 x y v) λ_=>ret (.nx ρ)):=
 PS.imp (sG L (zk J I (DO o) (mS u)) (by unfold swapsWithSole;exact F7 s) rfl rfl) λD σ H ⟨μ,S,ρ,c,z,p⟩=>
  ⟨μ,S,ρ,c,z,p.bind.imp λv S1 j P m r t vv F=>⟨j,S1,ρ,c.later m,r,t.bind.imp λx S2 μ2 T d N n R K=>⟨μ2,S2,ρ,(c.later m).later d,N,n.bind.imp λy M i Q l w E O q=>
   ⟨i,M,x,y,v,K.later l,q,(F.later d).later l,w,E.bind.imp λ_ U h B G C A=>A.ret h B (Lat.refl _ _) C σ ((((c.later m).later d).later l).later G)⟩⟩⟩⟩
def G9 (x:D) (ds:List D):M D:=match x,ds with
 | .ref n,[d]=>λS=>match S[n]? with
  | some (.lst es)=>if es.length<sizeLine then .ok .non (S.set n (.lst (es++[d]))) else .bad
  | _=>.bad
 | _,_=>bad
def D1 (es:List Expr):Bool:=decide (es.length<30)
theorem hD (b:es.all noStar=true) (a:D1 es=true):((backTo cpos (starEach es X.env)).all (λx=>!x.1)&&(backToKw cpos (keywordEach [] X.env)).all (λx=>x.1.isSome)&&decide (es.length+([]:List Keyword).length+(if ([]:List Keyword).isEmpty then 0 else 1)<30))=true:=by
 rw [au b];simpa [keywordEach,backToKw] using Iu a
theorem mj (ho:PE X a (tD X.K cl xe f)) (ha:PA X (e :: es) (tDs X.K cl xe fs)) (hb:v1 a=true) (hs:(e :: es).all noStar=true) (hf:D1 (e :: es)=true) (hl:(apos.endLine==cpos.line)=true) :
  PE X (.Call (.Attribute a "append" apos) (e :: es) [] cpos) (tD X.K cl xe λρ=>bind (f ρ) λx=>bind (lstOf x) λ_=>bind (fs ρ) λds=>G9 x ds):=by
 have hs2:=hs;rw [IQ,HS] at hs2;refine PE.imp (xS Kv PySem.F.slot_list_append PySem.F.type_list_append M2 ho ha (G5 hb) (hD hs hf) hl (d8 hs2.1) (j1 hs2.2)) λσ H Q ⟨μ,S,ρ,eo,rp,p⟩=>?_;refine ⟨μ,S,ρ,eo,rp,p.bind.imp λx S1 μ1 H1 l1 r1 p1 xv rx=>?_⟩;obtain ⟨a0,xs0,ds0,e0,h0,r0,q0⟩:=p7 rx r1 p1.bind;have p1:=p1.ok_bind q0;subst e0;refine ⟨.inl ⟨rfl,_,.inl (.inl h0)⟩,μ1,S1,ρ,eo.later l1,r1,p1.bind.imp λds S2 μ2 H2 l2 r2 p2 vs rvs=>?_⟩;have rx2:=rx.later l2;clear p1;cases rx2 with
 | ref h=>
  rename_i n
  match ds,rvs with
  | [],_=>exact False.elim p2
  | _ :: _ :: _,_=>exact False.elim p2
  | [d],rvs=>
   obtain ⟨v,rfl,rv⟩:=fu rvs;simp only [G9] at p2;cases q1:S2[n]? with
   | none=>rw [q1] at p2;exact p2.elim
   | some o=>
    rw [q1] at p2;cases o with
    | lst es=>
     obtain ⟨xs,h1,h2⟩:=r2.ats n _ _ q1 h;by_cases hl:es.length<sizeLine
     ·simp only [if_pos hl] at p2;have m:=Io h;refine ⟨_,xs,v,rfl,rfl,h1,by rw [<- h2.length];exact hl,?_⟩;exact p2 μ2 _ (Lat.wrote m) (r2.wrote h ⟨_,b8,(h2.append (.cons rv .nil)).later (Lat.wrote m)⟩) _ .non
     ·simp only [if_neg hl] at p2;exact p2.elim
    | dct _=>exact p2.elim
    | exc _ _=>exact p2.elim
 | _=>exact False.elim p2
end
def D6:List ((Env->M D)×(Env->M D))->Env->M (List (D×D))
 | [],_=>ret []
 | (f,g) :: r,ρ=>bind (f ρ) λx=>bind (g ρ) λy=>bind (D6 r ρ) λps=>ret ((x,y) :: ps)
def gy (c a:List (Key×D)):List (Key×D):=a.foldl (λb d=>iL b d.1 d.2) c
def cK (p:D×D):Option (Key×D):=(E6 p.1).map λk=>(k,p.2)
def ky (ps:List (D×D)):M D:=λS=>match j4 cK ps with
 | some a=>if a.length<=15 then .ok (.ref S.length) (S++[.dct (gy [] a)]) else .bad
 | none=>.bad
section
variable {K:PySem.W.Frag} {cl:Nat->Addr} {xe:Addr->Hp->Prop} {μ:Mp} {H:Hp} {S:Sto} {β:Type}
theorem bv:∀ {d:List (Key×D)} {ms:List (Key×V)} {c:List (Key×D)} {e:List (Key×V)},KvsAt K μ H d ms->KvsAt K μ H c e->KvsAt K μ H (gy c d) (O6 e ms)
 | _,_,_,_,.nil,h=>h
 | _,_,c,e,.cons (a:=a) (b:=b) ⟨h1,h2⟩ t,h=>by
  show KvsAt K μ H (gy (iL c a.1 a.2) _) (O6 (y8 e b.1 b.2) _);rw [h1];exact bv t (ij h h2)
abbrev RPs (K:PySem.W.Frag) (μ:Mp) (H:Hp):List (D×D)->List (V×V)->Prop:=Paired λx y=>RD K μ H x.1 y.1/\RD K μ H x.2 y.2
theorem bind_assoc (m:M α) (k:α->M β) (j:β->M γ):bind (bind m k) j=bind m λa=>bind (k a) j:=by
 funext S;unfold bind;grind
theorem j7 (a:α) (k:α->M β):bind (ret a) k=k a:=rfl
theorem X8 {ρ:Env} {σ:L2.St}:∀ {fks:List ((Env->M D)×(Env->M D))} {k:List (D×D)->M β} {G:β->Sto->Mp->Hp->Prop} {R:List (V×V)->Hp->Prop} {μ2:Mp} {c:Hp} {S2:Sto},Post K cl xe μ H (bind (D6 fks ρ) k S2) G->HLat μ H p μ2 c->p∉μ2.pl->c p=some o->EnvOk K μ2 c ρ σ->Rep K cl μ2 S2 c ->
  (∀ ps d a j ds,HLat μ H p a d->p∉a.pl->d p=some o->Rep K cl a j d->Lat μ2 c a d->RPs K a d ds ps->Post K cl xe μ H (k ds j) G->R ps d)->dv (fks.map λz=>(tD K cl xe z.1,tD K cl xe z.2)) σ c R
 | [],k,G,R,μ2,c,S2,h,l,n,e,i,s,q=>q [] c μ2 S2 [] l n e s (Lat.refl _ _) .nil h
 | (f,g) :: r,k,G,R,μ2,c,S2,h,l,n,e,i,s,q=>by
  have S:Post K cl xe μ H (bind (f ρ) (λx=>bind (g ρ) λy=>bind (D6 r ρ) λps=>k ((x,y) :: ps)) S2) G:=by
   have:bind (D6 ((f,g) :: r) ρ) k=bind (f ρ) (λx=>bind (g ρ) λy=>bind (D6 r ρ) λps=>k ((x,y) :: ps)):=by
    show bind (bind (f ρ) λx=>bind (g ρ) λy=>bind (D6 r ρ) λps=>ret ((x,y) :: ps)) k=_;simp only [bind_assoc,j7]
   rw [<- this];exact h
  refine ⟨μ2,S2,ρ,i,s,(S.at l).imp λx j a d t T C N I=>?_⟩;refine ⟨a,j,ρ,i.later t,T,(C.at (l.step t)).imp λy S4 Y Z A P L U F=>?_⟩;have b:=t.trans A;have O:=b.oth _ _ e n;refine X8 L (l.step b) (b.out e n) O (i.later b) P λps E m B ds w W X J u v Q=>?_;exact q ((N,U) :: ps) E m B ((x,y) :: ds) w W X J (b.trans u) (.cons ⟨(I.later A).later u,F.later u⟩ v) Q
theorem hG {p:Addr} {u:HO} {ob:O} {rs:List Addr} {kz:List (Key×V)} (er:μ.rs=p :: rs) (nr:p∉rs) (hp:H p=some (.dK kz)) (rp:Rep K cl μ S H) (ho:OAt K cl ⟨μ.pl++[p],rs⟩ (upd H p u) p ob):Rep K cl ⟨μ.pl++[p],rs⟩ (S++[ob]) (upd H p u):=by
 have np:p∉μ.pl:=(rp.res p (by rw [er];exact HY)).1;have hp':∀ (n:Nat) (a:Addr),μ.pl[n]?=some a->(μ.pl++[p])[n]?=some a:=λn a e=>by rw [HW (HN.mp e).1];exact e
 have ho':∀ a w,H a=some w->a∉μ.pl->a∉μ.rs->upd H p u a=some w/\a∉(⟨μ.pl++[p],rs⟩:Mp).pl/\a∉(⟨μ.pl++[p],rs⟩:Mp).rs:=λa w e n1 n2=>by
  have ne:a≠p:=λz=>n2 (by rw [er,z];exact HY);refine ⟨by rw [b6 ne];exact e,λz=>?_,λz=>n2 (by rw [er];exact Ic _ z)⟩;rcases IC.mp z with z | z
  ·exact n1 z
  ·exact ne (ID.mp z)
 refine ⟨by simp [rp.len],?_,λn o a e1 e2=>?_,λa m=>?_⟩
 ·show (μ.pl++[p]).Nodup;rw [KE];exact ⟨rp.nd,by simp,λa m b m2=>by rw [ID.mp m2];rintro rfl;exact np m⟩
 ·have e2:(μ.pl++[p])[n]?=some a:=e2;by_cases hn:n<S.length
  ·rw [HW hn] at e1;rw [HW (by rw [rp.len];exact hn)] at e2;have h:=rp.ats n o a e1 e2;have ka:upd H p u a=H a:=b6 λz=>np (z▸Io e2);cases o with
   | lst ds=>obtain ⟨xs,e,q⟩:=h;exact ⟨xs,by rw [ka];exact e,q.move hp' ho'⟩
   | dct kvs=>obtain ⟨xs,e,q⟩:=h;exact ⟨xs,by rw [ka];exact e,Paired.mono (λ_ _ ⟨z,w⟩=>⟨z,w.move hp' ho'⟩) q⟩
   | exc c fs=>
    obtain ⟨xc,gs,q,fr,h⟩:=h;refine ⟨xc,gs,Paired.mono (λ_ _ ⟨z,w⟩=>⟨z,w.move hp' ho'⟩) q,fr,?_⟩;rcases h with ⟨z,e⟩ | ⟨d,h1,h2,e,e3⟩
    ·exact .inl ⟨z,by rw [ka];exact e⟩
    ·have ne:d≠p:=jp e3 hp (by intro z;cases z);refine .inr ⟨d,h1,λz=>?_,by rw [ka];exact e,by rw [b6 ne];exact e3⟩;rcases IC.mp z with z | z
     ·exact h2 z
     ·exact ne (ID.mp z)
  ·have hn2:n=S.length:=by
    have:=(HN.mp e1).1;simp at this;omega
   subst hn2;rw [<- rp.len] at e2;simp at e1 e2;subst e1;subst e2;exact ho
 ·have m:a∈rs:=m;obtain ⟨h1,w,h2⟩:=rp.res a (by rw [er];exact Ic _ m);have ne:a≠p:=λz=>nr (z▸m);refine ⟨λz=>?_,w,by rw [b6 ne];exact h2⟩;rcases IC.mp z with z | z
  ·exact h1 z
  ·exact ne (ID.mp z)
theorem aw:∀ {ds:List (D×D)} {ps:List (V×V)} {c:List (Key×D)},RPs K μ H ds ps->j4 cK ds=some c->∃ f:List (Key×V),KvsAt K μ H c f/\ps=f.map (λg=>(kV g.1,g.2))
 | _,_,c,.nil,e=>by cases e;exact ⟨[],.nil,rfl⟩
 | _,_,c,.cons (a:=a) (b:=b) ⟨h1,h2⟩ t,e=>by
  simp only [j4] at e;cases d:cK a with
  | none=>rw [d] at e;cases e
  | some g=>
   rename_i m q;cases h:j4 cK m with
   | none=>rw [d,h] at e;cases e
   | some j=>
    rw [d,h] at e;cases e;obtain ⟨f,o,n⟩:=aw t h;unfold cK at d;cases i:E6 a.1 with
    | none=>grind
    | some k=>
     rw [i] at d;cases d;have:=Q8 h1 i;obtain ⟨p,l⟩:=b;subst this;exact ⟨(k,l) :: f,.cons ⟨rfl,h2⟩ o,by rw [n];rfl⟩
end
section
variable {X:Cx} {cl:Nat->Addr} {xe:Addr->Hp->Prop} {pos:Pos}
theorem tM (h:PPs X pos keys values (fks.map λy=>(tD X.K cl xe y.1,tD X.K cl xe y.2))) (j:keys.all (·.isSome)=true) (I:keys.length=values.length) (O:keys≠[]) (f:keys.length<=15) :
  PE X (.Dict keys values pos) (tD X.K cl xe λρ=>bind (D6 fks ρ) ky):=PE.imp (sX h j I O f) λσ H Q ⟨μ,S,ρ,M,l,P⟩=>by
 intro p i;have q:=l.notrs i;refine X8 (μ2:=μ.hold p) P ?_ (l.notin i) b8 (R6 l i M) (R3 l i) λps A c R ds b L C E U t g=>?_
 ·refine ⟨⟨λ_ _ e=>e,λa o e _=>by rw [b6 (c8 e i)];exact e,λa m=>.inl m,λa m=>?_⟩,rfl⟩;rcases Ii.mp (m) with rfl | m
  ·exact .inr i
  ·exact .inl m
 ·simp only [ky] at g;cases s:j4 cK ds with
  | none=>rw [s] at g;exact g.elim
  | some x=>
   rw [s] at g;by_cases f:x.length<=15
   ·simp only [if_pos f] at g;obtain ⟨K,B,G⟩:=aw t s;refine ⟨C,K,G,by rw [<- Paired.length B];exact f,?_⟩;have W:=L;have k:∀ (n:Nat) (a:Addr),c.pl[n]?=some a->(c.pl++[p])[n]?=some a:=λn a e=>by rw [HW (HN.mp e).1];exact e
    have N:∀ {u:HO} {d:D} {v:V},RD X.K c A d v->RD X.K ⟨c.pl++[p],μ.rs⟩ (upd A p u) d v:=λr=>r.move k λa w e J F=>by
     have T:a≠p:=λz=>F (by rw [b.rs,z];exact HY);refine ⟨by rw [b6 T];exact e,λz=>?_,λz=>F (by rw [b.rs];exact Ic _ z)⟩;rcases IC.mp z with z | z
     ·exact J z
     ·grind
    refine g ⟨c.pl++[p],μ.rs⟩ _ ?_ (hG b.rs q C E ⟨_,b8,bv (Paired.mono (λ_ _ ⟨z,w⟩=>⟨z,N w⟩) B) .nil⟩) _ (.ref ?_)
    ·refine ⟨λn a e=>k n a (b.r.pre n a e),λa o e n=>?_,λa m=>?_,rfl⟩
     ·rw [b6 (c8 e i)];exact b.r.oth a o e n
     ·rcases IC.mp (m) with m | m
      ·exact b.r.new a m
      ·grind
    ·show (c.pl++[p])[R.length]?=some p;rw [<- E.len];simp
   ·simp only [if_neg f] at g;exact g.elim
end
def D0 (S:Sto) (d:D):Bool:=match f9 64 S d with
 | some p=>decide (Shows p)&&decide (p.shown.length<=4000)&&(match d with
  | .str x=>decide (x.length<=4000)
  | _=>true)
 | none=>false
def P6 (c:Nat) (fs:List Str) (ds:List D):M D:=λS=>if ds.length=fs.length/\ds.all (D0 S)=true then .ok (.ref S.length) (S++[.exc c (fs.zip ds)]) else .bad
def rF (c:Nat) (ds:List D):M D:=λS=>match ds with
 | [_]=>.ok (.ref S.length) (S++[.exc c []])
 | _=>.bad
theorem gk {K:PySem.W.Frag} {cl:Nat->Addr} {μ:Mp} {H:Hp} {S:Sto} {d:D} {v:V} (rp:Rep K cl μ S H) (r:RD K μ H d v) (h:D0 S d=true):∃ p,Hn.Fmt K H v p:=by
 unfold D0 at h;cases e:f9 64 S d with
 | none=>rw [e] at h;cases h
 | some p=>
  rw [e] at h;simp at h;refine ⟨p,k9 rp 64 e r,h.1.1,h.1.2,λx ex=>?_⟩;subst ex;cases r with
  | str _=>grind
def CG (K:PySem.W.Frag) (H:Hp) (v:V):Prop:=∃ x C d,v=.ref x/\XC K C/\H x=some (O4 x C d)
def tDf (K:PySem.W.Frag) (cl:Nat->Addr) (xe:Addr->Hp->Prop) (f:Env->M D):TE:=λσ H Q=>∃ μ S ρ,EnvOk K μ H ρ σ/\Rep K cl μ S H/\Post K cl xe μ H (f ρ S) λd _ μ' H'=>∀ v,RD K μ' H' d v->CG K H' v->Q v H'
theorem PE.unf {e:Expr} {f:Env->M D} (h:PE X e (tDf X.K cl xe f)):PE X e (tD X.K cl xe f):=PE.imp h λσ H Q ⟨μ,S,ρ,g,b,P⟩=>⟨μ,S,ρ,g,b,P.imp λd S1 a k l j c v i _=>c v i⟩
section
variable {X:Cx} {cl:Nat->Addr} {xe:Addr->Hp->Prop} {e:Expr} {es:List Expr} {pos:Pos} {fs:Env->M (List D)}
theorem jm {K:PySem.W.Frag} {μ:Mp} {H H':Hp} {S:Sto} {c:Nat} {x:Addr} {gs:List (Str×V)} {ds:List (Str×D)} (b:Rep K cl μ S H) (f:H x=none) (M:XC K (cl c)) (g:Hn.Got (upd H x (O4 x (cl c) none)) x (cl c) gs H') (r:∀ {μ':Mp} {H':Hp},Lat μ H μ' H'->gi K μ' H' ds gs) :
  Lat μ H (μ.push x) H'/\Rep K cl (μ.push x) (S++[.exc c ds]) H'/\RD K (μ.push x) H' (.ref S.length) (.ref x):=by
 obtain ⟨d,hd,h,n,j,m⟩:=g;rw [b6 h] at hd;have k:∀ a u,H a=some u->H' a=some u:=λa u e=>by
  have i:=c8 e f;have o:=c8 e hd;rw [m a i o,b6 i];exact e
 have l:=Lat.pushed (μ:=μ) f k;refine ⟨l,b.pushed f k ⟨M,gs,r l,none,.inr ⟨d,h,λz=>?_,n,j⟩⟩,.ref ?_⟩
 ·rcases IC.mp (z) with z | z
  ·exact b.notin hd z
  ·grind
 ·show (μ.pl++[x])[S.length]?=some x;rw [<- b.len];simp
theorem pa {k:Nat} {f:Addr} {fd:FuncData} {ps:List Str} {E:XK} {CX:CXT} {nm g:Str} {p:Pos} {c:Nat} (M:XC X.K (cl c)) (na:v9 X.K (cl c) g) (hi:PySem.W.findIn X.K (.ref (cl c)) "__init__" = some (some (.ref f))) (hf:PySem.W.isFn X.K (.ref f)=true) (F:FnOk X.prog X.w X.K X.mg X.base CX k f fd ps (Hn.sp1 X.K g)) (hr:Room CX.q (k+1) X.A) (hg:Gl X nm) (hm:X.mg nm=some (.ref (cl c))) (hb:Binds X.K fd ps []) (hx:z0 CX X E)
  (ha:PA X (e :: es) (tDs X.K cl xe fs)) (hdb:(nm==("__debug__" : Str))=false) (hs:(e :: es).all noStar=true):PE X (.Call (.Name nm p) (e :: es) [] pos) (tDf X.K cl xe λρ=>bind (fs ρ) (P6 c [g])):=by
 rw [IQ,HS] at hs;refine PE.imp (ae M hi hf F hr hg hm hb hx ha hdb (d8 hs.1) (j1 hs.2)) λσ H Q ⟨μ,S,ρ,eo,rp,P⟩=>?_;refine ⟨μ,S,ρ,eo,rp,P.bind.imp λds S1 μ1 H1 l1 r1 p1 vs rvs=>?_⟩;unfold P6 at p1;by_cases hc:ds.length=[g].length/\ds.all (D0 S1)=true
 ·rw [if_pos hc] at p1
  match ds,hc,rvs,p1 with
  | [d],hc,rvs,p1=>
   obtain ⟨v,rfl,rv⟩:=fu rvs;obtain ⟨q,ft⟩:=gk r1 rv (by simpa using hc.2);refine ⟨by show 1<=1000;decide,λx hx=>⟨x,v,cl c,q,rfl,M,na,b8,ft.laid hx,λH' got=>⟨rfl,?_⟩⟩⟩;obtain ⟨l2,r2,rd2⟩:=jm (c:=c) (ds:=[(g,d)]) r1 hx M got λl=>.cons ⟨rfl,rv.later l⟩ .nil;obtain ⟨d0,_,_,g1,_⟩:=id got;exact p1 _ _ l2 r2 _ rd2 ⟨x,cl c,_,rfl,M,g1⟩
  | [],hc,_,_=>exact absurd hc.1 (by simp)
  | _ :: _ :: _,hc,_,_=>exact absurd hc.1 (by simp)
 ·rw [if_neg hc] at p1;exact p1.elim
theorem oy {k:Nat} {f:Addr} {fd:FuncData} {ps:List Str} {E:XK} {CX:CXT} {nm g g2:Str} {p:Pos} {c:Nat} (M:XC X.K (cl c)) (na:v9 X.K (cl c) g) (nb:v9 X.K (cl c) g2) (hi:PySem.W.findIn X.K (.ref (cl c)) "__init__" = some (some (.ref f))) (hf:PySem.W.isFn X.K (.ref f)=true) (F:FnOk X.prog X.w X.K X.mg X.base CX k f fd ps (Hn.sp2 X.K g g2)) (hr:Room CX.q (k+1) X.A) (hg:Gl X nm) (hm:X.mg nm=some (.ref (cl c))) (hb:Binds X.K fd ps []) (hx:z0 CX X E)
  (ha:PA X (e :: es) (tDs X.K cl xe fs)) (hdb:(nm==("__debug__" : Str))=false) (hs:(e :: es).all noStar=true):PE X (.Call (.Name nm p) (e :: es) [] pos) (tDf X.K cl xe λρ=>bind (fs ρ) (P6 c [g,g2])):=by
 rw [IQ,HS] at hs;refine PE.imp (ae M hi hf F hr hg hm hb hx ha hdb (d8 hs.1) (j1 hs.2)) λσ H Q ⟨μ,S,ρ,eo,rp,P⟩=>?_;refine ⟨μ,S,ρ,eo,rp,P.bind.imp λds S1 μ1 H1 l1 r1 p1 vs rvs=>?_⟩;unfold P6 at p1;by_cases hc:ds.length=[g,g2].length/\ds.all (D0 S1)=true
 ·rw [if_pos hc] at p1
  match ds,hc,rvs,p1 with
  | [d,d2],hc,rvs,p1=>
   cases rvs with
   | cons rv t=>
    obtain ⟨v2,rfl,rv2⟩:=fu t;rename_i v;have hc2:D0 S1 d=true/\D0 S1 d2=true:=by simpa using hc.2
    obtain ⟨q,ft⟩:=gk r1 rv hc2.1;obtain ⟨q2,ft2⟩:=gk r1 rv2 hc2.2;refine ⟨by show 2<=1000;decide,λx hx=>⟨x,v,v2,cl c,q,q2,rfl,M,na,nb,b8,ft.laid hx,ft2.laid hx,λH' got=>⟨rfl,?_⟩⟩⟩;obtain ⟨l2,r2,rd2⟩:=jm (c:=c) (ds:=[(g,d),(g2,d2)]) r1 hx M got λl=>.cons ⟨rfl,rv.later l⟩ (.cons ⟨rfl,rv2.later l⟩ .nil);obtain ⟨d0,_,_,g1,_⟩:=id got;exact p1 _ _ l2 r2 _ rd2 ⟨x,cl c,_,rfl,M,g1⟩
  | [],hc,_,_=>exact absurd hc.1 (by simp)
  | [_],hc,_,_=>exact absurd hc.1 (by simp)
  | _ :: _ :: _ :: _,hc,_,_=>exact absurd hc.1 (by simp)
 ·rw [if_neg hc] at p1;exact p1.elim
theorem oj {f:Addr} {fd:FuncData} {ps:List Str} {E:XK} {CX:CXT} {j:Str} {p:Pos} {c:Nat} (M:XC X.K (cl c)) (B:PySem.W.findIn X.K (.ref (cl c)) "__init__" = some (some (.ref f))) (A:PySem.W.isFn X.K (.ref f)=true) (F:FnOk X.prog X.w X.K X.mg X.base CX k f fd ps (Hn.spHE X.K)) (y:Room CX.q (k+1) X.A) (w:Gl X j) (s:X.mg j=some (.ref (cl c))) (t:Binds X.K fd ps []) (i:z0 CX X E)
  (r:PA X (e :: es) (tDs X.K cl xe fs)) (m:(j==("__debug__" : Str))=false) (hs:(e :: es).all noStar=true):PE X (.Call (.Name j p) (e :: es) [] pos) (tDf X.K cl xe λρ=>bind (fs ρ) (rF c)):=by
 rw [IQ,HS] at hs;refine PE.imp (ae M B A F y w s t i r m (d8 hs.1) (j1 hs.2)) λσ H Q ⟨μ,S,ρ,z,q,P⟩=>?_;refine ⟨μ,S,ρ,z,q,P.bind.imp λds S1 h o D n b vs g=>?_⟩
 match ds,g,b with
 | [d],g,b=>
  obtain ⟨v,rfl,C⟩:=fu g;refine ⟨by show 1<=1000;decide,λx i=>⟨x,v,cl c,none,rfl,M,b8,rfl,?_⟩⟩;have k:∀ a u,o a=some u->upd o x (O4 x (cl c) none) a=some u:=λa u e=>by rw [b6 (c8 e i)];exact e
  have l:=Lat.pushed (μ:=h) i k;refine b _ _ l (n.pushed i k ⟨M,[],.nil,none,.inl ⟨rfl,b8⟩⟩) _ (.ref ?_) ⟨x,cl c,_,rfl,M,b8⟩;show (h.pl++[x])[S1.length]?=some x;rw [<- n.len];simp
 | [],_,b=>exact b.elim
 | _ :: _ :: _,_,b=>exact b.elim
def cZ (g:Str) (d:D):M D:=match d with
 | .ref n=>λS=>match S[n]? with
  | some (.exc _ fs)=>match fs.lookup g with
   | some v=>.ok v S
   | none=>.bad
  | _=>.bad
 | _=>bad
theorem cU {K:PySem.W.Frag} {μ:Mp} {H:Hp} {g:Str} {d:D}:∀ {fs:List (Str×D)} {gs:List (Str×V)},gi K μ H fs gs->fs.lookup g=some d->∃ v,gs.lookup g=some v/\RD K μ H d v
 | _,_,.nil,e=>by cases e
 | _,_,.cons (a:=a) (b:=b) ⟨c,h2⟩ t,e=>by
  obtain ⟨h,k⟩:=a;obtain ⟨i,j⟩:=b;have c:=c;subst c;rw [JO] at e ⊢;cases f:g==h with
  | true=>grind
  | false=>rw [f] at e;exact cU t e
theorem zd (hn:∀ c,XC X.K (cl c)->v9 X.K (cl c) g) (h:PE X e (tD X.K cl xe f)) (hb:v1 e=true):PE X (.Attribute e g pos) (tD X.K cl xe λρ=>bind (f ρ) (cZ g)):=PE.imp (vS h (G5 hb)) λσ H Q ⟨μ,S,ρ,eo,rp,p⟩=>
 ⟨μ,S,ρ,eo,rp,p.bind.imp λd S1 μ1 H1 l1 r1 p1 v rv=>by
  cases rv with
  | ref h=>
   rename_i n a;simp only [cZ] at p1;cases q1:S1[n]? with
   | none=>rw [q1] at p1;exact p1.elim
   | some o=>
    rw [q1] at p1;cases o with
    | exc c fs=>
     simp only at p1;obtain ⟨xc,gs,r,fr,h2⟩:=r1.ats n _ a q1 h;cases q2:fs.lookup g with
     | none=>rw [q2] at p1;exact p1.elim
     | some w=>
      rw [q2] at p1;obtain ⟨v,e1,r3⟩:=cU r q2;rcases h2 with ⟨z,e⟩ | ⟨d,n1,n2,e,e2⟩
      ·subst z;cases e1
      ·exact ⟨fr,a,cl c,d,gs,v,rfl,xc,hn c xc,e,e2,e1,p1 μ1 H1 (Lat.refl _ _) r1 _ r3⟩
    | lst _=>exact p1.elim
    | dct _=>exact p1.elim
  | _=>exact False.elim p1⟩
end
def tys:List String:=["NoneType","bool","int","str","tuple","list","dict"]
def subT (t T:String):Bool:=t==T||(t == "bool" && T == "int")
theorem vc (K:PySem.W.Frag):∀ t∈tys,∀ T∈tys,PySem.W.kitOne K (.type t) (.type T)=some (subT t T):=by
 intro t a T b;simp only [tys,Ii,KJ,or_false] at a b;rcases a with rfl | rfl | rfl | rfl | rfl | rfl | rfl <;> rcases b with rfl | rfl | rfl | rfl | rfl | rfl | rfl <;> kernel_rfl
def tyD (S:Sto) (d:D):Option String:=match d with
 | .non=>some "NoneType"
 | .bl _=>some "bool"
 | .int _=>some "int"
 | .str _=>some "str"
 | .tup _=>some "tuple"
 | .lst _=>some "list"
 | .scr _=>some "list"
 | .ref n=>match S[n]? with
  | some (.lst _)=>some "list"
  | some (.dct _)=>some "dict"
  | _=>none
def mR (T:String) (sx:Nat->Bool) (d:D):M D:=λS=>match tyD S d with
 | some t=>.ok (.bl (subT t T)) S
 | none=>match d with
  | .ref n=>match S[n]? with
   | some (.exc c _)=>.ok (.bl (sx c)) S
   | _=>.bad
  | _=>.bad
def A0 (sx:Nat->Bool) (d:D):M D:=λS=>match d with
 | .ref n=>match S[n]? with
  | some (.exc c _)=>.ok (.bl (sx c)) S
  | _=>.bad
 | _=>.bad
section
variable {X:Cx} {cl:Nat->Addr} {xe:Addr->Hp->Prop} {a:Expr} {pos p q:Pos} {f:Env->M D}
theorem kX {sx:Nat->Bool} (j:CF T=some c0) (g:∀ c,XC X.K (cl c)->PySem.W.kitOne X.K (.ref (cl c)) c0=some (sx c)) {pins:List (Addr×Obj)} {s:Shared} {σ:L2.St} {H:Hp} {us:List Value} {Q:VK} {μ:Mp} {S:Sto} {n:Nat} {b:Addr} {c:Nat} {fs:List (Str×D)} (I:L2.Inv X pins σ H s) (r:Vals [.ref b,T] us)
  (l:Rep X.K cl μ S H) (e:S[n]?=some (.exc c fs)) (h:μ.pl[n]?=some b) (q:Q (.bl (sx c)) H):wpAny (model X.prog X.w) X.A (call (.builtin "isinstance") us) (EP X pins σ Q) X.xe s:=by
 obtain ⟨a,gs,p,i,k⟩:=l.ats n _ b e h;rcases k with ⟨z,f⟩ | ⟨d,o,t,f,m⟩
 ·exact cV pins s σ H _ us Q I r ⟨i,b,cl c,none,T,c0,sx c,rfl,a,f,λ_ z=>(nomatch z),j,g c a,q⟩
 ·exact cV pins s σ H _ us Q I r ⟨i,b,cl c,some d,T,c0,sx c,rfl,a,f,λd' z=>by cases z;exact ⟨gs,m⟩,j,g c a,q⟩
theorem lK (hT:T∈tys) {pins:List (Addr×Obj)} {s:Shared} {σ:L2.St} {H:Hp} {us:List Value} {Q:VK} {μ:Mp} {S:Sto} {d:D} {v:V} {t:String} (I:L2.Inv X pins σ H s) (r:Vals [v,.ty T] us) (rd:RD X.K μ H d v) (rp:Rep X.K cl μ S H) (e:tyD S d=some t)
  (q:Q (.bl (subT t T)) H):wpAny (model X.prog X.w) X.A (call (.builtin "isinstance") us) (EP X pins σ Q) X.xe s:=by
 obtain ⟨u,u2,rfl,ru,ru2⟩:=cT r;cases (ru2);have ht:t∈tys:=by
  cases d <;> simp only [tyD] at e <;> first
   | (cases e;decide)
   | (split at e <;> first | (cases e;decide) | cases e)
 have hk:=vc X.K t ht T hT;have fin:∀ tk,EP X pins σ Q (.bool (subT t T)) { s with toks:=tk }:=λtk=>⟨.bl _,H,I.tok _,rfl,q⟩;have tupT:∀ {b:Addr} {xs:List V},SqT X.K H b xs->u=.ref b->t = "tuple"->wpAny (model X.prog X.w) X.A (call (.builtin "isinstance") [u,.type T]) (EP X pins σ Q) X.xe s:=λ{b xs} h eu et=>by
  subst eu et;obtain ⟨its,_,⟨o,h1,h2,_⟩,_⟩:=I.tuple h;exact Jt PySem.W.kitx_tuple I.kIn ⟨o,h1,h2⟩ hk (λz=>nomatch z) fin
 have lstT:∀ {b:Addr} {xs:List V},SqL X.K H b xs->u=.ref b->t = "list"->wpAny (model X.prog X.w) X.A (call (.builtin "isinstance") [u,.type T]) (EP X pins σ Q) X.xe s:=λ{b xs} h eu et=>by
  subst eu et;obtain ⟨its,_,⟨o,n,h1,h2,_⟩,_⟩:=I.list h;exact Jt PySem.W.kitx_list I.kIn ⟨o,h1,h2⟩ hk (λz=>nomatch z) fin
 cases rd with
 | non=>cases (ru);cases e;exact Jt PySem.W.kitx_none I.kIn True.intro hk (λz=>nomatch z) fin
 | bl b=>cases (ru);cases e;exact Jt PySem.W.kitx_bool I.kIn True.intro hk (λz=>nomatch z) fin
 | int i=>obtain ⟨tk,q⟩:=(ru);cases q;cases e;exact Jt PySem.W.kitx_int I.kIn True.intro hk (λz=>nomatch z) fin
 | str x=>obtain ⟨tk,q⟩:=(ru);cases q;cases e;exact Jt PySem.W.kitx_str I.kIn True.intro hk (λz=>nomatch z) fin
 | tup h r=>cases e;exact tupT h.sq ru rfl
 | lst h r=>cases e;exact lstT h.sq ru rfl
 | scr h r=>cases e;exact lstT h.sq ru rfl
 | ref h=>
  rename_i n b;simp only [tyD] at e;cases q1:S[n]? with
  | none=>rw [q1] at e;cases e
  | some o=>
   rw [q1] at e;cases o with
   | lst ds=>
    cases e;obtain ⟨xs,h1,h2⟩:=rp.ats n _ b q1 h;exact lstT (.inl (.inl h1)) ru rfl
   | dct kvs=>
    cases e;obtain ⟨ks,h1,h2⟩:=rp.ats n _ b q1 h;cases (ru);obtain ⟨_,_,vs,_,pp⟩:=(I.hok b _ h1);obtain ⟨o,es,ep,g1,g2,_⟩:=pp;exact Jt PySem.W.kitx_dict I.kIn ⟨o,g1,g2.1⟩ hk (λz=>nomatch z) fin
   | exc _ _=>cases e
theorem kS {T:String} {sx:Nat->Bool} (hT:T∈tys\/T = "ValueError") (hk:∀ c,XC X.K (cl c)->PySem.W.kitOne X.K (.ref (cl c)) (.type T)=some (sx c)) (h:PE X a (tD X.K cl xe f)) (hg:Gl X "isinstance") (hm:X.mg "isinstance" = none) (hg2:Gl X x) (hm2:X.mg x=none) (hv:bootBuiltins x=some (.type T)) (hn:x ≠ "__name__") (hd:(x==("__debug__" : Str))=false) (hs:noStar a=true) :
  PE X (.Call (.Name "isinstance" p) [a,.Name x q] [] pos) (tD X.K cl xe λρ=>bind (f ρ) λd=>if T∈tys then mR T sx d else A0 sx d):=by
 have key:j6 X (.builtin "isinstance") (λvs H Q=>∃ μ S d v,vs=[v,.ty T]/\RD X.K μ H d v/\Rep X.K cl μ S H/\Post X.K cl xe μ H ((if T∈tys then mR T sx d else A0 sx d) S) λr _ μ' H'=>∀ v,RD X.K μ' H' r v->Q v H'):=by
  intro pins s σ H xs us Q I r ⟨μ,S,d,v,ev,rd,rp,P⟩;subst ev;have ex:∀ {n:Nat} {b:Addr} {c:Nat} {fs:List (Str×D)},v=.ref b->S[n]?=some (.exc c fs)->μ.pl[n]?=some b->Q (.bl (sx c)) H->wpAny (model X.prog X.w) X.A (call (.builtin "isinstance") us) (EP X pins σ Q) X.xe s:=λ{n b c fs} ev e h q=>by
   subst ev;exact kX rfl hk I r rp e h q
  by_cases ht:T∈tys
  ·rw [if_pos ht] at P;unfold mR at P;cases e:tyD S d with
   | some t=>rw [e] at P;exact lK ht I r rd rp e (P μ H (Lat.refl _ _) rp _ (.bl _))
   | none=>
    rw [e] at P;cases rd with
    | ref h=>
     rename_i n b;simp only at P;cases q1:S[n]? with
     | none=>rw [q1] at P;exact P.elim
     | some o=>
      rw [q1] at P;cases o with
      | exc c fs=>exact ex rfl q1 h (P μ H (Lat.refl _ _) rp _ (.bl _))
      | lst _=>exact P.elim
      | dct _=>exact P.elim
    | _=>exact False.elim P
  ·rw [if_neg ht] at P;unfold A0 at P;cases rd with
   | ref h=>
    rename_i n b;simp only at P;cases q1:S[n]? with
    | none=>rw [q1] at P;exact P.elim
    | some o=>
     rw [q1] at P;cases o with
     | exc c fs=>exact ex rfl q1 h (P μ H (Lat.refl _ _) rp _ (.bl _))
     | lst _=>exact P.elim
     | dct _=>exact P.elim
   | _=>exact False.elim P
 have hb:PE X (.Name x q) (tC (.ty T)):=uU hg2 hm2 hv rfl hn hd;refine PE.imp (Q1 key hg hm (by rfl) (i9 h (i9 hb B0 (d8 rfl)) (d8 hs)) (by decide) (by decide) (d8 hs) (j1 rfl)) λσ H Q ⟨μ,S,ρ,eo,rp,P⟩=>?_;exact ⟨μ,S,ρ,eo,rp,P.bind.imp λd S1 μ1 H1 l1 r1 p1 v rv=>⟨μ1,S1,d,v,rfl,rv,r1,p1⟩⟩
theorem sZ {c0:Nat} {sx:Nat->Bool} (hk:∀ c,XC X.K (cl c)->PySem.W.kitOne X.K (.ref (cl c)) (.ref (cl c0))=some (sx c)) (h:PE X a (tD X.K cl xe f)) (hg:Gl X "isinstance") (hm:X.mg "isinstance" = none) (hg2:Gl X x) (hm2:X.mg x=some (.ref (cl c0))) (hd:(x==("__debug__" : Str))=false) (hs:noStar a=true) :
  PE X (.Call (.Name "isinstance" p) [a,.Name x q] [] pos) (tD X.K cl xe λρ=>bind (f ρ) λd=>A0 sx d):=by
 have key:j6 X (.builtin "isinstance") (λvs H Q=>∃ μ S d v,vs=[v,.ref (cl c0)]/\RD X.K μ H d v/\Rep X.K cl μ S H/\Post X.K cl xe μ H (A0 sx d S) λr _ μ' H'=>∀ v,RD X.K μ' H' r v->Q v H'):=by
  intro pins s σ H xs us Q I r ⟨μ,S,d,v,ev,rd,rp,P⟩;subst ev;unfold A0 at P;cases rd with
  | ref h=>
   rename_i n b;simp only at P;cases q1:S[n]? with
   | none=>rw [q1] at P;exact P.elim
   | some o=>
    rw [q1] at P;cases o with
    | exc c fs=>exact kX rfl hk I r rp q1 h (P μ H (Lat.refl _ _) rp _ (.bl _))
    | lst _=>exact P.elim
    | dct _=>exact P.elim
  | _=>exact False.elim P
 have hb:PE X (.Name x q) (tC (.ref (cl c0))):=eC hg2 hm2 rfl hd;refine PE.imp (Q1 key hg hm (by rfl) (i9 h (i9 hb B0 (d8 rfl)) (d8 hs)) (by decide) (by decide) (d8 hs) (j1 rfl)) λσ H Q ⟨μ,S,ρ,eo,rp,P⟩=>?_;exact ⟨μ,S,ρ,eo,rp,P.bind.imp λd S1 μ1 H1 l1 r1 p1 v rv=>⟨μ1,S1,d,v,rfl,rv,r1,p1⟩⟩
end
section
variable {X:Cx}
variable {cl:Nat->Addr} {xe:Addr->Hp->Prop}
def v3:List D->Option (List Int)
 | []=>some []
 | .int i :: ds=>(v3 ds).map (i :: ·)
 | _=>none
theorem aE {K:PySem.W.Frag} {μ:Mp} {H:Hp}:∀ {ds:List D} {vs:List V} {ns:List Int},v3 ds=some ns->RDs K μ H ds vs->vs=ns.map V.int
 | [],_,ns,e,r=>by cases r;cases e;rfl
 | d :: ds,_,ns,e,r=>by
  cases r with
  | cons h t=>
   cases d <;> try (simp [v3] at e;done)
   case int i=>
    simp only [v3] at e;cases a:v3 ds with
    | none=>rw [a] at e;cases e
    | some b=>
     rw [a] at e;cases e;cases h;rw [aE a t];rfl
def D5:List Int->Option Int
 | []=>none
 | n :: ns=>some (match D5 ns with
  | none=>n
  | some m=>if n<m then m else n)
theorem vT:∀ {ns:List Int} {M:Int},M∈ns->(∀ a∈ns,a<=M)->D5 ns=some M
 | [],_,h,_=>by cases h
 | [n],M,h,_=>by simp at h;subst h;rfl
 | n :: k :: ns,M,h,q=>by
  obtain ⟨t,e⟩:∃ t,D5 (k :: ns)=some t:=⟨_,rfl⟩;have he:D5 (n :: k :: ns)=some (if n<t then t else n):=by rw [D5,e]
  rw [he];have top:∀ {l:List Int} {t:Int},D5 l=some t->t∈l/\∀ a∈l,a<=t:=by
   intro l;induction l with
   | nil=>intro t e;cases e
   | cons x l ih=>
    intro t e;cases h2:D5 l with
    | none=>
     cases l with
     | nil=>simp only [D5] at e;cases e;exact ⟨HY ..,λa ha=>by simp at ha;omega⟩
     | cons y l=>simp [D5] at h2
    | some m=>
     obtain ⟨m1,m2⟩:=ih h2;simp only [D5,h2] at e;cases e;by_cases hx:x<m
     ·rw [if_pos hx];exact ⟨Ic _ m1,λa ha=>by
       rcases Ii.mp ha with z | z
       ·omega
       ·exact m2 a z⟩
     ·rw [if_neg hx];exact ⟨HY ..,λa ha=>by
       rcases Ii.mp ha with z | z
       ·omega
       ·have:=m2 a z;omega⟩
  obtain ⟨t1,t2⟩:=top e;congr 1;by_cases hx:n<t
  ·rw [if_pos hx];have a1:=q t (Ic _ t1);rcases Ii.mp h with z | z
   ·omega
   ·have:=t2 M z;omega
  ·rw [if_neg hx];have a1:=q n (HY ..);rcases Ii.mp h with z | z
   ·omega
   ·have:=t2 M z;omega
theorem E2:∀ {ns:List Int} {us:List Value},Vals (ns.map V.int) us->∃ xs:List (Int×Tok),us=xs.map (λp=>Value.int p.1 p.2)/\xs.map (·.1)=ns
 | [],_,r=>by cases r;exact ⟨[],rfl,rfl⟩
 | n :: ns,_,r=>by
  cases r with
  | cons h t=>
   obtain ⟨k,rfl⟩:=(h);obtain ⟨xs,a,b⟩:=E2 t;exact ⟨(n,k) :: xs,by rw [a];rfl,by rw [II,b]⟩
theorem lE (hc:X.calm=true):j6 X (.builtin "max") (λxs H Q=>∃ (p:Addr) (ns:List Int),xs=[.ref p]/\SqL X.K H p (ns.map V.int)/\∃ M,D5 ns=some M/\Q (.int M) H):=by
 intro pins s σ H xs us Q I r h;obtain ⟨p,ns,rfl,hq,M,hM,q⟩:=h;obtain ⟨u,rfl,rx⟩:=N5 r;cases rx;obtain ⟨its,r',pl,hz⟩:=I.list hq;have hh:X.A.handled=none:=I.ok.hd hc;obtain ⟨ys,e1,e2⟩:=E2 r';have e3:its.toArray=intItems ys.toArray:=by rw [e1];simp [intItems]
 have hne:0<ys.toArray.size:=by
  cases ys with
  | nil=>cases e2;cases hM
  | cons y ys=>simp
 refine max_intList hh (xs:=ys.toArray) (by rw [<- e3];exact pl.isList) hne λv h' tk hv hk=>?_;obtain ⟨t,rfl⟩:=intItems_at hv;obtain ⟨h1,h2⟩:=argBest_gt (numAt ys.toArray) (ys.toArray.size-1);have hm:D5 ns=some (numAt ys.toArray (argBest (λi j=>decide (numAt ys.toArray i > numAt ys.toArray j)) (ys.toArray.size-1))):=by
  refine vT ?_ λa ha=>?_
  ·rw [numAt_eq,<- e2];refine getD_mem ?_;have e5:ys.toArray.size=ys.length:=Ib;rw [e5] at h1 hne;rw [Hy];show _<ys.length;rw [e5];omega
  ·rw [<- e2] at ha;obtain ⟨j,hj,rfl⟩:=mem_getD (l:=ys.toArray.toList.map (·.1)) ha;rw [Hy,JM] at hj;rw [<- numAt_eq];exact h2 j (by omega)
 rw [hM] at hm;cases hm;exact ⟨.int _,H,I.kept (t':=tk) λb o eb=>hk b o eb,⟨t,rfl⟩,q⟩
def dr (ds:List D):M D:=match ds with
 | [.int i,.int j]=>ret (.int (if j > i then j else i))
 | [d]=>bind (lstOf d) λes=>match (v3 es).bind D5 with
  | some m=>ret (.int m)
  | none=>bad
 | _=>bad
def rm (ds:List D):M D:=match ds with
 | [.int i,.int j]=>ret (.int (if j<i then j else i))
 | _=>bad
theorem EF (i:X.calm=true):j6 X (.builtin "max") (rPs X.K cl xe dr):=by
 intro pins s σ H xs us Q I r ⟨μ,S,ds,b,f,p⟩;unfold dr at p;split at p
 ·cases b with
  | cons h t=>cases t with
   | cons g j=>
    cases j;cases h;cases g;exact kq i pins s σ H _ us Q I r ⟨_,_,rfl,p μ H (Lat.refl _ _) f _ (.int _)⟩
 ·rename_i d;cases b with
  | cons h t=>
   cases t;obtain ⟨a,xs,es,rfl,k,g,l⟩:=p7 h f p.bind;have p:=p.ok_bind l;cases e:v3 es with
   | none=>rw [e] at p;exact p.elim
   | some ns=>
    rw [e] at p;cases c:D5 ns with
    | none=>simp only [Jj,c] at p;exact p.elim
    | some m=>
     simp only [Jj,c] at p;have:=aE e g;subst this;exact lE i pins s σ H _ us Q I r ⟨a,ns,rfl,.inl (.inl k),m,c,p μ H (Lat.refl _ _) f _ (.int _)⟩
 ·exact p.elim
theorem Dy (b:X.calm=true):j6 X (.builtin "min") (rPs X.K cl xe rm):=by
 intro pins s σ H xs us Q I r ⟨μ,S,ds,a,d,p⟩;unfold rm at p;split at p
 ·cases a with
  | cons h t=>cases t with
   | cons e c=>
    cases c;cases h;cases e;exact lN b pins s σ H _ us Q I r ⟨_,_,rfl,p μ H (Lat.refl _ _) d _ (.int _)⟩
 ·exact p.elim
def tJ (d:D):M D:=match d with
 | .int i=>ret (.int i)
 | .bl b=>ret (.int (if b then 1 else 0))
 | _=>bad
theorem EU:j6 X (.type "int") (rPs X.K cl xe (one tJ)):=U5 λpins s σ H μ S d v us Q I r rd rp p=>by
 cases rd with
 | int i=>exact bn pins s σ H _ us Q I r (.inl ⟨i,rfl,p μ H (Lat.refl _ _) rp _ (.int _)⟩)
 | bl b=>exact bn pins s σ H _ us Q I r (.inr ⟨b,rfl,p μ H (Lat.refl _ _) rp _ (.int _)⟩)
 | _=>exact False.elim p
def kn (d:D):M D:=match d with
 | .int i=>ret (.int (-i))
 | _=>bad
theorem nP:UnR X (unaryOp .USub) (λx H Q=>∃ μ S d,RD X.K μ H d x/\Rep X.K cl μ S H/\Post X.K cl xe μ H (kn d S) λr _ μ' H'=>∀ v,RD X.K μ' H' r v->Q v H'):=by
 intro pins s σ H x v Q I rx ⟨μ,S,d,rd,rp,p⟩;cases rd with
 | int i=>exact zj pins s σ H _ v Q I rx ⟨i,rfl,p μ H (Lat.refl _ _) rp _ (.int _)⟩
 | _=>exact False.elim p
theorem BZ (h:PE X a (tD X.K cl xe f)):PE X (.UnaryOp .USub a pos) (tD X.K cl xe λρ=>bind (f ρ) kn):=
 PE.imp (FB nP h) λσ H Q ⟨μ,S,ρ,c,e,p⟩=>⟨μ,S,ρ,c,e,p.bind.imp λd S1 b k l i g v j=>⟨b,S1,d,j,i,g⟩⟩
end
section
variable {X:Cx} {e:Expr} {te:TE} {p p2 pos pos2:Pos} {cl:Nat->Addr} {xe:Addr->Hp->Prop}
theorem fZ:∀ {ns:List Int} {us:List Value},Vals (ns.map V.int) us->IntsAre us ns
 | [],_,r=>by cases r;exact .nil
 | n :: ns,_,r=>by
  cases r with
  | cons h t=>
   obtain ⟨k,rfl⟩:=(h);exact .cons n k (fZ t)
end
end L3
namespace HT
open PySem PySem.Spec PyProof.Rows
open MeetsSeq MeetsSeq2 MeetsSeq3 SeqRoads2 SeqAt
theorem aJ {c:Type} {f:Nat->c->Sem (ForInStep c)} {d:c} {Q:c->Shared->Prop} {j:Nat} (hd:wpAny M A (f j d) (λr s'=>∃ b,r=.done b/\Q b s') E s) :
  ∀ (n i:Nat),i<=j->j<i+n->(∀ m,i<=m->m<j->∀ h:ForInStep c->Shared->Prop,h (.yield d) s->wpAny M A (f m d) h E s)->wpAny M A (forIn (List.range' i n 1) d f) Q E s
 | 0,i,l,k,_=>by omega
 | n+1,i,l,k,g=>by
  rw [List.range'_succ,JG];by_cases e:i=j
  ·subst e;refine Hz (IJ hd (λr s' ⟨b,e,q⟩=>?_) λ_ _ e=>e);subst e;exact HQ q
  ·refine Hz (g i (HV _) (by omega) _ ?_);exact aJ hd n (i+1) (by omega) (by omega) λm a b=>g m (by omega) b
theorem tuple_indexAt (l:Addr) (items:Array Value) (n:Nat) (v:Option Addr) (q:Array (Option Value)) (x:Value) (e:Value->Bool) (j:Nat) (k:j<items.size)
  (c:e items[j]=true) (f:∀ m (i:m<items.size),m<j->e items[m]=false) :
  Meets (Builtin.«tuple.index» ⟨[.ref l,x],[]⟩)
   (λA R s=>s.heap.get? l=some { cls:=.type "tuple",dict:=v,data:=.seq items n,slots:=q }/\(∀ y,y∈items->EqAt A.in1 s y x (e y))/\R (.ok (.ret (.int j s.toks))) { s with toks:=s.toks+1 }):=by
 intro prog w A R s h;obtain ⟨z,g,d,D,B⟩:=s;obtain ⟨r,o,h⟩:=h;have u:IsTup z l items:=⟨_,r,rfl,n,rfl⟩;have t:selfAndSome "tuple.index" "index" 1 3 ⟨[.ref l,x],[]⟩=pure (.ref l,[x]):=by rfl
 unfold Builtin.«tuple.index»;rw [t];refine Hz (HQ ?_);refine Hz (Lo u ?_);refine Hz (HQ ?_);refine Hz (HQ ?_);refine Hz ?_;rw [Std.Legacy.Range.forIn_eq_forIn_range'];refine aJ (j:=j) ?_ _ _ (Jp _) ?_ ?_
 ·have b:=IW k;simp only [b];refine Hz (o _ (Array.getElem_mem k) prog w _ _ ?_);rw [c]
  wp_walk
  exact ⟨_,rfl,HQ h⟩
 ·simp_all
 ·intro m _ i C p;have a:m<items.size:=by omega
  have b:=IW a;simp only [b];refine Hz (o _ (Array.getElem_mem a) prog w _ _ ?_);rw [f m a i];exact HQ p
end HT
namespace L3
open PySem PySem.Spec PyProof.Rows L2
section
variable {X:Cx} {cl:Nat->Addr} {xe:Addr->Hp->Prop} {o e:Expr} {es:List Expr} {f:Env->M D} {fs:Env->M (List D)} {apos cpos:Pos}
theorem lQ (hu:X.A.units+80<cLine):MtR X "tuple.index" (λx vs H Q=>∃ y ps d j,vs=[y]/\DAt X.K H x (.tuple ps)/\DAt X.K H y d/\(d.canLay0=true/\PyData.canLayAll0 ps=true/\min (PyData.depthAll ps) d.depth<=60)/\ps.findIdx? (λz=>PyData.eqv z d)=some j/\Q (.int (j:Nat)) H):=by
 intro pins s σ H x vs v us Q I rx rv h;obtain ⟨y,ps,d,j,rfl,hx,hy,⟨c1,c2,c3⟩,hj,q⟩:=h;obtain ⟨u,rfl,ru⟩:=rv.one;obtain ⟨as,r1⟩:=hx.reads I rx;obtain ⟨bs,r2⟩:=hy.reads I ru;cases r1 with
 | tuple h1 h2 h3 h4=>
  rename_i a ob its n;obtain ⟨cls,dd,data,sl⟩:=ob;subst h2 h3;have em:=SeqAt.readsAll_map ps _ _ c2 h4;obtain ⟨hl,hit,hno⟩:=Kx.mp hj;have hlen:its.toList.length=ps.length:=by rw [<- em,Hy]
  have hl':j<its.size:=by rw [<- JM,hlen];exact hl
  have at_:∀ m (hm:m<its.size) (hm2:m<ps.length),SeqAt.readOf s.heap its[m]=ps[m]:=λm hm hm2=>by
   have:ps[m]?=(its.toList.map (SeqAt.readOf s.heap))[m]?:=by rw [em]
   rw [HP hm2,Ie,JD,IW hm] at this;exact (Iv this).symm
  refine JA F.slot_tuple_index ⟨_,h1,rfl⟩ F.entry_tuple_index (F.args_tuple_index_2 _ _) (HT.tuple_indexAt _ its n dd sl u (λz=>PyData.eqv (SeqAt.readOf s.heap z) d) j hl' (by rw [at_ j hl' hl];exact hit) λm hm hmj=>?_) ⟨h1,λz hz=>?_,?_⟩
  ·grind
  ·exact SeqAt.items_eqAt h4 r2 c2 c1 (by omega) z hz
  ·exact ⟨.int (j:Nat),H,I.tok _,⟨_,rfl⟩,q⟩
def tupOf (x:D):M (List D):=match x with
 | .tup ds=>ret ds
 | _=>bad
end
end L3
namespace HT
open PySem PySem.Spec PyProof.Rows
section
variable {prog:Program} {w:World} {A:Around} {E:Value->Shared->Prop} {s:Shared}
theorem AO {ob:Obj} {k:Nat} {T:String} {Q:List Value->Shared->Prop} (f:T = "list"\/T = "tuple") (g:s.heap.get? a=some ob) (d:ob.cls=.type T) (h:ob.data=.seq us.toArray k) (hz:us.length<=sizeLine)
  (q:Q us { s with heap:=(s.heap.push (seqObj "list" #[] 0)).update s.heap.objs.size (Obj.mapSeq (·++us.toArray)) }):wpAny (model prog w) A (collect (.ref a)) Q E s:=by
 have b:(s.heap.push (seqObj "list" #[] 0)).get? a=some ob:=HR _ g;have c:(s.heap.push (seqObj "list" #[] 0)).get? s.heap.objs.size=some (seqObj "list" #[] 0):=Ih _ rfl;refine Hz (wpAny_runValue (codeAny_builtin PyProof.Rows.entry_proto_collect' (?_:wpAny _ _ (do again (.builtin "list.__iadd__" ⟨[<- newList [],.ref a],[]⟩)) _ _ s)));refine Hz (wpAny_newList (HQ ⟨Code.quiet_builtin _ (by decide +kernel),codeAny_builtin PyProof.Rows.entry_list_iadd' (?_:wpAny _ _ (Builtin.List.listExtendWith (.ref s.heap.objs.size) (.ref a) (.ref s.heap.objs.size)) _ _ { s with heap:=s.heap.push (seqObj "list" #[] 0) })⟩));refine Hz (Lz ⟨ob,b,d⟩ ?_);rw [if_pos (by rcases f with rfl | rfl <;> simp)];refine Hz (Lh b h (Hz (Lh c rfl ?_)));rw [if_neg (by simp)];refine Hz (PyProof.Rows.listUpdate_at c rfl (HQ ?_) (Jp _) (by rw [Array.size_append];show 0+us.toArray.size<=_;rw [Ib];omega));refine Hz (wpAny_load (PyProof.Rows.get?_update_seq c _) ?_);show wpAny _ _ (pure ((#[]:Array Value)++us.toArray).toList) Q E _;have e:((#[]:Array Value)++us.toArray).toList=us:=by simp
 rw [e];exact HQ q
theorem sorted_seq {ob:Obj} {k:Nat} {T:String} {ns:List Int} {Q:Value->Shared->Prop} (f:T = "list"\/T = "tuple") (g:s.heap.get? a=some ob) (c:ob.cls=.type T) (l:ob.data=.seq us.toArray k) (h:IntsAre us ns) (d:us.length<64)
  (q:∀ (out:Array Value) (ms:List Int),IntsAre out.toList ms->ms.Perm ns->ms.Pairwise (·<=·)->Q (.ref (s.heap.objs.size+1)) { s with heap:=sortedAll s.heap us out }):wpAny (model prog w) A (call (.builtin "sorted") [.ref a]) Q E s:=by
 refine Calls.call_function_entry PyProof.Rows.kind_sorted PyProof.Rows.plain_sorted PyProof.Rows.entry_sorted (PyProof.Rows.args_sorted1 _) ?_;refine Hz (HQ (Hz (AO f g c l (by rw [Iq];omega) (Hz (wpAny_newList ?_)))));have e:((s.heap.push (seqObj "list" #[] 0)).update s.heap.objs.size (Obj.mapSeq (·++us.toArray))).objs.size=s.heap.objs.size+1:=by
  rw [Heap.size_update,PyProof.Rows.size_push']
 have b:(((s.heap.push (seqObj "list" #[] 0)).update s.heap.objs.size (Obj.mapSeq (·++us.toArray))).push (seqObj "list" us.toArray 0)).get? (s.heap.objs.size+1)=some (seqObj "list" us.toArray 0):=e▸Ih _ rfl;rw [e];refine Hz (Jm (Ka PyProof.Rows.slot_list_sort ⟨_,b,rfl⟩ PyProof.Rows.entry_list_sort (PyProof.Rows.list_sort_tree b h d λout ms m i j=>⟨_,rfl,HQ ⟨_,rfl,q out ms m i j⟩⟩) (PyProof.Rows.args_list_sort _)))
end
end HT
namespace L3
open PySem PySem.Spec PyProof.Rows L2
def iA (x:Int):List Int->List Int
 | []=>[x]
 | y :: ys=>if x<=y then x :: y :: ys else y :: iA x ys
def srt:List Int->List Int
 | []=>[]
 | x :: xs=>iA x (srt xs)
theorem aH (x:Int):∀ l:List Int,(iA x l).Perm (x :: l)
 | []=>.refl _
 | y :: ys=>by
  unfold iA;split
  ·exact .refl _
  ·exact ((aH x ys).cons y).trans (.swap x y ys)
theorem E4:∀ l:List Int,(srt l).Perm l
 | []=>.refl _
 | x :: xs=>(aH x (srt xs)).trans ((E4 xs).cons x)
theorem qB (x:Int):∀ l:List Int,l.Pairwise (·<=·)->(iA x l).Pairwise (·<=·)
 | [],_=>by simp [iA]
 | y :: ys,h=>by
  unfold iA;rw [JC] at h;split
  ·rename_i c;rw [JC];refine ⟨λz hz=>?_,JC.mpr h⟩;rcases Ii.mp hz with e | e
   ·omega
   ·have:=h.1 z e;omega
  ·rename_i c;rw [JC];refine ⟨λz hz=>?_,qB x ys h.2⟩;rcases Ii.mp ((aH x ys).mem_iff.mp hz) with e | e
   ·omega
   ·exact h.1 z e
theorem iF:∀ l:List Int,(srt l).Pairwise (·<=·)
 | []=>.nil
 | x :: xs=>qB x _ (iF xs)
theorem rM:∀ {a b:List Int},a.Perm b->a.Pairwise (·<=·)->b.Pairwise (·<=·)->a=b
 | [],b,p,_,_=>by
  have:=p.length_eq;cases b with
  | nil=>rfl
  | cons _ _=>simp at this
 | x :: a,[],p,_,_=>by have:=p.length_eq;simp at this
 | x :: a,y :: b,p,c,d=>by
  rw [JC] at c d;have f:=p.mem_iff.mp (HY ..);have g:=p.mem_iff.mpr (HY ..);have e:x=y:=by
   rcases Ii.mp f with e | e
   ·exact e
   ·grind
  subst e;rw [rM (List.Perm.cons_inv p) c.2 d.2]
theorem br:∀ {us:List Value} {ns:List Int},IntsAre us ns->Vals (ns.map V.int) us
 | _,_,.nil=>.nil
 | _,_,.cons n t h=>.cons ⟨t,rfl⟩ (br h)
section
variable {X:Cx} {cl:Nat->Addr} {xe:Addr->Hp->Prop}
theorem eA:j6 X (.builtin "sorted") (λxs H Q=>∃ (a:Addr) (ns:List Int),xs=[.ref a]/\(SqL X.K H a (ns.map V.int)\/SqT X.K H a (ns.map V.int))/\ns.length<64/\∀ p,H p=none->Q (.ref p) (upd H p (.lst ((srt ns).map V.int)))):=by
 intro pins s σ H xs us Q I r h;obtain ⟨a,ns,rfl,hs,D,q⟩:=h;obtain ⟨u,rfl,z⟩:=N5 r;cases z;have i:∀ (ob:Obj) (k:Nat) (T:String) (f:List Value),(T = "list"\/T = "tuple")->s.heap.get? a=some ob->ob.cls=.type T->ob.data=.seq f.toArray k->Vals (ns.map V.int) f->wpAny (model X.prog X.w) X.A (call (.builtin "sorted") [.ref a]) (EP X pins σ Q) X.xe s:=λob k T f l t m A g=>by
  have j:f.length=ns.length:=by rw [<- g.length,Hy]
  refine HT.sorted_seq l t m A (fZ g) (by omega) λout ms C x y=>?_;have e:=rM (x.trans (E4 ns).symm) y (iF ns);subst e;obtain ⟨v,w⟩:=sortedAll_at s.heap f out;have B:=I.hok.fresh (Jo _);refine ⟨.ref (s.heap.objs.size+1),_,I.laid (λb ob q=>sortedAll_old q) (Jo _) ?_,rfl,q _ B⟩;refine ⟨by rw [Hy,(E4 ns).length_eq,Iq];omega,out.toList,v,br C,?_⟩;rw [Array.toArray_toList];exact w
 rcases hs with hs | hs
 ·obtain ⟨f,g,⟨o,n,e,c,E,d⟩,_⟩:=I.list hs;exact i o n "list" f (.inl rfl) e c d g
 ·obtain ⟨f,g,⟨o,e,c,n,d⟩,_⟩:=I.tuple hs;exact i o n "tuple" f (.inr rfl) e c d g
def Q5 (d:D):M D:=bind (N9 d) λds=>match v3 ds with
 | some ns=>if ns.length<64 then ret (.lst ((srt ns).map D.int)) else bad
 | none=>bad
theorem rE:j6 X (.builtin "sorted") (rPs X.K cl xe (one Q5)):=U5 λpins s σ H μ S d v us Q I r j f p=>by
 obtain ⟨a,xs,ds,rfl,i,h,g⟩:=ff j f p.bind;have p:=p.ok_bind g;cases e:v3 ds with
 | none=>rw [e] at p;exact p.elim
 | some ns=>
  rw [e] at p;obtain ⟨hz,p⟩:=Post.guard p;have:=aE e h;subst this;refine eA pins s σ H _ us Q I r ⟨a,ns,rfl,i,hz,λz hz=>?_⟩;obtain ⟨l,b,c⟩:=M0 f (RDs.ints (srt ns)) hz;exact p μ _ l b _ c
end
section
variable {X:Cx} {cl:Nat->Addr} {xe:Addr->Hp->Prop} {o e:Expr} {es:List Expr} {f:Env->M D} {fs:Env->M (List D)} {apos cpos:Pos} {name:Str} {T T2 id id2:String} {r r2:V->List V->Hp->VK->Prop} {α:Type}
theorem zw (G:PlainAttrs T) (l:Slot T name id) (y:typeOf (.builtin id)=pure (.type "method_descriptor")) (F:MtR X id r) (A:PlainAttrs T2) (d:Slot T2 name id2) (i:typeOf (.builtin id2)=pure (.type "method_descriptor")) (B:MtR X id2 k) (K:PE X o to) (D:PA X (e :: es) t)
  (L:v1 o=true) (hs:(e :: es).all noStar=true) (J:D1 (e :: es)=true) (b:(apos.endLine==cpos.line)=true) :
  PE X (.Call (.Attribute o name apos) (e :: es) [] cpos) (λσ H Q=>to σ H λx f=>(tyV X.K T x f/\t σ f λxs c=>r x xs c Q)\/(tyV X.K T2 x f/\t σ f λxs c=>k x xs c Q)):=by
 intro pins s σ H Q I h;have a:=hs;rw [IQ,HS] at a;refine wpAny_Call_method_late (G5 L) (hD hs J) b rfl (thn (K pins s σ H _ I h) λv E ⟨x,f,n,m,g⟩=>?_);rcases g with ⟨C,g⟩ | ⟨C,g⟩
 ·obtain ⟨u,p⟩:=gf n m C;refine ⟨T,id,G,l,y,u,p,?_⟩;have j:=D cpos pins E σ f _ n g;rw [d8 a.1] at j ⊢;refine Kz (by show (false||(backTo cpos (starEach es X.env)).any (·.1))=false;rw [j1 a.2] <;> rfl) (KM ?_);exact thn j λus z ⟨vs,c,w,k,q⟩=>F pins z σ c x vs v us Q w m k q
 ·obtain ⟨u,p⟩:=gf n m C;refine ⟨T2,id2,A,d,i,u,p,?_⟩;have j:=D cpos pins E σ f _ n g;rw [d8 a.1] at j ⊢;refine Kz (by show (false||(backTo cpos (starEach es X.env)).any (·.1))=false;rw [j1 a.2] <;> rfl) (KM ?_);exact thn j λus z ⟨vs,c,w,k,q⟩=>B pins z σ c x vs v us Q w m k q
def Looks (K:PySem.W.Frag) (cl:Nat->Addr) (xe:Addr->Hp->Prop) (T:String) (g:D->M α):Prop:=∀ (μ:Mp) (S:Sto) (H:Hp) (x:D) (v:V) (G:α->Sto->Mp->Hp->Prop),RD K μ H x v->Rep K cl μ S H->Post K cl xe μ H (g x S) G->tyV K T v H/\∃ a,g x S=.ok a S
def uF (K:PySem.W.Frag) (cl:Nat->Addr) (xe:Addr->Hp->Prop) (r:V->List V->Hp->VK->Prop) (op:D->List D->M D):Prop:=∀ (μ:Mp) (S:Sto) (H:Hp) (x:D) (v:V) (ds:List D) (vs:List V) (Q:VK),RD K μ H x v->RDs K μ H ds vs->Rep K cl μ S H->Post K cl xe μ H (op x ds S) (λd _ μ' H'=>∀ w,RD K μ' H' d w->Q w H')->r v vs H Q
theorem dF (B:PlainAttrs T) (c:Slot T name id) (i:typeOf (.builtin id)=pure (.type "method_descriptor")) (s:MtR X id r) (t:Looks X.K cl xe T g) (hd:uF X.K cl xe r op) (F:PE X o (tD X.K cl xe f)) (v:PA X (e :: es) (tDs X.K cl xe fs))
  (G:v1 o=true) (hs:(e :: es).all noStar=true) (C:D1 (e :: es)=true) (E:(apos.endLine==cpos.line)=true) :
  PE X (.Call (.Attribute o name apos) (e :: es) [] cpos) (tD X.K cl xe λρ=>bind (f ρ) λx=>bind (g x) λ_=>bind (fs ρ) λds=>op x ds):=by
 have b:=hs;rw [IQ,HS] at b;refine PE.imp (xS B c i s F v (G5 G) (hD hs C) E (d8 b.1) (j1 b.2)) λσ H Q ⟨μ,S,ρ,l,w,p⟩=>?_;refine ⟨μ,S,ρ,l,w,p.bind.imp λx S1 d J u m h n k=>?_⟩;obtain ⟨I,a,D⟩:=t d S1 J x n _ k m h.bind;have h:=h.ok_bind D;exact ⟨I,d,S1,ρ,l.later u,m,h.bind.imp λds S2 μ2 A q y z vs j=>hd μ2 S2 A x n ds vs Q (k.later q) j y z⟩
theorem kj (hu:X.A.units+80<cLine):MtR X "list.index" (λx vs H Q=>∃ y ps d j,vs=[y]/\DAt X.K H x (.list ps)/\DAt X.K H y d/\(d.canLay0=true/\PyData.canLayAll0 ps=true/\min (PyData.depthAll ps) d.depth<=60)/\(j:Nat)<100000/\ps.findIdx? (λz=>PyData.eqv z d)=some j/\Q (.int (j:Nat)) H):=by
 intro pins s σ H x vs v us Q I rx rv h;obtain ⟨y,ps,d,j,rfl,hx,hy,⟨c1,c2,c3⟩,hjs,hj,q⟩:=h;obtain ⟨u,rfl,ru⟩:=rv.one;obtain ⟨as,r1⟩:=hx.reads I rx;obtain ⟨bs,r2⟩:=hy.reads I ru;cases r1 with
 | list h1 h2 h3 h4=>
  rename_i a ob its n as';obtain ⟨cls,dd,data,sl⟩:=ob
  (try simp only at h2 h3)
  subst h2 h3;have em:=SeqAt.readsAll_map ps _ _ c2 h4;obtain ⟨hl,hit,hno⟩:=Kx.mp hj;have hlen:its.toList.length=ps.length:=by rw [<- em,Hy]
  have hl':j<its.size:=by rw [<- JM,hlen];exact hl
  have at_:∀ m (hm:m<its.size) (hm2:m<ps.length),SeqAt.readOf s.heap its[m]=ps[m]:=λm hm hm2=>by
   have:ps[m]?=(its.toList.map (SeqAt.readOf s.heap))[m]?:=by rw [em]
   rw [HP hm2,Ie,JD,IW hm] at this;exact (Iv this).symm
  refine JA F.slot_list_index ⟨_,h1,rfl⟩ F.entry_list_index (F.args_list_index_2 _ _) (SeqAt.list_indexAt _ its n dd sl u (λz=>PyData.eqv (SeqAt.readOf s.heap z) d) j hl' (by omega) (by rw [at_ j hl' hl];exact hit) λm hm hmj=>?_) ⟨h1,λz hz=>?_,?_⟩
  ·grind
  ·exact SeqAt.items_eqAt h4 r2 c2 c1 (by omega) z hz
  ·exact ⟨.int (j:Nat),H,I.tok _,⟨_,rfl⟩,q⟩
def ixT (x d:D):M D:=λS=>match f9 64 S d,f9 64 S x with
 | some q,some (.tuple ps)=>(if q.canLay0=true/\PyData.canLayAll0 ps=true/\min (PyData.depthAll ps) q.depth<=60 then (match ps.findIdx? (λz=>PyData.eqv z q) with
  | some j=>ret (.int (j:Nat))
  | none=>bad) else bad) S
 | _,_=>.bad
def mD (x d:D):M D:=λS=>match f9 64 S d,f9 64 S x with
 | some q,some (.list ps)=>(if q.canLay0=true/\PyData.canLayAll0 ps=true/\min (PyData.depthAll ps) q.depth<=60 then (match ps.findIdx? (λz=>PyData.eqv z q) with
  | some j=>if j<100000 then ret (.int (j:Nat)) else bad
  | none=>bad) else bad) S
 | _,_=>.bad
def bo (x:D) (ds:List D):M D:=match ds with
 | [d]=>(match x with
  | .tup xs=>ixT (.tup xs) d
  | x=>mD x d)
 | _=>bad
def sqK (x:D):M Bool:=match x with
 | .tup _=>ret true
 | x=>bind (lstOf x) λ_=>ret false
theorem lH (hu:X.A.units+80<cLine) (ho:PE X o (tD X.K cl xe f)) (ha:PA X (e :: es) (tDs X.K cl xe fs)) (hb:v1 o=true) (hs:(e :: es).all noStar=true) (hf:D1 (e :: es)=true) (hl:(apos.endLine==cpos.line)=true) :
  PE X (.Call (.Attribute o "index" apos) (e :: es) [] cpos) (tD X.K cl xe λρ=>bind (f ρ) λx=>bind (sqK x) λ_=>bind (fs ρ) λds=>bo x ds):=by
 refine PE.imp (zw Ko PySem.F.slot_tuple_index PySem.F.type_tuple_index (lQ hu) Kv PySem.F.slot_list_index PySem.F.type_list_index (kj hu) ho ha hb hs hf hl) λσ H Q ⟨μ,S,ρ,eo,rp,p⟩=>?_;refine ⟨μ,S,ρ,eo,rp,p.bind.imp λx S1 μ1 H1 l1 r1 p1 xv rx=>?_⟩;have finT:∀ (S2:Sto) (μ2:Mp) (H2:Hp) (d:D) (v:V),RD X.K μ2 H2 x xv->RD X.K μ2 H2 d v->Rep X.K cl μ2 S2 H2->Post X.K cl xe μ2 H2 (ixT x d S2) (λd _ μ' H'=>∀ w,RD X.K μ' H' d w->Q w H') ->
   ∃ y ps d j,[v]=[y]/\DAt X.K H2 xv (.tuple ps)/\DAt X.K H2 y d/\(d.canLay0=true/\PyData.canLayAll0 ps=true/\min (PyData.depthAll ps) d.depth<=60)/\ps.findIdx? (λz=>PyData.eqv z d)=some j/\Q (.int (j:Nat)) H2:=by
  intro S2 μ2 H2 d v rx2 rv r2 p2;simp only [ixT] at p2;cases e2:f9 64 S2 d with
  | none=>rw [e2] at p2;exact p2.elim
  | some b=>
   cases e1:f9 64 S2 x with
   | none=>rw [e2,e1] at p2;exact p2.elim
   | some a=>
    rw [e2,e1] at p2;have ha:=k9 r2 64 e1 rx2;have hb:=k9 r2 64 e2 rv;cases a with
    | tuple ps=>
     dsimp only at p2;by_cases c:b.canLay0=true/\PyData.canLayAll0 ps=true/\min (PyData.depthAll ps) b.depth<=60
     ·rw [if_pos c] at p2;cases e3:ps.findIdx? (λz=>PyData.eqv z b) with
      | none=>rw [e3] at p2;exact p2.elim
      | some j=>
       rw [e3] at p2;exact ⟨v,ps,b,j,rfl,ha,hb,c,e3,p2 μ2 H2 (Lat.refl _ _) r2 _ (.int _)⟩
     ·rw [if_neg c] at p2;exact p2.elim
    | _=>exact p2.elim
 have finL:∀ (S2:Sto) (μ2:Mp) (H2:Hp) (d:D) (v:V),RD X.K μ2 H2 x xv->RD X.K μ2 H2 d v->Rep X.K cl μ2 S2 H2->Post X.K cl xe μ2 H2 (mD x d S2) (λd _ μ' H'=>∀ w,RD X.K μ' H' d w->Q w H') ->
   ∃ y ps d j,[v]=[y]/\DAt X.K H2 xv (.list ps)/\DAt X.K H2 y d/\(d.canLay0=true/\PyData.canLayAll0 ps=true/\min (PyData.depthAll ps) d.depth<=60)/\(j:Nat)<100000/\ps.findIdx? (λz=>PyData.eqv z d)=some j/\Q (.int (j:Nat)) H2:=by
  intro S2 μ2 H2 d v rx2 rv r2 p2;simp only [mD] at p2;cases e2:f9 64 S2 d with
  | none=>rw [e2] at p2;exact p2.elim
  | some b=>
   cases e1:f9 64 S2 x with
   | none=>rw [e2,e1] at p2;exact p2.elim
   | some a=>
    rw [e2,e1] at p2;have ha:=k9 r2 64 e1 rx2;have hb:=k9 r2 64 e2 rv;cases a with
    | list ps=>
     dsimp only at p2;by_cases c:b.canLay0=true/\PyData.canLayAll0 ps=true/\min (PyData.depthAll ps) b.depth<=60
     ·rw [if_pos c] at p2;cases e3:ps.findIdx? (λz=>PyData.eqv z b) with
      | none=>rw [e3] at p2;exact p2.elim
      | some j=>
       rw [e3] at p2;obtain ⟨hj,p2⟩:=Post.guard p2;exact ⟨v,ps,b,j,rfl,ha,hb,c,hj,e3,p2 μ2 H2 (Lat.refl _ _) r2 _ (.int _)⟩
     ·rw [if_neg c] at p2;exact p2.elim
    | _=>exact p2.elim
 have L:Post X.K cl xe μ1 H1 (bind (bind (lstOf x) λ_=>ret false) (λ_=>bind (fs ρ) λds=>bo x ds) S1) (λd _ μ' H'=>∀ v,RD X.K μ' H' d v->Q v H')->(∀ d,bo x [d]=mD x d)->(tyV X.K "list" xv H1/\tDs X.K cl xe fs σ H1 λxs H2=>∃ y ps d j,xs=[y]/\DAt X.K H2 xv (.list ps)/\DAt X.K H2 y d/\(d.canLay0=true/\PyData.canLayAll0 ps=true/\min (PyData.depthAll ps) d.depth<=60)/\(j:Nat)<100000/\ps.findIdx? (λz=>PyData.eqv z d)=some j/\Q (.int (j:Nat)) H2):=λp1 hx=>by
  obtain ⟨a0,xs0,ds0,e0,h0,r0,q0⟩:=p7 rx r1 p1.bind.bind;have p1:=p1.ok_bind (show (bind (lstOf x) λ_=>ret false) S1=.ok false S1 by rw [bind];rw [q0];rfl);subst e0;refine ⟨.inl ⟨rfl,_,.inl (.inl h0)⟩,μ1,S1,ρ,eo.later l1,r1,p1.bind.imp λds S2 μ2 H2 l2 r2 p2 vs rvs=>?_⟩
  match ds,rvs with
  | [],_=>exact False.elim p2
  | _ :: _ :: _,_=>exact False.elim p2
  | [d],rvs=>
   obtain ⟨v,rfl,rv⟩:=fu rvs;rw [hx] at p2;exact finL S2 μ2 H2 d v (rx.later l2) rv r2 p2
 cases rx with
 | tup h0 r0=>
  rename_i a0 xs0 ds0;have p1:=p1.ok_bind (rfl);refine .inl ⟨?_,μ1,S1,ρ,eo.later l1,r1,p1.bind.imp λds S2 μ2 H2 l2 r2 p2 vs rvs=>?_⟩
  ·rcases h0 with ⟨q,_,_⟩ | ⟨o,its,n,c1,c2,c3,c4,c5,c6⟩
   ·exact .inr (.inr (.inr (.inr ⟨rfl,_,q⟩)))
   ·exact .inr (.inl ⟨rfl,o,c1,c2,c6⟩)
  ·match ds,rvs with
   | [],_=>exact False.elim p2
   | _ :: _ :: _,_=>exact False.elim p2
   | [d],rvs=>
    obtain ⟨v,rfl,rv⟩:=fu rvs;exact finT S2 μ2 H2 d v ((RD.tup h0 r0).later l2) rv r2 p2
 | _=>exact .inr (L p1 λd=>rfl)
theorem RDs.erase {K:PySem.W.Frag} {μ:Mp} {H:Hp}:∀ {ds:List D} {vs:List V} (n:Nat),RDs K μ H ds vs->RDs K μ H (ds.eraseIdx n) (vs.eraseIdx n)
 | _,_,_,.nil=>.nil
 | _,_,0,.cons h r=>r
 | _,_,n+1,.cons h r=>.cons h (RDs.erase n r)
def popD (x:D) (ds:List D):M D:=match x,ds with
 | .ref n,[.int i]=>λS=>match S[n]? with
  | some (.lst es)=>if -(2 ^ 63)<=i/\i<2 ^ 63 then (match ixN es.length i with
   | some j=>(match es[j]? with
    | some y=>.ok y (S.set n (.lst (es.eraseIdx j)))
    | none=>.bad)
   | none=>.bad) else .bad
  | _=>.bad
 | _,_=>bad
theorem iZ:Looks X.K cl xe "list" lstOf:=λμ S H x v G b c p=>by
 obtain ⟨a,xs,ds,rfl,d,f,e⟩:=p7 b c p;exact ⟨.inl ⟨rfl,_,.inl (.inl d)⟩,ds,e⟩
theorem rO:uF X.K cl xe rPopAt popD:=λμ S H x v ds vs Q rx rvs rp p=>by
 unfold popD at p;split at p
 ·rename_i n i;cases rvs with
  | cons h t=>
   cases t;cases h;cases rx with
   | ref e=>
    rename_i a;cases q1:S[n]? with
    | none=>rw [q1] at p;exact p.elim
    | some o=>
     rw [q1] at p;cases o with
     | lst es=>
      obtain ⟨xs,h1,h2⟩:=rp.ats n _ a q1 e;dsimp only at p;by_cases hb:-(2 ^ 63)<=i/\i<2 ^ 63
      ·rw [if_pos hb] at p;cases q2:ixN es.length i with
       | none=>rw [q2] at p;exact p.elim
       | some j=>
        rw [q2] at p;dsimp only at p;cases q3:es[j]? with
        | none=>rw [q3] at p;exact p.elim
        | some y=>
         rw [q3] at p;obtain ⟨y',e4,r4⟩:=h2.get q3;have ml:=Io e;refine ⟨a,xs,i,j,y',rfl,rfl,h1,hb.1,hb.2,by rw [<- h2.length];exact (de q2).1,e4,?_⟩;have la:Lat μ H μ (upd H a (.lst (xs.eraseIdx j))):=Lat.wrote ml;exact p μ _ la (rp.wrote e ⟨_,b8,(h2.erase j).later la⟩) _ (r4.later la)
      ·rw [if_neg hb] at p;exact p.elim
     | dct _=>exact p.elim
     | exc _ _=>exact p.elim
 ·exact p.elim
theorem fo {K:PySem.W.Frag} {μ:Mp} {H:Hp} {k:Key}:∀ {a:List (Key×D)} {c:List (Key×V)},KvsAt K μ H a c->aj a k=none->O1 c k=none
 | _,_,.nil,_=>rfl
 | p :: r,q :: f,.cons ⟨d,g⟩ t,e=>by
  unfold aj at e;unfold O1;rw [Js] at e ⊢;rw [<- d];cases b:decide (p.1=k) with
  | true=>rw [b] at e;cases e
  | false=>
   rw [b] at e;exact fo t e
end
section
variable {X:Cx} {cl:Nat->Addr} {xe:Addr->Hp->Prop} {o e:Expr} {es:List Expr} {f:Env->M D} {p p2 pos pos2:Pos} {te:TE}
def rgL (n:Nat):List Int:=(List.range n).map λ(k:Nat)=>(k:Int)
theorem tV {n:Nat} (a:acc.length=n) (h:∀ (i:Nat) (v:Value),acc[i]?=some v->∃ t,v=Value.int (i:Int) t):Vals ((rgL n).map V.int) acc:=by
 have d:∀ (k:Nat) (l:List Value) (b:Nat),l.length=k->(∀ (i:Nat) (v:Value),l[i]?=some v->∃ t,v=Value.int ((b+i:Nat):Int) t)->Vals ((List.range' b k).map λ(j:Nat)=>V.int (j:Int)) l:=by
  intro k;induction k with
  | zero=>intro l b a _;cases l with
   | nil=>exact .nil
   | cons _ _=>simp at a
  | succ k f=>
   intro l b a c;cases l with
   | nil=>simp at a
   | cons v l=>
    rw [List.range'_succ,II];refine .cons ?_ (f l (b+1) (by simpa using a) λi w g=>?_)
    ·obtain ⟨t,e⟩:=c 0 v rfl;exact ⟨t,by rw [e];simp⟩
    ·obtain ⟨t,e⟩:=c (i+1) w (by simpa using g);exact ⟨t,by rw [e];congr 2;omega⟩
 have:=d n acc 0 a λi v c=>by
  obtain ⟨t,e⟩:=h i v c;exact ⟨t,by rw [e];simp⟩
 unfold rgL;rw [Kc,List.range_eq_range'];exact this
def vz (te:TE):TE:=λσ H Q=>te σ H λx a=>∃ n:Nat,x=.int (n:Int)/\n<100000/\∀ q,a q=none->Q (.ref q) (upd a q (.lst ((rgL n).map V.int)))
theorem kt (A:X.calm=true) (C:Gl X "list") (w:X.mg "list" = none) (o:Gl X "range") (l:X.mg "range" = none) (y:PE X e te) (j:noStar e=true):PE X (.Call (.Name "list" p) [.Call (.Name "range" p2) [e] [] pos2] [] pos) (vz te):=by
 intro pins s σ H Q I h;have k:=I.ok.hd A;refine Ja (G1 I C w (by rfl) ?_ (by decide) (by decide));refine IT ?_ rfl rfl;refine La ?_;refine Ja (G1 I o l boot_range ?_ (by decide) (by decide));refine IT ?_ (d8 j) rfl;rw [d8 j];refine La (thn (y pins s σ H _ I h) λu d ⟨x,G,z,B,n,m,hz,q⟩=>?_);subst m;obtain ⟨t,rfl⟩:=B;refine Lk (call_range_1 (Lk ?_));have rs:Builtin.Range.rangeSize 0 (n:Int) 1=(n:Int):=by rw [rangeSize_one];split <;> omega
 refine call_list_range k (IsRange.new ..) (small_one (by omega) (by omega) (by omega) (by omega)) rs (by omega) λh' F f c r E a=>?_;have g:=z.kept (t':=d.toks+1+1) (h':=d.heap.push { cls:=.type "range",data:=.fields #[.int 0 d.toks,.int (n:Int) t,.int 1 (d.toks+1)] }) λb ob q=>HR _ q;refine ⟨.ref _,_,Inv.laid g r (HV _) ?_,rfl,q _ (g.hok.fresh (HV _))⟩;refine ⟨by rw [Hy];show (rgL n).length<=_;unfold rgL;rw [Hy,Il,Iq];omega,f.toList,c,tV (by rw [JM];exact a.1) (λi v D=>?_),?_⟩
 ·obtain ⟨t',e⟩:=a.2 i v (by rw [<- JD];exact D);exact ⟨t',by rw [e];simp⟩
 ·simp_all
def J0 (d:D):M D:=match d with
 | .int i=>if 0<=i/\i<100000 then ret (.lst ((rgL i.toNat).map D.int)) else bad
 | _=>bad
theorem mn (hc:X.calm=true) (hl:Gl X "list") (ml:X.mg "list" = none) (hr:Gl X "range") (mr:X.mg "range" = none) (he:PE X e (tD X.K cl xe f)) (hn:noStar e=true):PE X (.Call (.Name "list" p) [.Call (.Name "range" p2) [e] [] pos2] [] pos) (tD X.K cl xe λρ=>bind (f ρ) J0):=
 PE.imp (kt hc hl ml hr mr he hn) λσ H Q ⟨μ,S,ρ,eo,rp,p⟩=>⟨μ,S,ρ,eo,rp,p.bind.imp λd S1 μ1 H1 l1 r1 p1 v rv=>by
  cases rv with
  | int i=>
   obtain ⟨hi,p1⟩:=Post.guard p1;refine ⟨i.toNat,by rw [Int.toNat_of_nonneg hi.1],by omega,λz hz=>?_⟩;obtain ⟨l,rp2,rd2⟩:=M0 r1 (RDs.ints (rgL i.toNat)) hz;exact p1 μ1 _ l rp2 _ rd2
  | _=>exact False.elim p1⟩
end
end L3
namespace HT
open PySem PySem.Spec PyProof.Rows
section
variable {prog:Program} {w:World} {A:Around} {E:Value->Shared->Prop} {s:Shared} {S:Int->Bool} {n:Nat} {a:Addr}
theorem dZ (h:ElemsOf (intKind prog w) l):∃ a,IntsAre (l.map (·.2)) a/\∀ k,k∈a↔∃ e∈l,(intKind prog w).is k e.2=true:=by
 induction l with
 | nil=>exact ⟨[],.nil,λk=>by simp⟩
 | cons e l d=>
  obtain ⟨a,g,c⟩:=d h.tail;obtain ⟨⟨k,b,_⟩,_⟩:=h.head;obtain ⟨t,f⟩:=Value.isInt_shape b;refine ⟨k :: a,?_,λj=>?_⟩
  ·rw [II,f];exact .cons k t g
  ·rw [Ii,c];have:(intKind prog w).is j e.2=true↔j=k:=by
    rw [KeyKind.is_eq_decide b j,Iz]
   constructor
   ·grind
   ·grind
end
end HT
namespace L2
open PySem PySem.Spec PyProof.Rows
theorem cN:∀ {cs:List Addr} {us:List Value},Vals (cs.map V.ref) us->us=cs.map Value.ref
 | [],_,h=>by cases h;rfl
 | c :: cs,_,h=>by
  cases h with
  | cons r t=>
   have e:=cN t;subst e;cases (r);rfl
theorem aK:j6 X (.builtin "isinstance") (λxs H Q=>∃ f x C d a,∃ (cs:List Addr) (b:Bool),xs=[.ref x,.ref a]/\XC X.K C/\H x=some (M9 f x C d)/\(∀ d',d=some d'->∃ fs,H d'=some (J9 d' fs))/\H a=some (.tup (cs.map V.ref))/\PySem.W.kitAny X.K (.ref C) (cs.map Value.ref)=some b/\Q (.bl b) H):=by
 intro pins s σ H xs us Q I r h;obtain ⟨f,x,C,d,a,cs,b,rfl,M,g,hd,v,j,q⟩:=h;obtain ⟨u,F,rfl,D,c⟩:=cT r;cases (D);cases (c);have J:∃ ox od,PySem.W.InstAt s.heap x ox C od:=by
  cases d with
  | none=>obtain ⟨ox,J⟩:=(I.isX g).inst0;exact ⟨ox,_,J⟩
  | some d'=>
   obtain ⟨fs,k⟩:=hd d' rfl;obtain ⟨mA,i,_⟩:=I.isD k;obtain ⟨od,e,_⟩:=M8 i;obtain ⟨ox,J⟩:=(I.isX g).inst1 e;exact ⟨ox,_,J⟩
 obtain ⟨_,p,A,o,t,y,n,hs,l⟩:=I.hok a _ v;have B:=cN A;subst B;obtain ⟨E,od,m,w⟩:=o;cases (y);cases (hs);exact PySem.W.kia_tup (CV M.xc) I.kIn J t j (λz=>nomatch z) λG=>⟨.bl b,H,I.tok _,rfl,q⟩
end L2
namespace L3
open PySem PySem.Spec PyProof.Rows L2
inductive NamesC (X:Cx) (cl:Nat->Addr):List Expr->List Nat->Prop where
 | nil:NamesC X cl [] []
 | cons {x:Str} {p:Pos} {c:Nat} {es:List Expr} {cs:List Nat}:Gl X x->X.mg x=some (.ref (cl c))->(x==("__debug__" : Str))=false->NamesC X cl es cs->NamesC X cl (.Name x p :: es) (c :: cs)
section
variable {X:Cx} {cl:Nat->Addr} {xe:Addr->Hp->Prop} {a:Expr} {f:Env->M D} {pos p q:Pos}
theorem oX {es:List Expr} {cs:List Nat} (h:NamesC X cl es cs):PA X es λ_ H Q=>Q (cs.map λc=>V.ref (cl c)) H:=by
 induction h with
 | nil=>exact B0
 | @cons x p c es cs h1 h2 h3 _ ih=>exact i9 (te:=tC (.ref (cl c))) (t:=λ_ H Q=>Q (cs.map λc=>V.ref (cl c)) H) (eC h1 h2 rfl h3) ih rfl
theorem jK {K:PySem.W.Frag} {t:Value} {g:Nat->Value} {s:Nat->Bool}:∀ {cs:List Nat},(∀ c∈cs,PySem.W.kitOne K t (g c)=some (s c))->PySem.W.kitAny K t (cs.map g)=some (cs.any s)
 | [],_=>rfl
 | c :: cs,h=>by
  have a:=h c (by simp);show (match PySem.W.kitOne K t (g c) with
   | some true=>some true
   | some false=>PySem.W.kitAny K t (cs.map g)
   | none=>none)=_
  rw [a,Km];cases s c with
  | true=>rfl
  | false=>exact jK λc b=>h c (by simp [b])
theorem kh {cs:List Nat} {k:Nat} {sub:Nat->Nat->Bool} (hk:∀ c0∈cs,∀ c,XC X.K (cl c)->PySem.W.kitOne X.K (.ref (cl c)) (.ref (cl c0))=some (sub c c0)) (hl:cs.length<=1000) (h:PE X a (tD X.K cl xe f)) (hg:Gl X "isinstance") (hm:X.mg "isinstance" = none) (hn:NamesC X cl ys cs) (hs:noStar a=true) :
  PE X (.Call (.Name "isinstance" p) [a,.Tuple ys k q] [] pos) (tD X.K cl xe λρ=>bind (f ρ) λd=>A0 (λc=>cs.any λc0=>sub c c0) d):=by
 have key:j6 X (.builtin "isinstance") (λvs H Q=>∃ μ S d v tp,vs=[v,.ref tp]/\H tp=some (.tup (cs.map λc=>V.ref (cl c)))/\RD X.K μ H d v/\Rep X.K cl μ S H/\Post X.K cl xe μ H (A0 (λc=>cs.any λc0=>sub c c0) d S) λr _ μ' H'=>∀ v,RD X.K μ' H' r v->Q v H'):=by
  intro pins s σ H xs us Q I r ⟨μ,S,d,v,tp,ev,et,rd,rp,P⟩;subst ev;unfold A0 at P;cases rd with
  | ref h=>
   rename_i n b;simp only at P;cases q1:S[n]? with
   | none=>rw [q1] at P;exact P.elim
   | some o=>
    rw [q1] at P;cases o with
    | exc c fs=>
     have q:=P μ H (Lat.refl _ _) rp _ (.bl _);obtain ⟨xc,gs,r2,fr,h2⟩:=rp.ats n _ b q1 h;have kk:=jK λc0 hc=>hk c0 hc c xc;have et':H tp=some (.tup ((cs.map cl).map V.ref)):=by rw [Kc];exact et
     have kk':PySem.W.kitAny X.K (.ref (cl c)) ((cs.map cl).map Value.ref)=some (cs.any λc0=>sub c c0):=by rw [Kc];exact kk
     rcases h2 with ⟨z,e2⟩ | ⟨d,n1,n2,e2,e3⟩
     ·exact aK pins s σ H _ us Q I r ⟨fr,b,cl c,none,tp,cs.map cl,_,rfl,xc,e2,λ_ z=>(nomatch z),et',kk',q⟩
     ·exact aK pins s σ H _ us Q I r ⟨fr,b,cl c,some d,tp,cs.map cl,_,rfl,xc,e2,λd' z=>by cases z;exact ⟨gs,e3⟩,et',kk',q⟩
    | lst _=>exact P.elim
    | dct _=>exact P.elim
  | _=>exact False.elim P
 refine PE.imp (Q1 key hg hm (by rfl) (i9 h (i9 (nU (oX hn)) B0 (d8 rfl)) (d8 hs)) (by decide) (by decide) (d8 hs) (j1 rfl)) λσ H Q ⟨μ,S,ρ,eo,rp,P⟩=>?_;refine ⟨μ,S,ρ,eo,rp,P.bind.imp λd S1 μ1 H1 l1 r1 p1 v rv=>⟨by rw [Hy];rw [Iq];omega,λz hz=>?_⟩⟩;have l:=Lat.laid (μ:=μ1) (o:=.tup (cs.map λc=>V.ref (cl c))) hz;exact ⟨μ1,S1,d,v,z,rfl,b8,rv.later l,r1.laid hz,p1.later l⟩
end
def B3:List D->Option (List Str)
 | []=>some []
 | .str x :: ds=>(B3 ds).map (x :: ·)
 | _=>none
theorem jE {K:PySem.W.Frag} {μ:Mp} {H:Hp}:∀ {es:List D} {xs:List V} {ys:List Str},B3 es=some ys->RDs K μ H es xs->xs=ys.map V.str
 | [],_,_,e,r=>by cases e;cases r;rfl
 | d :: es,_,ys,e,r=>by
  cases d with
  | str x=>
   simp only [B3] at e;cases q:B3 es with
   | none=>rw [q] at e;cases e
   | some zs=>
    rw [q] at e;cases e;cases r with
    | cons h t=>cases h;rw [jE q t];rfl
  | _=>simp only [B3] at e;cases e
theorem V0:∀ {ys:List Str} {us:List Value},Vals (ys.map V.str) us->StrsAre us ys
 | [],_,h=>by cases h;exact .nil
 | y :: ys,_,h=>by
  cases h with
  | cons r t=>
   obtain ⟨tk,rfl⟩:=r;exact .cons _ _ (V0 t)
def N3:List Int->Int
 | []=>0
 | x :: xs=>x+N3 xs
theorem gH:∀ (xs ys:List Int),N3 (xs++ys)=N3 xs+N3 ys
 | [],ys=>by show N3 ys=0+N3 ys;omega
 | x :: xs,ys=>by show x+N3 (xs++ys)=x+N3 xs+N3 ys;rw [gH xs ys];omega
theorem kF (ns:List Int):∀ j,j<=ns.length->preSum (λi=>ns.getD i 0) j=N3 (ns.take j)
 | 0,_=>by simp [preSum,N3]
 | j+1,h=>by
  have a:j<ns.length:=by omega
  rw [Je a,gH,<- kF ns j (by omega)];show preSum _ j+ns.getD j 0=preSum _ j+(ns[j]+0);simp [a]
section
variable {X:Cx} {cl:Nat->Addr} {xe:Addr->Hp->Prop}
theorem il {σ:L2.St} {H:Hp} {Q:VK} {ns:List Int} {t':Nat} {o:Obj} (I:L2.Inv X pins σ H s) (q:Q (.int (N3 ns)) H) {m:Nat} (d:m=ns.length)
  (h:Moved [s.heap.objs.size] (λa b=>b=a) { s with heap:=s.heap.push o } s'):EP X pins σ Q (.int (preSum (λi=>ns.getD i 0) m) t') s':=by
 have e:preSum (λi=>ns.getD i 0) m=N3 ns:=by rw [d,kF ns ns.length (HV _),KL]
 rw [e];obtain ⟨k,g,f,j,n⟩:=h;have es:s'={ s with heap:=s'.heap,toks:=s'.toks }:=by
  cases s';cases s;subst g f j;rfl
 rw [es];refine ⟨.int (N3 ns),H,I.kept λb o c=>?_,⟨_,rfl⟩,q⟩;have l:=HX c;exact k b o (by simp;exact Ig l) (HR _ c)
theorem eI {ns:List Int} {a:List Value} (d:Vals (ns.map V.int) a):∀ (i:Nat) (v:Value),a.toArray[i]?=some v->∃ t,v=Value.int (ns.getD i 0) t:=by
 intro i v c;rw [List.getElem?_toArray] at c;have h:a.length=ns.length:=by rw [<- d.length,Hy]
 have g:i<ns.length:=by
  have b:=(HN.mp c).1;omega
 obtain ⟨u,f,e⟩:=Vals.get d (by rw [Ie,HP g];rfl);rw [f] at c;cases c;obtain ⟨t,rfl⟩:=e;grind
theorem sF {s:Shared} {p:Addr} {o:Obj} (d:p<s.heap.objs.size) (c:o.isFreed=false:=by rfl):∀ b∈[s.heap.objs.size,p],b<(s.heap.push o).objs.size:=by
 intro b a;rcases Ii.mp a with rfl | a
 ·simp_all
 ·rw [ID.mp a];exact Nat.lt_trans d (HX (Ih _ c))
theorem fK (l:X.calm=true):j6 X (.builtin "sum") (λxs H Q=>∃ (p:Addr) (ns:List Int),xs=[.ref p]/\(SqL X.K H p (ns.map V.int)\/SqT X.K H p (ns.map V.int))/\Q (.int (N3 ns)) H):=by
 intro pins s σ H xs us Q I r h;obtain ⟨p,ns,rfl,d,q⟩:=h;obtain ⟨u,rfl,k⟩:=N5 r;cases k;have j:=I.ok.hd l;rcases d with d | d
 ·obtain ⟨a,b,pl,hz⟩:=I.list d;have c:p<s.heap.objs.size:=by
   obtain ⟨o,e,_⟩:=pl.isList;exact HX e
  have f:a.toArray.size=ns.length:=by rw [Ib,<- b.length,Hy]
  exact call_sum_walkAnyS (wpAny_pyIter_list pl.isList ⟨s.heap.objs.size,[s.heap.objs.size,p],[s.heap.objs.size],_,a.toArray.size,_,_,λi=>ns.getD i 0,rfl,(Walks.list (A:=X.A.in1) (j) _ _ (Ig c) a.toArray).toS,⟨⟨_,Ih _ rfl,rfl,rfl⟩,pl.isList.push _⟩,sF c,eI b,λs' t' m=>il I q f m⟩)
 ·obtain ⟨a,b,⟨o,e,g,n,hd⟩,hz⟩:=I.tuple d;have pl:s.heap.IsTuple p a.toArray:=⟨o,e,g,n,hd⟩;have c:=HX e;have f:a.toArray.size=ns.length:=by rw [Ib,<- b.length,Hy]
  exact call_sum_walkAnyS (JT pl ⟨s.heap.objs.size,[s.heap.objs.size,p],[s.heap.objs.size],_,a.toArray.size,_,_,λi=>ns.getD i 0,rfl,(Walks.tuple (A:=X.A.in1) (j) _ _ (Ig c) a.toArray).toS,⟨⟨_,Ih _ rfl,rfl,rfl⟩,pl.push _⟩,sF c,eI b,λs' t' m=>il I q f m⟩)
def eT (d:D):M D:=bind (N9 d) λds=>match v3 ds with
 | some ns=>ret (.int (N3 ns))
 | none=>bad
theorem CI (g:X.calm=true):j6 X (.builtin "sum") (rPs X.K cl xe (one eT)):=U5 λpins s σ H μ S d v us Q I r h b p=>by
 obtain ⟨a,xs,ds,rfl,i,f,c⟩:=ff h b p.bind;have p:=p.ok_bind c;cases e:v3 ds with
 | none=>rw [e] at p;exact p.elim
 | some ns=>
  rw [e] at p;have:=aE e f;subst this;exact fK g pins s σ H _ us Q I r ⟨a,ns,rfl,i,p μ H (Lat.refl _ _) b _ (.int _)⟩
end
def countT (x:D) (ds:List D):M D:=match x,ds with
 | .tup es,[.str w]=>(match B3 es with
  | some ys=>ret (.int (countIn (.str w) (ys.map PyData.str)))
  | none=>bad)
 | _,_=>bad
section
variable {X:Cx} {cl:Nat->Addr} {xe:Addr->Hp->Prop}
theorem bu:Looks X.K cl xe "tuple" tupOf:=λμ S H x v G rx rp p=>by
 cases rx with
 | tup h0 r0=>
  refine ⟨?_,_,rfl⟩;rcases h0 with ⟨q,_,_⟩ | ⟨o,its,n,c1,c2,c3,c4,c5,c6⟩
  ·exact .inr (.inr (.inr (.inr ⟨rfl,_,q⟩)))
  ·exact .inr (.inl ⟨rfl,o,c1,c2,c6⟩)
 | _=>exact False.elim p
theorem mL:MtR X "tuple.count" (λx vs H Q=>∃ (p:Addr) (ys:List Str) (w:Str),x=.ref p/\vs=[.str w]/\SqT X.K H p (ys.map V.str)/\Q (.int (countIn (.str w) (ys.map PyData.str))) H):=by
 intro pins s σ H x vs v us Q I e j h;obtain ⟨p,ys,w,rfl,rfl,l,q⟩:=h;cases e;obtain ⟨u,rfl,o⟩:=j.one;obtain ⟨t,rfl⟩:=o;obtain ⟨a,d,⟨⟨f,g,c,i⟩,b,k,n,hd⟩,hz⟩:=I.tuple l;subst k hd;refine JA JK ⟨_,b,rfl⟩ Li (Lg _ _) (Lj p a.toArray n g i (.str w t) (isStrOf w)) ⟨b,λy m=>(eq_isStrOf w t (V0 d) y (by simpa using m)).at _ _,?_⟩;rw [show a.toArray.toList=a from rfl,countP_isStrOf_map w (V0 d)];exact ⟨.int _,H,I.tok _,⟨_,rfl⟩,q⟩
theorem eH:uF X.K cl xe (λx vs H Q=>∃ (p:Addr) (ys:List Str) (w:Str),x=.ref p/\vs=[.str w]/\SqT X.K H p (ys.map V.str)/\Q (.int (countIn (.str w) (ys.map PyData.str))) H) countT:=λμ S H x v ds vs Q rx rvs rp p=>by
 unfold countT at p;split at p
 ·rename_i es w;cases rx with
  | tup h0 r0=>
   cases rvs with
   | cons h t=>
    cases t;cases h;cases q:B3 es with
    | none=>rw [q] at p;exact p.elim
    | some ys=>
     rw [q] at p;have ex:=jE q r0;subst ex;exact ⟨_,ys,w,rfl,rfl,h0.sq,p μ H (Lat.refl _ _) rp _ (.int _)⟩
 ·exact p.elim
end
def CXr (P:Program) (w:World) (K:PySem.W.Frag):List PySem.Env->Hp->Shared->XK->Value->Shared->Prop:=λb H s E e s'=>
 ∃ a C d c H',e=.ref a/\s'.os=s.os/\AllBare s'.gens/\Un (frs b) [] H H' s.heap s'.heap/\HOk P w H' s'.heap/\Fx K H' a C d c/\E e none H'
abbrev CXd (P:Program) (w:World) (K:PySem.W.Frag):CXT:=⟨CXr P w K,false⟩
section
variable {K:PySem.W.Frag} {cl:Nat->Addr} {xe xe':Addr->Hp->Prop} {α β:Type} {μ:Mp} {H H':Hp} {S:Sto} {a C:Addr} {d tb:Option Addr} {P:Program} {w:World} {h:Heap}
theorem Post.ximp {G:α->Sto->Mp->Hp->Prop} (p:Post K cl xe μ H r G) (k:∀ n S μ' H' a,r=.exn n S->Lat μ H μ' H'->Rep K cl μ' S H'->μ'.pl[n]?=some a->xe a H'->xe' a H'):Post K cl xe' μ H r G:=by
 cases r with
 | ok a S=>exact p
 | exn n S=>exact λμ' H' a l r e=>k n S μ' H' a rfl l r e (p μ' H' a l r e)
 | bad=>exact p
def nx (m:M α):M α:=λS=>match m S with
 | .exn _ _=>.bad
 | r=>r
theorem Post.nx {G:α->Sto->Mp->Hp->Prop} (p:Post K cl xe μ H (nx m S) G):Post K cl xe' μ H (m S) G:=by
 unfold L3.nx at p;cases e:m S with
 | ok a S1=>rw [e] at p;exact p
 | exn n S1=>rw [e] at p;exact p.elim
 | bad=>rw [e] at p;exact p
theorem oh (f:HOk P w H h) (o:OAt K cl μ H a (.exc c fs)) (e:H a=some (M9 tb a C d)) (j:∀ T,tb=some T->T≠a/\H T=some (TbO T)):C=cl c/\Fx K H a C d tb:=by
 obtain ⟨k,gs,q,p,o⟩:=o;obtain ⟨vs,l,_⟩:=(f a _ e).1;rcases o with ⟨z,g⟩ | ⟨d',n,r,g,m⟩
 ·obtain ⟨i,b,_⟩:=(f a _ g).1;rw [l] at b;cases b;exact ⟨rfl,k,e,λd' z=>(nomatch z),j⟩
 ·obtain ⟨i,b,_⟩:=(f a _ g).1;rw [l] at b;cases b;exact ⟨rfl,k,e,λs z=>by cases z;exact ⟨n,gs,m⟩,j⟩
theorem Rep.mv {n:Nat} (r:Rep K cl μ S H) (hk:HOk P w H h) (e:μ.pl[n]?=some a) (fx:H a=some (M9 tb a C d)) (m:Mv H a C d H'):Lat μ H μ H'/\Rep K cl μ S H':=by
 have am:=Io e;have l:Lat μ H μ H':=⟨λ_ _ h=>h,λb o q nb=>m.1 b o (λz=>nb (z▸am)) q,λ_ h=>.inl h,rfl⟩;refine ⟨l,r.len,r.nd,λi o b e1 e2=>?_,λb mb=>let ⟨h1,u,h2⟩:=r.res b mb;⟨h1,u,l.oth _ _ h2 h1⟩⟩;have ho:=r.ats i o b e1 e2;by_cases hb:b=a
 ·subst hb;cases o with
  | lst ds=>obtain ⟨xs,q,_⟩:=ho;rw [fx] at q;simp [M9] at q
  | dct kvs=>obtain ⟨xs,q,_⟩:=ho;rw [fx] at q;simp [M9] at q
  | exc c fs=>
   obtain ⟨xc,gs,q,fr,o⟩:=ho;obtain ⟨tb',m2⟩:=m.2;obtain ⟨vs,q1,_⟩:=(hk b _ fx).1;rcases o with ⟨z,e2⟩ | ⟨d',h1,h2,e2,e3⟩
   ·obtain ⟨vs2,q2,_⟩:=(hk b _ e2).1;rw [q1] at q2;cases q2;exact ⟨xc,gs,Paired.mono (λ_ _ ⟨z,w⟩=>⟨z,w.later l⟩) q,tb',.inl ⟨z,m2⟩⟩
   ·obtain ⟨vs2,q2,_⟩:=(hk b _ e2).1;rw [q1] at q2;cases q2;exact ⟨xc,gs,Paired.mono (λ_ _ ⟨z,w⟩=>⟨z,w.later l⟩) q,tb',.inr ⟨d',h1,h2,m2,m.1 d' _ h1 e3⟩⟩
 ·obtain ⟨u,q⟩:=ho.some;exact ho.later l (by rw [q];exact m.1 b u hb q)
end
def xOf (X:Cx) (a:Addr) (H:Hp):Prop:=∀ (pins:List (Addr×Obj)) (σ:L2.St) (s:Shared) (C:Addr) (d b:Option Addr),L2.Inv X pins σ H s->Fx X.K H a C d b->X.xe (.ref a) s
def xL (X:Cx) (pins:List (Addr×Obj)) (σ:L2.St) (F:Addr->Hp->Prop) (c:Value) (s:Shared):Prop:=∃ a H C d b,c=.ref a/\L2.Inv X pins σ H s/\Fx X.K H a C d b/\F a H
def PX (X:Cx) (cl:Nat->Addr) (e:Expr) (f:Env->M D):Prop:=∀ (pins:List (Addr×Obj)) (s:Shared) (σ:L2.St) (H:Hp) (Q:VK) (F:Addr->Hp->Prop),L2.Inv X pins σ H s->tD X.K cl F f σ H Q ->
 wpAny (model X.prog X.w) X.A (eval e X.env) (EP X pins σ Q) (xL X pins σ F) s
def spX (K:PySem.W.Frag) (cl:Nat->Addr) (n:Nat) (a:List D->M D):Sp:=λvs H Q E=>vs.length=n/\∃ μ S ds,RDs K μ H ds vs/\Rep K cl μ S H/\Post K cl (iW E) μ H (a ds S) λd _ μ' H'=>∀ v,RD K μ' H' d v->Q v H'
section
variable {X:Cx} {cl:Nat->Addr} {e:Expr} {es:List Expr} {f:Env->M D} {pos p:Pos}
theorem PX.of (h:PE X.nox e (tD X.K cl x0 f)):PX X cl e λρ=>nx (f ρ):=λpins s σ H Q F I ⟨μ,S,ρ,a,b,p⟩=>
 IJ (h pins s σ H Q (I.wish _) ⟨μ,S,ρ,a,b,p.nx⟩) (λ_ _ ⟨v,H',c,r,q⟩=>⟨v,H',c.unwish,r,q⟩) λ_ _ z=>False.elim z
theorem vr {k n:Nat} {a:Addr} {fd:FuncData} {ps:List Str} {x:Str} {fs:Env->M (List D)} {run:List D->M D} (hn:ps.length=n) (F:FnOk X.prog X.w X.K X.mg X.base (CXd X.prog X.w X.K) k a fd ps (spX X.K cl n run)) (hr:Room false k X.A) (hg:Gl X x) (hm:X.mg x=some (.ref a)) (hk:PySem.W.keepIn X.K (.ref a)=true) (hb:Binds X.K fd ps [])
  (ha:PA X.nox (e :: es) (tDs X.K cl x0 fs)) (hdb:(x==("__debug__" : Str))=false) (hs:(e :: es).all noStar=true) :
  PX X cl (.Call (.Name x p) (e :: es) [] pos) λρ=>bind (nx (fs ρ)) λds=>if ds.length=n then run ds else bad:=by
 rw [IQ,HS] at hs;intro pins s σ H Q F0 I ⟨μ,S,ρ,eo,rp,p⟩;refine Ja (G3 I hg hm ?_ hdb);refine Kr I.ok.mod.kin hk (IJ (ha pos pins s σ H (λvs H1=>∃ μ1 S1 ds,RDs X.K μ1 H1 ds vs/\Rep X.K cl μ1 S1 H1/\Post X.K cl F0 μ1 H1 ((if ds.length=n then run ds else bad) S1) λd _ μ' H'=>∀ v,RD X.K μ' H' d v->Q v H') (I.wish _) ⟨μ,S,ρ,eo,rp,p.bind.nx.imp λds S1 μ1 H1 l1 r1 p1 vs rvs=>⟨μ1,S1,ds,rvs,r1,p1⟩⟩)
  (λus s1 ⟨vs,H1,I1,r,μ1,S1,ds,rvs,r1,p1⟩=>⟨I1.unwish.kIn,?_⟩) λ_ _ z=>False.elim z) (d8 hs.1) (j1 hs.2)
 have I1:=I1.unwish;by_cases hd:ds.length=n
 ·rw [if_pos hd] at p1;have hl:us.length=ps.length:=by rw [<- r.length,<- rvs.length,hd,hn]
  have hb2:=hb s1 us I1.kIn (by rw [IF];exact hl);rw [IF] at hb2;refine Kq (JY (F.run X.A X.stack s1 H1 ⟨us,[]⟩ us vs Q (λev _ H=>∀ a,ev=.ref a->F0 a H) hr I1.env0 hb2 r ⟨by rw [<- rvs.length];exact hd,μ1,S1,ds,rvs,r1,p1.ximp λ_ _ _ _ a _ _ _ _ h a' z=>by cases z;exact h⟩) λres s' hq=>?_);cases res with
  | error ev=>
   obtain ⟨a',C,d,tb,H',he,os,bare,un,hok,fx,q⟩:=hq;exact ⟨a',H',C,d,tb,he,I1.call' os un hok bare (λb z=>absurd z (by simp)),fx,q a' he⟩
  | ok fl=>
   cases fl with
   | ret u=>exact I1.after hq
   | next=>exact False.elim hq
   | brk=>exact False.elim hq
   | cont=>exact False.elim hq
 ·rw [if_neg hd] at p1;exact p1.elim
def D8 (d:D):M Fl:=match d with
 | .ref n=>λS=>match S[n]? with
  | some (.exc _ _)=>.exn n S
  | _=>.bad
 | _=>bad
theorem nq (hc:X.calm=true) (h:PE X e (tDf X.K cl (xOf X) f)):PS X (.Raise (some e) none pos) (sD X.K cl (xOf X) λρ=>bind (f ρ) D8):=by
 intro pins s σ H D I ⟨μ,S,ρ,eo,rp,p⟩;refine Hz (Kk (ck (K:=X.K) (I.ok.hd hc) (Hz (IJ (h pins s σ H (λv H1=>∃ (x C:Addr) (d:Option Addr) (μ1:Mp) (S1:Sto) (n c:Nat) (fs:List (Str×L3.D)),v=.ref x/\XC X.K C/\H1 x=some (O4 x C d)/\Rep X.K cl μ1 S1 H1/\S1[n]?=some (O.exc c fs)/\μ1.pl[n]?=some x/\xOf X x H1) I ⟨μ,S,ρ,eo,rp,p.bind.imp λd S1 μ1 H1 l1 r1 p1 v rv fr=>?_⟩)
  (λu s1 ⟨v,H1,I1,ru,x,C,d,μ1,S1,n,c,fs,ev,xc,ex,r1,e1,e2,xo⟩=>Hz (Kk (HQ ?_))) λ_ _ z=>z))))
 ·cases rv with
  | ref hp=>
   rename_i n a;obtain ⟨x,C,d,ev,xc,ex⟩:=fr;cases ev;simp only [D8] at p1;cases q:S1[n]? with
   | none=>rw [q] at p1;exact p1.elim
   | some o=>
    rw [q] at p1;cases o with
    | exc c fs=>exact ⟨_,C,d,μ1,S1,n,c,fs,rfl,xc,ex,r1,q,hp,p1 μ1 H1 _ (Lat.refl _ _) r1 hp⟩
    | lst _=>exact p1.elim
    | dct _=>exact p1.elim
  | _=>exact False.elim p1
 ·subst ev;obtain rfl:u=Value.ref x:=ru;have fx:=(oh I1.hok (r1.ats n _ x e1 e2) ex λT z=>(nomatch z)).2;exact ⟨x,C,d,rfl,I1.kIn,xc,I1.isX ex,xo pins σ s1 C d none I1 fx⟩
end
section
variable {K:PySem.W.Frag} {cl:Nat->Addr} {xe xe':Addr->Hp->Prop} {α:Type} {μ:Mp} {H:Hp}
theorem Post.up {G:α->Sto->Mp->Hp->Prop} (p:Post K cl xe μ H r G) (k:∀ a H',xe a H'->xe' a H'):Post K cl xe' μ H r G:=p.ximp λ_ _ _ H' a _ _ _ _ h=>k a H' h
theorem Post.x0 {G:α->Sto->Mp->Hp->Prop} (p:Post K cl (iW E0) μ H r G):Post K cl xe μ H r G:=p.up λ_ _ z=>False.elim z
end
abbrev x0:Addr->Hp->Prop:=iW E0
section
variable {X:Cx} {cl:Nat->Addr} {xe:Addr->Hp->Prop} {e tg:Expr} {es:List Expr}
theorem PE.x0 (h:PE X e (tD X.K cl xe f)):PE X e (tD X.K cl x0 f):=PE.imp h λσ H Q ⟨μ,S,ρ,a,b,p⟩=>⟨μ,S,ρ,a,b,p.x0⟩
theorem PTL.x0 (h:PTL X es (tBo X.K cl xe f)):PTL X es (tBo X.K cl x0 f):=λpins s σ H Q I ⟨μ,S,ρ,a,b,p⟩=>h pins s σ H Q I ⟨μ,S,ρ,a,b,p.x0⟩
theorem PA.x0 (h:PA X es (tDs X.K cl xe f)):PA X es (tDs X.K cl x0 f):=PA.imp h λσ H Q ⟨μ,S,ρ,a,b,p⟩=>⟨μ,S,ρ,a,b,p.x0⟩
theorem PI.x0 (h:PI X tg e (tIt X.K cl xe f)):PI X tg e (tIt X.K cl x0 f):=PI.imp h λσ H Q ⟨μ,S,ρ,a,b,p⟩=>⟨μ,S,ρ,a,b,p.x0⟩
theorem PSs.x0 (h:PSs X sts (sD X.K cl xe f)):PSs X sts (sD X.K cl x0 f):=PSs.imp h λD σ H ⟨μ,S,ρ,a,b,p⟩=>⟨μ,S,ρ,a,b,p.x0⟩
theorem jT (h:PE X e (qJ X.K cl x0 fs)):PE X e (tD X.K cl xe λρ=>bind (nx (fs ρ)) λds=>ret (.lst ds)):=PE.imp h λσ H Q ⟨μ,S,ρ,f,j,p⟩=>
 ⟨μ,S,ρ,f,j,p.bind.nx.imp λds S1 b d l g i c ys k a=>i.ret b d (Lat.refl _ _) g _ (.lst k a)⟩
theorem xa:z0 (CXd X.prog X.w X.K) X (λl _ H=>∀ a,l=.ref a->xOf X a H):=λpins σ H s e s' I ⟨a,C,d,i,H',k,g,c,j,f,h,q⟩=>by
 subst k;exact q a rfl pins σ s' C d i (I.call' g j f c λb z=>absurd z (by simp)) h
theorem rl {a:Addr} {fd:FuncData} {ps:List Str} {x:Str} {p pos:Pos} {fs:Env->M (List D)} {b:List D->M D} (F:FnOk X.prog X.w X.K X.mg X.base (CXd X.prog X.w X.K) k a fd ps (spX X.K cl n b)) (l:Room false k X.A) (j:Gl X x) (o:X.mg x=some (.ref a)) (i:PySem.W.keepIn X.K (.ref a)=true) (t:Binds X.K fd ps [])
  (s:PA X (e :: es) (tDs X.K cl (xOf X) fs)) (g:(x==("__debug__" : Str))=false) (hs:(e :: es).all noStar=true) :
  PE X (.Call (.Name x p) (e :: es) [] pos) (tD X.K cl (xOf X) λρ=>bind (fs ρ) λds=>if ds.length=n then b ds else bad):=by
 rw [IQ,HS] at hs;exact PE.imp (jS F l j o i t .nil xa s g (d8 hs.1) (j1 hs.2)) λσ H Q ⟨μ,S,ρ,m,r,p⟩=>
  ⟨μ,S,ρ,m,r,p.bind.imp λds S1 f u w q d vs c=>by
   by_cases hd:ds.length=n
   ·rw [if_pos hd] at d;exact ⟨by rw [IF,<- c.length];exact hd,f,S1,ds,by rw [IF];exact c,q,d.up λa H' h v z=>by cases z;exact h⟩
   ·rw [if_neg hd] at d;exact d.elim⟩
theorem lp {b:List D->M D} (F:FnOk X.prog X.w X.K X.mg X.base (CXd X.prog X.w X.K) k a fd ps (spX X.K cl 0 b)) (f:Room false k X.A) (e:Gl X x) (g:X.mg x=some (.ref a)) (d:PySem.W.keepIn X.K (.ref a)=true) (j:Binds X.K fd ps [])
  (c:(x==("__debug__" : Str))=false):PE X (.Call (.Name x p) [] [] pos) (tD X.K cl (xOf X) λρ=>b []):=PE.imp (nS F f e g d j .nil xa c) λσ H Q ⟨μ,S,ρ,l,i,p⟩=>⟨rfl,μ,S,[],.nil,i,p.up λa H' h m z=>by cases z;exact h⟩
end
inductive G where
 | val (d:D) | fn (i n:Nat) | err (c:Nat) (fs:List Str) | dct (kvs:List (Str×D))
structure Gm where
 gl:List (Str×G)
 sub:Nat->Nat->Bool
 flds:List Str
 qs:List Nat:=[]
structure Lc where
 N:List Str
 sc:Scope
 fr:Bool
 mu:List Str
def quiet (a:Lc):Bool:=a.mu.contains ("~" : Str)
structure Ev where
 e:Lc->Expr->Env->M D
 t:Lc->Expr->Env->M Bool
 s:Lc->Stmt->Env->M Fl
 i:Lc->Expr->Expr->Env->M (Src×Nat)
structure EvK where
 e:Lc->Expr->Env->∀ {α:Type},(D->M α)->M α
 t:Lc->Expr->Env->∀ {α:Type},(Bool->M α)->M α
 s:Lc->Stmt->Env->∀ {α:Type},(Fl->M α)->M α
 i:Lc->Expr->Expr->Env->∀ {α:Type},(Src×Nat->M α)->M α
structure EqK (r:Ev) (q:EvK):Prop where
 e:∀ lc e ρ {α:Type} (k:D->M α),q.e lc e ρ k=bind (r.e lc e ρ) k
 t:∀ lc e ρ {α:Type} (k:Bool->M α),q.t lc e ρ k=bind (r.t lc e ρ) k
 s:∀ lc e ρ {α:Type} (k:Fl->M α),q.s lc e ρ k=bind (r.s lc e ρ) k
 i:∀ lc g e ρ {α:Type} (k:Src×Nat->M α),q.i lc g e ρ k=bind (r.i lc g e ρ) k
theorem al (k:α->M β):bind bad k=bad:=rfl
theorem u0 {c:Prop} [Decidable c] (a b:M α) (k:α->M β):bind (if c then a else b) k=if c then bind a k else bind b k:=by split <;> rfl
theorem D2 (m:M α):bind m ret=m:=by
 funext S;unfold bind ret;cases m S <;> rfl
def i6:List Str->Str->Option Nat
 | [],_=>none
 | y :: ys,x=>if y=x then some 0 else (i6 ys x).map (· + 1)
theorem u3:∀ {N:List Str} {x:Str} {i:Nat},i6 N x=some i->N[i]?=some x
 | [],_,_,e=>by cases e
 | y :: ys,x,i,e=>by
  unfold i6 at e;split at e
  ·rename_i h;cases e;simp [h]
  ·cases q:i6 ys x with
   | none=>rw [q] at e;cases e
   | some j=>rw [q] at e;cases e;simpa using u3 q
def ow (a:Scope) (x:Str):Bool:=decide (a.names.lookup x=some .local)||decide (a.names.lookup x=some .cell)||decide (a.names.lookup x=some .free)
def bY (a:Scope) (x:Str):Bool:=decide (a.names.lookup x=some .local)||decide (a.names.lookup x=some .cell)
def glB (a:Scope) (x:Str):Bool:=decide (a.names.lookup x=some .globalImplicit)
def q4 (x:Str):Bool:=!(x==("__debug__" : Str))&&!(x==("__classdict__" : Str))&&!(x==("__name__" : Str))
theorem tw (h:ow sc x=true):Vis sc x:=by
 simpa [ow,Vis,or_assoc] using h
theorem G7 (h:bY sc x=true):L2.Loc sc x:=by
 simpa [bY,L2.Loc] using h
theorem t6 (h:q4 x=true):(x==("__debug__" : Str))=false/\(x==("__classdict__" : Str))=false/\x ≠ "__name__":=by
 simpa [q4,and_assoc] using h
structure Tx where
 P:Program
 w:World
 K:PySem.W.Frag
 mg:Str->Option Value
 base:Heap
 cl:Nat->Addr
def bnames:List Str:=["len","tuple","list","repr","isinstance","range","int","bool","str","dict","ValueError","all","any","sum","max","min","sorted","set","enumerate","abs","zip"]
abbrev CXq (q:Bool):CXT:=⟨λ_ _ _ _ _ _=>False,q⟩
theorem DM:z0 (CXq q) X E0:=λ_ _ _ _ _ _ _ h=>False.elim h
structure FnX (T:Tx) (k i n:Nat) (x:Str) (run:List D->M D):Prop where
 ex:∃ (a:Addr) (fd:FuncData) (ps:List Str),ps.length=n/\FnOk T.P T.w T.K T.mg T.base (CXd T.P T.w T.K) k a fd ps (spX T.K T.cl n run)/\T.mg x=some (.ref a)/\PySem.W.keepIn T.K (.ref a)=true/\Binds T.K fd ps []
structure FnAt (T:Tx) (k i n:Nat) (x:Str) (run:List D->M D):Prop where
 ex:∃ (a:Addr) (fd:FuncData) (ps:List Str),ps.length=n/\FnOk T.P T.w T.K T.mg T.base (CXq true) k a fd ps (spD T.K T.cl n run)/\T.mg x=some (.ref a)/\PySem.W.keepIn T.K (.ref a)=true/\Binds T.K fd ps []
structure ErrAt (T:Tx) (x:Str) (c:Nat) (fs:List Str):Prop where
 xc:XC T.K (T.cl c)
 mg_:T.mg x=some (.ref (T.cl c))
 ex:∃ (f:Addr) (fd:FuncData) (ps:List Str),PySem.W.findIn T.K (.ref (T.cl c)) "__init__" = some (some (.ref f))/\PySem.W.isFn T.K (.ref f)=true/\Binds T.K fd ps [] /\
  match fs with
  | []=>FnOk T.P T.w T.K T.mg T.base CX0 2 f fd ps (Hn.spHE T.K)
  | [g]=>FnOk T.P T.w T.K T.mg T.base CX0 2 f fd ps (Hn.sp1 T.K g)
  | [g,g2]=>FnOk T.P T.w T.K T.mg T.base CX0 2 f fd ps (Hn.sp2 T.K g g2)
  | _=>False
def nL (T:Tx) (x:Str) (b:List (Str×D)):Prop:=∃ (a:Addr) (es:Array DictEntry) (n:Nat),T.mg x=some (.ref a)/\T.K.lookup a=some ⟨.type "dict",none,.dict es n,#[]⟩/\PySem.W.KeysLit T.w.params es.toList/\∀ k d,b.lookup k=some d->∃ u v,PySem.W.nsIn T.K a k=some (some u)/\RelV v u/\∀ μ H,RD T.K μ H d v
structure TxOk (T:Tx) (Γ:Gm) (k:Nat) (C:Nat->List D->M D):Prop where
 blt:∀ x∈bnames,Γ.gl.lookup x=none->T.mg x=none
 val:∀ x d,Γ.gl.lookup x=some (.val d)->∃ u v,T.mg x=some u/\RelV v u/\∀ μ H,RD T.K μ H d v
 fn:∀ x i n,Γ.gl.lookup x=some (.fn i n)->i∉Γ.qs->FnX T k i n x (C i)
 fnq:∀ x i n,Γ.gl.lookup x=some (.fn i n)->i∈Γ.qs->FnAt T k i n x (C i)
 err:∀ x c fs,Γ.gl.lookup x=some (.err c fs)->ErrAt T x c fs/\(∀ g∈fs,v9 T.K (T.cl c) g)
 sub:∀ x c c0 fs,Γ.gl.lookup x=some (.err c0 fs)->XC T.K (T.cl c)->PySem.W.kitOne T.K (.ref (T.cl c)) (.ref (T.cl c0))=some (Γ.sub c c0)
 subV:∀ c,XC T.K (T.cl c)->PySem.W.kitOne T.K (.ref (T.cl c)) (.type "ValueError")=some true
 subT:∀ c,XC T.K (T.cl c)->∀ t∈tys,PySem.W.kitOne T.K (.ref (T.cl c)) (.type t)=some false
 fld:∀ g∈Γ.flds,∀ c,XC T.K (T.cl c)->v9 T.K (T.cl c) g
 dct:∀ x kvs,Γ.gl.lookup x=some (.dct kvs)->nL T x kvs
 k3:3<=k
structure CxOk (T:Tx) (k:Nat) (lc:Lc) (X:Cx):Prop where
 prog:X.prog=T.P
 w:X.w=T.w
 K:X.K=T.K
 mg:X.mg=T.mg
 base:X.base=T.base
 N:X.N=lc.N
 nd:lc.N.Nodup
 sc:X.env.scope=lc.sc
 calm:quiet lc=false->X.calm=true
 room:Room (quiet lc) k X.A
 po:PassesOwn (model X.prog X.w) X.A X.env X.xe
 fn:X.fn=λ_=>lc.fr
 kd:lc.sc.kind=.function
 own:lc.fr=true->quiet lc=false->X.stack=X.env :: X.outer/\X.env.frame=some X.env.locals
structure EvOk (T:Tx) (k:Nat) (r:Ev):Prop where
 e:∀ lc X,CxOk T k lc X->∀ e,PE X e (tD T.K T.cl (xOf X) (r.e lc e))
 t:∀ lc X,CxOk T k lc X->∀ e,PT X e (tBo T.K T.cl (xOf X) (r.t lc e))
 s:∀ lc X,CxOk T k lc X->lc.fr=true->∀ st,PS X st (sD T.K T.cl (xOf X) (r.s lc st))
 i:∀ lc X,CxOk T k lc X->∀ g e,PI X g e (tIt T.K T.cl (xOf X) (r.i lc g e))
section
variable {T:Tx} {k:Nat} {r:Ev} {Γ:Gm} {C:Nat->List D->M D} {lc:Lc} {X:Cx} {pos:Pos}
theorem EvOk.ex (R:EvOk T k r) (h:CxOk T k lc X) (e:Expr):PE X e (tD X.K T.cl (xOf X) (r.e lc e)):=by rw [h.K];exact R.e lc X h e
theorem EvOk.tx (R:EvOk T k r) (h:CxOk T k lc X) (e:Expr):PT X e (tBo X.K T.cl (xOf X) (r.t lc e)):=by rw [h.K];exact R.t lc X h e
theorem EvOk.ix (R:EvOk T k r) (h:CxOk T k lc X) (g e:Expr):PI X g e (tIt X.K T.cl (xOf X) (r.i lc g e)):=by rw [h.K];exact R.i lc X h g e
theorem EvOk.sx (R:EvOk T k r) (h:CxOk T k lc X) (a:lc.fr=true) (st:Stmt):PS X st (sD X.K T.cl (xOf X) (r.s lc st)):=by rw [h.K];exact R.s lc X h a st
theorem CxOk.u64 (h:CxOk T k lc X):X.A.units+64<cLine:=h.room.units
theorem CxOk.u80 (h:CxOk T k lc X):X.A.units+80<cLine:=by have:=h.room.un;omega
theorem CxOk.u1 (h:CxOk T k lc X):X.A.units+1<cLine:=Df h.room
theorem CxOk.gl (h:CxOk T k lc X) {x:Str} (a:glB lc.sc x=true):Gl X x:=by
 show X.env.kindOf x=_;unfold PySem.Env.kindOf;rw [h.sc];exact Iu a
theorem TxOk.none (a:TxOk T Γ k C) (h:CxOk T k lc X) {x:Str} (b:x∈bnames) (e:Γ.gl.lookup x=none):X.mg x=none:=by rw [h.mg];exact a.blt x b e
theorem CxOk.nd' (h:CxOk T k lc X):X.N.Nodup:=by rw [h.N];exact h.nd
theorem CxOk.fn1 (h:CxOk T k lc X) (a:lc.fr=true) {x:Str}:X.fn x=true:=by rw [h.fn];exact a
theorem CxOk.room0 (h:CxOk T k lc X) (a:quiet lc=false):Room false k X.A:=by have:=h.room;rw [a] at this;exact this
theorem CxOk.nox (h:CxOk T k lc X):CxOk T k lc X.nox:=⟨h.prog,h.w,h.K,h.mg,h.base,h.N,h.nd,h.sc,h.calm,h.room,PassesOwn.never,h.fn,h.kd,h.own⟩
end
abbrev Cf:=Nat->List D->M D
structure RuE:Type 1 where
 is:Gm->Lc->Expr->Bool
 run:Ev->Gm->Cf->Lc->Expr->Env->M D
 ok:∀ {T:Tx} {k:Nat} {r:Ev} {Γ:Gm} {C:Cf} {lc:Lc} {X:Cx} (e:Expr),EvOk T k r->TxOk T Γ k C->CxOk T k lc X->is Γ lc e=true->PE X e (tD X.K T.cl (xOf X) (run r Γ C lc e))
 runK:EvK->Gm->Cf->Lc->Expr->Env->∀ {α:Type},(D->M α)->M α
 eq:∀ {r:Ev} {q:EvK} {Γ:Gm} {C:Cf} {lc:Lc} (e:Expr) (ρ:Env) {α:Type} (k:D->M α),EqK r q->runK q Γ C lc e ρ k=bind (run r Γ C lc e ρ) k
structure RuT:Type 1 where
 is:Gm->Lc->Expr->Bool
 run:Ev->Gm->Cf->Lc->Expr->Env->M Bool
 ok:∀ {T:Tx} {k:Nat} {r:Ev} {Γ:Gm} {C:Cf} {lc:Lc} {X:Cx} (e:Expr),EvOk T k r->TxOk T Γ k C->CxOk T k lc X->is Γ lc e=true->PT X e (tBo X.K T.cl (xOf X) (run r Γ C lc e))
 runK:EvK->Gm->Cf->Lc->Expr->Env->∀ {α:Type},(Bool->M α)->M α
 eq:∀ {r:Ev} {q:EvK} {Γ:Gm} {C:Cf} {lc:Lc} (e:Expr) (ρ:Env) {α:Type} (k:Bool->M α),EqK r q->runK q Γ C lc e ρ k=bind (run r Γ C lc e ρ) k
structure RuS:Type 1 where
 is:Gm->Lc->Stmt->Bool
 run:Ev->Gm->Cf->Lc->Stmt->Env->M Fl
 ok:∀ {T:Tx} {k:Nat} {r:Ev} {Γ:Gm} {C:Cf} {lc:Lc} {X:Cx} (e:Stmt),EvOk T k r->TxOk T Γ k C->CxOk T k lc X->lc.fr=true->is Γ lc e=true->PS X e (sD X.K T.cl (xOf X) (run r Γ C lc e))
 runK:EvK->Gm->Cf->Lc->Stmt->Env->∀ {α:Type},(Fl->M α)->M α
 eq:∀ {r:Ev} {q:EvK} {Γ:Gm} {C:Cf} {lc:Lc} (e:Stmt) (ρ:Env) {α:Type} (k:Fl->M α),EqK r q->runK q Γ C lc e ρ k=bind (run r Γ C lc e ρ) k
structure RuI:Type 1 where
 is:Gm->Lc->Expr->Expr->Bool
 run:Ev->Gm->Cf->Lc->Expr->Env->M (Src×Nat)
 ok:∀ {T:Tx} {k:Nat} {r:Ev} {Γ:Gm} {C:Cf} {lc:Lc} {X:Cx} (g e:Expr),EvOk T k r->TxOk T Γ k C->CxOk T k lc X->is Γ lc g e=true->PI X g e (tIt X.K T.cl (xOf X) (run r Γ C lc e))
 runK:EvK->Gm->Cf->Lc->Expr->Env->∀ {α:Type},(Src×Nat->M α)->M α
 eq:∀ {r:Ev} {q:EvK} {Γ:Gm} {C:Cf} {lc:Lc} (e:Expr) (ρ:Env) {α:Type} (k:Src×Nat->M α),EqK r q->runK q Γ C lc e ρ k=bind (run r Γ C lc e ρ) k
structure Rules:Type 1 where
 es:List RuE
 ts:List RuT
 ss:List RuS
 is:List RuI
section
variable (Rs:Rules) (Γ:Gm) (C:Cf)
def step (r:Ev):Ev:=
 ⟨λa e=>match Rs.es.find? (λR=>R.is Γ a e) with
  | some R=>R.run r Γ C a e
  | none=>λ_=>bad,
 λa e=>match Rs.ts.find? (λR=>R.is Γ a e) with
  | some R=>R.run r Γ C a e
  | none=>λ_=>bad,
 λa e=>match Rs.ss.find? (λR=>R.is Γ a e) with
  | some R=>R.run r Γ C a e
  | none=>λ_=>bad,
 λa g e=>match Rs.is.find? (λR=>R.is Γ a g e) with
  | some R=>R.run r Γ C a e
  | none=>λ_=>bad⟩
def badEv:Ev:=⟨λ_ _ _=>bad,λ_ _ _=>bad,λ_ _ _=>bad,λ_ _ _ _=>bad⟩
def ev:Nat->Ev
 | 0=>badEv
 | n+1=>step Rs Γ C (ev n)
def xG (q:EvK):EvK:=
 ⟨λa e ρ _ k=>match Rs.es.find? (λR=>R.is Γ a e) with
  | some R=>R.runK q Γ C a e ρ k
  | none=>bad,
 λa e ρ _ k=>match Rs.ts.find? (λR=>R.is Γ a e) with
  | some R=>R.runK q Γ C a e ρ k
  | none=>bad,
 λa e ρ _ k=>match Rs.ss.find? (λR=>R.is Γ a e) with
  | some R=>R.runK q Γ C a e ρ k
  | none=>bad,
 λa g e ρ _ k=>match Rs.is.find? (λR=>R.is Γ a g e) with
  | some R=>R.runK q Γ C a e ρ k
  | none=>bad⟩
def Gr:EvK:=⟨λ_ _ _ _ _=>bad,λ_ _ _ _ _=>bad,λ_ _ _ _ _=>bad,λ_ _ _ _ _ _=>bad⟩
def evK:Nat->EvK
 | 0=>Gr
 | n+1=>xG Rs Γ C (evK n)
end
section
variable {Rs:Rules} {T:Tx} {k:Nat} {r:Ev} {q:EvK} {Γ:Gm} {C:Cf} {lc:Lc} {X:Cx}
theorem step_ok (d:TxOk T Γ k C) (R:EvOk T k r):EvOk T k (step Rs Γ C r):=by
 refine ⟨λa X h e=>?_,λa X h e=>?_,λa X h c e=>?_,λa X h g e=>?_⟩
 ·rw [<- h.K];show PE X e (tD X.K T.cl (xOf X) (match Rs.es.find? (λR=>R.is Γ a e) with
   | some R=>R.run r Γ C a e
   | none=>λ_=>bad))
  cases c:Rs.es.find? (λR=>R.is Γ a e) with
  | none=>exact f8
  | some b=>exact b.ok e R d h (by have:=KR c;exact this)
 ·rw [<- h.K];show PT X e (tBo X.K T.cl (xOf X) (match Rs.ts.find? (λR=>R.is Γ a e) with
   | some R=>R.run r Γ C a e
   | none=>λ_=>bad))
  cases c:Rs.ts.find? (λR=>R.is Γ a e) with
  | none=>exact iK
  | some b=>exact b.ok e R d h (by have:=KR c;exact this)
 ·rw [<- h.K];show PS X e (sD X.K T.cl (xOf X) (match Rs.ss.find? (λR=>R.is Γ a e) with
   | some R=>R.run r Γ C a e
   | none=>λ_=>bad))
  cases f:Rs.ss.find? (λR=>R.is Γ a e) with
  | none=>exact P2
  | some b=>exact b.ok e R d h c (by have:=KR f;exact this)
 ·rw [<- h.K];show PI X g e (tIt X.K T.cl (xOf X) (match Rs.is.find? (λR=>R.is Γ a g e) with
   | some R=>R.run r Γ C a e
   | none=>λ_=>bad))
  cases c:Rs.is.find? (λR=>R.is Γ a g e) with
  | none=>exact jY
  | some b=>exact b.ok g e R d h (by have:=KR c;exact this)
theorem qE:EvOk T k badEv:=⟨λa X h e=>by rw [<- h.K];exact f8,λa X h e=>by rw [<- h.K];exact iK,λa X h _ st=>by rw [<- h.K];exact P2,λa X h g e=>by rw [<- h.K];exact jY⟩
theorem rN (a:TxOk T Γ k C):∀ n,EvOk T k (ev Rs Γ C n)
 | 0=>qE
 | n+1=>step_ok a (rN a n)
theorem wQ (h:EqK r q):EqK (step Rs Γ C r) (xG Rs Γ C q):=by
 refine ⟨λa e ρ _ k=>?_,λa e ρ _ k=>?_,λa e ρ _ k=>?_,λa g e ρ _ k=>?_⟩
 ·show (match Rs.es.find? (λR=>R.is Γ a e) with
   | some R=>R.runK q Γ C a e ρ k
   | none=>bad)=bind ((match Rs.es.find? (λ(R:RuE)=>R.is Γ a e) with
   | some R=>R.run r Γ C a e
   | none=>λ_=>bad) ρ) k
  cases Rs.es.find? (λR=>R.is Γ a e) with
  | none=>rfl
  | some b=>exact b.eq e ρ k h
 ·show (match Rs.ts.find? (λR=>R.is Γ a e) with
   | some R=>R.runK q Γ C a e ρ k
   | none=>bad)=bind ((match Rs.ts.find? (λ(R:RuT)=>R.is Γ a e) with
   | some R=>R.run r Γ C a e
   | none=>λ_=>bad) ρ) k
  cases Rs.ts.find? (λR=>R.is Γ a e) with
  | none=>rfl
  | some b=>exact b.eq e ρ k h
 ·show (match Rs.ss.find? (λR=>R.is Γ a e) with
   | some R=>R.runK q Γ C a e ρ k
   | none=>bad)=bind ((match Rs.ss.find? (λ(R:RuS)=>R.is Γ a e) with
   | some R=>R.run r Γ C a e
   | none=>λ_=>bad) ρ) k
  cases Rs.ss.find? (λR=>R.is Γ a e) with
  | none=>rfl
  | some b=>exact b.eq e ρ k h
 ·show (match Rs.is.find? (λR=>R.is Γ a g e) with
   | some R=>R.runK q Γ C a e ρ k
   | none=>bad)=bind ((match Rs.is.find? (λ(R:RuI)=>R.is Γ a g e) with
   | some R=>R.run r Γ C a e
   | none=>λ_=>bad) ρ) k
  cases Rs.is.find? (λR=>R.is Γ a g e) with
  | none=>rfl
  | some b=>exact b.eq e ρ k h
theorem yD:∀ n,EqK (ev Rs Γ C n) (evK Rs Γ C n)
 | 0=>⟨λ_ _ _ _ _=>rfl,λ_ _ _ _ _=>rfl,λ_ _ _ _ _=>rfl,λ_ _ _ _ _ _=>rfl⟩
 | n+1=>wQ (yD n)
end
section
variable (r:Ev) (q:EvK) (lc:Lc)
def v5:List Expr->Env->M (List D)
 | [],_=>ret []
 | e :: es,ρ=>bind (r.e lc e ρ) λd=>bind (v5 es ρ) λds=>ret (d :: ds)
def A1 {a:Type}:List Expr->Env->(List D->M a)->M a
 | [],_,k=>k []
 | e :: es,ρ,k=>q.e lc e ρ λd=>A1 es ρ λds=>k (d :: ds)
def P1:List Stmt->Env->M Fl
 | [],ρ=>ret (.nx ρ)
 | st :: a,ρ=>DK (r.s lc st) (P1 a) ρ
def i7 {d:Type}:List Stmt->Env->(Fl->M d)->M d
 | [],ρ,k=>k (.nx ρ)
 | st :: a,ρ,k=>q.s lc st ρ λb=>match b with
  | .nx c=>i7 a c k
  | b=>k b
end
section
variable {T:Tx} {k:Nat} {r:Ev} {q:EvK} {Γ:Gm} {C:Cf} {lc:Lc} {X:Cx} {pos:Pos}
theorem o3 (h:EqK r q):∀ (es:List Expr) (ρ:Env) {a:Type} (k:List D->M a),A1 q lc es ρ k=bind (v5 r lc es ρ) k
 | [],_,_,_=>rfl
 | e :: es,ρ,_,k=>by
  show q.e lc e ρ (λd=>A1 q lc es ρ λds=>k (d :: ds))=bind (bind (r.e lc e ρ) λd=>bind (v5 r lc es ρ) λds=>ret (d :: ds)) k;rw [h.e,bind_assoc];congr;funext d;rw [o3 h,bind_assoc];rfl
theorem U2 (h:EqK r q):∀ (sts:List Stmt) (ρ:Env) {α:Type} (k:Fl->M α),i7 q lc sts ρ k=bind (P1 r lc sts ρ) k
 | [],_,_,_=>rfl
 | st :: sts,ρ,_,k=>by
  show (q.s lc st ρ λfl=>match fl with
   | .nx ρ'=>i7 q lc sts ρ' k
   | fl=>k fl)=bind (bind (r.s lc st ρ) λfl=>match fl with
   | .nx ρ'=>P1 r lc sts ρ'
   | fl=>ret fl) k
  rw [h.s,bind_assoc];congr;funext fl;cases fl with
  | nx ρ'=>exact U2 h sts ρ' k
  | bk ρ'=>rfl
  | ct ρ'=>rfl
  | rt d=>rfl
theorem o8 (R:EvOk T k r) (h:CxOk T k lc X):∀ {es:List Expr},es.all noStar=true->PA X es (tDs X.K T.cl (xOf X) (v5 r lc es))
 | [],_=>tT
 | e :: es,hs=>by
  rw [IQ,HS] at hs;exact nI (R.ex h e) (o8 R h hs.2) hs.1
theorem K3 (R:EvOk T k r) (h:CxOk T k lc X) (b:lc.fr=true):∀ {a:List Stmt},PSs X a (sD X.K T.cl (xOf X) (P1 r lc a))
 | []=>oz
 | st :: a=>uI (R.sx h b st) (K3 R h b)
end
def AX (c:Const):M D:=match c with
 | .int i=>ret (.int i)
 | .bool b=>ret (.bl b)
 | .none=>ret .non
 | .str x=>ret (.str x)
 | _=>bad
def ze {a:Type} (c:Const) (k:D->M a):M a:=match c with
 | .int i=>k (.int i)
 | .bool b=>k (.bl b)
 | .none=>k .non
 | .str x=>k (.str x)
 | _=>bad
def Az:RuE where
 is _ _ e:=match e with
  | .Constant _ _ _=>true
  | _=>false
 run _ _ _ _ e _:=match e with
  | .Constant c _ _=>AX c
  | _=>bad
 ok e R TX h hi:=by
  cases e with
  | Constant c n p=>
   cases c <;> first
    | exact K2 yc λ_ _=>.int _
    | exact K2 CC λ_ _=>.bl _
    | exact K2 Ao λ_ _=>.non
    | exact K2 yg λ_ _=>.str _
    | exact f8
  | _=>exact f8
 runK _ _ _ _ e _ _ k:=match e with
  | .Constant c _ _=>ze c k
  | _=>bad
 eq e ρ _ k h:=by
  cases e with
  | Constant c n p=>cases c <;> rfl
  | _=>rfl
def fI (Γ:Gm) (a:Lc) (x:Str) (ρ:Env):M D:=match i6 a.N x with
 | some i=>if ow a.sc x=true then getD i ρ else bad
 | none=>if glB a.sc x=true then (match Γ.gl.lookup x with
  | some (.val d)=>ret d
  | _=>bad) else bad
def CL {a:Type} (i:Nat) (ρ:Env) (k:D->M a):M a:=match ρ[i]? with
 | some (some d)=>k d
 | _=>bad
def oA {b:Type} (Γ:Gm) (a:Lc) (x:Str) (ρ:Env) (k:D->M b):M b:=match i6 a.N x with
 | some i=>if ow a.sc x=true then CL i ρ k else bad
 | none=>if glB a.sc x=true then (match Γ.gl.lookup x with
  | some (.val d)=>k d
  | _=>bad) else bad
theorem dy {Γ:Gm} {C:Cf} {lc:Lc} {X:Cx} {pos:Pos} (TX:TxOk T Γ k C) (h:CxOk T k lc X) {x:Str} (hn:q4 x=true):PE X (.Name x pos) (tD X.K T.cl (xOf X) (fI Γ lc x)):=by
 unfold fI;obtain ⟨n1,n2,n3⟩:=t6 hn;cases e:i6 lc.N x with
 | some i=>
  by_cases hv:ow lc.sc x=true
  ·simp only [if_pos hv];exact BJ (sH (by rw [h.N];exact u3 e) (by rw [h.sc];exact tw hv) n1 n2)
  ·simp only [if_neg hv];exact f8
 | none=>
  by_cases hv:glB lc.sc x=true
  ·simp only [if_pos hv];cases e2:Γ.gl.lookup x with
   | none=>exact f8
   | some g=>
    cases g with
    | val d=>
     obtain ⟨u,v,e3,rv,rd⟩:=TX.val x d e2;exact K2 (eC (h.gl hv) (by rw [h.mg];exact e3) rv n1) λμ H=>by rw [h.K];exact rd μ H
    | fn i n=>exact f8
    | err c fs=>exact f8
    | dct kvs=>exact f8
  ·simp only [if_neg hv];exact f8
theorem vR (Γ:Gm) (a:Lc) (x:Str) (ρ:Env) {b:Type} (k:D->M b):oA Γ a x ρ k=bind (fI Γ a x ρ) k:=by
 unfold oA fI;cases i6 a.N x with
 | some i=>
  simp only [];split
  ·unfold CL getD;cases ρ[i]? with
   | none=>rfl
   | some o=>cases o <;> rfl
  ·rfl
 | none=>
  simp only [];split
  ·cases Γ.gl.lookup x with
   | none=>rfl
   | some g=>cases g <;> rfl
  ·rfl
def DT:RuE where
 is _ _ e:=match e with
  | .Name x _=>q4 x
  | _=>false
 run _ Γ _ lc e ρ:=match e with
  | .Name x _=>fI Γ lc x ρ
  | _=>bad
 ok e R TX h hi:=by
  cases e with
  | Name x p=>exact dy TX h hi
  | _=>exact f8
 runK _ Γ _ lc e ρ _ k:=match e with
  | .Name x _=>oA Γ lc x ρ k
  | _=>bad
 eq e ρ _ k h:=by
  cases e with
  | Name x p=>exact vR _ _ x ρ k
  | _=>rfl
def Ae (op:Operator):D->D->M D:=match op with
 | .Add=>f7
 | .Sub=>A6
 | .Mult=>p6
 | .Mod=>O8
 | .FloorDiv=>E8
 | .Pow=>fE
 | _=>λ_ _=>bad
def a9 (op:CmpOp):D->D->M D:=match op with
 | .Eq=>eqD false
 | .NotEq=>eqD true
 | .Lt=>pe λi j=>decide (i<j)
 | .LtE=>pe λi j=>decide (i<=j)
 | .Gt=>pe λi j=>decide (j<i)
 | .GtE=>pe λi j=>decide (j<=i)
 | .In=>inD false
 | .NotIn=>inD true
 | .Is=>isD false
 | .IsNot=>isD true
theorem zb (op:Operator):OpR X (binaryOp op) (rP2 X.K cl xe (Ae op)):=by
 cases op <;> first
  | exact CY
  | exact Cg
  | exact CA
  | exact EB
  | exact AU
  | exact Et
  | exact λpins s σ H x y v u Q I a c ⟨μ,S,d,e,f,b,g,p⟩=>p.elim
theorem oO (h:CxOk T k lc X) (op:CmpOp):OpR X (compareOp op) (rP2 X.K cl xe (a9 op)):=by
 cases op
 case Eq=>exact HJ h.u64
 case NotEq=>exact GT h.u64
 case Lt=>exact kH Ca
 case LtE=>exact kH Bl
 case Gt=>exact kH Cp
 case GtE=>exact kH Bs
 case In=>exact EE false h.u80
 case NotIn=>exact EE true h.u80
 case Is=>exact Dz false
 case IsNot=>exact Dz true
def Fz:RuE where
 is _ _ e:=match e with
  | .BinOp _ _ _ _=>true
  | _=>false
 run r _ _ lc e ρ:=match e with
  | .BinOp a op b _=>bind (r.e lc a ρ) λx=>bind (r.e lc b ρ) λy=>Ae op x y
  | _=>bad
 ok e R TX h hi:=by
  cases e with
  | BinOp a op b p=>exact qX (R.ex h _) (R.ex h _) (zb _)
  | _=>exact f8
 runK q _ _ lc e ρ _ k:=match e with
  | .BinOp a op b _=>q.e lc a ρ λx=>q.e lc b ρ λy=>bind (Ae op x y) k
  | _=>bad
 eq e ρ _ k h:=by
  cases e with
  | BinOp a op b p=>simp only [h.e,bind_assoc]
  | _=>rfl
def GJ:RuE where
 is _ _ e:=match e with
  | .UnaryOp .USub _ _=>true
  | _=>false
 run r _ _ lc e ρ:=match e with
  | .UnaryOp .USub a _=>bind (r.e lc a ρ) kn
  | _=>bad
 ok e R TX h hi:=by
  split at hi
  ·exact BZ (R.ex h _)
  ·cases hi
 runK q _ _ lc e ρ _ k:=match e with
  | .UnaryOp .USub a _=>q.e lc a ρ λd=>bind (kn d) k
  | _=>bad
 eq e ρ _ k h:=by
  split
  ·simp only [h.e,bind_assoc]
  ·first
   | rfl
   | (rename_i b;split;exact (b _ _ rfl).elim;rfl)
section
variable (r:Ev) (q:EvK) (lc:Lc)
def qL:List Expr->Env->M D
 | [],_=>bad
 | [a],ρ=>r.e lc a ρ
 | a :: b :: es,ρ=>bind (r.e lc a ρ) λd=>bind (u7 d) λq=>if q=true then qL (b :: es) ρ else ret d
def orE:List Expr->Env->M D
 | [],_=>bad
 | [a],ρ=>r.e lc a ρ
 | a :: b :: es,ρ=>bind (r.e lc a ρ) λd=>bind (u7 d) λq=>if q=true then ret d else orE (b :: es) ρ
def vQ {e:Type}:List Expr->Env->(D->M e)->M e
 | [],_,_=>bad
 | [a],ρ,k=>q.e lc a ρ k
 | a :: b :: es,ρ,k=>q.e lc a ρ λd=>bind (u7 d) λc=>if c=true then vQ (b :: es) ρ k else k d
def orK {e:Type}:List Expr->Env->(D->M e)->M e
 | [],_,_=>bad
 | [a],ρ,k=>q.e lc a ρ k
 | a :: b :: es,ρ,k=>q.e lc a ρ λd=>bind (u7 d) λc=>if c=true then k d else orK (b :: es) ρ k
def pD:List Expr->Env->M Bool
 | [],_=>bad
 | [a],ρ=>r.t lc a ρ
 | a :: b :: es,ρ=>bind (r.t lc a ρ) λq=>if q=true then pD (b :: es) ρ else ret false
def orB:List Expr->Env->M Bool
 | [],_=>bad
 | [a],ρ=>r.t lc a ρ
 | a :: b :: es,ρ=>bind (r.t lc a ρ) λq=>if q=true then ret true else orB (b :: es) ρ
def kO {d:Type}:List Expr->Env->(Bool->M d)->M d
 | [],_,_=>bad
 | [a],ρ,k=>q.t lc a ρ k
 | a :: b :: es,ρ,k=>q.t lc a ρ λc=>if c=true then kO (b :: es) ρ k else k false
def uS {d:Type}:List Expr->Env->(Bool->M d)->M d
 | [],_,_=>bad
 | [a],ρ,k=>q.t lc a ρ k
 | a :: b :: es,ρ,k=>q.t lc a ρ λc=>if c=true then k true else uS (b :: es) ρ k
end
section
variable {T:Tx} {k:Nat} {r:Ev} {q:EvK} {Γ:Gm} {C:Cf} {lc:Lc} {X:Cx} {pos:Pos}
theorem oI (R:EvOk T k r) (h:CxOk T k lc X):∀ {es:List Expr},PE X (.BoolOp .And es pos) (tD X.K T.cl (xOf X) (qL r lc es))
 | []=>f8
 | [a]=>nW (R.ex h a)
 | a :: b :: es=>BG (R.ex h a) (oI R h)
theorem xB (R:EvOk T k r) (h:CxOk T k lc X):∀ {es:List Expr},PE X (.BoolOp .Or es pos) (tD X.K T.cl (xOf X) (orE r lc es))
 | []=>f8
 | [a]=>nW (R.ex h a)
 | a :: b :: es=>DJ (R.ex h a) (xB R h)
theorem jZ (R:EvOk T k r) (h:CxOk T k lc X):∀ {es:List Expr},PW X (.BoolOp .And es pos) (tBo X.K T.cl (xOf X) (pD r lc es))
 | []=>pw_bad
 | [a]=>uY (R.tx h a)
 | a :: b :: es=>yh (R.tx h a) (jZ R h)
theorem my (R:EvOk T k r) (h:CxOk T k lc X):∀ {es:List Expr},PW X (.BoolOp .Or es pos) (tBo X.K T.cl (xOf X) (orB r lc es))
 | []=>pw_bad
 | [a]=>BH (R.tx h a)
 | a :: b :: es=>Ec (R.tx h a) (my R h)
theorem oS (h:EqK r q):∀ (es:List Expr) (ρ:Env) {c:Type} (k:D->M c),vQ q lc es ρ k=bind (qL r lc es ρ) k
 | [],_,_,_=>rfl
 | [a],ρ,_,k=>h.e lc a ρ k
 | a :: b :: es,ρ,_,k=>by simp only [vQ,qL,h.e,bind_assoc,u0,oS h (b :: es),j7]
theorem yI (h:EqK r q):∀ (es:List Expr) (ρ:Env) {c:Type} (k:D->M c),orK q lc es ρ k=bind (orE r lc es ρ) k
 | [],_,_,_=>rfl
 | [a],ρ,_,k=>h.e lc a ρ k
 | a :: b :: es,ρ,_,k=>by simp only [orK,orE,h.e,bind_assoc,u0,yI h (b :: es),j7]
theorem js (h:EqK r q):∀ (es:List Expr) (ρ:Env) {c:Type} (k:Bool->M c),kO q lc es ρ k=bind (pD r lc es ρ) k
 | [],_,_,_=>rfl
 | [a],ρ,_,k=>h.t lc a ρ k
 | a :: b :: es,ρ,_,k=>by simp only [kO,pD,h.t,bind_assoc,u0,js h (b :: es),j7]
theorem pA (h:EqK r q):∀ (es:List Expr) (ρ:Env) {c:Type} (k:Bool->M c),uS q lc es ρ k=bind (orB r lc es ρ) k
 | [],_,_,_=>rfl
 | [a],ρ,_,k=>h.t lc a ρ k
 | a :: b :: es,ρ,_,k=>by simp only [uS,orB,h.t,bind_assoc,u0,pA h (b :: es),j7]
end
def CW:RuE where
 is _ _ e:=match e with
  | .BoolOp _ _ _=>true
  | _=>false
 run r _ _ lc e ρ:=match e with
  | .BoolOp .And es _=>qL r lc es ρ
  | .BoolOp .Or es _=>orE r lc es ρ
  | _=>bad
 ok e R TX h hi:=by
  cases e with
  | BoolOp op es p=>cases op;exact oI R h;exact xB R h
  | _=>exact f8
 runK q _ _ lc e ρ _ k:=match e with
  | .BoolOp .And es _=>vQ q lc es ρ k
  | .BoolOp .Or es _=>orK q lc es ρ k
  | _=>bad
 eq e ρ _ k h:=by
  cases e with
  | BoolOp op es p=>cases op;exact oS h es ρ k;exact yI h es ρ k
  | _=>rfl
def Fy:RuE where
 is _ _ e:=match e with
  | .Compare _ [_] [b] _=>v4 b
  | _=>false
 run r _ _ lc e ρ:=match e with
  | .Compare a [op] [b] _=>bind (r.e lc a ρ) λx=>bind (r.e lc b ρ) λy=>a9 op x y
  | _=>bad
 ok e R TX h hi:=by
  split at hi
  ·exact zX (R.ex h _) (R.ex h _) (oO h _) (U3 hi)
  ·cases hi
 runK q _ _ lc e ρ _ k:=match e with
  | .Compare a [op] [b] _=>q.e lc a ρ λx=>q.e lc b ρ λy=>bind (a9 op x y) k
  | _=>bad
 eq e ρ _ k h:=by
  split
  ·simp only [h.e,bind_assoc]
  ·first
   | rfl
   | (rename_i c;split;exact (c _ _ _ _ rfl).elim;rfl)
def rIf:RuE where
 is _ _ e:=match e with
  | .IfExp _ _ _ _=>true
  | _=>false
 run r _ _ lc e ρ:=match e with
  | .IfExp c a b _=>bind (r.t lc c ρ) λq=>if q=true then r.e lc a ρ else r.e lc b ρ
  | _=>bad
 ok e R TX h hi:=by
  cases e with
  | IfExp c a b p=>exact Dc (R.tx h _) (R.ex h _) (R.ex h _)
  | _=>exact f8
 runK q _ _ lc e ρ _ k:=match e with
  | .IfExp c a b _=>q.t lc c ρ λz=>if z=true then q.e lc a ρ k else q.e lc b ρ k
  | _=>bad
 eq e ρ _ k h:=by
  cases e with
  | IfExp c a b p=>simp only [h.e,h.t,bind_assoc,u0]
  | _=>rfl
def GK:RuE where
 is _ _ e:=match e with
  | .Tuple es _ _=>es.all noStar
  | _=>false
 run r _ _ lc e ρ:=match e with
  | .Tuple es _ _=>bind (v5 r lc es ρ) yV
  | _=>bad
 ok e R TX h hi:=by
  cases e with
  | Tuple es n p=>exact Aw (o8 R h hi)
  | _=>exact f8
 runK q _ _ lc e ρ _ k:=match e with
  | .Tuple es _ _=>A1 q lc es ρ λds=>bind (yV ds) k
  | _=>bad
 eq e ρ _ k h:=by
  cases e with
  | Tuple es n p=>simp only [o3 h,bind_assoc]
  | _=>rfl
def HI:RuE where
 is _ _ e:=match e with
  | .List es _=>es.all noStar
  | _=>false
 run r _ _ lc e ρ:=match e with
  | .List es _=>bind (v5 r lc es ρ) yn
  | _=>bad
 ok e R TX h hi:=by
  cases e with
  | List es p=>exact zq (o8 R h hi)
  | _=>exact f8
 runK q _ _ lc e ρ _ k:=match e with
  | .List es _=>A1 q lc es ρ λds=>bind (yn ds) k
  | _=>bad
 eq e ρ _ k h:=by
  cases e with
  | List es p=>simp only [o3 h,bind_assoc]
  | _=>rfl
def bJ (r:Ev) (a:Lc):List (Option Expr)->List Expr->List ((Env->M D)×(Env->M D))
 | some k :: b,v :: vs=>(r.e a k,r.e a v) :: bJ r a b vs
 | _,_=>[]
def cu (q:EvK) (c:Lc) {d:Type}:List (Option Expr)->List Expr->Env->(List (D×D)->M d)->M d
 | some x :: e,v :: vs,ρ,k=>q.e c x ρ λa=>q.e c v ρ λb=>cu q c e vs ρ λps=>k ((a,b) :: ps)
 | _,_,_,k=>k []
theorem eQ (R:EvOk T k r) (h:CxOk T k lc X):∀ {b:List (Option Expr)} {vs:List Expr},b.all (·.isSome)=true->b.length=vs.length->PPs X pos b vs ((bJ r lc b vs).map λd=>(tD X.K T.cl (xOf X) d.1,tD X.K T.cl (xOf X) d.2))
 | [],[],_,_=>uW
 | [],_ :: _,_,a=>by simp at a
 | _ :: _,[],_,a=>by simp at a
 | none :: _,_ :: _,c,_=>by simp at c
 | some k :: b,v :: vs,c,a=>pd (R.ex h k) (R.ex h v) (eQ R h (by simpa using c) (by simpa using a))
theorem eP (h:EqK r q):∀ (c:List (Option Expr)) (vs:List Expr) (ρ:Env) {d:Type} (k:List (D×D)->M d),cu q lc c vs ρ k=bind (D6 (bJ r lc c vs) ρ) k
 | [],_,_,_,_=>rfl
 | none :: _,_,_,_,_=>rfl
 | some _ :: _,[],_,_,_=>rfl
 | some x :: c,v :: vs,ρ,_,k=>by
  simp only [cu,bJ,D6,h.e,bind_assoc];congr;funext a;congr;funext b;rw [eP h c vs ρ];rfl
def GO:RuE where
 is _ _ e:=match e with
  | .Dict ks vs _=>ks.all (·.isSome)&&decide (ks.length=vs.length)&&decide (0<ks.length)&&decide (ks.length<=15)
  | _=>false
 run r _ _ lc e ρ:=match e with
  | .Dict ks vs _=>bind (D6 (bJ r lc ks vs) ρ) ky
  | _=>bad
 ok e R TX h hi:=by
  cases e with
  | Dict ks vs p=>
   simp only [HS,Iz] at hi;exact tM (eQ R h hi.1.1.1 hi.1.1.2) hi.1.1.1 hi.1.1.2 (by intro z;rw [z] at hi;simp at hi) hi.2
  | _=>exact f8
 runK q _ _ lc e ρ _ k:=match e with
  | .Dict ks vs _=>cu q lc ks vs ρ λps=>bind (ky ps) k
  | _=>bad
 eq e ρ _ k h:=by
  cases e with
  | Dict ks vs p=>simp only [eP h,bind_assoc]
  | _=>rfl
def rIx:RuE where
 is _ _ e:=match e with
  | .Subscript _ i _=>G4 i
  | _=>false
 run r _ _ lc e ρ:=match e with
  | .Subscript a i _=>bind (r.e lc a ρ) λx=>bind (r.e lc i ρ) λy=>ixD x y
  | _=>bad
 ok e R TX h hi:=by
  cases e with
  | Subscript a i p=>exact FF (R.ex h _) (R.ex h _) (Gw h.u1) (ia hi)
  | _=>exact f8
 runK q _ _ lc e ρ _ k:=match e with
  | .Subscript a i _=>q.e lc a ρ λx=>q.e lc i ρ λy=>bind (ixD x y) k
  | _=>bad
 eq e ρ _ k h:=by
  cases e with
  | Subscript a i p=>simp only [h.e,bind_assoc]
  | _=>rfl
def fF (r:Ev) (a:Lc) (o:Option Expr) (ρ:Env):M (Option Int):=match o with
 | none=>ret none
 | some e=>bind (r.e a e ρ) bU
def iq (q:EvK) (b:Lc) {a:Type} (o:Option Expr) (ρ:Env) (k:Option Int->M a):M a:=match o with
 | none=>k none
 | some e=>q.e b e ρ λd=>bind (bU d) k
theorem vI (h:EqK r q) (o:Option Expr) (ρ:Env) {a:Type} (k:Option Int->M a):iq q lc o ρ k=bind (fF r lc o ρ) k:=by
 cases o with
 | none=>rfl
 | some e=>simp only [iq,fF,h.e,bind_assoc]
theorem jX (R:EvOk T k r) (h:CxOk T k lc X) {o:Option Expr}:PO X o (tPt X.K T.cl (xOf X) (fF r lc o)):=by
 cases o with
 | none=>exact vJ
 | some e=>exact wE (R.ex h e)
def rSl:RuE where
 is _ _ e:=match e with
  | .Subscript _ (.Slice _ _ none _) _=>true
  | _=>false
 run r _ _ lc e ρ:=match e with
  | .Subscript a (.Slice lo b none _) _=>bind (r.e lc a ρ) λd=>bind (fF r lc lo ρ) λl=>bind (fF r lc b ρ) λu=>slD d l u
  | _=>bad
 ok e R TX h b:=by
  split at b
  ·exact FA (R.ex h _) (jX R h) (jX R h)
  ·cases b
 runK q _ _ lc e ρ _ k:=match e with
  | .Subscript a (.Slice lo b none _) _=>q.e lc a ρ λd=>iq q lc lo ρ λl=>iq q lc b ρ λu=>bind (slD d l u) k
  | _=>bad
 eq e ρ _ k h:=by
  split
  ·simp only [h.e,vI h,bind_assoc]
  ·first
   | rfl
   | (rename_i c;split;exact (c _ _ _ _ _ rfl).elim;rfl)
def GX:RuE where
 is Γ _ e:=match e with
  | .Attribute a g _=>v1 a&&decide (g∈Γ.flds)
  | _=>false
 run r _ _ lc e ρ:=match e with
  | .Attribute a g _=>bind (r.e lc a ρ) (cZ g)
  | _=>bad
 ok e R TX h hi:=by
  cases e with
  | Attribute a g p=>
   simp at hi;exact zd (λc xc=>by rw [h.K] at xc ⊢;exact TX.fld g hi.2 c xc) (R.ex h _) hi.1
  | _=>exact f8
 runK q _ _ lc e ρ _ k:=match e with
  | .Attribute a g _=>q.e lc a ρ λd=>bind (cZ g d) k
  | _=>bad
 eq e ρ _ k h:=by
  cases e with
  | Attribute a g p=>simp only [h.e,bind_assoc]
  | _=>rfl
def BE:RuT where
 is _ _ e:=match e with
  | .UnaryOp .Not _ _=>true
  | _=>false
 run r _ _ lc e ρ:=match e with
  | .UnaryOp .Not a _=>bind (r.t lc a ρ) λq=>ret (!q)
  | _=>bad
 ok e R TX h hi:=by
  split at hi
  ·exact yQ (R.tx h _)
  ·cases hi
 runK q _ _ lc e ρ _ k:=match e with
  | .UnaryOp .Not a _=>q.t lc a ρ λc=>k (!c)
  | _=>bad
 eq e ρ _ k h:=by
  split
  ·simp only [h.t,bind_assoc,j7]
  ·first
   | rfl
   | (rename_i b;split;exact (b _ _ rfl).elim;rfl)
def Dn:RuT where
 is _ _ e:=match e with
  | .BoolOp _ _ _=>true
  | _=>false
 run r _ _ lc e ρ:=match e with
  | .BoolOp .And es _=>pD r lc es ρ
  | .BoolOp .Or es _=>orB r lc es ρ
  | _=>bad
 ok e R TX h hi:=by
  cases e with
  | BoolOp op es p=>cases op;exact (jZ R h).pt;exact (my R h).pt
  | _=>exact iK
 runK q _ _ lc e ρ _ k:=match e with
  | .BoolOp .And es _=>kO q lc es ρ k
  | .BoolOp .Or es _=>uS q lc es ρ k
  | _=>bad
 eq e ρ _ k h:=by
  cases e with
  | BoolOp op es p=>cases op;exact js h es ρ k;exact pA h es ρ k
  | _=>rfl
def FQ:RuT where
 is _ _ e:=match e with
  | .Compare _ [_] [b] _=>v4 b
  | _=>false
 run r _ _ lc e ρ:=match e with
  | .Compare a [op] [b] _=>bind (r.e lc a ρ) λx=>bind (r.e lc b ρ) λy=>bind (a9 op x y) asB
  | _=>bad
 ok e R TX h hi:=by
  split at hi
  ·exact pF (R.ex h _) (R.ex h _) (oO h _) (U3 hi)
  ·cases hi
 runK q _ _ lc e ρ _ k:=match e with
  | .Compare a [op] [b] _=>q.e lc a ρ λx=>q.e lc b ρ λy=>bind (a9 op x y) λd=>bind (asB d) k
  | _=>bad
 eq e ρ _ k h:=by
  split
  ·simp only [h.e,bind_assoc]
  ·first
   | rfl
   | (rename_i c;split;exact (c _ _ _ _ rfl).elim;rfl)
def zJ:RuT where
 is _ _ e:=E5 e
 run r _ _ lc e ρ:=bind (r.e lc e ρ) u7
 ok e R TX h hi:=rV (R.ex h _) hi
 runK q _ _ lc e ρ _ k:=q.e lc e ρ λd=>bind (u7 d) k
 eq e ρ _ k h:=by simp only [h.e,bind_assoc]
def nu (Γ:Gm) (x:Str) (p:Nat->Nat->Bool):Bool:=match Γ.gl.lookup x with
 | some (.fn i n)=>p i n
 | _=>false
theorem df (h:nu Γ x p=true):∃ i n,Γ.gl.lookup x=some (.fn i n)/\p i n=true:=by
 unfold nu at h;grind
def rFn:RuE where
 is Γ lc e:=match e with
  | .Call (.Name x _) es [] _=>q4 x&&glB lc.sc x&&es.all noStar&&!quiet lc&&nu Γ x λi n=>decide (es.length=n)&&decide (i∉Γ.qs)
  | _=>false
 run r Γ C lc e ρ:=match e with
  | .Call (.Name x _) es [] _=>(match Γ.gl.lookup x with
   | some (.fn i n)=>bind (v5 r lc es ρ) λds=>if ds.length=n then C i ds else bad
   | _=>bad)
  | _=>bad
 ok {T k r Γ C lc X} e R TX h hi:=by
  split at hi
  ·rename_i x p es pos;simp only [HS,Jd] at hi;obtain ⟨⟨⟨⟨w,m⟩,c⟩,f⟩,v⟩:=hi;obtain ⟨s,E,D⟩:=t6 w;obtain ⟨i,n,l,b⟩:=df v;simp at b;obtain ⟨a,fd,ps,B,A,y,z,u⟩:=(TX.fn x i n l b.2).ex;have F:FnOk X.prog X.w X.K X.mg X.base (CXd X.prog X.w X.K) k a fd ps (spX X.K T.cl n (C i)):=by rw [h.prog,h.w,h.K,h.mg,h.base];exact A
   have d:PySem.W.keepIn X.K (.ref a)=true:=by rw [h.K];exact z
   have j:Binds X.K fd ps []:=by rw [h.K];exact u
   have o:X.mg x=some (.ref a):=by rw [h.mg];exact y
   show PE X _ (tD X.K T.cl (xOf X) λρ=>(match Γ.gl.lookup x with
    | some (.fn i n)=>bind (v5 r lc es ρ) λds=>if ds.length=n then C i ds else bad
    | _=>bad))
   rw [l]
   match es,c,b with
   | [],_,b=>
    have:=b.1.symm;subst this;exact lp F (h.room0 f) (h.gl m) o d j s
   | e :: es,c,_=>exact rl F (h.room0 f) (h.gl m) o d j (o8 R h c) s c
  ·cases hi
 runK q Γ C lc e ρ _ k:=match e with
  | .Call (.Name x _) es [] _=>(match Γ.gl.lookup x with
   | some (.fn i n)=>A1 q lc es ρ λds=>if ds.length=n then bind (C i ds) k else bad
   | _=>bad)
  | _=>bad
 eq {r q Γ C lc} e ρ _ k h:=by
  split
  ·rename_i x p es pos;cases Γ.gl.lookup x with
   | none=>rfl
   | some g=>cases g <;> first | rfl | simp only [o3 h,bind_assoc,u0,al]
  ·first
   | rfl
   | (rename_i t;split;exact (t _ _ _ _ rfl).elim;rfl)
def FZ:RuE where
 is Γ lc e:=match e with
  | .Call (.Name x _) (a :: es) [] _=>q4 x&&glB lc.sc x&&(a :: es).all noStar&&nu Γ x λi n=>decide ((a :: es).length=n)&&decide (i∈Γ.qs)
  | _=>false
 run r Γ C lc e ρ:=match e with
  | .Call (.Name x _) es [] _=>(match Γ.gl.lookup x with
   | some (.fn i n)=>nx (bind (v5 r lc es ρ) λds=>if ds.length=n then C i ds else bad)
   | _=>bad)
  | _=>bad
 ok {T k r Γ C lc X} e R TX h hi:=by
  split at hi
  ·rename_i x p j es pos;simp only [HS] at hi;obtain ⟨⟨⟨G,D⟩,m⟩,B⟩:=hi;obtain ⟨N,P,O⟩:=t6 G;obtain ⟨i,n,o,l⟩:=df B;simp at l;obtain ⟨a,fd,ps,u,M,J,K,w⟩:=(TX.fnq x i n o l.2).ex;have d:FnOk X.prog X.w X.K X.mg X.base (CXq true) k a fd ps (spD X.K T.cl n (C i)):=by rw [h.prog,h.w,h.K,h.mg,h.base];exact M
   have F:FnOk X.prog X.w X.K X.mg X.base (CXq (quiet lc)) k a fd ps (spD X.K T.cl n (C i)):=by
    cases quiet lc with
    | true=>exact d
    | false=>exact ⟨d.len,λA b s H c us vs Q E y j f r h=>d.run A b s H c us vs Q E y.any j f r h⟩
   have v:PySem.W.keepIn X.K (.ref a)=true:=by rw [h.K];exact K
   have f:Binds X.K fd ps []:=by rw [h.K];exact w
   have I:X.mg x=some (.ref a):=by rw [h.mg];exact J
   show PE X _ (tD X.K T.cl (xOf X) λρ=>(match Γ.gl.lookup x with
    | some (.fn i n)=>nx (bind (v5 r lc (j :: es) ρ) λds=>if ds.length=n then C i ds else bad)
    | _=>bad))
   rw [o];have:=wJ (p:=p) (pos:=pos) u F h.room (h.gl D) I v f DM (PA.x0 (o8 R h m)) N m l.1;exact PE.imp this λσ H Q ⟨μ,S,ρ,L,z,p⟩=>⟨μ,S,ρ,L,z,p.nx⟩
  ·cases hi
 runK q Γ C lc e ρ _ k:=match e with
  | .Call (.Name x _) es [] _=>(match Γ.gl.lookup x with
   | some (.fn i n)=>bind (nx (A1 q lc es ρ λds=>if ds.length=n then C i ds else bad)) k
   | _=>bad)
  | _=>bad
 eq {r q Γ C lc} e ρ _ k h:=by
  split
  ·rename_i x p es pos;cases Γ.gl.lookup x with
   | none=>rfl
   | some g=>cases g <;> first | rfl | simp only [o3 h]
  ·first
   | rfl
   | (rename_i t;split;exact (t _ _ _ _ rfl).elim;rfl)
def mI (r:Ev) (Γ:Gm) (a:Lc) (x:Str) (es:List Expr) (ρ:Env):M D:=match Γ.gl.lookup x with
 | some (.err c fs)=>(match fs with
  | []=>bind (v5 r a es ρ) (rF c)
  | [g]=>bind (v5 r a es ρ) (P6 c [g])
  | [g,b]=>bind (v5 r a es ρ) (P6 c [g,b])
  | _=>bad)
 | _=>bad
def wA (q:EvK) (Γ:Gm) (a:Lc) (x:Str) (es:List Expr) (ρ:Env) {b:Type} (k:D->M b):M b:=match Γ.gl.lookup x with
 | some (.err c fs)=>(match fs with
  | []=>A1 q a es ρ λds=>bind (rF c ds) k
  | [g]=>A1 q a es ρ λds=>bind (P6 c [g] ds) k
  | [g,d]=>A1 q a es ρ λds=>bind (P6 c [g,d] ds) k
  | _=>bad)
 | _=>bad
theorem nX (h:EqK r q) (x:Str) (es:List Expr) (ρ:Env) {α:Type} (k:D->M α):wA q Γ lc x es ρ k=bind (mI r Γ lc x es ρ) k:=by
 unfold wA mI;cases Γ.gl.lookup x with
 | none=>rfl
 | some g=>
  cases g with
  | err c fs=>
   match fs with
   | []=>simp only [o3 h,bind_assoc]
   | [g]=>simp only [o3 h,bind_assoc]
   | [g,g2]=>simp only [o3 h,bind_assoc]
   | _ :: _ :: _ :: _=>rfl
  | _=>rfl
theorem ig {C:Cf} {lc:Lc} {X:Cx} {x:Str} {p pos:Pos} {e:Expr} {es:List Expr} (R:EvOk T k r) (TX:TxOk T Γ k C) (h:CxOk T k lc X) (c1:q4 x=true) (c2:glB lc.sc x=true) (c3:(e :: es).all noStar=true) (c4:quiet lc=false) :
  PE X (.Call (.Name x p) (e :: es) [] pos) (tDf X.K T.cl (xOf X) (mI r Γ lc x (e :: es))):=by
 have bd:PE X (.Call (.Name x p) (e :: es) [] pos) (tDf X.K T.cl (xOf X) λρ=>bad):=λ_ _ _ _ _ _ ⟨_,_,_,_,_,z⟩=>z.elim;obtain ⟨n1,n2,n3⟩:=t6 c1;have ha:=o8 R h c3;unfold mI;cases e1:Γ.gl.lookup x with
 | none=>exact bd
 | some g=>
  cases g with
  | val d=>exact bd
  | fn i n=>exact bd
  | dct kvs=>exact bd
  | err c fs=>
   obtain ⟨ea,na⟩:=TX.err x c fs e1;obtain ⟨f,fd,ps,g1,g2,g3,g4⟩:=ea.ex;have xc:XC X.K (T.cl c):=by rw [h.K];exact ea.xc
   have hm:X.mg x=some (.ref (T.cl c)):=by rw [h.mg];exact ea.mg_
   have hr:=(h.room0 c4).mono TX.k3;have hi:PySem.W.findIn X.K (.ref (T.cl c)) "__init__" = some (some (.ref f)):=by rw [h.K];exact g1
   have hf:PySem.W.isFn X.K (.ref f)=true:=by rw [h.K];exact g2
   have hb:Binds X.K fd ps []:=by rw [h.K];exact g3
   match fs,g4,na with
   | [],g4,na=>exact oj xc hi hf (by rw [h.prog,h.w,h.K,h.mg,h.base];exact g4) hr (h.gl c2) hm hb X9 ha n1 c3
   | [g],g4,na=>exact pa xc (by rw [h.K];exact na g (by simp)) hi hf (by rw [h.prog,h.w,h.K,h.mg,h.base];exact g4) hr (h.gl c2) hm hb X9 ha n1 c3
   | [g,g'],g4,na=>exact oy xc (by rw [h.K];exact na g (by simp)) (by rw [h.K];exact na g' (by simp)) hi hf (by rw [h.prog,h.w,h.K,h.mg,h.base];exact g4) hr (h.gl c2) hm hb X9 ha n1 c3
   | _ :: _ :: _ :: _,g4,_=>exact g4.elim
def uX (Γ:Gm) (x:Str):Bool:=match Γ.gl.lookup x with
 | some (.err _ _)=>true
 | _=>false
def GI:RuE where
 is Γ lc e:=match e with
  | .Call (.Name x _) (a :: es) [] _=>q4 x&&glB lc.sc x&&(a :: es).all noStar&&!quiet lc&&uX Γ x
  | _=>false
 run r Γ C lc e ρ:=match e with
  | .Call (.Name x _) (a :: es) [] _=>mI r Γ lc x (a :: es) ρ
  | _=>bad
 ok {T k r Γ C lc X} e R TX h hi:=by
  split at hi
  ·simp only [HS,Jd] at hi;exact PE.unf (ig R TX h hi.1.1.1.1 hi.1.1.1.2 hi.1.1.2 hi.1.2)
  ·cases hi
 runK q Γ C lc e ρ _ k:=match e with
  | .Call (.Name x _) (a :: es) [] _=>wA q Γ lc x (a :: es) ρ k
  | _=>bad
 eq {r q Γ C lc} e ρ _ k h:=by
  split
  ·exact nX h _ _ ρ k
  ·first
   | rfl
   | (rename_i b;split;exact (b _ _ _ _ _ rfl).elim;rfl)
def Q4 (Γ:Gm) (b:Lc) (x:Str) (a:Expr):Bool:=decide (x = "isinstance")&&(Γ.gl.lookup ("isinstance" : Str)).isNone&&glB b.sc "isinstance" && noStar a
theorem O7 (h:Q4 Γ lc x a=true):x = "isinstance"/\Γ.gl.lookup ("isinstance" : Str)=none/\glB lc.sc "isinstance" = true/\noStar a=true:=by
 simp only [Q4,HS,Iz,IL] at h;grind
def Dl:RuE where
 is Γ lc e:=match e with
  | .Call (.Name x _) [a,.Name y _] [] _=>Q4 Γ lc x a&&q4 y&&glB lc.sc y&&uX Γ y
  | _=>false
 run r Γ C lc e ρ:=match e with
  | .Call (.Name _ _) [a,.Name y _] [] _=>(match Γ.gl.lookup y with
   | some (.err c0 _)=>bind (r.e lc a ρ) (A0 λc=>Γ.sub c c0)
   | _=>bad)
  | _=>bad
 ok {T k r Γ C lc X} e R TX h hi:=by
  split at hi
  ·rename_i x p a y q pos;simp at hi;obtain ⟨⟨⟨c0,c1⟩,c2⟩,c3⟩:=hi;obtain ⟨rfl,i1,i2,i3⟩:=O7 c0;obtain ⟨n1,n2,n3⟩:=t6 c1;show PE X _ (tD X.K T.cl (xOf X) λρ=>(match Γ.gl.lookup y with
    | some (.err c0 _)=>bind (r.e lc a ρ) (A0 λc=>Γ.sub c c0)
    | _=>bad))
   cases e1:Γ.gl.lookup y with
   | none=>exact f8
   | some g=>
    cases g with
    | err c0 fs=>exact sZ (λc xc=>by rw [h.K] at xc ⊢;exact TX.sub y c c0 fs e1 xc) (R.ex h a) (h.gl i2) (TX.none h (by decide) i1) (h.gl c2) (by rw [h.mg];exact (TX.err y c0 fs e1).1.mg_) n1 i3
    | val d=>exact f8
    | fn i n=>exact f8
    | dct kvs=>exact f8
  ·cases hi
 runK q Γ C lc e ρ _ k:=match e with
  | .Call (.Name _ _) [a,.Name y _] [] _=>(match Γ.gl.lookup y with
   | some (.err c0 _)=>q.e lc a ρ λd=>bind (A0 (λc=>Γ.sub c c0) d) k
   | _=>bad)
  | _=>bad
 eq {r q Γ C lc} e ρ _ k h:=by
  split
  ·rename_i x p a y q pos;cases Γ.gl.lookup y with
   | none=>rfl
   | some g=>cases g <;> first | rfl | simp only [h.e,bind_assoc]
  ·first
   | rfl
   | (rename_i hn;split;exact (hn _ _ _ _ _ _ rfl).elim;rfl)
def btys:List (Str×String):=[("int","int"),("bool","bool"),("str","str"),("tuple","tuple"),("list","list"),("dict","dict"),("ValueError","ValueError")]
theorem wO:∀ {x:Str} {t:String},btys.lookup x=some t->bootBuiltins x=some (.type t)/\x∈bnames/\(t∈tys\/t = "ValueError"):=by
 intro x t e;have:∀ y∈btys,bootBuiltins y.1=some (.type y.2)/\y.1∈bnames/\(y.2∈tys\/y.2 = "ValueError"):=by
  intro y a;simp only [btys,Ii,KJ,or_false] at a;rcases a with rfl | rfl | rfl | rfl | rfl | rfl | rfl <;> exact ⟨rfl,by decide,by decide⟩
 exact this _ (L2.mem_of_lookup e)
def CJ:RuE where
 is Γ lc e:=match e with
  | .Call (.Name x _) [a,.Name y _] [] _=>Q4 Γ lc x a&&q4 y&&glB lc.sc y&&(Γ.gl.lookup y).isNone
  | _=>false
 run r Γ C lc e ρ:=match e with
  | .Call (.Name _ _) [a,.Name y _] [] _=>(match btys.lookup y with
   | some T=>bind (r.e lc a ρ) λd=>if T∈tys then mR T (λ_=>false) d else A0 (λ_=>true) d
   | none=>bad)
  | _=>bad
 ok {T k r Γ C lc X} e R TX h hi:=by
  split at hi
  ·rename_i x p a y q pos;simp only [HS,IL] at hi;obtain ⟨⟨⟨c0,w⟩,v⟩,l⟩:=hi;obtain ⟨rfl,B,s,i⟩:=O7 c0;obtain ⟨m,D,n⟩:=t6 w;have j:=TX.none h (by decide) B;show PE X _ (tD X.K T.cl (xOf X) λρ=>(match btys.lookup y with
    | some T=>bind (r.e lc a ρ) λd=>if T∈tys then mR T (λ_=>false) d else A0 (λ_=>true) d
    | none=>bad))
   cases A:btys.lookup y with
   | none=>exact f8
   | some t=>
    obtain ⟨o,u,f⟩:=wO A;by_cases g:t∈tys
    ·have:=kS (pos:=pos) (p:=p) (q:=q) (.inl g) (λc b=>by rw [h.K] at b ⊢;exact TX.subT c b t g) (R.ex h a) (h.gl s) j (h.gl v) (TX.none h u l) o n m i;simp only [if_pos g] at this ⊢;exact this
    ·rcases f with f | f
     ·exact absurd f g
     ·subst f;have:=kS (pos:=pos) (p:=p) (q:=q) (.inr rfl) (λc b=>by rw [h.K] at b ⊢;exact TX.subV c b) (R.ex h a) (h.gl s) j (h.gl v) (TX.none h u l) o n m i;exact this
  ·cases hi
 runK q Γ C lc e ρ _ k:=match e with
  | .Call (.Name _ _) [a,.Name y _] [] _=>(match btys.lookup y with
   | some T=>q.e lc a ρ λd=>if T∈tys then bind (mR T (λ_=>false) d) k else bind (A0 (λ_=>true) d) k
   | none=>bad)
  | _=>bad
 eq {r q Γ C lc} e ρ _ k h:=by
  split
  ·rename_i x p a y q pos;cases btys.lookup y with
   | none=>rfl
   | some T=>simp only [h.e,bind_assoc,u0]
  ·first
   | rfl
   | (rename_i z;split;exact (z _ _ _ _ _ _ rfl).elim;rfl)
def aQ (Γ:Gm) (a:Lc):List Expr->Option (List Nat)
 | []=>some []
 | .Name y _ :: ys=>if q4 y=true/\glB a.sc y=true then (match Γ.gl.lookup y,aQ Γ a ys with
  | some (.err c0 _),some cs=>some (c0 :: cs)
  | _,_=>none) else none
 | _=>none
theorem kR {Γ:Gm} {C:Cf} {lc:Lc} {X:Cx} (TX:TxOk T Γ k C) (h:CxOk T k lc X):∀ {ys:List Expr} {cs:List Nat},aQ Γ lc ys=some cs->NamesC X T.cl ys cs/\∀ c0∈cs,∀ c,XC X.K (T.cl c)->PySem.W.kitOne X.K (.ref (T.cl c)) (.ref (T.cl c0))=some (Γ.sub c c0)
 | [],cs,e=>by cases e;exact ⟨.nil,λc hc=>(by cases hc)⟩
 | y :: ys,cs,e=>by
  cases y with
  | Name y p=>
   simp only [aQ] at e;by_cases hc:q4 y=true/\glB lc.sc y=true
   ·simp only [if_pos hc] at e;obtain ⟨n1,n2,n3⟩:=t6 hc.1;cases e1:Γ.gl.lookup y with
    | none=>rw [e1] at e;cases e
    | some g=>
     cases g with
     | val d=>rw [e1] at e;cases e
     | fn i n=>rw [e1] at e;cases e
     | dct kvs=>rw [e1] at e;cases e
     | err c0 fs=>
      cases e2:aQ Γ lc ys with
      | none=>grind
      | some cs'=>
       rw [e1,e2] at e;cases e;obtain ⟨i1,i2⟩:=kR TX h e2;refine ⟨.cons (h.gl hc.2) (by rw [h.mg];exact (TX.err y c0 fs e1).1.mg_) n1 i1,λc1 hc1 c xc=>?_⟩;rcases Ii.mp hc1 with rfl | hc1
       ·rw [h.K] at xc ⊢;exact TX.sub y c _ fs e1 xc
       ·exact i2 c1 hc1 c xc
   ·grind
  | _=>simp only [aQ] at e;cases e
def ED:RuE where
 is Γ lc e:=match e with
  | .Call (.Name x _) [a,.Tuple ys _ _] [] _=>Q4 Γ lc x a&&(aQ Γ lc ys).isSome&&decide (ys.length<=1000)
  | _=>false
 run r Γ C lc e ρ:=match e with
  | .Call (.Name _ _) [a,.Tuple ys _ _] [] _=>(match aQ Γ lc ys with
   | some cs=>if cs.length<=1000 then bind (r.e lc a ρ) (A0 λc=>cs.any λc0=>Γ.sub c c0) else bad
   | none=>bad)
  | _=>bad
 ok {T k r Γ C lc X} e R TX h hi:=by
  split at hi
  ·rename_i x p a ys n q pos;simp at hi;obtain ⟨⟨c0,o⟩,s⟩:=hi;obtain ⟨rfl,m,l,f⟩:=O7 c0;show PE X _ (tD X.K T.cl (xOf X) λρ=>(match aQ Γ lc ys with
    | some cs=>if cs.length<=1000 then bind (r.e lc a ρ) (A0 λc=>cs.any λc0=>Γ.sub c c0) else bad
    | none=>bad))
   cases e:aQ Γ lc ys with
   | none=>exact f8
   | some cs=>
    by_cases b:cs.length<=1000
    ·simp only [if_pos b];obtain ⟨j,i⟩:=kR TX h e;exact kh i b (R.ex h a) (h.gl l) (TX.none h (by decide) m) j f
    ·simp only [if_neg b];exact f8
  ·cases hi
 runK q Γ C lc e ρ _ k:=match e with
  | .Call (.Name _ _) [a,.Tuple ys _ _] [] _=>(match aQ Γ lc ys with
   | some cs=>if cs.length<=1000 then q.e lc a ρ λd=>bind (A0 (λc=>cs.any λc0=>Γ.sub c c0) d) k else bad
   | none=>bad)
  | _=>bad
 eq {r q Γ C lc} e ρ _ k h:=by
  split
  ·rename_i x p a ys n q pos;cases aQ Γ lc ys with
   | none=>rfl
   | some cs=>simp only [h.e,bind_assoc,u0,al]
  ·first
   | rfl
   | (rename_i g;split;exact (g _ _ _ _ _ _ _ rfl).elim;rfl)
def kI (x:Str) (c:Bool) (Γ:Gm) (b:Lc) (e:Expr):Bool:=match e with
 | .Call (.Name f _) (a :: es) [] _=>decide (f=x)&&(a :: es).all noStar&&(Γ.gl.lookup x).isNone&&glB b.sc x&&!(c&&quiet b)
 | _=>false
def uT (g:List D->M D) (r:Ev) (b:Lc) (e:Expr) (ρ:Env):M D:=match e with
 | .Call (.Name _ _) (a :: es) [] _=>bind (v5 r b (a :: es) ρ) g
 | _=>bad
def wY (g:List D->M D) (q:EvK) (c:Lc) (e:Expr) (ρ:Env) {b:Type} (k:D->M b):M b:=match e with
 | .Call (.Name _ _) (a :: es) [] _=>A1 q c (a :: es) ρ λds=>bind (g ds) k
 | _=>bad
theorem pw (g:List D->M D) {r:Ev} {q:EvK} {a:Lc} (e:Expr) (ρ:Env) {c:Type} (k:D->M c) (h:EqK r q):wY g q a e ρ k=bind (uT g r a e ρ) k:=by
 unfold wY uT;split
 ·simp only [o3 h,bind_assoc]
 ·first
  | rfl
  | (rename_i b;split;exact (b _ _ _ _ _ rfl).elim;rfl)
theorem eJ {d:Bool} {Γ:Gm} {b:Lc} {e:Expr} (h:kI x d Γ b e=true):∃ p a es pos,e=.Call (.Name x p) (a :: es) [] pos/\(a :: es).all noStar=true/\Γ.gl.lookup x=none/\glB b.sc x=true/\(d=true->quiet b=false):=by
 unfold kI at h;split at h
 ·simp only [HS,Iz,IL,Jd] at h;obtain ⟨⟨⟨⟨rfl,f⟩,g⟩,i⟩,c⟩:=h;refine ⟨_,_,_,_,rfl,f,g,i,λz=>?_⟩;rw [z] at c;simpa using c
 ·cases h
def rBf (x:Str) (id:String) (d:Bool) (g:List D->M D) (c:x∈bnames/\x ≠ "__name__"/\(x==("__debug__" : Str))=false) (m:bootBuiltins x=some (.builtin id))
  (j:∀ {T:Tx} {k:Nat} {b:Lc} {X:Cx} {cl:Nat->Addr} {xe:Addr->Hp->Prop},CxOk T k b X->(d=true->X.calm=true)->j6 X (.builtin id) (rPs X.K cl xe g)):RuE where
 is:=kI x d
 run r _ _ b e ρ:=uT g r b e ρ
 ok {T k r Γ C b X} e R TX h hi:=by
  obtain ⟨p,a,es,pos,rfl,f,i,l,n⟩:=eJ hi;exact pX (j h λz=>h.calm (n z)) (h.gl l) (TX.none h c.1 i) m (o8 R h f) c.2.1 c.2.2 f
 runK q _ _ b e ρ _ k:=wY g q b e ρ k
 eq e ρ _ k h:=pw g e ρ k h
def rBt (x:Str) (id:String) (d:Bool) (g:List D->M D) (c:x∈bnames/\x ≠ "__name__"/\(x==("__debug__" : Str))=false) (m:bootBuiltins x=some (.type id))
  (j:∀ {T:Tx} {k:Nat} {b:Lc} {X:Cx} {cl:Nat->Addr} {xe:Addr->Hp->Prop},CxOk T k b X->(d=true->X.calm=true)->j6 X (.type id) (rPs X.K cl xe g)):RuE where
 is:=kI x d
 run r _ _ b e ρ:=uT g r b e ρ
 ok {T k r Γ C b X} e R TX h hi:=by
  obtain ⟨p,a,es,pos,rfl,f,i,l,n⟩:=eJ hi;exact rW (j h λz=>h.calm (n z)) (h.gl l) (TX.none h c.1 i) m (o8 R h f) c.2.1 c.2.2 f
 runK q _ _ b e ρ _ k:=wY g q b e ρ k
 eq e ρ _ k h:=pw g e ρ k h
def FU:RuE:=rBf "len" "len" false (one e8) (by decide) PySem.boot_len λ_ _=>Cu
def At:RuE:=rBt "tuple" "tuple" false (one m9) (by decide) rfl λ_ _=>wF
def DY:RuE:=rBf "repr" "repr" false (one p8) (by decide) rfl λh _=>zU h.room.gd h.u64
def sv:RuE:=rBf "sorted" "sorted" false (one Q5) (by decide) rfl λ_ _=>rE
def GL:RuE:=rBf "max" "max" true dr (by decide) rfl λ_ a=>EF (a rfl)
def GN:RuE:=rBf "min" "min" true rm (by decide) rfl λ_ a=>Dy (a rfl)
def Gk:RuE:=rBt "int" "int" false (one tJ) (by decide) rfl λ_ _=>EU
def sS:RuE where
 is Γ lc e:=match e with
  | .Call (.Name x _) [.Call (.Name y _) [a] [] _] [] _=>decide (x = "list")&&decide (y = "range")&&(Γ.gl.lookup ("list" : Str)).isNone&&(Γ.gl.lookup ("range" : Str)).isNone&&glB lc.sc "list" && glB lc.sc "range" && !quiet lc&&noStar a
  | _=>false
 run r _ _ lc e ρ:=match e with
  | .Call (.Name _ _) [.Call (.Name _ _) [a] [] _] [] _=>bind (r.e lc a ρ) J0
  | _=>bad
 ok {T k r Γ C lc X} e R TX h hi:=by
  split at hi
  ·simp only [HS,Iz,IL,Jd] at hi;obtain ⟨⟨⟨⟨⟨⟨⟨rfl,rfl⟩,l⟩,b⟩,g⟩,j⟩,i⟩,f⟩:=hi;exact mn (h.calm i) (h.gl g) (TX.none h (by decide) l) (h.gl j) (TX.none h (by decide) b) (R.ex h _) f
  ·cases hi
 runK q _ _ lc e ρ _ k:=match e with
  | .Call (.Name _ _) [.Call (.Name _ _) [a] [] _] [] _=>q.e lc a ρ λd=>bind (J0 d) k
  | _=>bad
 eq e ρ _ k h:=by
  split
  ·simp only [h.e,bind_assoc]
  ·first
   | rfl
   | (rename_i c;split;exact (c _ _ _ _ _ _ _ rfl).elim;rfl)
def uV (n:Nat) (Γ:Gm) (a:Lc) (e:Expr):Bool:=match e with
 | .Call (.Name f _) es [] _=>decide (f = "range")&&decide (es.length=n)&&es.all noStar&&(Γ.gl.lookup ("range" : Str)).isNone&&glB a.sc "range"
 | _=>false
def rgE (n:Nat) (r:Ev) (a:Lc) (e:Expr) (ρ:Env):M (Src×Nat):=match e with
 | .Call (.Name _ _) es [] _=>bind (v5 r a es ρ) λds=>if ds.length=n then k4 ds else bad
 | _=>bad
def rgK (n:Nat) (q:EvK) (b:Lc) (e:Expr) (ρ:Env) {a:Type} (k:Src×Nat->M a):M a:=match e with
 | .Call (.Name _ _) es [] _=>A1 q b es ρ λds=>if ds.length=n then bind (k4 ds) k else bad
 | _=>bad
theorem xy (n:Nat) {r:Ev} {q:EvK} {a:Lc} (e:Expr) (ρ:Env) {b:Type} (k:Src×Nat->M b) (h:EqK r q):rgK n q a e ρ k=bind (rgE n r a e ρ) k:=by
 unfold rgK rgE;split
 ·simp only [o3 h,bind_assoc,u0,al]
 ·first
  | rfl
  | (rename_i c;split;exact (c _ _ _ _ rfl).elim;rfl)
def uA:RuI where
 is Γ lc _ e:=uV 1 Γ lc e
 run r _ _ lc e ρ:=rgE 1 r lc e ρ
 ok {T k r Γ C lc X} g e R TX h hi:=by
  unfold uV at hi;split at hi
  ·rename_i f p es pos;simp only [HS,Iz,IL] at hi;obtain ⟨⟨⟨⟨rfl,c⟩,b⟩,i⟩,d⟩:=hi
   match es,c,b with
   | [a],_,b=>exact gX (h.gl d) (TX.none h (by decide) i) (o8 R h b) (by simpa using b)
  ·cases hi
 runK q _ _ lc e ρ _ k:=rgK 1 q lc e ρ k
 eq e ρ _ k h:=xy 1 e ρ k h
def sY:RuI where
 is Γ lc _ e:=uV 2 Γ lc e
 run r _ _ lc e ρ:=rgE 2 r lc e ρ
 ok {T k r Γ C lc X} g e R TX h hi:=by
  unfold uV at hi;split at hi
  ·rename_i f p es pos;simp only [HS,Iz,IL] at hi;obtain ⟨⟨⟨⟨rfl,i⟩,d⟩,j⟩,l⟩:=hi
   match es,i,d with
   | [a,b],_,d=>
    have c:noStar a=true/\noStar b=true:=by simpa using d
    exact gv (h.gl l) (TX.none h (by decide) j) (o8 R h d) c.1 c.2
  ·cases hi
 runK q _ _ lc e ρ _ k:=rgK 2 q lc e ρ k
 eq e ρ _ k h:=xy 2 e ρ k h
def DL:RuI where
 is Γ lc g e:=match g,e with
  | .Tuple _ _ _,.Call (.Name f _) [a] [] _=>decide (f = "enumerate")&&noStar a&&(Γ.gl.lookup ("enumerate" : Str)).isNone&&glB lc.sc "enumerate"
  | _,_=>false
 run r _ _ lc e ρ:=match e with
  | .Call (.Name _ _) [a] [] _=>bind (v5 r lc [a] ρ) λds=>(match ds with
   | [d]=>aS d
   | _=>bad)
  | _=>bad
 ok {T k r Γ C lc X} g e R TX h hi:=by
  split at hi
  ·simp only [HS,Iz,IL] at hi;obtain ⟨⟨⟨rfl,b⟩,c⟩,j⟩:=hi;exact nk (h.gl j) (TX.none h (by decide) c) (o8 R h (by simpa using b)) b
  ·cases hi
 runK q _ _ lc e ρ _ k:=match e with
  | .Call (.Name _ _) [a] [] _=>A1 q lc [a] ρ λds=>(match ds with
   | [d]=>bind (aS d) k
   | _=>bad)
  | _=>bad
 eq e ρ _ k h:=by
  split
  ·simp only [o3 h,bind_assoc];congr;funext ds
   match ds with
   | []=>rfl
   | [_]=>rfl
   | _ :: _ :: _=>rfl
  ·first
   | rfl
   | (rename_i i;split;exact (i _ _ _ _ rfl).elim;rfl)
def HF:RuI where
 is _ _ _ _:=true
 run r _ _ lc e ρ:=bind (r.e lc e ρ) u8
 ok g e R TX h hi:=vb (R.ex h e)
 runK q _ _ lc e ρ _ k:=q.e lc e ρ λd=>bind (u8 d) k
 eq e ρ _ k h:=by simp only [h.e,bind_assoc]
def gY (a b:Scope):Scope:={ a with names:=a.names.map λ(n,k)=>if (k==.free&&b.kind==.function&&b.names.lookup n==some .cell) then (n,NameKind.cell) else (n,k) }
theorem lR (a:Scope) (b:PySem.Env):relabel a b=gY a b.scope:=rfl
def m8 (a:Scope):List Str:=(a.names.filter λy=>y.2==.free).map (·.1)
def y4 (b:Lc) (a:Scope) (xs:List Str):Bool:=
 decide (a.kind=.function)&&a.names.all (λy=>decide (y.2≠.cell))&&a.names.all (λy=>decide (y.2=.local->a.names.lookup y.1=some .local))
  && a.names.all (λy=>decide (y.2=.free->a.names.lookup y.1=some .free/\(b.sc.names.lookup y.1=some .cell\/b.sc.names.lookup y.1=some .free)))
  && (m8 a).all (λz=>decide (a.names.lookup z=some .free))&&decide ((xs++m8 a).Nodup)&&xs.all (λx=>decide (a.names.lookup x=some .local))&&!quiet b
theorem fz:∀ {xs:List α} {ys:List β},j4 f xs=some ys->ys.length=xs.length
 | [],_,e=>by cases e;rfl
 | x :: xs,ys,e=>by
  simp only [j4] at e;cases a:f x with
  | none=>rw [a] at e;cases e
  | some y=>
   cases b:j4 f xs with
   | none=>grind
   | some c=>rw [a,b] at e;cases e;simp [fz b]
theorem fW:∀ {xs:List α} {ys:List β} {j:Nat} {y:β},j4 f xs=some ys->ys[j]?=some y->∃ x,xs[j]?=some x/\f x=some y
 | [],_,_,_,e,h=>by cases e;simp at h
 | x :: xs,ys,j,y,e,h=>by
  simp only [j4] at e;cases a:f x with
  | none=>rw [a] at e;cases e
  | some z=>
   cases b:j4 f xs with
   | none=>grind
   | some c=>
    rw [a,b] at e;cases e;cases j with
    | zero=>grind
    | succ j=>simpa using fW b (by simpa using h)
def j8 (b:Lc) (a:Scope) (xs:List Str):Lc:=⟨xs++m8 a,gY a b.sc,false,[]⟩
def testsE (r:Ev) (a:Lc) (ifs:List Expr) (ρ:Env):M Bool:=match ifs with
 | []=>ret true
 | [c]=>r.t a c ρ
 | _=>bad
def testsK (q:EvK) (a:Lc) (ifs:List Expr) (ρ:Env):M Bool:=match ifs with
 | []=>ret true
 | [c]=>q.t a c ρ ret
 | _=>bad
theorem tests_eq (h:EqK r q) (ifs:List Expr) (ρ:Env):testsK q lc ifs ρ=testsE r lc ifs ρ:=by
 match ifs with
 | []=>rfl
 | [c]=>simp only [testsK,testsE,h.t,D2]
 | _ :: _ :: _=>rfl
section
variable {T:Tx} {k:Nat} {r:Ev} {q:EvK} {Γ:Gm} {C:Cf} {lc:Lc} {X:Cx}
theorem tests_ok (R:EvOk T k r) (h:CxOk T k lc X) {ifs:List Expr}:PTL X ifs (tBo X.K T.cl (xOf X) (testsE r lc ifs)):=by
 match ifs with
 | []=>exact li
 | [c]=>exact wj (R.tx h c)
 | _ :: _ :: _=>exact λ_ _ _ _ _ _ ⟨_,_,_,_,_,p⟩=>p.elim
theorem E9 (h:CxOk T k lc X) {a:Scope} {xs:List Str} {caps:List Nat} (f:y4 lc a xs=true) (c:j4 (i6 lc.N) (m8 a)=some caps):CompText X.N X.env (xs++m8 a) xs.length caps a/\(xs++m8 a).Nodup/\(∀ x∈xs,a.names.lookup x=some .local)/\quiet lc=false/\a.kind=.function:=by
 simp only [y4,HS,Iz,Ix,Jd] at f;obtain ⟨⟨⟨⟨⟨⟨⟨b,s⟩,o⟩,r⟩,l⟩,n⟩,t⟩,p⟩:=f;refine ⟨⟨b,s,o,λy m q=>?_,λj i e=>?_,?_⟩,n,t,p,b⟩
 ·rw [h.sc];exact r y m q
 ·obtain ⟨z,d,g⟩:=fW c e;refine ⟨z,by rw [h.N];exact u3 g,?_,l z (Io d)⟩;rw [IB (by omega)];simpa using d
 ·simp [fz c,Nat.add_comm]
theorem y3 (h:CxOk T k lc X) (b:quiet lc=false) {a:Scope} {xs:List Str} (d:a.kind=.function) (e:(xs++m8 a).Nodup) (pins:List (Addr×Obj)) (C:Addr) (c:List Addr) (s:Shared) (H:Hp):CxOk T k (j8 lc a xs) (d6 X pins (xs++m8 a) a C c s H):=
 ⟨h.prog,h.w,h.K,h.mg,h.base,rfl,e,by show relabel a X.env=gY a lc.sc;rw [lR,h.sc],λ_=>h.calm b,(by have:=h.room;rw [b] at this;exact this),PassesOwn.never,rfl,d,λz=>Bool.noConfusion z⟩
end
def e9 (src:Src) (t:D->M Bool) (f:D->M D):Nat->Nat->List D->M (List D)
 | 0,_,_=>bad
 | m+1,i,es=>λS=>match src i S with
  | none=>.bad
  | some none=>.ok es S
  | some (some d)=>bind (t d) (λb=>if b=true then bind (f d) (λy=>if es.length<sizeLine then e9 src t f m (i+1) (es++[y]) else bad) else e9 src t f m (i+1) es) S
theorem av (src:Src) (t:Env->M Bool) (f:Env->M D) (mk:D->Env):∀ m i es,u9 src t f mk m i es=e9 src (λd=>t (mk d)) (λd=>f (mk d)) m i es
 | 0,_,_=>rfl
 | m+1,i,es=>by
  funext S;simp only [u9,e9,av src t f mk m]
  all_goals (cases src i S with
  | none=>rfl
  | some o=>cases o <;> rfl)
def y9 (r:Ev) (c:Lc) (d:Expr) (x:Str) (e:Pos) (b:Expr) (ifs:List Expr) (a:Scope) (ρ:Env):M (List D):=match j4 (i6 c.N) (m8 a) with
 | some caps=>nx (cO caps (r.i c (.Name x e) b) (testsE r (j8 c a [x]) ifs) (r.e (j8 c a [x]) d) ρ)
 | none=>bad
def U0 (q:EvK) (c:Lc) (e:Expr) (x:Str) (h:Pos) (b:Expr) (ifs:List Expr) (a:Scope) (ρ:Env) {f:Type} (k:List D->M f):M f:=match j4 (i6 c.N) (m8 a) with
 | some caps=>bind (nx (q.i c (.Name x h) b ρ λg=>e9 g.1 (λd=>testsK q (j8 c a [x]) ifs (some d :: G6 caps ρ)) (λd=>q.e (j8 c a [x]) e (some d :: G6 caps ρ) ret) g.2 0 [])) k
 | none=>bad
theorem P9 (h:EqK r q) (c:Expr) (x:Str) (d:Pos) (b:Expr) (ifs:List Expr) (a:Scope) (ρ:Env) {e:Type} (k:List D->M e):U0 q lc c x d b ifs a ρ k=bind (y9 r lc c x d b ifs a ρ) k:=by
 unfold U0 y9;cases j4 (i6 lc.N) (m8 a) with
 | none=>rfl
 | some caps=>simp only [h.i,h.e,D2,tests_eq h,cO,av]
theorem oT (R:EvOk T k r) (h:CxOk T k lc X) {c:Expr} {x:Str} {g pos:Pos} {b:Expr} {ifs:List Expr} {a:Scope} (m:y4 lc a [x]=true) (o:v4 b=true) :
  PE X (.ListComp c [⟨.Name x g,b,ifs,0⟩] a pos) (tD X.K T.cl (xOf X) λρ=>bind (y9 r lc c x g b ifs a ρ) λds=>ret (.lst ds)):=by
 unfold y9;cases l:j4 (i6 lc.N) (m8 a) with
 | none=>exact f8
 | some caps=>
  obtain ⟨n,e,j,f,i⟩:=E9 h m l;refine jT (ez n (h.calm f) e rfl (j x (by simp)) (PI.x0 (R.ix h _ _)) (λpins C d s H=>?_) (λpins C d s H=>?_) o)
  ·exact PTL.x0 (tests_ok R (y3 h f i e pins C d s H))
  ·exact PE.x0 (R.ex (y3 h f i e pins C d s H) c)
def zg:RuE where
 is _ lc e:=match e with
  | .ListComp _ [⟨.Name x _,b,_,0⟩] a _=>y4 lc a [x]&&v4 b
  | _=>false
 run r _ _ lc e ρ:=match e with
  | .ListComp c [⟨.Name x d,b,ifs,0⟩] a _=>bind (y9 r lc c x d b ifs a ρ) λds=>ret (.lst ds)
  | _=>bad
 ok e R TX h hi:=by
  split at hi
  ·rw [HS] at hi;exact oT R h hi.1 hi.2
  ·cases hi
 runK q _ _ lc e ρ _ k:=match e with
  | .ListComp c [⟨.Name x d,b,ifs,0⟩] a _=>U0 q lc c x d b ifs a ρ λds=>k (.lst ds)
  | _=>bad
 eq e ρ _ k h:=by
  split
  ·simp only [P9 h,bind_assoc,j7]
  ·first
   | rfl
   | (rename_i f;split;exact (f _ _ _ _ _ _ _ rfl).elim;rfl)
def az (r:Ev) (c:Lc) (d:Expr) (x y:Str) (f h g:Pos) (e:Nat) (b:Expr) (ifs:List Expr) (a:Scope) (ρ:Env):M (List D):=match j4 (i6 c.N) (m8 a) with
 | some caps=>nx (cm caps (r.i c (.Tuple [.Name x f,.Name y h] e g) b) (testsE r (j8 c a [x,y]) ifs) (r.e (j8 c a [x,y]) d) ρ)
 | none=>bad
def gW (q:EvK) (c:Lc) (e:Expr) (x y:Str) (i l j:Pos) (h:Nat) (b:Expr) (ifs:List Expr) (a:Scope) (ρ:Env) {f:Type} (k:List D->M f):M f:=match j4 (i6 c.N) (m8 a) with
 | some caps=>bind (nx (q.i c (.Tuple [.Name x i,.Name y l] h j) b ρ λg=>e9 g.1 (λd=>qW (testsK q (j8 c a [x,y]) ifs) (mk2 (G6 caps ρ) d)) (λd=>q.e (j8 c a [x,y]) e (mk2 (G6 caps ρ) d) ret) g.2 0 [])) k
 | none=>bad
theorem pg (h:EqK r q) (c:Expr) (x y:Str) (f i g:Pos) (d:Nat) (b:Expr) (ifs:List Expr) (a:Scope) (ρ:Env) {j:Type} (k:List D->M j):gW q lc c x y f i g d b ifs a ρ k=bind (az r lc c x y f i g d b ifs a ρ) k:=by
 unfold gW az;cases j4 (i6 lc.N) (m8 a) with
 | none=>rfl
 | some caps=>
  have e:testsK q (j8 lc a [x,y]) ifs=testsE r (j8 lc a [x,y]) ifs:=funext λρ=>tests_eq h ifs ρ;simp only [h.i,h.e,D2,e,cm,av]
theorem qU (R:EvOk T k r) (h:CxOk T k lc X) {c:Expr} {x y:Str} {l n m pos:Pos} {i:Nat} {b:Expr} {ifs:List Expr} {a:Scope} (p:y4 lc a [x,y]=true) (t:v4 b=true) :
  PE X (.ListComp c [⟨.Tuple [.Name x l,.Name y n] i m,b,ifs,0⟩] a pos) (tD X.K T.cl (xOf X) λρ=>bind (az r lc c x y l n m i b ifs a ρ) λds=>ret (.lst ds)):=by
 unfold az;cases o:j4 (i6 lc.N) (m8 a) with
 | none=>exact f8
 | some caps=>
  obtain ⟨q,e,g,f,j⟩:=E9 h p o;refine jT (kb q (h.calm f) e rfl rfl (g x (by simp)) (g y (by simp)) (PI.x0 (R.ix h _ _)) (λpins C d s H=>?_) (λpins C d s H=>?_) t)
  ·exact PTL.x0 (tests_ok R (y3 h f j e pins C d s H))
  ·exact PE.x0 (R.ex (y3 h f j e pins C d s H) c)
def yN:RuE where
 is _ lc e:=match e with
  | .ListComp _ [⟨.Tuple [.Name x _,.Name y _] _ _,b,_,0⟩] a _=>y4 lc a [x,y]&&v4 b
  | _=>false
 run r _ _ lc e ρ:=match e with
  | .ListComp c [⟨.Tuple [.Name x f,.Name y i] d g,b,ifs,0⟩] a _=>bind (az r lc c x y f i g d b ifs a ρ) λds=>ret (.lst ds)
  | _=>bad
 ok e R TX h hi:=by
  split at hi
  ·rw [HS] at hi;exact qU R h hi.1 hi.2
  ·cases hi
 runK q _ _ lc e ρ _ k:=match e with
  | .ListComp c [⟨.Tuple [.Name x f,.Name y i] d g,b,ifs,0⟩] a _=>gW q lc c x y f i g d b ifs a ρ λds=>k (.lst ds)
  | _=>bad
 eq e ρ _ k h:=by
  split
  ·simp only [pg h,bind_assoc,j7]
  ·first
   | rfl
   | (rename_i j;split;exact (j _ _ _ _ _ _ _ _ _ _ rfl).elim;rfl)
def zA (m:Str) (e:Expr):Bool:=match e with
 | .Call (.Attribute o n b) (a :: es) [] c=>decide (n=m)&&v1 o&&(a :: es).all noStar&&D1 (a :: es)&&(b.endLine==c.line)
 | _=>false
theorem wU (h:zA m e=true):∃ o b a es c,e=.Call (.Attribute o m b) (a :: es) [] c/\v1 o=true/\(a :: es).all noStar=true/\D1 (a :: es)=true/\(b.endLine==c.line)=true:=by
 unfold zA at h;grind
def mtE {c:Type} (g:D->M c) (op:D->List D->M D) (r:Ev) (b:Lc) (e:Expr) (ρ:Env):M D:=match e with
 | .Call (.Attribute o _ _) (a :: es) [] _=>bind (r.e b o ρ) λx=>bind (g x) λ_=>bind (v5 r b (a :: es) ρ) λds=>op x ds
 | _=>bad
def mtK {d:Type} (g:D->M d) (op:D->List D->M D) (q:EvK) (b:Lc) (e:Expr) (ρ:Env) {c:Type} (k:D->M c):M c:=match e with
 | .Call (.Attribute o _ _) (a :: es) [] _=>q.e b o ρ λx=>bind (g x) λ_=>A1 q b (a :: es) ρ λds=>bind (op x ds) k
 | _=>bad
theorem DG (g:D->M α) (op:D->List D->M D) {r:Ev} {q:EvK} {a:Lc} (e:Expr) (ρ:Env) {b:Type} (k:D->M b) (h:EqK r q):mtK g op q a e ρ k=bind (mtE g op r a e ρ) k:=by
 unfold mtK mtE;split
 ·simp only [h.e,o3 h,bind_assoc]
 ·first
  | rfl
  | (rename_i c;split;exact (c _ _ _ _ _ _ rfl).elim;rfl)
def rMt {α:Type} (m:Str) (g:D->M α) (op:D->List D->M D)
  (ok:∀ {T:Tx} {k:Nat} {lc:Lc} {X:Cx} {xe:Addr->Hp->Prop} {o a:Expr} {es:List Expr} {apos cpos:Pos} {f:Env->M D} {fs:Env->M (List D)},CxOk T k lc X->PE X o (tD X.K T.cl xe f)->PA X (a :: es) (tDs X.K T.cl xe fs)->v1 o=true->(a :: es).all noStar=true->D1 (a :: es)=true->(apos.endLine==cpos.line)=true->PE X (.Call (.Attribute o m apos) (a :: es) [] cpos) (tD X.K T.cl xe λρ=>bind (f ρ) λx=>bind (g x) λ_=>bind (fs ρ) λds=>op x ds)):RuE where
 is _ _ e:=zA m e
 run r _ _ lc e ρ:=mtE g op r lc e ρ
 ok {T k r Γ C lc X} e R TX h hi:=by
  obtain ⟨o,apos,a,es,cpos,rfl,c1,c2,c3,c4⟩:=wU hi;exact ok h (R.ex h o) (o8 R h c2) c1 c2 c3 c4
 runK q _ _ lc e ρ _ k:=mtK g op q lc e ρ k
 eq e ρ _ k h:=DG g op e ρ k h
def Ba:RuE:=rMt "index" sqK bo λh e d c f a b=>lH h.u80 e d c f a b
def FS:RuE:=rMt "pop" lstOf popD λ_ e d c f a b=>dF Kv PySem.F.slot_list_pop PySem.F.type_list_pop qQ iZ rO e d c f a b
def rAppend:RuE:=rMt "append" lstOf G9 λ_ e d c f a b=>mj e d c f a b
def Br:RuS where
 is _ _ e:=match e with
  | .Expr e _=>r8 e
  | _=>false
 run r _ _ lc e ρ:=match e with
  | .Expr e _=>bind (r.e lc e ρ) λ_=>ret (.nx ρ)
  | _=>bad
 ok e R TX h hf hi:=by
  cases e with
  | Expr e p=>exact pS (R.ex h _) hi
  | _=>exact P2
 runK q _ _ lc e ρ _ k:=match e with
  | .Expr e _=>q.e lc e ρ λ_=>k (.nx ρ)
  | _=>bad
 eq e ρ _ k h:=by
  cases e with
  | Expr e p=>simp only [h.e,bind_assoc,j7]
  | _=>rfl
def Fo:RuS where
 is _ _ e:=match e with
  | .Return (some _) _=>true
  | _=>false
 run r _ _ lc e ρ:=match e with
  | .Return (some e) _=>bind (r.e lc e ρ) λd=>ret (.rt d)
  | _=>bad
 ok e R TX h hf hi:=by
  split at hi
  ·exact jJ (R.ex h _)
  ·cases hi
 runK q _ _ lc e ρ _ k:=match e with
  | .Return (some e) _=>q.e lc e ρ λd=>k (.rt d)
  | _=>bad
 eq e ρ _ k h:=by
  split
  ·simp only [h.e,bind_assoc,j7]
  ·first
   | rfl
   | (rename_i a;split;exact (a _ _ rfl).elim;rfl)
def sIf:RuS where
 is _ _ e:=match e with
  | .If _ _ _ _=>true
  | _=>false
 run r _ _ lc e ρ:=match e with
  | .If c a b _=>bind (r.t lc c ρ) λq=>if q=true then P1 r lc a ρ else P1 r lc b ρ
  | _=>bad
 ok e R TX h hf hi:=by
  cases e with
  | If c a b p=>exact Ar (R.tx h _) (K3 R h hf) (K3 R h hf)
  | _=>exact P2
 runK q _ _ lc e ρ _ k:=match e with
  | .If c a b _=>q.t lc c ρ λz=>if z=true then i7 q lc a ρ k else i7 q lc b ρ k
  | _=>bad
 eq e ρ _ k h:=by
  cases e with
  | If c a b p=>simp only [h.t,U2 h,bind_assoc,u0]
  | _=>rfl
def cw (a:Lc) (x:Str):Bool:=(i6 a.N x).isSome&&bY a.sc x
def R9 (a:Lc) (x:Str) (ρ:Env) (d:D):M Fl:=match i6 a.N x with
 | some i=>ret (.nx (ρ.set i (some d)))
 | none=>bad
def y8 (b:Lc) (x:Str) (ρ:Env) (d:D) {a:Type} (k:Fl->M a):M a:=match i6 b.N x with
 | some i=>k (.nx (ρ.set i (some d)))
 | none=>bad
theorem bO (a:Lc) (x:Str) (ρ:Env) (d:D) {b:Type} (k:Fl->M b):bind (R9 a x ρ d) k=y8 a x ρ d k:=by
 unfold R9 y8;cases i6 a.N x <;> rfl
theorem gh {x:Str} {p pos:Pos} {e:Expr} {f:Env->M D} (h:CxOk T k lc X) (l:lc.fr=true) (a:cw lc x=true) (g:PE X e (tD X.K T.cl xe f)) (c:r8 e=true):PS X (.Assign [.Name x p] e pos) (sD X.K T.cl xe λρ=>bind (f ρ) (R9 lc x ρ)):=by
 rw [cw,HS,IZ] at a;obtain ⟨⟨i,b⟩,j⟩:=a;have:=tQ (pos:=pos) (pos':=p) h.nd' (by rw [h.N];exact u3 b) (by rw [h.sc];exact G7 j) g c (.inl (h.fn1 l));have e:R9 lc x=λρ d=>ret (.nx (ρ.set i (some d))):=by funext ρ d;simp only [R9,b]
 simp_all
def GH:RuS where
 is _ lc e:=match e with
  | .Assign [.Name x _] e _=>cw lc x&&r8 e
  | _=>false
 run r _ _ lc e ρ:=match e with
  | .Assign [.Name x _] e _=>bind (r.e lc e ρ) (R9 lc x ρ)
  | _=>bad
 ok e R TX h hf hi:=by
  split at hi
  ·rw [HS] at hi;exact gh h hf hi.1 (R.ex h _) hi.2
  ·cases hi
 runK q _ _ lc e ρ _ k:=match e with
  | .Assign [.Name x _] e _=>q.e lc e ρ λd=>y8 lc x ρ d k
  | _=>bad
 eq e ρ _ k h:=by
  split
  ·simp only [h.e,bind_assoc,bO]
  ·first
   | rfl
   | (rename_i a;split;exact (a _ _ _ _ rfl).elim;rfl)
def EK:RuS where
 is _ lc e:=match e with
  | .Assign [.Name x _] (.List es _) _=>cw lc x&&decide (x∈lc.mu)&&es.all noStar
  | _=>false
 run r _ _ lc e ρ:=match e with
  | .Assign [.Name x _] (.List es _) _=>bind (bind (v5 r lc es ρ) newL) (R9 lc x ρ)
  | _=>bad
 ok e R TX h hf hi:=by
  split at hi
  ·rw [HS,HS] at hi;exact gh h hf hi.1.1 (sw (o8 R h hi.2)) rfl
  ·cases hi
 runK q _ _ lc e ρ _ k:=match e with
  | .Assign [.Name x _] (.List es _) _=>A1 q lc es ρ λds=>bind (newL ds) λd=>y8 lc x ρ d k
  | _=>bad
 eq e ρ _ k h:=by
  split
  ·simp only [o3 h,bind_assoc,bO]
  ·first
   | rfl
   | (rename_i a;split;exact (a _ _ _ _ _ rfl).elim;rfl)
def uL:RuS where
 is _ lc e:=match e with
  | .Assign [.Name x _] (.BinOp _ .Mult _ _) _=>cw lc x&&decide (x∈lc.mu)
  | _=>false
 run r _ _ lc e ρ:=match e with
  | .Assign [.Name x _] (.BinOp a .Mult b _) _=>bind (bind (r.e lc a ρ) λy=>bind (r.e lc b ρ) λz=>qD y z) (R9 lc x ρ)
  | _=>bad
 ok e R TX h hf hi:=by
  split at hi
  ·rw [HS] at hi;exact gh h hf hi.1 (qX (R.ex h _) (R.ex h _) BM) rfl
  ·cases hi
 runK q _ _ lc e ρ _ k:=match e with
  | .Assign [.Name x _] (.BinOp a .Mult b _) _=>q.e lc a ρ λy=>q.e lc b ρ λz=>bind (qD y z) λd=>y8 lc x ρ d k
  | _=>bad
 eq e ρ _ k h:=by
  split
  ·simp only [h.e,bind_assoc,bO]
  ·first
   | rfl
   | (rename_i c;split;exact (c _ _ _ _ _ _ rfl).elim;rfl)
def swB (c:Lc) (b:Expr) (a:Scope) (t:Str) (pos:Pos):Bool:=c.sc.names.lookup t==some .local&&pos.line==b.pos.line&&!(a.names.any λ(n,k)=>n==t&&(k==.local||k==.cell))
theorem wt (h:CxOk T k lc X) (d:Expr) (c:List Comprehension) (a:Scope) (x:Str) (pos' pos b:Pos):swapsWith (.ListComp d c a b) (some (.Name x pos')) pos.line X.env=pure (swB lc (.ListComp d c a b) a x pos'):=by
 show pure (X.env.blockKind==.function&&X.env.kindOf x==some .local&&pos'.line==(Expr.ListComp d c a b).pos.line&&!(a.names.any λ(n,k)=>n==x&&(k==.local||k==.cell)))=_;have f:X.env.blockKind=.function:=by unfold PySem.Env.blockKind;rw [h.sc,h.kd];rfl
 have e:X.env.kindOf x=lc.sc.names.lookup x:=by unfold PySem.Env.kindOf;rw [h.sc]
 rw [f,e];rfl
theorem oJ {T:Tx} {k i:Nat} {f:Lc} {X:Cx} {x:Str} {p pos:Pos} {e:Expr} {fs:Env->M (List D)} {xe:Addr->Hp->Prop} (r:i6 f.N x=some i) (h:PS X (.Assign [.Name x p] e pos) (pZ (qJ X.K T.cl x0 fs) (bH i))):PS X (.Assign [.Name x p] e pos) (sD X.K T.cl xe λρ=>bind (bind (nx (fs ρ)) λds=>ret (.lst ds)) (R9 f x ρ)):=PS.imp h λD σ H ⟨μ,S,ρ,g,n,p⟩=>
 ⟨μ,S,ρ,g,n,p.bind.bind.nx.imp λds S1 a j l c o m ys q b=>by
  have d:=o.ret a j (Lat.refl _ _) c;simp only [R9,r] at d;exact d.ret a j (Lat.refl _ _) c _ ((g.later l).set (.lst q b) i)⟩
def rR:RuS where
 is _ lc e:=match e with
  | .Assign [.Name x _] (.ListComp _ [⟨.Name y _,b,_,0⟩] a _) _=>cw lc x&&y4 lc a [y]&&v4 b
  | _=>false
 run r _ _ lc e ρ:=match e with
  | .Assign [.Name x _] (.ListComp c [⟨.Name y g,b,ifs,0⟩] a _) _=>bind (bind (y9 r lc c y g b ifs a ρ) λds=>ret (.lst ds)) (R9 lc x ρ)
  | _=>bad
 ok {T k r Γ C lc X} e R TX h hf f:=by
  split at f
  ·rename_i x p c y g b ifs a d pos;rw [HS,HS] at f;obtain ⟨⟨N,K⟩,t⟩:=f;have m:=N;rw [cw,HS,IZ] at m;obtain ⟨⟨i,f⟩,M⟩:=m;have j:X.N[i]?=some x:=by rw [h.N];exact u3 f
   have n:L2.Loc X.env.scope x:=by rw [h.sc];exact G7 M
   have l:X.fn x=true\/X.env.scope.names.lookup x=some .local:=.inl (h.fn1 hf);have u:=wt h c [⟨.Name y g,b,ifs,0⟩] a x p pos d;unfold y9;cases L:j4 (i6 lc.N) (m8 a) with
   | none=>exact PS.imp eX λD σ H ⟨μ,S,ρ,J,F,p⟩=>p.bind.elim
   | some caps=>
    obtain ⟨z,o,I,v,E⟩:=E9 h K L;have G:=λpins C w s H=>PTL.x0 (tests_ok (ifs:=ifs) R (y3 h v E o pins C w s H));have A:=λpins C w s H=>PE.x0 (R.ex (y3 h v E o pins C w s H) c);refine oJ (k:=k) f ?_;cases B:swB lc (.ListComp c [⟨.Name y g,b,ifs,0⟩] a d) a x p with
    | false=>
     rw [B] at u;exact hF h.nd' j n (ez z (h.calm v) o rfl (I y (by simp)) (PI.x0 (R.ix h _ _)) G A t) u l
    | true=>
     rw [B] at u;exact PS.imp (aX u h.nd' j n l z (h.calm v) o rfl (I y (by simp)) (PI.x0 (R.ix h _ _)) G A (w9 t)) λD σ H ⟨μ,S,ρ,J,F,p⟩=>bC J F p
  ·cases f
 runK q _ _ lc e ρ _ k:=match e with
  | .Assign [.Name x _] (.ListComp c [⟨.Name y g,b,ifs,0⟩] a _) _=>U0 q lc c y g b ifs a ρ λds=>y8 lc x ρ (.lst ds) k
  | _=>bad
 eq e ρ _ k h:=by
  split
  ·simp only [P9 h,bind_assoc,j7,bO]
  ·first
   | rfl
   | (rename_i t;split;exact (t _ _ _ _ _ _ _ _ _ _ rfl).elim;rfl)
def w5 (a:Lc):List Expr->Option (List Nat)
 | []=>some []
 | .Name x _ :: b=>if bY a.sc x=true then (match i6 a.N x,w5 a b with
   | some i,some c=>some (i :: c)
   | _,_=>none) else none
 | _=>none
theorem z47_ok (h:CxOk T k lc X) (hf:lc.fr=true):∀ {ts:List Expr} {is:List Nat},w5 lc ts=some is->NamesAt X ts is
 | [],is,e=>by cases e;exact .nil
 | t :: ts,is,e=>by
  cases t with
  | Name x p=>
   simp only [w5] at e;by_cases hl:bY lc.sc x=true
   ·simp only [if_pos hl] at e;cases e1:i6 lc.N x with
    | none=>rw [e1] at e;cases e
    | some i=>
     cases e2:w5 lc ts with
     | none=>grind
     | some is'=>
      rw [e1,e2] at e;cases e;exact .cons (by rw [h.N];exact u3 e1) (by rw [h.sc];exact G7 hl) (.inl (h.fn1 hf)) (z47_ok h hf e2)
   ·grind
  | _=>simp only [w5] at e;cases e
def Fa:RuS where
 is _ lc e:=match e with
  | .Assign [.Tuple ts _ _] e _=>(w5 lc ts).isSome&&r8 e&&pc e&&!quiet lc
  | _=>false
 run r _ _ lc e ρ:=match e with
  | .Assign [.Tuple ts _ _] e _=>(match w5 lc ts with
   | some is=>bind (r.e lc e ρ) λd=>F6 (t7 is) d ρ
   | none=>bad)
  | _=>bad
 ok {T k r Γ C lc X} e R TX h hf hi:=by
  split at hi
  ·rename_i ts n p e pos;simp at hi;obtain ⟨⟨⟨h1,h2⟩,h3⟩,h4⟩:=hi;show PS X _ (sD X.K T.cl (xOf X) λρ=>(match w5 lc ts with
    | some is=>bind (r.e lc e ρ) λd=>F6 (t7 is) d ρ
    | none=>bad))
   cases e1:w5 lc ts with
   | none=>exact P2
   | some is=>exact vG (h.calm h4) h.nd' (z47_ok h hf e1) (R.ex h _) h2 h3
  ·cases hi
 runK q _ _ lc e ρ _ k:=match e with
  | .Assign [.Tuple ts _ _] e _=>(match w5 lc ts with
   | some is=>q.e lc e ρ λd=>bind (F6 (t7 is) d ρ) k
   | none=>bad)
  | _=>bad
 eq {r q Γ C lc} e ρ _ k h:=by
  split
  ·rename_i ts n p e pos;cases w5 lc ts with
   | none=>rfl
   | some is=>simp only [h.e,bind_assoc]
  ·first
   | rfl
   | (rename_i hn;split;exact (hn _ _ _ _ _ rfl).elim;rfl)
def ET:RuS where
 is _ _ e:=match e with
  | .Assign [.Subscript _ b _] e _=>r8 e&&G4 b
  | _=>false
 run r _ _ lc e ρ:=match e with
  | .Assign [.Subscript a b _] e _=>bind (r.e lc e ρ) λv=>bind (r.e lc a ρ) λx=>bind (r.e lc b ρ) λy=>bind (A9 x y v) λ_=>ret (.nx ρ)
  | _=>bad
 ok e R TX h hf hi:=by
  split at hi
  ·rw [HS] at hi;exact qK h.u1 (R.ex h _) (R.ex h _) (R.ex h _) hi.1 hi.2
  ·cases hi
 runK q _ _ lc e ρ _ k:=match e with
  | .Assign [.Subscript a b _] e _=>q.e lc e ρ λv=>q.e lc a ρ λx=>q.e lc b ρ λy=>bind (A9 x y v) λ_=>k (.nx ρ)
  | _=>bad
 eq e ρ _ k h:=by
  split
  ·simp only [h.e,bind_assoc,j7]
  ·first
   | rfl
   | (rename_i c;split;exact (c _ _ _ _ _ rfl).elim;rfl)
def tgE (b:Lc) (a:Expr):Option (D->Env->Option Env):=match a with
 | .Name x _=>if bY b.sc x=true then (i6 b.N x).map λi=>λd ρ=>some (ρ.set i (some d)) else none
 | .Tuple c _ _=>(w5 b c).map t7
 | _=>none
theorem Dd (h:CxOk T k lc X) (d:lc.fr=true) (g:quiet lc=false) {b:Expr} {tg:D->Env->Option Env} (e:tgE lc b=some tg):PG X b (tP X.K T.cl tg):=by
 unfold tgE at e;split at e
 ·rename_i x p;by_cases c:bY lc.sc x=true
  ·simp only [if_pos c] at e;cases a:i6 lc.N x with
   | none=>rw [a] at e;cases e
   | some i=>rw [a] at e;cases e;exact rL h.nd' (by rw [h.N];exact u3 a) (by rw [h.sc];exact G7 c) (.inl (h.fn1 d))
  ·grind
 ·rename_i f n p;cases a:w5 lc f with
  | none=>rw [a] at e;cases e
  | some j=>rw [a] at e;cases e;exact kJ (h.calm g) h.nd' (z47_ok h d a)
 ·cases e
def Fv:RuS where
 is _ lc e:=match e with
  | .For _ a _ [] _=>v4 a&&!quiet lc
  | _=>false
 run r _ _ lc e ρ:=match e with
  | .For b a body [] _=>(match tgE lc b with
   | some tg=>bind (r.i lc b a ρ) λp=>v7 p.1 tg (P1 r lc body) p.2 0 ρ
   | none=>bad)
  | _=>bad
 ok {T k r Γ C lc X} e R TX h hf hi:=by
  split at hi
  ·rename_i b a body pos;simp at hi;show PS X _ (sD X.K T.cl (xOf X) λρ=>(match tgE lc b with
    | some tg=>bind (r.i lc b a ρ) λp=>v7 p.1 tg (P1 r lc body) p.2 0 ρ
    | none=>bad))
   cases e:tgE lc b with
   | none=>exact P2
   | some tg=>exact wb h.po (h.calm hi.2) (R.ix h _ _) (Dd h hf hi.2 e) (K3 R h hf) hi.1
  ·cases hi
 runK q _ _ lc e ρ _ k:=match e with
  | .For b a body [] _=>(match tgE lc b with
   | some tg=>q.i lc b a ρ λp=>bind (v7 p.1 tg (λc=>i7 q lc body c ret) p.2 0 ρ) k
   | none=>bad)
  | _=>bad
 eq {r q Γ C lc} e ρ _ k h:=by
  split
  ·rename_i b a body pos;cases tgE lc b with
   | none=>rfl
   | some tg=>
    have:(λc=>i7 q lc body c ret)=P1 r lc body:=funext λc=>by rw [U2 h,D2]
    simp only [h.i,bind_assoc,this]
  ·first
   | rfl
   | (rename_i d;split;exact (d _ _ _ _ rfl).elim;rfl)
def w6 (t:Env->M Bool) (g:Env->M Fl):Nat->Env->M Fl
 | 0,_=>bad
 | m+1,ρ=>bind (t ρ) λq=>if q=true then bind (g ρ) (λb=>match b with
   | .nx a=>w6 t g m a
   | .ct a=>w6 t g m a
   | .bk a=>ret (.nx a)
   | .rt d=>ret (.rt d)) else ret (.nx ρ)
theorem lT {c:Expr} {body:List Stmt} {pos:Pos} {t:Env->M Bool} {g:Env->M Fl} (n:Nat) (hp:PassesOwn (model X.prog X.w) X.A X.env X.xe) (hc:PT X c (tBo X.K cl xe t)) (hb:PSs X body (sD X.K cl xe g)) :
  PS X (.While c body [] pos) (sD X.K cl xe λρ=>w6 t g n ρ):=PS.imp (pU hp hc hb) λD σ H ⟨μ,S,ρ,eo,rp,p⟩=>by
 refine ⟨λm σ H=>∃ μ2 S2 ρ2,EnvOk X.K μ2 H ρ2 σ/\Rep X.K cl μ2 S2 H/\Post X.K cl xe μ2 H (w6 t g m ρ2 S2) (λfl _ μ' H'=>FlOk X.K D fl μ' H'),⟨n,μ,S,ρ,eo,rp,p⟩,?_⟩;rintro m σ2 H2 ⟨μ2,S2,ρ2,eo2,r2,p2⟩;cases m with
 | zero=>exact p2.elim
 | succ m=>
  refine ⟨μ2,S2,ρ2,eo2,r2,p2.bind.imp λq S3 μ3 H3 l3 r3 p3=>?_⟩;cases q with
  | false=>exact p3.ret μ3 H3 (Lat.refl _ _) r3 σ2 (eo2.later l3)
  | true=>
   refine tI ?_;rw [if_pos rfl] at p3;refine ⟨λσ' H'=>∃ μ4 S4 ρ4,EnvOk X.K μ4 H' ρ4 σ'/\Rep X.K cl μ4 S4 H'/\Post X.K cl xe μ4 H' (w6 t g m ρ4 S4) (λfl _ μ' H'=>FlOk X.K D fl μ' H'),λσ' H' q=>⟨m,IP _,q⟩,?_⟩;refine ⟨μ3,S3,ρ2,eo2.later l3,r3,p3.bind.imp λfl S4 μ4 H4 l4 r4 p4=>?_⟩;cases fl with
   | nx ρ4=>exact λσ4 eo4=>⟨μ4,S4,ρ4,eo4,r4,p4⟩
   | ct ρ4=>exact λσ4 eo4=>⟨μ4,S4,ρ4,eo4,r4,p4⟩
   | bk ρ4=>exact p4.ret μ4 H4 (Lat.refl _ _) r4
   | rt d=>exact p4.ret μ4 H4 (Lat.refl _ _) r4
def ye:RuS where
 is _ _ e:=match e with
  | .While _ _ [] _=>true
  | _=>false
 run r _ _ lc e ρ:=match e with
  | .While c body [] _=>w6 (r.t lc c) (P1 r lc body) 10000 ρ
  | _=>bad
 ok e R TX h hf hi:=by
  split at hi
  ·exact lT 10000 h.po (R.tx h _) (K3 R h hf)
  ·cases hi
 runK q _ _ lc e ρ _ k:=match e with
  | .While c body [] _=>bind (w6 (λa=>q.t lc c a ret) (λa=>i7 q lc body a ret) 10000 ρ) k
  | _=>bad
 eq {r q Γ C lc} e ρ _ k h:=by
  split
  ·rename_i c body pos;have b:(λa=>i7 q lc body a ret)=P1 r lc body:=funext λa=>by rw [U2 h,D2]
   have f:(λa=>q.t lc c a ret)=r.t lc c:=funext λa=>by rw [h.t,D2]
   rw [b,f]
  ·first
   | rfl
   | (rename_i d;split;exact (d _ _ _ rfl).elim;rfl)
def PB (X:Cx) (cl:Nat->Addr) (st:Stmt) (g:Env->M Fl):Prop:=∀ (pins:List (Addr×Obj)) (s:Shared) (σ:L2.St) (H:Hp) (D:Ends) (F:Addr->Hp->Prop),L2.Inv X pins σ H s->sD X.K cl F g D σ H ->
 wpAny (model X.prog X.w) X.A (exec st X.env) (SP X pins D) (xL X pins σ F) s
def kK (b:Option Nat) (a:Fl):Fl:=match b with
 | none=>a
 | some i=>match a with
  | .nx ρ=>.nx (ρ.set i none)
  | .bk ρ=>.bk (ρ.set i none)
  | .ct ρ=>.ct (ρ.set i none)
  | .rt d=>.rt d
def pQ (a:Option Nat) (n:Nat) (ρ:Env):Env:=match a with
 | none=>ρ
 | some i=>ρ.set i (some (.ref n))
def Y2 (g:Env->M Fl) (a:Nat->Bool) (b:Option Nat) (h:Env->M Fl) (ρ:Env):M Fl:=λS=>match g ρ S with
 | .exn n S1=>(match S1[n]? with
  | some (.exc c _)=>if a c=true then bind (nx (h (pQ b n ρ))) (λd=>ret (kK b d)) S1 else .bad
  | _=>.bad)
 | r=>r
section
variable {X:Cx} {cl:Nat->Addr} {e:Expr} {f:Env->M D} {pos:Pos} {st:Stmt} {g:Env->M Fl}
theorem uC (h:PX X cl e f) (m:r8 e=true):PB X cl (.Expr e pos) λρ=>bind (f ρ) λ_=>ret (.nx ρ):=by
 intro pins s σ H D F I ⟨μ,S,ρ,c,l,p⟩;exact wpAny_Expr_any (thn (h pins s σ H (λ_ a=>D.nx σ a) F I ⟨μ,S,ρ,c,l,p.bind.imp λd S1 b a j g n v o=>n.ret b a (Lat.refl _ _) g σ (c.later j)⟩) λv q ⟨x,a,k,g,i⟩=>⟨σ,a,k,i⟩) I.quiet (F7 m)
theorem zo (h:PX X cl e f):PB X cl (.Return (some e) pos) λρ=>bind (f ρ) λd=>ret (.rt d):=by
 intro pins s σ H D F I ⟨μ,S,ρ,j,l,p⟩;exact wpAny_Return_some (thn (h pins s σ H D.rt F I ⟨μ,S,ρ,j,l,p.bind.imp λd S1 a c n b m v i=>m.ret a c (Lat.refl _ _) b v i⟩) λv o ⟨x,c,k,b,g⟩=>⟨x,σ,c,k,b,g⟩)
theorem yd (r:X.N.Nodup) (z:X.N[i]?=some x) (t:Loc X.env.scope x) (h:PX X cl e f) (u:r8 e=true) (o:X.fn x=true\/X.env.scope.names.lookup x=some .local) :
  PB X cl (.Assign [.Name x pos'] e pos) λρ=>bind (f ρ) λd=>ret (.nx (ρ.set i (some d))):=by
 intro pins s σ H D F I ⟨μ,S,ρ,g,q,p⟩;exact wpAny_Assign_Name (thn (h pins s σ H (λv a=>D.nx (σ.set i (some v)) a) F I ⟨μ,S,ρ,g,q,p.bind.imp λd S1 b a k c w v l=>w.ret b a (Lat.refl _ _) c _ ((g.later k).set l i)⟩) λv B ⟨y,a,m,c,j⟩=>Q0 m r z t c (λA n=>⟨_,a,n,j⟩) o) (F7 u)
theorem EnvOk.setN {K:PySem.W.Frag} {μ:Mp} {H:Hp} {ρ:Env} {σ:L2.St} (h:EnvOk K μ H ρ σ) (i:Nat):EnvOk K μ H (ρ.set i none) (σ.set i none):=by
 refine ⟨by simp [h.1],λj d e=>?_⟩;by_cases hij:i=j
 ·subst hij;have hi:i<ρ.length:=by simpa using (HN.mp e).1
  rw [IA hi] at e;cases e
 ·rw [HZ hij] at e;obtain ⟨v,q,r⟩:=h.2 j d e;exact ⟨v,by rw [HZ hij];exact q,r⟩
def jd (a:Option Nat) (D:Ends):Ends:=match a with
 | none=>D
 | some i=>{ nx:=λσ H=>D.nx (σ.set i none) H,rt:=D.rt,bk:=λσ H=>D.bk (σ.set i none) H,ct:=λσ H=>D.ct (σ.set i none) H }
theorem FlOk.goes {K:PySem.W.Frag} {D:Ends} {ie:Option Nat} {fl:Fl} {μ:Mp} {H:Hp} (h:FlOk K D (kK ie fl) μ H):FlOk K (jd ie D) fl μ H:=by
 cases ie with
 | none=>exact h
 | some i=>
  cases fl with
  | nx ρ=>exact λσ eo=>h _ (eo.setN i)
  | bk ρ=>exact λσ eo=>h _ (eo.setN i)
  | ct ρ=>exact λσ eo=>h _ (eo.setN i)
  | rt d=>exact h
structure TryAt (X:Cx) (nm:Option Str) (ie:Option Nat):Prop where
 nd:X.N.Nodup
 ex:(nm=none/\ie=none)\/∃ x i,nm=some x/\ie=some i/\X.N[i]?=some x/\X.env.scope.names.lookup x=some .local
theorem Aj {Tn:Str} {c0:Nat} {b0:Stmt} {suite:List Stmt} {hp tp:Pos} {sub:Nat->Bool} {h:Env->M Fl} (hst:X.stack=X.env :: X.outer) (hfr:X.env.frame=some X.env.locals) (hb:PB X cl st g)
  (hg:Gl X Tn) (hm:X.mg Tn=some (.ref (cl c0))) (hdb:(Tn==("__debug__" : Str))=false) (MT:XC X.K (cl c0)) (hk:∀ c,XC X.K (cl c)->PySem.W.kitOne X.K (.ref (cl c)) (.ref (cl c0))=some (sub c))
  (ta:TryAt X nm ie) (hs:∀ v,PSs (fv X v) (b0 :: suite) (sD X.K cl x0 h)) :
  PS X (.Try [st] [.ExceptHandler (some (.Name Tn tp)) nm (b0 :: suite) hp] [] [] pos) (sD X.K cl (xOf X) (Y2 g sub ie h)):=by
 intro pins s σ H D I ⟨μ,S,ρ,eo,rp,p⟩;rw [arm_exec_Try];have hpost:sD X.K cl (λa H1=>∃ n S1 μ1,g ρ S=.exn n S1/\Lat μ H μ1 H1/\Rep X.K cl μ1 S1 H1/\μ1.pl[n]?=some a) g D σ H:=⟨μ,S,ρ,eo,rp,by
  unfold Y2 at p;cases e:g ρ S with
  | ok fl S1=>rw [e] at p;exact p
  | exn n S1=>exact λμ' H' a l r q=>⟨n,S1,μ',rfl,l,r,q⟩
  | bad=>rw [e] at p;exact p⟩
 refine Hz (Kk (wpAny_tryStmt_except (Lu (IJ (hb pins s σ H D _ I hpost) (λf s1 q=>?_) λev s1 fl=>?_))))
 ·cases f with
  | next=>exact JV (JV q)
  | ret v=>exact q
  | brk=>exact q
  | cont=>exact q
 ·obtain ⟨a,H1,C,d,tb,he,I1,fx,n,S1,μ1,eg,l1,r1,e1⟩:=fl;subst he;refine ik I1 I1.ok.frames hst hfr fx λH2 s2 T I2 fx2 m2=>M1 I2 fx2 λs3 I3=>?_;obtain ⟨l2,r2⟩:=r1.mv I1.hok e1 fx.at_ m2;unfold Y2 at p;rw [eg] at p;simp only at p;cases eo1:S1[n]? with
  | none=>rw [eo1] at p;exact p.elim
  | some o=>
   rw [eo1] at p;cases o with
   | lst _=>exact p.elim
   | dct _=>exact p.elim
   | exc c fs=>
    simp only at p;by_cases hsub:sub c=true
    case neg=>rw [if_neg hsub] at p;exact p.elim
    rw [if_pos hsub] at p;have ec:=(oh I1.hok (r1.ats n _ a eo1 e1) fx.at_ fx.tb_).1;have hkc:=hk c (ec▸fx.xc);rw [<- ec,hsub] at hkc;have J3:=I3.hushed (.ref a);have p':=(Post.later p (l1.trans l2)).bind.nx (xe':=x0);have post:∀ σ',EnvOk X.K μ1 H2 (pQ ie n ρ) σ'->sD X.K cl x0 h (jd ie D) σ' H2:=λσ' eo'=>⟨μ1,S1,_,eo',r2,p'.imp λfl S2 μ2 H3 l3 r3 p3=>FlOk.goes (p3.ret μ2 H3 (Lat.refl _ _) r3)⟩;refine wpAny_handleBy_cons (codeAny_handlers_test (G3 J3 hg hm ?_ hdb)) (by intro z;cases z);refine gV J3.kIn fx2.xc MT (fx2.isX (X:=fv X (.ref a)) J3) hkc ?_;rcases ta.ex with ⟨rfl,rfl⟩ | ⟨x,i,rfl,rfl,hi,hl⟩
    ·refine codeAny_handlers_suite (M1 (X:=fv X (.ref a)) J3 fx2 λs4 J4=>?_);refine IJ (hs (.ref a) pins s4 σ H2 (jd none D) J4 (post σ (eo.later (l1.trans l2)))) (λf s5 q=>?_) λ_ _ z=>False.elim z;cases f with
     | next=>obtain ⟨σ',H',J,q⟩:=q;exact ⟨σ',H',J.unhush I.ok,q⟩
     | brk=>obtain ⟨σ',H',J,q⟩:=q;exact ⟨σ',H',J.unhush I.ok,q⟩
     | cont=>obtain ⟨σ',H',J,q⟩:=q;exact ⟨σ',H',J.unhush I.ok,q⟩
     | ret u=>obtain ⟨v,σ',H',J,r,q⟩:=q;exact ⟨v,σ',H',J.unhush I.ok,r,q⟩
    ·refine codeAny_handlers_suite_as (M1 (X:=fv X (.ref a)) J3 fx2 λs4 J4=>?_);refine Q0 (X:=fv X (.ref a)) (v:=.ref a) J4 ta.nd hi (.inl hl) rfl (λs5 J5=>?_) (.inr hl);refine IJ (hs (.ref a) pins s5 _ H2 (jd (some i) D) J5 (post _ ((eo.later (l1.trans l2)).set (.ref e1) i))) (λf s6 q=>?_) λ_ _ z=>False.elim z;cases f with
     | next=>obtain ⟨σ',H',J,q⟩:=q;exact Z4 (J.unhush I.ok) ta.nd hi hl λs7 I7=>⟨_,H',I7,q⟩
     | brk=>obtain ⟨σ',H',J,q⟩:=q;exact Z4 (J.unhush I.ok) ta.nd hi hl λs7 I7=>⟨_,H',I7,q⟩
     | cont=>obtain ⟨σ',H',J,q⟩:=q;exact Z4 (J.unhush I.ok) ta.nd hi hl λs7 I7=>⟨_,H',I7,q⟩
     | ret u=>obtain ⟨v,σ',H',J,r,q⟩:=q;exact Z4 (J.unhush I.ok) ta.nd hi hl λs7 I7=>⟨v,_,H',I7,r,q⟩
end
def BC:RuS where
 is Γ lc e:=match e with
  | .Raise (some (.Call (.Name x _) (a :: es) [] _)) none _=>q4 x&&glB lc.sc x&&(a :: es).all noStar&&!quiet lc
  | _=>false
 run r Γ _ lc e ρ:=match e with
  | .Raise (some (.Call (.Name x _) (a :: es) [] _)) none _=>bind (mI r Γ lc x (a :: es) ρ) D8
  | _=>bad
 ok {T k r Γ C lc X} e R TX h hf hi:=by
  split at hi
  ·simp only [HS,Jd] at hi;exact nq (h.calm hi.2) (ig R TX h hi.1.1.1 hi.1.1.2 hi.1.2 hi.2)
  ·cases hi
 runK q Γ _ lc e ρ _ k:=match e with
  | .Raise (some (.Call (.Name x _) (a :: es) [] _)) none _=>wA q Γ lc x (a :: es) ρ λd=>bind (D8 d) k
  | _=>bad
 eq {r q Γ C lc} e ρ _ k h:=by
  split
  ·simp only [nX h,bind_assoc]
  ·first
   | rfl
   | (rename_i b;split;exact (b _ _ _ _ _ _ rfl).elim;rfl)
def isR (Γ:Gm):Expr->Bool
 | .Call (.Name x _) (_ :: _) [] _=>nu Γ x λi _=>decide (i∉Γ.qs)
 | _=>false
def qT (r:Ev) (Γ:Gm) (C:Cf) (a:Lc) (x:Str) (es:List Expr) (ρ:Env):M D:=if q4 x=true/\glB a.sc x=true/\es.all noStar=true then (match Γ.gl.lookup x with
 | some (.fn i n)=>bind (nx (v5 r a es ρ)) λds=>if ds.length=n then C i ds else bad
 | _=>bad) else bad
def eB (r:Ev) (Γ:Gm) (C:Cf) (a:Lc) (e:Expr) (ρ:Env):M D:=if isR Γ e=true then (match e with
 | .Call (.Name x _) es [] _=>qT r Γ C a x es ρ
 | _=>bad) else nx (r.e a e ρ)
def rZ (q:EvK) (Γ:Gm) (C:Cf) (a:Lc) (x:Str) (es:List Expr) (ρ:Env):M D:=if q4 x=true/\glB a.sc x=true/\es.all noStar=true then (match Γ.gl.lookup x with
 | some (.fn i n)=>bind (nx (A1 q a es ρ ret)) λds=>if ds.length=n then C i ds else bad
 | _=>bad) else bad
def eBK (q:EvK) (Γ:Gm) (C:Cf) (a:Lc) (e:Expr) (ρ:Env):M D:=if isR Γ e=true then (match e with
 | .Call (.Name x _) es [] _=>rZ q Γ C a x es ρ
 | _=>bad) else nx (q.e a e ρ ret)
theorem EM (h:EqK r q) (e:Expr) (ρ:Env):eBK q Γ C lc e ρ=eB r Γ C lc e ρ:=by
 unfold eBK eB rZ qT;simp only [o3 h,h.e,D2]
theorem CN {T:Tx} {k:Nat} {r:Ev} {Γ:Gm} {C:Cf} {lc:Lc} {X:Cx} (R:EvOk T k r) (TX:TxOk T Γ k C) (h:CxOk T k lc X) (hq:quiet lc=false) (e:Expr):PX X T.cl e (eB r Γ C lc e):=by
 have pbad:PX X T.cl e λ_=>bad:=λ_ _ _ _ _ _ _ ⟨_,_,_,_,_,z⟩=>z.elim;unfold eB;by_cases hr:isR Γ e=true
 ·simp only [if_pos hr];unfold isR at hr;split at hr
  ·rename_i x p e0 es pos;obtain ⟨i,n,e1,hi⟩:=df hr;simp only;unfold qT;by_cases hc:q4 x=true/\glB lc.sc x=true/\(e0 :: es).all noStar=true
   ·simp only [if_pos hc,e1];obtain ⟨c1,c2,c3⟩:=hc;obtain ⟨n1,n2,n3⟩:=t6 c1;obtain ⟨a,fd,ps,f1,f2,f3,f4,f5⟩:=(TX.fn x i n e1 (Iu hi)).ex;exact vr f1 (by rw [h.prog,h.w,h.K,h.mg,h.base];exact f2) (h.room0 hq) (h.gl c2) (by rw [h.mg];exact f3) (by rw [h.K];exact f4) (by rw [h.K];exact f5) (PA.x0 (o8 R h.nox c3)) n1 c3
   ·simp only [if_neg hc];exact pbad
  ·cases hr
 ·simp only [if_neg hr];exact PX.of (PE.x0 (R.ex h.nox e))
def bX (g:Expr->Env->M D) (a:Lc) (st:Stmt) (ρ:Env):M Fl:=match st with
 | .Expr e _=>if r8 e=true then bind (g e ρ) λ_=>ret (.nx ρ) else bad
 | .Return (some e) _=>bind (g e ρ) λd=>ret (.rt d)
 | .Assign [.Name x _] e _=>(match i6 a.N x with
  | some i=>if bY a.sc x=true/\r8 e=true then bind (g e ρ) λd=>ret (.nx (ρ.set i (some d))) else bad
  | none=>bad)
 | _=>bad
theorem FI (h:CxOk T k lc X) (f:lc.fr=true) (b:∀ e,PX X T.cl e (g e)) (st:Stmt):PB X T.cl st (bX g lc st):=by
 have a:PB X T.cl st λ_=>bad:=λ_ _ _ _ _ _ _ ⟨_,_,_,_,_,z⟩=>z.elim;unfold bX;split
 ·rename_i e p;by_cases d:r8 e=true
  ·simp only [if_pos d];exact uC (b e) d
  ·grind
 ·exact zo (b _)
 ·rename_i x l e p;cases j:i6 lc.N x with
  | none=>exact a
  | some i=>
   by_cases c:bY lc.sc x=true/\r8 e=true
   ·simp only [if_pos c];exact yd h.nd' (by rw [h.N];exact u3 j) (by rw [h.sc];exact G7 c.1) (b e) c.2 (.inl (h.fn1 f))
   ·grind
 ·exact a
def nmI (a:Lc) (b:Option Str):Option (Option Nat):=match b with
 | none=>some none
 | some x=>match i6 a.N x with
  | some i=>if a.sc.names.lookup x=some .local then some (some i) else none
  | none=>none
def J7 (a:Lc):Lc:=⟨a.N,a.sc,a.fr,"~" :: a.mu⟩
theorem CxOk.hushed (h:CxOk T k lc X) (v:Value):CxOk T k (J7 lc) (fv X v):=by
 have a:quiet (J7 lc)=true:=by simp [quiet,J7]
 exact ⟨h.prog,h.w,h.K,h.mg,h.base,h.N,h.nd,h.sc,λz=>(by rw [a] at z;exact absurd z (by decide)),⟨λz=>(by rw [a] at z;exact absurd z (by decide)),h.room.dp,h.room.un,h.room.gd⟩,PassesOwn.never,h.fn,h.kd,λ_ z=>(by rw [a] at z;exact absurd z (by decide))⟩
def yF (Γ:Gm) (a:Lc) (e:Stmt):Bool:=match e with
 | .Try [_] [.ExceptHandler (some (.Name b _)) c (_ :: _) _] [] [] _=>q4 b&&glB a.sc b&&!quiet a&&uX Γ b&&(nmI a c).isSome
 | _=>false
def Dr (g:Ev->Gm->Cf->Lc->Expr->Env->M D) (r:Ev) (Γ:Gm) (C:Cf) (b:Lc) (e:Stmt) (ρ:Env):M Fl:=match e with
 | .Try [st] [.ExceptHandler (some (.Name i _)) d (f :: a) _] [] [] _=>(match Γ.gl.lookup i,nmI b d with
  | some (.err c0 _),some h=>Y2 (bX (g r Γ C b) b st) (λc=>Γ.sub c c0) h (P1 r (J7 b) (f :: a)) ρ
  | _,_=>bad)
 | _=>bad
def DU (g:EvK->Gm->Cf->Lc->Expr->Env->M D) (q:EvK) (Γ:Gm) (C:Cf) (b:Lc) (e:Stmt) (ρ:Env) {f:Type} (k:Fl->M f):M f:=match e with
 | .Try [st] [.ExceptHandler (some (.Name l _)) h (i :: a) _] [] [] _=>(match Γ.gl.lookup l,nmI b h with
  | some (.err c0 _),some j=>bind (Y2 (bX (g q Γ C b) b st) (λc=>Γ.sub c c0) j (λd=>i7 q (J7 b) (i :: a) d ret) ρ) k
  | _,_=>bad)
 | _=>bad
def ER (g:Ev->Gm->Cf->Lc->Expr->Env->M D) (gK:EvK->Gm->Cf->Lc->Expr->Env->M D) (hg:∀ {T:Tx} {k:Nat} {r:Ev} {Γ:Gm} {C:Cf} {lc:Lc} {X:Cx},EvOk T k r->TxOk T Γ k C->CxOk T k lc X->quiet lc=false->∀ e,PX X T.cl e (g r Γ C lc e))
  (hk:∀ {r:Ev} {q:EvK} {Γ:Gm} {C:Cf} {lc:Lc},EqK r q->∀ e ρ,gK q Γ C lc e ρ=g r Γ C lc e ρ):RuS where
 is:=yF
 run r Γ C lc e ρ:=Dr g r Γ C lc e ρ
 ok {T k r Γ C lc X} e R TX h hf hi:=by
  unfold yF at hi;split at hi
  ·rename_i st Tn tp nm b0 suite hp pos;simp at hi;obtain ⟨⟨⟨⟨c1,c2⟩,c3⟩,c4⟩,c5⟩:=hi;obtain ⟨n1,n2,n3⟩:=t6 c1;obtain ⟨hst,hfr⟩:=h.own hf c3;show PS X _ (sD X.K T.cl (xOf X) λρ=>(match Γ.gl.lookup Tn,nmI lc nm with
    | some (.err c0 _),some ie=>Y2 (bX (g r Γ C lc) lc st) (λc=>Γ.sub c c0) ie (P1 r (J7 lc) (b0 :: suite)) ρ
    | _,_=>bad))
   unfold uX at c4;split at c4
   ·rename_i c0 fs e;rw [e];obtain ⟨ea,na⟩:=TX.err Tn c0 fs e;cases hi:nmI lc nm with
    | none=>exact P2
    | some ie=>
     have ta:TryAt X nm ie:=by
      refine ⟨h.nd',?_⟩;unfold nmI at hi;split at hi
      ·grind
      ·rename_i x;split at hi
       ·rename_i i e1;split at hi
        ·rename_i hl;cases hi;exact .inr ⟨x,i,rfl,rfl,by rw [h.N];exact u3 e1,by rw [h.sc];exact hl⟩
        ·cases hi
       ·cases hi
     exact Aj hst hfr (FI h hf (hg R TX h c3) st) (h.gl c2) (by rw [h.mg];exact ea.mg_) n1 (by rw [h.K];exact ea.xc) (λc xc=>by rw [h.K] at xc ⊢;exact TX.sub Tn c c0 fs e xc) ta λv=>PSs.x0 (K3 R (h.hushed v) hf)
   ·cases c4
  ·cases hi
 runK q Γ C lc e ρ _ k:=DU gK q Γ C lc e ρ k
 eq {r q Γ C lc} e ρ _ k h:=by
  unfold DU Dr;split
  ·rename_i st Tn tp nm b0 suite hp pos;have e1:(λρ'=>i7 q (J7 lc) (b0 :: suite) ρ' ret)=P1 r (J7 lc) (b0 :: suite):=funext λρ'=>by rw [U2 h,D2]
   have e2:gK q Γ C lc=g r Γ C lc:=funext λe=>funext λρ=>hk h e ρ;rw [e1,e2];cases Γ.gl.lookup Tn with
   | none=>rfl
   | some z=>
    cases z with
    | err c fs=>cases nmI lc nm <;> rfl
    | _=>rfl
  ·first
   | rfl
   | (rename_i hn;split;exact (hn _ _ _ _ _ _ _ _ rfl).elim;rfl)
def GZ:RuS:=ER (λr Γ C a e ρ=>eB r Γ C a e ρ) (λq Γ C a e ρ=>eBK q Γ C a e ρ) (λR c h b e=>CN R c h b e) (λh e ρ=>EM h e ρ)
structure Fd where
 ps:List Str
 N:List Str
 sc:Scope
 body:List Stmt
 mu:List Str
def U6 (N:List Str) (ds:List D):Env:=ds.map some++List.replicate (N.length-ds.length) none
def endD (a:Fl):M D:=match a with
 | .rt d=>ret d
 | .nx _=>ret .non
 | _=>bad
abbrev t9 (fd:Fd):Lc:=⟨fd.N,fd.sc,true,fd.mu⟩
def P0 (Rs:Rules) (Γ:Gm) (a:List Fd):Nat->Nat->List D->M D
 | 0,_,_=>bad
 | k+1,i,ds=>match a[i]? with
  | none=>bad
  | some fd=>if ds.length=fd.ps.length then bind (P1 (ev Rs Γ (P0 Rs Γ a k) 40) (t9 fd) fd.body (U6 fd.N ds)) endD else bad
structure FnTx (T:Tx) (x:Str) (fd:Fd):Prop where
 ex:∃ (f:Addr) (da:FuncData) (qual:Str) (st:Stmt),Fun T.K x qual st f da/\j0 st=fd.body/\b9 st=fd.sc/\FnScope fd.N fd.ps fd.sc/\Binds T.K da fd.ps []/\T.mg x=some (.ref f)
theorem gJ {K:PySem.W.Frag} {μ:Mp} {H:Hp} {N:List Str} {ds:List D} {vs:List V} (r:RDs K μ H ds vs):EnvOk K μ H (U6 N ds) (L2.start N vs):=by
 unfold U6 L2.start;refine ⟨by simp [r.length],λi d e=>?_⟩;by_cases hi:i<ds.length
 ·rw [HW (by simpa using hi),Ie] at e;cases q:ds[i]? with
  | none=>rw [q] at e;cases e
  | some d'=>
   rw [q] at e;cases e;obtain ⟨v,e1,r1⟩:=r.get q;refine ⟨v,?_,r1⟩;rw [HW (by rw [Hy,<- r.length];exact hi),Ie,e1];rfl
 ·rw [IB (by simpa using Kb hi),Jb] at e;split at e <;> cases e
section
variable {P:Program} {w:World} {K:PySem.W.Frag} {mg:Str->Option Value} {base:Heap}
theorem nF {x b:Str} {st:Stmt} {f:Addr} {fd:FuncData} {N ps:List Str} {k:Nat} {sp:Sp} (F:Fun K x b st f fd) (S:FnScope N ps (b9 st)) (g:∀ vs H Q E,sp vs H Q E->vs.length=ps.length)
  (d:∀ (c:Value) (A:Around) (a:List PySem.Env) (s:Shared) (H:Hp) (vs:List V) (Q:VK) (E:XK),Room CX.q k (A.deeper (envOfC b (b9 st) s.heap.objs.size f c))->sp vs H Q E ->
   ∃ t,PSs (bW CX P w K mg base N b (b9 st) f c A a s H E) (j0 st) t/\t { nx:=λ_ H'=>Q .non H',rt:=Q } (start N vs) H):FnOk P w K mg base CX (k+1) f fd ps sp:=by
 obtain ⟨r,od,n,i,o,p,c,q,l,rfl,m,h⟩:=F.ex;exact wy m h S g λA a s H vs Q E j e=>d c A a s H vs Q E j e
theorem Post.fly {H0 H:Hp} {E:XK} {μ:Mp} {r:R α} {G:α->Sto->Mp->Hp->Prop} (p:Post K cl (iW E) μ H r G) :
  Post K cl (xOf (bW (CXd P w K) P w K mg base N qual scope f cd A outer s H0 E)) μ H r G:=by
 cases r with
 | ok a S=>exact p
 | bad=>exact p
 | exn n S=>
  intro μ' H' a l rp e pins σ s' C d tb I fx;refine gr I I.ok.frames rfl rfl fx λH2 s2 T I2 fx2 m2=>?_;obtain ⟨l2,r2⟩:=rp.mv I.hok e fx.at_ m2;exact ⟨a,C,d,some T,H2,rfl,I2.os,I2.bare,I2.base,I2.hok,fx2,p μ' H2 a (l.trans l2) r2 e⟩
end
theorem FnOk.unX {K:PySem.W.Frag} {mg:Str->Option Value} {base:Heap} {k n:Nat} {f:Addr} {fd:FuncData} {ps:List Str} {cl:Nat->Addr} {run:List D->M D} (F:FnOk P w K mg base (CXd P w K) k f fd ps (spX K cl n run)):FnOk P w K mg base (CXq false) k f fd ps (spD K cl n run):=
 ⟨λvs H Q E h=>F.len vs H Q E0 h,λA outer s H args us vs Q E hr e0 hb r h=>JY (F.run A outer s H args us vs Q E0 hr e0 hb r h) λres s' hq=>by
  cases res with
  | ok fl=>cases fl <;> exact hq
  | error e=>obtain ⟨_,_,_,_,_,_,_,_,_,_,_,z⟩:=hq;exact z⟩
section
variable {Rs:Rules} {T:Tx} {Γ:Gm} {Tb:List Fd} {k i:Nat} {x qual:Str} {st:Stmt} {f:Addr} {da:FuncData} {fd:Fd}
theorem fT (TX:TxOk T Γ (k+3) (P0 Rs Γ Tb k)) (hi:Tb[i]?=some fd) (F:Fun T.K x qual st f da) (h1:j0 st=fd.body) (h2:b9 st=fd.sc) (S:FnScope fd.N fd.ps fd.sc) (hq:quiet (t9 fd)=false) :
  FnOk T.P T.w T.K T.mg T.base (CXd T.P T.w T.K) (k+4) f da fd.ps (spX T.K T.cl fd.ps.length (P0 Rs Γ Tb (k+1) i)):=by
 have S':FnScope fd.N fd.ps (b9 st):=by rw [h2];exact S
 refine nF F S' (λvs H Q E h=>h.1) λcdv A outer s H vs Q E hr hsp=>?_;obtain ⟨hl,μ,S0,ds,rds,rp,p⟩:=hsp;have cx:CxOk T (k+3) (t9 fd) (bW (CXd T.P T.w T.K) T.P T.w T.K T.mg T.base fd.N qual (b9 st) f cdv A outer s H E):=⟨rfl,rfl,rfl,rfl,rfl,rfl,S.nd,h2,λ_=>rfl,by rw [hq];exact hr,λe s' z=>wpAny_leaving_again (SameStack.refl _) z,rfl,S.kind,λ_ _=>⟨rfl,rfl⟩⟩;have R:=rN (Rs:=Rs) TX 40;refine ⟨_,by rw [h1];exact K3 R cx rfl,?_⟩;refine ⟨μ,S0,U6 fd.N ds,gJ rds,rp,?_⟩;have hd:ds.length=fd.ps.length:=by rw [rds.length];exact hl
 simp only [P0,hi,if_pos hd] at p;refine Post.fly (p.bind.imp λfl S1 μ1 H1 l1 r1 p1=>?_);cases fl with
 | nx ρ=>exact λσ _=>p1 μ1 H1 (Lat.refl _ _) r1 _ .non
 | rt d=>exact λv rv=>p1 μ1 H1 (Lat.refl _ _) r1 v rv
 | bk ρ=>exact False.elim p1
 | ct ρ=>exact False.elim p1
theorem nJ (TX:TxOk T Γ (k+3) (P0 Rs Γ Tb k)) (hi:Tb[i]?=some fd) (F:Fun T.K x qual st f da) (h1:j0 st=fd.body) (h2:b9 st=fd.sc) (S:FnScope fd.N fd.ps fd.sc) (hq:quiet (t9 fd)=true) :
  FnOk T.P T.w T.K T.mg T.base (CXq true) (k+4) f da fd.ps (spD T.K T.cl fd.ps.length (P0 Rs Γ Tb (k+1) i)):=by
 have S':FnScope fd.N fd.ps (b9 st):=by rw [h2];exact S
 refine nF F S' (λvs H Q E h=>h.1) λcdv A outer s H vs Q E hr hsp=>?_;obtain ⟨hl,μ,S0,ds,rds,rp,p⟩:=hsp;have cx:CxOk T (k+3) (t9 fd) (bW (CXq true) T.P T.w T.K T.mg T.base fd.N qual (b9 st) f cdv A outer s H E).nox:=⟨rfl,rfl,rfl,rfl,rfl,rfl,S.nd,h2,λz=>(by rw [hq] at z;exact absurd z (by decide)),by rw [hq];exact hr,PassesOwn.never,rfl,S.kind,λ_ z=>(by rw [hq] at z;exact absurd z (by decide))⟩;have R:=rN (Rs:=Rs) TX 40;refine ⟨_,by rw [h1];exact PSs.nox (PSs.x0 (K3 R cx rfl)),?_⟩;refine ⟨μ,S0,U6 fd.N ds,gJ rds,rp,?_⟩;have hd:ds.length=fd.ps.length:=by rw [rds.length];exact hl
 simp only [P0,hi,if_pos hd] at p;refine p.bind.imp λfl S1 μ1 H1 l1 r1 p1=>?_;cases fl with
 | nx ρ=>exact λσ _=>p1 μ1 H1 (Lat.refl _ _) r1 _ .non
 | rt d=>exact λv rv=>p1 μ1 H1 (Lat.refl _ _) r1 v rv
 | bk ρ=>exact False.elim p1
 | ct ρ=>exact False.elim p1
theorem wH (d:TxOk T Γ (k+3) (P0 Rs Γ Tb k)) (a:Tb[i]?=some fd) (F:Fun T.K x qual st f da) (e:j0 st=fd.body) (b:b9 st=fd.sc) (S:FnScope fd.N fd.ps fd.sc) (c:quiet (t9 fd)=false:=by rfl) :
  FnOk T.P T.w T.K T.mg T.base (CXq false) (k+4) f da fd.ps (spD T.K T.cl fd.ps.length (P0 Rs Γ Tb (k+1) i)):=FnOk.unX (fT d a F e b S c)
def zL (Γ:Gm) (a:List Fd):Bool:=(List.range a.length).all λi=>match a[i]? with
 | some fd=>quiet (t9 fd)==Γ.qs.contains i
 | none=>false
theorem ib (h:zL Γ Tb=true) (hi:Tb[i]?=some fd):quiet (t9 fd)=Γ.qs.contains i:=by
 unfold zL at h;have:=(Ix.mp h) i (Iw.mpr (HN.mp hi).1);rw [hi] at this;simpa using this
end
structure TxSt (T:Tx) (Γ:Gm):Prop where
 blt:∀ x∈bnames,Γ.gl.lookup x=none->T.mg x=none
 val:∀ x d,Γ.gl.lookup x=some (.val d)->∃ u v,T.mg x=some u/\RelV v u/\∀ μ H,RD T.K μ H d v
 err:∀ x c fs,Γ.gl.lookup x=some (.err c fs)->ErrAt T x c fs/\(∀ g∈fs,v9 T.K (T.cl c) g)
 sub:∀ x c c0 fs,Γ.gl.lookup x=some (.err c0 fs)->XC T.K (T.cl c)->PySem.W.kitOne T.K (.ref (T.cl c)) (.ref (T.cl c0))=some (Γ.sub c c0)
 subV:∀ c,XC T.K (T.cl c)->PySem.W.kitOne T.K (.ref (T.cl c)) (.type "ValueError")=some true
 subT:∀ c,XC T.K (T.cl c)->∀ t∈tys,PySem.W.kitOne T.K (.ref (T.cl c)) (.type t)=some false
 fld:∀ g∈Γ.flds,∀ c,XC T.K (T.cl c)->v9 T.K (T.cl c) g
 dct:∀ x kvs,Γ.gl.lookup x=some (.dct kvs)->nL T x kvs
def pJ (T:Tx) (Γ:Gm) (a:List Fd):Prop:=∀ x i n,Γ.gl.lookup x=some (.fn i n)->∃ fd,a[i]?=some fd/\fd.ps.length=n/\FnTx T x fd
theorem TxSt.ok (h:TxSt T Γ) {k:Nat} {C:Cf} (f:∀ x i n,Γ.gl.lookup x=some (.fn i n)->i∉Γ.qs->FnX T (k+3) i n x (C i)) (a:∀ x i n,Γ.gl.lookup x=some (.fn i n)->i∈Γ.qs->FnAt T (k+3) i n x (C i)):TxOk T Γ (k+3) C:=⟨h.blt,h.val,f,a,h.err,h.sub,h.subV,h.subT,h.fld,h.dct,by omega⟩
theorem vd {T:Tx} {Γ:Gm} {q:List Fd} (h:TxSt T Γ) (fs:pJ T Γ q) (k:Nat) (w:zL Γ q=true:=by rfl):TxOk T Γ (k+3) (P0 Rs Γ q k):=by
 induction k with
 | zero=>
  have l:∀ x i n,Γ.gl.lookup x=some (.fn i n)->∃ (a:Addr) (fd:FuncData) (ps:List Str),ps.length=n/\(∀ CX,FnOk T.P T.w T.K T.mg T.base CX 3 a fd ps (spX T.K T.cl n (P0 Rs Γ q 0 i)))/\T.mg x=some (.ref a)/\PySem.W.keepIn T.K (.ref a)=true/\Binds T.K fd ps []:=λx i n e=>by
   obtain ⟨fd,d,c,g⟩:=fs x i n e;obtain ⟨f,o,j,st,F,_,_,_,b,m⟩:=g.ex;refine ⟨f,o,fd.ps,c,λCX=>⟨λvs H Q E h=>by rw [c];exact h.1,λA v s H z us vs Q E _ _ _ _ u=>?_⟩,m,F.kp,b⟩;obtain ⟨_,μ,S,ds,_,_,p⟩:=u;exact p.elim
  refine h.ok (λx i n e _=>?_) λx i n e _=>?_
  ·obtain ⟨a,fd,ps,d,c,g⟩:=l x i n e;exact ⟨a,fd,ps,d,c _,g⟩
  ·obtain ⟨a,fd,ps,d,c,g⟩:=l x i n e;exact ⟨a,fd,ps,d,FnOk.imp (c _) λvs H Q E ⟨_,μ,S,ds,_,_,p⟩=>p.elim,g⟩
 | succ k y=>
  refine h.ok (λx i n e B=>?_) λx i n e m=>?_
  ·obtain ⟨fd,d,c,g⟩:=fs x i n e;subst c;obtain ⟨f,o,j,st,F,r,t,S,b,m2⟩:=g.ex;exact ⟨f,o,fd.ps,rfl,fT y d F r t S (by rw [ib w d];simpa using B),m2,F.kp,b⟩
  ·obtain ⟨fd,d,c,g⟩:=fs x i n e;subst c;obtain ⟨f,o,j,st,F,r,t,S,b,m2⟩:=g.ex;exact ⟨f,o,fd.ps,rfl,nJ y d F r t S (by rw [ib w d];simpa using m),m2,F.kp,b⟩
def runK (Rs:Rules) (Γ:Gm) (C:Cf) (fd:Fd) (ds:List D):M D:=if ds.length=fd.ps.length then i7 (evK Rs Γ C 40) ⟨fd.N,fd.sc,true,fd.mu⟩ fd.body (U6 fd.N ds) endD else bad
theorem a7 {a:List Fd} {k i:Nat} {fd:Fd} (h:a[i]?=some fd) (ds:List D):P0 Rs Γ a (k+1) i ds=runK Rs Γ (P0 Rs Γ a k) fd ds:=by
 simp only [P0,h,runK];split
 ·rw [U2 (yD 40)]
 ·rfl
def qA (a:Arguments):List Str:=a.args.map (·.arg)
def td (ps:List Str) (a:Scope):List Str:=ps++(a.names.filter λy=>(y.2==.local||y.2==.cell)&&!ps.contains y.1).map (·.1)
def f6 (st:Stmt) (a:List Str):Fd:=⟨qA (k8 st),td (qA (k8 st)) (b9 st),b9 st,j0 st,a⟩
def di (fd:Fd):Bool:=decide (fd.sc.kind=.function)&&!fd.sc.isCoroutine&&!fd.sc.isGenerator&&decide fd.N.Nodup&&decide (fd.N.take fd.ps.length=fd.ps)&&fd.ps.all (λx=>bY fd.sc x)&&fd.sc.names.all (λy=>decide (y.2≠.free))
theorem aR (h:di fd=true):FnScope fd.N fd.ps fd.sc:=by
 simp only [di,HS,Iz,Ix,Jd] at h;obtain ⟨⟨⟨⟨⟨⟨i,b⟩,c⟩,d⟩,f⟩,e⟩,a⟩:=h;exact ⟨i,b,c,d,f,λx g=>G7 (e x g),a⟩
def Fn:RuE:=rBf "sum" "sum" true (one eT) (by decide) rfl λ_ a=>CI (a rfl)
def uK:RuE:=rMt "count" tupOf countT λ_ e c b f d a=>dF Ko JK Lq mL bu eH e c b f d a
section
variable {K:PySem.W.Frag} {cl:Nat->Addr} {xe:Addr->Hp->Prop} {μ:Mp} {H:Hp} {S:Sto}
theorem eO {p:Addr} {u:HO} {ob:O} {rs:List Addr} {kz:List V} (er:μ.rs=p :: rs) (nr:p∉rs) (hp:H p=some (.lst kz)) (rp:Rep K cl μ S H) (ho:OAt K cl ⟨μ.pl++[p],rs⟩ (upd H p u) p ob):Rep K cl ⟨μ.pl++[p],rs⟩ (S++[ob]) (upd H p u):=by
 have np:p∉μ.pl:=(rp.res p (by rw [er];exact HY)).1;have hp':∀ (n:Nat) (a:Addr),μ.pl[n]?=some a->(μ.pl++[p])[n]?=some a:=λn a e=>by rw [HW (HN.mp e).1];exact e
 have ho':∀ a w,H a=some w->a∉μ.pl->a∉μ.rs->upd H p u a=some w/\a∉(⟨μ.pl++[p],rs⟩:Mp).pl/\a∉(⟨μ.pl++[p],rs⟩:Mp).rs:=λa w e n1 n2=>by
  have ne:a≠p:=λz=>n2 (by rw [er,z];exact HY);refine ⟨by rw [b6 ne];exact e,λz=>?_,λz=>n2 (by rw [er];exact Ic _ z)⟩;rcases IC.mp z with z | z
  ·exact n1 z
  ·exact ne (ID.mp z)
 refine ⟨by simp [rp.len],?_,λn o a e1 e2=>?_,λa m=>?_⟩
 ·show (μ.pl++[p]).Nodup;rw [KE];exact ⟨rp.nd,by simp,λa m b m2=>by rw [ID.mp m2];rintro rfl;exact np m⟩
 ·have e2:(μ.pl++[p])[n]?=some a:=e2;by_cases hn:n<S.length
  ·rw [HW hn] at e1;rw [HW (by rw [rp.len];exact hn)] at e2;have h:=rp.ats n o a e1 e2;have ka:upd H p u a=H a:=b6 λz=>np (z▸Io e2);cases o with
   | lst ds=>obtain ⟨xs,e,q⟩:=h;exact ⟨xs,by rw [ka];exact e,q.move hp' ho'⟩
   | dct kvs=>obtain ⟨xs,e,q⟩:=h;exact ⟨xs,by rw [ka];exact e,Paired.mono (λ_ _ ⟨z,w⟩=>⟨z,w.move hp' ho'⟩) q⟩
   | exc c fs=>
    obtain ⟨xc,gs,q,fr,h⟩:=h;refine ⟨xc,gs,Paired.mono (λ_ _ ⟨z,w⟩=>⟨z,w.move hp' ho'⟩) q,fr,?_⟩;rcases h with ⟨z,e⟩ | ⟨d,h1,h2,e,e3⟩
    ·exact .inl ⟨z,by rw [ka];exact e⟩
    ·have ne:d≠p:=jp e3 hp (by intro z;cases z);refine .inr ⟨d,h1,λz=>?_,by rw [ka];exact e,by rw [b6 ne];exact e3⟩;rcases IC.mp z with z | z
     ·exact h2 z
     ·exact ne (ID.mp z)
  ·have hn2:n=S.length:=by
    have:=(HN.mp e1).1;simp at this;omega
   subst hn2;rw [<- rp.len] at e2;simp at e1 e2;subst e1;subst e2;exact ho
 ·have m:a∈rs:=m;obtain ⟨h1,w,h2⟩:=rp.res a (by rw [er];exact Ic _ m);have ne:a≠p:=λz=>nr (z▸m);refine ⟨λz=>?_,w,by rw [b6 ne];exact h2⟩;rcases IC.mp z with z | z
  ·exact h1 z
  ·exact ne (ID.mp z)
theorem eK (h:H p=some u):upd H p u=H:=by
 funext a;by_cases e:a=p
 ·rw [e,b8,h]
 ·rw [b6 e]
theorem ve (src:Src) (t:Env->M Bool) (f:Env->M D) (mk:D->Env) (m i:Nat) (es:List D) (S:Sto):bind (u9 src t f mk (m+1) i es) newL S=(match src i S with
  | none=>.bad
  | some none=>newL es S
  | some (some d)=>bind (t (mk d)) (λb=>if b=true then bind (f (mk d)) (λy=>if es.length<sizeLine then bind (u9 src t f mk m (i+1) (es++[y])) newL else bad) else bind (u9 src t f mk m (i+1) es) newL) S):=by
 have a:∀ {c m2:M (List D)},c S=m2 S->bind c newL S=bind m2 newL S:=λe=>by unfold L3.bind;rw [e]
 cases h:src i S with
 | none=>exact (a (by simp only [u9,h];rfl)).trans rfl
 | some o=>
  cases o with
  | none=>exact (a (by simp only [u9,h];rfl)).trans rfl
  | some d=>
   refine (a (m2:=bind (t (mk d)) (λb=>if b=true then bind (f (mk d)) (λy=>if es.length<sizeLine then u9 src t f mk m (i+1) (es++[y]) else bad) else u9 src t f mk m (i+1) es)) (by simp only [u9,h])).trans ?_;rw [bind_assoc];congr 1;congr 1;funext b;cases b with
   | true=>
    rw [if_pos rfl,if_pos rfl,bind_assoc];congr 1;funext y;split <;> rfl
   | false=>rfl
theorem L9 {σ:L2.St} {ρ:Env} {Q:VK} (eo:EnvOk K μ H ρ σ) (rp:Rep K cl μ S H)
  (p:Post K cl xe μ H (bind (cO caps fi t f ρ) newL S) λd _ μ' H'=>∀ v,RD K μ' H' d v->Q v H'):jb caps (tIt K cl xe fi) (tBo K cl xe t) (tD K cl xe f) σ H Q:=by
 unfold cO at p;rw [bind_assoc] at p;refine ⟨μ,S,ρ,eo,rp,p.bind.imp λsm S1 l H1 l1 U p1 J yl g c=>?_⟩;obtain ⟨src,m0⟩:=sm;have Z:=U.notrs c;refine ⟨λi m ys A=>∃ μ2 S2 es,HLat l H1 g μ2 A/\g∉μ2.pl/\A g=some (.lst ys)/\EnvOk K μ2 A ρ σ/\Rep K cl μ2 S2 A/\RDs K μ2 A es ys/\Post K cl xe l H1 (bind (u9 src t f (λd=>some d :: G6 caps ρ) m i es) newL S2) (λd _ μ' H'=>∀ v,RD K μ' H' d v->Q v H'),⟨m0,l.hold g,S1,[],?_,U.notin c,b8,R6 U c (eo.later l1),R3 U c,.nil,p1⟩,?_⟩
 ·refine ⟨⟨λ_ _ e=>e,λa o e _=>by rw [b6 (c8 e c)];exact e,λa m=>.inl m,λa m=>?_⟩,rfl⟩;rcases Ii.mp (m) with rfl | m
  ·exact .inr c
  ·exact .inl m
 rintro i m ys A ⟨μ2,S2,es,E,O,D,B,W,h,k⟩;refine ⟨D,?_⟩;cases m with
 | zero=>exact k.elim
 | succ m=>
  have y:bG K cl J i μ2 A S2 (src i S2):=yl i μ2 A S2 E.r.u W;rw [ve] at k;cases e1:src i S2 with
  | none=>rw [e1] at k;exact k.elim
  | some o=>
   rw [e1] at k y;cases o with
   | none=>
    refine .inl ⟨y,?_⟩;simp only [newL] at k;by_cases hz:es.length<=sizeLine
    ·rw [if_pos hz] at k;have C:=E.rs;have mv:RDs K ⟨μ2.pl++[g],l.rs⟩ A es ys:=h.move (λn a e=>by
      rw [HW (HN.mp e).1];exact e) λa u e n1 n2=>⟨e,λz=>by
       rcases IC.mp z with z | z
       ·exact n1 z
       ·exact n2 (by rw [C,ID.mp z];exact HY),λz=>n2 (by rw [C];exact Ic _ z)⟩
     have G:=eO (ob:=.lst es) C Z D W ⟨ys,b8,by rw [eK D];exact mv⟩;rw [eK D] at G;refine k ⟨μ2.pl++[g],l.rs⟩ A ⟨λn a e=>?_,λa o e n=>E.r.oth a o e n,λa ma=>?_,rfl⟩ G _ (.ref ?_)
     ·have e':=E.r.pre n a e;rw [HW (HN.mp e').1];exact e'
     ·rcases IC.mp ma with z | z
      ·exact E.r.new a z
      ·grind
     ·show (μ2.pl++[g])[S2.length]?=some g;rw [<- W.len];simp
    ·rw [if_neg hz] at k;exact k.elim
   | some d=>
    obtain ⟨y1,y2⟩:=y;refine .inr ⟨y1,λx H3 hy=>?_⟩;obtain ⟨T,r3,L⟩:=y2 x H3 hy;have h3:=E.step T;refine ⟨μ2,S2,_,S8 (B.later T) L,r3,(Post.at k h3).imp λb S5 I H5 X r5 p5=>?_⟩;have V:=h3.step X;have s:=T.trans X;have a5:=s.oth _ _ D O;have Y:=s.out D O;cases b with
    | false=>exact ⟨m,IP _,I,S5,es,V,Y,a5,B.later s,r5,h.later s,p5⟩
    | true=>
     refine tI ?_;rw [if_pos rfl] at p5;refine ⟨I,S5,_,(S8 (B.later T) L).later X,r5,(Post.at p5 V).imp λyv S6 μ6 H6 R r6 P v rv=>?_⟩;have F:=V.step R;have N:=s.trans R;have a6:=R.oth _ _ a5 Y;have n6:=R.out a5 Y;by_cases hz:es.length<sizeLine
     ·rw [if_pos hz] at P;have C:=F.rs;refine ⟨a6,by rw [<- h.length];exact hz,m,IP _,μ6,S6,es++[yv],?_,n6,b8,?_,V3 C a6 r6,U1 C ((h.later N).append (.cons rv .nil)),P⟩
      ·refine ⟨⟨F.r.pre,λa o e n=>?_,F.r.new,F.r.rsw⟩,C⟩;rw [b6 (c8 e c)];exact F.r.oth a o e n
      ·have M:=B.later N;exact ⟨M.1,λj e he=>let ⟨w,q,r⟩:=M.2 j e he;⟨w,q,aG C r⟩⟩
     ·rw [if_neg hz] at P;exact P.elim
end
theorem jB (m:M (List D)) (S:Sto):bind (nx m) newL S=nx (bind m newL) S:=by
 cases h:m S with
 | ok a S1=>
  have e2:nx m S=.ok a S1:=by unfold L3.nx;rw [h]
  have e3:bind (nx m) newL S=newL a S1:=by unfold L3.bind;rw [e2]
  have e:bind m newL S=newL a S1:=by unfold L3.bind;rw [h]
  rw [e3];unfold L3.nx;rw [e];simp only [newL];split <;> rfl
 | exn n S1=>
  have e:bind m newL S=.exn n S1:=by unfold L3.bind;rw [h]
  have e2:nx m S=.bad:=by unfold L3.nx;rw [h]
  have e3:bind (nx m) newL S=.bad:=by unfold L3.bind;rw [e2]
  rw [e3];unfold L3.nx;rw [e]
 | bad=>
  have e:bind m newL S=.bad:=by unfold L3.bind;rw [h]
  have e2:nx m S=.bad:=by unfold L3.nx;rw [h]
  have e3:bind (nx m) newL S=.bad:=by unfold L3.bind;rw [e2]
  rw [e3];unfold L3.nx;rw [e]
theorem nZ {T:Tx} {k i:Nat} {c:Lc} {X:Cx} {x:Str} {p pos:Pos} {e:Expr} {fs:Env->M (List D)} {xe:Addr->Hp->Prop} (g:i6 c.N x=some i) (h:PS X (.Assign [.Name x p] e pos) (pZ (tD X.K T.cl x0 λρ=>bind (fs ρ) newL) (bH i))):PS X (.Assign [.Name x p] e pos) (sD X.K T.cl xe λρ=>bind (bind (nx (fs ρ)) newL) (R9 c x ρ)):=PS.imp h λD σ H ⟨μ,S,ρ,b,m,p⟩=>by
 have p:=p.bind;rw [jB] at p;refine ⟨μ,S,ρ,b,m,p.nx.imp λd S1 a j n l f v o=>?_⟩;simp only [R9,g] at f;exact f.ret a j (Lat.refl _ _) l _ ((b.later n).set o i)
def lq:RuS where
 is _ lc e:=match e with
  | .Assign [.Name x _] (.ListComp _ [⟨.Name y _,b,_,0⟩] a _) _=>cw lc x&&y4 lc a [y]&&v4 b&&decide (x∈lc.mu)
  | _=>false
 run r _ _ lc e ρ:=match e with
  | .Assign [.Name x _] (.ListComp c [⟨.Name y j,b,ifs,0⟩] a _) _=>bind (bind (y9 r lc c y j b ifs a ρ) newL) (R9 lc x ρ)
  | _=>bad
 ok {T k r Γ C lc X} e R TX h hf g:=by
  split at g
  ·rename_i x p c y j b ifs a f pos;rw [HS,HS,HS] at g;obtain ⟨⟨⟨O,N⟩,z⟩,_⟩:=g;have o:=O;rw [cw,HS,IZ] at o;obtain ⟨⟨i,g⟩,M⟩:=o;have l:X.N[i]?=some x:=by rw [h.N];exact u3 g
   have n:L2.Loc X.env.scope x:=by rw [h.sc];exact G7 M
   have m:X.fn x=true\/X.env.scope.names.lookup x=some .local:=.inl (h.fn1 hf);have A:=wt h c [⟨.Name y j,b,ifs,0⟩] a x p pos f;unfold y9;cases L:j4 (i6 lc.N) (m8 a) with
   | none=>exact PS.imp eX λD σ H ⟨μ,S,ρ,w,t,p⟩=>p.bind.elim
   | some caps=>
    obtain ⟨I,v,J,u,E⟩:=E9 h N L;have K:=λpins C B s H=>PTL.x0 (tests_ok (ifs:=ifs) R (y3 h u E v pins C B s H));have G:=λpins C B s H=>PE.x0 (R.ex (y3 h u E v pins C B s H) c);refine nZ (k:=k) g ?_;cases F:swB lc (.ListComp c [⟨.Name y j,b,ifs,0⟩] a f) a x p with
    | false=>
     rw [F] at A;exact hF h.nd' l n (PE.imp (cj I (h.calm u) v rfl (J y (by simp)) (PI.x0 (R.ix h _ _)) K G (w9 z)) λσ H Q ⟨μ,S,ρ,w,t,p⟩=>L9 w t p) A m
    | true=>
     rw [F] at A;exact PS.imp (aX A h.nd' l n m I (h.calm u) v rfl (J y (by simp)) (PI.x0 (R.ix h _ _)) K G (w9 z)) λD σ H ⟨μ,S,ρ,w,t,p⟩=>L9 w t p
  ·cases g
 runK q _ _ lc e ρ _ k:=match e with
  | .Assign [.Name x _] (.ListComp c [⟨.Name y j,b,ifs,0⟩] a _) _=>U0 q lc c y j b ifs a ρ λds=>bind (newL ds) λd=>y8 lc x ρ d k
  | _=>bad
 eq e ρ _ k h:=by
  split
  ·simp only [P9 h,bind_assoc,j7,bO]
  ·first
   | rfl
   | (rename_i z;split;exact (z _ _ _ _ _ _ _ _ _ _ rfl).elim;rfl)
def hW (b:Bool) (x y:D):M D:=match y with
 | .ref n=>λS=>match S[n]? with
  | some (.dct a)=>(match E6 x with
   | some k=>.ok (.bl (if b then !(aj a k).isSome else (aj a k).isSome)) S
   | none=>.bad)
  | _=>.bad
 | _=>bad
section
variable {X:Cx} {cl:Nat->Addr} {xe:Addr->Hp->Prop}
theorem Cs (neg:Bool) (hu:X.A.units+1<cLine):OpR X (compareOp (if neg then .NotIn else .In)) (rP2 X.K cl xe (hW neg)):=by
 intro pins s σ H x y v u Q I rx ry ⟨μ,S,d,e,rd,re,rp,p⟩;cases re <;> try (exact False.elim p)
 rename_i n a h;simp only [hW] at p;cases q1:S[n]? with
 | none=>rw [q1] at p;exact p.elim
 | some o=>
  rw [q1] at p;cases o with
  | lst _=>exact p.elim
  | exc _ _=>exact p.elim
  | dct kvs=>
   obtain ⟨ks,h1,h2⟩:=rp.ats n _ a q1 h;cases q2:E6 d with
   | none=>rw [q2] at p;exact p.elim
   | some k=>
    rw [q2] at p;have hy:=Q8 rd q2;subst hy;cases ry;have iS:(O1 ks k).isSome=(aj kvs k).isSome:=by
     cases q3:aj kvs k with
     | some z=>obtain ⟨w,e3,_⟩:=dm h2 q3;rw [e3];rfl
     | none=>rw [fo h2 q3];rfl
    cases neg with
    | false=>exact Fq hu I (DGet.k h1) rx λs' I'=>⟨.bl _,H,I',rfl,by rw [iS];exact p μ H (Lat.refl _ _) rp _ (.bl _)⟩
    | true=>exact we hu I (DGet.k h1) rx λs' I'=>⟨.bl _,H,I',rfl,by rw [iS];exact p μ H (Lat.refl _ _) rp _ (.bl _)⟩
end
def Gs:RuT where
 is _ lc e:=match e with
  | .Compare _ [.NotIn] [b] _=>v4 b&&decide (("in{}" : Str)∈lc.mu)
  | _=>false
 run r _ _ lc e ρ:=match e with
  | .Compare a [.NotIn] [b] _=>bind (r.e lc a ρ) λx=>bind (r.e lc b ρ) λy=>bind (hW true x y) asB
  | _=>bad
 ok e R TX h hi:=by
  split at hi
  ·rw [HS] at hi;exact pF (R.ex h _) (R.ex h _) (Cs true h.u1) (U3 hi.1)
  ·cases hi
 runK q _ _ lc e ρ _ k:=match e with
  | .Compare a [.NotIn] [b] _=>q.e lc a ρ λx=>q.e lc b ρ λy=>bind (hW true x y) λd=>bind (asB d) k
  | _=>bad
 eq e ρ _ k h:=by
  split
  ·simp only [h.e,bind_assoc]
  ·first
   | rfl
   | (rename_i c;split;exact (c _ _ _ rfl).elim;rfl)
def countG (x:D) (ds:List D):M D:=match x,ds with
 | .tup xs,[d]=>λS=>match f9 64 S (.tup xs),f9 64 S d with
  | some (.tuple ps),some q=>(if q.canLay0=true/\PyData.canLayAll0 ps=true/\min (PyData.depthAll ps) q.depth<=60 then ret (.int ((ps.countP λz=>PyData.eqv z q:Nat):Int)) else bad) S
  | _,_=>.bad
 | _,_=>bad
section
variable {X:Cx} {cl:Nat->Addr} {xe:Addr->Hp->Prop}
def En (X:Cx):V->List V->Hp->(V->Hp->Prop)->Prop:=λx vs H Q=>∃ y ps d,vs=[y]/\DAt X.K H x (.tuple ps)/\DAt X.K H y d/\(d.canLay0=true/\PyData.canLayAll0 ps=true/\min (PyData.depthAll ps) d.depth<=60)/\Q (.int ((ps.countP λz=>PyData.eqv z d:Nat):Int)) H
theorem ly (hu:X.A.units+80<cLine):MtR X "tuple.count" (En X):=by
 intro pins s σ H x vs v us Q I rx rv h;obtain ⟨y,ps,d,rfl,hx,hy,⟨c1,c2,c3⟩,q⟩:=h;obtain ⟨u,rfl,ru⟩:=rv.one;obtain ⟨as,r1⟩:=hx.reads I rx;obtain ⟨bs,r2⟩:=hy.reads I ru;cases r1 with
 | tuple h1 h2 h3 h4=>
  rename_i a ob its n;obtain ⟨cls,dd,data,sl⟩:=ob;subst h2 h3;have em:=SeqAt.readsAll_map ps _ _ c2 h4;refine JA JK ⟨_,h1,rfl⟩ Li (Lg _ _) (Lj _ its n dd sl u (λz=>PyData.eqv (SeqAt.readOf s.heap z) d)) ⟨h1,λz hz=>?_,?_⟩
  ·exact SeqAt.items_eqAt h4 r2 c2 c1 (by omega) z hz
  ·have:its.toList.countP (λz=>PyData.eqv (SeqAt.readOf s.heap z) d)=ps.countP λz=>PyData.eqv z d:=by
    rw [<- em,LG];rfl
   rw [this];exact ⟨.int _,H,I.tok _,⟨_,rfl⟩,q⟩
theorem gA:uF X.K cl xe (En X) countG:=λμ S H x v ds vs Q rx rvs rp p=>by
 unfold countG at p;split at p
 ·rename_i xs d;obtain ⟨v2,rfl,rv⟩:=fu rvs;cases e1:f9 64 S (.tup xs) with
  | none=>rw [e1] at p;exact p.elim
  | some a=>
   cases e2:f9 64 S d with
   | none=>rw [e1,e2] at p;cases a <;> exact p.elim
   | some b=>
    rw [e1,e2] at p;have ha:=k9 rp 64 e1 rx;have hb:=k9 rp 64 e2 rv;cases a with
    | tuple ps=>
     dsimp only at p;by_cases c:b.canLay0=true/\PyData.canLayAll0 ps=true/\min (PyData.depthAll ps) b.depth<=60
     ·rw [if_pos c] at p;exact ⟨v2,ps,b,rfl,ha,hb,c,p μ H (Lat.refl _ _) rp _ (.int _)⟩
     ·rw [if_neg c] at p;exact p.elim
    | _=>exact p.elim
 ·exact p.elim
end
def rCountG0:RuE:=rMt "count" tupOf countG λh c d b a f e=>dF Ko JK Lq (ly h.u80) bu gA c d b a f e
def vU:RuE where
 is Γ lc e:=rCountG0.is Γ lc e&&decide (("count" : Str)∈lc.mu)
 run:=rCountG0.run
 ok e R TX h hi:=rCountG0.ok e R TX h (by rw [HS] at hi;exact hi.1)
 runK:=rCountG0.runK
 eq e ρ _ k h:=rCountG0.eq e ρ k h
theorem a8 {k:α->M β} {S S':Sto} {a:α} (e:m S=.ok a S'):bind m k S=k a S':=by unfold bind;rw [e]
theorem Z9 {d:D} (h:S[p]?=some (.dct kvs)) (e:aj kvs (.inr x)=some d):ixD (.ref p) (.str x) S=.ok d S:=by
 simp only [ixD,h,E6,Jj,e,dU,ret]
theorem bS {v:D} (h:S[p]?=some (.dct kvs)) (a:kvs.length<sizeLine) (e:iL kvs (.inr x) v=kvs'):A9 (.ref p) (.str x) v S=.ok .non (S.set p (.dct kvs')):=by
 simp only [A9,h,E6,if_pos a,e]
theorem hZ {S:Sto} {p:Nat} {o o':O} (h:S[p]?=some o):(S.set p o')[p]?=some o':=IA (HN.mp h).1
def o9 (ns:List Int) (a l t:Int):O:=.dct [(.inr "cells",.lst (ns.map D.int)),(.inr "at",.int a),(.inr "left",.int l),(.inr "turn",.int t)]
section
variable {S:Sto} {p:Nat} {ns:List Int} {a l t:Int} (h:S[p]?=some (o9 ns a l t))
include h
theorem sO:ixD (.ref p) (.str "cells") S=.ok (.lst (ns.map D.int)) S:=Z9 h rfl
theorem Ff:ixD (.ref p) (.str "at") S=.ok (.int a) S:=Z9 h rfl
theorem iR:ixD (.ref p) (.str "left") S=.ok (.int l) S:=Z9 h rfl
theorem nQ:ixD (.ref p) (.str "turn") S=.ok (.int t) S:=Z9 h rfl
theorem By (v:Int):A9 (.ref p) (.str "at") (.int v) S=.ok .non (S.set p (o9 ns v l t)):=bS h (by show 4<sizeLine;decide) rfl
theorem jj (v:Int):A9 (.ref p) (.str "left") (.int v) S=.ok .non (S.set p (o9 ns a v t)):=bS h (by show 4<sizeLine;decide) rfl
theorem sU (v:Int):A9 (.ref p) (.str "turn") (.int v) S=.ok .non (S.set p (o9 ns a l v)):=bS h (by show 4<sizeLine;decide) rfl
end
theorem cI (i j:Int) (S:Sto):f7 (.int i) (.int j) S=.ok (.int (i+j)) S:=rfl
theorem X3 {i j:Int} (h:0<j) (S:Sto):O8 (.int i) (.int j) S=.ok (.int (i % j)) S:=by simp only [O8,if_pos h,ret]
theorem D7 {i j:Int} (h:0<j) (b:j<1073741824) (S:Sto):E8 (.int i) (.int j) S=.ok (.int (i / j)) S:=by
 have a:rP i j:=⟨h,b⟩;simp only [E8,if_pos a,ret]
theorem K9 (h:CMul i j) (S:Sto):p6 (.int i) (.int j) S=.ok (.int (i * j)) S:=by simp only [p6,if_pos h,ret]
theorem aV (ns:List Int) (S:Sto):e8 (.lst (ns.map D.int)) S=.ok (.int ns.length) S:=by
 show R.ok (D.int ((ns.map D.int).length:Nat)) S=_;grind
theorem uD {ns:List Int} {a:Int} (f:0<=a) (g:0<ns.length) (S:Sto):∃ z:Int,ixD (.lst (ns.map D.int)) (.int (a % (ns.length:Int))) S=.ok (.int z) S:=by
 have c:(0:Int)<(ns.length:Int):=by omega
 have e:=KS a (LA c);have h:=Kt a c;obtain ⟨j,d⟩:=JQ e;have b:j<ns.length:=by omega
 refine ⟨ns[j],?_⟩;rw [d];show dU (atI (ns.map D.int) (j:Int)) S=_;rw [Z6 (by rw [Ie,HP b];rfl)];rfl
theorem set_set {S:Sto} {p:Nat} {o o':O}:(S.set p o).set p o'=S.set p o':=List.set_set ..
def dk (p m e d:D):M D:=
 bind (ixD p (.str "turn")) λa=>bind (O8 d (.int 1000003)) λl=>bind (p6 l (.int 48271)) λk=>bind (p6 (.int 7919) a) λg=>bind (f7 k g) λi=>bind (f7 i (.int 104729)) λj=>bind (O8 j (.int 2147483647)) λc=>
 bind (E8 c (.int 64)) λf=>bind (p6 f (.int 69621)) λt=>bind (p6 (.int 31) a) λh=>bind (p6 h a) λq=>bind (f7 t q) λo=>bind (f7 o e) λn=>bind (O8 n (.int 2147483587)) λb=>
 bind (E8 b (.int 64)) λs=>bind (O8 s m) λr=>ret r
def dQ (p m b a:D) (z:Bool):M D:=
 if z=true then bind (E8 a m) λv=>bind (A9 p (.str "left") v) λ_=>bind (O8 a m) λd=>ret d
 else dk p m b a
def K4 (p m b cells a:D):M D:=
 bind (fE (.int 10) (.int 18)) λy=>bind (a9 .GtE a y) λd=>bind (asB d) λc=>
 if c=true then bind (e8 cells) λy=>bind (a9 .Lt b y) λd=>bind (asB d) λz=>dQ p m b a z
 else dQ p m b a false
def ji (p m:D):M D:=
 bind (ixD p (.str "turn")) λx=>bind (f7 x (.int 1)) λe=>bind (A9 p (.str "turn") e) λ_=>
 bind (ixD p (.str "left")) λx=>bind (a9 .Gt x (.int 0)) λd=>bind (asB d) λz=>
 if z=true then bind (ixD p (.str "left")) λx=>bind (O8 x m) λb=>bind (ixD p (.str "left")) λx=>bind (E8 x m) λv=>bind (A9 p (.str "left") v) λ_=>ret b
 else bind (ixD p (.str "cells")) λcells=>bind (ixD p (.str "at")) λa=>bind (f7 a (.int 1)) λv=>bind (A9 p (.str "at") v) λ_=>bind (e8 cells) λx=>bind (a9 .Gt x (.int 0)) λd=>bind (asB d) λz=>
  if z=true then bind (e8 cells) λy=>bind (O8 a y) λi=>bind (ixD cells i) λc=>K4 p m a cells c
  else K4 p m a cells (.int 0)
theorem hB {a l t m c b:Int} (h:S[p]?=some (o9 ns a l t)) (d:0<m) (f:0<=t) (e:t<2000000):∃ r:Int,dk (.ref p) (.int m) (.int b) (.int c) S=.ok (.int r) S/\0<=r/\r<m:=by
 unfold dk;rw [a8 (nQ h),a8 (X3 (by decide) S),a8 (K9 (.inr ⟨by decide,by decide⟩) S),a8 (K9 (.inl ⟨by decide,by decide⟩) S),a8 (cI _ _ S),a8 (cI _ _ S),a8 (X3 (by decide) S),
  a8 (D7 (by decide) (by decide) S),a8 (K9 (.inr ⟨by decide,by decide⟩) S),a8 (K9 (.inl ⟨by decide,by decide⟩) S),a8 (K9 (.inr ⟨by omega,by omega⟩) S),a8 (cI _ _ S),a8 (cI _ _ S),a8 (X3 (by decide) S),a8 (D7 (by decide) (by decide) S),a8 (X3 d S)]
 exact ⟨_,rfl,KS _ (LA d),Kt _ d⟩
theorem fS {S:Sto} {p:Nat} {ns:List Int} {a l t m c b:Int} (h:S[p]?=some (o9 ns a l t)) (ha:0<=a) (hl:0<=l) (ht:0<=t) (htb:t<2000000) (hm:0<m) (hm2:m<1073741824) :
  ∃ r l',K4 (.ref p) (.int m) (.int b) (.lst (ns.map D.int)) (.int c) S=.ok (.int r) (S.set p (o9 ns a l' t))/\0<=r/\r<m/\0<=l':=by
 unfold K4;have hp:fE (.int 10) (.int 18) S=.ok (.int 1000000000000000000) S:=rfl;rw [a8 hp];have hc:a9 .GtE (.int c) (.int 1000000000000000000) S=.ok (.bl (decide (1000000000000000000<=c))) S:=rfl;rw [a8 hc,a8 (show asB _ _=_ from rfl)];have same:S.set p (o9 ns a l t)=S:=by
  apply JJ;intro i;by_cases e:p=i
  ·subst e;rw [hZ h,h]
  ·rw [HZ e]
 have fin:∀ z:Bool,(z=true->1000000000000000000<=c)->∃ r l',dQ (.ref p) (.int m) (.int b) (.int c) z S=.ok (.int r) (S.set p (o9 ns a l' t))/\0<=r/\r<m/\0<=l':=λz hz=>by
  unfold dQ;cases z with
  | true=>
   rw [if_pos rfl,a8 (D7 hm hm2 _),a8 (jj h _),a8 (X3 hm _)];exact ⟨_,c / m,rfl,KS _ (LA hm),Kt _ hm,Int.ediv_nonneg (LB (by decide) (hz rfl)) (Int.le_of_lt hm)⟩
  | false=>
   rw [if_neg HU];obtain ⟨r,e,r1,r2⟩:=hB (c:=c) (b:=b) h hm ht htb;exact ⟨r,l,by rw [e,same],r1,r2,hl⟩
 by_cases hz:(1000000000000000000:Int)<=c
 ·rw [Ia hz,if_pos rfl,a8 (aV ns _)];have hc2:a9 .Lt (.int b) (.int (ns.length:Int)) S=.ok (.bl (decide (b<(ns.length:Int)))) S:=rfl;rw [a8 hc2,a8 (show asB _ _=_ from rfl)];exact fin _ λ_=>hz
 ·rw [Im hz,if_neg HU];exact fin _ λz=>by cases z
theorem rK (h:S[p]?=some (o9 ns a l t)) (q:0<=a) (o:0<=l) (A:0<=t) (s:t<1000000) (f:0<m) (i:m<1073741824) :
  ∃ r g d,ji (.ref p) (.int m) S=.ok (.int r) (S.set p (o9 ns g d (t+1)))/\0<=r/\r<m/\0<=g/\0<=d:=by
 unfold ji;rw [a8 (nQ h),a8 (cI _ _ S),a8 (sU h _)];have b:=hZ (o':=o9 ns a l (t+1)) h;have w:a9 .Gt (.int l) (.int 0) (S.set p (o9 ns a l (t+1)))=.ok (.bl (decide (0<l))) (S.set p (o9 ns a l (t+1))):=rfl;rw [a8 (iR b),a8 w,a8 (show asB _ _=_ from rfl)];by_cases hz:0<l
 ·rw [Ia hz,if_pos rfl,a8 (iR b),a8 (X3 f _),a8 (iR b),a8 (D7 f i _),a8 (jj b _),set_set];exact ⟨_,a,l / m,rfl,KS _ (LA f),Kt _ f,q,Int.ediv_nonneg o (Int.le_of_lt f)⟩
 ·rw [Im hz,if_neg HU,a8 (sO b),a8 (Ff b),a8 (cI _ _ _),a8 (By b _),set_set,a8 (aV ns _)];have y:=hZ (o':=o9 ns (a+1) l (t+1)) h;have j:a9 .Gt (.int (ns.length:Int)) (.int 0) (S.set p (o9 ns (a+1) l (t+1)))=.ok (.bl (decide (0<(ns.length:Int)))) (S.set p (o9 ns (a+1) l (t+1))):=rfl;rw [a8 j,a8 (show asB _ _=_ from rfl)];have k:∀ c:Int,∃ r g d,K4 (.ref p) (.int m) (.int a) (.lst (ns.map D.int)) (.int c) (S.set p (o9 ns (a+1) l (t+1)))=.ok (.int r) (S.set p (o9 ns g d (t+1)))/\0<=r/\r<m/\0<=g/\0<=d:=λc=>by
   obtain ⟨r,d,e,u,x,v⟩:=fS y (by omega) o (by omega) (by omega) f i;rw [set_set] at e;exact ⟨r,a+1,d,e,u,x,by omega,v⟩
  by_cases n:0<(ns.length:Int)
  ·rw [Ia n,if_pos rfl,a8 (aV ns _),a8 (X3 n _)];obtain ⟨z,e⟩:=uD (ns:=ns) q (by omega) (S.set p (o9 ns (a+1) l (t+1)));rw [a8 e];exact k z
  ·simp_all
mutual
noncomputable def szP:PyData->Nat
 | .none=>4
 | .bool _=>5
 | .int _=>13
 | .str x=>(PyData.shown (.str x)).length
 | .list xs=>mO xs+3
 | .tuple xs=>mO xs+3
 | .dict _=>0
noncomputable def mO:List PyData->Nat
 | []=>0
 | x :: xs=>szP x+2+mO xs
end
def SmI (i:Int):Prop:=-999999999999<=i/\i<=999999999999
mutual
def Sm:PyData->Prop
 | .none=>True
 | .bool _=>True
 | .int i=>SmI i
 | .str _=>True
 | .list xs=>Sms xs
 | .tuple xs=>Sms xs
 | .dict _=>False
def Sms:List PyData->Prop
 | []=>True
 | x :: xs=>Sm x/\Sms xs
end
mutual
theorem xT:∀ p:PyData,Sm p->p.shown.length<=szP p
 | .none,_=>by decide
 | .bool b,_=>by cases b <;> decide
 | .int i,h=>PyData.shown_int_le2 h.1 h.2
 | .str x,_=>HV _
 | .list xs,h=>by
  have c:=hU xs h;have a:=listText_len_le (PyData.shownAll xs);have d:=JU xs;simp only [PyData.shown,szP];omega
 | .tuple xs,h=>by
  have c:=hU xs h;have a:=tupleText_len_le (PyData.shownAll xs);have d:=JU xs;simp only [PyData.shown,szP];omega
 | .dict _,h=>h.elim
theorem hU:∀ xs:List PyData,Sms xs->((PyData.shownAll xs).map (·.length)).sum+2 * xs.length<=mO xs
 | [],_=>by simp [PyData.shownAll,mO]
 | x :: xs,h=>by
  have h1:=xT x h.1;have h2:=hU xs h.2;simp only [PyData.shownAll,mO,II,List.sum_cons,IV];omega
end
theorem iQ {i:Int} (h:i.natAbs<2 ^ 40):decide (i.natAbs.log2<1920)=true:=by
 refine Ia ?_;by_cases z:i.natAbs=0
 ·rw [z];decide
 ·have:=(Nat.log2_lt z).mpr h;omega
theorem yo (h:SmI i):PyData.showable (.int i)=true:=iQ (by have:=h.1;have:=h.2;omega)
mutual
theorem kM:∀ p:PyData,Sm p->p.showable=true
 | .none,_=>rfl
 | .bool b,_=>rfl
 | .int i,h=>yo h
 | .str x,_=>rfl
 | .list xs,h=>by simp only [PyData.showable];exact af xs h
 | .tuple xs,h=>by simp only [PyData.showable];exact af xs h
 | .dict _,h=>h.elim
theorem af:∀ xs:List PyData,Sms xs->PyData.showableAll xs=true
 | [],_=>rfl
 | x :: xs,h=>by simp only [PyData.showableAll,kM x h.1,af xs h.2,Lr]
end
mutual
theorem kT:∀ p:PyData,Sm p->p.hasDict=false
 | .none,_=>rfl
 | .bool b,_=>rfl
 | .int i,h=>rfl
 | .str x,_=>rfl
 | .list xs,h=>by simp only [PyData.hasDict];exact ay xs h
 | .tuple xs,h=>by simp only [PyData.hasDict];exact ay xs h
 | .dict _,h=>h.elim
theorem ay:∀ xs:List PyData,Sms xs->PyData.hasDictAll xs=false
 | [],_=>rfl
 | x :: xs,h=>by simp only [PyData.hasDictAll,kT x h.1,ay xs h.2,Bool.or_self]
end
structure Nice (p:PyData):Prop where
 sm:Sm p
 dp:p.depth<=60
 sz:szP p<=4000
theorem Nice.len (h:Nice p):p.shown.length<=4000:=Ir (xT p h.sm) h.sz
theorem Nice.shows (h:Nice p):Shows p:=⟨kM p h.sm,kT p h.sm,h.dp,by have:=h.len;rw [Iq];omega⟩
theorem DH (e:f9 64 S d=some p) (h:Nice p) (hd:∀ x,d=.str x->x.length<=4000):D0 S d=true:=by
 unfold D0;rw [e];simp;refine ⟨⟨h.shows,h.len⟩,?_⟩;grind
theorem nC (h:SmI i):Nice (.int i):=⟨h,by show PyData.depth (.int i)<=60;simp [PyData.depth],by show (13:Nat)<=4000;decide⟩
theorem dG {i:Int} (h:SmI i):D0 S (.int i)=true:=DH rfl (nC h) (λx e=>by cases e)
theorem Ai (b:ds.length=fs.length) (a:ds.all (D0 S)=true):P6 c fs ds S=.ok (.ref S.length) (S++[.exc c (fs.zip ds)]):=by
 unfold P6;grind
theorem uE (h:D0 S a=true):[a].all (D0 S)=true:=by simp [h]
theorem i8 (b:Bool) (S:Sto):asB (.bl b) S=.ok b S:=rfl
def bm (o:Option (Option Value)) (x:String):Bool:=match o with
 | some (some (.builtin y))=>decide (y=x)
 | _=>false
theorem T7 (h:bm o x=true):o=some (some (.builtin x)):=by
 unfold bm at h;grind
def isNo (o:Option (Option Value)):Bool:=match o with
 | some none=>true
 | _=>false
theorem Z5 (h:isNo o=true):o=some none:=by
 unfold isNo at h;grind
def isB (o:Option Bool) (b:Bool):Bool:=match o with
 | some c=>c==b
 | none=>false
theorem W5 (h:isB o b=true):o=some b:=by
 unfold isB at h;grind
def xcB (K:PySem.W.Frag) (C:Addr):Bool:=
 bm (PySem.W.findIn K (.ref C) "__getattribute__") "BaseException.__getattribute__" && (isNo (PySem.W.findIn K (.ref C) "__getattr__")&&(isB (PySem.W.mroIn K C (.type "BaseException")) true&&(isB (PySem.W.mroIn K C (.type "object")) true &&
 (PySem.W.hasDictIn K C&&(bm (PySem.W.findIn K (.ref C) "__class__") "object.__class__" && (bm (PySem.W.specialIn K (.builtin "object.__class__") "__get__") "getset_descriptor.__get__" && (isB (PySem.W.takesIn K (.builtin "object.__class__")) true &&
 (Y1 K C&&((PySem.W.clsIn K C).any (λa=>B4 a.mro)&&(bm (PySem.W.findIn K (.ref C) "__setattr__") "object.__setattr__" && PySem.W.keepIn K (.ref C)))))))))))
theorem P7 {K:PySem.W.Frag} {C:Addr} (h:xcB K C=true):XC K C:=by
 simp only [xcB,HS] at h;obtain ⟨d,e,l,m,j,f,g,i,k,a,b,c⟩:=h;exact ⟨⟨T7 d,Z5 e,W5 l,W5 m,j,T7 f,T7 g,W5 i⟩,k,a,T7 b,c⟩
def aL (cs:List Addr) (a:Addr) (c:Nat):Addr:=cs.getD c a
structure RowB (K:PySem.W.Frag) (Γ:Gm) (cs:List Addr) (junk:Addr):Prop where
 xc:cs.all (xcB K)=true
 jk:Y1 K junk=false
 sub:((List.range cs.length).all λc=>(List.range cs.length).all λc0=>isB (PySem.W.kitOne K (.ref (aL cs junk c)) (.ref (aL cs junk c0))) (Γ.sub c c0))=true
 sV:(cs.all λC=>isB (PySem.W.kitOne K (.ref C) (.type "ValueError")) true)=true
 sT:(cs.all λC=>tys.all λt=>isB (PySem.W.kitOne K (.ref C) (.type t)) false)=true
 fl:(Γ.flds.all λg=>cs.all λC=>isNo (PySem.W.findIn K (.ref C) g))=true
 bl:(bnames.all λx=>(Γ.gl.lookup x).isSome||isNo (PySem.W.nsIn K mainGlobals x))=true
theorem Dg {K:PySem.W.Frag} {cs:List Addr} {a:Addr} (d:Y1 K a=false) {c:Nat} (h:XC K (aL cs a c)):c<cs.length/\aL cs a c∈cs:=by
 by_cases b:c<cs.length
 ·refine ⟨b,?_⟩;unfold aL;rw [IG,HP b];exact Jk b
 ·have e:aL cs a c=a:=by
   unfold aL;rw [IG,IR (Kb b)];rfl
  rw [e] at h;have:=h.ex;rw [d] at this;cases this
theorem RowB.st {Γ:Gm} {cs:List Addr} {j:Addr} {h:Heap} (B:RowB T.K Γ cs j) (X:T.K.In h) (G:h.Ns mainGlobals T.mg) (o:T.cl=aL cs j) (w:∀ x d,Γ.gl.lookup x=some (.val d)->∃ u v,T.mg x=some u/\RelV v u/\∀ μ H,RD T.K μ H d v)
  (r:∀ x c fs,Γ.gl.lookup x=some (.err c fs)->c<cs.length/\ErrAt T x c fs/\∀ g∈fs,g∈Γ.flds) (hd:∀ x k,Γ.gl.lookup x=some (.dct k)->nL T x k):TxSt T Γ:=by
 have i:∀ c,XC T.K (T.cl c)->c<cs.length/\T.cl c∈cs:=λc f=>by rw [o] at f ⊢;exact Dg B.jk f
 have p:=λg l c f=>by
  have:=(Ix.mp B.fl) g l;exact Z5 ((Ix.mp this) _ (i c f).2)
 refine ⟨λx s y=>?_,w,λx c fs e=>?_,λx c c0 fs e f=>?_,λc f=>?_,λc f t z=>?_,p,hd⟩
 ·have:=(Ix.mp B.bl) x s;rw [y] at this;exact PySem.W.mg_none_of X G (Z5 this)
 ·obtain ⟨n,m,q⟩:=r x c fs e;exact ⟨m,λg l=>p g (q g l) c m.xc⟩
 ·obtain ⟨n,m,q⟩:=r x c0 fs e;have a:=(Ix.mp B.sub) c (Iw.mpr (i c f).1);have b:=(Ix.mp a) c0 (Iw.mpr n);rw [o];exact W5 b
 ·exact W5 ((Ix.mp B.sV) _ (i c f).2)
 ·have a:=(Ix.mp B.sT) _ (i c f).2;exact W5 ((Ix.mp a) t z)
def dS (K:PySem.W.Frag):Sp:=λvs H Q _=>∃ (a:Addr) (ns:List Int),vs=[.ref a]/\SqL K H a (ns.map V.int)/\∀ H',Q (.bl true) H'
theorem kc {K:PySem.W.Frag} {cl:Nat->Addr} {b:List D->M D} (d:∀ ns:List Int,∃ S',b [.scr (ns.map D.int)] []=.ok (.bl true) S'):∀ vs H Q E,dS K vs H Q E->spD K cl 1 b vs H Q E:=by
 rintro vs H Q E ⟨a,ns,rfl,c,q⟩;obtain ⟨S',e⟩:=d ns;refine ⟨rfl,⟨[],[]⟩,[],[.scr (ns.map D.int)],.cons (.scr ?_ (RDs.ints ns)) .nil,⟨rfl,by simp,λn o a e=>by simp at e,λa m=>by simp at m⟩,?_⟩
 ·rcases c with h | h
  ·exact .inl ⟨h,by simp,by simp⟩
  ·exact .inr h
 ·rw [e];intro μ' H' l r v f;cases f;exact q H'
theorem ln1 {α:Type} {p:List α->Prop} {us:List α} (hl:us.length=1) (h:∀ a,p [a]):p us:=by
 obtain ⟨a,rfl⟩:=List.length_eq_one_iff.mp hl;exact h a
theorem lnS {α:Type} {p:List α->Prop} {us:List α} {n:Nat} (hl:us.length=n+1) (h:∀ a ws,ws.length=n->p (a :: ws)):p us:=by
 cases us with
 | nil=>cases hl
 | cons a ws=>exact h a ws (Nat.succ.inj hl)
theorem ln2 {α:Type} {p:List α->Prop} {us:List α} (hl:us.length=2) (h:∀ a b,p [a,b]):p us:=lnS hl λa _ e=>ln1 (p:=λw=>p (a :: w)) e (h a)
theorem ln3 {α:Type} {p:List α->Prop} {us:List α} (hl:us.length=3) (h:∀ a b c,p [a,b,c]):p us:=lnS hl λa _ e=>ln2 (p:=λw=>p (a :: w)) e (h a)
theorem ln4 {α:Type} {p:List α->Prop} {us:List α} (hl:us.length=4) (h:∀ a b c d,p [a,b,c,d]):p us:=lnS hl λa _ e=>ln3 (p:=λw=>p (a :: w)) e (h a)
theorem G8 {fd:FuncData} {ps:List Str} {us:List Value} (hl:us.length=1) (h:∀ a,bindArgs fd ⟨[a],[]⟩=pure (ps.zip [a])):bindArgs fd ⟨us,[]⟩=pure (ps.zip us):=ln1 (p:=λus=>bindArgs fd ⟨us,[]⟩=pure (ps.zip us)) hl h
theorem t3 {fd:FuncData} {ps:List Str} {us:List Value} (hl:us.length=2) (h:∀ a b,bindArgs fd ⟨[a,b],[]⟩=pure (ps.zip [a,b])):bindArgs fd ⟨us,[]⟩=pure (ps.zip us):=ln2 (p:=λus=>bindArgs fd ⟨us,[]⟩=pure (ps.zip us)) hl h
theorem Y7 {fd:FuncData} {ps:List Str} {us:List Value} (hl:us.length=3) (h:∀ a b c,bindArgs fd ⟨[a,b,c],[]⟩=pure (ps.zip [a,b,c])):bindArgs fd ⟨us,[]⟩=pure (ps.zip us):=ln3 (p:=λus=>bindArgs fd ⟨us,[]⟩=pure (ps.zip us)) hl h
theorem Gi {fd:FuncData} {ps:List Str} {us:List Value} (hl:us.length=4) (h:∀ a b c d,bindArgs fd ⟨[a,b,c,d],[]⟩=pure (ps.zip [a,b,c,d])):bindArgs fd ⟨us,[]⟩=pure (ps.zip us):=ln4 (p:=λus=>bindArgs fd ⟨us,[]⟩=pure (ps.zip us)) hl h
structure GF (K:PySem.W.Frag) (x:Str) (st:Stmt) (g:Addr):Prop where
 a:PySem.W.nsIn K mainGlobals x=some (some (.ref g))
 f:∃ fd,Fun K x x st g fd
theorem gf_mk {K:PySem.W.Frag} {x:Str} {st:Stmt} {g:Addr} {oc:Value} {od an:Option Addr} {osl:Array (Option Value)} {kV doc pm cdv ct:Value} (a:PySem.W.nsIn K mainGlobals x=some (some (.ref g))) (l:K.lookup g=some ⟨oc,od,.func (PySem.W.fnOf x x (k8 st) (j0 st) (b9 st) .none kV doc pm an cdv ct),osl⟩) (c:PySem.W.codeIn K cdv x=true) (k:PySem.W.keepIn K (.ref g)=true):GF K x st g:=⟨a,_,L7 l c k⟩
theorem fe {T:Tx} {h:Heap} (X:T.K.In h) (G:h.Ns mainGlobals T.mg) {x:Str} {st:Stmt} {g:Addr} {m:List Str} {Tb:List Fd} {i n:Nat} (d:GF T.K x st g) (sc:di (f6 st m)=true) (hb:∀ (kV doc pm:Value) (an:Option Addr) (cdv ct:Value) (us:List Value),us.length=(f6 st m).ps.length->bindArgs (PySem.W.fnOf x x (k8 st) (j0 st) (b9 st) .none kV doc pm an cdv ct) ⟨us,[]⟩=pure ((f6 st m).ps.zip us)) (hT:Tb[i]?=some (f6 st m)) (hn:(f6 st m).ps.length=n):∃ fd,Tb[i]?=some fd/\fd.ps.length=n/\FnTx T x fd:=by
 obtain ⟨fd,F⟩:=d.f;exact ⟨_,hT,hn,⟨g,_,_,st,F,rfl,rfl,aR sc,F.binds hb,Jc X G d.a⟩⟩
def Aq (T:Tx) (Tb:List Fd):List (Str×G)->Prop
 | []=>True
 | (x,.fn i n) :: l=>(∃ fd,Tb[i]?=some fd/\fd.ps.length=n/\FnTx T x fd)/\Aq T Tb l
 | _ :: l=>Aq T Tb l
theorem Bu {T:Tx} {Γ:Gm} {Tb:List Fd} (h:Aq T Tb Γ.gl):pJ T Γ Tb:=λx i n e=>by
 have m:=L2.mem_of_lookup e;generalize Γ.gl=l at h m;induction l with
 | nil=>cases m
 | cons y l ih=>
  obtain ⟨z,g⟩:=y;rcases Ii.mp m with q | q
  ·cases q;exact h.1
  ·refine ih ?_ q;cases g with
   | fn j k=>exact h.2
   | _=>exact h
theorem ai {n:Nat} (I:Nat->Sto->List D->Prop) (a:∀ S es,I n S es->src n S=some none)
  (c:∀ i S es,i<n->I i S es->∃ d b S1,src i S=some (some d)/\t d S=.ok b S1/\(if b=true then ∃ y S2,f d S1=.ok y S2/\es.length<sizeLine/\I (i+1) S2 (es++[y]) else I (i+1) S1 es)) :
  ∀ (k i:Nat) (S:Sto) (es:List D),k+i=n->I i S es->∃ es' S',e9 src t f (k+1) i es S=.ok es' S'/\I n S' es'
 | 0,i,S,es,j,h=>by
  have:i=n:=by omega
  subst this;refine ⟨es,S,?_,h⟩;simp only [e9,a S es h]
 | k+1,i,S,es,j,h=>by
  obtain ⟨d,b,S1,l,m,e⟩:=c i S es (by omega) h;have g:e9 src t f (k+1+1) i es S=bind (t d) (λb=>if b=true then bind (f d) (λy=>if es.length<sizeLine then e9 src t f (k+1) (i+1) (es++[y]) else bad) else e9 src t f (k+1) (i+1) es) S:=by
   conv=>lhs;unfold e9
   simp only [l]
  rw [g,a8 m];cases b with
  | true=>
   rw [if_pos rfl] at e ⊢;obtain ⟨y,S2,p,o,q⟩:=e;rw [a8 p,if_pos o];exact ai I a c k (i+1) S2 _ (by omega) q
  | false=>
   rw [if_neg HU] at e ⊢;exact ai I a c k (i+1) S1 _ (by omega) e
def Ok {b:Type} (m:M b) (S:Sto) (Q:b->Sto->Prop):Prop:=∃ a S',m S=.ok a S'/\Q a S'
section
variable {α β:Type} {S S1:Sto} {m m':M α} {k:α->M β} {a:α} {Q Q':α->Sto->Prop} {P:β->Sto->Prop}
theorem Ok.ret (h:Q a S):Ok (ret a) S Q:=⟨a,S,rfl,h⟩
theorem Ok.of (e:m S=.ok a S1) (h:Q a S1):Ok m S Q:=⟨a,S1,e,h⟩
theorem Ok.bind (h:Ok m S λa S1=>Ok (k a) S1 P):Ok (L3.bind m k) S P:=by
 obtain ⟨a,S1,e,b,S2,c,q⟩:=h;exact ⟨b,S2,by rw [a8 e];exact c,q⟩
theorem Ok.eq (e:m S=.ok a S1) (h:Ok (k a) S1 P):Ok (L3.bind m k) S P:=Ok.bind ⟨a,S1,e,h⟩
theorem Ok.mono (h:Ok m S Q) (i:∀ a S1,Q a S1->Q' a S1):Ok m S Q':=by
 obtain ⟨a,S1,e,q⟩:=h;exact ⟨a,S1,e,i _ _ q⟩
theorem Ok.cg (e:m=m') (h:Ok m' S Q):Ok m S Q:=e▸h
theorem Ok.cgS (e:m S=m' S) (h:Ok m' S Q):Ok m S Q:=by
 obtain ⟨a,S1,b,q⟩:=h;exact ⟨a,S1,by rw [e];exact b,q⟩
theorem Ok.ite {c:Prop} [Decidable c] {a m2:M α} (b:c->Ok a S Q) (d:¬ c->Ok m2 S Q):Ok (if c then a else m2) S Q:=by grind
end
theorem Ok.comp {n:Nat} (I:Nat->Sto->List D->Prop) (c:∀ S es,I n S es->src n S=some none)
  (a:∀ i S es,i<n->I i S es->∃ d,src i S=some (some d)/\Ok (t d) S λb S1=>if b=true then Ok (f d) S1 λy S2=>es.length<sizeLine/\I (i+1) S2 (es++[y]) else I (i+1) S1 es) {S:Sto} (h:I 0 S []) :
  Ok (e9 src t f (n+1) 0 []) S λes S'=>I n S' es:=by
 obtain ⟨es,S',e,q⟩:=ai I c (λi S es o h=>by
  obtain ⟨d,l,b,S1,m,q⟩:=a i S es o h;refine ⟨d,b,S1,l,m,?_⟩;cases b with
  | true=>
   rw [if_pos rfl] at q ⊢;obtain ⟨y,S2,g,j,k⟩:=q;exact ⟨y,S2,g,j,k⟩
  | false=>
   rw [if_neg HU] at q ⊢;exact q) n 0 S [] (by omega) h
 exact ⟨es,S',e,q⟩
def FlI (I:L3.Env->Sto->Prop) (J:L3.Env->Sto->Prop) (R:D->Sto->Prop) (a:Fl) (S:Sto):Prop:=match a with
 | .nx ρ=>I ρ S
 | .ct ρ=>I ρ S
 | .bk ρ=>J ρ S
 | .rt d=>R d S
theorem Ok.for_ {n:Nat} (I:Nat->L3.Env->Sto->Prop) (J:L3.Env->Sto->Prop) (R:D->Sto->Prop) (hend:∀ ρ S,I n ρ S->src n S=some none)
  (step:∀ i ρ S,i<n->I i ρ S->∃ d ρ1,src i S=some (some d)/\tg d ρ=some ρ1/\Ok (body ρ1) S (FlI (I (i+1)) J R)) :
  ∀ (k i:Nat) (ρ:L3.Env) (S:Sto),k+i=n->I i ρ S->Ok (v7 src tg body (k+1) i ρ) S λfl S'=>match fl with
   | .nx ρ'=>I n ρ' S'\/J ρ' S'
   | .rt d=>R d S'
   | _=>False
 | 0,i,ρ,S,hk,h=>by
  have:i=n:=by omega
  subst this;exact ⟨.nx ρ,S,by simp only [v7,hend ρ S h],.inl h⟩
 | k+1,i,ρ,S,hk,h=>by
  obtain ⟨d,ρ1,e1,e2,h2⟩:=step i ρ S (by omega) h;have un:v7 src tg body (k+1+1) i ρ S=L3.bind (body ρ1) (λfl=>match fl with
    | .nx ρ2=>v7 src tg body (k+1) (i+1) ρ2
    | .ct ρ2=>v7 src tg body (k+1) (i+1) ρ2
    | .bk ρ2=>L3.ret (.nx ρ2)
    | .rt d=>L3.ret (.rt d)) S:=by
   conv=>lhs;unfold v7
   simp only [e1,e2]
   all_goals rfl
  refine Ok.cgS un (Ok.bind (h2.mono λfl S1 q=>?_));cases fl with
  | nx ρ2=>exact Ok.for_ I J R hend step k (i+1) ρ2 S1 (by omega) q
  | ct ρ2=>exact Ok.for_ I J R hend step k (i+1) ρ2 S1 (by omega) q
  | bk ρ2=>exact Ok.ret (.inr q)
  | rt d=>exact Ok.ret q
theorem Ok.while_ (I:Nat->L3.Env->Sto->Prop) (J:L3.Env->Sto->Prop) (R:D->Sto->Prop)
  (step:∀ k ρ S,I k ρ S->Ok (t ρ) S λb S1=>if b=true then Ok (body ρ) S1 (FlI (λρ2 S2=>∃ j,j<k/\I j ρ2 S2) J R) else J ρ S1) :
  ∀ (m k:Nat) (ρ:L3.Env) (S:Sto),k<m->I k ρ S->Ok (w6 t body m ρ) S λfl S'=>match fl with
   | .nx ρ'=>J ρ' S'
   | .rt d=>R d S'
   | _=>False
 | 0,k,ρ,S,hk,h=>by omega
 | m+1,k,ρ,S,hk,h=>by
  refine Ok.bind ((step k ρ S h).mono λb S1 q=>?_);cases b with
  | false=>
   rw [if_neg HU] at q ⊢;exact Ok.ret q
  | true=>
   rw [if_pos rfl] at q ⊢;refine Ok.bind (q.mono λfl S2 q2=>?_);cases fl with
   | nx ρ2=>obtain ⟨j,hj,q3⟩:=q2;exact Ok.while_ I J R step m j ρ2 S2 (by omega) q3
   | ct ρ2=>obtain ⟨j,hj,q3⟩:=q2;exact Ok.while_ I J R step m j ρ2 S2 (by omega) q3
   | bk ρ2=>exact Ok.ret q2
   | rt d=>exact Ok.ret q2
theorem e6 {c:Type} {l:List c} {h g:c->D} {p:c->Bool} {t:D->M Bool} {f:D->M D} {S:Sto} (s:l.length<sizeLine) (m:∀ a∈l,t (h a) S=.ok (p a) S) (k:∀ a∈l,p a=true->f (h a) S=.ok (g a) S):e9 (U8 (l.map h)) t f (l.length+1) 0 [] S=.ok ((l.filter p).map g) S:=by
 obtain ⟨es,S',e,q,r⟩:=Ok.comp (src:=U8 (l.map h)) (λi S' es=>S'=S/\es=((l.take i).filter p).map g) (λS es _=>by show some (l.map h)[l.length]?=some none;rw [IR (by simp)])
  (λi S' es b ⟨j,o⟩=>by
   subst j o;refine ⟨h l[i],?_,p l[i],S',m _ (Jk b),?_⟩
   ·show some (l.map h)[i]?=some (some (h l[i]));rw [Ie,HP b];rfl
   ·have n:=Je b;cases d:p l[i] with
    | true=>
     dsimp only;rw [if_pos rfl];refine ⟨g l[i],S',k _ (Jk b) d,?_,rfl,?_⟩
     ·grind
     ·grind
    | false=>
     dsimp only;rw [if_neg HU];refine ⟨rfl,?_⟩;rw [n,Jl,Kw (by rw [d];exact HU),KU,IF]) ⟨rfl,rfl⟩
 grind
def Asc (x:Str):Prop:=∀ c∈x.cps.toList,c<128
def O5 (j:Nat):Nat:=1000000000000000000000000000000000000000+j
mutual
def Pln (j:Nat):D->Prop
 | .non=>True
 | .bl _=>True
 | .int i=>i.natAbs<=O5 j
 | .str x=>x.length<=45+j/\Asc x
 | .tup ds=>Plns j ds
 | .lst ds=>Plns j ds
 | .scr _=>False
 | .ref _=>False
def Plns (j:Nat):List D->Prop
 | []=>True
 | d :: ds=>Pln j d/\Plns j ds
end
mutual
noncomputable def py:D->PyData
 | .non=>.none
 | .bl b=>.bool b
 | .int i=>.int i
 | .str x=>.str x
 | .tup ds=>.tuple (pys ds)
 | .lst ds=>.list (pys ds)
 | .scr _=>.none
 | .ref _=>.none
noncomputable def pys:List D->List PyData
 | []=>[]
 | d :: ds=>py d :: pys ds
end
mutual
noncomputable def dp:D->Nat
 | .tup ds=>dps ds+1
 | .lst ds=>dps ds+1
 | _=>0
noncomputable def dps:List D->Nat
 | []=>0
 | d :: ds=>max (dp d) (dps ds)
end
mutual
noncomputable def sz:D->Nat
 | .int _=>60
 | .str x=>10 * x.length+2
 | .tup ds=>szs ds+3
 | .lst ds=>szs ds+3
 | _=>5
noncomputable def szs:List D->Nat
 | []=>0
 | d :: ds=>sz d+2+szs ds
end
theorem Plns.of:∀ {ds:List D},(∀ d∈ds,Pln j d)->Plns j ds
 | [],_=>trivial
 | d :: ds,h=>⟨h d (HY ..),Plns.of λe a=>h e (Ic _ a)⟩
mutual
theorem Pln.up:∀ (d:D),Pln j d->Pln (j+1) d
 | .non,_=>trivial
 | .bl _,_=>trivial
 | .int i,h=>by have h:i.natAbs<=O5 j:=h;show i.natAbs<=O5 (j+1);unfold O5 at *;omega
 | .str x,h=>⟨by have:=h.1;omega,h.2⟩
 | .tup ds,h=>Plns.up ds h
 | .lst ds,h=>Plns.up ds h
 | .scr _,h=>h.elim
 | .ref _,h=>h.elim
theorem Plns.up:∀ (ds:List D),Plns j ds->Plns (j+1) ds
 | [],_=>trivial
 | d :: ds,h=>⟨Pln.up d h.1,Plns.up ds h.2⟩
end
theorem dB:∀ {ds:List D},(∀ d∈ds,dp d<=n)->dps ds<=n
 | [],_=>Jp _
 | d :: ds,h=>by
  have:=h d (HY ..);have:=dB λe a=>h e (Ic _ a);show max (dp d) (dps ds)<=n;omega
mutual
theorem Q7 (S:Sto):∀ (d:D) (n:Nat),Pln j d->dp d<n->f9 n S d=some (py d)
 | .non,n+1,_,_=>rfl
 | .bl _,n+1,_,_=>rfl
 | .int _,n+1,_,_=>rfl
 | .str _,n+1,_,_=>rfl
 | .tup ds,n+1,h,a=>by
  show (j4 (f9 n S) ds).map PyData.tuple=_;rw [bA S ds n h (by have:dps ds+1<n+1:=a;omega)];rfl
 | .lst ds,n+1,h,a=>by
  show (j4 (f9 n S) ds).map PyData.list=_;rw [bA S ds n h (by have:dps ds+1<n+1:=a;omega)];rfl
 | .scr _,_,h,_=>h.elim
 | .ref _,_,h,_=>h.elim
 | .non,0,_,h=>by omega
 | .bl _,0,_,h=>by omega
 | .int _,0,_,h=>by omega
 | .str _,0,_,h=>by omega
 | .tup _,0,_,h=>by omega
 | .lst _,0,_,h=>by omega
theorem bA (S:Sto):∀ (ds:List D) (n:Nat),Plns j ds->dps ds<n->j4 (f9 n S) ds=some (pys ds)
 | [],n,_,_=>rfl
 | d :: ds,n,h,hn=>by
  have hn:max (dp d) (dps ds)<n:=hn;simp only [j4,Q7 S d n h.1 (by omega),bA S ds n h.2 (by omega)];rfl
end
theorem yx (h:Asc x):PyData.strOk x=true:=by
 unfold PyData.strOk;rw [Array.all_eq_true'];intro c a;have:=h c (by simpa using a);grind
mutual
theorem hE:∀ d:D,Pln j d->(py d).canLay0=true
 | .non,_=>rfl
 | .bl _,_=>rfl
 | .int _,_=>rfl
 | .str x,h=>by show PyData.canLay0 (.str x)=true;simp only [PyData.canLay0];exact yx h.2
 | .tup ds,h=>by show PyData.canLay0 (.tuple (pys ds))=true;simp only [PyData.canLay0];exact Z3 ds h
 | .lst ds,h=>by show PyData.canLay0 (.list (pys ds))=true;simp only [PyData.canLay0];exact Z3 ds h
 | .scr _,h=>h.elim
 | .ref _,h=>h.elim
theorem Z3:∀ ds:List D,Plns j ds->PyData.canLayAll0 (pys ds)=true
 | [],_=>rfl
 | d :: ds,h=>by show PyData.canLayAll0 (py d :: pys ds)=true;simp only [PyData.canLayAll0,hE d h.1,Z3 ds h.2,Lr]
end
mutual
theorem Q9:∀ d:D,(py d).depth<=dp d
 | .non=>by show PyData.depth .none<=_;simp [PyData.depth]
 | .bl b=>by show PyData.depth (.bool b)<=_;simp [PyData.depth]
 | .int i=>by show PyData.depth (.int i)<=_;simp [PyData.depth]
 | .str x=>by show PyData.depth (.str x)<=_;simp [PyData.depth]
 | .tup ds=>by show PyData.depth (.tuple (pys ds))<=dps ds+1;simp only [PyData.depth];have:=V7 ds;omega
 | .lst ds=>by show PyData.depth (.list (pys ds))<=dps ds+1;simp only [PyData.depth];have:=V7 ds;omega
 | .scr _=>by show PyData.depth .none<=_;simp [PyData.depth]
 | .ref _=>by show PyData.depth .none<=_;simp [PyData.depth]
theorem V7:∀ ds:List D,PyData.depthAll (pys ds)<=dps ds
 | []=>by show PyData.depthAll []<=0;simp [PyData.depthAll]
 | d :: ds=>by
  have:=Q9 d;have:=V7 ds;show PyData.depthAll (py d :: pys ds)<=max (dp d) (dps ds);simp only [PyData.depthAll];omega
end
theorem vo {i:Int} (h:i.natAbs<=O5 j) (hj:j<=1000):decide (i.natAbs.log2<1920)=true:=by
 refine Ia ?_;by_cases z:i.natAbs=0
 ·rw [z];decide
 ·have:i.natAbs<2 ^ 140:=by unfold O5 at h;omega
  have:=(Nat.log2_lt z).mpr this;omega
mutual
theorem jD (f:j<=1000):∀ d:D,Pln j d->(py d).showable=true/\(py d).hasDict=false/\(py d).shown.length<=sz d
 | .non,_=>⟨rfl,rfl,by show (PyData.shown .none).length<=5;decide⟩
 | .bl b,_=>⟨rfl,rfl,by show (PyData.shown (.bool b)).length<=5;cases b <;> decide⟩
 | .int i,h=>⟨vo h f,rfl,by
   have h:i.natAbs<=O5 j:=h;have e:=int_text_length_le10 (k:=40) (a:=i) (by decide) (by unfold O5 at h;omega);show (Str.ofString (toString i)).length<=60;rw [PySem.ofString_length];omega⟩
 | .str x,h=>⟨rfl,rfl,by
   show (PyData.shown (.str x)).length<=10 * x.length+2;rw [PyData.shown_str];exact StrLaws.reprText_len x λc m=>by have:=h.2 c m;omega⟩
 | .tup ds,h=>by
  obtain ⟨a,b,c⟩:=aT f ds h;refine ⟨by show PyData.showable (.tuple (pys ds))=true;simp only [PyData.showable];exact a,by show PyData.hasDict (.tuple (pys ds))=false;simp only [PyData.hasDict];exact b,?_⟩;have g:=tupleText_len_le (PyData.shownAll (pys ds));have l:=JU (pys ds);show (PyData.shown (.tuple (pys ds))).length<=szs ds+3;simp only [PyData.shown];omega
 | .lst ds,h=>by
  obtain ⟨a,b,c⟩:=aT f ds h;refine ⟨by show PyData.showable (.list (pys ds))=true;simp only [PyData.showable];exact a,by show PyData.hasDict (.list (pys ds))=false;simp only [PyData.hasDict];exact b,?_⟩;have g:=listText_len_le (PyData.shownAll (pys ds));have l:=JU (pys ds);show (PyData.shown (.list (pys ds))).length<=szs ds+3;simp only [PyData.shown];omega
 | .scr _,h=>h.elim
 | .ref _,h=>h.elim
theorem aT (hj:j<=1000):∀ ds:List D,Plns j ds->PyData.showableAll (pys ds)=true/\PyData.hasDictAll (pys ds)=false/\((PyData.shownAll (pys ds)).map (·.length)).sum+2 * (pys ds).length<=szs ds
 | [],_=>⟨rfl,rfl,by show ((PyData.shownAll []).map (·.length)).sum+2 * 0<=0;simp [PyData.shownAll]⟩
 | d :: ds,h=>by
  obtain ⟨a,b,c⟩:=jD hj d h.1;obtain ⟨a2,b2,c2⟩:=aT hj ds h.2;refine ⟨by show PyData.showableAll (py d :: pys ds)=true;simp only [PyData.showableAll,a,a2,Lr],by show PyData.hasDictAll (py d :: pys ds)=false;simp only [PyData.hasDictAll,b,b2,Bool.or_self],?_⟩;show ((PyData.shownAll (py d :: pys ds)).map (·.length)).sum+2 * (py d :: pys ds).length<=sz d+2+szs ds;simp only [PyData.shownAll,II,List.sum_cons,IV];omega
end
structure Any (j N:Nat) (d:D):Prop where
 pl:Pln j d
 dp:dp d<=3+j
 sz:sz d<=N
theorem pG (h:Any j N d) (i:j<=40) (g:N<=10000000) (S:Sto):p8 d S=.ok (.str (py d).shown) S:=by
 obtain ⟨a,b,c⟩:=jD (by omega) d h.pl;have e:=Q7 S d 64 h.pl (by have:=h.dp;omega);have f:p8 d S=(match f9 64 S d with
  | some p=>(if Shows p then ret (D.str p.shown) else bad) S
  | none=>.bad):=rfl
 rw [f,e];show (if Shows (py d) then ret (D.str (py d).shown) else bad) S=_;rw [if_pos ⟨a,b,by have:=Q9 d;have:=h.dp;omega,by have:=h.sz;rw [Iq];omega⟩];rfl
mutual
noncomputable def plB:D->Bool
 | .non=>true
 | .bl _=>true
 | .int i=>decide (i.natAbs<=O5 0)
 | .str x=>decide (x.length<=45)&&x.cps.toList.all (· < 128)
 | .tup ds=>nA ds
 | .lst ds=>nA ds
 | .scr _=>false
 | .ref _=>false
noncomputable def nA:List D->Bool
 | []=>true
 | d :: ds=>plB d&&nA ds
end
mutual
theorem rC:∀ d:D,plB d=true->Pln 0 d
 | .non,_=>trivial
 | .bl _,_=>trivial
 | .int i,h=>by
  have h:decide (i.natAbs<=O5 0)=true:=h;exact (Iu h:i.natAbs<=O5 0)
 | .str x,h=>by
  have h:(decide (x.length<=45)&&x.cps.toList.all (· < 128))=true:=h;rw [HS,Iz,Ix] at h;exact ⟨h.1,λc hc=>Iu (h.2 c hc)⟩
 | .tup ds,h=>dC ds h
 | .lst ds,h=>dC ds h
 | .scr _,h=>Bool.noConfusion h
 | .ref _,h=>Bool.noConfusion h
theorem dC:∀ ds:List D,nA ds=true->Plns 0 ds
 | [],_=>trivial
 | d :: ds,h=>by
  have h:(plB d&&nA ds)=true:=h;rw [HS] at h;exact ⟨rC d h.1,dC ds h.2⟩
end
def smB (n N:Nat) (d:D):Bool:=plB d&&decide (dp d<=n)&&decide (sz d<=N)
theorem hR (h:smB n N d=true):Pln 0 d/\dp d<=n/\sz d<=N:=by
 unfold smB at h;rw [HS,HS,Iz,Iz] at h;exact ⟨rC d h.1.1,h.1.2,h.2⟩
theorem Pln.ups {d:D} (h:Pln 0 d):Pln j d:=by
 induction j with
 | zero=>exact h
 | succ j a=>exact a.up
theorem dY (n:Nat) (S:Sto):∀ ns:List Int,j4 (f9 (n+1) S) (ns.map D.int)=some (ns.map PyData.int)
 | []=>rfl
 | b :: a=>by
  have e:f9 (n+1) S (.int b)=some (.int b):=rfl;simp only [II,j4,e,dY n S a]
theorem hI:∀ ns:List Int,PyData.canLayAll0 (ns.map PyData.int)=true
 | []=>rfl
 | b :: a=>by simp only [II,PyData.canLayAll0,PyData.canLay0,hI a,Lr]
theorem fD {i:Nat} (h:i<=ds.length):L4 ds none (some (i:Int))=ds.take i:=by
 have e:HT.sIx ds.length ds.length (some (i:Int))=i:=by
  show (if (i:Int)<0 then ((i:Int)+(ds.length:Int)).toNat else min (i:Int).toNat ds.length)=i;rw [if_neg (by omega)];simp;omega
 unfold L4;rw [e,HT.sIx_none];simp
theorem oH {i:Nat} (h:i<=ds.length):L4 ds (some (i:Int)) none=ds.drop i:=by
 have e:HT.sIx ds.length 0 (some (i:Int))=i:=by
  show (if (i:Int)<0 then ((i:Int)+(ds.length:Int)).toNat else min (i:Int).toNat ds.length)=i;rw [if_neg (by omega)];simp;omega
 unfold L4;rw [e,HT.sIx_none];rw [List.take_of_length_le (by simp)]
theorem cat_tup (h:xs.length+ys.length<=sizeLine):f7 (.tup xs) (.tup ys) S=.ok (.tup (xs++ys)) S:=by
 show (if xs.length+ys.length<=sizeLine then ret (D.tup (xs++ys)) else bad) S=_;rw [if_pos h];rfl
theorem j2 (ds:List D) (S:Sto):e8 (.tup ds) S=.ok (.int ds.length) S:=rfl
theorem t5 (ds:List D) (S:Sto):u8 (.tup ds) S=.ok (U8 ds,ds.length+1) S:=rfl
theorem q9 {n:Nat} (h:n<1000) (S:Sto):k4 [.int (n:Int)] S=.ok (ar 0 n,n+1) S:=by
 unfold k4;have a:(n:Int)<1000:=by omega
 have b:(0:Int)<=n:=by omega
 have c:-(2 ^ 62)<=(n:Int)/\(n:Int)<2 ^ 62:=⟨LB (by decide) b,Int.lt_trans a (by decide)⟩;simp only [if_pos c,JX];rfl
theorem m3 {i:Nat} {d:D} (S:Sto) (h:ds[i]?=some d):ixD (.tup ds) (.int (i:Int)) S=.ok d S:=by
 show dU (atI ds (i:Int)) S=_;rw [Z6 h];rfl
theorem gQ {i:Nat} {d:D} (S:Sto) (h:ds[i]?=some d):ixD (.lst ds) (.int (i:Int)) S=.ok d S:=by
 show dU (atI ds (i:Int)) S=_;rw [Z6 h];rfl
theorem zH {i n:Nat} {d:D} {S:Sto} (e:S[n]?=some (.lst ds)) (h:ds[i]?=some d):ixD (.ref n) (.int (i:Int)) S=.ok d S:=by
 simp only [ixD,e,Z6 h];rfl
theorem A8 {α:Type} {src:Src} {l:List α} {h g:α->D} {p:α->Bool} {t:D->M Bool} {f:D->M D} {S:Sto} (hs:∀ i,src i S=some (l.map h)[i]?) (hl:l.length<sizeLine) (ht:∀ a∈l,t (h a) S=.ok (p a) S) (hf:∀ a∈l,p a=true->f (h a) S=.ok (g a) S):e9 src t f (l.length+1) 0 [] S=.ok ((l.filter p).map g) S:=by
 obtain ⟨es,S',e,e1,e2⟩:=Ok.comp (src:=src) (t:=t) (f:=f) (n:=l.length) (λi S' es=>S'=S/\es=((l.take i).filter p).map g) (λS' es q=>by obtain ⟨q,_⟩:=q;subst q;rw [hs,IR (by simp)])
  (λi S' es hi ⟨h1,h2⟩=>by
   subst h1 h2;refine ⟨h l[i],?_,p l[i],S',ht _ (Jk hi),?_⟩
   ·rw [hs,Ie,HP hi];rfl
   ·have ta:l.take (i+1)=l.take i++[l[i]]:=Je hi;cases hp:p l[i] with
    | true=>
     dsimp only;rw [if_pos rfl];refine ⟨g l[i],S',hf _ (Jk hi) hp,?_,rfl,?_⟩
     ·rw [Hy];have:=IS p (l.take i);have:=List.length_take_le i l;omega
     ·rw [ta,Jl,IN,Lx hp];rfl
    | false=>
     dsimp only;rw [if_neg HU];refine ⟨rfl,?_⟩;rw [ta,Jl,Kw (by rw [hp];exact HU),KU,IF]) (S:=S) ⟨rfl,rfl⟩
 rw [e];subst e1 e2;rw [KL]
theorem dg (n i:Nat) (S:Sto):ar 0 n i S=some ((List.range n).map λ(k:Nat)=>D.int (k:Int))[i]?:=by
 show some (if i<n then some (D.int (0+i)) else none)=_;grind
theorem ei (e:S[n]?=some (.lst ds)) (i:Nat):ba n i S=some ds[i]?:=by
 simp only [ba,e]
theorem dZ (ns:List Int):v3 (ns.map D.int)=some ns:=by
 induction ns with
 | nil=>rfl
 | cons n ns a=>simp only [II,v3,a,LD]
theorem d3 {α β:Type} {f:α->β} {l:List α} {i:Nat} {a:α} (h:l[i]?=some a):(l.map f)[i]?=some (f a):=by rw [Ie,h];rfl
theorem pi (x:Int):∀ ns:List Int,((ns.map PyData.int).any λy=>PyData.eqv y (.int x))=decide (x∈ns)
 | []=>by simp
 | y :: ns=>by
  simp only [II,Km,pi x ns,PyData.eqv];rw [KQ,LF,Iz,Iz,Ii];constructor
  ·grind
  ·grind
def Ex (S S':Sto):Prop:=∃ T,S'=S++T
theorem Ex.at {S S':Sto} (h:Ex S S') {q:Nat} (hq:q<S.length):S'[q]?=S[q]?:=by
 obtain ⟨t,rfl⟩:=h;rw [HW hq]
theorem X7 (e:S[n]?=some (.lst es)):lstOf (.ref n) S=.ok es S:=by simp only [lstOf,e]
theorem Dw {n j:Nat} {es:List D} {y:D} (e:S[n]?=some (.lst es)) (h:es[j]?=some y) (hs:j<1000):popD (.ref n) [.int (j:Int)] S=.ok y (S.set n (.lst (es.eraseIdx j))):=by
 have hj:=(HN.mp h).1;have c:-(2 ^ 63)<=(j:Int)/\(j:Int)<2 ^ 63:=⟨LB (by decide) (Int.natCast_nonneg j),Int.lt_trans (show (j:Int)<1000 by omega) (by decide)⟩;have i:ixN es.length (j:Int)=some j:=by
  unfold ixN;rw [if_pos (by omega)];simp only [JX];rw [if_pos (by omega)]
 simp only [popD,e,if_pos c,i,h]
theorem xj (ds:List D) (S:Sto):e8 (.lst ds) S=.ok (.int ds.length) S:=rfl
theorem xp (e:S[n]?=some (.lst es)):e8 (.ref n) S=.ok (.int es.length) S:=by simp only [e8,e]
theorem bN {y:D} (e:S[n]?=some (.lst es)) (a:es.length<sizeLine):G9 (.ref n) [y] S=.ok .non (S.set n (.lst (es++[y]))):=by simp only [G9,e,if_pos a]
def Fw (ns:List Int) (p N:Nat) (S:Sto):Prop:=∃ a l t:Int,S[p]?=some (o9 ns a l t)/\0<=a/\0<=l/\0<=t/\t+N<1000000
theorem Fw.less {p N K:Nat} {S:Sto} (h:Fw ns p N S) (g:K<=N):Fw ns p K S:=by
 obtain ⟨a,l,t,e,b,d,c,f⟩:=h;exact ⟨a,l,t,e,b,d,c,by omega⟩
theorem Fw.keep (h:Fw ns p N S) (e:S'[p]?=S[p]?):Fw ns p N S':=by
 obtain ⟨a,l,t,c,b⟩:=h;exact ⟨a,l,t,by rw [e];exact c,b⟩
theorem Fw.lt (h:Fw ns p N S):p<S.length:=by
 obtain ⟨a,l,t,e,_⟩:=h;grind
theorem Fw.push (h:Fw ns p N S) (o:O):Fw ns p N (S++[o]):=h.keep (by rw [HW h.lt])
theorem oo {ns:List Int} {p N m:Nat} {S:Sto} (h:Fw ns p (N+1) S) (hm:0<m) (hm2:m<1073741824):Ok (ji (.ref p) (.int (m:Int))) S λd S'=>∃ r:Nat,d=.int (r:Int)/\r<m/\Fw ns p N S'/\S'.length=S.length/\∀ q,q≠p->S'[q]?=S[q]?:=by
 obtain ⟨a,l,t,e,h1,h2,h3,h4⟩:=h;obtain ⟨r,a',l',e1,r0,r1,ha,hl⟩:=rK (m:=(m:Int)) e h1 h2 h3 (by omega) (by omega) (by omega);obtain ⟨r,rfl⟩:=JQ r0;refine ⟨_,_,e1,r,rfl,by omega,⟨a',l',t+1,?_,ha,hl,by omega,by omega⟩,by simp,λq hq=>?_⟩
 ·rw [IA (HN.mp e).1]
 ·rw [HZ (Ne.symm hq)]
def Xn {a:Type} (m:M a) (S:Sto) (Q:Nat->Sto->Prop):Prop:=∃ n S',m S=.exn n S'/\Q n S'
theorem Xn.bind {k:α->M β} {S:Sto} {Q:Nat->Sto->Prop} (h:Xn m S Q):Xn (L3.bind m k) S Q:=by
 obtain ⟨n,S',e,q⟩:=h;exact ⟨n,S',by unfold L3.bind;rw [e],q⟩
theorem Xn.ok {k:α->M β} {S:Sto} {Q:Nat->Sto->Prop} (h:Ok m S λa S1=>Xn (k a) S1 Q):Xn (L3.bind m k) S Q:=by
 obtain ⟨a,S1,e,n,S',b,q⟩:=h;exact ⟨n,S',by unfold L3.bind;rw [e];exact b,q⟩
theorem Xn.cg (e:m=m') (h:Xn m' S Q):Xn m S Q:=e▸h
theorem Ok.nx (h:Ok m S Q):Ok (L3.nx m) S Q:=by
 obtain ⟨a,S1,e,q⟩:=h;exact ⟨a,S1,by unfold L3.nx;rw [e],q⟩
theorem FO {a:α} (e:m S=.ok a S1):L3.nx m S=.ok a S1:=by unfold L3.nx;rw [e]
theorem Ok.try_ {b:Nat->Bool} {c:Option Nat} {ρ:L3.Env} {S:Sto} {Q:Fl->Sto->Prop} (k:Ok (g ρ) S Q):Ok (Y2 g b c h ρ) S Q:=by
 obtain ⟨a,S1,e,q⟩:=k;exact ⟨a,S1,by unfold Y2;rw [e],q⟩
theorem Ok.caught {a:Nat->Bool} {b:Option Nat} {ρ:L3.Env} {S:Sto} {Q:Fl->Sto->Prop} (k:Xn (g ρ) S λn S1=>∃ c fs,S1[n]?=some (.exc c fs)/\a c=true/\Ok (h (pQ b n ρ)) S1 λd S2=>Q (kK b d) S2):Ok (Y2 g a b h ρ) S Q:=by
 obtain ⟨n,S1,e,c,fs,j,hs,i⟩:=k;obtain ⟨d,S2,f,q⟩:=i;refine ⟨kK b d,S2,?_,q⟩;unfold Y2;rw [e];simp only [j,hs,if_true];unfold L3.bind L3.nx;rw [f];rfl
def nxt {d:Type} (q:EvK) (e:Lc) (c:List Stmt) (k:Fl->M d):Fl->M d:=λb=>match b with
 | .nx a=>i7 q e c a k
 | b=>k b
section
variable {α:Type} {q:EvK} {lc:Lc} {st:Stmt} {sts:List Stmt} {ρ:L3.Env} {k:Fl->M α} {S:Sto} {Q:α->Sto->Prop} {P:Nat->Sto->Prop}
theorem Ok.first (h:Ok (q.s lc st ρ (nxt q lc sts k)) S Q):Ok (i7 q lc (st :: sts) ρ k) S Q:=h
theorem Ok.nxt (h:Ok (q.s lc st ρ (L3.nxt q lc sts k)) S Q):Ok (L3.nxt q lc (st :: sts) k (.nx ρ)) S Q:=h
theorem Xn.first (h:Xn (q.s lc st ρ (nxt q lc sts k)) S P):Xn (i7 q lc (st :: sts) ρ k) S P:=h
theorem Xn.nxt (h:Xn (q.s lc st ρ (L3.nxt q lc sts k)) S P):Xn (L3.nxt q lc (st :: sts) k (.nx ρ)) S P:=h
theorem Ok.pos [Decidable c] {a b:M α} (h:c) (k:Ok a S Q):Ok (if c then a else b) S Q:=by rw [if_pos h];exact k
theorem Ok.neg [Decidable c] {a b:M α} (h:¬ c) (k:Ok b S Q):Ok (if c then a else b) S Q:=by rw [if_neg h];exact k
theorem Xn.pos [Decidable c] {a b:M α} (h:c) (k:Xn a S P):Xn (if c then a else b) S P:=by rw [if_pos h];exact k
theorem Xn.neg [Decidable c] {a b:M α} (h:¬ c) (k:Xn b S P):Xn (if c then a else b) S P:=by rw [if_neg h];exact k
end
def fin {b:Type} (κ:Fl->M b):Fl->M b:=λa=>match a with
 | .nx ρ=>κ (.nx ρ)
 | a=>κ a
theorem Xn.eq {k:α->M β} {S S1:Sto} {a:α} {Q:Nat->Sto->Prop} (e:m S=.ok a S1) (h:Xn (k a) S1 Q):Xn (L3.bind m k) S Q:=Xn.ok ⟨a,S1,e,h⟩
theorem Xn.mono (h:Xn m S Q) (i:∀ n S1,Q n S1->Q' n S1):Xn m S Q':=by
 obtain ⟨n,S1,e,q⟩:=h;exact ⟨n,S1,e,i _ _ q⟩
theorem R7 {i:Nat} {x:D} {S:Sto} (h:i<ds.length) (n:ds.length<=1000) :
  Ok (bind (bU (.int (i:Int))) λc=>bind (slD (.tup ds) none c) λk=>bind (f7 k (.tup [x])) λb=>bind (f7 (.int (i:Int)) (.int 1)) λj=>bind (bU j) λf=>bind (slD (.tup ds) f none) λx6=>bind (f7 b x6) λx7=>ret x7) S λd S'=>d=.tup (ds.set i x)/\S'=S:=by
 have m:(1001:Nat)<=sizeLine:=by decide
 have e:((i:Int)+1)=((i+1:Nat):Int):=by omega
 have l:L4 ds none (some (i:Int))=ds.take i:=fD (by omega);have g:L4 ds (some ((i:Int)+1)) none=ds.drop (i+1):=by rw [e];exact oH (by omega)
 refine Ok.eq rfl (Ok.eq (a:=.tup (ds.take i)) (by rw [<- l];rfl) (Ok.eq (cat_tup (by simp;omega)) (Ok.eq rfl (Ok.eq rfl (Ok.eq (a:=.tup (ds.drop (i+1))) (by rw [<- g];rfl) (Ok.eq (cat_tup (by simp;omega)) (Ok.ret ⟨?_,rfl⟩)))))));rw [List.set_eq_take_append_cons_drop,if_pos h,List.append_assoc];rfl
theorem nxb {k:α->M β} {S S':Sto} {a:α} (e:m S=.ok a S'):L3.bind (L3.nx m) k S=k a S':=a8 (by unfold L3.nx;rw [e])
theorem aA (S:Sto) (a b:O):(S++[a]).set S.length b=S++[b]:=by simp
theorem zi {r:Nat} (h:r<100):Pln 0 (.int (r:Int)):=by
 show ((r:Int)).natAbs<=O5 0;have:O5 0≥100:=by decide +kernel
 omega
theorem dt:∀ {ds:List D},(∀ d∈ds,sz d<=n)->szs ds<=(n+2) * ds.length
 | [],_=>HV _
 | d :: ds,h=>by
  have c:=h d (by simp);have b:=dt (ds:=ds) λx a=>h x (by simp [a]);show sz d+2+szs ds<=(n+2) * (ds.length+1);rw [Nat.mul_add];omega
theorem yL {ds:List D} {v:D} (e:S[n]?=some (.lst ds)) (h:i<ds.length):A9 (.ref n) (.int (i:Int)) v S=.ok .non (S.set n (.lst (ds.set i v))):=by
 have ix:ixN ds.length (i:Int)=some i:=by
  unfold ixN;rw [if_pos (by omega)];simp only [JX];rw [if_pos (by omega)]
 simp only [A9,e,ix]
theorem gN (e:S[n]?=some (.lst ds)):m9 (.ref n) S=.ok (.tup ds) S:=a8 (by simp only [N9,lstOf,e])
theorem qS (ns:List Int):∃ ms:List Int,L4 (ns.map D.int) none (some 63)=ms.map D.int:=⟨(ns.drop (HT.sIx ns.length 0 none)).take (HT.sIx ns.length ns.length (some 63)-HT.sIx ns.length 0 none),by simp [L4,List.map_drop,List.map_take]⟩
theorem W2 (h:n<=6):n<sizeLine:=Nat.lt_of_le_of_lt h (by decide)
theorem p0 (n:Nat) (S:Sto):ar 0 n n S=some none:=by
 show some (if n<n then _ else none)=some none;grind
theorem v8 {n i:Nat} (h:i<n) (S:Sto):ar 0 n i S=some (some (.int (i:Int))):=by rw [dg,d3 (Kh h)]
structure Sml (n N:Nat) (d:D):Prop where
 pl:Pln 0 d
 dp:dp d<=n
 sz:sz d<=N
def Smls (n N:Nat) (ds:List D):Prop:=∀ d∈ds,Sml n N d
theorem Smls.nil:Smls n N []:=λd h=>by cases h
theorem Smls.cons (h:Sml n N d) (hs:Smls n N ds):Smls n N (d :: ds):=λx a=>by
 rcases Ii.mp a with z | z
 ·rw [z];exact h
 ·exact hs x z
theorem Smls.map {b:Type} {n N:Nat} {f:b->D} {l:List b} (h:∀ a∈l,Sml n N (f a)):Smls n N (l.map f):=λx c=>by
 obtain ⟨a,d,rfl⟩:=KY.mp c;exact h a d
theorem Sml.mono {d:D} (h:Sml n N d) (b:n<=n') (a:N<=N'):Sml n' N' d:=⟨h.pl,Ir h.dp b,Ir h.sz a⟩
theorem Sml.up {n N a N':Nat} {d:D} (h:Sml n N d) (c:n<=a:=by decide) (b:N<=N':=by decide):Sml a N' d:=h.mono c b
theorem Sml.tup {ds:List D} (h:Smls n N ds) (a:ds.length<=m):Sml (n+1) ((N+2) * m+3) (.tup ds):=by
 have s:=dt λd hd=>(h d hd).sz;have b:=dB λd hd=>(h d hd).dp;refine ⟨Plns.of λd hd=>(h d hd).pl,by show dps ds+1<=n+1;omega,?_⟩;show szs ds+3<=_;have:=Nat.mul_le_mul_left (N+2) a;omega
theorem Sml.lst {ds:List D} (h:Smls n N ds) (a:ds.length<=m):Sml (n+1) ((N+2) * m+3) (.lst ds):=by
 have s:=dt λd hd=>(h d hd).sz;have b:=dB λd hd=>(h d hd).dp;refine ⟨Plns.of λd hd=>(h d hd).pl,by show dps ds+1<=n+1;omega,?_⟩;show szs ds+3<=_;have:=Nat.mul_le_mul_left (N+2) a;omega
theorem Sml.nat {n N i:Nat} (h:i<100) (a:60<=N:=by decide):Sml n N (.int (i:Int)):=⟨zi h,Jp _,a⟩
theorem Sml.big {n N i:Nat} (h:i<=10000000000) (a:60<=N:=by decide):Sml n N (.int (i:Int)):=⟨by
 show ((i:Int)).natAbs<=O5 0;have:O5 0≥10000000000:=by decide +kernel
 omega,Jp _,a⟩
theorem Sml.non {n N:Nat} (a:5<=N:=by decide):Sml n N .non:=⟨trivial,Jp _,a⟩
theorem Sml.bl {n N:Nat} {b:Bool} (a:5<=N:=by decide):Sml n N (.bl b):=⟨trivial,Jp _,a⟩
theorem Sml.w (h:smB n N d=true:=by decide +kernel):Sml n N d:=⟨(hR h).1,(hR h).2.1,(hR h).2.2⟩
theorem Sml.any (h:Sml n N d) (hn:n<=43):Any 40 N d:=⟨h.pl.ups,by have:=h.dp;omega,h.sz⟩
theorem Sml.repr (h:Sml n N d) (a:n<=43:=by decide) (b:N<=10000000:=by decide) (S:Sto):p8 d S=.ok (.str (py d).shown) S:=pG (h.any a) (by omega) b S
theorem A4 (a b:Int) (S:Sto):a9 .Eq (.int a) (.int b) S=.ok (.bl (decide (a=b))) S:=rfl
theorem wx (a b:Int) (S:Sto):a9 .LtE (.int a) (.int b) S=.ok (.bl (decide (a<=b))) S:=rfl
theorem Bv (a b:Int) (S:Sto):a9 .Lt (.int a) (.int b) S=.ok (.bl (decide (a<b))) S:=rfl
theorem rJ (a b:Int) (S:Sto):a9 .GtE (.int a) (.int b) S=.ok (.bl (decide (b<=a))) S:=rfl
theorem fy (a b:Int) (S:Sto):a9 .Gt (.int a) (.int b) S=.ok (.bl (decide (b<a))) S:=rfl
theorem i5 (a b:Nat) (S:Sto):f7 (.int (a:Int)) (.int (b:Int)) S=.ok (.int ((a+b:Nat):Int)) S:=by
 show R.ok (D.int ((a:Int)+(b:Int))) S=_;grind
theorem n4 {a b:Nat} (h:b<=a) (S:Sto):A6 (.int (a:Int)) (.int (b:Int)) S=.ok (.int ((a-b:Nat):Int)) S:=by
 show R.ok (D.int ((a:Int)-(b:Int))) S=_;grind
theorem nx_bind {k:α->M β} {S:Sto} {Q:β->Sto->Prop} (h:Ok m S λa S1=>Ok (k a) S1 Q):Ok (L3.bind (L3.nx m) k) S Q:=Ok.bind (Ok.nx h)
theorem c9 (h:Ok m S λd S'=>d=a/\S'=S):m S=.ok a S:=by
 obtain ⟨d,S',e,rfl,rfl⟩:=h;exact e
theorem raise_k {κ:Fl->M α} (b:ds.length=fs.length) (a:ds.all (D0 S)=true):Xn (L3.bind (P6 c fs ds) λd=>L3.bind (D8 d) κ) S λn S'=>n=S.length/\S'=S++[.exc c (fs.zip ds)]:=by
 refine Xn.ok ⟨_,_,Ai b a,Xn.bind ⟨S.length,S++[.exc c (fs.zip ds)],?_,rfl,rfl⟩⟩;simp [D8]
theorem Ok.loop {n:Nat} (I:Nat->L3.Env->Sto->Prop) (f:∀ ρ S,I n ρ S->src n S=some none)
  (e:∀ i ρ S,i<n->I i ρ S->∃ d b,src i S=some (some d)/\tg d ρ=some b/\Ok (body b) S λc S'=>∃ a,(c=.nx a\/c=.ct a)/\I (i+1) a S') {ρ:L3.Env} {S:Sto} (h:I 0 ρ S) :
  Ok (v7 src tg body (n+1) 0 ρ) S λc S'=>∃ a,c=.nx a/\I n a S':=by
 refine (Ok.for_ I (λ_ _=>False) (λ_ _=>False) f (λi ρ S l h=>?_) n 0 ρ S (by omega) h).mono ?_
 ·obtain ⟨d,b,g,j,k⟩:=e i ρ S l h;refine ⟨d,b,g,j,k.mono ?_⟩;rintro c S' ⟨a,rfl | rfl,q⟩
  ·exact q
  ·exact q
 ·grind
theorem lV (R:EvOk T k r) (h:CxOk T k lc X) {c:Expr} {y:Str} {l pos:Pos} {b:Expr} {ifs:List Expr} {a:Scope} (m:y4 lc a [y]=true) (n:v4 b=true) :
  PE X (.ListComp c [⟨.Name y l,b,ifs,0⟩] a pos) (tD X.K T.cl (xOf X) λρ=>bind (y9 r lc c y l b ifs a ρ) newL):=by
 unfold y9;cases t:j4 (i6 lc.N) (m8 a) with
 | none=>exact PE.imp (f8 (cl:=T.cl) (xe:=xOf X)) λo H Q ⟨μ,S,ρ,j,g,p⟩=>p.bind.elim
 | some caps=>
  obtain ⟨u,e,w,f,i⟩:=E9 h m t;have q:∀ pins C d s H,PTL (d6 X pins ([y]++m8 a) a C d s H) ifs (tBo X.K T.cl x0 (testsE r (j8 lc a [y]) ifs)):=λpins C d s H=>PTL.x0 (tests_ok R (y3 h f i e pins C d s H));have v:∀ pins C d s H,PE (d6 X pins ([y]++m8 a) a C d s H) c (tD X.K T.cl x0 (r.e (j8 lc a [y]) c)):=λpins C d s H=>PE.x0 (R.ex (y3 h f i e pins C d s H) c);refine PE.imp (cj u (h.calm f) e rfl (w y (by simp)) (PI.x0 (R.ix h _ _)) q v (w9 n)) λo H Q ⟨μ,S,ρ,j,g,p⟩=>?_;dsimp only at p;rw [jB] at p;exact L9 j g p.nx
def BW:RuS where
 is _ lc e:=match e with
  | .Return (some (.ListComp _ [⟨.Name y _,b,_,0⟩] a _)) _=>decide (("return" : Str)∈lc.mu)&&(y4 lc a [y]&&v4 b)
  | _=>false
 run r _ _ lc e ρ:=match e with
  | .Return (some (.ListComp c [⟨.Name y f,b,ifs,0⟩] a _)) _=>bind (bind (y9 r lc c y f b ifs a ρ) newL) λd=>ret (.rt d)
  | _=>bad
 ok e R TX h hf hi:=by
  split at hi
  ·rw [HS,HS] at hi;exact jJ (lV R h hi.2.1 hi.2.2)
  ·cases hi
 runK q _ _ lc e ρ _ k:=match e with
  | .Return (some (.ListComp c [⟨.Name y f,b,ifs,0⟩] a _)) _=>U0 q lc c y f b ifs a ρ λds=>bind (newL ds) λd=>k (.rt d)
  | _=>bad
 eq e ρ _ k h:=by
  split
  ·simp only [P9 h,bind_assoc,j7]
  ·first
   | rfl
   | (rename_i g;split;exact (g _ _ _ _ _ _ _ _ rfl).elim;rfl)
end L3
namespace L3.Nt
open PySem PySem.Spec PyProof.Rows L2
inductive Wd where
 | out | ask | close | look | holds
def Wd.s:Wd->Str
 | .out=>"out"
 | .ask=>"ask"
 | .close=>"close"
 | .look=>"look"
 | .holds=>"holds"
def Wd.d (w:Wd):D:=.str w.s
def N1 (b:Bool):Str:=if b=true then "down" else "right"
def y0 (b:Bool):D:=.str (N1 b)
def trD (t:List Bool):D:=.tup (t.map y0)
def oD:Option Nat->D
 | none=>.non
 | some h=>.int (h:Int)
abbrev Hnd:=List Bool×Wd
def hdD (h:Hnd):D:=.tup [trD h.1,h.2.d]
abbrev Box:=Option Nat×Bool
def bxD (b:Box):D:=.tup [oD b.1,.bl b.2]
structure Nst where
 bx:List Box
 hs:List Hnd
def Nst.d (r:Nst):D:=.tup [.tup (r.bx.map bxD),.tup (r.hs.map hdD)]
def tri (n:Nat):Nat:=n * (n+1) / 2
def dn (t:List Bool):Nat:=t.countP id
def rt (t:List Bool):Nat:=t.countP λb=>!b
theorem Q6 (t:List Bool):dn t+rt t=t.length:=by
 unfold dn rt;induction t with
 | nil=>rfl
 | cons b t ih=>cases b <;> simp [Jy] <;> omega
theorem aI:∀ t:List Bool,B3 (t.map y0)=some (t.map N1)
 | []=>rfl
 | b :: t=>by
  show (B3 (t.map y0)).map (N1 b :: ·)=_;rw [aI t];rfl
theorem io (b:Bool) (t:List Bool):dn (b :: t)=(if b=true then 1 else 0)+dn t:=by unfold dn;cases b <;> simp [Jy] <;> omega
theorem jl (b:Bool) (t:List Bool):rt (b :: t)=(if b=true then 0 else 1)+rt t:=by unfold rt;cases b <;> simp [Jy] <;> omega
theorem aa:∀ t:List Bool,countIn (.str "down") ((t.map N1).map PyData.str)=(dn t:Int)
 | []=>rfl
 | true :: t=>by
  have e:countIn (.str "down") (((true :: t).map N1).map PyData.str)=1+countIn (.str "down") ((t.map N1).map PyData.str):=rfl;rw [e,aa t,io,if_pos rfl];omega
 | false :: t=>by
  have e:countIn (.str "down") (((false :: t).map N1).map PyData.str)=0+countIn (.str "down") ((t.map N1).map PyData.str):=rfl;rw [e,aa t,io,if_neg HU];omega
theorem W4:∀ t:List Bool,countIn (.str "right") ((t.map N1).map PyData.str)=(rt t:Int)
 | []=>rfl
 | true :: t=>by
  have e:countIn (.str "right") (((true :: t).map N1).map PyData.str)=0+countIn (.str "right") ((t.map N1).map PyData.str):=rfl;rw [e,W4 t,jl,if_pos rfl];omega
 | false :: t=>by
  have e:countIn (.str "right") (((false :: t).map N1).map PyData.str)=1+countIn (.str "right") ((t.map N1).map PyData.str):=rfl;rw [e,W4 t,jl,if_neg HU];omega
theorem dq (t:List Bool) (S:Sto):countT (trD t) [.str "down"] S=.ok (.int (dn t:Int)) S:=by
 show (match B3 (t.map y0) with
  | some ys=>ret (D.int (countIn (.str "down") (ys.map PyData.str)))
  | none=>bad) S=_
 rw [aI];show R.ok (D.int (countIn (.str "down") ((t.map N1).map PyData.str))) S=_;rw [aa]
theorem og (t:List Bool) (S:Sto):countT (trD t) [.str "right"] S=.ok (.int (rt t:Int)) S:=by
 show (match B3 (t.map y0) with
  | some ys=>ret (D.int (countIn (.str "right") (ys.map PyData.str)))
  | none=>bad) S=_
 rw [aI];show R.ok (D.int (countIn (.str "right") ((t.map N1).map PyData.str))) S=_;rw [W4]
def G0 (p:Nat->Bool) (h:Hnd):D:=match (List.range h.1.length).find? p with
 | some i=>y0 (h.1.getD i false)
 | none=>if p h.1.length=true then h.2.d else .str "out"
theorem cH {p:Nat->Bool} {n:Nat} (h:∀ j,j<n->p j=false):(List.range n).find? p=none:=by grind
theorem sL {p:Nat->Bool} {n i:Nat} (a:i<n) (h:∀ j,j<i->p j=false) (b:p i=true):(List.range n).find? p=some i:=by simp_all
inductive W7 where
 | out | ask | close | look | holds | right | down
deriving DecidableEq
def W7.s:W7->Str
 | .out=>"out"
 | .ask=>"ask"
 | .close=>"close"
 | .look=>"look"
 | .holds=>"holds"
 | .right=>"right"
 | .down=>"down"
def W7.d (w:W7):D:=.str w.s
def Wd.w7:Wd->W7
 | .out=>.out
 | .ask=>.ask
 | .close=>.close
 | .look=>.look
 | .holds=>.holds
def p9 (t:List Bool):Nat:=tri t.length+dn t
structure VN (size many:Nat) (r:Nst):Prop where
 s5:size<=5
 m5:many<=5
 bl:r.bx.length=tri size
 hl:r.hs.length=many
 tr:∀ h∈r.hs,h.1.length<size
 mg:∀ b∈r.bx,∀ g,b.1=some g->g<many
def m4 (size:Nat) (r:Nst) (i n:Nat) (b:Box) (t:List Bool) (w:Wd):Option Nst:=if size<=t.length then none else some ⟨r.bx.set n b,r.hs.set i (t,w)⟩
def j5 (size:Nat) (r:Nst) (i:Nat):Option Nst:=match r.hs[i]? with
 | none=>none
 | some (t,w)=>match r.bx[p9 t]? with
  | none=>none
  | some (mk,cl)=>match w with
   | .out=>m4 size r i (p9 t) (some i,cl) t .ask
   | .ask=>if cl=true then m4 size r i (p9 t) (mk,cl) (t++[false]) .out else m4 size r i (p9 t) (mk,cl) t .close
   | .close=>m4 size r i (p9 t) (mk,true) t .look
   | .look=>if mk=some i then m4 size r i (p9 t) (mk,cl) t .holds else m4 size r i (p9 t) (mk,cl) (t++[true]) .out
   | .holds=>none
def zI (size:Nat) (r:Nst) (i:Nat) (t:List Bool) (mk:Option Nat) (cl:Bool):Wd->Option Nst
 | .out=>m4 size r i (p9 t) (some i,cl) t .ask
 | .ask=>if cl=true then m4 size r i (p9 t) (mk,cl) (t++[false]) .out else m4 size r i (p9 t) (mk,cl) t .close
 | .close=>m4 size r i (p9 t) (mk,true) t .look
 | .look=>if mk=some i then m4 size r i (p9 t) (mk,cl) t .holds else m4 size r i (p9 t) (mk,cl) (t++[true]) .out
 | .holds=>none
theorem oV {r:Nst} {i:Nat} {t:List Bool} {w:Wd} {mk:Option Nat} {cl:Bool} (a:r.hs[i]?=some (t,w)) (b:r.bx[p9 t]?=some (mk,cl)):j5 size r i=zI size r i t mk cl w:=by
 unfold j5;rw [a];simp only;rw [b];cases w <;> rfl
def Wd.isOut:Wd->Bool
 | .out=>true
 | _=>false
def busy (h:Hnd):Bool:=!(h.1.isEmpty&&h.2.isOut)
def nmN (h:Hnd):Nat:=p9 h.1+1
def isH (h:Hnd):Bool:=match h.2 with
 | .holds=>true
 | _=>false
theorem oi {w:Wd} (q:w≠.holds):isH (t,w)=false:=by
 cases w <;> first | exact absurd rfl q | rfl
def nmR (r:Nst):List D:=r.hs.map λh=>if isH h=true then D.int (nmN h:Int) else .non
theorem ph (c:h.1.length<=5):Sml 2 900 (hdD h):=by
 obtain ⟨t,w⟩:=h;have a:Sml 1 400 (trD t):=(Sml.tup (n:=0) (N:=60) (.map λb _=>by cases b <;> exact Sml.w) (by rw [Hy];exact c)).up;have b:Sml 1 400 w.d:=by cases w <;> exact Sml.w
 exact (Sml.tup (m:=2) (.cons a (.cons b .nil)) (HV _)).mono (by decide) (by decide)
end L3.Nt
namespace L3
open PySem PySem.Spec PyProof.Rows L2
theorem eZ:∀ {l:List Int} {t:Int},D5 l=some t->t∈l/\∀ a∈l,a<=t:=by
 intro l;induction l with
 | nil=>intro t e;cases e
 | cons x l d=>
  intro t e;cases b:D5 l with
  | none=>
   cases l with
   | nil=>simp only [D5] at e;cases e;exact ⟨HY ..,λa c=>by simp at c;omega⟩
   | cons y l=>simp [D5] at b
  | some m=>
   obtain ⟨g,m2⟩:=d b;cases e;by_cases f:x<m
   ·grind
   ·grind
theorem cX (h:l≠[]):∃ t,D5 l=some t:=by
 cases l with
 | nil=>exact absurd rfl h
 | cons x l=>exact ⟨_,rfl⟩
theorem xf (h:D5 ns=some t) (S:Sto):dr [.lst (ns.map D.int)] S=.ok (.int t) S:=by
 show (match (v3 (ns.map D.int)).bind D5 with
  | some m=>ret (D.int m)
  | none=>bad) S=_
 rw [dZ,Jj,h];rfl
theorem pK (a b:Nat) (S:Sto):dr [.int (a:Int),.int (b:Int)] S=.ok (.int ((max a b:Nat):Int)) S:=by
 show R.ok (D.int (if (b:Int) > (a:Int) then (b:Int) else (a:Int))) S=_;grind
end L3
namespace L3.Rw
open PySem PySem.Spec PyProof.Rows L2
inductive Hd where
 | rests
 | tries (b:Nat)
 | holds (b:Nat)
deriving DecidableEq
def Hd.d:Hd->D
 | .rests=>.tup [.str "rests"]
 | .tries b=>.tup [.str "tries",.int b]
 | .holds b=>.tup [.str "holds",.int b]
def Hd.bx:Hd->Nat
 | .rests=>0
 | .tries b=>b
 | .holds b=>b
def bD:Option Nat->D
 | none=>.non
 | some h=>.int h
structure Rw where
 bx:List (Option Nat)
 hs:List Hd
 mo:Nat
def Rw.d (r:Rw):D:=.tup [.tup (r.bx.map bD),.tup (r.hs.map Hd.d),.int r.mo]
def cnt (j:Nat) (hs:List Hd):Nat:=hs.countP λh=>decide (j<=h.bx)
structure BI (bx:List (Option Nat)) (hs:List Hd):Prop where
 len:bx.length=hs.length
 few:hs.length<=6
 mt:∀ (b h:Nat),bx[b]?=some (some h)->hs[h]?=some (.holds (b+1))
 mh:∀ (h b:Nat),hs[h]?=some (.holds b)->1<=b/\bx[b-1]?=some (some h)
 tr:∀ (h b:Nat),hs[h]?=some (.tries b)->1<=b/\b<=hs.length
structure RI (r:Rw):Prop where
 b:BI r.bx r.hs
 cn:∀ j,1<=j->0<cnt j r.hs->cnt j r.hs+j<=r.mo+1
 mx:r.mo<=r.hs.length
def stepR (r:Rw) (i:Nat):Rw:=match r.hs[i]? with
 | some .rests=>⟨r.bx,r.hs.set i (.tries 1),max r.mo (cnt 1 (r.hs.set i (.tries 1)))⟩
 | some (.holds b)=>⟨r.bx.set (b-1) none,r.hs.set i .rests,r.mo⟩
 | some (.tries b)=>(match r.bx[b-1]? with
  | some none=>⟨r.bx.set (b-1) (some i),r.hs.set i (.holds b),r.mo⟩
  | _=>⟨r.bx,r.hs.set i (.tries (b+1)),r.mo⟩)
 | none=>r
theorem zN (j:Nat) (hs:List Hd):cnt j hs<=hs.length:=IH
theorem B8 {hs:List Hd} {a:Hd} (h:hs[i]?=some a) (x:Hd) (A X:Nat) (b:a.bx=A) (c:x.bx=X) (j:Nat):∃ u v:Nat,cnt j (hs.set i x)+u=cnt j hs+v/\(j<=A->u=1)/\(¬ j<=A->u=0)/\(j<=X->v=1)/\(¬ j<=X->v=0):=by
 obtain ⟨d,e⟩:=HN.mp h;refine ⟨if j<=A then 1 else 0,if j<=X then 1 else 0,?_,λq=>if_pos q,λq=>if_neg q,λq=>if_pos q,λq=>if_neg q⟩;subst b c;unfold cnt;grind
theorem rS (b:Nat) (l:List Hd):cnt (b+1) l<=cnt b l:=by
 apply Ji;grind
theorem wd {b i g:Nat} {hs:List Hd} {a c:Hd} (h:hs[i]?=some a) (j:hs[g]?=some c) (k:i≠g) (e:a.bx=b) (f:c.bx=b):cnt (b+1) hs+2<=cnt b hs:=by
 have d:(hs.set i (.tries (b+1)))[g]?=some c:=by rw [HZ k];exact j
 obtain ⟨D,B,C,L,F,x,z⟩:=B8 h (.tries (b+1)) b (b+1) e rfl b;obtain ⟨K,u,J,H,r,o,s⟩:=B8 h (.tries (b+1)) b (b+1) e rfl (b+1);obtain ⟨w,v,n,m,A,I,p⟩:=B8 d (.tries (b+1)) b (b+1) f rfl b;obtain ⟨y,l,G,k2,E,t,q⟩:=B8 d (.tries (b+1)) b (b+1) f rfl (b+1);have:=rS b ((hs.set i (.tries (b+1))).set g (.tries (b+1)));grind
theorem A5 {a:Type} {l:List a} {i j:Nat} {x y:a} (h:(l.set i x)[j]?=some y):(i=j/\x=y)\/(i≠j/\l[j]?=some y):=by grind
theorem BI.set_free (I:BI bx hs) {i:Nat} {a x:Hd} (h:hs[i]?=some a) (f:∀ b,a≠.holds b) (j:∀ b,x≠.holds b) (d:∀ b,x=.tries b->1<=b/\b<=hs.length):BI bx (hs.set i x):=by
 refine ⟨by rw [Ij];exact I.len,by rw [Ij];exact I.few,λb g e=>?_,λg b e=>?_,λg b e=>?_⟩
 ·have c:=I.mt b g e;have:i≠g:=λz=>by subst z;rw [h] at c;exact f _ (Iv c)
  rw [HZ this];exact c
 ·rcases A5 e with ⟨_,z⟩ | ⟨_,z⟩
  ·exact absurd z (j b)
  ·exact I.mh g b z
 ·rw [Ij];rcases A5 e with ⟨_,z⟩ | ⟨_,z⟩
  ·exact d b z
  ·exact I.tr g b z
theorem BI.free (I:BI bx hs) {i b:Nat} (h:hs[i]?=some (.holds b)):BI (bx.set (b-1) none) (hs.set i .rests):=by
 obtain ⟨k,j⟩:=I.mh i b h;refine ⟨by rw [Ij,Ij];exact I.len,by rw [Ij];exact I.few,λc g e=>?_,λg c e=>?_,λg c e=>?_⟩
 ·rcases A5 e with ⟨_,z⟩ | ⟨n,z⟩
  ·cases z
  ·have d:=I.mt c g z;have:i≠g:=λw=>by
    subst w;rw [h] at d;have:=Iv d;injection this with this;omega
   rw [HZ this];exact d
 ·rcases A5 e with ⟨_,z⟩ | ⟨n,z⟩
  ·cases z
  ·obtain ⟨f,a⟩:=I.mh g c z;refine ⟨f,?_⟩;have:b-1≠c-1:=λw=>by
    rw [<- w,j] at a;have:=Iv (Iv a);exact n this
   rw [HZ this];exact a
 ·rw [Ij];rcases A5 e with ⟨_,z⟩ | ⟨_,z⟩
  ·cases z
  ·exact I.tr g c z
theorem BI.take (I:BI bx hs) {i b:Nat} {a:Hd} (h:hs[i]?=some a) (k:∀ c,a≠.holds c) (p:1<=b) (j:bx[b-1]?=some none):BI (bx.set (b-1) (some i)) (hs.set i (.holds b)):=by
 obtain ⟨o,_⟩:=HN.mp h;obtain ⟨m,_⟩:=HN.mp j;refine ⟨by rw [Ij,Ij];exact I.len,by rw [Ij];exact I.few,λc g e=>?_,λg c e=>?_,λg c e=>?_⟩
 ·rcases A5 e with ⟨w,z⟩ | ⟨n,z⟩
  ·cases z;rw [List.getElem?_set_self o];congr 2;omega
  ·have f:=I.mt c g z;have:i≠g:=λw=>by subst w;rw [h] at f;exact k _ (Iv f)
   rw [HZ this];exact f
 ·rcases A5 e with ⟨w,z⟩ | ⟨n,z⟩
  ·cases z;subst w;exact ⟨p,List.getElem?_set_self m⟩
  ·obtain ⟨l,d⟩:=I.mh g c z;refine ⟨l,?_⟩;have:b-1≠c-1:=λw=>by rw [<- w,j] at d;cases d
   rw [HZ this];exact d
 ·rw [Ij];rcases A5 e with ⟨_,z⟩ | ⟨_,z⟩
  ·cases z
  ·exact I.tr g c z
theorem RI.blocked (I:RI r) {i b g:Nat} (h:r.hs[i]?=some (.tries b)) (c:r.bx[b-1]?=some (some g)):b<r.hs.length/\cnt (b+1) r.hs+2<=cnt b r.hs:=by
 obtain ⟨d,f⟩:=I.b.tr i b h;have e:=I.b.mt (b-1) g c;rw [show b-1+1=b by omega] at e;have n:i≠g:=λz=>by subst z;rw [h] at e;cases e
 have a:=wd (b:=b) h e n rfl rfl;have:=I.cn b d (by omega);have:=I.mx;omega
theorem RI.step (I:RI r) {i:Nat} (hi:i<r.hs.length):RI (stepR r i):=by
 obtain ⟨a,ha⟩:∃ a,r.hs[i]?=some a:=⟨_,HP hi⟩;have mx:=I.mx;unfold stepR;rw [ha];cases a with
 | rests=>
  refine ⟨I.b.set_free ha (by simp) (by simp) (λb e=>by cases e;omega),λj hj hc=>?_,?_⟩
  ·show cnt j (r.hs.set i (.tries 1))+j<=max r.mo (cnt 1 (r.hs.set i (.tries 1)))+1;have hc:0<cnt j (r.hs.set i (.tries 1)):=hc;obtain ⟨u,v,e1,e2,e3,e4,e5⟩:=B8 ha (.tries 1) 0 1 rfl rfl j;by_cases h1:j=1
   ·subst h1;omega
   ·have:=e3 (by omega);have:=e5 (by omega);have:=I.cn j hj (by omega);omega
  ·show max r.mo (cnt 1 (r.hs.set i (.tries 1)))<=(r.hs.set i (.tries 1)).length;have:=zN 1 (r.hs.set i (.tries 1));rw [Ij] at this ⊢;omega
 | holds b=>
  refine ⟨I.b.free ha,λj hj hc=>?_,by show r.mo<=(r.hs.set i .rests).length;rw [Ij];exact mx⟩;have hc:0<cnt j (r.hs.set i .rests):=hc;obtain ⟨u,v,e1,e2,e3,e4,e5⟩:=B8 ha .rests b 0 rfl rfl j;have:=e5 (by omega);show cnt j (r.hs.set i .rests)+j<=r.mo+1;have:=I.cn j hj (by omega);omega
 | tries b=>
  obtain ⟨b1,b2⟩:=I.b.tr i b ha;have hbl:b-1<r.bx.length:=by rw [I.b.len];omega
  obtain ⟨o,ho⟩:∃ o,r.bx[b-1]?=some o:=⟨_,HP hbl⟩;cases o with
  | none=>
   simp only [ho];refine ⟨I.b.take ha (by simp) b1 ho,λj hj hc=>?_,by show r.mo<=(r.hs.set i (.holds b)).length;rw [Ij];exact mx⟩;have hc:0<cnt j (r.hs.set i (.holds b)):=hc;obtain ⟨u,v,e1,e2,e3,e4,e5⟩:=B8 ha (.holds b) b b rfl rfl j;have:u=v:=by
    by_cases q:j<=b
    ·rw [e2 q,e4 q]
    ·rw [e3 q,e5 q]
   show cnt j (r.hs.set i (.holds b))+j<=r.mo+1;have:=I.cn j hj (by omega);omega
  | some g=>
   simp only [ho];obtain ⟨q1,q2⟩:=I.blocked ha ho;refine ⟨I.b.set_free ha (by simp) (by simp) (λb' e=>by cases e;omega),λj hj hc=>?_,by show r.mo<=(r.hs.set i (.tries (b+1))).length;rw [Ij];exact mx⟩;have hc:0<cnt j (r.hs.set i (.tries (b+1))):=hc;obtain ⟨u,v,e1,e2,e3,e4,e5⟩:=B8 ha (.tries (b+1)) b (b+1) rfl rfl j;show cnt j (r.hs.set i (.tries (b+1)))+j<=r.mo+1;by_cases h1:j=b+1
   ·subst h1;have:=e4 (by omega);have:=e3 (by omega);have:=I.cn b b1 (by omega);omega
   ·have:u=v:=by
     by_cases q:j<=b
     ·grind
     ·grind
    have:=I.cn j hj (by omega);omega
def Hd.nm:Hd->D
 | .holds b=>.int b
 | _=>.non
def Hd.at:Hd->Bool
 | .rests=>false
 | _=>true
theorem rf (I:BI bx hs):(hs.filter Hd.at).length=cnt 1 hs:=by
 unfold cnt;rw [IE];congr 1;apply List.filter_congr;intro a ha;obtain ⟨i,hi,e⟩:=Jv ha;have e:hs[i]?=some a:=by rw [HP hi,e]
 cases a with
 | rests=>rfl
 | tries b=>exact (Ia (I.tr i b e).1).symm
 | holds b=>exact (Ia (I.mh i b e).1).symm
theorem wf (r:Rw) (i:Nat):∃ x,(stepR r i).hs=r.hs.set i x:=by
 unfold stepR;cases h:r.hs[i]? with
 | none=>exact ⟨.rests,(List.set_eq_of_length_le (JE.mp h)).symm⟩
 | some a=>
  cases a with
  | rests=>exact ⟨_,rfl⟩
  | holds b=>exact ⟨_,rfl⟩
  | tries b=>
   dsimp only;split <;> exact ⟨_,rfl⟩
theorem step_len (r:Rw) (i:Nat):(stepR r i).hs.length=r.hs.length:=by
 obtain ⟨x,e⟩:=wf r i;grind
def r0 (n:Nat):Rw:=⟨List.replicate n none,List.replicate n .rests,0⟩
theorem r0_ok (h:n<=6):RI (r0 n):=by
 have g:∀ {j:Nat} {a:Hd},(List.replicate n Hd.rests)[j]?=some a->a=.rests:=λ{j a} e=>by
  rw [Jb] at e;split at e
  ·grind
  ·cases e
 refine ⟨⟨by simp [r0],by simpa [r0] using h,λb h e=>?_,λh b e=>?_,λh b e=>?_⟩,λj f d=>?_,Jp _⟩
 ·have e:(List.replicate n (none:Option Nat))[b]?=some (some h):=e;rw [Jb] at e;split at e <;> cases e
 ·cases g e
 ·cases g e
 ·obtain ⟨a,c,q⟩:=Ki.mp d;have:=List.eq_of_mem_replicate c;subst this;have:j<=0:=by simpa [Hd.bx] using q
  omega
end L3.Rw
namespace L3.Lev
open PySem PySem.Spec PyProof.Rows L2
inductive Hd where
 | out | look (l:Nat) | put (l:Nat) | holds (v:List Nat)
def nD (n:Nat):D:=.int (n:Int)
def Hd.d:Hd->D
 | .out=>.tup [.str "out"]
 | .look l=>.tup [.str "look",.int (l:Int)]
 | .put l=>.tup [.str "put",.int (l:Int)]
 | .holds v=>.tup [.str "holds",.tup (v.map nD)]
def bxD:Option Nat->D
 | none=>.non
 | some b=>.int (b:Int)
def boxOf:Hd->Option Nat
 | .out=>none
 | .look l=>some l
 | .put l=>some (l+1)
 | .holds v=>some v.length
def upB (bx:List (Option Nat)) (m i:Nat):Bool:=match bx[i]? with
 | some (some b)=>decide (b<=m)
 | _=>false
def ups (bx:List (Option Nat)) (m:Nat):List Nat:=(List.range bx.length).filter (upB bx m)
def hat (hs:List Hd) (i:Nat):Hd:=hs.getD i .out
def bxB (l:Nat) (h:Hd):Bool:=match boxOf h with
 | some b=>decide (b<=l)
 | none=>false
def efB (l:Nat):Hd->Bool
 | .out=>false
 | .look e=>decide (e<=l)
 | .put e=>decide (e<=l)
 | .holds v=>decide (v.length<=l)
def nE (hs:List Hd) (l:Nat):Nat:=(List.range hs.length).countP λi=>efB l (hat hs i)
theorem oW (e:hs[i]?=some h):hat hs i=h:=by unfold hat;rw [IG,e];rfl
theorem u4 {i:Nat} (a:i<hs.length):hs[i]?=some (hat hs i):=by
 have e:=HP a;rw [oW e,e]
theorem R4 {i:Nat} (hi:i<hs.length) (h:Hd) (j:Nat):hat (hs.set i h) j=if j=i then h else hat hs j:=by
 unfold hat;grind
theorem cq (hs:List Hd) (l i:Nat):upB (hs.map boxOf) l i=bxB l (hat hs i):=by
 unfold upB hat bxB;rw [Ie,IG];cases hs[i]? with
 | none=>rfl
 | some h=>cases h <;> rfl
theorem xi (q:bxB l h=true):efB l h=true:=by
 cases h with
 | out=>cases q
 | look e=>exact q
 | put e=>
  have q:=q;exact Ia (by have:=Iu q;omega)
 | holds v=>exact q
theorem Cy (q:efB l h=true):bxB (l+1) h=true:=by
 cases h with
 | out=>cases q
 | look e=>exact Ia (by have:=Iu q;omega)
 | put e=>exact Ia (by have:=Iu q;omega)
 | holds v=>exact Ia (by have:=Iu q;omega)
theorem iB {d:Type} {p q:d->Bool} {x:d}:∀ {v:List d},(∀ a∈v,p a=true->q a=true)->x∈v->p x=false->q x=true->v.countP p<v.countP q
 | [],_,h,_,_=>by cases h
 | a :: v,h,f,i,j=>by
  have k:=Ji λb c=>h b (Ic _ c);rw [Jy,Jy];rcases Ii.mp f with z | z
  ·grind
  ·have:=iB (λb c=>h b (Ic _ c)) z i j;have g:=h a (HY ..);cases e:p a with
   | true=>rw [g e];simp;omega
   | false=>grind
theorem Z7 (hs:List Hd) (l:Nat):(ups (hs.map boxOf) l).length=(List.range hs.length).countP λi=>bxB l (hat hs i):=by
 unfold ups;rw [<- IE,Hy];exact Ln λi _=>by rw [cq]
theorem lM {l:Nat} (b:bx.length=bx'.length) (h:∀ i,i<bx.length->upB bx l i=upB bx' l i):ups bx l=ups bx' l:=by
 unfold ups;rw [<- b];exact List.filter_congr λi a=>h i (Iw.mp a)
theorem jP {l i:Nat} (a:i<hs.length) (h:bxB l (hat hs i)=true):i∈ups (hs.map boxOf) l:=IM.mpr ⟨by rw [Iw,Hy];exact a,by rw [cq];exact h⟩
structure Good (hs:List Hd):Prop where
 cnt:∀ l,nE hs l<=l
 view:∀ i v,i<hs.length->hat hs i=.holds v->v=ups (hs.map boxOf) v.length
 top:∀ i b,i<hs.length->boxOf (hat hs i)=some b->b<=hs.length
def W8 (bx:List (Option Nat)) (l:Nat):Hd:=if l<=(ups bx l).length then .holds (ups bx l) else .put (l-1)
def n9 (hs:List Hd) (i:Nat):Hd:=match hat hs i with
 | .out=>.look hs.length
 | .put l=>.look l
 | .look l=>W8 (hs.map boxOf) l
 | .holds v=>.holds v
section
variable {hs:List Hd} (G:Good hs) {i:Nat} (hi:i<hs.length)
include G hi
theorem Good.put {h:Hd} (c:∀ l,nE (hs.set i h) l<=l) (o:∀ j v,j<hs.length->j≠i->hat hs j=.holds v->bxB v.length (hat hs i)=bxB v.length h) (w:∀ v,h=.holds v->v=ups ((hs.set i h).map boxOf) v.length) (t:∀ b,boxOf h=some b->b<=hs.length):Good (hs.set i h):=by
 refine ⟨c,λj v hj e=>?_,λj b hj e=>?_⟩
 ·rw [Ij] at hj;rw [R4 hi] at e;by_cases q:j=i
  ·rw [if_pos q] at e;exact w v e
  ·rw [if_neg q] at e;refine (G.view j v hj e).trans (lM (by simp) λx hx=>?_);rw [cq,cq,R4 hi];by_cases z:x=i
   ·rw [if_pos z,z];exact o j v hj q e
   ·rw [if_neg z]
 ·rw [Ij] at hj ⊢;rw [R4 hi] at e;by_cases q:j=i
  ·rw [if_pos q] at e;exact t b e
  ·rw [if_neg q] at e;exact G.top j b hj e
omit G in
theorem kC {l:Nat} (e:efB l h=true->efB l (hat hs i)=true):nE (hs.set i h) l<=nE hs l:=by
 unfold nE;rw [Ij];refine Ji λj _ q=>?_;rw [R4 hi] at q;grind
theorem Good.look (e:hat hs i=.look l):((ups (hs.map boxOf) l).length=l/\W8 (hs.map boxOf) l=.holds (ups (hs.map boxOf) l))\/((ups (hs.map boxOf) l).length<l/\2<=l/\W8 (hs.map boxOf) l=.put (l-1)):=by
 have a:=jP hi (by rw [e];exact Ia (HV _));have c:=Jx a;have b:(ups (hs.map boxOf) l).length<=l:=by
  rw [Z7];refine Ir (Ji λj _ q=>?_) (G.cnt l);exact xi q
 unfold W8;grind
theorem Good.box (n:∀ v,hat hs i≠.holds v):(hs.set i (n9 hs i)).map boxOf=(match hat hs i with
  | .out=>(hs.map boxOf).set i (some hs.length)
  | .put l=>(hs.map boxOf).set i (some l)
  | _=>hs.map boxOf):=by
 unfold n9;rw [Iy];cases e:hat hs i with
 | out=>rfl
 | put l=>rfl
 | look l=>
  have e1:(hs.map boxOf)[i]?=some (some l):=by rw [Ie,u4 hi,e];rfl
  have fin:(hs.map boxOf).set i (some l)=hs.map boxOf:=by
   obtain ⟨h1,h2⟩:=HN.mp e1;rw [<- h2];exact KG h1
  simp only;rcases G.look hi e with ⟨a,b⟩ | ⟨a,a2,b⟩
  ·rw [b];show (hs.map boxOf).set i (some (ups (hs.map boxOf) l).length)=_;rw [a];exact fin
  ·rw [b];show (hs.map boxOf).set i (some (l-1+1))=_;rw [show l-1+1=l by omega];exact fin
 | holds v=>exact absurd e (n v)
theorem Good.step:Good (hs.set i (n9 hs i)):=by
 unfold n9;cases e:hat hs i with
 | out=>
  refine G.put hi (λl=>?_) (λj v hj q ej=>?_) (λv z=>by cases z) (λb z=>by cases z;exact HV _)
  ·by_cases q:hs.length<=l
   ·refine Ir ?_ q;unfold nE;rw [Ij];exact Ir IH (by rw [Il];exact HV _)
   ·exact Ir (kC hi λz=>absurd (Iu z) q) (G.cnt l)
  ·rw [e];symm;refine Im λz=>?_;have vw:=congrArg List.length (G.view j v hj ej);rw [Z7] at vw;have:(List.range hs.length).countP (λx=>bxB v.length (hat hs x))<(List.range hs.length).countP (λ_=>true):=iB (λ_ _ _=>rfl) (Iw.mpr hi) (by rw [e];rfl) rfl;rw [List.countP_true,Il] at this;omega
 | put l=>
  refine G.put hi (λl'=>Ir (kC hi λz=>by rw [e];exact z) (G.cnt l')) (λj v hj q ej=>?_) (λv z=>by cases z) (λb z=>by
   cases z;have:=G.top i (l+1) hi (by rw [e];rfl);omega)
  rw [e];show decide (l+1<=v.length)=decide (l<=v.length);by_cases z:l=v.length
  ·exfalso;have vw:=congrArg List.length (G.view j v hj ej);rw [Z7,<- z] at vw;have lt:(List.range hs.length).countP (λx=>bxB l (hat hs x))<nE hs l:=iB (λ_ _=>xi) (Iw.mpr hi) (by rw [e];exact Im (by omega)) (by rw [e];exact Ia (HV _));have:=G.cnt l;omega
  ·grind
 | look l=>
  simp only;have bq:∀ h:Hd,boxOf h=some l->(hs.set i h).map boxOf=hs.map boxOf:=λh eh=>by
   have e1:(hs.map boxOf)[i]?=some (some l):=by rw [Ie,u4 hi,e];rfl
   rw [Iy,eh];obtain ⟨h1,h2⟩:=HN.mp e1;rw [<- h2];exact KG h1
  have tp:=G.top i l hi (by rw [e];rfl);rcases G.look hi e with ⟨a,b⟩ | ⟨a,a2,b⟩
  ·rw [b];have eb:boxOf (.holds (ups (hs.map boxOf) l))=some l:=by show some _=_;rw [a]
   refine G.put hi (λl'=>Ir (kC hi λz=>?_) (G.cnt l')) (λj v hj q ej=>?_) (λv z=>?_) (λb z=>?_)
   ·rw [e];have z:decide ((ups (hs.map boxOf) l).length<=l')=true:=z;rw [a] at z;exact z
   ·rw [e];show decide (l<=v.length)=decide ((ups (hs.map boxOf) l).length<=v.length);rw [a]
   ·grind
   ·grind
  ·rw [b];have eb:boxOf (.put (l-1))=some l:=by show some _=_;rw [show l-1+1=l by omega]
   refine G.put hi (λl'=>?_) (λj v hj q ej=>?_) (λv z=>by cases z) (λb z=>?_)
   ·by_cases z:l'=l-1
    ·have:nE (hs.set i (.put (l-1))) l'<=(ups (hs.map boxOf) l).length:=by
      rw [Z7];unfold nE;rw [Ij];refine Ji λj _ y=>?_;rw [R4 hi] at y;by_cases w:j=i
      ·rw [w,e];exact Ia (HV _)
      ·rw [if_neg w,z] at y;have:=Cy y;rw [show l-1+1=l by omega] at this;exact this
     omega
    ·refine Ir (kC hi λy=>?_) (G.cnt l');rw [e];have y:=Iu y;exact Ia (by omega)
   ·rw [e];show decide (l<=v.length)=decide (l-1+1<=v.length);rw [show l-1+1=l by omega]
   ·grind
 | holds v=>
  rw [show hs.set i (.holds v)=hs by
   obtain ⟨h1,h2⟩:=HN.mp (u4 hi);rw [<- e,<- h2];exact KG h1]
  exact G
end
def tri (n:Nat):Nat:=n * (n+1) / 2
def nmV (gs:List Int) (i:Nat) (v:List Nat):Nat:=tri (v.length-1)+(v.countP λo=>decide (gs.getD o 0<gs.getD i 0))+1
def nmD (gs:List Int) (i:Nat):Hd->D
 | .holds v=>.int (nmV gs i v:Int)
 | _=>.non
theorem Good.own (G:Good hs) {i:Nat} (a:i<hs.length) {v:List Nat} (e:hat hs i=.holds v):i∈v:=by
 rw [G.view i v a e];exact jP a (by rw [e];exact Ia (HV _))
def isOut:Hd->Bool
 | .out=>true
 | _=>false
def aP:Hd->Bool
 | .holds _=>true
 | _=>false
end L3.Lev
namespace L3.K31
open PySem PySem.Spec PyProof.Rows L2
def nth (l:List Stmt) (i:Nat):Stmt:=l.getD i (.Pass ⟨0,0,0,0⟩)
def top (i:Nat):Stmt:=nth PySem.Challenge.pw_handnames_k31_what_machines_tell.main.body i
def k6:Stmt->List Stmt
 | .For _ _ b _ _=>b
 | .While _ b _ _=>b
 | _=>[]
def iC:Stmt->Expr
 | .While c _ _ _=>c
 | _=>.Name "" ⟨0,0,0,0⟩
def jU:Stmt->List Stmt
 | .Try b _ _ _ _=>b
 | _=>[]
def iz:Stmt->List Stmt
 | .Try _ [.ExceptHandler _ _ b _] _ _ _=>b
 | _=>[]
abbrev xX:Fd:=f6 (top 9) []
abbrev yJ:Fd:=f6 (top 10) []
abbrev Bj:Fd:=f6 (top 13) []
abbrev He:Fd:=f6 (top 14) []
abbrev Bt:Fd:=f6 (top 16) []
abbrev Hg:Fd:=f6 (top 17) []
abbrev CD:Fd:=f6 (top 18) []
abbrev Hw:Fd:=f6 (top 19) []
abbrev Hx:Fd:=f6 (top 20) []
abbrev wo:Fd:=f6 (top 21) []
abbrev xY:Fd:=f6 (top 23) []
abbrev ww:Fd:=f6 (top 24) []
abbrev xV:Fd:=f6 (top 25) []
abbrev xM:Fd:=f6 (top 26) []
abbrev BT:Fd:=f6 (top 27) []
abbrev Ew:Fd:=f6 (top 28) []
abbrev Hs:Fd:=f6 (top 29) []
abbrev Hq:Fd:=f6 (top 30) []
abbrev xC:Fd:=f6 (top 32) []
abbrev xz:Fd:=f6 (top 33) []
abbrev xW:Fd:=f6 (top 35) []
abbrev Hb:Fd:=f6 (top 36) []
abbrev Ht:Fd:=f6 (top 37) []
abbrev Bq:Fd:=f6 (top 38) []
abbrev yK:Fd:=f6 (top 39) []
abbrev xP:Fd:=f6 (top 41) []
abbrev xU:Fd:=f6 (top 42) []
abbrev wv:Fd:=f6 (top 43) ["return"]
abbrev cS:Fd:=f6 (top 44) []
abbrev Hv:Fd:=f6 (top 45) []
abbrev xn:Fd:=f6 (top 46) []
abbrev wu:Fd:=f6 (top 47) ["count"]
abbrev xk:Fd:=f6 (top 48) []
abbrev xJ:Fd:=f6 (top 49) []
abbrev wz:Fd:=f6 (top 51) []
abbrev xE:Fd:=f6 (top 52) []
abbrev Hr:Fd:=f6 (top 53) ["_law_found"]
abbrev xg:Fd:=f6 (top 54) []
abbrev xD:Fd:=f6 (top 55) []
abbrev Hc:Fd:=f6 (top 56) ["in{}"]
abbrev Cl:Fd:=f6 (top 57) []
abbrev xA:Fd:=f6 (top 58) []
abbrev Hf:Fd:=f6 (top 59) []
abbrev Ha:Fd:=f6 (top 60) []
abbrev xR:Fd:=f6 (top 61) []
abbrev oY:Fd:=f6 (top 62) []
abbrev jC:Fd:=f6 (top 63) []
abbrev Ho:Fd:=f6 (top 64) ["_law_found"]
abbrev xN:Fd:=f6 (top 65) []
abbrev Hi:Fd:=f6 (top 66) ["~","_law_found"]
abbrev outL_F:Fd:=f6 (top 67) []
abbrev Hm:Fd:=f6 (top 68) ["_law_rows","_law_inside"]
abbrev Hj:Fd:=f6 (top 69) ["_law_hands_here"]
abbrev Hk:Fd:=f6 (top 70) ["_law_boxes","_law_hands_here"]
abbrev wn:Fd:=f6 (top 71) []
abbrev xH:Fd:=f6 (top 72) []
abbrev Hl:Fd:=f6 (top 73) []
abbrev Hh:Fd:=f6 (top 74) ["_law_told"]
abbrev Hu:Fd:=f6 (top 75) []
abbrev law_F:Fd:=f6 (top 76) []
abbrev gT:Nat:=0
abbrev ol:Nat:=1
abbrev Eg:Nat:=2
abbrev aY:Nat:=3
abbrev Bw:Nat:=4
abbrev oe:Nat:=5
abbrev Cc:Nat:=6
abbrev yt:Nat:=7
abbrev zF:Nat:=8
abbrev yO:Nat:=9
abbrev Ah:Nat:=10
abbrev AJ:Nat:=11
abbrev za:Nat:=12
abbrev cb:Nat:=13
abbrev B2:Nat:=14
abbrev jz:Nat:=15
abbrev ce:Nat:=16
abbrev pO:Nat:=17
abbrev BA:Nat:=18
abbrev rY:Nat:=19
abbrev An:Nat:=20
abbrev zu:Nat:=21
abbrev AM:Nat:=22
abbrev CQ:Nat:=23
abbrev zK:Nat:=24
abbrev W3:Nat:=25
abbrev rg:Nat:=26
abbrev yY:Nat:=27
abbrev O9:Nat:=28
abbrev Ci:Nat:=29
abbrev dX:Nat:=30
abbrev cp:Nat:=31
abbrev hJ:Nat:=32
abbrev zc:Nat:=33
abbrev AH:Nat:=34
abbrev BB:Nat:=35
abbrev Bc:Nat:=36
abbrev qR:Nat:=37
abbrev cr:Nat:=38
abbrev AF:Nat:=39
abbrev ym:Nat:=40
abbrev nz:Nat:=41
abbrev BU:Nat:=42
abbrev AZ:Nat:=43
abbrev V4:Nat:=44
abbrev yz:Nat:=45
abbrev pz:Nat:=46
abbrev dW:Nat:=47
abbrev gq:Nat:=48
abbrev zR:Nat:=49
abbrev vX:Nat:=50
abbrev yb:Nat:=51
abbrev rc:Nat:=52
abbrev yS:Nat:=53
abbrev nt:Nat:=54
abbrev zm:Nat:=55
abbrev wr:Nat:=56
abbrev wq:Nat:=57
abbrev wm:Nat:=58
abbrev iO:Nat:=59
def Tb:List Fd:=[xX,yJ,Bj,He,Bt,Hg,CD,Hw,Hx,wo,xY,ww,xV,xM,BT,Ew,Hs,Hq,xC,xz,xW,Hb,Ht,Bq,yK,xP,xU,wv,cS,Hv,xn,wu,xk,xJ,wz,xE,Hr,xg,xD,Hc,Cl,xA,Hf,Ha,xR,oY,jC,Ho,xN,Hi,outL_F,Hm,Hj,Hk,wn,xH,Hl,Hh,Hu,law_F]
def Γ:Gm:=⟨("HandError",.err 0 []) :: ("NoStep",.err 1 ["hand"]) :: ("NoPaper",.err 2 ["word","at"]) :: ("NoStand",.err 3 ["word","at"]) :: ("TooMany",.err 4 ["word"]) :: ("NoType",.err 5 ["type_here"]) :: ("NoRow",.err 6 []) :: ("ENDED",.val (.tup [(.str "holds"),(.str "right"),(.str "down")])) :: ("with_at",.fn 0 3) :: ("triangle",.fn 1 1) :: ("first_decider",.fn 2 1) :: ("step_decider",.fn 3 2) :: ("first_levels",.fn 4 1) :: ("step_levels",.fn 5 2) :: ("behind_look",.fn 6 2) :: ("hands_up_to",.fn 7 2) :: ("level_names",.fn 8 2) :: ("level_name",.fn 9 3) :: ("first_net",.fn 10 2) :: ("cell_of",.fn 11 1) :: ("end_of",.fn 12 1) :: ("number_of",.fn 13 1) :: ("step_net",.fn 14 3) :: ("hand_behind",.fn 15 2) :: ("local_at",.fn 16 3) :: ("word_at",.fn 17 2) :: ("net_names",.fn 18 2) :: ("net_name",.fn 19 1) :: ("first_row",.fn 20 1) :: ("step_row",.fn 21 2) :: ("begun",.fn 22 2) :: ("working_in_row",.fn 23 1) :: ("row_names",.fn 24 1) :: ("hands_of",.fn 25 1) :: ("first",.fn 26 1) :: ("moving",.fn 27 2) :: ("stepped",.fn 28 3) :: ("stepped_or_none",.fn 29 3) :: ("names",.fn 30 2) :: ("at_work",.fn 31 2) :: ("first_hand",.fn 32 1) :: ("bound",.fn 33 2) :: ("_law_well",.fn 34 2) :: ("_law_draw",.fn 35 2) :: ("_law_greats",.fn 36 2) :: ("_law_machine",.fn 37 2) :: ("_law_with",.fn 38 3) :: ("_law_decided",.fn 39 4) :: ("_law_net_step",.fn 40 3) :: ("_law_seen",.fn 41 2) :: ("_law_level_step",.fn 42 2) :: ("_law_row_step",.fn 43 2) :: ("_law_hands",.fn 44 1) :: ("_law_first",.fn 45 1) :: ("_law_step",.fn 46 3) :: ("_law_names",.fn 47 2) :: ("_law_work",.fn 48 2) :: ("_law_refusal",.fn 49 1) :: ("_law_out",.fn 50 3) :: ("_law_level_rows",.fn 51 2) :: ("_law_let_by",.fn 52 2) :: ("_law_any_row",.fn 53 2) :: ("_law_beyond",.fn 54 2) :: ("_law_need",.fn 55 1) :: ("_law_row_let_by",.fn 56 2) :: ("_law_stand_right",.fn 57 2) :: ("_law_bounds_right",.fn 58 1) :: ("law",.fn 59 1) :: [],λc c0=>c0==0||c==c0,["hand","word","at","type_here"],[49]⟩
def Rs:Rules:=⟨[Az,DT,Fz,Fy,rIx,GK,HI,rFn,FZ,GI,Dl,CJ,ED,sS,FU,At,DY,sv,GL,GN,Gk,Fn,CW,rIf,GJ,GO,rSl,GX,zg,yN,rAppend,Ba,FS,vU,uK],[BE,Dn,Gs,FQ,zJ],[BC,GZ,sIf,Fv,ye,BW,Fo,EK,uL,lq,rR,GH,Fa,ET,Br],[uA,sY,DL,HF]⟩
abbrev rn (k i:Nat) (ds:List D):M D:=P0 Rs Γ Tb k i ds
abbrev XX (C:Cf) (n:Nat) (l:Lc) (b:List Stmt) (i:Nat) (ρ:L3.Env) {α:Type} (κ:Fl->M α):M α:=(evK Rs Γ C n).s l (nth b i) ρ κ
local macro_rules|`($x:ident@$e<|$b)=>`(bind $e λ$x=>$b)
local macro_rules|`(())=>`(by kernel_rfl)
section
variable (C:Cf) {α:Type} (κ:Fl->M α) {ua ub uc ud ue uf ug:D} {qa qb qc qd qe qf qg qh qi qj:Option D}
theorem cc:runK Rs Γ C xX [ua,ub,uc]=(n1@(bU ub)<|x2@(slD ua none n1)<|x3@(f7 x2 (.tup [uc]))<|x4@(f7 ub (.int 1))<|n5@(bU x4)<|x6@(slD ua n5 none)<|x7@(f7 x3 x6)<|ret x7):=()
theorem ip:runK Rs Γ C yJ [ua]=(x1@(f7 ua (.int 1))<|x2@(p6 ua x1)<|x3@(E8 x2 (.int 2))<|ret x3):=()
theorem BL:runK Rs Γ C Bj [ua]=(x1@(p6 (.tup [(.str "out")]) ua)<|ret (.tup [.non,(.bl false),x1])):=()
def fU:Lc:=t9 He
theorem gU:runK Rs Γ C He [ua,ub]=i7 (evK Rs Γ C 40) fU He.body [ua,ub,none,none,none,none] endD:=()
theorem iI:He.body=[nth He.body 0,nth He.body 1,nth He.body 2,nth He.body 3,nth He.body 4,nth He.body 5,nth He.body 6]:=()
theorem AY:XX C 40 fU He.body 0 [ua,qa,qb,qc,qd,qe] κ=bind (F6 (t7 [2,3,4]) ua [ua,qa,qb,qc,qd,qe]) κ:=()
theorem AS:XX C 40 fU He.body 1 [qa,ua,qb,qc,ub,qd] κ=(x1@(ixD ub ua)<|κ (.nx [qa,ua,qb,qc,ub,x1])):=()
theorem zp:XX C 40 fU He.body 2 [qa,ua,qb,qc,qd,ub] κ=(x1@(a9 .In ub (.tup [(.str "holds"),(.str "right"),(.str "down")]))<|z2@(asB x1)<|if z2 then (x3@(P6 1 ["hand"] [ua])<|bind (D8 x3) (fin κ)) else (κ (.nx [qa,ua,qb,qc,qd,ub]))):=()
theorem wP:XX C 40 fU He.body 3 [qa,ua,qb,ub,uc,ud] κ=(x1@(a9 .Eq ud (.str "out"))<|z2@(asB x1)<|if z2 then (x3@(C 0 [uc,ua,(.str "ask")])<|κ (.rt (.tup [ua,ub,x3]))) else (κ (.nx [qa,ua,qb,ub,uc,ud]))):=()
theorem yi:XX C 40 fU He.body 4 [qa,ua,ub,uc,ud,ue] κ=(x1@(a9 .Eq ue (.str "ask"))<|z2@(asB x1)<|if z2 then (z3@(u7 uc)<|if z3 then (x4@(C 0 [ud,ua,(.str "right")])<|κ (.rt (.tup [ub,uc,x4]))) else (x5@(C 0 [ud,ua,(.str "close")])<|κ (.rt (.tup [ub,uc,x5])))) else (κ (.nx [qa,ua,ub,uc,ud,ue]))):=()
theorem Dh:XX C 40 fU He.body 5 [qa,ua,ub,qb,uc,ud] κ=(x1@(a9 .Eq ud (.str "close"))<|z2@(asB x1)<|if z2 then (x3@(C 0 [uc,ua,(.str "look")])<|κ (.rt (.tup [ub,(.bl true),x3]))) else (κ (.nx [qa,ua,ub,qb,uc,ud]))):=()
theorem Gp:XX C 40 fU He.body 6 [qa,ua,ub,uc,ud,qb] κ=(x1@(a9 .Eq ub ua)<|z2@(asB x1)<|if z2 then (x3@(C 0 [ud,ua,(.str "holds")])<|κ (.rt (.tup [ub,uc,x3]))) else (x4@(C 0 [ud,ua,(.str "down")])<|κ (.rt (.tup [ub,uc,x4])))):=()
theorem zW:runK Rs Γ C Bt [ua]=(x1@(p6 (.tup [.non]) ua)<|x2@(p6 (.tup [(.tup [(.str "out")])]) ua)<|ret (.tup [x1,x2])):=()
def W9:Lc:=t9 Hg
theorem jy:runK Rs Γ C Hg [ua,ub]=i7 (evK Rs Γ C 40) W9 Hg.body [ua,ub,none,none,none,none] endD:=()
theorem kE:Hg.body=[nth Hg.body 0,nth Hg.body 1,nth Hg.body 2,nth Hg.body 3,nth Hg.body 4,nth Hg.body 5]:=()
theorem xq:XX C 40 W9 Hg.body 0 [ua,qa,qb,qc,qd,qe] κ=bind (F6 (t7 [2,3]) ua [ua,qa,qb,qc,qd,qe]) κ:=()
theorem xQ:XX C 40 W9 Hg.body 1 [qa,ua,qb,ub,qc,qd] κ=(x1@(ixD ub ua)<|κ (.nx [qa,ua,qb,ub,x1,qd])):=()
theorem xu:XX C 40 W9 Hg.body 2 [qa,ua,qb,qc,ub,qd] κ=(x1@(ixD ub (.int 0))<|x2@(a9 .Eq x1 (.str "holds"))<|z3@(asB x2)<|if z3 then (x4@(P6 1 ["hand"] [ua])<|bind (D8 x4) (fin κ)) else (κ (.nx [qa,ua,qb,qc,ub,qd]))):=()
theorem nM:XX C 40 W9 Hg.body 3 [qa,ua,ub,uc,ud,qb] κ=(x1@(ixD ud (.int 0))<|x2@(a9 .Eq x1 (.str "look"))<|z3@(asB x2)<|if z3 then (x4@(ixD ud (.int 1))<|x5@(C 6 [ub,x4])<|x6@(C 0 [uc,ua,x5])<|κ (.rt (.tup [ub,x6]))) else (κ (.nx [qa,ua,ub,uc,ud,qb]))):=()
theorem xb:XX C 40 W9 Hg.body 4 [qa,qb,ua,qc,ub,qd] κ=(x1@(ixD ub (.int 0))<|x2@(a9 .Eq x1 (.str "out"))<|z3@(asB x2)<|if z3 then (x4@(e8 ua)<|κ (.nx [qa,qb,ua,qc,ub,x4])) else (x5@(ixD ub (.int 1))<|κ (.nx [qa,qb,ua,qc,ub,x5]))):=()
theorem De:XX C 40 W9 Hg.body 5 [qa,ua,ub,uc,qb,ud] κ=(x1@(C 0 [ub,ua,ud])<|x2@(C 0 [uc,ua,(.tup [(.str "look"),ud])])<|κ (.rt (.tup [x1,x2]))):=()
theorem Ak:runK Rs Γ C CD [ua,ub]=(x1@(C 7 [ua,ub])<|x2@(e8 x1)<|x3@(a9 .LtE ub x2)<|z4@(asB x3)<|if z4 then (ret (.tup [(.str "holds"),x1])) else (x5@(A6 ub (.int 1))<|ret (.tup [(.str "put"),x5]))):=()
def z12_L:Lc:=t9 Hw
def V9:Expr×List Expr×Scope:=match (nth Hw.body 0) with
 | .Return (some (.Call _ [.ListComp elt [⟨_,_,ifs,_⟩] scope _] _ _)) _=>(elt,ifs,scope)
 | _=>(.Name "" ⟨0,0,0,0⟩,[],default)
def kQ (C:Cf) (ρ:L3.Env) (d:D):M Bool:=match j4 (i6 z12_L.N) (m8 V9.2.2) with
 | some caps=>qW (testsK (evK Rs Γ C 37) (j8 z12_L V9.2.2 ["hand","box"]) V9.2.1) (mk2 (G6 caps ρ) d)
 | none=>bad
theorem fj:kQ C [qa,ua] (.tup [ub,uc])=(x1@(a9 .IsNot uc .non)<|z2@(asB x1)<|if z2 then (x3@(a9 .LtE uc ua)<|z4@(asB x3)<|ret z4) else (ret false)):=()
def eE (C:Cf) (ρ:L3.Env) (d:D):M D:=match j4 (i6 z12_L.N) (m8 V9.2.2) with
 | some caps=>(evK Rs Γ C 37).e (j8 z12_L V9.2.2 ["hand","box"]) V9.1 (mk2 (G6 caps ρ) d) ret
 | none=>bad
theorem fC:eE C [qa,qb] (.tup [ua,ub])=ret ua:=()
theorem tO:runK Rs Γ C Hw [ua,ub]=(l2@(nx (sm1@(aS ua)<|e9 sm1.1 (kQ C [ua,ub]) (eE C [ua,ub]) sm1.2 0 []))<|x3@(m9 (.lst l2))<|ret x3):=()
def z13_L:Lc:=t9 Hx
def W0:Expr×List Expr×Scope:=match (nth Hx.body 0) with
 | .Return (some (.Call _ [.ListComp elt [⟨_,_,ifs,_⟩] scope _] _ _)) _=>(elt,ifs,scope)
 | _=>(.Name "" ⟨0,0,0,0⟩,[],default)
def jH (C:Cf) (ρ:L3.Env) (d:D):M Bool:=match j4 (i6 z13_L.N) (m8 W0.2.2) with
 | some caps=>qW (testsK (evK Rs Γ C 37) (j8 z13_L W0.2.2 ["hand","here"]) W0.2.1) (mk2 (G6 caps ρ) d)
 | none=>bad
theorem gL:jH C [qa,qb] (.tup [ua,ub])=ret true:=()
def jr (C:Cf) (ρ:L3.Env) (d:D):M D:=match j4 (i6 z13_L.N) (m8 W0.2.2) with
 | some caps=>(evK Rs Γ C 37).e (j8 z13_L W0.2.2 ["hand","here"]) W0.1 (mk2 (G6 caps ρ) d) ret
 | none=>bad
theorem gM:jr C [ua,qa] (.tup [ub,uc])=(x1@(C 9 [ua,ub,uc])<|ret x1):=()
theorem vZ:runK Rs Γ C Hx [ua,ub]=(l3@(nx (x1@(ixD ub (.int 1))<|sm2@(aS x1)<|e9 sm2.1 (jH C [ua,ub]) (jr C [ua,ub]) sm2.2 0 []))<|x4@(m9 (.lst l3))<|ret x4):=()
theorem tB:runK Rs Γ C wo [ua,ub,uc]=(x1@(ixD uc (.int 0))<|x2@(a9 .NotEq x1 (.str "holds"))<|z3@(asB x2)<|if z3 then (ret .non) else (x4@(ixD uc (.int 1))<|l11@(nx (sm6@(u8 x4)<|e9 sm6.1 (λd5=>x7@(ixD ua d5)<|x8@(ixD ua ub)<|x9@(a9 .Lt x7 x8)<|z10@(asB x9)<|ret z10) (λd5=>ret d5) sm6.2 0 []))<|x12@(e8 x4)<|x13@(A6 x12 (.int 1))<|x14@(C 1 [x13])<|x15@(e8 (.lst l11))<|x16@(f7 x14 x15)<|x17@(f7 x16 (.int 1))<|ret x17)):=()
theorem sM:runK Rs Γ C xY [ua,ub]=(x1@(C 1 [ua])<|x2@(p6 (.tup [(.tup [.non,(.bl false)])]) x1)<|x3@(p6 (.tup [(.tup [(.tup []),(.str "out")])]) ub)<|ret (.tup [x2,x3])):=()
theorem wZ:runK Rs Γ C ww [ua]=(x1@(ixD ua (.int 0))<|x2@(C 12 [x1])<|ret x2):=()
theorem tU:runK Rs Γ C xV [ua]=(x@(tupOf ua)<|x1@(countT ua [(.str "down")])<|x@(tupOf ua)<|x2@(countT ua [(.str "right")])<|ret (.tup [x1,x2])):=()
theorem tW:runK Rs Γ C xM [ua]=(x1@(eT ua)<|x2@(C 1 [x1])<|x3@(ixD ua (.int 0))<|x4@(f7 x2 x3)<|ret x4):=()
def J6:Lc:=t9 BT
theorem dz:runK Rs Γ C BT [ua,ub,uc]=i7 (evK Rs Γ C 40) J6 BT.body [ua,ub,uc,none,none,none,none,none,none,none,none] endD:=()
theorem dJ:BT.body=[nth BT.body 0,nth BT.body 1,nth BT.body 2,nth BT.body 3,nth BT.body 4,nth BT.body 5,nth BT.body 6]:=()
theorem nv:XX C 40 J6 BT.body 0 [qa,ua,qb,qc,qd,qe,qf,qg,qh,qi,qj] κ=bind (F6 (t7 [3,4]) ua [qa,ua,qb,qc,qd,qe,qf,qg,qh,qi,qj]) κ:=()
theorem nY:XX C 40 J6 BT.body 1 [qa,qb,ua,qc,ub,qd,qe,qf,qg,qh,qi] κ=(x1@(ixD ub ua)<|x2@(ixD x1 (.int 0))<|κ (.nx [qa,qb,ua,qc,ub,x2,qe,qf,qg,qh,qi])):=()
theorem nj:XX C 40 J6 BT.body 2 [qa,qb,qc,qd,qe,ua,qf,qg,qh,qi,qj] κ=(x1@(C 12 [ua])<|x2@(C 13 [x1])<|κ (.nx [qa,qb,qc,qd,qe,ua,x2,qg,qh,qi,qj])):=()
theorem mw:XX C 40 J6 BT.body 3 [ua,ub,uc,qa,qb,qc,ud,qd,qe,qf,qg] κ=(x1@(C 16 [ua,ub,ud])<|x2@(C 3 [x1,uc])<|bind (F6 (t7 [7,8,9]) x2 [ua,ub,uc,qa,qb,qc,ud,qd,qe,qf,qg]) κ):=()
theorem xm:XX C 40 J6 BT.body 4 [qa,qb,ua,qc,qd,ub,qe,qf,qg,uc,qh] κ=(x1@(ixD uc ua)<|x2@(C 15 [ub,x1])<|κ (.nx [qa,qb,ua,qc,qd,ub,qe,qf,qg,uc,x2])):=()
theorem yB:XX C 40 J6 BT.body 5 [ua,qa,ub,qb,qc,qd,qe,qf,qg,qh,uc] κ=(x1@(ixD uc (.int 0))<|x2@(e8 x1)<|x3@(a9 .GtE x2 ua)<|z4@(asB x3)<|if z4 then (x5@(P6 1 ["hand"] [ub])<|bind (D8 x5) (fin κ)) else (κ (.nx [ua,qa,ub,qb,qc,qd,qe,qf,qg,qh,uc]))):=()
theorem DA:XX C 40 J6 BT.body 6 [qa,qb,ua,ub,uc,qc,ud,ue,uf,qd,ug] κ=(x1@(C 0 [ub,ud,(.tup [ue,uf])])<|x2@(C 0 [uc,ua,ug])<|κ (.rt (.tup [x1,x2]))):=()
theorem oN:runK Rs Γ C Ew [ua,ub]=(x1@(a9 .In ub (.tup [(.str "right"),(.str "down")]))<|z2@(asB x1)<|if z2 then (x3@(f7 ua (.tup [ub]))<|ret (.tup [x3,(.str "out")])) else (ret (.tup [ua,ub]))):=()
def kL:Lc:=t9 Hs
theorem vL:runK Rs Γ C Hs [ua,ub,uc]=i7 (evK Rs Γ C 40) kL Hs.body [ua,ub,uc,none,none,none,none] endD:=()
theorem sy:Hs.body=[nth Hs.body 0,nth Hs.body 1,nth Hs.body 2]:=()
theorem Cm:XX C 40 kL Hs.body 0 [qa,ua,qb,qc,qd,qe,qf] κ=bind (F6 (t7 [3,4]) ua [qa,ua,qb,qc,qd,qe,qf]) κ:=()
theorem Cr:XX C 40 kL Hs.body 1 [qa,qb,ua,ub,qc,qd,qe] κ=(x1@(ixD ub ua)<|bind (F6 (t7 [5,6]) x1 [qa,qb,ua,ub,qc,qd,qe]) κ):=()
theorem FD:XX C 40 kL Hs.body 2 [qa,qb,ua,qc,ub,uc,ud] κ=(l4@(nx (sm2@(u8 ub)<|e9 sm2.1 (λd1=>ret true) (λd1=>x3@(C 17 [d1,ua])<|ret x3) sm2.2 0 []))<|x5@(m9 (.lst l4))<|κ (.rt (.tup [uc,ud,x5]))):=()
def cD:Lc:=t9 Hq
theorem vM:runK Rs Γ C Hq [ua,ub]=i7 (evK Rs Γ C 40) cD Hq.body [ua,ub,none,none,none,none] endD:=()
theorem vV:Hq.body=[nth Hq.body 0,nth Hq.body 1,nth Hq.body 2]:=()
theorem CZ:XX C 40 cD Hq.body 0 [ua,qa,qb,qc,qd,qe] κ=bind (F6 (t7 [2,3]) ua [ua,qa,qb,qc,qd,qe]) κ:=()
def aB:List Stmt:=k6 (nth Hq.body 1)
def eL (C:Cf):L3.Env->M Fl:=λρ'=>i7 (evK Rs Γ C 39) cD aB ρ' ret
theorem Cq:XX C 40 cD Hq.body 1 [qa,qb,ua,qc,qd,qe] κ=(sm1@(aS ua)<|bind (v7 sm1.1 (t7 [4,5]) (eL C) sm1.2 0 [qa,qb,ua,qc,qd,qe]) κ):=()
theorem Du:XX C 40 cD Hq.body 2 [qa,ua,ub,uc,qb,qc] κ=(x1@(C 12 [ub])<|x2@(C 13 [x1])<|x3@(a9 .Eq x2 ua)<|z4@(asB x3)<|if z4 then (κ (.rt uc)) else (κ (.rt (.str "out")))):=()
theorem fN:aB=[nth aB 0]:=()
theorem mG:XX C 39 cD aB 0 [qa,ua,ub,qb,uc,ud] κ=(n1@(bU uc)<|x2@(slD ub none n1)<|x3@(C 12 [x2])<|x4@(C 13 [x3])<|x5@(a9 .Eq x4 ua)<|z6@(asB x5)<|if z6 then (κ (.rt ud)) else (κ (.nx [qa,ua,ub,qb,uc,ud]))):=()
theorem vB:runK Rs Γ C xC [ua,ub]=(l5@(nx (x2@(ixD ub (.int 1))<|sm3@(u8 x2)<|e9 sm3.1 (λd1=>ret true) (λd1=>x4@(C 19 [d1])<|ret x4) sm3.2 0 []))<|x6@(m9 (.lst l5))<|ret x6):=()
theorem wM:runK Rs Γ C xz [ua]=(x1@(ixD ua (.int 1))<|x2@(a9 .Eq x1 (.str "holds"))<|z3@(asB x2)<|if z3 then (x4@(C 11 [ua])<|x5@(C 13 [x4])<|x6@(f7 x5 (.int 1))<|ret x6) else (ret .non)):=()
theorem ti:runK Rs Γ C xW [ua]=(x1@(p6 (.tup [.non]) ua)<|x2@(p6 (.tup [(.tup [(.str "rests")])]) ua)<|ret (.tup [x1,x2,(.int 0)])):=()
def R1:Lc:=t9 Hb
theorem tz:runK Rs Γ C Hb [ua,ub]=i7 (evK Rs Γ C 40) R1 Hb.body [ua,ub,none,none,none,none,none] endD:=()
theorem uJ:Hb.body=[nth Hb.body 0,nth Hb.body 1,nth Hb.body 2,nth Hb.body 3,nth Hb.body 4,nth Hb.body 5,nth Hb.body 6,nth Hb.body 7]:=()
theorem Bn:XX C 40 R1 Hb.body 0 [ua,qa,qb,qc,qd,qe,qf] κ=bind (F6 (t7 [2,3,4]) ua [ua,qa,qb,qc,qd,qe,qf]) κ:=()
theorem DQ:XX C 40 R1 Hb.body 1 [qa,ua,qb,ub,qc,qd,qe] κ=(x1@(ixD ub ua)<|κ (.nx [qa,ua,qb,ub,qc,x1,qe])):=()
theorem FH:XX C 40 R1 Hb.body 2 [ua,ub,qa,qb,qc,uc,qd] κ=(x1@(ixD uc (.int 0))<|x2@(a9 .Eq x1 (.str "rests"))<|z3@(asB x2)<|if z3 then (x4@(C 22 [ua,ub])<|κ (.rt x4)) else (κ (.nx [ua,ub,qa,qb,qc,uc,qd]))):=()
theorem xK:XX C 40 R1 Hb.body 3 [qa,qb,qc,qd,qe,ua,qf] κ=(x1@(ixD ua (.int 1))<|κ (.nx [qa,qb,qc,qd,qe,ua,x1])):=()
theorem xF:XX C 40 R1 Hb.body 4 [qa,ua,ub,uc,ud,ue,uf] κ=(x1@(ixD ue (.int 0))<|x2@(a9 .Eq x1 (.str "holds"))<|z3@(asB x2)<|if z3 then (x4@(A6 uf (.int 1))<|x5@(C 0 [ub,x4,.non])<|x6@(C 0 [uc,ua,(.tup [(.str "rests")])])<|κ (.rt (.tup [x5,x6,ud]))) else (κ (.nx [qa,ua,ub,uc,ud,ue,uf]))):=()
theorem Eh:XX C 40 R1 Hb.body 5 [qa,ua,ub,uc,ud,qb,ue] κ=(x1@(A6 ue (.int 1))<|x2@(ixD ub x1)<|x3@(a9 .Is x2 .non)<|z4@(asB x3)<|if z4 then (x5@(A6 ue (.int 1))<|x6@(C 0 [ub,x5,ua])<|x7@(C 0 [uc,ua,(.tup [(.str "holds"),ue])])<|κ (.rt (.tup [x6,x7,ud]))) else (κ (.nx [qa,ua,ub,uc,ud,qb,ue]))):=()
theorem Bi:XX C 40 R1 Hb.body 6 [qa,ua,ub,qb,qc,qd,uc] κ=(x1@(e8 ub)<|x2@(a9 .Eq uc x1)<|z3@(asB x2)<|if z3 then (x4@(P6 1 ["hand"] [ua])<|bind (D8 x4) (fin κ)) else (κ (.nx [qa,ua,ub,qb,qc,qd,uc]))):=()
theorem EO:XX C 40 R1 Hb.body 7 [qa,ua,ub,uc,ud,qb,ue] κ=(x1@(f7 ue (.int 1))<|x2@(C 0 [uc,ua,(.tup [(.str "tries"),x1])])<|κ (.rt (.tup [ub,x2,ud]))):=()
def jA:Lc:=t9 Ht
theorem vY:runK Rs Γ C Ht [ua,ub]=i7 (evK Rs Γ C 40) jA Ht.body [ua,ub,none,none,none,none] endD:=()
theorem tY:Ht.body=[nth Ht.body 0,nth Ht.body 1,nth Ht.body 2]:=()
theorem Dj:XX C 40 jA Ht.body 0 [ua,qa,qb,qc,qd,qe] κ=bind (F6 (t7 [2,3,4]) ua [ua,qa,qb,qc,qd,qe]) κ:=()
theorem DZ:XX C 40 jA Ht.body 1 [qa,ua,qb,ub,qc,qd] κ=(x1@(C 0 [ub,ua,(.tup [(.str "tries"),(.int 1)])])<|κ (.nx [qa,ua,qb,ub,qc,x1])):=()
theorem CS:XX C 40 jA Ht.body 2 [qa,qb,ua,qc,ub,uc] κ=(x1@(C 23 [uc])<|x2@(dr [ub,x1])<|κ (.rt (.tup [ua,uc,x2]))):=()
theorem AT:runK Rs Γ C Bq [ua]=(l6@(nx (sm2@(u8 ua)<|e9 sm2.1 (λd1=>x3@(ixD d1 (.int 0))<|x4@(a9 .NotEq x3 (.str "rests"))<|z5@(asB x4)<|ret z5) (λd1=>ret d1) sm2.2 0 []))<|x7@(e8 (.lst l6))<|ret x7):=()
theorem wC:runK Rs Γ C yK [ua]=(l8@(nx (x2@(ixD ua (.int 1))<|sm3@(u8 x2)<|e9 sm3.1 (λd1=>ret true) (λd1=>x4@(ixD d1 (.int 0))<|x5@(a9 .Eq x4 (.str "holds"))<|z6@(asB x5)<|if z6 then (x7@(ixD d1 (.int 1))<|ret x7) else (ret .non)) sm3.2 0 []))<|x9@(m9 (.lst l8))<|ret x9):=()
theorem jo:runK Rs Γ C xP [ua]=(x1@(ixD ua (.int 0))<|x2@(a9 .Eq x1 (.str "levels"))<|z3@(asB x2)<|if z3 then (x4@(ixD ua (.int 1))<|x5@(e8 x4)<|ret x5) else (x6@(kn (.int 1))<|x7@(ixD ua x6)<|ret x7)):=()
theorem aD:runK Rs Γ C xU [ua]=(x1@(C 25 [ua])<|x2@(ixD ua (.int 0))<|x3@(a9 .Eq x2 (.str "decider"))<|z4@(asB x3)<|if z4 then (x5@(C 2 [x1])<|ret x5) else (x6@(ixD ua (.int 0))<|x7@(a9 .Eq x6 (.str "net"))<|z8@(asB x7)<|if z8 then (x9@(ixD ua (.int 1))<|x10@(C 10 [x9,x1])<|ret x10) else (x11@(ixD ua (.int 0))<|x12@(a9 .Eq x11 (.str "levels"))<|z13@(asB x12)<|if z13 then (x14@(C 4 [x1])<|ret x14) else (x15@(C 20 [x1])<|ret x15)))):=()
theorem vi:runK Rs Γ C wv [ua,ub]=(l7@(nx (x2@(C 25 [ua])<|sm3@(k4 [x2])<|e9 sm3.1 (λd1=>x4@(C 29 [ua,ub,d1])<|x5@(a9 .IsNot x4 .non)<|z6@(asB x5)<|ret z6) (λd1=>ret d1) sm3.2 0 []))<|x8@(newL l7)<|ret x8):=()
theorem G2:runK Rs Γ C cS [ua,ub,uc]=(x1@(ixD ua (.int 0))<|x2@(a9 .Eq x1 (.str "decider"))<|z3@(asB x2)<|if z3 then (x4@(C 3 [ub,uc])<|ret x4) else (x5@(ixD ua (.int 0))<|x6@(a9 .Eq x5 (.str "net"))<|z7@(asB x6)<|if z7 then (x8@(ixD ua (.int 1))<|x9@(C 14 [x8,ub,uc])<|ret x9) else (x10@(ixD ua (.int 0))<|x11@(a9 .Eq x10 (.str "levels"))<|z12@(asB x11)<|if z12 then (x13@(C 5 [ub,uc])<|ret x13) else (x14@(C 21 [ub,uc])<|ret x14)))):=()
def lm:Lc:=t9 Hv
theorem AA:runK Rs Γ C Hv [ua,ub,uc]=i7 (evK Rs Γ C 40) lm Hv.body [ua,ub,uc] endD:=()
theorem BY:Hv.body=[nth Hv.body 0]:=()
def yM (C:Cf):L3.Env->M Fl:=bX (eBK (evK Rs Γ C 39) Γ C lm) lm (nth (jU (nth Hv.body 0)) 0)
theorem cL:yM C [ua,ub,uc]=(x1@(C 28 [ua,ub,uc])<|ret (.rt x1)):=()
def dM:List Stmt:=iz (nth Hv.body 0)
def xx (C:Cf):L3.Env->M Fl:=λρ'=>i7 (evK Rs Γ C 39) (J7 lm) dM ρ' ret
theorem Fk:XX C 40 lm Hv.body 0 [qa,qb,qc] κ=bind (Y2 (yM C) (λc=>Γ.sub c 1) none (xx C) [qa,qb,qc]) κ:=()
theorem gR:dM=[nth dM 0]:=()
theorem pq:(evK Rs Γ C 39).s (J7 lm) (nth dM 0) [qa,qb,qc] κ=κ (.rt .non):=()
theorem Z8:runK Rs Γ C xn [ua,ub]=(x1@(ixD ua (.int 0))<|x2@(a9 .Eq x1 (.str "decider"))<|z3@(asB x2)<|if z3 then (l9@(nx (x5@(ixD ub (.int 2))<|sm6@(u8 x5)<|e9 sm6.1 (λd4=>ret true) (λd4=>x7@(a9 .Eq d4 (.str "holds"))<|z8@(asB x7)<|if z8 then (ret (.int 1)) else (ret .non)) sm6.2 0 []))<|x10@(m9 (.lst l9))<|ret x10) else (x11@(ixD ua (.int 0))<|x12@(a9 .Eq x11 (.str "net"))<|z13@(asB x12)<|if z13 then (x14@(ixD ua (.int 1))<|x15@(C 18 [x14,ub])<|ret x15) else (x16@(ixD ua (.int 0))<|x17@(a9 .Eq x16 (.str "levels"))<|z18@(asB x17)<|if z18 then (x19@(ixD ua (.int 1))<|x20@(C 8 [x19,ub])<|ret x20) else (x21@(C 24 [ub])<|ret x21)))):=()
theorem Z2:runK Rs Γ C wu [ua,ub]=(x1@(ixD ua (.int 0))<|x2@(a9 .Eq x1 (.str "row"))<|z3@(asB x2)<|if z3 then (x4@(ixD ub (.int 1))<|x5@(C 23 [x4])<|ret x5) else (x6@(ixD ua (.int 0))<|x7@(a9 .Eq x6 (.str "decider"))<|z8@(asB x7)<|if z8 then (x9@(ixD ub (.int 2))<|x10@(e8 x9)<|x@(tupOf x9)<|x11@(C 32 [ua])<|x12@(countG x9 [x11])<|x13@(A6 x10 x12)<|ret x13) else (x14@(ixD ub (.int 1))<|x15@(e8 x14)<|x@(tupOf x14)<|x16@(C 32 [ua])<|x17@(countG x14 [x16])<|x18@(A6 x15 x17)<|ret x18))):=()
theorem eD:runK Rs Γ C xk [ua]=(x1@(ixD ua (.int 0))<|x2@(a9 .Eq x1 (.str "decider"))<|z3@(asB x2)<|if z3 then (ret (.str "out")) else (x4@(ixD ua (.int 0))<|x5@(a9 .Eq x4 (.str "net"))<|z6@(asB x5)<|if z6 then (ret (.tup [(.tup []),(.str "out")])) else (ret (.tup [(.str "out")])))):=()
theorem sg:runK Rs Γ C xJ [ua,ub]=(x1@(ixD ua (.int 0))<|x2@(a9 .In x1 (.tup [(.str "net"),(.str "levels")]))<|z3@(asB x2)<|if z3 then (x4@(C 1 [ub])<|ret x4) else (ret ub)):=()
theorem tZ:runK Rs Γ C wz [ua,ub]=(x1@(slD ua none (some 63))<|x2@(p6 (.int 17) ub)<|x3@(ky [((.str "cells"),x1),((.str "at"),ub),((.str "left"),(.int 0)),((.str "turn"),x2)])<|ret x3):=()
theorem su (C:Cf) (p x:D):runK Rs Γ C xE [p,x]=ji p x:=()
def J8:Lc:=t9 Hr
theorem tq:runK Rs Γ C Hr [ua,ub]=i7 (evK Rs Γ C 40) J8 Hr.body [ua,ub,none,none,none,none] endD:=()
theorem vx:Hr.body=[nth Hr.body 0,nth Hr.body 1,nth Hr.body 2]:=()
theorem Cj:XX C 40 J8 Hr.body 0 [qa,qb,qc,qd,qe,qf] κ=(x1@(newL [])<|κ (.nx [qa,qb,x1,qd,qe,qf])):=()
def u5:List Stmt:=k6 (nth Hr.body 1)
def fQ (C:Cf):L3.Env->M Fl:=λρ'=>i7 (evK Rs Γ C 39) J8 u5 ρ' ret
theorem Dx:XX C 40 J8 Hr.body 1 [qa,ua,qb,qc,qd,qe] κ=(sm1@(k4 [ua])<|bind (v7 sm1.1 (λd ρ=>some (ρ.set 3 (some d))) (fQ C) sm1.2 0 [qa,ua,qb,qc,qd,qe]) κ):=()
theorem Ea:XX C 40 J8 Hr.body 2 [qa,qb,ua,qc,qd,qe] κ=(x1@(m9 ua)<|κ (.rt x1)):=()
theorem fJ:u5=[nth u5 0,nth u5 1,nth u5 2,nth u5 3]:=()
theorem mH:XX C 39 J8 u5 0 [ua,qa,qb,qc,qd,qe] κ=(x1@(C 35 [ua,(.int 10)])<|x2@(fE (.int 10) (.int 9))<|x3@(f7 x2 (.int 1))<|x4@(C 35 [ua,x3])<|x5@(fE (.int 10) (.int 9))<|x6@(C 35 [ua,(.int 4)])<|x7@(A6 x5 x6)<|x8@(C 35 [ua,(.int 100)])<|κ (.nx [ua,qa,qb,qc,some (.lst [x1,x4,x7,x8]),qe])):=()
theorem mU:XX C 39 J8 u5 1 [ua,qa,qb,qc,ub,qd] κ=(x1@(C 35 [ua,(.int 4)])<|x2@(ixD ub x1)<|κ (.nx [ua,qa,qb,qc,ub,x2])):=()
def P4 (C:Cf):L3.Env->M Bool:=λρ'=>(evK Rs Γ C 38).t J8 (iC (nth u5 2)) ρ' ret
theorem bK:P4 C [qa,qb,ua,qc,qd,ub]=(x1@(a9 .In ub ua)<|z2@(asB x1)<|ret z2):=()
def B9:List Stmt:=k6 (nth u5 2)
def J1 (C:Cf):L3.Env->M Fl:=λρ'=>i7 (evK Rs Γ C 38) J8 B9 ρ' ret
theorem lG:XX C 39 J8 u5 2 [qa,qb,qc,qd,qe,qf] κ=bind (w6 (P4 C) (J1 C) 10000 [qa,qb,qc,qd,qe,qf]) κ:=()
theorem mW:XX C 39 J8 u5 3 [qa,qb,ua,qc,qd,ub] κ=(x@(lstOf ua)<|x1@(G9 ua [ub])<|κ (.nx [qa,qb,ua,qc,qd,ub])):=()
theorem Y3:B9=[nth B9 0]:=()
theorem bg:XX C 38 J8 B9 0 [qa,qb,qc,qd,qe,ua] κ=(x1@(f7 ua (.int 1))<|x2@(fE (.int 10) (.int 9))<|x3@(f7 x2 (.int 1))<|x4@(O8 x1 x3)<|κ (.nx [qa,qb,qc,qd,qe,x4])):=()
theorem wN:runK Rs Γ C xg [ua,ub]=(x1@(C 35 [ua,ub])<|x2@(f7 (.int 1) x1)<|x3@(C 35 [ua,(.int 4)])<|x4@(a9 .Eq x3 (.int 0))<|z5@(asB x4)<|if z5 then (ret (.tup [(.str "decider"),x2])) else (x6@(a9 .Eq x3 (.int 1))<|z7@(asB x6)<|if z7 then (x8@(rm [x2,(.int 5)])<|x9@(A6 (.int 6) x8)<|x10@(C 35 [ua,x9])<|x11@(f7 x8 x10)<|ret (.tup [(.str "net"),x11,x8])) else (x12@(a9 .Eq x3 (.int 2))<|z13@(asB x12)<|if z13 then (x14@(C 36 [ua,x2])<|ret (.tup [(.str "levels"),x14])) else (ret (.tup [(.str "row"),x2]))))):=()
theorem wT:runK Rs Γ C xD [ua,ub,uc]=(n1@(bU ub)<|x2@(slD ua none n1)<|x3@(f7 x2 (.tup [uc]))<|x4@(f7 ub (.int 1))<|n5@(bU x4)<|x6@(slD ua n5 none)<|x7@(f7 x3 x6)<|ret x7):=()
def X6:Lc:=t9 Hc
theorem vq:runK Rs Γ C Hc [ua,ub,uc,ud]=i7 (evK Rs Γ C 40) X6 Hc.body [ua,ub,uc,ud,none] endD:=()
theorem vj:Hc.body=[nth Hc.body 0,nth Hc.body 1,nth Hc.body 2,nth Hc.body 3,nth Hc.body 4]:=()
theorem CT:XX C 40 X6 Hc.body 0 [qa,qb,qc,qd,qe] κ=(x1@(ky [((.str "out"),(.str "ask")),((.str "close"),(.str "look"))])<|κ (.nx [qa,qb,qc,qd,x1])):=()
theorem EL:XX C 40 X6 Hc.body 1 [qa,ua,qb,qc,ub] κ=(z1@(u7 ua)<|if z1 then (x@(A9 ub (.str "ask") (.str "right"))<|κ (.nx [qa,ua,qb,qc,ub])) else (x@(A9 ub (.str "ask") (.str "close"))<|κ (.nx [qa,ua,qb,qc,ub]))):=()
theorem Ce:XX C 40 X6 Hc.body 2 [ua,qa,qb,ub,uc] κ=(x1@(a9 .Eq ua ub)<|z2@(asB x1)<|if z2 then (x@(A9 uc (.str "look") (.str "holds"))<|κ (.nx [ua,qa,qb,ub,uc])) else (x@(A9 uc (.str "look") (.str "down"))<|κ (.nx [ua,qa,qb,ub,uc]))):=()
theorem Cw:XX C 40 X6 Hc.body 3 [qa,qb,ua,qc,ub] κ=(x1@(hW true ua ub)<|z2@(asB x1)<|if z2 then (κ (.rt .non)) else (κ (.nx [qa,qb,ua,qc,ub]))):=()
theorem ir:XX C 40 X6 Hc.body 4 [ua,ub,uc,ud,ue] κ=(x1@(a9 .Eq uc (.str "out"))<|z2@(asB x1)<|if z2 then (c3@(u7 ub)<|if c3 then (x4@(ixD ue uc)<|κ (.rt (.tup [ud,ub,x4]))) else (x5@(a9 .Eq uc (.str "close"))<|x6@(ixD ue uc)<|κ (.rt (.tup [ud,x5,x6])))) else (c7@(u7 ub)<|if c7 then (x8@(ixD ue uc)<|κ (.rt (.tup [ua,ub,x8]))) else (x9@(a9 .Eq uc (.str "close"))<|x10@(ixD ue uc)<|κ (.rt (.tup [ua,x9,x10]))))):=()
def K5:Lc:=t9 Cl
theorem vP:runK Rs Γ C Cl [ua,ub,uc]=i7 (evK Rs Γ C 40) K5 Cl.body [ua,ub,uc,none,none,none,none,none,none,none] endD:=()
theorem wg:Cl.body=[nth Cl.body 0,nth Cl.body 1,nth Cl.body 2,nth Cl.body 3,nth Cl.body 4,nth Cl.body 5,nth Cl.body 6,nth Cl.body 7]:=()
theorem Dm:XX C 40 K5 Cl.body 0 [qa,ua,qb,qc,qd,qe,qf,qg,qh,qi] κ=bind (F6 (t7 [3,4]) ua [qa,ua,qb,qc,qd,qe,qf,qg,qh,qi]) κ:=()
theorem CP:XX C 40 K5 Cl.body 1 [qa,qb,ua,qc,ub,qd,qe,qf,qg,qh] κ=(x1@(ixD ub ua)<|bind (F6 (t7 [5,6]) x1 [qa,qb,ua,qc,ub,qd,qe,qf,qg,qh]) κ):=()
theorem DE:XX C 40 K5 Cl.body 2 [qa,qb,qc,qd,qe,ua,qf,qg,qh,qi] κ=(x1@(e8 ua)<|x2@(e8 ua)<|x3@(f7 x2 (.int 1))<|x4@(p6 x1 x3)<|x5@(E8 x4 (.int 2))<|x@(tupOf ua)<|x6@(countT ua [(.str "down")])<|x7@(f7 x5 x6)<|κ (.nx [qa,qb,qc,qd,qe,ua,qf,x7,qh,qi])):=()
theorem Bd:XX C 40 K5 Cl.body 3 [qa,qb,ua,ub,qc,qd,uc,ud,qe,qf] κ=(x1@(ixD ub ud)<|x2@(ixD x1 (.int 0))<|x3@(ixD ub ud)<|x4@(ixD x3 (.int 1))<|x5@(C 39 [x2,x4,uc,ua])<|κ (.nx [qa,qb,ua,ub,qc,qd,uc,ud,x5,qf])):=()
theorem oG:XX C 40 K5 Cl.body 4 [qa,qb,qc,qd,qe,qf,qg,qh,ua,qi] κ=(x1@(a9 .Is ua .non)<|z2@(asB x1)<|if z2 then (κ (.rt .non)) else (κ (.nx [qa,qb,qc,qd,qe,qf,qg,qh,ua,qi]))):=()
theorem yH:XX C 40 K5 Cl.body 5 [qa,qb,qc,qd,qe,ua,qf,qg,ub,qh] κ=(x1@(ixD ub (.int 2))<|κ (.nx [qa,qb,qc,qd,qe,ua,qf,qg,ub,some (.tup [ua,x1])])):=()
theorem yE:XX C 40 K5 Cl.body 6 [ua,qa,qb,qc,qd,ub,qe,qf,uc,qg] κ=(x1@(ixD uc (.int 2))<|x2@(a9 .In x1 (.tup [(.str "right"),(.str "down")]))<|z3@(asB x2)<|if z3 then (x4@(e8 ub)<|x5@(f7 x4 (.int 1))<|x6@(a9 .Eq x5 ua)<|z7@(asB x6)<|if z7 then (κ (.rt .non)) else (x8@(slD uc (some 2) none)<|x9@(f7 ub x8)<|κ (.nx [ua,qa,qb,qc,qd,ub,qe,qf,uc,some (.tup [x9,(.str "out")])]))) else (κ (.nx [ua,qa,qb,qc,qd,ub,qe,qf,uc,qg]))):=()
theorem xZ:XX C 40 K5 Cl.body 7 [qa,qb,ua,ub,uc,qc,qd,ud,ue,uf] κ=(x1@(slD ue none (some 2))<|x2@(C 38 [ub,ud,x1])<|x3@(C 38 [uc,ua,uf])<|κ (.rt (.tup [x2,x3]))):=()
theorem tu:runK Rs Γ C xA [ua,ub]=(l10@(nx (x2@(e8 ua)<|sm3@(k4 [x2])<|e9 sm3.1 (λd1=>x4@(ixD ua d1)<|x5@(a9 .IsNot x4 .non)<|z6@(asB x5)<|if z6 then (x7@(ixD ua d1)<|x8@(a9 .LtE x7 ub)<|z9@(asB x8)<|ret z9) else (ret false)) (λd1=>ret d1) sm3.2 0 []))<|x11@(m9 (.lst l10))<|ret x11):=()
def X4:Lc:=t9 Hf
theorem vK:runK Rs Γ C Hf [ua,ub]=i7 (evK Rs Γ C 40) X4 Hf.body [ua,ub,none,none,none,none,none,none] endD:=()
theorem sW:Hf.body=[nth Hf.body 0,nth Hf.body 1,nth Hf.body 2,nth Hf.body 3,nth Hf.body 4,nth Hf.body 5]:=()
theorem CK:XX C 40 X4 Hf.body 0 [ua,qa,qb,qc,qd,qe,qf,qg] κ=bind (F6 (t7 [2,3]) ua [ua,qa,qb,qc,qd,qe,qf,qg]) κ:=()
theorem FJ:XX C 40 X4 Hf.body 1 [qa,ua,qb,ub,qc,qd,qe,qf] κ=(x1@(ixD ub ua)<|κ (.nx [qa,ua,qb,ub,x1,qd,qe,qf])):=()
theorem DV:XX C 40 X4 Hf.body 2 [qa,qb,qc,qd,ua,qe,qf,qg] κ=(x1@(ixD ua (.int 0))<|x2@(a9 .Eq x1 (.str "holds"))<|z3@(asB x2)<|if z3 then (κ (.rt .non)) else (κ (.nx [qa,qb,qc,qd,ua,qe,qf,qg]))):=()
theorem sC:XX C 40 X4 Hf.body 3 [qa,ua,ub,uc,ud,qb,qc,qd] κ=(x1@(ixD ud (.int 0))<|x2@(a9 .Eq x1 (.str "look"))<|z3@(asB x2)<|if z3 then (x4@(ixD ud (.int 1))<|x5@(C 41 [ub,x4])<|x6@(e8 x5)<|x7@(ixD ud (.int 1))<|x8@(a9 .GtE x6 x7)<|z9@(asB x8)<|if z9 then (x10@(C 38 [uc,ua,(.tup [(.str "holds"),x5])])<|κ (.rt (.tup [ub,x10]))) else (x11@(ixD ud (.int 1))<|x12@(A6 x11 (.int 1))<|x13@(C 38 [uc,ua,(.tup [(.str "put"),x12])])<|κ (.rt (.tup [ub,x13])))) else (κ (.nx [qa,ua,ub,uc,ud,qb,qc,qd]))):=()
theorem yC:XX C 40 X4 Hf.body 4 [qa,qb,ua,qc,ub,qd,qe,qf] κ=(x1@(ixD ub (.int 0))<|x2@(a9 .Eq x1 (.str "put"))<|z3@(asB x2)<|if z3 then (x4@(ixD ub (.int 1))<|κ (.nx [qa,qb,ua,qc,ub,qd,qe,x4])) else (x5@(e8 ua)<|κ (.nx [qa,qb,ua,qc,ub,qd,qe,x5]))):=()
theorem Ck:XX C 40 X4 Hf.body 5 [qa,ua,ub,uc,qb,qc,qd,ud] κ=(x1@(C 38 [ub,ua,ud])<|x2@(C 38 [uc,ua,(.tup [(.str "look"),ud])])<|κ (.rt (.tup [x1,x2]))):=()
def S9:Lc:=t9 Ha
theorem wK:runK Rs Γ C Ha [ua,ub]=i7 (evK Rs Γ C 40) S9 Ha.body [ua,ub,none,none,none,none,none] endD:=()
theorem vg:Ha.body=[nth Ha.body 0,nth Ha.body 1,nth Ha.body 2,nth Ha.body 3,nth Ha.body 4,nth Ha.body 5,nth Ha.body 6,nth Ha.body 7]:=()
theorem CO:XX C 40 S9 Ha.body 0 [ua,qa,qb,qc,qd,qe,qf] κ=bind (F6 (t7 [2,3,4]) ua [ua,qa,qb,qc,qd,qe,qf]) κ:=()
theorem Bf:XX C 40 S9 Ha.body 1 [qa,ua,qb,ub,qc,qd,qe] κ=(x1@(ixD ub ua)<|κ (.nx [qa,ua,qb,ub,qc,x1,qe])):=()
theorem Bk:XX C 40 S9 Ha.body 2 [qa,ua,ub,uc,ud,ue,qb] κ=(x1@(a9 .Eq ue (.tup [(.str "rests")]))<|z2@(asB x1)<|if z2 then (x3@(C 38 [uc,ua,(.tup [(.str "tries"),(.int 1)])])<|l8@(nx (sm5@(u8 x3)<|e9 sm5.1 (λd4=>x6@(a9 .NotEq d4 (.tup [(.str "rests")]))<|z7@(asB x6)<|ret z7) (λd4=>ret d4) sm5.2 0 []))<|x9@(e8 (.lst l8))<|x10@(dr [ud,x9])<|κ (.rt (.tup [ub,x3,x10]))) else (κ (.nx [qa,ua,ub,uc,ud,ue,qb]))):=()
theorem yG:XX C 40 S9 Ha.body 3 [qa,qb,qc,qd,qe,ua,qf] κ=(x1@(ixD ua (.int 1))<|x2@(A6 x1 (.int 1))<|κ (.nx [qa,qb,qc,qd,qe,ua,x2])):=()
theorem xO:XX C 40 S9 Ha.body 4 [qa,ua,ub,uc,ud,ue,uf] κ=(x1@(ixD ue (.int 0))<|x2@(a9 .Eq x1 (.str "holds"))<|z3@(asB x2)<|if z3 then (x4@(C 38 [ub,uf,.non])<|x5@(C 38 [uc,ua,(.tup [(.str "rests")])])<|κ (.rt (.tup [x4,x5,ud]))) else (κ (.nx [qa,ua,ub,uc,ud,ue,uf]))):=()
theorem DS:XX C 40 S9 Ha.body 5 [qa,ua,ub,uc,ud,ue,uf] κ=(x1@(ixD ub uf)<|x2@(a9 .Is x1 .non)<|z3@(asB x2)<|if z3 then (x4@(C 38 [ub,uf,ua])<|x5@(ixD ue (.int 1))<|x6@(C 38 [uc,ua,(.tup [(.str "holds"),x5])])<|κ (.rt (.tup [x4,x6,ud]))) else (κ (.nx [qa,ua,ub,uc,ud,ue,uf]))):=()
theorem Eu:XX C 40 S9 Ha.body 6 [qa,qb,ua,qc,qd,ub,qe] κ=(x1@(ixD ub (.int 1))<|x2@(e8 ua)<|x3@(a9 .Eq x1 x2)<|z4@(asB x3)<|if z4 then (κ (.rt .non)) else (κ (.nx [qa,qb,ua,qc,qd,ub,qe]))):=()
theorem FM:XX C 40 S9 Ha.body 7 [qa,ua,ub,uc,ud,ue,qb] κ=(x1@(ixD ue (.int 1))<|x2@(f7 x1 (.int 1))<|x3@(C 38 [uc,ua,(.tup [(.str "tries"),x2])])<|κ (.rt (.tup [ub,x3,ud]))):=()
theorem jc:runK Rs Γ C xR [ua]=(x1@(ixD ua (.int 0))<|x2@(a9 .Eq x1 (.str "levels"))<|z3@(asB x2)<|if z3 then (x4@(ixD ua (.int 1))<|x5@(e8 x4)<|ret x5) else (x6@(kn (.int 1))<|x7@(ixD ua x6)<|ret x7)):=()
theorem Z1:runK Rs Γ C oY [ua]=(x1@(C 44 [ua])<|x2@(ixD ua (.int 0))<|x3@(a9 .Eq x2 (.str "decider"))<|z4@(asB x3)<|if z4 then (x5@(p6 (.tup [(.str "out")]) x1)<|ret (.tup [.non,(.bl false),x5])) else (x6@(ixD ua (.int 0))<|x7@(a9 .Eq x6 (.str "net"))<|z8@(asB x7)<|if z8 then (x9@(ixD ua (.int 1))<|x10@(ixD ua (.int 1))<|x11@(f7 x10 (.int 1))<|x12@(p6 x9 x11)<|x13@(E8 x12 (.int 2))<|x14@(p6 (.tup [(.tup [.non,(.bl false)])]) x13)<|x15@(p6 (.tup [(.tup [(.tup []),(.str "out")])]) x1)<|ret (.tup [x14,x15])) else (x16@(ixD ua (.int 0))<|x17@(a9 .Eq x16 (.str "levels"))<|z18@(asB x17)<|if z18 then (x19@(p6 (.tup [.non]) x1)<|x20@(p6 (.tup [(.tup [(.str "out")])]) x1)<|ret (.tup [x19,x20])) else (x21@(p6 (.tup [.non]) x1)<|x22@(p6 (.tup [(.tup [(.str "rests")])]) x1)<|ret (.tup [x21,x22,(.int 0)]))))):=()
theorem Y9:runK Rs Γ C jC [ua,ub,uc]=(x1@(ixD ua (.int 0))<|x2@(a9 .Eq x1 (.str "net"))<|z3@(asB x2)<|if z3 then (x4@(ixD ua (.int 1))<|x5@(C 40 [x4,ub,uc])<|ret x5) else (x6@(ixD ua (.int 0))<|x7@(a9 .Eq x6 (.str "levels"))<|z8@(asB x7)<|if z8 then (x9@(C 42 [ub,uc])<|ret x9) else (x10@(ixD ua (.int 0))<|x11@(a9 .Eq x10 (.str "row"))<|z12@(asB x11)<|if z12 then (x13@(C 43 [ub,uc])<|ret x13) else (x14@(ixD ub (.int 0))<|x15@(ixD ub (.int 1))<|x16@(ixD ub (.int 2))<|x17@(ixD x16 uc)<|x18@(C 39 [x14,x15,x17,uc])<|x19@(a9 .Is x18 .non)<|z20@(asB x19)<|if z20 then (ret .non) else (x21@(slD x18 none (some 2))<|x22@(ixD ub (.int 2))<|x23@(ixD x18 (.int 2))<|x24@(C 38 [x22,uc,x23])<|x25@(f7 x21 (.tup [x24]))<|ret x25))))):=()
def A2:Lc:=t9 Ho
theorem iu:runK Rs Γ C Ho [ua,ub]=i7 (evK Rs Γ C 40) A2 Ho.body [ua,ub,none,none,none,none,none] endD:=()
theorem jM:Ho.body=[nth Ho.body 0,nth Ho.body 1,nth Ho.body 2,nth Ho.body 3]:=()
theorem xw:XX C 40 A2 Ho.body 0 [ua,ub,qa,qb,qc,qd,qe] κ=(x1@(ixD ua (.int 0))<|x2@(a9 .Eq x1 (.str "decider"))<|z3@(asB x2)<|if z3 then (l9@(nx (x5@(ixD ub (.int 2))<|sm6@(u8 x5)<|e9 sm6.1 (λd4=>ret true) (λd4=>x7@(a9 .Eq d4 (.str "holds"))<|z8@(asB x7)<|if z8 then (ret (.int 1)) else (ret .non)) sm6.2 0 []))<|x10@(m9 (.lst l9))<|κ (.rt x10)) else (κ (.nx [ua,ub,qa,qb,qc,qd,qe]))):=()
theorem DB:XX C 40 A2 Ho.body 1 [qa,qb,qc,qd,qe,qf,qg] κ=(x1@(newL [])<|κ (.nx [qa,qb,x1,qd,qe,qf,qg])):=()
def h7:List Stmt:=k6 (nth Ho.body 2)
def eV (C:Cf):L3.Env->M Fl:=λρ'=>i7 (evK Rs Γ C 39) A2 h7 ρ' ret
theorem Cb:XX C 40 A2 Ho.body 2 [qa,ua,qb,qc,qd,qe,qf] κ=(x1@(ixD ua (.int 1))<|x2@(e8 x1)<|sm3@(k4 [x2])<|bind (v7 sm3.1 (λd ρ=>some (ρ.set 3 (some d))) (eV C) sm3.2 0 [qa,ua,qb,qc,qd,qe,qf]) κ):=()
theorem Ed:XX C 40 A2 Ho.body 3 [qa,qb,ua,qc,qd,qe,qf] κ=(x1@(m9 ua)<|κ (.rt x1)):=()
theorem fk:h7=[nth h7 0,nth h7 1,nth h7 2,nth h7 3,nth h7 4,nth h7 5]:=()
theorem mT:XX C 39 A2 h7 0 [qa,ua,qb,ub,qc,qd,qe] κ=(x1@(ixD ua (.int 1))<|x2@(ixD x1 ub)<|κ (.nx [qa,ua,qb,ub,x2,qd,qe])):=()
theorem lD:XX C 39 A2 h7 1 [qa,qb,qc,qd,qe,qf,qg] κ=κ (.nx [qa,qb,qc,qd,qe,some .non,qg]):=()
theorem W1:XX C 39 A2 h7 2 [ua,qa,qb,qc,ub,qd,qe] κ=(x1@(ixD ua (.int 0))<|x2@(a9 .Eq x1 (.str "net"))<|z3@(asB x2)<|if z3 then (x4@(ixD ub (.int 1))<|x5@(a9 .Eq x4 (.str "holds"))<|z6@(asB x5)<|if z6 then (x7@(ixD ub (.int 0))<|x8@(e8 x7)<|x9@(ixD ub (.int 0))<|x10@(e8 x9)<|x11@(f7 x10 (.int 1))<|x12@(p6 x8 x11)<|x13@(E8 x12 (.int 2))<|x14@(ixD ub (.int 0))<|x@(tupOf x14)<|x15@(countT x14 [(.str "down")])<|x16@(f7 x13 x15)<|x17@(f7 x16 (.int 1))<|κ (.nx [ua,qa,qb,qc,ub,x17,qe])) else (κ (.nx [ua,qa,qb,qc,ub,qd,qe]))) else (κ (.nx [ua,qa,qb,qc,ub,qd,qe]))):=()
theorem U9:XX C 39 A2 h7 3 [ua,qa,qb,qc,ub,qd,qe] κ=(x1@(ixD ua (.int 0))<|x2@(a9 .Eq x1 (.str "row"))<|z3@(asB x2)<|if z3 then (x4@(ixD ub (.int 0))<|x5@(a9 .Eq x4 (.str "holds"))<|z6@(asB x5)<|if z6 then (x7@(ixD ub (.int 1))<|κ (.nx [ua,qa,qb,qc,ub,x7,qe])) else (κ (.nx [ua,qa,qb,qc,ub,qd,qe]))) else (κ (.nx [ua,qa,qb,qc,ub,qd,qe]))):=()
theorem T9:XX C 39 A2 h7 4 [ua,qa,qb,ub,uc,qc,qd] κ=(x1@(ixD ua (.int 0))<|x2@(a9 .Eq x1 (.str "levels"))<|z3@(asB x2)<|if z3 then (x4@(ixD uc (.int 0))<|x5@(a9 .Eq x4 (.str "holds"))<|z6@(asB x5)<|if z6 then (l12@(nx (x8@(ixD uc (.int 1))<|sm9@(u8 x8)<|e9 sm9.1 (λd7=>ret true) (λd7=>x10@(ixD ua (.int 1))<|x11@(ixD x10 d7)<|ret x11) sm9.2 0 []))<|x13@(Q5 (.lst l12))<|x14@(e8 x13)<|x15@(e8 x13)<|x16@(A6 x15 (.int 1))<|x17@(p6 x14 x16)<|x18@(E8 x17 (.int 2))<|x@(sqK x13)<|x19@(ixD ua (.int 1))<|x20@(ixD x19 ub)<|x21@(bo x13 [x20])<|x22@(f7 x18 x21)<|x23@(f7 x22 (.int 1))<|κ (.nx [ua,qa,qb,ub,uc,x23,x13])) else (κ (.nx [ua,qa,qb,ub,uc,qc,qd]))) else (κ (.nx [ua,qa,qb,ub,uc,qc,qd]))):=()
theorem mN:XX C 39 A2 h7 5 [qa,qb,ua,qc,qd,ub,qe] κ=(x@(lstOf ua)<|x1@(G9 ua [ub])<|κ (.nx [qa,qb,ua,qc,qd,ub,qe])):=()
theorem jh:runK Rs Γ C xN [ua,ub]=(x1@(ixD ua (.int 0))<|x2@(a9 .Eq x1 (.str "decider"))<|z3@(asB x2)<|if z3 then (l9@(nx (x5@(ixD ub (.int 2))<|sm6@(u8 x5)<|e9 sm6.1 (λd4=>x7@(a9 .NotEq d4 (.str "out"))<|z8@(asB x7)<|ret z8) (λd4=>ret d4) sm6.2 0 []))<|x10@(e8 (.lst l9))<|ret x10) else (l16@(nx (x12@(ixD ub (.int 1))<|sm13@(u8 x12)<|e9 sm13.1 (λd11=>x14@(a9 .NotIn d11 (.lst [(.tup [(.str "out")]),(.tup [(.str "rests")]),(.tup [(.tup []),(.str "out")])]))<|z15@(asB x14)<|ret z15) (λd11=>ret d11) sm13.2 0 []))<|x17@(e8 (.lst l16))<|ret x17)):=()
def ao:Lc:=t9 Hi
theorem wL:runK Rs Γ C Hi [ua]=i7 (evK Rs Γ C 40) ao Hi.body [ua,none] endD:=()
theorem vH:Hi.body=[nth Hi.body 0,nth Hi.body 1,nth Hi.body 2,nth Hi.body 3,nth Hi.body 4,nth Hi.body 5]:=()
theorem Co:XX C 40 ao Hi.body 0 [qa,qb] κ=(x1@(newL [])<|κ (.nx [qa,x1])):=()
theorem Es:XX C 40 ao Hi.body 1 [ua,ub] κ=(x1@(A0 (λc=>Γ.sub c 1) ua)<|z2@(u7 x1)<|if z2 then (x@(lstOf ub)<|x3@(cZ "hand" ua)<|x4@(G9 ub [(.tup [(.str "step"),x3])])<|κ (.nx [ua,ub])) else (κ (.nx [ua,ub]))):=()
theorem EN:XX C 40 ao Hi.body 2 [ua,ub] κ=(x1@(A0 (λc=>Γ.sub c 3) ua)<|z2@(u7 x1)<|if z2 then (x@(lstOf ub)<|x3@(cZ "word" ua)<|x4@(cZ "at" ua)<|x5@(G9 ub [(.tup [(.str "stand"),x3,x4])])<|κ (.nx [ua,ub])) else (κ (.nx [ua,ub]))):=()
theorem Em:XX C 40 ao Hi.body 3 [ua,ub] κ=(x1@(A0 (λc=>Γ.sub c 4) ua)<|z2@(u7 x1)<|if z2 then (x@(lstOf ub)<|x3@(cZ "word" ua)<|x4@(G9 ub [(.tup [(.str "many"),x3])])<|κ (.nx [ua,ub])) else (κ (.nx [ua,ub]))):=()
theorem EX:XX C 40 ao Hi.body 4 [ua,ub] κ=(x1@(A0 (λc=>[2,6,5].any λc0=>Γ.sub c c0) ua)<|z2@(u7 x1)<|if z2 then (x@(lstOf ub)<|x3@(G9 ub [(.tup [(.str "odd")])])<|κ (.nx [ua,ub])) else (x4@(A0 (λ_=>true) ua)<|z5@(u7 x4)<|if (!z5)=true then (x@(lstOf ub)<|x6@(G9 ub [(.tup [(.str "odd")])])<|κ (.nx [ua,ub])) else (κ (.nx [ua,ub])))):=()
theorem El:XX C 40 ao Hi.body 5 [qa,ua] κ=(x1@(e8 ua)<|x2@(a9 .Eq x1 (.int 1))<|z3@(asB x2)<|if z3 then (x4@(ixD ua (.int 0))<|κ (.rt x4)) else (κ (.rt (.tup [(.str "odd")])))):=()
def L8:Lc:=t9 outL_F
theorem rk:runK Rs Γ C outL_F [ua,ub,uc]=i7 (evK Rs Γ C 40) L8 outL_F.body [ua,ub,uc,none,none] endD:=()
theorem pV:outL_F.body=[nth outL_F.body 0,nth outL_F.body 1,nth outL_F.body 2]:=()
theorem Ay:XX C 40 L8 outL_F.body 0 [qa,qb,qc,qd,qe] κ=κ (.nx [qa,qb,qc,some (.tup [(.str "odd")]),qe]):=()
def kP (C:Cf):L3.Env->M Fl:=bX (eBK (evK Rs Γ C 39) Γ C L8) L8 (nth (jU (nth outL_F.body 1)) 0)
theorem X2:kP C [ua,ub,uc,qa,qb]=(x1@(C 28 [ua,ub,uc])<|ret (.nx [ua,ub,uc,x1,qb])):=()
def R0:List Stmt:=iz (nth outL_F.body 1)
def kN (C:Cf):L3.Env->M Fl:=λρ'=>i7 (evK Rs Γ C 39) (J7 L8) R0 ρ' ret
theorem Al:XX C 40 L8 outL_F.body 1 [qa,qb,qc,qd,qe] κ=bind (Y2 (kP C) (λc=>Γ.sub c 0) (some 4) (kN C) [qa,qb,qc,qd,qe]) κ:=()
theorem pH:XX C 40 L8 outL_F.body 2 [qa,qb,qc,ua,qd] κ=κ (.rt ua):=()
theorem cv:R0=[nth R0 0]:=()
theorem iE:(evK Rs Γ C 39).s (J7 L8) (nth R0 0) [qa,qb,qc,qd,ua] κ=(x1@(nx (C 49 [ua]))<|κ (.nx [qa,qb,qc,x1,ua])):=()
def A3:Lc:=t9 Hm
theorem sR:runK Rs Γ C Hm [ua,ub]=i7 (evK Rs Γ C 40) A3 Hm.body [ua,ub,none,none,none,none,none] endD:=()
theorem tN:Hm.body=[nth Hm.body 0,nth Hm.body 1,nth Hm.body 2,nth Hm.body 3]:=()
theorem EJ:XX C 40 A3 Hm.body 0 [qa,qb,qc,qd,qe,qf,qg] κ=(x1@(newL [])<|κ (.nx [qa,qb,x1,qd,qe,qf,qg])):=()
def C8:List Stmt:=k6 (nth Hm.body 1)
def bQ (C:Cf):L3.Env->M Fl:=λρ'=>i7 (evK Rs Γ C 39) A3 C8 ρ' ret
theorem EW:XX C 40 A3 Hm.body 1 [qa,ua,qb,qc,qd,qe,qf] κ=(sm1@(k4 [ua])<|bind (v7 sm1.1 (λd ρ=>some (ρ.set 3 (some d))) (bQ C) sm1.2 0 [qa,ua,qb,qc,qd,qe,qf]) κ):=()
def C9:List Stmt:=k6 (nth Hm.body 2)
def fH (C:Cf):L3.Env->M Fl:=λρ'=>i7 (evK Rs Γ C 39) A3 C9 ρ' ret
theorem EQ:XX C 40 A3 Hm.body 2 [qa,ua,qb,qc,qd,qe,qf] κ=(sm1@(k4 [(.int 1),ua])<|bind (v7 sm1.1 (λd ρ=>some (ρ.set 4 (some d))) (fH C) sm1.2 0 [qa,ua,qb,qc,qd,qe,qf]) κ):=()
theorem FE:XX C 40 A3 Hm.body 3 [qa,qb,ua,qc,qd,qe,qf] κ=κ (.rt ua):=()
theorem fX:C8=[nth C8 0,nth C8 1,nth C8 2]:=()
theorem ki:XX C 39 A3 C8 0 [ua,ub,qa,qb,qc,qd,qe] κ=(x1@(C 35 [ua,ub])<|x2@(f7 (.int 1) x1)<|κ (.nx [ua,ub,qa,qb,x2,qd,qe])):=()
theorem mC:XX C 39 A3 C8 1 [ua,qa,qb,qc,qd,qe,qf] κ=(x1@(C 35 [ua,(.int 4)])<|κ (.nx [ua,qa,qb,qc,qd,x1,qf])):=()
theorem lz:XX C 39 A3 C8 2 [qa,qb,ua,qc,ub,uc,qd] κ=(x@(lstOf ua)<|x1@(a9 .Eq uc (.int 0))<|z2@(asB x1)<|if z2 then (x3@(G9 ua [.non])<|κ (.nx [qa,qb,ua,qc,ub,uc,qd])) else (x4@(a9 .Eq uc (.int 1))<|c5@(u7 x4)<|if c5 then (x6@(a9 .Gt ub (.int 1))<|x7@(G9 ua [(.tup [ub,x6])])<|κ (.nx [qa,qb,ua,qc,ub,uc,qd])) else (x8@(G9 ua [(.tup [ub,x4])])<|κ (.nx [qa,qb,ua,qc,ub,uc,qd])))):=()
theorem fR:C9=[nth C9 0,nth C9 1]:=()
theorem lb:XX C 39 A3 C9 0 [qa,ua,ub,qb,uc,qc,qd] κ=(l14@(nx (sm2@(k4 [ua])<|e9 sm2.1 (λd1=>x3@(ixD ub d1)<|x4@(a9 .IsNot x3 .non)<|z5@(asB x4)<|if z5 then (x6@(ixD ub d1)<|x7@(ixD x6 (.int 0))<|x8@(ixD ub d1)<|x9@(ixD x8 (.int 1))<|x10@(tJ x9)<|x11@(A6 x7 x10)<|x12@(a9 .LtE x11 uc)<|z13@(asB x12)<|ret z13) else (ret false)) (λd1=>ret d1) sm2.2 0 []))<|x15@(newL l14)<|κ (.nx [qa,ua,ub,qb,uc,qc,x15])):=()
def P3 (C:Cf):L3.Env->M Bool:=λρ'=>(evK Rs Γ C 38).t A3 (iC (nth C9 1)) ρ' ret
theorem aM:P3 C [qa,qb,qc,qd,ua,qe,ub]=(x1@(e8 ub)<|x2@(a9 .Gt x1 ua)<|z3@(asB x2)<|ret z3):=()
def B7:List Stmt:=k6 (nth C9 1)
def F9 (C:Cf):L3.Env->M Fl:=λρ'=>i7 (evK Rs Γ C 38) A3 B7 ρ' ret
theorem me:XX C 39 A3 C9 1 [qa,qb,qc,qd,qe,qf,qg] κ=bind (w6 (P3 C) (F9 C) 10000 [qa,qb,qc,qd,qe,qf,qg]) κ:=()
theorem Y6:B7=[nth B7 0]:=()
theorem bV:XX C 38 A3 B7 0 [ua,qa,ub,qb,uc,qc,ud] κ=(x1@(f7 uc (.int 1))<|x@(lstOf ud)<|x2@(e8 ud)<|x3@(C 35 [ua,x2])<|x4@(popD ud [x3])<|x@(A9 ub x4 (.tup [x1,(.bl false)]))<|κ (.nx [ua,qa,ub,qb,uc,qc,ud])):=()
def L6:Lc:=t9 Hj
theorem tf:runK Rs Γ C Hj [ua,ub]=i7 (evK Rs Γ C 40) L6 Hj.body [ua,ub,none,none,none,none,none,none] endD:=()
theorem wX:Hj.body=[nth Hj.body 0,nth Hj.body 1,nth Hj.body 2,nth Hj.body 3,nth Hj.body 4]:=()
theorem Db:XX C 40 L6 Hj.body 0 [ua,ub,qa,qb,qc,qd,qe,qf] κ=(x1@(C 51 [ua,ub])<|κ (.nx [ua,ub,x1,qb,qc,qd,qe,qf])):=()
theorem Dq:XX C 40 L6 Hj.body 1 [qa,qb,ua,qc,qd,qe,qf,qg] κ=(l6@(nx (sm2@(u8 ua)<|e9 sm2.1 (λd1=>ret true) (λd1=>x3@(a9 .Is d1 .non)<|z4@(asB x3)<|if z4 then (ret .non) else (x5@(ixD d1 (.int 0))<|ret x5)) sm2.2 0 []))<|x7@(m9 (.lst l6))<|κ (.nx [qa,qb,ua,qc,x7,qe,qf,qg])):=()
theorem Bm:XX C 40 L6 Hj.body 2 [qa,qb,qc,qd,qe,qf,qg,qh] κ=(x1@(newL [])<|κ (.nx [qa,qb,qc,qd,qe,x1,qg,qh])):=()
def A7:List Stmt:=k6 (nth Hj.body 3)
def fO (C:Cf):L3.Env->M Fl:=λρ'=>i7 (evK Rs Γ C 39) L6 A7 ρ' ret
theorem Ep:XX C 40 L6 Hj.body 3 [qa,qb,ua,qc,qd,qe,qf,qg] κ=(sm1@(u8 ua)<|bind (v7 sm1.1 (λd ρ=>some (ρ.set 3 (some d))) (fO C) sm1.2 0 [qa,qb,ua,qc,qd,qe,qf,qg]) κ):=()
theorem Ek:XX C 40 L6 Hj.body 4 [qa,qb,qc,qd,ua,ub,qe,qf] κ=(x1@(m9 ub)<|κ (.rt (.tup [ua,x1]))):=()
theorem fY:A7=[nth A7 0,nth A7 1,nth A7 2]:=()
theorem lO:XX C 39 L6 A7 0 [qa,qb,qc,qd,qe,qf,qg,qh] κ=κ (.nx [qa,qb,qc,qd,qe,qf,some (.tup [(.str "out")]),qh]):=()
theorem ke:XX C 39 L6 A7 1 [ua,qa,qb,ub,uc,qc,qd,qe] κ=(x1@(a9 .IsNot ub .non)<|z2@(asB x1)<|if z2 then (x3@(ixD ub (.int 1))<|z4@(u7 x3)<|if z4 then (x5@(ixD ub (.int 0))<|x6@(A6 x5 (.int 1))<|x7@(ixD ub (.int 0))<|x8@(C 41 [uc,x7])<|x9@(ixD ub (.int 1))<|z10@(u7 x9)<|if (!z10)=true then (x11@(e8 x8)<|x12@(ixD ub (.int 0))<|x13@(a9 .Eq x11 x12)<|z14@(asB x13)<|if z14 then (x15@(C 35 [ua,(.int 3)])<|x16@(a9 .Gt x15 (.int 0))<|z17@(asB x16)<|if z17 then (κ (.nx [ua,qa,qb,ub,uc,qc,some (.tup [(.str "holds"),x8]),x8])) else (κ (.nx [ua,qa,qb,ub,uc,qc,some (.tup [(.str "put"),x6]),x8]))) else (κ (.nx [ua,qa,qb,ub,uc,qc,some (.tup [(.str "put"),x6]),x8]))) else (κ (.nx [ua,qa,qb,ub,uc,qc,some (.tup [(.str "put"),x6]),x8]))) else (x18@(ixD ub (.int 0))<|x19@(ixD ub (.int 0))<|x20@(C 41 [uc,x19])<|x21@(ixD ub (.int 1))<|z22@(u7 x21)<|if (!z22)=true then (x23@(e8 x20)<|x24@(ixD ub (.int 0))<|x25@(a9 .Eq x23 x24)<|z26@(asB x25)<|if z26 then (x27@(C 35 [ua,(.int 3)])<|x28@(a9 .Gt x27 (.int 0))<|z29@(asB x28)<|if z29 then (κ (.nx [ua,qa,qb,ub,uc,qc,some (.tup [(.str "holds"),x20]),x20])) else (κ (.nx [ua,qa,qb,ub,uc,qc,some (.tup [(.str "look"),x18]),x20]))) else (κ (.nx [ua,qa,qb,ub,uc,qc,some (.tup [(.str "look"),x18]),x20]))) else (κ (.nx [ua,qa,qb,ub,uc,qc,some (.tup [(.str "look"),x18]),x20])))) else (κ (.nx [ua,qa,qb,ub,uc,qc,qd,qe]))):=()
theorem kl:XX C 39 L6 A7 2 [qa,qb,qc,qd,qe,ua,ub,qf] κ=(x@(lstOf ua)<|x1@(G9 ua [ub])<|κ (.nx [qa,qb,qc,qd,qe,ua,ub,qf])):=()
def E3:Lc:=t9 Hk
theorem vp:runK Rs Γ C Hk [ua,ub]=i7 (evK Rs Γ C 40) E3 Hk.body [ua,ub,none,none,none,none,none,none,none] endD:=()
theorem tE:Hk.body=[nth Hk.body 0,nth Hk.body 1,nth Hk.body 2,nth Hk.body 3,nth Hk.body 4]:=()
theorem Er:XX C 40 E3 Hk.body 0 [qa,ua,qb,qc,qd,qe,qf,qg,qh] κ=(x1@(qD (.lst [.non]) ua)<|κ (.nx [qa,ua,x1,qc,qd,qe,qf,qg,qh])):=()
theorem Dp:XX C 40 E3 Hk.body 1 [qa,qb,qc,qd,qe,qf,qg,qh,qi] κ=(x1@(newL [])<|κ (.nx [qa,qb,qc,x1,qe,qf,qg,qh,qi])):=()
def t4:List Stmt:=k6 (nth Hk.body 2)
def fg (C:Cf):L3.Env->M Fl:=λρ'=>i7 (evK Rs Γ C 39) E3 t4 ρ' ret
theorem Bg:XX C 40 E3 Hk.body 2 [qa,ua,qb,qc,qd,qe,qf,qg,qh] κ=(sm1@(k4 [ua])<|bind (v7 sm1.1 (λd ρ=>some (ρ.set 4 (some d))) (fg C) sm1.2 0 [qa,ua,qb,qc,qd,qe,qf,qg,qh]) κ):=()
theorem Bz:XX C 40 E3 Hk.body 3 [qa,qb,qc,ua,qd,qe,qf,qg,qh] κ=(l5@(nx (sm2@(u8 ua)<|e9 sm2.1 (λd1=>x3@(a9 .NotEq d1 (.tup [(.str "rests")]))<|z4@(asB x3)<|ret z4) (λd1=>ret d1) sm2.2 0 []))<|x6@(e8 (.lst l5))<|κ (.nx [qa,qb,qc,ua,qd,qe,qf,qg,x6])):=()
theorem Ej:XX C 40 E3 Hk.body 4 [ua,ub,uc,ud,qa,qb,qc,qd,ue] κ=(x1@(m9 uc)<|x2@(m9 ud)<|x3@(A6 ub ue)<|x4@(f7 x3 (.int 1))<|x5@(C 35 [ua,x4])<|x6@(f7 ue x5)<|κ (.rt (.tup [x1,x2,x6]))):=()
theorem fM:t4=[nth t4 0,nth t4 1,nth t4 2,nth t4 3,nth t4 4]:=()
theorem lF:XX C 39 E3 t4 0 [ua,ub,qa,qb,qc,qd,qe,qf,qg] κ=(x1@(C 35 [ua,ub])<|x2@(f7 (.int 1) x1)<|κ (.nx [ua,ub,qa,qb,qc,x2,qe,qf,qg])):=()
theorem lS:XX C 39 E3 t4 1 [ua,qa,qb,qc,qd,qe,qf,qg,qh] κ=(x1@(C 35 [ua,(.int 3)])<|κ (.nx [ua,qa,qb,qc,qd,qe,x1,qg,qh])):=()
theorem kx:XX C 39 E3 t4 2 [qa,qb,qc,qd,qe,ua,ub,qf,qg] κ=(x1@(ixD (.lst [(.tup [(.str "rests")]),(.tup [(.str "tries"),ua]),(.tup [(.str "tries"),ua])]) ub)<|κ (.nx [qa,qb,qc,qd,qe,ua,ub,x1,qg])):=()
theorem lr:XX C 39 E3 t4 3 [qa,qb,ua,qc,ub,uc,ud,qd,qe] κ=(x1@(a9 .Eq ud (.int 2))<|z2@(asB x1)<|if z2 then (x3@(A6 uc (.int 1))<|x4@(ixD ua x3)<|x5@(a9 .Is x4 .non)<|z6@(asB x5)<|if z6 then (x7@(A6 uc (.int 1))<|x@(A9 ua x7 ub)<|κ (.nx [qa,qb,ua,qc,ub,uc,ud,some (.tup [(.str "holds"),uc]),qe])) else (κ (.nx [qa,qb,ua,qc,ub,uc,ud,qd,qe]))) else (κ (.nx [qa,qb,ua,qc,ub,uc,ud,qd,qe]))):=()
theorem lf:XX C 39 E3 t4 4 [qa,qb,qc,ua,qd,qe,qf,ub,qg] κ=(x@(lstOf ua)<|x1@(G9 ua [ub])<|κ (.nx [qa,qb,qc,ua,qd,qe,qf,ub,qg])):=()
theorem uP:runK Rs Γ C wn [ua,ub]=(l9@(nx (sm2@(u8 ua)<|e9 sm2.1 (λd1=>x3@(e8 d1)<|x4@(a9 .Gt x3 (.int 1))<|z5@(asB x4)<|if z5 then (x6@(ixD d1 (.int 1))<|x7@(a9 .GtE x6 ub)<|z8@(asB x7)<|ret z8) else (ret false)) (λd1=>ret d1) sm2.2 0 []))<|x10@(e8 (.lst l9))<|ret x10):=()
theorem uZ:runK Rs Γ C xH [ua]=(l6@(nx (x2@(e8 ua)<|sm3@(k4 [x2])<|e9 sm3.1 (λd1=>ret true) (λd1=>x4@(f7 d1 (.int 1))<|x5@(C 54 [ua,x4])<|ret x5) sm3.2 0 []))<|l15@(nx (x8@(e8 ua)<|sm9@(k4 [x8])<|e9 sm9.1 (λd7=>x10@(ixD (.lst l6) d7)<|x11@(a9 .Gt x10 (.int 0))<|z12@(asB x11)<|ret z12) (λd7=>x13@(ixD (.lst l6) d7)<|x14@(f7 x13 d7)<|ret x14) sm9.2 0 []))<|x16@(f7 (.lst [(.int 0)]) (.lst l15))<|x17@(dr [x16])<|ret x17):=()
def ax:Lc:=t9 Hl
theorem zY:runK Rs Γ C Hl [ua,ub]=i7 (evK Rs Γ C 40) ax Hl.body [ua,ub,none,none,none,none,none,none] endD:=()
theorem BO:Hl.body=[nth Hl.body 0,nth Hl.body 1,nth Hl.body 2,nth Hl.body 3]:=()
theorem GQ:XX C 40 ax Hl.body 0 [ua,ub,qa,qb,qc,qd,qe,qf] κ=(x1@(C 53 [ua,ub])<|bind (F6 (t7 [2,3,4]) x1 [ua,ub,qa,qb,qc,qd,qe,qf]) κ):=()
def yA (C:Cf):L3.Env->M Bool:=λρ'=>(evK Rs Γ C 39).t ax (iC (nth Hl.body 1)) ρ' ret
theorem kw:yA C [qa,ua,qb,ub,qc,qd,qe,qf]=(x1@(C 55 [ub])<|x2@(a9 .Gt x1 ua)<|z3@(asB x2)<|ret z3):=()
def E1:List Stmt:=k6 (nth Hl.body 1)
def ja (C:Cf):L3.Env->M Fl:=λρ'=>i7 (evK Rs Γ C 39) ax E1 ρ' ret
theorem Fg:XX C 40 ax Hl.body 1 [qa,qb,qc,qd,qe,qf,qg,qh] κ=bind (w6 (yA C) (ja C) 10000 [qa,qb,qc,qd,qe,qf,qg,qh]) κ:=()
theorem GV:XX C 40 ax Hl.body 2 [qa,qb,qc,ua,qd,qe,qf,qg] κ=(x1@(C 55 [ua])<|κ (.nx [qa,qb,qc,ua,qd,qe,qf,x1])):=()
theorem Ga:XX C 40 ax Hl.body 3 [ua,ub,uc,ud,qa,qb,qc,ue] κ=(x1@(A6 ub ue)<|x2@(f7 x1 (.int 1))<|x3@(C 35 [ua,x2])<|x4@(f7 ue x3)<|κ (.rt (.tup [uc,ud,x4]))):=()
theorem iY:E1=[nth E1 0,nth E1 1,nth E1 2,nth E1 3]:=()
theorem oE:XX C 39 ax E1 0 [qa,qb,qc,ua,qd,qe,qf,qg] κ=(l7@(nx (sm2@(u8 ua)<|e9 sm2.1 (λd1=>x3@(e8 d1)<|x4@(a9 .Gt x3 (.int 1))<|z5@(asB x4)<|ret z5) (λd1=>x6@(ixD d1 (.int 1))<|ret x6) sm2.2 0 []))<|x8@(dr [(.lst l7)])<|κ (.nx [qa,qb,qc,ua,qd,x8,qf,qg])):=()
theorem pR:XX C 39 ax E1 1 [qa,ua,qb,ub,qc,uc,qd,qe] κ=(l7@(nx (sm2@(k4 [ua])<|e9 sm2.1 (λd1=>x3@(ixD ub d1)<|x4@(slD x3 (some 1) none)<|x5@(a9 .Eq x4 (.tup [uc]))<|z6@(asB x5)<|ret z6) (λd1=>ret d1) sm2.2 0 []))<|x8@(ixD (.lst l7) (.int 0))<|κ (.nx [qa,ua,qb,ub,qc,uc,x8,qe])):=()
theorem rA:XX C 39 ax E1 2 [qa,qb,ua,qc,qd,qe,ub,qf] κ=(l5@(nx (sm2@(u8 ua)<|e9 sm2.1 (λd1=>ret true) (λd1=>x3@(a9 .Eq d1 ub)<|z4@(asB x3)<|if z4 then (ret .non) else (ret d1)) sm2.2 0 []))<|x6@(m9 (.lst l5))<|κ (.nx [qa,qb,x6,qc,qd,qe,ub,qf])):=()
theorem oC:XX C 39 ax E1 3 [qa,qb,qc,ua,qd,qe,ub,qf] κ=(x1@(C 38 [ua,ub,(.tup [(.str "rests")])])<|κ (.nx [qa,qb,qc,x1,qd,qe,ub,qf])):=()
def N4:Lc:=t9 Hh
theorem zS:runK Rs Γ C Hh [ua,ub]=i7 (evK Rs Γ C 40) N4 Hh.body [ua,ub,none,none,none,none,none,none,none] endD:=()
theorem Ab:Hh.body=[nth Hh.body 0,nth Hh.body 1,nth Hh.body 2,nth Hh.body 3,nth Hh.body 4,nth Hh.body 5]:=()
theorem Fp:XX C 40 N4 Hh.body 0 [ua,ub,qa,qb,qc,qd,qe,qf,qg] κ=(x1@(p8 (.tup [ua,ub]))<|κ (.nx [ua,ub,x1,qb,qc,qd,qe,qf,qg])):=()
theorem HH:XX C 40 N4 Hh.body 1 [ua,qa,qb,qc,qd,qe,qf,qg,qh] κ=(x1@(C 44 [ua])<|κ (.nx [ua,qa,qb,x1,qd,qe,qf,qg,qh])):=()
theorem HC:XX C 40 N4 Hh.body 2 [ua,ub,qa,uc,qb,qc,qd,qe,qf] κ=(l4@(nx (sm2@(k4 [uc])<|e9 sm2.1 (λd1=>ret true) (λd1=>x3@(C 46 [ua,ub,d1])<|ret x3) sm2.2 0 []))<|κ (.nx [ua,ub,qa,uc,qb,some (.lst l4),qd,qe,qf])):=()
def B6:List Stmt:=k6 (nth Hh.body 3)
def jt (C:Cf):L3.Env->M Fl:=λρ'=>i7 (evK Rs Γ C 39) N4 B6 ρ' ret
theorem HD:XX C 40 N4 Hh.body 3 [qa,qb,qc,qd,qe,qf,qg,qh,qi] κ=(sm1@(k4 [(.int 2)])<|bind (v7 sm1.1 (λd ρ=>some (ρ.set 6 (some d))) (jt C) sm1.2 0 [qa,qb,qc,qd,qe,qf,qg,qh,qi]) κ):=()
theorem GM:XX C 40 N4 Hh.body 4 [ua,ub,qa,qb,qc,qd,qe,qf,qg] κ=(x1@(C 30 [ua,ub])<|x2@(p8 x1)<|x3@(C 47 [ua,ub])<|x4@(p8 x3)<|x5@(a9 .NotEq x2 x4)<|z6@(asB x5)<|if z6 then (κ (.rt (.bl false))) else (κ (.nx [ua,ub,qa,qb,qc,qd,qe,qf,qg]))):=()
theorem GG:XX C 40 N4 Hh.body 5 [ua,ub,uc,qa,qb,qc,qd,qe,qf] κ=(x1@(C 31 [ua,ub])<|x2@(p8 x1)<|x3@(C 48 [ua,ub])<|x4@(p8 x3)<|x5@(a9 .Eq x2 x4)<|c6@(u7 x5)<|if c6 then (x7@(p8 (.tup [ua,ub]))<|x8@(a9 .Eq x7 uc)<|κ (.rt x8)) else (κ (.rt x5))):=()
theorem gZ:B6=[nth B6 0,nth B6 1,nth B6 2,nth B6 3]:=()
theorem qO:XX C 39 N4 B6 0 [ua,ub,qa,qb,qc,qd,qe,qf,qg] κ=(x1@(C 27 [ua,ub])<|κ (.nx [ua,ub,qa,qb,qc,qd,qe,x1,qg])):=()
theorem qV:XX C 39 N4 B6 1 [qa,qb,qc,ua,qd,ub,qe,uc,qf] κ=(x1@(p8 uc)<|l7@(nx (sm3@(k4 [ua])<|e9 sm3.1 (λd2=>x4@(ixD ub d2)<|x5@(a9 .IsNot x4 .non)<|z6@(asB x5)<|ret z6) (λd2=>ret d2) sm3.2 0 []))<|x8@(p8 (.lst l7))<|x9@(a9 .NotEq x1 x8)<|z10@(asB x9)<|if z10 then (κ (.rt (.bl false))) else (κ (.nx [qa,qb,qc,ua,qd,ub,qe,uc,qf]))):=()
theorem qG:XX C 39 N4 B6 2 [qa,qb,qc,qd,qe,qf,qg,ua,qh] κ=(x@(lstOf ua)<|x1@(G9 ua [(.int 0)])<|κ (.nx [qa,qb,qc,qd,qe,qf,qg,ua,qh])):=()
def u6:List Stmt:=k6 (nth B6 3)
def X1 (C:Cf):L3.Env->M Fl:=λρ'=>i7 (evK Rs Γ C 38) N4 u6 ρ' ret
theorem qP:XX C 39 N4 B6 3 [qa,qb,qc,ua,qd,qe,qf,qg,qh] κ=(sm1@(k4 [ua])<|bind (v7 sm1.1 (λd ρ=>some (ρ.set 4 (some d))) (X1 C) sm1.2 0 [qa,qb,qc,ua,qd,qe,qf,qg,qh]) κ):=()
theorem aZ:u6=[nth u6 0,nth u6 1]:=()
theorem dN:XX C 38 N4 u6 0 [qa,qb,qc,qd,ua,ub,qe,qf,qg] κ=(x1@(ixD ub ua)<|x2@(a9 .Is x1 .non)<|z3@(asB x2)<|if z3 then (κ (.nx [qa,qb,qc,qd,ua,ub,qe,qf,some (.tup [(.str "step"),ua])])) else (x4@(ixD ub ua)<|κ (.nx [qa,qb,qc,qd,ua,ub,qe,qf,x4]))):=()
theorem dR:XX C 38 N4 u6 1 [ua,ub,qa,qb,uc,qc,qd,qe,ud] κ=(x1@(C 50 [ua,ub,uc])<|x2@(p8 x1)<|x3@(p8 ud)<|x4@(a9 .NotEq x2 x3)<|z5@(asB x4)<|if z5 then (κ (.rt (.bl false))) else (κ (.nx [ua,ub,qa,qb,uc,qc,qd,qe,ud]))):=()
def iX:Lc:=t9 Hu
theorem zn:runK Rs Γ C Hu [ua]=i7 (evK Rs Γ C 40) iX Hu.body [ua,none,none] endD:=()
theorem zO:Hu.body=[nth Hu.body 0,nth Hu.body 1]:=()
def O3:List Stmt:=k6 (nth Hu.body 0)
def ic (C:Cf):L3.Env->M Fl:=λρ'=>i7 (evK Rs Γ C 39) iX O3 ρ' ret
theorem Fe:XX C 40 iX Hu.body 0 [qa,qb,qc] κ=(sm1@(k4 [(.int 7)])<|bind (v7 sm1.1 (λd ρ=>some (ρ.set 1 (some d))) (ic C) sm1.2 0 [qa,qb,qc]) κ):=()
theorem FW:XX C 40 iX Hu.body 1 [ua,qa,qb] κ=(x1@(C 26 [ua])<|x2@(p8 x1)<|x3@(C 45 [ua])<|x4@(p8 x3)<|x5@(a9 .Eq x2 x4)<|κ (.rt x5)):=()
theorem iD:O3=[nth O3 0,nth O3 1]:=()
theorem pf:XX C 39 iX O3 0 [ua,ub,qa] κ=(x1@(ixD ua (.int 0))<|x2@(a9 .In x1 (.tup [(.str "net"),(.str "levels")]))<|z3@(asB x2)<|if z3 then (x4@(f7 ub (.int 1))<|x5@(J0 x4)<|x6@(eT x5)<|κ (.nx [ua,ub,x6])) else (κ (.nx [ua,ub,ub]))):=()
theorem qF:XX C 39 iX O3 1 [ua,ub,uc] κ=(x1@(C 33 [ua,ub])<|x2@(p8 x1)<|x3@(p8 uc)<|x4@(a9 .NotEq x2 x3)<|z5@(asB x4)<|if z5 then (κ (.rt (.bl false))) else (κ (.nx [ua,ub,uc]))):=()
def t8:Lc:=t9 law_F
theorem wc:runK Rs Γ C law_F [ua]=i7 (evK Rs Γ C 40) t8 law_F.body [ua,none,none,none,none,none,none,none,none,none] endD:=()
theorem vF:law_F.body=[nth law_F.body 0,nth law_F.body 1]:=()
def h8:List Stmt:=k6 (nth law_F.body 0)
def fL (C:Cf):L3.Env->M Fl:=λρ'=>i7 (evK Rs Γ C 39) t8 h8 ρ' ret
theorem FN:XX C 40 t8 law_F.body 0 [qa,qb,qc,qd,qe,qf,qg,qh,qi,qj] κ=(sm1@(k4 [(.int 5)])<|bind (v7 sm1.1 (λd ρ=>some (ρ.set 1 (some d))) (fL C) sm1.2 0 [qa,qb,qc,qd,qe,qf,qg,qh,qi,qj]) κ):=()
theorem Ds:XX C 40 t8 law_F.body 1 [qa,qb,qc,qd,qe,qf,qg,qh,qi,qj] κ=κ (.rt (.bl true)):=()
theorem gB:h8=[nth h8 0,nth h8 1,nth h8 2,nth h8 3,nth h8 4,nth h8 5,nth h8 6,nth h8 7,nth h8 8,nth h8 9]:=()
theorem lv:XX C 39 t8 h8 0 [ua,ub,qa,qb,qc,qd,qe,qf,qg,qh] κ=(x1@(C 34 [ua,ub])<|κ (.nx [ua,ub,x1,qb,qc,qd,qe,qf,qg,qh])):=()
theorem lX:XX C 39 t8 h8 1 [qa,qb,ua,qc,qd,qe,qf,qg,qh,qi] κ=(x1@(C 37 [ua,(.int 6)])<|κ (.nx [qa,qb,ua,x1,qd,qe,qf,qg,qh,qi])):=()
theorem lW:XX C 39 t8 h8 2 [qa,qb,qc,ua,qd,qe,qf,qg,qh,qi] κ=(x1@(C 58 [ua])<|z2@(u7 x1)<|if (!z2)=true then (κ (.rt (.bl false))) else (κ (.nx [qa,qb,qc,ua,qd,qe,qf,qg,qh,qi]))):=()
theorem kf:XX C 39 t8 h8 3 [qa,qb,qc,ua,qd,qe,qf,qg,qh,qi] κ=(x1@(C 45 [ua])<|κ (.nx [qa,qb,qc,ua,x1,qe,qf,qg,qh,qi])):=()
theorem lu:XX C 39 t8 h8 4 [qa,qb,ua,ub,qc,qd,qe,qf,qg,qh] κ=(x1@(C 44 [ub])<|x2@(C 35 [ua,x1])<|x3@(f7 (.int 1) x2)<|κ (.nx [qa,qb,ua,ub,qc,x3,qe,qf,qg,qh])):=()
def d9:List Stmt:=k6 (nth h8 5)
def Q3 (C:Cf):L3.Env->M Fl:=λρ'=>i7 (evK Rs Γ C 38) t8 d9 ρ' ret
theorem lY:XX C 39 t8 h8 5 [qa,qb,qc,qd,qe,qf,qg,qh,qi,qj] κ=(sm1@(k4 [(.int 32)])<|bind (v7 sm1.1 (λd ρ=>some (ρ.set 6 (some d))) (Q3 C) sm1.2 0 [qa,qb,qc,qd,qe,qf,qg,qh,qi,qj]) κ):=()
theorem lj:XX C 39 t8 h8 6 [qa,qb,qc,ua,ub,qd,qe,qf,qg,qh] κ=(x1@(C 57 [ua,ub])<|z2@(u7 x1)<|if (!z2)=true then (κ (.rt (.bl false))) else (κ (.nx [qa,qb,qc,ua,ub,qd,qe,qf,qg,qh]))):=()
theorem kg:XX C 39 t8 h8 7 [qa,qb,qc,ua,qd,qe,qf,qg,qh,qi] κ=(x1@(C 44 [ua])<|κ (.nx [qa,qb,qc,ua,qd,qe,qf,qg,qh,x1])):=()
theorem mY:XX C 39 t8 h8 8 [qa,qb,ua,ub,qc,qd,qe,qf,qg,uc] κ=(x1@(ixD ub (.int 0))<|x2@(a9 .Eq x1 (.str "levels"))<|z3@(asB x2)<|if z3 then (x4@(C 52 [ua,uc])<|x5@(C 57 [ub,x4])<|z6@(u7 x5)<|if (!z6)=true then (κ (.rt (.bl false))) else (κ (.nx [qa,qb,ua,ub,qc,qd,qe,qf,qg,uc]))) else (κ (.nx [qa,qb,ua,ub,qc,qd,qe,qf,qg,uc]))):=()
theorem mK:XX C 39 t8 h8 9 [qa,qb,ua,ub,qc,qd,qe,qf,qg,uc] κ=(x1@(ixD ub (.int 0))<|x2@(a9 .Eq x1 (.str "row"))<|z3@(asB x2)<|if z3 then (x4@(C 56 [ua,uc])<|x5@(C 57 [ub,x4])<|z6@(u7 x5)<|if (!z6)=true then (κ (.rt (.bl false))) else (κ (.nx [qa,qb,ua,ub,qc,qd,qe,qf,qg,uc]))) else (κ (.nx [qa,qb,ua,ub,qc,qd,qe,qf,qg,uc]))):=()
theorem Y4:d9=[nth d9 0,nth d9 1,nth d9 2,nth d9 3]:=()
theorem bc:XX C 38 t8 d9 0 [qa,qb,qc,ua,ub,qd,uc,qe,qf,qg] κ=(x1@(O8 uc (.int 2))<|x2@(a9 .Eq x1 (.int 0))<|z3@(asB x2)<|if z3 then (x4@(C 57 [ua,ub])<|z5@(u7 x4)<|if (!z5)=true then (κ (.rt (.bl false))) else (κ (.nx [qa,qb,qc,ua,ub,qd,uc,qe,qf,qg]))) else (κ (.nx [qa,qb,qc,ua,ub,qd,uc,qe,qf,qg]))):=()
theorem bb:XX C 38 t8 d9 1 [qa,qb,ua,ub,qc,uc,ud,qd,qe,qf] κ=(x1@(a9 .Lt ud (.int 16))<|z2@(asB x1)<|if z2 then (x3@(C 35 [ua,uc])<|κ (.nx [qa,qb,ua,ub,qc,uc,ud,x3,qe,qf])) else (x4@(C 44 [ub])<|x5@(C 35 [ua,x4])<|κ (.nx [qa,qb,ua,ub,qc,uc,ud,x5,qe,qf]))):=()
theorem bZ:XX C 38 t8 d9 2 [qa,qb,qc,ua,ub,qd,qe,uc,qf,qg] κ=(x1@(C 46 [ua,ub,uc])<|κ (.nx [qa,qb,qc,ua,ub,qd,qe,uc,x1,qg])):=()
theorem N7:XX C 38 t8 d9 3 [qa,qb,qc,qd,ua,qe,qf,qg,ub,qh] κ=(x1@(a9 .Is ub .non)<|z2@(asB x1)<|if z2 then (κ (.nx [qa,qb,qc,qd,ua,qe,qf,qg,ub,qh])) else (κ (.nx [qa,qb,qc,qd,ub,qe,qf,qg,ub,qh]))):=()
end
end L3.K31
namespace L3.K31
open PySem PySem.Spec PyProof.Rows L2 L3.Nt
theorem aq (n:Nat) (hn:n<1000) (k:Nat) (S:Sto):rn (k+1) ol [.int (n:Int)] S=.ok (.int (tri n:Int)) S:=by
 refine c9 ?_;rw [rn,a7 rfl,ip];refine Ok.eq (i5 n 1 S) (Ok.eq (K9 (.inl ⟨by omega,by omega⟩) S) (Ok.eq (D7 (by decide) (by decide) S) (Ok.ret ⟨?_,rfl⟩)));have:((n:Int) * ((n+1:Nat):Int) / 2)=((n * (n+1) / 2:Nat):Int):=by
  rw [<- JH];exact (JR (n * (n+1)) 2).symm
 rw [this];rfl
theorem U4 (t:List Bool) (k:Nat) (S:Sto):rn (k+1) za [trD t] S=.ok (.tup [.int (dn t:Int),.int (rt t:Int)]) S:=by
 refine c9 ?_;rw [rn,a7 rfl,tU];exact Ok.eq rfl (Ok.eq (dq t S) (Ok.eq rfl (Ok.eq (og t S) (Ok.ret ⟨rfl,rfl⟩))))
theorem eG (d r:Nat) (h:d+r<1000) (k:Nat) (S:Sto):rn (k+2) cb [.tup [.int (d:Int),.int (r:Int)]] S=.ok (.int ((tri (d+r)+d:Nat):Int)) S:=by
 refine c9 ?_;rw [rn,a7 rfl,tW];have e:eT (.tup [.int (d:Int),.int (r:Int)]) S=.ok (.int ((d+r:Nat):Int)) S:=by
  show R.ok (D.int ((d:Int)+((r:Int)+0))) S=_;rw [show ((d:Int)+((r:Int)+0))=((d+r:Nat):Int) by omega]
 exact Ok.eq e (Ok.eq (aq (d+r) h k S) (Ok.eq rfl (Ok.eq (i5 _ _ _) (Ok.ret ⟨rfl,rfl⟩))))
def pN (t:List Bool) (n i:Nat):Bool:=decide (tri (dn (t.take i)+rt (t.take i))+dn (t.take i)=n)
theorem yU (hl:h.1.length<100) (n k:Nat) (S:Sto):Ok (rn (k+3) pO [hdD h,.int (n:Int)]) S λd S'=>d=G0 (pN h.1 n) h/\S'=S:=by
 obtain ⟨t,w⟩:=h;have hl:t.length<100:=hl;rw [rn,a7 rfl,vM,vV];refine Ok.first<|Ok.cg (CZ ..)<|Ok.eq rfl<|Ok.nxt<|Ok.cg (Cq ..)<|Ok.eq (by show R.ok (K1 (t.map y0),(t.map y0).length+1) S=_;rw [Hy]) (Ok.bind ((Ok.for_ (n:=t.length) (λi ρ S'=>S'=S/\(∀ j,j<i->pN t n j=false)/\∃ o4 o5:Option D,ρ=[some (hdD (t,w)),some (.int (n:Int)),some (trD t),some w.d,o4,o5]) (λ_ _=>False) (λd S'=>d=G0 (pN t n) (t,w)/\S'=S) ?_ ?_ t.length 0 _ _ (by omega) ⟨rfl,λj hj=>by omega,_,_,rfl⟩).mono ?_))
 ·intro ρ S' _;simp only [K1];rw [IR (by rw [Hy];exact HV _),Hy];simp
 ·rintro i ρ S' hi ⟨rfl,hp,o4,o5,rfl⟩;have e1:(t.map y0)[i]?=some (y0 (t.getD i false)):=by
   rw [Ie,HP hi];simp [hi]
  refine ⟨.tup [.int (i:Int),y0 (t.getD i false)],[some (hdD (t,w)),some (.int (n:Int)),some (trD t),some w.d,some (.int (i:Int)),some (y0 (t.getD i false))],by simp only [K1,e1],rfl,?_⟩;unfold eL;rw [fN];refine Ok.first<|Ok.cg (mG ..)<|Ok.eq rfl<|Ok.eq (by show R.ok (D.tup (L4 (t.map y0) none (some (i:Int)))) S'=_;rw [fD (by rw [Hy];omega),<- List.map_take];rfl)<|Ok.eq (U4 _ (k+1) S')<|Ok.eq (eG _ _ (by rw [Q6,JZ];omega) k S')<|Ok.eq (A4 _ _ _)<|Ok.eq (i8 _ _) ?_;by_cases q:tri (dn (t.take i)+rt (t.take i))+dn (t.take i)=n
  ·refine Ok.pos (Ia (by omega)) (Ok.ret ⟨?_,rfl⟩);unfold G0;rw [sL hi hp (Ia q)]
  ·refine Ok.neg (by rw [Im (by omega)];exact HU) (Ok.ret ⟨rfl,λj hj=>?_,_,_,rfl⟩);by_cases hji:j=i
   ·rw [hji];exact Im q
   ·exact hp j (by omega)
 ·rintro fl S' hf;cases fl with
  | nx ρ=>
   rcases hf with ⟨rfl,hp,o4,o5,rfl⟩ | hf
   ·refine Ok.nxt<|Ok.cg (Du ..)<|Ok.eq (U4 t (k+1) S')<|Ok.eq (eG _ _ (by rw [Q6];omega) k S')<|Ok.eq (A4 _ _ _)<|Ok.eq (i8 _ _) ?_;have e:(pN t n t.length)=decide (tri (dn t+rt t)+dn t=n):=by unfold pN;rw [KL]
    by_cases q:tri (dn t+rt t)+dn t=n
    ·refine Ok.pos (Ia (by omega)) (Ok.ret ⟨?_,rfl⟩);unfold G0;rw [cH hp];rw [e,Ia q,if_pos rfl]
    ·refine Ok.neg (by rw [Im (by omega)];exact HU) (Ok.ret ⟨?_,rfl⟩);unfold G0;rw [cH hp];rw [e,Im q,if_neg HU]
   ·exact hf.elim
  | rt d=>exact Ok.ret hf
  | bk ρ=>exact hf.elim
  | ct ρ=>exact hf.elim
theorem oU (ds:List D) (S:Sto):u8 (.tup ds) S=.ok (U8 ds,ds.length+1) S:=rfl
def Ez (r:Nst) (b:Box) (p:Hnd->Nat->Bool):D:=.tup [oD b.1,.bl b.2,.tup (r.hs.map λh=>G0 (p h) h)]
theorem sJ {b:Box} {n:Nat} (g:r.bx[n]?=some b) (j:∀ h∈r.hs,h.1.length<100) (c:r.hs.length<=6) (o:D) (k:Nat) (S:Sto):Ok (rn (k+4) ce [o,r.d,.int (n:Int)]) S λd S'=>d=Ez r b (λh=>pN h.1 n)/\S'=S:=by
 rw [rn,a7 rfl,vL,sy];refine Ok.first<|Ok.cg (Cm ..)<|Ok.eq rfl<|Ok.nxt<|Ok.cg (Cr ..)<|Ok.eq (m3 S (d3 g))<|Ok.eq rfl<|Ok.nxt<|Ok.cg (FD ..)<|nx_bind<|Ok.eq (oU _ S) ?_;rw [Hy];have e:=e6 (t:=λ_=>ret true) (f:=λd=>bind (rn (k+3) pO [d,.int (n:Int)]) λx=>ret x) (W2 c) (λa _=>rfl) (λa i _=>by
  rw [a8 (c9 (yU (j a i) n k S))];rfl)
 rw [Jf.mpr (by simp)] at e;exact ⟨_,_,e,Ok.eq rfl (Ok.ret ⟨rfl,rfl⟩)⟩
def bh (mk:Option Nat) (cl:Bool) (i:Nat):Wd->Option (Option Nat×Bool×Str)
 | .out=>some (some i,cl,"ask")
 | .ask=>some (mk,cl,if cl=true then "right" else "close")
 | .close=>some (mk,true,"look")
 | .look=>some (mk,cl,if mk=some i then "holds" else "down")
 | .holds=>none
def bhD (mk:Option Nat) (cl:Bool) (i:Nat) (w:Wd) (ws:List D):D:=match bh mk cl i w with
 | none=>.non
 | some (m,c,x)=>.tup [oD m,.bl c,.tup (ws.set i (.str x))]
theorem ng {i:Nat} (h:mk=some i):bh mk cl i .look=some (mk,cl,("holds" : Str)):=by
 show some (mk,cl,if mk=some i then ("holds" : Str) else "down")=_;rw [if_pos h]
theorem pC {i:Nat} (h:mk≠some i):bh mk cl i .look=some (mk,cl,("down" : Str)):=by
 show some (mk,cl,if mk=some i then ("holds" : Str) else "down")=_;rw [if_neg h]
theorem iV (i:size<=5) {t:List Bool} (k:t.length<size):p9 t<tri size:=by
 have h:dn t<=t.length:=by have:=Q6 t;omega
 unfold p9;generalize t.length=l at *;generalize dn t=d at *;have e:tri 0=0:=rfl;have m:tri 1=1:=rfl;have g:tri 2=3:=rfl;have f:tri 3=6:=rfl;have j:tri 4=10:=rfl;have c:tri 5=15:=rfl;have a:size=1\/size=2\/size=3\/size=4\/size=5:=by omega
 have b:l=0\/l=1\/l=2\/l=3\/l=4:=by omega
 rcases a with rfl | rfl | rfl | rfl | rfl <;> rcases b with rfl | rfl | rfl | rfl | rfl <;> omega
def gD:Option Nst->D
 | none=>.non
 | some r=>r.d
section
variable {size many:Nat} {r:Nst} (V:VN size many r) {i:Nat} (hi:i<many) (k:Nat) (S:Sto)
include V hi
omit k S in
theorem VN.step (e:j5 size r i=some r'):VN size many r':=by
 have put:∀ {n:Nat} {b:Box} {t:List Bool} {w:Wd},m4 size r i n b t w=some r'->(∀ g,b.1=some g->g<many)->VN size many r':=by
  intro n b t w e hb;unfold m4 at e;split at e
  ·cases e
  ·rename_i q;cases e;refine ⟨V.s5,V.m5,by simp [V.bl],by simp [V.hl],λh hh=>?_,λx hx=>?_⟩
   ·rcases Ke hh with z | z
    ·exact V.tr h z
    ·grind
   ·rcases Ke hx with z | z
    ·exact V.mg x z
    ·rw [z];exact hb
 have b4:=V.m5;cases ha:r.hs[i]? with
 | none=>unfold j5 at e;rw [ha] at e;cases e
 | some h=>
  obtain ⟨t,w⟩:=h;cases hb:r.bx[p9 t]? with
  | none=>unfold j5 at e;rw [ha] at e;simp only at e;rw [hb] at e;cases e
  | some b=>
   obtain ⟨mk,cl⟩:=b;have hm:=V.mg (mk,cl) (Io hb);rw [oV ha hb] at e;cases w with
   | out=>exact put e λg z=>by cases z;omega
   | ask=>
    cases cl with
    | true=>exact put e hm
    | false=>exact put e hm
   | close=>exact put e hm
   | look=>
    by_cases q:mk=some i
    ·exact put ((if_pos q).symm.trans e) hm
    ·exact put ((if_neg q).symm.trans e) hm
   | holds=>cases e
end
theorem jW (h:size<=5):tri size<=15:=by
 have a:size=0\/size=1\/size=2\/size=3\/size=4\/size=5:=by omega
 rcases a with rfl | rfl | rfl | rfl | rfl | rfl <;> decide
theorem n8 {i:Nat} (x:D) (h:i<ds.length) (a:ds.length<=1000) (k:Nat) (S:Sto):rn (k+1) gT [.tup ds,.int (i:Int),x] S=.ok (.tup (ds.set i x)) S:=by
 rw [rn,a7 rfl,cc];exact c9 (R7 h a)
def exS (i:Nat):O:=.exc 1 [("hand",.int (i:Int))]
theorem gz {i:Nat} {w:Wd} {ws:List D} (hw:ws[i]?=some w.d) (hl:ws.length<=6) (hn:w≠.holds) (k:Nat) (S:Sto):rn (k+2) aY [.tup [oD mk,.bl cl,.tup ws],.int (i:Int)] S=.ok (bhD mk cl i w ws) S:=by
 have hi:=(HN.mp hw).1;have wa:=λx=>n8 x hi (by omega) k S;refine c9 ?_;rw [rn,a7 rfl,gU,iI];refine Ok.first<|Ok.cg (AY ..)<|Ok.eq rfl<|Ok.nxt<|Ok.cg (AS ..)<|Ok.eq (m3 S hw)<|Ok.nxt<|Ok.cg (zp ..) ?_;cases w with
 | holds=>exact (hn rfl).elim
 | out=>exact Ok.eq (a:=.bl false) (by kernel_rfl)<|Ok.eq rfl<|Ok.neg (by decide)<|Ok.nxt<|Ok.cg (wP ..)<|Ok.eq rfl<|Ok.eq rfl<|Ok.pos rfl<|Ok.eq (wa _)<|Ok.ret ⟨rfl,rfl⟩
 | ask=>
  refine Ok.eq (S1:=S) (a:=.bl false) (by kernel_rfl)<|Ok.eq rfl<|Ok.neg (by decide)<|Ok.nxt<|Ok.cg (wP ..)<|Ok.eq rfl<|Ok.eq rfl<|Ok.neg (by decide)<|Ok.nxt<|Ok.cg (yi ..)<|Ok.eq rfl<|Ok.eq rfl<|Ok.pos rfl<|Ok.eq rfl ?_;cases cl with
  | true=>exact Ok.pos rfl<|Ok.eq (wa _)<|Ok.ret ⟨rfl,rfl⟩
  | false=>exact Ok.neg (by decide)<|Ok.eq (wa _)<|Ok.ret ⟨rfl,rfl⟩
 | close=>exact Ok.eq (a:=.bl false) (by kernel_rfl)<|Ok.eq rfl<|Ok.neg (by decide)<|Ok.nxt<|Ok.cg (wP ..)<|Ok.eq rfl<|Ok.eq rfl<|Ok.neg (by decide)<|Ok.nxt<|Ok.cg (yi ..)<|Ok.eq rfl<|Ok.eq rfl<|Ok.neg (by decide)<|Ok.nxt<|Ok.cg (Dh ..)<|Ok.eq rfl<|Ok.eq rfl<|Ok.pos rfl<|Ok.eq (wa _)<|Ok.ret ⟨rfl,rfl⟩
 | look=>
  have em:a9 .Eq (oD mk) (.int (i:Int)) S=.ok (.bl (decide (mk=some i))) S:=by
   cases mk with
   | none=>exact (show a9 .Eq .non (.int (i:Int)) S=.ok (.bl false) S from rfl).trans (by simp)
   | some g=>
    refine (A4 _ _ S).trans ?_;rw [show decide ((g:Int)=(i:Int))=decide (some g=some i) by simp;omega]
  refine Ok.eq (a:=.bl false) (by kernel_rfl)<|Ok.eq rfl<|Ok.neg (by decide)<|Ok.nxt<|Ok.cg (wP ..)<|Ok.eq rfl<|Ok.eq rfl<|Ok.neg (by decide)<|Ok.nxt<|Ok.cg (yi ..)<|Ok.eq rfl<|Ok.eq rfl<|Ok.neg (by decide)<|Ok.nxt<|Ok.cg (Dh ..)<|Ok.eq rfl<|Ok.eq rfl<|Ok.neg (by decide)<|Ok.nxt<|Ok.cg (Gp ..)<|Ok.eq em<|Ok.eq (i8 _ _) ?_;by_cases q:mk=some i
  ·exact Ok.pos (Ia q)<|Ok.eq (wa _)<|Ok.ret ⟨by unfold bhD;rw [ng q],rfl⟩
  ·exact Ok.neg (by rw [Im q];decide)<|Ok.eq (wa _)<|Ok.ret ⟨by unfold bhD;rw [pC q],rfl⟩
theorem yT {i:Nat} {ws:List D} (b:ws[i]?=some Wd.holds.d) (c:i<100) (k:Nat) (S:Sto):Xn (rn (k+2) aY [.tup [oD mk,.bl cl,.tup ws],.int (i:Int)]) S λn S'=>n=S.length/\S'=S++[exS i]:=by
 rw [rn,a7 rfl,gU,iI];exact Xn.first<|Xn.cg (AY ..)<|Xn.eq rfl<|Xn.nxt<|Xn.cg (AS ..)<|Xn.eq (m3 S b)<|Xn.nxt<|Xn.cg (zp ..)<|Xn.eq (a:=.bl true) (by kernel_rfl)<|Xn.eq rfl<|Xn.pos rfl<|raise_k rfl (uE (dG ⟨by omega,by omega⟩))
theorem vE (w:Wd) (k:Nat) (S:Sto):rn (k+1) jz [trD t,w.d] S=.ok (hdD (t,w)) S:=by
 refine c9 ?_;rw [rn,a7 rfl,oN];exact Ok.eq (a:=.bl false) (by cases w <;> kernel_rfl)<|Ok.eq rfl<|Ok.neg (by decide)<|Ok.ret ⟨rfl,rfl⟩
theorem eR (b:Bool) (d:t.length<=5) (k:Nat) (S:Sto):rn (k+1) jz [trD t,y0 b] S=.ok (hdD (t++[b],.out)) S:=by
 refine c9 ?_;have e:(1000:Nat)<=sizeLine:=by decide
 have c:f7 (trD t) (.tup [y0 b]) S=.ok (trD (t++[b])) S:=by
  rw [trD,cat_tup (by simp;omega)];show R.ok (D.tup (t.map y0++[y0 b])) S=.ok (.tup ((t++[b]).map y0)) S;rw [IN];rfl
 rw [rn,a7 rfl,oN];exact Ok.eq (a:=.bl true) (by cases b <;> kernel_rfl)<|Ok.eq rfl<|Ok.pos rfl<|Ok.eq c<|Ok.ret ⟨rfl,rfl⟩
theorem rH (h:Hnd):G0 (pN h.1 (p9 h.1)) h=h.2.d:=by
 have p:∀ j,pN h.1 (p9 h.1) j=decide (tri (h.1.take j).length+dn (h.1.take j)=tri h.1.length+dn h.1):=λj=>by
  unfold pN p9;rw [Q6]
 have mono:∀ a b:Nat,a<b->tri a+a<tri b:=by
  intro a b hab;have e:∀ n,tri (n+1)=tri n+(n+1):=by
   intro n;unfold tri;have:(n+1) * (n+1+1)=n * (n+1)+(n+1) * 2:=by
    rw [Nat.mul_add (n+1) (n+1) 1,Nat.add_mul n 1 (n+1)];omega
   rw [this,Nat.add_mul_div_right _ _ (by omega)]
  induction hab with
  | refl=>rw [e];omega
  | step _ ih=>rw [e];omega
 have dl:=λt=>by have:=Q6 t;omega
 unfold G0;grind
section
variable {size:Nat} {r:Nst} {i n:Nat} {t:List Bool} {w:Wd} {k:Nat} {S:Sto} {x0:D}
theorem sA (ha:r.hs[i]?=some (t,w)) (en:rn (k+4) cb [.tup [.int (dn t:Int),.int (rt t:Int)]] S=.ok (.int (n:Int)) S) (el:rn (k+4) ce [.int (size:Int),r.d,.int (n:Int)] S=.ok x0 S) (ed:rn (k+4) aY [x0,.int (i:Int)] S=.ok (.tup [oD m,.bl c,.tup ws]) S)
  (h:Ok (nxt (evK Rs Γ (rn (k+4)) 40) J6 [nth BT.body 4,nth BT.body 5,nth BT.body 6] endD (.nx [some (.int (size:Int)),some r.d,some (.int (i:Int)),some (.tup (r.bx.map bxD)),some (.tup (r.hs.map hdD)),some (trD t),some (.int (n:Int)),some (oD m),some (.bl c),some (.tup ws),none])) S Q):Ok (rn (k+5) B2 [.int (size:Int),r.d,.int (i:Int)]) S Q:=by
 rw [rn,a7 rfl,dz,dJ];exact Ok.first<|Ok.cg (nv ..)<|Ok.eq rfl<|Ok.nxt<|Ok.cg (nY ..)<|Ok.eq (m3 S (d3 ha))<|Ok.eq rfl<|Ok.nxt<|Ok.cg (nj ..)<|Ok.eq (U4 t (k+3) S)<|Ok.eq en<|Ok.nxt<|Ok.cg (mw ..)<|Ok.eq el<|Ok.eq ed<|Ok.eq rfl h
theorem Ag (ha:r.hs[i]?=some (t,w)) (en:rn (k+4) cb [.tup [.int (dn t:Int),.int (rt t:Int)]] S=.ok (.int (n:Int)) S) (el:rn (k+4) ce [.int (size:Int),r.d,.int (n:Int)] S=.ok x0 S) (ed:rn (k+4) aY [x0,.int (i:Int)] S=.ok (.tup [oD m,.bl c,.tup ws]) S)
  (h:Xn (nxt (evK Rs Γ (rn (k+4)) 40) J6 [nth BT.body 4,nth BT.body 5,nth BT.body 6] endD (.nx [some (.int (size:Int)),some r.d,some (.int (i:Int)),some (.tup (r.bx.map bxD)),some (.tup (r.hs.map hdD)),some (trD t),some (.int (n:Int)),some (oD m),some (.bl c),some (.tup ws),none])) S Q):Xn (rn (k+5) B2 [.int (size:Int),r.d,.int (i:Int)]) S Q:=by
 rw [rn,a7 rfl,dz,dJ];exact Xn.first<|Xn.cg (nv ..)<|Xn.eq rfl<|Xn.nxt<|Xn.cg (nY ..)<|Xn.eq (m3 S (d3 ha))<|Xn.eq rfl<|Xn.nxt<|Xn.cg (nj ..)<|Xn.eq (U4 t (k+3) S)<|Xn.eq en<|Xn.nxt<|Xn.cg (mw ..)<|Xn.eq el<|Xn.eq ed<|Xn.eq rfl h
theorem Au (ha:r.hs[i]?=some (t,w)) (en:rn (k+4) cb [.tup [.int (dn t:Int),.int (rt t:Int)]] S=.ok (.int (n:Int)) S) (el:rn (k+4) ce [.int (size:Int),r.d,.int (n:Int)] S=.ok x0 S) (ed:Xn (rn (k+4) aY [x0,.int (i:Int)]) S Q):Xn (rn (k+5) B2 [.int (size:Int),r.d,.int (i:Int)]) S Q:=by
 rw [rn,a7 rfl,dz,dJ];exact Xn.first<|Xn.cg (nv ..)<|Xn.eq rfl<|Xn.nxt<|Xn.cg (nY ..)<|Xn.eq (m3 S (d3 ha))<|Xn.eq rfl<|Xn.nxt<|Xn.cg (nj ..)<|Xn.eq (U4 t (k+3) S)<|Xn.eq en<|Xn.nxt<|Xn.cg (mw ..)<|Xn.eq el<|Xn.bind ed
theorem qN {ws:List D} {y:D} (e:ws[i]?=some y) (a:rn (k+4) jz [trD t,y] S=.ok (hdD (t',w')) S) (h:t'.length<size) (g:n<r.bx.length) (f:i<r.hs.length) (j:r.bx.length<=15) (l:r.hs.length<=6):Ok (nxt (evK Rs Γ (rn (k+4)) 40) J6 [nth BT.body 4,nth BT.body 5,nth BT.body 6] endD (.nx [some (.int (size:Int)),some r.d,some (.int (i:Int)),some (.tup (r.bx.map bxD)),some (.tup (r.hs.map hdD)),some (trD t),some (.int (n:Int)),some (oD m),some (.bl c),some (.tup ws),none])) S λd S'=>d=gD (m4 size r i n (m,c) t' w')/\S'=S:=by
 have b:e8 (trD t') S=.ok (.int (t'.length:Int)) S:=(j2 _ S).trans (by rw [Hy]);refine Ok.nxt<|Ok.cg (xm ..)<|Ok.eq (m3 S e)<|Ok.eq a<|Ok.nxt<|Ok.cg (yB ..)<|Ok.eq rfl<|Ok.eq b<|Ok.eq (rJ _ _ _)<|Ok.eq (i8 _ _)<|Ok.neg (by rw [Im (by omega)];decide)<|Ok.nxt<|Ok.cg (DA ..)<|Ok.eq (n8 (.tup [oD m,.bl c]) (by rw [Hy];exact g) (by rw [Hy];omega) (k+3) S)<|Ok.eq (n8 (hdD (t',w')) (by rw [Hy];exact f) (by rw [Hy];omega) (k+3) S)<|Ok.ret ⟨?_,rfl⟩;unfold m4;rw [if_neg (by omega)];show D.tup [.tup ((r.bx.map bxD).set n (bxD (m,c))),.tup ((r.hs.map hdD).set i (hdD (t',w')))]=.tup [.tup ((r.bx.set n (m,c)).map bxD),.tup ((r.hs.set i (t',w')).map hdD)];simp_all
theorem Ac {ws:List D} {y:D} (d:ws[i]?=some y) (a:rn (k+4) jz [trD t,y] S=.ok (hdD (t',w')) S) (e:size<=t'.length) (f:i<100):Xn (nxt (evK Rs Γ (rn (k+4)) 40) J6 [nth BT.body 4,nth BT.body 5,nth BT.body 6] endD (.nx [some (.int (size:Int)),some r.d,some (.int (i:Int)),some (.tup (r.bx.map bxD)),some (.tup (r.hs.map hdD)),some (trD t),some (.int (n:Int)),some (oD m),some (.bl c),some (.tup ws),none])) S λn S'=>n=S.length/\S'=S++[exS i]:=by
 have b:e8 (trD t') S=.ok (.int (t'.length:Int)) S:=(j2 _ S).trans (by rw [Hy]);exact Xn.nxt<|Xn.cg (xm ..)<|Xn.eq (m3 S d)<|Xn.eq a<|Xn.nxt<|Xn.cg (yB ..)<|Xn.eq rfl<|Xn.eq b<|Xn.eq (rJ _ _ _)<|Xn.eq (i8 _ _)<|Xn.pos (Ia (by omega))<|raise_k rfl (uE (dG ⟨by omega,by omega⟩))
end
section
variable {size many:Nat} {r:Nst} (V:VN size many r) {i:Nat} (hi:i<many) (k:Nat) (S:Sto)
include V hi
theorem ee:(j5 size r i=none->Xn (rn (k+5) B2 [.int (size:Int),r.d,.int (i:Int)]) S λn S'=>n=S.length/\S'=S++[exS i])/\(j5 size r i≠none->rn (k+5) B2 [.int (size:Int),r.d,.int (i:Int)] S=.ok (gD (j5 size r i)) S):=by
 have b1:=V.bl;have b2:=V.hl;have b3:=V.s5;have b4:=V.m5;have b5:=jW b3;have hi':i<r.hs.length:=by omega
 have ha:=HP hi';have htr:=V.tr r.hs[i] (Jk hi');generalize r.hs[i]=h at ha htr;obtain ⟨t,w⟩:=h;have htr:t.length<size:=htr;have hn:p9 t<r.bx.length:=by rw [b1];exact iV b3 htr
 have hb:=HP hn;generalize r.bx[p9 t]=b at hb;obtain ⟨mk,cl⟩:=b;have hst:=oV (size:=size) ha hb;have nm:(tri (dn t+rt t)+dn t:Nat)=p9 t:=by unfold p9;rw [Q6]
 have el:=c9 (sJ hb (λh hh=>by have:=V.tr h hh;omega) (by omega) (.int (size:Int)) k S);obtain ⟨ws,hws⟩:∃ ws,ws=r.hs.map λh=>G0 (pN h.1 (p9 t)) h:=⟨_,rfl⟩;have hl:Ez r (mk,cl) (λh=>pN h.1 (p9 t))=.tup [oD mk,.bl cl,.tup ws]:=by rw [hws];rfl
 rw [hl] at el;have wi:ws[i]?=some w.d:=by rw [hws,d3 ha];exact congrArg some (rH (t,w))
 have wl:ws.length<=6:=by rw [hws,Hy];omega
 clear hws hl;have en:=eG (dn t) (rt t) (by have:=Q6 t;omega) (k+2) S;rw [nm] at en;have is:∀ y:D,(ws.set i y)[i]?=some y:=λy=>IA (HN.mp wi).1;have stay:∀ (m:Option Nat) (c:Bool) (w':Wd),bh mk cl i w=some (m,c,w'.s)->j5 size r i=m4 size r i (p9 t) (m,c) t w'->w≠.holds->rn (k+5) B2 [.int (size:Int),r.d,.int (i:Int)] S=.ok (gD (j5 size r i)) S/\j5 size r i≠none:=by
  intro m c w' e1 e2 nh;have eb:bhD mk cl i w ws=.tup [oD m,.bl c,.tup (ws.set i w'.d)]:=by unfold bhD;rw [e1];rfl
  have ed:=gz (mk:=mk) (cl:=cl) wi wl nh (k+2) S;rw [eb] at ed;refine ⟨?_,?_⟩
  ·rw [e2];exact c9 (sA ha en el ed (qN (is _) (vE w' (k+3) S) htr hn hi' (by omega) (by omega)))
  ·rw [e2];unfold m4;rw [if_neg (by omega)];exact λz=>by cases z
 have leave:∀ (m:Option Nat) (c b:Bool),bh mk cl i w=some (m,c,N1 b)->j5 size r i=m4 size r i (p9 t) (m,c) (t++[b]) .out->w≠.holds->(j5 size r i=none->Xn (rn (k+5) B2 [.int (size:Int),r.d,.int (i:Int)]) S λn S'=>n=S.length/\S'=S++[exS i])/\(j5 size r i≠none->rn (k+5) B2 [.int (size:Int),r.d,.int (i:Int)] S=.ok (gD (j5 size r i)) S):=by
  intro m c b e1 e2 nh;have eb:bhD mk cl i w ws=.tup [oD m,.bl c,.tup (ws.set i (y0 b))]:=by unfold bhD;rw [e1];rfl
  have ed:=gz (mk:=mk) (cl:=cl) wi wl nh (k+2) S;rw [eb] at ed;rw [e2];by_cases q:size<=(t++[b]).length
  ·refine ⟨λ_=>Ag ha en el ed (Ac (is _) (eR b (by omega) (k+3) S) q (by omega)),λz=>(z ?_).elim⟩;unfold m4;exact if_pos q
  ·refine ⟨λz=>?_,λ_=>c9 (sA ha en el ed (qN (is _) (eR b (by omega) (k+3) S) (by omega) hn hi' (by omega) (by omega)))⟩;unfold m4 at z;rw [if_neg q] at z;cases z
 have of_stay:(rn (k+5) B2 [.int (size:Int),r.d,.int (i:Int)] S=.ok (gD (j5 size r i)) S/\j5 size r i≠none)->(j5 size r i=none->Xn (rn (k+5) B2 [.int (size:Int),r.d,.int (i:Int)]) S λn S'=>n=S.length/\S'=S++[exS i])/\(j5 size r i≠none->rn (k+5) B2 [.int (size:Int),r.d,.int (i:Int)] S=.ok (gD (j5 size r i)) S):=λh=>⟨λz=>(h.2 z).elim,λ_=>h.1⟩;cases w with
 | out=>exact of_stay (stay (some i) cl .ask rfl hst (by intro z;cases z))
 | ask=>
  cases cl with
  | true=>exact leave mk true false rfl hst (by intro z;cases z)
  | false=>exact of_stay (stay mk false .close rfl hst (by intro z;cases z))
 | close=>exact of_stay (stay mk true .look rfl hst (by intro z;cases z))
 | look=>
  by_cases q:mk=some i
  ·exact of_stay (stay mk cl .holds (ng q) (by rw [hst];exact if_pos q) (by intro z;cases z))
  ·exact leave mk cl true (pC q) (by rw [hst];exact if_neg q) (by intro z;cases z)
 | holds=>exact ⟨λ_=>Au ha en el (yT wi (by omega) (k+2) S),λz=>(z hst).elim⟩
end
end L3.K31
namespace L3.K31.R
open PySem PySem.Spec PyProof.Rows L2 L3.Rw
theorem n8 {i k:Nat} {x:D} {S:Sto} (h:i<ds.length) (a:ds.length<=1000):rn (k+1) gT [.tup ds,.int (i:Int),x] S=.ok (.tup (ds.set i x)) S:=by
 rw [rn,a7 rfl,cc];exact c9 (R7 h a)
theorem ot (a:Hd) (S:Sto):(bind (ixD a.d (.int 0)) λw=>bind (a9 .NotEq w (.str "rests")) λe=>bind (asB e) λz=>ret z) S=.ok a.at S:=by cases a <;> kernel_rfl
theorem work_ok {hs:List Hd} {k:Nat} {S:Sto} (h:hs.length<=6):rn (k+1) CQ [.tup (hs.map Hd.d)] S=.ok (.int (((hs.filter Hd.at).length:Nat):Int)) S:=by
 have e:=e6 (t:=λd=>bind (ixD d (.int 0)) λw=>bind (a9 .NotEq w (.str "rests")) λe=>bind (asB e) λz=>ret z) (W2 h) (λa _=>ot a S) (λa _ _=>rfl);rw [rn,a7 rfl,AT];refine (nxb (a:=(hs.filter Hd.at).map Hd.d) (S':=S) ?_).trans ?_
 ·rw [a8 (t5 _ S)];simp;exact e
 ·show R.ok (D.int ((((hs.filter Hd.at).map Hd.d).length:Nat):Int)) S=_;rw [Hy]
theorem zt {hs:List Hd} {a i k:Nat} {S:Sto} (I:BI bx (hs.set i (.tries 1))) (c:i<hs.length):rn (k+2) AM [.tup [.tup (bx.map bD),.tup (hs.map Hd.d),.int (a:Int)],.int (i:Int)] S=.ok (Rw.d ⟨bx,hs.set i (.tries 1),max a (cnt 1 (hs.set i (.tries 1)))⟩) S:=by
 have b:=I.few;rw [Ij] at b;refine c9 ?_;rw [rn,a7 rfl,vY,tY];refine Ok.first<|Ok.cg (Dj ..)<|Ok.eq rfl ?_;refine Ok.nxt<|Ok.cg (DZ ..)<|Ok.eq (n8 (by rw [Hy];exact c) (by rw [Hy];omega)) ?_;rw [show D.tup [.str "tries",.int 1]=(Hd.tries 1).d from rfl,<- Iy];refine Ok.nxt<|Ok.cg (CS ..)<|Ok.eq (work_ok I.few) ?_;rw [rf I];exact Ok.eq (pK _ _ S)<|Ok.ret ⟨rfl,rfl⟩
theorem step_ok (I:RI r) {i:Nat} (hi:i<r.hs.length) (k:Nat) (S:Sto):rn (k+3) zu [r.d,.int (i:Int)] S=.ok (stepR r i).d S:=by
 obtain ⟨a,ha⟩:∃ a,r.hs[i]?=some a:=⟨_,HP hi⟩;have J:=I.step hi;have few:=I.b.few;have hi':i<(r.hs.map Hd.d).length:=by rw [Hy];exact hi
 have hl':(r.hs.map Hd.d).length<=1000:=by rw [Hy];omega
 refine c9 ?_;rw [rn,a7 rfl,tz,uJ];refine Ok.first<|Ok.cg (Bn ..)<|Ok.eq rfl ?_;refine Ok.nxt<|Ok.cg (DQ ..)<|Ok.eq (m3 S (d3 ha)) ?_;refine Ok.nxt<|Ok.cg (FH ..) ?_;unfold stepR at J ⊢;rw [ha] at J ⊢;cases a with
 | rests=>
  refine Ok.eq rfl<|Ok.eq (S1:=S) (a:=.bl true) (by kernel_rfl)<|Ok.eq rfl<|Ok.pos rfl<|Ok.eq (zt J.b hi) ?_;exact Ok.ret ⟨rfl,rfl⟩
 | holds b=>
  obtain ⟨b1,hb⟩:=I.b.mh i b ha;have hbl:b-1<(r.bx.map bD).length:=by rw [Hy];exact (HN.mp hb).1
  refine Ok.eq rfl<|Ok.eq (S1:=S) (a:=.bl false) (by kernel_rfl)<|Ok.eq rfl<|Ok.neg (by decide) ?_;refine Ok.nxt<|Ok.cg (xK ..)<|Ok.eq rfl ?_;refine Ok.nxt<|Ok.cg (xF ..)<|Ok.eq rfl<|Ok.eq (a:=.bl true) (by kernel_rfl)<|Ok.eq rfl<|Ok.pos rfl<|Ok.eq (n4 b1 S) ?_;refine Ok.eq (n8 hbl (by rw [Hy,I.b.len];omega))<|Ok.eq (n8 hi' hl') ?_;rw [show D.non=bD none from rfl,<- Iy,show D.tup [.str "rests"]=Hd.rests.d from rfl,<- Iy];exact Ok.ret ⟨rfl,rfl⟩
 | tries b=>
  obtain ⟨b1,b2⟩:=I.b.tr i b ha;have hbl:b-1<r.bx.length:=by rw [I.b.len];omega
  have hbl':b-1<(r.bx.map bD).length:=by rw [Hy];exact hbl
  obtain ⟨o,ho⟩:∃ o,r.bx[b-1]?=some o:=⟨_,HP hbl⟩;refine Ok.eq rfl<|Ok.eq (S1:=S) (a:=.bl false) (by kernel_rfl)<|Ok.eq rfl<|Ok.neg (by decide) ?_;refine Ok.nxt<|Ok.cg (xK ..)<|Ok.eq rfl ?_;refine Ok.nxt<|Ok.cg (xF ..)<|Ok.eq rfl<|Ok.eq (S1:=S) (a:=.bl false) (by kernel_rfl)<|Ok.eq rfl<|Ok.neg (by decide) ?_;refine Ok.nxt<|Ok.cg (Eh ..)<|Ok.eq (n4 b1 S)<|Ok.eq (m3 S (d3 ho)) ?_;cases o with
  | none=>
   simp only [ho];refine Ok.eq rfl<|Ok.eq rfl<|Ok.pos rfl<|Ok.eq (n4 b1 S) ?_;refine Ok.eq (n8 hbl' (by rw [Hy,I.b.len];omega))<|Ok.eq (n8 hi' hl') ?_;rw [show D.int (i:Int)=bD (some i) from rfl,<- Iy,show D.tup [.str "holds",.int (b:Int)]=(Hd.holds b).d from rfl,<- Iy];exact Ok.ret ⟨rfl,rfl⟩
  | some g=>
   simp only [ho];obtain ⟨q1,q2⟩:=I.blocked ha ho;refine Ok.eq rfl<|Ok.eq (a:=false) rfl<|Ok.neg (by decide) ?_;refine Ok.nxt<|Ok.cg (Bi ..)<|Ok.eq (j2 _ S) ?_;rw [Hy,I.b.len];refine Ok.eq (A4 _ _ S)<|Ok.eq (i8 _ S)<|Ok.neg (by rw [Im (by omega)];decide) ?_;refine Ok.nxt<|Ok.cg (EO ..)<|Ok.eq (i5 b 1 S)<|Ok.eq (n8 hi' hl') ?_;rw [show D.tup [.str "tries",.int ((b+1:Nat):Int)]=(Hd.tries (b+1)).d from rfl,<- Iy];exact Ok.ret ⟨rfl,rfl⟩
theorem with2_ok {i k:Nat} {x:D} {S:Sto} (h:i<ds.length) (a:ds.length<=1000):rn (k+1) cr [.tup ds,.int (i:Int),x] S=.ok (.tup (ds.set i x)) S:=by
 rw [rn,a7 rfl,wT];exact c9 (R7 h a)
theorem yj (a:Hd) (S:Sto):(bind (a9 .NotEq a.d (.tup [(.str "rests")])) λx6=>bind (asB x6) λb=>ret b) S=.ok a.at S:=by cases a <;> kernel_rfl
theorem lstep_ok (I:RI r) {i:Nat} (hi:i<r.hs.length) (k:Nat) (S:Sto):rn (k+2) AZ [r.d,.int (i:Int)] S=.ok (stepR r i).d S:=by
 obtain ⟨a,ha⟩:∃ a,r.hs[i]?=some a:=⟨_,HP hi⟩;have J:=I.step hi;have few:=I.b.few;have hi':i<(r.hs.map Hd.d).length:=by rw [Hy];exact hi
 have hl':(r.hs.map Hd.d).length<=1000:=by rw [Hy];omega
 refine c9 ?_;rw [rn,a7 rfl,wK,vg];refine Ok.first<|Ok.cg (CO ..)<|Ok.eq rfl ?_;refine Ok.nxt<|Ok.cg (Bf ..)<|Ok.eq (m3 S (d3 ha)) ?_;refine Ok.nxt<|Ok.cg (Bk ..) ?_;unfold stepR at J ⊢;rw [ha] at J ⊢;cases a with
 | rests=>
  refine Ok.eq (S1:=S) (a:=.bl true) (by kernel_rfl)<|Ok.eq rfl<|Ok.pos rfl<|Ok.eq (with2_ok hi' hl') ?_;rw [show D.tup [.str "tries",.int 1]=(Hd.tries 1).d from rfl,<- Iy];have e:=e6 (l:=r.hs.set i (.tries 1)) (t:=λd4=>bind (a9 .NotEq d4 (.tup [(.str "rests")])) λx6=>bind (asB x6) λz7=>ret z7) (by rw [Ij];exact W2 few) (λa _=>yj a S) (λa _ _=>rfl);refine nx_bind<|Ok.eq (t5 _ S) ?_;rw [Hy];refine Ok.of e ?_;have le:e8 (.lst (((r.hs.set i (.tries 1)).filter Hd.at).map Hd.d)) S=.ok (.int ((Rw.cnt 1 (r.hs.set i (.tries 1)):Nat):Int)) S:=by
   show R.ok (D.int (((((r.hs.set i (.tries 1)).filter Hd.at).map Hd.d).length:Nat):Int)) S=_;rw [Hy,rf J.b]
  exact Ok.eq le<|Ok.eq (pK _ _ S)<|Ok.ret ⟨rfl,rfl⟩
 | holds b=>
  obtain ⟨b1,hb⟩:=I.b.mh i b ha;have hbl:b-1<(r.bx.map bD).length:=by rw [Hy];exact (HN.mp hb).1
  refine Ok.eq (S1:=S) (a:=.bl false) (by kernel_rfl)<|Ok.eq rfl<|Ok.neg (by decide) ?_;refine Ok.nxt<|Ok.cg (yG ..)<|Ok.eq rfl<|Ok.eq (n4 b1 S) ?_;refine Ok.nxt<|Ok.cg (xO ..)<|Ok.eq rfl<|Ok.eq (S1:=S) (a:=.bl true) (by kernel_rfl)<|Ok.eq rfl<|Ok.pos rfl ?_;refine Ok.eq (with2_ok hbl (by rw [Hy,I.b.len];omega))<|Ok.eq (with2_ok hi' hl') ?_;rw [show D.non=bD none from rfl,<- Iy,show D.tup [.str "rests"]=Hd.rests.d from rfl,<- Iy];exact Ok.ret ⟨rfl,rfl⟩
 | tries b=>
  obtain ⟨b1,b2⟩:=I.b.tr i b ha;have hbl:b-1<r.bx.length:=by rw [I.b.len];omega
  have hbl':b-1<(r.bx.map bD).length:=by rw [Hy];exact hbl
  obtain ⟨o,ho⟩:∃ o,r.bx[b-1]?=some o:=⟨_,HP hbl⟩;refine Ok.eq (S1:=S) (a:=.bl false) (by kernel_rfl)<|Ok.eq rfl<|Ok.neg (by decide) ?_;refine Ok.nxt<|Ok.cg (yG ..)<|Ok.eq rfl<|Ok.eq (n4 b1 S) ?_;refine Ok.nxt<|Ok.cg (xO ..)<|Ok.eq rfl<|Ok.eq (S1:=S) (a:=.bl false) (by kernel_rfl)<|Ok.eq rfl<|Ok.neg (by decide) ?_;refine Ok.nxt<|Ok.cg (DS ..)<|Ok.eq (m3 S (d3 ho)) ?_;cases o with
  | none=>
   simp only [ho];refine Ok.eq rfl<|Ok.eq rfl<|Ok.pos rfl ?_;refine Ok.eq (with2_ok hbl' (by rw [Hy,I.b.len];omega))<|Ok.eq rfl<|Ok.eq (with2_ok hi' hl') ?_;rw [show D.int (i:Int)=bD (some i) from rfl,<- Iy,show D.tup [.str "holds",.int (b:Int)]=(Hd.holds b).d from rfl,<- Iy];exact Ok.ret ⟨rfl,rfl⟩
  | some g=>
   simp only [ho];obtain ⟨q1,q2⟩:=I.blocked ha ho;refine Ok.eq rfl<|Ok.eq (a:=false) rfl<|Ok.neg (by decide) ?_;refine Ok.nxt<|Ok.cg (Eu ..)<|Ok.eq rfl<|Ok.eq (j2 _ S) ?_;rw [Hy,I.b.len];refine Ok.eq (A4 _ _ S)<|Ok.eq (i8 _ S)<|Ok.neg (by rw [Im (by omega)];decide) ?_;refine Ok.nxt<|Ok.cg (FM ..)<|Ok.eq rfl<|Ok.eq (i5 b 1 S)<|Ok.eq (with2_ok hi' hl') ?_;rw [show D.tup [.str "tries",.int ((b+1:Nat):Int)]=(Hd.tries (b+1)).d from rfl,<- Iy];exact Ok.ret ⟨rfl,rfl⟩
theorem sixs (b:1<=n) (a:n<=6):n=1\/n=2\/n=3\/n=4\/n=5\/n=6:=by omega
end L3.K31.R
namespace L3.K31
open PySem PySem.Spec PyProof.Rows L2 L3.Nt
def bh7 (mk:Option Nat) (cl:Bool) (i:Nat):W7->Option (Option Nat×Bool×Str)
 | .out=>some (some i,cl,"ask")
 | .ask=>some (mk,cl,if cl=true then "right" else "close")
 | .close=>some (mk,true,"look")
 | .look=>some (mk,cl,if mk=some i then "holds" else "down")
 | _=>none
def mdD (o:Option (Option Nat×Bool×Str)):D:=match o with
 | none=>.non
 | some (m,c,x)=>.tup [oD m,.bl c,.str x]
def dh (a b:Str):O:=.dct [(.inr "out",.str "ask"),(.inr "close",.str "look"),(.inr "ask",.str a),(.inr "look",.str b)]
theorem jx {S:Sto} {a b:List (Key×D)} {w:Str} {v:D} (c:a.length<=10) (h:iL a (.inr w) v=b):A9 (.ref S.length) (.str w) v (S++[.dct a])=.ok .non (S++[.dct b]):=by
 have e:(S++[O.dct a])[S.length]?=some (.dct a):=by simp
 simp only [A9,e,E6];rw [if_pos (by rw [Iq];omega),aA,h]
theorem vy (mk:Option Nat) (i:Nat) (S:Sto):a9 .Eq (oD mk) (.int (i:Int)) S=.ok (.bl (decide (mk=some i))) S:=by
 cases mk with
 | none=>exact (show a9 .Eq .non (.int (i:Int)) S=.ok (.bl false) S from rfl).trans (by rw [Im (by simp)])
 | some g=>
  refine (A4 (g:Int) (i:Int) S).trans ?_;congr 2;by_cases q:g=i
  ·grind
  ·grind
theorem zP (e:S[q]?=some (dh a b)):ixD (.ref q) (.str "out") S=.ok (.str "ask") S/\ixD (.ref q) (.str "close") S=.ok (.str "look") S/\ixD (.ref q) (.str "ask") S=.ok (.str a) S/\ixD (.ref q) (.str "look") S=.ok (.str b) S:=by
 refine ⟨?_,?_,?_,?_⟩ <;> (simp only [ixD,e,dh];rfl)
theorem yq (e:S[q]?=some (dh a b)) (w:W7) (cl:Bool) (mk:Option Nat) (i:Nat):hW true w.d (.ref q) S=.ok (.bl (!(bh7 mk cl i w).isSome)) S:=by
 cases w <;> (simp only [hW,e,dh,W7.d];rfl)
theorem bL (mk:Option Nat) (cl:Bool) (i:Nat) (w:W7) (k:Nat) (S:Sto):Ok (rn (k+1) AF [oD mk,.bl cl,w.d,.int (i:Int)]) S λd S'=>d=mdD (bh7 mk cl i w)/\Ex S S':=by
 rw [rn,a7 rfl,vq,vj];have core:∀ a b:Str,a=(if cl=true then ("right" : Str) else "close")->b=(if mk=some i then ("holds" : Str) else "down")->Ok (nxt (evK Rs Γ (rn k) 40) X6 [nth Hc.body 3,nth Hc.body 4] endD (.nx [some (oD mk),some (.bl cl),some w.d,some (.int (i:Int)),some (.ref S.length)])) (S++[dh a b]) λd S'=>d=mdD (bh7 mk cl i w)/\Ex S S':=by
  intro a b ha hb;have hS:Ex S (S++[dh a b]):=⟨_,rfl⟩;have e:(S++[dh a b])[S.length]?=some (dh a b):=by simp
  generalize S++[dh a b]=S1 at e hS;obtain ⟨x1,x2,x3,x4⟩:=zP e;refine Ok.nxt<|Ok.cg (Cw ..)<|Ok.eq (yq e w cl mk i)<|Ok.eq (i8 _ S1) ?_;cases w with
  | out=>
   refine Ok.neg (by simp [bh7])<|Ok.nxt<|Ok.cg (ir ..)<|Ok.eq (S1:=S1) (a:=.bl true) (by kernel_rfl)<|Ok.eq rfl<|Ok.pos rfl<|Ok.eq rfl ?_;cases cl with
   | true=>exact Ok.pos rfl<|Ok.eq x1<|Ok.ret ⟨rfl,hS⟩
   | false=>exact Ok.neg (by decide)<|Ok.eq (by kernel_rfl)<|Ok.eq x1<|Ok.ret ⟨rfl,hS⟩
  | ask=>
   subst ha;refine Ok.neg (by simp [bh7])<|Ok.nxt<|Ok.cg (ir ..)<|Ok.eq (S1:=S1) (a:=.bl false) (by kernel_rfl)<|Ok.eq rfl<|Ok.neg (by decide)<|Ok.eq rfl ?_;cases cl with
   | true=>exact Ok.pos rfl<|Ok.eq x3<|Ok.ret ⟨rfl,hS⟩
   | false=>exact Ok.neg (by decide)<|Ok.eq (by kernel_rfl)<|Ok.eq x3<|Ok.ret ⟨rfl,hS⟩
  | close=>
   refine Ok.neg (by simp [bh7])<|Ok.nxt<|Ok.cg (ir ..)<|Ok.eq (S1:=S1) (a:=.bl false) (by kernel_rfl)<|Ok.eq rfl<|Ok.neg (by decide)<|Ok.eq rfl ?_;cases cl with
   | true=>exact Ok.pos rfl<|Ok.eq x2<|Ok.ret ⟨rfl,hS⟩
   | false=>exact Ok.neg (by decide)<|Ok.eq (by kernel_rfl)<|Ok.eq x2<|Ok.ret ⟨rfl,hS⟩
  | look=>
   subst hb;refine Ok.neg (by simp [bh7])<|Ok.nxt<|Ok.cg (ir ..)<|Ok.eq (S1:=S1) (a:=.bl false) (by kernel_rfl)<|Ok.eq rfl<|Ok.neg (by decide)<|Ok.eq rfl ?_;cases cl with
   | true=>exact Ok.pos rfl<|Ok.eq x4<|Ok.ret ⟨rfl,hS⟩
   | false=>exact Ok.neg (by decide)<|Ok.eq (by kernel_rfl)<|Ok.eq x4<|Ok.ret ⟨rfl,hS⟩
  | holds=>exact Ok.pos rfl<|Ok.ret ⟨rfl,hS⟩
  | right=>exact Ok.pos rfl<|Ok.ret ⟨rfl,hS⟩
  | down=>exact Ok.pos rfl<|Ok.ret ⟨rfl,hS⟩
 refine Ok.first<|Ok.cg (CT ..)<|Ok.eq (S1:=S++[.dct [(.inr "out",.str "ask"),(.inr "close",.str "look")]]) (a:=.ref S.length) (by kernel_rfl) ?_;have two:∀ a:Str,a=(if cl=true then ("right" : Str) else "close")->Ok (nxt (evK Rs Γ (rn k) 40) X6 [nth Hc.body 2,nth Hc.body 3,nth Hc.body 4] endD (.nx [some (oD mk),some (.bl cl),some w.d,some (.int (i:Int)),some (.ref S.length)])) (S++[.dct [(.inr "out",.str "ask"),(.inr "close",.str "look"),(.inr "ask",.str a)]]) λd S'=>d=mdD (bh7 mk cl i w)/\Ex S S':=by
  intro a ha;refine Ok.nxt<|Ok.cg (Ce ..)<|Ok.eq (vy mk i _)<|Ok.eq (i8 _ _) ?_;by_cases q:mk=some i
  ·exact Ok.pos (Ia q)<|Ok.eq (jx (by simp) rfl)<|core a "holds" ha (by rw [if_pos q])
  ·exact Ok.neg (by rw [Im q];decide)<|Ok.eq (jx (by simp) rfl)<|core a "down" ha (by rw [if_neg q])
 refine Ok.nxt<|Ok.cg (EL ..)<|Ok.eq rfl ?_;cases cl with
 | true=>exact Ok.pos rfl<|Ok.eq (jx (by simp) rfl)<|two "right" rfl
 | false=>exact Ok.neg (by decide)<|Ok.eq (jx (by simp) rfl)<|two "close" rfl
theorem L0 {i k:Nat} {x:D} {S:Sto} (h:i<ds.length) (a:ds.length<=1000):rn (k+1) cr [.tup ds,.int (i:Int),x] S=.ok (.tup (ds.set i x)) S:=R.with2_ok h a
theorem GU (w:Wd):w.d=w.w7.d:=by cases w <;> rfl
theorem xh (mk:Option Nat) (cl:Bool) (i:Nat) (w:Wd):bh7 mk cl i w.w7=bh mk cl i w:=by cases w <;> rfl
section
variable {size many:Nat} {r:Nst} (V:VN size many r) {i:Nat} (hi:i<many) (k:Nat)
include V hi
theorem sQ (S:Sto):Ok (rn (k+2) ym [.int (size:Int),r.d,.int (i:Int)]) S λd S'=>d=gD (j5 size r i)/\Ex S S':=by
 have b1:=V.bl;have b2:=V.hl;have b3:=V.s5;have b4:=V.m5;have b5:=jW b3;have hi':i<r.hs.length:=by omega
 have ha:=HP hi';have htr:=V.tr r.hs[i] (Jk hi');generalize r.hs[i]=h at ha htr;obtain ⟨t,w⟩:=h;have htr:t.length<size:=htr;have hn:p9 t<r.bx.length:=by rw [b1];exact iV b3 htr
 have hb:=HP hn;generalize r.bx[p9 t]=b at hb;obtain ⟨mk,cl⟩:=b;have hst:=oV (size:=size) ha hb;rw [rn,a7 rfl,vP,wg];refine Ok.first<|Ok.cg (Dm ..)<|Ok.eq rfl ?_;refine Ok.nxt<|Ok.cg (CP ..)<|Ok.eq (m3 S (d3 ha))<|Ok.eq rfl ?_;have l2:∀ S,e8 (trD t) S=.ok (.int (t.length:Int)) S:=λS=>(j2 _ S).trans (by rw [Hy]);refine Ok.nxt<|Ok.cg (DE ..)<|Ok.eq (l2 S)<|Ok.eq (l2 S)<|Ok.eq (i5 t.length 1 S)<|Ok.eq (K9 (.inl ⟨by omega,by omega⟩) S)<|Ok.eq (D7 (by decide) (by decide) S) ?_;have nn:((t.length:Int) * ((t.length+1:Nat):Int) / 2)=((tri t.length:Nat):Int):=by
  rw [<- JH];exact (JR (t.length * (t.length+1)) 2).symm
 rw [nn];refine Ok.eq rfl<|Ok.eq (dq t S)<|Ok.eq (i5 _ _ S) ?_;refine Ok.nxt<|Ok.cg (Bd ..)<|Ok.eq (m3 S (d3 hb))<|Ok.eq rfl<|Ok.eq (m3 S (d3 hb))<|Ok.eq rfl ?_;rw [GU];refine Ok.bind ((bL mk cl i w.w7 k S).mono ?_);rintro _ S1 ⟨rfl,hS⟩;rw [xh];have stay:∀ (m:Option Nat) (c:Bool) (w':Wd) (o:Option D),j5 size r i=m4 size r i (p9 t) (m,c) t w'->Ok (nxt (evK Rs Γ (rn (k+1)) 40) K5 [nth Cl.body 4,nth Cl.body 5,nth Cl.body 6,nth Cl.body 7] endD (.nx [some (.int (size:Int)),some r.d,some (.int (i:Int)),some (.tup (r.bx.map bxD)),some (.tup (r.hs.map hdD)),some (trD t),o,some (.int ((tri t.length+dn t:Nat):Int)),some (.tup [oD m,.bl c,.str w'.s]),none])) S1 λd S'=>d=gD (j5 size r i)/\Ex S S':=by
  intro m c w' o e;refine Ok.nxt<|Ok.cg (oG ..)<|Ok.eq rfl<|Ok.eq (a:=false) rfl<|Ok.neg (by decide) ?_;refine Ok.nxt<|Ok.cg (yH ..)<|Ok.eq rfl ?_;refine Ok.nxt<|Ok.cg (yE ..)<|Ok.eq rfl<|Ok.eq (S1:=S1) (a:=.bl false) (by cases w' <;> kernel_rfl)<|Ok.eq rfl<|Ok.neg (by decide) ?_;refine Ok.nxt<|Ok.cg (xZ ..)<|Ok.eq (a:=.tup [oD m,.bl c]) rfl<|Ok.eq (L0 (by rw [Hy];exact hn) (by rw [Hy];omega))<|Ok.eq (L0 (by rw [Hy];exact hi') (by rw [Hy];omega)) ?_;rw [e];unfold m4;rw [if_neg (by omega),show D.tup [oD m,.bl c]=bxD (m,c) from rfl,<- Iy,show D.tup [trD t,.str w'.s]=hdD (t,w') from rfl,<- Iy];exact Ok.ret ⟨rfl,hS⟩
 have go:∀ (b:Bool) (m:Option Nat) (c:Bool) (o:Option D),j5 size r i=m4 size r i (p9 t) (m,c) (t++[b]) .out->Ok (nxt (evK Rs Γ (rn (k+1)) 40) K5 [nth Cl.body 4,nth Cl.body 5,nth Cl.body 6,nth Cl.body 7] endD (.nx [some (.int (size:Int)),some r.d,some (.int (i:Int)),some (.tup (r.bx.map bxD)),some (.tup (r.hs.map hdD)),some (trD t),o,some (.int ((tri t.length+dn t:Nat):Int)),some (.tup [oD m,.bl c,y0 b]),none])) S1 λd S'=>d=gD (j5 size r i)/\Ex S S':=by
  intro b m c o e;refine Ok.nxt<|Ok.cg (oG ..)<|Ok.eq rfl<|Ok.eq (a:=false) rfl<|Ok.neg (by decide) ?_;refine Ok.nxt<|Ok.cg (yH ..)<|Ok.eq (a:=y0 b) rfl ?_;refine Ok.nxt<|Ok.cg (yE ..)<|Ok.eq (a:=y0 b) rfl<|Ok.eq (a:=.bl true) (by cases b <;> kernel_rfl)<|Ok.eq rfl<|Ok.pos rfl<|Ok.eq (l2 S1)<|Ok.eq (i5 t.length 1 S1)<|Ok.eq (A4 _ _ S1)<|Ok.eq (i8 _ S1) ?_;rw [e];unfold m4;rw [Jz];by_cases q:t.length+1=size
  ·refine Ok.pos (Ia (by omega)) ?_;rw [if_pos (by simp;omega)];exact Ok.ret ⟨rfl,hS⟩
  ·refine Ok.neg (by rw [Im (by omega)];decide) ?_;rw [if_neg (by simp;omega)];have cat:f7 (trD t) (.tup [y0 b]) S1=.ok (trD (t++[b])) S1:=by
    show (if (t.map y0).length+[y0 b].length<=sizeLine then ret (D.tup (t.map y0++[y0 b])) else bad) S1=_;rw [if_pos (by rw [Hy,Iq];simp;omega)];unfold trD;rw [IN];rfl
   refine Ok.eq rfl<|Ok.eq cat ?_;refine Ok.nxt<|Ok.cg (xZ ..)<|Ok.eq (a:=.tup [oD m,.bl c]) rfl<|Ok.eq (L0 (by rw [Hy];exact hn) (by rw [Hy];omega))<|Ok.eq (L0 (by rw [Hy];exact hi') (by rw [Hy];omega)) ?_;rw [show D.tup [oD m,.bl c]=bxD (m,c) from rfl,<- Iy,show D.tup [trD (t++[b]),.str "out"]=hdD (t++[b],.out) from rfl,<- Iy];exact Ok.ret ⟨rfl,hS⟩
 cases w with
 | out=>exact stay (some i) cl .ask _ hst
 | ask=>
  cases cl with
  | true=>exact go false mk true _ hst
  | false=>exact stay mk false .close _ hst
 | close=>exact stay mk true .look _ hst
 | look=>
  by_cases q:mk=some i
  ·rw [ng q];exact stay mk cl .holds _ (by rw [hst];exact if_pos q)
  ·rw [pC q];exact go true mk cl _ (by rw [hst];exact if_neg q)
 | holds=>
  rw [hst];exact Ok.nxt<|Ok.cg (oG ..)<|Ok.eq rfl<|Ok.eq rfl<|Ok.pos rfl<|Ok.ret ⟨rfl,hS⟩
end
end L3.K31
namespace L3.K31
open PySem PySem.Spec PyProof.Rows L2
theorem few {v l:List Int} (g:v.Nodup) (h:∀ x∈v,x∈l):v.length<=l.length:=by
 induction v generalizing l with
 | nil=>exact Jp _
 | cons a v f=>
  have c:=h a (HY ..);have b:=Jr.mp g;have e:=Ls c;have:=f (l:=l.erase a) b.2 λx d=>(List.mem_erase_of_ne (λz=>b.1 (by rw [<- z];exact d))).mpr (h x (Ic _ d));have:=Jx c;rw [IV];omega
theorem Ad {ns:List Int} (e:S[q]?=some (.lst (ns.map D.int))) (x:Int):a9 .In (.int x) (.ref q) S=.ok (.bl (decide (x∈ns))) S:=by
 have e:f9 64 S (.ref q)=some (.list (ns.map PyData.int)):=by
  show (match S[q]? with
   | some (.lst ds)=>(j4 (f9 63 S) ds).map PyData.list
   | _=>none)=_
  rw [e];simp only;rw [dY 62 S ns];rfl
 show inD false (.int x) (.ref q) S=_;unfold inD;rw [e];show ko false (.int x) (ns.map PyData.int) S=_;unfold ko;have hd:PyData.depth (.int x)=0:=by simp [PyData.depth]
 rw [if_pos ⟨rfl,hI ns,by rw [hd];omega⟩,pi];rfl
theorem j3 {p N m:Nat} {S:Sto} (h:Fw ns p (N+1) S) (b:0<m) (a:m<1073741824) (k:Nat):Ok (rn (k+1) BB [.ref p,.int (m:Int)]) S λd S'=>∃ r:Nat,d=.int (r:Int)/\r<m/\Fw ns p N S'/\S'.length=S.length/\∀ q,q≠p->S'[q]?=S[q]?:=by
 rw [rn,a7 rfl,su];exact oo h b a
theorem zZ (S:Sto):fE (.int 10) (.int 9) S=.ok (.int 1000000000) S:=by kernel_rfl
theorem sf {p q:Nat} {m:Int} {S:Sto} {gs:List Int} (w:S[q]?=some (.lst (gs.map D.int))) (J:gs.length<=6) (g:Int) (n:0<=g) (i:g<=1000000000) (c d:Option D) (k:Nat) :
  Ok (w6 (P4 (rn k)) (J1 (rn k)) 10000 [some (.ref p),some (.int m),some (.ref q),c,d,some (.int g)]) S λB S'=>S'=S/\∃ g:Int,g∉gs/\0<=g/\g<=1000000000/\B=.nx [some (.ref p),some (.int m),some (.ref q),c,d,some (.int g)]:=by
 refine (Ok.while_ (λj ρ S'=>S'=S/\∃ (g:Int) (v:List Int),0<=g/\g<=1000000000/\ρ=[some (.ref p),some (.int m),some (.ref q),c,d,some (.int g)]/\v.Nodup/\(∀ x∈v,x∈gs)/\v.length+j=7/\∀ x∈v,∃ t:Nat,1<=t/\t<=v.length/\0<=x/\x<=1000000000/\(x+t) % 1000000001=g) (λρ S'=>S'=S/\∃ g:Int,g∉gs/\0<=g/\g<=1000000000/\ρ=[some (.ref p),some (.int m),some (.ref q),c,d,some (.int g)]) (λ_ _=>False) ?_ 10000 7 _ _ (by omega) ⟨rfl,g,[],n,i,rfl,.nil,(by simp),rfl,(by simp)⟩).mono ?_
 ·rintro j ρ S' ⟨y,g,v,n,i,rfl,s,u,I,l⟩;cases y;rw [bK];refine Ok.eq (Ad w g)<|Ok.eq (i8 _ _)<|Ok.ret ?_;by_cases o:g∈gs
  ·rw [if_pos (Ia o)];have G:g∉v:=λA=>by
    obtain ⟨t,E,C,r,h,e⟩:=l g A;have:=few s u;omega
   have a:=Jr.mpr ⟨G,s⟩;have b:∀ x∈g :: v,x∈gs:=λx f=>by
    rcases Ii.mp f with z | z
    ·rw [z];exact o
    ·exact u x z
   have F:=few a b;rw [IV] at F;unfold J1;rw [Y3];have H:O8 (.int (g+1)) (.int 1000000001) S=.ok (.int ((g+1) % 1000000001)) S:=X3 (by omega) S;refine Ok.first<|Ok.cg (bg ..)<|Ok.eq rfl<|Ok.eq (zZ S)<|Ok.eq rfl<|Ok.eq H<|Ok.ret ⟨j-1,by omega,rfl,(g+1) % 1000000001,g :: v,by omega,by omega,rfl,a,b,by rw [IV];omega,λx f=>?_⟩;rcases Ii.mp f with z | z
   ·grind
   ·obtain ⟨t,E,C,r,h,e⟩:=l x z;exact ⟨t+1,by omega,by rw [IV];omega,r,h,by omega⟩
  ·grind
 ·grind
def wR (gs:List Int) (m:Nat):Prop:=gs.length=m/\(∀ g∈gs,0<=g/\g<=1000000000)/\gs.Nodup
theorem kY (F:Fw ns p (N+5 * m) S) (X:m<=6) (k:Nat):Ok (rn (k+2) Bc [.ref p,.int (m:Int)]) S λd S'=>Fw ns p N S'/\∃ gs:List Int,d=.tup (gs.map D.int)/\wR gs m:=by
 have hp:=F.lt;rw [rn,a7 rfl,tq,vx];refine Ok.first<|Ok.cg (Cj ..)<|Ok.eq (rfl)<|Ok.nxt<|Ok.cg (Dx ..)<|Ok.eq (q9 (by omega) _)<|Ok.bind ((Ok.loop (λi ρ S'=>Fw ns p (N+5 * (m-i)) S'/\∃ (gs:List Int) (j n h:Option D),S'[S.length]?=some (.lst (gs.map D.int))/\wR gs i/\ρ=[some (.ref p),some (.int (m:Int)),some (.ref S.length),j,n,h]) (λρ S' _=>p0 m S') ?_ ⟨F.push _,[],_,_,_,(by simp),⟨rfl,by simp,.nil⟩,rfl⟩).mono ?_)
 ·rintro i ρ S1 H ⟨P,gs,j,n,h,I,⟨K,hg,J⟩,rfl⟩;refine ⟨.int (i:Int),_,v8 H S1,rfl,?_⟩;unfold fQ;rw [fJ];refine Ok.first<|Ok.cg (mH ..)<|Ok.bind ((j3 (N:=N+5 * (m-(i+1))+4) (m:=10) (P.less (by omega)) (by omega) (by omega) k).mono ?_);rintro _ S2 ⟨a,rfl,s,M,Z,k2⟩;refine Ok.eq (zZ S2)<|Ok.eq rfl<|Ok.bind ((j3 (N:=N+5 * (m-(i+1))+3) (m:=1000000001) (M.less (by omega)) (by omega) (by omega) k).mono ?_);rintro _ q ⟨b,rfl,o,l,W,B⟩;refine Ok.eq (zZ q)<|Ok.bind ((j3 (N:=N+5 * (m-(i+1))+2) (m:=4) (l.less (by omega)) (by omega) (by omega) k).mono ?_);rintro _ S4 ⟨c,rfl,hc,Q,l4,t⟩;refine Ok.eq rfl<|Ok.bind ((j3 (N:=N+5 * (m-(i+1))+1) (m:=100) (Q.less (by omega)) (by omega) (by omega) k).mono ?_);rintro _ V ⟨d,rfl,hd,T,l5,E⟩;refine Ok.nxt<|Ok.cg (mU ..)<|Ok.bind ((j3 (N:=N+5 * (m-(i+1))) (m:=4) (T.less (by omega)) (by omega) (by omega) k).mono ?_);rintro _ r ⟨w,rfl,hw,R,l6,L⟩;obtain ⟨g,v,A,u⟩:∃ g:Int,([.int (a:Int),.int (b:Int),.int (1000000000-(c:Int)),.int (d:Int)]:List D)[w]?=some (.int g)/\0<=g/\g<=1000000000:=by
   have:w=0\/w=1\/w=2\/w=3:=by omega
   rcases this with rfl | rfl | rfl | rfl
   ·exact ⟨_,rfl,by omega,by omega⟩
   ·exact ⟨_,rfl,by omega,by omega⟩
   ·exact ⟨_,rfl,by omega,by omega⟩
   ·exact ⟨_,rfl,by omega,by omega⟩
  have e:r[S.length]?=some (.lst (gs.map D.int)):=by rw [L _ (by omega),E _ (by omega),t _ (by omega),B _ (by omega),k2 _ (by omega)];exact I
  refine Ok.eq (gQ r v)<|Ok.nxt<|Ok.cg (lG ..)<|Ok.bind ((sf e (by omega) g A u _ _ (k+1)).mono ?_);rintro _ S7 ⟨y,g',f,U,C,rfl⟩;cases y;have Y:=(HN.mp e).1;refine Ok.nxt<|Ok.cg (mW ..)<|Ok.eq (X7 e)<|Ok.eq (bN e (by rw [Hy,Iq];omega))<|Ok.ret ⟨_,.inl rfl,?_,gs++[g'],_,_,_,?_,⟨by simp [K],λx hx=>?_,KE.mpr ⟨J,(Jr.mpr ⟨by simp,.nil⟩),λa s b o z=>f (by rw [ID.mp o] at z;rw [<- z];exact s)⟩⟩,rfl⟩
  ·exact R.keep (by rw [HZ (by omega)])
  ·grind
  ·grind
 ·rintro _ q ⟨ρ,rfl,l,gs,j,n,h,O,G,rfl⟩;exact Ok.nxt<|Ok.cg (Ea ..)<|Ok.eq (gN O)<|Ok.ret ⟨l.less (by omega),gs,rfl,G⟩
def Wc (w v:Str) (b:Bool):Prop:=∀ S,a9 .Eq (.str w) (.str v) S=.ok (.bl b) S
theorem ku:Wc "row" "decider" false:=λS=>by kernel_rfl
theorem mf:Wc "row" "net" false:=λS=>by kernel_rfl
theorem gO:Wc "row" "levels" false:=λS=>by kernel_rfl
theorem AD:Wc "row" "row" true:=λS=>by kernel_rfl
theorem dI:Wc "net" "decider" false:=λS=>by kernel_rfl
theorem gF:Wc "net" "net" true:=λS=>by kernel_rfl
theorem BX:Wc "net" "levels" false:=λS=>by kernel_rfl
theorem Cd:Wc "net" "row" false:=λS=>by kernel_rfl
theorem dA:Wc "levels" "decider" false:=λS=>by kernel_rfl
theorem gE:Wc "levels" "net" false:=λS=>by kernel_rfl
theorem dH:Wc "levels" "levels" true:=λS=>by kernel_rfl
theorem Eo:Wc "levels" "row" false:=λS=>by kernel_rfl
theorem dD:Wc "decider" "decider" true:=λS=>by kernel_rfl
theorem Gg:Wc "decider" "net" false:=λS=>by kernel_rfl
theorem yw:Wc "decider" "levels" false:=λS=>by kernel_rfl
theorem Dv:Wc "decider" "row" false:=λS=>by kernel_rfl
theorem ix0 (w:Str) (xs:List D) (S:Sto):ixD (.tup (.str w :: xs)) (.int 0) S=.ok (.str w) S:=m3 S rfl
section
variable {w v:Str} {xs:List D} {β:Type} {a b:M β} {S:Sto} {Q:β->Sto->Prop} {P:Nat->Sto->Prop}
theorem no_ (h:Wc w v false) (k:Ok b S Q):Ok (bind (ixD (.tup (.str w :: xs)) (.int 0)) λc=>bind (a9 .Eq c (.str v)) λd=>bind (asB d) λe=>if e=true then a else b) S Q:=
 Ok.eq (ix0 w xs S)<|Ok.eq (h S)<|Ok.eq rfl<|Ok.neg (by decide) k
theorem yes_ (h:Wc w v true) (k:Ok a S Q):Ok (bind (ixD (.tup (.str w :: xs)) (.int 0)) λc=>bind (a9 .Eq c (.str v)) λd=>bind (asB d) λe=>if e=true then a else b) S Q:=
 Ok.eq (ix0 w xs S)<|Ok.eq (h S)<|Ok.eq rfl<|Ok.pos rfl k
theorem noX (h:Wc w v false) (k:Xn b S P):Xn (bind (ixD (.tup (.str w :: xs)) (.int 0)) λc=>bind (a9 .Eq c (.str v)) λd=>bind (asB d) λe=>if e=true then a else b) S P:=
 Xn.eq (ix0 w xs S)<|Xn.eq (h S)<|Xn.eq rfl<|Xn.neg (by decide) k
theorem yesX (h:Wc w v true) (k:Xn a S P):Xn (bind (ixD (.tup (.str w :: xs)) (.int 0)) λc=>bind (a9 .Eq c (.str v)) λd=>bind (asB d) λe=>if e=true then a else b) S P:=
 Xn.eq (ix0 w xs S)<|Xn.eq (h S)<|Xn.eq rfl<|Xn.pos rfl k
end
theorem w8 (b:Wc w "levels" false) (a:∀ S,ixD (.tup (.str w :: xs)) (.int (-1)) S=.ok x S) (k:Nat) (S:Sto):rn (k+1) V4 [.tup (.str w :: xs)] S=.ok x S/\rn (k+1) W3 [.tup (.str w :: xs)] S=.ok x S:=by
 refine ⟨c9 ?_,c9 ?_⟩
 ·rw [rn,a7 rfl,jc];exact no_ b<|Ok.eq rfl<|Ok.eq (a S)<|Ok.ret ⟨rfl,rfl⟩
 ·rw [rn,a7 rfl,jo];exact no_ b<|Ok.eq rfl<|Ok.eq (a S)<|Ok.ret ⟨rfl,rfl⟩
structure Mc where
 σ:Type
 d:σ->D
 ok:σ->Prop
 step:σ->Nat->Option σ
 md:D
 many:Nat
 s0:σ
def Mc.oD (m:Mc):Option m.σ->D
 | none=>.non
 | some s=>m.d s
structure McOk (m:Mc):Prop where
 m1:1<=m.many
 m6:m.many<=6
 no:∀ s i k S,m.ok s->i<m.many->m.step s i=none->Xn (rn (k+6) O9 [m.md,m.d s,.int (i:Int)]) S λn S'=>n=S.length/\S'=S++[exS i]
 go:∀ s s' i k S,m.ok s->i<m.many->m.step s i=some s'->rn (k+6) O9 [m.md,m.d s,.int (i:Int)] S=.ok (m.d s') S/\m.ok s'
 lw:∀ s i k S,m.ok s->i<m.many->Ok (rn (k+3) pz [m.md,m.d s,.int (i:Int)]) S λd S'=>d=m.oD (m.step s i)/\Ex S S'
 tp:∀ s,∃ ds,m.d s=.tup ds
 sm:∀ s,m.ok s->Sml 5 20000 (m.d s)
 ms:Sml 5 20000 m.md
 hn:∀ k S,rn (k+1) V4 [m.md] S=.ok (.int (m.many:Int)) S
 fi:∀ k S,rn (k+2) yz [m.md] S=.ok (m.d m.s0) S
 o0:m.ok m.s0
theorem k0 (S:Sto):Ex S S:=⟨[],by simp⟩
theorem t0 (a:Ex S T) (b:Ex T U):Ex S U:=by
 obtain ⟨x,rfl⟩:=a;obtain ⟨y,rfl⟩:=b;exact ⟨x++y,by simp⟩
section
variable {m:Mc} (M:McOk m) {s:m.σ} (V:m.ok s)
include M V
theorem yf (hi:i<m.many) (k:Nat) (S:Sto):Ok (rn (k+7) Ci [m.md,m.d s,.int (i:Int)]) S λd S'=>d=m.oD (m.step s i)/\Ex S S':=by
 rw [rn,a7 rfl,AA,BY];refine Ok.first<|Ok.cg (Fk ..)<|Ok.bind ?_;cases e:m.step s i with
 | none=>
  refine Ok.caught ?_;rw [cL];refine Xn.bind ((M.no s i k S V hi e).mono ?_);rintro n S1 ⟨rfl,rfl⟩;refine ⟨1,[("hand",.int (i:Int))],by simp [exS],rfl,?_⟩;unfold xx;rw [gR];exact Ok.first<|Ok.cg (pq ..)<|Ok.ret<|Ok.ret ⟨rfl,_,rfl⟩
 | some s'=>
  refine Ok.try_ ?_;rw [cL];exact Ok.eq (M.go s s' i k S V hi e).1<|Ok.ret<|Ok.ret ⟨rfl,[],by simp⟩
omit V in
theorem jL (s:m.σ) (S:Sto):a9 .IsNot (m.d s) .non S=.ok (.bl true) S/\a9 .Is (m.d s) .non S=.ok (.bl false) S:=by
 obtain ⟨ds,e⟩:=M.tp s;rw [e];exact ⟨rfl,rfl⟩
end
def nN (j:Nat):D:=.int (j:Int)
theorem DP (e:S[n]?=some (.lst ds)):p8 (.ref n) S=p8 (.lst ds) S:=by
 have:∀ k,f9 (k+1) S (.ref n)=f9 (k+1) S (.lst ds):=λk=>by simp only [f9,e]
 unfold p8;rw [this 63]
theorem neS (x:Str) (S:Sto):a9 .NotEq (.str x) (.str x) S=.ok (.bl false) S:=by
 show R.ok (D.bl (!decide (x=x))) S=_;simp
theorem eqS (x:Str) (S:Sto):a9 .Eq (.str x) (.str x) S=.ok (.bl true) S:=by
 show R.ok (D.bl (decide (x=x))) S=_;simp
theorem iG {S:Sto} (e:S[n]?=some (.exc 1 [("hand",h)])) (k:Nat):Ok (rn (k+1) zR [.ref n]) S λd S'=>d=.tup [.str "step",h]/\Ex S S':=by
 have c:=(HN.mp e).1;have b:∀ o:O,(S++[o])[n]?=some (.exc 1 [("hand",h)]):=λo=>by rw [HW c];exact e
 have a:∀ o:O,(S++[o])[S.length]?=some o:=λo=>by simp
 have i:∀ (o:O) sx,A0 sx (.ref n) (S++[o])=.ok (.bl (sx 1)) (S++[o]):=λo sx=>by simp only [A0,b o]
 rw [rn,a7 rfl,wL,vH];refine Ok.first (Ok.cg (Co ..) (Ok.eq (rfl) (Ok.nxt (Ok.cg (Es ..) (Ok.eq (i _ _) (Ok.eq rfl (Ok.pos (by decide) (Ok.eq (X7 (a _)) (Ok.eq (by simp only [cZ,b];rfl) (Ok.eq (bN (a _) (by show 0<sizeLine;decide)) ?_))))))))));rw [aA];exact Ok.nxt<|Ok.cg (EN ..)<|Ok.eq (i _ _)<|Ok.eq rfl<|Ok.neg (by decide)<|Ok.nxt<|Ok.cg (Em ..)<|Ok.eq (i _ _)<|Ok.eq rfl<|Ok.neg (by decide)<|Ok.nxt<|Ok.cg (EX ..)<|Ok.eq (i _ _)<|Ok.eq rfl<|Ok.neg (by decide)<|Ok.eq (i _ _)<|Ok.eq rfl<|Ok.neg (by decide)<|Ok.nxt<|Ok.cg (El ..)<|Ok.eq (xp (a _))<|Ok.eq rfl<|Ok.eq rfl<|Ok.pos rfl<|Ok.eq (zH (a _) rfl)<|Ok.ret ⟨rfl,_,rfl⟩
def Mc.dueO (m:Mc) (s:m.σ) (i:Nat):D:=match m.step s i with
 | none=>.tup [.str "step",.int (i:Int)]
 | some s'=>m.d s'
def Mc.mvs (m:Mc) (s:m.σ) (n:Nat):List D:=((List.range n).filter λj=>(m.step s j).isSome).map nN
theorem T4 (m:Mc) (s:m.σ) (n:Nat):(m.mvs s n).length<=n:=by
 unfold Mc.mvs;grind
theorem pE {m:Mc} {s:m.σ} {n:Nat} (e:m.step s n=none):m.mvs s (n+1)=m.mvs s n:=by
 unfold Mc.mvs;rw [JI,Jl,List.filter_cons,KU,e];simp
theorem nl {m:Mc} {s s':m.σ} {n:Nat} (e:m.step s n=some s'):m.mvs s (n+1)=m.mvs s n++[.int (n:Int)]:=by
 unfold Mc.mvs;rw [JI,Jl,List.filter_cons,KU,e,IN];rfl
structure McTl (m:Mc):Prop where
 ho:∀ k S,rn (k+1) W3 [m.md] S=.ok (.int (m.many:Int)) S
 nm:∀ s,m.ok s->∃ nd,Sml 5 20000 nd/\(∀ k S,Ok (rn (k+6) dX [m.md,m.d s]) S λd S'=>d=nd/\Ex S S')/\∀ k S,Ok (rn (k+6) dW [m.md,m.d s]) S λd S'=>d=nd/\Ex S S'
 wk:∀ s,m.ok s->∃ w:Nat,w<100/\(∀ k S,Ok (rn (k+5) cp [m.md,m.d s]) S λd S'=>d=.int (w:Int)/\Ex S S')/\∀ k S,Ok (rn (k+5) gq [m.md,m.d s]) S λd S'=>d=.int (w:Int)/\Ex S S'
 bd:∀ k S,Ok (rn (k+5) wm [m.md]) S λd S'=>d=.bl true/\Ex S S'
section
variable {m:Mc} (M:McOk m) (T:McTl m) {s:m.σ} (V:m.ok s)
include M V
theorem yX (hi:i<m.many) (k:Nat) (S:Sto):Ok (rn (k+7) vX [m.md,m.d s,.int (i:Int)]) S λd S'=>d=m.dueO s i/\Ex S S':=by
 rw [rn,a7 rfl,rk,pV];refine Ok.first (Ok.cg (Ay ..) (Ok.nxt (Ok.cg (Al ..) (Ok.bind ?_))));unfold Mc.dueO;cases e:m.step s i with
 | none=>
  refine Ok.caught ?_;rw [X2];refine Xn.bind ((M.no s i k S V hi e).mono ?_);rintro n S1 ⟨rfl,rfl⟩;refine ⟨1,[("hand",.int (i:Int))],by simp [exS],rfl,?_⟩;unfold kN;rw [cv];refine Ok.first (Ok.cg (iE ..) (nx_bind ((iG (h:=.int (i:Int)) (by simp [exS]) (k+5)).mono ?_)));rintro _ S2 ⟨rfl,ex⟩;exact Ok.ret<|Ok.nxt<|Ok.cg (pH ..)<|Ok.ret ⟨rfl,t0 ⟨_,rfl⟩ ex⟩
 | some s'=>
  refine Ok.try_ ?_;rw [X2];exact Ok.eq (M.go s s' i k S V hi e).1<|Ok.ret<|Ok.nxt<|Ok.cg (pH ..)<|Ok.ret ⟨rfl,[],by simp⟩
include T
theorem BF (k:Nat) (S:Sto):Ok (rn (k+8) yY [m.md,m.d s]) S λd S'=>∃ S1,Ex S S1/\d=.ref S1.length/\S'=S1++[.lst (m.mvs s m.many)]:=by
 have h:=M.m6;rw [rn,a7 rfl,vi];refine nx_bind<|Ok.eq (T.ho (k+6) S)<|Ok.eq (q9 (by omega) _) ((Ok.comp (λi S' es=>Ex S S'/\es=m.mvs s i) (λS' es _=>p0 _ S') ?_ ⟨k0 S,rfl⟩).mono ?_)
 ·rintro i S' es g ⟨c,rfl⟩;refine ⟨.int (i:Int),v8 g S',Ok.bind ((yf M V g k S').mono ?_)⟩;rintro _ S2 ⟨rfl,b⟩;have f:(m.mvs s i).length<sizeLine:=by rw [Iq];have:=T4 m s i;omega
  cases e:m.step s i with
  | none=>
   refine Ok.eq rfl<|Ok.eq (a:=false) rfl<|Ok.ret ?_;rw [if_neg HU];exact ⟨t0 c b,(pE e).symm⟩
  | some s'=>
   refine Ok.eq (jL M s' S2).1<|Ok.eq rfl<|Ok.ret ?_;rw [if_pos rfl];exact Ok.ret ⟨f,t0 c b,(nl e).symm⟩
 ·rintro es S' ⟨c,rfl⟩;have f:(m.mvs s m.many).length<=sizeLine:=by rw [Iq];have:=T4 m s m.many;omega
  exact Ok.eq (by simp only [newL,if_pos f])<|Ok.ret ⟨S',c,rfl,rfl⟩
theorem aN (k:Nat) (S:Sto):Ok (rn (k+9) wq [m.md,m.d s]) S λd S'=>d=.bl true/\Ex S S':=by
 have Z:=M.m6;obtain ⟨nd,ns,U,W⟩:=T.nm s V;obtain ⟨w,R,w2,L⟩:=T.wk s V;have J:Sml 6 50000 (.tup [m.md,m.d s]):=(Sml.tup (m:=2) (.cons M.ms (.cons (M.sm s V) .nil)) (HV _)).mono (by decide) (by decide);rw [rn,a7 rfl,zS,Ab];refine Ok.first<|Ok.cg (Fp ..)<|Ok.eq (J.repr (S:=S))<|Ok.nxt<|Ok.cg (HH ..)<|Ok.eq (M.hn (k+7) S)<|Ok.nxt<|Ok.cg (HC ..)<|nx_bind<|Ok.eq (q9 (by omega) _) ((Ok.comp (λi S' es=>Ex S S'/\es=(List.range i).map λj=>m.oD (m.step s j)) (λS' es _=>p0 _ S') ?_ ⟨k0 S,rfl⟩).mono ?_)
 ·rintro i S1 es t ⟨F,rfl⟩;refine ⟨.int (i:Int),v8 t S1,Ok.ret ?_⟩;rw [if_pos rfl];refine Ok.bind ((M.lw s i (k+5) S1 V t).mono ?_);rintro _ S2 ⟨rfl,c⟩;exact Ok.ret ⟨by rw [Iq,Hy,Il];omega,t0 F c,by rw [JI,IN];rfl⟩
 rintro _ S1 ⟨F,rfl⟩;have g:∀ {i:Nat},i<m.many->((List.range m.many).map λj=>m.oD (m.step s j))[i]?=some (m.oD (m.step s i)):=λt=>d3 (Kh t);generalize ((List.range m.many).map λj=>m.oD (m.step s j))=bh at g;have K:=λS=>J.repr (S:=S);generalize (py (.tup [m.md,m.d s])).shown=kept at K;have ms:Sml 1 1000 (.lst (m.mvs s m.many)):=(Sml.lst (n:=0) (N:=60) (Smls.map λj f=>Sml.nat (by have:=Iw.mp (IM.mp f).1;omega)) (Ir (T4 m s m.many) Z)).mono (by decide) (by decide);refine Ok.nxt<|Ok.cg (HD ..)<|Ok.eq (q9 (n:=2) (by omega) _)<|Ok.bind ((Ok.loop (λi ρ S'=>Ex S S'/\∃ x A v z:Option D,ρ=[some m.md,some (m.d s),some (.str kept),some (.int (m.many:Int)),x,some (.lst bh),A,v,z]) (λρ S' _=>p0 _ S') ?_ ⟨F,_,_,_,_,rfl⟩).mono ?_)
 ·rintro i ρ S2 t ⟨c,x,A,v,z,rfl⟩;refine ⟨.int (i:Int),_,v8 t S2,rfl,?_⟩;unfold jt;rw [gZ];refine Ok.first<|Ok.cg (qO ..)<|Ok.bind ((BF M T V k S2).mono ?_);rintro _ _ ⟨u,l,rfl,rfl⟩;have E:∀ o:O,(u++[o])[u.length]?=some o:=λo=>by simp
  refine Ok.nxt<|Ok.cg (qV ..)<|Ok.eq ((DP (E _)).trans (ms.repr (S:=_)))<|nx_bind<|Ok.eq (q9 (by omega) _) ((Ok.comp (λi S' es=>S'=u++[.lst (m.mvs s m.many)]/\es=m.mvs s i) (λS' es _=>p0 _ S') ?_ ⟨rfl,rfl⟩).mono ?_)
  ·rintro j _ es f ⟨rfl,rfl⟩;refine ⟨.int (j:Int),v8 f _,Ok.eq (gQ _ (g f)) ?_⟩;have le:(m.mvs s j).length<sizeLine:=by rw [Iq];have:=T4 m s j;omega
   cases e:m.step s j with
   | none=>
    refine Ok.eq rfl<|Ok.eq (a:=false) rfl<|Ok.ret ?_;rw [if_neg HU];exact ⟨rfl,(pE e).symm⟩
   | some s'=>
    refine Ok.eq (jL M s' _).1<|Ok.eq rfl<|Ok.ret ?_;rw [if_pos rfl];exact Ok.ret ⟨le,rfl,(nl e).symm⟩
  rintro _ _ ⟨rfl,rfl⟩;have P:(m.mvs s m.many).length<sizeLine:=by rw [Iq];have:=T4 m s m.many;omega
  refine Ok.eq (ms.repr (S:=_))<|Ok.eq (neS _ _)<|Ok.eq rfl<|Ok.neg (by decide)<|Ok.nxt<|Ok.cg (qG ..)<|Ok.eq (X7 (E _))<|Ok.eq (bN (E _) P) ?_;rw [aA];have p:Ex S (u++[.lst (m.mvs s m.many++[.int 0])]):=t0 c (t0 l ⟨_,rfl⟩);refine Ok.nxt<|Ok.cg (qP ..)<|Ok.eq (q9 (by omega) _)<|Ok.bind ((Ok.loop (λj ρ S'=>Ex S S'/\∃ x A v z:Option D,ρ=[some m.md,some (m.d s),some (.str kept),some (.int (m.many:Int)),x,some (.lst bh),A,v,z]) (λρ S' _=>p0 _ S') ?_ ⟨p,_,_,_,_,rfl⟩).mono ?_)
  ·rintro j ρ y f ⟨r,p4,G,I,X,rfl⟩;refine ⟨.int (j:Int),_,v8 f y,rfl,?_⟩;unfold X1;rw [aZ];have B:∀ {Q:Fl->Sto->Prop} (_:∀ q H,Ex S q->Q (.nx [some m.md,some (m.d s),some (.str kept),some (.int (m.many:Int)),some (.int (j:Int)),some (.lst bh),G,I,H]) q),Ok (nxt (evK Rs Γ (rn (k+8)) 38) N4 [nth u6 1] ret (.nx [some m.md,some (m.d s),some (.str kept),some (.int (m.many:Int)),some (.int (j:Int)),some (.lst bh),G,I,some (m.dueO s j)])) y Q:=λ{Q} hq=>by
    refine Ok.nxt<|Ok.cg (dR ..)<|Ok.bind ((yX M V f (k+1) y).mono ?_);rintro _ q ⟨rfl,b⟩;have ds:Sml 5 20000 (m.dueO s j):=by
     unfold Mc.dueO;cases e:m.step s j with
     | none=>exact (Sml.tup (n:=0) (N:=100) (m:=2) (.cons Sml.w (.cons (Sml.nat (by omega)) .nil)) (HV _)).mono (by decide) (by decide)
     | some s'=>exact M.sm s' (M.go s s' j 0 [] V f e).2
    exact Ok.eq (ds.repr (S:=_))<|Ok.eq (ds.repr (S:=_))<|Ok.eq (neS _ _)<|Ok.eq rfl<|Ok.neg (by decide)<|Ok.ret<|hq _ _ (t0 r b)
   refine Ok.first<|Ok.cg (dN ..)<|Ok.eq (gQ _ (g f)) ?_;cases e:m.step s j with
   | none=>
    have C:m.dueO s j=.tup [.str "step",.int (j:Int)]:=by unfold Mc.dueO;rw [e]
    refine Ok.eq rfl<|Ok.eq rfl<|Ok.pos rfl ?_;rw [<- C];exact B λq H h=>⟨_,.inl rfl,h,_,_,_,_,rfl⟩
   | some s'=>
    have C:m.dueO s j=m.d s':=by unfold Mc.dueO;rw [e]
    refine Ok.eq (jL M s' _).2<|Ok.eq rfl<|Ok.neg (by decide)<|Ok.eq (gQ _ (g f)) ?_;rw [e,show m.oD (some s')=m.dueO s j from C.symm];exact B λq H h=>⟨_,.inl rfl,h,_,_,_,_,rfl⟩
  ·rintro _ q ⟨ρ,rfl,b,p4,G,I,X,rfl⟩;exact Ok.ret ⟨_,.inl rfl,b,_,_,_,_,rfl⟩
 ·rintro _ S2 ⟨ρ,rfl,c,x,A,v,z,rfl⟩;refine Ok.nxt<|Ok.cg (GM ..)<|Ok.bind ((U (k+2) S2).mono ?_);rintro _ u ⟨rfl,l⟩;refine Ok.eq (ns.repr (S:=_))<|Ok.bind ((W (k+2) u).mono ?_);rintro _ Y ⟨rfl,p⟩;refine Ok.eq (ns.repr (S:=_))<|Ok.eq (neS _ _)<|Ok.eq rfl<|Ok.neg (by decide)<|Ok.nxt<|Ok.cg (GG ..)<|Ok.bind ((w2 (k+3) Y).mono ?_);rintro _ y ⟨rfl,r⟩;have ws:Sml 0 60 (.int (w:Int)):=Sml.nat R;refine Ok.eq (ws.repr (S:=_))<|Ok.bind ((L (k+3) y).mono ?_);rintro _ q ⟨rfl,b⟩;exact Ok.eq (ws.repr (S:=_))<|Ok.eq (eqS _ _)<|Ok.eq rfl<|Ok.pos rfl<|Ok.eq (K _)<|Ok.eq (eqS _ _)<|Ok.ret ⟨rfl,t0 c (t0 l (t0 p (t0 r b)))⟩
end
theorem tG (ns:List Int) (i:Nat) (b:i<5) (S:Sto) (k:Nat):∃ ms:List Int,rn (k+1) AH [.scr (ns.map D.int),.int (i:Int)] S=.ok (.ref S.length) (S++[o9 ms i 0 (17 * i)]):=by
 obtain ⟨ms,a⟩:=qS ns;refine ⟨ms,?_⟩;rw [rn,a7 rfl,tZ,a8 (show slD (.scr (ns.map D.int)) none (some 63) S=.ok (.lst (L4 (ns.map D.int) none (some 63))) S from rfl),a];have:i=0\/i=1\/i=2\/i=3\/i=4:=by omega
 rcases this with rfl | rfl | rfl | rfl | rfl <;> kernel_rfl
theorem fA (F:Fw ns p N S) (h:Ex S S'):Fw ns p N S':=F.keep (h.at F.lt)
def LtP (m:Mc) (ix:Nat):Prop:=∀ ns p N k S,Fw ns p (N+200) S->Ok (rn (k+6) ix [.ref p,.int (m.many:Int)]) S λd S'=>Fw ns p N S'/\∃ s,m.ok s/\d=m.d s
structure McLt (m:Mc):Prop where
 hd:∃ h ds,m.md=.tup (.str h :: ds)/\(h = "levels"->LtP m rc)/\(h = "row"->LtP m wr)
def GR:Prop:=∀ {ns:List Int} {p N:Nat} {S:Sto},Fw ns p (N+40) S->∀ k:Nat,Ok (rn (k+3) qR [.ref p,.int 6]) S λd S'=>Fw ns p N S'/\∃ m,McOk m/\McTl m/\McLt m/\d=m.md
theorem Gq (j:Nat) (S:Sto):O8 (.int (j:Int)) (.int 2) S=.ok (.int ((j % 2:Nat):Int)) S:=by
 kernel_rfl
theorem eqW (a b:Str) (S:Sto):a9 .Eq (.str a) (.str b) S=.ok (.bl (decide (a=b))) S:=rfl
theorem xt {M:McOk m} {T:McTl m} {ns:List Int} {p N:Nat} {S:Sto} (L:LtP m ix) (F:Fw ns p (N+200) S):Ok (rn 9 ix [.ref p,.int (m.many:Int)]) S λd S'=>Ok (rn 9 wq [m.md,d]) S' λb a=>b=.bl true/\Fw ns p N a:=by
 refine (L ns p N 3 S F).mono ?_;rintro _ S1 ⟨c,s,V,rfl⟩;refine (aN M T V 0 S1).mono ?_;rintro _ S2 ⟨rfl,e⟩;exact ⟨rfl,fA c e⟩
theorem Ap (mk:GR) (ns:List Int):∃ S',rn 10 iO [.scr (ns.map D.int)] []=.ok (.bl true) S':=by
 suffices h:Ok (rn 10 iO [.scr (ns.map D.int)]) [] λd _=>d=.bl true by
  obtain ⟨d,S',e,rfl⟩:=h;exact ⟨S',e⟩
 rw [rn,a7 rfl,wc,vF];refine Ok.first<|Ok.cg (FN ..)<|Ok.eq (q9 (n:=5) (by omega) _)<|Ok.bind ((Ok.loop (λi ρ S'=>∃ (A B F I C k l g c:Option D),ρ=[some (.scr (ns.map D.int)),A,B,F,I,C,k,l,g,c]) (λρ S' _=>p0 5 S') ?_ ⟨_,_,_,_,_,_,_,_,_,rfl⟩).mono ?_)
 ·rintro i ρ S X ⟨A,B,F,I,C,k,l,g,c,rfl⟩;refine ⟨.int (i:Int),_,v8 X S,rfl,?_⟩;unfold fL;rw [gB];obtain ⟨ms,ew⟩:=tG ns i X S 8;refine Ok.first<|Ok.cg (lv ..)<|Ok.eq ew ?_;have P:Fw ms S.length 4000 (S++[o9 ms i 0 (17 * i)]):=⟨i,0,17 * i,by simp,by omega,by omega,by omega,by omega⟩;generalize S++[o9 ms i 0 (17 * i)]=S0 at P;generalize S.length=p at P;refine Ok.nxt<|Ok.cg (lX ..)<|Ok.bind ((mk (N:=3000) (P.less (by omega)) 6).mono ?_);rintro _ S1 ⟨F1,m,M,T,⟨h,ds,eh,Y,L2⟩,rfl⟩;have m1:=M.m1;have m6:=M.m6;refine Ok.nxt<|Ok.cg (lW ..)<|Ok.bind ((T.bd 4 S1).mono ?_);rintro _ S2 ⟨rfl,O⟩;have F2:=fA F1 O;refine Ok.eq rfl<|Ok.neg (by decide)<|Ok.nxt<|Ok.cg (kf ..)<|Ok.eq (M.fi 7 S2)<|Ok.nxt<|Ok.cg (lu ..)<|Ok.eq (M.hn 8 S2)<|Ok.bind ((j3 F2 (by omega) (by omega) 8).mono ?_);rintro _ S3 ⟨a,rfl,ha,F3,_,_⟩;refine Ok.eq (i5 1 a S3)<|Ok.nxt<|Ok.cg (lY ..)<|Ok.eq (q9 (n:=32) (by omega) _)<|Ok.bind ((Ok.loop (λj ρ S'=>Fw ms p (2000+(32-j)) S'/\∃ (s:m.σ) (k l g c:Option D),m.ok s/\ρ=[some (.scr (ns.map D.int)),some (.int (i:Int)),some (.ref p),some m.md,some (m.d s),some (.int ((1+a:Nat):Int)),k,l,g,c]) (λρ S' _=>p0 32 S') ?_ ⟨F3.less (by omega),m.s0,_,_,_,_,M.o0,rfl⟩).mono ?_)
  ·rintro j ρ t hj ⟨K,s,k,l,g,c,V,rfl⟩;refine ⟨.int (j:Int),_,v8 hj t,rfl,?_⟩;unfold Q3;rw [Y4];have z:Fw ms p (2000+(32-(j+1))+1) t:=K.less (by omega);have u:∀ (r:Sto),Fw ms p (2000+(32-(j+1))+1) r->Ok (nxt (evK Rs Γ (rn 9) 38) t8 [nth d9 1,nth d9 2,nth d9 3] ret (.nx [some (.scr (ns.map D.int)),some (.int (i:Int)),some (.ref p),some m.md,some (m.d s),some (.int ((1+a:Nat):Int)),some (.int (j:Int)),l,g,c])) r λw S'=>∃ f,(w=.nx f\/w=.ct f)/\Fw ms p (2000+(32-(j+1))) S'/\∃ (s:m.σ) (k l g c:Option D),m.ok s/\f=[some (.scr (ns.map D.int)),some (.int (i:Int)),some (.ref p),some m.md,some (m.d s),some (.int ((1+a:Nat):Int)),k,l,g,c]:=by
    intro r G;have H:∀ (o:Sto) (b:Nat),b<m.many->Fw ms p (2000+(32-(j+1))) o->Ok (nxt (evK Rs Γ (rn 9) 38) t8 [nth d9 2,nth d9 3] ret (.nx [some (.scr (ns.map D.int)),some (.int (i:Int)),some (.ref p),some m.md,some (m.d s),some (.int ((1+a:Nat):Int)),some (.int (j:Int)),some (.int (b:Int)),g,c])) o λw S'=>∃ f,(w=.nx f\/w=.ct f)/\Fw ms p (2000+(32-(j+1))) S'/\∃ (s:m.σ) (k l g c:Option D),m.ok s/\f=[some (.scr (ns.map D.int)),some (.int (i:Int)),some (.ref p),some m.md,some (m.d s),some (.int ((1+a:Nat):Int)),k,l,g,c]:=by
     intro o b E x;refine Ok.nxt<|Ok.cg (bZ ..)<|Ok.bind ((M.lw s b 6 o V E).mono ?_);rintro _ W ⟨rfl,L⟩;have U:=fA x L;cases e:m.step s b with
     | none=>exact Ok.nxt<|Ok.cg (N7 ..)<|Ok.eq rfl<|Ok.eq rfl<|Ok.pos rfl<|Ok.ret ⟨_,.inl rfl,U,s,_,_,_,_,V,rfl⟩
     | some s'=>exact Ok.nxt<|Ok.cg (N7 ..)<|Ok.eq (jL M s' _).2<|Ok.eq rfl<|Ok.neg (by decide)<|Ok.ret ⟨_,.inl rfl,U,s',_,_,_,_,(M.go s s' b 0 [] V E e).2,rfl⟩
    refine Ok.nxt<|Ok.cg (bb ..)<|Ok.eq (Bv _ _ r)<|Ok.eq (i8 _ r)<|Ok.ite (λ_=>?_) λ_=>?_
    ·refine Ok.bind ((j3 G (by omega) (by omega) 8).mono ?_);rintro _ o ⟨b,rfl,E,x,_,_⟩;exact H o b (by omega) x
    ·refine Ok.eq (M.hn 8 r)<|Ok.bind ((j3 G (by omega) (by omega) 8).mono ?_);rintro _ o ⟨b,rfl,E,x,_,_⟩;exact H o b E x
   refine Ok.first<|Ok.cg (bc ..)<|Ok.eq (Gq j t)<|Ok.eq (A4 _ _ t)<|Ok.eq (i8 _ t)<|Ok.ite (λ_=>?_) λ_=>u t z;refine Ok.bind ((aN M T V 0 t).mono ?_);rintro _ r ⟨rfl,y⟩;exact Ok.eq rfl<|Ok.neg (by decide)<|u r (fA z y)
  rintro _ t ⟨ρ,rfl,K,s,k,l,g,c,V,rfl⟩;refine Ok.nxt<|Ok.cg (lj ..)<|Ok.bind ((aN M T V 0 t).mono ?_);rintro _ r ⟨rfl,y⟩;have G:=fA K y;have R:∀ S,ixD m.md (.int 0) S=.ok (.str h) S:=λS=>by rw [eh];exact m3 S rfl
  refine Ok.eq rfl<|Ok.neg (by decide)<|Ok.nxt<|Ok.cg (kg ..)<|Ok.eq (M.hn 8 r)<|Ok.nxt<|Ok.cg (mY ..)<|Ok.eq (R r)<|Ok.eq (eqW _ _ r)<|Ok.eq (i8 _ r) ?_;have v:∀ o,Fw ms p 1000 o->∀ k,Ok (nxt (evK Rs Γ (rn 9) 39) t8 [nth h8 9] ret (.nx [some (.scr (ns.map D.int)),some (.int (i:Int)),some (.ref p),some m.md,some (m.d s),some (.int ((1+a:Nat):Int)),k,l,g,some (.int (m.many:Int))])) o λw S'=>∃ f,(w=.nx f\/w=.ct f)/\∃ (A B F I C k l g c:Option D),f=[some (.scr (ns.map D.int)),A,B,F,I,C,k,l,g,c]:=by
   intro o x k;refine Ok.nxt<|Ok.cg (mK ..)<|Ok.eq (R o)<|Ok.eq (eqW _ _ o)<|Ok.eq (i8 _ o)<|Ok.ite (λq=>?_) λ_=>Ok.ret ⟨_,.inl rfl,_,_,_,_,_,_,_,_,_,rfl⟩;refine Ok.bind ((xt (M:=M) (T:=T) (N:=500) (L2 (Iu q)) (x.less (by omega))).mono ?_);rintro d W J;refine Ok.bind (J.mono ?_);rintro _ Q ⟨rfl,_⟩;exact Ok.eq rfl<|Ok.neg (by decide)<|Ok.ret ⟨_,.inl rfl,_,_,_,_,_,_,_,_,_,rfl⟩
  refine Ok.ite (λq=>?_) λ_=>v r (G.less (by omega)) _;refine Ok.bind ((xt (M:=M) (T:=T) (N:=1000) (Y (Iu q)) (G.less (by omega))).mono ?_);rintro d W J;refine Ok.bind (J.mono ?_);rintro _ Q ⟨rfl,Z⟩;exact Ok.eq rfl<|Ok.neg (by decide)<|v Q Z _
 ·rintro _ S' ⟨ρ,rfl,A,B,F,I,C,k,l,g,c,rfl⟩;exact Ok.nxt<|Ok.cg (Ds ..)<|Ok.ret rfl
end L3.K31
namespace L3.K31
open PySem PySem.Spec PyProof.Rows L2 L3.Nt
def bdN (b:Bool) (n:Nat):Nat:=if b=true then tri n else n
theorem oF (h:n<7):n=0\/n=1\/n=2\/n=3\/n=4\/n=5\/n=6:=by omega
theorem HG {n:Nat} (h:n<7) (S:Sto):(bind (f7 (.int (n:Int)) (.int 1)) λx4=>bind (J0 x4) λx5=>eT x5) S=.ok (.int (tri n:Int)) S:=by
 rcases oF h with rfl | rfl | rfl | rfl | rfl | rfl | rfl <;> kernel_rfl
theorem CU (h:n<7):tri n<100:=by
 rcases oF h with rfl | rfl | rfl | rfl | rfl | rfl | rfl <;> decide
theorem kD (M:McOk m) (b:Bool) {hd:D} (h0:∀ S,ixD m.md (.int 0) S=.ok hd S) (hi:∀ S,a9 .In hd (.tup [(.str "net"),(.str "levels")]) S=.ok (.bl b) S) (fp:∀ k S,rn (k+4) rg [m.md] S=.ok (m.d m.s0) S) (k:Nat) (S:Sto):Ok (rn (k+5) wm [m.md]) S λd S'=>d=.bl true/\Ex S S':=by
 rw [rn,a7 rfl,zn,zO];refine Ok.first<|Ok.cg (Fe ..)<|Ok.eq (q9 (n:=7) (by omega) _)<|Ok.bind ((Ok.loop (λi ρ S'=>S'=S/\∃ o1 o2:Option D,ρ=[some m.md,o1,o2]) (λρ S' _=>p0 7 S') ?_ ⟨rfl,_,_,rfl⟩).mono ?_)
 ·rintro i ρ S1 hi7 ⟨rfl,o1,o2,rfl⟩;refine ⟨.int (i:Int),_,v8 hi7 _,rfl,?_⟩;unfold ic;rw [iD];have sm:Sml 0 60 (.int (bdN b i:Int)):=Sml.nat (by unfold bdN;have:=CU hi7;split <;> omega);have pb:rn (k+4) zc [m.md,.int (i:Int)] S1=.ok (.int (bdN b i:Int)) S1:=by
   refine c9 ?_;rw [rn,a7 rfl,sg];refine Ok.eq (h0 S1)<|Ok.eq (hi S1)<|Ok.eq (i8 _ S1) ?_;cases b with
   | true=>exact Ok.pos rfl<|Ok.eq (aq i (by omega) (k+2) S1)<|Ok.ret ⟨rfl,rfl⟩
   | false=>exact Ok.neg (by decide)<|Ok.ret ⟨rfl,rfl⟩
  have fin:Ok (nxt (evK Rs Γ (rn (k+4)) 39) iX [nth O3 1] ret (.nx [some m.md,some (.int (i:Int)),some (.int (bdN b i:Int))])) S1 λfl S'=>∃ ρ',(fl=.nx ρ'\/fl=.ct ρ')/\S'=S1/\∃ o1 o2:Option D,ρ'=[some m.md,o1,o2]:=
   Ok.nxt<|Ok.cg (qF ..)<|Ok.eq pb<|Ok.eq (sm.repr (S:=_))<|Ok.eq (sm.repr (S:=_))<|Ok.eq (neS _ _)<|Ok.eq rfl<|Ok.neg (by decide)<|Ok.ret ⟨_,.inl rfl,rfl,_,_,rfl⟩
  refine Ok.first<|Ok.cg (pf ..)<|Ok.eq (h0 S1)<|Ok.eq (hi S1)<|Ok.eq (i8 _ S1) ?_;cases b with
  | true=>
   refine Ok.pos rfl ?_;have as:∀ {α:Type} (κ:D->L3.M α),(bind (f7 (.int (i:Int)) (.int 1)) λx4=>bind (J0 x4) λx5=>bind (eT x5) κ)=bind (bind (f7 (.int (i:Int)) (.int 1)) λx4=>bind (J0 x4) λx5=>eT x5) κ:=λκ=>by simp only [bind_assoc]
   exact Ok.cg (as _)<|Ok.eq (HG hi7 S1) fin
  | false=>exact Ok.neg (by decide) fin
 ·rintro _ _ ⟨ρ,rfl,rfl,o1,o2,rfl⟩;have sm:=M.sm m.s0 M.o0;exact Ok.nxt<|Ok.cg (FW ..)<|Ok.eq (fp k _)<|Ok.eq (sm.repr (S:=_))<|Ok.eq (M.fi (k+2) _)<|Ok.eq (sm.repr (S:=_))<|Ok.eq (eqS _ _)<|Ok.ret ⟨rfl,k0 _⟩
def N0 (size many:Nat):Nst:=⟨List.replicate (tri size) (none,false),List.replicate many ([],.out)⟩
theorem N0.ok (e:0<size) (i:size<=5) (f:many<=5):VN size many (N0 size many):=by
 refine ⟨i,f,Jh ..,Jh ..,λh a=>?_,λb c g d=>?_⟩
 ·have a:=a;rw [(List.mem_replicate.mp a).2];exact e
 ·have c:=c;rw [(List.mem_replicate.mp c).2] at d;cases d
theorem AI (V:VN size many r):Sml 5 20000 r.d:=by
 have f:=V.s5;have i:=V.m5;have j:=V.hl;have bl:=V.bl;have:=jW f;have c:Sml 3 5000 (.tup (r.hs.map hdD)):=(Sml.tup (m:=5) (.map λh d=>ph (by have:=V.tr h d;omega)) (by rw [Hy];omega)).up;have s2:Sml 3 5000 (.tup (r.bx.map bxD)):=by
  refine (Sml.tup (n:=1) (N:=150) (m:=15) (.map λb e=>?_) (by rw [Hy];omega)).up;obtain ⟨mk,cl⟩:=b;have a:Sml 0 60 (oD mk):=by
   cases mk with
   | none=>exact Sml.non
   | some g=>exact .nat (by have:=V.mg _ e g rfl;omega)
  exact (Sml.tup (m:=2) (.cons a (.cons Sml.bl .nil)) (HV _)).mono (by decide) (by decide)
 exact (Sml.tup (m:=2) (.cons s2 (.cons c .nil)) (HV _)).up
theorem Ei (h1:1<=n) (h:n<=5) (S:Sto):p6 (.tup [.tup [.non,.bl false]]) (.int ((tri n:Nat):Int)) S=.ok (.tup ((List.replicate (tri n) ((none,false):Box)).map bxD)) S:=by
 have:n=1\/n=2\/n=3\/n=4\/n=5:=by omega
 rcases this with rfl | rfl | rfl | rfl | rfl <;> kernel_rfl
theorem Bp {n:Nat} (h1:1<=n) (h:n<=5) (S:Sto):p6 (.tup [.tup [.tup [],.str "out"]]) (.int (n:Int)) S=.ok (.tup ((List.replicate n (([],.out):Hnd)).map hdD)) S:=by
 have:n=1\/n=2\/n=3\/n=4\/n=5:=by omega
 rcases this with rfl | rfl | rfl | rfl | rfl <;> kernel_rfl
def dw (size many:Nat):Mc:=⟨Nst,Nst.d,VN size many,j5 size,.tup [.str "net",.int (size:Int),.int (many:Int)],many,N0 size many⟩
theorem jR {size many:Nat} (h1:1<=many) (hs:1<=size) (h5:size<=5) (m5:many<=5):McOk (dw size many):=by
 have hh:∀ k S,rn (k+1) V4 [(dw size many).md] S=.ok (.int (many:Int)) S:=λk S=>(w8 BX (λS=>rfl) k S).1;refine ⟨h1,by show many<=6;omega,λr i k S V hi e=>?_,λr r' i k S V hi e=>?_,λr i k S V hi=>?_,λr=>⟨_,rfl⟩,λr V=>AI V,?_,hh,λk S=>?_,N0.ok hs h5 m5⟩
 ·have e:j5 size r i=none:=e;show Xn (rn (k+6) O9 [_,r.d,.int (i:Int)]) S _;rw [rn,a7 (fd:=cS) rfl,G2];exact noX dI<|yesX gF<|Xn.eq (a:=.int (size:Int)) rfl<|Xn.bind ((ee V hi k S).1 e)
 ·have e:j5 size r i=some r':=e;refine ⟨?_,VN.step V hi e⟩;have n2:=(ee V hi k S).2 (by rw [e];exact λz=>by cases z);rw [e] at n2;refine c9 ?_;rw [rn,a7 (fd:=cS) rfl,G2];exact no_ dI<|yes_ gF<|Ok.eq (a:=.int (size:Int)) rfl<|Ok.eq n2<|Ok.ret ⟨rfl,rfl⟩
 ·rw [rn,a7 (fd:=jC) rfl,Y9];refine yes_ gF<|Ok.eq (a:=.int (size:Int)) rfl<|Ok.bind ((sQ V hi k S).mono ?_);rintro _ S' ⟨rfl,ex⟩;refine Ok.ret ⟨?_,ex⟩;show gD (j5 size r i)=Mc.oD (dw size many) (j5 size r i);cases j5 size r i <;> rfl
 ·exact (Sml.tup (n:=0) (N:=60) (m:=3) (.cons Sml.w (.cons (Sml.nat (by omega)) (.cons (Sml.nat (by omega)) .nil))) (HV _)).mono (by decide) (by decide)
 ·refine c9 ?_;rw [rn,a7 (fd:=oY) rfl,Z1];have tr:((size:Int) * ((size+1:Nat):Int) / 2)=((tri size:Nat):Int):=by
   rw [<- JH];exact (JR (size * (size+1)) 2).symm
  refine Ok.eq (hh k S)<|no_ dI<|yes_ gF ?_;refine Ok.eq (a:=.int (size:Int)) rfl<|Ok.eq (a:=.int (size:Int)) rfl<|Ok.eq (i5 size 1 S)<|Ok.eq (K9 (.inl ⟨by omega,by omega⟩) S)<|Ok.eq (D7 (by decide) (by decide) S) ?_;rw [tr];exact Ok.eq (Ei hs h5 S)<|Ok.eq (Bp h1 m5 S)<|Ok.ret ⟨rfl,rfl⟩
end L3.K31
namespace L3.K31
open PySem PySem.Spec PyProof.Rows L2
theorem vn (I:Rw.BI bx hs) {a:Rw.Hd} (ha:a∈hs):a=.rests\/(1<=a.bx/\a.bx<=hs.length):=by
 obtain ⟨i,hi,e⟩:=Jv ha;have e:hs[i]?=some a:=by rw [HP hi,e]
 cases a with
 | rests=>exact .inl rfl
 | tries b=>exact .inr (I.tr i b e)
 | holds b=>
  obtain ⟨h1,h2⟩:=I.mh i b e;have:=(HN.mp h2).1;have:=I.len;refine .inr ⟨h1,?_⟩;show b<=hs.length;omega
theorem As (I:Rw.RI r):Sml 5 20000 r.d:=by
 have few:=I.b.few;have len:=I.b.len;have mx:=I.mx;have s1:Sml 1 400 (.tup (r.bx.map Rw.bD)):=(Sml.tup (n:=0) (N:=60) (m:=6) (Smls.map λo ho=>by
  cases o with
  | none=>exact Sml.non
  | some g=>
   obtain ⟨j,hj,e⟩:=Jv ho;have:=(HN.mp (I.b.mt j g (by rw [HP hj,e]))).1;exact Sml.nat (by omega)) (by rw [Hy];omega)).mono (by decide) (by decide)
 have s2:Sml 2 2000 (.tup (r.hs.map Rw.Hd.d)):=(Sml.tup (n:=1) (N:=200) (Smls.map λa ha=>by
  have:=vn I.b ha;cases a with
  | rests=>exact Sml.w
  | tries b=>
   rcases this with z | ⟨z,w⟩
   ·cases z
   ·have w:b<=r.hs.length:=w;exact (Sml.tup (n:=0) (N:=60) (m:=2) (.cons Sml.w (.cons (Sml.nat (by omega)) .nil)) (HV _)).mono (by decide) (by decide)
  | holds b=>
   rcases this with z | ⟨z,w⟩
   ·cases z
   ·have w:b<=r.hs.length:=w;exact (Sml.tup (n:=0) (N:=60) (m:=2) (.cons Sml.w (.cons (Sml.nat (by omega)) .nil)) (HV _)).mono (by decide) (by decide)) (by rw [Hy];omega)).mono (by decide) (by decide)
 exact (Sml.tup (m:=3) (.cons (s1.mono (by decide) (by decide)) (.cons s2 (.cons (Sml.nat (by omega)) .nil))) (HV _)).mono (by decide) (by decide)
theorem HB {n:Nat} (a:1<=n) (b:n<=6) (S:Sto):p6 (.tup [.non]) (.int (n:Int)) S=.ok (.tup ((Rw.r0 n).bx.map Rw.bD)) S/\p6 (.tup [.tup [.str "rests"]]) (.int (n:Int)) S=.ok (.tup ((Rw.r0 n).hs.map Rw.Hd.d)) S:=by
 rcases R.sixs a b with rfl | rfl | rfl | rfl | rfl | rfl <;> exact ⟨by kernel_rfl,by kernel_rfl⟩
def fw (many:Nat):Mc:=⟨Rw.Rw,Rw.Rw.d,λr=>Rw.RI r/\r.hs.length=many,λr i=>some (Rw.stepR r i),.tup [.str "row",.int (many:Int)],many,Rw.r0 many⟩
theorem jQ (c:1<=many) (b:many<=6):McOk (fw many):=by
 have d:∀ k S,rn (k+1) V4 [(fw many).md] S=.ok (.int (many:Int)) S:=λk S=>(w8 gO (λS=>rfl) k S).1;refine ⟨c,b,λr i k S V a e=>?_,λr j i k S V a e=>?_,λr i k S V a=>?_,λr=>⟨_,rfl⟩,λr V=>As V.1,?_,d,λk S=>?_,Rw.r0_ok b,by simp [fw,Rw.r0]⟩
 ·cases e
 ·have a:i<r.hs.length:=by rw [V.2];exact a
  cases e;refine ⟨?_,V.1.step a,(Rw.step_len r i).trans V.2⟩;have f:=R.step_ok V.1 a (k+2) S;refine c9 ?_;rw [rn,a7 rfl,G2];exact no_ ku<|no_ mf<|no_ gO<|Ok.eq f<|Ok.ret ⟨rfl,rfl⟩
 ·have a:i<r.hs.length:=by rw [V.2];exact a
  rw [rn,a7 rfl,Y9];exact no_ mf<|no_ gO<|yes_ AD<|Ok.eq (R.lstep_ok V.1 a k S)<|Ok.ret ⟨rfl,k0 _⟩
 ·exact (Sml.tup (n:=0) (N:=60) (m:=2) (.cons Sml.w (.cons (Sml.nat (by omega)) .nil)) (HV _)).mono (by decide) (by decide)
 ·refine c9 ?_;rw [rn,a7 rfl,Z1];obtain ⟨g,h⟩:=HB c b S;exact Ok.eq (d k S)<|no_ ku<|no_ mf<|no_ gO<|Ok.eq g<|Ok.eq h<|Ok.ret ⟨rfl,rfl⟩
end L3.K31
namespace L3.K31
open PySem PySem.Spec PyProof.Rows L2 L3.Nt
theorem jN {c b:Type} (l:List c) (f:c->b) (g:Nat->b) (h:∀ i a,l[i]?=some a->g i=f a):(List.range l.length).map g=l.map f:=by
 apply List.ext_getElem (by simp);grind
theorem iU {e st hd:D} {hs:List D} (h:Nat->D) (r:∀ S,ixD e (.int 0) S=.ok hd S) (s:∀ S,a9 .Eq hd (.str "decider") S=.ok (.bl false) S) (n:∀ S,ixD st (.int 1) S=.ok (.tup hs) S) (u:hs.length<=6) (k:Nat)
  (t:∀ (i:Nat) (a:D),hs[i]?=some a->∀ S q c (Q:Fl->Sto->Prop),(∀ b,Ok (nxt (evK Rs Γ (rn (k+4)) 39) A2 [nth h7 5] ret (.nx [some e,some st,some (.ref q),some (.int (i:Int)),some a,some (h i),b])) S Q)->Ok (nxt (evK Rs Γ (rn (k+4)) 39) A2 [nth h7 2,nth h7 3,nth h7 4,nth h7 5] ret (.nx [some e,some st,some (.ref q),some (.int (i:Int)),some a,some .non,c])) S Q) (S:Sto):Ok (rn (k+5) dW [e,st]) S λd S'=>d=.tup ((List.range hs.length).map h)/\Ex S S':=by
 rw [rn,a7 rfl,iu,jM];refine Ok.first<|Ok.cg (xw ..)<|Ok.eq (r S)<|Ok.eq (s S)<|Ok.eq (i8 _ S)<|Ok.neg (by decide)<|Ok.nxt<|Ok.cg (DB ..)<|Ok.eq (rfl)<|Ok.nxt<|Ok.cg (Cb ..)<|Ok.eq (n _)<|Ok.eq (j2 _ _)<|Ok.eq (q9 (by omega) _)<|Ok.bind ((Ok.loop (λi ρ S'=>S'=S++[.lst ((List.range i).map h)]/\∃ f j g c:Option D,ρ=[some e,some st,some (.ref S.length),f,j,g,c]) (λρ S' _=>p0 _ S') ?_ ⟨rfl,_,_,_,_,rfl⟩).mono ?_)
 ·rintro i ρ _ m ⟨rfl,f,j,g,c,rfl⟩;refine ⟨.int (i:Int),_,v8 m _,rfl,?_⟩;unfold eV;rw [fk];have l:=HP m;have p:∀ o:O,(S++[o])[S.length]?=some o:=λo=>by simp
  refine Ok.first<|Ok.cg (mT ..)<|Ok.eq (n _)<|Ok.eq (m3 _ l)<|Ok.nxt<|Ok.cg (lD ..)<|t i _ l _ _ _ _ λb=>?_;refine Ok.nxt<|Ok.cg (mN ..)<|Ok.eq (X7 (p _))<|Ok.eq (bN (p _) (by rw [Hy,Il,Iq];omega))<|Ok.ret ⟨_,.inl rfl,?_,_,_,_,_,rfl⟩;rw [aA,JI,IN];rfl
 ·rintro _ _ ⟨ρ,rfl,rfl,f,j,g,c,rfl⟩;exact Ok.nxt<|Ok.cg (Ed ..)<|Ok.eq (gN (by simp))<|Ok.ret ⟨rfl,_,rfl⟩
theorem gu {b:Type} {c st hd:D} {l:List b} {h:b->D} {p:b->Bool} (f:∀ S,ixD c (.int 0) S=.ok hd S) (g:∀ S,a9 .Eq hd (.str "decider") S=.ok (.bl false) S) (i:∀ S,ixD st (.int 1) S=.ok (.tup (l.map h)) S) (m:l.length<=6)
  (e:∀ a∈l,∀ S,a9 .NotIn (h a) (.lst [(.tup [(.str "out")]),(.tup [(.str "rests")]),(.tup [(.tup []),(.str "out")])]) S=.ok (.bl (p a)) S) (k:Nat) (S:Sto):Ok (rn (k+5) gq [c,st]) S λd S'=>d=.int ((l.filter p).length:Nat)/\Ex S S':=by
 rw [rn,a7 rfl,jh];refine Ok.eq (f S)<|Ok.eq (g S)<|Ok.eq (i8 _ S)<|Ok.neg (by decide)<|nx_bind<|Ok.eq (i S)<|Ok.eq (t5 _ S) ?_;rw [Hy];refine ⟨_,_,(e6 (p:=p) (by rw [Iq];omega) (λa j=>?_) (λa _ _=>rfl)),?_⟩
 ·rw [a8 (e a j S)];rfl
 ·exact Ok.eq (show e8 (.lst ((l.filter p).map h)) S=.ok (.int ((l.filter p).length:Nat)) S by show R.ok (D.int ((((l.filter p).map h).length:Nat):Int)) S=_;rw [Hy])<|Ok.ret ⟨rfl,k0 _⟩
end L3.K31
namespace L3.K31
open PySem PySem.Spec PyProof.Rows L2
theorem kG {c:Type} {f:c->D} {q:PyData} {p:c->Bool}:∀ {l:List c},(∀ a∈l,PyData.eqv (py (f a)) q=p a)->((pys (l.map f)).countP λz=>PyData.eqv z q)=l.countP p
 | [],_=>rfl
 | a :: l,h=>by
  show ((py (f a) :: pys (l.map f)).countP λz=>PyData.eqv z q)=_;rw [Jy,Jy,kG (λb d=>h b (Ic _ d)),h a (HY ..)]
theorem dL {b:Type} {l:List b} {f:b->D} {q:D} {n N:Nat} {p:b->Bool} (s:Smls n N (l.map f)) (c:Sml n N q) (k:n<=42) (h:∀ a∈l,PyData.eqv (py (f a)) (py q)=p a) (S:Sto):countG (.tup (l.map f)) [q] S=.ok (.int ((l.countP p:Nat):Int)) S:=by
 have j:=dB λd hd=>(s d hd).dp;have pl:=Plns.of λd hd=>(s d hd).pl;have e:f9 64 S (.tup (l.map f))=some (.tuple (pys (l.map f))):=Q7 S (.tup (l.map f)) 64 pl (by show dps (l.map f)+1<64;omega);have m:=c.dp;have g:=Q7 S q 64 c.pl (by omega);have i:=Q9 q;show (match f9 64 S (.tup (l.map f)),f9 64 S q with
  | some (.tuple ps),some q=>(if q.canLay0=true/\PyData.canLayAll0 ps=true/\min (PyData.depthAll ps) q.depth<=60 then ret (D.int ((ps.countP λz=>PyData.eqv z q:Nat):Int)) else bad) S
  | _,_=>.bad)=_
 rw [e,g];dsimp only;rw [if_pos ⟨hE _ c.pl,Z3 _ pl,by omega⟩,kG h];rfl
theorem eF {b:Type} (l:List b) (p:b->Bool):l.length-l.countP p=l.countP λa=>!p a:=by
 have:=List.length_eq_countP_add_countP (l:=l);grind
def three:List PyData:=[.tuple [.str "out"],.tuple [.str "rests"],.tuple [.tuple [],.str "out"]]
theorem zD (s:Sml n N (.tup ds)) (b:n<=42) (S:Sto):a9 .NotIn (.tup ds) (.lst [(.tup [(.str "out")]),(.tup [(.str "rests")]),(.tup [(.tup []),(.str "out")])]) S=.ok (.bl (!(three.any λy=>PyData.eqv y (.tuple (pys ds))))) S:=by
 have d:=s.dp;have t:=Q7 S (.tup ds) 64 s.pl (by omega);have c:PyData.depth (.tuple (pys ds))<=L3.dp (.tup ds):=Q9 (.tup ds);have a:f9 64 S (.lst [(.tup [(.str "out")]),(.tup [(.str "rests")]),(.tup [(.tup []),(.str "out")])])=some (.list three):=by kernel_rfl
 show inD true (.tup ds) _ S=_;unfold inD;rw [t,a];show ko true (.tuple (pys ds)) three S=_;unfold ko;rw [if_pos ⟨hE (.tup ds) s.pl,by decide +kernel,by omega⟩];rfl
end L3.K31
namespace L3.K31.R
open PySem PySem.Spec PyProof.Rows L2 L3.Rw
theorem oP (a:Hd) (S:Sto):(bind (ixD a.d (.int 0)) λw=>bind (a9 .Eq w (.str "holds")) λe=>bind (asB e) λz=>if z=true then (bind (ixD a.d (.int 1)) λx=>ret x) else (ret .non)) S=.ok a.nm S:=by cases a <;> kernel_rfl
theorem z47_ok {r:Rw} {k:Nat} (h:r.hs.length<=6) (S:Sto):rn (k+1) zK [r.d] S=.ok (.tup (r.hs.map Hd.nm)) S:=by
 have e:=e6 (t:=λ_=>ret true) (f:=λd=>bind (ixD d (.int 0)) λw=>bind (a9 .Eq w (.str "holds")) λe=>bind (asB e) λz=>if z=true then (bind (ixD d (.int 1)) λx=>ret x) else (ret .non)) (W2 h) (λa _=>rfl) (λa _ _=>oP a S);rw [Jf.mpr (by simp)] at e;rw [rn,a7 rfl,wC];refine (nxb ?_).trans rfl;rw [a8 (show ixD r.d (.int 1) S=.ok (.tup (r.hs.map Hd.d)) S from rfl),a8 (t5 _ S)];grind
theorem z54_ok {n:Nat} (a:1<=n) (b:n<=6) (k:Nat) (S:Sto):rn (k+1) An [.int (n:Int)] S=.ok (r0 n).d S:=by
 rw [rn,a7 rfl,ti];rcases sixs a b with rfl | rfl | rfl | rfl | rfl | rfl <;> kernel_rfl
end L3.K31.R
namespace L3.K31
open PySem PySem.Spec PyProof.Rows L2
def rnm (r:Rw.Rw) (i:Nat):D:=(r.hs[i]?.map Rw.Hd.nm).getD .non
theorem rin (a:Rw.Hd) (ds:List D) (e:a.d=.tup ds):(three.any λy=>PyData.eqv y (.tuple (pys ds)))=!a.at:=by cases a <;> cases e <;> kernel_rfl
theorem Gz (a:Rw.Hd):∃ ds,a.d=.tup ds:=by cases a <;> exact ⟨_,rfl⟩
theorem rsm (h6:many<=6) {r:Rw.Rw} (V:Rw.RI r) (hl:r.hs.length=many) {a:Rw.Hd} (ha:a∈r.hs):Sml 1 200 a.d:=by
 have q:=vn V.b ha;cases a with
 | rests=>exact Sml.w
 | tries b=>exact (Sml.tup (n:=0) (N:=60) (m:=2) (.cons Sml.w (.cons (Sml.nat (by rcases q with q | q;cases q;have:b<=_:=q.2;omega)) .nil)) (HV _)).mono (by decide) (by decide)
 | holds b=>exact (Sml.tup (n:=0) (N:=60) (m:=2) (.cons Sml.w (.cons (Sml.nat (by rcases q with q | q;cases q;have:b<=_:=q.2;omega)) .nil)) (HV _)).mono (by decide) (by decide)
theorem uB (h1:1<=many) (h6:many<=6):McTl (fw many):=by
 have ho:∀ k S,rn (k+1) W3 [(fw many).md] S=.ok (.int (many:Int)) S:=λk S=>(w8 gO (λS=>rfl) k S).2;refine ⟨ho,λr V=>⟨.tup (r.hs.map Rw.Hd.nm),?_,λk S=>?_,λk S=>?_⟩,λr V=>⟨(r.hs.filter Rw.Hd.at).length,?_,λk S=>?_,λk S=>?_⟩,kD (jQ h1 h6) false (λS=>ix0 _ _ S) (λS=>by kernel_rfl) λk S=>?_⟩
 ·have V2:=V.2;refine (Sml.tup (n:=0) (N:=60) (m:=6) (Smls.map λa ha=>?_) (by rw [Hy];omega)).mono (by decide) (by decide);have q:=vn V.1.b ha;cases a with
  | rests=>exact Sml.non
  | tries b=>exact Sml.non
  | holds b=>exact Sml.nat (by rcases q with q | q;cases q;have:b<=_:=q.2;omega)
 ·have V2:=V.2;rw [rn,a7 rfl,Z8];exact no_ ku<|no_ mf<|no_ gO<|Ok.eq (R.z47_ok (by omega) S)<|Ok.ret ⟨rfl,k0 _⟩
 ·have V2:=V.2;have h:=iU (e:=(fw many).md) (st:=r.d) (rnm r) (λS=>ix0 _ _ S) ku (λS=>m3 S rfl) (by rw [Hy];omega) (k+1) (λi here hh S q o6 Q fin=>?_) S
  ·refine h.mono ?_;rintro _ S' ⟨rfl,ex⟩;refine ⟨?_,ex⟩;rw [Hy];exact congrArg D.tup (jN r.hs Rw.Hd.nm (rnm r) λi a ha=>by unfold rnm;rw [ha];rfl)
  ·rw [Ie,Jw] at hh;obtain ⟨a,ha,rfl⟩:=hh;have en:rnm r i=a.nm:=by unfold rnm;rw [ha];rfl
   rw [en] at fin;have skip:∀ (x:D) (o6:Option D),x=a.nm->Ok (nxt (evK Rs Γ (rn (k+5)) 39) A2 [nth h7 4,nth h7 5] ret (.nx [some (.tup [.str "row",.int (many:Int)]),some r.d,some (.ref q),some (.int (i:Int)),some a.d,some x,o6])) S Q:=by
    rintro _ o6 rfl;exact Ok.nxt<|Ok.cg (T9 ..)<|no_ gO<|fin _
   refine Ok.nxt<|Ok.cg (W1 ..)<|no_ mf<|Ok.nxt<|Ok.cg (U9 ..)<|yes_ AD ?_;cases a with
   | rests=>exact Ok.eq rfl<|Ok.eq (a:=.bl false) (by kernel_rfl)<|Ok.eq rfl<|Ok.neg (by decide)<|skip _ _ rfl
   | tries b=>exact Ok.eq rfl<|Ok.eq (a:=.bl false) (by kernel_rfl)<|Ok.eq rfl<|Ok.neg (by decide)<|skip _ _ rfl
   | holds b=>exact Ok.eq rfl<|Ok.eq (a:=.bl true) (by kernel_rfl)<|Ok.eq rfl<|Ok.pos rfl<|Ok.eq rfl<|skip _ _ rfl
 ·have V2:=V.2;have:=IS Rw.Hd.at r.hs;omega
 ·have V2:=V.2;rw [rn,a7 rfl,Z2];exact yes_ AD<|Ok.eq (m3 S rfl)<|Ok.eq (R.work_ok (by omega))<|Ok.ret ⟨rfl,k0 _⟩
 ·have V2:=V.2;exact gu (λS=>ix0 _ _ S) ku (λS=>m3 S rfl) (by omega) (λa ha S=>by
   have s:=rsm h6 V.1 V2 ha;obtain ⟨ds,e⟩:=Gz a;rw [e] at s ⊢;rw [zD s (by decide),rin a ds e,Bool.not_not]) k S
 ·refine c9 ?_;rw [rn,a7 rfl];rw [aD];exact Ok.eq (ho (k+2) S)<|no_ ku<|no_ mf<|no_ gO<|Ok.eq (R.z54_ok h1 h6 (k+2) S)<|Ok.ret ⟨rfl,rfl⟩
end L3.K31
namespace L3.K31
open PySem PySem.Spec PyProof.Rows L2 L3.Nt
structure Dst where
 ma:Option Nat
 cl:Bool
 ws:List W7
def Dst.d (r:Dst):D:=.tup [oD r.ma,.bl r.cl,.tup (r.ws.map W7.d)]
def b7 (mk:Option Nat) (cl:Bool) (i:Nat):W7->Option (Option Nat×Bool×W7)
 | .out=>some (some i,cl,.ask)
 | .ask=>some (mk,cl,if cl=true then .right else .close)
 | .close=>some (mk,true,.look)
 | .look=>some (mk,cl,if mk=some i then .holds else .down)
 | _=>none
theorem xI (mk:Option Nat) (cl:Bool) (i:Nat) (w:W7):bh7 mk cl i w=(b7 mk cl i w).map λx=>(x.1,x.2.1,x.2.2.s):=by
 cases w with
 | ask=>cases cl <;> rfl
 | look=>
  show some (mk,cl,if mk=some i then ("holds" : Str) else "down")=some (mk,cl,(if mk=some i then W7.holds else .down).s);by_cases q:mk=some i
  ·rw [if_pos q,if_pos q];rfl
  ·rw [if_neg q,if_neg q];rfl
 | _=>rfl
def bP (r:Dst) (i:Nat):Option Dst:=match r.ws[i]? with
 | none=>none
 | some w=>(b7 r.ma r.cl i w).map λx=>⟨x.1,x.2.1,r.ws.set i x.2.2⟩
theorem uR {i:Nat} {w:W7} (h:r.ws[i]?=some w):bP r i=(b7 r.ma r.cl i w).map λx=>⟨x.1,x.2.1,r.ws.set i x.2.2⟩:=by unfold bP;rw [h]
structure DI (many:Nat) (r:Dst):Prop where
 l:r.ws.length=many
 m:∀ g,r.ma=some g->g<many
theorem DI.step (V:DI many r) {i:Nat} (d:i<many) (e:bP r i=some r'):DI many r':=by
 obtain ⟨w,h⟩:∃ w,r.ws[i]?=some w:=⟨_,HP (by rw [V.l];exact d)⟩;rw [uR h] at e;obtain ⟨⟨m,c,x⟩,b,f⟩:=Jw.mp e;subst f;refine ⟨by show (r.ws.set i x).length=many;rw [Ij];exact V.l,λg a=>?_⟩;have a:=a;cases w <;> first | (cases b;done) | (cases b;first | (cases a;exact d) | exact V.m g a)
theorem yy (V:DI many r) (h6:many<=6):Sml 5 20000 r.d:=by
 have l:=V.l;have a:Sml 1 400 (oD r.ma):=by
  cases e:r.ma with
  | none=>exact Sml.non
  | some g=>exact Sml.nat (by have:=V.m g e;omega)
 have b:Sml 1 400 (.tup (r.ws.map W7.d)):=(Sml.tup (n:=0) (N:=60) (m:=6) (Smls.map λw _=>by cases w <;> exact Sml.w) (by rw [Hy];omega)).up;exact (Sml.tup (m:=3) (.cons a (.cons Sml.bl (.cons b .nil))) (HV _)).mono (by decide) (by decide)
theorem tF {i:Nat} {w:W7} {ws:List D} (c:ws[i]?=some w.d) (b:b7 mk cl i w=none) (d:i<100) (k:Nat) (S:Sto):Xn (rn (k+2) aY [.tup [oD mk,.bl cl,.tup ws],.int (i:Int)]) S λn S'=>n=S.length/\S'=S++[exS i]:=by
 rw [rn,a7 rfl,gU,iI];refine Xn.first<|Xn.cg (AY ..)<|Xn.eq rfl<|Xn.nxt<|Xn.cg (AS ..)<|Xn.eq (m3 S c)<|Xn.nxt<|Xn.cg (zp ..)<|Xn.eq (a:=.bl true) ?_<|Xn.eq rfl<|Xn.pos rfl<|raise_k rfl (uE (dG ⟨by omega,by omega⟩));cases w <;> first | (cases b;done) | kernel_rfl
def BD:W7->Wd
 | .out=>.out
 | .ask=>.ask
 | .close=>.close
 | .look=>.look
 | _=>.holds
theorem yk {i:Nat} {w x:W7} {m:Option Nat} {c:Bool} {ws:List W7} (g:ws[i]?=some w) (b:ws.length<=6) (e:b7 mk cl i w=some (m,c,x)) (k:Nat) (S:Sto):rn (k+2) aY [.tup [oD mk,.bl cl,.tup (ws.map W7.d)],.int (i:Int)] S=.ok (Dst.d ⟨m,c,ws.set i x⟩) S:=by
 have d:bh mk cl i (BD w)=some (m,c,x.s):=by
  have:=xI mk cl i w;rw [e] at this;rw [<- xh];cases w <;> first | exact this | (cases e)
 have f:BD w≠.holds:=by cases w <;> first | (intro z;cases z;done) | (cases e)
 have a:(BD w).d=w.d:=by cases w <;> first | rfl | (cases e)
 have:=gz (mk:=mk) (cl:=cl) (by rw [d3 g,a]) (by rw [Hy];exact b) f k S;rw [this];unfold bhD;rw [d];show R.ok (D.tup [oD m,.bl c,.tup ((ws.map W7.d).set i (.str x.s))]) S=_;rw [show D.str x.s=x.d from rfl,<- Iy];rfl
theorem DR {n:Nat} (b:1<=n) (a:n<=6) (S:Sto):p6 (.tup [.str "out"]) (.int (n:Int)) S=.ok (.tup ((List.replicate n W7.out).map W7.d)) S:=by
 rcases R.sixs b a with rfl | rfl | rfl | rfl | rfl | rfl <;> kernel_rfl
def dE (many:Nat):Mc:=⟨Dst,Dst.d,DI many,bP,.tup [.str "decider",.int (many:Int)],many,⟨none,false,List.replicate many .out⟩⟩
theorem iw (l:1<=many) (h:many<=6):McOk (dE many):=by
 have o:∀ k S,rn (k+1) V4 [(dE many).md] S=.ok (.int (many:Int)) S:=λk S=>(w8 yw (λS=>rfl) k S).1;refine ⟨l,h,λr i k S V b e=>?_,λr v i k S V b e=>?_,λr i k S V b=>?_,λr=>⟨_,rfl⟩,λr V=>yy V h,?_,o,λk S=>?_,by show (List.replicate many W7.out).length=many;simp,λg t=>by cases t⟩
 ·have V:DI many r:=V;have b:i<many:=b;obtain ⟨w,f⟩:∃ w,r.ws[i]?=some w:=⟨_,HP (by rw [V.l];exact b)⟩;have e:bP r i=none:=e;rw [uR f,Option.map_eq_none_iff] at e;have q:=tF (ws:=r.ws.map W7.d) (d3 f) e (by omega) (k+3) S;show Xn (rn (k+6) O9 [_,r.d,.int (i:Int)]) S _;rw [rn,a7 (fd:=cS) rfl,G2];exact yesX dD<|Xn.bind q
 ·have V:DI many r:=V;have b:i<many:=b;have e:bP r i=some v:=e;refine ⟨?_,V.step b e⟩;obtain ⟨w,f⟩:∃ w,r.ws[i]?=some w:=⟨_,HP (by rw [V.l];exact b)⟩;rw [uR f] at e;obtain ⟨⟨m,c,x⟩,u,s⟩:=Jw.mp e;subst s;have p:=yk f (by rw [V.l];exact h) u (k+3) S;refine c9 ?_;show Ok (rn (k+6) O9 [_,r.d,.int (i:Int)]) S _;rw [rn,a7 (fd:=cS) rfl,G2];exact yes_ dD<|Ok.eq p<|Ok.ret ⟨rfl,rfl⟩
 ·have V:DI many r:=V;have b:i<many:=b;obtain ⟨w,f⟩:∃ w,r.ws[i]?=some w:=⟨_,HP (by rw [V.l];exact b)⟩;show Ok (rn (k+3) pz [_,r.d,.int (i:Int)]) S λd S'=>d=Mc.oD (dE many) (bP r i)/\Ex S S';rw [rn,a7 (fd:=jC) rfl,Y9,uR f];refine no_ Gg<|no_ yw<|no_ Dv ?_;refine Ok.eq (a:=oD r.ma) rfl<|Ok.eq (a:=.bl r.cl) rfl<|Ok.eq (a:=.tup (r.ws.map W7.d)) rfl<|Ok.eq (m3 S (d3 f))<|Ok.bind ((bL r.ma r.cl i w (k+1) S).mono ?_);rintro _ S1 ⟨rfl,j⟩;rw [xI];cases e:b7 r.ma r.cl i w with
  | none=>exact Ok.eq (a:=.bl true) rfl<|Ok.eq (a:=true) rfl<|Ok.pos rfl<|Ok.ret ⟨rfl,j⟩
  | some y=>
   obtain ⟨m,c,x⟩:=y;refine Ok.eq (a:=.bl false) rfl<|Ok.eq (a:=false) rfl<|Ok.neg (by decide)<|Ok.eq rfl<|Ok.eq rfl<|Ok.eq (a:=x.d) rfl<|Ok.eq (L0 (by rw [Hy,V.l];exact b) (by rw [Hy,V.l];omega)) ?_;rw [<- Iy];exact Ok.eq rfl<|Ok.ret ⟨rfl,j⟩
 ·exact (Sml.tup (n:=0) (N:=100) (m:=2) (.cons Sml.w (.cons (Sml.nat (by omega)) .nil)) (HV _)).mono (by decide) (by decide)
 ·refine c9 ?_;rw [rn,a7 rfl,Z1];exact Ok.eq (o k S)<|yes_ dD<|Ok.eq (DR l h S)<|Ok.ret ⟨rfl,rfl⟩
theorem GA (n:Nat) (S:Sto):rm [.int (n:Int),.int 5] S=.ok (.int ((min n 5:Nat):Int)) S:=by
 show R.ok (D.int (if (5:Int)<(n:Int) then 5 else (n:Int))) S=_;grind
def nmW:W7->D
 | .holds=>.int 1
 | _=>.non
def isO:W7->Bool
 | .out=>true
 | _=>false
theorem dnm {ws:List W7} (d:ws.length<=6) (S:Sto):e9 (U8 (ws.map W7.d)) (λb=>ret true) (λb=>bind (a9 .Eq b (.str "holds")) λx7=>bind (asB x7) λc=>if c=true then (ret (.int 1)) else (ret .non)) (ws.length+1) 0 [] S=.ok (ws.map nmW) S:=by
 have e:=e6 (l:=ws) (h:=W7.d) (g:=nmW) (t:=λb=>ret true) (f:=λb=>bind (a9 .Eq b (.str "holds")) λx7=>bind (asB x7) λc=>if c=true then (ret (.int 1)) else (ret .non)) (S:=S) (by rw [Iq];omega) (λa _=>rfl) (λa _ _=>by cases a <;> kernel_rfl);rw [Jf.mpr (by simp)] at e;exact e
theorem dwk {ws:List W7} (d:ws.length<=6) (S:Sto):e9 (U8 (ws.map W7.d)) (λb=>bind (a9 .NotEq b (.str "out")) λx7=>bind (asB x7) λc=>ret c) (λb=>ret b) (ws.length+1) 0 [] S=.ok ((ws.filter λw=>!isO w).map W7.d) S:=
 e6 (by rw [Iq];omega) (λa _=>by cases a <;> kernel_rfl) (λa _ _=>rfl)
theorem EG (w:W7):Sml 0 60 w.d:=by cases w <;> exact Sml.w
theorem sN (g:1<=many) (d:many<=6):McTl (dE many):=by
 have f:∀ k S,rn (k+1) W3 [(dE many).md] S=.ok (.int (many:Int)) S:=λk S=>(w8 yw (λS=>rfl) k S).2;have b:∀ (r:Dst) (S:Sto),ixD r.d (.int 2) S=.ok (.tup (r.ws.map W7.d)) S:=λr S=>rfl;refine ⟨f,λr V=>⟨.tup (r.ws.map nmW),?_,λk S=>?_,λk S=>?_⟩,λr V=>⟨r.ws.countP λw=>!isO w,?_,λk S=>?_,λk S=>?_⟩,kD (iw g d) false (λS=>ix0 _ _ S) (λS=>by kernel_rfl) λk S=>?_⟩
 all_goals try have c:r.ws.length<=6:=by rw [DI.l V];exact d
 ·exact (Sml.tup (n:=0) (N:=60) (Smls.map λa _=>by cases a <;> first | exact Sml.non | exact Sml.w) (by rw [Hy];exact c)).mono (by decide) (by decide)
 ·show Ok (rn (k+6) dX [.tup [.str "decider",_],r.d]) S _;rw [rn,a7 rfl,Z8];refine yes_ dD<|nx_bind<|Ok.eq (b r S)<|Ok.eq (t5 _ S) ?_;rw [Hy];exact ⟨_,_,dnm c S,Ok.eq rfl<|Ok.ret ⟨rfl,k0 _⟩⟩
 ·show Ok (rn (k+6) dW [.tup [.str "decider",_],r.d]) S _;rw [rn,a7 rfl,iu,jM];refine Ok.first<|Ok.cg (xw ..)<|yes_ dD<|nx_bind<|Ok.eq (b r S)<|Ok.eq (t5 _ S) ?_;rw [Hy];exact ⟨_,_,dnm c S,Ok.eq rfl<|Ok.ret ⟨rfl,k0 _⟩⟩
 ·grind
 ·show Ok (rn (k+5) cp [.tup [.str "decider",_],r.d]) S _;rw [rn,a7 rfl,Z2];have j:rn (k+4) hJ [.tup [.str "decider",.int (many:Int)]] S=.ok (.str "out") S:=by
   refine c9 ?_;rw [rn,a7 rfl,eD];exact yes_ dD<|Ok.ret ⟨rfl,rfl⟩
  have i:=dL (l:=r.ws) (q:=.str "out") (p:=isO) (Smls.map λa _=>EG a) Sml.w (by decide) (λa _=>by cases a <;> kernel_rfl) S;have h:=IH (p:=isO) (l:=r.ws);have e:A6 (.int ((r.ws.map W7.d).length:Nat)) (.int ((r.ws.countP isO:Nat):Int)) S=.ok (.int ((r.ws.countP λw=>!isO w:Nat):Int)) S:=by
   rw [Hy,n4 h,eF]
  exact no_ Dv<|yes_ dD<|Ok.eq (b r S)<|Ok.eq (j2 _ S)<|Ok.eq rfl<|Ok.eq j<|Ok.eq i<|Ok.eq e<|Ok.ret ⟨rfl,k0 _⟩
 ·show Ok (rn (k+5) gq [.tup [.str "decider",_],r.d]) S _;rw [rn,a7 rfl,jh];refine yes_ dD<|nx_bind<|Ok.eq (b r S)<|Ok.eq (t5 _ S) ?_;rw [Hy];refine ⟨_,_,dwk c S,Ok.eq ?_<|Ok.ret ⟨rfl,k0 _⟩⟩;show R.ok (D.int ((((r.ws.filter λw=>!isO w).map W7.d).length:Nat):Int)) S=_;rw [Hy,<- IE]
 ·refine c9 ?_;rw [rn,a7 rfl];rw [aD];have fd:rn (k+3) Eg [.int (many:Int)] S=.ok ((dE many).d (dE many).s0) S:=by
   refine c9 ?_;rw [rn,a7 rfl,BL];exact Ok.eq (DR g d S)<|Ok.ret ⟨rfl,rfl⟩
  exact Ok.eq (f (k+2) S)<|yes_ dD<|Ok.eq fd<|Ok.ret ⟨rfl,rfl⟩
theorem HL (h:Hnd):PyData.eqv (py (hdD h)) (.tuple (pys [.tup [],.str "out"]))=!busy h:=by
 obtain ⟨t,w⟩:=h;cases t with
 | nil=>cases w <;> kernel_rfl
 | cons b t=>cases w <;> rfl
theorem n3 (h:Hnd):(three.any λy=>PyData.eqv y (.tuple (pys [trD h.1,h.2.d])))=!busy h:=by
 obtain ⟨t,w⟩:=h;cases t with
 | nil=>cases w <;> kernel_rfl
 | cons b t=>cases w <;> rfl
section
variable {size many:Nat} {r:Nst} (V:VN size many r) (k:Nat) (S:Sto)
include V
theorem tR:rn (k+5) BA [.int (size:Int),r.d] S=.ok (.tup (nmR r)) S:=by
 have h5:=V.s5;have m5:=V.m5;have hl:=V.hl;have nm:∀ h∈r.hs,rn (k+4) rY [hdD h] S=.ok (if isH h=true then .int (nmN h:Int) else .non) S:=λh hh=>by
  have ht:=V.tr h hh;obtain ⟨t,w⟩:=h;have ht:t.length<size:=ht;refine c9 ?_;rw [rn,a7 rfl,wM];by_cases q:w=.holds
  ·subst q;have ec:rn (k+3) AJ [hdD (t,Wd.holds)] S=.ok (.tup [.int (dn t:Int),.int (rt t:Int)]) S:=by
    refine c9 ?_;rw [rn,a7 rfl,wZ];exact Ok.eq rfl<|Ok.eq (U4 t (k+1) S)<|Ok.ret ⟨rfl,rfl⟩
   have en:=eG (dn t) (rt t) (by rw [Q6];omega) (k+1) S;refine Ok.eq rfl<|Ok.eq rfl<|Ok.eq rfl<|Ok.pos rfl<|Ok.eq ec<|Ok.eq en<|Ok.eq (i5 _ 1 S)<|Ok.ret ⟨?_,rfl⟩;rw [if_pos (show isH (t,.holds)=true from rfl)];show D.int ((tri (dn t+rt t)+dn t+1:Nat):Int)=.int ((p9 t+1:Nat):Int);unfold p9;rw [Q6]
  ·have e:isH (t,w)=false:=oi q;rw [e,if_neg HU];cases w with
   | holds=>exact absurd rfl q
   | _=>exact Ok.eq rfl<|Ok.eq rfl<|Ok.eq (a:=false) rfl<|Ok.neg (by decide)<|Ok.ret ⟨rfl,rfl⟩
 refine c9 ?_;rw [rn,a7 rfl,vB];have c:=e6 (l:=r.hs) (t:=λ_=>ret true) (f:=λd1=>bind (rn (k+4) rY [d1]) λx4=>ret x4) (W2 (by omega)) (λ_ _=>rfl) (λa ha _=>by rw [a8 (nm a ha)];rfl);rw [Jf.mpr (λ_ _=>rfl)] at c;refine nx_bind<|Ok.eq rfl<|Ok.eq (t5 _ S) ?_;simp;exact Ok.of c<|Ok.eq rfl<|Ok.ret ⟨rfl,rfl⟩
end
def nnm (r:Nst) (i:Nat):D:=(r.hs[i]?.map λh=>if isH h=true then D.int (nmN h:Int) else .non).getD .non
theorem uQ {size many:Nat} (h1:1<=many) (hs:1<=size) (h5:size<=5) (m5:many<=5):McTl (dw size many):=by
 have ho:∀ k S,rn (k+1) W3 [(dw size many).md] S=.ok (.int (many:Int)) S:=λk S=>(w8 BX (λS=>rfl) k S).2;refine ⟨ho,λr V=>⟨.tup (nmR r),?_,λk S=>?_,λk S=>?_⟩,λr V=>⟨r.hs.countP busy,?_,λk S=>?_,λk S=>?_⟩,kD (jR h1 hs h5 m5) true (λS=>ix0 _ _ S) (λS=>by kernel_rfl) λk S=>?_⟩
 all_goals try have V:=V
 all_goals try have hl:=V.hl
 ·refine (Sml.tup (n:=0) (N:=60) (m:=6) (Smls.map λh hh=>?_) (by rw [Hy];omega)).mono (by decide) (by decide);have ht:=V.tr h hh;split
  ·exact Sml.nat (by have:=iV h5 ht;have:=jW h5;unfold nmN;omega)
  ·exact Sml.non
 ·show Ok (rn (k+6) dX [.tup [.str "net",_,_],r.d]) S _;rw [rn,a7 rfl,Z8];exact no_ dI<|yes_ gF<|Ok.eq rfl<|Ok.eq (tR V k S)<|Ok.ret ⟨rfl,k0 _⟩
 ·have h:=iU (e:=(dw size many).md) (st:=r.d) (nnm r) (λS=>ix0 _ _ S) dI (λS=>m3 S rfl) (by rw [Hy];omega) (k+1) (λi here hh S q o6 Q fin=>?_) S
  ·refine h.mono ?_;rintro _ S' ⟨rfl,ex⟩;refine ⟨?_,ex⟩;rw [Hy];exact congrArg D.tup (jN r.hs _ (nnm r) λi a ha=>by unfold nnm;rw [ha];rfl)
  ·rw [Ie,Jw] at hh;obtain ⟨a,ha,rfl⟩:=hh;have en:nnm r i=if isH a=true then D.int (nmN a:Int) else .non:=by unfold nnm;rw [ha];rfl
   have htr:=V.tr a (Io ha);rw [en] at fin;obtain ⟨t,w⟩:=a;have htr:t.length<size:=htr;have skip:∀ (x:D) (o6:Option D),x=(if isH (t,w)=true then D.int (nmN (t,w):Int) else .non)->Ok (nxt (evK Rs Γ (rn (k+5)) 39) A2 [nth h7 3,nth h7 4,nth h7 5] ret (.nx [some (.tup [.str "net",.int (size:Int),.int (many:Int)]),some r.d,some (.ref q),some (.int (i:Int)),some (hdD (t,w)),some x,o6])) S Q:=by
    rintro _ o6 rfl;exact Ok.nxt<|Ok.cg (U9 ..)<|no_ Cd<|Ok.nxt<|Ok.cg (T9 ..)<|no_ BX<|fin _
   refine Ok.nxt<|Ok.cg (W1 ..)<|yes_ gF ?_;by_cases qh:w=.holds
   ·subst qh;have l2:∀ S,e8 (trD t) S=.ok (.int (t.length:Int)) S:=λS=>(j2 _ S).trans (by rw [Hy]);refine Ok.eq rfl<|Ok.eq (a:=.bl true) (by kernel_rfl)<|Ok.eq rfl<|Ok.pos rfl<|Ok.eq rfl<|Ok.eq (l2 S)<|Ok.eq rfl<|Ok.eq (l2 S)<|Ok.eq (i5 t.length 1 S)<|Ok.eq (K9 (.inl ⟨by omega,by omega⟩) S)<|Ok.eq (D7 (by decide) (by decide) S) ?_;have nn:((t.length:Int) * ((t.length+1:Nat):Int) / 2)=((tri t.length:Nat):Int):=by
     rw [<- JH];exact (JR (t.length * (t.length+1)) 2).symm
    rw [nn];refine Ok.eq rfl<|Ok.eq rfl<|Ok.eq (dq t S)<|Ok.eq (i5 _ _ S)<|Ok.eq (i5 _ 1 S)<|skip _ _ ?_;rw [if_pos (show isH (t,.holds)=true from rfl)];rfl
   ·have e:isH (t,w)=false:=oi qh;refine Ok.eq rfl<|Ok.eq (a:=.bl false) (by cases w <;> first | exact absurd rfl qh | kernel_rfl)<|Ok.eq rfl<|Ok.neg (by decide)<|skip _ _ ?_;rw [e,if_neg HU]
 ·grind
 ·show Ok (rn (k+5) cp [.tup [.str "net",_,_],r.d]) S _;rw [rn,a7 rfl,Z2];have fh:rn (k+4) hJ [.tup [.str "net",.int (size:Int),.int (many:Int)]] S=.ok (.tup [.tup [],.str "out"]) S:=by
   refine c9 ?_;rw [rn,a7 rfl,eD];exact no_ dI<|yes_ gF<|Ok.ret ⟨rfl,rfl⟩
  have sm:Smls 2 900 (r.hs.map hdD):=Smls.map λh hh=>ph (by have:=V.tr h hh;omega);have c:=dL (q:=.tup [.tup [],.str "out"]) sm Sml.w (by decide) (λa _=>HL a) S;have le:(r.hs.countP λh=>!busy h)<=r.hs.length:=IH;have e:A6 (.int ((r.hs.map hdD).length:Nat)) (.int ((r.hs.countP λh=>!busy h:Nat):Int)) S=.ok (.int ((r.hs.countP busy:Nat):Int)) S:=by
   have c2:(r.hs.countP λa=>!!busy a)=r.hs.countP busy:=Ln λi _=>by rw [Bool.not_not]
   rw [Hy,n4 le,eF r.hs λh=>!busy h,c2]
  exact no_ Cd<|no_ dI<|Ok.eq rfl<|Ok.eq (j2 _ S)<|Ok.eq rfl<|Ok.eq fh<|Ok.eq c<|Ok.eq e<|Ok.ret ⟨rfl,k0 _⟩
 ·rw [IE];exact gu (λS=>ix0 _ _ S) dI (λS=>m3 S rfl) (by omega) (λa ha S=>by
   have s:Sml 2 900 (hdD a):=ph (by have:=V.tr a ha;omega);unfold hdD at s ⊢;rw [zD s (by decide),n3,Bool.not_not]) k S
 ·refine c9 ?_;rw [rn,a7 rfl];rw [aD];have fd:rn (k+3) Ah [.int (size:Int),.int (many:Int)] S=.ok (N0 size many).d S:=by
   refine c9 ?_;rw [rn,a7 rfl,sM];have q1:=Ei hs h5 S;have q2:=Bp h1 m5 S;refine Ok.eq (aq size (by omega) (k+1) S) (Ok.eq q1 (Ok.eq q2 (Ok.ret ⟨?_,rfl⟩)));rfl
  refine Ok.eq (ho (k+2) S)<|no_ dI<|yes_ gF<|Ok.eq (m3 S rfl) ?_;refine Ok.eq fd ?_;refine Ok.ret ⟨?_,rfl⟩;simp only [dw]
end L3.K31
namespace L3.K31.R
open PySem PySem.Spec PyProof.Rows L2 L3.Rw
theorem rj (a:Hd) (S:Sto):a9 .NotEq a.d (.tup [.str "rests"]) S=.ok (.bl a.at) S:=by cases a <;> kernel_rfl
theorem vk (a:Hd) {b:Nat} (b1:1<=b) (S:Sto):(bind (e8 a.d) λx3=>bind (a9 .Gt x3 (.int 1)) λx4=>bind (asB x4) λz5=>if z5=true then (bind (ixD a.d (.int 1)) λx6=>bind (a9 .GtE x6 (.int (b:Int))) λx7=>bind (asB x7) λz8=>ret z8) else (ret false)) S=.ok (decide (b<=a.bx)) S:=by
 have dc:∀ c:Nat,decide ((b:Int)<=(c:Int))=decide (b<=c):=λc=>by
  by_cases q:b<=c
  ·grind
  ·grind
 cases a with
 | rests=>
  show R.ok false S=_;rw [Im (by show ¬ b<=0;omega)]
 | tries c=>exact (show _=R.ok (decide ((b:Int)<=(c:Int))) S from rfl).trans (by rw [dc];rfl)
 | holds c=>exact (show _=R.ok (decide ((b:Int)<=(c:Int))) S from rfl).trans (by rw [dc];rfl)
theorem mP {b k:Nat} {S:Sto} (h:hs.length<=6) (b1:1<=b):rn (k+1) nt [.tup (hs.map Hd.d),.int (b:Int)] S=.ok (.int ((cnt b hs:Nat):Int)) S:=by
 have e:=e6 (t:=λd1=>bind (e8 d1) λx3=>bind (a9 .Gt x3 (.int 1)) λx4=>bind (asB x4) λz5=>if z5=true then (bind (ixD d1 (.int 1)) λx6=>bind (a9 .GtE x6 (.int (b:Int))) λx7=>bind (asB x7) λz8=>ret z8) else (ret false)) (W2 h) (λa _=>vk a b1 S) (λa _ _=>rfl);rw [rn,a7 rfl,uP];refine (nxb (a:=(hs.filter λa=>decide (b<=a.bx)).map Hd.d) (S':=S) ?_).trans ?_
 ·rw [a8 (t5 _ S)];simp;exact e
 ·show R.ok (D.int ((((hs.filter λa=>decide (b<=a.bx)).map Hd.d).length:Nat):Int)) S=_;rw [Hy];unfold Rw.cnt;rw [IE]
theorem yZ {m:Nat} (h:0<m) (h6:m<=6) (S:Sto):qD (.lst [.non]) (.int (m:Int)) S=.ok (.ref S.length) (S++[.lst ((List.replicate m (none:Option Nat)).map bD)]):=by
 have:m=1\/m=2\/m=3\/m=4\/m=5\/m=6:=by omega
 rcases this with rfl | rfl | rfl | rfl | rfl | rfl <;> kernel_rfl
structure PB (m:Nat) (bx:List (Option Nat)) (hs:List Hd):Prop where
 mt:∀ (b h:Nat),bx[b]?=some (some h)->hs[h]?=some (.holds (b+1))
 mh:∀ (h b:Nat),hs[h]?=some (.holds b)->1<=b/\bx[b-1]?=some (some h)
 tr:∀ (h b:Nat),hs[h]?=some (.tries b)->1<=b/\b<=m
theorem Z0 {a:Type} {l:List a} {x y:a} {j:Nat} (h:(l++[x])[j]?=some y):l[j]?=some y\/(j=l.length/\x=y):=by grind
theorem jf {a:Type} {l:List a} {x y:a} {j:Nat} (h:l[j]?=some y):(l++[x])[j]?=some y:=by grind
theorem PB.add (P:PB m bx hs) {a:Hd} (c:∀ b,a≠.holds b) (d:∀ b,a=.tries b->1<=b/\b<=m):PB m bx (hs++[a]):=by
 refine ⟨λb h e=>jf (P.mt b h e),λh b e=>?_,λh b e=>?_⟩
 ·rcases Z0 e with z | ⟨_,z⟩
  ·exact P.mh h b z
  ·exact absurd z (c b)
 ·rcases Z0 e with z | ⟨_,z⟩
  ·exact P.tr h b z
  ·exact d b z
theorem PB.take (P:PB m bx hs) {n:Nat} (c:bx[n]?=some none):PB m (bx.set n (some hs.length)) (hs++[.holds (n+1)]):=by
 have f:=(HN.mp c).1;refine ⟨λb h e=>?_,λh b e=>?_,λh b e=>?_⟩
 ·rcases A5 e with ⟨rfl,z⟩ | ⟨_,z⟩
  ·cases z;rw [List.getElem?_append_right (HV _),Nat.sub_self];rfl
  ·exact jf (P.mt b h z)
 ·rcases Z0 e with z | ⟨rfl,z⟩
  ·obtain ⟨d,a⟩:=P.mh h b z;refine ⟨d,?_⟩;have:n≠b-1:=λw=>by rw [<- w,c] at a;cases a
   rw [HZ this];exact a
  ·grind
 ·rcases Z0 e with z | ⟨_,z⟩
  ·exact P.tr h b z
  ·cases z
theorem PB.bi (P:PB m bx hs) (d:bx.length=m) (a:hs.length=m) (c:m<=6):BI bx hs:=⟨by omega,by omega,P.mt,P.mh,λh b e=>by rw [a];exact P.tr h b e⟩
theorem vf (o:Option Nat) (S:Sto):a9 .Is (bD o) .non S=.ok (.bl o.isNone) S:=by cases o <;> rfl
theorem AL (F:Fw ns p (N+2 * m+1) S) (hm:0<m) (h6:m<=6) (k:Nat):Ok (rn (k+2) yS [.ref p,.int (m:Int)]) S λd S'=>Fw ns p N S'/\(∃ r:Rw,d=r.d/\BI r.bx r.hs/\r.hs.length=m/\r.mo<=m)/\∀ q,q<S.length->q≠p->S'[q]?=S[q]?:=by
 have hp:=F.lt;rw [rn,a7 rfl,vp,tE];refine Ok.first<|Ok.cg (Er ..)<|Ok.eq (yZ hm h6 S)<|Ok.nxt<|Ok.cg (Dp ..)<|Ok.eq (rfl) ?_;rw [show (S++[O.lst ((List.replicate m (none:Option Nat)).map bD)]).length=S.length+1 by simp]
 let J:=λi ρ S'=>∃ A y u M o:Option D,∃ (bx:List (Option Nat)) (hs:List Hd),ρ=[some (.ref p),some (.int (m:Int)),some (.ref S.length),some (.ref (S.length+1)),A,y,u,M,o]/\Fw ns p (N+1+2 * (m-i)) S'/\S'[S.length]?=some (.lst (bx.map bD))/\S'[S.length+1]?=some (.lst (hs.map Hd.d))/\bx.length=m/\hs.length=i/\PB m bx hs/\∀ q,q<S.length->q≠p->S'[q]?=S[q]?
 refine Ok.nxt<|Ok.cg (Bg ..)<|Ok.eq (q9 (by omega) _) (Ok.bind ((Ok.for_ J (λ_ _=>False) (λ_ _=>False) (λρ S' _=>p0 m S') ?_ m 0 _ _ (by omega) ⟨_,_,_,_,_,List.replicate m none,[],rfl,?_,?_,?_,by simp,rfl,?_,?_⟩).mono ?_))
 ·rintro i ρ S1 hi ⟨A,y,u,M,o,bx,hs,rfl,X,W,G,H,I,P,V⟩;refine ⟨.int (i:Int),[some (.ref p),some (.int (m:Int)),some (.ref S.length),some (.ref (S.length+1)),some (.int (i:Int)),y,u,M,o],v8 hi S1,rfl,?_⟩;unfold fg;rw [fM];refine Ok.first<|Ok.cg (lF ..)<|Ok.bind ((j3 (N:=N+2+2 * (m-(i+1))) (X.less (by omega)) hm (by omega) k).mono ?_);rintro _ S2 ⟨n,rfl,hn,F2,l2,k2⟩;have ad:f7 (.int 1) (.int (n:Int)) S2=.ok (.int ((n+1:Nat):Int)) S2:=by
   show R.ok (D.int (1+(n:Int))) S2=_;rw [show (1+(n:Int))=((n+1:Nat):Int) by omega]
  refine Ok.eq ad<|Ok.nxt<|Ok.cg (lS ..)<|Ok.bind ((j3 (N:=N+1+2 * (m-(i+1))) (m:=3) (F2.less (by omega)) (by omega) (by omega) k).mono ?_);rintro _ l ⟨w,rfl,hw,Y,l3,U⟩;have j:l[S.length]?=some (.lst (bx.map bD)):=by rw [U _ (by omega),k2 _ (by omega)];exact W
  have s:l[S.length+1]?=some (.lst (hs.map Hd.d)):=by rw [U _ (by omega),k2 _ (by omega)];exact G
  have L:∀ q,q<S.length->q≠p->l[q]?=S[q]?:=λq v c=>by rw [U q c,k2 q c];exact V q v c
  have hx:∃ a:Hd,([.tup [.str "rests"],.tup [.str "tries",.int ((n+1:Nat):Int)],.tup [.str "tries",.int ((n+1:Nat):Int)]]:List D)[w]?=some a.d/\(∀ b,a≠.holds b)/\∀ b,a=.tries b->1<=b/\b<=m:=by
   have:w=0\/w=1\/w=2:=by omega
   rcases this with rfl | rfl | rfl
   ·exact ⟨.rests,rfl,λb z=>(by cases z),λb z=>(by cases z)⟩
   ·exact ⟨.tries (n+1),rfl,λb z=>(by cases z),λb z=>(by cases z;omega)⟩
   ·exact ⟨.tries (n+1),rfl,λb z=>(by cases z),λb z=>(by cases z;omega)⟩
  obtain ⟨a,ea,oa,ta⟩:=hx;refine Ok.nxt<|Ok.cg (kx ..)<|Ok.eq (gQ l ea)<|Ok.nxt<|Ok.cg (lr ..)<|Ok.eq (A4 _ _ l)<|Ok.eq (i8 _ l) ?_;have hk:=(HN.mp s).1;have f:∀ (C:Sto) (g:List (Option Nat)) (Q:Hd) (A y u o:Option D),Fw ns p (N+1+2 * (m-(i+1))) C->C[S.length]?=some (.lst (g.map bD))->C[S.length+1]?=some (.lst (hs.map Hd.d))->g.length=m->PB m g (hs++[Q])->(∀ q,q<S.length->q≠p->C[q]?=S[q]?) ->
    Ok (nxt (evK Rs Γ (rn (k+1)) 39) E3 [nth t4 4] ret (.nx [some (.ref p),some (.int (m:Int)),some (.ref S.length),some (.ref (S.length+1)),A,y,u,some Q.d,o])) C (FlI (J (i+1)) (λ_ _=>False) (λ_ _=>False)):=by
   intro C g Q A y u o F4 e4 e5 Z P' kp4;have hk4:=(HN.mp e5).1;refine Ok.nxt<|Ok.cg (lf ..)<|Ok.eq (X7 e5)<|Ok.eq (bN e5 (by rw [Hy,Iq];omega))<|Ok.ret ⟨_,_,_,_,_,g,hs++[Q],rfl,F4.keep ?_,?_,?_,Z,by simp [I],P',λq v c=>?_⟩
   ·grind
   ·grind
   ·grind
   ·grind
  by_cases c:(w:Int)=2
  ·refine Ok.pos (by rw [Ia c])<|Ok.eq (n4 (b:=1) (by omega) l) ?_;rw [show n+1-1=n by omega];have K:n<bx.length:=by omega
   have T:=HP K;refine Ok.eq (zH j (d3 T)) (Ok.eq (vf _ _) (Ok.eq (i8 _ _) ?_));cases ho:bx[n] with
   | none=>
    rw [ho] at T;refine Ok.pos rfl<|Ok.eq (n4 (b:=1) (by omega) l) ?_;rw [show n+1-1=n by omega];refine Ok.eq (yL j (by rw [Hy];exact K)) ?_;rw [show (bx.map bD).set n (.int (i:Int))=(bx.set n (some i)).map bD by rw [Iy];rfl];refine f _ (bx.set n (some i)) (.holds (n+1)) _ _ _ _ (Y.keep ?_) ?_ ?_ (by rw [Ij];exact H) (by rw [<- I];exact P.take T) (λq v c=>?_)
    ·rw [HZ (by omega)]
    ·grind
    ·grind
    ·grind
   | some g0=>exact Ok.neg (by simp)<|f _ bx a _ _ _ _ Y j s H (P.add oa ta) L
  ·exact Ok.neg (by rw [Im c];decide)<|f _ bx a _ _ _ _ Y j s H (P.add oa ta) L
 ·refine F.less (by omega) |>.keep ?_;rw [HW (by simp;omega),HW hp]
 ·rw [HW (by simp),IB (HV _)];simp
 ·rw [IB (by simp)];simp
 ·refine ⟨λb h e=>?_,λh b e=>(by cases e),λh b e=>(by cases e)⟩;rw [Jb] at e;split at e <;> cases e
 ·intro q v c;rw [HW (by simp;omega),HW v]
 ·rintro fl S' E;cases fl with
  | nx ρ=>
   rcases E with ⟨A,y,u,M,o,bx,hs,rfl,X,W,G,H,I,P,V⟩ | E
   case inr=>exact E.elim
   have B:=P.bi H I h6;have fl:=IS Hd.at hs;have e:=A8 (p:=Hd.at) (t:=λd1=>bind (a9 .NotEq d1 (.tup [(.str "rests")])) λx3=>bind (asB x3) λz4=>ret z4) (λi=>ei G i) (by rw [Iq];omega) (λa _=>by rw [a8 (rj a S')];rfl) (λa _ _=>rfl);have es:u8 (.ref (S.length+1)) S'=.ok (ba (S.length+1),hs.length+1) S':=by
    rw [show hs.length=(hs.map Hd.d).length by rw [Hy]];simp only [u8,G]
   have el:e8 (.lst ((hs.filter Hd.at).map Hd.d)) S'=.ok (.int ((hs.filter Hd.at).length:Int)) S':=by
    show R.ok (D.int (((hs.filter Hd.at).map Hd.d).length:Int)) S'=_;rw [Hy]
   refine Ok.nxt<|Ok.cg (Bz ..)<|nx_bind<|Ok.eq es<|Ok.of e<|Ok.eq el<|Ok.nxt<|Ok.cg (Ej ..)<|Ok.eq (gN W)<|Ok.eq (gN G)<|Ok.eq (n4 (by omega) S')<|Ok.eq (i5 _ 1 S')<|Ok.bind ((j3 (N:=N) (X.less (by omega)) (by omega) (by omega) k).mono ?_);rintro _ S5 ⟨x,rfl,hx,F5,_,k5⟩;exact Ok.eq (i5 _ _ S5) (Ok.ret ⟨F5,⟨⟨bx,hs,(hs.filter Hd.at).length+x⟩,rfl,B,I,by show (hs.filter Hd.at).length+x<=m;omega⟩,λq v c=>by rw [k5 q c];exact V q v c⟩)
  | rt d=>exact E.elim
  | bk ρ=>exact E.elim
  | ct ρ=>exact E.elim
structure Nd (hs:List Hd) (t:Nat):Prop where
 ub:∀ j,j<hs.length->0<cnt (j+1) hs->cnt (j+1) hs+j<=t
 at_:t=0\/∃ j,j<hs.length/\0<cnt (j+1) hs/\t=cnt (j+1) hs+j
theorem jv (o:hs.length<=6):∃ t:Nat,Nd hs t/\∀ k S,rn (k+2) zm [.tup (hs.map Hd.d)] S=.ok (.int (t:Int)) S:=by
 let l:=((List.range hs.length).filter λj=>decide (0<cnt (j+1) hs)).map λj=>((cnt (j+1) hs+j:Nat):Int)
 obtain ⟨t,x⟩:=cX (l:=0 :: l) (by simp);obtain ⟨G,u⟩:=eZ x;have A:=u 0 (by simp);obtain ⟨t,rfl⟩:=JQ A;refine ⟨t,⟨λj a c=>?_,?_⟩,λk S=>?_⟩
 ·have:=u ((cnt (j+1) hs+j:Nat):Int) (Ic _ (KY.mpr ⟨j,IM.mpr ⟨Iw.mpr a,Ia c⟩,rfl⟩));omega
 ·grind
 ·have w:e8 (.tup (hs.map Hd.d)) S=.ok (.int (hs.length:Int)) S:=(j2 _ S).trans (by rw [Hy]);have v:=A8 (l:=List.range hs.length) (h:=λi=>D.int (i:Int)) (t:=λ_=>ret true) (f:=λy=>bind (f7 y (.int 1)) λC=>bind (rn (k+1) nt [.tup (hs.map Hd.d),C]) λx5=>ret x5) (λi=>dg hs.length i S) (by rw [Il];exact W2 o) (λ_ _=>rfl) (λj _ _=>by
   rw [a8 (show f7 (.int (j:Int)) (.int 1) S=.ok (.int ((j+1:Nat):Int)) S from i5 j 1 S),a8 (mP o (by omega))];rfl)
  rw [Jf.mpr (λ_ _=>rfl),Il] at v;have b:∀ j,j<hs.length->ixD (.lst ((List.range hs.length).map λj=>D.int ((cnt (j+1) hs:Nat):Int))) (.int (j:Int)) S=.ok (.int ((cnt (j+1) hs:Nat):Int)) S:=λj a=>gQ S (d3 (Kh a));have m:=A8 (l:=List.range hs.length) (h:=λi=>D.int (i:Int)) (p:=λj=>decide (0<cnt (j+1) hs)) (t:=λd=>bind (ixD (.lst ((List.range hs.length).map λj=>D.int ((cnt (j+1) hs:Nat):Int))) d) λe=>bind (a9 .Gt e (.int 0)) λs=>bind (asB s) λg=>ret g) (f:=λd=>bind (ixD (.lst ((List.range hs.length).map λj=>D.int ((cnt (j+1) hs:Nat):Int))) d) λn=>bind (f7 n d) λr=>ret r) (λi=>dg hs.length i S) (by rw [Il];exact W2 o) (λj a=>by
   rw [a8 (b j (Iw.mp a)),a8 (fy _ _ S)];show R.ok (decide ((0:Int)<((cnt (j+1) hs:Nat):Int))) S=_;congr 1;by_cases q:0<cnt (j+1) hs
   ·grind
   ·rw [Im q,Im (by omega)]) (λj a _=>by
   rw [a8 (b j (Iw.mp a)),a8 (i5 _ _ S)];rfl)
  rw [Il] at m;have z:((List.range hs.length).filter λj=>decide (0<cnt (j+1) hs)).map (λj=>D.int ((cnt (j+1) hs+j:Nat):Int))=l.map D.int:=by
   rw [Kc];rfl
  rw [z] at m;have F:l.length<=6:=by
   rw [Hy];have:=IS (λj=>decide (0<cnt (j+1) hs)) (List.range hs.length);rw [Il] at this;omega
  have E:(1001:Nat)<=sizeLine:=by decide
  have B:f7 (.lst [.int 0]) (.lst (l.map D.int)) S=.ok (.lst ((0 :: l).map D.int)) S:=by
   show (if ([.int 0]:List D).length+(l.map D.int).length<=sizeLine then ret (D.lst ([.int 0]++l.map D.int)) else bad) S=_;rw [if_pos (by simp;omega)];rfl
  refine c9 ?_;rw [rn,a7 rfl,uZ];exact nx_bind<|Ok.eq w<|Ok.eq (q9 (by omega) S)<|Ok.of v<|nx_bind<|Ok.eq w<|Ok.eq (q9 (by omega) S)<|Ok.of m<|Ok.eq B<|Ok.eq (xf x S)<|Ok.ret ⟨rfl,rfl⟩
theorem Ge (a:Hd) (S:Sto):(bind (e8 a.d) λc=>bind (a9 .Gt c (.int 1)) λb=>bind (asB b) λd=>ret d) S=.ok a.at S:=by cases a <;> kernel_rfl
theorem GE {a:Hd} (h:a.at=true) (S:Sto):(bind (ixD a.d (.int 1)) λx6=>ret x6) S=.ok (.int ((a.bx:Nat):Int)) S:=by
 cases a with
 | rests=>cases h
 | _=>rfl
def isF (f:Nat) (a:Hd):Bool:=a.at&&decide (a.bx=f)
theorem Fu (a:Hd) (f:Nat) (S:Sto):(bind (slD a.d (some 1) none) λx4=>bind (a9 .Eq x4 (.tup [.int (f:Int)])) λx5=>bind (asB x5) λz6=>ret z6) S=.ok (isF f a) S:=by
 have go:∀ b:Nat,(((b:Int)==(f:Int))&&true)=decide (b=f):=λb=>by
  rw [Bool.and_true];by_cases q:b=f
  ·subst q;simp
  ·grind
 cases a with
 | rests=>kernel_rfl
 | tries b=>
  have e:(bind (slD (Hd.tries b).d (some 1) none) λx4=>bind (a9 .Eq x4 (.tup [.int (f:Int)])) λx5=>bind (asB x5) λz6=>ret z6) S=.ok (((b:Int)==(f:Int))&&true) S:=by kernel_rfl
  rw [e,go];rfl
 | holds b=>
  have e:(bind (slD (Hd.holds b).d (some 1) none) λx4=>bind (a9 .Eq x4 (.tup [.int (f:Int)])) λx5=>bind (asB x5) λz6=>ret z6) S=.ok (((b:Int)==(f:Int))&&true) S:=by kernel_rfl
  rw [e,go];rfl
def P8 (i:Nat) (o:Option Nat):Option Nat:=if o=some i then none else o
theorem Gh (o:Option Nat) (i:Nat) (S:Sto):(bind (a9 .Eq (bD o) (.int (i:Int))) λb=>bind (asB b) λa=>if a=true then (ret .non) else (ret (bD o))) S=.ok (bD (P8 i o)) S:=by
 cases o with
 | none=>rfl
 | some g=>
  show (bind (a9 .Eq (.int (g:Int)) (.int (i:Int))) λb=>bind (asB b) λa=>if a=true then (ret .non) else (ret (bD (some g)))) S=_;rw [a8 (A4 _ _ S),a8 (i8 _ S)];unfold P8;by_cases q:g=i
  ·subst q;rw [if_pos (Ia rfl),if_pos rfl];rfl
  ·rw [if_neg (by rw [Im (by omega)];decide),if_neg (λz=>q (by cases z;rfl))];rfl
theorem BR (B:BI bx hs) {i:Nat} {a:Hd} (ha:hs[i]?=some a):BI (bx.map (P8 i)) (hs.set i .rests):=by
 cases a with
 | holds b=>
  obtain ⟨b1,hb⟩:=B.mh i b ha;have e:bx.map (P8 i)=bx.set (b-1) none:=by
   apply JJ;intro j;rw [Ie,List.getElem?_set];by_cases q:b-1=j
   ·subst q;rw [if_pos rfl,if_pos (HN.mp hb).1,hb];show some (P8 i (some i))=some none;unfold P8;rw [if_pos rfl]
   ·rw [if_neg q];cases z:bx[j]? with
    | none=>rfl
    | some o=>
     show some (P8 i o)=some o;unfold P8;rw [if_neg (λw=>by
      subst w;have:=B.mt j i z;rw [ha] at this;have:=Iv this;injection this with this;omega)]
  rw [e];exact B.free ha
 | _=>
  have e:bx.map (P8 i)=bx:=by
   apply JJ;intro j;rw [Ie];cases z:bx[j]? with
   | none=>rfl
   | some o=>
    show some (P8 i o)=some o;unfold P8;rw [if_neg (λw=>by
     subst w;have:=B.mt j i z;rw [ha] at this;cases this)]
  rw [e];exact B.set_free ha (λb z=>by cases z) (λb z=>by cases z) (λb z=>by cases z)
theorem vN {hs:List Hd} {i:Nat} {a:Hd} (c:hs[i]?=some a) (w:a.at=true):(hs.set i .rests).countP Hd.at<hs.countP Hd.at:=by
 obtain ⟨b,e⟩:=HN.mp c;rw [List.countP_set b,e,w];have:=Ki.mpr ⟨a,by rw [<- e];exact Jk b,w⟩;simp [Hd.at];omega
theorem let_ok (F:Fw ns p (N+2 * m+2) S) (hm:0<m) (h6:m<=6) (k:Nat):Ok (rn (k+3) wr [.ref p,.int (m:Int)]) S λd S'=>Fw ns p N S'/\∃ r:Rw,d=r.d/\BI r.bx r.hs/\r.hs.length=m/\r.mo<=m/\∃ t,Nd r.hs t/\t<=r.mo:=by
 rw [rn,a7 rfl,zY,BO];refine Ok.first<|Ok.cg (GQ ..)<|Ok.bind ((AL (N:=N+1) (F.less (by omega)) hm h6 k).mono ?_);rintro _ S1 ⟨F1,⟨r,rfl,B,hl,mo⟩,_⟩;refine Ok.eq rfl ?_;refine Ok.nxt<|Ok.cg (Fg ..)<|Ok.bind ((Ok.while_ (λc ρ S'=>Fw ns p (N+1) S'/\∃ (bx:List (Option Nat)) (hs:List Hd) (o5 o6 o7:Option D),BI bx hs/\hs.length=m/\hs.countP Hd.at=c/\ρ=[some (.ref p),some (.int (m:Int)),some (.tup (bx.map bD)),some (.tup (hs.map Hd.d)),o5,o6,o7,none])
  (λρ S'=>Fw ns p (N+1) S'/\∃ (bx:List (Option Nat)) (hs:List Hd) (o5 o6 o7:Option D) (t:Nat),BI bx hs/\hs.length=m/\Nd hs t/\t<=m/\ρ=[some (.ref p),some (.int (m:Int)),some (.tup (bx.map bD)),some (.tup (hs.map Hd.d)),o5,o6,o7,none]) (λ_ _=>False) ?_ 10000 (r.hs.countP Hd.at) _ S1 (by have:=IH (p:=Hd.at) (l:=r.hs);omega) ⟨F1,r.bx,r.hs,_,_,_,B,hl,rfl,rfl⟩).mono ?_)
 ·rintro c ρ S2 ⟨F2,bx,hs,o5,o6,o7,B,hl,hc,rfl⟩;obtain ⟨t,Nt,et⟩:=jv (hs:=hs) (by omega);rw [kw];refine Ok.eq (et k S2)<|Ok.eq (fy _ _ S2)<|Ok.eq (i8 _ S2)<|Ok.ret ?_;by_cases h:(m:Int)<(t:Int)
  case neg=>
   rw [if_neg (by rw [Im h];decide)];exact ⟨F2,bx,hs,_,_,_,t,B,hl,Nt,by omega,rfl⟩
  rw [if_pos (by rw [Ia h])];have ws:((hs.filter Hd.at).map λa=>((a.bx:Nat):Int))≠[]:=λz=>by
   rcases Nt.at_ with e | ⟨j,hj,c0,e⟩
   ·omega
   ·obtain ⟨a,ha,q⟩:=Ki.mp c0;have q:=Iu q;have:a∈hs.filter Hd.at:=IM.mpr ⟨ha,by cases a with
     | rests=>have:j+1<=0:=q;omega
     | _=>rfl⟩
    have z:=List.map_eq_nil_iff.mp z;rw [z] at this;cases this
  obtain ⟨f,ef⟩:=cX ws;obtain ⟨fm,_⟩:=eZ ef;obtain ⟨a,ha,rfl⟩:=KY.mp fm;obtain ⟨ha1,ha2⟩:=IM.mp ha;have c1:=e6 (l:=hs) (t:=λd1=>bind (e8 d1) λx3=>bind (a9 .Gt x3 (.int 1)) λx4=>bind (asB x4) λz5=>ret z5) (f:=λd1=>bind (ixD d1 (.int 1)) λx6=>ret x6) (W2 (by omega)) (λa _=>Ge a S2) (λa _ q=>GE q S2);rw [show (hs.filter Hd.at).map (λa=>D.int ((a.bx:Nat):Int))=((hs.filter Hd.at).map λa=>((a.bx:Nat):Int)).map D.int by rw [Kc];rfl] at c1;have st:u8 (.tup (hs.map Hd.d)) S2=.ok (U8 (hs.map Hd.d),hs.length+1) S2:=(t5 _ S2).trans (by rw [Hy]);unfold ja;rw [iY];refine Ok.first<|Ok.cg (oE ..)<|nx_bind<|Ok.eq st<|Ok.of c1<|Ok.eq (xf ef S2) ?_
  let pr:Nat->Bool:=λj=>match hs[j]? with
   | some x=>isF a.bx x
   | none=>false
  have c2:=A8 (l:=List.range m) (h:=λi=>D.int (i:Int)) (t:=λd1=>bind (ixD (.tup (hs.map Hd.d)) d1) λx3=>bind (slD x3 (some 1) none) λx4=>bind (a9 .Eq x4 (.tup [.int ((a.bx:Nat):Int)])) λx5=>bind (asB x5) λz6=>ret z6) (λi=>dg m i S2) (by rw [Il];exact W2 h6) (λj hj=>by
   have hj:j<hs.length:=by rw [hl];exact Iw.mp hj
   have e:=HP hj;rw [a8 (m3 S2 (d3 e)),Fu];show _=R.ok (match hs[j]? with | some x=>isF a.bx x | none=>false) S2;rw [e]) (λ_ _ _=>rfl)
  rw [Il] at c2;obtain ⟨i0,hi0,e0⟩:=Jv ha1;have e0:hs[i0]?=some a:=by rw [HP hi0,e0]
  have i0m:i0∈(List.range m).filter pr:=IM.mpr ⟨Iw.mpr (by omega),by
   show (match hs[i0]? with | some x=>isF a.bx x | none=>false)=true;rw [e0];show (a.at&&decide (a.bx=a.bx))=true;rw [ha2,Ia rfl];rfl⟩
  cases hz:(List.range m).filter pr with
  | nil=>grind
  | cons g gs=>
  rw [hz] at c2;have gm:g∈(List.range m).filter pr:=by rw [hz];exact HY ..
  obtain ⟨g1,g2⟩:=IM.mp gm;have g1:=Iw.mp g1;have eg:hs[g]?=some hs[g]:=HP (by omega);have ag:hs[g].at=true:=by
   have g2:(match hs[g]? with | some x=>isF a.bx x | none=>false)=true:=g2;rw [eg] at g2;have g2:(hs[g].at&&decide (hs[g].bx=a.bx))=true:=g2;rw [HS] at g2;exact g2.1
  generalize hs[g]=b at eg ag;refine Ok.nxt<|Ok.cg (pR ..)<|nx_bind<|Ok.eq (q9 (by omega) S2)<|Ok.of c2<|Ok.eq (gQ S2 rfl) ?_;have c3:=e6 (t:=λ_=>ret true) (f:=λd1=>bind (a9 .Eq d1 (.int (g:Int))) λx3=>bind (asB x3) λz4=>if z4=true then (ret .non) else (ret d1)) (W2 (by rw [B.len];omega)) (λ_ _=>rfl) (λo _ _=>Gh o g S2);rw [Jf.mpr (λ_ _=>rfl),show bx.map (λo=>bD (P8 g o))=(bx.map (P8 g)).map bD by rw [Kc];rfl] at c3;have st2:u8 (.tup (bx.map bD)) S2=.ok (U8 (bx.map bD),bx.length+1) S2:=(t5 _ S2).trans (by rw [Hy]);refine Ok.nxt<|Ok.cg (rA ..)<|nx_bind<|Ok.eq st2<|Ok.of c3<|Ok.eq rfl ?_;refine Ok.nxt<|Ok.cg (oC ..)<|Ok.eq (L0 (by rw [Hy];omega) (by rw [Hy];omega))<|Ok.ret ?_;rw [show D.tup [.str "rests"]=Hd.rests.d from rfl,<- Iy];exact ⟨_,by have:=vN eg ag;omega,F2,bx.map (P8 g),hs.set g .rests,_,_,_,BR B eg,by rw [Ij];exact hl,rfl,rfl⟩
 ·rintro fl S2 hf;cases fl with
  | rt d=>exact hf.elim
  | bk ρ=>exact hf.elim
  | ct ρ=>exact hf.elim
  | nx ρ=>
   obtain ⟨F2,bx,hs,o5,o6,o7,t,B,hl,Nt,tm,rfl⟩:=hf;obtain ⟨t',Nt',et⟩:=jv (hs:=hs) (by omega);have tt:t'=t:=by
    have le:∀ {x y:Nat},Nd hs x->Nd hs y->x<=y:=λnx ny=>by
     rcases nx.at_ with e | ⟨j,hj,c0,e⟩
     ·omega
     ·have:=ny.ub j hj c0;omega
    have:=le Nt Nt';have:=le Nt' Nt;omega
   subst tt;refine Ok.nxt<|Ok.cg (GV ..)<|Ok.eq (et k S2)<|Ok.nxt<|Ok.cg (Ga ..)<|Ok.eq (n4 tm S2)<|Ok.eq (i5 _ 1 S2)<|Ok.bind ((j3 F2 (by omega) (by omega) (k+1)).mono ?_);rintro _ S3 ⟨x,rfl,hx,F3,_,_⟩;exact Ok.eq (i5 _ _ S3)<|Ok.ret ⟨F3,⟨bx,hs,t'+x⟩,rfl,B,hl,by show t'+x<=m;omega,t',Nt,by show t'<=t'+x;omega⟩
end L3.K31.R
namespace L3.K31
open PySem PySem.Spec PyProof.Rows L2 L3.Rw
theorem EC {t:Nat} (B:BI r.bx r.hs) (e:r.mo<=r.hs.length) (n:R.Nd r.hs t) (f:t<=r.mo):RI r:=by
 refine ⟨B,λj g c=>?_,e⟩;obtain ⟨a,b,w⟩:=Ki.mp c;have w:=Iu w;have d:j-1<r.hs.length:=by
  rcases vn B b with z | z
  ·subst z;have:j<=0:=w;omega
  ·omega
 have:=n.ub (j-1) d (by rw [show j-1+1=j by omega];exact c);grind
theorem uG (f:1<=many) (d:many<=6):McLt (fw many):=by
 refine ⟨"row",_,rfl,λz=>absurd z (by decide +kernel),λ_ ns p N k S F=>(R.let_ok (N:=N) (F.less (by omega)) (by omega) d (k+3)).mono ?_⟩;rintro _ S' ⟨e,r,rfl,B,a,b,t,n,c⟩;exact ⟨e,r,⟨EC B (by rw [a];exact b) n c,a⟩,rfl⟩
end L3.K31
namespace L3.Lev
open PySem PySem.Spec PyProof.Rows L2
theorem fq (hb:upB bx m i=b):(List.range (i+1)).filter (upB bx m)=(List.range i).filter (upB bx m)++(if b=true then [i] else []):=by
 rw [JI,Jl];grind
theorem wV {bx:List (Option Nat)} {i:Nat} {o:Option Nat} (h:bx[i]?=some o) (S:Sto):K1 (bx.map bxD) i S=some (some (.tup [.int (i:Int),bxD o])):=by
 have e:(bx.map bxD)[i]?=some (bxD o):=d3 h;simp only [K1,e]
theorem nT (bx:List (Option Nat)) (S:Sto):K1 (bx.map bxD) bx.length S=some none:=by
 have e:(bx.map bxD)[bx.length]?=none:=IR (by simp);simp only [K1,e,Hy,if_true]
theorem pI {m i:Nat} {o:Option Nat} (h:bx[i]?=some o) (S:Sto):(bind (a9 .IsNot (bxD o) .non) λc=>bind (asB c) λd=>if d=true then (bind (a9 .LtE (bxD o) (.int (m:Int))) λa=>bind (asB a) λe=>ret e) else (ret false)) S=.ok (upB bx m i) S:=by
 cases o with
 | none=>
  have:upB bx m i=false:=by unfold upB;rw [h]
  rw [this];rfl
 | some b=>
  have:upB bx m i=decide ((b:Int)<=(m:Int)):=by
   unfold upB;rw [h];by_cases q:b<=m
   ·grind
   ·grind
  rw [this];rfl
theorem jO {m i:Nat} {S:Sto} {f:M D} (d:bx.length<=1000) (c:i<bx.length) (b:f S=.ok (nD i) S):if upB bx m i=true then Ok f S λy S2=>(((List.range i).filter (upB bx m)).map nD).length<sizeLine/\S2=S/\((List.range i).filter (upB bx m)).map nD++[y]=((List.range (i+1)).filter (upB bx m)).map nD else (S=S/\((List.range i).filter (upB bx m)).map nD=((List.range (i+1)).filter (upB bx m)).map nD):=by
 cases a:upB bx m i with
 | true=>
  rw [if_pos rfl];refine ⟨_,_,b,?_,rfl,?_⟩
  ·rw [Hy,Iq];have:=IS (upB bx m) (List.range i);rw [Il] at this;omega
  ·rw [fq a,if_pos rfl,IN];rfl
 | false=>
  rw [if_neg HU];exact ⟨rfl,by rw [fq a];simp⟩
theorem oM (h:bx.length<=6):(ups bx l).length<=6/\∀ x∈ups bx l,x<bx.length:=by
 refine ⟨Ir (IS _ _) (by rw [Il];exact h),λx a=>?_⟩;exact Iw.mp (IM.mp a).1
theorem GW {v l:List Nat} (g:v.Nodup) (h:∀ x∈v,x∈l):v.length<=l.length:=by
 induction v generalizing l with
 | nil=>exact Jp _
 | cons a v f=>
  have c:=h a (HY ..);have b:=Jr.mp g;have e:=Ls c;have:=f (l:=l.erase a) b.2 λx d=>(List.mem_erase_of_ne (λz=>b.1 (by rw [<- z];exact d))).mpr (h x (Ic _ d));have:=Jx c;rw [IV];omega
abbrev Rw:=Option (Nat×Bool)
def rwD:Rw->D
 | none=>.non
 | some (l,b)=>.tup [.int (l:Int),.bl b]
def RwOk (m:Nat) (rs:List Rw):Prop:=∀ l b,some (l,b)∈rs->1<=l/\l<=m/\(b=true->2<=l)
theorem RwOk.snoc (h:RwOk m rs) {r:Rw} (c:∀ l b,r=some (l,b)->1<=l/\l<=m/\(b=true->2<=l)):RwOk m (rs++[r]):=λl b a=>by
 rcases IC.mp a with z | z
 ·exact h l b z
 ·grind
theorem RwOk.put (h:RwOk m rs) {r:Rw} {i:Nat} (c:∀ l b,r=some (l,b)->1<=l/\l<=m/\(b=true->2<=l)):RwOk m (rs.set i r):=λl b a=>by
 rcases Ke a with z | z
 ·exact h l b z
 ·exact c l b z.symm
def rat (rs:List Rw) (i:Nat):Rw:=rs.getD i none
def Y8 (l:Nat):Rw->Bool
 | none=>false
 | some (e,b)=>decide (e-b.toNat<=l)
def nR (rs:List Rw) (l:Nat):Nat:=(List.range rs.length).countP λj=>Y8 l (rat rs j)
theorem aF (e:rs[i]?=some r):rat rs i=r:=by unfold rat;rw [IG,e];rfl
theorem jn {i:Nat} (hi:i<rs.length) (r:Rw) (j:Nat):rat (rs.set i r) j=if j=i then r else rat rs j:=by
 unfold rat;grind
theorem AQ {x L l:Nat} (a:x<rs.length) (h:l<=L):nR (rs.set x (some (L+1,false))) l<=nR rs l:=by
 unfold nR;rw [Ij];refine Ji λj _ q=>?_;rw [jn a] at q;by_cases z:j=x
 ·rw [if_pos z] at q;have:L+1-0<=l:=Iu q;omega
 ·grind
theorem mJ {v:List Nat} {j x y:Nat} (d:v[j]?=some x) (a:y∈v) (b:y≠x):y∈v.eraseIdx j:=by
 obtain ⟨i,c⟩:=List.getElem?_of_mem a;refine List.mem_eraseIdx_iff_getElem?.mpr ⟨i,λz=>b ?_,c⟩;grind
theorem mZ {v:List Nat} {L:Nat} (h:∀ j,j<rs.length->Y8 L (rat rs j)=true->j∈v):nR rs L<=v.length:=by
 unfold nR;rw [IE];refine GW (List.nodup_range.filter _) λx hx=>?_;grind
theorem uN {m:Nat} (h0:0<m) (h:m<1000) (S:Sto):k4 [.int 1,.int (m:Int)] S=.ok (ar 1 (m-1),m-1+1) S:=by
 unfold k4;have c:-(2 ^ 62)<=(1:Int)/\(1:Int)<2 ^ 62/\-(2 ^ 62)<=(m:Int)/\(m:Int)<2 ^ 62:=⟨by decide,by decide,LB (by decide) (show (0:Int)<=m by omega),Int.lt_trans (show (m:Int)<1000 by omega) (by decide)⟩;have e:((m:Int)-1).toNat=m-1:=by omega
 simp only [if_pos c,e];rfl
theorem vO {n i:Nat} (h:i<n) (S:Sto):ar 1 n i S=some (some (.int ((1+i:Nat):Int))):=by
 show some (if i<n then some (D.int (1+(i:Int))) else none)=_;grind
theorem pB (n:Nat) (S:Sto):ar 1 n n S=some none:=by
 show some (if n<n then _ else none)=some none;grind
theorem cF {b c:Type} (f:b->c):∀ (l:List b) (j:Nat),(l.map f).eraseIdx j=(l.eraseIdx j).map f
 | [],_=>rfl
 | _ :: _,0=>rfl
 | a :: l,j+1=>by
  show f a :: (l.map f).eraseIdx j=f a :: (l.eraseIdx j).map f;rw [cF f l j]
end L3.Lev
namespace L3.K31
open PySem PySem.Spec PyProof.Rows L2 L3.Lev
theorem om {p q N m:Nat} {s:Sto} (f:q≠p) (F:Fw ns p (N+2 * m) s) (v:s[q]?=some (.lst [])) (x:0<m) (L:m<=6) (c e a j:Option D) (k:Nat):Ok (v7 (ar 0 m) (λd ρ=>some (ρ.set 3 (some d))) (bQ (rn (k+1))) (m+1) 0 [some (.ref p),some (.int (m:Int)),some (.ref q),c,e,a,j]) s λn S'=>∃ ρ,n=.nx ρ/\Fw ns p N S'/\∃ (rs:List Rw) (c e a:Option D),S'[q]?=some (.lst (rs.map rwD))/\rs.length=m/\RwOk m rs/\ρ=[some (.ref p),some (.int (m:Int)),some (.ref q),c,e,a,j]:=by
 refine (Ok.loop (λi ρ S'=>Fw ns p (N+2 * (m-i)) S'/\∃ (rs:List Rw) (c e a:Option D),S'[q]?=some (.lst (rs.map rwD))/\rs.length=i/\RwOk m rs/\ρ=[some (.ref p),some (.int (m:Int)),some (.ref q),c,e,a,j]) (λρ S' _=>p0 m S') ?_ ⟨F,[],_,_,_,v,rfl,(λl b z=>by cases z),rfl⟩).mono ?_
 ·rintro i ρ S C ⟨F,rs,c,e,a,E,B,G,rfl⟩;refine ⟨.int (i:Int),_,v8 C S,rfl,?_⟩;unfold bQ;rw [fX];refine Ok.first<|Ok.cg (ki ..)<|Ok.bind ((j3 (N:=N+2 * (m-(i+1))+1) (F.less (by omega)) x (by omega) k).mono ?_);rintro _ S1 ⟨l,rfl,K,H,_,I⟩;refine Ok.eq (i5 1 l S1)<|Ok.nxt<|Ok.cg (mC ..)<|Ok.bind ((j3 (N:=N+2 * (m-(i+1))) (m:=4) (H.less (by omega)) (by omega) (by omega) k).mono ?_);rintro _ S2 ⟨w,rfl,O,J,_,k2⟩;have o:S2[q]?=some (.lst (rs.map rwD)):=by rw [k2 _ f,I _ f];exact E
  have t:=(HN.mp o).1;have g:∀ (r:Rw),(∀ l b,r=some (l,b)->1<=l/\l<=m/\(b=true->2<=l))->Ok (bind (G9 (.ref q) [rwD r]) λM=>nxt (evK Rs Γ (rn (k+1)) 39) A3 [] ret (.nx [some (.ref p),some (.int (m:Int)),some (.ref q),some (.int (i:Int)),some (.int ((1+l:Nat):Int)),some (.int (w:Int)),j])) S2 λn S'=>∃ h,(n=.nx h\/n=.ct h)/\Fw ns p (N+2 * (m-(i+1))) S'/\∃ (rs:List Rw) (c e a:Option D),S'[q]?=some (.lst (rs.map rwD))/\rs.length=i+1/\RwOk m rs/\h=[some (.ref p),some (.int (m:Int)),some (.ref q),c,e,a,j]:=by
   intro r A;refine Ok.eq (bN o (by rw [Hy,Iq];omega))<|Ok.ret ⟨_,.inl rfl,J.keep (by rw [HZ f]),rs++[r],_,_,_,?_,by simp [B],G.snoc A,rfl⟩;rw [IA t,IN];rfl
  refine Ok.nxt<|Ok.cg (lz ..)<|Ok.eq (X7 o)<|Ok.eq (A4 _ _ _)<|Ok.eq (i8 _ _)<|Ok.ite (λ_=>g none λl b z=>by cases z) λ_=>Ok.eq (A4 _ _ _)<|Ok.eq rfl<|Ok.ite (λ_=>?_) λz=>?_
  ·exact Ok.eq (fy _ _ _) (g (some (1+l,_)) λu b z=>by cases z;exact ⟨by omega,by omega,λy=>by have:=Iu y;omega⟩)
  ·exact g (some (1+l,_)) λu b y=>by cases y;exact ⟨by omega,by omega,λy=>absurd y z⟩
 ·grind
theorem rw_tst {q j L:Nat} {rs:List Rw} {r:Rw} (e:S[q]?=some (.lst (rs.map rwD))) (m:rs[j]?=some r) (n:∀ l b,r=some (l,b)->1<=l):Ok (bind (ixD (.ref q) (.int (j:Int))) λo=>bind (a9 .IsNot o .non) λp=>bind (asB p) λk=>if k=true then (bind (ixD (.ref q) (.int (j:Int))) λx6=>bind (ixD x6 (.int 0)) λx7=>bind (ixD (.ref q) (.int (j:Int))) λx8=>bind (ixD x8 (.int 1)) λi=>bind (tJ i) λg=>bind (A6 x7 g) λc=>bind (a9 .LtE c (.int (L:Int))) λf=>bind (asB f) λd=>ret d) else (ret false)) S λb S'=>b=Y8 L r/\S'=S:=by
 have h:=zH e (d3 m);refine Ok.eq h ?_;cases r with
 | none=>exact Ok.eq rfl<|Ok.eq rfl<|Ok.neg (by decide)<|Ok.ret ⟨rfl,rfl⟩
 | some r=>
  obtain ⟨l,b⟩:=r;have s:=n l b rfl;refine Ok.eq rfl<|Ok.eq rfl<|Ok.pos rfl<|Ok.eq h<|Ok.eq rfl<|Ok.eq h<|Ok.eq rfl<|Ok.eq (a:=.int (if b=true then 1 else 0)) (by cases b <;> rfl)<|Ok.eq rfl<|Ok.eq (wx _ _ _)<|Ok.eq (i8 _ _)<|Ok.ret ⟨?_,rfl⟩;cases b with
  | true=>
   rw [if_pos rfl];show _=decide (l-1<=L);by_cases q:l-1<=L
   ·grind
   ·grind
  | false=>
   rw [if_neg HU];show _=decide (l-0<=L);by_cases q:l-0<=L
   ·grind
   ·grind
theorem pk {p q u N m L:Nat} {w:Sto} {rs:List Rw} {v:List Nat} (e:q≠p) (h:u≠p) (H:u≠q) (F:Fw ns p (N+v.length) w) (A:w[q]?=some (.lst (rs.map rwD))) (n:w[u]?=some (.lst (v.map nD))) (a:rs.length=m) (B:RwOk m rs) (s:∀ x∈v,x<m) (t:∀ j,j<m->Y8 L (rat rs j)=true->j∈v) (J:∀ l,l<L->nR rs l<=l) (T:v.length<=6) (Z:L+1<=m) (r o:Option D) (k:Nat) :
  Ok (w6 (P3 (rn (k+1))) (F9 (rn (k+1))) 10000 [some (.ref p),some (.int (m:Int)),some (.ref q),r,some (.int (L:Int)),o,some (.ref u)]) w λU S'=>U=.nx [some (.ref p),some (.int (m:Int)),some (.ref q),r,some (.int (L:Int)),o,some (.ref u)]/\Fw ns p N S'/\∃ rs:List Rw,S'[q]?=some (.lst (rs.map rwD))/\rs.length=m/\RwOk m rs/\∀ l,l<=L->nR rs l<=l:=by
 refine (Ok.while_ (λc ρ S=>ρ=[some (.ref p),some (.int (m:Int)),some (.ref q),r,some (.int (L:Int)),o,some (.ref u)]/\∃ (rs:List Rw) (v:List Nat),Fw ns p (N+v.length) S/\S[q]?=some (.lst (rs.map rwD))/\S[u]?=some (.lst (v.map nD))/\rs.length=m/\RwOk m rs/\(∀ j,j<m->Y8 L (rat rs j)=true->j∈v)/\(∀ l,l<L->nR rs l<=l)/\(∀ x∈v,x<m)/\v.length=c/\c<=6) (λρ S=>ρ=[some (.ref p),some (.int (m:Int)),some (.ref q),r,some (.int (L:Int)),o,some (.ref u)]/\Fw ns p N S/\∃ rs:List Rw,S[q]?=some (.lst (rs.map rwD))/\rs.length=m/\RwOk m rs/\∀ l,l<=L->nR rs l<=l) (λ_ _=>False) ?_ 10000 v.length _ _ (by omega) ⟨rfl,rs,v,F,A,n,a,B,t,J,s,rfl,T⟩).mono ?_
 ·rintro c ρ S ⟨rfl,rs,v,F,A,n,a,B,t,K,s,J,Y⟩;have O:=(xp n).trans (by rw [Hy]);rw [aM];refine Ok.eq O<|Ok.eq (fy _ _ _)<|Ok.eq (i8 _ _)<|Ok.ret ?_;by_cases g:(L:Int)<(v.length:Int)
  ·rw [if_pos (Ia g)];unfold F9;rw [Y6];refine Ok.first<|Ok.cg (bV ..)<|Ok.eq (i5 L 1 S)<|Ok.eq (X7 n)<|Ok.eq O<|Ok.bind ((j3 (N:=N+(v.length-1)) (F.less (by omega)) (by omega) (by omega) k).mono ?_);rintro _ S1 ⟨j,rfl,M,V,_,Q⟩;have f:S1[u]?=some (.lst (v.map nD)):=by rw [Q _ h];exact n
   have G:S1[q]?=some (.lst (rs.map rwD)):=by rw [Q _ e];exact A
   obtain ⟨x,I⟩:∃ x,v[j]?=some x:=⟨_,HP M⟩;have C:=s x (Io I);have i:(S1.set u (.lst ((v.map nD).eraseIdx j)))[q]?=some (.lst (rs.map rwD)):=by rw [HZ H];exact G
   have X:=(HN.mp f).1;have R:=(HN.mp i).1;have W:=cF nD v j;have P:=List.length_eraseIdx_of_lt M;refine Ok.eq (Dw f (d3 I) (by omega))<|Ok.eq (yL i (by rw [Hy,a];exact C))<|Ok.ret ⟨v.length-1,by omega,rfl,rs.set x (some (L+1,false)),v.eraseIdx j,?_,?_,?_,by simp [a],B.put (λl b z=>by cases z;exact ⟨by omega,by omega,λz=>by cases z⟩),?_,λl d=>Ir (AQ (by rw [a];exact C) (Ly d)) (K l d),λy E=>s y (List.mem_of_mem_eraseIdx E),P,by omega⟩
   ·rw [P];exact V.keep (by rw [HZ e,HZ h])
   ·rw [IA R,Iy];rfl
   ·grind
   ·intro y E q;rw [jn (by rw [a];exact C)] at q;by_cases z:y=x
    ·rw [if_pos z] at q;have:L+1-0<=L:=Iu q;omega
    ·rw [if_neg z] at q;exact mJ I (t y E q) z
  ·rw [if_neg (by rw [Im g];decide)];refine ⟨rfl,F.less (by omega),rs,A,a,B,λl d=>?_⟩;by_cases z:l=L
   ·rw [z];have:=mZ (by rw [a];exact t);omega
   ·exact K l (by omega)
 ·grind
theorem wI {p N m:Nat} {S:Sto} (F:Fw ns p (N+50) S) (L:0<m) (Q:m<=6) (k:Nat):Ok (rn (k+2) yb [.ref p,.int (m:Int)]) S λd S'=>Fw ns p N S'/\∃ (q:Nat) (rs:List Rw),d=.ref q/\q≠p/\S'[q]?=some (.lst (rs.map rwD))/\rs.length=m/\RwOk m rs/\∀ l,nR rs l<=l:=by
 have hp:=F.lt;have c0:∀ rs:List Rw,RwOk m rs->nR rs 0<=0:=λrs a=>by
  refine Nat.le_of_eq (List.countP_eq_zero.mpr λj c q=>?_);have c:=Iw.mp c;obtain ⟨r,f⟩:∃ r,rs[j]?=some r:=⟨_,HP c⟩;rw [aF f] at q;cases r with
  | none=>cases q
  | some r=>
   obtain ⟨l,b⟩:=r;obtain ⟨a1,a2,T⟩:=a l b (Io f);have q:=Iu q;cases b with
   | true=>have:=T rfl;have q:l-1<=0:=q;omega
   | false=>have q:l-0<=0:=q;omega
 rw [rn,a7 rfl,sR,tN];refine Ok.first<|Ok.cg (EJ ..)<|Ok.eq (rfl)<|Ok.nxt<|Ok.cg (EW ..)<|Ok.eq (q9 (by omega) _)<|Ok.bind ((om (N:=N+36) (by omega) ((F.push _).less (by omega)) (by simp) L Q _ _ _ _ k).mono ?_);rintro _ S1 ⟨ρ,rfl,Z,rs,t,u,s,J,g,a,rfl⟩;generalize hq:S.length=q at J ⊢;have n:q≠p:=by omega
 refine Ok.nxt<|Ok.cg (EQ ..)<|Ok.eq (uN L (by omega) _)<|Ok.bind ((Ok.loop (λi ρ S'=>Fw ns p (N+6 * (m-1-i)) S'/\∃ (rs:List Rw) (t u s I:Option D),S'[q]?=some (.lst (rs.map rwD))/\rs.length=m/\RwOk m rs/\(∀ l,l<=i->nR rs l<=l)/\ρ=[some (.ref p),some (.int (m:Int)),some (.ref q),t,u,s,I]) (λρ S' _=>pB _ S') ?_ ⟨Z.less (by omega),rs,_,_,_,_,J,g,a,(λl h=>by rw [show l=0 by omega];exact c0 rs a),rfl⟩).mono ?_)
 ·rintro i ρ S2 W ⟨O,rs,t,u,s,I,A,g,a,G,rfl⟩;refine ⟨.int ((1+i:Nat):Int),_,vO W S2,rfl,?_⟩;unfold fH;rw [fR];refine Ok.first<|Ok.cg (lb ..)<|nx_bind<|Ok.eq (q9 (by omega) _) ((Ok.comp (λj S' es=>S'=S2/\es=((List.range j).filter λx=>Y8 (1+i) (rat rs x)).map nD) (λS' es _=>p0 m S') ?_ ⟨rfl,rfl⟩).mono ?_)
  ·rintro j S' es c ⟨o,rfl⟩;cases o;obtain ⟨r,f⟩:∃ r,rs[j]?=some r:=⟨_,HP (by omega)⟩;refine ⟨.int (j:Int),v8 c S2,(rw_tst A f λl b z=>(a l b (by rw [<- z];exact Io f)).1).mono ?_⟩;rintro b K ⟨B,o⟩;cases o;rw [<- aF f] at B;rw [JI,Jl];cases b with
   | true=>
    rw [if_pos rfl];refine Ok.ret ⟨?_,rfl,?_⟩
    ·rw [Hy,Iq];have:=IS (λx=>Y8 (1+i) (rat rs x)) (List.range j);rw [Il] at this;omega
    ·rw [Lx (p:=λx=>Y8 (1+i) (rat rs x)) B.symm,IN];rfl
   | false=>
    rw [if_neg HU];refine ⟨rfl,?_⟩;rw [Kw (by rw [<- B];exact HU)];simp
  rintro _ K ⟨o,rfl⟩;cases o;generalize e:(List.range m).filter (λx=>Y8 (1+i) (rat rs x))=v;have R:∀ x∈v,x<m:=λx M=>by rw [<- e] at M;exact Iw.mp (IM.mp M).1
  have V:v.length<=m:=by
   rw [<- e];have:=IS (λx=>Y8 (1+i) (rat rs x)) (List.range m);rwa [Il] at this
  have E:∀ j,j<m->Y8 (1+i) (rat rs j)=true->j∈v:=λj c q=>by rw [<- e];exact IM.mpr ⟨Iw.mpr c,q⟩
  have P:=(HN.mp A).1;have pl:=O.lt;have U:newL (v.map nD) S2=.ok (.ref S2.length) (S2++[.lst (v.map nD)]):=by
   unfold newL;rw [if_pos (by rw [Hy,Iq];omega)]
  refine Ok.eq U<|Ok.nxt<|Ok.cg (me ..)<|Ok.bind ((pk (N:=N+6 * (m-1-(i+1))) n (by omega) (by omega) ((O.push _).less (by omega)) (by rw [HW P];exact A) (by simp) g a R E (λl h=>G l (by omega)) (by omega) (by omega) _ _ k).mono ?_);rintro _ S4 ⟨rfl,X,y,Y,C,H,w⟩;exact Ok.ret ⟨_,.inl rfl,X,y,_,_,_,_,Y,C,H,(λl h=>w l (by omega)),rfl⟩
 ·rintro _ K ⟨ρ,rfl,F3,rs,t,u,s,I,e3,g,a,G,rfl⟩;refine Ok.nxt<|Ok.cg (FE ..)<|Ok.ret ⟨F3.less (by omega),q,rs,rfl,n,e3,g,a,λl=>?_⟩;by_cases z:l<=m-1
  ·exact G l z
  ·have:nR rs l<=m:=by
    refine Ir IH ?_;rw [Il,g];exact HV _
   omega
end L3.K31
namespace L3.Lev
open PySem PySem.Spec PyProof.Rows L2
def rwB:Rw->Option Nat:=λr=>r.map (·.1)
theorem rw0 (l:Nat) (b:Bool) (S:Sto):ixD (rwD (some (l,b))) (.int 0) S=.ok (.int (l:Int)) S:=by kernel_rfl
theorem rw1 (l:Nat) (b:Bool) (S:Sto):ixD (rwD (some (l,b))) (.int 1) S=.ok (.bl b) S:=by kernel_rfl
def RH (bx:List (Option Nat)):Rw->Hd->Prop
 | none,h=>h=.out
 | some (l,true),h=>h=.put (l-1)
 | some (l,false),h=>h=.look l\/(h=.holds (ups bx l)/\(ups bx l).length=l)
def lvD (hs:List Hd):D:=.tup [.tup ((hs.map boxOf).map bxD),.tup (hs.map Hd.d)]
theorem RH.box (q:RH bx r h) (c:∀ l b,r=some (l,b)->1<=l/\(b=true->2<=l)):boxOf h=rwB r/\∀ l,efB l h=Y8 l r:=by
 cases r with
 | none=>
  have q:=q;subst q;exact ⟨rfl,λl=>rfl⟩
 | some r=>
  obtain ⟨l,b⟩:=r;have o:=c l b rfl;cases b with
  | true=>
   have q:=q;subst q;have:=o.2 rfl;exact ⟨by show some (l-1+1)=some l;rw [show l-1+1=l by omega],λa=>rfl⟩
  | false=>
   rcases (q) with q | ⟨q,e⟩
   ·subst q;exact ⟨rfl,λa=>rfl⟩
   ·subst q;refine ⟨by show some _=some l;rw [e],λa=>?_⟩;show decide ((ups bx l).length<=a)=decide (l-0<=a);rw [e];rfl
theorem Good.of {rs:List Rw} {m:Nat} (n:hs.length=m) (p:rs.length=m) (o:RwOk m rs) (s:∀ l,nR rs l<=l) (h:∀ i,i<m->RH (rs.map rwB) (rat rs i) (hat hs i)):Good hs/\hs.map boxOf=rs.map rwB:=by
 have a:∀ i,i<m->∀ l b,rat rs i=some (l,b)->1<=l/\l<=m/\(b=true->2<=l):=λi d l b e=>by
  obtain ⟨r,g⟩:∃ r,rs[i]?=some r:=⟨_,HP (by omega)⟩;rw [aF g] at e;subst e;exact o l b (Io g)
 have k:hs.map boxOf=rs.map rwB:=by
  refine JJ λi=>?_;rw [Ie,Ie];by_cases d:i<m
  ·obtain ⟨r,g⟩:∃ r,rs[i]?=some r:=⟨_,HP (by omega)⟩;rw [u4 (by omega),g];have:=(h i d).box λl b e=>⟨(a i d l b e).1,(a i d l b e).2.2⟩;rw [aF g] at this;show some _=some _;rw [this.1]
  ·grind
 refine ⟨⟨λl=>?_,λi v d e=>?_,λi b d e=>?_⟩,k⟩
 ·refine Ir (Nat.le_of_eq ?_) (s l);unfold nE nR;rw [n,p];refine Ln λj f=>?_;have f:=Iw.mp f;rw [((h j f).box λl b e=>⟨(a j f l b e).1,(a j f l b e).2.2⟩).2 l]
 ·have q:=h i (by omega);rw [e] at q;rw [k];cases c:rat rs i with
  | none=>rw [c] at q;cases q
  | some r=>
   obtain ⟨l,b⟩:=r;rw [c] at q;cases b with
   | true=>cases q
   | false=>
    rcases (q) with q | ⟨q,e2⟩
    ·cases q
    ·grind
 ·have q:=((h i (by omega)).box λl b e=>⟨(a i (by omega) l b e).1,(a i (by omega) l b e).2.2⟩).1;rw [e] at q;cases c:rat rs i with
  | none=>rw [c] at q;cases q
  | some r=>
   obtain ⟨l,t⟩:=r;rw [c] at q;cases q;rw [n];exact (a i (by omega) _ _ c).2.1
end L3.Lev
namespace L3.K31
open PySem PySem.Spec PyProof.Rows L2 L3.Lev
theorem jw {m k:Nat} {S:Sto} (c:bx.length<1000):Ok (rn (k+1) nz [.tup (bx.map bxD),.int (m:Int)]) S λd S'=>d=.tup ((ups bx m).map nD)/\S'=S:=by
 rw [rn,a7 rfl,tu];refine nx_bind (Ok.eq (j2 _ S) ?_);rw [Hy];refine Ok.eq (q9 (by omega) _) ((Ok.comp (λi S' es=>S'=S/\es=((List.range i).filter (upB bx m)).map nD) (λS' es _=>p0 _ S') ?_ ⟨rfl,rfl⟩).mono ?_)
 ·rintro i S' es a ⟨rfl,rfl⟩;have h:=HP a;generalize bx[i]=o at h;refine ⟨.int (i:Int),v8 a S',upB bx m i,S',?_,?_⟩
  ·rw [a8 (m3 S' (d3 h))];have:=pI (m:=m) h S';cases o with
   | none=>exact this
   | some b=>
    rw [<- this];show L3.bind (ixD (.tup (bx.map bxD)) (.int (i:Int))) _ S'=_;rw [a8 (m3 S' (d3 h))];rfl
  ·exact jO (by omega) a rfl
 ·rintro es S' ⟨rfl,rfl⟩;exact Ok.eq rfl (Ok.ret ⟨rfl,rfl⟩)
theorem let_ok {p N m:Nat} {S:Sto} (F:Fw ns p (N+60) S) (h0:0<m) (h6:m<=6) (k:Nat):Ok (rn (k+3) rc [.ref p,.int (m:Int)]) S λd S'=>Fw ns p N S'/\∃ hs:List Hd,d=lvD hs/\hs.length=m/\Good hs:=by
 rw [rn,a7 rfl,tf,wX];refine Ok.first<|Ok.cg (Db ..)<|Ok.bind ((wI (N:=N+6) (F.less (by omega)) h0 h6 k).mono ?_);rintro _ S1 ⟨F1,q,rs,rfl,hpq,K,W,Z,cn⟩;have sr:∀ {S:Sto},S[q]?=some (.lst (rs.map rwD))->u8 (.ref q) S=.ok (ba q,rs.length+1) S:=λ{S} e=>by
  simp only [u8,e,Hy]
 have ql:=(HN.mp K).1;refine Ok.nxt<|Ok.cg (Dq ..)<|nx_bind<|Ok.eq (sr K) ((Ok.comp (λj S' es=>S'=S1/\es=((rs.take j).map rwB).map bxD) (λS' es h=>by rw [h.1];show ba q rs.length S1=_;rw [ei K,IR (by rw [Hy];omega)]) ?_ ⟨rfl,rfl⟩).mono ?_)
 ·rintro j S' es M ⟨R,rfl⟩;cases R;obtain ⟨r,v⟩:∃ r,rs[j]?=some r:=⟨_,HP M⟩;have ta:rs.take (j+1)=rs.take j++[r]:=by rw [Je M,(HN.mp v).2]
  refine ⟨rwD r,by show ba q j S1=_;rw [ei K,d3 v],Ok.ret ?_⟩;rw [if_pos rfl];have H:∀ d:D,d=bxD (rwB r)->(((rs.take j).map rwB).map bxD).length<sizeLine/\S1=S1/\((rs.take j).map rwB).map bxD++[d]=((rs.take (j+1)).map rwB).map bxD:=λd hd=>by
   refine ⟨by rw [Hy,Hy,JZ,Iq];omega,rfl,?_⟩;rw [ta,hd,IN,IN];rfl
  cases r with
  | none=>exact Ok.eq rfl<|Ok.eq rfl<|Ok.pos rfl<|Ok.ret (H _ rfl)
  | some r=>
   obtain ⟨l,b⟩:=r;exact Ok.eq (a:=.bl false) rfl<|Ok.eq rfl<|Ok.neg (by decide)<|Ok.eq rfl<|Ok.ret (H _ rfl)
 rintro _ S2 ⟨R,rfl⟩;cases R;rw [KL];generalize f:rs.map rwB=bx;have bl:bx.length=m:=by rw [<- f,Hy,W]
 refine Ok.eq rfl<|Ok.nxt<|Ok.cg (Bm ..)<|Ok.eq (rfl) ?_;have F2:Fw ns p (N+6) (S1++[.lst []]):=F1.push _;have y:(S1++[O.lst []])[q]?=some (.lst (rs.map rwD)):=by rw [HW ql];exact K
 have t:(S1++[O.lst []])[S1.length]?=some (.lst []):=by simp
 have pl:=F1.lt;generalize hu:S1.length=u at t ⊢;have J:u≠p:=by omega
 have huq:u≠q:=by omega
 generalize S1++[O.lst []]=S3 at F2 y t;refine Ok.nxt<|Ok.cg (Ep ..)<|Ok.eq (sr y)<|Ok.bind ((Ok.loop (λi ρ S'=>Fw ns p (N+(m-i)) S'/\∃ (hs:List Hd) (I L g:Option D),S'[q]?=some (.lst (rs.map rwD))/\S'[u]?=some (.lst (hs.map Hd.d))/\hs.length=i/\(∀ j,j<hs.length->RH bx (rat rs j) (hat hs j))/\ρ=[some (.ref p),some (.int (m:Int)),some (.ref q),I,some (.tup (bx.map bxD)),some (.ref u),L,g]) (λρ S' h=>by obtain ⟨_,hs,_,_,_,e,_⟩:=h;show ba q rs.length S'=_;rw [ei e,IR (by rw [Hy];omega)]) ?_ ⟨F2.less (by omega),[],_,_,_,y,t,rfl,(λj z=>absurd z (Nat.not_lt_zero _)),rfl⟩).mono ?_)
 ·rintro i ρ C X ⟨P,hs,I,L,g,E,A,o,B,rfl⟩;obtain ⟨r,v⟩:∃ r,rs[i]?=some r:=⟨_,HP X⟩;refine ⟨rwD r,_,by show ba q i C=_;rw [ei E,d3 v],rfl,?_⟩;unfold fO;rw [fY];have c:∀ (h:Hd) (g:Option D) (S':Sto),RH bx r h->Fw ns p (N+(m-(i+1))) S'->(∀ x,x≠p->S'[x]?=C[x]?)->Ok (nxt (evK Rs Γ (rn (k+2)) 39) L6 [nth A7 2] ret (.nx [some (.ref p),some (.int (m:Int)),some (.ref q),some (rwD r),some (.tup (bx.map bxD)),some (.ref u),some h.d,g])) S' λfl S'=>∃ s,(fl=.nx s\/fl=.ct s)/\Fw ns p (N+(m-(i+1))) S'/\∃ (hs:List Hd) (I L g:Option D),S'[q]?=some (.lst (rs.map rwD))/\S'[u]?=some (.lst (hs.map Hd.d))/\hs.length=i+1/\(∀ j,j<hs.length->RH bx (rat rs j) (hat hs j))/\s=[some (.ref p),some (.int (m:Int)),some (.ref q),I,some (.tup (bx.map bxD)),some (.ref u),L,g]:=by
   intro h g S' ho F' kk;have n:S'[u]?=some (.lst (hs.map Hd.d)):=by rw [kk _ J];exact A
   have ul:=(HN.mp n).1;refine Ok.nxt<|Ok.cg (kl ..)<|Ok.eq (X7 n)<|Ok.eq (bN n (by rw [Hy,Iq];omega))<|Ok.ret ⟨_,.inl rfl,F'.keep (by rw [HZ J]),hs++[h],_,_,_,?_,?_,by simp [o],λj M=>?_,rfl⟩
   ·grind
   ·grind
   ·rw [Jz,List.length_singleton] at M;by_cases z:j<hs.length
    ·have e:hat (hs++[h]) j=hat hs j:=by unfold hat;rw [IG,IG,HW z]
     rw [e];exact B j z
    ·have V:j=hs.length:=by omega
     have e:hat (hs++[h]) j=h:=oW (by rw [V,IB (HV _),Nat.sub_self];rfl);rw [e,aF (show rs[j]?=some r by rw [V,o];exact v)];exact ho
  refine Ok.first<|Ok.cg (lO ..)<|Ok.nxt<|Ok.cg (ke ..) ?_;have Q:Fw ns p (N+(m-(i+1))) C:=P.less (by omega);cases r with
  | none=>exact Ok.eq rfl<|Ok.eq rfl<|Ok.neg (by decide)<|c .out _ C rfl Q λ_ _=>rfl
  | some r=>
   obtain ⟨l,b⟩:=r;have lo:=Z l b (Io v);have bi:bx[i]?=some (some l):=by rw [<- f,Ie,v];rfl
   obtain ⟨_,_,es,rfl,rfl⟩:=jw (bx:=bx) (by omega);obtain ⟨u1,u2⟩:=oM (l:=l) (show bx.length<=6 by omega);rw [bl] at u2;cases b with
   | true=>exact Ok.eq rfl<|Ok.eq rfl<|Ok.pos rfl<|Ok.eq (rw1 l _ _)<|Ok.eq rfl<|Ok.pos rfl<|Ok.eq (rw0 l _ _)<|Ok.eq (n4 (b:=1) (by omega) _)<|Ok.eq (rw0 l _ _)<|Ok.eq es<|Ok.eq (rw1 l _ _)<|Ok.eq rfl<|Ok.neg (by decide)<|c (.put (l-1)) _ _ rfl Q λ_ _=>rfl
   | false=>
    have lk:RH bx (some (l,false)) (.look l):=.inl rfl;have ln:∀ S,e8 (.tup ((ups bx l).map nD)) S=.ok (.int ((ups bx l).length:Int)) S:=λS=>(j2 _ S).trans (by rw [Hy]);refine Ok.eq rfl<|Ok.eq rfl<|Ok.pos rfl<|Ok.eq (rw1 l _ _)<|Ok.eq rfl<|Ok.neg (by decide)<|Ok.eq (rw0 l _ _)<|Ok.eq (rw0 l _ _)<|Ok.eq es<|Ok.eq (rw1 l _ _)<|Ok.eq rfl<|Ok.pos rfl<|Ok.eq (ln _)<|Ok.eq (rw0 l _ _)<|Ok.eq (A4 _ _ _)<|Ok.eq (i8 _ _)<|Ok.ite (λhq=>?_) λ_=>c (.look l) _ _ lk Q λ_ _=>rfl;refine Ok.bind ((j3 (N:=N+(m-(i+1))) (m:=3) (P.less (by omega)) (by omega) (by omega) (k+1)).mono ?_);rintro _ S5 ⟨w,rfl,_,Y,_,U⟩;exact Ok.eq (fy _ _ _)<|Ok.eq (i8 _ _)<|Ok.ite (λ_=>c (.holds (ups bx l)) _ _ (.inr ⟨rfl,by have:=Iu hq;omega⟩) Y U) λ_=>c (.look l) _ _ lk Y U
 ·rintro _ C ⟨ρ,rfl,P,hs,I,L,g,E,A,o,B,rfl⟩;have T:hs.length=m:=by omega
  obtain ⟨G,bq⟩:=Good.of T W Z cn (λi X=>by rw [f];exact B i (by omega));exact Ok.nxt<|Ok.cg (Ek ..)<|Ok.eq (gN A)<|Ok.ret ⟨P.less (by omega),hs,by unfold lvD;rw [bq,f],T,G⟩
end L3.K31
namespace L3.Lev
open PySem PySem.Spec PyProof.Rows L2
theorem gw (hs:List Hd):hs.map Hd.d=(List.range hs.length).map λi=>(hat hs i).d:=by
 refine JJ λi=>?_;rw [Ie,Ie];by_cases a:i<hs.length
 ·rw [u4 a,Kh a];rfl
 ·grind
theorem Good.vw (G:Good hs) (b:hs.length<=6) {i:Nat} (a:i<hs.length) {v:List Nat} (e:hat hs i=.holds v):v.length<=6/\(∀ x∈v,x<hs.length)/\i∈v:=by
 have o:=G.own a e;have w:=G.view i v a e;obtain ⟨d,c⟩:=oM (bx:=hs.map boxOf) (l:=v.length) (by rw [Hy];exact b);grind
theorem Good.sm (G:Good hs) (h6:hs.length<=6) {i:Nat} (hi:i<hs.length):Sml 2 760 (hat hs i).d:=by
 have tp:=G.top i;cases e:hat hs i with
 | out=>exact Sml.w
 | look l=>
  have:=tp l hi (by rw [e];rfl);exact (Sml.tup (n:=0) (N:=60) (m:=2) (.cons .w (.cons (.nat (by omega)) .nil)) (HV _)).up
 | put l=>
  have:=tp (l+1) hi (by rw [e];rfl);exact (Sml.tup (n:=0) (N:=60) (m:=2) (.cons .w (.cons (.nat (by omega)) .nil)) (HV _)).up
 | holds v=>
  obtain ⟨v6,vm,_⟩:=G.vw h6 hi e;have hv:Sml 1 375 (.tup (v.map nD)):=(Sml.tup (n:=0) (N:=60) (.map λx hx=>.nat (by have:=vm x hx;omega)) (by rw [Hy];exact v6)).up;exact (Sml.tup (m:=2) (.cons Sml.w (.cons hv .nil)) (HV _)).up
def nmN (gs:List Int) (i:Nat):Hd->Nat
 | .holds v=>nmV gs i v
 | _=>0
end L3.Lev
namespace L3.K31.V
open PySem PySem.Spec PyProof.Rows L2 L3.Lev
theorem aq (n:Nat) (hn:n<1000) (k:Nat) (S:Sto):rn (k+1) ol [.int (n:Int)] S=.ok (.int (tri n:Int)) S:=by
 refine c9 ?_;rw [rn,a7 rfl,ip];refine Ok.eq (i5 n 1 S) (Ok.eq (K9 (.inl ⟨by omega,by omega⟩) S) (Ok.eq (D7 (by decide) (by decide) S) (Ok.ret ⟨?_,rfl⟩)));have:((n:Int) * ((n+1:Nat):Int) / 2)=((n * (n+1) / 2:Nat):Int):=by
  rw [<- JH];exact (JR (n * (n+1)) 2).symm
 rw [this];rfl
theorem g_at {gs:List Int} {o:Nat} (h:o<gs.length) (S:Sto):ixD (.tup (gs.map D.int)) (.int (o:Int)) S=.ok (.int (gs.getD o 0)) S:=by
 have e:gs[o]?=some (gs.getD o 0):=by rw [IG,HP h];rfl
 exact m3 S (d3 e)
theorem dy {i:Nat} {h:Hd} (hg:gs.length<=6) (hi:i<gs.length) (ho:∀ v,h=.holds v->v.length<=6/\(∀ x∈v,x<gs.length)/\i∈v) (k:Nat) (S:Sto):rn (k+2) yO [.tup (gs.map D.int),.int (i:Int),h.d] S=.ok (nmD gs i h) S:=by
 refine c9 ?_;rw [rn,a7 rfl,tB];cases h with
 | out=>exact Ok.eq rfl<|Ok.eq rfl<|Ok.eq rfl<|Ok.pos rfl<|Ok.ret ⟨rfl,rfl⟩
 | look l=>exact Ok.eq rfl<|Ok.eq rfl<|Ok.eq rfl<|Ok.pos rfl<|Ok.ret ⟨rfl,rfl⟩
 | put l=>exact Ok.eq rfl<|Ok.eq rfl<|Ok.eq rfl<|Ok.pos rfl<|Ok.ret ⟨rfl,rfl⟩
 | holds v=>
  obtain ⟨h1,h2,h3⟩:=ho v rfl;have v0:=Jx h3;have cf:=e6 (t:=λd5=>bind (ixD (.tup (gs.map D.int)) d5) λx7=>bind (ixD (.tup (gs.map D.int)) (.int (i:Int))) λx8=>bind (a9 .Lt x7 x8) λx9=>bind (asB x9) λz10=>ret z10) (W2 h1) (λo hov=>by
   show (bind (ixD (.tup (gs.map D.int)) (.int (o:Int))) λx7=>bind (ixD (.tup (gs.map D.int)) (.int (i:Int))) λx8=>bind (a9 .Lt x7 x8) λx9=>bind (asB x9) λz10=>ret z10) S=_;rw [a8 (g_at (h2 o hov) S),a8 (g_at hi S)];rfl) (λo _ _=>rfl)
  have cf2:nx (bind (u8 (.tup (v.map nD))) λsm6=>e9 sm6.1 (λd5=>bind (ixD (.tup (gs.map D.int)) d5) λx7=>bind (ixD (.tup (gs.map D.int)) (.int (i:Int))) λx8=>bind (a9 .Lt x7 x8) λx9=>bind (asB x9) λz10=>ret z10) (λd5=>ret d5) sm6.2 0 []) S=.ok ((v.filter λo=>decide (gs.getD o 0<gs.getD i 0)).map nD) S:=by
   refine FO ?_;rw [a8 (t5 _ S)];simp;exact cf
  have l1:e8 (.tup (v.map nD)) S=.ok (.int (v.length:Int)) S:=(j2 _ S).trans (by rw [Hy]);have l2:e8 (.lst ((v.filter λo=>decide (gs.getD o 0<gs.getD i 0)).map nD)) S=.ok (.int ((v.countP λo=>decide (gs.getD o 0<gs.getD i 0):Nat):Int)) S:=(xj _ S).trans (by rw [Hy,IE]);refine Ok.eq rfl<|Ok.eq rfl<|Ok.eq rfl<|Ok.neg (by decide)<|Ok.eq rfl<|Ok.eq cf2<|Ok.eq l1<|Ok.eq (n4 (b:=1) (by omega) S)<|Ok.eq (aq (v.length-1) (by omega) k S)<|Ok.eq l2<|Ok.eq (i5 _ _ S)<|Ok.eq (i5 _ 1 S)<|Ok.ret ⟨rfl,rfl⟩
theorem Eb {m k:Nat} {S:Sto} (b:bx.length<=1000):Ok (rn (k+1) yt [.tup (bx.map bxD),.int (m:Int)]) S λd S'=>d=.tup ((ups bx m).map nD)/\S'=S:=by
 rw [rn,a7 rfl,tO];refine nx_bind (Ok.eq (by show R.ok (K1 (bx.map bxD),(bx.map bxD).length+1) S=_;rw [Hy]) ((Ok.comp (λi S' es=>S'=S/\es=((List.range i).filter (upB bx m)).map nD) (λS' es _=>nT bx S') ?_ ⟨rfl,rfl⟩).mono ?_))
 ·rintro i S' es a ⟨rfl,rfl⟩;have h:=HP a;generalize bx[i]=o at h;refine ⟨_,wV h S',upB bx m i,S',?_,?_⟩
  ·rw [fj];exact pI h S'
  ·have:=jO (m:=m) (S:=S') (f:=eE (rn k) [some (.tup (bx.map bxD)),some (.int (m:Int))] (.tup [.int (i:Int),bxD o])) b a (by rw [fC];rfl);exact this
 ·rintro es S' ⟨rfl,rfl⟩;exact Ok.eq rfl (Ok.ret ⟨rfl,rfl⟩)
theorem n8 {i k:Nat} {x:D} {S:Sto} (h:i<ds.length) (a:ds.length<=1000):Ok (rn (k+1) gT [.tup ds,.int (i:Int),x]) S λd S'=>d=.tup (ds.set i x)/\S'=S:=by
 rw [rn,a7 rfl,cc];exact R7 h a
section
variable {hs:List Hd} {i:Nat} (h6:hs.length<=6) (k:Nat) (S:Sto)
include h6
theorem nc (l:Nat):Ok (rn (k+2) Cc [.tup ((hs.map boxOf).map bxD),.int (l:Int)]) S λd S'=>d=(W8 (hs.map boxOf) l).d/\S'=S:=by
 rw [rn,a7 rfl,Ak];refine Ok.bind ((Eb (by rw [Hy];omega)).mono ?_);rintro _ _ ⟨rfl,rfl⟩;refine Ok.eq (j2 _ _) ?_;rw [Hy];refine Ok.eq (wx _ _ _) (Ok.eq (i8 _ _) ?_);unfold W8;by_cases q:l<=(ups (hs.map boxOf) l).length
 ·rw [if_pos (Ia (by omega)),if_pos q];exact Ok.ret ⟨rfl,rfl⟩
 ·rw [if_neg (by rw [Im (by omega)];exact HU),if_neg q];exact Ok.eq (n4 (b:=1) (by omega) _) (Ok.ret ⟨rfl,rfl⟩)
variable (G:Good hs) (hi:i<hs.length)
include G hi
theorem step_ok (n:∀ v,hat hs i≠.holds v):Ok (rn (k+3) oe [lvD hs,.int (i:Int)]) S λd S'=>d=lvD (hs.set i (n9 hs i))/\S'=S:=by
 have bx:=G.box hi n;have ha:=u4 hi;have fin:∀ (b:List (Option Nat)) (h:Hd),(hs.set i (n9 hs i)).map boxOf=b->n9 hs i=h->(D.tup [.tup (b.map bxD),.tup ((hs.map Hd.d).set i h.d)])=lvD (hs.set i (n9 hs i)):=λb h e1 e2=>by
  unfold lvD;rw [e1,e2,Iy]
 rw [rn,a7 rfl,jy,kE];refine Ok.first<|Ok.cg (xq ..)<|Ok.eq rfl<|Ok.nxt<|Ok.cg (xQ ..)<|Ok.eq (m3 S (d3 ha))<|Ok.nxt<|Ok.cg (xu ..) ?_;have last:∀ (l:Nat) (o5:Option D),(hs.set i (n9 hs i)).map boxOf=(hs.map boxOf).set i (some l)->n9 hs i=.look l->Ok (nxt (evK Rs Γ (rn (k+2)) 40) W9 [nth Hg.body 5] endD (.nx [some (lvD hs),some (.int (i:Int)),some (.tup ((hs.map boxOf).map bxD)),some (.tup (hs.map Hd.d)),o5,some (.int (l:Int))])) S λd S'=>d=lvD (hs.set i (n9 hs i))/\S'=S:=λl o5 e1 e2=>by
  refine Ok.nxt (Ok.cg (De ..) (Ok.bind ((n8 (by rw [Hy,Hy];exact hi) (by rw [Hy,Hy];omega)).mono ?_)));rintro _ _ ⟨rfl,rfl⟩;refine Ok.bind ((n8 (by rw [Hy];exact hi) (by rw [Hy];omega)).mono ?_);rintro _ _ ⟨rfl,rfl⟩;refine Ok.ret ⟨?_,rfl⟩;rw [<- fin _ _ e1 e2,Iy];rfl
 cases e:hat hs i with
 | out=>
  rw [e] at bx;refine Ok.eq rfl (Ok.eq rfl (Ok.eq rfl (Ok.neg (by decide) (Ok.nxt (Ok.cg (nM ..) (Ok.eq rfl (Ok.eq rfl (Ok.eq rfl (Ok.neg (by decide) (Ok.nxt (Ok.cg (xb ..) (Ok.eq rfl (Ok.eq rfl (Ok.eq rfl (Ok.pos (by decide) (Ok.eq (j2 _ _) ?_))))))))))))))));rw [Hy,Hy];exact last hs.length _ bx (by unfold n9;rw [e])
 | put l=>
  rw [e] at bx;exact Ok.eq rfl<|Ok.eq rfl<|Ok.eq rfl<|Ok.neg (by decide)<|Ok.nxt<|Ok.cg (nM ..)<|Ok.eq rfl<|Ok.eq rfl<|Ok.eq rfl<|Ok.neg (by decide)<|Ok.nxt<|Ok.cg (xb ..)<|Ok.eq rfl<|Ok.eq rfl<|Ok.eq rfl<|Ok.neg (by decide)<|Ok.eq rfl<|last l _ bx (by unfold n9;rw [e])
 | look l=>
  rw [e] at bx;refine Ok.eq rfl (Ok.eq rfl (Ok.eq rfl (Ok.neg (by decide) (Ok.nxt (Ok.cg (nM ..) (Ok.eq rfl (Ok.eq rfl (Ok.eq rfl (Ok.pos (by decide) (Ok.eq rfl (Ok.bind ((nc h6 k S l).mono ?_))))))))))));rintro _ _ ⟨rfl,rfl⟩;refine Ok.bind ((n8 (by rw [Hy];exact hi) (by rw [Hy];omega)).mono ?_);rintro _ _ ⟨rfl,rfl⟩;exact Ok.ret ⟨fin _ _ bx (by unfold n9;rw [e]),rfl⟩
 | holds v=>exact absurd e (n v)
end
section
variable {gs:List Int} {hs:List Hd} (gl:gs.length=hs.length) (h6:hs.length<=6) (G:Good hs) (k:Nat) (S:Sto)
include gl h6 G
theorem z47_ok:rn (k+3) zF [.tup (gs.map D.int),lvD hs] S=.ok (.tup ((List.range hs.length).map λi=>nmD gs i (hat hs i))) S:=by
 refine c9 ?_;rw [rn,a7 rfl,vZ];have d:aS (.tup (hs.map Hd.d)) S=.ok (K1 (hs.map Hd.d),hs.length+1) S:=by
  show R.ok (K1 (hs.map Hd.d),(hs.map Hd.d).length+1) S=_;rw [Hy]
 refine nx_bind<|Ok.eq rfl<|Ok.eq d ((Ok.comp (λi S' es=>S'=S/\es=(List.range i).map λi=>nmD gs i (hat hs i)) (λS' es _=>?_) ?_ ⟨rfl,rfl⟩).mono ?_)
 ·have e:(hs.map Hd.d)[hs.length]?=none:=IR (by simp);simp only [K1,e,Hy,if_true]
 ·rintro i S' es b ⟨a,rfl⟩;cases a;have c:=u4 b;have e:(hs.map Hd.d)[i]?=some (hat hs i).d:=d3 c;refine ⟨.tup [.int (i:Int),(hat hs i).d],by simp only [K1,e],Ok.cg (gL ..) (Ok.ret ?_)⟩;rw [if_pos rfl];refine Ok.cg (gM ..)<|Ok.eq (dy (by omega) (by omega) (λv e=>by rw [gl];exact G.vw h6 b e) k S)<|Ok.ret ⟨by rw [Hy,Il,Iq];omega,rfl,?_⟩;rw [JI,IN];rfl
 ·rintro _ S' ⟨a,rfl⟩;cases a;exact Ok.eq rfl<|Ok.ret ⟨rfl,rfl⟩
end
theorem step_no {i:Nat} (d:hs.length<=6) (c:i<hs.length) {v:List Nat} (e:hat hs i=.holds v) (k:Nat) (S:Sto):Xn (rn (k+3) oe [lvD hs,.int (i:Int)]) S λn S'=>n=S.length/\S'=S++[.exc 1 [("hand",.int (i:Int))]]:=by
 have b:=u4 c;rw [e] at b;rw [rn,a7 rfl,jy,kE];refine Xn.first<|Xn.cg (xq ..)<|Xn.eq rfl<|Xn.nxt<|Xn.cg (xQ ..)<|Xn.eq (m3 S (d3 b))<|Xn.nxt<|Xn.cg (xu ..) ?_;exact Xn.eq rfl<|Xn.eq (a:=.bl true) (by kernel_rfl)<|Xn.eq rfl<|Xn.pos (by decide)<|raise_k rfl (uE (dG ⟨by omega,by omega⟩))
end L3.K31.V
namespace L3.K31
open PySem PySem.Spec PyProof.Rows L2 L3.Lev
theorem si {a:Type} {l:List a} {n:Nat} {g:Nat->a} (c:l.length=n) (b:∀ i,i<n->l[i]?=some (g i)):l=(List.range n).map g:=by
 apply JJ;grind
def lwd:Hd->Str
 | .out=>"out"
 | .look _=>"look"
 | .put _=>"put"
 | .holds _=>"holds"
def lmd (gs:List Int):D:=.tup [.str "levels",.tup (gs.map D.int)]
theorem Fm (a:Hd) (S:Sto):a9 .Eq (.str (lwd a)) (.str "holds") S=.ok (.bl (aP a)) S:=by cases a <;> kernel_rfl
theorem ld0 (a:Hd) (S:Sto):ixD a.d (.int 0) S=.ok (.str (lwd a)) S:=by cases a <;> exact m3 S rfl
theorem FV (a:Hd):PyData.eqv (py a.d) (.tuple (pys [.str "out"]))=isOut a:=by cases a <;> rfl
theorem l3 (a:Hd) (ds:List D) (e:a.d=.tup ds):(three.any λy=>PyData.eqv y (.tuple (pys ds)))=isOut a:=by cases a <;> cases e <;> kernel_rfl
theorem HK (a:Hd):∃ ds,a.d=.tup ds:=by cases a <;> exact ⟨_,rfl⟩
theorem FP (s:Sml 2 760 a.d) (S:Sto):a9 .NotIn a.d (.lst [(.tup [(.str "out")]),(.tup [(.str "rests")]),(.tup [(.tup []),(.str "out")])]) S=.ok (.bl (!isOut a)) S:=by
 obtain ⟨ds,e⟩:=HK a;rw [e] at s ⊢;rw [zD s (by decide),l3 a ds e]
theorem cz {n:Nat} (a:gs.length=n) (k:Nat) (S:Sto):rn (k+1) V4 [lmd gs] S=.ok (.int (n:Int)) S/\rn (k+1) W3 [lmd gs] S=.ok (.int (n:Int)) S:=by
 have l:e8 (.tup (gs.map D.int)) S=.ok (.int (n:Int)) S:=(j2 _ S).trans (by rw [Hy,a]);refine ⟨c9 ?_,c9 ?_⟩
 ·rw [rn,a7 rfl,lmd,jc];exact yes_ dH<|Ok.eq rfl<|Ok.eq l<|Ok.ret ⟨rfl,rfl⟩
 ·rw [rn,a7 rfl,lmd,jo];exact yes_ dH<|Ok.eq rfl<|Ok.eq l<|Ok.ret ⟨rfl,rfl⟩
section
variable {gs:List Int} {hs:List Hd} (gl:gs.length=hs.length) (h6:hs.length<=6) (G:Good hs) (k:Nat) (S:Sto)
include gl h6 G
theorem GC:rn (k+6) dX [lmd gs,lvD hs] S=.ok (.tup ((List.range hs.length).map λi=>nmD gs i (hat hs i))) S:=by
 refine c9 ?_;rw [rn,a7 rfl,lmd,Z8];exact no_ dA<|no_ gE<|yes_ dH<|Ok.eq rfl<|Ok.eq (V.z47_ok gl h6 G (k+2) S)<|Ok.ret ⟨rfl,rfl⟩
omit gl in
theorem FG:rn (k+5) cp [lmd gs,lvD hs] S=.ok (.int (((List.range hs.length).countP λi=>!isOut (hat hs i):Nat):Int)) S:=by
 have e:Smls 2 760 (hs.map Hd.d):=by
  rw [gw];exact Smls.map λi b=>G.sm h6 (Iw.mp b)
 have f:rn (k+4) hJ [lmd gs] S=.ok (.tup [.str "out"]) S:=by
  refine c9 ?_;rw [rn,a7 rfl,lmd,eD];exact no_ dA<|no_ gE<|Ok.ret ⟨rfl,rfl⟩
 have c:=dL (q:=.tup [.str "out"]) e Sml.w (by decide) (λa _=>FV a) S;have h:hs.countP isOut<=hs.length:=IH;have d:=eF hs isOut;have j:(hs.countP λa=>!isOut a)=(List.range hs.length).countP λi=>!isOut (hat hs i):=by
  conv=>lhs;rw [si (g:=hat hs) rfl λi b=>u4 b]
  rw [LG];rfl
 rw [j] at d;have l:e8 (.tup (hs.map Hd.d)) S=.ok (.int (hs.length:Int)) S:=(j2 _ S).trans (by rw [Hy]);refine c9 ?_;rw [rn,a7 rfl,lmd,Z2];refine no_ Eo<|no_ dA<|Ok.eq rfl<|Ok.eq l<|Ok.eq rfl<|Ok.eq f<|Ok.eq c<|Ok.eq (n4 h S) ?_;rw [d];exact Ok.ret ⟨rfl,rfl⟩
end
theorem Cz (e:aP h=false):∀ v,h≠.holds v:=λv z=>by rw [z] at e;cases e
theorem FC (e:aP h=true):∃ v,h=.holds v:=by
 cases h with
 | holds v=>exact ⟨v,rfl⟩
 | _=>cases e
def T3 (hs:List Hd) (i:Nat):Option (List Hd):=if aP (hat hs i)=true then none else some (hs.set i (n9 hs i))
theorem Am (e:T3 hs i=none):aP (hat hs i)=true:=by
 unfold T3 at e;grind
theorem yR {i:Nat} (e:T3 hs i=some hs'):aP (hat hs i)=false/\hs'=hs.set i (n9 hs i):=by
 unfold T3 at e;grind
section
variable {gs:List Int} {n:Nat} (gl:gs.length=n) (h6:n<=6)
include gl h6
theorem AN (a:1<=n) (k:Nat) (S:Sto):rn (k+3) rg [lmd gs] S=.ok (lvD (List.replicate n .out)) S:=by
 have f:rn (k+2) Bw [.int (n:Int)] S=.ok (lvD (List.replicate n .out)) S:=by
  rw [rn,a7 rfl,zW];rcases R.sixs a h6 with rfl | rfl | rfl | rfl | rfl | rfl <;> kernel_rfl
 refine c9 ?_;have h:=(cz gl (k+1) S).2;rw [rn,a7 rfl,aD];exact Ok.eq h<|no_ dA<|no_ gE<|yes_ dH<|Ok.eq f<|Ok.ret ⟨rfl,rfl⟩
variable {hs:List Hd} (G:Good hs) (hl:hs.length=n)
include G hl
theorem lno (b:i<n) (e:T3 hs i=none) (k:Nat) (S:Sto):Xn (rn (k+6) O9 [lmd gs,lvD hs,.int (i:Int)]) S λn S'=>n=S.length/\S'=S++[exS i]:=by
 obtain ⟨v,a⟩:=FC (Am e);have x:=V.step_no (by omega) (by omega) a (k+2) S;rw [rn,a7 rfl,lmd,G2];exact noX dA<|noX gE<|yesX dH<|Xn.bind x
theorem lgo (hi:i<n) (e:T3 hs i=some hs') (k:Nat) (S:Sto):rn (k+6) O9 [lmd gs,lvD hs,.int (i:Int)] S=.ok (lvD hs') S/\Good hs'/\hs'.length=n:=by
 obtain ⟨q,rfl⟩:=yR e;refine ⟨c9 ?_,G.step (by omega),by rw [Ij];exact hl⟩;have x:=c9 (V.step_ok (by omega) (k+2) S G (by omega) (Cz q));rw [rn,a7 rfl,lmd,G2];exact no_ dA<|no_ gE<|yes_ dH<|Ok.eq x<|Ok.ret ⟨rfl,rfl⟩
end
theorem gc (n i:Nat):hat (List.replicate n Hd.out) i=.out:=by
 unfold hat;grind
theorem DX (n:Nat):Good (List.replicate n Hd.out):=by
 refine ⟨λl=>?_,λi v _ e=>(by rw [gc] at e;cases e),λi b _ e=>(by rw [gc] at e;cases e)⟩;have:nE (List.replicate n Hd.out) l=0:=List.countP_eq_zero.mpr λi _=>by rw [gc];exact HU
 omega
theorem EV (v:List Nat) (S:Sto):e8 (.tup (v.map nD)) S=.ok (.int (v.length:Int)) S:=(j2 _ S).trans (by rw [Hy])
theorem iN {hs:List Hd} {i:Nat} (b:List (Option Nat)) (h:Hd) (a:(hs.set i h).map boxOf=b):D.tup [.tup (b.map bxD),.tup ((hs.map Hd.d).set i h.d)]=lvD (hs.set i h):=by unfold lvD;rw [a,Iy]
section
variable {hs:List Hd} {i:Nat} (h6:hs.length<=6) (k:Nat) (S:Sto) (G:Good hs) (hi:i<hs.length)
include h6 G hi
def sj (hs:List Hd) (i:Nat):D:=if aP (hat hs i)=true then .non else lvD (hs.set i (n9 hs i))
theorem zf:Ok (rn (k+2) BU [lvD hs,.int (i:Int)]) S λd S'=>d=sj hs i/\S'=S:=by
 have ha:=u4 hi;have w1:∀ (x:D) S,rn (k+1) cr [.tup (hs.map Hd.d),.int (i:Int),x] S=.ok (.tup ((hs.map Hd.d).set i x)) S:=λx S=>L0 (by rw [Hy];exact hi) (by rw [Hy];omega);have w2:∀ (x:D) S,rn (k+1) cr [.tup ((hs.map boxOf).map bxD),.int (i:Int),x] S=.ok (.tup (((hs.map boxOf).map bxD).set i x)) S:=λx S=>L0 (by rw [Hy,Hy];exact hi) (by rw [Hy,Hy];omega);rw [rn,a7 rfl,vK,sW];refine Ok.first<|Ok.cg (CK ..)<|Ok.eq rfl<|Ok.nxt<|Ok.cg (FJ ..)<|Ok.eq (m3 S (d3 ha))<|Ok.nxt<|Ok.cg (DV ..) ?_;unfold sj;have last:∀ (l:Nat) (o5 o6 o7:Option D),(hs.set i (n9 hs i)).map boxOf=(hs.map boxOf).set i (some l)->n9 hs i=.look l->Ok (nxt (evK Rs Γ (rn (k+1)) 40) X4 [nth Hf.body 5] endD (.nx [some (lvD hs),some (.int (i:Int)),some (.tup ((hs.map boxOf).map bxD)),some (.tup (hs.map Hd.d)),o5,o6,o7,some (.int (l:Int))])) S λd S'=>d=lvD (hs.set i (n9 hs i))/\S'=S:=λl o5 o6 o7 e1 e2=>by
  refine Ok.nxt<|Ok.cg (Ck ..)<|Ok.eq (w2 _ S)<|Ok.eq (w1 _ S)<|Ok.ret ⟨?_,rfl⟩;rw [e2] at e1 ⊢;rw [<- iN _ _ e1,Iy];rfl
 cases e:hat hs i with
 | out=>
  have bx:=G.box hi (by rw [e];intro v z;cases z);rw [e] at bx;rw [if_neg (show ¬ aP Hd.out=true from HU)];refine Ok.eq rfl<|Ok.eq rfl<|Ok.eq rfl<|Ok.neg (by decide)<|Ok.nxt<|Ok.cg (sC ..)<|Ok.eq rfl<|Ok.eq rfl<|Ok.eq rfl<|Ok.neg (by decide)<|Ok.nxt<|Ok.cg (yC ..)<|Ok.eq rfl<|Ok.eq rfl<|Ok.eq rfl<|Ok.neg (by decide)<|Ok.eq (j2 _ _) ?_;rw [Hy,Hy];exact last hs.length _ _ _ bx (by unfold n9;rw [e])
 | put l=>
  have bx:=G.box hi (by rw [e];intro v z;cases z);rw [e] at bx;rw [if_neg (show ¬ aP (Hd.put l)=true from HU)];exact Ok.eq rfl<|Ok.eq rfl<|Ok.eq rfl<|Ok.neg (by decide)<|Ok.nxt<|Ok.cg (sC ..)<|Ok.eq rfl<|Ok.eq rfl<|Ok.eq rfl<|Ok.neg (by decide)<|Ok.nxt<|Ok.cg (yC ..)<|Ok.eq rfl<|Ok.eq rfl<|Ok.eq rfl<|Ok.pos (by decide)<|Ok.eq rfl<|last l _ _ _ bx (by unfold n9;rw [e])
 | holds v=>
  rw [if_pos (show aP (Hd.holds v)=true from rfl)];exact Ok.eq rfl<|Ok.eq rfl<|Ok.eq rfl<|Ok.pos (by decide)<|Ok.ret ⟨rfl,rfl⟩
 | look l=>
  have bx:=G.box hi (by rw [e];intro v z;cases z);rw [e] at bx;rw [if_neg (show ¬ aP (Hd.look l)=true from HU)];have se:n9 hs i=W8 (hs.map boxOf) l:=by unfold n9;rw [e]
  have sn:rn (k+1) nz [.tup ((hs.map boxOf).map bxD),.int (l:Int)] S=.ok (.tup ((ups (hs.map boxOf) l).map nD)) S:=c9 (jw (by rw [Hy];omega));refine Ok.eq rfl<|Ok.eq rfl<|Ok.eq rfl<|Ok.neg (by decide)<|Ok.nxt<|Ok.cg (sC ..)<|Ok.eq rfl<|Ok.eq rfl<|Ok.eq rfl<|Ok.pos (by decide)<|Ok.eq rfl<|Ok.eq sn<|Ok.eq (EV _ S)<|Ok.eq rfl<|Ok.eq (rJ _ _ _)<|Ok.eq (i8 _ _) ?_;rw [se] at bx ⊢;unfold W8 at bx ⊢;by_cases q:l<=(ups (hs.map boxOf) l).length
  ·rw [if_pos q] at bx ⊢;exact Ok.pos (Ia (by omega))<|Ok.eq (w1 _ S)<|Ok.ret ⟨iN _ (.holds (ups (hs.map boxOf) l)) bx,rfl⟩
  ·rw [if_neg q] at bx ⊢;exact Ok.neg (by rw [Im (by omega)];decide)<|Ok.eq rfl<|Ok.eq (n4 (b:=1) (by omega) S)<|Ok.eq (w1 _ S)<|Ok.ret ⟨iN _ (.put (l-1)) bx,rfl⟩
end
def mLv (gs:List Int) (n:Nat):Mc:=⟨List Hd,lvD,λhs=>Good hs/\hs.length=n,T3,lmd gs,n,List.replicate n .out⟩
theorem Bo (G:Good hs) (d:hs.length<=6):Sml 5 20000 (lvD hs):=by
 have b:Sml 1 400 (.tup ((hs.map boxOf).map bxD)):=(Sml.tup (n:=0) (N:=60) (Smls.map λo f=>by
  obtain ⟨a,j,rfl⟩:=KY.mp f;obtain ⟨i,c,e⟩:=Jv j;have e:hat hs i=a:=by
   have:=u4 c;rw [HP c,e] at this;exact (Iv this).symm
  cases z:boxOf a with
  | none=>exact Sml.non
  | some g=>exact Sml.nat (by have:=G.top i g c (by rw [e];exact z);omega)) (by rw [Hy,Hy];exact d)).mono (by decide) (by decide)
 have h:Sml 3 6000 (.tup (hs.map Hd.d)):=by
  rw [gw];exact (Sml.tup (Smls.map λi c=>G.sm d (Iw.mp c)) (by rw [Hy,Il];exact d)).mono (by decide) (by decide)
 exact (Sml.tup (m:=2) (.cons (b.mono (by decide) (by decide)) (.cons h .nil)) (HV _)).mono (by decide) (by decide)
theorem Gn {m:Nat} (h:1<=m) (a:m<=6) (S:Sto):p6 (.tup [.non]) (.int (m:Int)) S=.ok (.tup (List.replicate m .non)) S/\p6 (.tup [.tup [.str "out"]]) (.int (m:Int)) S=.ok (.tup ((List.replicate m Hd.out).map Hd.d)) S:=by
 rcases R.sixs h a with rfl | rfl | rfl | rfl | rfl | rfl <;> exact ⟨by kernel_rfl,by kernel_rfl⟩
theorem pM {n:Nat} (d:1<=n) (a:n<=6) (f:wR gs n):McOk (mLv gs n):=by
 have c:=f.1;refine ⟨d,a,λhs i k S V b e=>lno c a V.1 V.2 b e k S,λhs hs' i k S V b e=>lgo c a V.1 V.2 b e k S,λhs i k S V b=>?_,λhs=>⟨_,rfl⟩,λhs V=>Bo V.1 (by rw [V.2];exact a),?_,λk S=>(cz c k S).1,λk S=>?_,⟨DX n,Jh ..⟩⟩
 ·have j:=V.2;rw [rn,a7 rfl,Y9];refine no_ gE<|yes_ dH<|Ok.bind ((zf (by omega) k S V.1 (by rw [j];exact b)).mono ?_);rintro _ S' ⟨rfl,rfl⟩;refine Ok.ret ⟨?_,k0 _⟩;show sj hs i=Mc.oD (mLv gs n) (T3 hs i);unfold sj T3;split <;> rfl
 ·have l:Sml 1 400 (.tup (gs.map D.int)):=(Sml.tup (n:=0) (N:=60) (m:=6) (Smls.map λg o=>by
   obtain ⟨h,r⟩:=f.2.1 g o;obtain ⟨n,rfl⟩:=JQ h;exact Sml.big (by omega)) (by rw [Hy];omega)).up
  exact (Sml.tup (m:=2) (.cons Sml.w (.cons l .nil)) (HV _)).mono (by decide) (by decide)
 ·refine c9 ?_;rw [rn,a7 rfl,Z1];obtain ⟨p,q⟩:=Gn d a S;refine Ok.eq (cz c k S).1<|no_ dA<|no_ gE<|yes_ dH<|Ok.eq p<|Ok.eq q<|Ok.ret ⟨?_,rfl⟩;rcases R.sixs d a with rfl | rfl | rfl | rfl | rfl | rfl <;> rfl
theorem qI (x:Int):∀ s:List Int,s.Pairwise (·<=·)->x∈s->s.findIdx? (λz=>z==x)=some (s.countP λz=>decide (z<x))
 | [],_,h=>by cases h
 | y :: s,hs,h=>by
  have b:=JC.mp hs;rw [List.findIdx?_cons];by_cases q:y=x
  ·grind
  ·have a:=(Ii.mp h).resolve_left λz=>q z.symm;have:=b.1 x a;have e:(y==x)=false:=by simp [q]
   have c:decide (y<x)=true:=Ia (by omega);have d:(y :: s).countP (λz=>decide (z<x))=s.countP (λz=>decide (z<x))+1:=List.countP_cons_of_pos c;rw [e,qI x s b.2 a,d];rfl
theorem vt (x:Int) (l:List Int):(srt l).countP (λz=>decide (z<x))=l.countP λz=>decide (z<x):=(E4 l).countP_eq _
theorem pL (h:ns.length<64) (S:Sto):Q5 (.lst (ns.map D.int)) S=.ok (.lst ((srt ns).map D.int)) S:=by
 unfold Q5;rw [a8 (show N9 (.lst (ns.map D.int)) S=.ok (ns.map D.int) S from rfl),dZ];show (if ns.length<64 then ret (D.lst ((srt ns).map D.int)) else bad) S=_;rw [if_pos h];rfl
theorem sd {ns:List Int} {x:Int} {j:Nat} (a:j<100000) (h:ns.findIdx? (λz=>z==x)=some j) (S:Sto):bo (.lst (ns.map D.int)) [.int x] S=.ok (.int (j:Int)) S:=by
 have e:f9 64 S (.lst (ns.map D.int))=some (.list (ns.map PyData.int)):=by
  show (j4 (f9 63 S) (ns.map D.int)).map PyData.list=_;rw [dY 62 S ns];rfl
 show mD (.lst (ns.map D.int)) (.int x) S=_;unfold mD;rw [show f9 64 S (.int x)=some (.int x) from rfl,e];simp only;have hd:PyData.depth (.int x)=0:=by simp [PyData.depth]
 rw [if_pos ⟨rfl,hI ns,by rw [hd];omega⟩];have f:(ns.map PyData.int).findIdx? (λz=>PyData.eqv z (.int x))=some j:=by
  rw [List.findIdx?_map,<- h];congr 1
 rw [f];simp only;rw [if_pos a];rfl
theorem zT {n:Nat} (h0:0<n):((n:Int) * ((n-1:Nat):Int) / 2)=((tri (n-1):Nat):Int):=by
 obtain ⟨m,rfl⟩:∃ m,n=m+1:=⟨n-1,by omega⟩;rw [show m+1-1=m by omega,Int.mul_comm,<- JH];exact (JR (m * (m+1)) 2).symm
theorem BV {n:Nat} (h6:n<=6) (gl:gs.length=n) {hs:List Hd} (G:Good hs) (hl:hs.length=n) (k:Nat) (S:Sto):Ok (rn (k+6) dW [lmd gs,lvD hs]) S λd S'=>d=.tup ((List.range hs.length).map λi=>nmD gs i (hat hs i))/\Ex S S':=by
 have h:=iU (e:=lmd gs) (st:=lvD hs) (λi=>nmD gs i (hat hs i)) (λS=>ix0 _ _ S) dA (λS=>m3 S rfl) (by rw [Hy];omega) (k+1) (λi here hh S q o6 Q fin=>?_) S
 ·grind
 have hi:i<hs.length:=by have:=(HN.mp hh).1;rwa [Hy] at this
 rw [d3 (u4 hi)] at hh;cases hh;refine Ok.nxt<|Ok.cg (W1 ..)<|no_ gE<|Ok.nxt<|Ok.cg (U9 ..)<|no_ Eo<|Ok.nxt<|Ok.cg (T9 ..)<|yes_ dH<|Ok.eq (ld0 _ S)<|Ok.eq (Fm _ S)<|Ok.eq (i8 _ S) ?_;cases e:hat hs i with
 | out=>rw [e] at fin;exact Ok.neg (by decide)<|fin _
 | look l=>rw [e] at fin;exact Ok.neg HU<|fin _
 | put l=>rw [e] at fin;exact Ok.neg HU<|fin _
 | holds v=>
  rw [e] at fin;obtain ⟨h1,h2,h3⟩:=G.vw (by omega) hi e;have v0:=Jx h3;have cf:=e6 (t:=λ_=>ret true) (f:=λd7=>bind (ixD (.tup [.str "levels",.tup (gs.map D.int)]) (.int 1)) λx10=>bind (ixD x10 d7) λx11=>ret x11) (W2 h1) (λo _=>rfl) (λo hov _=>by
   rw [a8 (show ixD (.tup [.str "levels",.tup (gs.map D.int)]) (.int 1) S=.ok (.tup (gs.map D.int)) S from m3 S rfl)];show (bind (ixD (.tup (gs.map D.int)) (.int (o:Int))) λx7=>ret x7) S=_;rw [a8 (V.g_at (by have:=h2 o hov;omega) S)];rfl)
  rw [Jf.mpr (λ_ _=>rfl),show v.map (λo=>D.int (gs.getD o 0))=(v.map λo=>gs.getD o 0).map D.int by rw [Kc];rfl] at cf;have ln:(v.map λo=>gs.getD o 0).length=v.length:=Hy ..;have ls:(srt (v.map λo=>gs.getD o 0)).length=v.length:=by rw [(E4 _).length_eq,ln]
  have l1:e8 (.lst ((srt (v.map λo=>gs.getD o 0)).map D.int)) S=.ok (.int (v.length:Int)) S:=(xj _ S).trans (by rw [Hy,ls]);have im:gs.getD i 0∈srt (v.map λo=>gs.getD o 0):=(E4 _).mem_iff.mpr (KY.mpr ⟨i,h3,rfl⟩);have ix:=qI (gs.getD i 0) _ (iF (v.map λo=>gs.getD o 0)) im;rw [vt,LG] at ix;have cl:v.countP ((λz=>decide (z<gs.getD i 0)) ∘ λo=>gs.getD o 0)<=6:=Ir IH h1;have ixo:=sd (S:=S) (by omega) ix;refine Ok.pos rfl<|nx_bind<|Ok.eq (m3 S rfl)<|Ok.eq (t5 _ S) ?_;rw [Hy];refine Ok.of cf<|Ok.eq (pL (by rw [ln];omega) S)<|Ok.eq l1<|Ok.eq l1<|Ok.eq (n4 v0 S)<|Ok.eq (K9 (.inl ⟨by omega,by omega⟩) S)<|Ok.eq (D7 (by decide) (by decide) S) ?_;rw [zT v0];exact Ok.eq rfl<|Ok.eq (m3 S rfl)<|Ok.eq (V.g_at (by omega) S)<|Ok.eq ixo<|Ok.eq (i5 _ _ S)<|Ok.eq (i5 _ 1 S)<|fin _
theorem yp {n:Nat} (h1:1<=n) (h6:n<=6) (GS:wR gs n):McTl (mLv gs n):=by
 have gl:=GS.1;refine ⟨λk S=>(cz gl k S).2,λhs V=>⟨.tup ((List.range hs.length).map λi=>nmD gs i (hat hs i)),?_,λk S=>?_,λk S=>BV h6 gl V.1 V.2 k S⟩,λhs V=>⟨(List.range hs.length).countP λi=>!isOut (hat hs i),?_,λk S=>?_,λk S=>?_⟩,kD (pM h1 h6 GS) true (λS=>ix0 _ _ S) (λS=>by kernel_rfl) λk S=>AN gl h6 h1 (k+1) S⟩
 all_goals have V2:=V.2
 all_goals have G:=V.1
 ·refine (Sml.tup (n:=0) (N:=60) (m:=6) (Smls.map λi hi=>?_) (by rw [Hy,Il];omega)).mono (by decide) (by decide);cases e:hat hs i with
  | holds v=>
   obtain ⟨q1,q2,q3⟩:=G.vw (by omega) (Iw.mp hi) e;refine Sml.nat ?_;have:=CU (n:=v.length-1) (by omega);have c:(v.countP λo=>decide (gs.getD o 0<gs.getD i 0))<=v.length:=IH;have tl:∀ m,m<7->Nt.tri m<=21:=by decide
   have:=tl (v.length-1) (by omega);show Lev.tri (v.length-1)+_+1<100;have e:Lev.tri (v.length-1)=Nt.tri (v.length-1):=rfl;omega
  | _=>exact Sml.non
 ·exact ⟨_,_,GC (by omega) (by omega) G k S,rfl,k0 _⟩
 ·have:=IH (p:=λi=>!isOut (hat hs i)) (l:=List.range hs.length);rw [Il] at this;omega
 ·exact ⟨_,_,FG (by omega) G k S,rfl,k0 _⟩
 ·rw [IE];exact gu (λS=>ix0 _ _ S) dA (λS=>by rw [(gw hs).symm];exact m3 S rfl) (by rw [Il];omega) (λi hi S=>FP (G.sm (by omega) (Iw.mp hi)) S) k S
theorem zh {n:Nat} (d:1<=n) (b:n<=6):McLt (mLv gs n):=by
 refine ⟨"levels",_,rfl,λ_ ns p N k S F=>(let_ok (N:=N) (F.less (by omega)) (by omega) b (k+3)).mono ?_,λz=>absurd z (by decide +kernel)⟩;rintro _ S' ⟨a,hs,rfl,c,G⟩;exact ⟨a,hs,⟨G,c⟩,rfl⟩
theorem vD (n:Nat):McLt (dE n):=⟨"decider",_,rfl,λz=>absurd z (by decide +kernel),λz=>absurd z (by decide +kernel)⟩
theorem vA (s n:Nat):McLt (dw s n):=⟨"net",_,rfl,λz=>absurd z (by decide +kernel),λz=>absurd z (by decide +kernel)⟩
theorem pY (F:Fw ns p (N+40) S) (k:Nat):Ok (rn (k+3) qR [.ref p,.int 6]) S λd S'=>Fw ns p N S'/\∃ m,McOk m/\McTl m/\McLt m/\d=m.md:=by
 rw [rn,a7 rfl,wN];refine Ok.bind ((j3 (m:=6) F (by omega) (by omega) (k+1)).mono ?_);rintro _ S1 ⟨a,rfl,q,o,_,_⟩;refine Ok.eq (i5 1 a S1) ?_;generalize t:1+a=n;have f:1<=n:=by omega
 have b:n<=6:=by omega
 refine Ok.bind ((j3 (m:=4) o (by omega) (by omega) (k+1)).mono ?_);rintro _ S2 ⟨w,rfl,s,g,_,_⟩;refine Ok.eq (A4 _ _ S2)<|Ok.eq (i8 _ S2)<|Ok.ite (λ_=>?_) λ_=>?_
 ·exact Ok.ret ⟨g.less (by omega),dE n,iw f b,sN f b,vD n,rfl⟩
 refine Ok.eq (A4 _ _ S2)<|Ok.eq (i8 _ S2)<|Ok.ite (λ_=>?_) λ_=>?_
 ·refine Ok.eq (GA n S2) ?_;have h:1<=min n 5:=by omega
  have j:min n 5<=5:=by omega
  generalize min n 5=c at h j;refine Ok.eq (n4 (a:=6) (by omega) S2)<|Ok.bind ((j3 g (by omega) (by omega) (k+1)).mono ?_);rintro _ l ⟨e,rfl,r,i,_,_⟩;exact Ok.eq (i5 c e l)<|Ok.ret ⟨i.less (by omega),dw (c+e) c,jR h (by omega) (by omega) j,uQ h (by omega) (by omega) j,vA _ _,rfl⟩
 refine Ok.eq (A4 _ _ S2)<|Ok.eq (i8 _ S2)<|Ok.ite (λ_=>?_) λ_=>?_
 ·refine Ok.bind ((kY (N:=N) (g.less (by omega)) b k).mono ?_);rintro _ l ⟨i,gs,rfl,G⟩;exact Ok.ret ⟨i,mLv gs n,pM f b G,yp f b G,zh f b,rfl⟩
 ·exact Ok.ret ⟨g.less (by omega),fw n,jQ f b,uB f b,uG f b,rfl⟩
theorem Af (ns:List Int):∃ S',rn 10 iO [.scr (ns.map D.int)] []=.ok (.bl true) S':=Ap (λF k=>pY F k) ns
end L3.K31
namespace L3.K31
open PySem L2 Hn
abbrev iHE:Stmt:=M3 (top 1) 0
abbrev iNS:Stmt:=M3 (top 2) 0
abbrev iNP:Stmt:=M3 (top 3) 0
abbrev iND:Stmt:=M3 (top 4) 0
abbrev iTM:Stmt:=M3 (top 5) 0
abbrev iNT:Stmt:=M3 (top 6) 0
section
variable {P:Program} {w:World} {K:PySem.W.Frag} {mg:Str->Option Value} {base:Heap} {f fB B:Addr} {fd fdB:FuncData}
theorem HM:FnScope ["self","text"] ["self","text"] (b9 iHE):=⟨rfl,rfl,rfl,by decide +kernel,rfl,by decide +kernel,by decide +kernel⟩
theorem cW (F:Fun K "__init__" "HandError.__init__" iHE f fd) (T:TxE K mg B fB):FnOk P w K mg base CX0 1 f fd ["self","text"] (spHE K):=by
 refine F.ok HM (λvs H Q E h=>?_) (λc A a s H vs Q E e h=>?_)
 ·obtain ⟨x,y,C,d,rfl,_⟩:=h;rfl
 ·obtain ⟨x,y,C,d,rfl,M,b,k⟩:=h;refine ⟨_,M7 (F8 (qY rfl T.mV T.fV (i9 (pv 0) (i9 (pv 1) B0)))),?_⟩;exact ⟨_,rfl,_,rfl,x,C,d,y,rfl,M,b,k⟩
theorem Go:FnScope ["self","hand"] ["self","hand"] (b9 iNS):=⟨rfl,rfl,rfl,by decide +kernel,rfl,by decide +kernel,by decide +kernel⟩
theorem EH (F:Fun K "__init__" "NoStep.__init__" iNS f fd) (T:TxE K mg B fB) (t:Fun K "__init__" "HandError.__init__" iHE fB fdB) (r:Binds K fdB ["self","text"] []):FnOk P w K mg base CX0 2 f fd ["self","hand"] (sp1 K "hand"):=by
 have G:FnOk P w K mg base CX0 1 fB fdB ["self","text"] (spHE K):=cW t T;refine F.ok Go (λvs H Q E h=>?_) (λj A e s H vs Q E g h=>?_)
 ·obtain ⟨x,v,C,l,rfl,_⟩:=h;rfl
 ·obtain ⟨x,v,C,l,rfl,M,o,c,a,k⟩:=h;have n:(A.deeper (PyProof.Rows.envOfC "NoStep.__init__" (b9 iNS) s.heap.objs.size f j)).units+80<cLine:=by have:=g.un;omega
  refine ⟨_,y7 (F8 (L5 rfl T.mB T.sB T.rB T.cB T.kB G g r X9 (i9 (pv 0) (i9 (T5 (C7 (I0 g.gd n (pv 1) (C7 T1))) (by decide)) B0))))
   (M7 (J2 (pv 0) (pv 1) rfl)),?_⟩
  refine ⟨_,rfl,_,rfl,l,a.at_,a.sh,a.l1,a.l2,λz hz=>?_⟩;refine ⟨x,.str z,C,none,rfl,M,c,?_⟩;refine ⟨_,rfl,_,rfl,x,C,rfl,M,o,.inl ⟨c,λd hd=>?_⟩⟩;have m:d≠x:=λq=>by rw [q,c] at hd;cases hd
  exact k _ ⟨d,hd,m,b8,by rw [b6 m,b8],λb p i=>by rw [b6 p,b6 i]⟩
theorem FY:FnScope ["self","word","at"] ["self","word","at"] (b9 iNP):=⟨rfl,rfl,rfl,by decide +kernel,rfl,by decide +kernel,by decide +kernel⟩
theorem Ch (F:Fun K "__init__" "NoPaper.__init__" iNP f fd) (T:TxE K mg B fB) (I:Fun K "__init__" "HandError.__init__" iHE fB fdB) (D:Binds K fdB ["self","text"] []):FnOk P w K mg base CX0 2 f fd ["self","word","at"] (sp2 K "word" "at"):=by
 have G:FnOk P w K mg base CX0 1 fB fdB ["self","text"] (spHE K):=cW I T;refine F.ok FY (λvs H Q E h=>?_) (λm A j s H vs Q E e h=>?_)
 ·obtain ⟨x,v,u,C,o,p,rfl,_⟩:=h;rfl
 ·obtain ⟨x,v,u,C,o,p,rfl,M,r,t,l,g,c,k⟩:=h;have n:(A.deeper (PyProof.Rows.envOfC "NoPaper.__init__" (b9 iNP) s.heap.objs.size f m)).units+80<cLine:=by have:=e.un;omega
  refine ⟨_,y7 (F8 (L5 rfl T.mB T.sB T.rB T.cB T.kB G e D X9 (i9 (pv 0) (i9 (T5 (C7 (I0 e.gd n (pv 1) (C7 (I0 e.gd n (pv 2) T1)))) (by decide)) B0))))
   (y7 (J2 (pv 0) (pv 1) rfl) (M7 (J2 (pv 0) (pv 2) rfl))),?_⟩
  refine ⟨_,rfl,_,rfl,o,g.at_,g.sh,g.l1,g.l2,_,rfl,p,c.at_,c.sh,c.l1,c.l2,λz hz=>?_⟩;refine ⟨x,.str z,C,none,rfl,M,l,?_⟩;refine ⟨_,rfl,_,rfl,x,C,rfl,M,r,.inl ⟨l,λd hd=>?_⟩⟩;have i:d≠x:=λq=>by rw [q,l] at hd;cases hd
  refine ⟨_,rfl,_,rfl,x,C,rfl,M,t,.inr ⟨d,_,i,b8,by rw [b6 i,b8],by show 1<900;decide,?_⟩⟩;refine k _ ⟨d,hd,i,by rw [b6 i.symm,b8],by rw [b8,jV],λb y a=>by rw [b6 a,b6 y,b6 a]⟩
theorem Fc:FnScope ["self","word","at"] ["self","word","at"] (b9 iND):=⟨rfl,rfl,rfl,by decide +kernel,rfl,by decide +kernel,by decide +kernel⟩
theorem DD (F:Fun K "__init__" "NoStand.__init__" iND f fd) (T:TxE K mg B fB) (I:Fun K "__init__" "HandError.__init__" iHE fB fdB) (D:Binds K fdB ["self","text"] []):FnOk P w K mg base CX0 2 f fd ["self","word","at"] (sp2 K "word" "at"):=by
 have G:FnOk P w K mg base CX0 1 fB fdB ["self","text"] (spHE K):=cW I T;refine F.ok Fc (λvs H Q E h=>?_) (λm A j s H vs Q E e h=>?_)
 ·obtain ⟨x,v,u,C,o,p,rfl,_⟩:=h;rfl
 ·obtain ⟨x,v,u,C,o,p,rfl,M,r,t,l,g,c,k⟩:=h;have n:(A.deeper (PyProof.Rows.envOfC "NoStand.__init__" (b9 iND) s.heap.objs.size f m)).units+80<cLine:=by have:=e.un;omega
  refine ⟨_,y7 (F8 (L5 rfl T.mB T.sB T.rB T.cB T.kB G e D X9 (i9 (pv 0) (i9 (T5 (C7 (I0 e.gd n (pv 1) (C7 (I0 e.gd n (pv 2) T1)))) (by decide)) B0))))
   (y7 (J2 (pv 0) (pv 1) rfl) (M7 (J2 (pv 0) (pv 2) rfl))),?_⟩
  refine ⟨_,rfl,_,rfl,o,g.at_,g.sh,g.l1,g.l2,_,rfl,p,c.at_,c.sh,c.l1,c.l2,λz hz=>?_⟩;refine ⟨x,.str z,C,none,rfl,M,l,?_⟩;refine ⟨_,rfl,_,rfl,x,C,rfl,M,r,.inl ⟨l,λd hd=>?_⟩⟩;have i:d≠x:=λq=>by rw [q,l] at hd;cases hd
  refine ⟨_,rfl,_,rfl,x,C,rfl,M,t,.inr ⟨d,_,i,b8,by rw [b6 i,b8],by show 1<900;decide,?_⟩⟩;refine k _ ⟨d,hd,i,by rw [b6 i.symm,b8],by rw [b8,jV],λb y a=>by rw [b6 a,b6 y,b6 a]⟩
theorem Gy:FnScope ["self","word"] ["self","word"] (b9 iTM):=⟨rfl,rfl,rfl,by decide +kernel,rfl,by decide +kernel,by decide +kernel⟩
theorem EA (F:Fun K "__init__" "TooMany.__init__" iTM f fd) (T:TxE K mg B fB) (t:Fun K "__init__" "HandError.__init__" iHE fB fdB) (r:Binds K fdB ["self","text"] []):FnOk P w K mg base CX0 2 f fd ["self","word"] (sp1 K "word"):=by
 have G:FnOk P w K mg base CX0 1 fB fdB ["self","text"] (spHE K):=cW t T;refine F.ok Gy (λvs H Q E h=>?_) (λj A e s H vs Q E g h=>?_)
 ·obtain ⟨x,v,C,l,rfl,_⟩:=h;rfl
 ·obtain ⟨x,v,C,l,rfl,M,o,c,a,k⟩:=h;have n:(A.deeper (PyProof.Rows.envOfC "TooMany.__init__" (b9 iTM) s.heap.objs.size f j)).units+80<cLine:=by have:=g.un;omega
  refine ⟨_,y7 (F8 (L5 rfl T.mB T.sB T.rB T.cB T.kB G g r X9 (i9 (pv 0) (i9 (T5 (C7 (I0 g.gd n (pv 1) T1)) (by decide)) B0))))
   (M7 (J2 (pv 0) (pv 1) rfl)),?_⟩
  refine ⟨_,rfl,_,rfl,l,a.at_,a.sh,a.l1,a.l2,λz hz=>?_⟩;refine ⟨x,.str z,C,none,rfl,M,c,?_⟩;refine ⟨_,rfl,_,rfl,x,C,rfl,M,o,.inl ⟨c,λd hd=>?_⟩⟩;have m:d≠x:=λq=>by rw [q,c] at hd;cases hd
  exact k _ ⟨d,hd,m,b8,by rw [b6 m,b8],λb p i=>by rw [b6 p,b6 i]⟩
theorem Gx:FnScope ["self","type_here"] ["self","type_here"] (b9 iNT):=⟨rfl,rfl,rfl,by decide +kernel,rfl,by decide +kernel,by decide +kernel⟩
theorem Ey (F:Fun K "__init__" "NoType.__init__" iNT f fd) (T:TxE K mg B fB) (t:Fun K "__init__" "HandError.__init__" iHE fB fdB) (r:Binds K fdB ["self","text"] []):FnOk P w K mg base CX0 2 f fd ["self","type_here"] (sp1 K "type_here"):=by
 have G:FnOk P w K mg base CX0 1 fB fdB ["self","text"] (spHE K):=cW t T;refine F.ok Gx (λvs H Q E h=>?_) (λj A e s H vs Q E g h=>?_)
 ·obtain ⟨x,v,C,l,rfl,_⟩:=h;rfl
 ·obtain ⟨x,v,C,l,rfl,M,o,c,a,k⟩:=h;have n:(A.deeper (PyProof.Rows.envOfC "NoType.__init__" (b9 iNT) s.heap.objs.size f j)).units+80<cLine:=by have:=g.un;omega
  refine ⟨_,y7 (F8 (L5 rfl T.mB T.sB T.rB T.cB T.kB G g r X9 (i9 (pv 0) (i9 (T5 (C7 (I0 g.gd n (pv 1) T1)) (by decide)) B0))))
   (M7 (J2 (pv 0) (pv 1) rfl)),?_⟩
  refine ⟨_,rfl,_,rfl,l,a.at_,a.sh,a.l1,a.l2,λz hz=>?_⟩;refine ⟨x,.str z,C,none,rfl,M,c,?_⟩;refine ⟨_,rfl,_,rfl,x,C,rfl,M,o,.inl ⟨c,λd hd=>?_⟩⟩;have m:d≠x:=λq=>by rw [q,c] at hd;cases hd
  exact k _ ⟨d,hd,m,b8,by rw [b6 m,b8],λb p i=>by rw [b6 p,b6 i]⟩
end
end L3.K31
section
namespace L3.K31
open PySem PySem.Spec PyProof.Rows L2 Hn
theorem all_mk {l:PySem.W.OpenLaw} {w:World} {K:PySem.W.Frag} {h:Heap} {mg:Str->Option Value} {fa B fB C1 f1 C2 f2 C3 f3 C4 f4 C5 f5 C6 g0 g1 g2 g3 g4 g5 g6 g7 g8 g9 g10 g11 g12 g13 g14 g15 g16 g17 g18 g19 g20 g21 g22 g23 g24 g25 g26 g27 g28 g29 g30 g31 g32 g33 g34 g35 g36 g37 g38 g39 g40 g41 g42 g43 g44 g45 g46 g47 g48 g49 g50 g51 g52 g53 g54 g55 g56 g57 g58 g59:Addr} (X:K.In h) (G:h.Ns mainGlobals mg) (hfa:mg "law" = some (.ref fa))
  {odHE anHE odNS anNS odNP anNP odND anND odTM anTM odNT anNT:Option Addr} {slHE slNS slNP slND slTM slNT:Array (Option Value)} {ocHE kVHE dcHE pmHE cdHE ctHE ocNS kVNS dcNS pmNS cdNS ctNS ocNP kVNP dcNP pmNP cdNP ctNP ocND kVND dcND pmND cdND ctND ocTM kVTM dcTM pmTM cdTM ctTM ocNT kVNT dcNT pmNT cdNT ctNT:Value} {Zc0:Addr} {tC0_0 tC0_1 tC0_2:Tok} {nC0:Nat} {slC0:Array (Option Value)}
  (aHE:PySem.W.nsIn K mainGlobals "HandError" = some (some (.ref B))) (iHE_:PySem.W.findIn K (.ref B) "__init__" = some (some (.ref fB))) (nHE:PySem.W.isFn K (.ref fB)=true) (lHE:K.lookup fB=some ⟨ocHE,odHE,.func (PySem.W.fnOf "__init__" "HandError.__init__" (k8 (iHE)) (j0 (iHE)) (b9 (iHE)) .none kVHE dcHE pmHE anHE cdHE ctHE),slHE⟩) (cHE:PySem.W.codeIn K cdHE "HandError.__init__" = true) (kHE:PySem.W.keepIn K (.ref fB)=true)
  (aNS:PySem.W.nsIn K mainGlobals "NoStep" = some (some (.ref C1))) (iNS_:PySem.W.findIn K (.ref C1) "__init__" = some (some (.ref f1))) (nNS:PySem.W.isFn K (.ref f1)=true) (lNS:K.lookup f1=some ⟨ocNS,odNS,.func (PySem.W.fnOf "__init__" "NoStep.__init__" (k8 (iNS)) (j0 (iNS)) (b9 (iNS)) .none kVNS dcNS pmNS anNS cdNS ctNS),slNS⟩) (cNS:PySem.W.codeIn K cdNS "NoStep.__init__" = true) (kNS:PySem.W.keepIn K (.ref f1)=true)
  (aNP:PySem.W.nsIn K mainGlobals "NoPaper" = some (some (.ref C2))) (iNP_:PySem.W.findIn K (.ref C2) "__init__" = some (some (.ref f2))) (nNP:PySem.W.isFn K (.ref f2)=true) (lNP:K.lookup f2=some ⟨ocNP,odNP,.func (PySem.W.fnOf "__init__" "NoPaper.__init__" (k8 (iNP)) (j0 (iNP)) (b9 (iNP)) .none kVNP dcNP pmNP anNP cdNP ctNP),slNP⟩) (cNP:PySem.W.codeIn K cdNP "NoPaper.__init__" = true) (kNP:PySem.W.keepIn K (.ref f2)=true)
  (aND:PySem.W.nsIn K mainGlobals "NoStand" = some (some (.ref C3))) (iND_:PySem.W.findIn K (.ref C3) "__init__" = some (some (.ref f3))) (nND:PySem.W.isFn K (.ref f3)=true) (lND:K.lookup f3=some ⟨ocND,odND,.func (PySem.W.fnOf "__init__" "NoStand.__init__" (k8 (iND)) (j0 (iND)) (b9 (iND)) .none kVND dcND pmND anND cdND ctND),slND⟩) (cND:PySem.W.codeIn K cdND "NoStand.__init__" = true) (kND:PySem.W.keepIn K (.ref f3)=true)
  (aTM:PySem.W.nsIn K mainGlobals "TooMany" = some (some (.ref C4))) (iTM_:PySem.W.findIn K (.ref C4) "__init__" = some (some (.ref f4))) (nTM:PySem.W.isFn K (.ref f4)=true) (lTM:K.lookup f4=some ⟨ocTM,odTM,.func (PySem.W.fnOf "__init__" "TooMany.__init__" (k8 (iTM)) (j0 (iTM)) (b9 (iTM)) .none kVTM dcTM pmTM anTM cdTM ctTM),slTM⟩) (cTM:PySem.W.codeIn K cdTM "TooMany.__init__" = true) (kTM:PySem.W.keepIn K (.ref f4)=true)
  (aNT:PySem.W.nsIn K mainGlobals "NoType" = some (some (.ref C5))) (iNT_:PySem.W.findIn K (.ref C5) "__init__" = some (some (.ref f5))) (nNT:PySem.W.isFn K (.ref f5)=true) (lNT:K.lookup f5=some ⟨ocNT,odNT,.func (PySem.W.fnOf "__init__" "NoType.__init__" (k8 (iNT)) (j0 (iNT)) (b9 (iNT)) .none kVNT dcNT pmNT anNT cdNT ctNT),slNT⟩) (cNT:PySem.W.codeIn K cdNT "NoType.__init__" = true) (kNT:PySem.W.keepIn K (.ref f5)=true)
  (aNR:PySem.W.nsIn K mainGlobals "NoRow" = some (some (.ref C6))) (iNR:PySem.W.findIn K (.ref C6) "__init__" = some (some (.ref fB)))
  (fV:PySem.W.findCls K (.type "ValueError") (.type "type") "__init__" = some (.val (.builtin "ValueError.__init__"))) (sB:PySem.W.specialIn K (.ref B) "__getattribute__" = some (some (.builtin "type.__getattribute__"))) (rB:PySem.W.readsIn K B (.type "type")=true) (cB:PySem.W.findCls K (.ref B) (.type "type") "__init__" = some (.val (.ref fB)))
  (rxc:[B,C1,C2,C3,C4,C5,C6].all (xcB K)=true)
  (rjk:Y1 K fB=false)
  (rsub:((List.range [B,C1,C2,C3,C4,C5,C6].length).all λc=>(List.range [B,C1,C2,C3,C4,C5,C6].length).all λc0=>isB (PySem.W.kitOne K (.ref (aL [B,C1,C2,C3,C4,C5,C6] fB c)) (.ref (aL [B,C1,C2,C3,C4,C5,C6] fB c0))) (Γ.sub c c0))=true)
  (rsV:([B,C1,C2,C3,C4,C5,C6].all λC=>isB (PySem.W.kitOne K (.ref C) (.type "ValueError")) true)=true)
  (rsT:([B,C1,C2,C3,C4,C5,C6].all λC=>tys.all λt=>isB (PySem.W.kitOne K (.ref C) (.type t)) false)=true)
  (rfl_:(Γ.flds.all λg=>[B,C1,C2,C3,C4,C5,C6].all λC=>isNo (PySem.W.findIn K (.ref C) g))=true)
  (rbl:(bnames.all λx=>(Γ.gl.lookup x).isSome||isNo (PySem.W.nsIn K mainGlobals x))=true)
  (dg0:GF K "with_at" (top 9) g0)
  (dg1:GF K "triangle" (top 10) g1)
  (dg2:GF K "first_decider" (top 13) g2)
  (dg3:GF K "step_decider" (top 14) g3)
  (dg4:GF K "first_levels" (top 16) g4)
  (dg5:GF K "step_levels" (top 17) g5)
  (dg6:GF K "behind_look" (top 18) g6)
  (dg7:GF K "hands_up_to" (top 19) g7)
  (dg8:GF K "level_names" (top 20) g8)
  (dg9:GF K "level_name" (top 21) g9)
  (dg10:GF K "first_net" (top 23) g10)
  (dg11:GF K "cell_of" (top 24) g11)
  (dg12:GF K "end_of" (top 25) g12)
  (dg13:GF K "number_of" (top 26) g13)
  (dg14:GF K "step_net" (top 27) g14)
  (dg15:GF K "hand_behind" (top 28) g15)
  (dg16:GF K "local_at" (top 29) g16)
  (dg17:GF K "word_at" (top 30) g17)
  (dg18:GF K "net_names" (top 32) g18)
  (dg19:GF K "net_name" (top 33) g19)
  (dg20:GF K "first_row" (top 35) g20)
  (dg21:GF K "step_row" (top 36) g21)
  (dg22:GF K "begun" (top 37) g22)
  (dg23:GF K "working_in_row" (top 38) g23)
  (dg24:GF K "row_names" (top 39) g24)
  (dg25:GF K "hands_of" (top 41) g25)
  (dg26:GF K "first" (top 42) g26)
  (dg27:GF K "moving" (top 43) g27)
  (dg28:GF K "stepped" (top 44) g28)
  (dg29:GF K "stepped_or_none" (top 45) g29)
  (dg30:GF K "names" (top 46) g30)
  (dg31:GF K "at_work" (top 47) g31)
  (dg32:GF K "first_hand" (top 48) g32)
  (dg33:GF K "bound" (top 49) g33)
  (dg34:GF K "_law_well" (top 51) g34)
  (dg35:GF K "_law_draw" (top 52) g35)
  (dg36:GF K "_law_greats" (top 53) g36)
  (dg37:GF K "_law_machine" (top 54) g37)
  (dg38:GF K "_law_with" (top 55) g38)
  (dg39:GF K "_law_decided" (top 56) g39)
  (dg40:GF K "_law_net_step" (top 57) g40)
  (dg41:GF K "_law_seen" (top 58) g41)
  (dg42:GF K "_law_level_step" (top 59) g42)
  (dg43:GF K "_law_row_step" (top 60) g43)
  (dg44:GF K "_law_hands" (top 61) g44)
  (dg45:GF K "_law_first" (top 62) g45)
  (dg46:GF K "_law_step" (top 63) g46)
  (dg47:GF K "_law_names" (top 64) g47)
  (dg48:GF K "_law_work" (top 65) g48)
  (dg49:GF K "_law_refusal" (top 66) g49)
  (dg50:GF K "_law_out" (top 67) g50)
  (dg51:GF K "_law_level_rows" (top 68) g51)
  (dg52:GF K "_law_let_by" (top 69) g52)
  (dg53:GF K "_law_any_row" (top 70) g53)
  (dg54:GF K "_law_beyond" (top 71) g54)
  (dg55:GF K "_law_need" (top 72) g55)
  (dg56:GF K "_law_row_let_by" (top 73) g56)
  (dg57:GF K "_law_stand_right" (top 74) g57)
  (dg58:GF K "_law_bounds_right" (top 75) g58)
  (dg59:GF K "law" (top 76) g59)
  (aC0:PySem.W.nsIn K mainGlobals "ENDED" = some (some (.ref Zc0))) (lC0:K.lookup Zc0=some ⟨.type "tuple",none,.seq #[.str "holds" tC0_0,.str "right" tC0_1,.str "down" tC0_2] nC0,slC0⟩) :
  ∃ fd:FuncData,(∀ (s:Shared) (v:Value),BindsTo s fd ⟨[v],[]⟩ [("_law_script",v)])/\∀ base:Heap,K.In base->base.Ns mainGlobals mg->FnOk l.prog w K mg base CX0 13 fa fd ["_law_script"] (dS K):=by
 have e:=hfa.symm.trans (Jc X G dg59.a);cases e;have RB:RowB K Γ [B,C1,C2,C3,C4,C5,C6] fB:=⟨rxc,rjk,rsub,rsV,rsT,rfl_,rbl⟩;have FHE:=L7 (st:=iHE) lHE cHE kHE;have bHE:=FHE.binds (ps:=["self","text"]) λ_ _ _ _ _ _ us hl=>t3 hl λ_ _=>rfl;have FNS:=L7 (st:=iNS) lNS cNS kNS;have bNS:=FNS.binds (ps:=["self","hand"]) λ_ _ _ _ _ _ us hl=>t3 hl λ_ _=>rfl;have FNP:=L7 (st:=iNP) lNP cNP kNP;have bNP:=FNP.binds (ps:=["self","word","at"]) λ_ _ _ _ _ _ us hl=>Y7 hl λ_ _ _=>rfl;have FND:=L7 (st:=iND) lND cND kND;have bND:=FND.binds (ps:=["self","word","at"]) λ_ _ _ _ _ _ us hl=>Y7 hl λ_ _ _=>rfl;have FTM:=L7 (st:=iTM) lTM cTM kTM;have bTM:=FTM.binds (ps:=["self","word"]) λ_ _ _ _ _ _ us hl=>t3 hl λ_ _=>rfl;have FNT:=L7 (st:=iNT) lNT cNT kNT;have bNT:=FNT.binds (ps:=["self","type_here"]) λ_ _ _ _ _ _ us hl=>t3 hl λ_ _=>rfl;have xHE:XC K B:=P7 ((Ix.mp rxc) B (by simp));have xNS:XC K C1:=P7 ((Ix.mp rxc) C1 (by simp));have xNP:XC K C2:=P7 ((Ix.mp rxc) C2 (by simp));have xND:XC K C3:=P7 ((Ix.mp rxc) C3 (by simp));have xTM:XC K C4:=P7 ((Ix.mp rxc) C4 (by simp));have xNT:XC K C5:=P7 ((Ix.mp rxc) C5 (by simp));have xNR:XC K C6:=P7 ((Ix.mp rxc) C6 (by simp));obtain ⟨_,⟨oc,od,kV,dc,pm,an,cd,ct,sl,rfl,lk,hc⟩,kp⟩:=dg59.f;have FL:=L7 lk hc kp;refine ⟨PySem.W.fnOf "law" "law" (k8 (top 76)) (j0 (top 76)) (b9 (top 76)) .none kV dc pm an cd ct,λs v=>.of_eq rfl,λbase KB GB=>?_⟩
 let T:Tx:=⟨l.prog,w,K,mg,base,aL [B,C1,C2,C3,C4,C5,C6] fB⟩
 have mV:mg "ValueError" = none:=PySem.W.mg_none_of X G (Z5 ((Ix.mp rbl) "ValueError" (by decide)));have TE:TxE K mg B fB:=⟨mV,fV,Jc X G aHE,sB,rB,cB,kHE⟩;have gHE:FnOk l.prog w K mg base CX0 2 fB _ ["self","text"] (spHE K):=(cW FHE TE).mono (by decide);have gNS:FnOk l.prog w K mg base CX0 2 f1 _ _ _:=EH FNS TE FHE bHE;have gNP:FnOk l.prog w K mg base CX0 2 f2 _ _ _:=Ch FNP TE FHE bHE;have gND:FnOk l.prog w K mg base CX0 2 f3 _ _ _:=DD FND TE FHE bHE;have gTM:FnOk l.prog w K mg base CX0 2 f4 _ _ _:=EA FTM TE FHE bHE;have gNT:FnOk l.prog w K mg base CX0 2 f5 _ _ _:=Ey FNT TE FHE bHE;have st:TxSt T Γ:=by
  refine RB.st (T:=T) X G rfl (λx d e=>?_) (λx c fs e=>?_) (λx kvs e=>?_)
  ·have m:=L2.mem_of_lookup e;simp only [Γ,Ii,KJ,or_false,Prod.mk.injEq,L3.G.val.injEq,reduceCtorEq,and_false,false_or] at m;rcases m with ⟨rfl,rfl⟩
   ·exact ⟨_,.ref Zc0,Jc X G aC0,rfl,λμ H=>.tup (xs:=[.str "holds",.str "right",.str "down"]) (.inr ⟨_,_,_,lC0,rfl,rfl,Nat.le_of_ble_eq_true rfl,(.cons ⟨_,rfl⟩ (.cons ⟨_,rfl⟩ (.cons ⟨_,rfl⟩ .nil))),rfl⟩) (.cons (.str _) (.cons (.str _) (.cons (.str _) .nil)))⟩
  ·have m:=L2.mem_of_lookup e;simp only [Γ,Ii,KJ,or_false,Prod.mk.injEq,L3.G.err.injEq,reduceCtorEq,and_false,false_or] at m;rcases m with ⟨rfl,rfl,rfl⟩ | ⟨rfl,rfl,rfl⟩ | ⟨rfl,rfl,rfl⟩ | ⟨rfl,rfl,rfl⟩ | ⟨rfl,rfl,rfl⟩ | ⟨rfl,rfl,rfl⟩ | ⟨rfl,rfl,rfl⟩
   ·exact ⟨by simp,⟨xHE,Jc X G aHE,fB,_,_,iHE_,nHE,bHE,gHE⟩,by simp⟩
   ·exact ⟨by simp,⟨xNS,Jc X G aNS,f1,_,_,iNS_,nNS,bNS,gNS⟩,by simp [Γ]⟩
   ·exact ⟨by simp,⟨xNP,Jc X G aNP,f2,_,_,iNP_,nNP,bNP,gNP⟩,by simp [Γ]⟩
   ·exact ⟨by simp,⟨xND,Jc X G aND,f3,_,_,iND_,nND,bND,gND⟩,by simp [Γ]⟩
   ·exact ⟨by simp,⟨xTM,Jc X G aTM,f4,_,_,iTM_,nTM,bTM,gTM⟩,by simp [Γ]⟩
   ·exact ⟨by simp,⟨xNT,Jc X G aNT,f5,_,_,iNT_,nNT,bNT,gNT⟩,by simp [Γ]⟩
   ·exact ⟨by simp,⟨xNR,Jc X G aNR,fB,_,_,iNR,nHE,bHE,gHE⟩,by simp⟩
  ·have m:=L2.mem_of_lookup e;simp [Γ] at m
 have fs:pJ T Γ Tb:=by
  refine Bu ?_;refine And.intro (fe X G (T:=T) dg0 (by decide +kernel) (λ_ _ _ _ _ _ us hl=>Y7 hl λ_ _ _=>rfl) rfl rfl) ?_;refine And.intro (fe X G (T:=T) dg1 (by decide +kernel) (λ_ _ _ _ _ _ us hl=>G8 hl λ_=>rfl) rfl rfl) ?_;refine And.intro (fe X G (T:=T) dg2 (by decide +kernel) (λ_ _ _ _ _ _ us hl=>G8 hl λ_=>rfl) rfl rfl) ?_;refine And.intro (fe X G (T:=T) dg3 (by decide +kernel) (λ_ _ _ _ _ _ us hl=>t3 hl λ_ _=>rfl) rfl rfl) ?_;refine And.intro (fe X G (T:=T) dg4 (by decide +kernel) (λ_ _ _ _ _ _ us hl=>G8 hl λ_=>rfl) rfl rfl) ?_;refine And.intro (fe X G (T:=T) dg5 (by decide +kernel) (λ_ _ _ _ _ _ us hl=>t3 hl λ_ _=>rfl) rfl rfl) ?_;refine And.intro (fe X G (T:=T) dg6 (by decide +kernel) (λ_ _ _ _ _ _ us hl=>t3 hl λ_ _=>rfl) rfl rfl) ?_;refine And.intro (fe X G (T:=T) dg7 (by decide +kernel) (λ_ _ _ _ _ _ us hl=>t3 hl λ_ _=>rfl) rfl rfl) ?_;refine And.intro (fe X G (T:=T) dg8 (by decide +kernel) (λ_ _ _ _ _ _ us hl=>t3 hl λ_ _=>rfl) rfl rfl) ?_;refine And.intro (fe X G (T:=T) dg9 (by decide +kernel) (λ_ _ _ _ _ _ us hl=>Y7 hl λ_ _ _=>rfl) rfl rfl) ?_;refine And.intro (fe X G (T:=T) dg10 (by decide +kernel) (λ_ _ _ _ _ _ us hl=>t3 hl λ_ _=>rfl) rfl rfl) ?_;refine And.intro (fe X G (T:=T) dg11 (by decide +kernel) (λ_ _ _ _ _ _ us hl=>G8 hl λ_=>rfl) rfl rfl) ?_;refine And.intro (fe X G (T:=T) dg12 (by decide +kernel) (λ_ _ _ _ _ _ us hl=>G8 hl λ_=>rfl) rfl rfl) ?_;refine And.intro (fe X G (T:=T) dg13 (by decide +kernel) (λ_ _ _ _ _ _ us hl=>G8 hl λ_=>rfl) rfl rfl) ?_;refine And.intro (fe X G (T:=T) dg14 (by decide +kernel) (λ_ _ _ _ _ _ us hl=>Y7 hl λ_ _ _=>rfl) rfl rfl) ?_;refine And.intro (fe X G (T:=T) dg15 (by decide +kernel) (λ_ _ _ _ _ _ us hl=>t3 hl λ_ _=>rfl) rfl rfl) ?_;refine And.intro (fe X G (T:=T) dg16 (by decide +kernel) (λ_ _ _ _ _ _ us hl=>Y7 hl λ_ _ _=>rfl) rfl rfl) ?_;refine And.intro (fe X G (T:=T) dg17 (by decide +kernel) (λ_ _ _ _ _ _ us hl=>t3 hl λ_ _=>rfl) rfl rfl) ?_;refine And.intro (fe X G (T:=T) dg18 (by decide +kernel) (λ_ _ _ _ _ _ us hl=>t3 hl λ_ _=>rfl) rfl rfl) ?_;refine And.intro (fe X G (T:=T) dg19 (by decide +kernel) (λ_ _ _ _ _ _ us hl=>G8 hl λ_=>rfl) rfl rfl) ?_;refine And.intro (fe X G (T:=T) dg20 (by decide +kernel) (λ_ _ _ _ _ _ us hl=>G8 hl λ_=>rfl) rfl rfl) ?_;refine And.intro (fe X G (T:=T) dg21 (by decide +kernel) (λ_ _ _ _ _ _ us hl=>t3 hl λ_ _=>rfl) rfl rfl) ?_;refine And.intro (fe X G (T:=T) dg22 (by decide +kernel) (λ_ _ _ _ _ _ us hl=>t3 hl λ_ _=>rfl) rfl rfl) ?_;refine And.intro (fe X G (T:=T) dg23 (by decide +kernel) (λ_ _ _ _ _ _ us hl=>G8 hl λ_=>rfl) rfl rfl) ?_;refine And.intro (fe X G (T:=T) dg24 (by decide +kernel) (λ_ _ _ _ _ _ us hl=>G8 hl λ_=>rfl) rfl rfl) ?_;refine And.intro (fe X G (T:=T) dg25 (by decide +kernel) (λ_ _ _ _ _ _ us hl=>G8 hl λ_=>rfl) rfl rfl) ?_;refine And.intro (fe X G (T:=T) dg26 (by decide +kernel) (λ_ _ _ _ _ _ us hl=>G8 hl λ_=>rfl) rfl rfl) ?_;refine And.intro (fe X G (T:=T) dg27 (m:=["return"]) (by decide +kernel) (λ_ _ _ _ _ _ us hl=>t3 hl λ_ _=>rfl) rfl rfl) ?_;refine And.intro (fe X G (T:=T) dg28 (by decide +kernel) (λ_ _ _ _ _ _ us hl=>Y7 hl λ_ _ _=>rfl) rfl rfl) ?_;refine And.intro (fe X G (T:=T) dg29 (by decide +kernel) (λ_ _ _ _ _ _ us hl=>Y7 hl λ_ _ _=>rfl) rfl rfl) ?_;refine And.intro (fe X G (T:=T) dg30 (by decide +kernel) (λ_ _ _ _ _ _ us hl=>t3 hl λ_ _=>rfl) rfl rfl) ?_;refine And.intro (fe X G (T:=T) dg31 (m:=["count"]) (by decide +kernel) (λ_ _ _ _ _ _ us hl=>t3 hl λ_ _=>rfl) rfl rfl) ?_;refine And.intro (fe X G (T:=T) dg32 (by decide +kernel) (λ_ _ _ _ _ _ us hl=>G8 hl λ_=>rfl) rfl rfl) ?_;refine And.intro (fe X G (T:=T) dg33 (by decide +kernel) (λ_ _ _ _ _ _ us hl=>t3 hl λ_ _=>rfl) rfl rfl) ?_;refine And.intro (fe X G (T:=T) dg34 (by decide +kernel) (λ_ _ _ _ _ _ us hl=>t3 hl λ_ _=>rfl) rfl rfl) ?_;refine And.intro (fe X G (T:=T) dg35 (by decide +kernel) (λ_ _ _ _ _ _ us hl=>t3 hl λ_ _=>rfl) rfl rfl) ?_;refine And.intro (fe X G (T:=T) dg36 (m:=["_law_found"]) (by decide +kernel) (λ_ _ _ _ _ _ us hl=>t3 hl λ_ _=>rfl) rfl rfl) ?_;refine And.intro (fe X G (T:=T) dg37 (by decide +kernel) (λ_ _ _ _ _ _ us hl=>t3 hl λ_ _=>rfl) rfl rfl) ?_;refine And.intro (fe X G (T:=T) dg38 (by decide +kernel) (λ_ _ _ _ _ _ us hl=>Y7 hl λ_ _ _=>rfl) rfl rfl) ?_;refine And.intro (fe X G (T:=T) dg39 (m:=["in{}"]) (by decide +kernel) (λ_ _ _ _ _ _ us hl=>Gi hl λ_ _ _ _=>rfl) rfl rfl) ?_;refine And.intro (fe X G (T:=T) dg40 (by decide +kernel) (λ_ _ _ _ _ _ us hl=>Y7 hl λ_ _ _=>rfl) rfl rfl) ?_;refine And.intro (fe X G (T:=T) dg41 (by decide +kernel) (λ_ _ _ _ _ _ us hl=>t3 hl λ_ _=>rfl) rfl rfl) ?_;refine And.intro (fe X G (T:=T) dg42 (by decide +kernel) (λ_ _ _ _ _ _ us hl=>t3 hl λ_ _=>rfl) rfl rfl) ?_;refine And.intro (fe X G (T:=T) dg43 (by decide +kernel) (λ_ _ _ _ _ _ us hl=>t3 hl λ_ _=>rfl) rfl rfl) ?_;refine And.intro (fe X G (T:=T) dg44 (by decide +kernel) (λ_ _ _ _ _ _ us hl=>G8 hl λ_=>rfl) rfl rfl) ?_;refine And.intro (fe X G (T:=T) dg45 (by decide +kernel) (λ_ _ _ _ _ _ us hl=>G8 hl λ_=>rfl) rfl rfl) ?_;refine And.intro (fe X G (T:=T) dg46 (by decide +kernel) (λ_ _ _ _ _ _ us hl=>Y7 hl λ_ _ _=>rfl) rfl rfl) ?_;refine And.intro (fe X G (T:=T) dg47 (m:=["_law_found"]) (by decide +kernel) (λ_ _ _ _ _ _ us hl=>t3 hl λ_ _=>rfl) rfl rfl) ?_;refine And.intro (fe X G (T:=T) dg48 (by decide +kernel) (λ_ _ _ _ _ _ us hl=>t3 hl λ_ _=>rfl) rfl rfl) ?_;refine And.intro (fe X G (T:=T) dg49 (m:=["~","_law_found"]) (by decide +kernel) (λ_ _ _ _ _ _ us hl=>G8 hl λ_=>rfl) rfl rfl) ?_;refine And.intro (fe X G (T:=T) dg50 (by decide +kernel) (λ_ _ _ _ _ _ us hl=>Y7 hl λ_ _ _=>rfl) rfl rfl) ?_;refine And.intro (fe X G (T:=T) dg51 (m:=["_law_rows","_law_inside"]) (by decide +kernel) (λ_ _ _ _ _ _ us hl=>t3 hl λ_ _=>rfl) rfl rfl) ?_;refine And.intro (fe X G (T:=T) dg52 (m:=["_law_hands_here"]) (by decide +kernel) (λ_ _ _ _ _ _ us hl=>t3 hl λ_ _=>rfl) rfl rfl) ?_;refine And.intro (fe X G (T:=T) dg53 (m:=["_law_boxes","_law_hands_here"]) (by decide +kernel) (λ_ _ _ _ _ _ us hl=>t3 hl λ_ _=>rfl) rfl rfl) ?_;refine And.intro (fe X G (T:=T) dg54 (by decide +kernel) (λ_ _ _ _ _ _ us hl=>t3 hl λ_ _=>rfl) rfl rfl) ?_;refine And.intro (fe X G (T:=T) dg55 (by decide +kernel) (λ_ _ _ _ _ _ us hl=>G8 hl λ_=>rfl) rfl rfl) ?_;refine And.intro (fe X G (T:=T) dg56 (by decide +kernel) (λ_ _ _ _ _ _ us hl=>t3 hl λ_ _=>rfl) rfl rfl) ?_;refine And.intro (fe X G (T:=T) dg57 (m:=["_law_told"]) (by decide +kernel) (λ_ _ _ _ _ _ us hl=>t3 hl λ_ _=>rfl) rfl rfl) ?_;refine And.intro (fe X G (T:=T) dg58 (by decide +kernel) (λ_ _ _ _ _ _ us hl=>G8 hl λ_=>rfl) rfl rfl) ?_;refine And.intro (fe X G (T:=T) dg59 (by decide +kernel) (λ_ _ _ _ _ _ us hl=>G8 hl λ_=>rfl) rfl rfl) ?_
  trivial
 have ok:=wH (Rs:=Rs) (T:=T) (k:=9) (i:=59) (fd:=f6 (top 76) []) (vd st fs 9) rfl FL rfl rfl (aR (by decide +kernel));exact FnOk.imp ok (kc Af)
theorem walk {l:PySem.W.OpenLaw} {q:Program} {loose:List Str} {XP:(Str->Option Value)->Heap->Prop} {YP:World->Heap->Prop} {d:DefRec} {K:Params->PySem.W.Frag} (hn:l.most=some 63) (hdf:d.params.defaults=[])
  (hY:∀ (w:World) (h:Heap),YP w h->(K w.params).In h)
  (F:∀ (w:World) (mg:Str->Option Value) (fa:Addr) (h:Heap),(K w.params).In h->h.Ns mainGlobals mg->mg d.name=some (.ref fa) ->
   ∃ fd:FuncData,(∀ (s:Shared) (u:Value),BindsTo s fd ⟨[u],[]⟩ [("_law_script",u)])/\∀ base:Heap,(K w.params).In base->base.Ns mainGlobals mg->FnOk l.prog w (K w.params) mg base CX0 13 fa fd ["_law_script"] (dS (K w.params))) :
  PySem.W.WalkO q loose XP YP l.row.toRowW d [] (λf vs=>PySem.call f vs):=
 L2.walk_of (n:=63) (k:=13) (x:="_law_script") (CX:=λ_=>CX0) (sp:=λw=>dS (K w.params)) hn (by decide) hdf ⟨λ_=>rfl,by decide,by decide,rfl⟩ hY F (λ_ _ a ns hl _ hS=>⟨a,ns,rfl,hS,λ_=>rfl⟩) λ_ _ _ _ _ z=>z
end L3.K31
open PySem PySem.W PyProof.Rows
set_option maxRecDepth 100000 in
set_option maxHeartbeats 0 in
theorem PySem.Challenge.cw_handnames_k31_what_machines_tell_holds : PySem.Challenge.rw_handnames_k31_what_machines_tell.Holds := by
 w_on;o_law;k_head;(case hw=>w_witness2)
 k_fill
 refine L3.K31.walk (l:=PySem.Challenge.rw_handnames_k31_what_machines_tell) rfl rfl (λw h Y=>PySem.W.kIn_of Y) ?F
 case F=>
  intro w mg fa h KX G hmg;refine' L3.K31.all_mk KX G hmg ?_ ?_ ?_ ?_ ?_ ?_ ?_ ?_ ?_ ?_ ?_ ?_ ?_ ?_ ?_ ?_ ?_ ?_ ?_ ?_ ?_ ?_ ?_ ?_ ?_ ?_ ?_ ?_ ?_ ?_ ?_ ?_ ?_ ?_ ?_ ?_ ?_ ?_ ?_ ?_ ?_ ?_ ?_ ?_ ?_ ?_ ?_ ?_ ?_ ?_ ?_ ?_ ?_ ?_ ?_ ?_ ?_ ?_ ?_ ?_ ?_ ?_ ?_ ?_ ?_ ?_ ?_ ?_ ?_ ?_ ?_ ?_ ?_ ?_ ?_ ?_ ?_ ?_ ?_ ?_ ?_ ?_ ?_ ?_ ?_ ?_ ?_ ?_ ?_ ?_ ?_ ?_ ?_ ?_ ?_ ?_ ?_ ?_ ?_ ?_ ?_ ?_ ?_ ?_ ?_ ?_ ?_ ?_ ?_ ?_ ?_
  rotate_left 133
  iterate 42 k_is
  iterate 7 kernel_rfl
  iterate 60 (refine' L3.gf_mk ?a ?l ?c ?k;(case a=>k_is);(case l=>k_is);(case c=>k_is);(case k=>k_is))
  iterate 2 k_is
end
